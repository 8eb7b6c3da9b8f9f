/- What a call to the disk makes of a file and of what is kept of it. Conditions: the disk's blocks lie from block B on, few calls, short texts. -/
import Derived.Test.YtahaienalidiiaaDoorDiskAny
import Derived.Test.YtahaienalidiiaaDoorDiskHist
namespace Go.Proofs.YtahaienalidiiaaDoor
open Go.RowKit Go.Maps

/-- What is kept of a file: whatever a fall leaves was at some moment since it was synced. -/
def KeepV (M : Nat) (o : Option Value) (now : Cnt) (S : List ByteArray) : Prop := now.1 ∈ S ∧ ∀ v, o = some v → ∃ x cs, IsH v x cs ∧ ShortH M x cs ∧ (x.2 = false → x.1 = ⟨#[]⟩) ∧ Keep x cs now S
theorem Keep.mono {x : Cnt} {cs : List Chg} {now : Cnt} {S S' : List ByteArray} (h : Keep x cs now S) (hs : ∀ y ∈ S, y ∈ S') : Keep x cs now S' := ⟨fun a b => hs _ (h.stand a b), h.all⟩
theorem KeepV.mono {M : Nat} {o : Option Value} {now : Cnt} {S S' : List ByteArray} (h : KeepV M o now S) (hs : ∀ y ∈ S, y ∈ S') : KeepV M o now S' := ⟨hs _ h.1, fun v hv => by
  obtain ⟨x, cs, h1, h2, h3, h4⟩ := h.2 v hv
  exact ⟨x, cs, h1, h2, h3, h4.mono hs⟩⟩
theorem KeepV.none_ {M : Nat} {now : Cnt} {S : List ByteArray} (h : now.1 ∈ S) : KeepV M none now S := ⟨h, fun _ hv => by cases hv⟩
theorem note_keep {M : Nat} {C : ByteArray → Option Value} {key : ByteArray} {s : ByteArray} {b : Bool} {S S' : List ByteArray} (hK : KeepV M (C key) (s, b) S) (hx : b = false → s = ⟨#[]⟩) (hs : s.size ≤ M) (k : Int) (t : ByteArray) (ht : t.size ≤ M)
    (hsub : ∀ y ∈ S, y ∈ S') (hnow : (onP (s, b) (k, t)).1 ∈ S') (hpart : k = 1 → ∀ n, 1 ≤ n → n < t.size → s ++ t.extract 0 n ∈ S')
    (B sb fb cb nf nc : Nat) (F : ByteArray → Option Value) (ops armed : Int) (down : Bool) (hk : key.size ≤ maxLen) (hn : nc < 1000000) :
    ∃ v, KeepV M (some v) (onP (s, b) (k, t)) S' ∧ ∀ W, DiskAt W B sb fb cb nf nc F C ops armed down → Calls Tryd.prog 36 #[.pointer (some ⟨sb, 0, none⟩), .string key, cont s b, chg k t] W fun e w' => e = .returned (.tuple #[]) ∧ DiskAt w' B sb fb cb nf (nc + 1) F (putF C key v) ops armed down ∧ Tri sb fb cb W w' := by
  cases hC : C key with
  | none =>
    have hstep : Keep (s, b) (addC [] (k, t)) (onP (s, b) (k, t)) S' := (Keep.new (now := (s, b)) hK.1).step (k, t) hsub hnow hpart
    have hsh : ShortH M (s, b) (addC [] (k, t)) := ShortH.add (cs := []) ⟨hs, fun c hc => by cases hc⟩ (k, t) ht
    refine ⟨hV s b k t 0 ⟨#[]⟩ 0 ⟨#[]⟩ 0 ⟨#[]⟩ 1, ⟨hnow, fun v hv => ?_⟩, fun W h => note_new h key hk hC s b k t hn⟩
    cases hv
    exact ⟨(s, b), [(k, t)], isH_new s b k t, hsh, hx, hstep⟩
  | some v =>
    obtain ⟨x, cs, hI, hsh, hxx, hkp⟩ := hK.2 v hC
    obtain ⟨k0, t0, k1, t1, k2, t2, k3, t3, rfl, hl, hce⟩ := hI
    refine ⟨withF x.1 x.2 k0 t0 k1 t1 k2 t2 k3 t3 cs.length k t, ⟨hnow, fun v hv => ?_⟩, fun W h => note_more h key hk x.1 x.2 k0 t0 k1 t1 k2 t2 k3 t3 cs.length hl hC s b k t hn⟩
    cases hv
    exact ⟨x, addC cs (k, t), isH_with k0 t0 k1 t1 k2 t2 k3 t3 hl hce k t, hsh.add (k, t) ht, hxx, hkp.step (k, t) hsub hnow hpart⟩
section
variable {W W' : World} {B sb fb cb nf nc : Nat} {F C : ByteArray → Option Value} {ops armed : Int} {down : Bool}
theorem set_keep (h : DiskAt W B sb fb cb nf nc F C ops 0 false) (hBW : 3 < B) (ho : 0 ≤ ops) (ho2 : ops < 1000000) (hnf : nf < 2000) (hnc : nc < 1000000)
    (key : ByteArray) (hk : key.size ≤ 1000) (hv : Pth.splitOK Pth.partOK key.data.toList = true) (m : Int) (hm : W.cell? ⟨3, 0, none⟩ = some (.int .i64 m))
    (s : ByteArray) (b : Bool) (hF : F key = optF b s) (hx : b = false → s = ⟨#[]⟩) (k : Int) (t s' : ByteArray) (hon : onF k t s = cont s' true) (hl : s.size + t.size < 1000000000) (hs' : s'.size ≤ 65536)
    {M : Nat} {S S' : List ByteArray} (hK : KeepV M (C key) (s, b) S) (hs : s.size ≤ M) (ht : t.size ≤ M) (hsub : ∀ y ∈ S, y ∈ S') (hnow : s' ∈ S') (hpart : k = 1 → ∀ n, 1 ≤ n → n < t.size → s ++ t.extract 0 n ∈ S') :
    ∃ v, KeepV M (some v) (s', true) S' ∧ Calls Tryd.prog 25 #[.pointer (some ⟨sb, 0, none⟩), .string key, chg k t] W fun e w' => e = .returned .nilIface ∧ DiskAt w' B sb fb cb (nf + 1) (nc + 1) (putF F key (cont s' true)) (putF C key v) (ops + 1) 0 false ∧ Tri sb fb cb W w' := by
  have e1 : onP (s, b) (k, t) = (s', true) := by
    have h1 := onF_onP k t s b
    rw [hon] at h1
    unfold cont at h1
    simp only [Value.agg.injEq, Array.mk.injEq, List.cons.injEq, Value.string.injEq, Value.bool.injEq, and_true] at h1
    exact Prod.ext h1.1.symm h1.2.symm
  obtain ⟨v, hv1, hv2⟩ := note_keep hK hx hs k t ht hsub (by rw [e1]; exact hnow) hpart B sb fb cb nf nc F (ops + 1) (armed' 0) false (by unfold maxLen; omega) hnc
  rw [e1] at hv1
  exact ⟨v, hv1, do_core _ _ h hBW ho ho2 (by decide) (by decide) (by decide) hnf key hk hv m hm s b (by rw [hF]; exact optF_getD b s hx) k t s' hon hl hs' hv2⟩
theorem drop_keep (h : DiskAt W B sb fb cb nf nc F C ops 0 false) (hBW : 3 < B) (ho : 0 ≤ ops) (ho2 : ops < 1000000) (hnc : nc < 1000000)
    (key : ByteArray) (hk : key.size ≤ 1000) (hv : Pth.splitOK Pth.partOK key.data.toList = true) (m : Int) (hm : W.cell? ⟨3, 0, none⟩ = some (.int .i64 m))
    (s : ByteArray) (b : Bool) (hF : F key = optF b s) (hx : b = false → s = ⟨#[]⟩) (hl : s.size < 1000000000)
    {M : Nat} {S S' : List ByteArray} (hK : KeepV M (C key) (s, b) S) (hs : s.size ≤ M) (hsub : ∀ y ∈ S, y ∈ S') (hnow : (⟨#[]⟩ : ByteArray) ∈ S') :
    ∃ C', (∀ k, k ≠ key → C' k = C k) ∧ KeepV M (C' key) (⟨#[]⟩, false) S' ∧ Calls Tryd.prog 25 #[.pointer (some ⟨sb, 0, none⟩), .string key, chg 2 ⟨#[]⟩] W fun e w' => e = .returned .nilIface ∧ DiskAt w' B sb fb cb nf (nc + 1) (delF F key) C' (ops + 1) 0 false ∧ Tri sb fb cb W w' := by
  cases b with
  | true =>
    have e1 : onP (s, true) (2, ⟨#[]⟩) = (⟨#[]⟩, false) := by unfold onP; simp
    obtain ⟨v, hv1, hv2⟩ := note_keep hK hx hs 2 ⟨#[]⟩ (Nat.zero_le _) hsub (by rw [e1]; exact hnow) (fun h => absurd h (by decide)) B sb fb cb nf nc F (ops + 1) (armed' 0) false (by unfold maxLen; omega) hnc
    rw [e1] at hv1
    exact ⟨_, fun k hk => putF_other _ _ hk, by rw [putF_same]; exact hv1, drop_core _ _ h hBW ho ho2 (by decide) (by decide) (by decide) key hk hv m hm s hl (by rw [hF]; rfl) hv2⟩
  | false =>
    have hF' : F key = none := hF
    obtain rfl := hx rfl
    refine ⟨C, fun _ _ => rfl, hK.mono hsub, (drop_none h hBW ho ho2 (by decide) (by decide) (by decide) key hk hv m hm (by rw [hF']; rfl)).mono ?_⟩
    rintro e w' ⟨he, hD, hT⟩
    refine ⟨he, ?_, hT⟩
    rw [del_none F key hF']
    exact ⟨hD.row, hD.files, hD.changed.mono (by omega), hD.apart, hD.high⟩
end
end Go.Proofs.YtahaienalidiiaaDoor
