/- What Rise makes of a disk that is down, whatever its changes. Conditions: the disk's blocks lie from block B on; few names, short texts. -/
import Derived.Test.YtahaienalidiiaaDoorDiskSort
import Derived.Test.YtahaienalidiiaaDoorDiskRise
import Derived.Test.YtahaienalidiiaaDoorDiskAny
import Derived.Test.YtahaienalidiiaaDoorDiskLeftG
namespace Go.Proofs.YtahaienalidiiaaDoor
open Go.RowKit Go.Maps Go.Sort Go.MapKept Go.ChangeMaps

def setF (F : ByteArray → Option Value) (key : ByteArray) (b : Bool) (s : ByteArray) : ByteArray → Option Value := fun k => if k = key then optF b s else F k
theorem setF_put (F : ByteArray → Option Value) (key s : ByteArray) : putF F key (cont s true) = setF F key true s := rfl
theorem setF_del (F : ByteArray → Option Value) (key s : ByteArray) : delF F key = setF F key false s := rfl
/-- What stands for a name behind the fall. -/
def Fine (Good : ByteArray → ByteArray → Prop) (key : ByteArray) (o : Option Value) : Prop := ∃ s b, o = optF b s ∧ (b = false → s = ⟨#[]⟩) ∧ Good key s
section
variable {W W' : World} {B sb fb cb nf nc : Nat} {F C : ByteArray → Option Value} {ops armed : Int} {down : Bool}
theorem put_any (h : DiskAt W B sb fb cb nf nc F C ops armed down) (key : ByteArray) (hk : key.size ≤ maxLen) (s : ByteArray) (b : Bool) (hn : nf < 1000000) :
    Calls Tryd.prog 24 #[.pointer (some ⟨sb, 0, none⟩), .string key, cont s b] W fun e w' => e = .returned (.tuple #[]) ∧ DiskAt w' B sb fb cb (nf + 1) nc (setF F key b s) C ops armed down ∧ Tri sb fb cb W w' := by
  cases b with
  | true => exact put_there h key hk s hn
  | false =>
    refine (put_gone h key hk s).mono ?_
    rintro e w' ⟨he, hD, hT⟩
    exact ⟨he, ⟨hD.row, hD.files.mono (by omega), hD.changed, hD.apart, hD.high⟩, hT⟩
def ba (x : List UInt8) : ByteArray := ⟨x.toArray⟩
/-- What the first names' rounds have made. -/
def Mid (Good : ByteArray → ByteArray → Prop) (F F' : ByteArray → Option Value) (L : List (List UInt8)) : Prop := ∀ key, (key ∉ L.map ba → F' key = F key) ∧ (key ∈ L.map ba → Fine Good key (F' key))
theorem Mid.step {Good : ByteArray → ByteArray → Prop} {F F' : ByteArray → Option Value} {L : List (List UInt8)} (h : Mid Good F F' L) (x : List UInt8) (s : ByteArray) (b : Bool) (hb : b = false → s = ⟨#[]⟩) (hg : Good (ba x) s) : Mid Good F (setF F' (ba x) b s) (L ++ [x]) := fun key => by
  rw [List.map_append, List.mem_append]
  by_cases e : key = ba x
  · subst e
    exact ⟨fun hn => absurd (.inr (by simp)) hn, fun _ => ⟨s, b, by unfold setF; rw [if_pos rfl], hb, hg⟩⟩
  · have e2 : setF F' (ba x) b s key = F' key := if_neg e
    rw [e2]
    refine ⟨fun hn => (h key).1 fun hh => hn (.inl hh), fun hh => (h key).2 ?_⟩
    rcases hh with hh | hh
    · exact hh
    · exact absurd (by simpa using hh) e
/-- What comes out of a Rise. -/
def Risen (Good : ByteArray → ByteArray → Prop) (W : World) (B sb fb cb nf : Nat) (F C : ByteArray → Option Value) (ops : Int) (w' : World) : Prop :=
  ∃ F', (∀ key, (C key = none → F' key = F key) ∧ (C key ≠ none → Fine Good key (F' key))) ∧ DiskAt w' B sb fb cb nf 0 F' (fun _ => none) ops 0 false ∧ Tri sb fb cb W w'
theorem row_at {W2 : World} {base : Nat} {v : Value} {L : List (List UInt8)} {n : Nat} (h : W2.ownsRow base 9 1 v n (L.map encStr)) (hn : n = L.length) :
    ∃ ao cap, v = .slice ao n cap ∧ ∀ j x, L[j]? = some x → ∃ g, ao = some ⟨g, 0, none⟩ ∧ base ≤ g ∧ g < W2.heap.size ∧ W2.cell? ⟨g, j, none⟩ = some (.string (ba x)) := by
  rcases h.2 with ⟨rfl, h0⟩ | ⟨g, cap, cur, rfl, hB, hg, hc, _, hs, ht⟩
  · refine ⟨none, 0, by rw [h0], fun j x hx => ?_⟩
    rw [h0] at hn
    have := List.eq_nil_of_length_eq_zero hn.symm
    subst this
    simp at hx
  · refine ⟨_, cap, rfl, fun j x hx => ⟨g, rfl, hB, (Array.getElem?_eq_some_iff.1 hg).1, ?_⟩⟩
    rw [cell_of_row W2 g j _ _ _ hg]
    have h1 : (L.map encStr)[j]? = some (.string (ba x)) := by rw [List.getElem?_map, hx]; rfl
    rw [← ht, List.getElem?_take] at h1
    split at h1
    · simpa using h1
    · cases h1
set_option maxRecDepth 100000 in
set_option maxHeartbeats 3200000 in
theorem rise_any (h : DiskAt W B sb fb cb nf nc F C ops armed true) (K : List (List UInt8)) (hnd : K.Nodup) (hm : ∀ x, x ∈ K ↔ (C ⟨x.toArray⟩).isSome = true) (hKs : ∀ x ∈ K, x.length ≤ 1000) (hKl : K.length ≤ 1000) (hnc : nc ≤ 1000000) (hnf : nf < 1000)
    (M : Nat) (hM : M ≤ 10000) (Good : ByteArray → ByteArray → Prop) (keep cut : Int) (hk1 : -9223372036854775808 ≤ keep) (hk2 : keep < 9223372036854775808) (hc1 : -9223372036854775808 ≤ cut) (hc2 : cut < 9223372036854775808)
    (hG : ∀ key v, C key = some v → ∃ x cs, IsH v x cs ∧ ShortH M x cs ∧ (x.2 = false → x.1 = ⟨#[]⟩) ∧ ∀ stand, Good key (leftP x cs stand cut).1) :
    Calls Tryd.prog 14 #[.pointer (some ⟨sb, 0, none⟩), .int .i64 keep, .int .i64 cut] W fun e w' => e = .returned (.tuple #[]) ∧ Risen Good W B sb fb cb (nf + K.length) F C ops w' := by
  obtain ⟨c0, c1, c2, c3, c4⟩ := h.cells
  have hlt := h.lt
  have HK := hid' (keys_call cb W)
  have HS := hid' (sorted_call h.changed hnc K hnd hm)
  have HD := hid' h
  have HG := hid' hG
  have HM := hid' hm
  have HCUT := hid' (And.intro hc1 hc2)
  have hkl : (K.mergeSort leB).length = K.length := List.length_mergeSort K
  have hkm : ∀ x, x ∈ K.mergeSort leB ↔ x ∈ K := fun x => List.mem_mergeSort
  generalize K.mergeSort leB = KS at HS hkl hkm
  have HKL := hid' hkl.symm
  have HKM := hid' hkm
  have HKS := hid' hKs
  obtain ⟨n, hn⟩ : ∃ n, K.length = n := ⟨_, rfl⟩
  rw [hn] at HS HKL hKl ⊢
  clear h hG hm hnd hc1 hc2 hkl hkm hn hKs
  unfold kh at HK HS
  obtain ⟨q0, hq0⟩ : ∃ q : Nat, max keep 0 = (q : Int) := ⟨(max keep 0).toNat, by omega⟩
  have hq0' : q0 < 9223372036854775808 := by omega
  have HQ0 := hid' hq0
  clear hq0
  go_enter Tryd.func14, Tryd.ntmps14
  go_wp2_with fail
  refine (HK.out).mono ?_
  rintro e w1 ⟨rfl, rfl⟩
  go_wp2_with fail
  refine (HS.out).mono ?_
  rintro e w2 ⟨v, rfl, ho, hb2⟩
  obtain ⟨ao, cap, rfl, hrow⟩ := row_at ho HKL.out
  have hb2' : RowKit.Below (W.alloc (.cells #[.map (some cb)] 55)).heap.size (W.alloc (.cells #[.map (some cb)] 55)) w2 := by rw [World.size_alloc]; exact hb2
  have HD2 := hid' ((HD.out.alloc (.cells #[.map (some cb)] 55)).below hb2')
  have HT2 := hid' (((Tri.refl sb fb cb W).alloc (.cells #[.map (some cb)] 55)).trans (Tri.of_below hb2'))
  have HROW := hid' hrow
  clear hrow ho hb2 hb2' HK HS c0 c1 c2 c3 c4
  go_wp2
  go_loopw [1, 22] (fun kp i wr => ∃ (q j : Nat) (Fj : ByteArray → Option Value), kp = .int .i64 q ∧ q < 9223372036854775808 ∧ i = .int .i64 j ∧ j ≤ n ∧ Hid (Mid Good F Fj (KS.take j)) ∧ Hid (DiskAt wr B sb fb cb (nf + j) nc Fj C ops armed true) ∧ Hid (Tri sb fb cb w2 wr)) (fun _ i _ => n - (intOf i).toNat)
  case atStart => exact ⟨q0, 0, F, by rw [HQ0.out], hq0', rfl, Nat.zero_le _, hid' (fun key => ⟨fun _ => rfl, fun hh => by simp at hh⟩), HD2, hid' (Tri.refl _ _ _ _)⟩
  case round =>
    obtain ⟨q, j, Fj, rfl, hq, rfl, hj, hMid, hD, hT⟩ := hrel
    by_cases hjn : j < n
    · obtain ⟨x, hx⟩ : ∃ x, KS[j]? = some x := ⟨KS[j]'(by have := HKL.out; omega), List.getElem?_eq_getElem _⟩
      obtain ⟨g, rfl, hg1, hg2, hcell⟩ := HROW.out j x hx
      have hcell' : wr.cell? ⟨g, j, none⟩ = some (.string (ba x)) := by
        rw [← hcell]
        exact World.cell?_of_block (hT.out.block g hg2 (by omega) (by omega) (by omega))
      have hxK := (HKM.out x).1 (List.mem_of_getElem? hx)
      have hkx : (ba x).size ≤ maxLen := by
        have := HKS.out x hxK
        show x.toArray.size ≤ maxLen
        rw [List.size_toArray]; unfold maxLen; omega
      obtain ⟨hv, hCx⟩ : ∃ v, C (ba x) = some v := by
        have := (HM.out x).1 hxK
        cases hc : C ⟨x.toArray⟩ with
        | none => rw [hc] at this; cases this
        | some v => exact ⟨v, hc⟩
      obtain ⟨y, cs, hI, hSh, hy, hgood⟩ := HG.out (ba x) hv hCx
      obtain ⟨d0, d1, d2, d3, d4⟩ := hD.out.cells
      have hlk := hD.out.changed.look Tryd.underlying55 (zero_hist _) (ba x) hkx
      rw [hCx] at hlk
      simp only [Option.getD_some] at hlk
      have HL := hid' (fun W => left_any y cs M hv hI hSh hM (q % 4) (by omega) cut HCUT.out.1 HCUT.out.2 W)
      rw [show ((q % 4 : Nat) : Int) = (q : Int) % 4 by omega] at HL
      have HOK := hid' (leftP_ok y cs (q % 4) cut hy)
      have HGO := hid' (hgood (q % 4))
      have HTK : Hid (KS.take (j + 1) = KS.take j ++ [x]) := hid' (by
        obtain ⟨h1, h2⟩ := List.getElem?_eq_some_iff.1 hx
        rw [List.take_succ_eq_append_getElem h1, h2])
      have HISH := hid' hI
      generalize leftP y cs (q % 4) cut = lp at HL HOK HGO
      obtain ⟨s, b⟩ := lp
      obtain ⟨k0, t0, k1, t1, k2, t2, k3, t3, rfl, hcl, hce⟩ := hI
      have hjn' : (j : Int) < (n : Int) := by omega
      clear hcell hx hgood hy hSh hCx hxK HISH hcl hce
      unfold hV cont at HL
      unfold hV at hlk
      have HKX := hid' hkx
      clear hkx
      go_wp2_with fail
      refine (HL.out _).mono ?_
      rintro e w3 ⟨rfl, hb3⟩
      have HP := hid' (put_any (hD.out.below hb3) (ba x) HKX.out s b (by omega))
      have HT3 := hid' (hT.out.trans (Tri.of_below hb3))
      unfold cont at HP
      clear hb3 HL hlk hcell' d0 d1 d2 d3 d4
      go_wp2_with fail
      refine (HP.out).mono ?_
      rintro e w4 ⟨rfl, D4, T4⟩
      have HD4 := hid' D4
      have HT4 := hid' (HT3.out.trans T4)
      have HMI : Hid (Mid Good F (setF Fj (ba x) b s) (KS.take (j + 1))) := hid' (by rw [HTK.out]; exact hMid.out.step x s b HOK.out HGO.out)
      clear D4 T4
      go_wp2
      go_roundw
      case rel => exact ⟨q / 4, j + 1, _, by go_num, by omega, by go_num, by omega, HMI, HD4, HT4⟩
      case measure => simp [intOf]; omega
    · obtain rfl : j = n := by omega
      obtain ⟨w3, hr, hm3, ht⟩ := hD.out.changed.clear Tryd.underlying55 0
      obtain ⟨D3, T3⟩ := hD.out.turnC hm3 ht
      have HD3 := hid' ((D3.setArmed 0).setDown false)
      have HT3 := hid' ((((HT2.out.trans hT.out).trans T3).setSb 3 (.int .i64 0)).setSb 4 (.bool false))
      obtain ⟨d0, d1, d2, d3, d4⟩ := hD.out.cells
      obtain ⟨e0, e1, e2, e3, e4⟩ := D3.cells
      obtain ⟨f2, f3, f4⟩ := D3.frozen
      clear D3 T3 hm3 ht
      go_wp2
      go_end0
      refine ⟨rfl, Fj, fun key => ?_, HD3.out, HT3.out⟩
      have hall : key ∈ (KS.take j).map ba ↔ C key ≠ none := by
        rw [HKL.out, List.take_length, List.mem_map]
        constructor
        · rintro ⟨x, hx, rfl⟩
          have := (HM.out x).1 ((HKM.out x).1 hx)
          intro hc
          rw [show C ⟨x.toArray⟩ = none from hc] at this
          cases this
        · intro hc
          refine ⟨key.data.toList, (HKM.out _).2 ((HM.out _).2 ?_), rfl⟩
          rw [show (⟨key.data.toList.toArray⟩ : ByteArray) = key from rfl]
          exact Option.isSome_iff_ne_none.2 hc
      exact ⟨fun hc => (hMid.out key).1 fun hh => hall.1 hh hc, fun hc => (hMid.out key).2 (hall.2 hc)⟩
end
end Go.Proofs.YtahaienalidiiaaDoor
