/- What a call to the disk makes of any of its files: written, laid behind, taken away, synced, read. Conditions: the disk's blocks lie from block B on, few calls, short texts. -/
import Derived.Test.YtahaienalidiiaaDoorDiskBad
namespace Go.Proofs.YtahaienalidiiaaDoor
open Go.RowKit Go.Maps

/-- What a file holds, as the disk's map has it. -/
def optF (b : Bool) (s : ByteArray) : Option Value := if b then some (cont s true) else none
theorem optF_getD (b : Bool) (s : ByteArray) (h : b = false → s = ⟨#[]⟩) : (optF b s).getD cont0 = cont s b := by
  cases b with
  | true => rfl
  | false => rw [h rfl]; rfl
section
variable {W W' : World} {B sb fb cb nf nc : Nat} {F C : ByteArray → Option Value} {ops armed : Int} {down : Bool}
theorem set_any (h : DiskAt W B sb fb cb nf nc F C ops 0 false) (hH : HistsOK C) (hBW : 3 < B) (ho : 0 ≤ ops) (ho2 : ops < 1000000) (hnf : nf < 2000) (hnc : nc < 1000000)
    (key : ByteArray) (hk : key.size ≤ 1000) (hv : Pth.splitOK Pth.partOK key.data.toList = true) (m : Int) (hm : W.cell? ⟨3, 0, none⟩ = some (.int .i64 m))
    (s : ByteArray) (b : Bool) (hF : (F key).getD cont0 = cont s b) (k : Int) (t s' : ByteArray) (hon : onF k t s = cont s' true) (hl : s.size + t.size < 1000000000) (hs' : s'.size ≤ 65536) :
    ∃ C', HistsOK C' ∧ Calls Tryd.prog 25 #[.pointer (some ⟨sb, 0, none⟩), .string key, chg k t] W fun e w' => e = .returned .nilIface ∧ DiskAt w' B sb fb cb (nf + 1) (nc + 1) (putF F key (cont s' true)) C' (ops + 1) 0 false ∧ Tri sb fb cb W w' := by
  obtain ⟨v, hv1, hv2⟩ := note_any hH B sb fb cb nf nc F (ops + 1) (armed' 0) false key (by unfold maxLen; omega) s b k t hnc
  exact ⟨_, hH.put key hv1, do_core _ _ h hBW ho ho2 (by decide) (by decide) (by decide) hnf key hk hv m hm s b hF k t s' hon hl hs' hv2⟩
theorem del_none (F : ByteArray → Option Value) (key : ByteArray) (h : F key = none) : delF F key = F := by
  funext k
  unfold delF
  split
  · next e => rw [e, h]
  · rfl
theorem drop_any (h : DiskAt W B sb fb cb nf nc F C ops 0 false) (hH : HistsOK C) (hBW : 3 < B) (ho : 0 ≤ ops) (ho2 : ops < 1000000) (hnc : nc < 1000000)
    (key : ByteArray) (hk : key.size ≤ 1000) (hv : Pth.splitOK Pth.partOK key.data.toList = true) (m : Int) (hm : W.cell? ⟨3, 0, none⟩ = some (.int .i64 m))
    (s : ByteArray) (b : Bool) (hF : F key = optF b s) (hl : s.size < 1000000000) :
    ∃ C', HistsOK C' ∧ Calls Tryd.prog 25 #[.pointer (some ⟨sb, 0, none⟩), .string key, chg 2 ⟨#[]⟩] W fun e w' => e = .returned .nilIface ∧ DiskAt w' B sb fb cb nf (nc + 1) (delF F key) C' (ops + 1) 0 false ∧ Tri sb fb cb W w' := by
  cases b with
  | true =>
    obtain ⟨v, hv1, hv2⟩ := note_any hH B sb fb cb nf nc F (ops + 1) (armed' 0) false key (by unfold maxLen; omega) s true 2 ⟨#[]⟩ hnc
    exact ⟨_, hH.put key hv1, drop_core _ _ h hBW ho ho2 (by decide) (by decide) (by decide) key hk hv m hm s hl (by rw [hF]; rfl) hv2⟩
  | false =>
    have hF' : F key = none := hF
    refine ⟨C, hH, (drop_none h hBW ho ho2 (by decide) (by decide) (by decide) key hk hv m hm (by rw [hF']; rfl)).mono ?_⟩
    rintro e w' ⟨he, hD, hT⟩
    refine ⟨he, ?_, hT⟩
    rw [del_none F key hF']
    exact ⟨hD.row, hD.files, hD.changed.mono (by omega), hD.apart, hD.high⟩
end
end Go.Proofs.YtahaienalidiiaaDoor
