/- Parts of the proof, together. What quoted makes of a scanner. Conditions: its blocks lie from block B on; short texts; the error of api lies in its variable. -/
import Derived.Test.YtaafhldcdkbnkaaGreatDoorQpav
namespace Go.Proofs.YtaafhldcdkbnkaaGreatDoor
open Go.RowKit
open Lx

theorem unqF_lt (m : Nat) : ∀ (l : List UInt8) (t : List UInt8) (j : Nat), unqF m l = (t, some j) → j < l.length := by
  induction m with
  | zero => intro l t j h; simp [unqF] at h
  | succ m ih =>
    intro l t j h
    cases l with
    | nil => simp [unqF] at h
    | cons b r =>
      simp only [unqF] at h
      split at h
      · simp at h; simp; omega
      · next c k hp =>
        obtain ⟨h1, h2⟩ := pieceF_len hp
        split at h
        · simp at h
        · next t' j' hu =>
          have := ih _ _ _ hu
          rw [List.length_drop] at this
          simp at h
          omega
theorem closedF_lt (q : UInt8) : ∀ (l : List UInt8) (held : Bool) (n : Nat), closedF q held l = some n → n < l.length
  | [], _, _, h => by simp [closedF] at h
  | b :: l, held, n, h => by
    simp only [closedF] at h
    split at h
    · cases h
    · split at h
      · obtain ⟨m, hm, rfl⟩ := Option.map_eq_some_iff.1 h
        have := closedF_lt q l _ m hm
        simp; omega
      · split at h
        · obtain ⟨m, hm, rfl⟩ := Option.map_eq_some_iff.1 h
          have := closedF_lt q l _ m hm
          simp; omega
        · split at h
          · simp at h; simp; omega
          · obtain ⟨m, hm, rfl⟩ := Option.map_eq_some_iff.1 h
            have := closedF_lt q l _ m hm
            simp; omega
/-- What quoted finds: where it fails; or what is said, and how many bytes. -/
def quoF (q : UInt8) (l : List UInt8) : List UInt8 × Nat ⊕ Nat :=
  match closedF q false l with
  | none => .inr 0
  | some n => match unqF n (l.take n) with
    | (said, none) => .inl (said, n + 2)
    | (_, some j) => .inr (j + 1)
theorem slice_mid (T : ByteArray) (a b : Nat) (h : a ≤ b) (hb : b ≤ T.size) (W : World) : (Instr.sliceAt 9 (.string T) (some (.int .i64 (a : Int))) (some (.int .i64 (b : Int))) none).run Tryz.prog W = .ok (.string (T.extract a b)) W := by
  have h1 : (a : Int) ≤ (b : Int) := by omega
  have h2 : (b : Int) ≤ (T.size : Int) := by omega
  go_simp
theorem ext_mid (T : ByteArray) (a n : Nat) : (T.extract a (a + n)).data.toList = (T.data.toList.drop a).take n := by
  rw [ByteArray.data_extract, Array.toList_extract]
  simp [List.extract]
section
variable {W : World} {B sb : Nat} {T : ByteArray} {p : Nat} {st : St}
set_option maxRecDepth 10000 in
set_option maxHeartbeats 3200000 in
theorem quoted_any (A : Nat → Addr) (h : ScanAt W B sb T p st) (hp : p < T.size) (hT : T.size ≤ 800000) (hl : st.toks.length < 1000000) (hE : W.cell? ⟨4, 0, none⟩ = some (E A 0)) (hEB : 4 < B) :
    Calls Tryz.prog 120 #[.pointer (some ⟨sb, 0, none⟩)] W fun e w' => (∀ j, quoF T[p] (T.data.toList.drop (p + 1)) = .inr j → ∃ v, e = .returned v ∧ FaultV A w' B v (p + j) ∧ Below B W w') ∧ (∀ said n, quoF T[p] (T.data.toList.drop (p + 1)) = .inl (said, n) → e = .returned .nilIface ∧
      ScanAt w' B sb T (p + n) { st with toks := st.toks ++ [⟨3, said, p⟩] } ∧ Below B W w') := by
  obtain ⟨vt, vb, vo, D⟩ := h
  obtain ⟨c0, c1, c2, c3, c4⟩ := D.cells
  have hR := ext_drop T (p + 1)
  have hRs : (T.extract (p + 1) T.size).size = T.size - (p + 1) := by rw [ByteArray.size_extract]; omega
  have hsl := slice_suf T (p + 1) (by omega)
  have HC := hid' (fun W => closed_any (T.extract (p + 1) T.size) (by omega) T[p] W)
  rw [hR] at HC
  obtain ⟨q, hq⟩ : ∃ q, T[p] = q := ⟨_, rfl⟩
  have hlt' : (p : Int) < (T.size : Int) := by omega
  have hidx : ∀ W, (Instr.index 9 (.string T) (.int .i64 (p : Int))).run Tryz.prog W = .ok (.int .u8 (q.toNat : Int)) W := fun W => by
    rw [← hq]
    go_simp
  rw [hq] at HC ⊢
  have hp1 : (p : Int) + 1 = ((p + 1 : Nat) : Int) := by omega
  rw [← hp1] at hsl
  have HP1 := hid' hp1
  clear hp1
  have HS := hid' D
  have hB := D.lt
  have hBW : B ≤ W.heap.size := by have := D.high; omega
  have HF := hid' (fun q => fault_any (B := B) A p (W.drewN q) hE hBW)
  have HE := hid' hE
  generalize T.extract (p + 1) T.size = R at hsl HC
  clear D c2 c3 c4 hR hRs hE hq
  unfold quoF
  obtain ⟨cl, hcl⟩ : ∃ cl, closedF q false (T.data.toList.drop (p + 1)) = cl := ⟨_, rfl⟩
  rw [hcl] at HC ⊢
  cases cl with
  | none =>
    unfold closedV at HC
    clear hcl
    go_enter Tryz.func120, Tryz.ntmps120
    go_wp2_with fail
    go_quiet ((go_at_call 141; exact Calls.quiet_of_same (HC.out _)))
    go_wp2_with fail
    refine (HF.out _).mono ?_
    rintro e w4 ⟨v, rfl, h4, b4⟩
    have HF4 := hid' h4
    have HB4 : Hid (Below B W w4) := hid' ⟨b4.os, b4.tape, b4.output, b4.size, fun k hk => b4.block k (by show k < W.heap.size; omega)⟩
    clear h4 b4
    go_wp2
    go_ret
    exact ⟨fun j hj => ⟨v, rfl, by simp at hj; subst hj; exact HF4.out, HB4.out⟩, fun s n hj => by simp at hj⟩
  | some n =>
    unfold closedV at HC
    have hn := closedF_lt _ _ _ _ hcl
    rw [List.length_drop, Array.length_toList] at hn
    have hn' : n < T.size - (p + 1) := hn
    have hX := ext_mid T (p + 1) n
    have hXs : (T.extract (p + 1) (p + 1 + n)).size = n := by rw [ByteArray.size_extract]; omega
    have hsm := slice_mid T (p + 1) (p + 1 + n) (by omega) (by omega)
    rw [show ((p + 1 + n : Nat) : Int) = (p : Int) + 1 + (n : Int) by omega, ← HP1.out] at hsm
    have HU := hid' (unquote_any (T.extract (p + 1) (p + 1 + n)) (by omega))
    rw [hX, hXs] at HU
    simp only []
    obtain ⟨un, hun⟩ : ∃ un, unqF n ((T.data.toList.drop (p + 1)).take n) = un := ⟨_, rfl⟩
    rw [hun] at HU ⊢
    generalize T.extract (p + 1) (p + 1 + n) = X at HU hsm
    obtain ⟨said, o⟩ := un
    cases o with
    | none =>
      unfold unqV at HU
      clear hcl hn hX hXs hun
      go_enter Tryz.func120, Tryz.ntmps120
      go_wp2_with fail
      go_quiet ((go_at_call 141; exact Calls.quiet_of_same (HC.out _)))
      go_wp2_with fail
      refine (HU.out _).mono ?_
      rintro e w2 ⟨rfl, b2⟩
      have HB2 : Hid (Below B W w2) := hid' ⟨b2.os, b2.tape, b2.output, b2.size, fun k hk => b2.block k (by show k < W.heap.size; omega)⟩
      have S2 : ScanAt w2 B sb T p st := (ScanAt.drewN ⟨_, _, _, HS.out⟩ nq).below b2
      have HA := hid' (add_any S2 3 (txt said) (n + 2) (by omega) (by omega) hl)
      rw [data_txt, show ((n + 2 : Nat) : Int) = (n : Int) + 2 by omega] at HA
      clear b2 S2
      go_wp2_with fail
      refine (HA.out).mono ?_
      rintro e w4 ⟨rfl, h4, b4⟩
      have HS4 := hid' h4
      have HB4 := hid' (HB2.out.trans b4)
      clear h4 b4
      go_wp2
      go_ret
      refine ⟨fun j hj => by simp at hj, fun s m hj => ?_⟩
      simp at hj
      obtain ⟨rfl, rfl⟩ := hj
      exact ⟨rfl, HS4.out, HB4.out⟩
    | some j =>
      have hj := unqF_lt _ _ _ _ hun
      rw [List.length_take] at hj
      have hjn : (j : Int) < (n : Int) := by omega
      unfold unqV at HU
      clear hcl hn hX hXs hun hj
      go_enter Tryz.func120, Tryz.ntmps120
      go_wp2_with fail
      go_quiet ((go_at_call 141; exact Calls.quiet_of_same (HC.out _)))
      go_wp2_with fail
      refine (HU.out _).mono ?_
      rintro e w2 ⟨rfl, b2⟩
      have B2 : Below B W w2 := ⟨b2.os, b2.tape, b2.output, b2.size, fun k hk => b2.block k (by show k < W.heap.size; omega)⟩
      have E2 := (B2.cell (p := ⟨4, 0, none⟩) hEB).trans HE.out
      have hb2 := B2.size
      have HG := hid' (fault_any (B := B) A (p + (j + 1)) w2 E2 (by omega))
      rw [show ((p + (j + 1) : Nat) : Int) = (p : Int) + 1 + (j : Int) by omega] at HG
      have HB2 := hid' B2
      clear b2 B2 E2
      go_wp2_with fail
      refine (HG.out).mono ?_
      rintro e w4 ⟨v, rfl, h4, b4⟩
      have HF4 := hid' h4
      have HB4 := hid' (HB2.out.trans (b4.mono (by omega)))
      clear h4 b4
      go_wp2
      go_ret
      refine ⟨fun i hi => ⟨v, rfl, ?_, HB4.out⟩, fun s m hi => by simp at hi⟩
      simp at hi
      subst hi
      exact HF4.out
end
end Go.Proofs.YtaafhldcdkbnkaaGreatDoor
