/- Parts of the proof, together. What sign and token make of a scanner. Conditions: its blocks lie from block B on; short texts; the words and the error of api lie in their variables. -/
import Derived.Test.YtaafhldcdkbnkaaGreatDoorQpaz
namespace Go.Proofs.YtaafhldcdkbnkaaGreatDoor
open Go.RowKit
open Lx

theorem signF_le (l : List UInt8) : signF l ≤ l.length := by
  match l with
  | [] => exact Nat.le_refl _
  | [b] => rw [signF_one]; split <;> simp
  | b :: c :: r =>
    rw [signF_two]
    split
    · simp
    · split <;> simp
theorem idx_zero (X : ByteArray) (b : UInt8) (r : List UInt8) (h : X.data.toList = b :: r) (W : World) : (Instr.index 9 (.string X) (.int .i64 0)).run Tryz.prog W = .ok (.int .u8 (b.toNat : Int)) W := by
  have hs : 0 < X.size := by
    have := congrArg List.length h
    rw [Array.length_toList, List.length_cons] at this
    show 0 < X.data.size
    omega
  have h1 := drop_at X 0 hs
  rw [List.drop_zero, h] at h1
  have hb : X[0] = b := (List.cons.inj h1).1.symm
  have h0 : (0 : Int) < (X.size : Int) := by omega
  rw [← hb]
  go_simp
section
variable {W : World} {B sb : Nat} {T : ByteArray} {p : Nat} {st : St}
theorem brk_any (h : ScanAt W B sb T p st) (hl : st.op.length ≤ 60) (b : UInt8) :
    Calls Tryz.prog 144 #[.pointer (some ⟨sb, 0, none⟩), .int .u8 (b.toNat : Int)] W fun e w' => e = .returned (.bool (brkF b st.op).isSome) ∧ (∃ op2, ScanAt w' B sb T p { st with op := op2 } ∧ ∀ op', brkF b st.op = some op' → op2 = op') ∧ Below B W w' := by
  by_cases h1 : b = 40 ∨ b = 91 ∨ b = 123
  · obtain ⟨c, hbc, hf⟩ : ∃ c, ((b = 40 ∧ c = 41) ∨ (b = 91 ∧ c = 93) ∨ (b = 123 ∧ c = 125)) ∧ brkF b st.op = if st.op.length < 60 then some (c :: st.op) else none := by
      rcases h1 with rfl | rfl | rfl
      · exact ⟨41, .inl ⟨rfl, rfl⟩, rfl⟩
      · exact ⟨93, .inr (.inl ⟨rfl, rfl⟩), rfl⟩
      · exact ⟨125, .inr (.inr ⟨rfl, rfl⟩), rfl⟩
    refine (brk_open h hl b c hbc).mono ?_
    rintro e w' ⟨he, hs, hb⟩
    rw [hf]
    refine ⟨by rw [he]; by_cases h60 : st.op.length < 60 <;> simp [h60], ⟨_, hs, fun op' ho => ?_⟩, hb⟩
    split at ho
    · simpa using ho
    · cases ho
  · by_cases h2 : b = 41 ∨ b = 93 ∨ b = 125
    · have hf : brkF b st.op = match st.op with | [] => none | t :: r => if t == b then some r else none := by
        rcases h2 with rfl | rfl | rfl <;> rfl
      refine (brk_close h (by omega) b h2).mono ?_
      rintro e w' ⟨he, hs, hb⟩
      rw [hf]
      cases hop : st.op with
      | nil =>
        rw [hop] at he hs
        exact ⟨he, ⟨_, hs, fun op' ho => by cases ho⟩, hb⟩
      | cons t r =>
        rw [hop] at he hs
        simp only [closeOK, List.tail_cons] at he hs ⊢
        rcases Bool.eq_false_or_eq_true (t == b) with e1 | e1
        · simp only [e1, if_true] at he hs ⊢
          exact ⟨he, ⟨_, hs, fun op' ho => by simpa using ho⟩, hb⟩
        · simp only [e1, Bool.false_eq_true, if_false] at he hs ⊢
          exact ⟨he, ⟨_, hs, fun op' ho => by cases ho⟩, hb⟩
    · have hf : brkF b st.op = some st.op := by
        unfold brkF
        simp only [not_or] at h1 h2
        simp [h1, h2]
      refine (brk_other b h1 h2 W).mono ?_
      rintro e w' ⟨he, rfl⟩
      rw [hf]
      exact ⟨he, ⟨st.op, h, fun op' ho => by simpa using ho⟩, Below.refl _ _⟩
/-- What sign finds. -/
def sgnF (op : List UInt8) (l : List UInt8) : Option (List UInt8) := if signF l = 0 then none else brkF (l.headD 0) op
set_option maxRecDepth 10000 in
set_option maxHeartbeats 3200000 in
theorem sign_any (A : Nat → Addr) (h : ScanAt W B sb T p st) (hp : p < T.size) (hT : T.size ≤ 800000) (hl : st.toks.length < 1000000) (hol : st.op.length ≤ 60) (hE : W.cell? ⟨4, 0, none⟩ = some (E A 0)) (hEB : 4 < B) :
    Calls Tryz.prog 121 #[.pointer (some ⟨sb, 0, none⟩)] W fun e w' => (sgnF st.op (T.data.toList.drop p) = none → ∃ v, e = .returned v ∧ FaultV A w' B v p ∧ Below B W w') ∧ (∀ op', sgnF st.op (T.data.toList.drop p) = some op' → e = .returned .nilIface ∧
      ScanAt w' B sb T (p + signF (T.data.toList.drop p)) { st with toks := st.toks ++ [⟨4, (T.data.toList.drop p).take (signF (T.data.toList.drop p)), p⟩], op := op' } ∧ Below B W w') := by
  obtain ⟨vt, vb, vo, D⟩ := h
  obtain ⟨c0, c1, c2, c3, c4⟩ := D.cells
  have hR := ext_drop T p
  have hRs : (T.extract p T.size).size = T.size - p := by rw [ByteArray.size_extract]; omega
  have hsl := slice_suf T p (by omega)
  have HC := hid' (fun W => signOf_any (T.extract p T.size) (by omega) (by omega) W)
  have hhead : (T.data.toList.drop p).headD 0 = T[p] := by rw [drop_at T p hp]; rfl
  have hne : T.data.toList.drop p = T[p] :: T.data.toList.drop (p + 1) := drop_at T p hp
  rw [hR] at HC
  generalize T.extract p T.size = R at hsl HC
  obtain ⟨sg, hsg⟩ : ∃ sg, sgnF st.op (T.data.toList.drop p) = sg := ⟨_, rfl⟩
  rw [hsg]
  unfold sgnF at hsg
  rw [hhead] at hsg
  obtain ⟨b, hb⟩ : ∃ b, T[p] = b := ⟨_, rfl⟩
  rw [hb] at hne hsg
  have hsle := signF_le (T.data.toList.drop p)
  have hlen : (T.data.toList.drop p).length = T.size - p := by rw [List.length_drop, Array.length_toList]; rfl
  rw [hlen] at hsle
  obtain ⟨n, hn⟩ : ∃ n, signF (T.data.toList.drop p) = n := ⟨_, rfl⟩
  rw [hn] at HC hsle hsg ⊢
  have HS := hid' D
  have hB := D.lt
  have hBW : B ≤ W.heap.size := by have := D.high; omega
  have HF := hid' (fun q => fault_any (B := B) A p (W.drewN q) hE hBW)
  have HE := hid' hE
  clear D c2 c3 c4 hR hRs hE hb hhead hlen
  cases n with
  | zero =>
    rw [List.take_zero] at HC
    have HC' : Hid (∀ W, Calls Tryz.prog 143 #[.string R] W fun e w' => e = .returned (.string ⟨#[]⟩) ∧ w' = W) := HC
    have HSG : Hid (sg = none) := hid' (by rw [← hsg]; rfl)
    clear hn hne HC hsg
    go_enter Tryz.func121, Tryz.ntmps121
    go_wp2_with fail
    go_quiet ((go_at_call 143; exact Calls.quiet_of_same (HC'.out _)))
    go_wp2_with fail
    refine (HF.out _).mono ?_
    rintro e w4 ⟨v, rfl, h4, b4⟩
    have HF4 := hid' h4
    have HB4 : Hid (Below B W w4) := hid' ⟨b4.os, b4.tape, b4.output, b4.size, fun k hk => b4.block k (by show k < W.heap.size; omega)⟩
    clear h4 b4
    go_wp2
    go_ret
    exact ⟨fun _ => ⟨v, rfl, HF4.out, HB4.out⟩, fun op' ho => by rw [HSG.out] at ho; cases ho⟩
  | succ n =>
    have hX : (T.data.toList.drop p).take (n + 1) = b :: (T.data.toList.drop (p + 1)).take n := by rw [hne, List.take_succ_cons]
    have hXl : (txt ((T.data.toList.drop p).take (n + 1))).size = n + 1 := by
      show ((T.data.toList.drop p).take (n + 1)).toArray.size = n + 1
      rw [List.size_toArray, List.length_take, List.length_drop, Array.length_toList]
      show min (n + 1) (T.size - p) = n + 1
      omega
    have hidx := idx_zero (txt ((T.data.toList.drop p).take (n + 1))) b _ (by rw [data_txt]; exact hX)
    have he1 : ((txt ((T.data.toList.drop p).take (n + 1))).toList == []) = false := by rw [toList_txt, hX]; rfl
    have he2 : (txt ((T.data.toList.drop p).take (n + 1))).toList.isEmpty = false := by rw [toList_txt, hX]; rfl
    have hdat := data_txt ((T.data.toList.drop p).take (n + 1))
    rw [← hdat]
    generalize txt ((T.data.toList.drop p).take (n + 1)) = X at HC hXl hidx he1 he2 ⊢
    have HBK := hid' (fun q => brk_any (W := W.drewN q) ((ScanAt.drewN ⟨_, _, _, HS.out⟩ q)) hol b)
    obtain ⟨br, hbr⟩ : ∃ br, brkF b st.op = br := ⟨_, rfl⟩
    rw [hbr] at HBK hsg
    have HSG : Hid (sg = br) := hid' (by rw [← hsg]; simp)
    clear hn hne hX hdat hbr hsg
    cases br with
    | none =>
      simp only [Option.isSome_none] at HBK
      go_enter Tryz.func121, Tryz.ntmps121
      go_wp2_with fail
      go_quiet ((go_at_call 143; exact Calls.quiet_of_same (HC.out _)))
      go_wp2_with fail
      refine (HBK.out _).mono ?_
      rintro e w2 ⟨rfl, ⟨op2, S2, _⟩, b2⟩
      obtain ⟨ut, ub, uo, D2⟩ := S2
      obtain ⟨d0, d1, d2, d3, d4⟩ := D2.cells
      have B2 : Below B W w2 := ⟨b2.os, b2.tape, b2.output, b2.size, b2.block⟩
      have E2 := (B2.cell (p := ⟨4, 0, none⟩) hEB).trans HE.out
      have hb2 := B2.size
      have HG := hid' (fault_any (B := B) A p w2 E2 (by omega))
      have HB2 := hid' B2
      clear b2 B2 E2 D2 d0 d2 d3 d4
      go_wp2_with fail
      refine (HG.out).mono ?_
      rintro e w4 ⟨v, rfl, h4, b4⟩
      have HF4 := hid' h4
      have HB4 := hid' (HB2.out.trans (b4.mono (by omega)))
      clear h4 b4
      go_wp2
      go_ret
      exact ⟨fun _ => ⟨v, rfl, HF4.out, HB4.out⟩, fun op' ho => by rw [HSG.out] at ho; cases ho⟩
    | some op1 =>
      simp only [Option.isSome_some] at HBK
      go_enter Tryz.func121, Tryz.ntmps121
      go_wp2_with fail
      go_quiet ((go_at_call 143; exact Calls.quiet_of_same (HC.out _)))
      go_wp2_with fail
      refine (HBK.out _).mono ?_
      rintro e w2 ⟨rfl, ⟨op2, S2, hop2⟩, b2⟩
      have hop3 := hop2 op1 rfl
      subst hop3
      have HB2 : Hid (Below B W w2) := hid' ⟨b2.os, b2.tape, b2.output, b2.size, b2.block⟩
      have HA := hid' (add_any S2 4 X (n + 1) (by omega) (by omega) hl)
      clear b2 S2 hop2
      go_wp2_with fail
      refine (HA.out).mono ?_
      rintro e w4 ⟨rfl, h4, b4⟩
      have HS4 := hid' h4
      have HB4 := hid' (HB2.out.trans b4)
      clear h4 b4
      go_wp2
      go_ret
      refine ⟨(fun h => by rw [HSG.out] at h; cases h), fun op' ho => ?_⟩
      rw [HSG.out] at ho
      cases ho
      exact ⟨rfl, HS4.out, HB4.out⟩
end
end Go.Proofs.YtaafhldcdkbnkaaGreatDoor
