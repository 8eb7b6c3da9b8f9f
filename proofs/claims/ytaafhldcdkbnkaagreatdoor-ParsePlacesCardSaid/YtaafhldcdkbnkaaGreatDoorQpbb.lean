/- Parts of the proof, together. What token makes of a scanner. Conditions: its blocks lie from block B on; short texts; the words and the error of api lie in their variables. -/
import Derived.Test.YtaafhldcdkbnkaaGreatDoorQpba
namespace Go.Proofs.YtaafhldcdkbnkaaGreatDoor
open Go.RowKit
open Lx

theorem tokF_name (op : List UInt8) (b : UInt8) (l : List UInt8) (h : lt b = true) : tokF op (b :: l) = .ok (if isWord ((b :: l).take (lenF nb (b :: l))) then 4 else 1) ((b :: l).take (lenF nb (b :: l))) (lenF nb (b :: l)) op := by
  rw [tokF, if_pos h]
theorem tokF_num (op : List UInt8) (b : UInt8) (l : List UInt8) (h : lt b = false) (hd : dg b = true) : tokF op (b :: l) = if badNum (b :: l) then .bad 0 else .ok 2 ((b :: l).take (lenF dg (b :: l))) (lenF dg (b :: l)) op := by
  rw [tokF, if_neg (by rw [h]; simp), if_pos hd]; rfl
theorem tokF_quo (op : List UInt8) (b : UInt8) (l : List UInt8) (h : lt b = false) (hd : dg b = false) (hq : b = 34 ∨ b = 39) : tokF op (b :: l) = match quoF b l with | .inr j => .bad j | .inl (said, n) => .ok 3 said n op := by
  rw [tokF, if_neg (by rw [h]; simp), if_neg (by rw [hd]; simp), if_pos (by rcases hq with rfl | rfl <;> rfl)]
  unfold quoF
  cases closedF b false l with
  | none => rfl
  | some n =>
    simp only []
    rcases unqF n (l.take n) with ⟨t, o⟩
    cases o <;> rfl
theorem tokF_sgn (op : List UInt8) (b : UInt8) (l : List UInt8) (h : lt b = false) (hd : dg b = false) (hq : ¬ (b = 34 ∨ b = 39)) : tokF op (b :: l) = match sgnF op (b :: l) with | none => .bad 0 | some op' => .ok 4 ((b :: l).take (signF (b :: l))) (signF (b :: l)) op' := by
  have hq' : (b == 34 || b == 39) = false := by
    simp only [not_or] at hq
    rw [beq_eq_false_iff_ne.2 hq.1, beq_eq_false_iff_ne.2 hq.2]; rfl
  rw [tokF, if_neg (by rw [h]; simp), if_neg (by rw [hd]; simp), if_neg (by rw [hq']; simp)]
  unfold sgnF
  rw [List.headD_cons]
  by_cases h0 : signF (b :: l) = 0
  · rw [if_pos h0, if_pos h0]
  · rw [if_neg h0, if_neg h0]; rfl
/-- What token leaves. -/
def TokPost (A : Nat → Addr) (W : World) (B sb : Nat) (T : ByteArray) (p : Nat) (st : St) (r : TR) (e : Ending) (w' : World) : Prop := match r with
  | .bad j => ∃ v, e = .returned v ∧ FaultV A w' B v (p + j) ∧ Below B W w'
  | .ok k t n op => e = .returned .nilIface ∧ ScanAt w' B sb T (p + n) { st with toks := st.toks ++ [⟨k, t, p⟩], op := op } ∧ Below B W w'
theorem letters (b : UInt8) : lt b = true → (b.toNat : Int) ≠ 34 ∧ (b.toNat : Int) ≠ 39 := by
  intro h
  rw [lt_iff] at h
  have := of_decide_eq_true h
  omega
section
variable {W : World} {B sb : Nat} {T : ByteArray} {p : Nat} {st : St}
set_option maxRecDepth 10000 in
set_option maxHeartbeats 3200000 in
theorem token_any (A : Nat → Addr) (h : ScanAt W B sb T p st) (hp : p < T.size) (hT : T.size ≤ 800000) (hl : st.toks.length < 1000000) (hol : st.op.length ≤ 60) (hw : WordsAt W) (hE : W.cell? ⟨4, 0, none⟩ = some (E A 0)) (hEB : 4 < B) :
    Calls Tryz.prog 96 #[.pointer (some ⟨sb, 0, none⟩)] W (TokPost A W B sb T p st (tokF st.op (T.data.toList.drop p))) := by
  have h0 := h
  obtain ⟨res, hres⟩ : ∃ r, tokF st.op (T.data.toList.drop p) = r := ⟨_, rfl⟩
  rw [hres]
  obtain ⟨vt, vb, vo, D⟩ := h
  obtain ⟨c0, c1, c2, c3, c4⟩ := D.cells
  have hne := drop_at T p hp
  obtain ⟨b, hb⟩ : ∃ b, T[p] = b := ⟨_, rfl⟩
  have hne' : T.data.toList.drop p = b :: T.data.toList.drop (p + 1) := by rw [← hb]; exact hne
  have hlt' : (p : Int) < (T.size : Int) := by omega
  have hidx : ∀ W, (Instr.index 9 (.string T) (.int .i64 (p : Int))).run Tryz.prog W = .ok (.int .u8 (b.toNat : Int)) W := fun W => by
    rw [← hb]
    go_simp
  have HL := hid' (isLetter_tells b)
  have HDG := hid' (isDigit_tells b)
  have HH := hid' h0
  have HW := hid' hw
  have HE := hid' hE
  clear D c2 c3 c4 h0 hw hE
  rcases Bool.eq_false_or_eq_true (lt b) with e1 | e1
  · have hr := tokF_name st.op b (T.data.toList.drop (p + 1)) e1
    rw [← hne'] at hr
    rw [hres] at hr
    have HR := hid' hr
    have HN := hid' (fun q => name_any (W := W.drewN q) (HH.out.drewN q) (by omega) (by omega) hl (fun j v hv => HW.out j v hv))
    have HL' : Hid (∀ w, Calls Tryz.prog 112 #[.int .u8 (b.toNat : Int)] w fun e w' => e = .returned (.bool true) ∧ w' = w) := hid' (fun w => by have := HL.out w; rwa [e1] at this)
    clear hr hres hb hne hne' e1 HL
    go_enter Tryz.func96, Tryz.ntmps96
    go_wp2_with fail
    go_quiet (fail)
    go_wp2_with fail
    refine (HL'.out _).mono ?_
    rintro e w1 ⟨rfl, rfl⟩
    go_wp2_with fail
    refine (HN.out _).mono ?_
    rintro e w4 ⟨rfl, h4, b4⟩
    have HS4 := hid' h4
    have HB4 : Hid (Below B W w4) := hid' ⟨b4.os, b4.tape, b4.output, b4.size, b4.block⟩
    clear h4 b4
    go_wp2
    go_ret
    rw [HR.out]; exact ⟨rfl, HS4.out, HB4.out⟩
  · have HL' : Hid (∀ w, Calls Tryz.prog 112 #[.int .u8 (b.toNat : Int)] w fun e w' => e = .returned (.bool false) ∧ w' = w) := hid' (fun w => by have := HL.out w; rwa [e1] at this)
    clear HL
    rcases Bool.eq_false_or_eq_true (dg b) with e2 | e2
    · have hr := tokF_num st.op b (T.data.toList.drop (p + 1)) e1 e2
      rw [← hne'] at hr
      rw [hres] at hr
      have HR := hid' hr
      have HN := hid' (fun q => number_any (W := W.drewN q) A (HH.out.drewN q) hp (by omega) hl HE.out)
      have HDG' : Hid (∀ w, Calls Tryz.prog 82 #[.int .u8 (b.toNat : Int)] w fun e w' => e = .returned (.bool true) ∧ w' = w) := hid' (fun w => by have := HDG.out w; rwa [e2] at this)
      clear hr hres hb hne hne' e1 e2 HDG
      generalize badNum (T.data.toList.drop p) = bad at HN HR
      go_enter Tryz.func96, Tryz.ntmps96
      go_wp2_with fail
      go_quiet (fail)
      go_wp2_with fail
      refine (HL'.out _).mono ?_
      rintro e w1 ⟨rfl, rfl⟩
      go_wp2_with fail
      refine (HDG'.out _).mono ?_
      rintro e w1 ⟨rfl, rfl⟩
      go_wp2_with fail
      refine (HN.out _).mono ?_
      rintro e w4 ⟨hbad, hok⟩
      have HBAD := hid' hbad
      have HOK := hid' hok
      clear hbad hok
      cases bad with
      | true =>
        obtain ⟨v, rfl, h4, b4⟩ := HBAD.out rfl
        have HS4 := hid' h4
        have HB4 : Hid (Below B W w4) := hid' ⟨b4.os, b4.tape, b4.output, b4.size, b4.block⟩
        clear h4 b4 HBAD HOK
        go_wp2
        go_ret
        rw [HR.out]; exact ⟨v, rfl, HS4.out, HB4.out⟩
      | false =>
        obtain ⟨rfl, h4, b4⟩ := HOK.out rfl
        have HS4 := hid' h4
        have HB4 : Hid (Below B W w4) := hid' ⟨b4.os, b4.tape, b4.output, b4.size, b4.block⟩
        clear h4 b4 HBAD HOK
        go_wp2
        go_ret
        rw [HR.out]; exact ⟨rfl, HS4.out, HB4.out⟩
    · have HDG' : Hid (∀ w, Calls Tryz.prog 82 #[.int .u8 (b.toNat : Int)] w fun e w' => e = .returned (.bool false) ∧ w' = w) := hid' (fun w => by have := HDG.out w; rwa [e2] at this)
      clear HDG
      have b34 := byte_eq b 34
      have b39 := byte_eq b 39
      rw [show (((34 : UInt8).toNat : Nat) : Int) = 34 from rfl] at b34
      rw [show (((39 : UInt8).toNat : Nat) : Int) = 39 from rfl] at b39
      by_cases hq : b = 34 ∨ b = 39
      · have hr := tokF_quo st.op b (T.data.toList.drop (p + 1)) e1 e2 hq
        rw [← hne'] at hr
        rw [hres] at hr
        have HR := hid' hr
        have HN := hid' (fun q => quoted_any (W := W.drewN q) A (HH.out.drewN q) hp hT hl HE.out hEB)
        rw [hb] at HN
        have hcase : ((b.toNat : Int) == 34) = true ∨ (((b.toNat : Int) == 34) = false ∧ ((b.toNat : Int) == 39) = true) := by
          rcases hq with rfl | rfl
          · exact .inl rfl
          · exact .inr ⟨rfl, rfl⟩
        clear hr hres hb hne hne' e1 e2 b34 b39 hq
        generalize quoF b (T.data.toList.drop (p + 1)) = qr at HN HR
        rcases hcase with h34 | ⟨h34, h39⟩
        all_goals (
          go_enter Tryz.func96, Tryz.ntmps96
          go_wp2_with fail
          go_quiet (fail)
          go_wp2_with fail
          refine (HL'.out _).mono ?_
          rintro e w1 ⟨rfl, rfl⟩
          go_wp2_with fail
          refine (HDG'.out _).mono ?_
          rintro e w1 ⟨rfl, rfl⟩
          go_wp2_with fail
          refine (HN.out _).mono ?_
          rintro e w4 ⟨hbad, hok⟩
          have HBAD := hid' hbad
          have HOK := hid' hok
          clear hbad hok
          cases qr with
          | inr j =>
            obtain ⟨v, rfl, h4, b4⟩ := HBAD.out j rfl
            have HS4 := hid' h4
            have HB4 : Hid (Below B W w4) := hid' ⟨b4.os, b4.tape, b4.output, b4.size, b4.block⟩
            clear h4 b4 HBAD HOK
            go_wp2
            go_ret
            rw [HR.out]; exact ⟨v, rfl, HS4.out, HB4.out⟩
          | inl sn =>
            obtain ⟨said, n⟩ := sn
            obtain ⟨rfl, h4, b4⟩ := HOK.out said n rfl
            have HS4 := hid' h4
            have HB4 : Hid (Below B W w4) := hid' ⟨b4.os, b4.tape, b4.output, b4.size, b4.block⟩
            clear h4 b4 HBAD HOK
            go_wp2
            go_ret
            rw [HR.out]; exact ⟨rfl, HS4.out, HB4.out⟩)
      · have hr := tokF_sgn st.op b (T.data.toList.drop (p + 1)) e1 e2 hq
        rw [← hne'] at hr
        rw [hres] at hr
        have HR := hid' hr
        have HN := hid' (fun q => sign_any (W := W.drewN q) A (HH.out.drewN q) hp hT hl hol HE.out hEB)
        simp only [not_or] at hq
        have h34 : ((b.toNat : Int) == 34) = false := by rw [← b34, beq_eq_false_iff_ne]; exact hq.1
        have h39 : ((b.toNat : Int) == 39) = false := by rw [← b39, beq_eq_false_iff_ne]; exact hq.2
        clear hr hres hb hne hne' e1 e2 b34 b39 hq
        generalize sgnF st.op (T.data.toList.drop p) = qr at HN HR
        go_enter Tryz.func96, Tryz.ntmps96
        go_wp2_with fail
        go_quiet (fail)
        go_wp2_with fail
        refine (HL'.out _).mono ?_
        rintro e w1 ⟨rfl, rfl⟩
        go_wp2_with fail
        refine (HDG'.out _).mono ?_
        rintro e w1 ⟨rfl, rfl⟩
        go_wp2_with fail
        refine (HN.out _).mono ?_
        rintro e w4 ⟨hbad, hok⟩
        have HBAD := hid' hbad
        have HOK := hid' hok
        clear hbad hok
        cases qr with
        | none =>
          obtain ⟨v, rfl, h4, b4⟩ := HBAD.out rfl
          have HS4 := hid' h4
          have HB4 : Hid (Below B W w4) := hid' ⟨b4.os, b4.tape, b4.output, b4.size, b4.block⟩
          clear h4 b4 HBAD HOK
          go_wp2
          go_ret
          rw [HR.out]; exact ⟨v, rfl, HS4.out, HB4.out⟩
        | some op' =>
          obtain ⟨rfl, h4, b4⟩ := HOK.out op' rfl
          have HS4 := hid' h4
          have HB4 : Hid (Below B W w4) := hid' ⟨b4.os, b4.tape, b4.output, b4.size, b4.block⟩
          clear h4 b4 HBAD HOK
          go_wp2
          go_ret
          rw [HR.out]; exact ⟨rfl, HS4.out, HB4.out⟩
end
end Go.Proofs.YtaafhldcdkbnkaaGreatDoor
