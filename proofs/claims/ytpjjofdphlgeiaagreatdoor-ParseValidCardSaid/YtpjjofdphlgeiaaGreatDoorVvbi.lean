/- Parts of the proof, together. The parser's small calls that may be a fault: allow, need, take, enter, shut. Conditions: a token is there. The parser's small calls: need, take, enter, shut. Conditions: a token is there. -/
import Derived.WalkSmall
import Derived.Test.YtpjjofdphlgeiaaGreatDoorVvbh
import Derived.Test.YtpjjofdphlgeiaaGreatDoorVvam
namespace Go.Proofs.YtpjjofdphlgeiaaGreatDoor
open Go.RowKit
open Lx Ax Px

theorem tok_kind (k p : Int) (x : ByteArray) (w : World) : (Instr.field 71 (.agg #[.int .i64 k, .string x, .int .i64 p]) 0).run Tryz.prog w = .ok (.int .i64 k) w := by kernel_rfl
theorem tok_pos (k p : Int) (x : ByteArray) (w : World) : (Instr.field 71 (.agg #[.int .i64 k, .string x, .int .i64 p]) 2).run Tryz.prog w = .ok (.int .i64 p) w := by kernel_rfl
section
variable {A : Nat → Addr} {n B pb : Nat} {ts : List Tok} {tv : Value} {W W' : World} {s : PS} {vl : Value} {vs : List Value}
theorem p_fault_any (A : Nat → Addr) (i : Nat) (W : World) (p : Int) :
    Calls Tryz.prog 78 #[.int .i64 p, E A i] W fun e w' => e = .returned (.pointer (some ⟨W.heap.size, 0, none⟩)) ∧ w' = W.alloc (.cells #[.int .i64 p, E A i] 84) := by
  unfold E
  go_enter Tryz.func78, Tryz.ntmps78
  go_wp2
  go_returns
  exact ⟨rfl, rfl⟩
theorem allow_true (W : World) (v : Value) :
    Calls Tryz.prog 55 #[v, .bool true] W fun e w' => e = .returned (.tuple #[]) ∧ w' = W := by
  have hnot : ∀ (x : Bool) (w : World), (Op.unary .not (.bool x)).run Tryz.prog w = .ok (.bool (!x)) w := fun _ _ => rfl
  go_enter Tryz.func55, Tryz.ntmps55
  go_wp2
  go_returns
  exact ⟨rfl, rfl⟩
/-- A fault is laid in new memory. -/
theorem fault_end {w2 : World} (hb : Below W.heap.size W w2) (hB : B ≤ W.heap.size) (lim : Bool) (i : Nat) (hi : (if lim then 7 else 1) = i) (p : Int) :
    FaultP A B W lim p (.panicked [{ v := .iface 67 (.pointer (some ⟨w2.heap.size, 0, none⟩)), recovered := false }]) (w2.alloc (.cells #[.int .i64 p, E A i] 84)) := by
  subst hi
  have hsz := hb.size
  exact ⟨w2.heap.size, rfl, by omega, heap_alloc_new w2 _, (hb.alloc hsz _).mono hB⟩
set_option maxRecDepth 10000 in
set_option maxHeartbeats 1600000 in
theorem allow_false (h : PV A B pb ts tv W s vl vs) (t : Tok) (ht : ts[s.at_]? = some t) :
    Calls Tryz.prog 55 #[.pointer (some ⟨pb, 0, none⟩), .bool false] W (FaultP A B W false t.pos) := by
  have HT := fun W' (hb : Below W.heap.size W W') => hid' (p_token_any (h.low hb) t ht)
  have HP := hid' h
  have hfp := tok_pos t.kind t.pos (txt t.text)
  have hce : W.cell? ⟨3, 0, none⟩ = some (E A 1) := h.env.parse
  have hlo := h.lowB
  have hlow := Nat.lt_of_lt_of_le h.env.low.1 h.lowB
  clear h ht
  go_enter Tryz.func55, Tryz.ntmps55
  go_wp2
  refine wp_region_held_drew (S := fun W' => Below W.heap.size W W') (by kernel_rfl) (Below.refl _ _).drew (fun hHeld => ?_)
  refine take_val' (i := 0) (v := .pointer (some ⟨pb, 0, none⟩)) rfl (by kernel_rfl) (by kernel_rfl) (by kernel_rfl) (some 6) rfl (fun _ _ _ h => h) (Or.inl ⟨by rfl, fun W' hW => by go_simp⟩) hHeld ?_
  try simp only [Act.put, List.setIfInBounds_toArray, List.set_cons_zero, List.set_cons_succ]
  refine take_val' (i := 3) (v := E A 1) rfl (by kernel_rfl) (by kernel_rfl) (by kernel_rfl) (some 9) rfl (fun _ _ _ h => h) (Or.inl ⟨by rfl, fun W' hW => by have c2 := (hW.cell (p := ⟨3, 0, none⟩) hlow).trans hce; go_simp⟩) hHeld ?_
  try simp only [Act.put, List.setIfInBounds_toArray, List.set_cons_zero, List.set_cons_succ]
  refine wpAnyH_ready (rs := [1]) (by kernel_rfl) (by simp) ?_
  refine AllReadyH.cons rfl (fun K hK => ?_) AllReadyH.nil
  go_simp
  refine Calls.mono ((HT _ hHeld).out) ?_
  rintro e w2 ⟨rfl, b2⟩
  have b3 := Below.thenB hHeld b2
  clear b2 hHeld
  refine hK.out _ _ b3 (fun hHeld => ?_)
  clear hK K
  try simp only [Act.put, List.setIfInBounds_toArray, List.set_cons_zero, List.set_cons_succ]
  refine take_val' (i := 2) (v := .int .i64 (t.pos : Int)) rfl (by kernel_rfl) (by kernel_rfl) (by kernel_rfl) (some 8) rfl (fun _ _ _ h => h) (Or.inl ⟨by rfl, fun W' hW => by go_simp⟩) hHeld ?_
  try simp only [Act.put, List.setIfInBounds_toArray, List.set_cons_zero, List.set_cons_succ]
  refine wpAnyH_ready (rs := [4]) (by kernel_rfl) (by simp) ?_
  refine AllReadyH.cons rfl (fun K hK => ?_) AllReadyH.nil
  go_simp
  refine Calls.mono (p_fault_any A 1 _ _) ?_
  rintro e w3 ⟨rfl, rfl⟩
  have b4 := b3.alloc b3.size (.cells #[.int .i64 (t.pos : Int), E A 1] 84)
  clear hHeld
  refine hK.out _ _ b4 (fun hHeld => ?_)
  clear hK K
  try simp only [Act.put, List.setIfInBounds_toArray, List.set_cons_zero, List.set_cons_succ]
  refine take_val' (i := 5) (v := .iface 67 (.pointer (some ⟨w2.heap.size, 0, none⟩))) rfl (by kernel_rfl) (by kernel_rfl) (by kernel_rfl) (some 11) rfl (fun _ _ _ h => h) (Or.inl ⟨by rfl, fun W' hW => by go_simp⟩) hHeld ?_
  try simp only [Act.put, List.setIfInBounds_toArray, List.set_cons_zero, List.set_cons_succ]
  refine wpAnyH_ready (rs := [6]) (by kernel_rfl) (by simp) ?_
  refine AllReadyH.cons rfl (fun K hK => ?_) AllReadyH.nil
  go_simp
  exact ⟨rfl, fault_end b3 hlo false 1 rfl _⟩
end
end Go.Proofs.YtpjjofdphlgeiaaGreatDoor

namespace Go.Proofs.YtpjjofdphlgeiaaGreatDoor
open Go.RowKit
open Lx Ax Px

section
variable {A : Nat → Addr} {n B pb : Nat} {ts : List Tok} {tv : Value} {W W' : World} {s : PS} {vl : Value} {vs : List Value}
theorem need_hit (h : PV A B pb ts tv W s vl vs) (t : Tok) (ht : ts[s.at_]? = some t) (l : List UInt8) (hq : sg t = l) :
    Calls Tryz.prog 53 #[.pointer (some ⟨pb, 0, none⟩), .string (txt l)] W fun e w' => e = .returned (.int .i64 (t.pos : Int)) ∧ PV A B pb ts tv w' { s with at_ := s.at_ + 1 } vl vs ∧ Still B pb W w' := by
  have HT := hid' (sees_any h t ht l)
  rw [decide_eq_true hq] at HT
  have HX := fun W' (hb : Below W.heap.size W W') => hid' (next_any (h.low hb) t ht)
  have hfp := tok_pos t.kind t.pos (txt t.text)
  have HP := hid' h
  clear h ht
  go_enter Tryz.func53, Tryz.ntmps53
  go_wp2_with (first | (go_at_call 74; with_reducible refine HT.out.mono ?_; rintro e w2 ⟨rfl, b2⟩) | (go_at_call 55; refine Calls.mono (allow_true _ _) ?_; rintro e w3 ⟨rfl, rfl⟩) | (go_at_call 47; refine Calls.mono (HX _ b2).out ?_; rintro e w4 ⟨rfl, p4, s4⟩; have P4 := hid' p4; have S4 := hid' s4; clear p4 s4))
  go_wp2
  go_returns
  exact ⟨rfl, P4.out, (Still.low HP.out.lowB b2).trans S4.out⟩
theorem need_miss (h : PV A B pb ts tv W s vl vs) (t : Tok) (ht : ts[s.at_]? = some t) (l : List UInt8) (hq : ¬ sg t = l) :
    Calls Tryz.prog 53 #[.pointer (some ⟨pb, 0, none⟩), .string (txt l)] W (FaultP A B W false t.pos) := by
  have HT := hid' (sees_any h t ht l)
  rw [decide_eq_false hq] at HT
  have HX := fun W' (hb : Below W.heap.size W W') => hid' (allow_false (h.low hb) t ht)
  have hB := h.lowB
  clear h ht
  go_enter Tryz.func53, Tryz.ntmps53
  go_wp2_with (first | (go_at_call 74; with_reducible refine HT.out.mono ?_; rintro e w2 ⟨rfl, b2⟩) | (go_at_call 55; refine Calls.mono (HX _ b2).out ?_; rintro e w3 hp; have HF := hid' (hp.of_below (b2.mono hB)); obtain ⟨g, rfl, _⟩ := hp))
  go_wp2
  exact ⟨rfl, HF.out⟩
set_option maxRecDepth 10000 in
set_option maxHeartbeats 1600000 in
theorem take_hit (h : PV A B pb ts tv W s vl vs) (t : Tok) (ht : ts[s.at_]? = some t) (k : Nat) (hq : t.kind = k) :
    Calls Tryz.prog 48 #[.pointer (some ⟨pb, 0, none⟩), .int .i64 (k : Int)] W fun e w' => e = .returned (.agg #[.int .i64 (t.kind : Int), .string (txt t.text), .int .i64 (t.pos : Int)]) ∧ PV A B pb ts tv w' { s with at_ := s.at_ + 1 } vl vs ∧ Still B pb W w' := by
  have HT := fun W' (hb : Below W.heap.size W W') => hid' (p_token_any (h.low hb) t ht)
  have HX := fun W' (hb : Below W.heap.size W W') => hid' (next_any (h.low hb) t ht)
  have hfk := tok_kind t.kind t.pos (txt t.text)
  subst hq
  have HP := hid' h
  clear h ht
  go_enter Tryz.func48, Tryz.ntmps48
  go_wp2_with (first | (go_at_call 33; refine Calls.mono (HT _ ?_).out ?_; (· go_grown); rintro e w2 ⟨rfl, b2⟩; obtain ⟨_, _, _, _, _, _, _, rr⟩ := var_tok b2; have RR := hid' rr; clear rr; have b2 := Below.thenB (by go_grown : Below W.heap.size W _) b2) | (go_at_call 55; refine Calls.mono (allow_true _ _) ?_; rintro e w3 ⟨rfl, rfl⟩) | (go_at_call 47; refine Calls.mono (HX _ b2).out ?_; rintro e w4 ⟨rfl, p4, s4⟩; have RR4 := RR.out.far (s4.far _ RR.out.lt (by have := HP.out.lt; omega)); obtain ⟨q0, q1, q2⟩ := And.intro (RR4.cell (j := 0) rfl) (And.intro (RR4.cell (j := 1) rfl) (RR4.cell (j := 2) rfl)); have f0 := RR4.open_ 0; have f1 := RR4.open_ 1; have f2 := RR4.open_ 2; have hl4 := RR4.lt; have RR5 := hid' RR4; have P4 := hid' p4; have S4 := hid' s4; clear p4 s4 RR4))
  go_wp2
  have hlo := HP.out.lowB
  have hpl := HP.out.lt
  have hpn : ¬ pb = W.heap.size := by omega
  have hS : Still B pb W (((w4.setCell ⟨W.heap.size, 0, none⟩ (.int .i64 (t.kind : Int))).setCell ⟨W.heap.size, 1, none⟩ (.string (txt t.text))).setCell ⟨W.heap.size, 2, none⟩ (.int .i64 (t.pos : Int))) :=
    ((((Still.low hlo b2).trans S4.out).set ⟨W.heap.size, 0, none⟩ _ (.inl (Nat.le_refl _)) hlo HP.out.high).set ⟨W.heap.size, 1, none⟩ _ (.inl (Nat.le_refl _)) hlo HP.out.high).set ⟨W.heap.size, 2, none⟩ _ (.inl (Nat.le_refl _)) hlo HP.out.high
  have hR := ((RR5.out.set 0 (.int .i64 (t.kind : Int))).set 1 (.string (txt t.text))).set 2 (.int .i64 (t.pos : Int))
  refine bodyPost_ret (v := .agg #[.int .i64 (t.kind : Int), .string (txt t.text), .int .i64 (t.pos : Int)]) ?_ rfl ⟨rfl, ?_⟩
  · exact results_cell_row (fn := Tryz.f48) (p := 4) (ty := 71) (by kernel_rfl) _ _ W.heap.size _ #[.int .i64 (t.kind : Int), .string (txt t.text), .int .i64 (t.pos : Int)] (0, 0) _ rfl hR Tryz.underlying71 rfl (by kernel_rfl)
  · exact ⟨HP.out.turn hS (s.at_ + 1) s.deep (row_past (row_past (row_past P4.out.row _ _ hpn) _ _ hpn) _ _ hpn) P4.out.few.2.1 HP.out.few.2.2, hS⟩
set_option maxRecDepth 10000 in
theorem take_miss (h : PV A B pb ts tv W s vl vs) (t : Tok) (ht : ts[s.at_]? = some t) (k : Nat) (hq : ¬ t.kind = k) :
    Calls Tryz.prog 48 #[.pointer (some ⟨pb, 0, none⟩), .int .i64 (k : Int)] W (FaultP A B W false t.pos) := by
  have HT := fun W' (hb : Below W.heap.size W W') => hid' (p_token_any (h.low hb) t ht)
  have HX := fun W' (hb : Below W.heap.size W W') => hid' (allow_false (h.low hb) t ht)
  have hfk := tok_kind t.kind t.pos (txt t.text)
  have hkk : ((t.kind : Int) == (k : Int)) = false := by simp; omega
  have hB := h.lowB
  clear h ht
  go_enter Tryz.func48, Tryz.ntmps48
  go_wp2_with (first | (go_at_call 33; refine Calls.mono (HT _ ?_).out ?_; (· go_grown); rintro e w2 ⟨rfl, b2⟩; have b2 := Below.thenB (by go_grown : Below W.heap.size W _) b2) | (go_at_call 55; refine Calls.mono (HX _ b2).out ?_; rintro e w3 hp; have HF := hid' (hp.of_below (b2.mono hB)); obtain ⟨g, rfl, _⟩ := hp))
  go_wp2
  exact ⟨rfl, HF.out⟩
theorem enter_hit (h : PV A B pb ts tv W s vl vs) (t : Tok) (ht : ts[s.at_]? = some t) (l : List UInt8) (hq : sg t = l) (hd : ¬ s.deep = 60) :
    Calls Tryz.prog 101 #[.pointer (some ⟨pb, 0, none⟩), .string (txt l)] W fun e w' => e = .returned (.int .i64 (t.pos : Int)) ∧ PV A B pb ts tv w' { s with at_ := s.at_ + 1, deep := s.deep + 1 } vl vs ∧ Still B pb W w' := by
  have HX := hid' (need_hit h t ht l hq)
  have hd3 := h.few.2.2
  have hdd : ((s.deep : Int) == 60) = false := by simp; omega
  have hw : IntKind.i64.wrap ((s.deep : Int) + 1) = ((s.deep + 1 : Nat) : Int) := by rw [IntWalk.i64_in _ ⟨by omega, by omega⟩]; omega
  clear h ht
  go_enter Tryz.func101, Tryz.ntmps101
  go_wp2_with (go_at_call 53; with_reducible refine HX.out.mono ?_; rintro e w2 ⟨rfl, p2, s2⟩; obtain ⟨_, _, _, c3⟩ := p2.cells; have o3 := p2.open_ 3; have P2 := hid' p2; have S2 := hid' s2; clear p2 s2)
  go_wp2
  go_returns
  have h2 := P2.out
  have hS := (Still.low (pb := pb) h2.lowB (Below.refl _ w2)).set ⟨pb, 3, none⟩ (.int .i64 ((s.deep : Int) + 1)) (.inr rfl) h2.lowB h2.high
  exact ⟨rfl, h2.turn hS (s.at_ + 1) (s.deep + 1) (h2.row.set 3 _) h2.few.2.1 (by omega), S2.out.trans hS⟩
theorem enter_miss (h : PV A B pb ts tv W s vl vs) (t : Tok) (ht : ts[s.at_]? = some t) (l : List UInt8) (hq : ¬ sg t = l) :
    Calls Tryz.prog 101 #[.pointer (some ⟨pb, 0, none⟩), .string (txt l)] W (FaultP A B W false t.pos) := by
  have HX := hid' (need_miss h t ht l hq)
  clear h ht
  go_enter Tryz.func101, Tryz.ntmps101
  go_wp2_with (go_at_call 53; refine Calls.mono HX.out ?_; rintro e w2 hp; have HF := hid' hp; obtain ⟨g, rfl, _⟩ := hp)
  go_wp2
  exact ⟨rfl, HF.out⟩
theorem enter_deep (h : PV A B pb ts tv W s vl vs) (t : Tok) (ht : ts[s.at_]? = some t) (l : List UInt8) (hq : sg t = l) (hd : s.deep = 60) :
    Calls Tryz.prog 101 #[.pointer (some ⟨pb, 0, none⟩), .string (txt l)] W (FaultP A B W true t.pos) := by
  have HX := hid' (need_hit h t ht l hq)
  have hdd : ((s.deep : Int) == 60) = true := by rw [hd]; rfl
  have hB := h.lowB
  clear h ht
  go_enter Tryz.func101, Tryz.ntmps101
  go_wp2_with (first | (go_at_call 53; with_reducible refine HX.out.mono ?_; rintro e w2 ⟨rfl, p2, s2⟩; obtain ⟨_, _, _, c3⟩ := p2.cells; have ce := p2.env.limit; have P2 := hid' p2; have S2 := hid' s2; clear p2 s2) | (go_at_call 78; refine Calls.mono (p_fault_any A 7 _ _) ?_; rintro e w3 ⟨rfl, rfl⟩))
  go_wp2
  exact ⟨rfl, (fault_end (Below.refl _ w2) P2.out.lowB true 7 rfl _).of_below S2.out.below⟩
theorem shut_hit (h : PV A B pb ts tv W s vl vs) (t : Tok) (ht : ts[s.at_]? = some t) (l : List UInt8) (hq : sg t = l) (hd : ¬ s.deep = 0) :
    Calls Tryz.prog 161 #[.pointer (some ⟨pb, 0, none⟩), .string (txt l)] W fun e w' => e = .returned (.tuple #[]) ∧ PV A B pb ts tv w' { s with at_ := s.at_ + 1, deep := s.deep - 1 } vl vs ∧ Still B pb W w' := by
  have HX := hid' (need_hit h t ht l hq)
  clear h ht
  go_enter Tryz.func161, Tryz.ntmps161
  go_wp2_with (first | (go_at_call 53; with_reducible refine HX.out.mono ?_; rintro e w2 ⟨rfl, p2, s2⟩; have P2 := hid' p2; have S2 := hid' s2; clear p2 s2) | (go_at_call 102; refine Calls.mono (leave_any P2.out hd) ?_; rintro e w3 ⟨rfl, p3, s3⟩; have P3 := hid' p3; have S3 := hid' s3; clear p3 s3))
  go_wp2
  go_returns
  exact ⟨rfl, P3.out, S2.out.trans S3.out⟩
theorem shut_miss (h : PV A B pb ts tv W s vl vs) (t : Tok) (ht : ts[s.at_]? = some t) (l : List UInt8) (hq : ¬ sg t = l) :
    Calls Tryz.prog 161 #[.pointer (some ⟨pb, 0, none⟩), .string (txt l)] W (FaultP A B W false t.pos) := by
  have HX := hid' (need_miss h t ht l hq)
  clear h ht
  go_enter Tryz.func161, Tryz.ntmps161
  go_wp2_with (go_at_call 53; refine Calls.mono HX.out ?_; rintro e w2 hp; have HF := hid' hp; obtain ⟨g, rfl, _⟩ := hp)
  go_wp2
  exact ⟨rfl, HF.out⟩
end
end Go.Proofs.YtpjjofdphlgeiaaGreatDoor
