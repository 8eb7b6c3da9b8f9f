/- Parts of the proof, together. The law's first answer, and what its calls answer. Conditions: the words and the errors of api lie in their variables. -/
import Derived.Test.YthjolmjaijoogaaGreatDoorQsbv
import Derived.Test.YthjolmjaijoogaaGreatDoorQsbq
namespace Go.Proofs.YthjolmjaijoogaaGreatDoor
open Go.RowKit
open Lx Ax Sw Px

theorem shows_parts {l : List Nd} {t : List UInt8} (h : shows l t = true) : validF (l ++ [exE ((l.length - 1 : Nat) : Int), blE (l.length : Int)]) = none ∧ (∀ x ∈ l, OpOK x.op) ∧ (∀ x ∈ l, x.s.size ≤ 1000000) ∧ 0 < l.length ∧ l.length ≤ 50000 ∧ goodF l 3 (l.length - 1) = true ∧ txF l 3 (l.length - 1) = t ∧ t.length ≤ 50000 ∧ t ≠ [] ∧ cntF l 3 (l.length - 1) ≤ 50000 := by
  unfold shows at h
  simp only [Bool.and_eq_true, decide_eq_true_eq, beq_iff_eq] at h
  obtain ⟨⟨⟨⟨⟨⟨⟨⟨h1, h2⟩, h3⟩, h4⟩, h5⟩, h6⟩, h7⟩, h8⟩, h9⟩ := h
  refine ⟨?_, fun x hx => ?_, fun x hx => ?_, h3, by omega, h5, h6, by omega, fun e => by rw [e] at h8; simp at h8, by omega⟩
  · show validF (l ++ [exF ((l.length - 1 : Nat) : Int), blF (l.length : Int)]) = none
    split at h1
    · assumption
    · cases h1
  · have := List.all_eq_true.1 h2 x hx
    rw [Bool.and_eq_true] at this
    exact of_decide_eq_true this.1
  · have := List.all_eq_true.1 h2 x hx
    rw [Bool.and_eq_true] at this
    have := of_decide_eq_true this.2
    omega
theorem show_of {A : Nat → Addr} {W : World} (hcx : PCx A W) {g cap n : Nat} {l : List Nd} {vs : List Value} (h : NSrc W g l vs) (hn : n = l.length) {t : List UInt8} (hs : shows l t = true) :
    Calls Tryz.prog 12 #[.slice (some ⟨g, 0, none⟩) n cap] W fun e w' => e = .returned (.tuple #[.string (txt t), .nilIface]) ∧ Below W.heap.size W w' := by
  subst hn
  obtain ⟨h1, h2, h3, h4, h5, h6, h7, h8, h9, h10⟩ := shows_parts hs
  exact showExpr_any A hcx h h4 h5 h1 h2 h3 3 h6 t h7 h8 h9 h10
theorem back_parts {T t : List UInt8} (h : backOK T t = true) : ∃ l, Px.treeF 60 .alone T = some (.ok l) ∧ shows l t = true := by
  unfold backOK at h
  split at h
  · rename_i l hl
    exact ⟨l, hl, h⟩
  · cases h
theorem tr_form {W : World} {B : Nat} {vl : Value} {l : List Nd} {vs : List Value} (h : Tr W B vl l vs) (h0 : 0 < l.length) : ∃ g cap, vl = .slice (some ⟨g, 0, none⟩) l.length cap := by
  obtain ⟨g, cap, e, _⟩ := own_some h.own h0
  exact ⟨g, cap, e⟩
theorem eql_none (w : World) : (binOp .eql 25 .nilIface .nilIface).run Tryz.prog w = .ok (.bool true) w := by kernel_rfl
set_option maxRecDepth 20000 in
set_option maxHeartbeats 3200000 in
theorem sfirst_any (A : Nat → Addr) (W : World) (h : PCx A W) : Calls Tryz.prog 5 #[] W fun e w' => e = .returned (.bool true) ∧ Below W.heap.size W w' := by
  have hen := eql_none
  obtain ⟨la, hla, sa⟩ := back_parts back_a
  obtain ⟨lb, hlb, sb⟩ := back_parts back_b
  have HCX := hid' h
  have HXA := hid' (expr_any A ⟨#[40, 97, 32, 45, 32, 98, 41, 32, 45, 32, 99]⟩ (by decide) W h.vars h.ev 60 _ hla)
  have HXB := hid' (fun W' (hb : Below W.heap.size W W') => expr_any A ⟨#[97, 32, 45, 32, 40, 98, 32, 45, 32, 99, 41]⟩ (by decide) W' (HCX.out.below hb).vars (HCX.out.below hb).ev 60 _ hlb)
  have HSA := hid' sa
  have HSB := hid' sb
  have hpa := (shows_parts sa).2.2.2.1
  have hpb := (shows_parts sb).2.2.2.1
  clear h hla hlb sa sb
  go_enter Tryz.func5, Tryz.ntmps5
  go_wp2_with fail
  refine Calls.mono HXA.out ?_
  rintro e w1 ⟨b1, B1, vl1, vs1, rfl, hB1, hT1⟩
  obtain ⟨ga, ca, rfl⟩ := tr_form hT1 hpa
  have HNA := hid' (nsrc_of hT1 hpa)
  have HB1 := hid' b1
  clear b1 hB1 hT1 HXA
  go_wp2_with fail
  refine Calls.mono (HXB.out w1 HB1.out) ?_
  rintro e w2 ⟨b2, B2, vl2, vs2, rfl, hB2, hT2⟩
  obtain ⟨gb, cb, rfl⟩ := tr_form hT2 hpb
  have HNB := hid' (nsrc_of hT2 hpb)
  replace HNA := hid' (HNA.out.below b2)
  have HB2 := hid' (Below.thenB HB1.out b2)
  clear b2 hB2 hT2 HXB HB1
  go_wp2_with fail
  refine Calls.mono (show_of (HCX.out.below HB2.out) HNA.out rfl HSA.out) ?_
  rintro e w3 ⟨rfl, b3⟩
  replace HNB := hid' (HNB.out.below b3)
  have HB3 := hid' (Below.thenB HB2.out b3)
  clear b3 HB2
  go_wp2_with fail
  refine Calls.mono (show_of (HCX.out.below HB3.out) HNB.out rfl HSB.out) ?_
  rintro e w4 ⟨rfl, b4⟩
  have HB4 := hid' (Below.thenB HB3.out b4)
  clear b4 HB3
  rw [show txt [97, 32, 45, 32, 98, 32, 45, 32, 99] = ⟨#[97, 32, 45, 32, 98, 32, 45, 32, 99]⟩ from rfl, show txt [97, 32, 45, 32, 40, 98, 32, 45, 32, 99, 41] = ⟨#[97, 32, 45, 32, 40, 98, 32, 45, 32, 99, 41]⟩ from rfl]
  go_wp2
  go_returns
  exact ⟨rfl, HB4.out⟩
end Go.Proofs.YthjolmjaijoogaaGreatDoor
