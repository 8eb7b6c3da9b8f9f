/- Parts of the proof, together. What hexDigit and hexPiece answer. Conditions: short texts. -/
import Derived.Test.YtaafhldcdkbnkaaGreatDoorQpas
namespace Go.Proofs.YtaafhldcdkbnkaaGreatDoor
open Go.RowKit
open Lx

def hexOut : Option UInt8 → Value
  | none => .tuple #[.int .u8 0, .bool false]
  | some d => .tuple #[.int .u8 (d.toNat : Int), .bool true]
theorem all_u8 {P : UInt8 → Prop} (h : ∀ n : Fin 256, P (UInt8.ofNat n.val)) (b : UInt8) : P b := by
  have := h ⟨b.toNat, b.toNat_lt⟩
  simpa using this
theorem hexV_iff (b : UInt8) : hexV b = if 48 ≤ (b.toNat : Int) ∧ (b.toNat : Int) ≤ 57 then some (b - 48) else if 97 ≤ (b.toNat : Int) ∧ (b.toNat : Int) ≤ 102 then some (b - 97 + 10) else if 65 ≤ (b.toNat : Int) ∧ (b.toNat : Int) ≤ 70 then some (b - 65 + 10) else none :=
  all_u8 (P := fun b => hexV b = if 48 ≤ (b.toNat : Int) ∧ (b.toNat : Int) ≤ 57 then some (b - 48) else if 97 ≤ (b.toNat : Int) ∧ (b.toNat : Int) ≤ 102 then some (b - 97 + 10) else if 65 ≤ (b.toNat : Int) ∧ (b.toNat : Int) ≤ 70 then some (b - 65 + 10) else none) (by decide +kernel) b
theorem hex_small (b d : UInt8) (h : hexV b = some d) : d.toNat < 16 := by
  have := all_u8 (P := fun b => ((hexV b).getD 0).toNat < 16) (by decide +kernel) b
  simpa [h] using this
theorem sub48 (b : UInt8) : 48 ≤ (b.toNat : Int) → (b.toNat : Int) ≤ 57 → ((b - 48).toNat : Int) = (b.toNat : Int) - 48 :=
  all_u8 (P := fun b => 48 ≤ (b.toNat : Int) → (b.toNat : Int) ≤ 57 → ((b - 48).toNat : Int) = (b.toNat : Int) - 48) (by decide +kernel) b
theorem sub97 (b : UInt8) : 97 ≤ (b.toNat : Int) → (b.toNat : Int) ≤ 102 → ((b - 97 + 10).toNat : Int) = (b.toNat : Int) - 97 + 10 :=
  all_u8 (P := fun b => 97 ≤ (b.toNat : Int) → (b.toNat : Int) ≤ 102 → ((b - 97 + 10).toNat : Int) = (b.toNat : Int) - 97 + 10) (by decide +kernel) b
theorem sub65 (b : UInt8) : 65 ≤ (b.toNat : Int) → (b.toNat : Int) ≤ 70 → ((b - 65 + 10).toNat : Int) = (b.toNat : Int) - 65 + 10 :=
  all_u8 (P := fun b => 65 ≤ (b.toNat : Int) → (b.toNat : Int) ≤ 70 → ((b - 65 + 10).toNat : Int) = (b.toNat : Int) - 65 + 10) (by decide +kernel) b
set_option maxHeartbeats 1600000 in
theorem hexDigit_any (b : UInt8) (w : World) : Calls Tryz.prog 180 #[.int .u8 (b.toNat : Int)] w fun e w' => e = .returned (hexOut (hexV b)) ∧ w' = w := by
  rw [hexV_iff]
  have hlt := byte_lt b
  have hcases : (b.toNat : Int) < 48 ∨ (48 ≤ (b.toNat : Int) ∧ (b.toNat : Int) ≤ 57) ∨ (57 < (b.toNat : Int) ∧ (b.toNat : Int) < 65) ∨ (65 ≤ (b.toNat : Int) ∧ (b.toNat : Int) ≤ 70) ∨ (70 < (b.toNat : Int) ∧ (b.toNat : Int) < 97) ∨ (97 ≤ (b.toNat : Int) ∧ (b.toNat : Int) ≤ 102) ∨ 102 < (b.toNat : Int) := by omega
  rcases hcases with h | ⟨h, h2⟩ | ⟨h, h2⟩ | ⟨h, h2⟩ | ⟨h, h2⟩ | ⟨h, h2⟩ | h
  · rw [if_neg (by omega), if_neg (by omega), if_neg (by omega)]
    generalize (b.toNat : Int) = n at h hlt ⊢
    have h3 : ¬ 48 ≤ n := by omega
    have h4 : ¬ 97 ≤ n := by omega
    have h5 : ¬ 65 ≤ n := by omega
    go_enter Tryz.func180, Tryz.ntmps180
    go_wp2
    go_ret2
    exact ⟨rfl, rfl⟩
  · have hv := sub48 b h h2
    rw [if_pos ⟨h, h2⟩, hexOut, hv]
    clear hv
    generalize (b.toNat : Int) = n at h h2 hlt ⊢
    go_enter Tryz.func180, Tryz.ntmps180
    go_wp2
    go_ret2
    exact ⟨rfl, rfl⟩
  · rw [if_neg (by omega), if_neg (by omega), if_neg (by omega)]
    generalize (b.toNat : Int) = n at h h2 hlt ⊢
    have h3 : ¬ n ≤ 57 := by omega
    have h4 : ¬ 97 ≤ n := by omega
    have h5 : ¬ 65 ≤ n := by omega
    have h6 : 48 ≤ n := by omega
    go_enter Tryz.func180, Tryz.ntmps180
    go_wp2
    go_ret2
    exact ⟨rfl, rfl⟩
  · have hv := sub65 b h h2
    rw [if_neg (by omega), if_neg (by omega), if_pos ⟨h, h2⟩, hexOut, hv]
    clear hv
    generalize (b.toNat : Int) = n at h h2 hlt ⊢
    have h3 : ¬ n ≤ 57 := by omega
    have h4 : ¬ 97 ≤ n := by omega
    have h6 : 48 ≤ n := by omega
    go_enter Tryz.func180, Tryz.ntmps180
    go_wp2
    go_ret2
    exact ⟨rfl, rfl⟩
  · rw [if_neg (by omega), if_neg (by omega), if_neg (by omega)]
    generalize (b.toNat : Int) = n at h h2 hlt ⊢
    have h3 : ¬ n ≤ 57 := by omega
    have h4 : ¬ 97 ≤ n := by omega
    have h5 : ¬ n ≤ 70 := by omega
    have h6 : 48 ≤ n := by omega
    have h7 : 65 ≤ n := by omega
    go_enter Tryz.func180, Tryz.ntmps180
    go_wp2
    go_ret2
    exact ⟨rfl, rfl⟩
  · have hv := sub97 b h h2
    rw [if_neg (by omega), if_pos ⟨h, h2⟩, hexOut, hv]
    clear hv
    generalize (b.toNat : Int) = n at h h2 hlt ⊢
    have h3 : ¬ n ≤ 57 := by omega
    have h6 : 48 ≤ n := by omega
    go_enter Tryz.func180, Tryz.ntmps180
    go_wp2
    go_ret2
    exact ⟨rfl, rfl⟩
  · rw [if_neg (by omega), if_neg (by omega), if_neg (by omega)]
    generalize (b.toNat : Int) = n at h hlt ⊢
    have h3 : ¬ n ≤ 57 := by omega
    have h4 : ¬ n ≤ 102 := by omega
    have h5 : ¬ n ≤ 70 := by omega
    have h6 : 48 ≤ n := by omega
    have h7 : 65 ≤ n := by omega
    have h8 : 97 ≤ n := by omega
    go_enter Tryz.func180, Tryz.ntmps180
    go_wp2
    go_ret2
    exact ⟨rfl, rfl⟩
theorem or_hex (a b : UInt8) (ha : a.toNat < 16) (hb : b.toNat < 16) : bits BinOp.or IntKind.u8 ((a.toNat : Int) * 16) (b.toNat : Int) = (((a <<< 4 ||| b).toNat : Nat) : Int) := by
  have h : ∀ m n : Fin 16, bits BinOp.or IntKind.u8 (((UInt8.ofNat m.val).toNat : Int) * 16) ((UInt8.ofNat n.val).toNat : Int) = ((((UInt8.ofNat m.val) <<< 4 ||| (UInt8.ofNat n.val)).toNat : Nat) : Int) := by decide +kernel
  have := h ⟨a.toNat, ha⟩ ⟨b.toNat, hb⟩
  simpa using this
def pieceV : Option (UInt8 × Nat) → Value
  | none => .tuple #[.int .u8 0, .int .i64 0]
  | some (c, n) => .tuple #[.int .u8 (c.toNat : Int), .int .i64 (n : Int)]
def hexF : List UInt8 → Option (UInt8 × Nat)
  | x :: y :: _ => match hexV x, hexV y with
    | some a, some b => some (a <<< 4 ||| b, 4)
    | _, _ => none
  | _ => none
theorem two_at (s : ByteArray) (h : 4 ≤ s.size) : s.data.toList.drop 2 = s[2] :: s[3] :: s.data.toList.drop 4 := by
  rw [drop_at s 2 (by omega), drop_at s 3 (by omega)]
set_option maxHeartbeats 1600000 in
theorem hexPiece_any (s : ByteArray) (hs : s.size ≤ 1000000) (w : World) : Calls Tryz.prog 168 #[.string s] w fun e w' => e = .returned (pieceV (hexF (s.data.toList.drop 2))) ∧ w' = w := by
  by_cases h4 : s.size < 4
  · have hn : hexF (s.data.toList.drop 2) = none := by
      have hl : (s.data.toList.drop 2).length < 2 := by rw [List.length_drop, Array.length_toList]; show s.size - 2 < 2; omega
      generalize s.data.toList.drop 2 = l at hl ⊢
      match l, hl with
      | [], _ => rfl
      | [_], _ => rfl
      | _ :: _ :: _, hl => simp at hl; omega
    rw [hn]
    have h4' : (s.size : Int) < 4 := by omega
    go_enter Tryz.func168, Tryz.ntmps168
    go_wp2
    go_ret2
    exact ⟨rfl, rfl⟩
  · rw [two_at s (by omega)]
    have h4' : ¬ (s.size : Int) < 4 := by omega
    have h2 : (2 : Int) < (s.size : Int) := by omega
    have h3 : (3 : Int) < (s.size : Int) := by omega
    have H1 := hid' (hexDigit_any s[2])
    have H2 := hid' (hexDigit_any s[3])
    obtain ⟨r, hr⟩ : ∃ r, hexF (s[2] :: s[3] :: s.data.toList.drop 4) = r := ⟨_, rfl⟩
    rw [hr]
    simp only [hexF] at hr
    have h0s : (0 : Int) ≤ (s.size : Int) := by omega
    cases e1 : hexV s[2] with
    | none =>
      have HR : Hid (r = none) := hid' (by rw [← hr, e1])
      rw [e1] at H1
      cases e2 : hexV s[3] with
      | none =>
        rw [e2] at H2
        clear e1 e2 hr
        unfold hexOut at H1 H2
        go_enter Tryz.func168, Tryz.ntmps168
        go_wp2_with fail
        refine (H1.out _).mono ?_
        rintro e w1 ⟨rfl, rfl⟩
        go_wp2_with fail
        refine (H2.out _).mono ?_
        rintro e w1 ⟨rfl, rfl⟩
        go_wp2
        go_ret2
        exact ⟨ret_v (by rw [HR.out]; rfl), rfl⟩
      | some b =>
        rw [e2] at H2
        clear e1 e2 hr
        unfold hexOut at H1 H2
        go_enter Tryz.func168, Tryz.ntmps168
        go_wp2_with fail
        refine (H1.out _).mono ?_
        rintro e w1 ⟨rfl, rfl⟩
        go_wp2_with fail
        refine (H2.out _).mono ?_
        rintro e w1 ⟨rfl, rfl⟩
        go_wp2
        go_ret2
        exact ⟨ret_v (by rw [HR.out]; rfl), rfl⟩
    | some a =>
      have ha := hex_small _ _ e1
      rw [e1] at H1
      cases e2 : hexV s[3] with
      | none =>
        have HR : Hid (r = none) := hid' (by rw [← hr, e1, e2])
        rw [e2] at H2
        clear e1 e2 hr
        unfold hexOut at H1 H2
        go_enter Tryz.func168, Tryz.ntmps168
        go_wp2_with fail
        refine (H1.out _).mono ?_
        rintro e w1 ⟨rfl, rfl⟩
        go_wp2_with fail
        refine (H2.out _).mono ?_
        rintro e w1 ⟨rfl, rfl⟩
        go_wp2
        go_ret2
        exact ⟨ret_v (by rw [HR.out]; rfl), rfl⟩
      | some b =>
        have hb := hex_small _ _ e2
        have HR : Hid (r = some (a <<< 4 ||| b, 4)) := hid' (by rw [← hr, e1, e2])
        have HO := hid' (or_hex a b ha hb)
        rw [e2] at H2
        clear e1 e2 hr
        unfold hexOut at H1 H2
        have ha' : (a.toNat : Int) < 16 := by omega
        have hb' : (b.toNat : Int) < 16 := by omega
        go_enter Tryz.func168, Tryz.ntmps168
        go_wp2_with fail
        refine (H1.out _).mono ?_
        rintro e w1 ⟨rfl, rfl⟩
        go_wp2_with fail
        refine (H2.out _).mono ?_
        rintro e w1 ⟨rfl, rfl⟩
        go_wp2
        go_ret2
        exact ⟨ret_v (by rw [HR.out, pieceV, ← HO.out]; rfl), rfl⟩
end Go.Proofs.YtaafhldcdkbnkaaGreatDoor
