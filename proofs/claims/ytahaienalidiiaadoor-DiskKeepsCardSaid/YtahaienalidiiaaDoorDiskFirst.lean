/- The chapter's example holds. Conditions: the errors of api lie in their variables; the library's number of bytes lies in its. -/
import Derived.Test.YtahaienalidiiaaDoorDiskNew
import Derived.Test.YtahaienalidiiaaDoorDiskRise
namespace Go.Proofs.YtahaienalidiiaaDoor
open Go.RowKit Go.Maps

def nmA : ByteArray := ⟨#[97]⟩
theorem okA : Pth.splitOK Pth.partOK nmA.data.toList = true := by decide
set_option maxRecDepth 100000 in
set_option maxHeartbeats 3200000 in
theorem first_any (A : Nat → Addr) (m : Int) (w : World) (hm : w.cell? ⟨3, 0, none⟩ = some (.int .i64 m)) (hS : Sent A w) :
    Calls Tryd.prog 6 #[] w fun e w' => e = .returned (.bool true) ∧ Below w.heap.size w w' := by
  have hwm := World.block_lt_of_cell? w _ hm
  have hwe := World.block_lt_of_cell? w _ hS.g15
  obtain ⟨B, hB⟩ : ∃ B, w.heap.size = B := ⟨_, rfl⟩
  have HN0 := hid' (new_none w)
  rw [hB] at HN0 hwm hwe
  obtain ⟨sb, hsb⟩ : ∃ sb, B + 1 + 1 = sb := ⟨_, rfl⟩
  obtain ⟨cb, hcb⟩ : ∃ cb, B + 1 = cb := ⟨_, rfl⟩
  rw [hsb, hcb] at HN0
  have h1sb : B ≤ sb := by omega
  have h1cb : B ≤ cb := by omega
  have HM := hid' hm
  have HS := hid' hS
  have HBB := hid' hB
  clear hm hS hsb hcb hB
  rw [show w.heap.size = B from HBB.out]
  go_enter Tryd.func6, Tryd.ntmps6
  go_wp2_with fail
  refine (HN0.out).mono ?_
  rintro e w1 ⟨rfl, D1, b1⟩
  have s1 := b1.size
  rw [HBB.out] at s1
  have m1 := (b1.cell (p := ⟨3, 0, none⟩) hwm).trans HM.out
  have HB1 := hid' b1
  have W1 := hid' (write_any sb nmA ⟨#[120]⟩ .nilIface w1 (do_core (putF (fun _ => none) nmA (hV ⟨#[]⟩ false 0 ⟨#[120]⟩ 0 ⟨#[]⟩ 0 ⟨#[]⟩ 0 ⟨#[]⟩ 1)) 1 D1 hwm (by omega) (by omega) (by omega) (by omega) (by omega) (by omega) nmA (by decide) okA m m1 ⟨#[]⟩ false rfl 0 ⟨#[120]⟩ ⟨#[120]⟩ rfl (by decide) (by decide) (fun W1 hD => note_new hD nmA (by decide) rfl ⟨#[]⟩ false 0 ⟨#[120]⟩ (by omega))))
  clear D1 b1
  unfold nmA at W1
  go_wp2_with fail
  refine (W1.out).mono ?_
  rintro e w2 ⟨rfl, D2, T2⟩
  have m2 := T2.cell D2.high hwm m1
  have HT2 := hid' T2
  have W2 := hid' (sync_up D2 hwm (by omega) (by omega) (by decide) (by decide) (by decide) nmA (by decide) okA m m2)
  clear D2 T2 m1 W1
  unfold nmA at W2
  go_wp2_with fail
  refine (W2.out).mono ?_
  rintro e w3 ⟨rfl, D3, T3⟩
  have m3 := T3.cell D3.high hwm m2
  have HT3 := hid' (HT2.out.trans T3)
  rw [show armed' (armed' 0) = 0 from rfl, show (0 + 1 + 1 : Int) = 2 from rfl] at D3
  have W3 := hid' (append_any sb nmA ⟨#[121, 122]⟩ .nilIface w3 (do_core (putF (delF (putF (fun _ => none) nmA (hV ⟨#[]⟩ false 0 ⟨#[120]⟩ 0 ⟨#[]⟩ 0 ⟨#[]⟩ 0 ⟨#[]⟩ 1)) nmA) nmA histX) 2 D3 hwm (by omega) (by omega) (by omega) (by omega) (by omega) (by omega) nmA (by decide) okA m m3 ⟨#[120]⟩ true (by show (putF (fun _ => none) nmA (cont ⟨#[120]⟩ true) nmA).getD cont0 = _; rw [putF_same]; rfl) 1 ⟨#[121, 122]⟩ ⟨#[120, 121, 122]⟩ rfl (by decide) (by decide) (fun W1 hD => note_new hD nmA (by decide) (delF_same _ _) ⟨#[120]⟩ true 1 ⟨#[121, 122]⟩ (by omega))))
  clear D3 T3 m2 W2 HT2
  unfold nmA at W3
  go_wp2_with fail
  refine (W3.out).mono ?_
  rintro e w4 ⟨rfl, D4, T4⟩
  have m4 := T4.cell D4.high hwm m3
  have HT4 := hid' (HT3.out.trans T4)
  rw [show armed' 0 = 0 from rfl, show (2 + 1 : Int) = 3 from rfl] at D4
  have W4 := hid' (arm_any D4 1)
  clear D4 T4 m3 W3 HT3
  go_wp2_with fail
  refine (W4.out).mono ?_
  rintro e w5 ⟨rfl, D5, T5⟩
  have HT5 := hid' (HT4.out.trans T5)
  have hb15 := Tri.below (Below.refl B w1) HT5.out h1sb (Nat.le_refl B) h1cb s1
  have S5 : Sent A w5 := HS.out.below (by rw [HBB.out]; exact HB1.out.trans hb15)
  have W5 := hid' (sync_last A D5 hwe (by omega) (by omega) nmA S5.g15)
  clear D5 T5 m4 W4 HT4 hb15
  unfold nmA at W5
  go_wp2_with fail
  refine (W5.out).mono ?_
  rintro e w6 ⟨rfl, D6, T6⟩
  have HT6 := hid' (HT5.out.trans T6)
  have W6 := hid' (rise_first D6 (putF_same _ _ _) (fun k hk => by rw [putF_other _ _ hk, delF_other _ hk, putF_other _ _ hk]) (by omega) (by omega))
  clear D6 T6 S5 W5 HT5
  go_wp2_with fail
  refine (W6.out).mono ?_
  rintro e w7 ⟨rfl, D7, T7⟩
  have HT7 := hid' (HT6.out.trans T7)
  have W7 := hid' (read_up D7 (by omega) (by omega) (by decide) (by decide) (by decide) nmA (by decide) ⟨#[120, 121]⟩ true (by rw [show (⟨#[97]⟩ : ByteArray) = nmA from rfl, putF_same]; rfl))
  clear D7 T7 W6 HT6
  unfold nmA at W7
  go_wp2_with fail
  refine (W7.out).mono ?_
  rintro e w8 ⟨rfl, D8, T8⟩
  have hb18 := Tri.below (Below.refl B w1) (HT7.out.trans T8) h1sb (Nat.le_refl B) h1cb s1
  have hb8 : Below B w w8 := HB1.out.trans hb18
  have S8 : Sent A w8 := HS.out.below (by rw [HBB.out]; exact hb8)
  have HI := hid' (Is_bare (A := A) (v := E A 15) (c := 116) 116 (.inr ⟨15, by omega, rfl, rfl⟩) w8 S8)
  have HB8 := hid' hb8
  clear D8 T8 S8 W7 HT7 hb18 hb8
  unfold E tells at *
  go_wp2_with fail
  refine (HI.out).mono ?_
  rintro e w9 ⟨rfl, hb9⟩
  have hb09 := HB8.out.trans (hb9.mono (by have := HB8.out.size; rw [HBB.out] at this; exact this))
  have HB9 := hid' hb09
  clear hb9 hb09 HI
  go_wp2
  go_ret
  exact ⟨rfl, HB9.out⟩
end Go.Proofs.YtahaienalidiiaaDoor
