/- What Parse answers of a digest's digits: the digest. Conditions: the text has 64 bytes, each a digit. -/
import Derived.Test.YtffmldplchlnpaaDoorShelf
import Derived.Test.YtffmldplchlnpaaDoorText
import Derived.Laws.ResultCell
namespace Go.Proofs.YtffmldplchlnpaaDoor
open Go.RowKit

def digitsL : List UInt8 := [48, 49, 50, 51, 52, 53, 54, 55, 56, 57, 97, 98, 99, 100, 101, 102]
/-- Which digit a byte is; -1. -/
def nibI (x : UInt8) : Int := Lib.indexByte digitsL x
theorem nib_all : ∀ n : Fin 256, nibI (UInt8.ofNat n.1) = -1 ∨ (0 ≤ nibI (UInt8.ofNat n.1) ∧ nibI (UInt8.ofNat n.1) ≤ 15) := by decide +kernel
theorem byte_all {P : UInt8 → Prop} (h : ∀ n : Fin 256, P (UInt8.ofNat n.1)) (x : UInt8) : P x := by
  have := h ⟨x.toNat, x.toNat_lt⟩
  rwa [show UInt8.ofNat x.toNat = x by simp] at this
theorem nib_range (x : UInt8) : nibI x = -1 ∨ (0 ≤ nibI x ∧ nibI x ≤ 15) := byte_all (P := fun x => nibI x = -1 ∨ (0 ≤ nibI x ∧ nibI x ≤ 15)) nib_all x
def or4 (a : UInt8) (n : Nat) : UInt8 := (a <<< 4) ||| UInt8.ofNat n
theorem or4_all : ∀ (a : Fin 256) (m : Fin 16), bits .or .u8 ((a.1 : Int) * 16 % 256) (m.1 : Int) = ((or4 (UInt8.ofNat a.1) m.1).toNat : Int) := by decide +kernel
theorem or4_bits (a : UInt8) (m : Nat) (h : m ≤ 15) : bits .or .u8 ((a.toNat : Int) * 16 % 256) (m : Int) = ((or4 a m).toNat : Int) := by
  have := or4_all ⟨a.toNat, a.toNat_lt⟩ ⟨m, by omega⟩
  rwa [show UInt8.ofNat a.toNat = a by simp] at this
/-- What the first signs of a text make, two a byte. -/
def accP (s : List UInt8) : Nat → List UInt8
  | 0 => List.replicate 32 0
  | i + 1 => (accP s i).set (i / 2) (or4 ((accP s i).getD (i / 2) 0) (nibI (s.getD i 0)).toNat)
theorem accP_len (s : List UInt8) (i : Nat) : (accP s i).length = 32 := by
  induction i with
  | zero => rfl
  | succ i ih => rw [accP, List.length_set, ih]
theorem hexT_get (bs : List UInt8) : ∀ k, k < bs.length → (hexT bs).getD (2 * k) 0 = hexDigit ((bs.getD k 0).toNat / 16) ∧ (hexT bs).getD (2 * k + 1) 0 = hexDigit ((bs.getD k 0).toNat % 16) := by
  induction bs with
  | nil => intro k hk; cases hk
  | cons b bs ih =>
    intro k hk
    have hc : hexT (b :: bs) = hexDigit (b.toNat / 16) :: hexDigit (b.toNat % 16) :: hexT bs := by simp [hexT, hexB]
    rw [hc]
    cases k with
    | zero => exact ⟨rfl, rfl⟩
    | succ k =>
      have := ih k (by simpa using hk)
      rw [show 2 * (k + 1) = 2 * k + 1 + 1 by omega]
      simpa using this
theorem nib_digit : ∀ n : Fin 16, nibI (hexDigit n.1) = (n.1 : Int) := by decide +kernel
theorem or4_twice : ∀ n : Fin 256, or4 (or4 0 (n.1 / 16)) (n.1 % 16) = UInt8.ofNat n.1 := by decide +kernel
theorem accP_hex (bs : List UInt8) (hl : bs.length = 32) : ∀ k, k ≤ 32 → accP (hexT bs) (2 * k) = bs.take k ++ List.replicate (32 - k) 0 := by
  intro k
  induction k with
  | zero => intro _; simp [accP]
  | succ k ih =>
    intro hk
    have h := ih (by omega)
    obtain ⟨g1, g2⟩ := hexT_get bs k (by omega)
    have n1 := nib_digit ⟨(bs.getD k 0).toNat / 16, by have := (bs.getD k 0).toNat_lt; omega⟩
    have n2 := nib_digit ⟨(bs.getD k 0).toNat % 16, by omega⟩
    have o := or4_twice ⟨(bs.getD k 0).toNat, (bs.getD k 0).toNat_lt⟩
    rw [show UInt8.ofNat (bs.getD k 0).toNat = bs.getD k 0 by simp] at o
    have hlt : k < bs.length := by omega
    have hb : bs.getD k 0 = bs[k] := by rw [List.getD_eq_getElem?_getD, List.getElem?_eq_getElem hlt]; rfl
    have hlen : (bs.take k).length = k := by rw [List.length_take]; omega
    have hrep : List.replicate (32 - k) (0 : UInt8) = 0 :: List.replicate (32 - (k + 1)) 0 := by rw [show 32 - k = (32 - (k + 1)) + 1 by omega, List.replicate_succ]
    have hset (x y : UInt8) : (bs.take k ++ x :: List.replicate (32 - (k + 1)) 0).set k y = bs.take k ++ y :: List.replicate (32 - (k + 1)) 0 := by
      rw [List.set_append_right _ _ (by omega), hlen, Nat.sub_self]
      rfl
    have hget (x : UInt8) : (bs.take k ++ x :: List.replicate (32 - (k + 1)) 0).getD k 0 = x := by
      rw [List.getD_eq_getElem?_getD, List.getElem?_append_right (by omega), hlen, Nat.sub_self]
      rfl
    rw [show 2 * (k + 1) = 2 * k + 1 + 1 by omega, accP, accP, h, show 2 * k / 2 = k by omega, show (2 * k + 1) / 2 = k by omega, g1, g2, n1, n2, hrep, hget, hset, hget, hset]
    simp only [Int.toNat_natCast]
    rw [o, hb, show bs.take (k + 1) = bs.take k ++ [bs[k]] from List.take_succ_eq_append_getElem hlt, List.append_assoc]
    rfl
theorem accP_back (bs : List UInt8) (hl : bs.length = 32) : accP (hexT bs) 64 = bs := by
  have := accP_hex bs hl 32 (Nat.le_refl _)
  rw [show 64 = 2 * 32 from rfl, this, List.take_of_length_le (by omega)]
  simp
theorem nib_hex (bs : List UInt8) (hl : bs.length = 32) (i : Nat) (hi : i < 64) : ∃ m : Nat, m ≤ 15 ∧ nibI ((hexT bs).getD i 0) = (m : Int) := by
  obtain ⟨g1, g2⟩ := hexT_get bs (i / 2) (by omega)
  by_cases h : i % 2 = 0
  · rw [show i = 2 * (i / 2) by omega, g1]
    have h2 : (bs.getD (i / 2) 0).toNat / 16 < 16 := by have := (bs.getD (i / 2) 0).toNat_lt; omega
    exact ⟨_, by omega, nib_digit ⟨_, h2⟩⟩
  · rw [show i = 2 * (i / 2) + 1 by omega, g2]
    have h2 : (bs.getD (i / 2) 0).toNat % 16 < 16 := by omega
    exact ⟨_, by omega, nib_digit ⟨_, h2⟩⟩

theorem str_index (s : ByteArray) (t : Nat) (h : t < s.size) (w : World) : (Instr.index 9 (.string s) (.int .i64 (t : Int))).run Tryd.prog w = .ok (.int .u8 ((s.data.toList.getD t 0).toNat : Int)) w := by
  have hd : s[t]? = some (s.data.toList.getD t 0) := by
    rw [List.getD_eq_getElem?_getD, Array.getElem?_toList, Array.getElem?_eq_getElem (show t < s.data.size from h)]
    simp [h]
    rfl
  simp [Instr.index, run_underlying Tryd.underlying9, asIntOf, hd]
theorem nib_call (x : UInt8) (w : World) : Calls Tryd.prog 20 #[.string ⟨#[48, 49, 50, 51, 52, 53, 54, 55, 56, 57, 97, 98, 99, 100, 101, 102]⟩, .int .u8 (x.toNat : Int)] w fun e w' => e = .returned (.int .i64 (nibI x)) ∧ w' = w := by
  have := Tryd.strings_IndexByte ⟨#[48, 49, 50, 51, 52, 53, 54, 55, 56, 57, 97, 98, 99, 100, 101, 102]⟩ (x.toNat : Int) w
  rwa [show (x.toNat : Int).toNat.toUInt8 = x by simp] at this

set_option maxHeartbeats 1600000 in
theorem parse_ok (s : ByteArray) (hs : s.size = 64) (hnib : ∀ i, i < 64 → ∃ m : Nat, m ≤ 15 ∧ nibI (s.data.toList.getD i 0) = (m : Int)) (w : World) :
    Calls Tryd.prog 7 #[.string s] w fun e w' => e = .returned (.tuple #[.agg (bcells (accP s.data.toList 64)), .nilIface]) ∧ Below w.heap.size w w' := by
  have hinfo2 : (Tryd.prog.info? 26).map (·.size) = some 32 := by kernel_rfl
  have hix := fun t (h : t < 64) W => str_index s t (by omega) W
  obtain ⟨L, hL⟩ : ∃ L, s.data.toList = L := ⟨_, rfl⟩
  rw [hL] at hnib hix ⊢
  have HIX := hidden hix
  have HNIB := hidden hnib
  clear hnib hix hL
  go_enter Tryd.func7, Tryd.ntmps7
  go_wp2
  go_loopw [14] (fun i wr => ∃ t : Nat, ∃ z : Array Value, t ≤ 64 ∧ i = .int .i64 t ∧ z.size = 32 ∧ Hid (Below (w.heap.size + 1) (w.alloc (.cells z 26)) wr) ∧ Hid (wr.heap[w.heap.size + 1]? = some (.cells (bcells (accP L t)) 26 (0, 0)))) (fun i _ => 64 - (intOf i).toNat)
  case atStart => exact ⟨0, _, Nat.zero_le _, rfl, rfl, (Below.refl _ _).alloc (by simp) _, by rw [show w.heap.size + 1 = (w.alloc (.cells _ 26)).heap.size by simp]; exact heap_alloc_new _ _⟩
  case round =>
    obtain ⟨t, z, ht, rfl, hz, hb, hg⟩ := hrel
    by_cases hlt : t < 64
    · have hix := fun W => HIX.out t hlt W
      obtain ⟨m, hm, hnm⟩ := HNIB.out t hlt
      have hal := accP_len L t
      have hcell : wr.cell? ⟨w.heap.size + 1, t / 2, none⟩ = some (bval ((accP L t).getD (t / 2) 0)) := by
        rw [cell_of_row wr (w.heap.size + 1) (t / 2) _ _ _ hg.out]
        exact bcells_get _ _ (by omega)
      have hfr := frozen_of_row wr (w.heap.size + 1) (t / 2) _ _ hg.out
      have hst : (bcells (accP L t)).setIfInBounds (t / 2) (bval (or4 ((accP L t).getD (t / 2) 0) m)) = bcells (accP L (t + 1)) := by
        rw [accP, hnm, Int.toNat_natCast, bcells, bcells, List.setIfInBounds_toArray, List.map_set]
      generalize L.getD t 0 = x at hix hnm
      generalize (accP L t).getD (t / 2) 0 = a at hcell hst
      have hor := or4_bits a m hm
      simp only [bval] at hcell
      have HST := hidden hst
      have HNM := hidden hnm
      have hib : Hid (∀ W, Calls Tryd.prog 20 #[.string ⟨#[48, 49, 50, 51, 52, 53, 54, 55, 56, 57, 97, 98, 99, 100, 101, 102]⟩, .int .u8 (x.toNat : Int)] W fun e w' => e = .returned (.int .i64 (m : Int)) ∧ w' = W) := hidden (fun W => by rw [← hnm]; exact nib_call x W)
      clear hst hnm hal
      go_wp2_with (go_at_call 20; refine (hib.out _).mono ?_; rintro e w' ⟨rfl, rfl⟩)
      have hBN := hidden (hb.out.setCell (p := ⟨w.heap.size + 1, t / 2, none⟩) (Nat.le_refl _) (.int .u8 ((or4 a m).toNat : Int)))
      have hGN : Hid ((World.setCell w' ⟨w.heap.size + 1, t / 2, none⟩ (.int .u8 ((or4 a m).toNat : Int))).heap[w.heap.size + 1]? = some (.cells (bcells (accP L (t + 1))) 26 (0, 0))) := hidden ((heap_setCell_same w' (w.heap.size + 1) (t / 2) _ _ _ hg.out).trans (by rw [← HST.out]; rfl))
      go_roundw
      case rel => exact ⟨t + 1, z, by omega, by go_num, hz, hBN, hGN⟩
      case measure => simp [intOf]; omega
    · have h64 : Hid (t = 64) := hidden (by omega)
      have hcs' : (bcells (accP L t)).size = 32 := by rw [bcells_size, accP_len]
      have hres : wr.heap[w.heap.size]? = some (.cells z 26 (0, 0)) := (hb.out.block _ (by omega)).trans (heap_alloc_new _ _)
      have hone := bcells_one (accP L t) _ rfl
      have hE : Hid (bcells (accP L t) = bcells (accP L 64)) := hidden (by rw [h64.out])
      generalize bcells (accP L t) = cg at hg hcs' hone hE
      go_wp2_with (first | (with_reducible refine wpList_load_row rfl 26 _ rfl (w.heap.size + 1) rfl _ cg (0, 0) _ hg.out Tryd.underlying26 rfl (by rw [hcs']; exact hinfo2) ?_) | (with_reducible refine wpList_store_rowTo rfl 26 _ _ rfl rfl w.heap.size cg rfl rfl _ z hres (by rw [hcs']; exact hinfo2) (by omega) hone ?_))
      have hld := run_loadVar_row (P := Tryd.prog) (wr.setRow w.heap.size cg) w.heap.size _ 26 cg (0, 0) _ (setRow_heap wr w.heap.size z cg _ _ hres) Tryd.underlying26 rfl (by rw [hcs']; exact hinfo2)
      refine bodyPost_ret (v := .tuple #[.agg cg, .nilIface]) ?_ rfl ⟨by rw [hE.out], ?_⟩
      · rw [results_cell_tmp (fn := Tryd.f7) (p := 2) (u := 3) (ty := 26) (by kernel_rfl)]
        simp [asAddr, Result.andThen, hld]
      · exact Below.setRow' (((Below.refl _ _).alloc (Nat.le_refl _) _).trans (hb.out.mono (by omega))) (Nat.le_refl _) cg
theorem parse_back (bs : List UInt8) (hl : bs.length = 32) (w : World) :
    Calls Tryd.prog 7 #[.string ⟨(hexT bs).toArray⟩] w fun e w' => e = .returned (.tuple #[.agg (bcells bs), .nilIface]) ∧ Below w.heap.size w w' := by
  have h := parse_ok ⟨(hexT bs).toArray⟩ (by show (hexT bs).toArray.size = 64; rw [List.size_toArray, hexT_len, hl]) (nib_hex bs hl) w
  rwa [show accP (ByteArray.mk (hexT bs).toArray).data.toList 64 = bs from accP_back bs hl] at h
end Go.Proofs.YtffmldplchlnpaaDoor
