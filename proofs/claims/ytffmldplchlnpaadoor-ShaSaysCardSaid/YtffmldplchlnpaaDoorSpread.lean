/- What sha.spread answers of a block of 64 bytes. Conditions: the block's cells hold the bytes. -/
import Derived.Test.YtffmldplchlnpaaDoorSha
import Derived.BigQuiet
import Derived.BigRegion
import Derived.Deep.QuietTactic
import Derived.Laws.Rows
import Derived.Laws.Tables
import Derived.Laws.CopyRow
import Derived.Below
import Derived.Great.BuildSlice
namespace Go.Proofs.YtffmldplchlnpaaDoor
open Go.RowKit

theorem hidden {p : Prop} (h : p) : Hid p := h
def wcells (ws : List W32) : Array Value := (ws.map fun x => Value.int .u32 (wv x)).toArray
def bval (x : UInt8) : Value := .int .u8 (x.toNat : Int)
/-- From a cell on the bytes stand one behind the other. -/
def At (w : World) (bk off : Nat) (bs : List UInt8) : Prop := ∀ j x, bs[j]? = some x → w.cell? ⟨bk, off + j, none⟩ = some (bval x)

theorem At.get {w : World} {bk off : Nat} {bs : List UInt8} (h : At w bk off bs) (j : Nat) (hj : j < bs.length) : w.cell? ⟨bk, off + j, none⟩ = some (.int .u8 ((bs.getD j 0).toNat : Int)) := by
  refine h j _ ?_
  rw [List.getD_eq_getElem?_getD, List.getElem?_eq_getElem hj]
  rfl
theorem At.below {w w' : World} {bk off B : Nat} {bs : List UInt8} (h : At w bk off bs) (hb : Below B w w') (hB : bk < B) : At w' bk off bs := fun j x hx => (hb.cell (p := ⟨bk, off + j, none⟩) hB).trans (h j x hx)
theorem wcells_set (ws : List W32) (t : Nat) (x : W32) : (wcells ws).setIfInBounds t (.int .u32 (wv x)) = wcells (ws.set t x) := by
  simp [wcells]
theorem wcells_get (ws : List W32) (t : Nat) (h : t < ws.length) : (wcells ws)[t]? = some (.int .u32 (wv (ws.getD t 0))) := by
  simp [wcells, List.getElem?_eq_getElem h]
theorem wcells_size (ws : List W32) : (wcells ws).size = ws.length := by simp [wcells]

theorem wcells_one (ws : List W32) (cs : Array Value) (h : wcells ws = cs) : cs.all (·.oneCell') = true := by
  subst h
  refine Array.all_eq_true_iff_forall_mem.2 fun v hv => ?_
  simp only [wcells, List.mem_toArray, List.mem_map] at hv
  obtain ⟨x, _, rfl⟩ := hv
  rfl
theorem Below.setRow' {B g : Nat} {w0 w : World} (hb : Below B w0 w) (hBg : B ≤ g) (cs : Array Value) : Below B w0 (w.setRow g cs) :=
  hb.trans ⟨rfl, rfl, rfl, by simp, fun k hk => setRow_other w g k cs (by omega)⟩
theorem w_b4 (a b c d : UInt8) : bits .or .u32 (bits .or .u32 (bits .or .u32 ((a.toNat : Int) * 16777216) ((b.toNat : Int) * 65536)) ((c.toNat : Int) * 256)) (d.toNat : Int) = wv (be4 a b c d) := by
  have h (x : UInt8) (n k : Nat) (hn : n ≤ 24) (hk : k = 2 ^ n) : (x.toNat : Int) * (k : Int) = wv (BitVec.ofNat 32 x.toNat <<< n) := by
    unfold wv
    have := x.toNat_lt
    rw [BitVec.toNat_shiftLeft, Nat.shiftLeft_eq, BitVec.toNat_ofNat, hk]
    have e1 : x.toNat % 2 ^ 32 = x.toNat := Nat.mod_eq_of_lt (by omega)
    have e2 : x.toNat * 2 ^ n < 2 ^ 32 := by
      have : 2 ^ n ≤ 2 ^ 24 := Nat.pow_le_pow_right (by omega) hn
      calc x.toNat * 2 ^ n ≤ 255 * 2 ^ 24 := Nat.mul_le_mul (by omega) this
        _ < 2 ^ 32 := by decide
    rw [e1, Nat.mod_eq_of_lt e2]
    simp
  have hd : (d.toNat : Int) = wv (BitVec.ofNat 32 d.toNat) := by
    have := d.toNat_lt
    unfold wv
    rw [BitVec.toNat_ofNat, Nat.mod_eq_of_lt (by omega)]
  rw [show (16777216 : Int) = ((16777216 : Nat) : Int) from rfl, show (65536 : Int) = ((65536 : Nat) : Int) from rfl, show (256 : Int) = ((256 : Nat) : Int) from rfl,
    h a 24 _ (by omega) rfl, h b 16 _ (by omega) rfl, h c 8 _ (by omega) rfl, hd, w_or, w_or, w_or, be4]
theorem w_b4' (a b c d : UInt8) : bits .or .u32 (bits .or .u32 (bits .or .u32 ((a.toNat : Int) % 4294967296 * 16777216 % 4294967296) ((b.toNat : Int) % 4294967296 * 65536 % 4294967296)) ((c.toNat : Int) % 4294967296 * 256 % 4294967296)) ((d.toNat : Int) % 4294967296) = wv (be4 a b c d) := by
  have ha := a.toNat_lt
  have hb := b.toNat_lt
  have hc := c.toNat_lt
  have hd := d.toNat_lt
  rw [show (a.toNat : Int) % 4294967296 * 16777216 % 4294967296 = (a.toNat : Int) * 16777216 by omega, show (b.toNat : Int) % 4294967296 * 65536 % 4294967296 = (b.toNat : Int) * 65536 by omega,
    show (c.toNat : Int) % 4294967296 * 256 % 4294967296 = (c.toNat : Int) * 256 by omega, show (d.toNat : Int) % 4294967296 = (d.toNat : Int) by omega, w_b4]
theorem w_shr' (a : W32) (n : Nat) (k : Int) (h : k = 2 ^ n) : wv a / k = wv (a >>> n) := by rw [h, w_shr]

set_option maxHeartbeats 1600000 in
theorem spread_any (bk off cap : Nat) (bs : List UInt8) (w : World) (hn : bs.length = 64) (hc : 64 ≤ cap) (hB : bk < w.heap.size) (hA : At w bk off bs) :
    Calls Tryd.prog 32 #[.slice (some ⟨bk, off, none⟩) 64 cap] w fun e w' => e = .returned (.agg (wcells (wsB bs 48))) ∧ Below w.heap.size w w' := by
  have HA := hidden hA
  clear hA
  go_enter Tryd.func32, Tryd.ntmps32
  go_wp2
  go_loopw [11] (fun i wr => ∃ t : Nat, ∃ z : Array Value, t ≤ 16 ∧ i = .int .i64 t ∧ z.size = 64 ∧ Hid (Below (w.heap.size + 1) (w.alloc (.cells z 68)) wr) ∧ Hid (wr.heap[w.heap.size + 1]? = some (.cells (wcells (wsA bs t)) 68 (0, 0)))) (fun i _ => 16 - (intOf i).toNat)
  case atStart => exact ⟨0, _, Nat.zero_le _, rfl, rfl, (Below.refl _ _).alloc (by simp) _, by rw [show w.heap.size + 1 = (w.alloc (.cells _ 68)).heap.size by simp]; exact heap_alloc_new _ _⟩
  case round =>
    obtain ⟨t, z, ht, rfl, hz, hb, hg⟩ := hrel
    by_cases hlt : t < 16
    · have hAt := HA.out.below (B := w.heap.size) (w' := wr) (((Below.refl _ _).alloc (Nat.le_refl _) _).trans (hb.out.mono (by omega))) hB
      have c0 := hAt.get (4 * t) (by omega)
      have c1 := hAt.get (4 * t + 1) (by omega)
      have c2 := hAt.get (4 * t + 2) (by omega)
      have c3 := hAt.get (4 * t + 3) (by omega)
      rw [← Nat.add_assoc] at c1 c2 c3
      clear hAt
      have hcell := cell_of_row wr (w.heap.size + 1) t _ _ _ hg.out
      have hfr := frozen_of_row wr (w.heap.size + 1) t _ _ hg.out
      have hin : t < (wsA bs t).length := by rw [wsA_len]; omega
      rw [wcells_get _ _ hin] at hcell
      generalize (wsA bs t).getD t 0 = old at hcell
      generalize e0 : (bs.getD (4 * t) 0) = b0 at c0
      generalize e1 : (bs.getD (4 * t + 1) 0) = b1 at c1
      generalize e2 : (bs.getD (4 * t + 2) 0) = b2 at c2
      generalize e3 : (bs.getD (4 * t + 3) 0) = b3 at c3
      go_wp2
      go_region
      rw [w_b4' b0 b1 b2 b3]
      go_wp2
      go_roundw
      case rel =>
        refine ⟨t + 1, z, by omega, by go_num, hz, hidden ((hb.out.setCell (Nat.le_refl _) _).drew), ?_⟩
        refine hidden ((heap_setCell_same wr (w.heap.size + 1) t _ _ _ hg.out).trans ?_)
        rw [wcells_set, ← e0, ← e1, ← e2, ← e3]
        rfl
      case measure => simp [intOf]; omega
    · have h16 : Hid (t = 16) := hidden (by omega)
      go_wp2
      go_loopw [6] (fun i wr => ∃ t : Nat, 16 ≤ t ∧ t ≤ 64 ∧ i = .int .i64 t ∧ Hid (Below (w.heap.size + 1) (w.alloc (.cells z 68)) wr) ∧ Hid (wr.heap[w.heap.size + 1]? = some (.cells (wcells (wsB bs (t - 16))) 68 (0, 0)))) (fun i _ => 64 - (intOf i).toNat)
      case atStart => exact ⟨16, by omega, by omega, rfl, hb, by rw [← show wsA bs t = wsB bs (16 - 16) by rw [h16.out]; rfl]; exact hg⟩
      case round =>
        clear hb hg
        obtain ⟨t, ht0, ht, rfl, hb, hg⟩ := hrel
        by_cases hlt : t < 64
        · have hl := wsB_len bs (t - 16)
          have hcell (i : Nat) (hi : i < 64) : wr.cell? ⟨w.heap.size + 1, i, none⟩ = some (.int .u32 (wv ((wsB bs (t - 16)).getD i 0))) := (cell_of_row wr (w.heap.size + 1) i _ _ _ hg.out).trans (wcells_get _ _ (by omega))
          have hfr := frozen_of_row wr (w.heap.size + 1) t _ _ hg.out
          have c15 := hcell (t - 15) (by omega)
          have c2 := hcell (t - 2) (by omega)
          have c7 := hcell (t - 7) (by omega)
          have c16 := hcell (t - 16) (by omega)
          have cc := hcell t (by omega)
          clear hcell
          generalize e15 : (wsB bs (t - 16)).getD (t - 15) 0 = w15 at c15
          generalize e2 : (wsB bs (t - 16)).getD (t - 2) 0 = w2 at c2
          generalize e7 : (wsB bs (t - 16)).getD (t - 7) 0 = w7 at c7
          generalize e16 : (wsB bs (t - 16)).getD (t - 16) 0 = w16 at c16
          generalize (wsB bs (t - 16)).getD t 0 = old at cc
          have s0 : bits .xor .u32 (bits .xor .u32 (wv (rotr w15 7)) (wv (rotr w15 18))) (wv w15 / 8) = wv (sig0 w15) := by rw [w_shr' w15 3 8 rfl, w_xor, w_xor]; rfl
          have s1 : bits .xor .u32 (bits .xor .u32 (wv (rotr w2 17)) (wv (rotr w2 19))) (wv w2 / 1024) = wv (sig1 w2) := by rw [w_shr' w2 10 1024 rfl, w_xor, w_xor]; rfl
          go_wp2
          go_region
          go_wp2_with (go_at_call 33; (first | with_reducible refine (rot_at w15 7 (-7) rfl (by omega) (by omega) _).mono ?_ | with_reducible refine (rot_at w15 18 (-18) rfl (by omega) (by omega) _).mono ?_ | with_reducible refine (rot_at w2 17 (-17) rfl (by omega) (by omega) _).mono ?_ | with_reducible refine (rot_at w2 19 (-19) rfl (by omega) (by omega) _).mono ?_); rintro e w' ⟨rfl, rfl⟩)
          go_region
          rw [w_add4 (sig1 w2) w7 (sig0 w15) w16]
          go_wp2
          go_roundw
          case rel =>
            refine ⟨t + 1, by omega, by omega, by go_num, hidden ((hb.out.setCell (Nat.le_refl _) _).drew.drew), ?_⟩
            refine hidden ((heap_setCell_same wr (w.heap.size + 1) t _ _ _ hg.out).trans ?_)
            rw [wcells_set, show t + 1 - 16 = (t - 16) + 1 by omega, ← e15, ← e2, ← e7, ← e16]
            simp only [wsB, nextW, show t - 16 + 16 = t by omega]
          case measure => simp [intOf]; omega
        · obtain rfl : t = 64 := by omega
          have hsz : (Tryd.prog.info? 68).map (·.size) = some 64 := by kernel_rfl
          have hres : wr.heap[w.heap.size]? = some (.cells z 68 (0, 0)) := (hb.out.block _ (by omega)).trans (heap_alloc_new _ _)
          have hcs : (wcells (wsB bs 48)).size = 64 := by rw [wcells_size, wsB_len]
          rw [show (64 - 16 : Nat) = 48 from rfl] at hg
          generalize hcs' : wcells (wsB bs 48) = cs at hg hcs
          go_wp2_with (first | (with_reducible refine wpList_load_row rfl 68 _ rfl (w.heap.size + 1) rfl _ cs (0, 0) _ hg.out Tryd.underlying68 rfl (by rw [hcs]; exact hsz) ?_) | (with_reducible refine wpList_store_rowTo rfl 68 _ _ rfl rfl w.heap.size cs rfl rfl _ z hres (by rw [hcs]; exact hsz) (by omega) (wcells_one _ _ hcs') ?_))
          refine bodyPost_ret (v := .agg cs) ?_ rfl ⟨by rw [hcs'], ?_⟩
          · exact results_cell_row (fn := Tryd.f32) (p := 2) (ty := 68) (by kernel_rfl) _ _ w.heap.size _ cs (0, 0) _ (by simp [Act.put]) (setRow_heap wr w.heap.size z cs _ _ hres) Tryd.underlying68 rfl (by rw [hcs]; exact hsz)
          · exact Below.setRow' (((Below.refl _ _).alloc (Nat.le_refl _) _).trans (hb.out.mono (by omega))) (Nat.le_refl _) cs
end Go.Proofs.YtffmldplchlnpaaDoor
