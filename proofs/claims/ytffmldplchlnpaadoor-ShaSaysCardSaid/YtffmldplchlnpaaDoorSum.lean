/- What New, Sum and Of answer. Conditions: the package's tables are as its text lays them; fewer than 2^30 bytes. -/
import Derived.Test.YtffmldplchlnpaaDoorBytes
import Derived.Great.Walk
namespace Go.Proofs.YtffmldplchlnpaaDoor
open Go.RowKit

def bcells (bs : List UInt8) : Array Value := (bs.map bval).toArray
theorem bcells_size (bs : List UInt8) : (bcells bs).size = bs.length := by simp [bcells]
theorem bcells_one (bs : List UInt8) (cs : Array Value) (h : bcells bs = cs) : cs.all (·.oneCell') = true := by
  subst h
  exact Array.all_eq_true_iff_forall_mem.2 fun v hv => bval_one bs v (by simpa [bcells] using hv)
theorem whole_len (m : List UInt8) : (whole m).length = (whole m).length / 64 * 64 := by
  have h : (whole m).length = m.length + (1 + (noughts m.length + 8)) := by simp [whole, padF, words4]; omega
  rw [h, noughts]
  split <;> omega

theorem new_any (w : World) (hT : Tabs w) : Calls Tryd.prog 17 #[] w fun e w' => e = .returned (.pointer (some ⟨w.heap.size, 0, none⟩)) ∧ StateOf w' w.heap.size [] ∧ Below w.heap.size w w' := by
  have c0 := hT.first 0 (by omega)
  have c1 := hT.first 1 (by omega)
  have c2 := hT.first 2 (by omega)
  have c3 := hT.first 3 (by omega)
  have c4 := hT.first 4 (by omega)
  have c5 := hT.first 5 (by omega)
  have c6 := hT.first 6 (by omega)
  have c7 := hT.first 7 (by omega)
  clear hT
  go_enter Tryd.func17, Tryd.ntmps17
  go_wp2
  go_ret
  refine ⟨rfl, ⟨List.replicate 64 0, ⟨(heap_alloc_new _ _).trans ?_, rfl, rfl⟩, rfl⟩, (Below.refl _ _).alloc (Nat.le_refl _) _⟩
  kernel_rfl

theorem StateOf.below {w w' : World} {sb B : Nat} {m : List UInt8} (h : StateOf w sb m) (hb : Below B w w') (hB : sb < B) : StateOf w' sb m := by
  obtain ⟨rest, h1, h2⟩ := h
  exact ⟨rest, h1.below hb hB, h2⟩
theorem padF_len (n : Nat) : (padF n).length = noughts n + 9 := by simp [padF, words4]
theorem noughts_le (n : Nat) : noughts n ≤ 63 := by unfold noughts; split <;> omega
/-- The first bytes of an answer, noughts behind them. -/
def part (bs : List UInt8) (i : Nat) : List UInt8 := bs.take i ++ List.replicate (32 - i) 0
theorem part_len (bs : List UInt8) (i : Nat) (h : bs.length = 32) (hi : i ≤ 32) : (part bs i).length = 32 := by simp [part]; omega
theorem part_all (bs : List UInt8) (h : bs.length = 32) : part bs 32 = bs := by rw [part, List.take_of_length_le (by omega)]; simp
theorem part_set (bs : List UInt8) (i : Nat) (h : bs.length = 32) (hi : i < 32) : (bcells (part bs i)).setIfInBounds i (bval (bs.getD i 0)) = bcells (part bs (i + 1)) := by
  have hlt : i < bs.length := by omega
  have h1 : bs.getD i 0 = bs[i] := by rw [List.getD_eq_getElem?_getD, List.getElem?_eq_getElem hlt]; rfl
  rw [bcells, bcells, List.setIfInBounds_toArray, part, part]
  congr 1
  rw [show 32 - i = (32 - (i + 1)) + 1 by omega, List.replicate_succ, List.map_append, List.set_append_right _ _ (by simp; omega), h1]
  simp [show min i bs.length = i by omega, List.take_succ_eq_append_getElem (show i < (bs.map bval).length by simpa using hlt)]
theorem wv_byte (x : W32) (s : Nat) : Value.int .u8 (wv x / 2 ^ s % 256) = bval (byteN x.toNat s) := by
  rw [bval_byteN, wv]
  congr 1

set_option maxHeartbeats 1600000 in
theorem sum_any (sb : Nat) (m : List UInt8) (w : World) (hlen : m.length < 1073741824) (hS : StateOf w sb m) (hT : Tabs w) (h1 : 2 < sb) :
    Calls Tryd.prog 19 #[.pointer (some ⟨sb, 0, none⟩)] w fun e w' => e = .returned (.agg (bcells (digest m))) ∧ Below w.heap.size w w' := by
  have hz : ∀ w, (zeroValue 64).run Tryd.prog w = .ok (.agg (stCells (List.replicate 8 0#32) (List.replicate 64 0) 0)) w := (zero_of_info (n := 73) (by kernel_rfl)).1
  obtain ⟨rest, hS, hR⟩ := hS
  have hlt := hS.lt
  have hst := stCells_size (hashN m (m.length / 64)) rest m.length hS.2.1 hS.2.2
  have hg := hS.1
  have hrl := hS.2.2
  generalize hcs : stCells (hashN m (m.length / 64)) rest m.length = cs at hst hg
  have hone : cs.all (·.oneCell') = true := by
    rw [← hcs]
    refine Array.all_eq_true_iff_forall_mem.2 fun v hv => ?_
    simp only [stCells, List.mem_toArray, List.mem_append, List.mem_map, List.mem_singleton] at hv
    rcases hv with ⟨x, _, rfl⟩ | ⟨x, _, rfl⟩ | rfl <;> rfl
  have hinfo : (Tryd.prog.info? 64).map (·.size) = some 73 := by kernel_rfl
  have HC := hidden hcs
  have HRL := hidden hrl
  have HR := hidden hR
  have HT := hidden hT
  have hln := hS.len
  clear hS hcs hR hT hrl
  go_enter Tryd.func19, Tryd.ntmps19
  go_wp2_with (first | (with_reducible refine wpList_load_row rfl 64 _ rfl sb rfl _ cs (0, 0) _ ((Below.heap_alloc w _ sb hlt).trans hg) Tryd.underlying64 rfl (by rw [hst]; exact hinfo) ?_))
  have hs1 : ∀ (z c : Array Value) (t : TypeId), c.size = 73 → (storeCells ⟨w.heap.size + 1, 0, none⟩ cs.toList).run Tryd.prog ((w.alloc (.cells z t)).alloc (.cells c 64)) = .ok () ((w.alloc (.cells z t)).alloc (.cells cs 64)) := by
    intro z c t hc
    have := run_storeCells_new (P := Tryd.prog) (w.alloc (.cells z t)) 64 c cs (by rw [hst]; exact hinfo) (by omega) hone
    rwa [World.size_alloc] at this
  rw [hs1]
  rotate_left
  · rfl
  clear hs1
  obtain ⟨z, hz'⟩ : ∃ z : Array Value, z = #[Value.int .u8 0, Value.int .u8 0, Value.int .u8 0, Value.int .u8 0, Value.int .u8 0, Value.int .u8 0, Value.int .u8 0, Value.int .u8 0, Value.int .u8 0, Value.int .u8 0, Value.int .u8 0, Value.int .u8 0, Value.int .u8 0, Value.int .u8 0, Value.int .u8 0, Value.int .u8 0, Value.int .u8 0, Value.int .u8 0, Value.int .u8 0, Value.int .u8 0, Value.int .u8 0, Value.int .u8 0, Value.int .u8 0, Value.int .u8 0, Value.int .u8 0, Value.int .u8 0, Value.int .u8 0, Value.int .u8 0, Value.int .u8 0, Value.int .u8 0, Value.int .u8 0, Value.int .u8 0] := ⟨_, rfl⟩
  have hz32 : z.size = 32 := by rw [hz']; rfl
  have hzb : z = bcells (List.replicate 32 0) := by rw [hz']; rfl
  rw [← hz']
  have HZ := hidden hzb
  clear hz' hzb hz
  have hb1 : Below w.heap.size w ((w.alloc (.cells z 26)).alloc (.cells cs 64)) := ((Below.refl _ _).alloc (Nat.le_refl _) _).alloc (by simp) _
  have hres : ((w.alloc (.cells z 26)).alloc (.cells cs 64)).heap[w.heap.size]? = some (.cells z 26 (0, 0)) := (Below.heap_alloc _ _ _ (by simp)).trans (heap_alloc_new _ _)
  have hend : ((w.alloc (.cells z 26)).alloc (.cells cs 64)).heap[w.heap.size + 1]? = some (.cells cs 64 (0, 0)) := by
    rw [show w.heap.size + 1 = (w.alloc (.cells z 26)).heap.size by simp]
    exact heap_alloc_new _ _
  have hsz2 : ((w.alloc (.cells z 26)).alloc (.cells cs 64)).heap.size = w.heap.size + 2 := by simp
  generalize (w.alloc (.cells z 26)).alloc (.cells cs 64) = w2 at hb1 hres hend hsz2 ⊢
  have hl2 := (hb1.cell (p := ⟨sb, 72, none⟩) hlt).trans hln
  have hT2 := hidden (HT.out.below hb1 (by omega) (by omega))
  have hE : StateOf w2 (w.heap.size + 1) m := ⟨rest, ⟨by rw [HC.out]; exact hend, hashN_len _ _, HRL.out⟩, HR.out⟩
  have HE := hidden hE
  have HB := hidden hb1
  have HRES := hidden hres
  obtain ⟨n, hn⟩ : ∃ n, m.length = n := ⟨_, rfl⟩
  rw [hn] at hl2 hlen
  have HN := hidden hn
  clear hE hb1 hres hend hg hln hn hone
  go_wp2_with (go_at_call 28; refine (padding_any n (by omega) w2).mono ?_; rintro e w3 ⟨pv, rfl, hpo, hb3⟩)
  obtain ⟨ao, pc, rfl, hpc, hpat⟩ := hpo.at
  have hE3 := HE.out.below hb3 (by omega)
  have hT3 := hT2.out.below hb3 (by omega) (by omega)
  have hpl := padF_len n
  have hnl := noughts_le n
  have hwr := write_any (w.heap.size + 1) m (padF n) ao pc w3 hpc (by rw [HN.out]; omega) (fun hp => by
    obtain ⟨g, e1, e2, e3, e4⟩ := hpat hp
    exact ⟨g, 0, e1, e3, by omega, e4⟩) hE3 hT3 (by omega)
  have HW := hidden hwr
  have HB3 := hidden (HB.out.trans (hb3.mono (by omega)))
  have HRES3 := hidden ((hb3.block w.heap.size (by omega)).trans HRES.out)
  have hsz3 := hb3.size
  clear hE3 hT3 hpl hnl hwr hpat hpo hpc HE HT hT2 HRES HB hb3 hl2
  go_wp2_with (go_at_call 18; refine (HW.out).mono ?_; rintro e w4 ⟨rfl, hS4, hb4⟩)
  have hinfo2 : (Tryd.prog.info? 26).map (·.size) = some 32 := by kernel_rfl
  obtain ⟨rest4, hS4, _⟩ := hS4
  have HS4 := hidden hS4
  have HB4 := hidden (hb4.below HB3.out (by omega) (by omega))
  have HRES4 := hidden ((hb4.block w.heap.size (by omega) (by omega)).trans HRES3.out)
  have hsz4 := hb4.size
  have hDG : outB (hashN (m ++ padF n) ((m ++ padF n).length / 64)) = digest m := by rw [digest, whole, HN.out]
  have hhl := hashN_len (m ++ padF n) ((m ++ padF n).length / 64)
  generalize hashN (m ++ padF n) ((m ++ padF n).length / 64) = hf at HS4 hDG hhl
  have HHL := hidden hhl
  have HDG := hidden hDG
  have hDL : (digest m).length = 32 := digest_len m
  generalize hdm : digest m = dg at HDG hDL
  have HDM := hidden hdm
  clear hdm
  clear hS4 hb4 hDG hhl HW HB3 HRES3
  go_loopw [15] (fun i wr => ∃ t : Nat, t ≤ 32 ∧ i = .int .i64 t ∧ Hid (Below w4.heap.size w4 wr) ∧ Hid (wr.heap[w4.heap.size]? = some (.cells (bcells (part dg t)) 26 (0, 0)))) (fun i _ => 32 - (intOf i).toNat)
  case atStart => exact ⟨0, Nat.zero_le _, rfl, (Below.refl _ _).alloc (Nat.le_refl _) _, heap_alloc_new _ _⟩
  case round =>
    obtain ⟨t, ht, rfl, hb, hg⟩ := hrel
    by_cases hlt : t < 32
    · have hcc := (HS4.out.below hb.out (by omega)).hash (t / 4) (by omega)
      have hpl := part_len dg t hDL (by omega)
      obtain ⟨sh, hsh⟩ : ∃ s, 24 - 8 * (t % 4) = s := ⟨_, rfl⟩
      have hsi : (24 : Int) - 8 * ((t : Int) % 4) = (sh : Int) := by omega
      have hsle : sh ≤ 24 := by omega
      have hold : wr.cell? ⟨w4.heap.size, t, none⟩ = some (bval ((part dg t).getD t 0)) := by
        rw [cell_of_row wr w4.heap.size t _ _ _ hg.out, bcells]
        simp only [List.getElem?_toArray, List.getElem?_map]
        rw [List.getElem?_eq_getElem (by omega)]
        simp [List.getD_eq_getElem?_getD, List.getElem?_eq_getElem (show t < (part dg t).length by omega)]
      have hfr := frozen_of_row wr w4.heap.size t _ _ hg.out
      have hdg : dg.getD t 0 = byteN (hf.getD (t / 4) 0).toNat sh := by
        rw [← HDG.out, outB, List.getD_eq_getElem?_getD, List.getElem?_map, List.getElem?_range hlt, ← hsh]
        rfl
      generalize hf.getD (t / 4) 0 = hw at hcc hdg
      have HDT := hidden hdg
      generalize (part dg t).getD t 0 = old at hold
      clear hdg hsh hpl
      go_wp2
      rw [wv_byte hw sh, ← HDT.out]
      have hps := part_set dg t hDL hlt
      go_roundw
      case rel =>
        exact ⟨t + 1, by omega, by go_num, hidden (hb.out.setCell (Nat.le_refl _) _), hidden ((heap_setCell_same wr w4.heap.size t _ _ _ hg.out).trans (by rw [hps]))⟩
      case measure => simp [intOf]; omega
    · have h32 : Hid (t = 32) := hidden (by omega)
      have hcs' : (bcells (part dg t)).size = 32 := by rw [bcells_size, part_len dg t hDL (by omega)]
      have hres : wr.heap[w.heap.size]? = some (.cells z 26 (0, 0)) := (hb.out.block _ (by omega)).trans HRES4.out
      have hd32 : part dg t = dg := by rw [h32.out]; exact part_all dg hDL
      rw [hd32] at hcs' hg
      generalize hcg : bcells dg = cg at hg hcs' ⊢
      go_wp2_with (first | (with_reducible refine wpList_load_row rfl 26 _ rfl w4.heap.size rfl _ cg (0, 0) _ hg.out Tryd.underlying26 rfl (by rw [hcs']; exact hinfo2) ?_) | (with_reducible refine wpList_store_rowTo rfl 26 _ _ rfl rfl w.heap.size cg rfl rfl _ z hres (by rw [hcs']; exact hinfo2) (by omega) (bcells_one _ _ hcg) ?_))
      refine bodyPost_ret (v := .agg cg) ?_ rfl ⟨by rw [← hcg, HDM.out], ?_⟩
      · exact results_cell_row (fn := Tryd.f19) (p := 2) (ty := 26) (by kernel_rfl) _ _ w.heap.size _ cg (0, 0) _ (by simp [Act.put]) (setRow_heap wr w.heap.size z cg _ _ hres) Tryd.underlying26 rfl (by rw [hcs']; exact hinfo2)
      · exact Below.setRow' (HB4.out.trans (hb.out.mono (by omega))) (Nat.le_refl _) cg

theorem run_storeCells_row (w : World) (g : Nat) (t ty : TypeId) (old c' : Array Value) (hg : w.heap[g]? = some (.cells old t (0, 0))) (hi : (Tryd.prog.info? ty).map (·.size) = some c'.size) (ho : old.size = c'.size) (h1 : c'.all (·.oneCell') = true) :
    (storeCells ⟨g, 0, none⟩ c'.toList 0).run Tryd.prog w = .ok () (w.setRow g c') := by
  have := run_storeVar_row (P := Tryd.prog) w g t ty old c' hg hi ho h1
  cases hq : Tryd.prog.info? ty with
  | none => simp [hq] at hi
  | some i =>
    have hs : c'.size = i.size := by simp [hq] at hi; omega
    simpa [storeVar, sizeOf, typeInfo, hq, Value.cells, hs] using this

/-- What Sum answers of a text, said of an answer under a name of its own. -/
def SumSays (b : List UInt8) (cg : Array Value) : Prop := ∀ (sb : Nat) (w : World), 2 < sb → StateOf w sb b → Tabs w → Calls Tryd.prog 19 #[.pointer (some ⟨sb, 0, none⟩)] w fun e w' => e = .returned (.agg cg) ∧ Below w.heap.size w w'

set_option maxHeartbeats 800000 in
theorem of_core (cg : Array Value) (hdm : cg.size = 32) (hone : cg.all (·.oneCell') = true) (ao : Option Addr) (cap : Nat) (b : List UInt8) (w : World) (hcap : b.length ≤ cap) (hlen : b.length < 1073741824) (hsum : SumSays b cg) (hX : Src w ao b) (hT : Tabs w) (h1 : 2 < w.heap.size) :
    Calls Tryd.prog 10 #[.slice ao b.length cap] w fun e w' => e = .returned (.agg cg) ∧ Below w.heap.size w w' := by
  have hinfo2 : (Tryd.prog.info? 26).map (·.size) = some 32 := by kernel_rfl
  have HSUM := hidden hsum
  have HX := hidden hX
  have HT := hidden hT
  obtain ⟨l, hl⟩ : ∃ l, b.length = l := ⟨_, rfl⟩
  have HL := hidden hl
  rw [hl] at hcap hlen ⊢
  have HONE := hidden hone
  clear hsum hX hT hl hone
  go_enter Tryd.func10, Tryd.ntmps10
  go_wp2_with fail
  obtain ⟨z, hz'⟩ : ∃ z : Array Value, z = #[Value.int .u8 0, Value.int .u8 0, Value.int .u8 0, Value.int .u8 0, Value.int .u8 0, Value.int .u8 0, Value.int .u8 0, Value.int .u8 0, Value.int .u8 0, Value.int .u8 0, Value.int .u8 0, Value.int .u8 0, Value.int .u8 0, Value.int .u8 0, Value.int .u8 0, Value.int .u8 0, Value.int .u8 0, Value.int .u8 0, Value.int .u8 0, Value.int .u8 0, Value.int .u8 0, Value.int .u8 0, Value.int .u8 0, Value.int .u8 0, Value.int .u8 0, Value.int .u8 0, Value.int .u8 0, Value.int .u8 0, Value.int .u8 0, Value.int .u8 0, Value.int .u8 0, Value.int .u8 0] := ⟨_, rfl⟩
  have hz32 : z.size = 32 := by rw [hz']; rfl
  rw [← hz']
  clear hz'
  have hb1 : Below w.heap.size w (w.alloc (.cells z 26)) := (Below.refl _ _).alloc (Nat.le_refl _) _
  have hres : (w.alloc (.cells z 26)).heap[w.heap.size]? = some (.cells z 26 (0, 0)) := heap_alloc_new _ _
  have hsz2 : (w.alloc (.cells z 26)).heap.size = w.heap.size + 1 := by simp
  generalize w.alloc (.cells z 26) = w2 at hb1 hres hsz2 ⊢
  have hT2 := HT.out.below hb1 (by omega) (by omega)
  refine (new_any w2 hT2).mono ?_
  rintro e w3 ⟨rfl, hS3, hb3⟩
  have hszb := hb3.size
  obtain ⟨sb, hsb⟩ : ∃ sb, w2.heap.size = sb := ⟨_, rfl⟩
  have hsw : w.heap.size < sb := by omega
  rw [hsb] at hS3 hb3 hszb ⊢
  clear hsz2
  have hT3 := hT2.below (B := sb) hb3 (by omega) (by omega)
  have hX3 : SrcX w3 sb ao b := fun hp => by
    obtain ⟨bk, off, e1, e2, e3⟩ := HX.out hp
    exact ⟨bk, off, e1, by omega, by omega, (e3.below hb1 e2).below hb3 (by omega)⟩
  have hw := write_any sb [] b ao cap w3 (by rw [HL.out]; exact hcap) (by rw [HL.out]; simp; omega) hX3 hS3 hT3 (by omega)
  rw [HL.out, List.nil_append] at hw
  have HW := hidden hw
  have hb13 := hidden (hb1.trans (hb3.mono (by omega)))
  have hres3 := hidden ((hb3.block w.heap.size (by omega)).trans hres)
  have HT3 := hidden hT3
  have hlt3 : sb < w3.heap.size := by
    obtain ⟨_, h, _⟩ := hS3
    exact h.lt
  clear hb1 hb3 hres hT2 hT3 hX3 hw hS3 hszb hsb
  go_wp2_with (first | (go_at_call 18; refine (HW.out).mono ?_; rintro e w4 ⟨rfl, hS4, hb4⟩) | (go_at_call 19; refine (HSUM.out sb w4 (by omega) hS4 (HT3.out.turned hb4 (by omega) (by omega))).mono ?_; rintro e w5 ⟨rfl, hb5⟩; have hres5 := (hb5.block w.heap.size (by have := hb4.size; omega)).trans ((hb4.block w.heap.size (by omega) (by omega)).trans hres3.out); have hst5 := run_storeCells_row w5 w.heap.size _ 26 z cg hres5 (by rw [hdm]; exact hinfo2) (by omega) HONE.out))
  refine bodyPost_ret (v := .agg cg) ?_ rfl ⟨rfl, ?_⟩
  · exact results_cell_row (fn := Tryd.f10) (p := 2) (ty := 26) (by kernel_rfl) _ _ w.heap.size _ cg (0, 0) _ (by simp) (setRow_heap w5 w.heap.size z cg _ _ hres5) Tryd.underlying26 rfl (by rw [hdm]; exact hinfo2)
  · exact Below.setRow' ((hb4.below hb13.out (by omega) (by omega)).trans (hb5.mono (by have := hb4.size; omega))) (Nat.le_refl _) cg
theorem sum_says (b : List UInt8) (hlen : b.length < 1073741824) : SumSays b (bcells (digest b)) := fun sb w h1 hS hT => sum_any sb b w hlen hS hT h1
theorem of_any (ao : Option Addr) (cap : Nat) (b : List UInt8) (w : World) (hcap : b.length ≤ cap) (hlen : b.length < 1073741824) (hX : Src w ao b) (hT : Tabs w) (h1 : 2 < w.heap.size) :
    Calls Tryd.prog 10 #[.slice ao b.length cap] w fun e w' => e = .returned (.agg (bcells (digest b))) ∧ Below w.heap.size w w' :=
  of_core _ (by rw [bcells_size, digest_len]) (bcells_one _ _ rfl) ao cap b w hcap hlen (sum_says b hlen) hX hT h1
end Go.Proofs.YtffmldplchlnpaaDoor
