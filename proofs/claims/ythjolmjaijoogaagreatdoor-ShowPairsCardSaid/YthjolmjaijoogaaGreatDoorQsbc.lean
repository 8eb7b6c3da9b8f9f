/- Parts of the proof, together. What ast's fault, allows, inside and isModule answer, for those Ops. Conditions: the nodes lie below the world's end; each node's kids lie ahead of it. What ast.Valid answers, for names, sums, expressions and blocks. Conditions: the nodes lie below the world's end; the words and the errors of api lie in their variables; at most 2^20 nodes, short names. What ast.Same answers of a tree and itself. Conditions: the nodes lie below the world's end; at most 2^20. What ast.Same answers of two lists of nodes whose nodes go in pairs. Conditions: both are trees; the nodes lie below the world's end; at most 2^20. -/
import Derived.Deep.RegionWith
import Derived.Test.YthjolmjaijoogaaGreatDoorQsba
import Derived.Test.YthjolmjaijoogaaGreatDoorQsaz
import Derived.Test.YthjolmjaijoogaaGreatDoorQsah
import Derived.Test.YthjolmjaijoogaaGreatDoorQsbb
namespace Go.Proofs.YthjolmjaijoogaaGreatDoor
open Go.RowKit
open Lx Ax

theorem astFault_any (A : Nat → Addr) (pos : Int) (W : World) (hS : W.cell? ⟨2, 0, none⟩ = some (E A 12)) :
    Calls Tryz.prog 36 #[.int .i64 pos] W fun e w' => e = .returned (.iface 67 (.pointer (some ⟨W.heap.size, 0, none⟩))) ∧ w'.heap[W.heap.size]? = some (.cells #[.int .i64 pos, E A 12] 90 (0, 0)) ∧ Below W.heap.size W w' := by
  unfold E at hS ⊢
  go_enter Tryz.func36, Tryz.ntmps36
  go_wp2
  go_ret
  exact ⟨rfl, alloc_new' _ _, (Below.refl _ _).alloc (Nat.le_refl _) _⟩
theorem allows_any (a b c : Bool) (op : Int) (ho : OpOK op) (W : World) :
    Calls Tryz.prog 67 #[.agg #[.bool a, .bool b, .bool c], .int .i64 op] W fun e w' => e = .returned (.bool true) ∧ Below W.heap.size W w' := by
  rcases ho.each with rfl | rfl | rfl | rfl | rfl | rfl | rfl | rfl | rfl | rfl | rfl | rfl | rfl | rfl | rfl | rfl | rfl | rfl | rfl | rfl | rfl | rfl | rfl
  all_goals
    go_enter Tryz.func67, Tryz.ntmps67
    go_wp2
    go_ret
    exact ⟨rfl, (Below.refl _ _).alloc (Nat.le_refl _) _⟩
theorem inside_any (a b c : Bool) (op : Int) (ho : OpOK op) (W : World) :
    Calls Tryz.prog 69 #[.agg #[.bool a, .bool b, .bool c], .int .i64 op] W fun e w' => e = .returned (.agg #[.bool a, .bool b, .bool c]) ∧ Below W.heap.size W w' := by
  rcases ho.each with rfl | rfl | rfl | rfl | rfl | rfl | rfl | rfl | rfl | rfl | rfl | rfl | rfl | rfl | rfl | rfl | rfl | rfl | rfl | rfl | rfl | rfl | rfl
  all_goals
    go_enter Tryz.func69, Tryz.ntmps69
    go_wp2
    exact bodyPost_ret (v := .agg #[.bool a, .bool b, .bool c]) (by simp [results, Tryz.results69, go_sem]) rfl ⟨rfl, ((Below.refl _ _).alloc (Nat.le_refl _) _).alloc (by simp) _⟩
theorem info_within : (Tryz.prog.info? 117).map (fun i => (i.zero, i.size, i.bytes)) = some (some (.agg #[.bool false, .bool false, .bool false]), 3, 3) := by kernel_rfl
theorem made_withins (n : Nat) : madeCells (Value.agg #[.bool false, .bool false, .bool false]).cells (n * 3) = (flags (List.replicate (n * 3) false)).toArray := by
  apply Array.ext
  · simp [madeCells, flags]
  · intro i h1 h2
    have h3 : i % 3 = 0 ∨ i % 3 = 1 ∨ i % 3 = 2 := by omega
    rcases h3 with h | h | h <;> simp [madeCells, flags, Value.cells, h]
theorem make_withins (n : Nat) (hn : n ≤ 1048576) (W : World) : (Instr.makeSlice 115 (.int .i64 (n : Int)) (.int .i64 (n : Int))).run Tryz.prog W = .ok (.slice (some ⟨W.heap.size, 0, none⟩) n n) (W.alloc (.cells (flags (List.replicate (n * 3) false)).toArray 117)) := by
  obtain ⟨i0, hi, hz0, hz1, hz2⟩ := info_parts info_within
  rw [run_make (P := Tryz.prog) W 115 117 i0 _ Tryz.underlying115 hi hz0 .i64 .i64 (n : Int) (n : Int) (by omega) (by omega) (by rw [hz2]; omega) (by omega), hz1, Int.toNat_natCast, made_withins]
theorem op_eq (op : Int) (b : Bool) (h : (op == 47) = b) : op = 47 ∧ b = true ∨ (op == 47) = false ∧ (op != 47) = true ∧ b = false := by
  cases b with
  | true => exact .inl ⟨by simpa using h, rfl⟩
  | false => exact .inr ⟨h, by simpa using h, rfl⟩
set_option maxRecDepth 10000 in
set_option maxHeartbeats 1600000 in
theorem isModule_any (n : Nat) (ao : Option Addr) (cap : Nat) (l : List Nd) (w : World) (hl : l.length ≤ 1048576) (hpos : 0 < l.length) (hN : NodesAt n w ao l) (hn : n ≤ w.heap.size) (ho : ∀ x ∈ l, OpOK x.op) (hk : ∀ (k : Nat) (h : k < l.length), ∀ z ∈ l[k].kids, 0 ≤ z ∧ z < k) :
    Calls Tryz.prog 38 #[.slice ao l.length cap] w fun e w' => e = .returned (.bool (decide (l[l.length - 1].op = 47))) ∧ Below w.heap.size w w' := by
  have HN := hid' hN
  have HO := hid' ho
  have HK := hid' hk
  have hmk := make_withins l.length hl
  have hm1 : (l.length : Int) - 1 = ((l.length - 1 : Nat) : Int) := by omega
  have hm2 : ((l.length - 1 : Nat) : Int) < (l.length : Int) := by omega
  obtain ⟨b, v, hao, hbn, hnode⟩ := hN.node (l.length - 1) (by omega)
  have hc0 := hnode.op
  obtain ⟨op, hop⟩ : ∃ op, l[l.length - 1].op = op := ⟨_, rfl⟩
  rw [hop] at hc0 ⊢
  subst hao
  clear hN ho hk hnode hop
  by_cases h47 : op = 47
  · subst h47
    have HR1 := hid' (row_new w 117 (flags (List.replicate (l.length * 3) false)))
    have HB1 := hid' ((Below.refl w.heap.size w).alloc (Nat.le_refl _) (.cells (flags (List.replicate (l.length * 3) false)).toArray 117))
    go_enter Tryz.func38, Tryz.ntmps38
    go_wp2
    clear hc0
    go_loopw [5] (fun c wr => ∃ (m : Nat) (T : List Bool), m ≤ l.length ∧ c = .int .i64 ((m : Int) - 1) ∧ T.length = l.length * 3 ∧ Hid (RowV wr w.heap.size 117 (flags T)) ∧ Hid (Below w.heap.size w wr)) (fun c _ => (intOf c + 1).toNat)
    case atStart => exact ⟨l.length, _, Nat.le_refl _, by first | rfl | (rw [← hm1]), by simp, HR1, HB1⟩
    case round =>
      obtain ⟨m, T, hm, rfl, hTl, hr, hb⟩ := hrel
      cases m with
      | zero =>
        go_wp2
        go_ret
        exact ⟨rfl, hb.out⟩
      | succ k =>
        have hk1 : ((k + 1 : Nat) : Int) - 1 = (k : Int) := by omega
        rw [hk1]
        have hkl : k < l.length := by omega
        have hkl' : (k : Int) < (l.length : Int) := by omega
        obtain ⟨b2, v2, hao2, hb2n, hnode0⟩ := HN.out.node k hkl
        have hnode := hnode0.keep hb2n (hb.out.mono hn) (Nat.le_refl _)
        injection hao2 with hao2
        injection hao2 with hao2 _ _
        subst hao2
        have hop := HO.out _ (List.getElem_mem hkl)
        have hkr := HK.out k hkl
        have e0 := hnode.op
        have e4 := hnode.kids
        have hlist := hnode.list
        have hlist0 := hnode0.list
        generalize hopn : l[k].op = op2 at hop e0
        generalize hkids : l[k].kids = zs at hkr hlist hlist0
        have HLIST := hid' (fun (W' : World) (h : Below w.heap.size w W') => hlist0.keep (h.mono hn) (Nat.le_refl _))
        have HKR := hid' hkr
        obtain ⟨ako, kcap, hv2, ⟨hkc, hzl⟩, _⟩ := hlist0
        subst hv2
        have HAL := hid' (fun a b c W' => allows_any a b c op2 hop W')
        have HIN := hid' (fun a b c W' => inside_any a b c op2 hop W')
        have h45 : (op2 == 45) = false := by unfold OpOK at hop; simp; omega
        obtain ⟨a0, ha0⟩ : ∃ x, T[k * 3]? = some x := ⟨_, List.getElem?_eq_getElem (by omega)⟩
        obtain ⟨a1, ha1⟩ : ∃ x, T[k * 3 + 1]? = some x := ⟨_, List.getElem?_eq_getElem (by omega)⟩
        obtain ⟨a2, ha2⟩ : ∃ x, T[k * 3 + 2]? = some x := ⟨_, List.getElem?_eq_getElem (by omega)⟩
        have c0 := hr.out.cell (flags_at ha0)
        have c1 := hr.out.cell (flags_at ha1)
        have c2 := hr.out.cell (flags_at ha2)
        have HOLD := hid' (fun (W' : World) (h : Below wr.heap.size wr W') => (show W'.cell? ⟨w.heap.size, k * 3, none⟩ = some (.bool a0) ∧ W'.cell? ⟨w.heap.size, k * 3 + 1, none⟩ = some (.bool a1) ∧ W'.cell? ⟨w.heap.size, k * 3 + 2, none⟩ = some (.bool a2) ∧ W'.cell? ⟨b, k * 5, none⟩ = some (.int .i64 op2) ∧ W'.cell? ⟨b, k * 5 + 4, none⟩ = some (.slice ako zs.length kcap) ∧ KidsAt n W' (.slice ako zs.length kcap) zs from by
          have hw1 := hr.out.lt
          have hb1 : b < wr.heap.size := by omega
          exact ⟨(h.cell (by exact hw1)).trans c0, (h.cell (by exact hw1)).trans c1, (h.cell (by exact hw1)).trans c2, (h.cell (by exact hb1)).trans e0, (h.cell (by exact hb1)).trans e4, hlist.keep (h.mono (by omega)) (Nat.le_refl _)⟩))
        clear hnode hnode0 hopn hkids hlist ha0 ha1 ha2 hop hkr
        go_wp2_with fail
        refine wp_region_held_drew (S := fun W => Below wr.heap.size wr W) (by kernel_rfl) (Below.refl _ _).drew (fun hHeld => ?_)
        refine take_val' (i := 0) (v := (.slice (some ⟨w.heap.size, 0, none⟩) l.length l.length)) rfl (by kernel_rfl) (by kernel_rfl) (by kernel_rfl) (some 26) rfl (fun _ _ _ h => h) (Or.inl ⟨by rfl, fun W hW => by go_simp⟩) hHeld ?_
        simp only [Act.put, List.setIfInBounds_toArray, List.set_cons_zero, List.set_cons_succ]
        refine take_val' (i := 1) (v := (.int .i64 (k : Int))) rfl (by kernel_rfl) (by kernel_rfl) (by kernel_rfl) (some 27) rfl (fun _ _ _ h => h) (Or.inl ⟨by rfl, fun W hW => by go_simp⟩) hHeld ?_
        simp only [Act.put, List.setIfInBounds_toArray, List.set_cons_zero, List.set_cons_succ]
        refine take_val' (i := 2) (v := (.pointer (some ⟨w.heap.size, k * 3, none⟩))) rfl (by kernel_rfl) (by kernel_rfl) (by kernel_rfl) (some 28) rfl (fun _ _ _ h => h) (Or.inl ⟨by rfl, fun W hW => by go_simp⟩) hHeld ?_
        simp only [Act.put, List.setIfInBounds_toArray, List.set_cons_zero, List.set_cons_succ]
        refine take_val' (i := 3) (v := (.agg #[.bool a0, .bool a1, .bool a2])) rfl (by kernel_rfl) (by kernel_rfl) (by kernel_rfl) (some 29) rfl (fun _ _ _ h => h) (Or.inl ⟨by rfl, fun W hW => by obtain ⟨f0, f1, f2, f3, f4, _⟩ := HOLD.out W hW; go_simp⟩) hHeld ?_
        simp only [Act.put, List.setIfInBounds_toArray, List.set_cons_zero, List.set_cons_succ]
        refine take_val' (i := 4) (v := (.slice (some ⟨b, 0, none⟩) l.length cap)) rfl (by kernel_rfl) (by kernel_rfl) (by kernel_rfl) (some 30) rfl (fun _ _ _ h => h) (Or.inl ⟨by rfl, fun W hW => by go_simp⟩) hHeld ?_
        simp only [Act.put, List.setIfInBounds_toArray, List.set_cons_zero, List.set_cons_succ]
        refine take_val' (i := 5) (v := (.int .i64 (k : Int))) rfl (by kernel_rfl) (by kernel_rfl) (by kernel_rfl) (some 31) rfl (fun _ _ _ h => h) (Or.inl ⟨by rfl, fun W hW => by go_simp⟩) hHeld ?_
        simp only [Act.put, List.setIfInBounds_toArray, List.set_cons_zero, List.set_cons_succ]
        refine take_val' (i := 6) (v := (.pointer (some ⟨b, k * 5, none⟩))) rfl (by kernel_rfl) (by kernel_rfl) (by kernel_rfl) (some 32) rfl (fun _ _ _ h => h) (Or.inl ⟨by rfl, fun W hW => by go_simp⟩) hHeld ?_
        simp only [Act.put, List.setIfInBounds_toArray, List.set_cons_zero, List.set_cons_succ]
        refine take_val' (i := 7) (v := (.pointer (some ⟨b, k * 5, none⟩))) rfl (by kernel_rfl) (by kernel_rfl) (by kernel_rfl) (some 33) rfl (fun _ _ _ h => h) (Or.inl ⟨by rfl, fun W hW => by go_simp⟩) hHeld ?_
        simp only [Act.put, List.setIfInBounds_toArray, List.set_cons_zero, List.set_cons_succ]
        refine take_val' (i := 8) (v := (.int .i64 op2)) rfl (by kernel_rfl) (by kernel_rfl) (by kernel_rfl) (some 34) rfl (fun _ _ _ h => h) (Or.inl ⟨by rfl, fun W hW => by obtain ⟨f0, f1, f2, f3, f4, _⟩ := HOLD.out W hW; go_simp⟩) hHeld ?_
        simp only [Act.put, List.setIfInBounds_toArray, List.set_cons_zero, List.set_cons_succ]
        refine wpAnyH_ready (rs := [9]) (by kernel_rfl) (by simp) ?_
        refine AllReadyH.cons rfl (fun K hK => ?_) AllReadyH.nil
        go_simp
        refine (HAL.out _ _ _ _).mono ?_
        rintro e w2 ⟨rfl, b2⟩
        have HB2 : Hid (Below wr.heap.size wr w2) := hid' ⟨b2.os, b2.tape, b2.output, b2.size, b2.block⟩
        clear b2
        refine hK.out _ _ HB2.out (fun hHeld => ?_)
        clear hK K
        try simp only [Act.put, List.setIfInBounds_toArray, List.set_cons_zero, List.set_cons_succ]
        refine take_val' (i := 10) (v := (.bool false)) rfl (by kernel_rfl) (by kernel_rfl) (by kernel_rfl) (some 36) rfl (fun _ _ _ h => h) (Or.inl ⟨by rfl, fun W hW => by go_simp⟩) hHeld ?_
        simp only [Act.put, List.setIfInBounds_toArray, List.set_cons_zero, List.set_cons_succ]
        refine take_val' (i := 11) (v := (.bool false)) rfl (by kernel_rfl) (by kernel_rfl) (by kernel_rfl) (some 37) rfl (fun _ _ _ h => h) (Or.inl ⟨by rfl, fun W hW => by go_simp⟩) hHeld ?_
        simp only [Act.put, List.setIfInBounds_toArray, List.set_cons_zero, List.set_cons_succ]
        refine take_val' (i := 12) (v := (.slice (some ⟨b, 0, none⟩) l.length cap)) rfl (by kernel_rfl) (by kernel_rfl) (by kernel_rfl) (some 38) rfl (fun _ _ _ h => h) (Or.inl ⟨by rfl, fun W hW => by go_simp⟩) hHeld ?_
        simp only [Act.put, List.setIfInBounds_toArray, List.set_cons_zero, List.set_cons_succ]
        refine take_val' (i := 13) (v := (.int .i64 (k : Int))) rfl (by kernel_rfl) (by kernel_rfl) (by kernel_rfl) (some 39) rfl (fun _ _ _ h => h) (Or.inl ⟨by rfl, fun W hW => by go_simp⟩) hHeld ?_
        simp only [Act.put, List.setIfInBounds_toArray, List.set_cons_zero, List.set_cons_succ]
        refine take_val' (i := 14) (v := (.pointer (some ⟨b, k * 5, none⟩))) rfl (by kernel_rfl) (by kernel_rfl) (by kernel_rfl) (some 40) rfl (fun _ _ _ h => h) (Or.inl ⟨by rfl, fun W hW => by go_simp⟩) hHeld ?_
        simp only [Act.put, List.setIfInBounds_toArray, List.set_cons_zero, List.set_cons_succ]
        refine take_val' (i := 15) (v := (.pointer (some ⟨b, k * 5, none⟩))) rfl (by kernel_rfl) (by kernel_rfl) (by kernel_rfl) (some 41) rfl (fun _ _ _ h => h) (Or.inl ⟨by rfl, fun W hW => by go_simp⟩) hHeld ?_
        simp only [Act.put, List.setIfInBounds_toArray, List.set_cons_zero, List.set_cons_succ]
        refine take_val' (i := 16) (v := (.int .i64 op2)) rfl (by kernel_rfl) (by kernel_rfl) (by kernel_rfl) (some 42) rfl (fun _ _ _ h => h) (Or.inl ⟨by rfl, fun W hW => by obtain ⟨f0, f1, f2, f3, f4, _⟩ := HOLD.out W hW; go_simp⟩) hHeld ?_
        simp only [Act.put, List.setIfInBounds_toArray, List.set_cons_zero, List.set_cons_succ]
        refine take_val' (i := 17) (v := (.bool false)) rfl (by kernel_rfl) (by kernel_rfl) (by kernel_rfl) (some 43) rfl (fun _ _ _ h => h) (Or.inl ⟨by rfl, fun W hW => by go_simp⟩) hHeld ?_
        simp only [Act.put, List.setIfInBounds_toArray, List.set_cons_zero, List.set_cons_succ]
        refine take_val' (i := 18) (v := (.bool false)) rfl (by kernel_rfl) (by kernel_rfl) (by kernel_rfl) (some 44) rfl (fun _ _ _ h => h) (Or.inl ⟨by rfl, fun W hW => by go_simp⟩) hHeld ?_
        simp only [Act.put, List.setIfInBounds_toArray, List.set_cons_zero, List.set_cons_succ]
        refine take_val' (i := 19) (v := undef) rfl (by kernel_rfl) (by kernel_rfl) (by kernel_rfl) (some 45) rfl (fun _ _ _ h => h) (Or.inr ⟨by rfl, rfl⟩) hHeld ?_
        simp only [Act.put, List.setIfInBounds_toArray, List.set_cons_zero, List.set_cons_succ]
        refine take_val' (i := 20) (v := undef) rfl (by kernel_rfl) (by kernel_rfl) (by kernel_rfl) (some 46) rfl (fun _ _ _ h => h) (Or.inr ⟨by rfl, rfl⟩) hHeld ?_
        simp only [Act.put, List.setIfInBounds_toArray, List.set_cons_zero, List.set_cons_succ]
        refine take_val' (i := 21) (v := undef) rfl (by kernel_rfl) (by kernel_rfl) (by kernel_rfl) (some 47) rfl (fun _ _ _ h => h) (Or.inr ⟨by rfl, rfl⟩) hHeld ?_
        simp only [Act.put, List.setIfInBounds_toArray, List.set_cons_zero, List.set_cons_succ]
        refine take_val' (i := 22) (v := undef) rfl (by kernel_rfl) (by kernel_rfl) (by kernel_rfl) (some 48) rfl (fun _ _ _ h => h) (Or.inr ⟨by rfl, rfl⟩) hHeld ?_
        simp only [Act.put, List.setIfInBounds_toArray, List.set_cons_zero, List.set_cons_succ]
        refine take_val' (i := 23) (v := undef) rfl (by kernel_rfl) (by kernel_rfl) (by kernel_rfl) (some 49) rfl (fun _ _ _ h => h) (Or.inr ⟨by rfl, rfl⟩) hHeld ?_
        simp only [Act.put, List.setIfInBounds_toArray, List.set_cons_zero, List.set_cons_succ]
        refine take_val' (i := 24) (v := undef) rfl (by kernel_rfl) (by kernel_rfl) (by kernel_rfl) (some 50) rfl (fun _ _ _ h => h) (Or.inr ⟨by rfl, rfl⟩) hHeld ?_
        simp only [Act.put, List.setIfInBounds_toArray, List.set_cons_zero, List.set_cons_succ]
        refine take_val' (i := 25) (v := undef) rfl (by kernel_rfl) (by kernel_rfl) (by kernel_rfl) (some 51) rfl (fun _ _ _ h => h) (Or.inr ⟨by rfl, rfl⟩) hHeld ?_
        simp only [Act.put, List.setIfInBounds_toArray, List.set_cons_zero, List.set_cons_succ]
        refine take_val' (i := 26) (v := undef) rfl (by kernel_rfl) (by kernel_rfl) (by kernel_rfl) (some 52) rfl (fun _ _ _ h => h) (Or.inr ⟨by rfl, rfl⟩) hHeld ?_
        simp only [Act.put, List.setIfInBounds_toArray, List.set_cons_zero, List.set_cons_succ]
        refine take_val' (i := 27) (v := (.bool false)) rfl (by kernel_rfl) (by kernel_rfl) (by kernel_rfl) (some 53) rfl (fun _ _ _ h => h) (Or.inl ⟨by rfl, fun W hW => by go_simp⟩) hHeld ?_
        simp only [Act.put, List.setIfInBounds_toArray, List.set_cons_zero, List.set_cons_succ]
        refine take_val' (i := 28) (v := (.bool false)) rfl (by kernel_rfl) (by kernel_rfl) (by kernel_rfl) (some 54) rfl (fun _ _ _ h => h) (Or.inl ⟨by rfl, fun W hW => by go_simp⟩) hHeld ?_
        simp only [Act.put, List.setIfInBounds_toArray, List.set_cons_zero, List.set_cons_succ]
        refine wpAnyH_done (by kernel_rfl) ?_ _
        go_wp2_with fail
        refine wp_region_held_drew (S := fun W => Below wr.heap.size wr W) (by kernel_rfl) (hHeld.drew) (fun hHeld => ?_)
        refine take_val' (i := 0) (v := (.slice (some ⟨w.heap.size, 0, none⟩) l.length l.length)) rfl (by kernel_rfl) (by kernel_rfl) (by kernel_rfl) (some 55) rfl (fun _ _ _ h => h) (Or.inl ⟨by rfl, fun W hW => by go_simp⟩) hHeld ?_
        try simp only [Act.put, List.setIfInBounds_toArray, List.set_cons_zero, List.set_cons_succ]
        refine take_val' (i := 1) (v := (.int .i64 (k : Int))) rfl (by kernel_rfl) (by kernel_rfl) (by kernel_rfl) (some 56) rfl (fun _ _ _ h => h) (Or.inl ⟨by rfl, fun W hW => by go_simp⟩) hHeld ?_
        try simp only [Act.put, List.setIfInBounds_toArray, List.set_cons_zero, List.set_cons_succ]
        refine take_val' (i := 2) (v := (.pointer (some ⟨w.heap.size, k * 3, none⟩))) rfl (by kernel_rfl) (by kernel_rfl) (by kernel_rfl) (some 57) rfl (fun _ _ _ h => h) (Or.inl ⟨by rfl, fun W hW => by go_simp⟩) hHeld ?_
        try simp only [Act.put, List.setIfInBounds_toArray, List.set_cons_zero, List.set_cons_succ]
        refine take_val' (i := 3) (v := (.agg #[.bool a0, .bool a1, .bool a2])) rfl (by kernel_rfl) (by kernel_rfl) (by kernel_rfl) (some 58) rfl (fun _ _ _ h => h) (Or.inl ⟨by rfl, fun W hW => by obtain ⟨f0, f1, f2, f3, f4, _⟩ := HOLD.out W hW; go_simp⟩) hHeld ?_
        try simp only [Act.put, List.setIfInBounds_toArray, List.set_cons_zero, List.set_cons_succ]
        refine take_val' (i := 4) (v := (.slice (some ⟨b, 0, none⟩) l.length cap)) rfl (by kernel_rfl) (by kernel_rfl) (by kernel_rfl) (some 59) rfl (fun _ _ _ h => h) (Or.inl ⟨by rfl, fun W hW => by go_simp⟩) hHeld ?_
        try simp only [Act.put, List.setIfInBounds_toArray, List.set_cons_zero, List.set_cons_succ]
        refine take_val' (i := 5) (v := (.int .i64 (k : Int))) rfl (by kernel_rfl) (by kernel_rfl) (by kernel_rfl) (some 60) rfl (fun _ _ _ h => h) (Or.inl ⟨by rfl, fun W hW => by go_simp⟩) hHeld ?_
        try simp only [Act.put, List.setIfInBounds_toArray, List.set_cons_zero, List.set_cons_succ]
        refine take_val' (i := 6) (v := (.pointer (some ⟨b, k * 5, none⟩))) rfl (by kernel_rfl) (by kernel_rfl) (by kernel_rfl) (some 61) rfl (fun _ _ _ h => h) (Or.inl ⟨by rfl, fun W hW => by go_simp⟩) hHeld ?_
        try simp only [Act.put, List.setIfInBounds_toArray, List.set_cons_zero, List.set_cons_succ]
        refine take_val' (i := 7) (v := (.pointer (some ⟨b, k * 5, none⟩))) rfl (by kernel_rfl) (by kernel_rfl) (by kernel_rfl) (some 62) rfl (fun _ _ _ h => h) (Or.inl ⟨by rfl, fun W hW => by go_simp⟩) hHeld ?_
        try simp only [Act.put, List.setIfInBounds_toArray, List.set_cons_zero, List.set_cons_succ]
        refine take_val' (i := 8) (v := (.int .i64 op2)) rfl (by kernel_rfl) (by kernel_rfl) (by kernel_rfl) (some 63) rfl (fun _ _ _ h => h) (Or.inl ⟨by rfl, fun W hW => by obtain ⟨f0, f1, f2, f3, f4, _⟩ := HOLD.out W hW; go_simp⟩) hHeld ?_
        try simp only [Act.put, List.setIfInBounds_toArray, List.set_cons_zero, List.set_cons_succ]
        refine wpAnyH_ready (rs := [9, 10]) (by kernel_rfl) (by simp) ?_
        refine AllReadyH.cons rfl (fun K hK => ?_) (AllReadyH.cons rfl (fun K hK => ?_) AllReadyH.nil)
        · go_simp
          refine (HIN.out _ _ _ _).mono ?_
          rintro e w3 ⟨rfl, b3⟩
          refine hK.out _ _ (hHeld.trans (b3.mono hHeld.size)) (fun hHeld3 => ?_)
          clear hK K
          try simp only [Act.put, List.setIfInBounds_toArray, List.set_cons_zero, List.set_cons_succ]
          refine wpAnyH_ready (rs := [10]) (by kernel_rfl) (by simp) ?_
          refine AllReadyH.cons rfl (fun K hK => ?_) AllReadyH.nil
          go_simp
          have hB4 : Below wr.heap.size wr (w3.alloc (.cells #[.bool false, .bool false, .bool false] 117)) := hHeld3.alloc hHeld3.size _
          refine hK.out _ _ hB4 (fun hHeld4 => ?_)
          have hB3 := hHeld3
          clear hK K hHeld3
          try simp only [Act.put, List.setIfInBounds_toArray, List.set_cons_zero, List.set_cons_succ]
          refine wpAnyH_ready (rs := [11]) (by kernel_rfl) (by simp) ?_
          refine AllReadyH.cons rfl (fun K hK => ?_) AllReadyH.nil
          go_simp
          have HR6 : Hid (RowV (w3.alloc (.cells #[.bool a0, .bool a1, .bool a2] 117)) w3.heap.size 117 (flags [a0, a1, a2])) := hid' (row_new _ _ _)
          have HB6 : Hid (Below wr.heap.size wr (w3.alloc (.cells #[.bool a0, .bool a1, .bool a2] 117))) := hid' (hB3.alloc hB3.size _)
          refine hK.out _ _ HB6.out (fun _ => ?_)
          clear hK K
          refine wpAnyH_done (by kernel_rfl) ?_ _
          have hg6 : wr.heap.size ≤ w3.heap.size := hB3.size
          generalize w3.alloc (.cells #[.bool a0, .bool a1, .bool a2] 117) = w6 at HR6 HB6 ⊢
          generalize w3.heap.size = g6 at HR6 hg6 ⊢
          have hwr := hb.out.size
          have hglt := hr.out.lt
          have z0 := HR6.out.cell (j := 0) rfl
          have z1 := HR6.out.open_ 0
          have i4 : w6.cell? ⟨b, k * 5 + 4, none⟩ = some (.slice ako zs.length kcap) := (HOLD.out w6 HB6.out).2.2.2.2.1
          clear c0 c1 c2 e0 e4
          go_wp2
          go_loopw [75] (fun c wq => ∃ (j : Nat) (T2 : List Bool), j ≤ zs.length ∧ c = .int .i64 j ∧ T2.length = l.length * 3 ∧ Hid (RowV wq w.heap.size 117 (flags T2)) ∧ Hid (∃ x0, RowV wq g6 117 (flags [x0, a1, a2])) ∧ Hid (Below w.heap.size w wq)) (fun c _ => zs.length - (intOf c).toNat)
          case atStart =>
            refine ⟨0, T, Nat.zero_le _, rfl, hTl, hid' ?_, hid' ⟨_, (HR6.out.set 0 (.bool _))⟩, hid' ?_⟩
            · exact (hr.out.far (HB6.out.block _ hr.out.lt)).far (heap_setCell_other _ ⟨g6, 0, none⟩ _ _ (by show w.heap.size ≠ g6; omega))
            · exact (hb.out.trans (HB6.out.mono hwr)).setCell (by simp only; omega) _
          case round =>
            obtain ⟨j, T2, hj, rfl, hT2, hr7, hx7, hb7⟩ := hrel
            by_cases hlj : j < zs.length
            · have hlj' : (j : Int) < (zs.length : Int) := by omega
              obtain ⟨x0, hr8⟩ := hx7.out
              have x_0 := hr8.cell (j := 0) rfl
              have x_1 := hr8.cell (j := 1) rfl
              have x_2 := hr8.cell (j := 2) rfl
              obtain ⟨zi, hzi⟩ : ∃ zi, zs[j] = zi := ⟨_, rfl⟩
              have hzr := HKR.out zi (by rw [← hzi]; exact List.getElem_mem hlj)
              obtain ⟨z, rfl⟩ : ∃ z : Nat, zi = (z : Int) := ⟨zi.toNat, by omega⟩
              obtain ⟨bk, o, hako, hcz⟩ : ∃ b o, ako = some ⟨b, o, none⟩ ∧ wr.cell? ⟨b, o + j, none⟩ = some (.int .i64 (z : Int)) := by
                obtain ⟨b', o', cap', e, _, h2⟩ := kid_at (HLIST.out wr hb7.out) hlj
                injection e with e1 e2 e3
                exact ⟨b', o', e1, by rw [h2, hzi]⟩
              subst hako
              have hzk : z < l.length := by omega
              have hzl' : (z : Int) < (l.length : Int) := by omega
              obtain ⟨y0, hy0⟩ : ∃ x, T2[z * 3]? = some x := ⟨_, List.getElem?_eq_getElem (by omega)⟩
              obtain ⟨y1, hy1⟩ : ∃ x, T2[z * 3 + 1]? = some x := ⟨_, List.getElem?_eq_getElem (by omega)⟩
              obtain ⟨y2, hy2⟩ : ∃ x, T2[z * 3 + 2]? = some x := ⟨_, List.getElem?_eq_getElem (by omega)⟩
              have k0 := hr7.out.cell (flags_at hy0)
              have k1 := hr7.out.cell (flags_at hy1)
              have k2 := hr7.out.cell (flags_at hy2)
              have o0 := hr7.out.open_ (z * 3)
              have o1 := hr7.out.open_ (z * 3 + 1)
              have o2 := hr7.out.open_ (z * 3 + 2)
              have HR9 := hid' (((hr7.out.set (z * 3) (.bool x0)).set (z * 3 + 1) (.bool a1)).set (z * 3 + 2) (.bool a2))
              rw [flags_set, flags_set, flags_set] at HR9
              have HR8 := hid' hr8
              clear hy0 hy1 hy2 hr8 hx7 hzi
              go_wp2
              go_roundw
              case rel => exact ⟨j + 1, _, by omega, by go_num, by simp; omega, HR9, hid' ⟨x0, ((HR8.out.far (heap_setCell_other _ ⟨w.heap.size, z * 3, none⟩ _ _ (by show g6 ≠ w.heap.size; omega))).far (heap_setCell_other _ ⟨w.heap.size, z * 3 + 1, none⟩ _ _ (by show g6 ≠ w.heap.size; omega))).far (heap_setCell_other _ ⟨w.heap.size, z * 3 + 2, none⟩ _ _ (by show g6 ≠ w.heap.size; omega))⟩, hid' (((hb7.out.setCell (Nat.le_refl _) _).setCell (Nat.le_refl _) _).setCell (Nat.le_refl _) _)⟩
              case measure => simp [intOf]; omega
            · obtain rfl : j = zs.length := by omega
              clear hlj
              go_wp2
              go_roundw
              case rel => exact ⟨k, T2, by omega, by first | rfl | go_num, hT2, hr7, hb7⟩
              case measure => simp [intOf] <;> omega
        · go_simp
          have hB4 : Below wr.heap.size wr (w2.drew.alloc (.cells #[.bool false, .bool false, .bool false] 117)) := hHeld.alloc hHeld.size _
          refine hK.out _ _ hB4 (fun hHeld4 => ?_)
          clear hK K
          try simp only [Act.put, List.setIfInBounds_toArray, List.set_cons_zero, List.set_cons_succ]
          refine wpAnyH_ready (rs := [9]) (by kernel_rfl) (by simp) ?_
          refine AllReadyH.cons rfl (fun K hK => ?_) AllReadyH.nil
          go_simp
          refine (HIN.out _ _ _ _).mono ?_
          rintro e w3 ⟨rfl, b3⟩
          refine hK.out _ _ (hHeld4.trans (b3.mono hHeld4.size)) (fun hHeld3 => ?_)
          clear hK K
          try simp only [Act.put, List.setIfInBounds_toArray, List.set_cons_zero, List.set_cons_succ]
          have hro : RowV w3 w2.heap.size 117 (flags [false, false, false]) := (row_new w2.drew _ _).far (b3.block _ (by simp))
          have n0 := hro.cell (j := 0) rfl
          have n1 := hro.cell (j := 1) rfl
          have n2 := hro.cell (j := 2) rfl
          have m0 := hro.open_ 0
          have m1 := hro.open_ 1
          have m2 := hro.open_ 2
          refine wpAnyH_ready (rs := [11]) (by kernel_rfl) (by simp) ?_
          refine AllReadyH.cons rfl (fun K hK => ?_) AllReadyH.nil
          go_simp
          have HR6 : Hid (RowV (((w3.setCell ⟨w2.heap.size, 0, none⟩ (.bool a0)).setCell ⟨w2.heap.size, 1, none⟩ (.bool a1)).setCell ⟨w2.heap.size, 2, none⟩ (.bool a2)) w2.heap.size 117 (flags [a0, a1, a2])) := hid' (((hro.set 0 (.bool a0)).set 1 (.bool a1)).set 2 (.bool a2))
          have HB6 : Hid (Below wr.heap.size wr (((w3.setCell ⟨w2.heap.size, 0, none⟩ (.bool a0)).setCell ⟨w2.heap.size, 1, none⟩ (.bool a1)).setCell ⟨w2.heap.size, 2, none⟩ (.bool a2))) := hid' (((hHeld3.setCell hHeld.size _).setCell hHeld.size _).setCell hHeld.size _)
          refine hK.out _ _ HB6.out (fun _ => ?_)
          clear hK K n0 n1 n2 m0 m1 m2
          refine wpAnyH_done (by kernel_rfl) ?_ _
          have hg6 : wr.heap.size ≤ w2.heap.size := hHeld.size
          generalize ((w3.setCell ⟨w2.heap.size, 0, none⟩ (.bool a0)).setCell ⟨w2.heap.size, 1, none⟩ (.bool a1)).setCell ⟨w2.heap.size, 2, none⟩ (.bool a2) = w6 at HR6 HB6 ⊢
          clear hro hHeld4 hB4 HB2 b3
          generalize w2.heap.size = g6 at HR6 hg6 ⊢
          have hwr := hb.out.size
          have hglt := hr.out.lt
          have z0 := HR6.out.cell (j := 0) rfl
          have z1 := HR6.out.open_ 0
          have i4 : w6.cell? ⟨b, k * 5 + 4, none⟩ = some (.slice ako zs.length kcap) := (HOLD.out w6 HB6.out).2.2.2.2.1
          clear c0 c1 c2 e0 e4
          go_wp2
          go_loopw [75] (fun c wq => ∃ (j : Nat) (T2 : List Bool), j ≤ zs.length ∧ c = .int .i64 j ∧ T2.length = l.length * 3 ∧ Hid (RowV wq w.heap.size 117 (flags T2)) ∧ Hid (∃ x0, RowV wq g6 117 (flags [x0, a1, a2])) ∧ Hid (Below w.heap.size w wq)) (fun c _ => zs.length - (intOf c).toNat)
          case atStart =>
            refine ⟨0, T, Nat.zero_le _, rfl, hTl, hid' ?_, hid' ⟨_, (HR6.out.set 0 (.bool _))⟩, hid' ?_⟩
            · exact (hr.out.far (HB6.out.block _ hr.out.lt)).far (heap_setCell_other _ ⟨g6, 0, none⟩ _ _ (by show w.heap.size ≠ g6; omega))
            · exact (hb.out.trans (HB6.out.mono hwr)).setCell (by simp only; omega) _
          case round =>
            obtain ⟨j, T2, hj, rfl, hT2, hr7, hx7, hb7⟩ := hrel
            by_cases hlj : j < zs.length
            · have hlj' : (j : Int) < (zs.length : Int) := by omega
              obtain ⟨x0, hr8⟩ := hx7.out
              have x_0 := hr8.cell (j := 0) rfl
              have x_1 := hr8.cell (j := 1) rfl
              have x_2 := hr8.cell (j := 2) rfl
              obtain ⟨zi, hzi⟩ : ∃ zi, zs[j] = zi := ⟨_, rfl⟩
              have hzr := HKR.out zi (by rw [← hzi]; exact List.getElem_mem hlj)
              obtain ⟨z, rfl⟩ : ∃ z : Nat, zi = (z : Int) := ⟨zi.toNat, by omega⟩
              obtain ⟨bk, o, hako, hcz⟩ : ∃ b o, ako = some ⟨b, o, none⟩ ∧ wr.cell? ⟨b, o + j, none⟩ = some (.int .i64 (z : Int)) := by
                obtain ⟨b', o', cap', e, _, h2⟩ := kid_at (HLIST.out wr hb7.out) hlj
                injection e with e1 e2 e3
                exact ⟨b', o', e1, by rw [h2, hzi]⟩
              subst hako
              have hzk : z < l.length := by omega
              have hzl' : (z : Int) < (l.length : Int) := by omega
              obtain ⟨y0, hy0⟩ : ∃ x, T2[z * 3]? = some x := ⟨_, List.getElem?_eq_getElem (by omega)⟩
              obtain ⟨y1, hy1⟩ : ∃ x, T2[z * 3 + 1]? = some x := ⟨_, List.getElem?_eq_getElem (by omega)⟩
              obtain ⟨y2, hy2⟩ : ∃ x, T2[z * 3 + 2]? = some x := ⟨_, List.getElem?_eq_getElem (by omega)⟩
              have k0 := hr7.out.cell (flags_at hy0)
              have k1 := hr7.out.cell (flags_at hy1)
              have k2 := hr7.out.cell (flags_at hy2)
              have o0 := hr7.out.open_ (z * 3)
              have o1 := hr7.out.open_ (z * 3 + 1)
              have o2 := hr7.out.open_ (z * 3 + 2)
              have HR9 := hid' (((hr7.out.set (z * 3) (.bool x0)).set (z * 3 + 1) (.bool a1)).set (z * 3 + 2) (.bool a2))
              rw [flags_set, flags_set, flags_set] at HR9
              have HR8 := hid' hr8
              clear hy0 hy1 hy2 hr8 hx7 hzi
              go_wp2
              go_roundw
              case rel => exact ⟨j + 1, _, by omega, by go_num, by simp; omega, HR9, hid' ⟨x0, ((HR8.out.far (heap_setCell_other _ ⟨w.heap.size, z * 3, none⟩ _ _ (by show g6 ≠ w.heap.size; omega))).far (heap_setCell_other _ ⟨w.heap.size, z * 3 + 1, none⟩ _ _ (by show g6 ≠ w.heap.size; omega))).far (heap_setCell_other _ ⟨w.heap.size, z * 3 + 2, none⟩ _ _ (by show g6 ≠ w.heap.size; omega))⟩, hid' (((hb7.out.setCell (Nat.le_refl _) _).setCell (Nat.le_refl _) _).setCell (Nat.le_refl _) _)⟩
              case measure => simp [intOf]; omega
            · obtain rfl : j = zs.length := by omega
              clear hlj
              go_wp2
              go_roundw
              case rel => exact ⟨k, T2, by omega, by first | rfl | go_num, hT2, hr7, hb7⟩
              case measure => simp [intOf] <;> omega
  · have h1 : (op == 47) = false := by simpa using h47
    have h2 : (op != 47) = true := by simpa using h47
    rw [decide_eq_false h47]
    clear h47
    go_enter Tryz.func38, Tryz.ntmps38
    go_wp2
    go_ret
    exact ⟨rfl, Below.refl _ _⟩
end Go.Proofs.YthjolmjaijoogaaGreatDoor

namespace Go.Proofs.YthjolmjaijoogaaGreatDoor
open Go.RowKit
open Lx Ax

namespace Ax
theorem formF_take {x : Nd} {st st' : VS} (h : formF x st = some st') : ∃ tk, takeF x.kids st.tk = some tk ∧ st' = ⟨tk ++ [false], st.so ++ [sortN x.op]⟩ := by
  unfold formF at h
  cases h2 : takeF x.kids st.tk with
  | none => rw [h2] at h; cases h
  | some tk =>
    rw [h2] at h
    simp only at h
    split at h
    · exact ⟨tk, rfl, (Option.some.inj h).symm⟩
    · cases h
theorem formsF_tree : ∀ {l : List Nd} {i : Nat} {st st' : VS}, formsF l i st = .inr st' → treeF l st.tk = some st'.tk
  | [], i, st, st', h => by injection h with h; rw [h]; rfl
  | x :: r, i, st, st', h => by
    rw [formsF] at h
    cases h2 : formF x st with
    | none => rw [h2] at h; cases h
    | some s1 =>
      rw [h2] at h
      obtain ⟨tk, h3, h4⟩ := formF_take h2
      have := formsF_tree h
      rw [treeF, h3]
      rw [h4] at this
      exact this
end Ax
/-- What Valid leaves: no fault, or one around a node. -/
def ValidPost (A : Nat → Addr) (W : World) (r : Option Nat) (e : Ending) (w' : World) : Prop := Below W.heap.size W w' ∧ match r with
  | none => e = .returned .nilIface
  | some i => ∃ g, e = .returned (.iface 67 (.pointer (some ⟨g, 0, none⟩))) ∧ w'.heap[g]? = some (.cells #[.int .i64 (i : Int), E A 12] 90 (0, 0)) ∧ W.heap.size ≤ g
theorem row_new' (W : World) (g : Nat) (hg : g = W.heap.size) (t : TypeId) (vs : List Value) : RowV (W.alloc (.cells vs.toArray t)) g t vs := by subst hg; exact row_new W t vs
theorem start_row (W : World) (n : Nat) (ao : Option Addr) (cap : Nat) (l : List Nd) (g1 g2 fb : Nat) (W2 : World) (hfb : fb = W2.heap.size) (h1 : RowV W2 g1 4 (flags (List.replicate l.length false))) (h2 : RowV W2 g2 112 (sorts (List.replicate l.length 0))) (hb : Below W.heap.size W W2) (hg1 : W.heap.size ≤ g1) (hg2 : W.heap.size ≤ g2) (hn : n ≤ W.heap.size) (hN : NodesAt n W ao l) (hw : WordsAt W) (hwn : 17 < n) :
    FormAt n (W2.alloc (.cells #[.slice ao l.length cap, .slice (some ⟨g1, 0, none⟩) l.length l.length, .slice (some ⟨g2, 0, none⟩) l.length l.length] 83)) W.heap.size fb ao cap l g1 g2 ⟨[], []⟩ 0 := by
  subst hfb
  have hb3 : Below W2.heap.size W2 (W2.alloc (.cells #[.slice ao l.length cap, .slice (some ⟨g1, 0, none⟩) l.length l.length, .slice (some ⟨g2, 0, none⟩) l.length l.length] 83)) := (Below.refl _ _).alloc (Nat.le_refl _) _
  have hb4 := hb.trans (hb3.mono hb.size)
  refine ⟨row_new W2 _ _, ?_, ?_, rfl, rfl, ⟨hn, hb.size, hg1, hg2⟩, hN.keep (hb4.mono hn) (Nat.le_refl _), hw.below hb4, hwn⟩
  · exact h1.far (hb3.block _ h1.lt)
  · exact h2.far (hb3.block _ h2.lt)
set_option maxRecDepth 10000 in
set_option maxHeartbeats 3200000 in
theorem valid_any (A : Nat → Addr) (n : Nat) (ao : Option Addr) (cap : Nat) (l : List Nd) (w : World) (hl : l.length ≤ 100000) (hpos : 0 < l.length) (hN : NodesAt n w ao l) (hn : n ≤ w.heap.size) (hw : WordsAt w) (hwn : 17 < n) (hS : w.cell? ⟨2, 0, none⟩ = some (E A 12))
    (ho : ∀ x ∈ l, OpOK x.op) (hs : ∀ x ∈ l, x.s.size ≤ 1000000) :
    Calls Tryz.prog 18 #[.slice ao l.length cap] w (ValidPost A w (validF l)) := by
  obtain ⟨res, hres⟩ : ∃ r, validF l = r := ⟨_, rfl⟩
  rw [hres]
  have HRES := hid' hres
  have HN := hid' hN
  have HW := hid' hw
  have HS := hid' hS
  have HO := hid' ho
  have HSZ := hid' hs
  have hmk1 := make_flags l.length (by omega)
  have hmk2 := make_sorts l.length (by omega)
  have HST := hid' (fun g1 g2 fb W2 hfb h1 h2 hb hg1 hg2 => start_row w n ao cap l g1 g2 fb W2 hfb h1 h2 hb hg1 hg2 hn hN hw hwn)
  have hll : ¬ (1048576 : Int) < (l.length : Int) := by omega
  clear hres hN hw hS ho hs
  go_enter Tryz.func18, Tryz.ntmps18
  go_wp2
  go_region
  all_goals
    go_wp2
    go_loopw [20] (fun c wr => ∃ (k g1 g2 : Nat) (st : VS), k ≤ l.length ∧ c = .int .i64 k ∧ Hid (FormAt n wr w.heap.size (w.heap.size + 1 + 1) ao cap l g1 g2 st k) ∧ Hid (formsF l 0 ⟨[], []⟩ = formsF (l.drop k) k st) ∧ Hid (Below w.heap.size w wr)) (fun c _ => l.length - (intOf c).toNat)
    case atStart =>
      have hb1 : Below w.heap.size w w.drew := (Below.refl _ _).drew
      first
        | exact ⟨0, w.heap.size, w.heap.size + 1, ⟨[], []⟩, Nat.zero_le _, rfl, hid' (HST.out w.heap.size (w.heap.size + 1) (w.heap.size + 1 + 1) ((w.drew.alloc (.cells (flags (List.replicate l.length false)).toArray 4)).alloc (.cells (sorts (List.replicate l.length 0)).toArray 112)) (by simp) ((row_new w.drew _ _).far (Below.heap_alloc _ _ _ (by simp))) (row_new' _ _ (by simp) _ _) ((hb1.alloc (Nat.le_refl _) _).alloc (by simp) _) (Nat.le_refl _) (by omega)), hid' rfl, hid' (((hb1.alloc (Nat.le_refl _) _).alloc (by simp) _).alloc (by simp <;> omega) _)⟩
        | exact ⟨0, w.heap.size + 1, w.heap.size, ⟨[], []⟩, Nat.zero_le _, rfl, hid' (HST.out (w.heap.size + 1) w.heap.size (w.heap.size + 1 + 1) ((w.drew.alloc (.cells (sorts (List.replicate l.length 0)).toArray 112)).alloc (.cells (flags (List.replicate l.length false)).toArray 4)) (by simp) (row_new' _ _ (by simp) _ _) ((row_new w.drew _ _).far (Below.heap_alloc _ _ _ (by simp))) ((hb1.alloc (Nat.le_refl _) _).alloc (by simp) _) (by omega) (Nat.le_refl _)), hid' rfl, hid' (((hb1.alloc (Nat.le_refl _) _).alloc (by simp) _).alloc (by simp <;> omega) _)⟩
    case round =>
      obtain ⟨k, g1, g2, st, hk, rfl, hf, hv, hb⟩ := hrel
      by_cases hlt : k < l.length
      · have hlt' : (k : Int) < (l.length : Int) := by omega
        have HC := hid' (form_any hf.out hlt (HO.out _ (List.getElem_mem hlt)) (HSZ.out _ (List.getElem_mem hlt)))
        have hv2 := hv.out
        rw [List.drop_eq_getElem_cons hlt, formsF] at hv2
        have HS2 := hid' ((hb.out.cell (World.block_lt_of_cell? w _ HS.out)).trans HS.out)
        generalize formF l[k] st = r at HC hv2
        clear hf hv
        go_wp2_with fail
        refine (HC.out).mono ?_
        rintro e w2 ⟨b2, hno, hyes⟩
        cases r with
        | none =>
          obtain rfl := hno rfl
          have hend : Hid (res = some k) := hid' (by rw [← HRES.out]; unfold validF; rw [hv2])
          have HB2 := hid' (hb.out.trans b2)
          have HFA := hid' (astFault_any A (k : Int) w2 ((HB2.out.cell (World.block_lt_of_cell? w _ HS.out)).trans HS.out))
          clear b2 hno hyes hv2 HC
          go_wp2_with fail
          refine (HFA.out).mono ?_
          rintro e w3 ⟨rfl, hat, b3⟩
          have HAT := hid' hat
          have HB3 := hid' (HB2.out.trans (b3.mono HB2.out.size))
          clear hat b3
          go_wp2
          go_ret
          rw [hend.out]
          exact ⟨HB3.out, _, rfl, HAT.out, HB2.out.size⟩
        | some st2 =>
          obtain ⟨rfl, hf2⟩ := hyes st2 rfl
          have HF2 := hid' hf2
          have HV2 := hid' hv2
          have HB2 := hid' (hb.out.trans b2)
          clear b2 hno hyes hv2 HC hf2
          go_wp2
          go_roundw
          case rel => exact ⟨k + 1, g1, g2, st2, by omega, by go_num, HF2, HV2, HB2⟩
          case measure => simp [intOf]; omega
      · obtain rfl : k = l.length := by omega
        have hv2 : formsF l 0 ⟨[], []⟩ = .inr st := by rw [hv.out, List.drop_eq_nil_of_le (Nat.le_refl _)]; rfl
        have hres2 := HRES.out
        unfold validF at hres2
        rw [hv2] at hres2
        simp only at hres2
        have ht2 := hf.out.tks
        rw [Nat.sub_self, List.replicate_zero, List.append_nil] at ht2
        have e1 := hf.out.row.cell (j := 1) rfl
        have HWH := hid' (whole_any g1 st.tk wr (by rw [hf.out.ltk]; omega) ht2)
        rw [hf.out.ltk] at HWH
        have HLT := hf.out.ltk
        have htree := formsF_tree hv2
        have HS2 := hid' (fun (W' : World) (h : Below w.heap.size w W') => (h.cell (World.block_lt_of_cell? w _ HS.out)).trans HS.out)
        have hm1 : (l.length : Int) - 1 = ((l.length - 1 : Nat) : Int) := by omega
        have hm2 : ¬ ((l.length - 1 : Nat) : Int) < 0 := by omega
        have hlastq : (l.getLast?.map (·.op)) = some l[l.length - 1].op := by
          rw [List.getLast?_eq_getElem?, List.getElem?_eq_getElem (by omega)]; rfl
        rw [hlastq] at hres2
        cases hwh : wholeF st.tk with
        | false =>
          rw [hwh] at HWH hres2
          have hend : Hid (res = some (l.length - 1)) := hid' (by rw [← hres2, if_neg (fun h => by cases h.1)])
          have HFA := hid' (astFault_any A ((l.length - 1 : Nat) : Int) wr (HS2.out wr hb.out))
          clear hres2 hwh hf hv hv2 ht2 htree HLT hlt hlastq
          go_wp2_with fail
          refine (HWH.out).mono ?_
          rintro e w3 ⟨rfl, rfl⟩
          go_wp2_with fail
          refine (HFA.out).mono ?_
          rintro e w4 ⟨rfl, hat, b3⟩
          have HAT := hid' hat
          have HB3 := hid' (hb.out.trans (b3.mono hb.out.size))
          clear hat b3
          go_wp2
          go_ret
          rw [hend.out]
          exact ⟨HB3.out, _, rfl, HAT.out, hb.out.size⟩
        | true =>
          rw [hwh] at HWH hres2
          have HIM := hid' (isModule_any n ao cap l wr (by omega) hpos (HN.out.keep (hb.out.mono hn) (Nat.le_refl _)) (Nat.le_trans hn hb.out.size) HO.out (kids_range htree))
          clear hwh hf hv hv2 ht2 htree hlt hlastq
          by_cases h47 : l[l.length - 1].op = 47
          · rw [decide_eq_true h47] at HIM
            have hend : Hid (res = none) := hid' (by rw [← hres2, if_pos ⟨rfl, by rw [h47]⟩])
            clear hres2 h47 HLT
            go_wp2_with fail
            refine (HWH.out).mono ?_
            rintro e w3 ⟨rfl, rfl⟩
            go_wp2_with fail
            refine (HIM.out).mono ?_
            rintro e w4 ⟨rfl, b3⟩
            have HB3 := hid' (hb.out.trans (b3.mono hb.out.size))
            clear b3
            go_wp2
            go_ret
            rw [hend.out]
            exact ⟨HB3.out, rfl⟩
          · rw [decide_eq_false h47] at HIM
            have hend : Hid (res = some (l.length - 1)) := hid' (by rw [← hres2, if_neg (fun h => h47 (by simpa using h.2))])
            clear hres2 h47 HLT
            go_wp2_with fail
            refine (HWH.out).mono ?_
            rintro e w3 ⟨rfl, rfl⟩
            go_wp2_with fail
            refine (HIM.out).mono ?_
            rintro e w4 ⟨rfl, b3⟩
            have HB3 := hid' (hb.out.trans (b3.mono hb.out.size))
            have HFA := hid' (astFault_any A ((l.length - 1 : Nat) : Int) w4 (HS2.out w4 HB3.out))
            clear b3
            go_wp2_with fail
            refine (HFA.out).mono ?_
            rintro e w5 ⟨rfl, hat, b4⟩
            have HAT := hid' hat
            have HB4 := hid' (HB3.out.trans (b4.mono HB3.out.size))
            clear hat b4
            go_wp2
            go_ret
            rw [hend.out]
            exact ⟨HB4.out, _, rfl, HAT.out, HB3.out.size⟩
end Go.Proofs.YthjolmjaijoogaaGreatDoor

namespace Go.Proofs.YthjolmjaijoogaaGreatDoor
open Go.RowKit
open Lx Ax

namespace Ax
theorem takeF_mem : ∀ {zs : List Int} {k k' : List Bool} {i : Nat}, takeF zs k = some k' → k'[i]? = some true → k[i]? = some true ∨ (i : Int) ∈ zs
  | [], k, k', i, h, hi => by
    obtain rfl := Option.some.inj h
    exact .inl hi
  | z :: r, k, k', i, h, hi => by
    rw [takeF] at h
    split at h
    · rename_i hz
      rcases takeF_mem h hi with h1 | h1
      · by_cases e : z.toNat = i
        · right
          have : z = (i : Int) := by omega
          rw [this]; simp
        · rw [List.getElem?_set_ne e] at h1
          exact .inl h1
      · exact .inr (List.mem_cons_of_mem _ h1)
    · cases h
theorem treeF_mem : ∀ {l : List Nd} {k k' : List Bool} {i : Nat}, treeF l k = some k' → k'[i]? = some true → k[i]? = some true ∨ ∃ (j : Nat) (x : Nd), l[j]? = some x ∧ (i : Int) ∈ x.kids
  | [], k, k', i, h, hi => by
    obtain rfl := Option.some.inj h
    exact .inl hi
  | x :: r, k, k', i, h, hi => by
    rw [treeF] at h
    cases h2 : takeF x.kids k with
    | none => rw [h2] at h; cases h
    | some k1 =>
      rw [h2] at h
      rcases treeF_mem h hi with h3 | ⟨j, y, h3, h4⟩
      · have hl : i < k1.length := by
          have := (List.getElem?_eq_some_iff.1 h3).1
          by_cases hi1 : i < k1.length
          · exact hi1
          · exfalso
            rw [List.getElem?_append_right (by omega)] at h3
            have h5 := (List.getElem?_eq_some_iff.1 h3).1
            simp at h5
            have : i - k1.length = 0 := by omega
            rw [this] at h3
            simp at h3
        rw [List.getElem?_append_left hl] at h3
        rcases takeF_mem h2 h3 with h4 | h4
        · exact .inl h4
        · exact .inr ⟨0, x, rfl, h4⟩
      · exact .inr ⟨j + 1, y, h3, h4⟩
/-- Each node of a tree but the last one is some node's kid. -/
theorem tree_kid {l : List Nd} (h : isTreeF l = true) (i : Nat) (hi : i + 1 < l.length) : ∃ (j : Nat) (x : Nd), l[j]? = some x ∧ (i : Int) ∈ x.kids := by
  obtain ⟨K, h1, h2⟩ := isTreeF_some h
  have hl := treeF_length h1
  rw [List.length_nil, Nat.zero_add] at hl
  unfold wholeF at h2
  simp only [Bool.and_eq_true, Bool.not_eq_true', List.all_eq_true, id] at h2
  have h3 : K[i]? = some true := by
    have hd : i < K.dropLast.length := by rw [List.length_dropLast]; omega
    have := h2.2 _ (List.getElem_mem hd)
    rw [List.getElem_dropLast] at this
    rw [List.getElem?_eq_getElem (by omega), this]
  rcases treeF_mem h1 h3 with h4 | h4
  · simp at h4
  · exact h4
end Ax
/-- Which nodes have been paired when those from m on have been looked at. -/
def Paired (l : List Nd) (m : Nat) (P : List Int) : Prop := P.length = l.length ∧ ∀ i, i < l.length → (i + 1 = l.length ∨ ∃ (j : Nat) (x : Nd), m ≤ j ∧ l[j]? = some x ∧ (i : Int) ∈ x.kids) → P[i]? = some (i : Int)
theorem Paired.start {l : List Nd} (_h : 0 < l.length) (P : List Int) (hP : P.length = l.length) (v : Int) (hv : v = ((l.length - 1 : Nat) : Int)) : Paired l l.length (P.set (l.length - 1) v) := by
  subst hv
  refine ⟨by rw [List.length_set]; exact hP, fun i hi hs => ?_⟩
  rcases hs with hs | ⟨j, x, h1, h2, _⟩
  · have e : i = l.length - 1 := by omega
    subst e
    rw [List.getElem?_set_self (by omega)]
  · have := (List.getElem?_eq_some_iff.1 h2).1
    omega
theorem Paired.here {l : List Nd} {m : Nat} {P : List Int} (h : Paired l (m + 1) P) (ht : isTreeF l = true) (hm : m < l.length) : P[m]? = some (m : Int) := by
  refine h.2 m hm ?_
  by_cases e : m + 1 = l.length
  · exact .inl e
  · obtain ⟨j, x, h1, h2⟩ := tree_kid ht m (by omega)
    refine .inr ⟨j, x, ?_, h1, h2⟩
    obtain ⟨K, hK, _⟩ := isTreeF_some ht
    have hj := (List.getElem?_eq_some_iff.1 h1).1
    have := kids_range hK j hj (m : Int) (by rw [(List.getElem?_eq_some_iff.1 h1).2]; exact h2)
    omega
/-- The kids of node m are paired, one after the other. -/
def PairIn (l : List Nd) (m : Nat) (zs : List Int) (j : Nat) (P : List Int) : Prop := P.length = l.length ∧ ∀ i, i < l.length → (i + 1 = l.length ∨ (∃ (j : Nat) (x : Nd), m + 1 ≤ j ∧ l[j]? = some x ∧ (i : Int) ∈ x.kids) ∨ (i : Int) ∈ zs.take j) → P[i]? = some (i : Int)
theorem PairIn.step {l : List Nd} {m : Nat} {zs : List Int} {j : Nat} {P : List Int} (h : PairIn l m zs j P) (hj : j < zs.length) (z : Nat) (hz : zs[j] = (z : Int)) : PairIn l m zs (j + 1) (P.set z (z : Int)) := by
  refine ⟨by rw [List.length_set]; exact h.1, fun i hi hs => ?_⟩
  by_cases e : z = i
  · subst e
    rw [List.getElem?_set_self (by rw [h.1]; exact hi)]
  · rw [List.getElem?_set_ne e]
    refine h.2 i hi ?_
    rcases hs with hs | hs | hs
    · exact .inl hs
    · exact .inr (.inl hs)
    · rw [List.take_succ_eq_append_getElem hj, List.mem_append] at hs
      rcases hs with hs | hs
      · exact .inr (.inr hs)
      · rw [hz] at hs
        have : i = z := by
          have h2 : (i : Int) = (z : Int) := by simpa using hs
          omega
        exact absurd this.symm e
theorem PairIn.done {l : List Nd} {m : Nat} {P : List Int} (hm : m < l.length) (h : PairIn l m l[m].kids l[m].kids.length P) : Paired l m P := by
  refine ⟨h.1, fun i hi hs => h.2 i hi ?_⟩
  rcases hs with hs | ⟨j, x, h1, h2, h3⟩
  · exact .inl hs
  · by_cases e : j = m
    · subst e
      rw [List.getElem?_eq_getElem hm] at h2
      obtain rfl := Option.some.inj h2
      exact .inr (.inr (by rw [List.take_length]; exact h3))
    · exact .inr (.inl ⟨j, x, by omega, h2, h3⟩)
set_option maxRecDepth 10000 in
set_option maxHeartbeats 3200000 in
theorem same_self (n : Nat) (ao : Option Addr) (cap : Nat) (l : List Nd) (w : World) (hl : l.length ≤ 100000) (hN : NodesAt n w ao l) (hn : n ≤ w.heap.size) (ht : isTreeF l = true) :
    Calls Tryz.prog 11 #[.slice ao l.length cap, .slice ao l.length cap] w fun e w' => e = .returned (.bool true) ∧ Below w.heap.size w w' := by
  have HT := hid' (fun W (h : Below w.heap.size w W) => isTree_any n ao cap l W (by omega) (hN.keep (h.mono hn) (Nat.le_refl _)) (Nat.le_trans hn h.size))
  rw [ht] at HT
  have hpos := isTreeF_pos ht
  obtain ⟨K, hK, _⟩ := isTreeF_some ht
  have HKR := hid' (kids_range hK)
  have HTR := hid' ht
  have HN := hid' hN
  clear hN ht hK
  go_enter Tryz.func11, Tryz.ntmps11
  go_wp2_with fail
  refine (HT.out w (Below.refl _ _)).mono ?_
  rintro e w1 ⟨rfl, b1⟩
  have HB1 := hid' b1
  clear b1
  go_wp2_with fail
  refine (HT.out w1 HB1.out).mono ?_
  rintro e w2 ⟨rfl, b2⟩
  have HB2 := hid' (HB1.out.trans (b2.mono HB1.out.size))
  clear b2
  have hmk := make_nums l.length (by omega)
  have hm1 : (l.length : Int) - 1 = ((l.length - 1 : Nat) : Int) := by omega
  have hm2 : ((l.length - 1 : Nat) : Int) < (l.length : Int) := by omega
  have hw2 := HB2.out.size
  have HR1 := hid' (row_new w2 3 (nums (List.replicate l.length 0)))
  have hc1 := HR1.out.cell (nums_at (S := List.replicate l.length 0) (j := l.length - 1) (b := 0) (by rw [List.getElem?_replicate, if_pos (by omega)]))
  have hf1 := HR1.out.open_ (l.length - 1)
  have HR2 : Hid (RowV (w2.alloc (.cells ((nums (List.replicate l.length 0)).set (l.length - 1) (.int .i64 ((l.length - 1 : Nat) : Int))).toArray 3)) w2.heap.size 3 (nums ((List.replicate l.length 0).set (l.length - 1) ((l.length - 1 : Nat) : Int)))) := hid' (by rw [← nums_set]; exact row_new _ _ _)
  have HP2 := hid' (Paired.start hpos (List.replicate l.length 0) (by simp) _ rfl)
  have HB3 := hid' ((Below.refl w2.heap.size w2).alloc (Nat.le_refl _) (.cells ((nums (List.replicate l.length 0)).set (l.length - 1) (.int .i64 ((l.length - 1 : Nat) : Int))).toArray 3))
  go_wp2
  clear hc1 hf1
  go_loopw [6] (fun c wr => ∃ (m : Nat) (P : List Int), m ≤ l.length ∧ c = .int .i64 ((m : Int) - 1) ∧ Hid (RowV wr w2.heap.size 3 (nums P)) ∧ Hid (Paired l m P) ∧ Hid (Below w2.heap.size w2 wr)) (fun c _ => (intOf c + 1).toNat)
  case atStart => exact ⟨l.length, _, Nat.le_refl _, by first | rfl | (rw [← hm1]), HR2, HP2, HB3⟩
  case round =>
    obtain ⟨m, P, hm, rfl, hr, hp, hb⟩ := hrel
    cases m with
    | zero =>
      have HBE := hid' (HB2.out.trans (hb.out.mono hw2))
      go_wp2
      go_ret
      exact ⟨rfl, HBE.out⟩
    | succ k =>
      have hk1 : ((k + 1 : Nat) : Int) - 1 = (k : Int) := by omega
      rw [hk1]
      have hkl : k < l.length := by omega
      have hkl' : (k : Int) < (l.length : Int) := by omega
      have hPk := hp.out.here HTR.out hkl
      have hPL := hp.out.1
      obtain ⟨b, v, hao, hbn, hnode0⟩ := HN.out.node k hkl
      have HNODE := hid' (fun W (h : Below w2.heap.size w2 W) => hnode0.keep hbn ((HB2.out.trans (h.mono hw2)).mono hn) (Nat.le_refl _))
      have hkr := HKR.out k hkl
      have HPI := hid' (show PairIn l k l[k].kids 0 P from ⟨hPL, fun i hi hs => hp.out.2 i hi (by
        rcases hs with hs | hs | hs
        · exact .inl hs
        · exact .inr hs
        · simp at hs)⟩)
      have HPD := hid' (fun P (h : PairIn l k l[k].kids l[k].kids.length P) => h.done hkl)
      have hcp := hr.out.cell (nums_at hPk)
      generalize l[k] = x at HNODE hkr HPI HPD
      obtain ⟨op, num, pos, s, zs⟩ := x
      simp only at HNODE hkr HPI HPD
      have hlist0 := (HNODE.out wr hb.out).list
      obtain ⟨ako, kcap, rfl, ⟨hkc, hzl⟩, _⟩ := hlist0
      have HKR2 := hid' hkr
      subst hao
      have hwr := hb.out.size
      have HOLD := hid' (fun (W' : World) (h : Below wr.heap.size wr W') => (show W'.cell? ⟨b, k * 5, none⟩ = some (.int .i64 op) ∧ W'.cell? ⟨b, k * 5 + 1, none⟩ = some (.int .i64 num) ∧ W'.cell? ⟨b, k * 5 + 2, none⟩ = some (.int .i64 pos) ∧ W'.cell? ⟨b, k * 5 + 3, none⟩ = some (.string s) ∧ W'.cell? ⟨b, k * 5 + 4, none⟩ = some (.slice ako zs.length kcap) ∧ W'.cell? ⟨w2.heap.size, k, none⟩ = some (.int .i64 (k : Int)) from by
        have hN2 := HNODE.out W' (hb.out.trans (h.mono hwr))
        exact ⟨hN2.op, hN2.num, hN2.pos, hN2.text, hN2.kids, (h.cell (by exact hr.out.lt)).trans hcp⟩))
      have HBA := hid' (fun c1 => (show Below wr.heap.size wr (wr.alloc c1).drew from ((Below.refl _ _).alloc (Nat.le_refl _) c1).drew))
      have HBB := hid' (fun c1 c2 => (show Below wr.heap.size wr ((wr.alloc c1).alloc c2).drew from (((Below.refl _ _).alloc (Nat.le_refl _) c1).alloc (by simp) c2).drew))
      have HX1 := hid' (show RowV ((wr.alloc (.cells #[.int .i64 op, .int .i64 num, .int .i64 pos, .string s, .slice ako zs.length kcap] 39)).alloc (.cells #[.int .i64 op, .int .i64 num, .int .i64 pos, .string s, .slice ako zs.length kcap] 39)).drew wr.heap.size 39 [.int .i64 op, .int .i64 num, .int .i64 pos, .string s, .slice ako zs.length kcap] from (row_new wr _ _).far (Below.heap_alloc _ _ _ (by simp)))
      have HX2 := hid' (show RowV ((wr.alloc (.cells #[.int .i64 op, .int .i64 num, .int .i64 pos, .string s, .slice ako zs.length kcap] 39)).alloc (.cells #[.int .i64 op, .int .i64 num, .int .i64 pos, .string s, .slice ako zs.length kcap] 39)).drew (wr.heap.size + 1) 39 [.int .i64 op, .int .i64 num, .int .i64 pos, .string s, .slice ako zs.length kcap] from by
        have h := row_new (wr.alloc (.cells #[.int .i64 op, .int .i64 num, .int .i64 pos, .string s, .slice ako zs.length kcap] 39)) 39 [.int .i64 op, .int .i64 num, .int .i64 pos, .string s, .slice ako zs.length kcap]
        have h2 : RowV ((wr.alloc (.cells #[.int .i64 op, .int .i64 num, .int .i64 pos, .string s, .slice ako zs.length kcap] 39)).alloc (.cells #[.int .i64 op, .int .i64 num, .int .i64 pos, .string s, .slice ako zs.length kcap] 39)) (wr.heap.size + 1) 39 [.int .i64 op, .int .i64 num, .int .i64 pos, .string s, .slice ako zs.length kcap] := by simpa using h
        exact h2)
      clear hnode0 hPk hkr hcp
      go_wp2_with fail
      refine wp_region_held_drew (S := fun W => Below wr.heap.size wr W) (by kernel_rfl) (Below.refl _ _).drew (fun hHeld => ?_)
      refine take_val' (i := 0) (v := (.slice (some ⟨b, 0, none⟩) l.length cap)) rfl (by kernel_rfl) (by kernel_rfl) (by kernel_rfl) (some 37) rfl (fun _ _ _ h => h) (Or.inl ⟨by rfl, fun W hW => by go_simp⟩) hHeld ?_
      try simp only [Act.put, List.setIfInBounds_toArray, List.set_cons_zero, List.set_cons_succ]
      refine take_val' (i := 1) (v := (.int .i64 (k : Int))) rfl (by kernel_rfl) (by kernel_rfl) (by kernel_rfl) (some 38) rfl (fun _ _ _ h => h) (Or.inl ⟨by rfl, fun W hW => by go_simp⟩) hHeld ?_
      try simp only [Act.put, List.setIfInBounds_toArray, List.set_cons_zero, List.set_cons_succ]
      refine take_val' (i := 2) (v := (.pointer (some ⟨b, k * 5, none⟩))) rfl (by kernel_rfl) (by kernel_rfl) (by kernel_rfl) (some 39) rfl (fun _ _ _ h => h) (Or.inl ⟨by rfl, fun W hW => by go_simp⟩) hHeld ?_
      try simp only [Act.put, List.setIfInBounds_toArray, List.set_cons_zero, List.set_cons_succ]
      refine take_val' (i := 3) (v := (.agg #[.int .i64 op, .int .i64 num, .int .i64 pos, .string s, .slice ako zs.length kcap])) rfl (by kernel_rfl) (by kernel_rfl) (by kernel_rfl) (some 40) rfl (fun _ _ _ h => h) (Or.inl ⟨by rfl, fun W hW => by obtain ⟨g0, g1, g2, g3, g4, g5⟩ := HOLD.out W hW; go_simp⟩) hHeld ?_
      try simp only [Act.put, List.setIfInBounds_toArray, List.set_cons_zero, List.set_cons_succ]
      refine take_val' (i := 4) (v := (.slice (some ⟨b, 0, none⟩) l.length cap)) rfl (by kernel_rfl) (by kernel_rfl) (by kernel_rfl) (some 41) rfl (fun _ _ _ h => h) (Or.inl ⟨by rfl, fun W hW => by go_simp⟩) hHeld ?_
      try simp only [Act.put, List.setIfInBounds_toArray, List.set_cons_zero, List.set_cons_succ]
      refine take_val' (i := 5) (v := (.slice (some ⟨w2.heap.size, 0, none⟩) l.length l.length)) rfl (by kernel_rfl) (by kernel_rfl) (by kernel_rfl) (some 42) rfl (fun _ _ _ h => h) (Or.inl ⟨by rfl, fun W hW => by go_simp⟩) hHeld ?_
      try simp only [Act.put, List.setIfInBounds_toArray, List.set_cons_zero, List.set_cons_succ]
      refine take_val' (i := 6) (v := (.int .i64 (k : Int))) rfl (by kernel_rfl) (by kernel_rfl) (by kernel_rfl) (some 43) rfl (fun _ _ _ h => h) (Or.inl ⟨by rfl, fun W hW => by go_simp⟩) hHeld ?_
      try simp only [Act.put, List.setIfInBounds_toArray, List.set_cons_zero, List.set_cons_succ]
      refine take_val' (i := 7) (v := (.pointer (some ⟨w2.heap.size, k, none⟩))) rfl (by kernel_rfl) (by kernel_rfl) (by kernel_rfl) (some 44) rfl (fun _ _ _ h => h) (Or.inl ⟨by rfl, fun W hW => by go_simp⟩) hHeld ?_
      try simp only [Act.put, List.setIfInBounds_toArray, List.set_cons_zero, List.set_cons_succ]
      refine take_val' (i := 8) (v := (.int .i64 (k : Int))) rfl (by kernel_rfl) (by kernel_rfl) (by kernel_rfl) (some 45) rfl (fun _ _ _ h => h) (Or.inl ⟨by rfl, fun W hW => by obtain ⟨g0, g1, g2, g3, g4, g5⟩ := HOLD.out W hW; go_simp⟩) hHeld ?_
      try simp only [Act.put, List.setIfInBounds_toArray, List.set_cons_zero, List.set_cons_succ]
      refine take_val' (i := 9) (v := (.pointer (some ⟨b, k * 5, none⟩))) rfl (by kernel_rfl) (by kernel_rfl) (by kernel_rfl) (some 46) rfl (fun _ _ _ h => h) (Or.inl ⟨by rfl, fun W hW => by go_simp⟩) hHeld ?_
      try simp only [Act.put, List.setIfInBounds_toArray, List.set_cons_zero, List.set_cons_succ]
      refine take_val' (i := 10) (v := (.agg #[.int .i64 op, .int .i64 num, .int .i64 pos, .string s, .slice ako zs.length kcap])) rfl (by kernel_rfl) (by kernel_rfl) (by kernel_rfl) (some 47) rfl (fun _ _ _ h => h) (Or.inl ⟨by rfl, fun W hW => by obtain ⟨g0, g1, g2, g3, g4, g5⟩ := HOLD.out W hW; go_simp⟩) hHeld ?_
      try simp only [Act.put, List.setIfInBounds_toArray, List.set_cons_zero, List.set_cons_succ]
      refine wpAnyH_ready (rs := [11, 12]) (by kernel_rfl) (by simp) ?_
      refine AllReadyH.cons rfl (fun K hK => ?_) (AllReadyH.cons rfl (fun K hK => ?_) AllReadyH.nil)
      · go_simp
        refine hK.out _ _ (HBA.out _) (fun hH2 => ?_)
        clear hK K
        try simp only [Act.put, List.setIfInBounds_toArray, List.set_cons_zero, List.set_cons_succ]
        refine wpAnyH_ready (rs := [12]) (by kernel_rfl) (by simp) ?_
        refine AllReadyH.cons rfl (fun K hK => ?_) AllReadyH.nil
        go_simp
        refine hK.out _ _ (HBB.out _ _) (fun hH3 => ?_)
        clear hK K hH2
        try simp only [Act.put, List.setIfInBounds_toArray, List.set_cons_zero, List.set_cons_succ]
        refine wpAnyH_ready (rs := [13]) (by kernel_rfl) (by simp) ?_
        refine AllReadyH.cons rfl (fun K hK => ?_) AllReadyH.nil
        go_simp
        refine hK.out _ _ (HBB.out _ _) (fun hH4 => ?_)
        clear hK K hH3
        try simp only [Act.put, List.setIfInBounds_toArray, List.set_cons_zero, List.set_cons_succ]
        refine wpAnyH_ready (rs := [14]) (by kernel_rfl) (by simp) ?_
        refine AllReadyH.cons rfl (fun K hK => ?_) AllReadyH.nil
        go_simp
        refine hK.out _ _ (HBB.out _ _) (fun hH5 => ?_)
        clear hK K hH4
        try simp only [Act.put, List.setIfInBounds_toArray, List.set_cons_zero, List.set_cons_succ]
        refine wpAnyH_done (by kernel_rfl) ?_ _
        have HB6 := hid' hH5
        have HY7 := hid' HX1.out
        have HY8 := hid' HX2.out
        clear hH5 HX1 HX2 HBA HBB
        generalize ((wr.alloc (.cells #[.int .i64 op, .int .i64 num, .int .i64 pos, .string s, .slice ako zs.length kcap] 39)).alloc (.cells #[.int .i64 op, .int .i64 num, .int .i64 pos, .string s, .slice ako zs.length kcap] 39)).drew = w6 at HB6 HY7 HY8 ⊢
        have y0 := HY7.out.cell (j := 0) rfl
        have y1 := HY7.out.cell (j := 1) rfl
        have y3 := HY7.out.cell (j := 3) rfl
        have y4 := HY7.out.cell (j := 4) rfl
        have z0 := HY8.out.cell (j := 0) rfl
        have z1 := HY8.out.cell (j := 1) rfl
        have z3 := HY8.out.cell (j := 3) rfl
        have z4 := HY8.out.cell (j := 4) rfl
        have hlow7 : w2.heap.size < wr.heap.size := hr.out.lt
        generalize hgs : wr.heap.size = gsz at HY7 HY8 y0 y1 y3 y4 z0 z1 z3 z4 hlow7 ⊢
        have HR6 := hid' (hr.out.far (HB6.out.block _ hr.out.lt))
        have HB7 := hid' (hb.out.trans (HB6.out.mono hwr))
        clear hr hb
        go_wp2
        go_loopw [79] (fun c wq => ∃ (j : Nat) (P2 : List Int), j ≤ zs.length ∧ c = .int .i64 j ∧ Hid (RowV wq w2.heap.size 3 (nums P2)) ∧ Hid (PairIn l k zs j P2) ∧ Hid (wq.cell? ⟨gsz + 1, 4, none⟩ = some (.slice ako zs.length kcap)) ∧ Hid (Below w2.heap.size w2 wq)) (fun c _ => zs.length - (intOf c).toNat)
        case atStart => exact ⟨0, P, Nat.zero_le _, rfl, HR6, HPI, hid' z4, HB7⟩
        case round =>
          obtain ⟨j, P2, hj, rfl, hr8, hp8, hz8, hb8⟩ := hrel
          by_cases hlj : j < zs.length
          · have hlj' : (j : Int) < (zs.length : Int) := by omega
            obtain ⟨zi, hzi⟩ : ∃ zi, zs[j] = zi := ⟨_, rfl⟩
            have hzr := HKR2.out zi (by rw [← hzi]; exact List.getElem_mem hlj)
            obtain ⟨z, rfl⟩ : ∃ z : Nat, zi = (z : Int) := ⟨zi.toNat, by omega⟩
            obtain ⟨bk, o, hako, hcz⟩ : ∃ b o, ako = some ⟨b, o, none⟩ ∧ wr.cell? ⟨b, o + j, none⟩ = some (.int .i64 (z : Int)) := by
              obtain ⟨b', o', cap', e, _, h2⟩ := kid_at (HNODE.out wr hb8.out).list hlj
              injection e with e1 e2 e3
              exact ⟨b', o', e1, by rw [h2, hzi]⟩
            subst hako
            have hz8' := hz8.out
            have hzl : z < l.length := by omega
            have hzl' : (z : Int) < (l.length : Int) := by omega
            obtain ⟨y, hy⟩ : ∃ y, P2[z]? = some y := ⟨_, List.getElem?_eq_getElem (by rw [hp8.out.1]; exact hzl)⟩
            have hcy := hr8.out.cell (nums_at hy)
            have hoy := hr8.out.open_ z
            have HR9 := hid' (hr8.out.set z (.int .i64 (z : Int)))
            rw [nums_set] at HR9
            have HP9 := hid' (hp8.out.step hlj z hzi)
            have HZ9 : Hid ((wr.setCell ⟨w2.heap.size, z, none⟩ (.int .i64 (z : Int))).cell? ⟨gsz + 1, 4, none⟩ = some (.slice (some ⟨bk, o, none⟩) zs.length kcap)) := hid' ((World.cell?_setCell_other _ _ _ _ (fun e => by injection e with e _ _; omega)).trans hz8')
            clear hy hr8 hp8 hz8 hzi
            go_wp2
            go_roundw
            case rel => exact ⟨j + 1, _, by omega, by go_num, HR9, HP9, HZ9, hid' (hb8.out.setCell (Nat.le_refl _) _)⟩
            case measure => simp [intOf]; omega
          · obtain rfl : j = zs.length := by omega
            have HP9 := hid' (HPD.out P2 hp8.out)
            clear hlj hp8
            go_wp2
            go_roundw
            case rel => exact ⟨k, P2, by omega, by first | rfl | go_num, hr8, HP9, hb8⟩
            case measure => simp [intOf] <;> omega
      · go_simp
        refine hK.out _ _ (HBA.out _) (fun hH2 => ?_)
        clear hK K
        try simp only [Act.put, List.setIfInBounds_toArray, List.set_cons_zero, List.set_cons_succ]
        refine wpAnyH_ready (rs := [11]) (by kernel_rfl) (by simp) ?_
        refine AllReadyH.cons rfl (fun K hK => ?_) AllReadyH.nil
        go_simp
        refine hK.out _ _ (HBB.out _ _) (fun hH3 => ?_)
        clear hK K hH2
        try simp only [Act.put, List.setIfInBounds_toArray, List.set_cons_zero, List.set_cons_succ]
        refine wpAnyH_ready (rs := [13]) (by kernel_rfl) (by simp) ?_
        refine AllReadyH.cons rfl (fun K hK => ?_) AllReadyH.nil
        go_simp
        refine hK.out _ _ (HBB.out _ _) (fun hH4 => ?_)
        clear hK K hH3
        try simp only [Act.put, List.setIfInBounds_toArray, List.set_cons_zero, List.set_cons_succ]
        refine wpAnyH_ready (rs := [14]) (by kernel_rfl) (by simp) ?_
        refine AllReadyH.cons rfl (fun K hK => ?_) AllReadyH.nil
        go_simp
        refine hK.out _ _ (HBB.out _ _) (fun hH5 => ?_)
        clear hK K hH4
        try simp only [Act.put, List.setIfInBounds_toArray, List.set_cons_zero, List.set_cons_succ]
        refine wpAnyH_done (by kernel_rfl) ?_ _
        have HB6 := hid' hH5
        have HY7 := hid' HX2.out
        have HY8 := hid' HX1.out
        clear hH5 HX1 HX2 HBA HBB
        generalize ((wr.alloc (.cells #[.int .i64 op, .int .i64 num, .int .i64 pos, .string s, .slice ako zs.length kcap] 39)).alloc (.cells #[.int .i64 op, .int .i64 num, .int .i64 pos, .string s, .slice ako zs.length kcap] 39)).drew = w6 at HB6 HY7 HY8 ⊢
        have y0 := HY7.out.cell (j := 0) rfl
        have y1 := HY7.out.cell (j := 1) rfl
        have y3 := HY7.out.cell (j := 3) rfl
        have y4 := HY7.out.cell (j := 4) rfl
        have z0 := HY8.out.cell (j := 0) rfl
        have z1 := HY8.out.cell (j := 1) rfl
        have z3 := HY8.out.cell (j := 3) rfl
        have z4 := HY8.out.cell (j := 4) rfl
        have hlow7 : w2.heap.size < wr.heap.size := hr.out.lt
        generalize hgs : wr.heap.size = gsz at HY7 HY8 y0 y1 y3 y4 z0 z1 z3 z4 hlow7 ⊢
        have HR6 := hid' (hr.out.far (HB6.out.block _ hr.out.lt))
        have HB7 := hid' (hb.out.trans (HB6.out.mono hwr))
        clear hr hb
        go_wp2
        go_loopw [79] (fun c wq => ∃ (j : Nat) (P2 : List Int), j ≤ zs.length ∧ c = .int .i64 j ∧ Hid (RowV wq w2.heap.size 3 (nums P2)) ∧ Hid (PairIn l k zs j P2) ∧ Hid (wq.cell? ⟨gsz, 4, none⟩ = some (.slice ako zs.length kcap)) ∧ Hid (Below w2.heap.size w2 wq)) (fun c _ => zs.length - (intOf c).toNat)
        case atStart => exact ⟨0, P, Nat.zero_le _, rfl, HR6, HPI, hid' z4, HB7⟩
        case round =>
          obtain ⟨j, P2, hj, rfl, hr8, hp8, hz8, hb8⟩ := hrel
          by_cases hlj : j < zs.length
          · have hlj' : (j : Int) < (zs.length : Int) := by omega
            obtain ⟨zi, hzi⟩ : ∃ zi, zs[j] = zi := ⟨_, rfl⟩
            have hzr := HKR2.out zi (by rw [← hzi]; exact List.getElem_mem hlj)
            obtain ⟨z, rfl⟩ : ∃ z : Nat, zi = (z : Int) := ⟨zi.toNat, by omega⟩
            obtain ⟨bk, o, hako, hcz⟩ : ∃ b o, ako = some ⟨b, o, none⟩ ∧ wr.cell? ⟨b, o + j, none⟩ = some (.int .i64 (z : Int)) := by
              obtain ⟨b', o', cap', e, _, h2⟩ := kid_at (HNODE.out wr hb8.out).list hlj
              injection e with e1 e2 e3
              exact ⟨b', o', e1, by rw [h2, hzi]⟩
            subst hako
            have hz8' := hz8.out
            have hzl : z < l.length := by omega
            have hzl' : (z : Int) < (l.length : Int) := by omega
            obtain ⟨y, hy⟩ : ∃ y, P2[z]? = some y := ⟨_, List.getElem?_eq_getElem (by rw [hp8.out.1]; exact hzl)⟩
            have hcy := hr8.out.cell (nums_at hy)
            have hoy := hr8.out.open_ z
            have HR9 := hid' (hr8.out.set z (.int .i64 (z : Int)))
            rw [nums_set] at HR9
            have HP9 := hid' (hp8.out.step hlj z hzi)
            have HZ9 : Hid ((wr.setCell ⟨w2.heap.size, z, none⟩ (.int .i64 (z : Int))).cell? ⟨gsz, 4, none⟩ = some (.slice (some ⟨bk, o, none⟩) zs.length kcap)) := hid' ((World.cell?_setCell_other _ _ _ _ (fun e => by injection e with e _ _; omega)).trans hz8')
            clear hy hr8 hp8 hz8 hzi
            go_wp2
            go_roundw
            case rel => exact ⟨j + 1, _, by omega, by go_num, HR9, HP9, HZ9, hid' (hb8.out.setCell (Nat.le_refl _) _)⟩
            case measure => simp [intOf]; omega
          · obtain rfl : j = zs.length := by omega
            have HP9 := hid' (HPD.out P2 hp8.out)
            clear hlj hp8
            go_wp2
            go_roundw
            case rel => exact ⟨k, P2, by omega, by first | rfl | go_num, hr8, HP9, hb8⟩
            case measure => simp [intOf] <;> omega
end Go.Proofs.YthjolmjaijoogaaGreatDoor

namespace Go.Proofs.YthjolmjaijoogaaGreatDoor
open Go.RowKit
open Lx Ax

/-- Which nodes have been paired when those from m on have been looked at. -/
def PairedQ (Q : Nat → Nat) (l : List Nd) (m : Nat) (P : List Int) : Prop := P.length = l.length ∧ ∀ i, i < l.length → (i + 1 = l.length ∨ ∃ (j : Nat) (x : Nd), m ≤ j ∧ l[j]? = some x ∧ (i : Int) ∈ x.kids) → P[i]? = some (Q i : Int)
theorem PairedQ.start {Q : Nat → Nat} {l : List Nd} (_h : 0 < l.length) (P : List Int) (hP : P.length = l.length) (v : Int) (hv : v = (Q (l.length - 1) : Int)) : PairedQ Q l l.length (P.set (l.length - 1) v) := by
  subst hv
  refine ⟨by rw [List.length_set]; exact hP, fun i hi hs => ?_⟩
  rcases hs with hs | ⟨j, x, h1, h2, _⟩
  · have e : i = l.length - 1 := by omega
    subst e
    rw [List.getElem?_set_self (by omega)]
  · have := (List.getElem?_eq_some_iff.1 h2).1
    omega
theorem PairedQ.here {Q : Nat → Nat} {l : List Nd} {m : Nat} {P : List Int} (h : PairedQ Q l (m + 1) P) (ht : isTreeF l = true) (hm : m < l.length) : P[m]? = some (Q m : Int) := by
  refine h.2 m hm ?_
  by_cases e : m + 1 = l.length
  · exact .inl e
  · obtain ⟨j, x, h1, h2⟩ := tree_kid ht m (by omega)
    refine .inr ⟨j, x, ?_, h1, h2⟩
    obtain ⟨K, hK, _⟩ := isTreeF_some ht
    have hj := (List.getElem?_eq_some_iff.1 h1).1
    have := kids_range hK j hj (m : Int) (by rw [(List.getElem?_eq_some_iff.1 h1).2]; exact h2)
    omega
/-- The kids of node m are paired, one after the other. -/
def PairInQ (Q : Nat → Nat) (l : List Nd) (m : Nat) (zs : List Int) (j : Nat) (P : List Int) : Prop := P.length = l.length ∧ ∀ i, i < l.length → (i + 1 = l.length ∨ (∃ (j : Nat) (x : Nd), m + 1 ≤ j ∧ l[j]? = some x ∧ (i : Int) ∈ x.kids) ∨ (i : Int) ∈ zs.take j) → P[i]? = some (Q i : Int)
theorem PairInQ.step {Q : Nat → Nat} {l : List Nd} {m : Nat} {zs : List Int} {j : Nat} {P : List Int} (h : PairInQ Q l m zs j P) (hj : j < zs.length) (z : Nat) (hz : zs[j] = (z : Int)) : PairInQ Q l m zs (j + 1) (P.set z (Q z : Int)) := by
  refine ⟨by rw [List.length_set]; exact h.1, fun i hi hs => ?_⟩
  by_cases e : z = i
  · subst e
    rw [List.getElem?_set_self (by rw [h.1]; exact hi)]
  · rw [List.getElem?_set_ne e]
    refine h.2 i hi ?_
    rcases hs with hs | hs | hs
    · exact .inl hs
    · exact .inr (.inl hs)
    · rw [List.take_succ_eq_append_getElem hj, List.mem_append] at hs
      rcases hs with hs | hs
      · exact .inr (.inr hs)
      · rw [hz] at hs
        have : i = z := by
          have h2 : (i : Int) = (z : Int) := by simpa using hs
          omega
        exact absurd this.symm e
theorem PairInQ.done {Q : Nat → Nat} {l : List Nd} {m : Nat} {P : List Int} (hm : m < l.length) (h : PairInQ Q l m l[m].kids l[m].kids.length P) : PairedQ Q l m P := by
  refine ⟨h.1, fun i hi hs => h.2 i hi ?_⟩
  rcases hs with hs | ⟨j, x, h1, h2, h3⟩
  · exact .inl hs
  · by_cases e : j = m
    · subst e
      rw [List.getElem?_eq_getElem hm] at h2
      obtain rfl := Option.some.inj h2
      exact .inr (.inr (by rw [List.take_length]; exact h3))
    · exact .inr (.inl ⟨j, x, by omega, h2, h3⟩)
set_option maxRecDepth 10000 in
set_option maxHeartbeats 3200000 in
theorem same_two (Q : Nat → Nat) (n : Nat) (ao : Option Addr) (cap : Nat) (l : List Nd) (ao2 : Option Addr) (cap2 : Nat) (l2 : List Nd) (w : World) (hl : l.length ≤ 100000) (hN : NodesAt n w ao l) (hl2 : l2.length ≤ 100000) (hN2 : NodesAt n w ao2 l2) (hn : n ≤ w.heap.size) (ht : isTreeF l = true) (ht2 : isTreeF l2 = true) (hlast : Q (l.length - 1) = l2.length - 1)
    (hQ : ∀ (i : Nat) x, l[i]? = some x → ∃ y, l2[Q i]? = some y ∧ y.op = x.op ∧ y.n = x.n ∧ y.s = x.s ∧ y.kids = x.kids.map (fun z => (Q z.toNat : Int))) :
    Calls Tryz.prog 11 #[.slice ao l.length cap, .slice ao2 l2.length cap2] w fun e w' => e = .returned (.bool true) ∧ Below w.heap.size w w' := by
  have HT := hid' (fun W (h : Below w.heap.size w W) => isTree_any n ao cap l W (by omega) (hN.keep (h.mono hn) (Nat.le_refl _)) (Nat.le_trans hn h.size))
  have HT2 := hid' (fun W (h : Below w.heap.size w W) => isTree_any n ao2 cap2 l2 W (by omega) (hN2.keep (h.mono hn) (Nat.le_refl _)) (Nat.le_trans hn h.size))
  rw [ht] at HT
  rw [ht2] at HT2
  have hpos := isTreeF_pos ht
  have hpos2 := isTreeF_pos ht2
  obtain ⟨K, hK, _⟩ := isTreeF_some ht
  have HKR := hid' (kids_range hK)
  have HTR := hid' ht
  have HN := hid' hN
  have HN2 := hid' hN2
  have HQ := hid' hQ
  clear hN hN2 ht ht2 hK hQ
  go_enter Tryz.func11, Tryz.ntmps11
  go_wp2_with fail
  refine (HT.out w (Below.refl _ _)).mono ?_
  rintro e w1 ⟨rfl, b1⟩
  have HB1 := hid' b1
  clear b1
  go_wp2_with fail
  refine (HT2.out w1 HB1.out).mono ?_
  rintro e w2 ⟨rfl, b2⟩
  have HB2 := hid' (HB1.out.trans (b2.mono HB1.out.size))
  clear b2
  have hmk := make_nums l.length (by omega)
  have hm1 : (l.length : Int) - 1 = ((l.length - 1 : Nat) : Int) := by omega
  have hm2 : ((l.length - 1 : Nat) : Int) < (l.length : Int) := by omega
  have hm3 : (l2.length : Int) - 1 = ((l2.length - 1 : Nat) : Int) := by omega
  have hw2 := HB2.out.size
  have HR1 := hid' (row_new w2 3 (nums (List.replicate l.length 0)))
  have hc1 := HR1.out.cell (nums_at (S := List.replicate l.length 0) (j := l.length - 1) (b := 0) (by rw [List.getElem?_replicate, if_pos (by omega)]))
  have hf1 := HR1.out.open_ (l.length - 1)
  have HR2 : Hid (RowV (w2.alloc (.cells ((nums (List.replicate l.length 0)).set (l.length - 1) (.int .i64 ((l2.length - 1 : Nat) : Int))).toArray 3)) w2.heap.size 3 (nums ((List.replicate l.length 0).set (l.length - 1) ((l2.length - 1 : Nat) : Int)))) := hid' (by rw [← nums_set]; exact row_new _ _ _)
  have HP2 := hid' (PairedQ.start (Q := Q) hpos (List.replicate l.length 0) (by simp) ((l2.length - 1 : Nat) : Int) (by rw [hlast]))
  have HB3 := hid' ((Below.refl w2.heap.size w2).alloc (Nat.le_refl _) (.cells ((nums (List.replicate l.length 0)).set (l.length - 1) (.int .i64 ((l2.length - 1 : Nat) : Int))).toArray 3))
  go_wp2
  clear hc1 hf1
  go_loopw [6] (fun c wr => ∃ (m : Nat) (P : List Int), m ≤ l.length ∧ c = .int .i64 ((m : Int) - 1) ∧ Hid (RowV wr w2.heap.size 3 (nums P)) ∧ Hid (PairedQ Q l m P) ∧ Hid (Below w2.heap.size w2 wr)) (fun c _ => (intOf c + 1).toNat)
  case atStart => exact ⟨l.length, _, Nat.le_refl _, by first | rfl | (rw [← hm1]), HR2, HP2, HB3⟩
  case round =>
    obtain ⟨m, P, hm, rfl, hr, hp, hb⟩ := hrel
    cases m with
    | zero =>
      have HBE := hid' (HB2.out.trans (hb.out.mono hw2))
      go_wp2
      go_ret
      exact ⟨rfl, HBE.out⟩
    | succ k =>
      have hk1 : ((k + 1 : Nat) : Int) - 1 = (k : Int) := by omega
      rw [hk1]
      have hkl : k < l.length := by omega
      have hkl' : (k : Int) < (l.length : Int) := by omega
      have hPk := hp.out.here HTR.out hkl
      have hPL := hp.out.1
      obtain ⟨b, v, hao, hbn, hnode0⟩ := HN.out.node k hkl
      have HNODE := hid' (fun W (h : Below w2.heap.size w2 W) => hnode0.keep hbn ((HB2.out.trans (h.mono hw2)).mono hn) (Nat.le_refl _))
      have hkr := HKR.out k hkl
      obtain ⟨q, hq⟩ : ∃ q, Q k = q := ⟨_, rfl⟩
      obtain ⟨yn, hy1, hyo, hyn, hys, hyk⟩ := HQ.out k l[k] (List.getElem?_eq_getElem hkl)
      rw [hq] at hy1 hPk
      have hql := (List.getElem?_eq_some_iff.1 hy1).1
      have hql' : (q : Int) < (l2.length : Int) := by omega
      obtain ⟨bb, vb, haob, hbbn, hnodeb0⟩ := HN2.out.node q hql
      have HNODEB := hid' (fun W (h : Below w2.heap.size w2 W) => hnodeb0.keep hbbn ((HB2.out.trans (h.mono hw2)).mono hn) (Nat.le_refl _))
      rw [(List.getElem?_eq_some_iff.1 hy1).2] at HNODEB
      have HPI := hid' (show PairInQ Q l k l[k].kids 0 P from ⟨hPL, fun i hi hs => hp.out.2 i hi (by
        rcases hs with hs | hs | hs
        · exact .inl hs
        · exact .inr hs
        · simp at hs)⟩)
      have HPD := hid' (fun P (h : PairInQ Q l k l[k].kids l[k].kids.length P) => h.done hkl)
      have hcp := hr.out.cell (nums_at hPk)
      generalize l[k] = x at HNODE hkr HPI HPD hyo hyn hys hyk
      obtain ⟨op, num, pos, s, zs⟩ := x
      obtain ⟨opb, numb, posb, sb, zsb⟩ := yn
      simp only at HNODE HNODEB hkr HPI HPD hyo hyn hys hyk
      subst hyo hyn hys
      have hzbl : zsb.length = zs.length := by rw [hyk, List.length_map]
      have HYK := hid' hyk
      have hlist0 := (HNODE.out wr hb.out).list
      obtain ⟨ako, kcap, rfl, ⟨hkc, hzl⟩, _⟩ := hlist0
      have hlistb := (HNODEB.out wr hb.out).list
      obtain ⟨akb, kcb, rfl, ⟨hkcb, _⟩, _⟩ := hlistb
      rw [hzbl] at HNODEB
      have HKR2 := hid' hkr
      subst hao haob
      have hwr := hb.out.size
      have HOLD := hid' (fun (W' : World) (h : Below wr.heap.size wr W') => (show W'.cell? ⟨b, k * 5, none⟩ = some (.int .i64 opb) ∧ W'.cell? ⟨b, k * 5 + 1, none⟩ = some (.int .i64 numb) ∧ W'.cell? ⟨b, k * 5 + 2, none⟩ = some (.int .i64 pos) ∧ W'.cell? ⟨b, k * 5 + 3, none⟩ = some (.string sb) ∧ W'.cell? ⟨b, k * 5 + 4, none⟩ = some (.slice ako zs.length kcap) ∧ W'.cell? ⟨w2.heap.size, k, none⟩ = some (.int .i64 (q : Int)) ∧ W'.cell? ⟨bb, q * 5, none⟩ = some (.int .i64 opb) ∧ W'.cell? ⟨bb, q * 5 + 1, none⟩ = some (.int .i64 numb) ∧ W'.cell? ⟨bb, q * 5 + 2, none⟩ = some (.int .i64 posb) ∧ W'.cell? ⟨bb, q * 5 + 3, none⟩ = some (.string sb) ∧ W'.cell? ⟨bb, q * 5 + 4, none⟩ = some (.slice akb zs.length kcb) from by
        have hN2 := HNODE.out W' (hb.out.trans (h.mono hwr))
        have hN3 := HNODEB.out W' (hb.out.trans (h.mono hwr))
        exact ⟨hN2.op, hN2.num, hN2.pos, hN2.text, hN2.kids, (h.cell (by exact hr.out.lt)).trans hcp, hN3.op, hN3.num, hN3.pos, hN3.text, hN3.kids⟩))
      have HBA := hid' (fun c1 => (show Below wr.heap.size wr (wr.alloc c1).drew from ((Below.refl _ _).alloc (Nat.le_refl _) c1).drew))
      have HBB := hid' (fun c1 c2 => (show Below wr.heap.size wr ((wr.alloc c1).alloc c2).drew from (((Below.refl _ _).alloc (Nat.le_refl _) c1).alloc (by simp) c2).drew))
      have HX1 := hid' (show RowV ((wr.alloc (.cells #[.int .i64 opb, .int .i64 numb, .int .i64 pos, .string sb, .slice ako zs.length kcap] 39)).alloc (.cells #[.int .i64 opb, .int .i64 numb, .int .i64 posb, .string sb, .slice akb zs.length kcb] 39)).drew wr.heap.size 39 [.int .i64 opb, .int .i64 numb, .int .i64 pos, .string sb, .slice ako zs.length kcap] from (row_new wr _ _).far (Below.heap_alloc _ _ _ (by simp)))
      have HX2 := hid' (show RowV ((wr.alloc (.cells #[.int .i64 opb, .int .i64 numb, .int .i64 pos, .string sb, .slice ako zs.length kcap] 39)).alloc (.cells #[.int .i64 opb, .int .i64 numb, .int .i64 posb, .string sb, .slice akb zs.length kcb] 39)).drew (wr.heap.size + 1) 39 [.int .i64 opb, .int .i64 numb, .int .i64 posb, .string sb, .slice akb zs.length kcb] from by
        have h := row_new (wr.alloc (.cells #[.int .i64 opb, .int .i64 numb, .int .i64 pos, .string sb, .slice ako zs.length kcap] 39)) 39 [.int .i64 opb, .int .i64 numb, .int .i64 posb, .string sb, .slice akb zs.length kcb]
        have h2 : RowV ((wr.alloc (.cells #[.int .i64 opb, .int .i64 numb, .int .i64 pos, .string sb, .slice ako zs.length kcap] 39)).alloc (.cells #[.int .i64 opb, .int .i64 numb, .int .i64 posb, .string sb, .slice akb zs.length kcb] 39)) (wr.heap.size + 1) 39 [.int .i64 opb, .int .i64 numb, .int .i64 posb, .string sb, .slice akb zs.length kcb] := by simpa using h
        exact h2)
      have HV1 := hid' (show RowV ((wr.alloc (.cells #[.int .i64 opb, .int .i64 numb, .int .i64 posb, .string sb, .slice akb zs.length kcb] 39)).alloc (.cells #[.int .i64 opb, .int .i64 numb, .int .i64 pos, .string sb, .slice ako zs.length kcap] 39)).drew wr.heap.size 39 [.int .i64 opb, .int .i64 numb, .int .i64 posb, .string sb, .slice akb zs.length kcb] from (row_new wr _ _).far (Below.heap_alloc _ _ _ (by simp)))
      have HV2 := hid' (show RowV ((wr.alloc (.cells #[.int .i64 opb, .int .i64 numb, .int .i64 posb, .string sb, .slice akb zs.length kcb] 39)).alloc (.cells #[.int .i64 opb, .int .i64 numb, .int .i64 pos, .string sb, .slice ako zs.length kcap] 39)).drew (wr.heap.size + 1) 39 [.int .i64 opb, .int .i64 numb, .int .i64 pos, .string sb, .slice ako zs.length kcap] from by
        have h := row_new (wr.alloc (.cells #[.int .i64 opb, .int .i64 numb, .int .i64 posb, .string sb, .slice akb zs.length kcb] 39)) 39 [.int .i64 opb, .int .i64 numb, .int .i64 pos, .string sb, .slice ako zs.length kcap]
        have h2 : RowV ((wr.alloc (.cells #[.int .i64 opb, .int .i64 numb, .int .i64 posb, .string sb, .slice akb zs.length kcb] 39)).alloc (.cells #[.int .i64 opb, .int .i64 numb, .int .i64 pos, .string sb, .slice ako zs.length kcap] 39)) (wr.heap.size + 1) 39 [.int .i64 opb, .int .i64 numb, .int .i64 pos, .string sb, .slice ako zs.length kcap] := by simpa using h
        exact h2)
      clear hnode0 hnodeb0 hPk hkr hcp hyk hy1 hq
      go_wp2_with fail
      refine wp_region_held_drew (S := fun W => Below wr.heap.size wr W) (by kernel_rfl) (Below.refl _ _).drew (fun hHeld => ?_)
      refine take_val' (i := 0) (v := (.slice (some ⟨b, 0, none⟩) l.length cap)) rfl (by kernel_rfl) (by kernel_rfl) (by kernel_rfl) (some 37) rfl (fun _ _ _ h => h) (Or.inl ⟨by rfl, fun W hW => by go_simp⟩) hHeld ?_
      try simp only [Act.put, List.setIfInBounds_toArray, List.set_cons_zero, List.set_cons_succ]
      refine take_val' (i := 1) (v := (.int .i64 (k : Int))) rfl (by kernel_rfl) (by kernel_rfl) (by kernel_rfl) (some 38) rfl (fun _ _ _ h => h) (Or.inl ⟨by rfl, fun W hW => by go_simp⟩) hHeld ?_
      try simp only [Act.put, List.setIfInBounds_toArray, List.set_cons_zero, List.set_cons_succ]
      refine take_val' (i := 2) (v := (.pointer (some ⟨b, k * 5, none⟩))) rfl (by kernel_rfl) (by kernel_rfl) (by kernel_rfl) (some 39) rfl (fun _ _ _ h => h) (Or.inl ⟨by rfl, fun W hW => by go_simp⟩) hHeld ?_
      try simp only [Act.put, List.setIfInBounds_toArray, List.set_cons_zero, List.set_cons_succ]
      refine take_val' (i := 3) (v := (.agg #[.int .i64 opb, .int .i64 numb, .int .i64 pos, .string sb, .slice ako zs.length kcap])) rfl (by kernel_rfl) (by kernel_rfl) (by kernel_rfl) (some 40) rfl (fun _ _ _ h => h) (Or.inl ⟨by rfl, fun W hW => by obtain ⟨g0, g1, g2, g3, g4, g5, g6, g7, g8, g9, g10⟩ := HOLD.out W hW; go_simp⟩) hHeld ?_
      try simp only [Act.put, List.setIfInBounds_toArray, List.set_cons_zero, List.set_cons_succ]
      refine take_val' (i := 4) (v := (.slice (some ⟨bb, 0, none⟩) l2.length cap2)) rfl (by kernel_rfl) (by kernel_rfl) (by kernel_rfl) (some 41) rfl (fun _ _ _ h => h) (Or.inl ⟨by rfl, fun W hW => by go_simp⟩) hHeld ?_
      try simp only [Act.put, List.setIfInBounds_toArray, List.set_cons_zero, List.set_cons_succ]
      refine take_val' (i := 5) (v := (.slice (some ⟨w2.heap.size, 0, none⟩) l.length l.length)) rfl (by kernel_rfl) (by kernel_rfl) (by kernel_rfl) (some 42) rfl (fun _ _ _ h => h) (Or.inl ⟨by rfl, fun W hW => by go_simp⟩) hHeld ?_
      try simp only [Act.put, List.setIfInBounds_toArray, List.set_cons_zero, List.set_cons_succ]
      refine take_val' (i := 6) (v := (.int .i64 (k : Int))) rfl (by kernel_rfl) (by kernel_rfl) (by kernel_rfl) (some 43) rfl (fun _ _ _ h => h) (Or.inl ⟨by rfl, fun W hW => by go_simp⟩) hHeld ?_
      try simp only [Act.put, List.setIfInBounds_toArray, List.set_cons_zero, List.set_cons_succ]
      refine take_val' (i := 7) (v := (.pointer (some ⟨w2.heap.size, k, none⟩))) rfl (by kernel_rfl) (by kernel_rfl) (by kernel_rfl) (some 44) rfl (fun _ _ _ h => h) (Or.inl ⟨by rfl, fun W hW => by go_simp⟩) hHeld ?_
      try simp only [Act.put, List.setIfInBounds_toArray, List.set_cons_zero, List.set_cons_succ]
      refine take_val' (i := 8) (v := (.int .i64 (q : Int))) rfl (by kernel_rfl) (by kernel_rfl) (by kernel_rfl) (some 45) rfl (fun _ _ _ h => h) (Or.inl ⟨by rfl, fun W hW => by obtain ⟨g0, g1, g2, g3, g4, g5, g6, g7, g8, g9, g10⟩ := HOLD.out W hW; go_simp⟩) hHeld ?_
      try simp only [Act.put, List.setIfInBounds_toArray, List.set_cons_zero, List.set_cons_succ]
      refine take_val' (i := 9) (v := (.pointer (some ⟨bb, q * 5, none⟩))) rfl (by kernel_rfl) (by kernel_rfl) (by kernel_rfl) (some 46) rfl (fun _ _ _ h => h) (Or.inl ⟨by rfl, fun W hW => by go_simp⟩) hHeld ?_
      try simp only [Act.put, List.setIfInBounds_toArray, List.set_cons_zero, List.set_cons_succ]
      refine take_val' (i := 10) (v := (.agg #[.int .i64 opb, .int .i64 numb, .int .i64 posb, .string sb, .slice akb zs.length kcb])) rfl (by kernel_rfl) (by kernel_rfl) (by kernel_rfl) (some 47) rfl (fun _ _ _ h => h) (Or.inl ⟨by rfl, fun W hW => by obtain ⟨g0, g1, g2, g3, g4, g5, g6, g7, g8, g9, g10⟩ := HOLD.out W hW; go_simp⟩) hHeld ?_
      try simp only [Act.put, List.setIfInBounds_toArray, List.set_cons_zero, List.set_cons_succ]
      refine wpAnyH_ready (rs := [11, 12]) (by kernel_rfl) (by simp) ?_
      refine AllReadyH.cons rfl (fun K hK => ?_) (AllReadyH.cons rfl (fun K hK => ?_) AllReadyH.nil)
      · go_simp
        refine hK.out _ _ (HBA.out _) (fun hH2 => ?_)
        clear hK K
        try simp only [Act.put, List.setIfInBounds_toArray, List.set_cons_zero, List.set_cons_succ]
        refine wpAnyH_ready (rs := [12]) (by kernel_rfl) (by simp) ?_
        refine AllReadyH.cons rfl (fun K hK => ?_) AllReadyH.nil
        go_simp
        refine hK.out _ _ (HBB.out _ _) (fun hH3 => ?_)
        clear hK K hH2
        try simp only [Act.put, List.setIfInBounds_toArray, List.set_cons_zero, List.set_cons_succ]
        refine wpAnyH_ready (rs := [13]) (by kernel_rfl) (by simp) ?_
        refine AllReadyH.cons rfl (fun K hK => ?_) AllReadyH.nil
        go_simp
        refine hK.out _ _ (HBB.out _ _) (fun hH4 => ?_)
        clear hK K hH3
        try simp only [Act.put, List.setIfInBounds_toArray, List.set_cons_zero, List.set_cons_succ]
        refine wpAnyH_ready (rs := [14]) (by kernel_rfl) (by simp) ?_
        refine AllReadyH.cons rfl (fun K hK => ?_) AllReadyH.nil
        go_simp
        refine hK.out _ _ (HBB.out _ _) (fun hH5 => ?_)
        clear hK K hH4
        try simp only [Act.put, List.setIfInBounds_toArray, List.set_cons_zero, List.set_cons_succ]
        refine wpAnyH_done (by kernel_rfl) ?_ _
        have HB6 := hid' hH5
        have HY7 := hid' HX1.out
        have HY8 := hid' HX2.out
        clear hH5 HX1 HX2 HV1 HV2 HBA HBB
        generalize ((wr.alloc (.cells #[.int .i64 opb, .int .i64 numb, .int .i64 pos, .string sb, .slice ako zs.length kcap] 39)).alloc (.cells #[.int .i64 opb, .int .i64 numb, .int .i64 posb, .string sb, .slice akb zs.length kcb] 39)).drew = w6 at HB6 HY7 HY8 ⊢
        have y0 := HY7.out.cell (j := 0) rfl
        have y1 := HY7.out.cell (j := 1) rfl
        have y3 := HY7.out.cell (j := 3) rfl
        have y4 := HY7.out.cell (j := 4) rfl
        have z0 := HY8.out.cell (j := 0) rfl
        have z1 := HY8.out.cell (j := 1) rfl
        have z3 := HY8.out.cell (j := 3) rfl
        have z4 := HY8.out.cell (j := 4) rfl
        have hlow7 : w2.heap.size < wr.heap.size := hr.out.lt
        generalize hgs : wr.heap.size = gsz at HY7 HY8 y0 y1 y3 y4 z0 z1 z3 z4 hlow7 ⊢
        have HR6 := hid' (hr.out.far (HB6.out.block _ hr.out.lt))
        have HB7 := hid' (hb.out.trans (HB6.out.mono hwr))
        clear hr hb
        go_wp2
        go_loopw [79] (fun c wq => ∃ (j : Nat) (P2 : List Int), j ≤ zs.length ∧ c = .int .i64 j ∧ Hid (RowV wq w2.heap.size 3 (nums P2)) ∧ Hid (PairInQ Q l k zs j P2) ∧ Hid (wq.cell? ⟨gsz + 1, 4, none⟩ = some (.slice akb zs.length kcb)) ∧ Hid (Below w2.heap.size w2 wq)) (fun c _ => zs.length - (intOf c).toNat)
        case atStart => exact ⟨0, P, Nat.zero_le _, rfl, HR6, HPI, hid' z4, HB7⟩
        case round =>
          obtain ⟨j, P2, hj, rfl, hr8, hp8, hz8, hb8⟩ := hrel
          by_cases hlj : j < zs.length
          · have hlj' : (j : Int) < (zs.length : Int) := by omega
            obtain ⟨zi, hzi⟩ : ∃ zi, zs[j] = zi := ⟨_, rfl⟩
            have hzr := HKR2.out zi (by rw [← hzi]; exact List.getElem_mem hlj)
            obtain ⟨z, rfl⟩ : ∃ z : Nat, zi = (z : Int) := ⟨zi.toNat, by omega⟩
            obtain ⟨bk, o, hako, hcz⟩ : ∃ b o, ako = some ⟨b, o, none⟩ ∧ wr.cell? ⟨b, o + j, none⟩ = some (.int .i64 (z : Int)) := by
              obtain ⟨b', o', cap', e, _, h2⟩ := kid_at (HNODE.out wr hb8.out).list hlj
              injection e with e1 e2 e3
              exact ⟨b', o', e1, by rw [h2, hzi]⟩
            obtain ⟨bkb, ob, hakb, hczb⟩ : ∃ b o, akb = some ⟨b, o, none⟩ ∧ wr.cell? ⟨b, o + j, none⟩ = some (.int .i64 (Q z : Int)) := by
              obtain ⟨b', o', cap', e, _, h2⟩ := kid_at (HNODEB.out wr hb8.out).list (j := j) (by rw [hzbl]; exact hlj)
              injection e with e1 e2 e3
              refine ⟨b', o', e1, ?_⟩
              rw [h2]
              have hjz : j < zsb.length := by rw [hzbl]; exact hlj
              have : zsb[j] = (Q z : Int) := by
                have h3 : zsb[j]? = some ((Q z : Nat) : Int) := by
                  rw [HYK.out, List.getElem?_map, List.getElem?_eq_getElem hlj, hzi]
                  simp
                rw [List.getElem?_eq_getElem hjz] at h3
                exact Option.some.inj h3
              rw [this]
            subst hako hakb
            obtain ⟨qz, hqz⟩ : ∃ x, Q z = x := ⟨_, rfl⟩
            rw [hqz] at hczb
            have hz8' := hz8.out
            have hzl : z < l.length := by omega
            have hzl' : (z : Int) < (l.length : Int) := by omega
            obtain ⟨y, hy⟩ : ∃ y, P2[z]? = some y := ⟨_, List.getElem?_eq_getElem (by rw [hp8.out.1]; exact hzl)⟩
            have hcy := hr8.out.cell (nums_at hy)
            have hoy := hr8.out.open_ z
            have HR9 := hid' (hr8.out.set z (.int .i64 (qz : Int)))
            rw [nums_set] at HR9
            have hp9 := hp8.out.step hlj z hzi
            rw [hqz] at hp9
            have HP9 := hid' hp9
            clear hp9 hqz
            have HZ9 : Hid ((wr.setCell ⟨w2.heap.size, z, none⟩ (.int .i64 (qz : Int))).cell? ⟨gsz + 1, 4, none⟩ = some (.slice (some ⟨bkb, ob, none⟩) zs.length kcb)) := hid' ((World.cell?_setCell_other _ _ _ _ (fun e => by injection e with e _ _; omega)).trans hz8')
            clear hy hr8 hp8 hz8 hzi
            go_wp2
            go_roundw
            case rel => exact ⟨j + 1, _, by omega, by go_num, HR9, HP9, HZ9, hid' (hb8.out.setCell (Nat.le_refl _) _)⟩
            case measure => simp [intOf]; omega
          · obtain rfl : j = zs.length := by omega
            have HP9 := hid' (HPD.out P2 hp8.out)
            clear hlj hp8
            go_wp2
            go_roundw
            case rel => exact ⟨k, P2, by omega, by first | rfl | go_num, hr8, HP9, hb8⟩
            case measure => simp [intOf] <;> omega
      · go_simp
        refine hK.out _ _ (HBA.out _) (fun hH2 => ?_)
        clear hK K
        try simp only [Act.put, List.setIfInBounds_toArray, List.set_cons_zero, List.set_cons_succ]
        refine wpAnyH_ready (rs := [11]) (by kernel_rfl) (by simp) ?_
        refine AllReadyH.cons rfl (fun K hK => ?_) AllReadyH.nil
        go_simp
        refine hK.out _ _ (HBB.out _ _) (fun hH3 => ?_)
        clear hK K hH2
        try simp only [Act.put, List.setIfInBounds_toArray, List.set_cons_zero, List.set_cons_succ]
        refine wpAnyH_ready (rs := [13]) (by kernel_rfl) (by simp) ?_
        refine AllReadyH.cons rfl (fun K hK => ?_) AllReadyH.nil
        go_simp
        refine hK.out _ _ (HBB.out _ _) (fun hH4 => ?_)
        clear hK K hH3
        try simp only [Act.put, List.setIfInBounds_toArray, List.set_cons_zero, List.set_cons_succ]
        refine wpAnyH_ready (rs := [14]) (by kernel_rfl) (by simp) ?_
        refine AllReadyH.cons rfl (fun K hK => ?_) AllReadyH.nil
        go_simp
        refine hK.out _ _ (HBB.out _ _) (fun hH5 => ?_)
        clear hK K hH4
        try simp only [Act.put, List.setIfInBounds_toArray, List.set_cons_zero, List.set_cons_succ]
        refine wpAnyH_done (by kernel_rfl) ?_ _
        have HB6 := hid' hH5
        have HY7 := hid' HV2.out
        have HY8 := hid' HV1.out
        clear hH5 HX1 HX2 HV1 HV2 HBA HBB
        generalize ((wr.alloc (.cells #[.int .i64 opb, .int .i64 numb, .int .i64 posb, .string sb, .slice akb zs.length kcb] 39)).alloc (.cells #[.int .i64 opb, .int .i64 numb, .int .i64 pos, .string sb, .slice ako zs.length kcap] 39)).drew = w6 at HB6 HY7 HY8 ⊢
        have y0 := HY7.out.cell (j := 0) rfl
        have y1 := HY7.out.cell (j := 1) rfl
        have y3 := HY7.out.cell (j := 3) rfl
        have y4 := HY7.out.cell (j := 4) rfl
        have z0 := HY8.out.cell (j := 0) rfl
        have z1 := HY8.out.cell (j := 1) rfl
        have z3 := HY8.out.cell (j := 3) rfl
        have z4 := HY8.out.cell (j := 4) rfl
        have hlow7 : w2.heap.size < wr.heap.size := hr.out.lt
        generalize hgs : wr.heap.size = gsz at HY7 HY8 y0 y1 y3 y4 z0 z1 z3 z4 hlow7 ⊢
        have HR6 := hid' (hr.out.far (HB6.out.block _ hr.out.lt))
        have HB7 := hid' (hb.out.trans (HB6.out.mono hwr))
        clear hr hb
        go_wp2
        go_loopw [79] (fun c wq => ∃ (j : Nat) (P2 : List Int), j ≤ zs.length ∧ c = .int .i64 j ∧ Hid (RowV wq w2.heap.size 3 (nums P2)) ∧ Hid (PairInQ Q l k zs j P2) ∧ Hid (wq.cell? ⟨gsz, 4, none⟩ = some (.slice akb zs.length kcb)) ∧ Hid (Below w2.heap.size w2 wq)) (fun c _ => zs.length - (intOf c).toNat)
        case atStart => exact ⟨0, P, Nat.zero_le _, rfl, HR6, HPI, hid' z4, HB7⟩
        case round =>
          obtain ⟨j, P2, hj, rfl, hr8, hp8, hz8, hb8⟩ := hrel
          by_cases hlj : j < zs.length
          · have hlj' : (j : Int) < (zs.length : Int) := by omega
            obtain ⟨zi, hzi⟩ : ∃ zi, zs[j] = zi := ⟨_, rfl⟩
            have hzr := HKR2.out zi (by rw [← hzi]; exact List.getElem_mem hlj)
            obtain ⟨z, rfl⟩ : ∃ z : Nat, zi = (z : Int) := ⟨zi.toNat, by omega⟩
            obtain ⟨bk, o, hako, hcz⟩ : ∃ b o, ako = some ⟨b, o, none⟩ ∧ wr.cell? ⟨b, o + j, none⟩ = some (.int .i64 (z : Int)) := by
              obtain ⟨b', o', cap', e, _, h2⟩ := kid_at (HNODE.out wr hb8.out).list hlj
              injection e with e1 e2 e3
              exact ⟨b', o', e1, by rw [h2, hzi]⟩
            obtain ⟨bkb, ob, hakb, hczb⟩ : ∃ b o, akb = some ⟨b, o, none⟩ ∧ wr.cell? ⟨b, o + j, none⟩ = some (.int .i64 (Q z : Int)) := by
              obtain ⟨b', o', cap', e, _, h2⟩ := kid_at (HNODEB.out wr hb8.out).list (j := j) (by rw [hzbl]; exact hlj)
              injection e with e1 e2 e3
              refine ⟨b', o', e1, ?_⟩
              rw [h2]
              have hjz : j < zsb.length := by rw [hzbl]; exact hlj
              have : zsb[j] = (Q z : Int) := by
                have h3 : zsb[j]? = some ((Q z : Nat) : Int) := by
                  rw [HYK.out, List.getElem?_map, List.getElem?_eq_getElem hlj, hzi]
                  simp
                rw [List.getElem?_eq_getElem hjz] at h3
                exact Option.some.inj h3
              rw [this]
            subst hako hakb
            obtain ⟨qz, hqz⟩ : ∃ x, Q z = x := ⟨_, rfl⟩
            rw [hqz] at hczb
            have hz8' := hz8.out
            have hzl : z < l.length := by omega
            have hzl' : (z : Int) < (l.length : Int) := by omega
            obtain ⟨y, hy⟩ : ∃ y, P2[z]? = some y := ⟨_, List.getElem?_eq_getElem (by rw [hp8.out.1]; exact hzl)⟩
            have hcy := hr8.out.cell (nums_at hy)
            have hoy := hr8.out.open_ z
            have HR9 := hid' (hr8.out.set z (.int .i64 (qz : Int)))
            rw [nums_set] at HR9
            have hp9 := hp8.out.step hlj z hzi
            rw [hqz] at hp9
            have HP9 := hid' hp9
            clear hp9 hqz
            have HZ9 : Hid ((wr.setCell ⟨w2.heap.size, z, none⟩ (.int .i64 (qz : Int))).cell? ⟨gsz, 4, none⟩ = some (.slice (some ⟨bkb, ob, none⟩) zs.length kcb)) := hid' ((World.cell?_setCell_other _ _ _ _ (fun e => by injection e with e _ _; omega)).trans hz8')
            clear hy hr8 hp8 hz8 hzi
            go_wp2
            go_roundw
            case rel => exact ⟨j + 1, _, by omega, by go_num, HR9, HP9, HZ9, hid' (hb8.out.setCell (Nat.le_refl _) _)⟩
            case measure => simp [intOf]; omega
          · obtain rfl : j = zs.length := by omega
            have HP9 := hid' (HPD.out P2 hp8.out)
            clear hlj hp8
            go_wp2
            go_roundw
            case rel => exact ⟨k, P2, by omega, by first | rfl | go_num, hr8, HP9, hb8⟩
            case measure => simp [intOf] <;> omega
end Go.Proofs.YthjolmjaijoogaaGreatDoor
