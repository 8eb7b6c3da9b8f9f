/- Parts of the proof, together. What ast's fault, allows, inside and isModule answer, of whatever Ops. Conditions: the nodes lie below the world's end; each node's kids lie ahead of it; a Def has kids. -/
import Derived.Deep.RegionWith
import Derived.Test.YtpjjofdphlgeiaaGreatDoorVvba
import Derived.Test.YtpjjofdphlgeiaaGreatDoorVvam
namespace Go.Proofs.YtpjjofdphlgeiaaGreatDoor
open Go.RowKit
open Lx Ax Ay

namespace Ay
def setT (T : List Bool) (b0 b1 b2 : Bool) : List Int → List Bool
  | [] => T
  | z :: r => setT (((T.set (z.toNat * 3) b0).set (z.toNat * 3 + 1) b1).set (z.toNat * 3 + 2) b2) b0 b1 b2 r
def wnT (T : List Bool) (i : Nat) : Wn := ⟨T.getD (i * 3) false, T.getD (i * 3 + 1) false, T.getD (i * 3 + 2) false⟩
/-- Does all stand where it may, from node i - 1 down? -/
def modT (l : List Nd) : Nat → List Bool → Bool
  | 0, _ => true
  | i + 1, T => match l[i]? with
    | none => false
    | some x => if allowsG (wnT T i) x.op = false then false else if x.op = 45 ∧ fitG (paramsG l x.kids) = false then false
      else modT l i (setT T (decide (i + 1 = l.length)) (insideG (wnT T i) x.op).d (insideG (wnT T i) x.op).l x.kids)
def isModT (l : List Nd) : Bool := decide ((l.getLast?.map (·.op)) = some 47) && modT l l.length (List.replicate (l.length * 3) false)
theorem setT_length (b0 b1 b2 : Bool) : ∀ (zs : List Int) (T : List Bool), (setT T b0 b1 b2 zs).length = T.length
  | [], T => rfl
  | z :: r, T => by rw [setT, setT_length b0 b1 b2 r]; simp
end Ay

theorem astFault_any (A : Nat → Addr) (pos : Int) (W : World) (hS : W.cell? ⟨1, 0, none⟩ = some (E A 12)) :
    Calls Tryz.prog 21 #[.int .i64 pos] W fun e w' => e = .returned (.iface 67 (.pointer (some ⟨W.heap.size, 0, none⟩))) ∧ w'.heap[W.heap.size]? = some (.cells #[.int .i64 pos, E A 12] 84 (0, 0)) ∧ Below W.heap.size W w' := by
  unfold E at hS ⊢
  go_enter Tryz.func21, Tryz.ntmps21
  go_wp2
  go_ret
  exact ⟨rfl, alloc_new' _ _, (Below.refl _ _).alloc (Nat.le_refl _) _⟩
set_option maxRecDepth 10000 in
set_option maxHeartbeats 3200000 in
theorem allows_all (a b c : Bool) (op : Int) (ho : OpK op) (W : World) :
    Calls Tryz.prog 42 #[.agg #[.bool a, .bool b, .bool c], .int .i64 op] W fun e w' => e = .returned (.bool (allowsG ⟨a, b, c⟩ op)) ∧ Below W.heap.size W w' := by
  rcases ho.each with h | h | h
  · rcases h with rfl | rfl | rfl | rfl | rfl | rfl | rfl | rfl | rfl | rfl | rfl | rfl | rfl | rfl | rfl | rfl
    all_goals
      (
        go_enter Tryz.func42, Tryz.ntmps42
        go_wp2
        go_ret
        exact ⟨rfl, (Below.refl _ _).alloc (Nat.le_refl _) _⟩)
  · rcases h with rfl | rfl | rfl | rfl | rfl | rfl | rfl | rfl | rfl | rfl | rfl | rfl | rfl | rfl | rfl | rfl
    all_goals
      (
        go_enter Tryz.func42, Tryz.ntmps42
        go_wp2
        go_ret
        exact ⟨rfl, (Below.refl _ _).alloc (Nat.le_refl _) _⟩)
  · rcases h with rfl | rfl | rfl | rfl | rfl | rfl | rfl | rfl | rfl | rfl | rfl | rfl | rfl | rfl | rfl
    all_goals
      (
        go_enter Tryz.func42, Tryz.ntmps42
        go_wp2
        go_ret
        exact ⟨rfl, (Below.refl _ _).alloc (Nat.le_refl _) _⟩)
set_option maxRecDepth 10000 in
set_option maxHeartbeats 6400000 in
theorem inside_all (a b c : Bool) (op : Int) (ho : OpK op) (W : World) :
    Calls Tryz.prog 44 #[.agg #[.bool a, .bool b, .bool c], .int .i64 op] W fun e w' => e = .returned (.agg #[.bool a, .bool (insideG ⟨a, b, c⟩ op).d, .bool (insideG ⟨a, b, c⟩ op).l]) ∧ Below W.heap.size W w' := by
  rcases ho.each with h | h | h
  · rcases h with rfl | rfl | rfl | rfl | rfl | rfl | rfl | rfl | rfl | rfl | rfl | rfl | rfl | rfl | rfl | rfl
    all_goals
      (
        go_enter Tryz.func44, Tryz.ntmps44
        go_wp2
        first
          | exact bodyPost_ret (v := .agg #[.bool a, .bool b, .bool c]) (by simp [results, Tryz.results44, go_sem]) rfl ⟨rfl, by go_grown⟩
          | exact bodyPost_ret (v := .agg #[.bool a, .bool b, .bool true]) (by simp [results, Tryz.results44, go_sem]) rfl ⟨rfl, by go_grown⟩
          | exact bodyPost_ret (v := .agg #[.bool a, .bool true, .bool c]) (by simp [results, Tryz.results44, go_sem]) rfl ⟨rfl, by go_grown⟩)
  · rcases h with rfl | rfl | rfl | rfl | rfl | rfl | rfl | rfl | rfl | rfl | rfl | rfl | rfl | rfl | rfl | rfl
    all_goals
      (
        go_enter Tryz.func44, Tryz.ntmps44
        go_wp2
        first
          | exact bodyPost_ret (v := .agg #[.bool a, .bool b, .bool c]) (by simp [results, Tryz.results44, go_sem]) rfl ⟨rfl, by go_grown⟩
          | exact bodyPost_ret (v := .agg #[.bool a, .bool b, .bool true]) (by simp [results, Tryz.results44, go_sem]) rfl ⟨rfl, by go_grown⟩
          | exact bodyPost_ret (v := .agg #[.bool a, .bool true, .bool c]) (by simp [results, Tryz.results44, go_sem]) rfl ⟨rfl, by go_grown⟩)
  · rcases h with rfl | rfl | rfl | rfl | rfl | rfl | rfl | rfl | rfl | rfl | rfl | rfl | rfl | rfl | rfl
    all_goals
      (
        go_enter Tryz.func44, Tryz.ntmps44
        go_wp2
        first
          | exact bodyPost_ret (v := .agg #[.bool a, .bool b, .bool c]) (by simp [results, Tryz.results44, go_sem]) rfl ⟨rfl, by go_grown⟩
          | exact bodyPost_ret (v := .agg #[.bool a, .bool b, .bool true]) (by simp [results, Tryz.results44, go_sem]) rfl ⟨rfl, by go_grown⟩
          | exact bodyPost_ret (v := .agg #[.bool a, .bool true, .bool c]) (by simp [results, Tryz.results44, go_sem]) rfl ⟨rfl, by go_grown⟩)
theorem info_within : (Tryz.prog.info? 88).map (fun i => (i.zero, i.size, i.bytes)) = some (some (.agg #[.bool false, .bool false, .bool false]), 3, 3) := by kernel_rfl
theorem made_withins (n : Nat) : madeCells (Value.agg #[.bool false, .bool false, .bool false]).cells (n * 3) = (flags (List.replicate (n * 3) false)).toArray := by
  apply Array.ext
  · simp [madeCells, flags]
  · intro i h1 h2
    have h3 : i % 3 = 0 ∨ i % 3 = 1 ∨ i % 3 = 2 := by omega
    rcases h3 with h | h | h <;> simp [madeCells, flags, Value.cells, h]
theorem make_withins (n : Nat) (hn : n ≤ 1048576) (W : World) : (Instr.makeSlice 86 (.int .i64 (n : Int)) (.int .i64 (n : Int))).run Tryz.prog W = .ok (.slice (some ⟨W.heap.size, 0, none⟩) n n) (W.alloc (.cells (flags (List.replicate (n * 3) false)).toArray 88)) := by
  obtain ⟨i0, hi, hz0, hz1, hz2⟩ := info_parts info_within
  rw [run_make (P := Tryz.prog) W 86 88 i0 _ Tryz.underlying86 hi hz0 .i64 .i64 (n : Int) (n : Int) (by omega) (by omega) (by rw [hz2]; omega) (by omega), hz1, Int.toNat_natCast, made_withins]
theorem op_eq (op : Int) (b : Bool) (h : (op == 47) = b) : op = 47 ∧ b = true ∨ (op == 47) = false ∧ (op != 47) = true ∧ b = false := by
  cases b with
  | true => exact .inl ⟨by simpa using h, rfl⟩
  | false => exact .inr ⟨h, by simpa using h, rfl⟩
set_option maxRecDepth 10000 in
set_option maxHeartbeats 25600000 in
theorem isModule_all (n : Nat) (ao : Option Addr) (cap : Nat) (l : List Nd) (w : World) (hl : l.length ≤ 1048576) (hpos : 0 < l.length) (hN : NodesAt n w ao l) (hn : n ≤ w.heap.size) (ho : ∀ x ∈ l, OpK x.op) (h45 : ∀ x ∈ l, x.op = 45 → x.kids ≠ []) (hkf : ∀ x ∈ l, x.kids.length ≤ 900000) (hk : ∀ (k : Nat) (h : k < l.length), ∀ z ∈ l[k].kids, 0 ≤ z ∧ z < k) :
    Calls Tryz.prog 23 #[.slice ao l.length cap] w fun e w' => e = .returned (.bool (isModT l)) ∧ Below w.heap.size w w' := by
  have HN := hid' hN
  have HO := hid' ho
  have HK := hid' hk
  have H45 := hid' h45
  have HKF := hid' hkf
  have hlast : (l.getLast?.map (·.op)) = some l[l.length - 1].op := by rw [List.getLast?_eq_getElem?, List.getElem?_eq_getElem (by omega)]; rfl
  unfold isModT
  rw [hlast]
  have hmk := make_withins l.length hl
  have hm1 : (l.length : Int) - 1 = ((l.length - 1 : Nat) : Int) := by omega
  have hm2 : ((l.length - 1 : Nat) : Int) < (l.length : Int) := by omega
  obtain ⟨b, v, hao, hbn, hnode⟩ := hN.node (l.length - 1) (by omega)
  have hc0 := hnode.op
  obtain ⟨op, hop⟩ : ∃ op, l[l.length - 1].op = op := ⟨_, rfl⟩
  rw [hop] at hc0 ⊢
  subst hao
  clear hN ho hk hnode hop h45 hkf hlast
  by_cases h47 : op = 47
  · subst h47
    rw [decide_eq_true rfl, Bool.true_and]
    obtain ⟨res, hres⟩ : ∃ res, modT l l.length (List.replicate (l.length * 3) false) = res := ⟨_, rfl⟩
    rw [hres]
    have HRES := hid' hres
    clear hres
    have HR1 := hid' (row_new w 88 (flags (List.replicate (l.length * 3) false)))
    have HB1 := hid' ((Below.refl w.heap.size w).alloc (Nat.le_refl _) (.cells (flags (List.replicate (l.length * 3) false)).toArray 88))
    go_enter Tryz.func23, Tryz.ntmps23
    go_wp2
    clear hc0
    go_loopw [5] (fun c wr => ∃ (m : Nat) (T : List Bool), m ≤ l.length ∧ c = .int .i64 ((m : Int) - 1) ∧ T.length = l.length * 3 ∧ Hid (RowV wr w.heap.size 88 (flags T)) ∧ Hid (modT l m T = res) ∧ Hid (Below w.heap.size w wr)) (fun c _ => (intOf c + 1).toNat)
    case atStart => exact ⟨l.length, _, Nat.le_refl _, by first | rfl | (rw [← hm1]), by simp, HR1, HRES, HB1⟩
    case round =>
      obtain ⟨m, T, hm, rfl, hTl, hr, hmt, hb⟩ := hrel
      cases m with
      | zero =>
        go_wp2
        go_ret
        exact ⟨ret_bool' (by rw [← hmt.out]; rfl), hb.out⟩
      | succ k =>
        have hk1 : ((k + 1 : Nat) : Int) - 1 = (k : Int) := by omega
        rw [hk1]
        have hkl : k < l.length := by omega
        have hkl' : (k : Int) < (l.length : Int) := by omega
        obtain ⟨b2, v2, hao2, hb2n, hnode0⟩ := HN.out.node k hkl
        have hnode := hnode0.keep hb2n (hb.out.mono hn) (Nat.le_refl _)
        injection hao2 with hao2
        injection hao2 with hao2 _ _
        subst hao2
        have hop := HO.out _ (List.getElem_mem hkl)
        have hkr := HK.out k hkl
        have e0 := hnode.op
        have e4 := hnode.kids
        have hlist := hnode.list
        have hlist0 := hnode0.list
        generalize hopn : l[k].op = op2 at hop e0
        generalize hkids : l[k].kids = zs at hkr hlist hlist0
        have HLIST := hid' (fun (W' : World) (h : Below w.heap.size w W') => hlist0.keep (h.mono hn) (Nat.le_refl _))
        have HKR := hid' hkr
        obtain ⟨ako, kcap, hv2, ⟨hkc, hzl⟩, _⟩ := hlist0
        subst hv2
        have HAL := hid' (fun a b c W' => allows_all a b c op2 hop W')
        have HIN := hid' (fun a b c W' => inside_all a b c op2 hop W')
        have hmt2 := hmt.out
        rw [modT, List.getElem?_eq_getElem hkl] at hmt2
        dsimp only at hmt2
        rw [hopn, hkids] at hmt2
        have hz45 : op2 = 45 → zs ≠ [] := fun h => by rw [← hkids]; exact H45.out _ (List.getElem_mem hkl) (by rw [hopn]; exact h)
        have hzf : zs.length ≤ 900000 := by rw [← hkids]; exact HKF.out _ (List.getElem_mem hkl)
        obtain ⟨a0, ha0⟩ : ∃ x, T[k * 3]? = some x := ⟨_, List.getElem?_eq_getElem (by omega)⟩
        obtain ⟨a1, ha1⟩ : ∃ x, T[k * 3 + 1]? = some x := ⟨_, List.getElem?_eq_getElem (by omega)⟩
        obtain ⟨a2, ha2⟩ : ∃ x, T[k * 3 + 2]? = some x := ⟨_, List.getElem?_eq_getElem (by omega)⟩
        have c0 := hr.out.cell (flags_at ha0)
        have c1 := hr.out.cell (flags_at ha1)
        have c2 := hr.out.cell (flags_at ha2)
        have HOLD := hid' (fun (W' : World) (h : Below wr.heap.size wr W') => (show W'.cell? ⟨w.heap.size, k * 3, none⟩ = some (.bool a0) ∧ W'.cell? ⟨w.heap.size, k * 3 + 1, none⟩ = some (.bool a1) ∧ W'.cell? ⟨w.heap.size, k * 3 + 2, none⟩ = some (.bool a2) ∧ W'.cell? ⟨b, k * 5, none⟩ = some (.int .i64 op2) ∧ W'.cell? ⟨b, k * 5 + 4, none⟩ = some (.slice ako zs.length kcap) ∧ KidsAt n W' (.slice ako zs.length kcap) zs from by
          have hw1 := hr.out.lt
          have hb1 : b < wr.heap.size := by omega
          exact ⟨(h.cell (by exact hw1)).trans c0, (h.cell (by exact hw1)).trans c1, (h.cell (by exact hw1)).trans c2, (h.cell (by exact hb1)).trans e0, (h.cell (by exact hb1)).trans e4, hlist.keep (h.mono (by omega)) (Nat.le_refl _)⟩))
        have hwn : wnT T k = ⟨a0, a1, a2⟩ := by
          unfold wnT
          rw [List.getD_eq_getElem?_getD, List.getD_eq_getElem?_getD, List.getD_eq_getElem?_getD, ha0, ha1, ha2]; rfl
        rw [hwn] at hmt2
        have HFIT := hid' (fun (W' : World) (h : Below wr.heap.size wr W') (hn0 : zs ≠ []) => fit_all (cap := cap) (HN.out.keep ((hb.out.trans (h.mono hb.out.size)).mono hn) (Nat.le_refl _)) (by have := hb.out.size; have := h.size; omega) (.slice ako zs.length kcap) zs (hlist.keep (h.mono (by have := hb.out.size; omega)) (Nat.le_refl _)) (fun z hz => by have := hkr z hz; omega) hn0 hzf)
        obtain ⟨al, hal⟩ : ∃ al, allowsG ⟨a0, a1, a2⟩ op2 = al := ⟨_, rfl⟩
        obtain ⟨b1', hb1'⟩ : ∃ b, (insideG ⟨a0, a1, a2⟩ op2).d = b := ⟨_, rfl⟩
        obtain ⟨b2', hb2'⟩ : ∃ b, (insideG ⟨a0, a1, a2⟩ op2).l = b := ⟨_, rfl⟩
        rw [hal, hb1', hb2'] at hmt2
        have HAL0 := hid' (fun W' => HAL.out a0 a1 a2 W')
        have HIN0 := hid' (fun W' => HIN.out a0 a1 a2 W')
        rw [hal] at HAL0
        rw [hb1', hb2'] at HIN0
        have HMT := hid' hmt2
        have HZ45 := hid' hz45
        clear hnode hnode0 hopn hkids hlist ha0 ha1 ha2 hop hkr hwn hal hb1' hb2' HAL HIN hmt hmt2 hz45
        go_wp2_with fail
        refine wp_region_held_drew (S := fun W => Below wr.heap.size wr W) (by kernel_rfl) (Below.refl _ _).drew (fun hHeld => ?_)
        refine take_val' (i := 0) (v := (.slice (some ⟨w.heap.size, 0, none⟩) l.length l.length)) rfl (by kernel_rfl) (by kernel_rfl) (by kernel_rfl) (some 26) rfl (fun _ _ _ h => h) (Or.inl ⟨by rfl, fun W hW => by go_simp⟩) hHeld ?_
        simp only [Act.put, List.setIfInBounds_toArray, List.set_cons_zero, List.set_cons_succ]
        refine take_val' (i := 1) (v := (.int .i64 (k : Int))) rfl (by kernel_rfl) (by kernel_rfl) (by kernel_rfl) (some 27) rfl (fun _ _ _ h => h) (Or.inl ⟨by rfl, fun W hW => by go_simp⟩) hHeld ?_
        simp only [Act.put, List.setIfInBounds_toArray, List.set_cons_zero, List.set_cons_succ]
        refine take_val' (i := 2) (v := (.pointer (some ⟨w.heap.size, k * 3, none⟩))) rfl (by kernel_rfl) (by kernel_rfl) (by kernel_rfl) (some 28) rfl (fun _ _ _ h => h) (Or.inl ⟨by rfl, fun W hW => by go_simp⟩) hHeld ?_
        simp only [Act.put, List.setIfInBounds_toArray, List.set_cons_zero, List.set_cons_succ]
        refine take_val' (i := 3) (v := (.agg #[.bool a0, .bool a1, .bool a2])) rfl (by kernel_rfl) (by kernel_rfl) (by kernel_rfl) (some 29) rfl (fun _ _ _ h => h) (Or.inl ⟨by rfl, fun W hW => by obtain ⟨f0, f1, f2, f3, f4, _⟩ := HOLD.out W hW; go_simp⟩) hHeld ?_
        simp only [Act.put, List.setIfInBounds_toArray, List.set_cons_zero, List.set_cons_succ]
        refine take_val' (i := 4) (v := (.slice (some ⟨b, 0, none⟩) l.length cap)) rfl (by kernel_rfl) (by kernel_rfl) (by kernel_rfl) (some 30) rfl (fun _ _ _ h => h) (Or.inl ⟨by rfl, fun W hW => by go_simp⟩) hHeld ?_
        simp only [Act.put, List.setIfInBounds_toArray, List.set_cons_zero, List.set_cons_succ]
        refine take_val' (i := 5) (v := (.int .i64 (k : Int))) rfl (by kernel_rfl) (by kernel_rfl) (by kernel_rfl) (some 31) rfl (fun _ _ _ h => h) (Or.inl ⟨by rfl, fun W hW => by go_simp⟩) hHeld ?_
        simp only [Act.put, List.setIfInBounds_toArray, List.set_cons_zero, List.set_cons_succ]
        refine take_val' (i := 6) (v := (.pointer (some ⟨b, k * 5, none⟩))) rfl (by kernel_rfl) (by kernel_rfl) (by kernel_rfl) (some 32) rfl (fun _ _ _ h => h) (Or.inl ⟨by rfl, fun W hW => by go_simp⟩) hHeld ?_
        simp only [Act.put, List.setIfInBounds_toArray, List.set_cons_zero, List.set_cons_succ]
        refine take_val' (i := 7) (v := (.pointer (some ⟨b, k * 5, none⟩))) rfl (by kernel_rfl) (by kernel_rfl) (by kernel_rfl) (some 33) rfl (fun _ _ _ h => h) (Or.inl ⟨by rfl, fun W hW => by go_simp⟩) hHeld ?_
        simp only [Act.put, List.setIfInBounds_toArray, List.set_cons_zero, List.set_cons_succ]
        refine take_val' (i := 8) (v := (.int .i64 op2)) rfl (by kernel_rfl) (by kernel_rfl) (by kernel_rfl) (some 34) rfl (fun _ _ _ h => h) (Or.inl ⟨by rfl, fun W hW => by obtain ⟨f0, f1, f2, f3, f4, _⟩ := HOLD.out W hW; go_simp⟩) hHeld ?_
        simp only [Act.put, List.setIfInBounds_toArray, List.set_cons_zero, List.set_cons_succ]
        refine wpAnyH_ready (rs := [9]) (by kernel_rfl) (by simp) ?_
        refine AllReadyH.cons rfl (fun K hK => ?_) AllReadyH.nil
        go_simp
        refine (HAL0.out _).mono ?_
        rintro e w2 ⟨rfl, b2⟩
        have HB2 : Hid (Below wr.heap.size wr w2) := hid' ⟨b2.os, b2.tape, b2.output, b2.size, b2.block⟩
        clear b2
        refine hK.out _ _ HB2.out (fun hHeld => ?_)
        clear hK K
        try simp only [Act.put, List.setIfInBounds_toArray, List.set_cons_zero, List.set_cons_succ]
        obtain ⟨lb, hlb⟩ : ∃ lb, ((k : Int) == ((l.length - 1 : Nat) : Int)) = lb := ⟨_, rfl⟩
        have hdk : decide (k + 1 = l.length) = lb := by
          rw [← hlb]
          by_cases e : k + 1 = l.length
          · rw [decide_eq_true e]; simp; omega
          · rw [decide_eq_false e]; simp; omega
        rw [hdk] at HMT
        clear hdk
        cases al with
        | false =>
          rw [if_pos rfl] at HMT
          refine take_val' (i := 10) (v := (.bool true)) rfl (by kernel_rfl) (by kernel_rfl) (by kernel_rfl) (some 36) rfl (fun _ _ _ h => h) (Or.inl ⟨by rfl, fun W hW => by go_simp⟩) hHeld ?_
          try simp only [Act.put, List.setIfInBounds_toArray, List.set_cons_zero, List.set_cons_succ]
          refine take_val' (i := 11) (v := (.bool true)) rfl (by kernel_rfl) (by kernel_rfl) (by kernel_rfl) (some 37) rfl (fun _ _ _ h => h) (Or.inl ⟨by rfl, fun W hW => by go_simp⟩) hHeld ?_
          try simp only [Act.put, List.setIfInBounds_toArray, List.set_cons_zero, List.set_cons_succ]
          refine take_val' (i := 12) (v := undef) rfl (by kernel_rfl) (by kernel_rfl) (by kernel_rfl) (some 38) rfl (fun _ _ _ h => h) (Or.inr ⟨by rfl, rfl⟩) hHeld ?_
          try simp only [Act.put, List.setIfInBounds_toArray, List.set_cons_zero, List.set_cons_succ]
          refine take_val' (i := 13) (v := undef) rfl (by kernel_rfl) (by kernel_rfl) (by kernel_rfl) (some 39) rfl (fun _ _ _ h => h) (Or.inr ⟨by rfl, rfl⟩) hHeld ?_
          try simp only [Act.put, List.setIfInBounds_toArray, List.set_cons_zero, List.set_cons_succ]
          refine take_val' (i := 14) (v := undef) rfl (by kernel_rfl) (by kernel_rfl) (by kernel_rfl) (some 40) rfl (fun _ _ _ h => h) (Or.inr ⟨by rfl, rfl⟩) hHeld ?_
          try simp only [Act.put, List.setIfInBounds_toArray, List.set_cons_zero, List.set_cons_succ]
          refine take_val' (i := 15) (v := undef) rfl (by kernel_rfl) (by kernel_rfl) (by kernel_rfl) (some 41) rfl (fun _ _ _ h => h) (Or.inr ⟨by rfl, rfl⟩) hHeld ?_
          try simp only [Act.put, List.setIfInBounds_toArray, List.set_cons_zero, List.set_cons_succ]
          refine take_val' (i := 16) (v := undef) rfl (by kernel_rfl) (by kernel_rfl) (by kernel_rfl) (some 42) rfl (fun _ _ _ h => h) (Or.inr ⟨by rfl, rfl⟩) hHeld ?_
          try simp only [Act.put, List.setIfInBounds_toArray, List.set_cons_zero, List.set_cons_succ]
          refine take_val' (i := 17) (v := undef) rfl (by kernel_rfl) (by kernel_rfl) (by kernel_rfl) (some 43) rfl (fun _ _ _ h => h) (Or.inr ⟨by rfl, rfl⟩) hHeld ?_
          try simp only [Act.put, List.setIfInBounds_toArray, List.set_cons_zero, List.set_cons_succ]
          refine take_val' (i := 18) (v := undef) rfl (by kernel_rfl) (by kernel_rfl) (by kernel_rfl) (some 44) rfl (fun _ _ _ h => h) (Or.inr ⟨by rfl, rfl⟩) hHeld ?_
          try simp only [Act.put, List.setIfInBounds_toArray, List.set_cons_zero, List.set_cons_succ]
          refine take_val' (i := 19) (v := undef) rfl (by kernel_rfl) (by kernel_rfl) (by kernel_rfl) (some 45) rfl (fun _ _ _ h => h) (Or.inr ⟨by rfl, rfl⟩) hHeld ?_
          try simp only [Act.put, List.setIfInBounds_toArray, List.set_cons_zero, List.set_cons_succ]
          refine take_val' (i := 20) (v := undef) rfl (by kernel_rfl) (by kernel_rfl) (by kernel_rfl) (some 46) rfl (fun _ _ _ h => h) (Or.inr ⟨by rfl, rfl⟩) hHeld ?_
          try simp only [Act.put, List.setIfInBounds_toArray, List.set_cons_zero, List.set_cons_succ]
          refine take_val' (i := 21) (v := undef) rfl (by kernel_rfl) (by kernel_rfl) (by kernel_rfl) (some 47) rfl (fun _ _ _ h => h) (Or.inr ⟨by rfl, rfl⟩) hHeld ?_
          try simp only [Act.put, List.setIfInBounds_toArray, List.set_cons_zero, List.set_cons_succ]
          refine take_val' (i := 22) (v := undef) rfl (by kernel_rfl) (by kernel_rfl) (by kernel_rfl) (some 48) rfl (fun _ _ _ h => h) (Or.inr ⟨by rfl, rfl⟩) hHeld ?_
          try simp only [Act.put, List.setIfInBounds_toArray, List.set_cons_zero, List.set_cons_succ]
          refine take_val' (i := 23) (v := undef) rfl (by kernel_rfl) (by kernel_rfl) (by kernel_rfl) (some 49) rfl (fun _ _ _ h => h) (Or.inr ⟨by rfl, rfl⟩) hHeld ?_
          try simp only [Act.put, List.setIfInBounds_toArray, List.set_cons_zero, List.set_cons_succ]
          refine take_val' (i := 24) (v := undef) rfl (by kernel_rfl) (by kernel_rfl) (by kernel_rfl) (some 50) rfl (fun _ _ _ h => h) (Or.inr ⟨by rfl, rfl⟩) hHeld ?_
          try simp only [Act.put, List.setIfInBounds_toArray, List.set_cons_zero, List.set_cons_succ]
          refine take_val' (i := 25) (v := undef) rfl (by kernel_rfl) (by kernel_rfl) (by kernel_rfl) (some 51) rfl (fun _ _ _ h => h) (Or.inr ⟨by rfl, rfl⟩) hHeld ?_
          try simp only [Act.put, List.setIfInBounds_toArray, List.set_cons_zero, List.set_cons_succ]
          refine take_val' (i := 26) (v := undef) rfl (by kernel_rfl) (by kernel_rfl) (by kernel_rfl) (some 52) rfl (fun _ _ _ h => h) (Or.inr ⟨by rfl, rfl⟩) hHeld ?_
          try simp only [Act.put, List.setIfInBounds_toArray, List.set_cons_zero, List.set_cons_succ]
          refine take_val' (i := 27) (v := undef) rfl (by kernel_rfl) (by kernel_rfl) (by kernel_rfl) (some 53) rfl (fun _ _ _ h => h) (Or.inr ⟨by rfl, rfl⟩) hHeld ?_
          try simp only [Act.put, List.setIfInBounds_toArray, List.set_cons_zero, List.set_cons_succ]
          refine take_val' (i := 28) (v := (.bool true)) rfl (by kernel_rfl) (by kernel_rfl) (by kernel_rfl) (some 54) rfl (fun _ _ _ h => h) (Or.inl ⟨by rfl, fun W hW => by go_simp⟩) hHeld ?_
          try simp only [Act.put, List.setIfInBounds_toArray, List.set_cons_zero, List.set_cons_succ]
          refine wpAnyH_done (by kernel_rfl) ?_ _
          go_wp2
          go_ret
          exact ⟨ret_bool' HMT.out, hb.out.trans (HB2.out.mono hb.out.size)⟩
        | true =>
          rw [if_neg (by simp)] at HMT
          by_cases h5 : op2 = 45
          · subst h5
            refine take_val' (i := 10) (v := (.bool false)) rfl (by kernel_rfl) (by kernel_rfl) (by kernel_rfl) (some 36) rfl (fun _ _ _ h => h) (Or.inl ⟨by rfl, fun W hW => by go_simp⟩) hHeld ?_
            try simp only [Act.put, List.setIfInBounds_toArray, List.set_cons_zero, List.set_cons_succ]
            refine take_val' (i := 11) (v := (.bool false)) rfl (by kernel_rfl) (by kernel_rfl) (by kernel_rfl) (some 37) rfl (fun _ _ _ h => h) (Or.inl ⟨by rfl, fun W hW => by go_simp⟩) hHeld ?_
            try simp only [Act.put, List.setIfInBounds_toArray, List.set_cons_zero, List.set_cons_succ]
            refine take_val' (i := 12) (v := (.slice (some ⟨b, 0, none⟩) l.length cap)) rfl (by kernel_rfl) (by kernel_rfl) (by kernel_rfl) (some 38) rfl (fun _ _ _ h => h) (Or.inl ⟨by rfl, fun W hW => by go_simp⟩) hHeld ?_
            try simp only [Act.put, List.setIfInBounds_toArray, List.set_cons_zero, List.set_cons_succ]
            refine take_val' (i := 13) (v := (.int .i64 (k : Int))) rfl (by kernel_rfl) (by kernel_rfl) (by kernel_rfl) (some 39) rfl (fun _ _ _ h => h) (Or.inl ⟨by rfl, fun W hW => by go_simp⟩) hHeld ?_
            try simp only [Act.put, List.setIfInBounds_toArray, List.set_cons_zero, List.set_cons_succ]
            refine take_val' (i := 14) (v := (.pointer (some ⟨b, k * 5, none⟩))) rfl (by kernel_rfl) (by kernel_rfl) (by kernel_rfl) (some 40) rfl (fun _ _ _ h => h) (Or.inl ⟨by rfl, fun W hW => by go_simp⟩) hHeld ?_
            try simp only [Act.put, List.setIfInBounds_toArray, List.set_cons_zero, List.set_cons_succ]
            refine take_val' (i := 15) (v := (.pointer (some ⟨b, k * 5, none⟩))) rfl (by kernel_rfl) (by kernel_rfl) (by kernel_rfl) (some 41) rfl (fun _ _ _ h => h) (Or.inl ⟨by rfl, fun W hW => by go_simp⟩) hHeld ?_
            try simp only [Act.put, List.setIfInBounds_toArray, List.set_cons_zero, List.set_cons_succ]
            refine take_val' (i := 16) (v := (.int .i64 45)) rfl (by kernel_rfl) (by kernel_rfl) (by kernel_rfl) (some 42) rfl (fun _ _ _ h => h) (Or.inl ⟨by rfl, fun W hW => by obtain ⟨f0, f1, f2, f3, f4, _⟩ := HOLD.out W hW; go_simp⟩) hHeld ?_
            try simp only [Act.put, List.setIfInBounds_toArray, List.set_cons_zero, List.set_cons_succ]
            refine take_val' (i := 17) (v := (.bool true)) rfl (by kernel_rfl) (by kernel_rfl) (by kernel_rfl) (some 43) rfl (fun _ _ _ h => h) (Or.inl ⟨by rfl, fun W hW => by go_simp⟩) hHeld ?_
            try simp only [Act.put, List.setIfInBounds_toArray, List.set_cons_zero, List.set_cons_succ]
            refine take_val' (i := 18) (v := (.bool true)) rfl (by kernel_rfl) (by kernel_rfl) (by kernel_rfl) (some 44) rfl (fun _ _ _ h => h) (Or.inl ⟨by rfl, fun W hW => by go_simp⟩) hHeld ?_
            try simp only [Act.put, List.setIfInBounds_toArray, List.set_cons_zero, List.set_cons_succ]
            refine take_val' (i := 19) (v := (.slice (some ⟨b, 0, none⟩) l.length cap)) rfl (by kernel_rfl) (by kernel_rfl) (by kernel_rfl) (some 45) rfl (fun _ _ _ h => h) (Or.inl ⟨by rfl, fun W hW => by go_simp⟩) hHeld ?_
            try simp only [Act.put, List.setIfInBounds_toArray, List.set_cons_zero, List.set_cons_succ]
            refine take_val' (i := 20) (v := (.slice (some ⟨b, 0, none⟩) l.length cap)) rfl (by kernel_rfl) (by kernel_rfl) (by kernel_rfl) (some 46) rfl (fun _ _ _ h => h) (Or.inl ⟨by rfl, fun W hW => by go_simp⟩) hHeld ?_
            try simp only [Act.put, List.setIfInBounds_toArray, List.set_cons_zero, List.set_cons_succ]
            refine take_val' (i := 21) (v := (.int .i64 (k : Int))) rfl (by kernel_rfl) (by kernel_rfl) (by kernel_rfl) (some 47) rfl (fun _ _ _ h => h) (Or.inl ⟨by rfl, fun W hW => by go_simp⟩) hHeld ?_
            try simp only [Act.put, List.setIfInBounds_toArray, List.set_cons_zero, List.set_cons_succ]
            refine take_val' (i := 22) (v := (.pointer (some ⟨b, k * 5, none⟩))) rfl (by kernel_rfl) (by kernel_rfl) (by kernel_rfl) (some 48) rfl (fun _ _ _ h => h) (Or.inl ⟨by rfl, fun W hW => by go_simp⟩) hHeld ?_
            try simp only [Act.put, List.setIfInBounds_toArray, List.set_cons_zero, List.set_cons_succ]
            refine take_val' (i := 23) (v := (.pointer (some ⟨b, k * 5 + 4, none⟩))) rfl (by kernel_rfl) (by kernel_rfl) (by kernel_rfl) (some 49) rfl (fun _ _ _ h => h) (Or.inl ⟨by rfl, fun W hW => by go_simp⟩) hHeld ?_
            try simp only [Act.put, List.setIfInBounds_toArray, List.set_cons_zero, List.set_cons_succ]
            refine take_val' (i := 24) (v := (.slice ako zs.length kcap)) rfl (by kernel_rfl) (by kernel_rfl) (by kernel_rfl) (some 50) rfl (fun _ _ _ h => h) (Or.inl ⟨by rfl, fun W hW => by obtain ⟨f0, f1, f2, f3, f4, _⟩ := HOLD.out W hW; go_simp⟩) hHeld ?_
            try simp only [Act.put, List.setIfInBounds_toArray, List.set_cons_zero, List.set_cons_succ]
            obtain ⟨ft, hft⟩ : ∃ ft, fitG (paramsG l zs) = ft := ⟨_, rfl⟩
            rw [hft] at HFIT HMT
            clear hft
            refine wpAnyH_ready (rs := [25]) (by kernel_rfl) (by simp) ?_
            refine AllReadyH.cons rfl (fun K hK => ?_) AllReadyH.nil
            go_simp
            refine (HFIT.out _ hHeld (HZ45.out rfl)).mono ?_
            rintro e w2 ⟨rfl, b2⟩
            replace HB2 : Hid (Below wr.heap.size wr w2) := hid' (hHeld.trans (b2.mono hHeld.size))
            clear b2
            refine hK.out _ _ HB2.out (fun hHeld => ?_)
            clear hK K
            try simp only [Act.put, List.setIfInBounds_toArray, List.set_cons_zero, List.set_cons_succ]
            cases ft with
            | false =>
              rw [if_pos ⟨rfl, rfl⟩] at HMT
              refine take_val' (i := 26) (v := (.bool true)) rfl (by kernel_rfl) (by kernel_rfl) (by kernel_rfl) (some 52) rfl (fun _ _ _ h => h) (Or.inl ⟨by rfl, fun W hW => by go_simp⟩) hHeld ?_
              try simp only [Act.put, List.setIfInBounds_toArray, List.set_cons_zero, List.set_cons_succ]
              refine take_val' (i := 27) (v := (.bool true)) rfl (by kernel_rfl) (by kernel_rfl) (by kernel_rfl) (some 53) rfl (fun _ _ _ h => h) (Or.inl ⟨by rfl, fun W hW => by go_simp⟩) hHeld ?_
              try simp only [Act.put, List.setIfInBounds_toArray, List.set_cons_zero, List.set_cons_succ]
              refine take_val' (i := 28) (v := (.bool true)) rfl (by kernel_rfl) (by kernel_rfl) (by kernel_rfl) (some 54) rfl (fun _ _ _ h => h) (Or.inl ⟨by rfl, fun W hW => by go_simp⟩) hHeld ?_
              try simp only [Act.put, List.setIfInBounds_toArray, List.set_cons_zero, List.set_cons_succ]
              refine wpAnyH_done (by kernel_rfl) ?_ _
              go_wp2
              go_ret
              exact ⟨ret_bool' HMT.out, hb.out.trans (HB2.out.mono hb.out.size)⟩
            | true =>
              rw [if_neg (by rintro ⟨_, h⟩; cases h)] at HMT
              refine take_val' (i := 26) (v := (.bool false)) rfl (by kernel_rfl) (by kernel_rfl) (by kernel_rfl) (some 52) rfl (fun _ _ _ h => h) (Or.inl ⟨by rfl, fun W hW => by go_simp⟩) hHeld ?_
              try simp only [Act.put, List.setIfInBounds_toArray, List.set_cons_zero, List.set_cons_succ]
              refine take_val' (i := 27) (v := (.bool false)) rfl (by kernel_rfl) (by kernel_rfl) (by kernel_rfl) (some 53) rfl (fun _ _ _ h => h) (Or.inl ⟨by rfl, fun W hW => by go_simp⟩) hHeld ?_
              try simp only [Act.put, List.setIfInBounds_toArray, List.set_cons_zero, List.set_cons_succ]
              refine take_val' (i := 28) (v := (.bool false)) rfl (by kernel_rfl) (by kernel_rfl) (by kernel_rfl) (some 54) rfl (fun _ _ _ h => h) (Or.inl ⟨by rfl, fun W hW => by go_simp⟩) hHeld ?_
              try simp only [Act.put, List.setIfInBounds_toArray, List.set_cons_zero, List.set_cons_succ]
              refine wpAnyH_done (by kernel_rfl) ?_ _
              go_wp2_with fail
              refine wp_region_held_drew (S := fun W => Below wr.heap.size wr W) (by kernel_rfl) (hHeld.drew) (fun hHeld => ?_)
              refine take_val' (i := 0) (v := (.slice (some ⟨w.heap.size, 0, none⟩) l.length l.length)) rfl (by kernel_rfl) (by kernel_rfl) (by kernel_rfl) (some 55) rfl (fun _ _ _ h => h) (Or.inl ⟨by rfl, fun W hW => by go_simp⟩) hHeld ?_
              try simp only [Act.put, List.setIfInBounds_toArray, List.set_cons_zero, List.set_cons_succ]
              refine take_val' (i := 1) (v := (.int .i64 (k : Int))) rfl (by kernel_rfl) (by kernel_rfl) (by kernel_rfl) (some 56) rfl (fun _ _ _ h => h) (Or.inl ⟨by rfl, fun W hW => by go_simp⟩) hHeld ?_
              try simp only [Act.put, List.setIfInBounds_toArray, List.set_cons_zero, List.set_cons_succ]
              refine take_val' (i := 2) (v := (.pointer (some ⟨w.heap.size, k * 3, none⟩))) rfl (by kernel_rfl) (by kernel_rfl) (by kernel_rfl) (some 57) rfl (fun _ _ _ h => h) (Or.inl ⟨by rfl, fun W hW => by go_simp⟩) hHeld ?_
              try simp only [Act.put, List.setIfInBounds_toArray, List.set_cons_zero, List.set_cons_succ]
              refine take_val' (i := 3) (v := (.agg #[.bool a0, .bool a1, .bool a2])) rfl (by kernel_rfl) (by kernel_rfl) (by kernel_rfl) (some 58) rfl (fun _ _ _ h => h) (Or.inl ⟨by rfl, fun W hW => by obtain ⟨f0, f1, f2, f3, f4, _⟩ := HOLD.out W hW; go_simp⟩) hHeld ?_
              try simp only [Act.put, List.setIfInBounds_toArray, List.set_cons_zero, List.set_cons_succ]
              refine take_val' (i := 4) (v := (.slice (some ⟨b, 0, none⟩) l.length cap)) rfl (by kernel_rfl) (by kernel_rfl) (by kernel_rfl) (some 59) rfl (fun _ _ _ h => h) (Or.inl ⟨by rfl, fun W hW => by go_simp⟩) hHeld ?_
              try simp only [Act.put, List.setIfInBounds_toArray, List.set_cons_zero, List.set_cons_succ]
              refine take_val' (i := 5) (v := (.int .i64 (k : Int))) rfl (by kernel_rfl) (by kernel_rfl) (by kernel_rfl) (some 60) rfl (fun _ _ _ h => h) (Or.inl ⟨by rfl, fun W hW => by go_simp⟩) hHeld ?_
              try simp only [Act.put, List.setIfInBounds_toArray, List.set_cons_zero, List.set_cons_succ]
              refine take_val' (i := 6) (v := (.pointer (some ⟨b, k * 5, none⟩))) rfl (by kernel_rfl) (by kernel_rfl) (by kernel_rfl) (some 61) rfl (fun _ _ _ h => h) (Or.inl ⟨by rfl, fun W hW => by go_simp⟩) hHeld ?_
              try simp only [Act.put, List.setIfInBounds_toArray, List.set_cons_zero, List.set_cons_succ]
              refine take_val' (i := 7) (v := (.pointer (some ⟨b, k * 5, none⟩))) rfl (by kernel_rfl) (by kernel_rfl) (by kernel_rfl) (some 62) rfl (fun _ _ _ h => h) (Or.inl ⟨by rfl, fun W hW => by go_simp⟩) hHeld ?_
              try simp only [Act.put, List.setIfInBounds_toArray, List.set_cons_zero, List.set_cons_succ]
              refine take_val' (i := 8) (v := (.int .i64 45)) rfl (by kernel_rfl) (by kernel_rfl) (by kernel_rfl) (some 63) rfl (fun _ _ _ h => h) (Or.inl ⟨by rfl, fun W hW => by obtain ⟨f0, f1, f2, f3, f4, _⟩ := HOLD.out W hW; go_simp⟩) hHeld ?_
              try simp only [Act.put, List.setIfInBounds_toArray, List.set_cons_zero, List.set_cons_succ]
              refine wpAnyH_ready (rs := [9, 10]) (by kernel_rfl) (by simp) ?_
              refine AllReadyH.cons rfl (fun K hK => ?_) (AllReadyH.cons rfl (fun K hK => ?_) AllReadyH.nil)
              · go_simp
                refine (HIN0.out _).mono ?_
                rintro e w3 ⟨rfl, b3⟩
                refine hK.out _ _ (hHeld.trans (b3.mono hHeld.size)) (fun hHeld3 => ?_)
                clear hK K
                try simp only [Act.put, List.setIfInBounds_toArray, List.set_cons_zero, List.set_cons_succ]
                refine wpAnyH_ready (rs := [10]) (by kernel_rfl) (by simp) ?_
                refine AllReadyH.cons rfl (fun K hK => ?_) AllReadyH.nil
                go_simp
                have hB4 : Below wr.heap.size wr (w3.alloc (.cells #[.bool false, .bool false, .bool false] 88)) := hHeld3.alloc hHeld3.size _
                refine hK.out _ _ hB4 (fun hHeld4 => ?_)
                have hB3 := hHeld3
                clear hK K hHeld3
                try simp only [Act.put, List.setIfInBounds_toArray, List.set_cons_zero, List.set_cons_succ]
                refine wpAnyH_ready (rs := [11]) (by kernel_rfl) (by simp) ?_
                refine AllReadyH.cons rfl (fun K hK => ?_) AllReadyH.nil
                go_simp
                have HR6 : Hid (RowV (w3.alloc (.cells #[.bool a0, .bool b1', .bool b2'] 88)) w3.heap.size 88 (flags [a0, b1', b2'])) := hid' (row_new _ _ _)
                have HB6 : Hid (Below wr.heap.size wr (w3.alloc (.cells #[.bool a0, .bool b1', .bool b2'] 88))) := hid' (hB3.alloc hB3.size _)
                refine hK.out _ _ HB6.out (fun _ => ?_)
                clear hK K
                refine wpAnyH_done (by kernel_rfl) ?_ _
                have hg6 : wr.heap.size ≤ w3.heap.size := hB3.size
                generalize w3.alloc (.cells #[.bool a0, .bool b1', .bool b2'] 88) = w6 at HR6 HB6 ⊢
                generalize w3.heap.size = g6 at HR6 hg6 ⊢
                have hwr := hb.out.size
                have hglt := hr.out.lt
                have z0 := HR6.out.cell (j := 0) rfl
                have z1 := HR6.out.open_ 0
                have i4 : w6.cell? ⟨b, k * 5 + 4, none⟩ = some (.slice ako zs.length kcap) := (HOLD.out w6 HB6.out).2.2.2.2.1
                clear c0 c1 c2 e0 e4
                go_wp2
                go_loopw [75] (fun c wq => ∃ (j : Nat) (T2 : List Bool), j ≤ zs.length ∧ c = .int .i64 j ∧ T2.length = l.length * 3 ∧ Hid (RowV wq w.heap.size 88 (flags T2)) ∧ Hid (RowV wq g6 88 (flags [lb, b1', b2'])) ∧ Hid (setT T2 lb b1' b2' (zs.drop j) = setT T lb b1' b2' zs) ∧ Hid (Below w.heap.size w wq)) (fun c _ => zs.length - (intOf c).toNat)
                case atStart =>
                  refine ⟨0, T, Nat.zero_le _, rfl, hTl, hid' ?_, hid' (HR6.out.set 0 (.bool _)), hid' rfl, hid' ?_⟩
                  · exact (hr.out.far (HB6.out.block _ hr.out.lt)).far (heap_setCell_other _ ⟨g6, 0, none⟩ _ _ (by show w.heap.size ≠ g6; omega))
                  · exact (hb.out.trans (HB6.out.mono hwr)).setCell (by simp only; omega) _
                case round =>
                  obtain ⟨j, T2, hj, rfl, hT2, hr7, hx7, hst, hb7⟩ := hrel
                  by_cases hlj : j < zs.length
                  · have hlj' : (j : Int) < (zs.length : Int) := by omega
                    have hr8 := hx7.out
                    have x_0 := hr8.cell (j := 0) rfl
                    have x_1 := hr8.cell (j := 1) rfl
                    have x_2 := hr8.cell (j := 2) rfl
                    obtain ⟨zi, hzi⟩ : ∃ zi, zs[j] = zi := ⟨_, rfl⟩
                    have hzr := HKR.out zi (by rw [← hzi]; exact List.getElem_mem hlj)
                    obtain ⟨z, rfl⟩ : ∃ z : Nat, zi = (z : Int) := ⟨zi.toNat, by omega⟩
                    obtain ⟨bk, o, hako, hcz⟩ : ∃ b o, ako = some ⟨b, o, none⟩ ∧ wr.cell? ⟨b, o + j, none⟩ = some (.int .i64 (z : Int)) := by
                      obtain ⟨b', o', cap', e, _, h2⟩ := kid_at (HLIST.out wr hb7.out) hlj
                      injection e with e1 e2 e3
                      exact ⟨b', o', e1, by rw [h2, hzi]⟩
                    subst hako
                    have hzk : z < l.length := by omega
                    have hzl' : (z : Int) < (l.length : Int) := by omega
                    obtain ⟨y0, hy0⟩ : ∃ x, T2[z * 3]? = some x := ⟨_, List.getElem?_eq_getElem (by omega)⟩
                    obtain ⟨y1, hy1⟩ : ∃ x, T2[z * 3 + 1]? = some x := ⟨_, List.getElem?_eq_getElem (by omega)⟩
                    obtain ⟨y2, hy2⟩ : ∃ x, T2[z * 3 + 2]? = some x := ⟨_, List.getElem?_eq_getElem (by omega)⟩
                    have k0 := hr7.out.cell (flags_at hy0)
                    have k1 := hr7.out.cell (flags_at hy1)
                    have k2 := hr7.out.cell (flags_at hy2)
                    have o0 := hr7.out.open_ (z * 3)
                    have o1 := hr7.out.open_ (z * 3 + 1)
                    have o2 := hr7.out.open_ (z * 3 + 2)
                    have HR9 := hid' (((hr7.out.set (z * 3) (.bool lb)).set (z * 3 + 1) (.bool b1')).set (z * 3 + 2) (.bool b2'))
                    rw [flags_set, flags_set, flags_set] at HR9
                    have HR8 := hid' hr8
                    have hst2 := hst.out
                    rw [List.drop_eq_getElem_cons hlj, hzi, setT, Int.toNat_natCast] at hst2
                    have HST := hid' hst2
                    clear hy0 hy1 hy2 hr8 hx7 hzi hst hst2
                    go_wp2
                    go_roundw
                    case rel => exact ⟨j + 1, _, by omega, by go_num, by simp; omega, HR9, hid' (((HR8.out.far (heap_setCell_other _ ⟨w.heap.size, z * 3, none⟩ _ _ (by show g6 ≠ w.heap.size; omega))).far (heap_setCell_other _ ⟨w.heap.size, z * 3 + 1, none⟩ _ _ (by show g6 ≠ w.heap.size; omega))).far (heap_setCell_other _ ⟨w.heap.size, z * 3 + 2, none⟩ _ _ (by show g6 ≠ w.heap.size; omega))), HST, hid' (((hb7.out.setCell (Nat.le_refl _) _).setCell (Nat.le_refl _) _).setCell (Nat.le_refl _) _)⟩
                    case measure => simp [intOf]; omega
                  · obtain rfl : j = zs.length := by omega
                    clear hlj
                    go_wp2
                    go_roundw
                    case rel => exact ⟨k, T2, by omega, by first | rfl | go_num, hT2, hr7, hid' (by have e : T2 = setT T lb b1' b2' zs := (by have h := hst.out; rw [List.drop_length] at h; exact h); rw [e]; exact HMT.out), hb7⟩
                    case measure => simp [intOf] <;> omega
              · go_simp
                have hB4 : Below wr.heap.size wr (w2.drew.alloc (.cells #[.bool false, .bool false, .bool false] 88)) := hHeld.alloc hHeld.size _
                refine hK.out _ _ hB4 (fun hHeld4 => ?_)
                clear hK K
                try simp only [Act.put, List.setIfInBounds_toArray, List.set_cons_zero, List.set_cons_succ]
                refine wpAnyH_ready (rs := [9]) (by kernel_rfl) (by simp) ?_
                refine AllReadyH.cons rfl (fun K hK => ?_) AllReadyH.nil
                go_simp
                refine (HIN0.out _).mono ?_
                rintro e w3 ⟨rfl, b3⟩
                refine hK.out _ _ (hHeld4.trans (b3.mono hHeld4.size)) (fun hHeld3 => ?_)
                clear hK K
                try simp only [Act.put, List.setIfInBounds_toArray, List.set_cons_zero, List.set_cons_succ]
                have hro : RowV w3 w2.heap.size 88 (flags [false, false, false]) := (row_new w2.drew _ _).far (b3.block _ (by simp))
                have n0 := hro.cell (j := 0) rfl
                have n1 := hro.cell (j := 1) rfl
                have n2 := hro.cell (j := 2) rfl
                have m0 := hro.open_ 0
                have m1 := hro.open_ 1
                have m2 := hro.open_ 2
                refine wpAnyH_ready (rs := [11]) (by kernel_rfl) (by simp) ?_
                refine AllReadyH.cons rfl (fun K hK => ?_) AllReadyH.nil
                go_simp
                have HR6 : Hid (RowV (((w3.setCell ⟨w2.heap.size, 0, none⟩ (.bool a0)).setCell ⟨w2.heap.size, 1, none⟩ (.bool b1')).setCell ⟨w2.heap.size, 2, none⟩ (.bool b2')) w2.heap.size 88 (flags [a0, b1', b2'])) := hid' (((hro.set 0 (.bool a0)).set 1 (.bool b1')).set 2 (.bool b2'))
                have HB6 : Hid (Below wr.heap.size wr (((w3.setCell ⟨w2.heap.size, 0, none⟩ (.bool a0)).setCell ⟨w2.heap.size, 1, none⟩ (.bool b1')).setCell ⟨w2.heap.size, 2, none⟩ (.bool b2'))) := hid' (((hHeld3.setCell hHeld.size _).setCell hHeld.size _).setCell hHeld.size _)
                refine hK.out _ _ HB6.out (fun _ => ?_)
                clear hK K n0 n1 n2 m0 m1 m2
                refine wpAnyH_done (by kernel_rfl) ?_ _
                have hg6 : wr.heap.size ≤ w2.heap.size := hHeld.size
                generalize ((w3.setCell ⟨w2.heap.size, 0, none⟩ (.bool a0)).setCell ⟨w2.heap.size, 1, none⟩ (.bool b1')).setCell ⟨w2.heap.size, 2, none⟩ (.bool b2') = w6 at HR6 HB6 ⊢
                clear hro hHeld4 hB4 HB2 b3
                generalize w2.heap.size = g6 at HR6 hg6 ⊢
                have hwr := hb.out.size
                have hglt := hr.out.lt
                have z0 := HR6.out.cell (j := 0) rfl
                have z1 := HR6.out.open_ 0
                have i4 : w6.cell? ⟨b, k * 5 + 4, none⟩ = some (.slice ako zs.length kcap) := (HOLD.out w6 HB6.out).2.2.2.2.1
                clear c0 c1 c2 e0 e4
                go_wp2
                go_loopw [75] (fun c wq => ∃ (j : Nat) (T2 : List Bool), j ≤ zs.length ∧ c = .int .i64 j ∧ T2.length = l.length * 3 ∧ Hid (RowV wq w.heap.size 88 (flags T2)) ∧ Hid (RowV wq g6 88 (flags [lb, b1', b2'])) ∧ Hid (setT T2 lb b1' b2' (zs.drop j) = setT T lb b1' b2' zs) ∧ Hid (Below w.heap.size w wq)) (fun c _ => zs.length - (intOf c).toNat)
                case atStart =>
                  refine ⟨0, T, Nat.zero_le _, rfl, hTl, hid' ?_, hid' (HR6.out.set 0 (.bool _)), hid' rfl, hid' ?_⟩
                  · exact (hr.out.far (HB6.out.block _ hr.out.lt)).far (heap_setCell_other _ ⟨g6, 0, none⟩ _ _ (by show w.heap.size ≠ g6; omega))
                  · exact (hb.out.trans (HB6.out.mono hwr)).setCell (by simp only; omega) _
                case round =>
                  obtain ⟨j, T2, hj, rfl, hT2, hr7, hx7, hst, hb7⟩ := hrel
                  by_cases hlj : j < zs.length
                  · have hlj' : (j : Int) < (zs.length : Int) := by omega
                    have hr8 := hx7.out
                    have x_0 := hr8.cell (j := 0) rfl
                    have x_1 := hr8.cell (j := 1) rfl
                    have x_2 := hr8.cell (j := 2) rfl
                    obtain ⟨zi, hzi⟩ : ∃ zi, zs[j] = zi := ⟨_, rfl⟩
                    have hzr := HKR.out zi (by rw [← hzi]; exact List.getElem_mem hlj)
                    obtain ⟨z, rfl⟩ : ∃ z : Nat, zi = (z : Int) := ⟨zi.toNat, by omega⟩
                    obtain ⟨bk, o, hako, hcz⟩ : ∃ b o, ako = some ⟨b, o, none⟩ ∧ wr.cell? ⟨b, o + j, none⟩ = some (.int .i64 (z : Int)) := by
                      obtain ⟨b', o', cap', e, _, h2⟩ := kid_at (HLIST.out wr hb7.out) hlj
                      injection e with e1 e2 e3
                      exact ⟨b', o', e1, by rw [h2, hzi]⟩
                    subst hako
                    have hzk : z < l.length := by omega
                    have hzl' : (z : Int) < (l.length : Int) := by omega
                    obtain ⟨y0, hy0⟩ : ∃ x, T2[z * 3]? = some x := ⟨_, List.getElem?_eq_getElem (by omega)⟩
                    obtain ⟨y1, hy1⟩ : ∃ x, T2[z * 3 + 1]? = some x := ⟨_, List.getElem?_eq_getElem (by omega)⟩
                    obtain ⟨y2, hy2⟩ : ∃ x, T2[z * 3 + 2]? = some x := ⟨_, List.getElem?_eq_getElem (by omega)⟩
                    have k0 := hr7.out.cell (flags_at hy0)
                    have k1 := hr7.out.cell (flags_at hy1)
                    have k2 := hr7.out.cell (flags_at hy2)
                    have o0 := hr7.out.open_ (z * 3)
                    have o1 := hr7.out.open_ (z * 3 + 1)
                    have o2 := hr7.out.open_ (z * 3 + 2)
                    have HR9 := hid' (((hr7.out.set (z * 3) (.bool lb)).set (z * 3 + 1) (.bool b1')).set (z * 3 + 2) (.bool b2'))
                    rw [flags_set, flags_set, flags_set] at HR9
                    have HR8 := hid' hr8
                    have hst2 := hst.out
                    rw [List.drop_eq_getElem_cons hlj, hzi, setT, Int.toNat_natCast] at hst2
                    have HST := hid' hst2
                    clear hy0 hy1 hy2 hr8 hx7 hzi hst hst2
                    go_wp2
                    go_roundw
                    case rel => exact ⟨j + 1, _, by omega, by go_num, by simp; omega, HR9, hid' (((HR8.out.far (heap_setCell_other _ ⟨w.heap.size, z * 3, none⟩ _ _ (by show g6 ≠ w.heap.size; omega))).far (heap_setCell_other _ ⟨w.heap.size, z * 3 + 1, none⟩ _ _ (by show g6 ≠ w.heap.size; omega))).far (heap_setCell_other _ ⟨w.heap.size, z * 3 + 2, none⟩ _ _ (by show g6 ≠ w.heap.size; omega))), HST, hid' (((hb7.out.setCell (Nat.le_refl _) _).setCell (Nat.le_refl _) _).setCell (Nat.le_refl _) _)⟩
                    case measure => simp [intOf]; omega
                  · obtain rfl : j = zs.length := by omega
                    clear hlj
                    go_wp2
                    go_roundw
                    case rel => exact ⟨k, T2, by omega, by first | rfl | go_num, hT2, hr7, hid' (by have e : T2 = setT T lb b1' b2' zs := (by have h := hst.out; rw [List.drop_length] at h; exact h); rw [e]; exact HMT.out), hb7⟩
                    case measure => simp [intOf] <;> omega
          · have h45 : (op2 == 45) = false := by simpa using h5
            rw [if_neg (by rintro ⟨h, _⟩; exact h5 h)] at HMT
            clear h5
            refine take_val' (i := 10) (v := (.bool false)) rfl (by kernel_rfl) (by kernel_rfl) (by kernel_rfl) (some 36) rfl (fun _ _ _ h => h) (Or.inl ⟨by rfl, fun W hW => by go_simp⟩) hHeld ?_
            try simp only [Act.put, List.setIfInBounds_toArray, List.set_cons_zero, List.set_cons_succ]
            refine take_val' (i := 11) (v := (.bool false)) rfl (by kernel_rfl) (by kernel_rfl) (by kernel_rfl) (some 37) rfl (fun _ _ _ h => h) (Or.inl ⟨by rfl, fun W hW => by go_simp⟩) hHeld ?_
            try simp only [Act.put, List.setIfInBounds_toArray, List.set_cons_zero, List.set_cons_succ]
            refine take_val' (i := 12) (v := (.slice (some ⟨b, 0, none⟩) l.length cap)) rfl (by kernel_rfl) (by kernel_rfl) (by kernel_rfl) (some 38) rfl (fun _ _ _ h => h) (Or.inl ⟨by rfl, fun W hW => by go_simp⟩) hHeld ?_
            try simp only [Act.put, List.setIfInBounds_toArray, List.set_cons_zero, List.set_cons_succ]
            refine take_val' (i := 13) (v := (.int .i64 (k : Int))) rfl (by kernel_rfl) (by kernel_rfl) (by kernel_rfl) (some 39) rfl (fun _ _ _ h => h) (Or.inl ⟨by rfl, fun W hW => by go_simp⟩) hHeld ?_
            try simp only [Act.put, List.setIfInBounds_toArray, List.set_cons_zero, List.set_cons_succ]
            refine take_val' (i := 14) (v := (.pointer (some ⟨b, k * 5, none⟩))) rfl (by kernel_rfl) (by kernel_rfl) (by kernel_rfl) (some 40) rfl (fun _ _ _ h => h) (Or.inl ⟨by rfl, fun W hW => by go_simp⟩) hHeld ?_
            try simp only [Act.put, List.setIfInBounds_toArray, List.set_cons_zero, List.set_cons_succ]
            refine take_val' (i := 15) (v := (.pointer (some ⟨b, k * 5, none⟩))) rfl (by kernel_rfl) (by kernel_rfl) (by kernel_rfl) (some 41) rfl (fun _ _ _ h => h) (Or.inl ⟨by rfl, fun W hW => by go_simp⟩) hHeld ?_
            try simp only [Act.put, List.setIfInBounds_toArray, List.set_cons_zero, List.set_cons_succ]
            refine take_val' (i := 16) (v := (.int .i64 op2)) rfl (by kernel_rfl) (by kernel_rfl) (by kernel_rfl) (some 42) rfl (fun _ _ _ h => h) (Or.inl ⟨by rfl, fun W hW => by obtain ⟨f0, f1, f2, f3, f4, _⟩ := HOLD.out W hW; go_simp⟩) hHeld ?_
            try simp only [Act.put, List.setIfInBounds_toArray, List.set_cons_zero, List.set_cons_succ]
            refine take_val' (i := 17) (v := (.bool false)) rfl (by kernel_rfl) (by kernel_rfl) (by kernel_rfl) (some 43) rfl (fun _ _ _ h => h) (Or.inl ⟨by rfl, fun W hW => by go_simp⟩) hHeld ?_
            try simp only [Act.put, List.setIfInBounds_toArray, List.set_cons_zero, List.set_cons_succ]
            refine take_val' (i := 18) (v := (.bool false)) rfl (by kernel_rfl) (by kernel_rfl) (by kernel_rfl) (some 44) rfl (fun _ _ _ h => h) (Or.inl ⟨by rfl, fun W hW => by go_simp⟩) hHeld ?_
            try simp only [Act.put, List.setIfInBounds_toArray, List.set_cons_zero, List.set_cons_succ]
            refine take_val' (i := 19) (v := undef) rfl (by kernel_rfl) (by kernel_rfl) (by kernel_rfl) (some 45) rfl (fun _ _ _ h => h) (Or.inr ⟨by rfl, rfl⟩) hHeld ?_
            try simp only [Act.put, List.setIfInBounds_toArray, List.set_cons_zero, List.set_cons_succ]
            refine take_val' (i := 20) (v := undef) rfl (by kernel_rfl) (by kernel_rfl) (by kernel_rfl) (some 46) rfl (fun _ _ _ h => h) (Or.inr ⟨by rfl, rfl⟩) hHeld ?_
            try simp only [Act.put, List.setIfInBounds_toArray, List.set_cons_zero, List.set_cons_succ]
            refine take_val' (i := 21) (v := undef) rfl (by kernel_rfl) (by kernel_rfl) (by kernel_rfl) (some 47) rfl (fun _ _ _ h => h) (Or.inr ⟨by rfl, rfl⟩) hHeld ?_
            try simp only [Act.put, List.setIfInBounds_toArray, List.set_cons_zero, List.set_cons_succ]
            refine take_val' (i := 22) (v := undef) rfl (by kernel_rfl) (by kernel_rfl) (by kernel_rfl) (some 48) rfl (fun _ _ _ h => h) (Or.inr ⟨by rfl, rfl⟩) hHeld ?_
            try simp only [Act.put, List.setIfInBounds_toArray, List.set_cons_zero, List.set_cons_succ]
            refine take_val' (i := 23) (v := undef) rfl (by kernel_rfl) (by kernel_rfl) (by kernel_rfl) (some 49) rfl (fun _ _ _ h => h) (Or.inr ⟨by rfl, rfl⟩) hHeld ?_
            try simp only [Act.put, List.setIfInBounds_toArray, List.set_cons_zero, List.set_cons_succ]
            refine take_val' (i := 24) (v := undef) rfl (by kernel_rfl) (by kernel_rfl) (by kernel_rfl) (some 50) rfl (fun _ _ _ h => h) (Or.inr ⟨by rfl, rfl⟩) hHeld ?_
            try simp only [Act.put, List.setIfInBounds_toArray, List.set_cons_zero, List.set_cons_succ]
            refine take_val' (i := 25) (v := undef) rfl (by kernel_rfl) (by kernel_rfl) (by kernel_rfl) (some 51) rfl (fun _ _ _ h => h) (Or.inr ⟨by rfl, rfl⟩) hHeld ?_
            try simp only [Act.put, List.setIfInBounds_toArray, List.set_cons_zero, List.set_cons_succ]
            refine take_val' (i := 26) (v := undef) rfl (by kernel_rfl) (by kernel_rfl) (by kernel_rfl) (some 52) rfl (fun _ _ _ h => h) (Or.inr ⟨by rfl, rfl⟩) hHeld ?_
            try simp only [Act.put, List.setIfInBounds_toArray, List.set_cons_zero, List.set_cons_succ]
            refine take_val' (i := 27) (v := (.bool false)) rfl (by kernel_rfl) (by kernel_rfl) (by kernel_rfl) (some 53) rfl (fun _ _ _ h => h) (Or.inl ⟨by rfl, fun W hW => by go_simp⟩) hHeld ?_
            try simp only [Act.put, List.setIfInBounds_toArray, List.set_cons_zero, List.set_cons_succ]
            refine take_val' (i := 28) (v := (.bool false)) rfl (by kernel_rfl) (by kernel_rfl) (by kernel_rfl) (some 54) rfl (fun _ _ _ h => h) (Or.inl ⟨by rfl, fun W hW => by go_simp⟩) hHeld ?_
            try simp only [Act.put, List.setIfInBounds_toArray, List.set_cons_zero, List.set_cons_succ]
            refine wpAnyH_done (by kernel_rfl) ?_ _
            go_wp2_with fail
            refine wp_region_held_drew (S := fun W => Below wr.heap.size wr W) (by kernel_rfl) (hHeld.drew) (fun hHeld => ?_)
            refine take_val' (i := 0) (v := (.slice (some ⟨w.heap.size, 0, none⟩) l.length l.length)) rfl (by kernel_rfl) (by kernel_rfl) (by kernel_rfl) (some 55) rfl (fun _ _ _ h => h) (Or.inl ⟨by rfl, fun W hW => by go_simp⟩) hHeld ?_
            try simp only [Act.put, List.setIfInBounds_toArray, List.set_cons_zero, List.set_cons_succ]
            refine take_val' (i := 1) (v := (.int .i64 (k : Int))) rfl (by kernel_rfl) (by kernel_rfl) (by kernel_rfl) (some 56) rfl (fun _ _ _ h => h) (Or.inl ⟨by rfl, fun W hW => by go_simp⟩) hHeld ?_
            try simp only [Act.put, List.setIfInBounds_toArray, List.set_cons_zero, List.set_cons_succ]
            refine take_val' (i := 2) (v := (.pointer (some ⟨w.heap.size, k * 3, none⟩))) rfl (by kernel_rfl) (by kernel_rfl) (by kernel_rfl) (some 57) rfl (fun _ _ _ h => h) (Or.inl ⟨by rfl, fun W hW => by go_simp⟩) hHeld ?_
            try simp only [Act.put, List.setIfInBounds_toArray, List.set_cons_zero, List.set_cons_succ]
            refine take_val' (i := 3) (v := (.agg #[.bool a0, .bool a1, .bool a2])) rfl (by kernel_rfl) (by kernel_rfl) (by kernel_rfl) (some 58) rfl (fun _ _ _ h => h) (Or.inl ⟨by rfl, fun W hW => by obtain ⟨f0, f1, f2, f3, f4, _⟩ := HOLD.out W hW; go_simp⟩) hHeld ?_
            try simp only [Act.put, List.setIfInBounds_toArray, List.set_cons_zero, List.set_cons_succ]
            refine take_val' (i := 4) (v := (.slice (some ⟨b, 0, none⟩) l.length cap)) rfl (by kernel_rfl) (by kernel_rfl) (by kernel_rfl) (some 59) rfl (fun _ _ _ h => h) (Or.inl ⟨by rfl, fun W hW => by go_simp⟩) hHeld ?_
            try simp only [Act.put, List.setIfInBounds_toArray, List.set_cons_zero, List.set_cons_succ]
            refine take_val' (i := 5) (v := (.int .i64 (k : Int))) rfl (by kernel_rfl) (by kernel_rfl) (by kernel_rfl) (some 60) rfl (fun _ _ _ h => h) (Or.inl ⟨by rfl, fun W hW => by go_simp⟩) hHeld ?_
            try simp only [Act.put, List.setIfInBounds_toArray, List.set_cons_zero, List.set_cons_succ]
            refine take_val' (i := 6) (v := (.pointer (some ⟨b, k * 5, none⟩))) rfl (by kernel_rfl) (by kernel_rfl) (by kernel_rfl) (some 61) rfl (fun _ _ _ h => h) (Or.inl ⟨by rfl, fun W hW => by go_simp⟩) hHeld ?_
            try simp only [Act.put, List.setIfInBounds_toArray, List.set_cons_zero, List.set_cons_succ]
            refine take_val' (i := 7) (v := (.pointer (some ⟨b, k * 5, none⟩))) rfl (by kernel_rfl) (by kernel_rfl) (by kernel_rfl) (some 62) rfl (fun _ _ _ h => h) (Or.inl ⟨by rfl, fun W hW => by go_simp⟩) hHeld ?_
            try simp only [Act.put, List.setIfInBounds_toArray, List.set_cons_zero, List.set_cons_succ]
            refine take_val' (i := 8) (v := (.int .i64 op2)) rfl (by kernel_rfl) (by kernel_rfl) (by kernel_rfl) (some 63) rfl (fun _ _ _ h => h) (Or.inl ⟨by rfl, fun W hW => by obtain ⟨f0, f1, f2, f3, f4, _⟩ := HOLD.out W hW; go_simp⟩) hHeld ?_
            try simp only [Act.put, List.setIfInBounds_toArray, List.set_cons_zero, List.set_cons_succ]
            refine wpAnyH_ready (rs := [9, 10]) (by kernel_rfl) (by simp) ?_
            refine AllReadyH.cons rfl (fun K hK => ?_) (AllReadyH.cons rfl (fun K hK => ?_) AllReadyH.nil)
            · go_simp
              refine (HIN0.out _).mono ?_
              rintro e w3 ⟨rfl, b3⟩
              refine hK.out _ _ (hHeld.trans (b3.mono hHeld.size)) (fun hHeld3 => ?_)
              clear hK K
              try simp only [Act.put, List.setIfInBounds_toArray, List.set_cons_zero, List.set_cons_succ]
              refine wpAnyH_ready (rs := [10]) (by kernel_rfl) (by simp) ?_
              refine AllReadyH.cons rfl (fun K hK => ?_) AllReadyH.nil
              go_simp
              have hB4 : Below wr.heap.size wr (w3.alloc (.cells #[.bool false, .bool false, .bool false] 88)) := hHeld3.alloc hHeld3.size _
              refine hK.out _ _ hB4 (fun hHeld4 => ?_)
              have hB3 := hHeld3
              clear hK K hHeld3
              try simp only [Act.put, List.setIfInBounds_toArray, List.set_cons_zero, List.set_cons_succ]
              refine wpAnyH_ready (rs := [11]) (by kernel_rfl) (by simp) ?_
              refine AllReadyH.cons rfl (fun K hK => ?_) AllReadyH.nil
              go_simp
              have HR6 : Hid (RowV (w3.alloc (.cells #[.bool a0, .bool b1', .bool b2'] 88)) w3.heap.size 88 (flags [a0, b1', b2'])) := hid' (row_new _ _ _)
              have HB6 : Hid (Below wr.heap.size wr (w3.alloc (.cells #[.bool a0, .bool b1', .bool b2'] 88))) := hid' (hB3.alloc hB3.size _)
              refine hK.out _ _ HB6.out (fun _ => ?_)
              clear hK K
              refine wpAnyH_done (by kernel_rfl) ?_ _
              have hg6 : wr.heap.size ≤ w3.heap.size := hB3.size
              generalize w3.alloc (.cells #[.bool a0, .bool b1', .bool b2'] 88) = w6 at HR6 HB6 ⊢
              generalize w3.heap.size = g6 at HR6 hg6 ⊢
              have hwr := hb.out.size
              have hglt := hr.out.lt
              have z0 := HR6.out.cell (j := 0) rfl
              have z1 := HR6.out.open_ 0
              have i4 : w6.cell? ⟨b, k * 5 + 4, none⟩ = some (.slice ako zs.length kcap) := (HOLD.out w6 HB6.out).2.2.2.2.1
              clear c0 c1 c2 e0 e4
              go_wp2
              go_loopw [75] (fun c wq => ∃ (j : Nat) (T2 : List Bool), j ≤ zs.length ∧ c = .int .i64 j ∧ T2.length = l.length * 3 ∧ Hid (RowV wq w.heap.size 88 (flags T2)) ∧ Hid (RowV wq g6 88 (flags [lb, b1', b2'])) ∧ Hid (setT T2 lb b1' b2' (zs.drop j) = setT T lb b1' b2' zs) ∧ Hid (Below w.heap.size w wq)) (fun c _ => zs.length - (intOf c).toNat)
              case atStart =>
                refine ⟨0, T, Nat.zero_le _, rfl, hTl, hid' ?_, hid' (HR6.out.set 0 (.bool _)), hid' rfl, hid' ?_⟩
                · exact (hr.out.far (HB6.out.block _ hr.out.lt)).far (heap_setCell_other _ ⟨g6, 0, none⟩ _ _ (by show w.heap.size ≠ g6; omega))
                · exact (hb.out.trans (HB6.out.mono hwr)).setCell (by simp only; omega) _
              case round =>
                obtain ⟨j, T2, hj, rfl, hT2, hr7, hx7, hst, hb7⟩ := hrel
                by_cases hlj : j < zs.length
                · have hlj' : (j : Int) < (zs.length : Int) := by omega
                  have hr8 := hx7.out
                  have x_0 := hr8.cell (j := 0) rfl
                  have x_1 := hr8.cell (j := 1) rfl
                  have x_2 := hr8.cell (j := 2) rfl
                  obtain ⟨zi, hzi⟩ : ∃ zi, zs[j] = zi := ⟨_, rfl⟩
                  have hzr := HKR.out zi (by rw [← hzi]; exact List.getElem_mem hlj)
                  obtain ⟨z, rfl⟩ : ∃ z : Nat, zi = (z : Int) := ⟨zi.toNat, by omega⟩
                  obtain ⟨bk, o, hako, hcz⟩ : ∃ b o, ako = some ⟨b, o, none⟩ ∧ wr.cell? ⟨b, o + j, none⟩ = some (.int .i64 (z : Int)) := by
                    obtain ⟨b', o', cap', e, _, h2⟩ := kid_at (HLIST.out wr hb7.out) hlj
                    injection e with e1 e2 e3
                    exact ⟨b', o', e1, by rw [h2, hzi]⟩
                  subst hako
                  have hzk : z < l.length := by omega
                  have hzl' : (z : Int) < (l.length : Int) := by omega
                  obtain ⟨y0, hy0⟩ : ∃ x, T2[z * 3]? = some x := ⟨_, List.getElem?_eq_getElem (by omega)⟩
                  obtain ⟨y1, hy1⟩ : ∃ x, T2[z * 3 + 1]? = some x := ⟨_, List.getElem?_eq_getElem (by omega)⟩
                  obtain ⟨y2, hy2⟩ : ∃ x, T2[z * 3 + 2]? = some x := ⟨_, List.getElem?_eq_getElem (by omega)⟩
                  have k0 := hr7.out.cell (flags_at hy0)
                  have k1 := hr7.out.cell (flags_at hy1)
                  have k2 := hr7.out.cell (flags_at hy2)
                  have o0 := hr7.out.open_ (z * 3)
                  have o1 := hr7.out.open_ (z * 3 + 1)
                  have o2 := hr7.out.open_ (z * 3 + 2)
                  have HR9 := hid' (((hr7.out.set (z * 3) (.bool lb)).set (z * 3 + 1) (.bool b1')).set (z * 3 + 2) (.bool b2'))
                  rw [flags_set, flags_set, flags_set] at HR9
                  have HR8 := hid' hr8
                  have hst2 := hst.out
                  rw [List.drop_eq_getElem_cons hlj, hzi, setT, Int.toNat_natCast] at hst2
                  have HST := hid' hst2
                  clear hy0 hy1 hy2 hr8 hx7 hzi hst hst2
                  go_wp2
                  go_roundw
                  case rel => exact ⟨j + 1, _, by omega, by go_num, by simp; omega, HR9, hid' (((HR8.out.far (heap_setCell_other _ ⟨w.heap.size, z * 3, none⟩ _ _ (by show g6 ≠ w.heap.size; omega))).far (heap_setCell_other _ ⟨w.heap.size, z * 3 + 1, none⟩ _ _ (by show g6 ≠ w.heap.size; omega))).far (heap_setCell_other _ ⟨w.heap.size, z * 3 + 2, none⟩ _ _ (by show g6 ≠ w.heap.size; omega))), HST, hid' (((hb7.out.setCell (Nat.le_refl _) _).setCell (Nat.le_refl _) _).setCell (Nat.le_refl _) _)⟩
                  case measure => simp [intOf]; omega
                · obtain rfl : j = zs.length := by omega
                  clear hlj
                  go_wp2
                  go_roundw
                  case rel => exact ⟨k, T2, by omega, by first | rfl | go_num, hT2, hr7, hid' (by have e : T2 = setT T lb b1' b2' zs := (by have h := hst.out; rw [List.drop_length] at h; exact h); rw [e]; exact HMT.out), hb7⟩
                  case measure => simp [intOf] <;> omega
            · go_simp
              have hB4 : Below wr.heap.size wr (w2.drew.alloc (.cells #[.bool false, .bool false, .bool false] 88)) := hHeld.alloc hHeld.size _
              refine hK.out _ _ hB4 (fun hHeld4 => ?_)
              clear hK K
              try simp only [Act.put, List.setIfInBounds_toArray, List.set_cons_zero, List.set_cons_succ]
              refine wpAnyH_ready (rs := [9]) (by kernel_rfl) (by simp) ?_
              refine AllReadyH.cons rfl (fun K hK => ?_) AllReadyH.nil
              go_simp
              refine (HIN0.out _).mono ?_
              rintro e w3 ⟨rfl, b3⟩
              refine hK.out _ _ (hHeld4.trans (b3.mono hHeld4.size)) (fun hHeld3 => ?_)
              clear hK K
              try simp only [Act.put, List.setIfInBounds_toArray, List.set_cons_zero, List.set_cons_succ]
              have hro : RowV w3 w2.heap.size 88 (flags [false, false, false]) := (row_new w2.drew _ _).far (b3.block _ (by simp))
              have n0 := hro.cell (j := 0) rfl
              have n1 := hro.cell (j := 1) rfl
              have n2 := hro.cell (j := 2) rfl
              have m0 := hro.open_ 0
              have m1 := hro.open_ 1
              have m2 := hro.open_ 2
              refine wpAnyH_ready (rs := [11]) (by kernel_rfl) (by simp) ?_
              refine AllReadyH.cons rfl (fun K hK => ?_) AllReadyH.nil
              go_simp
              have HR6 : Hid (RowV (((w3.setCell ⟨w2.heap.size, 0, none⟩ (.bool a0)).setCell ⟨w2.heap.size, 1, none⟩ (.bool b1')).setCell ⟨w2.heap.size, 2, none⟩ (.bool b2')) w2.heap.size 88 (flags [a0, b1', b2'])) := hid' (((hro.set 0 (.bool a0)).set 1 (.bool b1')).set 2 (.bool b2'))
              have HB6 : Hid (Below wr.heap.size wr (((w3.setCell ⟨w2.heap.size, 0, none⟩ (.bool a0)).setCell ⟨w2.heap.size, 1, none⟩ (.bool b1')).setCell ⟨w2.heap.size, 2, none⟩ (.bool b2'))) := hid' (((hHeld3.setCell hHeld.size _).setCell hHeld.size _).setCell hHeld.size _)
              refine hK.out _ _ HB6.out (fun _ => ?_)
              clear hK K n0 n1 n2 m0 m1 m2
              refine wpAnyH_done (by kernel_rfl) ?_ _
              have hg6 : wr.heap.size ≤ w2.heap.size := hHeld.size
              generalize ((w3.setCell ⟨w2.heap.size, 0, none⟩ (.bool a0)).setCell ⟨w2.heap.size, 1, none⟩ (.bool b1')).setCell ⟨w2.heap.size, 2, none⟩ (.bool b2') = w6 at HR6 HB6 ⊢
              clear hro hHeld4 hB4 HB2 b3
              generalize w2.heap.size = g6 at HR6 hg6 ⊢
              have hwr := hb.out.size
              have hglt := hr.out.lt
              have z0 := HR6.out.cell (j := 0) rfl
              have z1 := HR6.out.open_ 0
              have i4 : w6.cell? ⟨b, k * 5 + 4, none⟩ = some (.slice ako zs.length kcap) := (HOLD.out w6 HB6.out).2.2.2.2.1
              clear c0 c1 c2 e0 e4
              go_wp2
              go_loopw [75] (fun c wq => ∃ (j : Nat) (T2 : List Bool), j ≤ zs.length ∧ c = .int .i64 j ∧ T2.length = l.length * 3 ∧ Hid (RowV wq w.heap.size 88 (flags T2)) ∧ Hid (RowV wq g6 88 (flags [lb, b1', b2'])) ∧ Hid (setT T2 lb b1' b2' (zs.drop j) = setT T lb b1' b2' zs) ∧ Hid (Below w.heap.size w wq)) (fun c _ => zs.length - (intOf c).toNat)
              case atStart =>
                refine ⟨0, T, Nat.zero_le _, rfl, hTl, hid' ?_, hid' (HR6.out.set 0 (.bool _)), hid' rfl, hid' ?_⟩
                · exact (hr.out.far (HB6.out.block _ hr.out.lt)).far (heap_setCell_other _ ⟨g6, 0, none⟩ _ _ (by show w.heap.size ≠ g6; omega))
                · exact (hb.out.trans (HB6.out.mono hwr)).setCell (by simp only; omega) _
              case round =>
                obtain ⟨j, T2, hj, rfl, hT2, hr7, hx7, hst, hb7⟩ := hrel
                by_cases hlj : j < zs.length
                · have hlj' : (j : Int) < (zs.length : Int) := by omega
                  have hr8 := hx7.out
                  have x_0 := hr8.cell (j := 0) rfl
                  have x_1 := hr8.cell (j := 1) rfl
                  have x_2 := hr8.cell (j := 2) rfl
                  obtain ⟨zi, hzi⟩ : ∃ zi, zs[j] = zi := ⟨_, rfl⟩
                  have hzr := HKR.out zi (by rw [← hzi]; exact List.getElem_mem hlj)
                  obtain ⟨z, rfl⟩ : ∃ z : Nat, zi = (z : Int) := ⟨zi.toNat, by omega⟩
                  obtain ⟨bk, o, hako, hcz⟩ : ∃ b o, ako = some ⟨b, o, none⟩ ∧ wr.cell? ⟨b, o + j, none⟩ = some (.int .i64 (z : Int)) := by
                    obtain ⟨b', o', cap', e, _, h2⟩ := kid_at (HLIST.out wr hb7.out) hlj
                    injection e with e1 e2 e3
                    exact ⟨b', o', e1, by rw [h2, hzi]⟩
                  subst hako
                  have hzk : z < l.length := by omega
                  have hzl' : (z : Int) < (l.length : Int) := by omega
                  obtain ⟨y0, hy0⟩ : ∃ x, T2[z * 3]? = some x := ⟨_, List.getElem?_eq_getElem (by omega)⟩
                  obtain ⟨y1, hy1⟩ : ∃ x, T2[z * 3 + 1]? = some x := ⟨_, List.getElem?_eq_getElem (by omega)⟩
                  obtain ⟨y2, hy2⟩ : ∃ x, T2[z * 3 + 2]? = some x := ⟨_, List.getElem?_eq_getElem (by omega)⟩
                  have k0 := hr7.out.cell (flags_at hy0)
                  have k1 := hr7.out.cell (flags_at hy1)
                  have k2 := hr7.out.cell (flags_at hy2)
                  have o0 := hr7.out.open_ (z * 3)
                  have o1 := hr7.out.open_ (z * 3 + 1)
                  have o2 := hr7.out.open_ (z * 3 + 2)
                  have HR9 := hid' (((hr7.out.set (z * 3) (.bool lb)).set (z * 3 + 1) (.bool b1')).set (z * 3 + 2) (.bool b2'))
                  rw [flags_set, flags_set, flags_set] at HR9
                  have HR8 := hid' hr8
                  have hst2 := hst.out
                  rw [List.drop_eq_getElem_cons hlj, hzi, setT, Int.toNat_natCast] at hst2
                  have HST := hid' hst2
                  clear hy0 hy1 hy2 hr8 hx7 hzi hst hst2
                  go_wp2
                  go_roundw
                  case rel => exact ⟨j + 1, _, by omega, by go_num, by simp; omega, HR9, hid' (((HR8.out.far (heap_setCell_other _ ⟨w.heap.size, z * 3, none⟩ _ _ (by show g6 ≠ w.heap.size; omega))).far (heap_setCell_other _ ⟨w.heap.size, z * 3 + 1, none⟩ _ _ (by show g6 ≠ w.heap.size; omega))).far (heap_setCell_other _ ⟨w.heap.size, z * 3 + 2, none⟩ _ _ (by show g6 ≠ w.heap.size; omega))), HST, hid' (((hb7.out.setCell (Nat.le_refl _) _).setCell (Nat.le_refl _) _).setCell (Nat.le_refl _) _)⟩
                  case measure => simp [intOf]; omega
                · obtain rfl : j = zs.length := by omega
                  clear hlj
                  go_wp2
                  go_roundw
                  case rel => exact ⟨k, T2, by omega, by first | rfl | go_num, hT2, hr7, hid' (by have e : T2 = setT T lb b1' b2' zs := (by have h := hst.out; rw [List.drop_length] at h; exact h); rw [e]; exact HMT.out), hb7⟩
                  case measure => simp [intOf] <;> omega
  · have h1 : (op == 47) = false := by simpa using h47
    have h2 : (op != 47) = true := by simpa using h47
    have hd : decide ((some op : Option Int) = some 47) = false := decide_eq_false (by simpa using h47)
    rw [hd, Bool.false_and]
    clear h47 hd
    go_enter Tryz.func23, Tryz.ntmps23
    go_wp2
    go_ret
    exact ⟨rfl, Below.refl _ _⟩
end Go.Proofs.YtpjjofdphlgeiaaGreatDoor
