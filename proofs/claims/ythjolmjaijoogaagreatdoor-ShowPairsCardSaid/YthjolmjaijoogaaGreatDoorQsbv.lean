/- Parts of the proof, together. What show's asFile and Expr answer, of a tree of names and binary signs. Conditions: the nodes are a call's own; few of them, short names; the words and the errors of api lie in their variables. What the functions say of two signs over three names, shown and parsed again. No conditions. -/
import Derived.Test.YthjolmjaijoogaaGreatDoorQsbr
import Derived.Test.YthjolmjaijoogaaGreatDoorQsbu
import Derived.Test.YthjolmjaijoogaaGreatDoorQsbq
import Derived.Test.YthjolmjaijoogaaGreatDoorQsbm
namespace Go.Proofs.YthjolmjaijoogaaGreatDoor
open Go.RowKit
open Lx Ax Sw Px

def exE (z : Int) : Nd := ⟨35, 0, 0, ⟨#[]⟩, [z]⟩
def blE (z : Int) : Nd := ⟨47, 0, 0, ⟨#[]⟩, [z]⟩
theorem nodes_of_own {W : World} {B n : Nat} {v : Value} {l : List Nd} {vs : List Value} (h : OwnN W B v n (nodesC l vs)) (hn : n = l.length) (hlen : vs.length = l.length) (h0 : 0 < l.length) (hk : ∀ (j : Nat) x u, l[j]? = some x → vs[j]? = some u → KidsAt W.heap.size W u x.kids) : ∃ ao cap, v = .slice ao l.length cap ∧ NodesAt W.heap.size W ao l := by
  subst hn
  obtain ⟨g, cap, e, h1, _, h3, h4⟩ := own_some h h0
  refine ⟨_, cap, e, .inr ⟨g, rfl, h3, fun j x hx => ?_⟩⟩
  have hj := (List.getElem?_eq_some_iff.1 hx).1
  obtain ⟨u, hu⟩ : ∃ u, vs[j]? = some u := ⟨_, List.getElem?_eq_getElem (by rw [hlen]; exact hj)⟩
  have hc := fun (c : Nat) (y : Value) (hy : (nodeC x u)[c]? = some y) => h4 _ _ (nodesC_at l vs j x u hx hu c y hy)
  exact ⟨u, ⟨hc 0 _ rfl, hc 1 _ rfl, hc 2 _ rfl, hc 3 _ rfl, hc 4 _ rfl, hk j x u hx hu⟩⟩
theorem tr_src {W : World} {B g n cap : Nat} {l : List Nd} {vs : List Value} (h : Tr W B (.slice (some ⟨g, 0, none⟩) n cap) l vs) (h0 : 0 < l.length) : SrcAt W g (nodesC l vs) ∧ (∀ u ∈ nodesC l vs, u.oneCell' = true) ∧ g < W.heap.size := by
  obtain ⟨g', cap', e, _, _, h3, h4⟩ := own_some h.own h0
  injection e with e1 _ _
  injection e1 with e1
  injection e1 with e1 _ _
  subst e1
  refine ⟨h4, nodesC_one l vs (fun v hv => ?_), h3⟩
  obtain ⟨j, hj, e⟩ := List.getElem_of_mem hv
  obtain ⟨ao, cap, e2, _⟩ := own_form (h.kid j (l[j]'(by have := h.len; omega)) v (List.getElem?_eq_getElem (by have := h.len; omega)) (by rw [List.getElem?_eq_getElem hj, e]))
  rw [e2]; rfl
/-- Nodes in memory, cell by cell. -/
structure NSrc (W : World) (g : Nat) (l : List Nd) (vs : List Value) : Prop where
  src : SrcAt W g (nodesC l vs)
  one : ∀ u ∈ nodesC l vs, u.oneCell' = true
  lt : g < W.heap.size
  len : vs.length = l.length
  kid : ∀ (j : Nat) x u, l[j]? = some x → vs[j]? = some u → KidsAt W.heap.size W u x.kids
theorem NSrc.nodesAt {W : World} {g : Nat} {l : List Nd} {vs : List Value} (h : NSrc W g l vs) : NodesAt W.heap.size W (some ⟨g, 0, none⟩) l := by
  refine .inr ⟨g, rfl, h.lt, fun j x hx => ?_⟩
  have hj := (List.getElem?_eq_some_iff.1 hx).1
  obtain ⟨u, hu⟩ : ∃ u, vs[j]? = some u := ⟨_, List.getElem?_eq_getElem (by rw [h.len]; exact hj)⟩
  have hc := fun (c : Nat) (y : Value) (hy : (nodeC x u)[c]? = some y) => h.src _ _ (nodesC_at l vs j x u hx hu c y hy)
  exact ⟨u, ⟨hc 0 _ rfl, hc 1 _ rfl, hc 2 _ rfl, hc 3 _ rfl, hc 4 _ rfl, h.kid j x u hx hu⟩⟩
theorem nsrc_of {W : World} {B g n cap : Nat} {l : List Nd} {vs : List Value} (h : Tr W B (.slice (some ⟨g, 0, none⟩) n cap) l vs) (h0 : 0 < l.length) : NSrc W g l vs :=
  let ⟨s1, s2, s3⟩ := tr_src h h0
  ⟨s1, s2, s3, h.len, fun j x u hx hu => (h.kid j x u hx hu).kids (h.few x (List.mem_of_getElem? hx))⟩
theorem NSrc.below {W W' : World} {g : Nat} {l : List Nd} {vs : List Value} (h : NSrc W g l vs) (hb : Below W.heap.size W W') : NSrc W' g l vs :=
  ⟨h.src.keep (hb.block g h.lt), h.one, Nat.lt_of_lt_of_le h.lt hb.size, h.len, fun j x u hx hu => (h.kid j x u hx hu).keep hb hb.size⟩
set_option maxRecDepth 100000 in
set_option maxHeartbeats 2000000 in
theorem asFile_any {W : World} {g cap : Nat} {l : List Nd} {vs : List Value} (h : NSrc W g l vs) (h0 : 0 < l.length) (hl : l.length ≤ 50000) :
    Calls Tryz.prog 25 #[.slice (some ⟨g, 0, none⟩) l.length cap] W fun e w' => ∃ ao c, e = .returned (.slice ao (l ++ [exE ((l.length - 1 : Nat) : Int), blE (l.length : Int)]).length c) ∧ NodesAt w'.heap.size w' ao (l ++ [exE ((l.length - 1 : Nat) : Int), blE (l.length : Int)]) ∧ Below W.heap.size W w' := by
  have s1 := h.src
  have s2 := h.one
  have s3 := h.lt
  have hm1 : (l.length : Int) - 1 = ((l.length - 1 : Nat) : Int) := by omega
  have hwr : IntKind.i64.wrap ((l.length : Int) - 1) = ((l.length - 1 : Nat) : Int) := by rw [IntWalk.i64_in _ ⟨by omega, by omega⟩]; omega
  have hKID := hid' h.kid
  have hlen := h.len
  have hLC := nodesC_length l vs hlen
  clear h
  go_enter Tryz.func25, Tryz.ntmps25
  go_wp2_with fail
  have e1 : (W.alloc (.cells #[.int .i64 ((l.length - 1 : Nat) : Int)] 3)).heap.size = W.heap.size + 1 := by simp
  have e2 : ((W.alloc (.cells #[.int .i64 ((l.length - 1 : Nat) : Int)] 3)).alloc (.cells #[.int .i64 (l.length : Int)] 3)).heap.size = W.heap.size + 1 + 1 := by simp
  have e3 : (((W.alloc (.cells #[.int .i64 ((l.length - 1 : Nat) : Int)] 3)).alloc (.cells #[.int .i64 (l.length : Int)] 3)).alloc (.cells #[.int .i64 35, .int .i64 0, .int .i64 0, .string ⟨#[]⟩, .slice (some ⟨W.heap.size, 0, none⟩) 1 1, .int .i64 47, .int .i64 0, .int .i64 0, .string ⟨#[]⟩, .slice (some ⟨W.heap.size + 1, 0, none⟩) 1 1] 39)).heap.size = W.heap.size + 1 + 1 + 1 := by simp
  have e4 : ((((W.alloc (.cells #[.int .i64 ((l.length - 1 : Nat) : Int)] 3)).alloc (.cells #[.int .i64 (l.length : Int)] 3)).alloc (.cells #[.int .i64 35, .int .i64 0, .int .i64 0, .string ⟨#[]⟩, .slice (some ⟨W.heap.size, 0, none⟩) 1 1, .int .i64 47, .int .i64 0, .int .i64 0, .string ⟨#[]⟩, .slice (some ⟨W.heap.size + 1, 0, none⟩) 1 1] 39)).alloc (.cells #[.slice (some ⟨g, 0, none⟩) l.length cap, .slice (some ⟨W.heap.size + 1 + 1, 0, none⟩) 2 2] 23)).heap.size = W.heap.size + 1 + 1 + 1 + 1 := by simp
  have b4 : Below W.heap.size W ((((W.alloc (.cells #[.int .i64 ((l.length - 1 : Nat) : Int)] 3)).alloc (.cells #[.int .i64 (l.length : Int)] 3)).alloc (.cells #[.int .i64 35, .int .i64 0, .int .i64 0, .string ⟨#[]⟩, .slice (some ⟨W.heap.size, 0, none⟩) 1 1, .int .i64 47, .int .i64 0, .int .i64 0, .string ⟨#[]⟩, .slice (some ⟨W.heap.size + 1, 0, none⟩) 1 1] 39)).alloc (.cells #[.slice (some ⟨g, 0, none⟩) l.length cap, .slice (some ⟨W.heap.size + 1 + 1, 0, none⟩) 2 2] 23)) := ((((Below.refl W.heap.size W).alloc (Nat.le_refl _) _).alloc (by rw [e1]; omega) _).alloc (by rw [e2]; omega) _).alloc (by rw [e3]; omega) _
  have r4 : RowV ((((W.alloc (.cells #[.int .i64 ((l.length - 1 : Nat) : Int)] 3)).alloc (.cells #[.int .i64 (l.length : Int)] 3)).alloc (.cells #[.int .i64 35, .int .i64 0, .int .i64 0, .string ⟨#[]⟩, .slice (some ⟨W.heap.size, 0, none⟩) 1 1, .int .i64 47, .int .i64 0, .int .i64 0, .string ⟨#[]⟩, .slice (some ⟨W.heap.size + 1, 0, none⟩) 1 1] 39)).alloc (.cells #[.slice (some ⟨g, 0, none⟩) l.length cap, .slice (some ⟨W.heap.size + 1 + 1, 0, none⟩) 2 2] 23)) (W.heap.size + 1 + 1 + 1) 23 [.slice (some ⟨g, 0, none⟩) l.length cap, .slice (some ⟨W.heap.size + 1 + 1, 0, none⟩) 2 2] := by
    have h := row_new (((W.alloc (.cells #[.int .i64 ((l.length - 1 : Nat) : Int)] 3)).alloc (.cells #[.int .i64 (l.length : Int)] 3)).alloc (.cells #[.int .i64 35, .int .i64 0, .int .i64 0, .string ⟨#[]⟩, .slice (some ⟨W.heap.size, 0, none⟩) 1 1, .int .i64 47, .int .i64 0, .int .i64 0, .string ⟨#[]⟩, .slice (some ⟨W.heap.size + 1, 0, none⟩) 1 1] 39)) 23 [.slice (some ⟨g, 0, none⟩) l.length cap, .slice (some ⟨W.heap.size + 1 + 1, 0, none⟩) 2 2]
    rwa [e3] at h
  have r3 : RowV ((((W.alloc (.cells #[.int .i64 ((l.length - 1 : Nat) : Int)] 3)).alloc (.cells #[.int .i64 (l.length : Int)] 3)).alloc (.cells #[.int .i64 35, .int .i64 0, .int .i64 0, .string ⟨#[]⟩, .slice (some ⟨W.heap.size, 0, none⟩) 1 1, .int .i64 47, .int .i64 0, .int .i64 0, .string ⟨#[]⟩, .slice (some ⟨W.heap.size + 1, 0, none⟩) 1 1] 39)).alloc (.cells #[.slice (some ⟨g, 0, none⟩) l.length cap, .slice (some ⟨W.heap.size + 1 + 1, 0, none⟩) 2 2] 23)) (W.heap.size + 1 + 1) 39 (nodesC [exE ((l.length - 1 : Nat) : Int), blE (l.length : Int)] [.slice (some ⟨W.heap.size, 0, none⟩) 1 1, .slice (some ⟨W.heap.size + 1, 0, none⟩) 1 1]) := by
    have h := row_new ((W.alloc (.cells #[.int .i64 ((l.length - 1 : Nat) : Int)] 3)).alloc (.cells #[.int .i64 (l.length : Int)] 3)) 39 (nodesC [exE ((l.length - 1 : Nat) : Int), blE (l.length : Int)] [.slice (some ⟨W.heap.size, 0, none⟩) 1 1, .slice (some ⟨W.heap.size + 1, 0, none⟩) 1 1])
    rw [e2] at h
    exact row_alloc h (.cells #[.slice (some ⟨g, 0, none⟩) l.length cap, .slice (some ⟨W.heap.size + 1 + 1, 0, none⟩) 2 2] 23)
  have o1 : OwnZ ((((W.alloc (.cells #[.int .i64 ((l.length - 1 : Nat) : Int)] 3)).alloc (.cells #[.int .i64 (l.length : Int)] 3)).alloc (.cells #[.int .i64 35, .int .i64 0, .int .i64 0, .string ⟨#[]⟩, .slice (some ⟨W.heap.size, 0, none⟩) 1 1, .int .i64 47, .int .i64 0, .int .i64 0, .string ⟨#[]⟩, .slice (some ⟨W.heap.size + 1, 0, none⟩) 1 1] 39)).alloc (.cells #[.slice (some ⟨g, 0, none⟩) l.length cap, .slice (some ⟨W.heap.size + 1 + 1, 0, none⟩) 2 2] 23)) W.heap.size (.slice (some ⟨W.heap.size, 0, none⟩) 1 1) [((l.length - 1 : Nat) : Int)] := (((OwnZ.lit W W.heap.size (Nat.le_refl _) [((l.length - 1 : Nat) : Int)] (by simp) #[.int .i64 ((l.length - 1 : Nat) : Int)] rfl).keep fun k _ hk => Below.heap_alloc _ _ _ hk).keep fun k _ hk => Below.heap_alloc _ _ _ hk).keep fun k _ hk => Below.heap_alloc _ _ _ hk
  have o2 : OwnZ ((((W.alloc (.cells #[.int .i64 ((l.length - 1 : Nat) : Int)] 3)).alloc (.cells #[.int .i64 (l.length : Int)] 3)).alloc (.cells #[.int .i64 35, .int .i64 0, .int .i64 0, .string ⟨#[]⟩, .slice (some ⟨W.heap.size, 0, none⟩) 1 1, .int .i64 47, .int .i64 0, .int .i64 0, .string ⟨#[]⟩, .slice (some ⟨W.heap.size + 1, 0, none⟩) 1 1] 39)).alloc (.cells #[.slice (some ⟨g, 0, none⟩) l.length cap, .slice (some ⟨W.heap.size + 1 + 1, 0, none⟩) 2 2] 23)) W.heap.size (.slice (some ⟨W.heap.size + 1, 0, none⟩) 1 1) [(l.length : Int)] := by
    have h := OwnZ.lit (W.alloc (.cells #[.int .i64 ((l.length - 1 : Nat) : Int)] 3)) W.heap.size (by rw [e1]; omega) [(l.length : Int)] (by simp) #[.int .i64 (l.length : Int)] rfl
    rw [e1] at h
    exact (h.keep fun k _ hk => Below.heap_alloc _ _ _ hk).keep fun k _ hk => Below.heap_alloc _ _ _ hk
  have k1 := hid' (o1.kids (by simp))
  have k2 := hid' (o2.kids (by simp))
  have HCC := hid' (concat_any (W.heap.size + 1 + 1 + 1) g cap (W.heap.size + 1 + 1) 2 l.length 2 (nodesC l vs) (nodesC [exE ((l.length - 1 : Nat) : Int), blE (l.length : Int)] [.slice (some ⟨W.heap.size, 0, none⟩) 1 1, .slice (some ⟨W.heap.size + 1, 0, none⟩) 1 1]) ((((W.alloc (.cells #[.int .i64 ((l.length - 1 : Nat) : Int)] 3)).alloc (.cells #[.int .i64 (l.length : Int)] 3)).alloc (.cells #[.int .i64 35, .int .i64 0, .int .i64 0, .string ⟨#[]⟩, .slice (some ⟨W.heap.size, 0, none⟩) 1 1, .int .i64 47, .int .i64 0, .int .i64 0, .string ⟨#[]⟩, .slice (some ⟨W.heap.size + 1, 0, none⟩) 1 1] 39)).alloc (.cells #[.slice (some ⟨g, 0, none⟩) l.length cap, .slice (some ⟨W.heap.size + 1 + 1, 0, none⟩) 2 2] 23)) r4 hLC (s1.keep (b4.block g s3)) s2 (by rw [e4]; omega)
    (by rfl) (fun j u hu => r3.cell hu) (nodesC_one _ _ (fun v hv => by simp at hv; rcases hv with rfl | rfl <;> rfl)) (by rw [e4]; omega) (by omega) (by omega))
  have HB4 := hid' b4
  clear b4 r4 r3 o1 o2 s1 s2 s3 hLC e1 e2 e3 e4
  refine Calls.mono HCC.out ?_
  rintro e w5 ⟨v, rfl, ho, hb⟩
  have hb5 := Below.thenB HB4.out hb
  have hk5 : ∀ n u zs, KidsAt n ((((W.alloc (.cells #[.int .i64 ((l.length - 1 : Nat) : Int)] 3)).alloc (.cells #[.int .i64 (l.length : Int)] 3)).alloc (.cells #[.int .i64 35, .int .i64 0, .int .i64 0, .string ⟨#[]⟩, .slice (some ⟨W.heap.size, 0, none⟩) 1 1, .int .i64 47, .int .i64 0, .int .i64 0, .string ⟨#[]⟩, .slice (some ⟨W.heap.size + 1, 0, none⟩) 1 1] 39)).alloc (.cells #[.slice (some ⟨g, 0, none⟩) l.length cap, .slice (some ⟨W.heap.size + 1 + 1, 0, none⟩) 2 2] 23)) u zs → n ≤ ((((W.alloc (.cells #[.int .i64 ((l.length - 1 : Nat) : Int)] 3)).alloc (.cells #[.int .i64 (l.length : Int)] 3)).alloc (.cells #[.int .i64 35, .int .i64 0, .int .i64 0, .string ⟨#[]⟩, .slice (some ⟨W.heap.size, 0, none⟩) 1 1, .int .i64 47, .int .i64 0, .int .i64 0, .string ⟨#[]⟩, .slice (some ⟨W.heap.size + 1, 0, none⟩) 1 1] 39)).alloc (.cells #[.slice (some ⟨g, 0, none⟩) l.length cap, .slice (some ⟨W.heap.size + 1 + 1, 0, none⟩) 2 2] 23)).heap.size → KidsAt w5.heap.size w5 u zs := fun n u zs hu hn => hu.keep (hb.mono hn) (Nat.le_trans hn hb.size)
  rw [← nodesC_append l _ vs _ hlen] at ho
  obtain ⟨ao, c, rfl, hN⟩ := nodes_of_own ho (by simp) (by simp [hlen]) (by simp) (fun j x u hx hu => by
    by_cases hj : j < l.length
    · rw [List.getElem?_append_left hj] at hx
      rw [List.getElem?_append_left (by omega)] at hu
      exact (hKID.out j x u hx hu).keep hb5 hb5.size
    · rw [List.getElem?_append_right (by omega)] at hx
      rw [List.getElem?_append_right (by omega), hlen] at hu
      generalize j - l.length = i at hx hu
      match i, hx, hu with
      | 0, hx, hu =>
        simp at hx hu
        subst hx hu
        exact hk5 _ _ _ k1.out (Nat.le_refl _)
      | 1, hx, hu =>
        simp at hx hu
        subst hx hu
        exact hk5 _ _ _ k2.out (Nat.le_refl _)
      | i + 2, hx, hu => simp at hx)
  have HN := hid' hN
  have HB5 := hid' hb5
  clear hN hb5 hb ho hk5 HCC
  generalize hm : (l ++ [exE ((l.length - 1 : Nat) : Int), blE (l.length : Int)]).length = m
  have HM := hid' hm
  clear hm
  go_wp2
  go_ret
  exact ⟨ao, c, by rw [HM.out]; rfl, HN.out, HB5.out⟩
set_option maxRecDepth 100000 in
set_option maxHeartbeats 2000000 in
theorem showExpr_any (A : Nat → Addr) {W : World} (hcx : PCx A W) {g cap : Nat} {l : List Nd} {vs : List Value} (h : NSrc W g l vs) (h0 : 0 < l.length) (hl : l.length ≤ 50000) (hv : validF (l ++ [exE ((l.length - 1 : Nat) : Int), blE (l.length : Int)]) = none)
    (ho : ∀ x ∈ l, OpOK x.op) (hs : ∀ x ∈ l, x.s.size ≤ 1000000) (n : Nat) (hg : goodF l n (l.length - 1) = true) (t : List UInt8) (ht : txF l n (l.length - 1) = t) (htl : t.length ≤ 50000) (ht0 : t ≠ []) (hc : cntF l n (l.length - 1) ≤ 50000) :
    Calls Tryz.prog 12 #[.slice (some ⟨g, 0, none⟩) l.length cap] W fun e w' => e = .returned (.tuple #[.string (txt t), .nilIface]) ∧ Below W.heap.size W w' := by
  obtain ⟨m2, hm2⟩ : ∃ m2, m2 = (l ++ [exE ((l.length - 1 : Nat) : Int), blE (l.length : Int)]).length := ⟨_, rfl⟩
  have haf := asFile_any (cap := cap) h h0 hl
  rw [← hm2] at haf
  have HAF := hid' haf
  clear haf
  have HNA := hid' h.nodesAt
  have HCX := hid' hcx
  have hne := neq_none
  have HV := hid' (fun (W2 : World) (hb : Below W.heap.size W W2) (ao : Option Addr) (c : Nat) (hN : NodesAt W2.heap.size W2 ao (l ++ [exE ((l.length - 1 : Nat) : Int), blE (l.length : Int)])) => valid_of (HCX.out.below hb) ao c m2 _ hm2 hN (by simp; omega) (by simp) (fun x hx => by
    rcases List.mem_append.1 hx with hx | hx
    · exact ho x hx
    · simp at hx
      rcases hx with rfl | rfl
      · exact .inr (.inr (.inr (.inl rfl)))
      · exact .inr (.inr (.inr (.inr (.inr rfl))))) (fun x hx => by
    rcases List.mem_append.1 hx with hx | hx
    · exact hs x hx
    · simp at hx
      rcases hx with rfl | rfl <;> exact Nat.zero_le _) none hv)
  have hwr : IntKind.i64.wrap ((l.length : Int) - 1) = ((l.length - 1 : Nat) : Int) := by rw [IntWalk.i64_in _ ⟨by omega, by omega⟩]; omega
  have hm1 : (l.length : Int) - 1 = ((l.length - 1 : Nat) : Int) := by omega
  have HE := hid' (fun (B' wb : Nat) => exp_any (B := B') (wb := wb) (cap := cap) (l := l) (ao := some ⟨g, 0, none⟩) g rfl (by omega) n (l.length - 1) hg)
  unfold ExpP at HE
  rw [ht] at HE
  clear h hv ho hs hg hcx hm2
  go_enter Tryz.func12, Tryz.ntmps12
  go_wp2_with fail
  refine Calls.mono HAF.out ?_
  rintro e w2 ⟨ao, c, rfl, hN, b2⟩
  have HVA := hid' (HV.out w2 b2 ao c hN)
  have HB2 := hid' b2
  clear hN b2 HAF HV
  go_wp2_with fail
  refine Calls.mono HVA.out ?_
  rintro e w3 ⟨b3, rfl⟩
  have HB3 := hid' (Below.thenB HB2.out b3)
  clear b3 HVA HB2
  have hwv : WV w3.heap.size w3.heap.size (.slice (some ⟨g, 0, none⟩) l.length cap) (w3.alloc (.cells #[.slice (some ⟨g, 0, none⟩) l.length cap, .pointer none, .slice none 0 0, .int .i64 0, .int .i64 0, .bool false] 53)) [] 0 ((0 : Nat) : Int) :=
    ⟨⟨_, _, row_new w3 53 [.slice (some ⟨g, 0, none⟩) l.length cap, .pointer none, .slice none 0 0, .int .i64 0, .int .i64 0, .bool false], .inl rfl, ⟨rfl, .inl ⟨rfl, rfl⟩⟩⟩, Nat.le_refl _⟩
  have hnw : NodesAt w3.heap.size (w3.alloc (.cells #[.slice (some ⟨g, 0, none⟩) l.length cap, .pointer none, .slice none 0 0, .int .i64 0, .int .i64 0, .bool false] 53)) (some ⟨g, 0, none⟩) l :=
    HNA.out.keep (HB3.out.alloc HB3.out.size _) HB3.out.size
  have HX := hid' (HE.out w3.heap.size w3.heap.size _ _ _ hwv hnw (by simp) (by simpa using htl) (by simpa using hc))
  have HB4 := hid' (HB3.out.alloc HB3.out.size (.cells #[.slice (some ⟨g, 0, none⟩) l.length cap, .pointer none, .slice none 0 0, .int .i64 0, .int .i64 0, .bool false] 53))
  have hsz := HB3.out.size
  clear hwv hnw HE HNA
  go_wp2_with fail
  refine Calls.mono HX.out ?_
  rintro e w5 ⟨rfl, h5, b5⟩
  have HW5 := hid' (written_any h5 (by simpa using ht0))
  have HB5 := hid' (HB4.out.trans (b5.mono hsz))
  rw [List.nil_append] at HW5
  clear h5 b5 HX
  go_wp2_with fail
  refine Calls.mono HW5.out ?_
  rintro e w6 ⟨rfl, b6⟩
  have HB6 := hid' (HB5.out.trans (b6.mono hsz))
  clear b6
  go_wp2
  go_returns
  exact ⟨rfl, HB6.out⟩
end Go.Proofs.YthjolmjaijoogaaGreatDoor

namespace Go.Proofs.YthjolmjaijoogaaGreatDoor
open Go.RowKit
open Lx Ax Sw

namespace Sw
def ops15 : List Int := [18, 19, 21, 22, 23, 24, 25, 26, 27, 28, 29, 30, 31, 32, 33]
def exF (z : Int) : Nd := ⟨35, 0, 0, ⟨#[]⟩, [z]⟩
def blF (z : Int) : Nd := ⟨47, 0, 0, ⟨#[]⟩, [z]⟩
def nmF (c : UInt8) : Nd := ⟨6, 0, 0, ⟨#[c]⟩, []⟩
def pairL (a b : Int) (right : Bool) : List Nd := [nmF 112, nmF 113, ⟨a, 0, 0, ⟨#[]⟩, [0, 1]⟩, nmF 114, ⟨b, 0, 0, ⟨#[]⟩, if right then [3, 2] else [2, 3]⟩]
/-- What show.Expr wants of nodes, and that their text is t. -/
def shows (l : List Nd) (t : List UInt8) : Bool := (match validF (l ++ [exF ((l.length - 1 : Nat) : Int), blF (l.length : Int)]) with | none => true | some _ => false) && l.all (fun x => decide (OpOK x.op) && decide (x.s.size ≤ 1000)) && decide (0 < l.length) && decide (l.length ≤ 100) && goodF l 3 (l.length - 1) && txF l 3 (l.length - 1) == t && decide (t.length ≤ 1000) && decide (0 < t.length) && decide (cntF l 3 (l.length - 1) ≤ 1000)
def qR (right : Bool) (i : Nat) : Nat := if right then (if i = 0 then 1 else if i = 1 then 2 else if i = 2 then 3 else if i = 3 then 0 else 4) else i
def samePairs (right : Bool) (l m : List Nd) : Bool := isTreeF l && isTreeF m && m.length == 5 && (List.range 5).all (fun i => match l[i]?, m[qR right i]? with
  | some x, some y => y.op == x.op && y.n == x.n && y.s.data.toList == x.s.data.toList && y.kids == x.kids.map (fun z => (qR right z.toNat : Int))
  | _, _ => false)
def mustF (a b : Int) (right : Bool) : Bool := decide (rankF a < rankF b) || (right && rankF a == rankF b) || (rankF a == 5 && rankF b == 5)
def pairOK (a b : Int) (right : Bool) : Bool := shows (pairL a b right) (txF (pairL a b right) 3 4) && (match Px.treeF 60 .alone (txF (pairL a b right) 3 4) with
  | some (.ok m) => samePairs right (pairL a b right) m
  | _ => false) && ((txF (pairL a b right) 3 4).any (· == 40) == mustF a b right)
def backOK (T t : List UInt8) : Bool := match Px.treeF 60 .alone T with
  | some (.ok l) => shows l t
  | _ => false
set_option maxRecDepth 100000 in
theorem back_a : backOK [40, 97, 32, 45, 32, 98, 41, 32, 45, 32, 99] [97, 32, 45, 32, 98, 32, 45, 32, 99] = true := by decide +kernel
set_option maxRecDepth 100000 in
theorem back_b : backOK [97, 32, 45, 32, 40, 98, 32, 45, 32, 99, 41] [97, 32, 45, 32, 40, 98, 32, 45, 32, 99, 41] = true := by decide +kernel
set_option maxRecDepth 100000 in
theorem pair_18_true : ops15.all (fun b => pairOK 18 b true) = true := by decide +kernel
set_option maxRecDepth 100000 in
theorem pair_19_true : ops15.all (fun b => pairOK 19 b true) = true := by decide +kernel
set_option maxRecDepth 100000 in
theorem pair_21_true : ops15.all (fun b => pairOK 21 b true) = true := by decide +kernel
set_option maxRecDepth 100000 in
theorem pair_22_true : ops15.all (fun b => pairOK 22 b true) = true := by decide +kernel
set_option maxRecDepth 100000 in
theorem pair_23_true : ops15.all (fun b => pairOK 23 b true) = true := by decide +kernel
set_option maxRecDepth 100000 in
theorem pair_24_true : ops15.all (fun b => pairOK 24 b true) = true := by decide +kernel
set_option maxRecDepth 100000 in
theorem pair_25_true : ops15.all (fun b => pairOK 25 b true) = true := by decide +kernel
set_option maxRecDepth 100000 in
theorem pair_26_true : ops15.all (fun b => pairOK 26 b true) = true := by decide +kernel
set_option maxRecDepth 100000 in
theorem pair_27_true : ops15.all (fun b => pairOK 27 b true) = true := by decide +kernel
set_option maxRecDepth 100000 in
theorem pair_28_true : ops15.all (fun b => pairOK 28 b true) = true := by decide +kernel
set_option maxRecDepth 100000 in
theorem pair_29_true : ops15.all (fun b => pairOK 29 b true) = true := by decide +kernel
set_option maxRecDepth 100000 in
theorem pair_30_true : ops15.all (fun b => pairOK 30 b true) = true := by decide +kernel
set_option maxRecDepth 100000 in
theorem pair_31_true : ops15.all (fun b => pairOK 31 b true) = true := by decide +kernel
set_option maxRecDepth 100000 in
theorem pair_32_true : ops15.all (fun b => pairOK 32 b true) = true := by decide +kernel
set_option maxRecDepth 100000 in
theorem pair_33_true : ops15.all (fun b => pairOK 33 b true) = true := by decide +kernel
set_option maxRecDepth 100000 in
theorem pair_18_false : ops15.all (fun b => pairOK 18 b false) = true := by decide +kernel
set_option maxRecDepth 100000 in
theorem pair_19_false : ops15.all (fun b => pairOK 19 b false) = true := by decide +kernel
set_option maxRecDepth 100000 in
theorem pair_21_false : ops15.all (fun b => pairOK 21 b false) = true := by decide +kernel
set_option maxRecDepth 100000 in
theorem pair_22_false : ops15.all (fun b => pairOK 22 b false) = true := by decide +kernel
set_option maxRecDepth 100000 in
theorem pair_23_false : ops15.all (fun b => pairOK 23 b false) = true := by decide +kernel
set_option maxRecDepth 100000 in
theorem pair_24_false : ops15.all (fun b => pairOK 24 b false) = true := by decide +kernel
set_option maxRecDepth 100000 in
theorem pair_25_false : ops15.all (fun b => pairOK 25 b false) = true := by decide +kernel
set_option maxRecDepth 100000 in
theorem pair_26_false : ops15.all (fun b => pairOK 26 b false) = true := by decide +kernel
set_option maxRecDepth 100000 in
theorem pair_27_false : ops15.all (fun b => pairOK 27 b false) = true := by decide +kernel
set_option maxRecDepth 100000 in
theorem pair_28_false : ops15.all (fun b => pairOK 28 b false) = true := by decide +kernel
set_option maxRecDepth 100000 in
theorem pair_29_false : ops15.all (fun b => pairOK 29 b false) = true := by decide +kernel
set_option maxRecDepth 100000 in
theorem pair_30_false : ops15.all (fun b => pairOK 30 b false) = true := by decide +kernel
set_option maxRecDepth 100000 in
theorem pair_31_false : ops15.all (fun b => pairOK 31 b false) = true := by decide +kernel
set_option maxRecDepth 100000 in
theorem pair_32_false : ops15.all (fun b => pairOK 32 b false) = true := by decide +kernel
set_option maxRecDepth 100000 in
theorem pair_33_false : ops15.all (fun b => pairOK 33 b false) = true := by decide +kernel
theorem pair_all (a b : Int) (ha : a ∈ ops15) (hb : b ∈ ops15) (right : Bool) : pairOK a b right = true := by
  simp only [ops15, List.mem_cons, List.not_mem_nil, or_false] at ha
  cases right
  · rcases ha with rfl | rfl | rfl | rfl | rfl | rfl | rfl | rfl | rfl | rfl | rfl | rfl | rfl | rfl | rfl
    · exact List.all_eq_true.1 pair_18_false b hb
    · exact List.all_eq_true.1 pair_19_false b hb
    · exact List.all_eq_true.1 pair_21_false b hb
    · exact List.all_eq_true.1 pair_22_false b hb
    · exact List.all_eq_true.1 pair_23_false b hb
    · exact List.all_eq_true.1 pair_24_false b hb
    · exact List.all_eq_true.1 pair_25_false b hb
    · exact List.all_eq_true.1 pair_26_false b hb
    · exact List.all_eq_true.1 pair_27_false b hb
    · exact List.all_eq_true.1 pair_28_false b hb
    · exact List.all_eq_true.1 pair_29_false b hb
    · exact List.all_eq_true.1 pair_30_false b hb
    · exact List.all_eq_true.1 pair_31_false b hb
    · exact List.all_eq_true.1 pair_32_false b hb
    · exact List.all_eq_true.1 pair_33_false b hb
  · rcases ha with rfl | rfl | rfl | rfl | rfl | rfl | rfl | rfl | rfl | rfl | rfl | rfl | rfl | rfl | rfl
    · exact List.all_eq_true.1 pair_18_true b hb
    · exact List.all_eq_true.1 pair_19_true b hb
    · exact List.all_eq_true.1 pair_21_true b hb
    · exact List.all_eq_true.1 pair_22_true b hb
    · exact List.all_eq_true.1 pair_23_true b hb
    · exact List.all_eq_true.1 pair_24_true b hb
    · exact List.all_eq_true.1 pair_25_true b hb
    · exact List.all_eq_true.1 pair_26_true b hb
    · exact List.all_eq_true.1 pair_27_true b hb
    · exact List.all_eq_true.1 pair_28_true b hb
    · exact List.all_eq_true.1 pair_29_true b hb
    · exact List.all_eq_true.1 pair_30_true b hb
    · exact List.all_eq_true.1 pair_31_true b hb
    · exact List.all_eq_true.1 pair_32_true b hb
    · exact List.all_eq_true.1 pair_33_true b hb
end Sw
end Go.Proofs.YthjolmjaijoogaaGreatDoor
