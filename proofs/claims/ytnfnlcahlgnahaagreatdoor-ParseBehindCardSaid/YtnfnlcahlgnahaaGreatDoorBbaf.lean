/- A text's tree is told, whatever the text; with a line more behind it has the same nodes, and three more. Conditions: at most 10000 bytes. -/
import Derived.Test.YtnfnlcahlgnahaaGreatDoorBbad
import Derived.Test.YtnfnlcahlgnahaaGreatDoorBbae
import Derived.Test.YtnfnlcahlgnahaaGreatDoorBabo
namespace Go.Proofs.YtnfnlcahlgnahaaGreatDoor
namespace Px
open Lx Ax

def fuelT : Nat := 8000000
theorem run_file {ts : List Tok} (T : Tk ts) (n : Nat) (hn : 64 * ts.length + 21 ≤ n) : Ok (Post ts .file ⟨0, [], 0⟩) (runF ts n .file ⟨0, [], 0⟩) :=
  tot_all T n .file ⟨0, [], 0⟩ T.pos (by simp) Back.nil (by simp) trivial (by simp only [Mz, rank]; omega)
theorem mem_sumT {t : Tok} : ∀ {ts : List Tok}, t ∈ ts → t.text.length ≤ sumT ts
  | a :: l, h => by
    rcases List.mem_cons.1 h with rfl | h
    · simp only [sumT]; omega
    · have := mem_sumT h
      simp only [sumT]; omega
theorem tk_guard {ts : List Tok} (T : Tk ts) : (decide (ts.length ≤ 100000) && ts.all fun t => decide (t.text.length ≤ 100000)) = true := by
  rw [Bool.and_eq_true]
  refine ⟨decide_eq_true (by have := T.few; omega), List.all_eq_true.2 fun t ht => decide_eq_true ?_⟩
  have := mem_sumT ht
  have := T.text
  omega
/-- Whatever the text, its tree is told. -/
theorem tree_some (l : List UInt8) (hl : l.length ≤ 10000) (n : Nat) (hn : fuelT ≤ n) : ∃ pr, treeF n .file l = some pr := by
  unfold treeF
  cases hs : scanF l with
  | bad p => exact ⟨_, rfl⟩
  | ok ts =>
    have T := Bh.scan_tk hl hs
    have h2 := T.few
    have h1 := run_file T n (by unfold fuelT at hn; omega)
    dsimp only
    rw [if_pos (tk_guard T)]
    cases hr : runF ts n .file ⟨0, [], 0⟩ with
    | stuck => rw [hr] at h1; exact h1.elim
    | bad a b => exact ⟨_, rfl⟩
    | ok z zs c s => exact ⟨_, rfl⟩
theorem tree_few (l : List UInt8) (hl : l.length ≤ 10000) (n : Nat) (hn : fuelT ≤ n) {l1 : List Nd} (h : treeF n .file l = some (.ok l1)) : l1.length ≤ 300000 := by
  unfold treeF at h
  cases hs : scanF l with
  | bad p => rw [hs] at h; cases h
  | ok ts =>
    have T := Bh.scan_tk hl hs
    have h2 := T.few
    have h1 := run_file T n (by unfold fuelT at hn; omega)
    rw [hs] at h
    dsimp only at h
    rw [if_pos (tk_guard T)] at h
    cases hr : runF ts n .file ⟨0, [], 0⟩ with
    | stuck => rw [hr] at h; cases h
    | bad a b => rw [hr] at h; cases h
    | ok z zs c s =>
      rw [hr] at h h1
      have hs1 : s.nodes = l1 := by simpa using h
      have h3 := h1.len2
      have h4 := h1.at2
      simp only [slack, List.length_nil] at h3
      rw [← hs1]; omega
theorem leaf_bare {ts : List Tok} {s : PS} {kd p : Nat} {tx : List UInt8} {t' : Tok} (m : Nat) (hk : kd = 1 ∨ kd = 2) (h0 : ts[s.at_]? = some ⟨kd, tx, p⟩) (h1 : ts[s.at_ + 1]? = some t') (h2 : sg t' = [61] ∨ sg t' = []) (hn : s.nodes.length < 899000) :
    runF ts (m + 14) (.bare 0) s = .ok (s.nodes.length : Int) [] false ⟨s.at_ + 1, s.nodes ++ [⟨if kd = 1 then 6 else 4, 0, p, txt tx, []⟩], s.deep⟩ := by
  have e0 : sg ⟨kd, tx, p⟩ = [] := by unfold sg; rw [if_neg (by rcases hk with rfl | rfl <;> simp)]
  have hn' : s.nodes.length < 900000 := by omega
  have ha : runF ts (m + 3) .atom s = .ok (s.nodes.length : Int) [] false ⟨s.at_ + 1, s.nodes ++ [⟨if kd = 1 then 6 else 4, 0, p, txt tx, []⟩], s.deep⟩ := by
    rw [runF]
    unfold bodyF
    dsimp only
    unfold kindF
    rw [h0]
    rcases hk with rfl | rfl
    · simp [leafF, nextF, h0, addF, hn', one]
    · simp [leafF, nextF, h0, addF, hn', one]
  generalize (⟨if kd = 1 then 6 else 4, 0, p, txt tx, []⟩ : Nd) = x at ha
  have sgn : ∀ (f : List UInt8 → R), signF ts ⟨s.at_ + 1, s.nodes ++ [x], s.deep⟩ f = f (sg t') := fun f => by unfold signF; rw [h1]
  have hb : runF ts (m + 4) .primary s = .ok (s.nodes.length : Int) [] false ⟨s.at_ + 1, s.nodes ++ [x], s.deep⟩ := by
    rw [runF]; unfold bodyF; dsimp only; rw [ha]; dsimp only [R.bind]
    rw [runF]; unfold bodyF; dsimp only; rw [sgn]
    rcases h2 with e | e <;> rw [e] <;> rfl
  have s0 : ∀ (f : List UInt8 → R), signF ts s f = f [] := fun f => by unfold signF; rw [h0]; dsimp only; rw [e0]
  have hc : runF ts (m + 5) .unary s = .ok (s.nodes.length : Int) [] false ⟨s.at_ + 1, s.nodes ++ [x], s.deep⟩ := by
    rw [runF]; unfold bodyF; dsimp only; rw [s0, if_neg (by decide)]; exact hb
  have loop : ∀ (i j : Nat) (z : Int), runF ts (j + 1) (.binLoop i z) ⟨s.at_ + 1, s.nodes ++ [x], s.deep⟩ = one z ⟨s.at_ + 1, s.nodes ++ [x], s.deep⟩ := by
    intro i j z
    rw [runF]; unfold bodyF; dsimp only; rw [sgn]
    have : opF i (sg t') = 0 := by rcases h2 with e | e <;> rw [e] <;> rcases i with _ | _ | _ | i <;> rfl
    rw [if_pos this]
  have bin : ∀ (i j : Nat), runF ts (j + 1) (partF i) s = .ok (s.nodes.length : Int) [] false ⟨s.at_ + 1, s.nodes ++ [x], s.deep⟩ → runF ts (j + 2) (.bin i) s = .ok (s.nodes.length : Int) [] false ⟨s.at_ + 1, s.nodes ++ [x], s.deep⟩ := by
    intro i j h
    rw [runF]; unfold bodyF; dsimp only; rw [h]; dsimp only [R.bind]
    exact loop i j _
  have hd : runF ts (m + 6) (.bin 3) s = _ := bin 3 (m + 4) hc
  have he : runF ts (m + 7) (.bin 2) s = _ := bin 2 (m + 5) hd
  have hf : runF ts (m + 8) .compare s = .ok (s.nodes.length : Int) [] false ⟨s.at_ + 1, s.nodes ++ [x], s.deep⟩ := by
    rw [runF]; unfold bodyF; dsimp only; rw [he]; dsimp only [R.bind]; rw [sgn]
    have : cmpOp (sg t') = 0 := by rcases h2 with e | e <;> rw [e] <;> rfl
    rw [if_pos this]; rfl
  have hg : runF ts (m + 9) .not s = .ok (s.nodes.length : Int) [] false ⟨s.at_ + 1, s.nodes ++ [x], s.deep⟩ := by
    rw [runF]; unfold bodyF; dsimp only; rw [s0, if_neg (by decide)]; exact hf
  have hh : runF ts (m + 10) (.bin 1) s = _ := bin 1 (m + 8) hg
  have hi : runF ts (m + 11) (.bin 0) s = _ := bin 0 (m + 9) hh
  have hj : runF ts (m + 12) .test s = .ok (s.nodes.length : Int) [] false ⟨s.at_ + 1, s.nodes ++ [x], s.deep⟩ := by
    rw [runF]; unfold bodyF; dsimp only; rw [hi]; dsimp only [R.bind]; rw [sgn]
    rw [if_neg (by rcases h2 with e | e <;> rw [e] <;> decide)]; rfl
  have hk : runF ts (m + 13) (.row 0) s = .ok 0 [(s.nodes.length : Int)] false ⟨s.at_ + 1, s.nodes ++ [x], s.deep⟩ := by
    rw [runF]; unfold bodyF; dsimp only
    have hr : runF ts (m + 12) (rowP 0) s = _ := hj
    rw [hr]; dsimp only [R.bind]
    rw [runF]; unfold bodyF; dsimp only; rw [sgn]
    rw [if_neg (by rcases h2 with e | e <;> rw [e] <;> decide)]
  rw [runF]; unfold bodyF; dsimp only
  unfold nextF
  rw [h0]; dsimp only
  rw [hk]
  rfl
/-- The line that stands behind. -/
theorem zz_stmt {ts : List Tok} {s : PS} {p p1 p2 p3 : Nat} (m : Nat) (h0 : ts[s.at_]? = some ⟨1, [122, 122], p⟩) (h1 : ts[s.at_ + 1]? = some ⟨4, [61], p1⟩) (h2 : ts[s.at_ + 1 + 1]? = some ⟨2, [49], p2⟩) (h3 : ts[s.at_ + 1 + 1 + 1]? = some ⟨5, [], p3⟩) (hn : s.nodes.length < 890000) :
    ∃ x y, runF ts (m + 20) (.statement ⟨false, false, false⟩) s = .ok ((s.nodes.length + 2 : Nat) : Int) [] false ⟨s.at_ + 1 + 1 + 1 + 1, s.nodes ++ [x] ++ [y] ++ [⟨36, 0, p1, ⟨#[]⟩, [(s.nodes.length : Int), ((s.nodes.length + 1 : Nat) : Int)]⟩], s.deep⟩ := by
  have s0 : ∀ (f : List UInt8 → R), signF ts s f = f [] := fun f => by unfold signF; rw [h0]; rfl
  have ha := leaf_bare (m + 2) (.inl rfl) h0 h1 (.inl rfl) (by omega : s.nodes.length < 899000)
  rw [if_pos rfl] at ha
  generalize hx : (⟨6, 0, p, txt [122, 122], []⟩ : Nd) = x at ha
  have hx6 : x.op = 6 := by rw [← hx]
  have hb := leaf_bare (s := ⟨s.at_ + 1 + 1, s.nodes ++ [x], s.deep⟩) (m + 2) (.inr rfl) h2 h3 (.inr rfl) (by simp; omega)
  rw [if_neg (by decide)] at hb
  generalize (⟨4, 0, p2, txt [49], []⟩ : Nd) = y at hb
  refine ⟨x, y, ?_⟩
  have hc : runF ts (m + 17) .assignment s = .ok ((s.nodes.length + 2 : Nat) : Int) [] false ⟨s.at_ + 1 + 1 + 1, s.nodes ++ [x] ++ [y] ++ [⟨36, 0, p1, ⟨#[]⟩, [(s.nodes.length : Int), ((s.nodes.length + 1 : Nat) : Int)]⟩], s.deep⟩ := by
    rw [runF]; unfold bodyF; dsimp only
    have ha' : runF ts (m + 16) (.bare 0) s = _ := ha
    rw [ha']; dsimp only [R.bind]
    unfold signF
    rw [h1]; dsimp only
    rw [if_pos (show sg ⟨4, [61], p1⟩ = [61] from rfl)]
    have ht : targetF ((s.nodes ++ [x]).length + 1) (s.nodes ++ [x]) (s.nodes.length : Int) = some true := by
      unfold targetF
      rw [if_neg (by omega), Int.toNat_natCast, List.getElem?_append_right (Nat.le_refl _), Nat.sub_self]
      simp [hx6]
    rw [ht]; dsimp only
    unfold allowF
    rw [h1]; dsimp only
    rw [if_pos rfl]
    unfold nextF
    rw [h1]; dsimp only
    have hb' : runF ts (m + 16) (.bare 0) ⟨s.at_ + 1 + 1, s.nodes ++ [x], s.deep⟩ = _ := hb
    rw [hb']; dsimp only [R.bind]
    unfold addF
    rw [if_pos ⟨by simp; omega, by simp⟩]
    unfold one
    simp
  have hd : runF ts (m + 18) (.simple ⟨false, false, false⟩) s = runF ts (m + 17) .assignment s := by
    rw [runF]; unfold bodyF; dsimp only; rw [s0]
    rw [if_neg (by decide), if_neg (by decide), if_neg (by decide), if_neg (by decide), if_neg (by decide)]
  have he : runF ts (m + 19) (.line ⟨false, false, false⟩) s = .ok ((s.nodes.length + 2 : Nat) : Int) [] false ⟨s.at_ + 1 + 1 + 1 + 1, s.nodes ++ [x] ++ [y] ++ [⟨36, 0, p1, ⟨#[]⟩, [(s.nodes.length : Int), ((s.nodes.length + 1 : Nat) : Int)]⟩], s.deep⟩ := by
    rw [runF]; unfold bodyF; dsimp only; rw [hd, hc]; dsimp only [R.bind]
    unfold takeKF
    rw [h3]; dsimp only
    rw [if_pos rfl]; rfl
  rw [runF]; unfold bodyF; dsimp only; rw [s0]
  rw [if_neg (by decide), if_neg (by decide), if_neg (by decide)]; exact he
/-- What stands in the tokens behind the first ones' end. -/
structure Zz (ts2 : List Tok) (k : Nat) : Prop where
  rest : ∃ p p1 p2 p3 p4, ts2[k]? = some ⟨1, [122, 122], p⟩ ∧ ts2[k + 1]? = some ⟨4, [61], p1⟩ ∧ ts2[k + 1 + 1]? = some ⟨2, [49], p2⟩ ∧ ts2[k + 1 + 1 + 1]? = some ⟨5, [], p3⟩ ∧ ts2[k + 1 + 1 + 1 + 1]? = some ⟨8, [], p4⟩
theorem loop_behind {ts1 ts2 : List Tok} {k : Nat} (H : Like ts1 ts2 k) (hz : Zz ts2 k) : ∀ (n m : Nat), n + 40 ≤ m → ∀ zs s z zs' c s', runF ts1 n (.fileLoop zs) s = .ok z zs' c s' → s'.nodes.length < 890000 → zs'.length < 890000 →
    ∃ x y w, runF ts2 m (.fileLoop zs) s = .ok 0 (zs' ++ [((s'.nodes.length + 2 : Nat) : Int)]) false ⟨k + 1 + 1 + 1 + 1, s'.nodes ++ [x] ++ [y] ++ [w], s'.deep⟩ := by
  intro n
  induction n with
  | zero => intro m _ zs s z zs' c s' h; cases h
  | succ n ih =>
    intro m hm zs s z zs' c s' h hn hl
    rcases m with _ | m
    · omega
    rw [runF] at h ⊢
    unfold bodyF at h ⊢
    dsimp only at h ⊢
    unfold kindF at h ⊢
    cases ht : ts1[s.at_]? with
    | none => rw [ht] at h; cases h
    | some t =>
      rw [ht] at h
      dsimp only at h
      obtain ⟨t', ht', _, h3⟩ := H.cases ht
      rw [ht']
      dsimp only
      rcases h3 with ⟨h8, _, hk, _, _⟩ | ⟨hk, h8, h1⟩
      · rw [if_neg h8] at h
        rw [if_neg (by omega)]
        cases hr : runF ts1 n (.statement ⟨false, false, false⟩) s with
        | stuck => rw [hr] at h; cases h
        | bad a b => rw [hr] at h; cases h
        | ok z2 zs2 c2 s2 =>
          rw [hr] at h
          rw [le_all H n m (by omega) (.statement ⟨false, false, false⟩) s trivial z2 zs2 c2 s2 hr]
          dsimp only [R.bind] at h ⊢
          by_cases hc : zs.length < 900000
          · rw [if_pos hc] at h ⊢
            exact ih m (by omega) _ _ _ _ _ _ h hn hl
          · rw [if_neg hc] at h; cases h
      · rw [if_pos h8] at h
        injection h with g1 g2 g3 g4
        subst g2 g4
        rw [if_neg (by omega)]
        obtain ⟨p, p1, p2, p3, p4, e0, e1, e2, e3, e4⟩ := hz.rest
        rw [← hk] at e0 e1 e2 e3 e4
        obtain ⟨q, rfl⟩ : ∃ q, m = q + 20 := ⟨m - 20, by omega⟩
        obtain ⟨x, y, hst⟩ := zz_stmt q e0 e1 e2 e3 hn
        rw [hst]
        dsimp only [R.bind]
        rw [if_pos (by omega), ← hk]
        refine ⟨x, y, ⟨36, 0, p1, ⟨#[]⟩, [(s.nodes.length : Int), ((s.nodes.length + 1 : Nat) : Int)]⟩, ?_⟩
        rw [runF]
        unfold bodyF
        dsimp only
        unfold kindF
        rw [e4]
        rfl
/-- A list of statements only grows. -/
theorem loop_keeps {ts : List Tok} : ∀ (n : Nat) zs s z zs' c s', runF ts n (.fileLoop zs) s = .ok z zs' c s' → zs ≠ [] → zs' ≠ [] := by
  intro n
  induction n with
  | zero => intro zs s z zs' c s' h; cases h
  | succ n ih =>
    intro zs s z zs' c s' h hz
    rw [runF] at h
    unfold bodyF at h
    dsimp only at h
    unfold kindF at h
    cases ht : ts[s.at_]? with
    | none => rw [ht] at h; cases h
    | some t =>
      rw [ht] at h
      dsimp only at h
      by_cases h8 : t.kind = 8
      · rw [if_pos h8] at h
        injection h with _ g2 _ _
        rw [← g2]; exact hz
      · rw [if_neg h8] at h
        cases hs : runF ts n (.statement ⟨false, false, false⟩) s with
        | stuck => rw [hs] at h; cases h
        | bad a b => rw [hs] at h; cases h
        | ok z2 zs2 c2 s2 =>
          rw [hs] at h
          dsimp only [R.bind] at h
          split at h
          · exact ih _ _ _ _ _ _ h (by simp)
          · cases h
/-- The trees of a file and of it with the line behind. -/
def BhTree (l1 l2 : List Nd) : Prop := (l1.length = 2 ∧ l2.length = 4) ∨ (l2.length = l1.length + 3 ∧ ∀ i, i + 1 < l1.length → l2[i]? = l1[i]?)
theorem file_behind {ts1 ts2 : List Tok} {k : Nat} (H : Like ts1 ts2 k) (hz : Zz ts2 k) (T : Tk ts1) (n m : Nat) (hn : 64 * ts1.length + 21 ≤ n) (hm : n + 40 ≤ m) {z : Int} {zs : List Int} {c : Bool} {s : PS} (h : runF ts1 n .file ⟨0, [], 0⟩ = .ok z zs c s) :
    ∃ z' zs' c' s', runF ts2 m .file ⟨0, [], 0⟩ = .ok z' zs' c' s' ∧ BhTree s.nodes s'.nodes := by
  have hfew := T.few
  rcases n with _ | n
  · cases h
  rcases m with _ | m
  · omega
  have hL := tot_all T n (.fileLoop []) ⟨0, [], 0⟩ T.pos (by simp) Back.nil (by simp) ⟨Valid.nil _, by simp⟩ (by simp only [Mz, rank]; omega)
  rw [runF] at h ⊢
  unfold bodyF at h ⊢
  dsimp only at h ⊢
  cases hr : runF ts1 n (.fileLoop []) ⟨0, [], 0⟩ with
  | stuck => rw [hr] at h; cases h
  | bad a b => rw [hr] at h; cases h
  | ok z1 zs1 c1 s1 =>
    rw [hr] at h hL
    obtain ⟨_, A2, _, _, _, A6, _, A8, A9, _, _⟩ := hL
    simp only [slack, List.length_nil] at A6
    obtain ⟨x, y, w, hb⟩ := loop_behind H hz n m (by omega) [] ⟨0, [], 0⟩ z1 zs1 c1 s1 hr (by omega) (by omega)
    rw [hb]
    dsimp only [R.bind] at h ⊢
    unfold fileEnd at h ⊢
    have hlen : s1.nodes.length < 890000 := by omega
    cases zs1 with
    | nil =>
      -- nothing was read: no nodes
      have hno : s1.nodes = [] := by
        rcases n with _ | n
        · cases hr
        · rw [runF] at hr
          unfold bodyF at hr
          dsimp only at hr
          unfold kindF at hr
          cases ht : ts1[(⟨0, [], 0⟩ : PS).at_]? with
          | none => rw [ht] at hr; cases hr
          | some t =>
            rw [ht] at hr
            dsimp only at hr
            by_cases h8 : t.kind = 8
            · rw [if_pos h8] at hr
              injection hr with _ _ _ g4
              rw [← g4]
            · rw [if_neg h8] at hr
              cases hs : runF ts1 n (.statement ⟨false, false, false⟩) ⟨0, [], 0⟩ with
              | stuck => rw [hs] at hr; cases hr
              | bad a b => rw [hs] at hr; cases hr
              | ok z2 zs2 c2 s2 =>
                rw [hs] at hr
                dsimp only [R.bind] at hr
                split at hr
                · exact absurd rfl (loop_keeps n _ _ _ _ _ _ hr (by simp))
                · cases hr
      dsimp only [List.nil_append] at h ⊢
      unfold posF
      rw [if_neg (by omega), Int.toNat_natCast]
      have hq : (s1.nodes ++ [x] ++ [y] ++ [w])[s1.nodes.length + 2]? = some w := by simp [hno]
      rw [hq]
      dsimp only
      unfold addF
      rw [if_pos ⟨by simp; omega, by simp⟩]
      refine ⟨_, _, _, _, rfl, .inl ⟨?_, ?_⟩⟩
      · unfold addF at h
        rw [if_pos ⟨by rw [hno]; simp, by simp⟩] at h
        dsimp only at h
        unfold posF at h
        rw [if_neg (by omega), Int.toNat_natCast] at h
        simp only [hno, List.nil_append, List.length_nil] at h
        rw [show ([⟨38, 0, 0, ⟨#[]⟩, []⟩] : List Nd)[0]? = some ⟨38, 0, 0, ⟨#[]⟩, []⟩ from rfl] at h
        dsimp only at h
        rw [if_pos ⟨by simp, by simp⟩] at h
        unfold one at h
        injection h with _ _ _ g4
        rw [← g4]
        simp
      · simp [hno]
    | cons z0 zr =>
      dsimp only [List.cons_append] at h ⊢
      obtain ⟨v1, v2⟩ := A8 z0 (List.mem_cons_self ..)
      obtain ⟨j, rfl⟩ := Int.eq_ofNat_of_zero_le v1
      have hj : j < s1.nodes.length := by omega
      unfold posF at h ⊢
      rw [if_neg (by omega), Int.toNat_natCast, List.getElem?_eq_getElem hj] at h
      have hq : (s1.nodes ++ [x] ++ [y] ++ [w])[j]? = some s1.nodes[j] := by
        rw [List.append_assoc, List.append_assoc, List.getElem?_append_left hj, List.getElem?_eq_getElem hj]
      rw [if_neg (by omega), Int.toNat_natCast, hq]
      dsimp only at h ⊢
      unfold addF at h ⊢
      rw [if_pos ⟨by omega, by omega⟩] at h
      rw [if_pos ⟨by simp; omega, by simp at A9 ⊢; omega⟩]
      unfold one at h
      injection h with _ _ _ g4
      refine ⟨_, _, _, _, rfl, .inr ⟨?_, fun i hi => ?_⟩⟩
      · rw [← g4]; simp
      · rw [← g4] at hi ⊢
        dsimp only at hi ⊢
        rw [List.length_append, List.length_singleton] at hi
        rw [List.append_assoc, List.append_assoc, List.append_assoc, List.getElem?_append_left (by omega), List.getElem?_append_left (by omega)]
theorem ded_len (bl : List Nat) (p q : Nat) : (Bh.dedT bl p).length = (Bh.dedT bl q).length := by simp [Bh.dedT]
theorem ded_at {bl : List Nat} {p i : Nat} {t : Tok} (h : (Bh.dedT bl p)[i]? = some t) : t = ⟨7, [], p⟩ ∧ ∀ q, (Bh.dedT bl q)[i]? = some ⟨7, [], q⟩ := by
  unfold Bh.dedT at h ⊢
  rw [List.getElem?_replicate] at h
  by_cases e : i < (bl.takeWhile (0 < ·)).length
  · rw [if_pos e] at h
    exact ⟨by simpa using h.symm, fun q => by rw [List.getElem?_replicate, if_pos e]⟩
  · rw [if_neg e] at h; cases h
theorem like_of {T : List Tok} {bl : List Nat} {p q : Nat} {e : Tok} (he : e.kind = 8) (h5 : Bh.L5 T) (TK : Tk (T ++ Bh.dedT bl p ++ [e])) (R : List Tok) (u : Tok) (hu : u.kind = 1) : Like (T ++ Bh.dedT bl p ++ [e]) (T ++ Bh.dedT bl q ++ u :: R) (T ++ Bh.dedT bl p).length := by
  have hlen : (T ++ Bh.dedT bl q).length = (T ++ Bh.dedT bl p).length := by rw [List.length_append, List.length_append, ded_len bl q p]
  refine ⟨by rw [List.length_append, List.length_singleton], fun j t ht hj => ?_, ⟨e, u, ?_, ?_, he, hu⟩, fun j t ht hs hj => ?_⟩
  · have h8 : t.kind ≠ 8 := fun h => by
      have h1 := (TK.last j t ht).2 h
      rw [List.length_append, List.length_singleton] at h1
      omega
    rw [List.getElem?_append_left hj] at ht
    rw [List.getElem?_append_left (by omega)]
    by_cases hT : j < T.length
    · rw [List.getElem?_append_left hT] at ht
      rw [List.getElem?_append_left hT]
      exact ⟨t, ht, rfl, rfl, fun _ => rfl, h8⟩
    · rw [List.getElem?_append_right (by omega)] at ht
      rw [List.getElem?_append_right (by omega)]
      obtain ⟨rfl, h2⟩ := ded_at ht
      exact ⟨_, h2 q, rfl, rfl, fun h => absurd rfl h, h8⟩
  · rw [List.getElem?_append_right (Nat.le_refl _), Nat.sub_self]; rfl
  · rw [← hlen, List.getElem?_append_right (Nat.le_refl _), Nat.sub_self]; rfl
  · have h4 := sg_kind hs
    rw [List.getElem?_append_left (by omega)] at ht
    by_cases hT : j < T.length
    · rw [List.getElem?_append_left hT] at ht
      rw [List.length_append] at hj
      have hl : T.getLast? = some t := by rw [List.getLast?_eq_getElem?, ← ht]; congr 1; omega
      have := h5 t hl
      omega
    · rw [List.getElem?_append_right (by omega)] at ht
      obtain ⟨rfl, _⟩ := ded_at ht
      exact absurd h4 (by simp)
theorem zz_of (A : List Tok) (p : Nat) : Zz (A ++ Bh.zzT p) A.length := by
  have h : ∀ i, (A ++ Bh.zzT p)[A.length + i]? = (Bh.zzT p)[i]? := fun i => by rw [List.getElem?_append_right (by omega), Nat.add_sub_cancel_left]
  exact ⟨⟨p, p + 3, p + 5, p + 6, p + 7, h 0, h 1, h 2, h 3, h 4⟩⟩
/-- With a line more behind it a file has the same nodes, and three more. -/
theorem tree_behind (l : List UInt8) (hl : l.length ≤ 5000) (n m : Nat) (hn : fuelT ≤ n) (hm : n + 40 ≤ m) {l1 : List Nd} (h : treeF n .file (l ++ [10]) = some (.ok l1)) : ∃ l2, treeF m .file (l ++ [10] ++ Bh.zzL) = some (.ok l2) ∧ BhTree l1 l2 := by
  unfold treeF at h ⊢
  cases hs : scanF (l ++ [10]) with
  | bad p => rw [hs] at h; cases h
  | ok ts1 =>
    rw [hs] at h
    have T1 := Bh.scan_tk (by simp; omega) hs
    dsimp only at h
    rw [if_pos (tk_guard T1)] at h
    obtain ⟨T, bl, e1, e5, e2⟩ := Bh.scan_behind l ts1 hs
    have T2 := Bh.scan_tk (by simp [Bh.zzL]; omega) e2
    rw [e2]
    dsimp only
    rw [if_pos (tk_guard T2)]
    have hfew := T1.few
    cases hr : runF ts1 n .file ⟨0, [], 0⟩ with
    | stuck => rw [hr] at h; cases h
    | bad a b => rw [hr] at h; cases h
    | ok z zs c s =>
      rw [hr] at h
      have hs1 : s.nodes = l1 := by simpa using h
      subst e1
      have hk : (T ++ Bh.dedT bl (l.length + 1)).length = (T ++ Bh.dedT bl (l.length + 2)).length := by rw [List.length_append, List.length_append, ded_len]
      have HL := like_of (q := l.length + 2) rfl e5 T1 [⟨4, [61], l.length + 2 + 3⟩, ⟨2, [49], l.length + 2 + 5⟩, ⟨5, [], l.length + 2 + 6⟩, ⟨8, [], l.length + 2 + 7⟩] ⟨1, [122, 122], l.length + 2⟩ rfl
      have HZ := zz_of (T ++ Bh.dedT bl (l.length + 2)) (l.length + 2)
      rw [← hk] at HZ
      obtain ⟨z', zs', c', s', hr', hb⟩ := file_behind HL HZ T1 n m (by unfold fuelT at hn; omega) hm hr
      have hr2 : runF (T ++ Bh.dedT bl (l.length + 2) ++ Bh.zzT (l.length + 2)) m .file ⟨0, [], 0⟩ = .ok z' zs' c' s' := hr'
      rw [hr2]
      exact ⟨s'.nodes, rfl, hs1 ▸ hb⟩
end Px
end Go.Proofs.YtnfnlcahlgnahaaGreatDoor
