/- What the parser's functions say of a file is what they say with more tokens behind it, up to its end. Conditions: the tokens are alike but for dedents' places. -/
import Derived.Test.YtnfnlcahlgnahaaGreatDoorBbac
namespace Go.Proofs.YtnfnlcahlgnahaaGreatDoor
namespace Px
open Lx Ax

/-- Two rows of tokens: alike up to the first one's end, but for dedents' places. -/
structure Like (ts1 ts2 : List Tok) (k : Nat) : Prop where
  len : ts1.length = k + 1
  same : ∀ (j : Nat) t, ts1[j]? = some t → j < k → ∃ t', ts2[j]? = some t' ∧ t.kind = t'.kind ∧ t.text = t'.text ∧ (t.kind ≠ 7 → t = t') ∧ t.kind ≠ 8
  last : ∃ t t', ts1[k]? = some t ∧ ts2[k]? = some t' ∧ t.kind = 8 ∧ t'.kind = 1
  sign : ∀ (j : Nat) t, ts1[j]? = some t → sg t ≠ [] → j + 1 ≠ k
/-- What the first comes to, the second does. -/
def Le (r r' : R) : Prop := ∀ z zs c s', r = .ok z zs c s' → r' = .ok z zs c s'
/-- It comes to nothing. -/
def No (r : R) : Prop := ∀ z zs c s', r ≠ .ok z zs c s'
theorem Le.refl (r : R) : Le r r := fun _ _ _ _ h => h
theorem Le.stuck (r : R) : Le .stuck r := fun _ _ _ _ h => by cases h
theorem Le.bad (l : Bool) (p : Int) (r : R) : Le (.bad l p) r := fun _ _ _ _ h => by cases h
theorem No.le {r : R} (h : No r) (r' : R) : Le r r' := fun z zs c s' e => absurd e (h z zs c s')
theorem No.bad (l : Bool) (p : Int) : No (.bad l p) := fun _ _ _ _ h => by cases h
theorem No.stuck : No .stuck := fun _ _ _ _ h => by cases h
theorem No.bind {r : R} (h : No r) (f : Int → List Int → Bool → PS → R) : No (r.bind f) := by
  cases r with
  | stuck => exact No.stuck
  | bad l p => exact No.bad l p
  | ok z zs c s => exact absurd rfl (h z zs c s)
theorem Le.bind {r r' : R} {f f' : Int → List Int → Bool → PS → R} (h : Le r r') (hf : ∀ z zs c s, Le (f z zs c s) (f' z zs c s)) : Le (r.bind f) (r'.bind f') := by
  cases r with
  | stuck => exact Le.stuck _
  | bad l p => exact Le.bad _ _ _
  | ok z zs c s => rw [h z zs c s rfl]; exact hf z zs c s
theorem Le.ite {c : Prop} [Decidable c] {a b a' b' : R} (h : c → Le a a') (h' : ¬ c → Le b b') : Le (if c then a else b) (if c then a' else b') := by
  by_cases e : c
  · rw [if_pos e, if_pos e]; exact h e
  · rw [if_neg e, if_neg e]; exact h' e
section
variable {ts1 ts2 : List Tok} {k : Nat} {s : PS}
theorem sg_kind {t : Tok} (h : sg t ≠ []) : t.kind = 4 := by
  unfold sg at h
  by_cases e : t.kind = 4
  · exact e
  · rw [if_neg e] at h; exact absurd rfl h
theorem Like.cases (H : Like ts1 ts2 k) {j : Nat} {t : Tok} (ht : ts1[j]? = some t) : ∃ t', ts2[j]? = some t' ∧ sg t = sg t' ∧ ((t.kind ≠ 8 ∧ j < k ∧ t.kind = t'.kind ∧ t.text = t'.text ∧ (t.kind ≠ 7 → t = t')) ∨ (j = k ∧ t.kind = 8 ∧ t'.kind = 1)) := by
  have hj := (List.getElem?_eq_some_iff.1 ht).1
  rw [H.len] at hj
  by_cases h : j < k
  · obtain ⟨t', h1, h2, h3, h4, h5⟩ := H.same j t ht h
    exact ⟨t', h1, by unfold sg; rw [h2, h3], .inl ⟨h5, h, h2, h3, h4⟩⟩
  · obtain rfl : j = k := by omega
    obtain ⟨a, b, h1, h2, h3, h4⟩ := H.last
    rw [ht] at h1
    obtain rfl : t = a := by simpa using h1
    exact ⟨b, h2, by unfold sg; rw [h3, h4, if_neg (by decide), if_neg (by decide)], .inr ⟨rfl, h3, h4⟩⟩
theorem le_sign (H : Like ts1 ts2 k) {f f' : List UInt8 → R} (h : ∀ t, ts1[s.at_]? = some t → Le (f (sg t)) (f' (sg t))) : Le (signF ts1 s f) (signF ts2 s f') := by
  unfold signF
  cases ht : ts1[s.at_]? with
  | none => exact Le.stuck _
  | some t =>
    obtain ⟨t', h1, h2, _⟩ := H.cases ht
    rw [h1]; dsimp only; rw [← h2]; exact h t ht
theorem le_kind (H : Like ts1 ts2 k) {f f' : Nat → R} (h : ∀ t, ts1[s.at_]? = some t → t.kind ≠ 8 → Le (f t.kind) (f' t.kind)) (h8 : ∀ t, ts1[s.at_]? = some t → t.kind = 8 → Le (f 8) (f' 1)) : Le (kindF ts1 s f) (kindF ts2 s f') := by
  unfold kindF
  cases ht : ts1[s.at_]? with
  | none => exact Le.stuck _
  | some t =>
    obtain ⟨t', h1, h2, h3⟩ := H.cases ht
    rw [h1]; dsimp only
    rcases h3 with ⟨a, _, b, _⟩ | ⟨_, a, b⟩
    · rw [← b]; exact h t ht a
    · rw [b, a]; exact h8 t ht a
theorem le_nextS (H : Like ts1 ts2 k) {f f' : Tok → PS → R} {t : Tok} (ht : ts1[s.at_]? = some t) (h7 : t.kind ≠ 7) (h8 : t.kind ≠ 8) (h : Le (f t { s with at_ := s.at_ + 1 }) (f' t { s with at_ := s.at_ + 1 })) : Le (nextF ts1 s f) (nextF ts2 s f') := by
  unfold nextF
  obtain ⟨t', h1, _, h3⟩ := H.cases ht
  rw [ht, h1]; dsimp only
  rcases h3 with ⟨_, _, _, _, b⟩ | ⟨_, a, _⟩
  · rw [← b h7]; exact h
  · exact absurd a h8
theorem le_next (H : Like ts1 ts2 k) {f f' : Tok → PS → R} (h : ∀ t, ts1[s.at_]? = some t → t.kind ≠ 7 → t.kind ≠ 8 → Le (f t { s with at_ := s.at_ + 1 }) (f' t { s with at_ := s.at_ + 1 })) (h2 : ∀ t, ts1[s.at_]? = some t → t.kind = 7 ∨ t.kind = 8 → No (f t { s with at_ := s.at_ + 1 })) : Le (nextF ts1 s f) (nextF ts2 s f') := by
  cases ht : ts1[s.at_]? with
  | none => unfold nextF; rw [ht]; exact Le.stuck _
  | some t =>
    by_cases h7 : t.kind = 7
    · unfold nextF; rw [ht]; exact (h2 t ht (.inl h7)).le _
    · by_cases h8 : t.kind = 8
      · unfold nextF; rw [ht]; exact (h2 t ht (.inr h8)).le _
      · exact le_nextS H ht h7 h8 (h t ht h7 h8)
theorem le_need (H : Like ts1 ts2 k) {l : List UInt8} (hl : l ≠ []) {f f' : Int → PS → R} (h : ∀ pos s', s'.at_ ≠ k → Le (f pos s') (f' pos s')) : Le (needF ts1 l s f) (needF ts2 l s f') := by
  unfold needF
  cases ht : ts1[s.at_]? with
  | none => exact Le.stuck _
  | some t =>
    obtain ⟨t', h1, h2, h3⟩ := H.cases ht
    rw [h1]; dsimp only
    by_cases e : sg t = l
    · rw [if_pos e, if_pos (h2 ▸ e)]
      have e0 : sg t ≠ [] := by rw [e]; exact hl
      have e4 := sg_kind e0
      rcases h3 with ⟨_, _, _, _, b⟩ | ⟨_, a, _⟩
      · rw [← b (by omega)]; exact h _ _ (H.sign _ t ht e0)
      · omega
    · rw [if_neg e]; exact Le.bad _ _ _
theorem le_take (H : Like ts1 ts2 k) {kd : Nat} (h7 : kd ≠ 7) (h8 : kd ≠ 8) {f f' : Tok → PS → R} (h : ∀ t s', t.kind = kd → Le (f t s') (f' t s')) : Le (takeKF ts1 kd s f) (takeKF ts2 kd s f') := by
  unfold takeKF
  cases ht : ts1[s.at_]? with
  | none => exact Le.stuck _
  | some t =>
    obtain ⟨t', h1, h2, h3⟩ := H.cases ht
    rw [h1]; dsimp only
    by_cases e : t.kind = kd
    · rw [if_pos e]
      rcases h3 with ⟨_, _, _, _, b⟩ | ⟨_, a, _⟩
      · rw [← b (by omega), if_pos e]; exact h _ _ e
      · omega
    · rw [if_neg e]; exact Le.bad _ _ _
theorem le_take7 (H : Like ts1 ts2 k) {f f' : Tok → PS → R} (h : ∀ t t' s', Le (f t s') (f' t' s')) : Le (takeKF ts1 7 s f) (takeKF ts2 7 s f') := by
  unfold takeKF
  cases ht : ts1[s.at_]? with
  | none => exact Le.stuck _
  | some t =>
    obtain ⟨t', h1, h2, h3⟩ := H.cases ht
    rw [h1]; dsimp only
    by_cases e : t.kind = 7
    · rw [if_pos e]
      rcases h3 with ⟨_, _, a, _, b⟩ | ⟨_, a, _⟩
      · rw [if_pos (by omega)]; exact h _ _ _
      · omega
    · rw [if_neg e]; exact Le.bad _ _ _
theorem le_enter (H : Like ts1 ts2 k) {l : List UInt8} (hl : l ≠ []) {f f' : Int → PS → R} (h : ∀ pos s', s'.at_ ≠ k → Le (f pos s') (f' pos s')) : Le (enterF ts1 l s f) (enterF ts2 l s f') := by
  unfold enterF
  exact le_need H hl fun pos s' e => Le.ite (fun _ => Le.bad _ _ _) fun _ => h _ _ e
theorem le_leave {f f' : PS → R} (h : ∀ s', Le (f s') (f' s')) : Le (leaveF s f) (leaveF s f') := by
  unfold leaveF
  exact Le.ite (fun _ => Le.stuck _) fun _ => h _
theorem le_shut (H : Like ts1 ts2 k) {l : List UInt8} (hl : l ≠ []) {f f' : PS → R} (h : ∀ s', Le (f s') (f' s')) : Le (shutF ts1 l s f) (shutF ts2 l s f') := by
  unfold shutF
  exact le_need H hl fun _ _ _ => le_leave h
theorem le_add {op pos : Int} {tx : ByteArray} {kids : List Int} {f f' : Int → PS → R} (h : ∀ z s', Le (f z s') (f' z s')) : Le (addF op pos tx kids s f) (addF op pos tx kids s f') := by
  unfold addF
  exact Le.ite (fun _ => h _ _) fun _ => Le.stuck _
theorem le_pos {z : Int} {f f' : Int → R} (h : ∀ p, Le (f p) (f' p)) : Le (posF s z f) (posF s z f') := by
  unfold posF
  refine Le.ite (fun _ => Le.stuck _) fun _ => ?_
  cases s.nodes[z.toNat]? with
  | none => exact Le.stuck _
  | some x => exact h _
theorem le_allow (H : Like ts1 ts2 k) {b : Bool} {r r' : R} (h : Le r r') : Le (allowF ts1 b s r) (allowF ts2 b s r') := by
  unfold allowF
  cases ht : ts1[s.at_]? with
  | none => exact Le.stuck _
  | some t =>
    obtain ⟨t', h1, _⟩ := H.cases ht
    rw [h1]; dsimp only
    by_cases e : b = true
    · rw [if_pos e, if_pos e]; exact h
    · rw [if_neg e]; exact Le.bad _ _ _
theorem le_begins (H : Like ts1 ts2 k) (hs : s.at_ ≠ k) {f f' : Bool → R} (h : ∀ b, Le (f b) (f' b)) : Le (beginsF ts1 s f) (beginsF ts2 s f') := by
  unfold beginsF
  cases ht : ts1[s.at_]? with
  | none => exact Le.stuck _
  | some t =>
    obtain ⟨t', h1, h2, h3⟩ := H.cases ht
    rw [h1]; dsimp only
    rcases h3 with ⟨_, _, a, _, _⟩ | ⟨a, _, _⟩
    · rw [h2, a]; exact h _
    · exact absurd a hs
theorem le_rowB (H : Like ts1 ts2 k) (i : Nat) (hs : s.at_ ≠ k) {f f' : Bool → R} (h : ∀ b, Le (f b) (f' b)) : Le (rowBF ts1 i s f) (rowBF ts2 i s f') := by
  unfold rowBF
  cases ht : ts1[s.at_]? with
  | none => exact Le.stuck _
  | some t =>
    obtain ⟨t', h1, h2, h3⟩ := H.cases ht
    rw [h1]; dsimp only
    rcases h3 with ⟨_, _, a, _, _⟩ | ⟨a, _, _⟩
    · have : rowB i t = rowB i t' := by unfold rowB tBegins; rw [h2, a]
      rw [this]; exact h _
    · exact absurd a hs
end
/-- Here no part of an expression begins. -/
def Dead (ts : List Tok) (s : PS) : Prop := ∃ t, ts[s.at_]? = some t ∧ (t.kind = 7 ∨ t.kind = 8)
section
variable {ts : List Tok} {s : PS}
theorem Dead.sg {t : Tok} (h : Dead ts s) (ht : ts[s.at_]? = some t) : sg t = [] ∧ t.kind ≠ 1 ∧ t.kind ≠ 2 ∧ t.kind ≠ 3 := by
  obtain ⟨u, hu, hk⟩ := h
  rw [ht] at hu
  obtain rfl : t = u := by simpa using hu
  exact ⟨by unfold Px.sg; rw [if_neg (by omega)], by omega, by omega, by omega⟩
theorem no_sign (h : Dead ts s) {f : List UInt8 → R} (hf : No (f [])) : No (signF ts s f) := by
  obtain ⟨t, ht, hk⟩ := h
  unfold signF
  rw [ht]; dsimp only
  rw [(Dead.sg ⟨t, ht, hk⟩ ht).1]; exact hf
theorem no_need (h : Dead ts s) {l : List UInt8} (hl : l ≠ []) (f : Int → PS → R) : No (needF ts l s f) := by
  obtain ⟨t, ht, hk⟩ := h
  unfold needF
  rw [ht]; dsimp only
  rw [(Dead.sg ⟨t, ht, hk⟩ ht).1, if_neg (fun e => hl e.symm)]; exact No.bad _ _
theorem no_enter (h : Dead ts s) {l : List UInt8} (hl : l ≠ []) (f : Int → PS → R) : No (enterF ts l s f) := no_need h hl _
def Starts : Q → Bool
  | .test | .bin _ | .not | .ahead _ | .compare | .unary | .primary | .atom | .row _ | .target | .bare _ | .round _ | .list | .dict | .argument _ | .param _ _ => true
  | _ => false
theorem dead (h : Dead ts s) : ∀ (n : Nat) (q : Q), Starts q = true → No (runF ts n q s) := by
  intro n
  induction n with
  | zero => intro q _; exact No.stuck
  | succ n ih =>
    intro q hq
    show No (bodyF ts (runF ts n) q s)
    cases q <;> (first | (exfalso; simp [Starts] at hq; done) | skip) <;> unfold bodyF <;> dsimp only
    case test => exact (ih _ rfl).bind _
    case bin i => exact (ih _ (by rcases i with _ | _ | _ | i <;> rfl)).bind _
    case not => refine no_sign h ?_; rw [if_neg (by decide)]; exact ih _ rfl
    case ahead i => exact no_enter h (by split <;> decide) _
    case compare => exact (ih _ rfl).bind _
    case unary => refine no_sign h ?_; rw [if_neg (by decide)]; exact ih _ rfl
    case primary => exact (ih _ rfl).bind _
    case atom =>
      obtain ⟨t, ht, hk⟩ := h
      obtain ⟨_, k1, k2, k3⟩ := Dead.sg ⟨t, ht, hk⟩ ht
      unfold kindF
      rw [ht]; dsimp only
      rw [if_neg k1, if_neg k2, if_neg k3]
      refine no_sign ⟨t, ht, hk⟩ ?_
      rw [if_neg (by decide), if_neg (by decide), if_neg (by decide), if_neg (by decide), if_neg (by decide), if_neg (by decide)]
      unfold allowF
      rw [ht]; exact No.bad _ _
    case row i => exact (ih _ (by unfold rowP; split <;> rfl)).bind _
    case target =>
      refine no_sign h ?_
      rw [if_neg (by decide)]
      obtain ⟨t, ht, hk⟩ := h
      obtain ⟨k0, k1, _, _⟩ := Dead.sg ⟨t, ht, hk⟩ ht
      unfold nextF
      rw [ht]; dsimp only
      rw [if_neg (by unfold tBegins; rw [k0]; simp [k1])]
      exact No.bad _ _
    case bare i =>
      obtain ⟨t, ht, hk⟩ := h
      unfold nextF
      rw [ht]
      exact (ih _ rfl).bind _
    case round i => exact no_enter h (by decide) _
    case list => exact no_enter h (by decide) _
    case dict => exact no_enter h (by decide) _
    case argument names =>
      obtain ⟨t, ht, hk⟩ := h
      obtain ⟨_, k1, _, _⟩ := Dead.sg ⟨t, ht, hk⟩ ht
      unfold nextF
      rw [ht]; dsimp only
      rw [if_neg k1]
      split
      · exact (ih _ rfl).bind _
      · exact No.bad _ _
    case param names given =>
      obtain ⟨t, ht, hk⟩ := h
      obtain ⟨_, k1, _, _⟩ := Dead.sg ⟨t, ht, hk⟩ ht
      unfold takeKF
      rw [ht]; dsimp only
      rw [if_neg k1]; exact No.bad _ _
end
/-- What is asked ahead of a part. -/
def OkB (ts1 : List Tok) (k : Nat) : Q → PS → Prop
  | .orNone, s => s.at_ ≠ k
  | .texts, s => ∃ t, ts1[s.at_]? = some t ∧ t.kind = 3
  | .alone, _ | .file, _ | .fileLoop _, _ => False
  | _, _ => True
theorem ok_part (ts1 : List Tok) (k i : Nat) (s : PS) : OkB ts1 k (partF i) s := by rcases i with _ | _ | _ | i <;> exact trivial
theorem ok_rowP (ts1 : List Tok) (k i : Nat) (s : PS) : OkB ts1 k (rowP i) s := by unfold rowP; split <;> exact trivial
theorem le_q_test {ts1 ts2 : List Tok} {k n m : Nat} (H : Like ts1 ts2 k) (IH : ∀ q s, OkB ts1 k q s → Le (runF ts1 n q s) (runF ts2 m q s)) (s : PS) : Le (runF ts1 (n + 1) .test s) (runF ts2 (m + 1) .test s) := by
  have _ := IH
  have _ := H
  show Le (bodyF ts1 (runF ts1 n) _ s) (bodyF ts2 (runF ts2 m) _ s)
  unfold bodyF
  dsimp only
  repeat' (first
      | (with_reducible exact Le.refl _)
      | exact Le.stuck _
      | exact Le.bad _ _ _
      | (refine Le.ite (fun _ => ?_) (fun _ => ?_))
      | (refine Le.bind (IH _ _ (by exact trivial)) (fun _ _ _ _ => ?_))
      | (exact IH _ _ (by exact trivial))
      | (refine le_sign H (fun _ _ => ?_))
      | (refine le_need H (by decide) (fun _ _ _ => ?_))
      | (refine le_enter H (by decide) (fun _ _ _ => ?_))
      | (refine le_take H (by decide) (by decide) (fun _ _ _ => ?_))
      | (refine le_shut H (by decide) (fun _ => ?_))
      | (refine le_leave (fun _ => ?_))
      | (refine le_add (fun _ _ => ?_))
      | (refine le_pos (fun _ => ?_))
      | (refine le_allow H ?_))

theorem le_q_not {ts1 ts2 : List Tok} {k n m : Nat} (H : Like ts1 ts2 k) (IH : ∀ q s, OkB ts1 k q s → Le (runF ts1 n q s) (runF ts2 m q s)) (s : PS) : Le (runF ts1 (n + 1) .not s) (runF ts2 (m + 1) .not s) := by
  have _ := IH
  have _ := H
  show Le (bodyF ts1 (runF ts1 n) _ s) (bodyF ts2 (runF ts2 m) _ s)
  unfold bodyF
  dsimp only
  repeat' (first
      | (with_reducible exact Le.refl _)
      | exact Le.stuck _
      | exact Le.bad _ _ _
      | (refine Le.ite (fun _ => ?_) (fun _ => ?_))
      | (refine Le.bind (IH _ _ (by exact trivial)) (fun _ _ _ _ => ?_))
      | (exact IH _ _ (by exact trivial))
      | (refine le_sign H (fun _ _ => ?_))
      | (refine le_need H (by decide) (fun _ _ _ => ?_))
      | (refine le_enter H (by decide) (fun _ _ _ => ?_))
      | (refine le_take H (by decide) (by decide) (fun _ _ _ => ?_))
      | (refine le_shut H (by decide) (fun _ => ?_))
      | (refine le_leave (fun _ => ?_))
      | (refine le_add (fun _ _ => ?_))
      | (refine le_pos (fun _ => ?_))
      | (refine le_allow H ?_))

theorem le_q_unary {ts1 ts2 : List Tok} {k n m : Nat} (H : Like ts1 ts2 k) (IH : ∀ q s, OkB ts1 k q s → Le (runF ts1 n q s) (runF ts2 m q s)) (s : PS) : Le (runF ts1 (n + 1) .unary s) (runF ts2 (m + 1) .unary s) := by
  have _ := IH
  have _ := H
  show Le (bodyF ts1 (runF ts1 n) _ s) (bodyF ts2 (runF ts2 m) _ s)
  unfold bodyF
  dsimp only
  repeat' (first
      | (with_reducible exact Le.refl _)
      | exact Le.stuck _
      | exact Le.bad _ _ _
      | (refine Le.ite (fun _ => ?_) (fun _ => ?_))
      | (refine Le.bind (IH _ _ (by exact trivial)) (fun _ _ _ _ => ?_))
      | (exact IH _ _ (by exact trivial))
      | (refine le_sign H (fun _ _ => ?_))
      | (refine le_need H (by decide) (fun _ _ _ => ?_))
      | (refine le_enter H (by decide) (fun _ _ _ => ?_))
      | (refine le_take H (by decide) (by decide) (fun _ _ _ => ?_))
      | (refine le_shut H (by decide) (fun _ => ?_))
      | (refine le_leave (fun _ => ?_))
      | (refine le_add (fun _ _ => ?_))
      | (refine le_pos (fun _ => ?_))
      | (refine le_allow H ?_))

theorem le_q_primary {ts1 ts2 : List Tok} {k n m : Nat} (H : Like ts1 ts2 k) (IH : ∀ q s, OkB ts1 k q s → Le (runF ts1 n q s) (runF ts2 m q s)) (s : PS) : Le (runF ts1 (n + 1) .primary s) (runF ts2 (m + 1) .primary s) := by
  have _ := IH
  have _ := H
  show Le (bodyF ts1 (runF ts1 n) _ s) (bodyF ts2 (runF ts2 m) _ s)
  unfold bodyF
  dsimp only
  repeat' (first
      | (with_reducible exact Le.refl _)
      | exact Le.stuck _
      | exact Le.bad _ _ _
      | (refine Le.ite (fun _ => ?_) (fun _ => ?_))
      | (refine Le.bind (IH _ _ (by exact trivial)) (fun _ _ _ _ => ?_))
      | (exact IH _ _ (by exact trivial))
      | (refine le_sign H (fun _ _ => ?_))
      | (refine le_need H (by decide) (fun _ _ _ => ?_))
      | (refine le_enter H (by decide) (fun _ _ _ => ?_))
      | (refine le_take H (by decide) (by decide) (fun _ _ _ => ?_))
      | (refine le_shut H (by decide) (fun _ => ?_))
      | (refine le_leave (fun _ => ?_))
      | (refine le_add (fun _ _ => ?_))
      | (refine le_pos (fun _ => ?_))
      | (refine le_allow H ?_))

theorem le_q_primLoop {ts1 ts2 : List Tok} {k n m : Nat} (H : Like ts1 ts2 k) (IH : ∀ q s, OkB ts1 k q s → Le (runF ts1 n q s) (runF ts2 m q s)) (z : Int) (s : PS) : Le (runF ts1 (n + 1) (.primLoop z) s) (runF ts2 (m + 1) (.primLoop z) s) := by
  have _ := IH
  have _ := H
  show Le (bodyF ts1 (runF ts1 n) _ s) (bodyF ts2 (runF ts2 m) _ s)
  unfold bodyF
  dsimp only
  repeat' (first
      | (with_reducible exact Le.refl _)
      | exact Le.stuck _
      | exact Le.bad _ _ _
      | (refine Le.ite (fun _ => ?_) (fun _ => ?_))
      | (refine Le.bind (IH _ _ (by exact trivial)) (fun _ _ _ _ => ?_))
      | (exact IH _ _ (by exact trivial))
      | (refine le_sign H (fun _ _ => ?_))
      | (refine le_need H (by decide) (fun _ _ _ => ?_))
      | (refine le_enter H (by decide) (fun _ _ _ => ?_))
      | (refine le_take H (by decide) (by decide) (fun _ _ _ => ?_))
      | (refine le_shut H (by decide) (fun _ => ?_))
      | (refine le_leave (fun _ => ?_))
      | (refine le_add (fun _ _ => ?_))
      | (refine le_pos (fun _ => ?_))
      | (refine le_allow H ?_))

theorem le_q_def {ts1 ts2 : List Tok} {k n m : Nat} (H : Like ts1 ts2 k) (IH : ∀ q s, OkB ts1 k q s → Le (runF ts1 n q s) (runF ts2 m q s)) (s : PS) : Le (runF ts1 (n + 1) .def_ s) (runF ts2 (m + 1) .def_ s) := by
  have _ := IH
  have _ := H
  show Le (bodyF ts1 (runF ts1 n) _ s) (bodyF ts2 (runF ts2 m) _ s)
  unfold bodyF
  dsimp only
  repeat' (first
      | (with_reducible exact Le.refl _)
      | exact Le.stuck _
      | exact Le.bad _ _ _
      | (refine Le.ite (fun _ => ?_) (fun _ => ?_))
      | (refine Le.bind (IH _ _ (by exact trivial)) (fun _ _ _ _ => ?_))
      | (exact IH _ _ (by exact trivial))
      | (refine le_sign H (fun _ _ => ?_))
      | (refine le_need H (by decide) (fun _ _ _ => ?_))
      | (refine le_enter H (by decide) (fun _ _ _ => ?_))
      | (refine le_take H (by decide) (by decide) (fun _ _ _ => ?_))
      | (refine le_shut H (by decide) (fun _ => ?_))
      | (refine le_leave (fun _ => ?_))
      | (refine le_add (fun _ _ => ?_))
      | (refine le_pos (fun _ => ?_))
      | (refine le_allow H ?_))

theorem le_q_param {ts1 ts2 : List Tok} {k n m : Nat} (H : Like ts1 ts2 k) (IH : ∀ q s, OkB ts1 k q s → Le (runF ts1 n q s) (runF ts2 m q s)) (names : List (List UInt8)) (given : Bool) (s : PS) : Le (runF ts1 (n + 1) (.param names given) s) (runF ts2 (m + 1) (.param names given) s) := by
  have _ := IH
  have _ := H
  show Le (bodyF ts1 (runF ts1 n) _ s) (bodyF ts2 (runF ts2 m) _ s)
  unfold bodyF
  dsimp only
  repeat' (first
      | (with_reducible exact Le.refl _)
      | exact Le.stuck _
      | exact Le.bad _ _ _
      | (refine Le.ite (fun _ => ?_) (fun _ => ?_))
      | (refine Le.bind (IH _ _ (by exact trivial)) (fun _ _ _ _ => ?_))
      | (exact IH _ _ (by exact trivial))
      | (refine le_sign H (fun _ _ => ?_))
      | (refine le_need H (by decide) (fun _ _ _ => ?_))
      | (refine le_enter H (by decide) (fun _ _ _ => ?_))
      | (refine le_take H (by decide) (by decide) (fun _ _ _ => ?_))
      | (refine le_shut H (by decide) (fun _ => ?_))
      | (refine le_leave (fun _ => ?_))
      | (refine le_add (fun _ _ => ?_))
      | (refine le_pos (fun _ => ?_))
      | (refine le_allow H ?_))

theorem le_q_call {ts1 ts2 : List Tok} {k n m : Nat} (H : Like ts1 ts2 k) (IH : ∀ q s, OkB ts1 k q s → Le (runF ts1 n q s) (runF ts2 m q s)) (z : Int) (s : PS) : Le (runF ts1 (n + 1) (.call z) s) (runF ts2 (m + 1) (.call z) s) := by
  have _ := IH
  have _ := H
  show Le (bodyF ts1 (runF ts1 n) _ s) (bodyF ts2 (runF ts2 m) _ s)
  unfold bodyF
  dsimp only
  repeat' (first
      | (with_reducible exact Le.refl _)
      | exact Le.stuck _
      | exact Le.bad _ _ _
      | (refine Le.ite (fun _ => ?_) (fun _ => ?_))
      | (refine Le.bind (IH _ _ (by exact trivial)) (fun _ _ _ _ => ?_))
      | (exact IH _ _ (by exact trivial))
      | (refine le_sign H (fun _ _ => ?_))
      | (refine le_need H (by decide) (fun _ _ _ => ?_))
      | (refine le_enter H (by decide) (fun _ _ _ => ?_))
      | (refine le_take H (by decide) (by decide) (fun _ _ _ => ?_))
      | (refine le_shut H (by decide) (fun _ => ?_))
      | (refine le_leave (fun _ => ?_))
      | (refine le_add (fun _ _ => ?_))
      | (refine le_pos (fun _ => ?_))
      | (refine le_allow H ?_))

theorem le_q_dot {ts1 ts2 : List Tok} {k n m : Nat} (H : Like ts1 ts2 k) (IH : ∀ q s, OkB ts1 k q s → Le (runF ts1 n q s) (runF ts2 m q s)) (z : Int) (s : PS) : Le (runF ts1 (n + 1) (.dot z) s) (runF ts2 (m + 1) (.dot z) s) := by
  have _ := IH
  have _ := H
  show Le (bodyF ts1 (runF ts1 n) _ s) (bodyF ts2 (runF ts2 m) _ s)
  unfold bodyF
  dsimp only
  repeat' (first
      | (with_reducible exact Le.refl _)
      | exact Le.stuck _
      | exact Le.bad _ _ _
      | (refine Le.ite (fun _ => ?_) (fun _ => ?_))
      | (refine Le.bind (IH _ _ (by exact trivial)) (fun _ _ _ _ => ?_))
      | (exact IH _ _ (by exact trivial))
      | (refine le_sign H (fun _ _ => ?_))
      | (refine le_need H (by decide) (fun _ _ _ => ?_))
      | (refine le_enter H (by decide) (fun _ _ _ => ?_))
      | (refine le_take H (by decide) (by decide) (fun _ _ _ => ?_))
      | (refine le_shut H (by decide) (fun _ => ?_))
      | (refine le_leave (fun _ => ?_))
      | (refine le_add (fun _ _ => ?_))
      | (refine le_pos (fun _ => ?_))
      | (refine le_allow H ?_))

theorem le_q_index {ts1 ts2 : List Tok} {k n m : Nat} (H : Like ts1 ts2 k) (IH : ∀ q s, OkB ts1 k q s → Le (runF ts1 n q s) (runF ts2 m q s)) (z : Int) (s : PS) : Le (runF ts1 (n + 1) (.index z) s) (runF ts2 (m + 1) (.index z) s) := by
  have _ := IH
  have _ := H
  show Le (bodyF ts1 (runF ts1 n) _ s) (bodyF ts2 (runF ts2 m) _ s)
  unfold bodyF
  dsimp only
  repeat' (first
      | (with_reducible exact Le.refl _)
      | exact Le.stuck _
      | exact Le.bad _ _ _
      | (refine Le.ite (fun _ => ?_) (fun _ => ?_))
      | (refine Le.bind (IH _ _ (by exact trivial)) (fun _ _ _ _ => ?_))
      | (exact IH _ _ (by exact trivial))
      | (refine le_sign H (fun _ _ => ?_))
      | (refine le_need H (by decide) (fun _ _ _ => ?_))
      | (refine le_enter H (by decide) (fun _ _ _ => ?_))
      | (refine le_take H (by decide) (by decide) (fun _ _ _ => ?_))
      | (refine le_shut H (by decide) (fun _ => ?_))
      | (refine le_leave (fun _ => ?_))
      | (refine le_add (fun _ _ => ?_))
      | (refine le_pos (fun _ => ?_))
      | (refine le_allow H ?_))

theorem le_q_rounds {ts1 ts2 : List Tok} {k n m : Nat} (H : Like ts1 ts2 k) (IH : ∀ q s, OkB ts1 k q s → Le (runF ts1 n q s) (runF ts2 m q s)) (s : PS) : Le (runF ts1 (n + 1) .rounds s) (runF ts2 (m + 1) .rounds s) := by
  have _ := IH
  have _ := H
  show Le (bodyF ts1 (runF ts1 n) _ s) (bodyF ts2 (runF ts2 m) _ s)
  unfold bodyF
  dsimp only
  repeat' (first
      | (with_reducible exact Le.refl _)
      | exact Le.stuck _
      | exact Le.bad _ _ _
      | (refine Le.ite (fun _ => ?_) (fun _ => ?_))
      | (refine Le.bind (IH _ _ (by exact trivial)) (fun _ _ _ _ => ?_))
      | (exact IH _ _ (by exact trivial))
      | (refine le_sign H (fun _ _ => ?_))
      | (refine le_need H (by decide) (fun _ _ _ => ?_))
      | (refine le_enter H (by decide) (fun _ _ _ => ?_))
      | (refine le_take H (by decide) (by decide) (fun _ _ _ => ?_))
      | (refine le_shut H (by decide) (fun _ => ?_))
      | (refine le_leave (fun _ => ?_))
      | (refine le_add (fun _ _ => ?_))
      | (refine le_pos (fun _ => ?_))
      | (refine le_allow H ?_))

theorem le_q_dict {ts1 ts2 : List Tok} {k n m : Nat} (H : Like ts1 ts2 k) (IH : ∀ q s, OkB ts1 k q s → Le (runF ts1 n q s) (runF ts2 m q s)) (s : PS) : Le (runF ts1 (n + 1) .dict s) (runF ts2 (m + 1) .dict s) := by
  have _ := IH
  have _ := H
  show Le (bodyF ts1 (runF ts1 n) _ s) (bodyF ts2 (runF ts2 m) _ s)
  unfold bodyF
  dsimp only
  repeat' (first
      | (with_reducible exact Le.refl _)
      | exact Le.stuck _
      | exact Le.bad _ _ _
      | (refine Le.ite (fun _ => ?_) (fun _ => ?_))
      | (refine Le.bind (IH _ _ (by exact trivial)) (fun _ _ _ _ => ?_))
      | (exact IH _ _ (by exact trivial))
      | (refine le_sign H (fun _ _ => ?_))
      | (refine le_need H (by decide) (fun _ _ _ => ?_))
      | (refine le_enter H (by decide) (fun _ _ _ => ?_))
      | (refine le_take H (by decide) (by decide) (fun _ _ _ => ?_))
      | (refine le_shut H (by decide) (fun _ => ?_))
      | (refine le_leave (fun _ => ?_))
      | (refine le_add (fun _ _ => ?_))
      | (refine le_pos (fun _ => ?_))
      | (refine le_allow H ?_))

theorem le_q_pairs {ts1 ts2 : List Tok} {k n m : Nat} (H : Like ts1 ts2 k) (IH : ∀ q s, OkB ts1 k q s → Le (runF ts1 n q s) (runF ts2 m q s)) (zs : List Int) (s : PS) : Le (runF ts1 (n + 1) (.pairs zs) s) (runF ts2 (m + 1) (.pairs zs) s) := by
  have _ := IH
  have _ := H
  show Le (bodyF ts1 (runF ts1 n) _ s) (bodyF ts2 (runF ts2 m) _ s)
  unfold bodyF
  dsimp only
  repeat' (first
      | (with_reducible exact Le.refl _)
      | exact Le.stuck _
      | exact Le.bad _ _ _
      | (refine Le.ite (fun _ => ?_) (fun _ => ?_))
      | (refine Le.bind (IH _ _ (by exact trivial)) (fun _ _ _ _ => ?_))
      | (exact IH _ _ (by exact trivial))
      | (refine le_sign H (fun _ _ => ?_))
      | (refine le_need H (by decide) (fun _ _ _ => ?_))
      | (refine le_enter H (by decide) (fun _ _ _ => ?_))
      | (refine le_take H (by decide) (by decide) (fun _ _ _ => ?_))
      | (refine le_shut H (by decide) (fun _ => ?_))
      | (refine le_leave (fun _ => ?_))
      | (refine le_add (fun _ _ => ?_))
      | (refine le_pos (fun _ => ?_))
      | (refine le_allow H ?_))

theorem le_q_pair {ts1 ts2 : List Tok} {k n m : Nat} (H : Like ts1 ts2 k) (IH : ∀ q s, OkB ts1 k q s → Le (runF ts1 n q s) (runF ts2 m q s)) (zs : List Int) (s : PS) : Le (runF ts1 (n + 1) (.pair zs) s) (runF ts2 (m + 1) (.pair zs) s) := by
  have _ := IH
  have _ := H
  show Le (bodyF ts1 (runF ts1 n) _ s) (bodyF ts2 (runF ts2 m) _ s)
  unfold bodyF
  dsimp only
  repeat' (first
      | (with_reducible exact Le.refl _)
      | exact Le.stuck _
      | exact Le.bad _ _ _
      | (refine Le.ite (fun _ => ?_) (fun _ => ?_))
      | (refine Le.bind (IH _ _ (by exact trivial)) (fun _ _ _ _ => ?_))
      | (exact IH _ _ (by exact trivial))
      | (refine le_sign H (fun _ _ => ?_))
      | (refine le_need H (by decide) (fun _ _ _ => ?_))
      | (refine le_enter H (by decide) (fun _ _ _ => ?_))
      | (refine le_take H (by decide) (by decide) (fun _ _ _ => ?_))
      | (refine le_shut H (by decide) (fun _ => ?_))
      | (refine le_leave (fun _ => ?_))
      | (refine le_add (fun _ _ => ?_))
      | (refine le_pos (fun _ => ?_))
      | (refine le_allow H ?_))

theorem le_q_statement {ts1 ts2 : List Tok} {k n m : Nat} (H : Like ts1 ts2 k) (IH : ∀ q s, OkB ts1 k q s → Le (runF ts1 n q s) (runF ts2 m q s)) (p : Pl) (s : PS) : Le (runF ts1 (n + 1) (.statement p) s) (runF ts2 (m + 1) (.statement p) s) := by
  have _ := IH
  have _ := H
  show Le (bodyF ts1 (runF ts1 n) _ s) (bodyF ts2 (runF ts2 m) _ s)
  unfold bodyF
  dsimp only
  repeat' (first
      | (with_reducible exact Le.refl _)
      | exact Le.stuck _
      | exact Le.bad _ _ _
      | (refine Le.ite (fun _ => ?_) (fun _ => ?_))
      | (refine Le.bind (IH _ _ (by exact trivial)) (fun _ _ _ _ => ?_))
      | (exact IH _ _ (by exact trivial))
      | (refine le_sign H (fun _ _ => ?_))
      | (refine le_need H (by decide) (fun _ _ _ => ?_))
      | (refine le_enter H (by decide) (fun _ _ _ => ?_))
      | (refine le_take H (by decide) (by decide) (fun _ _ _ => ?_))
      | (refine le_shut H (by decide) (fun _ => ?_))
      | (refine le_leave (fun _ => ?_))
      | (refine le_add (fun _ _ => ?_))
      | (refine le_pos (fun _ => ?_))
      | (refine le_allow H ?_))

theorem le_q_line {ts1 ts2 : List Tok} {k n m : Nat} (H : Like ts1 ts2 k) (IH : ∀ q s, OkB ts1 k q s → Le (runF ts1 n q s) (runF ts2 m q s)) (p : Pl) (s : PS) : Le (runF ts1 (n + 1) (.line p) s) (runF ts2 (m + 1) (.line p) s) := by
  have _ := IH
  have _ := H
  show Le (bodyF ts1 (runF ts1 n) _ s) (bodyF ts2 (runF ts2 m) _ s)
  unfold bodyF
  dsimp only
  repeat' (first
      | (with_reducible exact Le.refl _)
      | exact Le.stuck _
      | exact Le.bad _ _ _
      | (refine Le.ite (fun _ => ?_) (fun _ => ?_))
      | (refine Le.bind (IH _ _ (by exact trivial)) (fun _ _ _ _ => ?_))
      | (exact IH _ _ (by exact trivial))
      | (refine le_sign H (fun _ _ => ?_))
      | (refine le_need H (by decide) (fun _ _ _ => ?_))
      | (refine le_enter H (by decide) (fun _ _ _ => ?_))
      | (refine le_take H (by decide) (by decide) (fun _ _ _ => ?_))
      | (refine le_shut H (by decide) (fun _ => ?_))
      | (refine le_leave (fun _ => ?_))
      | (refine le_add (fun _ _ => ?_))
      | (refine le_pos (fun _ => ?_))
      | (refine le_allow H ?_))

theorem le_q_load {ts1 ts2 : List Tok} {k n m : Nat} (H : Like ts1 ts2 k) (IH : ∀ q s, OkB ts1 k q s → Le (runF ts1 n q s) (runF ts2 m q s)) (s : PS) : Le (runF ts1 (n + 1) .load s) (runF ts2 (m + 1) .load s) := by
  have _ := IH
  have _ := H
  show Le (bodyF ts1 (runF ts1 n) _ s) (bodyF ts2 (runF ts2 m) _ s)
  unfold bodyF
  dsimp only
  repeat' (first
      | (with_reducible exact Le.refl _)
      | exact Le.stuck _
      | exact Le.bad _ _ _
      | (refine Le.ite (fun _ => ?_) (fun _ => ?_))
      | (refine Le.bind (IH _ _ (by exact trivial)) (fun _ _ _ _ => ?_))
      | (exact IH _ _ (by exact trivial))
      | (refine le_sign H (fun _ _ => ?_))
      | (refine le_need H (by decide) (fun _ _ _ => ?_))
      | (refine le_enter H (by decide) (fun _ _ _ => ?_))
      | (refine le_take H (by decide) (by decide) (fun _ _ _ => ?_))
      | (refine le_shut H (by decide) (fun _ => ?_))
      | (refine le_leave (fun _ => ?_))
      | (refine le_add (fun _ _ => ?_))
      | (refine le_pos (fun _ => ?_))
      | (refine le_allow H ?_))

theorem le_q_loadLoop {ts1 ts2 : List Tok} {k n m : Nat} (H : Like ts1 ts2 k) (IH : ∀ q s, OkB ts1 k q s → Le (runF ts1 n q s) (runF ts2 m q s)) (zs : List Int) (s : PS) : Le (runF ts1 (n + 1) (.loadLoop zs) s) (runF ts2 (m + 1) (.loadLoop zs) s) := by
  have _ := IH
  have _ := H
  show Le (bodyF ts1 (runF ts1 n) _ s) (bodyF ts2 (runF ts2 m) _ s)
  unfold bodyF
  dsimp only
  repeat' (first
      | (with_reducible exact Le.refl _)
      | exact Le.stuck _
      | exact Le.bad _ _ _
      | (refine Le.ite (fun _ => ?_) (fun _ => ?_))
      | (refine Le.bind (IH _ _ (by exact trivial)) (fun _ _ _ _ => ?_))
      | (exact IH _ _ (by exact trivial))
      | (refine le_sign H (fun _ _ => ?_))
      | (refine le_need H (by decide) (fun _ _ _ => ?_))
      | (refine le_enter H (by decide) (fun _ _ _ => ?_))
      | (refine le_take H (by decide) (by decide) (fun _ _ _ => ?_))
      | (refine le_shut H (by decide) (fun _ => ?_))
      | (refine le_leave (fun _ => ?_))
      | (refine le_add (fun _ _ => ?_))
      | (refine le_pos (fun _ => ?_))
      | (refine le_allow H ?_))

theorem le_q_cond {ts1 ts2 : List Tok} {k n m : Nat} (H : Like ts1 ts2 k) (IH : ∀ q s, OkB ts1 k q s → Le (runF ts1 n q s) (runF ts2 m q s)) (pos : Int) (p : Pl) (s : PS) : Le (runF ts1 (n + 1) (.cond pos p) s) (runF ts2 (m + 1) (.cond pos p) s) := by
  have _ := IH
  have _ := H
  show Le (bodyF ts1 (runF ts1 n) _ s) (bodyF ts2 (runF ts2 m) _ s)
  unfold bodyF
  dsimp only
  repeat' (first
      | (with_reducible exact Le.refl _)
      | exact Le.stuck _
      | exact Le.bad _ _ _
      | (refine Le.ite (fun _ => ?_) (fun _ => ?_))
      | (refine Le.bind (IH _ _ (by exact trivial)) (fun _ _ _ _ => ?_))
      | (exact IH _ _ (by exact trivial))
      | (refine le_sign H (fun _ _ => ?_))
      | (refine le_need H (by decide) (fun _ _ _ => ?_))
      | (refine le_enter H (by decide) (fun _ _ _ => ?_))
      | (refine le_take H (by decide) (by decide) (fun _ _ _ => ?_))
      | (refine le_shut H (by decide) (fun _ => ?_))
      | (refine le_leave (fun _ => ?_))
      | (refine le_add (fun _ _ => ?_))
      | (refine le_pos (fun _ => ?_))
      | (refine le_allow H ?_))

theorem le_q_elif {ts1 ts2 : List Tok} {k n m : Nat} (H : Like ts1 ts2 k) (IH : ∀ q s, OkB ts1 k q s → Le (runF ts1 n q s) (runF ts2 m q s)) (p : Pl) (s : PS) : Le (runF ts1 (n + 1) (.elif p) s) (runF ts2 (m + 1) (.elif p) s) := by
  have _ := IH
  have _ := H
  show Le (bodyF ts1 (runF ts1 n) _ s) (bodyF ts2 (runF ts2 m) _ s)
  unfold bodyF
  dsimp only
  repeat' (first
      | (with_reducible exact Le.refl _)
      | exact Le.stuck _
      | exact Le.bad _ _ _
      | (refine Le.ite (fun _ => ?_) (fun _ => ?_))
      | (refine Le.bind (IH _ _ (by exact trivial)) (fun _ _ _ _ => ?_))
      | (exact IH _ _ (by exact trivial))
      | (refine le_sign H (fun _ _ => ?_))
      | (refine le_need H (by decide) (fun _ _ _ => ?_))
      | (refine le_enter H (by decide) (fun _ _ _ => ?_))
      | (refine le_take H (by decide) (by decide) (fun _ _ _ => ?_))
      | (refine le_shut H (by decide) (fun _ => ?_))
      | (refine le_leave (fun _ => ?_))
      | (refine le_add (fun _ _ => ?_))
      | (refine le_pos (fun _ => ?_))
      | (refine le_allow H ?_))

theorem le_q_loop {ts1 ts2 : List Tok} {k n m : Nat} (H : Like ts1 ts2 k) (IH : ∀ q s, OkB ts1 k q s → Le (runF ts1 n q s) (runF ts2 m q s)) (p : Pl) (s : PS) : Le (runF ts1 (n + 1) (.loop p) s) (runF ts2 (m + 1) (.loop p) s) := by
  have _ := IH
  have _ := H
  show Le (bodyF ts1 (runF ts1 n) _ s) (bodyF ts2 (runF ts2 m) _ s)
  unfold bodyF
  dsimp only
  repeat' (first
      | (with_reducible exact Le.refl _)
      | exact Le.stuck _
      | exact Le.bad _ _ _
      | (refine Le.ite (fun _ => ?_) (fun _ => ?_))
      | (refine Le.bind (IH _ _ (by exact trivial)) (fun _ _ _ _ => ?_))
      | (exact IH _ _ (by exact trivial))
      | (refine le_sign H (fun _ _ => ?_))
      | (refine le_need H (by decide) (fun _ _ _ => ?_))
      | (refine le_enter H (by decide) (fun _ _ _ => ?_))
      | (refine le_take H (by decide) (by decide) (fun _ _ _ => ?_))
      | (refine le_shut H (by decide) (fun _ => ?_))
      | (refine le_leave (fun _ => ?_))
      | (refine le_add (fun _ _ => ?_))
      | (refine le_pos (fun _ => ?_))
      | (refine le_allow H ?_))

theorem le_q_lines {ts1 ts2 : List Tok} {k n m : Nat} (H : Like ts1 ts2 k) (IH : ∀ q s, OkB ts1 k q s → Le (runF ts1 n q s) (runF ts2 m q s)) (p : Pl) (s : PS) : Le (runF ts1 (n + 1) (.lines p) s) (runF ts2 (m + 1) (.lines p) s) := by
  have _ := IH
  have _ := H
  show Le (bodyF ts1 (runF ts1 n) _ s) (bodyF ts2 (runF ts2 m) _ s)
  unfold bodyF
  dsimp only
  repeat' (first
      | (with_reducible exact Le.refl _)
      | exact Le.stuck _
      | exact Le.bad _ _ _
      | (refine Le.ite (fun _ => ?_) (fun _ => ?_))
      | (refine Le.bind (IH _ _ (by exact trivial)) (fun _ _ _ _ => ?_))
      | (exact IH _ _ (by exact trivial))
      | (refine le_sign H (fun _ _ => ?_))
      | (refine le_need H (by decide) (fun _ _ _ => ?_))
      | (refine le_enter H (by decide) (fun _ _ _ => ?_))
      | (refine le_take H (by decide) (by decide) (fun _ _ _ => ?_))
      | (refine le_shut H (by decide) (fun _ => ?_))
      | (refine le_leave (fun _ => ?_))
      | (refine le_add (fun _ _ => ?_))
      | (refine le_pos (fun _ => ?_))
      | (refine le_allow H ?_))

theorem le_q_bin {ts1 ts2 : List Tok} {k n m : Nat} (H : Like ts1 ts2 k) (IH : ∀ q s, OkB ts1 k q s → Le (runF ts1 n q s) (runF ts2 m q s)) (i : Nat) (s : PS) : Le (runF ts1 (n + 1) (.bin i) s) (runF ts2 (m + 1) (.bin i) s) := by
  have _ := IH
  have _ := H
  show Le (bodyF ts1 (runF ts1 n) _ s) (bodyF ts2 (runF ts2 m) _ s)
  unfold bodyF
  dsimp only
  exact Le.bind (IH _ _ (ok_part _ _ _ _)) (fun _ _ _ _ => IH _ _ (by exact trivial))

theorem le_q_binLoop {ts1 ts2 : List Tok} {k n m : Nat} (H : Like ts1 ts2 k) (IH : ∀ q s, OkB ts1 k q s → Le (runF ts1 n q s) (runF ts2 m q s)) (i : Nat) (z : Int) (s : PS) : Le (runF ts1 (n + 1) (.binLoop i z) s) (runF ts2 (m + 1) (.binLoop i z) s) := by
  have _ := IH
  have _ := H
  show Le (bodyF ts1 (runF ts1 n) _ s) (bodyF ts2 (runF ts2 m) _ s)
  unfold bodyF
  dsimp only
  refine le_sign H (fun t ht => Le.ite (fun _ => Le.refl _) (fun hl => ?_))
  have e0 : sg t ≠ [] := by exact opF_ne hl
  refine le_nextS H ht (by have := sg_kind e0; omega) (by have := sg_kind e0; omega) ?_
  refine Le.bind (IH _ _ (ok_part _ _ _ _)) (fun _ _ _ _ => ?_)
  repeat' (first
      | (with_reducible exact Le.refl _)
      | exact Le.stuck _
      | exact Le.bad _ _ _
      | (refine Le.ite (fun _ => ?_) (fun _ => ?_))
      | (refine Le.bind (IH _ _ (by exact trivial)) (fun _ _ _ _ => ?_))
      | (exact IH _ _ (by exact trivial))
      | (refine le_sign H (fun _ _ => ?_))
      | (refine le_need H (by decide) (fun _ _ _ => ?_))
      | (refine le_enter H (by decide) (fun _ _ _ => ?_))
      | (refine le_take H (by decide) (by decide) (fun _ _ _ => ?_))
      | (refine le_shut H (by decide) (fun _ => ?_))
      | (refine le_leave (fun _ => ?_))
      | (refine le_add (fun _ _ => ?_))
      | (refine le_pos (fun _ => ?_))
      | (refine le_allow H ?_))

theorem le_q_ahead {ts1 ts2 : List Tok} {k n m : Nat} (H : Like ts1 ts2 k) (IH : ∀ q s, OkB ts1 k q s → Le (runF ts1 n q s) (runF ts2 m q s)) (i : Nat) (s : PS) : Le (runF ts1 (n + 1) (.ahead i) s) (runF ts2 (m + 1) (.ahead i) s) := by
  have _ := IH
  have _ := H
  show Le (bodyF ts1 (runF ts1 n) _ s) (bodyF ts2 (runF ts2 m) _ s)
  unfold bodyF
  dsimp only
  refine le_enter H (by split <;> decide) (fun _ _ _ => Le.bind (IH _ _ (by split <;> exact trivial)) (fun _ _ _ _ => ?_))
  repeat' (first
      | (with_reducible exact Le.refl _)
      | exact Le.stuck _
      | exact Le.bad _ _ _
      | (refine Le.ite (fun _ => ?_) (fun _ => ?_))
      | (refine Le.bind (IH _ _ (by exact trivial)) (fun _ _ _ _ => ?_))
      | (exact IH _ _ (by exact trivial))
      | (refine le_sign H (fun _ _ => ?_))
      | (refine le_need H (by decide) (fun _ _ _ => ?_))
      | (refine le_enter H (by decide) (fun _ _ _ => ?_))
      | (refine le_take H (by decide) (by decide) (fun _ _ _ => ?_))
      | (refine le_shut H (by decide) (fun _ => ?_))
      | (refine le_leave (fun _ => ?_))
      | (refine le_add (fun _ _ => ?_))
      | (refine le_pos (fun _ => ?_))
      | (refine le_allow H ?_))

theorem le_q_compare {ts1 ts2 : List Tok} {k n m : Nat} (H : Like ts1 ts2 k) (IH : ∀ q s, OkB ts1 k q s → Le (runF ts1 n q s) (runF ts2 m q s)) (s : PS) : Le (runF ts1 (n + 1) .compare s) (runF ts2 (m + 1) .compare s) := by
  have _ := IH
  have _ := H
  show Le (bodyF ts1 (runF ts1 n) _ s) (bodyF ts2 (runF ts2 m) _ s)
  unfold bodyF
  dsimp only
  refine Le.bind (IH _ _ (by exact trivial)) (fun _ _ _ _ => le_sign H (fun t ht => Le.ite (fun _ => Le.refl _) (fun hl => ?_)))
  have e0 : sg t ≠ [] := by exact cmpOp_ne hl
  refine le_nextS H ht (by have := sg_kind e0; omega) (by have := sg_kind e0; omega) ?_
  repeat' (first
      | (with_reducible exact Le.refl _)
      | exact Le.stuck _
      | exact Le.bad _ _ _
      | (refine Le.ite (fun _ => ?_) (fun _ => ?_))
      | (refine Le.bind (IH _ _ (by exact trivial)) (fun _ _ _ _ => ?_))
      | (exact IH _ _ (by exact trivial))
      | (refine le_sign H (fun _ _ => ?_))
      | (refine le_need H (by decide) (fun _ _ _ => ?_))
      | (refine le_enter H (by decide) (fun _ _ _ => ?_))
      | (refine le_take H (by decide) (by decide) (fun _ _ _ => ?_))
      | (refine le_shut H (by decide) (fun _ => ?_))
      | (refine le_leave (fun _ => ?_))
      | (refine le_add (fun _ _ => ?_))
      | (refine le_pos (fun _ => ?_))
      | (refine le_allow H ?_))

theorem le_q_atom {ts1 ts2 : List Tok} {k n m : Nat} (H : Like ts1 ts2 k) (IH : ∀ q s, OkB ts1 k q s → Le (runF ts1 n q s) (runF ts2 m q s)) (s : PS) : Le (runF ts1 (n + 1) .atom s) (runF ts2 (m + 1) .atom s) := by
  have _ := IH
  have _ := H
  show Le (bodyF ts1 (runF ts1 n) _ s) (bodyF ts2 (runF ts2 m) _ s)
  unfold bodyF
  dsimp only
  refine le_kind H (fun t ht h8 => ?_) (fun t ht h8 => ?_)
  · refine Le.ite (fun h1 => ?_) (fun h1 => Le.ite (fun h2 => ?_) (fun h2 => Le.ite (fun h3 => ?_) (fun h3 => ?_)))
    · unfold leafF; exact le_nextS H ht (by omega) h8 (Le.refl _)
    · unfold leafF; exact le_nextS H ht (by omega) h8 (Le.refl _)
    · exact IH _ _ ⟨t, ht, h3⟩
    · refine le_sign H (fun t ht => ?_)
      refine Le.ite (fun g => (by unfold wordF; exact le_nextS H ht (by have := sg_kind (t := t) (by rw [g]; decide); omega) (by have := sg_kind (t := t) (by rw [g]; decide); omega) (Le.refl _))) (fun _ => Le.ite (fun g => (by unfold wordF; exact le_nextS H ht (by have := sg_kind (t := t) (by rw [g]; decide); omega) (by have := sg_kind (t := t) (by rw [g]; decide); omega) (Le.refl _))) (fun _ => Le.ite (fun g => (by unfold wordF; exact le_nextS H ht (by have := sg_kind (t := t) (by rw [g]; decide); omega) (by have := sg_kind (t := t) (by rw [g]; decide); omega) (Le.refl _))) (fun _ => ?_)))
      repeat' (first
          | (with_reducible exact Le.refl _)
          | exact Le.stuck _
          | exact Le.bad _ _ _
          | (refine Le.ite (fun _ => ?_) (fun _ => ?_))
          | (refine Le.bind (IH _ _ (by exact trivial)) (fun _ _ _ _ => ?_))
          | (exact IH _ _ (by exact trivial))
          | (refine le_sign H (fun _ _ => ?_))
          | (refine le_need H (by decide) (fun _ _ _ => ?_))
          | (refine le_enter H (by decide) (fun _ _ _ => ?_))
          | (refine le_take H (by decide) (by decide) (fun _ _ _ => ?_))
          | (refine le_shut H (by decide) (fun _ => ?_))
          | (refine le_leave (fun _ => ?_))
          | (refine le_add (fun _ _ => ?_))
          | (refine le_pos (fun _ => ?_))
          | (refine le_allow H ?_))
  · refine No.le ?_ _
    rw [if_neg (by decide), if_neg (by decide), if_neg (by decide)]
    refine no_sign ⟨t, ht, .inr h8⟩ ?_
    rw [if_neg (by decide), if_neg (by decide), if_neg (by decide), if_neg (by decide), if_neg (by decide), if_neg (by decide)]
    unfold allowF
    rw [ht]; exact No.bad _ _

theorem le_q_row {ts1 ts2 : List Tok} {k n m : Nat} (H : Like ts1 ts2 k) (IH : ∀ q s, OkB ts1 k q s → Le (runF ts1 n q s) (runF ts2 m q s)) (i : Nat) (s : PS) : Le (runF ts1 (n + 1) (.row i) s) (runF ts2 (m + 1) (.row i) s) := by
  have _ := IH
  have _ := H
  show Le (bodyF ts1 (runF ts1 n) _ s) (bodyF ts2 (runF ts2 m) _ s)
  unfold bodyF
  dsimp only
  exact Le.bind (IH _ _ (ok_rowP _ _ _ _)) (fun _ _ _ _ => IH _ _ (by exact trivial))

theorem le_q_rowLoop {ts1 ts2 : List Tok} {k n m : Nat} (H : Like ts1 ts2 k) (IH : ∀ q s, OkB ts1 k q s → Le (runF ts1 n q s) (runF ts2 m q s)) (i : Nat) (zs : List Int) (c : Bool) (s : PS) : Le (runF ts1 (n + 1) (.rowLoop i zs c) s) (runF ts2 (m + 1) (.rowLoop i zs c) s) := by
  have _ := IH
  have _ := H
  show Le (bodyF ts1 (runF ts1 n) _ s) (bodyF ts2 (runF ts2 m) _ s)
  unfold bodyF
  dsimp only
  refine le_sign H (fun t ht => Le.ite (fun hl => ?_) (fun _ => Le.refl _))
  refine le_rowB H i (H.sign _ t ht (by rw [hl]; decide)) (fun b => Le.ite (fun _ => ?_) (fun _ => Le.refl _))
  refine Le.bind (IH _ _ (ok_rowP _ _ _ _)) (fun _ _ _ _ => ?_)
  repeat' (first
      | (with_reducible exact Le.refl _)
      | exact Le.stuck _
      | exact Le.bad _ _ _
      | (refine Le.ite (fun _ => ?_) (fun _ => ?_))
      | (refine Le.bind (IH _ _ (by exact trivial)) (fun _ _ _ _ => ?_))
      | (exact IH _ _ (by exact trivial))
      | (refine le_sign H (fun _ _ => ?_))
      | (refine le_need H (by decide) (fun _ _ _ => ?_))
      | (refine le_enter H (by decide) (fun _ _ _ => ?_))
      | (refine le_take H (by decide) (by decide) (fun _ _ _ => ?_))
      | (refine le_shut H (by decide) (fun _ => ?_))
      | (refine le_leave (fun _ => ?_))
      | (refine le_add (fun _ _ => ?_))
      | (refine le_pos (fun _ => ?_))
      | (refine le_allow H ?_))

theorem le_q_orNone {ts1 ts2 : List Tok} {k n m : Nat} (H : Like ts1 ts2 k) (IH : ∀ q s, OkB ts1 k q s → Le (runF ts1 n q s) (runF ts2 m q s)) (s : PS) (hs : s.at_ ≠ k) : Le (runF ts1 (n + 1) .orNone s) (runF ts2 (m + 1) .orNone s) := by
  have _ := IH
  have _ := H
  show Le (bodyF ts1 (runF ts1 n) _ s) (bodyF ts2 (runF ts2 m) _ s)
  unfold bodyF
  dsimp only
  refine le_begins H hs (fun b => ?_)
  repeat' (first
      | (with_reducible exact Le.refl _)
      | exact Le.stuck _
      | exact Le.bad _ _ _
      | (refine Le.ite (fun _ => ?_) (fun _ => ?_))
      | (refine Le.bind (IH _ _ (by exact trivial)) (fun _ _ _ _ => ?_))
      | (exact IH _ _ (by exact trivial))
      | (refine le_sign H (fun _ _ => ?_))
      | (refine le_need H (by decide) (fun _ _ _ => ?_))
      | (refine le_enter H (by decide) (fun _ _ _ => ?_))
      | (refine le_take H (by decide) (by decide) (fun _ _ _ => ?_))
      | (refine le_shut H (by decide) (fun _ => ?_))
      | (refine le_leave (fun _ => ?_))
      | (refine le_add (fun _ _ => ?_))
      | (refine le_pos (fun _ => ?_))
      | (refine le_allow H ?_))

theorem le_q_bare {ts1 ts2 : List Tok} {k n m : Nat} (H : Like ts1 ts2 k) (IH : ∀ q s, OkB ts1 k q s → Le (runF ts1 n q s) (runF ts2 m q s)) (i : Nat) (s : PS) : Le (runF ts1 (n + 1) (.bare i) s) (runF ts2 (m + 1) (.bare i) s) := by
  have _ := IH
  have _ := H
  show Le (bodyF ts1 (runF ts1 n) _ s) (bodyF ts2 (runF ts2 m) _ s)
  unfold bodyF
  dsimp only
  refine le_next H (fun t _ _ _ => ?_) (fun t ht hk => (dead ⟨t, ht, hk⟩ n _ rfl).bind _)
  repeat' (first
      | (with_reducible exact Le.refl _)
      | exact Le.stuck _
      | exact Le.bad _ _ _
      | (refine Le.ite (fun _ => ?_) (fun _ => ?_))
      | (refine Le.bind (IH _ _ (by exact trivial)) (fun _ _ _ _ => ?_))
      | (exact IH _ _ (by exact trivial))
      | (refine le_sign H (fun _ _ => ?_))
      | (refine le_need H (by decide) (fun _ _ _ => ?_))
      | (refine le_enter H (by decide) (fun _ _ _ => ?_))
      | (refine le_take H (by decide) (by decide) (fun _ _ _ => ?_))
      | (refine le_shut H (by decide) (fun _ => ?_))
      | (refine le_leave (fun _ => ?_))
      | (refine le_add (fun _ _ => ?_))
      | (refine le_pos (fun _ => ?_))
      | (refine le_allow H ?_))

theorem le_q_round {ts1 ts2 : List Tok} {k n m : Nat} (H : Like ts1 ts2 k) (IH : ∀ q s, OkB ts1 k q s → Le (runF ts1 n q s) (runF ts2 m q s)) (i : Nat) (s : PS) : Le (runF ts1 (n + 1) (.round i) s) (runF ts2 (m + 1) (.round i) s) := by
  have _ := IH
  have _ := H
  show Le (bodyF ts1 (runF ts1 n) _ s) (bodyF ts2 (runF ts2 m) _ s)
  unfold bodyF
  dsimp only
  refine le_enter H (by decide) (fun _ s2 hs2 => Le.bind (IH _ _ (by split; exact hs2; exact trivial)) (fun _ _ _ _ => ?_))
  repeat' (first
      | (with_reducible exact Le.refl _)
      | exact Le.stuck _
      | exact Le.bad _ _ _
      | (refine Le.ite (fun _ => ?_) (fun _ => ?_))
      | (refine Le.bind (IH _ _ (by exact trivial)) (fun _ _ _ _ => ?_))
      | (exact IH _ _ (by exact trivial))
      | (refine le_sign H (fun _ _ => ?_))
      | (refine le_need H (by decide) (fun _ _ _ => ?_))
      | (refine le_enter H (by decide) (fun _ _ _ => ?_))
      | (refine le_take H (by decide) (by decide) (fun _ _ _ => ?_))
      | (refine le_shut H (by decide) (fun _ => ?_))
      | (refine le_leave (fun _ => ?_))
      | (refine le_add (fun _ _ => ?_))
      | (refine le_pos (fun _ => ?_))
      | (refine le_allow H ?_))

theorem le_q_target {ts1 ts2 : List Tok} {k n m : Nat} (H : Like ts1 ts2 k) (IH : ∀ q s, OkB ts1 k q s → Le (runF ts1 n q s) (runF ts2 m q s)) (s : PS) : Le (runF ts1 (n + 1) .target s) (runF ts2 (m + 1) .target s) := by
  have _ := IH
  have _ := H
  show Le (bodyF ts1 (runF ts1 n) _ s) (bodyF ts2 (runF ts2 m) _ s)
  unfold bodyF
  dsimp only
  refine le_sign H (fun t ht => Le.ite (fun _ => IH _ _ (by exact trivial)) (fun hl => ?_))
  refine le_next H (fun u hu h7 h8 => Le.ite (fun _ => Le.bind (IH _ _ (by exact trivial)) (fun z _ _ s2 => ?_)) (fun _ => Le.bad _ _ _)) (fun u hu hk => ?_)
  · cases targetF (s2.nodes.length + 1) s2.nodes z with
    | none => exact Le.stuck _
    | some b => exact Le.refl _
  · obtain ⟨k0, k1, _, _⟩ := Dead.sg ⟨u, hu, hk⟩ hu
    rw [if_neg (by unfold tBegins; rw [k0]; simp [k1])]
    exact No.bad _ _

theorem le_q_params {ts1 ts2 : List Tok} {k n m : Nat} (H : Like ts1 ts2 k) (IH : ∀ q s, OkB ts1 k q s → Le (runF ts1 n q s) (runF ts2 m q s)) (zs : List Int) (names : List (List UInt8)) (given : Bool) (s : PS) : Le (runF ts1 (n + 1) (.params zs names given) s) (runF ts2 (m + 1) (.params zs names given) s) := by
  have _ := IH
  have _ := H
  show Le (bodyF ts1 (runF ts1 n) _ s) (bodyF ts2 (runF ts2 m) _ s)
  unfold bodyF
  dsimp only
  refine le_sign H (fun _ _ => Le.ite (fun _ => Le.refl _) (fun _ => ?_))
  refine le_next H (fun t _ _ _ => ?_) (fun t ht hk => (dead ⟨t, ht, hk⟩ n _ rfl).bind _)
  repeat' (first
      | (with_reducible exact Le.refl _)
      | exact Le.stuck _
      | exact Le.bad _ _ _
      | (refine Le.ite (fun _ => ?_) (fun _ => ?_))
      | (refine Le.bind (IH _ _ (by exact trivial)) (fun _ _ _ _ => ?_))
      | (exact IH _ _ (by exact trivial))
      | (refine le_sign H (fun _ _ => ?_))
      | (refine le_need H (by decide) (fun _ _ _ => ?_))
      | (refine le_enter H (by decide) (fun _ _ _ => ?_))
      | (refine le_take H (by decide) (by decide) (fun _ _ _ => ?_))
      | (refine le_shut H (by decide) (fun _ => ?_))
      | (refine le_leave (fun _ => ?_))
      | (refine le_add (fun _ _ => ?_))
      | (refine le_pos (fun _ => ?_))
      | (refine le_allow H ?_))

theorem le_q_args {ts1 ts2 : List Tok} {k n m : Nat} (H : Like ts1 ts2 k) (IH : ∀ q s, OkB ts1 k q s → Le (runF ts1 n q s) (runF ts2 m q s)) (zs : List Int) (names : List (List UInt8)) (s : PS) : Le (runF ts1 (n + 1) (.args zs names) s) (runF ts2 (m + 1) (.args zs names) s) := by
  have _ := IH
  have _ := H
  show Le (bodyF ts1 (runF ts1 n) _ s) (bodyF ts2 (runF ts2 m) _ s)
  unfold bodyF
  dsimp only
  refine le_sign H (fun _ _ => Le.ite (fun _ => Le.refl _) (fun _ => ?_))
  refine le_next H (fun t _ _ _ => ?_) (fun t ht hk => (dead ⟨t, ht, hk⟩ n _ rfl).bind _)
  repeat' (first
      | (with_reducible exact Le.refl _)
      | exact Le.stuck _
      | exact Le.bad _ _ _
      | (refine Le.ite (fun _ => ?_) (fun _ => ?_))
      | (refine Le.bind (IH _ _ (by exact trivial)) (fun _ _ _ _ => ?_))
      | (exact IH _ _ (by exact trivial))
      | (refine le_sign H (fun _ _ => ?_))
      | (refine le_need H (by decide) (fun _ _ _ => ?_))
      | (refine le_enter H (by decide) (fun _ _ _ => ?_))
      | (refine le_take H (by decide) (by decide) (fun _ _ _ => ?_))
      | (refine le_shut H (by decide) (fun _ => ?_))
      | (refine le_leave (fun _ => ?_))
      | (refine le_add (fun _ _ => ?_))
      | (refine le_pos (fun _ => ?_))
      | (refine le_allow H ?_))

theorem le_q_argument {ts1 ts2 : List Tok} {k n m : Nat} (H : Like ts1 ts2 k) (IH : ∀ q s, OkB ts1 k q s → Le (runF ts1 n q s) (runF ts2 m q s)) (names : List (List UInt8)) (s : PS) : Le (runF ts1 (n + 1) (.argument names) s) (runF ts2 (m + 1) (.argument names) s) := by
  have _ := IH
  have _ := H
  show Le (bodyF ts1 (runF ts1 n) _ s) (bodyF ts2 (runF ts2 m) _ s)
  unfold bodyF
  dsimp only
  refine le_next H (fun t ht h7 h8 => ?_) (fun t ht hk => ?_)
  · refine Le.ite (fun h1 => ?_) (fun _ => ?_)
    · cases h2 : ts1[s.at_ + 1]? with
      | none => exact Le.stuck _
      | some u =>
        obtain ⟨u', g1, g2, _⟩ := H.cases h2
        rw [g1]
        dsimp only
        rw [← g2]
        repeat' (first
            | (with_reducible exact Le.refl _)
            | exact Le.stuck _
            | exact Le.bad _ _ _
            | (refine Le.ite (fun _ => ?_) (fun _ => ?_))
            | (refine Le.bind (IH _ _ (by exact trivial)) (fun _ _ _ _ => ?_))
            | (exact IH _ _ (by exact trivial))
            | (refine le_sign H (fun _ _ => ?_))
            | (refine le_need H (by decide) (fun _ _ _ => ?_))
            | (refine le_enter H (by decide) (fun _ _ _ => ?_))
            | (refine le_take H (by decide) (by decide) (fun _ _ _ => ?_))
            | (refine le_shut H (by decide) (fun _ => ?_))
            | (refine le_leave (fun _ => ?_))
            | (refine le_add (fun _ _ => ?_))
            | (refine le_pos (fun _ => ?_))
            | (refine le_allow H ?_))
    · repeat' (first
          | (with_reducible exact Le.refl _)
          | exact Le.stuck _
          | exact Le.bad _ _ _
          | (refine Le.ite (fun _ => ?_) (fun _ => ?_))
          | (refine Le.bind (IH _ _ (by exact trivial)) (fun _ _ _ _ => ?_))
          | (exact IH _ _ (by exact trivial))
          | (refine le_sign H (fun _ _ => ?_))
          | (refine le_need H (by decide) (fun _ _ _ => ?_))
          | (refine le_enter H (by decide) (fun _ _ _ => ?_))
          | (refine le_take H (by decide) (by decide) (fun _ _ _ => ?_))
          | (refine le_shut H (by decide) (fun _ => ?_))
          | (refine le_leave (fun _ => ?_))
          | (refine le_add (fun _ _ => ?_))
          | (refine le_pos (fun _ => ?_))
          | (refine le_allow H ?_))
  · obtain ⟨_, k1, _, _⟩ := Dead.sg ⟨t, ht, hk⟩ ht
    rw [if_neg k1]
    split
    · exact (dead ⟨t, ht, hk⟩ n _ rfl).bind _
    · exact No.bad _ _

theorem le_q_bound {ts1 ts2 : List Tok} {k n m : Nat} (H : Like ts1 ts2 k) (IH : ∀ q s, OkB ts1 k q s → Le (runF ts1 n q s) (runF ts2 m q s)) (i : Nat) (s : PS) : Le (runF ts1 (n + 1) (.bound i) s) (runF ts2 (m + 1) (.bound i) s) := by
  have _ := IH
  have _ := H
  show Le (bodyF ts1 (runF ts1 n) _ s) (bodyF ts2 (runF ts2 m) _ s)
  unfold bodyF
  dsimp only
  have hcl : (if i = 0 then ([58] : List UInt8) else [93]) ≠ [] := by split <;> decide
  generalize (if i = 0 then ([58] : List UInt8) else [93]) = cl at hcl ⊢
  refine le_sign H (fun t ht => Le.ite (fun hl => ?_) (fun _ => IH _ _ (by exact trivial)))
  have e0 : sg t ≠ [] := by rw [hl]; exact hcl
  refine le_nextS H ht (by have := sg_kind e0; omega) (by have := sg_kind e0; omega) ?_
  repeat' (first
      | (with_reducible exact Le.refl _)
      | exact Le.stuck _
      | exact Le.bad _ _ _
      | (refine Le.ite (fun _ => ?_) (fun _ => ?_))
      | (refine Le.bind (IH _ _ (by exact trivial)) (fun _ _ _ _ => ?_))
      | (exact IH _ _ (by exact trivial))
      | (refine le_sign H (fun _ _ => ?_))
      | (refine le_need H (by decide) (fun _ _ _ => ?_))
      | (refine le_enter H (by decide) (fun _ _ _ => ?_))
      | (refine le_take H (by decide) (by decide) (fun _ _ _ => ?_))
      | (refine le_shut H (by decide) (fun _ => ?_))
      | (refine le_leave (fun _ => ?_))
      | (refine le_add (fun _ _ => ?_))
      | (refine le_pos (fun _ => ?_))
      | (refine le_allow H ?_))

theorem le_q_list {ts1 ts2 : List Tok} {k n m : Nat} (H : Like ts1 ts2 k) (IH : ∀ q s, OkB ts1 k q s → Le (runF ts1 n q s) (runF ts2 m q s)) (s : PS) : Le (runF ts1 (n + 1) .list s) (runF ts2 (m + 1) .list s) := by
  have _ := IH
  have _ := H
  show Le (bodyF ts1 (runF ts1 n) _ s) (bodyF ts2 (runF ts2 m) _ s)
  unfold bodyF
  dsimp only
  refine le_enter H (by decide) (fun _ s2 hs2 => Le.bind (IH _ _ (by exact hs2)) (fun _ _ _ _ => ?_))
  refine Le.ite (fun _ => ?_) (fun _ => le_sign H (fun _ _ => Le.ite (fun _ => Le.bind (IH _ _ (by exact trivial)) (fun _ rs _ _ => ?_)) (fun _ => ?_)))
  · repeat' (first
        | (with_reducible exact Le.refl _)
        | exact Le.stuck _
        | exact Le.bad _ _ _
        | (refine Le.ite (fun _ => ?_) (fun _ => ?_))
        | (refine Le.bind (IH _ _ (by exact trivial)) (fun _ _ _ _ => ?_))
        | (exact IH _ _ (by exact trivial))
        | (refine le_sign H (fun _ _ => ?_))
        | (refine le_need H (by decide) (fun _ _ _ => ?_))
        | (refine le_enter H (by decide) (fun _ _ _ => ?_))
        | (refine le_take H (by decide) (by decide) (fun _ _ _ => ?_))
        | (refine le_shut H (by decide) (fun _ => ?_))
        | (refine le_leave (fun _ => ?_))
        | (refine le_add (fun _ _ => ?_))
        | (refine le_pos (fun _ => ?_))
        | (refine le_allow H ?_))
  · cases rs with
    | nil => exact Le.stuck _
    | cons r0 rr =>
      dsimp only
      repeat' (first
          | (with_reducible exact Le.refl _)
          | exact Le.stuck _
          | exact Le.bad _ _ _
          | (refine Le.ite (fun _ => ?_) (fun _ => ?_))
          | (refine Le.bind (IH _ _ (by exact trivial)) (fun _ _ _ _ => ?_))
          | (exact IH _ _ (by exact trivial))
          | (refine le_sign H (fun _ _ => ?_))
          | (refine le_need H (by decide) (fun _ _ _ => ?_))
          | (refine le_enter H (by decide) (fun _ _ _ => ?_))
          | (refine le_take H (by decide) (by decide) (fun _ _ _ => ?_))
          | (refine le_shut H (by decide) (fun _ => ?_))
          | (refine le_leave (fun _ => ?_))
          | (refine le_add (fun _ _ => ?_))
          | (refine le_pos (fun _ => ?_))
          | (refine le_allow H ?_))
  · repeat' (first
        | (with_reducible exact Le.refl _)
        | exact Le.stuck _
        | exact Le.bad _ _ _
        | (refine Le.ite (fun _ => ?_) (fun _ => ?_))
        | (refine Le.bind (IH _ _ (by exact trivial)) (fun _ _ _ _ => ?_))
        | (exact IH _ _ (by exact trivial))
        | (refine le_sign H (fun _ _ => ?_))
        | (refine le_need H (by decide) (fun _ _ _ => ?_))
        | (refine le_enter H (by decide) (fun _ _ _ => ?_))
        | (refine le_take H (by decide) (by decide) (fun _ _ _ => ?_))
        | (refine le_shut H (by decide) (fun _ => ?_))
        | (refine le_leave (fun _ => ?_))
        | (refine le_add (fun _ _ => ?_))
        | (refine le_pos (fun _ => ?_))
        | (refine le_allow H ?_))

theorem le_q_result {ts1 ts2 : List Tok} {k n m : Nat} (H : Like ts1 ts2 k) (IH : ∀ q s, OkB ts1 k q s → Le (runF ts1 n q s) (runF ts2 m q s)) (s : PS) : Le (runF ts1 (n + 1) .result s) (runF ts2 (m + 1) .result s) := by
  have _ := IH
  have _ := H
  show Le (bodyF ts1 (runF ts1 n) _ s) (bodyF ts2 (runF ts2 m) _ s)
  unfold bodyF
  dsimp only
  refine le_need H (by decide) (fun _ s2 hs2 => le_begins H hs2 (fun b => ?_))
  repeat' (first
      | (with_reducible exact Le.refl _)
      | exact Le.stuck _
      | exact Le.bad _ _ _
      | (refine Le.ite (fun _ => ?_) (fun _ => ?_))
      | (refine Le.bind (IH _ _ (by exact trivial)) (fun _ _ _ _ => ?_))
      | (exact IH _ _ (by exact trivial))
      | (refine le_sign H (fun _ _ => ?_))
      | (refine le_need H (by decide) (fun _ _ _ => ?_))
      | (refine le_enter H (by decide) (fun _ _ _ => ?_))
      | (refine le_take H (by decide) (by decide) (fun _ _ _ => ?_))
      | (refine le_shut H (by decide) (fun _ => ?_))
      | (refine le_leave (fun _ => ?_))
      | (refine le_add (fun _ _ => ?_))
      | (refine le_pos (fun _ => ?_))
      | (refine le_allow H ?_))

theorem le_q_texts {ts1 ts2 : List Tok} {k n m : Nat} (H : Like ts1 ts2 k) (IH : ∀ q s, OkB ts1 k q s → Le (runF ts1 n q s) (runF ts2 m q s)) (s : PS) (hs : ∃ t, ts1[s.at_]? = some t ∧ t.kind = 3) : Le (runF ts1 (n + 1) .texts s) (runF ts2 (m + 1) .texts s) := by
  have _ := IH
  have _ := H
  show Le (bodyF ts1 (runF ts1 n) _ s) (bodyF ts2 (runF ts2 m) _ s)
  unfold bodyF
  dsimp only
  obtain ⟨t, ht, h3⟩ := hs
  refine le_nextS H ht (by omega) (by omega) ?_
  repeat' (first
      | (with_reducible exact Le.refl _)
      | exact Le.stuck _
      | exact Le.bad _ _ _
      | (refine Le.ite (fun _ => ?_) (fun _ => ?_))
      | (refine Le.bind (IH _ _ (by exact trivial)) (fun _ _ _ _ => ?_))
      | (exact IH _ _ (by exact trivial))
      | (refine le_sign H (fun _ _ => ?_))
      | (refine le_need H (by decide) (fun _ _ _ => ?_))
      | (refine le_enter H (by decide) (fun _ _ _ => ?_))
      | (refine le_take H (by decide) (by decide) (fun _ _ _ => ?_))
      | (refine le_shut H (by decide) (fun _ => ?_))
      | (refine le_leave (fun _ => ?_))
      | (refine le_add (fun _ _ => ?_))
      | (refine le_pos (fun _ => ?_))
      | (refine le_allow H ?_))

theorem le_q_textsLoop {ts1 ts2 : List Tok} {k n m : Nat} (H : Like ts1 ts2 k) (IH : ∀ q s, OkB ts1 k q s → Le (runF ts1 n q s) (runF ts2 m q s)) (pos : Int) (acc : List UInt8) (s : PS) : Le (runF ts1 (n + 1) (.textsLoop pos acc) s) (runF ts2 (m + 1) (.textsLoop pos acc) s) := by
  have _ := IH
  have _ := H
  show Le (bodyF ts1 (runF ts1 n) _ s) (bodyF ts2 (runF ts2 m) _ s)
  unfold bodyF
  dsimp only
  unfold nextF
  cases ht : ts1[s.at_]? with
  | none => exact Le.stuck _
  | some t =>
    obtain ⟨t', h1, _, h3⟩ := H.cases ht
    rw [h1]
    dsimp only
    by_cases e : t.kind = 3
    · rcases h3 with ⟨_, _, _, _, b⟩ | ⟨_, a, _⟩
      · obtain rfl := b (by omega)
        repeat' (first
            | (with_reducible exact Le.refl _)
            | exact Le.stuck _
            | exact Le.bad _ _ _
            | (refine Le.ite (fun _ => ?_) (fun _ => ?_))
            | (refine Le.bind (IH _ _ (by exact trivial)) (fun _ _ _ _ => ?_))
            | (exact IH _ _ (by exact trivial))
            | (refine le_sign H (fun _ _ => ?_))
            | (refine le_need H (by decide) (fun _ _ _ => ?_))
            | (refine le_enter H (by decide) (fun _ _ _ => ?_))
            | (refine le_take H (by decide) (by decide) (fun _ _ _ => ?_))
            | (refine le_shut H (by decide) (fun _ => ?_))
            | (refine le_leave (fun _ => ?_))
            | (refine le_add (fun _ _ => ?_))
            | (refine le_pos (fun _ => ?_))
            | (refine le_allow H ?_))
      · omega
    · have e' : t'.kind ≠ 3 := by rcases h3 with ⟨_, _, a, _, _⟩ | ⟨_, a, b⟩ <;> omega
      rw [if_neg e, if_neg e']
      exact Le.refl _

theorem le_q_simple {ts1 ts2 : List Tok} {k n m : Nat} (H : Like ts1 ts2 k) (IH : ∀ q s, OkB ts1 k q s → Le (runF ts1 n q s) (runF ts2 m q s)) (p : Pl) (s : PS) : Le (runF ts1 (n + 1) (.simple p) s) (runF ts2 (m + 1) (.simple p) s) := by
  have _ := IH
  have _ := H
  show Le (bodyF ts1 (runF ts1 n) _ s) (bodyF ts2 (runF ts2 m) _ s)
  unfold bodyF
  dsimp only
  refine le_sign H (fun t ht => ?_)
  refine Le.ite (fun g => (by unfold wordF; exact le_nextS H ht (by have := sg_kind (t := t) (by rw [g]; decide); omega) (by have := sg_kind (t := t) (by rw [g]; decide); omega) (Le.refl _))) (fun _ => Le.ite (fun g => le_allow H (by unfold wordF; exact le_nextS H ht (by have := sg_kind (t := t) (by rw [g]; decide); omega) (by have := sg_kind (t := t) (by rw [g]; decide); omega) (Le.refl _))) (fun _ => Le.ite (fun g => le_allow H (by unfold wordF; exact le_nextS H ht (by have := sg_kind (t := t) (by rw [g]; decide); omega) (by have := sg_kind (t := t) (by rw [g]; decide); omega) (Le.refl _))) (fun _ => ?_)))
  repeat' (first
      | (with_reducible exact Le.refl _)
      | exact Le.stuck _
      | exact Le.bad _ _ _
      | (refine Le.ite (fun _ => ?_) (fun _ => ?_))
      | (refine Le.bind (IH _ _ (by exact trivial)) (fun _ _ _ _ => ?_))
      | (exact IH _ _ (by exact trivial))
      | (refine le_sign H (fun _ _ => ?_))
      | (refine le_need H (by decide) (fun _ _ _ => ?_))
      | (refine le_enter H (by decide) (fun _ _ _ => ?_))
      | (refine le_take H (by decide) (by decide) (fun _ _ _ => ?_))
      | (refine le_shut H (by decide) (fun _ => ?_))
      | (refine le_leave (fun _ => ?_))
      | (refine le_add (fun _ _ => ?_))
      | (refine le_pos (fun _ => ?_))
      | (refine le_allow H ?_))

theorem le_q_assignment {ts1 ts2 : List Tok} {k n m : Nat} (H : Like ts1 ts2 k) (IH : ∀ q s, OkB ts1 k q s → Le (runF ts1 n q s) (runF ts2 m q s)) (s : PS) : Le (runF ts1 (n + 1) .assignment s) (runF ts2 (m + 1) .assignment s) := by
  have _ := IH
  have _ := H
  show Le (bodyF ts1 (runF ts1 n) _ s) (bodyF ts2 (runF ts2 m) _ s)
  unfold bodyF
  dsimp only
  refine Le.bind (IH _ _ (by exact trivial)) (fun z _ _ s2 => le_sign H (fun t ht => Le.ite (fun hl => ?_) (fun _ => Le.ite (fun hl => ?_) (fun _ => ?_))))
  · cases targetF (s2.nodes.length + 1) s2.nodes z with
    | none => exact Le.stuck _
    | some b =>
      refine le_allow H ?_
      have e0 : sg t ≠ [] := by rw [hl]; decide
      refine le_nextS H ht (by have := sg_kind e0; omega) (by have := sg_kind e0; omega) ?_
      repeat' (first
          | (with_reducible exact Le.refl _)
          | exact Le.stuck _
          | exact Le.bad _ _ _
          | (refine Le.ite (fun _ => ?_) (fun _ => ?_))
          | (refine Le.bind (IH _ _ (by exact trivial)) (fun _ _ _ _ => ?_))
          | (exact IH _ _ (by exact trivial))
          | (refine le_sign H (fun _ _ => ?_))
          | (refine le_need H (by decide) (fun _ _ _ => ?_))
          | (refine le_enter H (by decide) (fun _ _ _ => ?_))
          | (refine le_take H (by decide) (by decide) (fun _ _ _ => ?_))
          | (refine le_shut H (by decide) (fun _ => ?_))
          | (refine le_leave (fun _ => ?_))
          | (refine le_add (fun _ _ => ?_))
          | (refine le_pos (fun _ => ?_))
          | (refine le_allow H ?_))
  · refine Le.ite (fun _ => Le.stuck _) (fun _ => ?_)
    cases s2.nodes[z.toNat]? with
    | none => exact Le.stuck _
    | some x =>
      refine le_allow H ?_
      have e0 : sg t ≠ [] := by rw [hl]; decide
      refine le_nextS H ht (by have := sg_kind e0; omega) (by have := sg_kind e0; omega) ?_
      repeat' (first
          | (with_reducible exact Le.refl _)
          | exact Le.stuck _
          | exact Le.bad _ _ _
          | (refine Le.ite (fun _ => ?_) (fun _ => ?_))
          | (refine Le.bind (IH _ _ (by exact trivial)) (fun _ _ _ _ => ?_))
          | (exact IH _ _ (by exact trivial))
          | (refine le_sign H (fun _ _ => ?_))
          | (refine le_need H (by decide) (fun _ _ _ => ?_))
          | (refine le_enter H (by decide) (fun _ _ _ => ?_))
          | (refine le_take H (by decide) (by decide) (fun _ _ _ => ?_))
          | (refine le_shut H (by decide) (fun _ => ?_))
          | (refine le_leave (fun _ => ?_))
          | (refine le_add (fun _ _ => ?_))
          | (refine le_pos (fun _ => ?_))
          | (refine le_allow H ?_))
  · repeat' (first
        | (with_reducible exact Le.refl _)
        | exact Le.stuck _
        | exact Le.bad _ _ _
        | (refine Le.ite (fun _ => ?_) (fun _ => ?_))
        | (refine Le.bind (IH _ _ (by exact trivial)) (fun _ _ _ _ => ?_))
        | (exact IH _ _ (by exact trivial))
        | (refine le_sign H (fun _ _ => ?_))
        | (refine le_need H (by decide) (fun _ _ _ => ?_))
        | (refine le_enter H (by decide) (fun _ _ _ => ?_))
        | (refine le_take H (by decide) (by decide) (fun _ _ _ => ?_))
        | (refine le_shut H (by decide) (fun _ => ?_))
        | (refine le_leave (fun _ => ?_))
        | (refine le_add (fun _ _ => ?_))
        | (refine le_pos (fun _ => ?_))
        | (refine le_allow H ?_))

theorem le_q_loaded {ts1 ts2 : List Tok} {k n m : Nat} (H : Like ts1 ts2 k) (IH : ∀ q s, OkB ts1 k q s → Le (runF ts1 n q s) (runF ts2 m q s)) (s : PS) : Le (runF ts1 (n + 1) .loaded s) (runF ts2 (m + 1) .loaded s) := by
  have _ := IH
  have _ := H
  show Le (bodyF ts1 (runF ts1 n) _ s) (bodyF ts2 (runF ts2 m) _ s)
  unfold bodyF
  dsimp only
  cases ht : ts1[s.at_]? with
  | none => exact Le.stuck _
  | some t =>
    obtain ⟨t', h1, _, h3⟩ := H.cases ht
    rw [h1]
    dsimp only
    rcases h3 with ⟨h8, _, a, _, b⟩ | ⟨_, a, a'⟩
    · by_cases h7 : t.kind = 7
      · rw [if_neg (by omega)]
        refine No.le ?_ _
        unfold takeKF
        rw [ht]; dsimp only
        rw [if_neg (by omega)]; exact No.bad _ _
      · obtain rfl := b h7
        unfold thereF
        repeat' (first
            | (with_reducible exact Le.refl _)
            | exact Le.stuck _
            | exact Le.bad _ _ _
            | (refine Le.ite (fun _ => ?_) (fun _ => ?_))
            | (refine Le.bind (IH _ _ (by exact trivial)) (fun _ _ _ _ => ?_))
            | (exact IH _ _ (by exact trivial))
            | (refine le_sign H (fun _ _ => ?_))
            | (refine le_need H (by decide) (fun _ _ _ => ?_))
            | (refine le_enter H (by decide) (fun _ _ _ => ?_))
            | (refine le_take H (by decide) (by decide) (fun _ _ _ => ?_))
            | (refine le_shut H (by decide) (fun _ => ?_))
            | (refine le_leave (fun _ => ?_))
            | (refine le_add (fun _ _ => ?_))
            | (refine le_pos (fun _ => ?_))
            | (refine le_allow H ?_))
    · rw [if_neg (by omega)]
      refine No.le ?_ _
      unfold takeKF
      rw [ht]; dsimp only
      rw [if_neg (by omega)]; exact No.bad _ _

theorem le_q_block {ts1 ts2 : List Tok} {k n m : Nat} (H : Like ts1 ts2 k) (IH : ∀ q s, OkB ts1 k q s → Le (runF ts1 n q s) (runF ts2 m q s)) (p : Pl) (s : PS) : Le (runF ts1 (n + 1) (.block p) s) (runF ts2 (m + 1) (.block p) s) := by
  have _ := IH
  have _ := H
  show Le (bodyF ts1 (runF ts1 n) _ s) (bodyF ts2 (runF ts2 m) _ s)
  unfold bodyF
  dsimp only
  refine le_enter H (by decide) (fun _ s2 _ => le_kind H (fun t ht h8 => ?_) (fun t ht h8 => ?_))
  · repeat' (first
        | (with_reducible exact Le.refl _)
        | exact Le.stuck _
        | exact Le.bad _ _ _
        | (refine Le.ite (fun _ => ?_) (fun _ => ?_))
        | (refine Le.bind (IH _ _ (by exact trivial)) (fun _ _ _ _ => ?_))
        | (exact IH _ _ (by exact trivial))
        | (refine le_sign H (fun _ _ => ?_))
        | (refine le_need H (by decide) (fun _ _ _ => ?_))
        | (refine le_enter H (by decide) (fun _ _ _ => ?_))
        | (refine le_take H (by decide) (by decide) (fun _ _ _ => ?_))
        | (refine le_shut H (by decide) (fun _ => ?_))
        | (refine le_leave (fun _ => ?_))
        | (refine le_add (fun _ _ => ?_))
        | (refine le_pos (fun _ => ?_))
        | (refine le_allow H ?_))
  · rw [if_neg (by decide), if_neg (by decide)]
    repeat' (first
        | (with_reducible exact Le.refl _)
        | exact Le.stuck _
        | exact Le.bad _ _ _
        | (refine Le.ite (fun _ => ?_) (fun _ => ?_))
        | (refine Le.bind (IH _ _ (by exact trivial)) (fun _ _ _ _ => ?_))
        | (exact IH _ _ (by exact trivial))
        | (refine le_sign H (fun _ _ => ?_))
        | (refine le_need H (by decide) (fun _ _ _ => ?_))
        | (refine le_enter H (by decide) (fun _ _ _ => ?_))
        | (refine le_take H (by decide) (by decide) (fun _ _ _ => ?_))
        | (refine le_shut H (by decide) (fun _ => ?_))
        | (refine le_leave (fun _ => ?_))
        | (refine le_add (fun _ _ => ?_))
        | (refine le_pos (fun _ => ?_))
        | (refine le_allow H ?_))

theorem le_q_linesLoop {ts1 ts2 : List Tok} {k n m : Nat} (H : Like ts1 ts2 k) (IH : ∀ q s, OkB ts1 k q s → Le (runF ts1 n q s) (runF ts2 m q s)) (p : Pl) (zs : List Int) (s : PS) : Le (runF ts1 (n + 1) (.linesLoop p zs) s) (runF ts2 (m + 1) (.linesLoop p zs) s) := by
  have _ := IH
  have _ := H
  show Le (bodyF ts1 (runF ts1 n) _ s) (bodyF ts2 (runF ts2 m) _ s)
  unfold bodyF
  dsimp only
  refine le_kind H (fun t ht h8 => ?_) (fun t ht h8 => ?_)
  · refine Le.ite (fun _ => le_take7 H (fun _ _ _ => Le.refl _)) (fun _ => ?_)
    repeat' (first
        | (with_reducible exact Le.refl _)
        | exact Le.stuck _
        | exact Le.bad _ _ _
        | (refine Le.ite (fun _ => ?_) (fun _ => ?_))
        | (refine Le.bind (IH _ _ (by exact trivial)) (fun _ _ _ _ => ?_))
        | (exact IH _ _ (by exact trivial))
        | (refine le_sign H (fun _ _ => ?_))
        | (refine le_need H (by decide) (fun _ _ _ => ?_))
        | (refine le_enter H (by decide) (fun _ _ _ => ?_))
        | (refine le_take H (by decide) (by decide) (fun _ _ _ => ?_))
        | (refine le_shut H (by decide) (fun _ => ?_))
        | (refine le_leave (fun _ => ?_))
        | (refine le_add (fun _ _ => ?_))
        | (refine le_pos (fun _ => ?_))
        | (refine le_allow H ?_))
  · rw [if_neg (by decide), if_neg (by decide)]
    repeat' (first
        | (with_reducible exact Le.refl _)
        | exact Le.stuck _
        | exact Le.bad _ _ _
        | (refine Le.ite (fun _ => ?_) (fun _ => ?_))
        | (refine Le.bind (IH _ _ (by exact trivial)) (fun _ _ _ _ => ?_))
        | (exact IH _ _ (by exact trivial))
        | (refine le_sign H (fun _ _ => ?_))
        | (refine le_need H (by decide) (fun _ _ _ => ?_))
        | (refine le_enter H (by decide) (fun _ _ _ => ?_))
        | (refine le_take H (by decide) (by decide) (fun _ _ _ => ?_))
        | (refine le_shut H (by decide) (fun _ => ?_))
        | (refine le_leave (fun _ => ?_))
        | (refine le_add (fun _ _ => ?_))
        | (refine le_pos (fun _ => ?_))
        | (refine le_allow H ?_))
theorem le_all {ts1 ts2 : List Tok} {k : Nat} (H : Like ts1 ts2 k) : ∀ (n m : Nat), n ≤ m → ∀ q s, OkB ts1 k q s → Le (runF ts1 n q s) (runF ts2 m q s) := by
  intro n
  induction n with
  | zero => intro m _ q s _; exact Le.stuck _
  | succ n ih =>
    intro m hm q s hq
    rcases m with _ | m
    · omega
    have IH := ih m (by omega)
    cases q with
    | test  => exact le_q_test H IH  s
    | bin i => exact le_q_bin H IH i s
    | binLoop i z => exact le_q_binLoop H IH i z s
    | not  => exact le_q_not H IH  s
    | ahead i => exact le_q_ahead H IH i s
    | compare  => exact le_q_compare H IH  s
    | unary  => exact le_q_unary H IH  s
    | primary  => exact le_q_primary H IH  s
    | primLoop z => exact le_q_primLoop H IH z s
    | atom  => exact le_q_atom H IH  s
    | row i => exact le_q_row H IH i s
    | rowLoop i zs c => exact le_q_rowLoop H IH i zs c s
    | orNone => exact le_q_orNone H IH s hq
    | bare i => exact le_q_bare H IH i s
    | round i => exact le_q_round H IH i s
    | def_  => exact le_q_def H IH  s
    | params zs names given => exact le_q_params H IH zs names given s
    | param names given => exact le_q_param H IH names given s
    | call z => exact le_q_call H IH z s
    | args zs names => exact le_q_args H IH zs names s
    | argument names => exact le_q_argument H IH names s
    | dot z => exact le_q_dot H IH z s
    | index z => exact le_q_index H IH z s
    | bound i => exact le_q_bound H IH i s
    | list  => exact le_q_list H IH  s
    | rounds  => exact le_q_rounds H IH  s
    | target  => exact le_q_target H IH  s
    | result  => exact le_q_result H IH  s
    | texts => exact le_q_texts H IH s hq
    | textsLoop pos acc => exact le_q_textsLoop H IH pos acc s
    | dict  => exact le_q_dict H IH  s
    | pairs zs => exact le_q_pairs H IH zs s
    | pair zs => exact le_q_pair H IH zs s
    | alone  => exact hq.elim
    | file  => exact hq.elim
    | fileLoop zs => exact hq.elim
    | statement p => exact le_q_statement H IH p s
    | line p => exact le_q_line H IH p s
    | simple p => exact le_q_simple H IH p s
    | assignment  => exact le_q_assignment H IH  s
    | load  => exact le_q_load H IH  s
    | loadLoop zs => exact le_q_loadLoop H IH zs s
    | loaded  => exact le_q_loaded H IH  s
    | cond pos p => exact le_q_cond H IH pos p s
    | elif p => exact le_q_elif H IH p s
    | loop p => exact le_q_loop H IH p s
    | block p => exact le_q_block H IH p s
    | lines p => exact le_q_lines H IH p s
    | linesLoop p zs => exact le_q_linesLoop H IH p zs s
end Px
end Go.Proofs.YtnfnlcahlgnahaaGreatDoor
