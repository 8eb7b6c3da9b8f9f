/- Parts of the proof, together. The pure part of ParseValid, put together. No conditions. -/
import Derived.Test.YtpjjofdphlgeiaaGreatDoorVvbc
import Derived.Test.YtpjjofdphlgeiaaGreatDoorVvap
namespace Go.Proofs.YtpjjofdphlgeiaaGreatDoor
namespace Vd
open Lx Ax Ay

theorem formG_param {l l' : List Nd} {x : Nd} {st : VS} (h : ∀ k, k < st.tk.length → l[k]? = l'[k]?) : formG l x st = formG l' x st := by
  unfold formG
  cases ht : takeF x.kids st.tk with
  | none => rfl
  | some tk =>
    have hr := takeF_range ht
    have hs : sortG l st.so x = sortG l' st.so x := by
      unfold sortG
      cases hk : x.kids with
      | nil => rfl
      | cons k r =>
        cases r with
        | cons k2 r => rfl
        | nil =>
          have hk2 := hr k (by rw [hk]; simp)
          dsimp only
          rw [h k.toNat (by omega)]
    dsimp only
    rw [hs]
theorem formsG_param {l l' : List Nd} : ∀ (r : List Nd) (i : Nat) (st : VS), (∀ k, k < st.tk.length + r.length → l[k]? = l'[k]?) → formsG l r i st = formsG l' r i st
  | [], _, _, _ => rfl
  | x :: r, i, st, h => by
    simp only [List.length_cons] at h
    rw [formsG, formsG, formG_param (l' := l') fun k hk => h k (by omega)]
    cases hf : formG l' x st with
    | none => rfl
    | some st' =>
      dsimp only
      obtain ⟨tk, h1, h2, _⟩ := formG_take hf
      refine formsG_param r (i + 1) st' fun k hk => h k ?_
      rw [h2] at hk
      simp only [List.length_append, List.length_singleton, takeF_length h1] at hk
      omega
theorem formsG_snoc {l : List Nd} (x : Nd) : ∀ (r : List Nd) (i : Nat) (st st' : VS), formsG l r i st = .inr st' → formsG l (r ++ [x]) i st = (match formG l x st' with
    | none => .inl (i + r.length)
    | some s => .inr s)
  | [], i, st, st', h => by
    injection h with h
    subst h
    rw [List.nil_append, formsG]
    cases formG l x st with
    | none => rfl
    | some s => rfl
  | y :: r, i, st, st', h => by
    rw [List.cons_append, formsG]
    rw [formsG] at h
    cases hf : formG l y st with
    | none => rw [hf] at h; cases h
    | some s1 =>
      rw [hf] at h
      dsimp only at h ⊢
      rw [formsG_snoc x r (i + 1) s1 st' h, List.length_cons, show i + 1 + r.length = i + (r.length + 1) by omega]
theorem formsG_len {l : List Nd} : ∀ (r : List Nd) (i : Nat) (st st' : VS), formsG l r i st = .inr st' → st'.tk.length = st.tk.length + r.length ∧ st'.so.length = st.so.length + r.length
  | [], i, st, st', h => by injection h with h; subst h; exact ⟨rfl, rfl⟩
  | x :: r, i, st, st', h => by
    rw [formsG] at h
    cases hf : formG l x st with
    | none => rw [hf] at h; cases h
    | some s1 =>
      rw [hf] at h
      obtain ⟨tk, h1, h2, _⟩ := formG_take hf
      obtain ⟨h3, h4⟩ := formsG_len r (i + 1) s1 st' h
      rw [h2] at h3 h4
      simp only [List.length_append, List.length_singleton, takeF_length h1] at h3 h4
      rw [List.length_cons]
      omega
/-- All these nodes have their forms. -/
def Good (L : List Nd) (st : VS) : Prop := formsG L L 0 ⟨[], []⟩ = .inr st
theorem Good.nil : Good [] ⟨[], []⟩ := rfl
theorem Good.len {L : List Nd} {st : VS} (h : Good L st) : st.tk.length = L.length ∧ st.so.length = L.length := by
  have := formsG_len L 0 ⟨[], []⟩ st h
  simpa using this
theorem Good.add {L : List Nd} {st : VS} (h : Good L st) (x : Nd) {tk : List Bool} (ht : takeF x.kids st.tk = some tk) (hn : x.n = 0) (hs : saysG x = true) (hh : hasG st.so x = true) : Good (L ++ [x]) ⟨tk ++ [false], st.so ++ [sortG L st.so x]⟩ := by
  unfold Good
  have h1 : formsG (L ++ [x]) L 0 ⟨[], []⟩ = .inr st := by
    rw [formsG_param (l' := L) L 0 ⟨[], []⟩ fun k hk => by
      simp only [List.length_nil, Nat.zero_add] at hk
      rw [List.getElem?_append_left hk]]
    exact h
  rw [formsG_snoc x L 0 ⟨[], []⟩ st h1, formG_param (l' := L) fun k hk => by
    rw [h.len.1] at hk
    rw [List.getElem?_append_left hk]]
  unfold formG
  rw [ht]
  dsimp only
  rw [if_pos ⟨hn, hs, hh⟩]
theorem take_some : ∀ (ks : List Int) (tk : List Bool), (∀ z ∈ ks, 0 ≤ z ∧ tk[z.toNat]? = some false) → ks.Nodup → ∃ tk', takeF ks tk = some tk' ∧ ∀ j : Nat, tk'[j]? = some false ↔ (tk[j]? = some false ∧ (j : Int) ∉ ks)
  | [], tk, _, _ => ⟨tk, rfl, fun j => by simp⟩
  | z :: r, tk, h, hn => by
    obtain ⟨h0, h1⟩ := h z (List.mem_cons_self ..)
    obtain ⟨hz, hr⟩ := List.nodup_cons.1 hn
    obtain ⟨m, rfl⟩ := Int.eq_ofNat_of_zero_le h0
    rw [Int.toNat_natCast] at h1
    have hml := (List.getElem?_eq_some_iff.1 h1).1
    obtain ⟨tk', h2, h3⟩ := take_some r (tk.set m true) (fun y hy => by
      obtain ⟨a, b⟩ := h y (List.mem_cons_of_mem _ hy)
      refine ⟨a, ?_⟩
      rw [List.getElem?_set_ne]
      · exact b
      · intro e
        apply hz
        have : y = (m : Int) := by omega
        rw [← this]; exact hy) hr
    refine ⟨tk', ?_, fun j => ?_⟩
    · unfold takeF
      rw [Int.toNat_natCast, if_pos ⟨h0, h1⟩]
      exact h2
    · rw [h3 j, List.mem_cons, not_or]
      by_cases e : m = j
      · subst e
        rw [List.getElem?_set_self hml]
        simp
      · rw [List.getElem?_set_ne e]
        constructor
        · rintro ⟨a, b⟩
          exact ⟨a, by omega, b⟩
        · rintro ⟨a, _, b⟩
          exact ⟨a, b⟩
/-- The nodes have their forms; nobody's kids yet are just these, of these sorts. -/
structure Stk (L : List Nd) (F : List (Int × Int)) : Prop where
  form : ∃ st, Good L st ∧ (∀ j : Nat, st.tk[j]? = some false ↔ (j : Int) ∈ F.map (·.1)) ∧ ∀ p ∈ F, 0 ≤ p.1 ∧ st.so[p.1.toNat]? = some p.2
  uniq : (F.map (·.1)).Nodup
theorem Stk.nil : Stk [] [] := ⟨⟨⟨[], []⟩, Good.nil, fun j => by simp, fun p h => by simp at h⟩, by simp⟩
/-- What kids' sorts say of a node's. -/
structure Has (K : List (Int × Int)) (x : Nd) (σ : Int) (L : List Nd) : Prop where
  n : x.n = 0
  says : saysG x = true
  has : ∀ so : List Int, (∀ p ∈ K, 0 ≤ p.1 ∧ so[p.1.toNat]? = some p.2) → hasG so x = true ∧ sortG L so x = σ
theorem Stk.add {L : List Nd} {base K : List (Int × Int)} (h : Stk L (base ++ K)) (x : Nd) {σ : Int} (hk : x.kids.Perm (K.map (·.1))) (hh : Has K x σ L) : Stk (L ++ [x]) (base ++ [((L.length : Int), σ)]) := by
  obtain ⟨st, hg, hf, hs⟩ := h.form
  have hu := h.uniq
  rw [List.map_append, List.nodup_append] at hu
  obtain ⟨u1, u2, u3⟩ := hu
  obtain ⟨l1, l2⟩ := hg.len
  have hkf : ∀ z ∈ x.kids, 0 ≤ z ∧ st.tk[z.toNat]? = some false := fun z hz => by
    have hm := hk.mem_iff.1 hz
    obtain ⟨p, hp, e⟩ := List.mem_map.1 hm
    subst e
    obtain ⟨a, _⟩ := hs p (List.mem_append_right _ hp)
    refine ⟨a, (hf _).2 ?_⟩
    rw [Int.toNat_of_nonneg a, List.map_append]
    exact List.mem_append_right _ hm
  obtain ⟨tk, ht, htf⟩ := take_some x.kids st.tk hkf (hk.nodup_iff.2 u2)
  obtain ⟨h1, h2⟩ := hh.has st.so fun p hp => hs p (List.mem_append_right _ hp)
  have hg2 := hg.add x ht hh.n hh.says h1
  rw [h2] at hg2
  have htl : tk.length = L.length := by rw [takeF_length ht, l1]
  have hlt : ∀ p ∈ base, p.1 < (L.length : Int) := fun p hp => by
    obtain ⟨a, b⟩ := hs p (List.mem_append_left _ hp)
    have := (List.getElem?_eq_some_iff.1 b).1
    omega
  refine ⟨⟨_, hg2, fun j => ?_, fun p hp => ?_⟩, ?_⟩
  · rw [List.map_append, List.mem_append]
    by_cases hj : j < tk.length
    · dsimp only
      rw [List.getElem?_append_left hj, htf j, hf j, List.map_append, List.mem_append]
      constructor
      · rintro ⟨a | a, b⟩
        · exact .inl a
        · exact absurd (hk.mem_iff.2 a) b
      · rintro (a | a)
        · exact ⟨.inl a, fun b => u3 _ a _ (hk.mem_iff.1 b) rfl⟩
        · simp at a; omega
    · dsimp only
      rw [List.getElem?_append_right (by omega)]
      constructor
      · intro e
        have h3 := (List.getElem?_eq_some_iff.1 e).1
        simp at h3
        exact .inr (by simp; omega)
      · rintro (a | a)
        · obtain ⟨p, hp, e⟩ := List.mem_map.1 a
          have := hlt p hp
          omega
        · simp at a
          rw [show j - tk.length = 0 by omega]; rfl
  · dsimp only
    rcases List.mem_append.1 hp with hp | hp
    · obtain ⟨a, b⟩ := hs p (List.mem_append_left _ hp)
      exact ⟨a, by rw [List.getElem?_append_left (List.getElem?_eq_some_iff.1 b).1]; exact b⟩
    · rw [List.mem_singleton.1 hp]
      refine ⟨by simp, ?_⟩
      dsimp only
      rw [Int.toNat_natCast, List.getElem?_append_right (by omega), l2, Nat.sub_self]; rfl
  · rw [List.map_append, List.nodup_append]
    refine ⟨u1, by simp, fun a ha b hb => ?_⟩
    obtain ⟨p, hp, e⟩ := List.mem_map.1 ha
    have := hlt p hp
    simp at hb
    omega
end Vd
end Go.Proofs.YtpjjofdphlgeiaaGreatDoor
namespace Go.Proofs.YtpjjofdphlgeiaaGreatDoor
namespace Vd
open Lx Ax Ay

/-- A sort of an expression; of a target. -/
def Ex (σ : Int) : Prop := σ = 1 ∨ σ = 9 ∨ σ = 25
def Tg (σ : Int) : Prop := σ = 9 ∨ σ = 25
def Bd (σ : Int) : Prop := σ = 2 ∨ Ex σ
theorem Tg.ex {σ : Int} (h : Tg σ) : Ex σ := .inr h
theorem Ex.ok {σ : Int} (h : Ex σ) : okS σ 1 = true := by rcases h with rfl | rfl | rfl <;> decide
theorem Ex.no {σ : Int} (h : Ex σ) : okS σ 4 = false := by rcases h with rfl | rfl | rfl <;> decide
theorem Tg.ok {σ : Int} (h : Tg σ) : okS σ 8 = true := by rcases h with rfl | rfl <;> decide
theorem Bd.ok {σ : Int} (h : Bd σ) : okS σ 3 = true := by rcases h with rfl | rfl | rfl | rfl <;> decide
theorem ok_block : okS 256 256 = true := by decide
theorem ok_stmt : okS 32 32 = true := by decide
theorem ok_load : okS 192 128 = true := by decide
theorem ok_cell : okS 25 16 = true := by decide
theorem ok_named : okS 4 4 = true := by decide
def Pm (σ : Int) : Prop := σ = 64 ∨ σ = 192
theorem Pm.ok {σ : Int} (h : Pm σ) : okS σ 64 = true := by rcases h with rfl | rfl <;> decide
theorem getS {so : List Int} {p : Int × Int} (h : 0 ≤ p.1 ∧ so[p.1.toNat]? = some p.2) : so[p.1.toNat]?.getD 0 = p.2 := by rw [h.2]; rfl
theorem all_of {so : List Int} {b : Int} : ∀ {K : List (Int × Int)}, (∀ p ∈ K, 0 ≤ p.1 ∧ so[p.1.toNat]? = some p.2) → (∀ p ∈ K, okS p.2 b = true) → allF so b (K.map (·.1)) = true
  | [], _, _ => rfl
  | p :: K, h, hb => by
    have h1 := getS (h p (List.mem_cons_self ..))
    rw [List.map_cons, allF, List.getD_eq_getElem?_getD, h1, hb p (List.mem_cons_self ..), Bool.true_and]
    exact all_of (fun q hq => h q (List.mem_cons_of_mem _ hq)) fun q hq => hb q (List.mem_cons_of_mem _ hq)
variable {L : List Nd} {pos : Int}
theorem has_none  : Has [] ⟨1, 0, pos, ⟨#[]⟩, []⟩ 1 L := by
  refine ⟨rfl, by simp [saysG], fun so h => ?_⟩
  simp [hasG, exprG, stmtG, sortG, areF]
theorem has_true  : Has [] ⟨2, 0, pos, ⟨#[]⟩, []⟩ 1 L := by
  refine ⟨rfl, by simp [saysG], fun so h => ?_⟩
  simp [hasG, exprG, stmtG, sortG, areF]
theorem has_false  : Has [] ⟨3, 0, pos, ⟨#[]⟩, []⟩ 1 L := by
  refine ⟨rfl, by simp [saysG], fun so h => ?_⟩
  simp [hasG, exprG, stmtG, sortG, areF]
theorem has_nothing  : Has [] ⟨15, 0, pos, ⟨#[]⟩, []⟩ 2 L := by
  refine ⟨rfl, by simp [saysG], fun so h => ?_⟩
  simp [hasG, exprG, stmtG, sortG, areF]
theorem has_int {tx : List UInt8} (ht : numB tx = true) : Has [] ⟨4, 0, pos, (txt tx), []⟩ 1 L := by
  refine ⟨rfl, by simp [saysG, data_txt, ht], fun so h => ?_⟩
  simp [hasG, exprG, stmtG, sortG, areF]
theorem has_str {tx : ByteArray} : Has [] ⟨5, 0, pos, tx, []⟩ 1 L := by
  refine ⟨rfl, by simp [saysG], fun so h => ?_⟩
  simp [hasG, exprG, stmtG, sortG, areF]
theorem has_name {tx : List UInt8} (ht : nameB tx = true) : Has [] ⟨6, 0, pos, (txt tx), []⟩ 25 L := by
  refine ⟨rfl, by simp [saysG, data_txt, ht], fun so h => ?_⟩
  simp [hasG, exprG, stmtG, sortG, areF]
theorem has_arg {tx : List UInt8} (ht : nameB tx = true) {a s1 : Int} (e1 : Ex s1) : Has [(a, s1)] ⟨11, 0, pos, (txt tx), [a]⟩ 4 L := by
  refine ⟨rfl, by simp [saysG, data_txt, ht], fun so h => ?_⟩
  have h0 := getS (h (a, s1) (by simp))
  dsimp only at h0
  simp [hasG, exprG, stmtG, sortG, areF, List.getD_eq_getElem?_getD, h0, e1.ok]
theorem has_dot {tx : List UInt8} (ht : nameB tx = true) {a s1 : Int} (e1 : Ex s1) : Has [(a, s1)] ⟨12, 0, pos, (txt tx), [a]⟩ 1 L := by
  refine ⟨rfl, by simp [saysG, data_txt, ht], fun so h => ?_⟩
  have h0 := getS (h (a, s1) (by simp))
  dsimp only at h0
  simp [hasG, exprG, stmtG, sortG, areF, List.getD_eq_getElem?_getD, h0, e1.ok]
theorem has_neg {a s1 : Int} (e1 : Ex s1) : Has [(a, s1)] ⟨16, 0, pos, ⟨#[]⟩, [a]⟩ 1 L := by
  refine ⟨rfl, by simp [saysG], fun so h => ?_⟩
  have h0 := getS (h (a, s1) (by simp))
  dsimp only at h0
  simp [hasG, exprG, stmtG, sortG, areF, List.getD_eq_getElem?_getD, h0, e1.ok]
theorem has_not {a s1 : Int} (e1 : Ex s1) : Has [(a, s1)] ⟨17, 0, pos, ⟨#[]⟩, [a]⟩ 1 L := by
  refine ⟨rfl, by simp [saysG], fun so h => ?_⟩
  have h0 := getS (h (a, s1) (by simp))
  dsimp only at h0
  simp [hasG, exprG, stmtG, sortG, areF, List.getD_eq_getElem?_getD, h0, e1.ok]
theorem has_expr {a s1 : Int} (e1 : Ex s1) : Has [(a, s1)] ⟨35, 0, pos, ⟨#[]⟩, [a]⟩ 32 L := by
  refine ⟨rfl, by simp [saysG], fun so h => ?_⟩
  have h0 := getS (h (a, s1) (by simp))
  dsimp only at h0
  simp [hasG, exprG, stmtG, sortG, areF, List.getD_eq_getElem?_getD, h0, e1.ok]
theorem has_index {a b s1 s2 : Int} (e1 : Ex s1) (e2 : Ex s2) : Has [(a, s1), (b, s2)] ⟨13, 0, pos, ⟨#[]⟩, [a, b]⟩ 25 L := by
  refine ⟨rfl, by simp [saysG], fun so h => ?_⟩
  have h0 := getS (h (a, s1) (by simp))
  have h1 := getS (h (b, s2) (by simp))
  dsimp only at h0 h1
  simp [hasG, exprG, stmtG, sortG, areF, List.getD_eq_getElem?_getD, h0, h1, e1.ok, e2.ok]
theorem has_slice {a b c s1 s2 s3 : Int} (e1 : Ex s1) (e2 : Bd s2) (e3 : Bd s3) : Has [(a, s1), (b, s2), (c, s3)] ⟨14, 0, pos, ⟨#[]⟩, [a, b, c]⟩ 1 L := by
  refine ⟨rfl, by simp [saysG], fun so h => ?_⟩
  have h0 := getS (h (a, s1) (by simp))
  have h1 := getS (h (b, s2) (by simp))
  have h2 := getS (h (c, s3) (by simp))
  dsimp only at h0 h1 h2
  simp [hasG, exprG, stmtG, sortG, areF, List.getD_eq_getElem?_getD, h0, h1, h2, e1.ok, e2.ok, e3.ok]
theorem has_if {a b c s1 s2 s3 : Int} (e1 : Ex s1) (e2 : Ex s2) (e3 : Ex s3) : Has [(a, s1), (b, s2), (c, s3)] ⟨20, 0, pos, ⟨#[]⟩, [b, a, c]⟩ 1 L := by
  refine ⟨rfl, by simp [saysG], fun so h => ?_⟩
  have h0 := getS (h (a, s1) (by simp))
  have h1 := getS (h (b, s2) (by simp))
  have h2 := getS (h (c, s3) (by simp))
  dsimp only at h0 h1 h2
  simp [hasG, exprG, stmtG, sortG, areF, List.getD_eq_getElem?_getD, h0, h1, h2, e1.ok, e2.ok, e3.ok]
theorem has_assign {a b s1 s2 : Int} (e1 : Tg s1) (e2 : Ex s2) : Has [(a, s1), (b, s2)] ⟨36, 0, pos, ⟨#[]⟩, [a, b]⟩ 32 L := by
  refine ⟨rfl, by simp [saysG], fun so h => ?_⟩
  have h0 := getS (h (a, s1) (by simp))
  have h1 := getS (h (b, s2) (by simp))
  dsimp only at h0 h1
  simp [hasG, exprG, stmtG, sortG, areF, List.getD_eq_getElem?_getD, h0, h1, e1.ok, e2.ok]
theorem has_addto {a b s2 : Int} (e2 : Ex s2) : Has [(a, 25), (b, s2)] ⟨37, 0, pos, ⟨#[]⟩, [a, b]⟩ 32 L := by
  refine ⟨rfl, by simp [saysG], fun so h => ?_⟩
  have h0 := getS (h (a, 25) (by simp))
  have h1 := getS (h (b, s2) (by simp))
  dsimp only at h0 h1
  simp [hasG, exprG, stmtG, sortG, areF, List.getD_eq_getElem?_getD, h0, h1, ok_cell, e2.ok]
theorem has_pass  : Has [] ⟨38, 0, pos, ⟨#[]⟩, []⟩ 32 L := by
  refine ⟨rfl, by simp [saysG], fun so h => ?_⟩
  simp [hasG, exprG, stmtG, sortG, areF]
theorem has_break  : Has [] ⟨39, 0, pos, ⟨#[]⟩, []⟩ 32 L := by
  refine ⟨rfl, by simp [saysG], fun so h => ?_⟩
  simp [hasG, exprG, stmtG, sortG, areF]
theorem has_continue  : Has [] ⟨40, 0, pos, ⟨#[]⟩, []⟩ 32 L := by
  refine ⟨rfl, by simp [saysG], fun so h => ?_⟩
  simp [hasG, exprG, stmtG, sortG, areF]
theorem has_return0  : Has [] ⟨41, 0, pos, ⟨#[]⟩, []⟩ 32 L := by
  refine ⟨rfl, by simp [saysG], fun so h => ?_⟩
  simp [hasG, exprG, stmtG, sortG, areF]
theorem has_return {a s1 : Int} (e1 : Ex s1) : Has [(a, s1)] ⟨41, 0, pos, ⟨#[]⟩, [a]⟩ 32 L := by
  refine ⟨rfl, by simp [saysG], fun so h => ?_⟩
  have h0 := getS (h (a, s1) (by simp))
  dsimp only at h0
  simp [hasG, exprG, stmtG, sortG, areF, List.getD_eq_getElem?_getD, h0, e1.ok]
theorem has_cond {a b s1 : Int} (e1 : Ex s1) : Has [(a, s1), (b, 256)] ⟨43, 0, pos, ⟨#[]⟩, [a, b]⟩ 32 L := by
  refine ⟨rfl, by simp [saysG], fun so h => ?_⟩
  have h0 := getS (h (a, s1) (by simp))
  have h1 := getS (h (b, 256) (by simp))
  dsimp only at h0 h1
  simp [hasG, exprG, stmtG, sortG, areF, List.getD_eq_getElem?_getD, h0, h1, e1.ok, ok_block]
theorem has_cond3 {a b c s1 : Int} (e1 : Ex s1) : Has [(a, s1), (b, 256), (c, 256)] ⟨43, 0, pos, ⟨#[]⟩, [a, b, c]⟩ 32 L := by
  refine ⟨rfl, by simp [saysG], fun so h => ?_⟩
  have h0 := getS (h (a, s1) (by simp))
  have h1 := getS (h (b, 256) (by simp))
  have h2 := getS (h (c, 256) (by simp))
  dsimp only at h0 h1 h2
  simp [hasG, exprG, stmtG, sortG, areF, List.getD_eq_getElem?_getD, h0, h1, h2, e1.ok, ok_block]
theorem has_for {a b c s1 s2 : Int} (e1 : Tg s1) (e2 : Ex s2) : Has [(a, s1), (b, s2), (c, 256)] ⟨44, 0, pos, ⟨#[]⟩, [a, b, c]⟩ 32 L := by
  refine ⟨rfl, by simp [saysG], fun so h => ?_⟩
  have h0 := getS (h (a, s1) (by simp))
  have h1 := getS (h (b, s2) (by simp))
  have h2 := getS (h (c, 256) (by simp))
  dsimp only at h0 h1 h2
  simp [hasG, exprG, stmtG, sortG, areF, List.getD_eq_getElem?_getD, h0, h1, h2, e1.ok, e2.ok, ok_block]
theorem has_comp {a b c s1 s2 s3 : Int} (e1 : Ex s1) (e2 : Tg s2) (e3 : Ex s3) : Has [(a, s1), (b, s2), (c, s3)] ⟨34, 0, pos, ⟨#[]⟩, [a, b, c]⟩ 1 L := by
  refine ⟨rfl, by simp [saysG], fun so h => ?_⟩
  have h0 := getS (h (a, s1) (by simp))
  have h1 := getS (h (b, s2) (by simp))
  have h2 := getS (h (c, s3) (by simp))
  dsimp only at h0 h1 h2
  simp [hasG, exprG, stmtG, sortG, areF, List.getD_eq_getElem?_getD, h0, h1, h2, e1.ok, e2.ok, e3.ok]
theorem has_comp4 {a b c d s1 s2 s3 s4 : Int} (e1 : Ex s1) (e2 : Tg s2) (e3 : Ex s3) (e4 : Ex s4) : Has [(a, s1), (b, s2), (c, s3), (d, s4)] ⟨34, 0, pos, ⟨#[]⟩, [a, b, c, d]⟩ 1 L := by
  refine ⟨rfl, by simp [saysG], fun so h => ?_⟩
  have h0 := getS (h (a, s1) (by simp))
  have h1 := getS (h (b, s2) (by simp))
  have h2 := getS (h (c, s3) (by simp))
  have h3 := getS (h (d, s4) (by simp))
  dsimp only at h0 h1 h2 h3
  simp [hasG, exprG, stmtG, sortG, areF, List.getD_eq_getElem?_getD, h0, h1, h2, h3, e1.ok, e2.ok, e3.ok, e4.ok]
theorem has_param0 {tx : List UInt8} (ht : nameB tx = true)  : Has [] ⟨46, 0, pos, (txt tx), []⟩ 64 L := by
  refine ⟨rfl, by simp [saysG, data_txt, ht], fun so h => ?_⟩
  simp [hasG, exprG, stmtG, sortG, areF]
theorem has_bin {a b s1 s2 op : Int} (hop : op = 18 ∨ op = 19 ∨ (21 ≤ op ∧ op ≤ 33)) (e1 : Ex s1) (e2 : Ex s2) : Has [(a, s1), (b, s2)] ⟨op, 0, pos, ⟨#[]⟩, [a, b]⟩ 1 L := by
  refine ⟨rfl, ?_, fun so h => ?_⟩
  · unfold saysG
    dsimp only
    rw [if_neg (by omega), if_neg (by omega), if_neg (by omega)]; rfl
  · have h0 := getS (h (a, s1) (by simp))
    have h1 := getS (h (b, s2) (by simp))
    dsimp only at h0 h1
    constructor
    · unfold hasG exprG
      dsimp only
      rw [if_neg (by omega), if_neg (by omega), if_neg (by omega), if_neg (by omega), if_neg (by omega), if_neg (by omega), if_neg (by omega), if_neg (by omega), if_pos (by omega)]
      simp [areF, List.getD_eq_getElem?_getD, h0, h1, e1.ok, e2.ok]
    · unfold sortG
      dsimp only
      rw [if_neg (by omega), if_neg (by omega), if_neg (by omega), if_neg (by omega), if_neg (by omega), if_neg (by omega), if_neg (by omega)]
theorem has_param {a s1 : Int} {tx : List UInt8} (ht : nameB tx = true) (e1 : Ex s1) : ∃ σ, Pm σ ∧ Has [(a, s1)] ⟨46, 0, pos, txt tx, [a]⟩ σ L := by
  by_cases h5 : (L[a.toNat]?.map (·.op)) = some 5
  · refine ⟨192, .inr rfl, rfl, by simp [saysG, data_txt, ht], fun so h => ?_⟩
    have h0 := getS (h (a, s1) (by simp))
    dsimp only at h0
    refine ⟨by simp [hasG, exprG, stmtG, areF, List.getD_eq_getElem?_getD, h0, e1.ok], ?_⟩
    unfold sortG
    simp [h5]
  · refine ⟨64, .inl rfl, rfl, by simp [saysG, data_txt, ht], fun so h => ?_⟩
    have h0 := getS (h (a, s1) (by simp))
    dsimp only at h0
    refine ⟨by simp [hasG, exprG, stmtG, areF, List.getD_eq_getElem?_getD, h0, e1.ok], ?_⟩
    unfold sortG
    simp [h5]
theorem has_loaded {a : Int} {tx : List UInt8} (ht : nameB tx = true) (h5 : (L[a.toNat]?.map (·.op)) = some 5) : Has [(a, 1)] ⟨46, 0, pos, txt tx, [a]⟩ 192 L := by
  refine ⟨rfl, by simp [saysG, data_txt, ht], fun so h => ?_⟩
  have h0 := getS (h (a, 1) (by simp))
  dsimp only at h0
  refine ⟨by simp [hasG, exprG, stmtG, areF, List.getD_eq_getElem?_getD, h0, Ex.ok (σ := 1) (.inl rfl)], ?_⟩
  unfold sortG
  simp [h5]
theorem has_list {K : List (Int × Int)} (hk : ∀ p ∈ K, Ex p.2) : Has K ⟨7, 0, pos, ⟨#[]⟩, K.map (·.1)⟩ 1 L := by
  refine ⟨rfl, by simp [saysG], fun so h => ?_⟩
  have h1 := all_of h fun p hp => (hk p hp).ok
  refine ⟨by simp [hasG, exprG, h1], by simp [sortG]⟩
theorem has_dict {K : List (Int × Int)} (hk : ∀ p ∈ K, Ex p.2) (he : K.length % 2 = 0) : Has K ⟨9, 0, pos, ⟨#[]⟩, K.map (·.1)⟩ 1 L := by
  refine ⟨rfl, by simp [saysG], fun so h => ?_⟩
  have h1 := all_of h fun p hp => (hk p hp).ok
  refine ⟨by simp [hasG, exprG, h1, he], by simp [sortG]⟩
theorem has_tuple {K : List (Int × Int)} (hk : ∀ p ∈ K, Ex p.2) : ∃ σ, Ex σ ∧ Has K ⟨8, 0, pos, ⟨#[]⟩, K.map (·.1)⟩ σ L := by
  by_cases ht : K ≠ [] ∧ ∀ p ∈ K, okS p.2 8 = true
  · refine ⟨9, .inr (.inl rfl), rfl, by simp [saysG], fun so h => ?_⟩
    have h1 := all_of h fun p hp => (hk p hp).ok
    have h2 := all_of h ht.2
    refine ⟨by simp [hasG, exprG, h1], ?_⟩
    unfold sortG
    rw [if_neg (by simp), if_pos rfl, if_pos ⟨by simpa using ht.1, h2⟩]
  · refine ⟨1, .inl rfl, rfl, by simp [saysG], fun so h => ?_⟩
    have h1 := all_of h fun p hp => (hk p hp).ok
    refine ⟨by simp [hasG, exprG, h1], ?_⟩
    unfold sortG
    rw [if_neg (by simp), if_pos rfl, if_neg ?_]
    rintro ⟨a, b⟩
    refine ht ⟨by simpa using a, ?_⟩
    clear a ht h1 hk
    induction K with
    | nil => simp
    | cons p K ih =>
      rw [List.map_cons, allF, Bool.and_eq_true, List.getD_eq_getElem?_getD, getS (h p (List.mem_cons_self ..))] at b
      intro q hq
      rcases List.mem_cons.1 hq with rfl | hq
      · exact b.1
      · exact ih (fun q hq => h q (List.mem_cons_of_mem _ hq)) b.2 q hq
theorem has_tgt {K : List (Int × Int)} (hk : ∀ p ∈ K, Tg p.2) (hne : K ≠ []) : Has K ⟨8, 0, pos, ⟨#[]⟩, K.map (·.1)⟩ 9 L := by
  refine ⟨rfl, by simp [saysG], fun so h => ?_⟩
  have h1 := all_of h fun p hp => (hk p hp).ex.ok
  have h2 := all_of h fun p hp => (hk p hp).ok
  refine ⟨by simp [hasG, exprG, h1], ?_⟩
  unfold sortG
  rw [if_neg (by simp), if_pos rfl, if_pos ⟨by simpa using hne, h2⟩]
theorem has_block {K : List (Int × Int)} (hk : ∀ p ∈ K, p.2 = 32) (hne : K ≠ []) : Has K ⟨47, 0, pos, ⟨#[]⟩, K.map (·.1)⟩ 256 L := by
  refine ⟨rfl, by simp [saysG], fun so h => ?_⟩
  have h1 := all_of h fun p hp => (by rw [hk p hp]; exact ok_stmt : okS p.2 32 = true)
  refine ⟨?_, by simp [sortG]⟩
  simp [hasG, exprG, stmtG, h1, hne]
theorem has_load {K : List (Int × Int)} {tx : ByteArray} (hk : ∀ p ∈ K, p.2 = 192) (hne : K ≠ []) : Has K ⟨42, 0, pos, tx, K.map (·.1)⟩ 32 L := by
  refine ⟨rfl, by simp [saysG], fun so h => ?_⟩
  have h1 := all_of h fun p hp => (by rw [hk p hp]; exact ok_load : okS p.2 128 = true)
  refine ⟨?_, by simp [sortG]⟩
  simp [hasG, exprG, stmtG, h1, hne]
theorem has_defn {K : List (Int × Int)} {b : Int} {tx : List UInt8} (ht : nameB tx = true) (hk : ∀ p ∈ K, Pm p.2) : Has (K ++ [(b, 256)]) ⟨45, 0, pos, txt tx, K.map (·.1) ++ [b]⟩ 32 L := by
  refine ⟨rfl, by simp [saysG, data_txt, ht], fun so h => ?_⟩
  have h1 := all_of (fun p hp => h p (List.mem_append_left _ hp)) fun p hp => (hk p hp).ok
  have h0 := getS (h (b, 256) (by simp))
  dsimp only at h0
  refine ⟨?_, by simp [sortG]⟩
  have e1 : (K.map (·.1) ++ [b]).take ((K.map (·.1) ++ [b]).length - 1) = K.map (·.1) := by simp
  have e2 : (K.map (·.1) ++ [b]).drop ((K.map (·.1) ++ [b]).length - 1) = [b] := by simp
  unfold hasG exprG stmtG
  simp only [e1, e2]
  simp [areF, List.getD_eq_getElem?_getD, h0, ok_block, h1]
theorem by_front {so : List Int} {K1 K2 : List (Int × Int)} (h : ∀ p ∈ K1 ++ K2, 0 ≤ p.1 ∧ so[p.1.toNat]? = some p.2) (hk : ∀ p ∈ K1, Ex p.2) (h4 : ∀ p ∈ K2, p.2 = 4) (hne : K1 ≠ []) : ∀ n, n ≤ K2.length → byF so ((K1 ++ K2).map (·.1)) (K1.length + n) = K1.length := by
  have at_ : ∀ i (hi : i < (K1 ++ K2).length), so.getD (((K1 ++ K2).map fun p : Int × Int => p.1).getD i 0).toNat 0 = ((K1 ++ K2)[i]).2 := fun i hi => by
    have h1 := getS (h _ (List.getElem_mem hi))
    rw [List.getD_eq_getElem?_getD, List.getD_eq_getElem?_getD, List.getElem?_map, List.getElem?_eq_getElem hi]
    exact h1
  intro n
  induction n with
  | zero =>
    intro _
    obtain ⟨m, hm⟩ : ∃ m, K1.length = m + 1 := ⟨K1.length - 1, by have := List.length_pos_iff.2 hne; omega⟩
    rw [Nat.add_zero, hm]
    unfold byF
    have hl : m < (K1 ++ K2).length := by rw [List.length_append]; omega
    rw [at_ m hl, List.getElem_append_left (by omega), Ex.no (hk _ (List.getElem_mem (by omega)))]
    rfl
  | succ n ih =>
    intro hn
    rw [← Nat.add_assoc]
    unfold byF
    have hl : K1.length + n < (K1 ++ K2).length := by rw [List.length_append]; omega
    rw [at_ _ hl, List.getElem_append_right (by omega), h4 _ (List.getElem_mem _), ok_named, if_pos rfl]
    exact ih (by omega)
theorem has_call {K1 K2 : List (Int × Int)} (hk : ∀ p ∈ K1, Ex p.2) (h4 : ∀ p ∈ K2, p.2 = 4) (hne : K1 ≠ []) : Has (K1 ++ K2) ⟨10, 0, pos, ⟨#[]⟩, (K1 ++ K2).map (·.1)⟩ 1 L := by
  refine ⟨rfl, by simp [saysG], fun so h => ?_⟩
  have h1 := all_of (fun p hp => h p (List.mem_append_left _ hp)) fun p hp => (hk p hp).ok
  have h2 := by_front h hk h4 hne K2.length (Nat.le_refl _)
  refine ⟨?_, by simp [sortG]⟩
  have e3 : ((K1 ++ K2).map (·.1)).length = K1.length + K2.length := by simp
  have e4 : ((K1 ++ K2).map (·.1)).take K1.length = K1.map (·.1) := by rw [List.map_append, List.take_left' (by simp)]
  have hp := List.length_pos_iff.2 hne
  unfold hasG exprG callsF
  dsimp only
  rw [e3, h2, e4, h1]
  simp [hp]
end Vd
end Go.Proofs.YtpjjofdphlgeiaaGreatDoor
namespace Go.Proofs.YtpjjofdphlgeiaaGreatDoor
namespace Vd
open Lx Ax Ay Px

theorem forms_at {l : List Nd} : ∀ (r : List Nd) (i : Nat) (st st' : VS), st.tk.length = st.so.length → formsG l r i st = .inr st' → (∀ (j : Nat) y, st.so[j]? = some y → st'.so[j]? = some y) ∧ ∀ (j : Nat) x, r[j]? = some x → ∃ s1 : VS, (∀ (k : Nat) y, k < s1.tk.length → st'.so[k]? = some y → s1.so[k]? = some y) ∧ st'.so[st.so.length + j]? = some (sortG l s1.so x) ∧ ∃ tk, takeF x.kids s1.tk = some tk
  | [], i, st, st', hl, h => by
    injection h with h
    subst h
    exact ⟨fun _ _ h => h, fun j x hx => by simp at hx⟩
  | y :: r, i, st, st', hl, h => by
    rw [formsG] at h
    cases hf : formG l y st with
    | none => rw [hf] at h; cases h
    | some s1 =>
      rw [hf] at h
      dsimp only at h
      obtain ⟨tk, h1, h2, _⟩ := formG_take hf
      obtain ⟨a, b⟩ := forms_at r (i + 1) s1 st' (by rw [h2]; simp only [List.length_append, List.length_singleton, takeF_length h1]; omega) h
      have hk : ∀ (j : Nat) z, st.so[j]? = some z → s1.so[j]? = some z := fun j z hz => by
        rw [h2]
        dsimp only
        rw [List.getElem?_append_left (List.getElem?_eq_some_iff.1 hz).1]
        exact hz
      refine ⟨fun j z hz => a j z (hk j z hz), fun j x hx => ?_⟩
      cases j with
      | zero =>
        obtain rfl : y = x := by simpa using hx
        refine ⟨st, fun k z hk2 hz => ?_, a _ _ ?_, tk, h1⟩
        · have hk3 : k < st.so.length := by omega
          have h4 := a k _ (hk k _ (List.getElem?_eq_getElem hk3))
          rw [hz] at h4
          rw [List.getElem?_eq_getElem hk3]
          exact h4.symm
        · rw [h2]
          simp
      | succ j =>
        obtain ⟨s2, c, d, e⟩ := b j x (by simpa using hx)
        refine ⟨s2, c, ?_, e⟩
        rw [h2] at d
        simp only [List.length_append, List.length_singleton] at d
        rw [show st.so.length + (j + 1) = st.so.length + 1 + j by omega]
        exact d
theorem allT_all {f : Int → Option Bool} : ∀ {ks : List Int}, allT f ks = some true → ∀ k ∈ ks, f k = some true
  | [], _ => fun k hk => by simp at hk
  | z :: r, h => by
    unfold allT at h
    cases hz : f z with
    | none => rw [hz] at h; simp at h
    | some b =>
      rw [hz] at h
      cases b with
      | false => simp at h
      | true =>
        intro k hk
        rcases List.mem_cons.1 hk with rfl | hk
        · exact hz
        · exact allT_all (by simpa using h) k hk
theorem allF_all {so : List Int} {b : Int} : ∀ {ks : List Int}, (∀ k ∈ ks, okS (so.getD k.toNat 0) b = true) → allF so b ks = true
  | [], _ => rfl
  | k :: r, h => by
    unfold allF
    rw [h k (List.mem_cons_self ..), Bool.true_and]
    exact allF_all fun j hj => h j (List.mem_cons_of_mem _ hj)
theorem Good.at {L : List Nd} {st : VS} (h : Good L st) {j : Nat} {x : Nd} (hx : L[j]? = some x) : ∃ s1 : VS, (∀ (k : Nat) y, k < s1.tk.length → st.so[k]? = some y → s1.so[k]? = some y) ∧ st.so[j]? = some (sortG L s1.so x) ∧ ∃ tk, takeF x.kids s1.tk = some tk := by
  obtain ⟨_, b⟩ := forms_at L 0 ⟨[], []⟩ st rfl h
  have := b j x hx
  simpa using this
theorem cell_sort {L : List Nd} {st : VS} (h : Good L st) {j : Nat} {x : Nd} (hx : L[j]? = some x) (ho : (x.op == 6 || x.op == 13) = true) : st.so[j]? = some 25 := by
  obtain ⟨s1, _, b, _⟩ := h.at hx
  rw [b]
  unfold sortG
  rw [if_pos (by simpa using ho)]
theorem target_sort {L : List Nd} {st : VS} (h : Good L st) : ∀ (n : Nat) (z : Int), targetF n L z = some true → 0 ≤ z ∧ ∃ σ, Tg σ ∧ st.so[z.toNat]? = some σ
  | 0, z, e => by simp [targetF] at e
  | n + 1, z, e => by
    unfold targetF at e
    split at e
    · cases e
    · rename_i h0
      refine ⟨by omega, ?_⟩
      cases hx : L[z.toNat]? with
      | none => rw [hx] at e; simp at e
      | some x =>
        rw [hx] at e
        dsimp only at e
        split at e
        · rename_i ho
          exact ⟨25, .inr rfl, cell_sort h hx ho⟩
        · split at e
          · rename_i ho
            obtain ⟨s1, a, b, tk, c⟩ := h.at hx
            refine ⟨9, .inl rfl, ?_⟩
            have h8 : allF s1.so 8 x.kids = true := allF_all fun k hk => by
              obtain ⟨h1, σ, h2, h3⟩ := target_sort h n k (allT_all e k hk)
              have h4 := takeF_range c k hk
              have h5 := a k.toNat σ (by omega) h3
              rw [List.getD_eq_getElem?_getD, h5]
              exact h2.ok
            rw [b]
            unfold sortG
            rw [if_neg (by omega), if_pos ho.1, if_pos ⟨ho.2, h8⟩]
          · simp at e
/-- What is left of a sort, when the nodes tell more of it. -/
theorem Stk.sort {L : List Nd} {F : List (Int × Int)} (h : Stk L F) {p : Int × Int} (hp : p ∈ F) {n : Nat} (ht : targetF n L p.1 = some true) : Tg p.2 := by
  obtain ⟨st, hg, _, hs⟩ := h.form
  obtain ⟨_, a⟩ := hs p hp
  obtain ⟨_, σ, b, c⟩ := target_sort hg n p.1 ht
  rw [a] at c
  rw [Option.some.inj c]; exact b
theorem Stk.cell {L : List Nd} {F : List (Int × Int)} (h : Stk L F) {p : Int × Int} (hp : p ∈ F) {x : Nd} (hx : L[p.1.toNat]? = some x) (ho : (x.op == 6 || x.op == 13) = true) : p.2 = 25 := by
  obtain ⟨st, hg, _, hs⟩ := h.form
  obtain ⟨_, a⟩ := hs p hp
  rw [cell_sort hg hx ho] at a
  exact (Option.some.inj a).symm
def Okp (P : Int → List Int → Bool → PS → Prop) : R → Prop
  | .ok z zs c s => P z zs c s
  | _ => True
/-- The tokens' texts are names, numbers. -/
def TkT (ts : List Tok) : Prop := ∀ (j : Nat) t, ts[j]? = some t → (t.kind = 1 → nameB t.text = true) ∧ (t.kind = 2 → numB t.text = true)
section
variable {ts : List Tok} {s : PS} {Q : Int → List Int → Bool → PS → Prop}
theorem p_sign {f : List UInt8 → R} (H : ∀ t, ts[s.at_]? = some t → Okp Q (f (sg t))) : Okp Q (Px.signF ts s f) := by
  unfold Px.signF; cases h : ts[s.at_]? with
  | none => trivial
  | some t => exact H t h
theorem p_kind {f : Nat → R} (H : ∀ t, ts[s.at_]? = some t → Okp Q (f t.kind)) : Okp Q (kindF ts s f) := by
  unfold kindF; cases h : ts[s.at_]? with
  | none => trivial
  | some t => exact H t h
theorem p_next {f : Tok → PS → R} (H : ∀ t, ts[s.at_]? = some t → Okp Q (f t { s with at_ := s.at_ + 1 })) : Okp Q (nextF ts s f) := by
  unfold nextF; cases h : ts[s.at_]? with
  | none => trivial
  | some t => exact H t h
theorem p_begins {f : Bool → R} (H : ∀ b, Okp Q (f b)) : Okp Q (beginsF ts s f) := by
  unfold beginsF; cases ts[s.at_]? with
  | none => trivial
  | some t => exact H _
theorem p_rowB {k : Nat} {f : Bool → R} (H : ∀ b, Okp Q (f b)) : Okp Q (rowBF ts k s f) := by
  unfold rowBF; cases ts[s.at_]? with
  | none => trivial
  | some t => exact H _
theorem p_allow {b : Bool} {f : R} (H : b = true → Okp Q f) : Okp Q (allowF ts b s f) := by
  unfold allowF; cases ts[s.at_]? with
  | none => trivial
  | some t =>
    dsimp only
    split
    · rename_i h; exact H h
    · trivial
theorem p_need {l : List UInt8} {f : Int → PS → R} (H : ∀ pos, Okp Q (f pos { s with at_ := s.at_ + 1 })) : Okp Q (needF ts l s f) := by
  unfold needF; cases ts[s.at_]? with
  | none => trivial
  | some t =>
    dsimp only
    split
    · exact H _
    · trivial
theorem p_take {k : Nat} {f : Tok → PS → R} (H : ∀ t, ts[s.at_]? = some t → t.kind = k → Okp Q (f t { s with at_ := s.at_ + 1 })) : Okp Q (takeKF ts k s f) := by
  unfold takeKF; cases h : ts[s.at_]? with
  | none => trivial
  | some t =>
    dsimp only
    split
    · rename_i hk; exact H t h hk
    · trivial
theorem p_enter {l : List UInt8} {f : Int → PS → R} (H : ∀ pos, Okp Q (f pos { s with at_ := s.at_ + 1, deep := s.deep + 1 })) : Okp Q (enterF ts l s f) := by
  unfold enterF
  refine p_need fun pos => ?_
  split
  · trivial
  · exact H pos
theorem p_leave {f : PS → R} (H : Okp Q (f { s with deep := s.deep - 1 })) : Okp Q (leaveF s f) := by
  unfold leaveF
  split
  · trivial
  · exact H
theorem p_shut {l : List UInt8} {f : PS → R} (H : Okp Q (f { s with at_ := s.at_ + 1, deep := s.deep - 1 })) : Okp Q (shutF ts l s f) := by
  unfold shutF
  exact p_need fun _ => p_leave H
theorem p_pos {z : Int} {f : Int → R} (H : ∀ p, Okp Q (f p)) : Okp Q (posF s z f) := by
  unfold posF
  split
  · trivial
  · cases s.nodes[z.toNat]? with
    | none => trivial
    | some x => exact H _
theorem p_add {F : List (Int × Int)} {op pos : Int} {tx : ByteArray} {kids : List Int} {σ : Int} {f : Int → PS → R} (base K : List (Int × Int)) (h : Stk s.nodes F) (hF : F = base ++ K) (hk : kids.Perm (K.map (·.1))) (hh : Has K ⟨op, 0, pos, tx, kids⟩ σ s.nodes)
    (H : Stk (s.nodes ++ [⟨op, 0, pos, tx, kids⟩]) (base ++ [((s.nodes.length : Int), σ)]) → Okp Q (f s.nodes.length { s with nodes := s.nodes ++ [⟨op, 0, pos, tx, kids⟩] })) : Okp Q (addF op pos tx kids s f) := by
  unfold addF
  subst hF
  split
  · exact H (h.add _ hk hh)
  · trivial
theorem Okp.bind {P : Int → List Int → Bool → PS → Prop} {r : R} {f : Int → List Int → Bool → PS → R} (h : Okp P r) (hf : ∀ z zs c s, P z zs c s → Okp Q (f z zs c s)) : Okp Q (r.bind f) := by
  cases r with
  | stuck => trivial
  | bad => trivial
  | ok z zs c s => exact hf _ _ _ _ h
theorem Okp.mono {P : Int → List Int → Bool → PS → Prop} {r : R} (h : Okp P r) (hf : ∀ z zs c s, P z zs c s → Q z zs c s) : Okp Q r := by
  cases r with
  | stuck => trivial
  | bad => trivial
  | ok z zs c s => exact hf _ _ _ _ h
end
end Vd
end Go.Proofs.YtpjjofdphlgeiaaGreatDoor
namespace Go.Proofs.YtpjjofdphlgeiaaGreatDoor
namespace Vd
open Lx Ax Ay Px

def Rt (k : Nat) (σ : Int) : Prop := if k = 0 then Ex σ else Tg σ
theorem Rt.ex {k : Nat} {σ : Int} (h : Rt k σ) : Ex σ := by
  unfold Rt at h
  split at h
  · exact h
  · exact h.ex
theorem Rt.zero {σ : Int} (h : Ex σ) : Rt 0 σ := h
theorem Rt.tg {k : Nat} {σ : Int} (h : Tg σ) : Rt k σ := by
  unfold Rt
  split
  · exact h.ex
  · exact h
def One (P : Int → Prop) (z : Int) (B : List (Int × Int)) : Prop := ∃ σ, P σ ∧ B = [(z, σ)]
def All (P : Int → Prop) (zs : List Int) (B : List (Int × Int)) : Prop := B.map (·.1) = zs ∧ ∀ p ∈ B, P p.2
theorem One.imp {P P' : Int → Prop} {z : Int} {B : List (Int × Int)} (h : One P z B) (hf : ∀ σ, P σ → P' σ) : One P' z B := by
  obtain ⟨σ, a, b⟩ := h
  exact ⟨σ, hf σ a, b⟩
theorem All.nil {P : Int → Prop} : All P [] [] := ⟨rfl, fun p h => by simp at h⟩
theorem All.one {P : Int → Prop} {z σ : Int} (h : P σ) : All P [z] [(z, σ)] := ⟨rfl, fun p hp => by rw [List.mem_singleton.1 hp]; exact h⟩
theorem All.snoc {P : Int → Prop} {zs : List Int} {A : List (Int × Int)} {z σ : Int} (h : All P zs A) (hs : P σ) : All P (zs ++ [z]) (A ++ [(z, σ)]) := ⟨by rw [List.map_append, h.1]; rfl, fun p hp => (List.mem_append.1 hp).elim (h.2 p) fun hp => by rw [List.mem_singleton.1 hp]; exact hs⟩
theorem All.imp {P P' : Int → Prop} {zs : List Int} {B : List (Int × Int)} (h : All P zs B) (hf : ∀ σ, P σ → P' σ) : All P' zs B := ⟨h.1, fun p hp => hf _ (h.2 p hp)⟩
theorem All.len {P : Int → Prop} {zs : List Int} {B : List (Int × Int)} (h : All P zs B) : B.length = zs.length := by rw [← h.1, List.length_map]
/-- What a call takes: its function, arguments, then arguments with names. -/
def Cl (zs : List Int) (names : List (List UInt8)) (A : List (Int × Int)) : Prop := ∃ K1 K2, A = K1 ++ K2 ∧ A.map (·.1) = zs ∧ K1 ≠ [] ∧ (∀ p ∈ K1, Ex p.2) ∧ (∀ p ∈ K2, p.2 = 4) ∧ (names = [] → K2 = [])
theorem Cl.snoc {zs : List Int} {names : List (List UInt8)} {A : List (Int × Int)} {z σ : Int} {c : Bool} {u : List UInt8} (h : Cl zs names A) (hs : if c then σ = 4 else Ex σ ∧ names = []) : Cl (zs ++ [z]) (if c then u :: names else names) (A ++ [(z, σ)]) := by
  obtain ⟨K1, K2, e, m, n, a, b, d⟩ := h
  cases c with
  | true =>
    refine ⟨K1, K2 ++ [(z, σ)], by rw [e, List.append_assoc], by rw [List.map_append, m]; rfl, n, a, fun p hp => (List.mem_append.1 hp).elim (b p) fun hp => by rw [List.mem_singleton.1 hp]; exact hs, fun h => by simp at h⟩
  | false =>
    obtain ⟨h1, h2⟩ : Ex σ ∧ names = [] := hs
    have h3 := d h2
    subst h3
    refine ⟨K1 ++ [(z, σ)], [], by rw [e, List.append_nil, List.append_nil], by rw [List.map_append, m]; rfl, by simp, fun p hp => (List.mem_append.1 hp).elim (a p) fun hp => by rw [List.mem_singleton.1 hp]; exact h1, fun p hp => by simp at hp, fun _ => rfl⟩
/-- The sorts of what a part is given. -/
def InS : Q → List (Int × Int) → Prop
  | .binLoop _ z, A | .primLoop z, A | .dot z, A | .call z, A | .index z, A => One Ex z A
  | .rowLoop k zs c, A => All (Rt k) zs A ∧ zs ≠ [] ∧ (c = false → zs.length = 1)
  | .args zs names, A => Cl zs names A
  | .params zs _ _, A => All Pm zs A
  | .pairs zs, A | .pair zs, A => All Ex zs A ∧ zs.length % 2 = 0
  | .fileLoop zs, A | .linesLoop _ zs, A => All (· = 32) zs A
  | .loadLoop zs, A => All (· = 192) zs A ∧ zs ≠ []
  | _, A => A = []
/-- .. of what it answers. -/
def OutS (ts : List Tok) (s' : PS) : Q → Int → List Int → Bool → List (Int × Int) → Prop
  | .row k, _, zs, c, B | .rowLoop k _ _, _, zs, c, B => All (Rt k) zs B ∧ zs ≠ [] ∧ (c = false → zs.length = 1)
  | .orNone, _, zs, c, B => All Ex zs B ∧ (c = false → zs.length = 1)
  | .bare k, z, _, _, B | .round k, z, _, _, B => One (Rt k) z B
  | .target, z, _, _, B => One Tg z B
  | .params _ _ _, _, zs, _, B => All Pm zs B
  | .param _ _, z, _, _, B => One Pm z B
  | .args _ _, _, zs, _, B => ∃ names, Cl zs names B
  | .argument names, z, _, c, B => ∃ σ, B = [(z, σ)] ∧ (if c then σ = 4 else Ex σ ∧ names = [])
  | .bound k, z, _, _, B => ∃ σ, B = [(z, σ)] ∧ (Ex σ ∨ (σ = 2 ∧ ∃ t, ts[s'.at_]? = some t ∧ sg t = (if k = 0 then [58] else [93])))
  | .rounds, _, zs, _, B => ∃ t o σ1 σ2, Tg σ1 ∧ Ex σ2 ∧ ((zs = [t, o] ∧ B = [(t, σ1), (o, σ2)]) ∨ ∃ c σ3, Ex σ3 ∧ zs = [t, o, c] ∧ B = [(t, σ1), (o, σ2), (c, σ3)])
  | .pairs _, _, zs, _, B | .pair _, _, zs, _, B => All Ex zs B ∧ zs.length % 2 = 0
  | .fileLoop _, _, zs, _, B | .lines _, _, zs, _, B | .linesLoop _ _, _, zs, _, B => All (· = 32) zs B
  | .loadLoop _, _, zs, _, B => All (· = 192) zs B ∧ zs ≠ []
  | .loaded, z, _, _, B => One (· = 192) z B
  | .statement _, z, _, _, B | .line _, z, _, _, B | .simple _, z, _, _, B | .assignment, z, _, _, B | .load, z, _, _, B | .cond _ _, z, _, _, B | .loop _, z, _, _, B | .result, z, _, _, B | .def_, z, _, _, B => One (· = 32) z B
  | .file, z, _, _, B | .block _, z, _, _, B | .elif _, z, _, _, B => One (· = 256) z B
  | .alone, _, _, _, _ => True
  | _, z, _, _, B => One Ex z B
def StP (ts : List Tok) (q : Q) (base : List (Int × Int)) (z : Int) (zs : List Int) (c : Bool) (s' : PS) : Prop := ∃ B, OutS ts s' q z zs c B ∧ Stk s'.nodes (base ++ B)
def St (ts : List Tok) (n : Nat) : Prop := ∀ q s A base, Stk s.nodes (base ++ A) → InS q A → Okp (StP ts q base) (runF ts n q s)
def StB (ts : List Tok) (n : Nat) (q : Q) : Prop := ∀ s A base, Stk s.nodes (base ++ A) → InS q A → Okp (StP ts q base) (bodyF ts (runF ts n) q s)
section
variable {ts : List Tok} {n : Nat} {s : PS} {Q' : Int → List Int → Bool → PS → Prop}
theorem p_call {q : Q} {F : List (Int × Int)} {f : Int → List Int → Bool → PS → R} (IH : St ts n) (base A : List (Int × Int)) (h : Stk s.nodes F) (hF : F = base ++ A) (hI : InS q A)
    (H : ∀ z zs c s' B, OutS ts s' q z zs c B → Stk s'.nodes (base ++ B) → Okp Q' (f z zs c s')) : Okp Q' ((runF ts n q s).bind f) := by
  subst hF
  exact (IH q s A base h hI).bind fun z zs c s' ⟨B, a, b⟩ => H z zs c s' B a b
theorem p_tail {q : Q} {F : List (Int × Int)} (IH : St ts n) (base A : List (Int × Int)) (h : Stk s.nodes F) (hF : F = base ++ A) (hI : InS q A)
    (H : ∀ z zs c s' B, OutS ts s' q z zs c B → Stk s'.nodes (base ++ B) → Q' z zs c s') : Okp Q' (runF ts n q s) := by
  subst hF
  exact (IH q s A base h hI).mono fun z zs c s' ⟨B, a, b⟩ => H z zs c s' B a b
/-- One answer, of this sort. -/
theorem p_one {P : Int → Prop} {base F : List (Int × Int)} {z σ : Int} {q : Q} (h : Stk s.nodes F) (hF : F = base ++ [(z, σ)]) (hs : P σ) (hq : ∀ B, One P z B → OutS ts s q z [] false B) : Okp (StP ts q base) (Px.one z s) := ⟨[(z, σ)], hq _ ⟨σ, hs, rfl⟩, by rw [← hF]; exact h⟩
theorem p_join {base B : List (Int × Int)} {k : Nat} {zs : List Int} {c : Bool} {pos : Int} (h : Stk s.nodes (base ++ B)) (hB : All (Rt k) zs B) (hn : k ≠ 0 → zs ≠ []) (hc : c = false → zs.length = 1) : Okp (fun z _ _ s' => ∃ B, One (Rt k) z B ∧ Stk s'.nodes (base ++ B)) (joinF zs c pos s) := by
  obtain ⟨e, hb⟩ := hB
  subst e
  unfold joinF
  split
  · by_cases hk : k = 0
    · subst hk
      obtain ⟨σ, a, b⟩ := has_tuple (L := s.nodes) (pos := pos) fun p hp => (hb p hp : Ex p.2)
      exact p_add _ _ h rfl (List.Perm.refl _) b fun h2 => ⟨_, ⟨σ, a, rfl⟩, h2⟩
    · have b := has_tgt (L := s.nodes) (pos := pos) (K := B) (fun p hp => by have := hb p hp; unfold Rt at this; rwa [if_neg hk] at this) (by simpa using hn hk)
      exact p_add _ _ h rfl (List.Perm.refl _) b fun h2 => ⟨_, ⟨9, Rt.tg (.inl rfl), rfl⟩, h2⟩
  · rename_i hc2
    have h1 := hc (by simpa using hc2)
    rw [List.length_map] at h1
    obtain ⟨p, rfl⟩ := List.length_eq_one_iff.1 h1
    exact ⟨[p], ⟨p.2, hb p (by simp), rfl⟩, h⟩
theorem p_block {base B : List (Int × Int)} {zs : List Int} (h : Stk s.nodes (base ++ B)) (hB : All (· = 32) zs B) : Okp (fun z _ _ s' => ∃ B, One (· = 256) z B ∧ Stk s'.nodes (base ++ B)) (blockF zs s) := by
  obtain ⟨e, hb⟩ := hB
  unfold blockF
  split
  · trivial
  · rename_i z r
    refine p_pos fun p => ?_
    have b := has_block (L := s.nodes) (pos := p) (K := B) hb (by rintro rfl; simp at e)
    rw [e] at b
    exact p_add _ _ h rfl (by rw [e]) b fun h2 => ⟨_, ⟨256, rfl, rfl⟩, h2⟩
end
end Vd
end Go.Proofs.YtpjjofdphlgeiaaGreatDoor
namespace Go.Proofs.YtpjjofdphlgeiaaGreatDoor
namespace Vd
open Lx Ax Ay Px
variable {ts : List Tok} {n : Nat}

theorem part_s (k : Nat) : InS (partF k) [] ∧ ∀ s' z zs c B, OutS ts s' (partF k) z zs c B → One Ex z B := by
  rcases k with _ | _ | _ | k <;> exact ⟨rfl, fun _ _ _ _ _ h => h⟩
theorem opF_in {k : Nat} {l : List UInt8} (h : opF k l ≠ 0) : opF k l = 18 ∨ opF k l = 19 ∨ (21 ≤ opF k l ∧ opF k l ≤ 33) := by
  rcases k with _ | _ | _ | k
  · simp only [opF] at h ⊢; split at h <;> simp_all
  · simp only [opF] at h ⊢; split at h <;> simp_all
  · simp only [opF, sumOp] at h ⊢; split <;> simp_all
  · simp only [opF, mulOp] at h ⊢; split <;> simp_all
    split <;> simp_all
theorem cmpOp_in {l : List UInt8} (h : cmpOp l ≠ 0) : cmpOp l = 18 ∨ cmpOp l = 19 ∨ (21 ≤ cmpOp l ∧ cmpOp l ≤ 33) := by
  refine .inr (.inr ?_)
  revert h
  unfold cmpOp
  intro h
  split
  · decide
  split
  · decide
  split
  · decide
  split
  · decide
  split
  · decide
  split
  · decide
  split
  · decide
  split
  · decide
  · simp_all
theorem st_test (IH : St ts n)  : StB ts n .test := by
  intro s A base h hI
  obtain rfl : A = [] := hI
  rw [List.append_nil] at h
  unfold bodyF
  dsimp only
  refine p_call IH (base) ([]) h (by simp) (rfl) fun z1 zs1 c1 s1 B1 O1 h1 => ?_
  obtain ⟨σ1, e1, rfl⟩ : One (Ex) z1 B1 := O1
  refine p_sign fun t ht => ?_
  split
  · refine p_enter fun pos => ?_
    refine p_call IH (base ++ [(z1, σ1)]) ([]) h1 (by simp) (rfl) fun z2 zs2 c2 s2 B2 O2 h2 => ?_
    obtain ⟨σ2, e2, rfl⟩ : One (Ex) z2 B2 := O2
    refine p_need fun _ => ?_
    refine p_call IH (base ++ [(z1, σ1)] ++ [(z2, σ2)]) ([]) h2 (by simp) (rfl) fun z3 zs3 c3 s3 B3 O3 h3 => ?_
    obtain ⟨σ3, e3, rfl⟩ : One (Ex) z3 B3 := O3
    refine p_leave ?_
    refine p_add (base) ([(z1, σ1), (z2, σ2), (z3, σ3)]) h3 (by simp) (List.Perm.swap ..) (has_if e1 e2 e3) fun h4 => ?_
    exact ⟨_, ⟨1, .inl rfl, rfl⟩, h4⟩
  · exact ⟨_, ⟨σ1, e1, rfl⟩, h1⟩
theorem st_bin (IH : St ts n) (k : Nat) : StB ts n (.bin k) := by
  intro s A base h hI
  obtain rfl : A = [] := hI
  rw [List.append_nil] at h
  unfold bodyF
  dsimp only
  obtain ⟨k1, k2⟩ := part_s (ts := ts) k
  refine p_call IH (base) ([]) h (by simp) (k1) fun z5 zs5 c5 s5 B5 O5 h5 => ?_
  obtain ⟨σ5, e5, rfl⟩ := k2 _ _ _ _ _ O5
  exact p_tail IH (base) ([(z5, σ5)]) h5 (by simp) (⟨_, e5, rfl⟩) fun z zs c s B O h => ⟨B, O, h⟩
theorem st_binLoop (IH : St ts n) (k : Nat) (z : Int) : StB ts n (.binLoop k z) := by
  intro s A base h hI
  obtain ⟨σ, e, rfl⟩ : One Ex z A := hI
  unfold bodyF
  dsimp only
  obtain ⟨k1, k2⟩ := part_s (ts := ts) k
  refine p_sign fun t ht => ?_
  split
  · exact ⟨_, ⟨σ, e, rfl⟩, h⟩
  · rename_i hl
    refine p_next fun u hu => ?_
    refine p_call IH (base ++ [(z, σ)]) ([]) h (by simp) (k1) fun z6 zs6 c6 s6 B6 O6 h6 => ?_
    obtain ⟨σ6, e6, rfl⟩ := k2 _ _ _ _ _ O6
    refine p_add (base) ([(z, σ), (z6, σ6)]) h6 (by simp) (.refl _) (has_bin (opF_in hl) e e6) fun h7 => ?_
    exact p_tail IH (base) ([(_, 1)]) h7 (by simp) (⟨_, .inl rfl, rfl⟩) fun z zs c s B O h => ⟨B, O, h⟩
theorem st_not (IH : St ts n)  : StB ts n .not := by
  intro s A base h hI
  obtain rfl : A = [] := hI
  rw [List.append_nil] at h
  unfold bodyF
  dsimp only
  refine p_sign fun t ht => ?_
  split
  · exact p_tail IH (base) ([]) h (by simp) (rfl) fun z zs c s B O h => ⟨B, O, h⟩
  · exact p_tail IH (base) ([]) h (by simp) (rfl) fun z zs c s B O h => ⟨B, O, h⟩
theorem st_ahead (IH : St ts n) (k : Nat) : StB ts n (.ahead k) := by
  intro s A base h hI
  obtain rfl : A = [] := hI
  rw [List.append_nil] at h
  unfold bodyF
  dsimp only
  refine p_enter fun pos => ?_
  by_cases hk : k = 0
  · simp only [if_pos hk]
    refine p_call IH (base) ([]) h (by simp) (rfl) fun z8 zs8 c8 s8 B8 O8 h8 => ?_
    obtain ⟨σ8, e8, rfl⟩ : One (Ex) z8 B8 := O8
    refine p_leave ?_
    refine p_add (base) ([(z8, σ8)]) h8 (by simp) (.refl _) (has_not e8) fun h9 => ?_
    exact ⟨_, ⟨1, .inl rfl, rfl⟩, h9⟩
  · simp only [if_neg hk]
    refine p_call IH (base) ([]) h (by simp) (rfl) fun z10 zs10 c10 s10 B10 O10 h10 => ?_
    obtain ⟨σ10, e10, rfl⟩ : One (Ex) z10 B10 := O10
    refine p_leave ?_
    refine p_add (base) ([(z10, σ10)]) h10 (by simp) (.refl _) (has_neg e10) fun h11 => ?_
    exact ⟨_, ⟨1, .inl rfl, rfl⟩, h11⟩
theorem st_compare (IH : St ts n)  : StB ts n .compare := by
  intro s A base h hI
  obtain rfl : A = [] := hI
  rw [List.append_nil] at h
  unfold bodyF
  dsimp only
  refine p_call IH (base) ([]) h (by simp) (rfl) fun z12 zs12 c12 s12 B12 O12 h12 => ?_
  obtain ⟨σ12, e12, rfl⟩ : One (Ex) z12 B12 := O12
  refine p_sign fun t ht => ?_
  split
  · exact ⟨_, ⟨σ12, e12, rfl⟩, h12⟩
  · rename_i hl
    refine p_next fun u hu => ?_
    split
    · refine p_need fun _ => ?_
      refine p_call IH (base ++ [(z12, σ12)]) ([]) h12 (by simp) (rfl) fun z13 zs13 c13 s13 B13 O13 h13 => ?_
      obtain ⟨σ13, e13, rfl⟩ : One (Ex) z13 B13 := O13
      refine p_add (base) ([(z12, σ12), (z13, σ13)]) h13 (by simp) (.refl _) (has_bin (cmpOp_in hl) e12 e13) fun h14 => ?_
      exact ⟨_, ⟨1, .inl rfl, rfl⟩, h14⟩
    · refine p_call IH (base ++ [(z12, σ12)]) ([]) h12 (by simp) (rfl) fun z15 zs15 c15 s15 B15 O15 h15 => ?_
      obtain ⟨σ15, e15, rfl⟩ : One (Ex) z15 B15 := O15
      refine p_add (base) ([(z12, σ12), (z15, σ15)]) h15 (by simp) (.refl _) (has_bin (cmpOp_in hl) e12 e15) fun h16 => ?_
      exact ⟨_, ⟨1, .inl rfl, rfl⟩, h16⟩
theorem st_unary (IH : St ts n)  : StB ts n .unary := by
  intro s A base h hI
  obtain rfl : A = [] := hI
  rw [List.append_nil] at h
  unfold bodyF
  dsimp only
  refine p_sign fun t ht => ?_
  split
  · exact p_tail IH (base) ([]) h (by simp) (rfl) fun z zs c s B O h => ⟨B, O, h⟩
  · exact p_tail IH (base) ([]) h (by simp) (rfl) fun z zs c s B O h => ⟨B, O, h⟩
theorem st_primary (IH : St ts n)  : StB ts n .primary := by
  intro s A base h hI
  obtain rfl : A = [] := hI
  rw [List.append_nil] at h
  unfold bodyF
  dsimp only
  refine p_call IH (base) ([]) h (by simp) (rfl) fun z17 zs17 c17 s17 B17 O17 h17 => ?_
  obtain ⟨σ17, e17, rfl⟩ : One (Ex) z17 B17 := O17
  exact p_tail IH (base) ([(z17, σ17)]) h17 (by simp) (⟨_, e17, rfl⟩) fun z zs c s B O h => ⟨B, O, h⟩
theorem st_primLoop (IH : St ts n) (z : Int) : StB ts n (.primLoop z) := by
  intro s A base h hI
  obtain ⟨σ, e, rfl⟩ : One Ex z A := hI
  unfold bodyF
  dsimp only
  refine p_sign fun t ht => ?_
  split
  · refine p_call IH (base) ([(z, σ)]) h (by simp) (⟨_, e, rfl⟩) fun z18 zs18 c18 s18 B18 O18 h18 => ?_
    obtain ⟨σ18, e18, rfl⟩ : One (Ex) z18 B18 := O18
    exact p_tail IH (base) ([(z18, σ18)]) h18 (by simp) (⟨_, e18, rfl⟩) fun z zs c s B O h => ⟨B, O, h⟩
  split
  · refine p_call IH (base) ([(z, σ)]) h (by simp) (⟨_, e, rfl⟩) fun z19 zs19 c19 s19 B19 O19 h19 => ?_
    obtain ⟨σ19, e19, rfl⟩ : One (Ex) z19 B19 := O19
    exact p_tail IH (base) ([(z19, σ19)]) h19 (by simp) (⟨_, e19, rfl⟩) fun z zs c s B O h => ⟨B, O, h⟩
  split
  · refine p_call IH (base) ([(z, σ)]) h (by simp) (⟨_, e, rfl⟩) fun z20 zs20 c20 s20 B20 O20 h20 => ?_
    obtain ⟨σ20, e20, rfl⟩ : One (Ex) z20 B20 := O20
    exact p_tail IH (base) ([(z20, σ20)]) h20 (by simp) (⟨_, e20, rfl⟩) fun z zs c s B O h => ⟨B, O, h⟩
  · exact ⟨_, ⟨σ, e, rfl⟩, h⟩
theorem st_dot (T : TkT ts) (z : Int) : StB ts n (.dot z) := by
  intro s A base h hI
  obtain ⟨σ, e, rfl⟩ : One Ex z A := hI
  unfold bodyF
  dsimp only
  refine p_need fun pos => ?_
  refine p_take fun t ht hk => ?_
  refine p_add (base) ([(z, σ)]) h (by simp) (.refl _) (has_dot ((T _ _ ht).1 hk) e) fun h21 => ?_
  exact ⟨_, ⟨1, .inl rfl, rfl⟩, h21⟩
theorem st_call (IH : St ts n) (z : Int) : StB ts n (.call z) := by
  intro s A base h hI
  obtain ⟨σ, e, rfl⟩ : One Ex z A := hI
  unfold bodyF
  dsimp only
  refine p_enter fun pos => ?_
  refine p_call IH (base) ([(z, σ)]) h (by simp) (⟨[(z, σ)], [], rfl, rfl, by simp, fun p hp => by rw [List.mem_singleton.1 hp]; exact e, fun p hp => by simp at hp, fun _ => rfl⟩) fun z22 zs22 c22 s22 B22 O22 h22 => ?_
  obtain ⟨names, K1, K2, rfl, m, a, b, d, _⟩ : ∃ names, Cl zs22 names B22 := O22
  refine p_shut ?_
  refine p_add _ _ h22 rfl (by rw [m]) (by rw [← m]; exact has_call b d a) fun h9 => ?_
  exact ⟨_, ⟨1, .inl rfl, rfl⟩, h9⟩
theorem st_args (IH : St ts n) (zs : List Int) (names : List (List UInt8)) : StB ts n (.args zs names) := by
  intro s A base h hI
  unfold bodyF
  dsimp only
  have hI : Cl zs names A := hI
  refine p_sign fun t ht => ?_
  split
  · exact ⟨A, ⟨names, hI⟩, h⟩
  · refine p_next fun u hu => ?_
    refine p_call IH (base ++ A) ([]) h (by simp) rfl fun z1 zs1 c1 s1 B1 O1 h1 => ?_
    obtain ⟨σ, rfl, e⟩ : ∃ σ, B1 = [(z1, σ)] ∧ (if c1 then σ = 4 else Ex σ ∧ names = []) := O1
    have h2 := hI.snoc (z := z1) (u := u.text) e
    rw [List.append_assoc] at h1
    split
    · refine p_sign fun t ht => ?_
      split
      · exact ⟨_, ⟨_, h2⟩, h1⟩
      · refine p_need fun _ => ?_
        exact p_tail IH _ _ h1 rfl h2 fun z zs c s B O h => ⟨B, O, h⟩
    · trivial
theorem st_argument (IH : St ts n) (T : TkT ts) (names : List (List UInt8)) : StB ts n (.argument names) := by
  intro s A base h hI
  obtain rfl : A = [] := hI
  rw [List.append_nil] at h
  unfold bodyF
  dsimp only
  refine p_next fun u hu => ?_
  have plain : Okp (StP ts (.argument names) base) (if names = [] then (runF ts n .test s).bind fun z _ _ s => .ok z [] false s else .bad false u.pos) := by
    split
    · rename_i hn
      refine p_call IH (base) ([]) h (by simp) rfl fun z1 zs1 c1 s1 B1 O1 h1 => ?_
      obtain ⟨σ, e, rfl⟩ : One Ex z1 B1 := O1
      exact ⟨_, ⟨σ, rfl, e, hn⟩, h1⟩
    · trivial
  split
  · rename_i hk
    split
    · trivial
    · split
      · split
        · trivial
        · refine p_need fun _ => ?_
          refine p_call IH (base) ([]) h (by simp) rfl fun z1 zs1 c1 s1 B1 O1 h1 => ?_
          obtain ⟨σ, e, rfl⟩ : One Ex z1 B1 := O1
          refine p_add (base) ([(z1, σ)]) h1 rfl (.refl _) (has_arg ((T _ _ hu).1 hk) e) fun h2 => ?_
          exact ⟨_, ⟨4, rfl, rfl⟩, h2⟩
      · exact plain
  · exact plain
theorem st_params (IH : St ts n) (zs : List Int) (names : List (List UInt8)) (given : Bool) : StB ts n (.params zs names given) := by
  intro s A base h hI
  unfold bodyF
  dsimp only
  have hI : All Pm zs A := hI
  refine p_sign fun t ht => ?_
  split
  · exact ⟨A, hI, h⟩
  · refine p_next fun u hu => ?_
    refine p_call IH (base ++ A) ([]) h (by simp) rfl fun z1 zs1 c1 s1 B1 O1 h1 => ?_
    obtain ⟨σ, e, rfl⟩ : One Pm z1 B1 := O1
    have h2 := hI.snoc (z := z1) e
    rw [List.append_assoc] at h1
    split
    · refine p_sign fun t ht => ?_
      split
      · exact ⟨_, h2, h1⟩
      · refine p_need fun _ => ?_
        exact p_tail IH _ _ h1 rfl h2 fun z zs c s B O h => ⟨B, O, h⟩
    · trivial
theorem st_param (IH : St ts n) (T : TkT ts) (names : List (List UInt8)) (given : Bool) : StB ts n (.param names given) := by
  intro s A base h hI
  obtain rfl : A = [] := hI
  rw [List.append_nil] at h
  unfold bodyF
  dsimp only
  refine p_take fun u hu hk => ?_
  refine p_sign fun t ht => ?_
  split
  · split
    · trivial
    · refine p_call IH (base) ([]) h (by simp) rfl fun z1 zs1 c1 s1 B1 O1 h1 => ?_
      obtain ⟨σ, e, rfl⟩ : One Ex z1 B1 := O1
      obtain ⟨σ2, a, b⟩ := has_param (L := s1.nodes) (pos := u.pos) (a := z1) ((T _ _ hu).1 hk) e
      refine p_add (base) ([(z1, σ)]) h1 rfl (.refl _) b fun h2 => ?_
      exact ⟨_, ⟨σ2, a, rfl⟩, h2⟩
  · split
    · trivial
    · refine p_add (base) ([]) h (by simp) (.refl _) (has_param0 ((T _ _ hu).1 hk)) fun h2 => ?_
      exact ⟨_, ⟨64, .inl rfl, rfl⟩, h2⟩
theorem st_bound (IH : St ts n) (k : Nat) : StB ts n (.bound k) := by
  intro s A base h hI
  obtain rfl : A = [] := hI
  rw [List.append_nil] at h
  unfold bodyF
  dsimp only
  refine p_sign fun t ht => ?_
  by_cases hl : sg t = (if k = 0 then [58] else [93])
  · rw [if_pos hl]
    refine p_next fun u hu => ?_
    refine p_add (base) ([]) h (by simp) (.refl _) has_nothing fun h2 => ?_
    exact ⟨_, ⟨2, rfl, .inr ⟨rfl, t, ht, hl⟩⟩, h2⟩
  · rw [if_neg hl]
    refine p_tail IH (base) ([]) h (by simp) rfl fun z1 zs1 c1 s1 B1 O1 h1 => ?_
    obtain ⟨σ, e, rfl⟩ : One Ex z1 B1 := O1
    exact ⟨_, ⟨σ, rfl, .inl e⟩, h1⟩
theorem st_index (IH : St ts n) (z : Int) : StB ts n (.index z) := by
  intro s A base h hI
  obtain ⟨σ, e, rfl⟩ : One Ex z A := hI
  unfold bodyF
  dsimp only
  refine p_enter fun pos => ?_
  refine p_call IH (base ++ [(z, σ)]) ([]) h (by simp) rfl fun z1 zs1 c1 s1 B1 O1 h1 => ?_
  obtain ⟨σ1, rfl, e1⟩ := O1
  refine p_sign fun t ht => ?_
  split
  · refine p_call IH (base ++ [(z, σ)] ++ [(z1, σ1)]) ([]) h1 (by simp) rfl fun z2 zs2 c2 s2 B2 O2 h2 => ?_
    obtain ⟨σ2, rfl, e2⟩ := O2
    refine p_shut ?_
    refine p_add (base) ([(z, σ), (z1, σ1), (z2, σ2)]) h2 (by simp) (.refl _) (has_slice e (e1.elim .inr fun h => .inl h.1) (e2.elim .inr fun h => .inl h.1)) fun h3 => ?_
    exact ⟨_, ⟨1, .inl rfl, rfl⟩, h3⟩
  · rename_i hl
    have e3 : Ex σ1 := by
      rcases e1 with e1 | ⟨_, u, hu, hs⟩
      · exact e1
      · rw [ht] at hu
        rw [Option.some.inj hu] at hl
        exact absurd hs hl
    refine p_shut ?_
    refine p_add (base) ([(z, σ), (z1, σ1)]) h1 (by simp) (.refl _) (has_index e e3) fun h3 => ?_
    exact ⟨_, ⟨25, .inr (.inr rfl), rfl⟩, h3⟩
theorem st_list (IH : St ts n) : StB ts n .list := by
  intro s A base h hI
  obtain rfl : A = [] := hI
  rw [List.append_nil] at h
  unfold bodyF
  dsimp only
  refine p_enter fun pos => ?_
  refine p_call IH (base) ([]) h (by simp) rfl fun z1 zs1 c1 s1 B1 O1 h1 => ?_
  obtain ⟨⟨m, a⟩, hc⟩ : All Ex zs1 B1 ∧ (c1 = false → zs1.length = 1) := O1
  subst m
  have plain : Okp (StP ts .list base) (shutF ts [93] s1 fun s => addF 7 pos ⟨#[]⟩ (B1.map (·.1)) s Px.one) := by
    refine p_shut ?_
    exact p_add _ _ h1 rfl (.refl _) (has_list a) fun h2 => ⟨_, ⟨1, .inl rfl, rfl⟩, h2⟩
  split
  · exact plain
  · rename_i hcf
    have h9 := hc (by simpa using hcf)
    rw [List.length_map] at h9
    obtain ⟨p, rfl⟩ := List.length_eq_one_iff.1 h9
    refine p_sign fun t ht => ?_
    split
    · refine p_call IH (base ++ [p]) ([]) h1 (by simp) rfl fun z2 zs2 c2 s2 B2 O2 h2 => ?_
      obtain ⟨t, o, σ1, σ2, e1, e2, hh⟩ := O2
      have e0 := a p (by simp)
      obtain ⟨x, σ⟩ := p
      rcases hh with ⟨rfl, rfl⟩ | ⟨c, σ3, e3, rfl, rfl⟩
      · dsimp only
        split
        · refine p_shut ?_
          exact p_add (base) ([(x, σ), (t, σ1), (o, σ2)]) h2 (by simp) (.refl _) (has_comp e0 e1 e2) fun h3 => ⟨_, ⟨1, .inl rfl, rfl⟩, h3⟩
        · trivial
      · dsimp only
        split
        · refine p_shut ?_
          exact p_add (base) ([(x, σ), (t, σ1), (o, σ2), (c, σ3)]) h2 (by simp) (.refl _) (has_comp4 e0 e1 e2 e3) fun h3 => ⟨_, ⟨1, .inl rfl, rfl⟩, h3⟩
        · trivial
    · exact plain
theorem st_rounds (IH : St ts n) : StB ts n .rounds := by
  intro s A base h hI
  obtain rfl : A = [] := hI
  rw [List.append_nil] at h
  unfold bodyF
  dsimp only
  refine p_need fun _ => ?_
  refine p_call IH (base) ([]) h (by simp) rfl fun z1 zs1 c1 s1 B1 O1 h1 => ?_
  obtain ⟨σ1, e1, rfl⟩ : One (Rt 1) z1 B1 := O1
  refine p_need fun _ => ?_
  refine p_call IH (base ++ [(z1, σ1)]) ([]) h1 (by simp) rfl fun z2 zs2 c2 s2 B2 O2 h2 => ?_
  obtain ⟨σ2, e2, rfl⟩ : One Ex z2 B2 := O2
  refine p_sign fun t ht => ?_
  split
  · refine p_call IH (base ++ [(z1, σ1)] ++ [(z2, σ2)]) ([]) h2 (by simp) rfl fun z3 zs3 c3 s3 B3 O3 h3 => ?_
    obtain ⟨σ3, e3, rfl⟩ : One Ex z3 B3 := O3
    exact ⟨_, ⟨z1, z2, σ1, σ2, e1, e2, .inr ⟨z3, σ3, e3, rfl, rfl⟩⟩, by simpa using h3⟩
  · exact ⟨_, ⟨z1, z2, σ1, σ2, e1, e2, .inl ⟨rfl, rfl⟩⟩, by simpa using h2⟩
theorem st_dict (IH : St ts n) : StB ts n .dict := by
  intro s A base h hI
  obtain rfl : A = [] := hI
  rw [List.append_nil] at h
  unfold bodyF
  dsimp only
  refine p_enter fun pos => ?_
  refine p_call IH (base) ([]) h (by simp) ⟨All.nil, rfl⟩ fun z1 zs1 c1 s1 B1 O1 h1 => ?_
  obtain ⟨⟨m, a⟩, hc⟩ : All Ex zs1 B1 ∧ zs1.length % 2 = 0 := O1
  subst m
  rw [List.length_map] at hc
  refine p_shut ?_
  exact p_add _ _ h1 rfl (.refl _) (has_dict a hc) fun h2 => ⟨_, ⟨1, .inl rfl, rfl⟩, h2⟩
theorem st_pairs (IH : St ts n) (zs : List Int) : StB ts n (.pairs zs) := by
  intro s A base h hI
  unfold bodyF
  dsimp only
  refine p_sign fun t ht => ?_
  split
  · exact ⟨A, hI, h⟩
  · refine p_call IH _ _ h rfl hI fun z1 zs1 c1 s1 B1 O1 h1 => ?_
    split
    · refine p_sign fun t ht => ?_
      split
      · exact ⟨_, O1, h1⟩
      · refine p_need fun _ => ?_
        exact p_tail IH _ _ h1 rfl O1 fun z zs c s B O h => ⟨B, O, h⟩
    · trivial
theorem st_pair (IH : St ts n) (zs : List Int) : StB ts n (.pair zs) := by
  intro s A base h hI
  obtain ⟨a, b⟩ : All Ex zs A ∧ zs.length % 2 = 0 := hI
  unfold bodyF
  dsimp only
  refine p_call IH (base ++ A) ([]) h (by simp) rfl fun z1 zs1 c1 s1 B1 O1 h1 => ?_
  obtain ⟨σ1, e1, rfl⟩ : One Ex z1 B1 := O1
  refine p_need fun _ => ?_
  refine p_call IH (base ++ A ++ [(z1, σ1)]) ([]) h1 (by simp) rfl fun z2 zs2 c2 s2 B2 O2 h2 => ?_
  obtain ⟨σ2, e2, rfl⟩ : One Ex z2 B2 := O2
  refine ⟨A ++ [(z1, σ1)] ++ [(z2, σ2)], ⟨(a.snoc e1).snoc e2, ?_⟩, by simpa using h2⟩
  simp only [List.length_append, List.length_singleton]
  omega
theorem st_texts (IH : St ts n) : StB ts n .texts := by
  intro s A base h hI
  obtain rfl : A = [] := hI
  rw [List.append_nil] at h
  unfold bodyF
  dsimp only
  refine p_next fun u hu => ?_
  exact p_tail IH (base) ([]) h (by simp) rfl fun z zs c s B O h => ⟨B, O, h⟩
theorem st_textsLoop (IH : St ts n) (pos : Int) (acc : List UInt8) : StB ts n (.textsLoop pos acc) := by
  intro s A base h hI
  obtain rfl : A = [] := hI
  rw [List.append_nil] at h
  unfold bodyF
  dsimp only
  refine p_next fun u hu => ?_
  split
  · split
    · exact p_tail IH (base) ([]) h (by simp) rfl fun z zs c s B O h => ⟨B, O, h⟩
    · trivial
  · exact p_add (base) ([]) h (by simp) (.refl _) has_str fun h2 => ⟨_, ⟨1, .inl rfl, rfl⟩, h2⟩
theorem st_atom (IH : St ts n) (T : TkT ts) : StB ts n .atom := by
  intro s A base h hI
  obtain rfl : A = [] := hI
  rw [List.append_nil] at h
  have tl : ∀ q, InS q [] → (∀ s' z zs c B, OutS ts s' q z zs c B → One Ex z B) → Okp (StP ts .atom base) (runF ts n q s) := fun q a b => p_tail IH (base) ([]) h (by simp) a fun z zs c s B O h => ⟨B, b _ _ _ _ _ O, h⟩
  unfold bodyF
  dsimp only
  refine p_kind fun t ht => ?_
  split
  · rename_i hk
    unfold leafF
    refine p_next fun u hu => ?_
    rw [ht] at hu
    obtain rfl := Option.some.inj hu
    exact p_add (base) ([]) h (by simp) (.refl _) (has_name ((T _ _ ht).1 hk)) fun h2 => ⟨_, ⟨25, .inr (.inr rfl), rfl⟩, h2⟩
  · split
    · rename_i hk
      unfold leafF
      refine p_next fun u hu => ?_
      rw [ht] at hu
      obtain rfl := Option.some.inj hu
      exact p_add (base) ([]) h (by simp) (.refl _) (has_int ((T _ _ ht).2 hk)) fun h2 => ⟨_, ⟨1, .inl rfl, rfl⟩, h2⟩
    · split
      · exact tl _ rfl fun _ _ _ _ _ h => h
      · refine p_sign fun t ht => ?_
        split
        · unfold wordF
          exact p_next fun u hu => p_add (base) ([]) h (by simp) (.refl _) has_none fun h2 => ⟨_, ⟨1, .inl rfl, rfl⟩, h2⟩
        split
        · unfold wordF
          exact p_next fun u hu => p_add (base) ([]) h (by simp) (.refl _) has_true fun h2 => ⟨_, ⟨1, .inl rfl, rfl⟩, h2⟩
        split
        · unfold wordF
          exact p_next fun u hu => p_add (base) ([]) h (by simp) (.refl _) has_false fun h2 => ⟨_, ⟨1, .inl rfl, rfl⟩, h2⟩
        split
        · exact tl _ rfl fun _ _ _ _ _ h => h.imp fun σ h => Rt.ex h
        split
        · exact tl _ rfl fun _ _ _ _ _ h => h
        split
        · exact tl _ rfl fun _ _ _ _ _ h => h
        · exact p_allow fun _ => trivial
end Vd
end Go.Proofs.YtpjjofdphlgeiaaGreatDoor
namespace Go.Proofs.YtpjjofdphlgeiaaGreatDoor
namespace Vd
open Lx Ax Ay Px
variable {ts : List Tok} {n : Nat}

theorem rowP_s (k : Nat) : InS (rowP k) [] ∧ ∀ s' z zs c B, OutS ts s' (rowP k) z zs c B → One (Rt k) z B := by
  unfold rowP
  split
  · rename_i hk
    subst hk
    exact ⟨rfl, fun _ _ _ _ _ h => h⟩
  · exact ⟨rfl, fun _ _ _ _ _ h => One.imp (h : One Tg _ _) fun σ h => Rt.tg h⟩
theorem st_row (IH : St ts n) (k : Nat) : StB ts n (.row k) := by
  intro s A base h hI
  obtain rfl : A = [] := hI
  rw [List.append_nil] at h
  unfold bodyF
  dsimp only
  obtain ⟨k1, k2⟩ := rowP_s (ts := ts) k
  refine p_call IH (base) ([]) h (by simp) (k1) fun z1 zs1 c1 s1 B1 O1 h1 => ?_
  obtain ⟨σ1, e1, rfl⟩ := k2 _ _ _ _ _ O1
  exact p_tail IH base [(z1, σ1)] h1 rfl ⟨All.one e1, by simp, fun _ => rfl⟩ fun z zs c s B O h => ⟨B, O, h⟩
theorem st_rowLoop (IH : St ts n) (k : Nat) (zs : List Int) (c : Bool) : StB ts n (.rowLoop k zs c) := by
  intro s A base h hI
  unfold bodyF
  dsimp only
  obtain ⟨k1, k2⟩ := rowP_s (ts := ts) k
  have hI : All (Rt k) zs A ∧ zs ≠ [] ∧ (c = false → zs.length = 1) := hI
  refine p_sign fun t ht => ?_
  split
  · refine p_rowB fun b => ?_
    split
    · refine p_call IH (base ++ A) [] h (by simp) k1 fun z1 zs1 c1 s1 B1 O1 h1 => ?_
      obtain ⟨σ1, e1, rfl⟩ := k2 _ _ _ _ _ O1
      split
      · rw [List.append_assoc] at h1
        exact p_tail IH base (A ++ [(z1, σ1)]) h1 rfl ⟨hI.1.snoc e1, by simp, fun h => by simp at h⟩ fun z zs c s B O h => ⟨B, O, h⟩
      · trivial
    · exact ⟨A, ⟨hI.1, hI.2.1, fun h => by simp at h⟩, h⟩
  · exact ⟨A, hI, h⟩
theorem st_target (IH : St ts n)  : StB ts n .target := by
  intro s A base h hI
  obtain rfl : A = [] := hI
  rw [List.append_nil] at h
  unfold bodyF
  dsimp only
  refine p_sign fun t ht => ?_
  split
  · exact p_tail IH base [] h (by simp) rfl fun z zs c s B O h => ⟨B, O, h⟩
  · refine p_next fun u hu => ?_
    split
    · refine p_call IH base [] h (by simp) rfl fun z1 zs1 c1 s1 B1 O1 h1 => ?_
      obtain ⟨σ1, e1, rfl⟩ : One Ex z1 B1 := O1
      cases ht : targetF (s1.nodes.length + 1) s1.nodes z1 with
      | none => trivial
      | some b =>
        dsimp only
        split
        · rename_i hb
          subst hb
          exact ⟨_, ⟨σ1, h1.sort (p := (z1, σ1)) (by simp) ht, rfl⟩, h1⟩
        · trivial
    · trivial
theorem st_orNone (IH : St ts n)  : StB ts n .orNone := by
  intro s A base h hI
  obtain rfl : A = [] := hI
  rw [List.append_nil] at h
  unfold bodyF
  dsimp only
  refine p_begins fun b => ?_
  split
  · exact p_tail IH base [] h (by simp) rfl fun z zs c s B O h => ⟨B, ⟨(O : All (Rt 0) zs B ∧ _).1, (O : _ ∧ zs ≠ [] ∧ _).2.2⟩, h⟩
  · exact ⟨[], ⟨All.nil, fun h => by simp at h⟩, by simpa using h⟩
theorem st_bare (IH : St ts n) (k : Nat) : StB ts n (.bare k) := by
  intro s A base h hI
  obtain rfl : A = [] := hI
  rw [List.append_nil] at h
  unfold bodyF
  dsimp only
  refine p_next fun u hu => ?_
  refine p_call IH base [] h (by simp) rfl fun z1 zs1 c1 s1 B1 O1 h1 => ?_
  have O1 : All (Rt k) zs1 B1 ∧ zs1 ≠ [] ∧ (c1 = false → zs1.length = 1) := O1
  exact (p_join h1 O1.1 (fun _ => O1.2.1) O1.2.2).mono fun z zs c s' h => h
theorem st_round (IH : St ts n) (k : Nat) : StB ts n (.round k) := by
  intro s A base h hI
  obtain rfl : A = [] := hI
  rw [List.append_nil] at h
  unfold bodyF
  dsimp only
  refine p_enter fun pos => ?_
  have hq : InS (if k = 0 then Q.orNone else Q.row 1) [] ∧ ∀ s' z zs c B, OutS ts s' (if k = 0 then Q.orNone else Q.row 1) z zs c B → All (Rt k) zs B ∧ (k ≠ 0 → zs ≠ []) ∧ (c = false → zs.length = 1) := by
    by_cases hk : k = 0
    · subst hk
      exact ⟨rfl, fun _ _ _ _ _ h => ⟨h.1, fun h => absurd rfl h, h.2⟩⟩
    · rw [if_neg hk]
      exact ⟨rfl, fun _ _ zs _ B h => ⟨All.imp (h : All (Rt 1) zs B ∧ _).1 fun σ h => Rt.tg h, fun _ => h.2.1, h.2.2⟩⟩
  obtain ⟨k1, k2⟩ := hq
  refine p_call IH base [] h (by simp) k1 fun z1 zs1 c1 s1 B1 O1 h1 => ?_
  obtain ⟨a, b, d⟩ := k2 _ _ _ _ _ O1
  refine p_need fun _ => ?_
  refine p_leave ?_
  exact (p_join (s := { s1 with at_ := s1.at_ + 1, deep := s1.deep - 1 }) h1 a b d).mono fun z zs c s' h => h
theorem st_file (IH : St ts n)  : StB ts n .file := by
  intro s A base h hI
  obtain rfl : A = [] := hI
  rw [List.append_nil] at h
  unfold bodyF
  dsimp only
  refine p_call IH base [] h (by simp) (All.nil (P := (· = 32))) fun z1 zs1 c1 s1 B1 O1 h1 => ?_
  obtain ⟨m, a⟩ : All (· = 32) zs1 B1 := O1
  unfold fileEnd
  split
  · obtain rfl : B1 = [] := by simpa using m
    refine p_add base [] h1 rfl (.refl _) has_pass fun h2 => ?_
    refine p_pos fun p => ?_
    exact p_add base [(_, 32)] h2 rfl (.refl _) (has_block (K := [(_, 32)]) (by simp) (by simp)) fun h3 => ⟨_, ⟨256, rfl, rfl⟩, h3⟩
  · rename_i z r
    refine p_pos fun p => ?_
    have b := has_block (L := s1.nodes) (pos := p) (K := B1) a (by rintro rfl; simp at m)
    rw [m] at b
    exact p_add base B1 h1 rfl (by rw [m]) b fun h2 => ⟨_, ⟨256, rfl, rfl⟩, h2⟩
theorem st_fileLoop (IH : St ts n) (zs : List Int) : StB ts n (.fileLoop zs) := by
  intro s A base h hI
  unfold bodyF
  dsimp only
  have hI : All (· = 32) zs A := hI
  refine p_kind fun t ht => ?_
  split
  · exact ⟨A, hI, h⟩
  · refine p_call IH (base ++ A) [] h (by simp) rfl fun z1 zs1 c1 s1 B1 O1 h1 => ?_
    obtain ⟨σ1, e1, rfl⟩ : One (· = 32) z1 B1 := O1
    split
    · rw [List.append_assoc] at h1
      exact p_tail IH base (A ++ [(z1, σ1)]) h1 rfl (hI.snoc (P := (· = 32)) e1) fun z zs c s B O h => ⟨B, O, h⟩
    · trivial
theorem st_linesLoop (IH : St ts n) (p : Pl) (zs : List Int) : StB ts n (.linesLoop p zs) := by
  intro s A base h hI
  unfold bodyF
  dsimp only
  have hI : All (· = 32) zs A := hI
  refine p_kind fun t ht => ?_
  split
  · exact p_take fun _ _ _ => ⟨A, hI, h⟩
  · refine p_call IH (base ++ A) [] h (by simp) rfl fun z1 zs1 c1 s1 B1 O1 h1 => ?_
    obtain ⟨σ1, e1, rfl⟩ : One (· = 32) z1 B1 := O1
    split
    · rw [List.append_assoc] at h1
      exact p_tail IH base (A ++ [(z1, σ1)]) h1 rfl (hI.snoc (P := (· = 32)) e1) fun z zs c s B O h => ⟨B, O, h⟩
    · trivial
theorem st_statement (IH : St ts n) (p : Pl) : StB ts n (.statement p) := by
  intro s A base h hI
  obtain rfl : A = [] := hI
  rw [List.append_nil] at h
  unfold bodyF
  dsimp only
  refine p_sign fun t ht => ?_
  split
  · exact p_need fun pos => p_tail IH base [] h (by simp) rfl fun z zs c s B O h => ⟨B, O, h⟩
  split
  · exact p_tail IH base [] h (by simp) rfl fun z zs c s B O h => ⟨B, O, h⟩
  split
  · exact p_allow fun _ => p_tail IH base [] h (by simp) rfl fun z zs c s B O h => ⟨B, O, h⟩
  · exact p_tail IH base [] h (by simp) rfl fun z zs c s B O h => ⟨B, O, h⟩
theorem st_line (IH : St ts n) (p : Pl) : StB ts n (.line p) := by
  intro s A base h hI
  obtain rfl : A = [] := hI
  rw [List.append_nil] at h
  unfold bodyF
  dsimp only
  refine p_call IH (base) ([]) h (by simp) (rfl) fun z1 zs1 c1 s1 B1 O1 h1 => ?_
  obtain ⟨σ1, e1, rfl⟩ : One ((· = 32)) z1 B1 := O1
  exact p_take fun _ _ _ => ⟨_, ⟨σ1, e1, rfl⟩, h1⟩
theorem st_simple (IH : St ts n) (p : Pl) : StB ts n (.simple p) := by
  intro s A base h hI
  obtain rfl : A = [] := hI
  rw [List.append_nil] at h
  unfold bodyF
  dsimp only
  refine p_sign fun t ht => ?_
  split
  · exact by unfold wordF; exact p_next fun u hu => p_add base [] h (by simp) (.refl _) has_pass fun h2 => ⟨_, ⟨32, rfl, rfl⟩, h2⟩
  split
  · exact p_allow fun _ => by unfold wordF; exact p_next fun u hu => p_add base [] h (by simp) (.refl _) has_break fun h2 => ⟨_, ⟨32, rfl, rfl⟩, h2⟩
  split
  · exact p_allow fun _ => by unfold wordF; exact p_next fun u hu => p_add base [] h (by simp) (.refl _) has_continue fun h2 => ⟨_, ⟨32, rfl, rfl⟩, h2⟩
  split
  · exact p_allow fun _ => p_tail IH base [] h (by simp) rfl fun z zs c s B O h => ⟨B, O, h⟩
  split
  · exact p_allow fun _ => p_tail IH base [] h (by simp) rfl fun z zs c s B O h => ⟨B, O, h⟩
  · exact p_tail IH base [] h (by simp) rfl fun z zs c s B O h => ⟨B, O, h⟩
theorem st_load (IH : St ts n)  : StB ts n .load := by
  intro s A base h hI
  obtain rfl : A = [] := hI
  rw [List.append_nil] at h
  unfold bodyF
  dsimp only
  refine p_need fun pos => ?_
  refine p_need fun _ => ?_
  refine p_take fun t ht hk => ?_
  refine p_need fun _ => ?_
  refine p_call IH (base) ([]) h (by simp) (rfl) fun z1 zs1 c1 s1 B1 O1 h1 => ?_
  obtain ⟨σ1, e1, rfl⟩ : One ((· = 192)) z1 B1 := O1
  refine p_call IH base [(z1, σ1)] h1 rfl ⟨All.one (P := (· = 192)) e1, by simp⟩ fun z2 zs2 c2 s2 B2 O2 h2 => ?_
  obtain ⟨⟨m, a⟩, hn⟩ : All (· = 192) zs2 B2 ∧ zs2 ≠ [] := O2
  subst m
  refine p_need fun _ => ?_
  exact p_add base B2 h2 rfl (.refl _) (has_load a (by simpa using hn)) fun h3 => ⟨_, ⟨32, rfl, rfl⟩, h3⟩
theorem st_loadLoop (IH : St ts n) (zs : List Int) : StB ts n (.loadLoop zs) := by
  intro s A base h hI
  unfold bodyF
  dsimp only
  have hI : All (· = 192) zs A ∧ zs ≠ [] := hI
  refine p_sign fun t ht => ?_
  split
  · refine p_sign fun t2 ht2 => ?_
    split
    · exact ⟨A, hI, h⟩
    · refine p_call IH (base ++ A) [] h (by simp) rfl fun z1 zs1 c1 s1 B1 O1 h1 => ?_
      obtain ⟨σ1, e1, rfl⟩ : One (· = 192) z1 B1 := O1
      split
      · rw [List.append_assoc] at h1
        exact p_tail IH base (A ++ [(z1, σ1)]) h1 rfl ⟨hI.1.snoc (P := (· = 192)) e1, by simp⟩ fun z zs c s B O h => ⟨B, O, h⟩
      · trivial
  · exact ⟨A, hI, h⟩
theorem p_there {s : PS} {t : Tok} {base : List (Int × Int)} (h : Stk s.nodes base) (hn : nameB t.text = true) : Okp (StP ts .loaded base) (thereF ts t s) := by
  unfold thereF
  refine p_take fun u hu hk => ?_
  refine p_add base [] h (by simp) (.refl _) has_str fun h2 => ?_
  refine p_add base [(_, 1)] h2 rfl (.refl _) (has_loaded hn ?_) fun h3 => ?_
  · rw [Int.toNat_natCast, List.getElem?_append_right (Nat.le_refl _), Nat.sub_self]; rfl
  · exact ⟨_, ⟨192, rfl, rfl⟩, h3⟩
theorem st_loaded (T : TkT ts)  : StB ts n .loaded := by
  intro s A base h hI
  obtain rfl : A = [] := hI
  rw [List.append_nil] at h
  unfold bodyF
  dsimp only
  split
  · trivial
  · rename_i t ht
    split
    · exact p_allow fun hb => p_there h hb
    · refine p_take fun u hu hk => ?_
      refine p_need fun _ => ?_
      rw [ht] at hu
      obtain rfl := Option.some.inj hu
      exact p_there (s := { s with at_ := s.at_ + 1 + 1 }) h ((T _ _ ht).1 hk)
theorem st_result (IH : St ts n)  : StB ts n .result := by
  intro s A base h hI
  obtain rfl : A = [] := hI
  rw [List.append_nil] at h
  unfold bodyF
  dsimp only
  refine p_need fun pos => ?_
  refine p_begins fun b => ?_
  split
  · refine p_call IH base [] h (by simp) rfl fun z1 zs1 c1 s1 B1 O1 h1 => ?_
    obtain ⟨σ1, e1, rfl⟩ : One (Rt 0) z1 B1 := O1
    exact p_add base [(z1, σ1)] h1 rfl (.refl _) (has_return e1) fun h2 => ⟨_, ⟨32, rfl, rfl⟩, h2⟩
  · exact p_add base [] h (by simp) (.refl _) has_return0 fun h2 => ⟨_, ⟨32, rfl, rfl⟩, h2⟩
theorem st_cond (IH : St ts n) (pos : Int) (p : Pl) : StB ts n (.cond pos p) := by
  intro s A base h hI
  obtain rfl : A = [] := hI
  rw [List.append_nil] at h
  unfold bodyF
  dsimp only
  refine p_call IH (base) ([]) h (by simp) (rfl) fun z1 zs1 c1 s1 B1 O1 h1 => ?_
  obtain ⟨σ1, e1, rfl⟩ : One (Ex) z1 B1 := O1
  refine p_call IH (base ++ [(z1, σ1)]) ([]) h1 (by simp) (rfl) fun z2 zs2 c2 s2 B2 O2 h2 => ?_
  obtain ⟨σ2, e2, rfl⟩ : One ((· = 256)) z2 B2 := O2
  obtain rfl : σ2 = 256 := e2
  refine p_sign fun t ht => ?_
  split
  · refine p_call IH (base ++ [(z1, σ1)] ++ [(z2, 256)]) [] h2 (by simp) rfl fun z3 zs3 c3 s3 B3 O3 h3 => ?_
    obtain ⟨_, rfl, rfl⟩ : One (· = 256) z3 B3 := O3
    exact p_add base [(z1, σ1), (z2, 256), (z3, 256)] h3 (by simp) (.refl _) (has_cond3 e1) fun h4 => ⟨_, ⟨32, rfl, rfl⟩, h4⟩
  split
  · refine p_call IH (base ++ [(z1, σ1)] ++ [(z2, 256)]) [] h2 (by simp) rfl fun z3 zs3 c3 s3 B3 O3 h3 => ?_
    obtain ⟨_, rfl, rfl⟩ : One (· = 256) z3 B3 := O3
    exact p_add base [(z1, σ1), (z2, 256), (z3, 256)] h3 (by simp) (.refl _) (has_cond3 e1) fun h4 => ⟨_, ⟨32, rfl, rfl⟩, h4⟩
  · exact p_add base [(z1, σ1), (z2, 256)] h2 (by simp) (.refl _) (has_cond e1) fun h4 => ⟨_, ⟨32, rfl, rfl⟩, h4⟩
theorem st_elif (IH : St ts n) (p : Pl) : StB ts n (.elif p) := by
  intro s A base h hI
  obtain rfl : A = [] := hI
  rw [List.append_nil] at h
  unfold bodyF
  dsimp only
  refine p_enter fun pos => ?_
  refine p_call IH (base) ([]) h (by simp) (rfl) fun z1 zs1 c1 s1 B1 O1 h1 => ?_
  obtain ⟨σ1, e1, rfl⟩ : One ((· = 32)) z1 B1 := O1
  refine p_leave ?_
  exact (p_block (base := base) (s := { s1 with deep := s1.deep - 1 }) h1 (All.one (P := (· = 32)) e1)).mono fun z zs c s' h => h
theorem st_loop (IH : St ts n) (p : Pl) : StB ts n (.loop p) := by
  intro s A base h hI
  obtain rfl : A = [] := hI
  rw [List.append_nil] at h
  unfold bodyF
  dsimp only
  refine p_need fun pos => ?_
  refine p_call IH (base) ([]) h (by simp) (rfl) fun z1 zs1 c1 s1 B1 O1 h1 => ?_
  obtain ⟨σ1, e1, rfl⟩ : One ((Rt 1)) z1 B1 := O1
  refine p_need fun _ => ?_
  refine p_call IH (base ++ [(z1, σ1)]) ([]) h1 (by simp) (rfl) fun z2 zs2 c2 s2 B2 O2 h2 => ?_
  obtain ⟨σ2, e2, rfl⟩ : One ((Rt 0)) z2 B2 := O2
  refine p_call IH (base ++ [(z1, σ1)] ++ [(z2, σ2)]) ([]) h2 (by simp) (rfl) fun z3 zs3 c3 s3 B3 O3 h3 => ?_
  obtain ⟨σ3, e3, rfl⟩ : One ((· = 256)) z3 B3 := O3
  obtain rfl : σ3 = 256 := e3
  exact p_add base [(z1, σ1), (z2, σ2), (z3, 256)] h3 (by simp) (.refl _) (has_for e1 e2) fun h4 => ⟨_, ⟨32, rfl, rfl⟩, h4⟩
theorem st_block (IH : St ts n) (p : Pl) : StB ts n (.block p) := by
  intro s A base h hI
  obtain rfl : A = [] := hI
  rw [List.append_nil] at h
  unfold bodyF
  dsimp only
  refine p_enter fun pos => ?_
  refine p_kind fun t ht => ?_
  split
  · refine p_call IH base [] h (by simp) rfl fun z1 zs1 c1 s1 B1 O1 h1 => ?_
    refine p_leave ?_
    exact (p_block (base := base) (s := { s1 with deep := s1.deep - 1 }) h1 (O1 : All (· = 32) zs1 B1)).mono fun z zs c s' h => h
  · refine p_call IH base [] h (by simp) rfl fun z1 zs1 c1 s1 B1 O1 h1 => ?_
    obtain ⟨σ1, e1, rfl⟩ : One (· = 32) z1 B1 := O1
    refine p_leave ?_
    exact (p_block (base := base) (s := { s1 with deep := s1.deep - 1 }) h1 (All.one (P := (· = 32)) e1)).mono fun z zs c s' h => h
theorem st_lines (IH : St ts n) (p : Pl) : StB ts n (.lines p) := by
  intro s A base h hI
  obtain rfl : A = [] := hI
  rw [List.append_nil] at h
  unfold bodyF
  dsimp only
  refine p_take fun _ _ _ => ?_
  refine p_take fun _ _ _ => ?_
  refine p_call IH (base) ([]) h (by simp) (rfl) fun z1 zs1 c1 s1 B1 O1 h1 => ?_
  obtain ⟨σ1, e1, rfl⟩ : One ((· = 32)) z1 B1 := O1
  exact p_tail IH base [(z1, σ1)] h1 rfl (All.one (P := (· = 32)) e1) fun z zs c s B O h => ⟨B, O, h⟩
theorem st_def (IH : St ts n) (T : TkT ts)  : StB ts n .def_ := by
  intro s A base h hI
  obtain rfl : A = [] := hI
  rw [List.append_nil] at h
  unfold bodyF
  dsimp only
  refine p_need fun pos => ?_
  refine p_take fun t ht hk => ?_
  refine p_need fun _ => ?_
  refine p_call IH base [] h (by simp) All.nil fun z1 zs1 c1 s1 B1 O1 h1 => ?_
  obtain ⟨m, a⟩ : All Pm zs1 B1 := O1
  subst m
  refine p_need fun _ => ?_
  refine p_call IH (base ++ B1) [] h1 (by simp) rfl fun z2 zs2 c2 s2 B2 O2 h2 => ?_
  obtain ⟨_, rfl, rfl⟩ : One (· = 256) z2 B2 := O2
  exact p_add base (B1 ++ [(z2, 256)]) h2 (by simp) (by simp) (has_defn ((T _ _ ht).1 hk) a) fun h3 => ⟨_, ⟨32, rfl, rfl⟩, h3⟩
theorem st_assignment (IH : St ts n)  : StB ts n .assignment := by
  intro s A base h hI
  obtain rfl : A = [] := hI
  rw [List.append_nil] at h
  unfold bodyF
  dsimp only
  refine p_call IH (base) ([]) h (by simp) (rfl) fun z1 zs1 c1 s1 B1 O1 h1 => ?_
  obtain ⟨σ1, e1, rfl⟩ : One ((Rt 0)) z1 B1 := O1
  refine p_sign fun t ht => ?_
  split
  · cases hb : targetF (s1.nodes.length + 1) s1.nodes z1 with
    | none => trivial
    | some b =>
      dsimp only
      refine p_allow fun e => ?_
      subst e
      have hT := h1.sort (p := (z1, σ1)) (by simp) hb
      refine p_next fun u hu => ?_
      refine p_call IH (base ++ [(z1, σ1)]) [] h1 (by simp) rfl fun z2 zs2 c2 s2 B2 O2 h2 => ?_
      obtain ⟨σ2, e2, rfl⟩ : One (Rt 0) z2 B2 := O2
      exact p_add base [(z1, σ1), (z2, σ2)] h2 (by simp) (.refl _) (has_assign hT e2) fun h3 => ⟨_, ⟨32, rfl, rfl⟩, h3⟩
  split
  · split
    · trivial
    · cases hx : s1.nodes[z1.toNat]? with
      | none => trivial
      | some x =>
        dsimp only
        refine p_allow fun e => ?_
        have hT := h1.cell (p := (z1, σ1)) (by simp) hx e
        obtain rfl : σ1 = 25 := hT
        refine p_next fun u hu => ?_
        refine p_call IH (base ++ [(z1, 25)]) [] h1 (by simp) rfl fun z2 zs2 c2 s2 B2 O2 h2 => ?_
        obtain ⟨σ2, e2, rfl⟩ : One (Rt 0) z2 B2 := O2
        exact p_add base [(z1, 25), (z2, σ2)] h2 (by simp) (.refl _) (has_addto e2) fun h3 => ⟨_, ⟨32, rfl, rfl⟩, h3⟩
  · refine p_pos fun p => ?_
    exact p_add base [(z1, σ1)] h1 rfl (.refl _) (has_expr e1) fun h3 => ⟨_, ⟨32, rfl, rfl⟩, h3⟩
theorem st_alone (IH : St ts n)  : StB ts n .alone := by
  intro s A base h hI
  obtain rfl : A = [] := hI
  rw [List.append_nil] at h
  unfold bodyF
  dsimp only
  refine p_call IH base [] h (by simp) rfl fun z1 zs1 c1 s1 B1 O1 h1 => ?_
  refine p_kind fun t ht => ?_
  split
  · exact p_take fun _ _ _ => ⟨B1, trivial, h1⟩
  · exact p_take fun _ _ _ => ⟨B1, trivial, h1⟩
/-- Whatever is read, the nodes keep their forms. -/
theorem st_all (T : TkT ts) : ∀ n, St ts n
  | 0 => fun _ _ _ _ _ _ => trivial
  | n + 1 => by
    have IH := st_all T n
    intro q s A base h hI
    show Okp _ (bodyF ts (runF ts n) q s)
    cases q with
    | test => exact st_test IH s A base h hI
    | bin k => exact st_bin IH k s A base h hI
    | binLoop k z => exact st_binLoop IH k z s A base h hI
    | not => exact st_not IH s A base h hI
    | ahead k => exact st_ahead IH k s A base h hI
    | compare => exact st_compare IH s A base h hI
    | unary => exact st_unary IH s A base h hI
    | primary => exact st_primary IH s A base h hI
    | primLoop z => exact st_primLoop IH z s A base h hI
    | atom => exact st_atom IH T s A base h hI
    | row k => exact st_row IH k s A base h hI
    | rowLoop k zs c => exact st_rowLoop IH k zs c s A base h hI
    | orNone => exact st_orNone IH s A base h hI
    | bare k => exact st_bare IH k s A base h hI
    | round k => exact st_round IH k s A base h hI
    | def_ => exact st_def IH T s A base h hI
    | params zs ns g => exact st_params IH zs ns g s A base h hI
    | param ns g => exact st_param IH T ns g s A base h hI
    | call z => exact st_call IH z s A base h hI
    | args zs ns => exact st_args IH zs ns s A base h hI
    | argument ns => exact st_argument IH T ns s A base h hI
    | dot z => exact st_dot T z s A base h hI
    | index z => exact st_index IH z s A base h hI
    | bound k => exact st_bound IH k s A base h hI
    | list => exact st_list IH s A base h hI
    | rounds => exact st_rounds IH s A base h hI
    | target => exact st_target IH s A base h hI
    | result => exact st_result IH s A base h hI
    | texts => exact st_texts IH s A base h hI
    | textsLoop p acc => exact st_textsLoop IH p acc s A base h hI
    | dict => exact st_dict IH s A base h hI
    | pairs zs => exact st_pairs IH zs s A base h hI
    | pair zs => exact st_pair IH zs s A base h hI
    | alone => exact st_alone IH s A base h hI
    | file => exact st_file IH s A base h hI
    | fileLoop zs => exact st_fileLoop IH zs s A base h hI
    | statement p => exact st_statement IH p s A base h hI
    | line p => exact st_line IH p s A base h hI
    | simple p => exact st_simple IH p s A base h hI
    | assignment => exact st_assignment IH s A base h hI
    | load => exact st_load IH s A base h hI
    | loadLoop zs => exact st_loadLoop IH zs s A base h hI
    | loaded => exact st_loaded T s A base h hI
    | cond z p => exact st_cond IH z p s A base h hI
    | elif p => exact st_elif IH p s A base h hI
    | loop p => exact st_loop IH p s A base h hI
    | block p => exact st_block IH p s A base h hI
    | lines p => exact st_lines IH p s A base h hI
    | linesLoop p zs => exact st_linesLoop IH p zs s A base h hI
/-- What is parsed: nodes in their forms, one of them nobody's kid, a block. -/
theorem file_stk (T : TkT ts) {s' : PS} {z : Int} {zs : List Int} {c : Bool} (n : Nat) (e : runF ts n .file ⟨0, [], 0⟩ = .ok z zs c s') : Stk s'.nodes [(z, 256)] := by
  have h := st_all T n .file ⟨0, [], 0⟩ [] [] Stk.nil rfl
  rw [e] at h
  obtain ⟨B, ⟨σ, rfl, rfl⟩, h2⟩ := h
  exact h2
end Vd
end Go.Proofs.YtpjjofdphlgeiaaGreatDoor
namespace Go.Proofs.YtpjjofdphlgeiaaGreatDoor
namespace Vd
open Lx Ax Ay

def TkG (t : Tok) : Prop := (t.kind = 1 → nameB t.text = true) ∧ (t.kind = 2 → numB t.text = true)
theorem TkG.other {t : Tok} (h1 : t.kind ≠ 1) (h2 : t.kind ≠ 2) : TkG t := ⟨fun h => absurd h h1, fun h => absurd h h2⟩
theorem lenF_take (p : UInt8 → Bool) : ∀ l : List UInt8, lenF p (l.take (lenF p l)) = lenF p l ∧ (l.take (lenF p l)).all p = true
  | [] => ⟨rfl, rfl⟩
  | b :: l => by
    obtain ⟨h1, h2⟩ := lenF_take p l
    by_cases hb : p b = true
    · have e : lenF p (b :: l) = lenF p l + 1 := by rw [lenF, if_pos hb]
      rw [e, List.take_succ_cons]
      refine ⟨?_, ?_⟩
      · rw [lenF, if_pos hb, h1]
      · rw [List.all_cons, hb, h2]; rfl
    · have e : lenF p (b :: l) = 0 := by rw [lenF, if_neg hb]
      rw [e]
      exact ⟨rfl, rfl⟩
theorem lt_not_dg : ∀ b : UInt8, lt b = true → dg b = false := by
  intro b hb
  unfold lt at hb
  unfold dg
  simp only [Bool.or_eq_true, Bool.and_eq_true, decide_eq_true_eq, beq_iff_eq] at hb
  simp only [Bool.and_eq_false_iff, decide_eq_false_iff_not]
  simp only [UInt8.le_iff_toNat_le] at hb ⊢
  right
  rcases hb with hb | hb | rfl
  · have : (65 : UInt8).toNat = 65 := rfl
    have : (57 : UInt8).toNat = 57 := rfl
    omega
  · have : (97 : UInt8).toNat = 97 := rfl
    have : (57 : UInt8).toNat = 57 := rfl
    omega
  · decide
theorem name_good {b : UInt8} {l : List UInt8} (hb : lt b = true) (hw : isWord ((b :: l).take (lenF nb (b :: l))) = false) : nameB ((b :: l).take (lenF nb (b :: l))) = true := by
  have hn : nb b = true := by unfold nb; rw [hb]; rfl
  have hd := lt_not_dg b hb
  obtain ⟨h1, _⟩ := lenF_take nb (b :: l)
  have h2 : lenF nb (b :: l) = lenF nb l + 1 := by rw [lenF, if_pos hn]
  have h3 := lenF_le nb (b :: l)
  have hl : ((b :: l).take (lenF nb (b :: l))).length = lenF nb (b :: l) := by rw [List.length_take]; omega
  generalize hg : (b :: l).take (lenF nb (b :: l)) = g at *
  rw [h2, List.take_succ_cons] at hg
  subst hg
  unfold nameB
  dsimp only
  rw [h1, hl, hw, hd]
  simp
theorem num_good {b : UInt8} {l : List UInt8} (hb : dg b = true) (h6 : ¬600 < lenF dg (b :: l)) (h0 : ¬(1 < lenF dg (b :: l) ∧ b = 48)) : numB ((b :: l).take (lenF dg (b :: l))) = true := by
  obtain ⟨_, h1⟩ := lenF_take dg (b :: l)
  have h2 : lenF dg (b :: l) = lenF dg l + 1 := by rw [lenF, if_pos hb]
  have h3 := lenF_le dg (b :: l)
  have hl : ((b :: l).take (lenF dg (b :: l))).length = lenF dg (b :: l) := by rw [List.length_take]; omega
  unfold numB
  rw [h1, Bool.true_and, hl]
  by_cases e : b = 48
  · subst e
    have h4 : lenF dg l = 0 := by
      rcases Nat.eq_zero_or_pos (lenF dg l) with h | h
      · exact h
      · exact absurd ⟨by omega, rfl⟩ h0
    rw [h2, h4]
    rfl
  · rw [h2, List.take_succ_cons]
    have h5 : (b != 48) = true := by simpa using e
    simp only [List.isEmpty_cons, List.headD_cons, h5, Bool.not_false, Bool.true_and]
    rw [decide_eq_true (by omega), Bool.or_true]
theorem tokF_good {op l t op' : List UInt8} {k m : Nat} (h : tokF op l = .ok k t m op') (p : Nat) : TkG ⟨k, t, p⟩ := by
  cases l with
  | nil => cases h
  | cons b l =>
    unfold tokF at h
    dsimp only at h
    by_cases h1 : lt b = true
    · rw [if_pos h1] at h
      injection h with a1 a2 a3 a4
      subst a1 a2
      cases hw : isWord ((b :: l).take (lenF nb (b :: l))) with
      | true => exact TkG.other (by simp) (by simp)
      | false => exact ⟨fun _ => name_good h1 hw, fun h => by simp at h⟩
    · rw [if_neg h1] at h
      by_cases h2 : dg b = true
      · rw [if_pos h2] at h
        split at h
        · cases h
        · rename_i hc
          injection h with a1 a2 a3 a4
          subst a1 a2
          simp only [Bool.or_eq_true, Bool.and_eq_true, decide_eq_true_eq, beq_iff_eq, not_or] at hc
          exact ⟨fun h => by simp at h, fun _ => num_good h2 hc.1 hc.2.1⟩
      · rw [if_neg h2] at h
        split at h
        · split at h
          · cases h
          · split at h
            · injection h with a1 a2 a3 a4
              subst a1
              exact TkG.other (by simp) (by simp)
            · cases h
        · split at h
          · cases h
          · split at h
            · cases h
            · injection h with a1 a2 a3 a4
              subst a1
              exact TkG.other (by simp) (by simp)
theorem good_app {a b : List Tok} (ha : ∀ t ∈ a, TkG t) (hb : ∀ t ∈ b, TkG t) : ∀ t ∈ a ++ b, TkG t := fun t ht => (List.mem_append.1 ht).elim (ha t) (hb t)
theorem good_one {t : Tok} (h1 : t.kind ≠ 1) (h2 : t.kind ≠ 2) : ∀ u ∈ [t], TkG u := fun u hu => by rw [List.mem_singleton.1 hu]; exact TkG.other h1 h2
theorem good_rep {t : Tok} (k : Nat) (h1 : t.kind ≠ 1) (h2 : t.kind ≠ 2) : ∀ u ∈ List.replicate k t, TkG u := fun u hu => by rw [List.eq_of_mem_replicate hu]; exact TkG.other h1 h2
theorem goF_good : ∀ (n : Nat) (mid : Bool) (q : Nat) (st : Lx.St) (r : List UInt8) (toks : List Tok), (∀ t ∈ st.toks, TkG t) → goF n mid q st r = .ok toks → ∀ t ∈ toks, TkG t := by
  intro n
  induction n with
  | zero => intro mid q st r toks _ h; cases h
  | succ n ih =>
    intro mid q st r toks hg h
    unfold goF at h
    split at h
    · split at h
      · split at h
        · split at h
          · injection h with h
            subst h
            exact good_app (good_app (good_app hg (good_one (by simp) (by simp))) (good_rep _ (by simp) (by simp))) (good_one (by simp) (by simp))
          · cases h
        · refine ih _ _ _ _ toks ?_ h
          split
          · exact good_app hg (good_one (by simp) (by simp))
          · exact hg
      · cases ht : tokF st.op r with
        | bad j => rw [ht] at h; cases h
        | ok k t m op =>
          rw [ht] at h
          exact ih _ _ _ _ toks (good_app hg fun u hu => by rw [List.mem_singleton.1 hu]; exact tokF_good ht _) h
    · split at h
      · split at h
        · split at h
          · injection h with h
            subst h
            exact good_app (good_app hg (good_rep _ (by simp) (by simp))) (good_one (by simp) (by simp))
          · cases h
        · exact ih _ _ _ _ toks hg h
      · split at h
        · cases hi : indF (gapF r) (q + gapF r) st.toks st.blocks with
          | none => rw [hi] at h; cases h
          | some x =>
            rw [hi] at h
            obtain ⟨tk2, bl2⟩ := x
            refine ih _ _ _ _ toks ?_ h
            dsimp only
            unfold indF at hi
            split at hi
            · split at hi
              · cases hi
              · injection hi with hi
                injection hi with g1 g2
                subst g1
                exact good_app hg (good_one (by simp) (by simp))
            · split at hi
              · injection hi with hi
                injection hi with g1 g2
                subst g1
                exact good_app hg (good_rep _ (by simp) (by simp))
              · cases hi
        · exact ih _ _ _ _ toks hg h
theorem scan_good {l : List UInt8} {toks : List Tok} (h : scanF l = .ok toks) : TkT toks := fun j t ht => goF_good _ _ _ _ _ _ (fun t ht => by simp at ht) h t (List.mem_of_getElem? ht)
end Vd
end Go.Proofs.YtpjjofdphlgeiaaGreatDoor
namespace Go.Proofs.YtpjjofdphlgeiaaGreatDoor
namespace Vd
open Lx Ax Ay

theorem Good.last {L : List Nd} {st : VS} (h : Good L st) (hL : L ≠ []) : st.tk[L.length - 1]? = some false := by
  obtain ⟨L0, x, rfl⟩ : ∃ L0 x, L = L0 ++ [x] := ⟨_, _, (List.dropLast_concat_getLast hL).symm⟩
  unfold Good at h
  cases hf : formsG (L0 ++ [x]) L0 0 ⟨[], []⟩ with
  | inl i =>
    exfalso
    have : ∀ (r : List Nd) (i : Nat) (s0 : VS) (j : Nat), formsG (L0 ++ [x]) r i s0 = .inl j → formsG (L0 ++ [x]) (r ++ [x]) i s0 = .inl j := by
      intro r
      induction r with
      | nil => intro i s0 j h; cases h
      | cons y r ih =>
        intro i s0 j h
        rw [List.cons_append, formsG]
        rw [formsG] at h
        cases hy : formG (L0 ++ [x]) y s0 with
        | none => rw [hy] at h; exact h
        | some s1 => rw [hy] at h; exact ih (i + 1) s1 j h
    rw [this _ _ _ _ hf] at h
    cases h
  | inr s1 =>
    rw [formsG_snoc x L0 0 ⟨[], []⟩ s1 hf] at h
    cases hx : formG (L0 ++ [x]) x s1 with
    | none => rw [hx] at h; cases h
    | some s2 =>
      rw [hx] at h
      injection h with h
      subst h
      obtain ⟨tk, h1, h2, _⟩ := formG_take hx
      have h3 := takeF_length h1
      have h4 := (formsG_len L0 0 ⟨[], []⟩ s1 hf).1
      simp only [List.length_nil, Nat.zero_add] at h4
      rw [h2]
      dsimp only
      rw [List.length_append, List.length_singleton, List.getElem?_append_right (by omega), show L0.length + 1 - 1 - tk.length = 0 by omega]
      rfl
/-- .. so that the whole is one tree. -/
theorem Stk.whole {L : List Nd} {z : Int} (h : Stk L [(z, 256)]) : ∃ st, formsG L L 0 ⟨[], []⟩ = .inr st ∧ wholeF st.tk = true ∧ (L.getLast?.map (·.op)) = some 47 ∧ L ≠ [] := by
  obtain ⟨st, hg, hf, hs⟩ := h.form
  obtain ⟨l1, l2⟩ := hg.len
  obtain ⟨z0, hz⟩ := hs (z, 256) (by simp)
  dsimp only at z0 hz
  have hzl := (List.getElem?_eq_some_iff.1 hz).1
  have hne : L ≠ [] := by rintro rfl; rw [l2] at hzl; simp at hzl
  have hlast := hg.last hne
  have hzz : ((L.length - 1 : Nat) : Int) = z := by
    have := (hf _).1 hlast
    simpa using this
  have hpos := List.length_pos_iff.2 hne
  refine ⟨st, hg, ?_, ?_, hne⟩
  · unfold wholeF
    have he : st.tk.isEmpty = false := by
      cases htk : st.tk with
      | nil => rw [htk] at l1; simp at l1; omega
      | cons a b => rfl
    rw [he, Bool.not_false, Bool.true_and, List.all_eq_true]
    intro b hb
    obtain ⟨j, hj, e⟩ := List.getElem_of_mem hb
    have hj2 : j < st.tk.length - 1 := by simpa using hj
    rw [List.getElem_dropLast] at e
    cases b with
    | true => rfl
    | false =>
      have := (hf j).1 (by rw [List.getElem?_eq_getElem (by omega), e])
      simp at this
      omega
  · have hx : L[L.length - 1]? = some (L[L.length - 1]'(by omega)) := List.getElem?_eq_getElem (by omega)
    obtain ⟨s1, _, b, _⟩ := hg.at hx
    rw [List.getLast?_eq_getElem?, hx]
    have hzn : z.toNat = L.length - 1 := by omega
    rw [hzn, b] at hz
    have hz := Option.some.inj hz
    generalize L[L.length - 1]'(by omega) = x at hz
    unfold sortG at hz
    split at hz
    · cases hz
    · split at hz
      · split at hz <;> cases hz
      · split at hz
        · cases hz
        · split at hz
          · cases hz
          · split at hz
            · split at hz
              · split at hz <;> cases hz
              · cases hz
            · split at hz
              · rename_i h47
                rw [Option.map_some, h47]
              · split at hz <;> cases hz
end Vd
end Go.Proofs.YtpjjofdphlgeiaaGreatDoor
namespace Go.Proofs.YtpjjofdphlgeiaaGreatDoor
namespace Vd
open Lx Ax Ay

theorem take_spec : ∀ {ks : List Int} {tk tk' : List Bool}, takeF ks tk = some tk' → (∀ z ∈ ks, 0 ≤ z ∧ tk[z.toNat]? = some false) ∧ ∀ j : Nat, tk'[j]? = some true ↔ (tk[j]? = some true ∨ (j : Int) ∈ ks)
  | [], tk, tk', h => by
    obtain rfl := Option.some.inj h
    exact ⟨fun z hz => by simp at hz, fun j => by simp⟩
  | z :: r, tk, tk', h => by
    unfold takeF at h
    split at h
    · rename_i hz
      obtain ⟨h0, h1⟩ := hz
      obtain ⟨m, rfl⟩ := Int.eq_ofNat_of_zero_le h0
      rw [Int.toNat_natCast] at h1 h
      have hml := (List.getElem?_eq_some_iff.1 h1).1
      obtain ⟨a, b⟩ := take_spec h
      refine ⟨fun y hy => ?_, fun j => ?_⟩
      · rcases List.mem_cons.1 hy with rfl | hy
        · exact ⟨h0, by rw [Int.toNat_natCast]; exact h1⟩
        · obtain ⟨c, d⟩ := a y hy
          refine ⟨c, ?_⟩
          by_cases e : m = y.toNat
          · rw [← e, List.getElem?_set_self hml] at d; cases d
          · rwa [List.getElem?_set_ne e] at d
      · rw [b j, List.mem_cons]
        by_cases e : m = j
        · subst e
          rw [List.getElem?_set_self hml]
          simp
        · rw [List.getElem?_set_ne e]
          constructor
          · rintro (h | h)
            · exact .inl h
            · exact .inr (.inr h)
          · rintro (h | h | h)
            · exact .inl h
            · omega
            · exact .inr h
    · cases h
theorem forms_tk {l : List Nd} : ∀ (r : List Nd) (i : Nat) (st st' : VS), formsG l r i st = .inr st' → (∀ k : Nat, st.tk[k]? = some true → st'.tk[k]? = some true ∧ ∀ x ∈ r, (k : Int) ∉ x.kids) ∧ (∀ k : Nat, st'.tk[k]? = some true → st.tk[k]? = some true ∨ ∃ (j : Nat) (x : Nd), r[j]? = some x ∧ (k : Int) ∈ x.kids) ∧ (∀ (i j : Nat) (x y : Nd) (k : Nat), r[i]? = some x → r[j]? = some y → (k : Int) ∈ x.kids → (k : Int) ∈ y.kids → i = j) ∧ ∀ (j : Nat) (x : Nd), r[j]? = some x → ∀ k ∈ x.kids, 0 ≤ k ∧ k < ((st.tk.length + j : Nat) : Int)
  | [], i, st, st', h => by
    injection h with h
    subst h
    exact ⟨fun k h => ⟨h, fun x hx => by simp at hx⟩, fun k h => .inl h, fun i j x y k h => by simp at h, fun j x h => by simp at h⟩
  | y :: r, i, st, st', h => by
    rw [formsG] at h
    cases hf : formG l y st with
    | none => rw [hf] at h; cases h
    | some s1 =>
      rw [hf] at h
      dsimp only at h
      obtain ⟨tk, h1, h2, _⟩ := formG_take hf
      obtain ⟨a, b, c, d⟩ := forms_tk r (i + 1) s1 st' h
      obtain ⟨e, f⟩ := take_spec h1
      have hlen := takeF_length h1
      have g : ∀ k : Nat, s1.tk[k]? = some true ↔ (st.tk[k]? = some true ∨ (k : Int) ∈ y.kids) := fun k => by
        rw [← f k, h2]
        dsimp only
        by_cases hk : k < tk.length
        · rw [List.getElem?_append_left hk]
        · rw [List.getElem?_append_right (by omega), List.getElem?_eq_none (by omega : tk.length ≤ k)]
          constructor
          · intro h
            have h3 := (List.getElem?_eq_some_iff.1 h).1
            simp at h3
            rw [show k - tk.length = 0 by omega] at h
            simp at h
          · intro h; cases h
      refine ⟨fun k hk => ?_, fun k hk => ?_, fun i j x z k hi hj hx hz => ?_, fun j x hx k hk => ?_⟩
      · obtain ⟨a1, a2⟩ := a k ((g k).2 (.inl hk))
        refine ⟨a1, fun x hx hm => ?_⟩
        rcases List.mem_cons.1 hx with rfl | hx
        · have := (e _ hm).2
          rw [Int.toNat_natCast, hk] at this
          cases this
        · exact a2 x hx hm
      · rcases b k hk with h | ⟨j, x, h3, h4⟩
        · rcases (g k).1 h with h | h
          · exact .inl h
          · exact .inr ⟨0, y, rfl, h⟩
        · exact .inr ⟨j + 1, x, by simpa using h3, h4⟩
      · cases i with
        | zero =>
          obtain rfl : y = x := by simpa using hi
          cases j with
          | zero => rfl
          | succ j =>
            exact absurd hz ((a k ((g k).2 (.inr hx))).2 z (List.mem_of_getElem? (by simpa using hj)))
        | succ i =>
          cases j with
          | zero =>
            obtain rfl : y = z := by simpa using hj
            exact absurd hx ((a k ((g k).2 (.inr hz))).2 x (List.mem_of_getElem? (by simpa using hi)))
          | succ j => rw [c i j x z k (by simpa using hi) (by simpa using hj) hx hz]
      · cases j with
        | zero =>
          obtain rfl : y = x := by simpa using hx
          have := takeF_range h1 k hk
          omega
        | succ j =>
          have := d j x (by simpa using hx) k hk
          rw [h2] at this
          simp only [List.length_append, List.length_singleton] at this
          omega
theorem setT_out (b0 b1 b2 : Bool) (k : Nat) : ∀ (zs : List Int) (T : List Bool), (∀ z ∈ zs, 0 ≤ z) → (k : Int) ∉ zs → wnT (setT T b0 b1 b2 zs) k = wnT T k
  | [], T, _, _ => rfl
  | z :: r, T, h0, hk => by
    rw [List.mem_cons, not_or] at hk
    have hz := h0 z (List.mem_cons_self ..)
    rw [setT, setT_out b0 b1 b2 k r _ (fun y hy => h0 y (List.mem_cons_of_mem _ hy)) hk.2]
    unfold wnT
    simp only [List.getD_eq_getElem?_getD]
    have hne : z.toNat ≠ k := by omega
    simp only [List.getElem?_set, show ¬(z.toNat * 3 + 2 = k * 3) by omega, show ¬(z.toNat * 3 + 1 = k * 3) by omega, show ¬(z.toNat * 3 = k * 3) by omega, show ¬(z.toNat * 3 + 2 = k * 3 + 1) by omega, show ¬(z.toNat * 3 + 1 = k * 3 + 1) by omega, show ¬(z.toNat * 3 = k * 3 + 1) by omega, show ¬(z.toNat * 3 + 2 = k * 3 + 2) by omega, show ¬(z.toNat * 3 + 1 = k * 3 + 2) by omega, show ¬(z.toNat * 3 = k * 3 + 2) by omega, if_false]
theorem setT_in (b0 b1 b2 : Bool) (k : Nat) : ∀ (zs : List Int) (T : List Bool), (∀ z ∈ zs, 0 ≤ z) → k * 3 + 2 < T.length → (k : Int) ∈ zs → wnT (setT T b0 b1 b2 zs) k = ⟨b0, b1, b2⟩
  | [], T, _, _, h => by simp at h
  | z :: r, T, h0, hl, hk => by
    rw [setT]
    by_cases hr : (k : Int) ∈ r
    · exact setT_in b0 b1 b2 k r _ (fun y hy => h0 y (List.mem_cons_of_mem _ hy)) (by simpa using hl) hr
    · rw [setT_out b0 b1 b2 k r _ (fun y hy => h0 y (List.mem_cons_of_mem _ hy)) hr]
      obtain rfl : (k : Int) = z := (List.mem_cons.1 hk).resolve_right hr
      rw [Int.toNat_natCast]
      unfold wnT
      simp only [List.getD_eq_getElem?_getD]
      have e0 : k * 3 < T.length := by omega
      have e1 : k * 3 + 1 < T.length := by omega
      simp [hl, e0, e1]
/-- All stands where it may from this node down. -/
inductive Fits (L : List Nd) : Bool → Bool → Bool → Int → Prop
  | mk {w d l : Bool} {z : Int} {x : Nd} (hx : L[z.toNat]? = some x) (ha : allowsG ⟨w, d, l⟩ x.op = true) (hf : x.op = 45 → fitG (paramsG L x.kids) = true) (hk : ∀ k ∈ x.kids, Fits L false (insideG ⟨w, d, l⟩ x.op).d (insideG ⟨w, d, l⟩ x.op).l k) : Fits L w d l z
theorem inside_of {w d l : Bool} {op : Int} : (insideG ⟨w, d, l⟩ op).d = (insideG ⟨false, d, l⟩ op).d ∧ (insideG ⟨w, d, l⟩ op).l = (insideG ⟨false, d, l⟩ op).l := by
  unfold insideG
  split
  · exact ⟨rfl, rfl⟩
  · split <;> exact ⟨rfl, rfl⟩
theorem mod_of {L : List Nd} {st : VS} (h : Good L st) (hw : wholeF st.tk = true) (h47 : (L.getLast?.map (·.op)) = some 47) (hr : ∀ x, L.getLast? = some x → ∀ k ∈ x.kids, Fits L true false false k) : isModT L = true := by
  obtain ⟨_, f2, f3, f4⟩ := forms_tk L 0 ⟨[], []⟩ st h
  obtain ⟨l1, l2⟩ := h.len
  simp only [List.length_nil, Nat.zero_add] at f4
  have key : ∀ (i : Nat) (T : List Bool), i ≤ L.length → T.length = L.length * 3 → (∀ k : Nat, i = L.length → wnT T k = ⟨false, false, false⟩) → (∀ (j : Nat) (y : Nd) (k : Nat), i ≤ j → L[j]? = some y → (k : Int) ∈ y.kids → k < i → Fits L (wnT T k).whole (wnT T k).d (wnT T k).l k) → modT L i T = true := by
    intro i
    induction i with
    | zero => intro T _ _ _ _; rfl
    | succ i ih =>
      intro T hi hT h0 hinv
      have hx : L[i]? = some (L[i]'(by omega)) := List.getElem?_eq_getElem (by omega)
      generalize L[i]'(by omega) = x at hx
      unfold modT
      rw [hx]
      dsimp only
      have hkk : ∀ k ∈ x.kids, 0 ≤ k ∧ k < (i : Int) := f4 i x hx
      have hP : allowsG (wnT T i) x.op = true ∧ (x.op = 45 → fitG (paramsG L x.kids) = true) ∧ ∀ k ∈ x.kids, Fits L (decide (i + 1 = L.length)) (insideG (wnT T i) x.op).d (insideG (wnT T i) x.op).l k := by
        by_cases e : i + 1 = L.length
        · have hl : L.getLast? = some x := by rw [List.getLast?_eq_getElem?, ← hx]; congr 1; omega
          rw [hl] at h47
          have h47 : x.op = 47 := by simpa using h47
          rw [h0 i e, h47]
          refine ⟨by decide, fun h => absurd h (by decide), fun k hk => ?_⟩
          rw [decide_eq_true e]
          exact hr x hl k hk
        · have ht : st.tk[i]? = some true := by
            unfold wholeF at hw
            rw [Bool.and_eq_true, List.all_eq_true] at hw
            have hi2 : i < st.tk.length := by omega
            rw [List.getElem?_eq_getElem hi2]
            have := hw.2 (st.tk[i]) (by
              rw [List.mem_iff_getElem]
              exact ⟨i, by simp; omega, by simp⟩)
            rw [show st.tk[i] = true by simpa using this]
          rcases f2 i ht with h3 | ⟨j, y, h3, h4⟩
          · simp at h3
          · have h5 := (f4 j y h3 _ h4).2
            have h6 := hinv j y i (by omega) h3 h4 (by omega)
            cases h6 with
            | mk hx2 ha hf hk =>
              rw [Int.toNat_natCast, hx] at hx2
              obtain rfl := Option.some.inj hx2
              refine ⟨ha, hf, fun k hk2 => ?_⟩
              rw [decide_eq_false e]
              exact hk k hk2
      obtain ⟨p1, p2, p3⟩ := hP
      rw [p1, if_neg (by simp), if_neg (fun hh => by rw [p2 hh.1] at hh; exact absurd hh.2 (by simp))]
      refine ih _ (by omega) (by rw [setT_length]; exact hT) (fun k hk => by omega) fun j y k hj hy hk hki => ?_
      by_cases hm : (k : Int) ∈ x.kids
      · rw [setT_in _ _ _ k x.kids T (fun z hz => (hkk z hz).1) (by omega) hm]
        exact p3 _ hm
      · rw [setT_out _ _ _ k x.kids T (fun z hz => (hkk z hz).1) hm]
        have hji : j ≠ i := by
          rintro rfl
          rw [hx] at hy
          obtain rfl := Option.some.inj hy
          exact hm hk
        exact hinv j y k (by omega) hy hk (by omega)
  unfold isModT
  rw [h47, decide_eq_true rfl, Bool.true_and]
  refine key L.length _ (Nat.le_refl _) (by simp) (fun k _ => ?_) fun j y k hj hy => ?_
  · unfold wnT
    have : ∀ m, (List.replicate (L.length * 3) false).getD m false = false := fun m => by
      rw [List.getD_eq_getElem?_getD, List.getElem?_replicate]
      split <;> rfl
    rw [this, this, this]
  · have := (List.getElem?_eq_some_iff.1 hy).1
    omega
/-- .. so that ast.Valid finds nothing. -/
theorem valid_of {L : List Nd} {z : Int} (h : Stk L [(z, 256)]) (hr : ∀ x, L.getLast? = some x → ∀ k ∈ x.kids, Fits L true false false k) : validH L = none := by
  obtain ⟨st, h1, h2, h3, _⟩ := h.whole
  unfold validH
  rw [h1]
  dsimp only
  rw [if_pos ⟨h2, mod_of h1 h2 h3 hr⟩]
end Vd
end Go.Proofs.YtpjjofdphlgeiaaGreatDoor
namespace Go.Proofs.YtpjjofdphlgeiaaGreatDoor
namespace Vd
open Lx Ax Ay Px

def Sm (x : Nd) : Prop := OpK x.op ∧ x.s.size ≤ 1000000 ∧ x.kids.length ≤ 900000
def Pr (N L : List Nd) : Prop := (∃ r, L = N ++ r) ∧ ∀ x ∈ L, Sm x
def TkS (ts : List Tok) : Prop := ∀ (j : Nat) t, ts[j]? = some t → t.text.length ≤ 100000
def accQ : Q → Nat
  | .textsLoop _ acc => acc.length
  | _ => 0
def InP (q : Q) : Prop := accQ q ≤ 900000
def Prn (ts : List Tok) (n : Nat) : Prop := ∀ q s N, Pr N s.nodes → InP q → Okp (fun _ _ _ s' => Pr N s'.nodes) (runF ts n q s)
theorem inp_part (k : Nat) : InP (partF k) := by
  rcases k with _ | _ | _ | k <;> exact Nat.zero_le _
theorem inp_row (k : Nat) : InP (rowP k) := by
  unfold rowP
  split <;> exact Nat.zero_le _
theorem inp_not (k : Nat) : InP (if k = 0 then .not else .unary) := by
  split <;> exact Nat.zero_le _
theorem inp_round (k : Nat) : InP (if k = 0 then .orNone else .row 1) := by
  split <;> exact Nat.zero_le _
theorem opk_of {op : Int} (h : op = 18 ∨ op = 19 ∨ (21 ≤ op ∧ op ≤ 33)) : OpK op := ⟨by omega, by omega⟩
theorem opk_ahead (k : Nat) : OpK (if k = 0 then 17 else 16) := by
  split <;> decide
section
variable {ts : List Tok} {n : Nat} {s : PS} {Q' : Int → List Int → Bool → PS → Prop} {N : List Nd}
theorem sz_txt (l : List UInt8) : (txt l).size = l.length := by
  have h : (txt l).data.toList.length = l.length := by rw [data_txt]
  simpa using h
theorem sz_tok (T : TkS ts) {j : Nat} {t : Tok} (h : ts[j]? = some t) : (txt t.text).size ≤ 1000000 := by
  have := T j t h
  rw [sz_txt]; omega
theorem pr_call {q : Q} {f : Int → List Int → Bool → PS → R} (IH : Prn ts n) (h : Pr N s.nodes) (hI : InP q) (H : ∀ z zs c s', Pr N s'.nodes → Okp Q' (f z zs c s')) : Okp Q' ((runF ts n q s).bind f) := (IH q s N h hI).bind H
theorem pr_add {op pos : Int} {tx : ByteArray} {kids : List Int} {f : Int → PS → R} (h : Pr N s.nodes) (ho : OpK op) (ht : tx.size ≤ 1000000) (H : Pr N (s.nodes ++ [⟨op, 0, pos, tx, kids⟩]) → Okp Q' (f s.nodes.length { s with nodes := s.nodes ++ [⟨op, 0, pos, tx, kids⟩] })) : Okp Q' (addF op pos tx kids s f) := by
  unfold addF
  split
  · rename_i hk
    obtain ⟨⟨r, e⟩, a⟩ := h
    refine H ⟨⟨r ++ [⟨op, 0, pos, tx, kids⟩], by rw [e, List.append_assoc]⟩, fun x hx => ?_⟩
    rcases List.mem_append.1 hx with hx | hx
    · exact a x hx
    · rw [List.mem_singleton.1 hx]
      exact ⟨ho, ht, by dsimp only; omega⟩
  · trivial
theorem pr_one {z : Int} (h : Pr N s.nodes) : Okp (fun _ _ _ s' => Pr N s'.nodes) (Px.one z s) := h
theorem pr_ok {z : Int} {zs : List Int} {c : Bool} (h : Pr N s.nodes) : Okp (fun _ _ _ s' => Pr N s'.nodes) (.ok z zs c s) := h
theorem pr_bad {b : Bool} {p : Int} : Okp Q' (.bad b p) := trivial
theorem pr_stuck : Okp Q' .stuck := trivial
end
theorem pr_tail {ts : List Tok} {n : Nat} {s : PS} {N : List Nd} {q : Q} (IH : Prn ts n) (h : Pr N s.nodes) (hI : InP q) : Okp (fun _ _ _ s' => Pr N s'.nodes) (runF ts n q s) := IH q s N h hI
theorem pr_all {ts : List Tok} (T : TkS ts) : ∀ n, Prn ts n
  | 0 => fun _ _ _ _ _ => trivial
  | n + 1 => by
    have IH := pr_all T n
    intro q s N h hI
    show Okp _ (bodyF ts (runF ts n) q s)
    cases q with
    | textsLoop pos acc =>
      have hI : acc.length ≤ 900000 := hI
      unfold bodyF
      dsimp only
      refine p_next fun t ht => ?_
      split
      · split
        · refine IH _ _ _ h ?_
          show (acc ++ t.text).length ≤ 900000
          rw [List.length_append]; omega
        · trivial
      · exact pr_add h (by decide) (by rw [sz_txt]; omega) fun h2 => h2
    | _ =>
      unfold bodyF
      dsimp only [leafF, wordF, thereF, joinF, blockF, fileEnd]
      repeat' (first
        | with_reducible exact pr_stuck
        | with_reducible exact pr_bad
        | with_reducible refine pr_one ?_
        | with_reducible refine pr_ok ?_
        | with_reducible refine pr_call (N := N) IH ?_ ?_ fun _ _ _ _ _ => ?_
        | with_reducible refine pr_tail (N := N) IH ?_ ?_
        | with_reducible refine pr_add (N := N) ?_ ?_ ?_ fun _ => ?_
        | with_reducible refine p_sign fun _ _ => ?_
        | with_reducible refine p_kind fun _ _ => ?_
        | with_reducible refine p_next fun _ _ => ?_
        | with_reducible refine p_begins fun _ => ?_
        | with_reducible refine p_rowB fun _ => ?_
        | with_reducible refine p_allow fun _ => ?_
        | with_reducible refine p_need fun _ => ?_
        | with_reducible refine p_take fun _ _ _ => ?_
        | with_reducible refine p_enter fun _ => ?_
        | with_reducible refine p_leave ?_
        | with_reducible refine p_shut ?_
        | with_reducible refine p_pos fun _ => ?_
        | with_reducible exact inp_part _
        | with_reducible exact inp_row _
        | with_reducible exact inp_not _
        | with_reducible exact inp_round _
        | with_reducible exact opk_ahead _
        | with_reducible exact sz_tok T (by assumption)
        | with_reducible exact opk_of (opF_in (by assumption))
        | with_reducible exact opk_of (cmpOp_in (by assumption))
        | (show InP _; exact Nat.zero_le _)
        | (show OpK _; decide)
        | (show ByteArray.size _ ≤ _; decide)
        | (show Pr _ _; assumption)
        | split)
end Vd
end Go.Proofs.YtpjjofdphlgeiaaGreatDoor
namespace Go.Proofs.YtpjjofdphlgeiaaGreatDoor
namespace Vd
open Lx Ax Ay

/-- A sort of no statement, of no block. -/
def Lo (σ : Int) : Prop := σ ≠ 32 ∧ σ ≠ 256
theorem lo_of {a b : Int} (hb : b = 1 ∨ b = 3 ∨ b = 4 ∨ b = 8 ∨ b = 16 ∨ b = 64 ∨ b = 128) (h : okS a b = true) : Lo a := by
  constructor
  · rintro rfl
    rcases hb with rfl | rfl | rfl | rfl | rfl | rfl | rfl <;> exact absurd h (by decide)
  · rintro rfl
    rcases hb with rfl | rfl | rfl | rfl | rfl | rfl | rfl <;> exact absurd h (by decide)
theorem are_mem {so : List Int} : ∀ {zs ss : List Int}, areF so zs ss = true → ∀ z ∈ zs, ∃ b ∈ ss, okS (so.getD z.toNat 0) b = true
  | [], [], _, z, hz => by simp at hz
  | [], _ :: _, h, _, _ => by simp [areF] at h
  | _ :: _, [], h, _, _ => by simp [areF] at h
  | y :: r, s :: t, h, z, hz => by
    rw [areF, Bool.and_eq_true] at h
    rcases List.mem_cons.1 hz with rfl | hz
    · exact ⟨s, List.mem_cons_self .., h.1⟩
    · obtain ⟨b, hb, h2⟩ := are_mem h.2 z hz
      exact ⟨b, List.mem_cons_of_mem _ hb, h2⟩
theorem all_mem {so : List Int} {b : Int} : ∀ {zs : List Int}, allF so b zs = true → ∀ z ∈ zs, okS (so.getD z.toNat 0) b = true
  | [], _, z, hz => by simp at hz
  | y :: r, h, z, hz => by
    rw [allF, Bool.and_eq_true] at h
    rcases List.mem_cons.1 hz with rfl | hz
    · exact h.1
    · exact all_mem h.2 z hz
theorem by_mem {so zs : List Int} : ∀ n i, byF so zs n ≤ i → i < n → okS (so.getD (zs.getD i 0).toNat 0) 4 = true
  | 0, i, _, h => absurd h (by omega)
  | n + 1, i, h1, h2 => by
    unfold byF at h1
    split at h1
    · rename_i h4
      by_cases e : i = n
      · subst e; exact h4
      · exact by_mem n i h1 (by omega)
    · omega
theorem calls_mem {so zs : List Int} (h : callsF so zs = true) : ∀ z ∈ zs, ∃ b, (b = 1 ∨ b = 4) ∧ okS (so.getD z.toNat 0) b = true := by
  intro z hz
  unfold callsF at h
  rw [Bool.and_eq_true] at h
  obtain ⟨i, hi, e⟩ := List.getElem_of_mem hz
  by_cases hb : i < byF so zs zs.length
  · refine ⟨1, .inl rfl, all_mem h.2 z ?_⟩
    rw [← e, List.mem_iff_getElem]
    exact ⟨i, by rw [List.length_take]; omega, by rw [List.getElem_take]⟩
  · refine ⟨4, .inr rfl, ?_⟩
    have := by_mem (so := so) (zs := zs) zs.length i (by omega) hi
    rw [List.getD_eq_getElem?_getD (l := zs), List.getElem?_eq_getElem hi] at this
    rw [← e]
    exact this
/-- What an expression, a param takes is neither statement nor block. -/
theorem kids_lo {so : List Int} {x : Nd} (h : hasG so x = true) (ho : x.op ≤ 34 ∨ x.op = 46) : ∀ z ∈ x.kids, Lo (so.getD z.toNat 0) := by
  intro z hz
  have go : ∀ {ss : List Int}, areF so x.kids ss = true → (∀ b ∈ ss, b = 1 ∨ b = 3 ∨ b = 4 ∨ b = 8 ∨ b = 16 ∨ b = 64 ∨ b = 128) → Lo (so.getD z.toNat 0) := fun h hb => by
    obtain ⟨b, h1, h2⟩ := are_mem h z hz
    exact lo_of (hb b h1) h2
  unfold hasG at h
  rw [Bool.or_eq_true] at h
  rcases h with h | h
  · unfold exprG at h
    split at h
    · exact go h (by simp)
    split at h
    · exact lo_of (.inl rfl) (all_mem h z hz)
    split at h
    · rw [Bool.and_eq_true] at h
      exact lo_of (.inl rfl) (all_mem h.2 z hz)
    split at h
    · obtain ⟨b, h1, h2⟩ := calls_mem h z hz
      exact lo_of (by omega) h2
    split at h
    · exact go h (by simp)
    split at h
    · exact go h (by simp)
    split at h
    · exact go h (by simp)
    split at h
    · rw [Bool.or_eq_true] at h
      rcases h with h | h <;> exact go h (by simp)
    split at h
    · exact go h (by simp)
    · cases h
  · rcases ho with ho | ho
    · unfold stmtG at h
      rw [if_pos ho] at h
      cases h
    · unfold stmtG at h
      rw [if_neg (by omega), if_neg (by omega), if_neg (by omega), if_pos (.inr ho), Bool.or_eq_true] at h
      rcases h with h | h <;> exact go h (by simp)
theorem forms_has {l : List Nd} : ∀ (r : List Nd) (i : Nat) (st st' : VS), st.tk.length = st.so.length → formsG l r i st = .inr st' → (∀ (j : Nat) y, st.so[j]? = some y → st'.so[j]? = some y) ∧ ∀ (j : Nat) x, r[j]? = some x → ∃ s1 : VS, (∀ k ∈ x.kids, 0 ≤ k ∧ k < ((st.so.length + j : Nat) : Int) ∧ s1.so.getD k.toNat 0 = st'.so.getD k.toNat 0) ∧ st'.so[st.so.length + j]? = some (sortG l s1.so x) ∧ hasG s1.so x = true
  | [], i, st, st', hl, h => by
    injection h with h
    subst h
    exact ⟨fun _ _ h => h, fun j x hx => by simp at hx⟩
  | y :: r, i, st, st', hl, h => by
    rw [formsG] at h
    cases hf : formG l y st with
    | none => rw [hf] at h; cases h
    | some s1 =>
      rw [hf] at h
      dsimp only at h
      obtain ⟨tk, h1, h2, _, _, h5⟩ := formG_take hf
      have hl1 : s1.tk.length = s1.so.length := by rw [h2]; simp only [List.length_append, List.length_singleton, takeF_length h1]; omega
      obtain ⟨a, b⟩ := forms_has r (i + 1) s1 st' hl1 h
      have hk : ∀ (j : Nat) z, st.so[j]? = some z → s1.so[j]? = some z := fun j z hz => by
        rw [h2]
        dsimp only
        rw [List.getElem?_append_left (List.getElem?_eq_some_iff.1 hz).1]
        exact hz
      refine ⟨fun j z hz => a j z (hk j z hz), fun j x hx => ?_⟩
      cases j with
      | zero =>
        obtain rfl : y = x := by simpa using hx
        refine ⟨st, fun k hkk => ?_, a _ _ ?_, h5⟩
        · have hr := takeF_range h1 k hkk
          refine ⟨hr.1, by omega, ?_⟩
          have hk3 : k.toNat < st.so.length := by omega
          rw [List.getD_eq_getElem?_getD, List.getD_eq_getElem?_getD, a _ _ (hk _ _ (List.getElem?_eq_getElem hk3)), List.getElem?_eq_getElem hk3]
        · rw [h2]
          simp
      | succ j =>
        obtain ⟨s2, c, d, e⟩ := b j x (by simpa using hx)
        have hsl : s1.so.length = st.so.length + 1 := by rw [h2]; simp
        refine ⟨s2, fun k hkk => ?_, ?_, e⟩
        · obtain ⟨c1, c2, c3⟩ := c k hkk
          exact ⟨c1, by omega, c3⟩
        · rw [hsl] at d
          rw [show st.so.length + (j + 1) = st.so.length + 1 + j by omega]
          exact d
/-- A node of forms: its kids' sorts, its own. -/
theorem Good.node {L : List Nd} {st : VS} (h : Good L st) {j : Nat} {x : Nd} (hx : L[j]? = some x) : ∃ so, (∀ k ∈ x.kids, 0 ≤ k ∧ k < (j : Int) ∧ so.getD k.toNat 0 = st.so.getD k.toNat 0) ∧ st.so.getD j 0 = sortG L so x ∧ hasG so x = true := by
  obtain ⟨s1, a, b, c⟩ := (forms_has L 0 ⟨[], []⟩ st rfl h).2 j x hx
  simp only [List.length_nil, Nat.zero_add] at a b
  exact ⟨s1.so, a, by rw [List.getD_eq_getElem?_getD, b]; rfl, c⟩
theorem sort_lo {L : List Nd} {so : List Int} {x : Nd} (h : Lo (sortG L so x)) : x.op ≤ 34 ∨ x.op = 46 := by
  unfold sortG at h
  split at h
  · omega
  split at h
  · omega
  split at h
  · omega
  split at h
  · omega
  split at h
  · omega
  split at h
  · exact absurd rfl h.2
  split at h
  · exact absurd rfl h.1
  · omega
theorem fits_lo {L : List Nd} {st : VS} (h : Good L st) : ∀ (n : Nat) (z : Int), 0 ≤ z → z < (n : Int) → z < (L.length : Int) → Lo (st.so.getD z.toNat 0) → ∀ w d l, Fits L w d l z
  | 0, z, h0, h1, _, _ => absurd h1 (by omega)
  | n + 1, z, h0, h1, h2, hl => by
    intro w d l
    obtain ⟨m, rfl⟩ := Int.eq_ofNat_of_zero_le h0
    rw [Int.toNat_natCast] at hl
    have hm : m < L.length := by omega
    have hx : L[m]? = some (L[m]) := List.getElem?_eq_getElem hm
    generalize L[m] = x at hx
    obtain ⟨so, a, b, c⟩ := h.node hx
    rw [b] at hl
    have ho := sort_lo hl
    refine .mk (x := x) (by rw [Int.toNat_natCast]; exact hx) ?_ (fun h => by omega) fun k hk => ?_
    · unfold allowsG
      rw [if_neg (by omega), if_neg (by omega), if_neg (by omega)]
    · obtain ⟨k0, k1, k2⟩ := a k hk
      have k3 := kids_lo c ho k hk
      rw [k2] at k3
      exact fits_lo h n k k0 (by omega) (by omega) k3 _ _ _
theorem allows_mono {w d l w' d' l' : Bool} {op : Int} (hw : w = true → w' = true) (hd : d = true → d' = true) (hl : l = true → l' = true) (h : allowsG ⟨w, d, l⟩ op = true) : allowsG ⟨w', d', l'⟩ op = true := by
  unfold allowsG at h ⊢
  split
  · rename_i h1; rw [if_pos h1] at h; exact hl h
  · rename_i h1
    rw [if_neg h1] at h
    split
    · rename_i h2; rw [if_pos h2] at h; exact hd h
    · rename_i h2
      rw [if_neg h2] at h
      split
      · rename_i h3; rw [if_pos h3] at h; exact hw h
      · rfl
theorem inside_mono {w d l w' d' l' : Bool} {op : Int} (hd : d = true → d' = true) (hl : l = true → l' = true) : ((insideG ⟨w, d, l⟩ op).d = true → (insideG ⟨w', d', l'⟩ op).d = true) ∧ ((insideG ⟨w, d, l⟩ op).l = true → (insideG ⟨w', d', l'⟩ op).l = true) := by
  unfold insideG
  split
  · exact ⟨hd, fun _ => rfl⟩
  · split
    · exact ⟨fun _ => rfl, hl⟩
    · exact ⟨hd, hl⟩
theorem Fits.mono {L : List Nd} {w d l : Bool} {z : Int} (h : Fits L w d l z) : ∀ {w' d' l' : Bool}, (w = true → w' = true) → (d = true → d' = true) → (l = true → l' = true) → Fits L w' d' l' z := by
  induction h with
  | mk hx ha hf hk ih =>
    intro w' d' l' hw hd hl
    refine .mk hx (allows_mono hw hd hl ha) hf fun k hk2 => ?_
    obtain ⟨a, b⟩ := inside_mono (w := _) (w' := w') (op := _) hd hl
    exact ih k hk2 id a b
end Vd
end Go.Proofs.YtpjjofdphlgeiaaGreatDoor
namespace Go.Proofs.YtpjjofdphlgeiaaGreatDoor
namespace Vd
open Lx Ax Ay Px

/-- .. whatever is put behind these nodes, if only it has its forms. -/
def Fut (L : List Nd) (P : List Nd → Prop) : Prop := ∀ L' st r, L' = L ++ r → Good L' st → P L'
theorem Fut.go {L L2 : List Nd} {P : List Nd → Prop} (h : Fut L P) (hL : ∃ r, L2 = L ++ r) : Fut L2 P := by
  obtain ⟨r, e⟩ := hL
  intro L' st r2 e2 g
  exact h L' st (r ++ r2) (by rw [e2, e, List.append_assoc]) g
theorem Fut.imp {L : List Nd} {P P2 : List Nd → Prop} (h : Fut L P) (hf : ∀ L', P L' → P2 L') : Fut L P2 := fun L' st r e g => hf L' (h L' st r e g)
theorem Fut.and {L : List Nd} {P P2 : List Nd → Prop} (h : Fut L P) (h2 : Fut L P2) : Fut L fun L' => P L' ∧ P2 L' := fun L' st r e g => ⟨h L' st r e g, h2 L' st r e g⟩
def lastG : List Nd → Bool → Bool
  | [], g => g
  | x :: r, _ => lastG r (!x.kids.isEmpty)
theorem gv_snoc : ∀ (ps : List Nd) (x : Nd) (g : Bool), gvF ps g = true → ¬(lastG ps g = true ∧ x.kids = []) → gvF (ps ++ [x]) g = true ∧ lastG (ps ++ [x]) g = !x.kids.isEmpty
  | [], x, g, _, h => by
    constructor
    · show (if g = true ∧ x.kids = [] then false else gvF [] (!x.kids.isEmpty)) = true
      rw [if_neg (show ¬(g = true ∧ x.kids = []) from h)]; rfl
    · rfl
  | y :: r, x, g, h1, h2 => by
    unfold gvF at h1
    split at h1
    · cases h1
    · rename_i h3
      obtain ⟨a, b⟩ := gv_snoc r x _ h1 h2
      rw [List.cons_append]
      constructor
      · unfold gvF
        rw [if_neg h3]; exact a
      · exact b
def ndAt (L : List Nd) (z : Int) : Nd := L.getD z.toNat ⟨0, 0, 0, ⟨#[]⟩, []⟩
/-- Params as they were read. -/
def Prm (zs : List Int) (names : List (List UInt8)) (given : Bool) (L : List Nd) : Prop := (zs.map (ndAt L)).map (·.s.data.toList) = names.reverse ∧ gvF (zs.map (ndAt L)) false = true ∧ lastG (zs.map (ndAt L)) false = given
def InF (L : List Nd) : Q → Prop
  | .linesLoop p zs => Fut L fun L' => ∀ z ∈ zs, Fits L' (!p.inner) p.d p.l z
  | .fileLoop zs => Fut L fun L' => ∀ z ∈ zs, Fits L' true false false z
  | .params zs names given => Fut L (Prm zs names given) ∧ names.Nodup
  | _ => True
def OutF (ts : List Tok) (s : PS) (z : Int) (zs : List Int) (c : Bool) (L' : List Nd) : Q → Prop
  | .statement p | .line p | .simple p | .loop p => Fits L' (!p.inner) p.d p.l z
  | .elif p | .block p | .cond _ p => Fits L' false p.d p.l z
  | .lines p | .linesLoop p _ => ∀ z ∈ zs, Fits L' (!p.inner) p.d p.l z
  | .fileLoop _ => ∀ z ∈ zs, Fits L' true false false z
  | .load | .def_ => Fits L' true false false z
  | .result => Fits L' false true false z
  | .assignment => Fits L' false false false z
  | .file => ∀ x, L'[z.toNat]? = some x → ∀ k ∈ x.kids, Fits L' true false false k
  | .params _ _ _ => ∃ names given, Prm zs names given L' ∧ names.Nodup
  | .param names given => ∃ t, ts[s.at_]? = some t ∧ (ndAt L' z).s.data.toList = t.text ∧ t.text ∉ names ∧ (ndAt L' z).kids.isEmpty = !c ∧ (given = true → c = true)
  | _ => True
def Sms (L : List Nd) : Prop := ∀ x ∈ L, Sm x
def Fw (ts : List Tok) (q : Q) (s : PS) (z : Int) (zs : List Int) (c : Bool) (s' : PS) : Prop := Fut s'.nodes fun L' => OutF ts s z zs c L' q
def Stf (ts : List Tok) (n : Nat) : Prop := ∀ q s, Sms s.nodes → InF s.nodes q → Okp (Fw ts q s) (runF ts n q s)
def StF (ts : List Tok) (n : Nat) (q : Q) : Prop := ∀ s, Sms s.nodes → InF s.nodes q → Okp (Fw ts q s) (bodyF ts (runF ts n) q s)
theorem Okp.and {P P2 : Int → List Int → Bool → PS → Prop} {r : R} (h : Okp P r) (h2 : Okp P2 r) : Okp (fun z zs c s => P z zs c s ∧ P2 z zs c s) r := by
  cases r with
  | stuck => trivial
  | bad => trivial
  | ok z zs c s => exact ⟨h, h2⟩
section
variable {ts : List Tok} {n : Nat} {s : PS} {Q' : Int → List Int → Bool → PS → Prop}
theorem f_call {q : Q} {f : Int → List Int → Bool → PS → R} (T : TkS ts) (IH : Stf ts n) (hq : InP q) (hs : Sms s.nodes) (hI : InF s.nodes q) (H : ∀ z zs c s', (∃ r, s'.nodes = s.nodes ++ r) → Sms s'.nodes → Fw ts q s z zs c s' → Okp Q' (f z zs c s')) : Okp Q' ((runF ts n q s).bind f) :=
  ((IH q s hs hI).and (pr_all T n q s s.nodes ⟨⟨[], by simp⟩, hs⟩ hq)).bind fun z zs c s' h => H z zs c s' h.2.1 h.2.2 h.1
theorem f_tail {q : Q} (IH : Stf ts n) (hs : Sms s.nodes) (hI : InF s.nodes q) (H : ∀ z zs c s', Fw ts q s z zs c s' → Q' z zs c s') : Okp Q' (runF ts n q s) := (IH q s hs hI).mono H
theorem f_add {op pos : Int} {tx : ByteArray} {kids : List Int} {f : Int → PS → R} (hs : Sms s.nodes) (ho : OpK op) (ht : tx.size ≤ 1000000) (H : Sms (s.nodes ++ [⟨op, 0, pos, tx, kids⟩]) → (∀ r, (s.nodes ++ [⟨op, 0, pos, tx, kids⟩] ++ r)[((s.nodes.length : Int)).toNat]? = some ⟨op, 0, pos, tx, kids⟩) → Okp Q' (f s.nodes.length { s with nodes := s.nodes ++ [⟨op, 0, pos, tx, kids⟩] })) : Okp Q' (addF op pos tx kids s f) := by
  unfold addF
  split
  · rename_i hk
    refine H (fun x hx => ?_) fun r => ?_
    · rcases List.mem_append.1 hx with hx | hx
      · exact hs x hx
      · rw [List.mem_singleton.1 hx]
        exact ⟨ho, ht, by dsimp only; omega⟩
    · rw [Int.toNat_natCast, List.append_assoc, List.getElem?_append_right (Nat.le_refl _), Nat.sub_self]; rfl
  · trivial
end
/-- A kid that is an expression stands where it likes. -/
theorem kid_fits {L : List Nd} {st : VS} (g : Good L st) {j : Nat} {x : Nd} (hx : L[j]? = some x) {k : Int} (hk : k ∈ x.kids) (hl : ∀ so, hasG so x = true → Lo (so.getD k.toNat 0)) (w d l : Bool) : Fits L w d l k := by
  obtain ⟨so, a, b, c⟩ := g.node hx
  obtain ⟨k0, k1, k2⟩ := a k hk
  have hj := (List.getElem?_eq_some_iff.1 hx).1
  have h3 := hl so c
  rw [k2] at h3
  exact fits_lo g L.length k k0 (by omega) (by omega) h3 w d l
theorem lo_all {so : List Int} {x : Nd} (h : hasG so x = true) (ho : x.op = 35 ∨ x.op = 36 ∨ x.op = 37 ∨ x.op = 41 ∨ x.op = 42 ∨ x.op = 38 ∨ x.op = 39 ∨ x.op = 40) : ∀ k ∈ x.kids, Lo (so.getD k.toNat 0) := by
  intro z hz
  have go : ∀ {ss : List Int}, areF so x.kids ss = true → (∀ b ∈ ss, b = 1 ∨ b = 3 ∨ b = 4 ∨ b = 8 ∨ b = 16 ∨ b = 64 ∨ b = 128) → Lo (so.getD z.toNat 0) := fun h hb => by
    obtain ⟨b, h1, h2⟩ := are_mem h z hz
    exact lo_of (hb b h1) h2
  unfold hasG at h
  rw [Bool.or_eq_true] at h
  rcases h with h | h
  · exfalso
    unfold exprG at h
    rw [if_neg (by omega), if_neg (by omega), if_neg (by omega), if_neg (by omega), if_neg (by omega), if_neg (by omega), if_neg (by omega), if_neg (by omega), if_neg (by omega)] at h
    cases h
  · unfold stmtG at h
    split at h
    · cases h
    split at h
    · exact go h (by simp)
    split at h
    · exact go h (by simp)
    split at h
    · rw [Bool.or_eq_true] at h
      rcases h with h | h <;> exact go h (by simp)
    split at h
    · exact go h (by simp)
    split at h
    · exact go h (by simp)
    split at h
    · rw [Bool.and_eq_true] at h
      exact lo_of (by simp) (all_mem h.2 z hz)
    · omega
end Vd
end Go.Proofs.YtpjjofdphlgeiaaGreatDoor
namespace Go.Proofs.YtpjjofdphlgeiaaGreatDoor
namespace Vd
open Lx Ax Ay Px
variable {ts : List Tok} {n : Nat}

theorem none_in {L : List Nd} {P : Int → Prop} : Fut L fun _ => ∀ z ∈ ([] : List Int), P z := fun _ _ _ _ _ z hz => by simp at hz
/-- A leaf, a statement of expressions. -/
theorem leaf_fits {L : List Nd} {st : VS} (g : Good L st) {z : Int} {x : Nd} (hx : L[z.toNat]? = some x) (ho : x.op = 35 ∨ x.op = 36 ∨ x.op = 37 ∨ x.op = 41 ∨ x.op = 42 ∨ x.op = 38 ∨ x.op = 39 ∨ x.op = 40) {w d l : Bool} (ha : allowsG ⟨w, d, l⟩ x.op = true) : Fits L w d l z :=
  .mk hx ha (fun h => by omega) fun k hk => kid_fits g hx hk (fun so h => lo_all h ho k hk) _ _ _
theorem fw_statement (IH : Stf ts n) (p : Pl) : StF ts n (.statement p) := by
  intro s hs hI
  unfold bodyF
  dsimp only
  refine p_sign fun t ht => ?_
  split
  · refine p_need fun pos => f_tail IH hs trivial fun z zs c s' h => ?_
    refine Fut.imp h fun L' h => ?_
    exact Fits.mono (h : Fits L' false p.d p.l z) (fun h => by cases h) id id
  split
  · exact f_tail IH hs trivial fun z zs c s' h => h
  split
  · refine p_allow fun hp => f_tail IH hs trivial fun z zs c s' h => ?_
    refine Fut.imp h fun L' h => ?_
    exact Fits.mono (h : Fits L' true false false z) (fun _ => hp) (fun h => by cases h) (fun h => by cases h)
  · exact f_tail IH hs trivial fun z zs c s' h => h
theorem fw_line (T : TkS ts) (IH : Stf ts n) (p : Pl) : StF ts n (.line p) := by
  intro s hs hI
  unfold bodyF
  dsimp only
  refine f_call T IH (Nat.zero_le _) hs trivial fun z1 zs1 c1 s1 hr h1 F1 => ?_
  exact p_take fun _ _ _ => F1
theorem fw_simple (IH : Stf ts n) (p : Pl) : StF ts n (.simple p) := by
  intro s hs hI
  have word : ∀ op : Int, OpK op → (op = 35 ∨ op = 36 ∨ op = 37 ∨ op = 41 ∨ op = 42 ∨ op = 38 ∨ op = 39 ∨ op = 40) → allowsG ⟨!p.inner, p.d, p.l⟩ op = true → Okp (Fw ts (.simple p) s) (wordF ts op s) := fun op h1 h2 h3 => by
    unfold wordF
    refine p_next fun u hu => f_add hs h1 (by decide) fun h4 h5 => ?_
    intro L' st r e g
    subst e
    exact leaf_fits g (h5 r) h2 h3
  unfold bodyF
  dsimp only
  refine p_sign fun t ht => ?_
  split
  · exact word 38 (by decide) (by simp) (by rfl)
  split
  · exact p_allow fun hp => word 39 (by decide) (by simp) (by simpa [allowsG] using hp)
  split
  · exact p_allow fun hp => word 40 (by decide) (by simp) (by simpa [allowsG] using hp)
  split
  · refine p_allow fun hp => f_tail IH hs trivial fun z zs c s' h => ?_
    refine Fut.imp h fun L' h => ?_
    exact Fits.mono (h : Fits L' false true false z) (fun h => by cases h) (fun _ => hp) (fun h => by cases h)
  split
  · refine p_allow fun hp => f_tail IH hs trivial fun z zs c s' h => ?_
    refine Fut.imp h fun L' h => ?_
    exact Fits.mono (h : Fits L' true false false z) (fun _ => hp) (fun h => by cases h) (fun h => by cases h)
  · refine f_tail IH hs trivial fun z zs c s' h => ?_
    refine Fut.imp h fun L' h => ?_
    exact Fits.mono (h : Fits L' false false false z) (fun h => by cases h) (fun h => by cases h) (fun h => by cases h)
theorem fw_load (T : TkS ts) (IH : Stf ts n) : StF ts n .load := by
  intro s hs hI
  unfold bodyF
  dsimp only
  refine p_need fun pos => ?_
  refine p_need fun _ => ?_
  refine p_take fun t ht hk => ?_
  refine p_need fun _ => ?_
  refine f_call T IH (Nat.zero_le _) hs trivial fun z1 zs1 c1 s1 r1 h1 F1 => ?_
  refine f_call T IH (Nat.zero_le _) h1 trivial fun z2 zs2 c2 s2 r2 h2 F2 => ?_
  refine p_need fun _ => ?_
  refine f_add h2 (by decide) (sz_tok T ht) fun h4 h5 => ?_
  intro L' st r e g
  subst e
  exact leaf_fits g (h5 r) (by simp) rfl
theorem fw_result (T : TkS ts) (IH : Stf ts n) : StF ts n .result := by
  intro s hs hI
  unfold bodyF
  dsimp only
  refine p_need fun pos => ?_
  refine p_begins fun b => ?_
  split
  · refine f_call T IH (Nat.zero_le _) hs trivial fun z1 zs1 c1 s1 r1 h1 F1 => ?_
    refine f_add h1 (by decide) (by decide) fun h4 h5 => ?_
    intro L' st r e g
    subst e
    exact leaf_fits g (h5 r) (by simp) rfl
  · refine f_add hs (by decide) (by decide) fun h4 h5 => ?_
    intro L' st r e g
    subst e
    exact leaf_fits g (h5 r) (by simp) rfl
theorem fw_assignment (T : TkS ts) (IH : Stf ts n) : StF ts n .assignment := by
  intro s hs hI
  unfold bodyF
  dsimp only
  refine f_call T IH (Nat.zero_le _) hs trivial fun z1 zs1 c1 s1 r1 h1 F1 => ?_
  refine p_sign fun t ht => ?_
  split
  · cases hb : targetF (s1.nodes.length + 1) s1.nodes z1 with
    | none => trivial
    | some b =>
      dsimp only
      refine p_allow fun e => ?_
      refine p_next fun u hu => ?_
      refine f_call T IH (Nat.zero_le _) h1 trivial fun z2 zs2 c2 s2 r2 h2 F2 => ?_
      refine f_add h2 (by decide) (by decide) fun h4 h5 => ?_
      intro L' st r e g
      subst e
      exact leaf_fits g (h5 r) (by simp) rfl
  split
  · split
    · trivial
    · cases hx : s1.nodes[z1.toNat]? with
      | none => trivial
      | some x =>
        dsimp only
        refine p_allow fun e => ?_
        refine p_next fun u hu => ?_
        refine f_call T IH (Nat.zero_le _) h1 trivial fun z2 zs2 c2 s2 r2 h2 F2 => ?_
        refine f_add h2 (by decide) (by decide) fun h4 h5 => ?_
        intro L' st r e g
        subst e
        exact leaf_fits g (h5 r) (by simp) rfl
  · refine p_pos fun p => ?_
    refine f_add h1 (by decide) (by decide) fun h4 h5 => ?_
    intro L' st r e g
    subst e
    exact leaf_fits g (h5 r) (by simp) rfl
theorem fw_block_ {s : PS} {zs : List Int} {d l : Bool} (hs : Sms s.nodes) (hF : Fut s.nodes fun L' => ∀ z ∈ zs, Fits L' false d l z) : Okp (fun z _ _ s' => Fut s'.nodes fun L' => Fits L' false d l z) (blockF zs s) := by
  unfold blockF
  split
  · trivial
  · refine p_pos fun p => ?_
    refine f_add hs (by decide) (by decide) fun h4 h5 => ?_
    intro L' st r e g
    have h6 := hF.go ⟨_, rfl⟩ L' st r e g
    subst e
    exact .mk (h5 r) rfl (fun h => absurd h (by simp)) fun k hk => h6 k hk
theorem fw_block (T : TkS ts) (IH : Stf ts n) (p : Pl) : StF ts n (.block p) := by
  intro s hs hI
  unfold bodyF
  dsimp only
  refine p_enter fun pos => ?_
  refine p_kind fun t ht => ?_
  split
  · refine f_call T IH (Nat.zero_le _) hs trivial fun z1 zs1 c1 s1 r1 h1 F1 => ?_
    refine p_leave ?_
    exact (fw_block_ (s := { s1 with deep := s1.deep - 1 }) h1 F1).mono fun z zs c s' h => h
  · refine f_call T IH (Nat.zero_le _) hs trivial fun z1 zs1 c1 s1 r1 h1 F1 => ?_
    refine p_leave ?_
    exact (fw_block_ (s := { s1 with deep := s1.deep - 1 }) h1 (Fut.imp F1 fun L' h z hz => by rw [List.mem_singleton.1 hz]; exact h)).mono fun z zs c s' h => h
theorem fw_elif (T : TkS ts) (IH : Stf ts n) (p : Pl) : StF ts n (.elif p) := by
  intro s hs hI
  unfold bodyF
  dsimp only
  refine p_enter fun pos => ?_
  refine f_call T IH (Nat.zero_le _) hs trivial fun z1 zs1 c1 s1 r1 h1 F1 => ?_
  refine p_leave ?_
  exact (fw_block_ (s := { s1 with deep := s1.deep - 1 }) h1 (Fut.imp F1 fun L' h z hz => by rw [List.mem_singleton.1 hz]; exact h)).mono fun z zs c s' h => h
theorem fw_lines (T : TkS ts) (IH : Stf ts n) (p : Pl) : StF ts n (.lines p) := by
  intro s hs hI
  unfold bodyF
  dsimp only
  refine p_take fun _ _ _ => ?_
  refine p_take fun _ _ _ => ?_
  refine f_call T IH (Nat.zero_le _) hs trivial fun z1 zs1 c1 s1 r1 h1 F1 => ?_
  refine f_tail IH h1 ?_ fun z zs c s' h => h
  exact Fut.imp F1 fun L' h z hz => by rw [List.mem_singleton.1 hz]; exact h
theorem fw_linesLoop (T : TkS ts) (IH : Stf ts n) (p : Pl) (zs : List Int) : StF ts n (.linesLoop p zs) := by
  intro s hs hI
  have hI : Fut s.nodes fun L' => ∀ z ∈ zs, Fits L' (!p.inner) p.d p.l z := hI
  unfold bodyF
  dsimp only
  refine p_kind fun t ht => ?_
  split
  · exact p_take fun _ _ _ => hI
  · refine f_call T IH (Nat.zero_le _) hs trivial fun z1 zs1 c1 s1 r1 h1 F1 => ?_
    split
    · refine f_tail IH h1 ?_ fun z zs c s' h => h
      exact ((hI.go r1).and F1).imp fun L' h z hz => (List.mem_append.1 hz).elim (h.1 z) fun hz => by rw [List.mem_singleton.1 hz]; exact h.2
    · trivial
theorem fw_fileLoop (T : TkS ts) (IH : Stf ts n) (zs : List Int) : StF ts n (.fileLoop zs) := by
  intro s hs hI
  have hI : Fut s.nodes fun L' => ∀ z ∈ zs, Fits L' true false false z := hI
  unfold bodyF
  dsimp only
  refine p_kind fun t ht => ?_
  split
  · exact hI
  · refine f_call T IH (Nat.zero_le _) hs trivial fun z1 zs1 c1 s1 r1 h1 F1 => ?_
    split
    · refine f_tail IH h1 ?_ fun z zs c s' h => h
      exact ((hI.go r1).and F1).imp fun L' h z hz => (List.mem_append.1 hz).elim (h.1 z) fun hz => by rw [List.mem_singleton.1 hz]; exact h.2
    · trivial
theorem lo_43 {so : List Int} {pos a b : Int} {r : List Int} (h : hasG so ⟨43, 0, pos, ⟨#[]⟩, a :: b :: r⟩ = true) : Lo (so.getD a.toNat 0) := by
  simp only [hasG, exprG, stmtG] at h
  simp [areF] at h
  exact lo_of (.inl rfl) (by rw [List.getD_eq_getElem?_getD]; rcases h with h | h <;> exact h.1)
theorem lo_44 {so : List Int} {pos a b c : Int} (h : hasG so ⟨44, 0, pos, ⟨#[]⟩, [a, b, c]⟩ = true) : Lo (so.getD a.toNat 0) ∧ Lo (so.getD b.toNat 0) := by
  simp only [hasG, exprG, stmtG] at h
  simp [areF] at h
  exact ⟨lo_of (b := 8) (by simp) (by rw [List.getD_eq_getElem?_getD]; exact h.1), lo_of (b := 1) (by simp) (by rw [List.getD_eq_getElem?_getD]; exact h.2.1)⟩
theorem fw_cond (T : TkS ts) (IH : Stf ts n) (pos : Int) (p : Pl) : StF ts n (.cond pos p) := by
  intro s hs hI
  unfold bodyF
  dsimp only
  refine f_call T IH (Nat.zero_le _) hs trivial fun z1 zs1 c1 s1 r1 h1 F1 => ?_
  refine f_call T IH (Nat.zero_le _) h1 trivial fun z2 zs2 c2 s2 r2 h2 F2 => ?_
  have three : ∀ (s3 : PS) (z3 : Int), Sms s3.nodes → (∃ r, s3.nodes = s2.nodes ++ r) → (Fut s3.nodes fun L' => Fits L' false p.d p.l z3) → Okp (Fw ts (.cond pos p) s) (addF 43 pos ⟨#[]⟩ [z1, z2, z3] s3 Px.one) := fun s3 z3 h3 r3 F3 => by
    refine f_add h3 (by decide) (by decide) fun h4 h5 => ?_
    intro L' st r e g
    have F2' := (F2.go r3).go ⟨_, rfl⟩ L' st r e g
    have F3' := F3.go ⟨_, rfl⟩ L' st r e g
    subst e
    refine .mk (h5 r) rfl (fun h => absurd h (by simp)) fun k hk => ?_
    simp only [List.mem_cons, List.not_mem_nil, or_false] at hk
    rcases hk with rfl | rfl | rfl
    · exact kid_fits g (h5 r) (by simp) (fun so h => lo_43 h) _ _ _
    · exact F2'
    · exact F3'
  refine p_sign fun t ht => ?_
  split
  · refine f_call T IH (Nat.zero_le _) h2 trivial fun z3 zs3 c3 s3 r3 h3 F3 => ?_
    exact three s3 z3 h3 r3 F3
  split
  · refine f_call T IH (Nat.zero_le _) h2 trivial fun z3 zs3 c3 s3 r3 h3 F3 => ?_
    exact three s3 z3 h3 r3 F3
  · refine f_add h2 (by decide) (by decide) fun h4 h5 => ?_
    intro L' st r e g
    have F2' := F2.go ⟨_, rfl⟩ L' st r e g
    subst e
    refine .mk (h5 r) rfl (fun h => absurd h (by simp)) fun k hk => ?_
    simp only [List.mem_cons, List.not_mem_nil, or_false] at hk
    rcases hk with rfl | rfl
    · exact kid_fits g (h5 r) (by simp) (fun so h => lo_43 h) _ _ _
    · exact F2'
theorem fw_loop (T : TkS ts) (IH : Stf ts n) (p : Pl) : StF ts n (.loop p) := by
  intro s hs hI
  unfold bodyF
  dsimp only
  refine p_need fun pos => ?_
  refine f_call T IH (Nat.zero_le _) hs trivial fun z1 zs1 c1 s1 r1 h1 F1 => ?_
  refine p_need fun _ => ?_
  refine f_call T IH (Nat.zero_le _) h1 trivial fun z2 zs2 c2 s2 r2 h2 F2 => ?_
  refine f_call T IH (Nat.zero_le _) h2 trivial fun z3 zs3 c3 s3 r3 h3 F3 => ?_
  refine f_add h3 (by decide) (by decide) fun h4 h5 => ?_
  intro L' st r e g
  have F3' := F3.go ⟨_, rfl⟩ L' st r e g
  subst e
  refine .mk (h5 r) rfl (fun h => absurd h (by simp)) fun k hk => ?_
  simp only [List.mem_cons, List.not_mem_nil, or_false] at hk
  rcases hk with rfl | rfl | rfl
  · exact kid_fits g (h5 r) (by simp) (fun so h => (lo_44 h).1) _ _ _
  · exact kid_fits g (h5 r) (by simp) (fun so h => (lo_44 h).2) _ _ _
  · exact F3'
theorem fw_file (T : TkS ts) (IH : Stf ts n) : StF ts n .file := by
  intro s hs hI
  unfold bodyF
  dsimp only
  refine f_call T IH (Nat.zero_le _) hs (fun _ _ _ _ _ z hz => by simp at hz) fun z1 zs1 c1 s1 r1 h1 F1 => ?_
  unfold fileEnd
  split
  · refine f_add h1 (by decide) (by decide) fun h2 h3 => ?_
    refine p_pos fun p => ?_
    refine f_add h2 (by decide) (by decide) fun h4 h5 => ?_
    intro L' st r e g x hx k hk
    subst e
    rw [h5 r] at hx
    obtain rfl := Option.some.inj hx
    rw [List.mem_singleton.1 hk]
    refine leaf_fits g (x := ⟨38, 0, 0, ⟨#[]⟩, []⟩) ?_ (by simp) rfl
    have := h3 ([⟨47, 0, p, ⟨#[]⟩, [(s1.nodes.length : Int)]⟩] ++ r)
    rw [← List.append_assoc] at this
    exact this
  · refine p_pos fun p => ?_
    refine f_add h1 (by decide) (by decide) fun h4 h5 => ?_
    intro L' st r e g x hx k hk
    have F1' := Fut.go F1 ⟨_, rfl⟩ L' st r e g
    subst e
    rw [h5 r] at hx
    obtain rfl := Option.some.inj hx
    exact F1' k hk
end Vd
end Go.Proofs.YtpjjofdphlgeiaaGreatDoor
namespace Go.Proofs.YtpjjofdphlgeiaaGreatDoor
namespace Vd
open Lx Ax Ay Px
variable {ts : List Tok} {n : Nat}

theorem ndAt_some {L : List Nd} {z : Int} {x : Nd} (h : L[z.toNat]? = some x) : ndAt L z = x := by
  unfold ndAt
  rw [List.getD_eq_getElem?_getD, h]; rfl
theorem Prm.snoc {zs : List Int} {names : List (List UInt8)} {given c : Bool} {L : List Nd} {z : Int} {u : List UInt8} (h : Prm zs names given L) (h1 : (ndAt L z).s.data.toList = u) (h2 : (ndAt L z).kids.isEmpty = !c) (h3 : given = true → c = true) : Prm (zs ++ [z]) (u :: names) c L := by
  obtain ⟨a, b, d⟩ := h
  have hg : ¬(lastG (zs.map (ndAt L)) false = true ∧ (ndAt L z).kids = []) := by
    rintro ⟨e1, e2⟩
    rw [d] at e1
    rw [e2, h3 e1] at h2
    simp at h2
  obtain ⟨b2, d2⟩ := gv_snoc _ (ndAt L z) false b hg
  refine ⟨?_, ?_, ?_⟩
  · rw [List.map_append, List.map_append, a, List.reverse_cons, List.map_cons, List.map_cons, h1]; rfl
  · rw [List.map_append]; exact b2
  · rw [List.map_append]
    show lastG (_ ++ [ndAt L z]) false = c
    rw [d2, h2, Bool.not_not]
theorem fw_param (T : TkS ts) (IH : Stf ts n) (names : List (List UInt8)) (given : Bool) : StF ts n (.param names given) := by
  intro s hs hI
  unfold bodyF
  dsimp only
  refine p_take fun u hu hk => ?_
  refine p_sign fun t ht => ?_
  split
  · split
    · trivial
    · rename_i hn
      refine f_call T IH (Nat.zero_le _) hs trivial fun z1 zs1 c1 s1 r1 h1 F1 => ?_
      refine f_add h1 (by decide) (sz_tok T hu) fun h4 h5 => ?_
      intro L' st r e g
      subst e
      refine ⟨u, hu, ?_, hn, ?_, fun _ => rfl⟩
      · rw [ndAt_some (h5 r)]; exact data_txt _
      · rw [ndAt_some (h5 r)]; rfl
  · split
    · trivial
    · rename_i hn
      rw [not_or] at hn
      refine f_add hs (by decide) (sz_tok T hu) fun h4 h5 => ?_
      intro L' st r e g
      subst e
      refine ⟨u, hu, ?_, hn.1, ?_, fun h => absurd h hn.2⟩
      · rw [ndAt_some (h5 r)]; exact data_txt _
      · rw [ndAt_some (h5 r)]; rfl
theorem fw_params (T : TkS ts) (IH : Stf ts n) (zs : List Int) (names : List (List UInt8)) (given : Bool) : StF ts n (.params zs names given) := by
  intro s hs hI
  obtain ⟨hP, hN⟩ : Fut s.nodes (Prm zs names given) ∧ names.Nodup := hI
  unfold bodyF
  dsimp only
  refine p_sign fun t ht => ?_
  split
  · intro L' st r e g
    exact ⟨names, given, hP L' st r e g, hN⟩
  · refine p_next fun u hu => ?_
    refine f_call T IH (Nat.zero_le _) hs trivial fun z1 zs1 c1 s1 r1 h1 F1 => ?_
    have F1 : Fut s1.nodes fun L' => ∃ t, ts[s.at_]? = some t ∧ (ndAt L' z1).s.data.toList = t.text ∧ t.text ∉ names ∧ (ndAt L' z1).kids.isEmpty = !c1 ∧ (given = true → c1 = true) := F1
    have F2 : Fut s1.nodes fun L' => Prm (zs ++ [z1]) (u.text :: names) c1 L' ∧ (u.text :: names).Nodup := ((hP.go r1).and F1).imp fun L' h => by
      obtain ⟨a, t, b, c, d, e, f⟩ := h
      rw [hu] at b
      obtain rfl := Option.some.inj b
      exact ⟨a.snoc c e f, List.nodup_cons.2 ⟨d, hN⟩⟩
    split
    · refine p_sign fun t ht => ?_
      split
      · intro L' st r e g
        obtain ⟨a, b⟩ := F2 L' st r e g
        exact ⟨_, _, a, b⟩
      · refine p_need fun _ => ?_
        by_cases hd : (u.text :: names).Nodup
        · exact f_tail IH h1 ⟨Fut.imp F2 fun L' h => h.1, hd⟩ fun z zs c s' h => h
        · -- nothing is put behind these nodes that has its forms
          have hno : ∀ L' st r, L' = s1.nodes ++ r → Good L' st → False := fun L' st r e g => hd (F2 L' st r e g).2
          have hpr := pr_all T n (.params (zs ++ [z1]) (u.text :: names) c1) { s1 with at_ := s1.at_ + 1 } s1.nodes ⟨⟨[], by simp⟩, h1⟩ (Nat.zero_le _)
          refine hpr.mono fun z zs c s' h => ?_
          obtain ⟨⟨r0, e0⟩, _⟩ := h
          intro L' st r e g
          exact (hno L' st (r0 ++ r) (by rw [e, e0, List.append_assoc]) g).elim
    · trivial
theorem lo_45 {so : List Int} {pos b : Int} {tx : ByteArray} {zs : List Int} (h : hasG so ⟨45, 0, pos, tx, zs ++ [b]⟩ = true) : ∀ k ∈ zs, Lo (so.getD k.toNat 0) := by
  intro k hk
  have e1 : (zs ++ [b]).take ((zs ++ [b]).length - 1) = zs := by simp
  unfold hasG exprG stmtG at h
  simp only [e1] at h
  simp at h
  exact lo_of (b := 64) (by simp) (all_mem h.1 k hk)
theorem fw_def (T : TkS ts) (IH : Stf ts n) : StF ts n .def_ := by
  intro s hs hI
  unfold bodyF
  dsimp only
  refine p_need fun pos => ?_
  refine p_take fun t ht hk => ?_
  refine p_need fun _ => ?_
  refine f_call T IH (Nat.zero_le _) hs ⟨fun _ _ _ _ _ => ⟨rfl, rfl, rfl⟩, List.nodup_nil⟩ fun z1 zs1 c1 s1 r1 h1 F1 => ?_
  refine p_need fun _ => ?_
  refine f_call T IH (Nat.zero_le _) h1 trivial fun z2 zs2 c2 s2 r2 h2 F2 => ?_
  refine f_add h2 (by decide) (sz_tok T ht) fun h4 h5 => ?_
  intro L' st r e g
  obtain ⟨names, given, ⟨a, b, _⟩, hN⟩ := (Fut.go F1 r2).go ⟨_, rfl⟩ L' st r e g
  have F2' : Fits L' false true false z2 := Fut.go F2 ⟨_, rfl⟩ L' st r e g
  subst e
  refine .mk (h5 r) rfl (fun _ => ?_) fun k hk => ?_
  · have e1 : (zs1 ++ [z2]).take ((zs1 ++ [z2]).length - 1) = zs1 := by simp
    unfold fitG paramsG
    simp only [e1]
    have hN2 : names.reverse.Nodup := List.pairwise_reverse.2 (List.Pairwise.imp (fun h => Ne.symm h) hN)
    unfold ndAt at a b
    rw [b, a, decide_eq_true hN2]; rfl
  · rcases List.mem_append.1 hk with hk2 | hk2
    · exact kid_fits g (h5 r) hk (fun so h => lo_45 h k hk2) _ _ _
    · rw [List.mem_singleton.1 hk2]
      exact F2'
theorem okp_true {P : Int → List Int → Bool → PS → Prop} (h : ∀ z zs c s, P z zs c s) : ∀ r, Okp P r
  | .stuck => trivial
  | .bad _ _ => trivial
  | .ok _ _ _ _ => h _ _ _ _
theorem stf_all (T : TkS ts) : ∀ n, Stf ts n
  | 0 => fun _ _ _ _ => trivial
  | n + 1 => by
    have IH := stf_all T n
    intro q s hs hI
    show Okp _ (bodyF ts (runF ts n) q s)
    cases q with
    | statement p => exact fw_statement IH p s hs hI
    | line p => exact fw_line T IH p s hs hI
    | simple p => exact fw_simple IH p s hs hI
    | load => exact fw_load T IH s hs hI
    | result => exact fw_result T IH s hs hI
    | assignment => exact fw_assignment T IH s hs hI
    | block p => exact fw_block T IH p s hs hI
    | elif p => exact fw_elif T IH p s hs hI
    | lines p => exact fw_lines T IH p s hs hI
    | linesLoop p zs => exact fw_linesLoop T IH p zs s hs hI
    | fileLoop zs => exact fw_fileLoop T IH zs s hs hI
    | cond z p => exact fw_cond T IH z p s hs hI
    | loop p => exact fw_loop T IH p s hs hI
    | file => exact fw_file T IH s hs hI
    | def_ => exact fw_def T IH s hs hI
    | params zs ns g => exact fw_params T IH zs ns g s hs hI
    | param ns g => exact fw_param T IH ns g s hs hI
    | _ => exact okp_true (fun _ _ _ _ _ _ _ _ _ => trivial) _
/-- What is parsed is valid. -/
theorem file_valid (T : TkT ts) (T2 : TkS ts) {s' : PS} {z : Int} {zs : List Int} {c : Bool} (n : Nat) (e : runF ts n .file ⟨0, [], 0⟩ = .ok z zs c s') : validH s'.nodes = none ∧ Sms s'.nodes ∧ 0 < s'.nodes.length := by
  have h1 := file_stk T n e
  have h2 := stf_all T2 n .file ⟨0, [], 0⟩ (fun x hx => by simp at hx) trivial
  have h3 := pr_all T2 n .file ⟨0, [], 0⟩ [] ⟨⟨[], rfl⟩, fun x hx => by simp at hx⟩ (Nat.zero_le _)
  rw [e] at h2 h3
  obtain ⟨st, g, f, hs⟩ := h1.form
  obtain ⟨st2, g2, hw, h47, hne⟩ := h1.whole
  have h4 : ∀ x, s'.nodes[z.toNat]? = some x → ∀ k ∈ x.kids, Fits s'.nodes true false false k := h2 s'.nodes st [] (by simp) g
  refine ⟨valid_of h1 fun x hx => h4 x ?_, h3.2, List.length_pos_iff.2 hne⟩
  obtain ⟨z0, hz⟩ := hs (z, 256) (by simp)
  have hlast := g.last hne
  have hzz : ((s'.nodes.length - 1 : Nat) : Int) = z := by
    have := (f _).1 hlast
    simpa using this
  rw [List.getLast?_eq_getElem?] at hx
  rw [show z.toNat = s'.nodes.length - 1 by omega]
  exact hx
end Vd
end Go.Proofs.YtpjjofdphlgeiaaGreatDoor
