/- What the strings' functions come to, as functions of lists of bytes. No conditions. -/
import Derived.Lib.IndexMore
import Derived.Lib.CountLaws
namespace Go.Proofs.YtdiocmcfaneajaaGreatDoor
namespace St
abbrev L := List UInt8

/-- The bounds of a slice. -/
def boundF (n : Nat) (i : Int) : Nat := (min (max (if i < 0 then i + n else i) 0) (n : Int)).toNat
def fromF (n : Nat) (i : Int) (has : Bool) : Nat := if has then boundF n i else 0
def toF (n : Nat) (i j : Int) (has til : Bool) : Nat := max (fromF n i has) (if til then boundF n j else n)
theorem bound_le (n : Nat) (i : Int) : boundF n i ≤ n := by unfold boundF; omega
theorem from_le (n : Nat) (i : Int) (h : Bool) : fromF n i h ≤ n := by
  unfold fromF; split
  · exact bound_le n i
  · omega
theorem from_to (n : Nat) (i j : Int) (h t : Bool) : fromF n i h ≤ toF n i j h t := by unfold toF; exact Nat.le_max_left ..
theorem to_le (n : Nat) (i j : Int) (h t : Bool) : toF n i j h t ≤ n := by
  unfold toF
  have h1 := from_le n i h
  have h2 : (if t = true then boundF n j else n) ≤ n := by
    split
    · exact bound_le n j
    · omega
  omega
theorem bound_self (n a : Nat) (h : a ≤ n) : boundF n a = a := by unfold boundF; omega

/-- The parts of a text between seps, at most m cuts (below 0: all). -/
def splitF (sep : L) : Nat → Int → L → List L
  | 0, _, s => [s]
  | f + 1, m, s => if m = 0 then [s] else if Lib.index s sep < 0 then [s] else s.take (Lib.index s sep).toNat :: splitF sep f (m - 1) (s.drop ((Lib.index s sep).toNat + sep.length))
/-- Texts with one between. -/
def joinF (sep : L) : List L → L
  | [] => []
  | x :: t => x ++ t.flatMap fun y => sep ++ y
theorem split_cons (sep : L) (f : Nat) (m : Int) (s : L) : ∃ x t, splitF sep f m s = x :: t := by
  cases f with
  | zero => exact ⟨_, _, rfl⟩
  | succ f =>
    unfold splitF
    split
    · exact ⟨_, _, rfl⟩
    · split <;> exact ⟨_, _, rfl⟩
theorem join_cons (sep x : L) (l : List L) (h : l ≠ []) : joinF sep (x :: l) = x ++ (sep ++ joinF sep l) := by
  cases l with
  | nil => exact absurd rfl h
  | cons y t => simp [joinF]
theorem join_snoc (sep y : L) (l : List L) : joinF sep (l ++ [y]) = joinF sep l ++ ((if l = [] then [] else sep) ++ y) := by
  cases l with
  | nil => simp [joinF]
  | cons x t => simp [joinF]
theorem take_occ {s sub : L} {i : Nat} (h : Lib.occAt s sub i = true) : s = s.take i ++ (sub ++ s.drop (i + sub.length)) := by
  unfold Lib.occAt at h
  obtain ⟨r, hr⟩ := List.isPrefixOf_iff_prefix.1 h
  have h1 : s.drop (i + sub.length) = r := by rw [← List.drop_drop, ← hr]; simp
  rw [h1, hr, List.take_append_drop]
theorem index_some {s sub : L} (h : ¬ Lib.index s sub < 0) : Lib.occAt s sub (Lib.index s sub).toNat = true ∧ (Lib.index s sub).toNat + sub.length ≤ s.length ∧ ∀ j, j < (Lib.index s sub).toNat → Lib.occAt s sub j = false := by
  have hr := Lib.index_room s sub (by omega)
  rcases Lib.index_spec s sub with ⟨h1, _⟩ | ⟨i, h1, h2, h3, h4⟩
  · omega
  · rw [h1] at hr ⊢
    exact ⟨h3, by omega, h4⟩
theorem join_split (sep : L) : ∀ (f : Nat) (m : Int) (s : L), joinF sep (splitF sep f m s) = s
  | 0, _, s => by simp [splitF, joinF]
  | f + 1, m, s => by
    unfold splitF
    by_cases h0 : m = 0
    · rw [if_pos h0]; simp [joinF]
    · rw [if_neg h0]
      by_cases h1 : Lib.index s sep < 0
      · rw [if_pos h1]; simp [joinF]
      · rw [if_neg h1]
        obtain ⟨x, t, e⟩ := split_cons sep f (m - 1) (s.drop ((Lib.index s sep).toNat + sep.length))
        rw [join_cons _ _ _ (by rw [e]; simp), join_split sep f]
        exact (take_occ (index_some h1).1).symm
theorem split_count (sep : L) : ∀ (f : Nat) (m : Int) (s : L), m < 0 → (splitF sep f m s).length = Lib.countFrom sep f s + 1
  | 0, _, s, _ => by simp [splitF, Lib.countFrom]
  | f + 1, m, s, h => by
    unfold splitF Lib.countFrom
    rw [if_neg (by omega)]
    have hge := Lib.index_ge s sep
    by_cases h1 : Lib.index s sep < 0
    · rw [if_pos h1, if_pos (by rw [beq_iff_eq]; omega)]; simp
    · rw [if_neg h1, if_neg (by rw [beq_iff_eq]; omega), List.length_cons, split_count sep f _ _ (by omega)]
      omega
theorem split_short (sep : L) (hsep : sep ≠ []) : ∀ (f : Nat) (m : Int) (s : L), (splitF sep f m s).length ≤ s.length + 1
  | 0, _, s => by simp [splitF]
  | f + 1, m, s => by
    unfold splitF
    split
    · simp
    · by_cases h1 : Lib.index s sep < 0
      · rw [if_pos h1]; simp
      · rw [if_neg h1, List.length_cons]
        have h2 := split_short sep hsep f (m - 1) (s.drop ((Lib.index s sep).toNat + sep.length))
        have h3 := (index_some h1).2.1
        have h4 : 0 < sep.length := List.length_pos_iff.2 hsep
        rw [List.length_drop] at h2
        omega
/-- More fuel than bytes: fuel does not matter. -/
theorem split_fuel (sep : L) (hsep : sep ≠ []) : ∀ (f g : Nat) (m : Int) (s : L), s.length < f → s.length < g → splitF sep f m s = splitF sep g m s
  | 0, _, _, _, h, _ => absurd h (by omega)
  | _ + 1, 0, _, _, _, h => absurd h (by omega)
  | f + 1, g + 1, m, s, hf, hg => by
    unfold splitF
    split
    · rfl
    · by_cases h1 : Lib.index s sep < 0
      · rw [if_pos h1, if_pos h1]
      · rw [if_neg h1, if_neg h1]
        have h3 := (index_some h1).2.1
        have h4 : 0 < sep.length := List.length_pos_iff.2 hsep
        rw [split_fuel sep hsep f g _ _ (by rw [List.length_drop]; omega) (by rw [List.length_drop]; omega)]
theorem split_part (sep : L) : ∀ (f : Nat) (m : Int) (s : L), ∀ x ∈ splitF sep f m s, x.length ≤ s.length
  | 0, _, s, x, h => by simp [splitF] at h; subst h; exact Nat.le_refl _
  | f + 1, m, s, x, h => by
    unfold splitF at h
    split at h
    · simp at h; subst h; exact Nat.le_refl _
    · split at h
      · simp at h; subst h; exact Nat.le_refl _
      · rcases List.mem_cons.1 h with rfl | h
        · rw [List.length_take]; omega
        · have := split_part sep f _ _ x h
          rw [List.length_drop] at this
          omega

/-- The rest of a text, from the byte 'from' on, with new in the place of old; what lies ahead from 'done' on. -/
def repF (s old new : L) : Nat → Int → Nat → Nat → L
  | 0, _, done, _ => s.drop done
  | f + 1, m, done, frm => if m = 0 ∨ s.length < frm then s.drop done else
      if Lib.index (s.drop frm) old < 0 then s.drop done else
        (s.take (frm + (Lib.index (s.drop frm) old).toNat)).drop done ++ (new ++ repF s old new f (m - 1) (frm + (Lib.index (s.drop frm) old).toNat + old.length) (max (frm + (Lib.index (s.drop frm) old).toNat + old.length) (frm + (Lib.index (s.drop frm) old).toNat + 1)))
theorem rep_join (s old new : L) (hold : old ≠ []) : ∀ (f : Nat) (m : Int) (d : Nat), d ≤ s.length → repF s old new f m d d = joinF new (splitF old f m (s.drop d))
  | 0, _, _, _ => by simp [repF, splitF, joinF]
  | f + 1, m, d, hd => by
    have h4 : 0 < old.length := List.length_pos_iff.2 hold
    unfold repF splitF
    by_cases h0 : m = 0
    · rw [if_pos (.inl h0), if_pos h0]; simp [joinF]
    · rw [if_neg (by omega), if_neg h0]
      by_cases h1 : Lib.index (s.drop d) old < 0
      · rw [if_pos h1, if_pos h1]; simp [joinF]
      · rw [if_neg h1, if_neg h1]
        have h3 := (index_some h1).2.1
        rw [List.length_drop] at h3
        obtain ⟨x, t, e⟩ := split_cons old f (m - 1) ((s.drop d).drop ((Lib.index (s.drop d) old).toNat + old.length))
        rw [join_cons _ _ _ (by rw [e]; simp), Nat.max_eq_left (by omega), rep_join s old new hold f _ _ (by omega), List.drop_drop, List.take_drop, Nat.add_assoc d]

/-- The place of the first what between two bounds. -/
def findF (s what : L) (i j : Int) : Int :=
  if Lib.index ((s.drop (fromF s.length i true)).take (toF s.length i j true true - fromF s.length i true)) what < 0 then -1
  else fromF s.length i true + Lib.index ((s.drop (fromF s.length i true)).take (toF s.length i j true true - fromF s.length i true)) what
theorem find_all (s what : L) : findF s what 0 s.length = Lib.index s what := by
  have h1 : fromF s.length 0 true = 0 := by unfold fromF boundF; simp; omega
  have h2 : toF s.length 0 s.length true true = s.length := by
    unfold toF
    rw [h1]
    have := bound_self s.length s.length (Nat.le_refl _)
    simp [this]
  unfold findF
  rw [h1, h2, List.drop_zero, Nat.sub_zero, List.take_length]
  have := Lib.index_ge s what
  split <;> omega
def countF (s what : L) : Nat := if what = [] then s.length + 1 else Lib.count s what

/-- Without the bytes at the ends that p tells. -/
def stripF (p : UInt8 → Bool) (l r : Bool) (s : L) : L :=
  let t := if l then s.dropWhile p else s
  if r then (t.reverse.dropWhile p).reverse else t
theorem dropWhile_again (p : UInt8 → Bool) : ∀ s : L, (s.dropWhile p).dropWhile p = s.dropWhile p
  | [] => rfl
  | c :: t => by
    by_cases h : p c
    · rw [List.dropWhile_cons_of_pos h]; exact dropWhile_again p t
    · rw [List.dropWhile_cons_of_neg h, List.dropWhile_cons_of_neg h]
theorem dropWhile_suffix (p : UInt8 → Bool) : ∀ s : L, ∃ a, s = a ++ s.dropWhile p
  | [] => ⟨[], rfl⟩
  | c :: t => by
    by_cases h : p c
    · obtain ⟨a, e⟩ := dropWhile_suffix p t
      exact ⟨c :: a, by rw [List.dropWhile_cons_of_pos h, List.cons_append, ← e]⟩
    · exact ⟨[], by rw [List.dropWhile_cons_of_neg h]; rfl⟩
theorem dropWhile_head (p : UInt8 → Bool) : ∀ s : L, ∀ c t, s.dropWhile p = c :: t → p c = false
  | [], c, t, h => by simp at h
  | x :: s, c, t, h => by
    by_cases hx : p x
    · rw [List.dropWhile_cons_of_pos hx] at h; exact dropWhile_head p s c t h
    · rw [List.dropWhile_cons_of_neg hx] at h
      cases h
      simpa using hx
theorem dropWhile_keep {p : UInt8 → Bool} {s : L} (h : ∀ c t, s = c :: t → p c = false) : s.dropWhile p = s := by
  cases s with
  | nil => rfl
  | cons c t => rw [List.dropWhile_cons_of_neg (by rw [h c t rfl]; decide)]
/-- Stripped on the right: what is left begins as it began. -/
theorem right_prefix (p : UInt8 → Bool) (s : L) : ∃ b, s = (s.reverse.dropWhile p).reverse ++ b := by
  obtain ⟨a, e⟩ := dropWhile_suffix p s.reverse
  refine ⟨a.reverse, ?_⟩
  have := congrArg List.reverse e
  rw [List.reverse_reverse, List.reverse_append] at this
  exact this
theorem strip_again (p : UInt8 → Bool) (l r : Bool) (s : L) : stripF p l r (stripF p l r s) = stripF p l r s := by
  have hR : ∀ t : L, (((t.reverse.dropWhile p).reverse).reverse.dropWhile p).reverse = (t.reverse.dropWhile p).reverse := fun t => by rw [List.reverse_reverse, dropWhile_again]
  cases l <;> cases r <;> simp only [stripF, Bool.false_eq_true, if_false, if_true]
  · exact hR s
  · exact dropWhile_again p s
  · have hk : ((s.dropWhile p).reverse.dropWhile p).reverse.dropWhile p = ((s.dropWhile p).reverse.dropWhile p).reverse := dropWhile_keep fun c t e => by
      obtain ⟨b, hb⟩ := right_prefix p (s.dropWhile p)
      rw [e] at hb
      exact dropWhile_head p s c (t ++ b) (by rw [hb]; rfl)
    rw [hk]
    exact hR _
/-- What is stripped lies within. -/
theorem strip_in (p : UInt8 → Bool) (l r : Bool) (s : L) : ∃ a b, s = a ++ (stripF p l r s ++ b) := by
  obtain ⟨a, ha⟩ : ∃ a, s = a ++ (if l = true then s.dropWhile p else s) := by
    cases l
    · exact ⟨[], by simp⟩
    · obtain ⟨a, e⟩ := dropWhile_suffix p s
      exact ⟨a, by simpa using e⟩
  refine ⟨a, ?_⟩
  unfold stripF
  generalize (if l = true then s.dropWhile p else s) = t at ha
  subst ha
  cases r
  · exact ⟨[], by simp⟩
  · obtain ⟨b, hb⟩ := right_prefix p t
    refine ⟨b, ?_⟩
    simp only [if_true]
    rw [← hb]
theorem index_in (a t b : L) : 0 ≤ Lib.index (a ++ (t ++ b)) t := by
  rcases Lib.index_spec (a ++ (t ++ b)) t with ⟨h1, h2⟩ | ⟨i, h1, _⟩
  · have := h2 a.length (by simp)
    unfold Lib.occAt at this
    rw [List.drop_left] at this
    have h3 : t.isPrefixOf (t ++ b) = true := List.isPrefixOf_iff_prefix.2 ⟨b, rfl⟩
    rw [h3] at this
    cases this
  · omega
theorem strip_none (p : UInt8 → Bool) (s : L) : stripF p false false s = s := by simp [stripF]

/-- Letters turned. -/
def upB (c : UInt8) : UInt8 := if 97 ≤ c ∧ c ≤ 122 then c - 97 + 65 else c
def loB (c : UInt8) : UInt8 := if 65 ≤ c ∧ c ≤ 90 then c - 65 + 97 else c
theorem lo_up : ∀ c : UInt8, loB (upB c) = loB c := by
  have h : ∀ n : Fin 256, loB (upB (UInt8.ofNat n.val)) = loB (UInt8.ofNat n.val) := by decide +kernel
  intro c
  have := h ⟨c.toNat, c.toNat_lt⟩
  simpa using this
theorem low_up (s : L) : (s.map upB).map loB = s.map loB := by rw [List.map_map]; exact List.map_congr_left fun c _ => lo_up c
end St
end Go.Proofs.YtdiocmcfaneajaaGreatDoor
