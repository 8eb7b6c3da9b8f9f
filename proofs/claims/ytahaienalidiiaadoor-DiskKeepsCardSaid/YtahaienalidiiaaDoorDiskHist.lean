/- Histories as lists of changes; what a fall leaves of one; what a file was since it was synced. No conditions. -/
import Derived.Test.YtahaienalidiiaaDoorDiskMore
namespace Go.Proofs.YtahaienalidiiaaDoor
open Go.RowKit Go.Maps

abbrev Chg := Int × ByteArray
abbrev Cnt := ByteArray × Bool
def onP (x : Cnt) (c : Chg) : Cnt := if c.1 = 0 then (c.2, true) else if c.1 = 1 then (x.1 ++ c.2, true) else (⟨#[]⟩, false)
theorem onF_onP (k : Int) (t s : ByteArray) (b : Bool) : onF k t s = cont (onP (s, b) (k, t)).1 (onP (s, b) (k, t)).2 := by
  unfold onF onP cont0
  by_cases h0 : k = 0
  · simp [h0]
  · by_cases h1 : k = 1
    · simp [h1]
    · simp [h0, h1]
def stAt (x : Cnt) (cs : List Chg) (i : Nat) : Cnt := (cs.take i).foldl onP x
theorem stAt_zero (x : Cnt) (cs : List Chg) : stAt x cs 0 = x := rfl
theorem stAt_succ (x : Cnt) (cs : List Chg) (i : Nat) (c : Chg) (h : cs[i]? = some c) : stAt x cs (i + 1) = onP (stAt x cs i) c := by
  unfold stAt
  obtain ⟨hl, e⟩ := List.getElem?_eq_some_iff.1 h
  rw [List.take_succ_eq_append_getElem hl, List.foldl_append, e]
  rfl
/-- How much of a change stands, if a part of it does. -/
def partN (c : Chg) (cut : Int) : Nat := if c.1 = 1 ∧ 1 ≤ min cut ((c.2.size : Int) - 1) then (min cut ((c.2.size : Int) - 1)).toNat else 0
/-- What a fall leaves. -/
def leftP (x : Cnt) (cs : List Chg) (stand : Nat) (cut : Int) : Cnt :=
  match cs[min stand cs.length]? with
  | none => stAt x cs (min stand cs.length)
  | some c => if partN c cut = 0 then stAt x cs (min stand cs.length) else ((stAt x cs (min stand cs.length)).1 ++ c.2.extract 0 (partN c cut), true)
def addC (cs : List Chg) (c : Chg) : List Chg := if cs.length < 4 then cs ++ [c] else cs
/-- v is this history. -/
def IsH (v : Value) (x : Cnt) (cs : List Chg) : Prop := ∃ k0 t0 k1 t1 k2 t2 k3 t3, v = hV x.1 x.2 k0 t0 k1 t1 k2 t2 k3 t3 (cs.length : Int) ∧ cs.length ≤ 4 ∧ cs = [(k0, t0), (k1, t1), (k2, t2), (k3, t3)].take cs.length
theorem isH_new (s : ByteArray) (b : Bool) (k : Int) (t : ByteArray) : IsH (hV s b k t 0 ⟨#[]⟩ 0 ⟨#[]⟩ 0 ⟨#[]⟩ 1) (s, b) [(k, t)] :=
  ⟨k, t, 0, ⟨#[]⟩, 0, ⟨#[]⟩, 0, ⟨#[]⟩, rfl, by simp, rfl⟩
theorem isH_with {x : Cnt} {cs : List Chg} (k0 : Int) (t0 : ByteArray) (k1 : Int) (t1 : ByteArray) (k2 : Int) (t2 : ByteArray) (k3 : Int) (t3 : ByteArray) (hl : cs.length ≤ 4) (hc : cs = [(k0, t0), (k1, t1), (k2, t2), (k3, t3)].take cs.length) (k : Int) (t : ByteArray) :
    IsH (withF x.1 x.2 k0 t0 k1 t1 k2 t2 k3 t3 cs.length k t) x (addC cs (k, t)) := by
  obtain ⟨n, hn⟩ : ∃ n, cs.length = n := ⟨_, rfl⟩
  rw [hn] at hc hl
  subst hc
  match n, hl with
  | 0, _ => exact ⟨k, t, k1, t1, k2, t2, k3, t3, rfl, by simp [addC], rfl⟩
  | 1, _ => exact ⟨k0, t0, k, t, k2, t2, k3, t3, rfl, by simp [addC], rfl⟩
  | 2, _ => exact ⟨k0, t0, k1, t1, k, t, k3, t3, rfl, by simp [addC], rfl⟩
  | 3, _ => exact ⟨k0, t0, k1, t1, k2, t2, k, t, rfl, by simp [addC], rfl⟩
  | 4, _ => exact ⟨k0, t0, k1, t1, k2, t2, k3, t3, rfl, by simp [addC], rfl⟩
theorem IsH.ok {v : Value} {x : Cnt} {cs : List Chg} (h : IsH v x cs) : HistOK v := by
  obtain ⟨k0, t0, k1, t1, k2, t2, k3, t3, rfl, hl, _⟩ := h
  exact ⟨_, _, _, _, _, _, _, _, _, _, cs.length, hl, rfl⟩
/-- Whatever a fall leaves was at some moment; if all changes are kept, they lead to what is now. -/
structure Keep (x : Cnt) (cs : List Chg) (now : Cnt) (since : List ByteArray) : Prop where
  stand : ∀ stand cut, (leftP x cs stand cut).1 ∈ since
  all : cs.length < 4 → stAt x cs cs.length = now
theorem Keep.new {now : Cnt} {since : List ByteArray} (h : now.1 ∈ since) : Keep now [] now since := ⟨fun stand cut => by simpa [leftP, stAt] using h, fun _ => rfl⟩
theorem partN_le (c : Chg) (cut : Int) (h : partN c cut ≠ 0) : c.1 = 1 ∧ 1 ≤ partN c cut ∧ partN c cut < c.2.size := by
  unfold partN at *
  split at h
  · next hh =>
    rw [if_pos hh]
    refine ⟨hh.1, ?_, ?_⟩
    · have := hh.2; omega
    · have := hh.2; omega
  · exact absurd rfl h
theorem Keep.step {x : Cnt} {cs : List Chg} {now : Cnt} {since since' : List ByteArray} (h : Keep x cs now since) (c : Chg) (hsub : ∀ y ∈ since, y ∈ since') (hnow : (onP now c).1 ∈ since')
    (hpart : c.1 = 1 → ∀ n, 1 ≤ n → n < c.2.size → now.1 ++ c.2.extract 0 n ∈ since') : Keep x (addC cs c) (onP now c) since' := by
  by_cases hl : cs.length < 4
  · have hall := h.all hl
    have hadd : addC cs c = cs ++ [c] := if_pos hl
    have hst : ∀ i, i ≤ cs.length → stAt x (cs ++ [c]) i = stAt x cs i := fun i hi => by unfold stAt; rw [List.take_append_of_le_length hi]
    have hlast : stAt x (cs ++ [c]) (cs.length + 1) = onP now c := by
      rw [stAt_succ x (cs ++ [c]) cs.length c (by simp), hst _ (Nat.le_refl _), hall]
    rw [hadd]
    refine ⟨fun stand cut => ?_, fun _ => by rw [List.length_append, List.length_singleton]; exact hlast⟩
    unfold leftP
    rw [List.length_append, List.length_singleton]
    rcases Nat.lt_trichotomy stand cs.length with hs | hs | hs
    · have e1 : min stand (cs.length + 1) = stand := by omega
      have e2 : min stand cs.length = stand := by omega
      have hh := hsub _ (h.stand stand cut)
      unfold leftP at hh
      rw [e2] at hh
      rw [e1, List.getElem?_append_left hs, hst stand (by omega)]
      exact hh
    · subst hs
      have e1 : min cs.length (cs.length + 1) = cs.length := by omega
      rw [e1, hst _ (Nat.le_refl _), hall]
      have e3 : (cs ++ [c])[cs.length]? = some c := by simp
      rw [e3]
      show (if partN c cut = 0 then now else (now.1 ++ c.2.extract 0 (partN c cut), true)).1 ∈ since'
      split
      · have hh := hsub _ (h.stand cs.length cut)
        unfold leftP at hh
        rw [Nat.min_self, List.getElem?_eq_none (Nat.le_refl _), hall] at hh
        exact hh
      · next hp =>
        obtain ⟨p1, p2, p3⟩ := partN_le c cut hp
        exact hpart p1 _ p2 p3
    · have e1 : min stand (cs.length + 1) = cs.length + 1 := by omega
      rw [e1, List.getElem?_eq_none (by simp), hlast]
      exact hnow
  · have hadd : addC cs c = cs := if_neg hl
    rw [hadd]
    exact ⟨fun stand cut => hsub _ (h.stand stand cut), fun h4 => absurd h4 hl⟩
theorem onP_ok (x : Cnt) (c : Chg) : (onP x c).2 = false → (onP x c).1 = ⟨#[]⟩ := by
  unfold onP
  split
  · intro e; cases e
  · split
    · intro e; cases e
    · intro _; rfl
theorem fold_ok : ∀ (cs : List Chg) (x : Cnt), (x.2 = false → x.1 = ⟨#[]⟩) → (cs.foldl onP x).2 = false → (cs.foldl onP x).1 = ⟨#[]⟩
  | [], _, h => h
  | c :: cs, x, _ => fold_ok cs (onP x c) (onP_ok x c)
theorem stAt_ok (x : Cnt) (cs : List Chg) (i : Nat) (h : x.2 = false → x.1 = ⟨#[]⟩) : (stAt x cs i).2 = false → (stAt x cs i).1 = ⟨#[]⟩ := fold_ok _ x h
theorem leftP_ok (x : Cnt) (cs : List Chg) (stand : Nat) (cut : Int) (h : x.2 = false → x.1 = ⟨#[]⟩) : (leftP x cs stand cut).2 = false → (leftP x cs stand cut).1 = ⟨#[]⟩ := by
  unfold leftP
  split
  · exact stAt_ok x cs _ h
  · split
    · exact stAt_ok x cs _ h
    · intro e; cases e
/-- Short texts. -/
def ShortH (M : Nat) (x : Cnt) (cs : List Chg) : Prop := x.1.size ≤ M ∧ ∀ c ∈ cs, c.2.size ≤ M
theorem fold_size (M : Nat) : ∀ (cs : List Chg) (x : Cnt) (N : Nat), x.1.size ≤ N → (∀ c ∈ cs, c.2.size ≤ M) → (cs.foldl onP x).1.size ≤ N + M * cs.length
  | [], x, N, h, _ => by simpa using h
  | c :: cs, x, N, h, hc => by
    have h1 : (onP x c).1.size ≤ N + M := by
      have := hc c (by simp)
      unfold onP
      split
      · exact Nat.le_trans this (by omega)
      · split
        · rw [ByteArray.size_append]; omega
        · exact Nat.zero_le _
    have h2 := fold_size M cs (onP x c) (N + M) h1 (fun d hd => hc d (by simp [hd]))
    rw [List.length_cons, Nat.mul_succ]
    show (cs.foldl onP (onP x c)).1.size ≤ _
    omega
theorem stAt_size {M : Nat} {x : Cnt} {cs : List Chg} (h : ShortH M x cs) (i : Nat) (hi : i ≤ 4) : (stAt x cs i).1.size ≤ 5 * M := by
  have h1 := fold_size M (cs.take i) x M h.1 (fun c hc => h.2 c (List.mem_of_mem_take hc))
  have h2 : M * (cs.take i).length ≤ M * 4 := Nat.mul_le_mul_left _ (by rw [List.length_take]; omega)
  unfold stAt
  omega
theorem ShortH.add {M : Nat} {x : Cnt} {cs : List Chg} (h : ShortH M x cs) (c : Chg) (hc : c.2.size ≤ M) : ShortH M x (addC cs c) := by
  refine ⟨h.1, fun d hd => ?_⟩
  unfold addC at hd
  split at hd
  · rcases List.mem_append.1 hd with h1 | h1
    · exact h.2 d h1
    · rw [List.mem_singleton.1 h1]; exact hc
  · exact h.2 d hd
end Go.Proofs.YtahaienalidiiaaDoor
