/- The law's invariant, and an append onto one of its lists in a plain and in a drawn region. Conditions: as each states. -/
import Derived.Test.YtahaienalidiiaaDoorDiskKeepSt
import Derived.Deep.RegionLaw
namespace Go.Proofs.YtahaienalidiiaaDoor
open Go.RowKit Go.Maps Go.Sort

theorem push_plain {ops : Array Oper} {rest : List Oper} {o : Oper} {a : Act} {Q : Exit → Act → World → Prop} {W : World} {q : Nat} {v : Nat → Value} {S : Nat → List ByteArray} (h : Sin W q v S) (k : Nat) (hk : k < 3) (s : ByteArray) (hl : (S k).length < 1000000) (hgd : o.guard = none) (x y : Operand)
    (ho : o.op = .call { callee := .builtin .append, args := #[x, y], argTypes := #[29, 29] }) (hx : a.eval x = v k) (hy : a.eval y = .slice (some ⟨W.heap.size, 0, none⟩) 1 1)
    (hK : ∀ g n cap w', w'.cell? ⟨q + 1 + 1 + 1 + 1, k, none⟩ = some (v k) → w'.frozen? ⟨q + 1 + 1 + 1 + 1, k, none⟩ = false → Sin (w'.setCell ⟨q + 1 + 1 + 1 + 1, k, none⟩ (.slice (some ⟨g, 0, none⟩) n cap)) q (updV v k (.slice (some ⟨g, 0, none⟩) n cap)) (updV S k (S k ++ [s])) →
      Below (q + 1) W (w'.setCell ⟨q + 1 + 1 + 1 + 1, k, none⟩ (.slice (some ⟨g, 0, none⟩) n cap)) → wpList Tryd.prog ops Q rest (a.put o.dst (.slice (some ⟨g, 0, none⟩) n cap)) w') : wpList Tryd.prog ops Q (o :: rest) a (W.alloc (.cells #[.string s] 9)) := by
  refine wpList_plain hgd fun K hKK => ?_
  obtain ⟨u, w', hr, p1, p2, p3, p4⟩ := run_push h k hk s hl o.type
  obtain ⟨g, cap, n, e, _⟩ := p3.form k hk
  rw [updV_same] at e
  subst e
  unfold Oper.wp execOp
  simp only [ho, resolve, invoke, builtin, Sem.run_bind, Sem.run_pure, Result.andThen_ok, List.map_toArray, List.map_cons, List.map_nil, hx, hy, hr]
  exact hKK _ _ (hK g (n + 1) cap w' p1 p2 p3 p4)
theorem push_drawn {ops : Array Oper} {o : Oper} {a : Act} {K : Act → World → Prop} {Q : Exit → Act → World → Prop} {E : Prop} {W : World} {q : Nat} {v : Nat → Value} {S : Nat → List ByteArray} (h : Sin W q v S) (k : Nat) (hk : k < 3) (s : ByteArray) (hl : (S k).length < 1000000) (hgd : o.guard = none) (x y : Operand)
    (ho : o.op = .call { callee := .builtin .append, args := #[x, y], argTypes := #[29, 29] }) (hx : a.eval x = v k) (hy : a.eval y = .slice (some ⟨W.heap.size, 0, none⟩) 1 1)
    (hK : ∀ g n cap w', w'.cell? ⟨q + 1 + 1 + 1 + 1, k, none⟩ = some (v k) → w'.frozen? ⟨q + 1 + 1 + 1 + 1, k, none⟩ = false → Sin (w'.setCell ⟨q + 1 + 1 + 1 + 1, k, none⟩ (.slice (some ⟨g, 0, none⟩) n cap)) q (updV v k (.slice (some ⟨g, 0, none⟩) n cap)) (updV S k (S k ++ [s])) →
      Below (q + 1) W (w'.setCell ⟨q + 1 + 1 + 1 + 1, k, none⟩ (.slice (some ⟨g, 0, none⟩) n cap)) → K (a.put o.dst (.slice (some ⟨g, 0, none⟩) n cap)) w') :
    if Region.wanted o (yielded ops a.tmps) = true then Oper.wp Tryd.prog o a (W.alloc (.cells #[.string s] 9)) K Q else E := by
  rw [if_pos (by simp [Region.wanted, hgd])]
  obtain ⟨u, w', hr, p1, p2, p3, p4⟩ := run_push h k hk s hl o.type
  obtain ⟨g, cap, n, e, _⟩ := p3.form k hk
  rw [updV_same] at e
  subst e
  unfold Oper.wp execOp
  simp only [ho, resolve, invoke, builtin, Sem.run_bind, Sem.run_pure, Result.andThen_ok, List.map_toArray, List.map_cons, List.map_nil, hx, hy, hr]
  exact hK g (n + 1) cap w' p1 p2 p3 p4
/-- What each file was since it was synced, and what is kept of it. -/
structure Kin (t : Nat) (F C : ByteArray → Option Value) (hv : Nat → Bool) (tx : Nat → ByteArray) (S : Nat → List ByteArray) : Prop where
  file : ∀ k, k < 3 → F (nk k) = optF (hv k) (tx k)
  gone : ∀ k, k < 3 → hv k = false → tx k = ⟨#[]⟩
  small : ∀ k, k < 3 → (tx k).size ≤ 51 * t
  last : ∀ k, k < 3 → (S k).getLast? = some (tx k)
  keep : ∀ k, k < 3 → KeepV 4000 (C (nk k)) (tx k, hv k) (S k)
  only : ∀ key, (∀ k, k < 3 → key ≠ nk k) → C key = none
  len : ∀ k, k < 3 → (S k).length ≤ 1 + 51 * t
theorem Kin.step {t : Nat} {F C : ByteArray → Option Value} {hv : Nat → Bool} {tx : Nat → ByteArray} {S : Nat → List ByteArray} (h : Kin t F C hv tx S) (k : Nat) (hk : k < 3) {F' C' : ByteArray → Option Value} (b : Bool) (x : ByteArray) (L : List ByteArray)
    (hF : F' (nk k) = optF b x) (hFo : ∀ key, key ≠ nk k → F' key = F key) (hCo : ∀ key, key ≠ nk k → C' key = C key) (hg : b = false → x = ⟨#[]⟩) (hs : x.size ≤ 51 * (t + 1)) (hl : L.getLast? = some x) (hK : KeepV 4000 (C' (nk k)) (x, b) L) (hlen : L.length ≤ 1 + 51 * (t + 1)) :
    Kin (t + 1) F' C' (updV hv k b) (updV tx k x) (updV S k L) := by
  refine ⟨fun i hi => ?_, fun i hi => ?_, fun i hi => ?_, fun i hi => ?_, fun i hi => ?_, fun key hkey => by rw [hCo key (hkey k hk)]; exact h.only key hkey, fun i hi => ?_⟩
  all_goals by_cases e : i = k
  · subst e; rw [updV_same, updV_same]; exact hF
  · rw [updV_other _ _ e, updV_other _ _ e, hFo _ (nk_ne hi hk e)]; exact h.file i hi
  · subst e; rw [updV_same, updV_same]; exact hg
  · rw [updV_other _ _ e, updV_other _ _ e]; exact h.gone i hi
  · subst e; rw [updV_same]; exact hs
  · rw [updV_other _ _ e]; have := h.small i hi; omega
  · subst e; rw [updV_same, updV_same]; exact hl
  · rw [updV_other _ _ e, updV_other _ _ e]; exact h.last i hi
  · subst e; rw [updV_same, updV_same, updV_same]; exact hK
  · rw [updV_other _ _ e, updV_other _ _ e, updV_other _ _ e, hCo _ (nk_ne hi hk e)]; exact h.keep i hi
  · subst e; rw [updV_same]; exact hlen
  · rw [updV_other _ _ e]; have := h.len i hi; omega
/-- The parts of what is laid behind. -/
def parts (x s : ByteArray) (n : Nat) : List ByteArray := (List.range n).map fun i => x ++ s.extract 0 (i + 1)
theorem parts_succ (x s : ByteArray) (n : Nat) : parts x s (n + 1) = parts x s n ++ [x ++ s.extract 0 (n + 1)] := by unfold parts; rw [List.range_succ, List.map_append]; rfl
theorem parts_mem (x s : ByteArray) (n i : Nat) (h1 : 1 ≤ i) (h2 : i ≤ n) : x ++ s.extract 0 i ∈ parts x s n := by
  unfold parts
  rw [List.mem_map]
  exact ⟨i - 1, by rw [List.mem_range]; omega, by rw [show i - 1 + 1 = i by omega]⟩
theorem parts_len (x s : ByteArray) (n : Nat) : (parts x s n).length = n := by unfold parts; simp
theorem extract_all (s : ByteArray) : s.extract 0 s.size = s := by simp
theorem parts_last (L : List ByteArray) (x s : ByteArray) (hL : L.getLast? = some x) : (L ++ parts x s s.size).getLast? = some (x ++ s) := by
  cases hz : s.size with
  | zero =>
    have h0 : s = ⟨#[]⟩ := ByteArray.ext (Array.eq_empty_of_size_eq_zero hz)
    have h1 : x ++ s = x := by
      subst h0
      apply ByteArray.ext
      rw [ByteArray.data_append]
      simp
    rw [h1]
    simpa [parts] using hL
  | succ n =>
    rw [parts_succ, ← List.append_assoc, List.getLast?_append, ← hz, extract_all]
    rfl
theorem DiskAt.up {W : World} {B sb fb cb nf nc nf' nc' : Nat} {F C : ByteArray → Option Value} {ops armed : Int} {down : Bool} (h : DiskAt W B sb fb cb nf nc F C ops armed down) (h1 : nf ≤ nf') (h2 : nc ≤ nc') : DiskAt W B sb fb cb nf' nc' F C ops armed down :=
  ⟨h.row, h.files.mono h1, h.changed.mono h2, h.apart, h.high⟩
/-- The names that have changes. -/
def KC (C : ByteArray → Option Value) : List (List UInt8) := (if (C (nk 0)).isSome then [[97]] else []) ++ (if (C (nk 1)).isSome then [[98]] else []) ++ (if (C (nk 2)).isSome then [[99]] else [])
theorem KC_nodup (C : ByteArray → Option Value) : (KC C).Nodup := by
  unfold KC
  cases (C (nk 0)).isSome <;> cases (C (nk 1)).isSome <;> cases (C (nk 2)).isSome <;> decide
theorem KC_short (C : ByteArray → Option Value) : (∀ x ∈ KC C, x.length ≤ 1000) ∧ (KC C).length ≤ 3 := by
  unfold KC
  cases (C (nk 0)).isSome <;> cases (C (nk 1)).isSome <;> cases (C (nk 2)).isSome <;> simp
theorem ba_iff (x y : List UInt8) : (⟨x.toArray⟩ : ByteArray) = ⟨y.toArray⟩ ↔ x = y := ⟨fun h => by have := congrArg (fun b : ByteArray => b.data.toList) h; simpa using this, fun h => by rw [h]⟩
theorem KC_mem {C : ByteArray → Option Value} (hC : ∀ key, (∀ k, k < 3 → key ≠ nk k) → C key = none) (x : List UInt8) : x ∈ KC C ↔ (C ⟨x.toArray⟩).isSome = true := by
  by_cases h0 : x = [97]
  · subst h0
    rw [show (⟨[(97 : UInt8)].toArray⟩ : ByteArray) = nk 0 from rfl]
    unfold KC
    cases (C (nk 0)).isSome <;> cases (C (nk 1)).isSome <;> cases (C (nk 2)).isSome <;> decide
  · by_cases h1 : x = [98]
    · subst h1
      rw [show (⟨[(98 : UInt8)].toArray⟩ : ByteArray) = nk 1 from rfl]
      unfold KC
      cases (C (nk 0)).isSome <;> cases (C (nk 1)).isSome <;> cases (C (nk 2)).isSome <;> decide
    · by_cases h2 : x = [99]
      · subst h2
        rw [show (⟨[(99 : UInt8)].toArray⟩ : ByteArray) = nk 2 from rfl]
        unfold KC
        cases (C (nk 0)).isSome <;> cases (C (nk 1)).isSome <;> cases (C (nk 2)).isSome <;> decide
      · have hn : C ⟨x.toArray⟩ = none := hC _ fun k hk e => by
          match k, hk with
          | 0, _ => exact h0 ((ba_iff x [97]).1 e)
          | 1, _ => exact h1 ((ba_iff x [98]).1 e)
          | 2, _ => exact h2 ((ba_iff x [99]).1 e)
        rw [hn]
        unfold KC
        cases (C (nk 0)).isSome <;> cases (C (nk 1)).isSome <;> cases (C (nk 2)).isSome <;> simp [h0, h1, h2]
end Go.Proofs.YtahaienalidiiaaDoor
