/- Parts of the proof, together. Maps whose elements are plain structs, by what they hold at each key: looked up, stored, taken out. Conditions: keys of at most maxLen bytes. What unlike.fresh answers: whether a name is new; it is laid down. Conditions: few and short names. -/
import Derived.Maps.OwnSet
import Derived.Maps.Views
import Derived.StringKeys
import Derived.Test.YtpjjofdphlgeiaaGreatDoorVvaa
import Derived.Test.YtpjjofdphlgeiaaGreatDoorVvar
namespace Go.Proofs.YtpjjofdphlgeiaaGreatDoor
open Go.RowKit Go.Maps Go.ChangeMaps

/-- A plain value as a literal. -/
def litOf : Value → Option Lit
  | .int k a => some (.int k a)
  | .bool b => some (.bool b)
  | .string s => some (.string s.data.toList)
  | _ => none
theorem litOf_inj {v v' : Value} {l : Lit} (h : litOf v = some l) (h' : litOf v' = some l) : v = v' := by
  cases v <;> simp [litOf] at h <;> cases v' <;> simp [litOf] at h' <;> subst h <;> simp_all
  rename_i s s'
  apply ByteArray.ext
  exact h'.symm
/-- A struct of plain cells, as it reads. -/
def rdS (v : Value) : Option (DataW Unit × List MemPlace) := match v with
  | .agg cs => (cs.toList.mapM litOf).map fun l => (.agg (l.map DataW.lit), [])
  | _ => none
theorem mapM_inj : ∀ {l l' : List Value} {r : List Lit}, l.mapM litOf = some r → l'.mapM litOf = some r → l = l'
  | [], [], _, _, _ => rfl
  | [], x :: l', r, h, h' => by
    simp at h
    subst h
    simp [List.mapM_cons] at h'
    cases hx : litOf x <;> simp [hx] at h'
    cases hl : l'.mapM litOf <;> simp [hl] at h'
  | x :: l, [], r, h, h' => by
    simp at h'
    subst h'
    simp [List.mapM_cons] at h
    cases hx : litOf x <;> simp [hx] at h
    cases hl : l.mapM litOf <;> simp [hl] at h
  | x :: l, y :: l', r, h, h' => by
    simp [List.mapM_cons] at h h'
    cases hx : litOf x with
    | none => simp [hx] at h
    | some a =>
      cases hl : l.mapM litOf with
      | none => simp [hx, hl] at h
      | some b =>
        cases hy : litOf y with
        | none => simp [hy] at h'
        | some a' =>
          cases hl' : l'.mapM litOf with
          | none => simp [hy, hl'] at h'
          | some b' =>
            simp [hx, hl] at h
            simp [hy, hl'] at h'
            subst h
            injection h' with e1 e2
            subst e1 e2
            rw [litOf_inj hx hy, mapM_inj hl hl']
theorem rdS_inj {v v' : Value} {d : DataW Unit} {p p' : List MemPlace} (h : rdS v = some (d, p)) (h' : rdS v' = some (d, p')) : v = v' := by
  unfold rdS at h h'
  cases v <;> simp at h
  cases v' <;> simp at h'
  rename_i cs cs'
  obtain ⟨a, ha, e, _⟩ := h
  obtain ⟨a', ha', e', _⟩ := h'
  have : a = a' := by
    have e2 := e.trans e'.symm
    injection e2 with e2
    exact (List.map_inj_right fun x y h => by injection h).1 e2
  subst this
  rw [Array.toList_inj.1 (mapM_inj ha ha')]

/-- A key as a literal. -/
def kl (key : ByteArray) : Lit := .string key.data.toList
theorem kl_inj {a b : ByteArray} (h : kl a = kl b) : a = b := by
  unfold kl at h
  injection h with h
  apply ByteArray.ext
  exact Array.toList_inj.1 h
theorem kl_ne {a b : ByteArray} (h : a ≠ b) : kl a ≠ kl b := fun e => h (kl_inj e)
def putF (F : ByteArray → Option Value) (key : ByteArray) (v : Value) : ByteArray → Option Value := fun k => if k = key then some v else F k
def delF (F : ByteArray → Option Value) (key : ByteArray) : ByteArray → Option Value := fun k => if k = key then none else F k
theorem putF_same (F : ByteArray → Option Value) (key : ByteArray) (v : Value) : putF F key v key = some v := if_pos rfl
theorem putF_other (F : ByteArray → Option Value) {key k : ByteArray} (v : Value) (h : k ≠ key) : putF F key v k = F k := if_neg h
theorem delF_same (F : ByteArray → Option Value) (key : ByteArray) : delF F key key = none := if_pos rfl
theorem delF_other (F : ByteArray → Option Value) {key k : ByteArray} (h : k ≠ key) : delF F key k = F k := if_neg h
theorem keyK (key : ByteArray) (h : key.size ≤ maxLen) : keyOf Tryz.prog 9 (.string key) = some (kl key) := WideMaps.keyOf_string_mk Tryz.underlying9 h
/-- Block b is a map of at most n entries; what stands at each key. z: what an element is that is not there. -/
def MapAt (W : World) (b n : Nat) (z : Value) (F : ByteArray → Option Value) : Prop :=
  ∃ D zd zp, rdS z = some (zd, zp) ∧ W.ownsMap Tryz.prog 9 rdS b n D ∧ ∀ key : ByteArray, Maps.has D (kl key) = (F key).isSome ∧ ∃ p, rdS ((F key).getD z) = some (D.atKey (kl key) zd, p)
theorem MapAt.of_eq {W W' : World} {b n : Nat} {z : Value} {F : ByteArray → Option Value} (h : MapAt W b n z F) (he : W'.heap[b]? = W.heap[b]?) : MapAt W' b n z F := by
  obtain ⟨D, zd, zp, h1, ⟨es, clock, hb, h2⟩, h3⟩ := h
  exact ⟨D, zd, zp, h1, ⟨es, clock, he.trans hb, h2⟩, h3⟩
theorem MapAt.lt {W : World} {b n : Nat} {z : Value} {F : ByteArray → Option Value} (h : MapAt W b n z F) : b < W.heap.size := by
  obtain ⟨D, zd, zp, h1, h2, h3⟩ := h
  exact h2.lt
theorem MapAt.mono {W : World} {b n n' : Nat} {z : Value} {F : ByteArray → Option Value} (h : MapAt W b n z F) (hn : n ≤ n') : MapAt W b n' z F := by
  obtain ⟨D, zd, zp, h1, h2, h3⟩ := h
  exact ⟨D, zd, zp, h1, h2.mono hn, h3⟩
theorem MapAt.made (w : World) (z : Value) {zd : DataW Unit} {zp : List MemPlace} (hz : rdS z = some (zd, zp)) : MapAt (w.alloc (.map #[] 0)) w.heap.size 0 z (fun _ => none) :=
  ⟨.map [], zd, zp, hz, World.ownsMap_made _ _ _ _, fun _ => ⟨rfl, zp, hz⟩⟩
theorem MapAt.look {W : World} {b n : Nat} {z : Value} {F : ByteArray → Option Value} {t e : TypeId} (h : MapAt W b n z F) (ht : Tryz.prog.underlying t = some (.map 9 e)) (hz : (zeroValue e).run Tryz.prog W = .ok z W) (key : ByteArray) (hk : key.size ≤ maxLen) :
    (Instr.lookup t (.map (some b)) (.string key) false).run Tryz.prog W = .ok ((F key).getD z) W := by
  obtain ⟨D, zd, zp, h1, h2, h3⟩ := h
  obtain ⟨v, ps, hr, hv⟩ := h2.lookup (string_keyed Tryz.underlying9) ht hz h1 (keyK key hk)
  obtain ⟨_, p, hp⟩ := h3 key
  rw [hr, rdS_inj hv hp]
theorem MapAt.look_ok {W : World} {b n : Nat} {z : Value} {F : ByteArray → Option Value} {t e : TypeId} (h : MapAt W b n z F) (ht : Tryz.prog.underlying t = some (.map 9 e)) (hz : (zeroValue e).run Tryz.prog W = .ok z W) (key : ByteArray) (hk : key.size ≤ maxLen) :
    (Instr.lookup t (.map (some b)) (.string key) true).run Tryz.prog W = .ok (.tuple #[(F key).getD z, .bool (F key).isSome]) W := by
  obtain ⟨D, zd, zp, h1, h2, h3⟩ := h
  obtain ⟨v, ps, hr, hv⟩ := h2.look_ok (string_keyed Tryz.underlying9) ht hz h1 (keyK key hk)
  obtain ⟨hh, p, hp⟩ := h3 key
  rw [hr, rdS_inj hv hp, hh]
theorem MapAt.store {W : World} {b n : Nat} {z : Value} {F : ByteArray → Option Value} {t e : TypeId} (h : MapAt W b n z F) (ht : Tryz.prog.underlying t = some (.map 9 e)) (hn : n < maxLen) (key : ByteArray) (hk : key.size ≤ maxLen) (v : Value) {d : DataW Unit} {ps : List MemPlace} (hv : rdS v = some (d, ps)) :
    ∃ w', (Instr.mapUpdate t (.map (some b)) (.string key) v).run Tryz.prog W = .ok () w' ∧ MapAt w' b (n + 1) z (putF F key v) ∧ W.mapTurned w' b := by
  obtain ⟨D, zd, zp, h1, h2, h3⟩ := h
  obtain ⟨w', hr, ho, ht'⟩ := h2.store (string_keyed Tryz.underlying9) ht hn (keyK key hk) hv
  refine ⟨w', hr, ⟨_, zd, zp, h1, ho, fun k => ?_⟩, ht'⟩
  by_cases e : k = key
  · subst e
    rw [putF_same, Maps.has_put_same h2.isMap (by simp [kl, WideAt.IsKeyLit]), Maps.atKey_put_same h2.isMap (by simp [kl, WideAt.IsKeyLit])]
    exact ⟨rfl, ps, hv⟩
  · rw [putF_other F v e, Maps.has_put_other (kl_ne e), Maps.atKey_put_other (kl_ne e)]
    exact h3 k
theorem MapAt.drop {W : World} {b n : Nat} {z : Value} {F : ByteArray → Option Value} {t e : TypeId} (h : MapAt W b n z F) (ht : Tryz.prog.underlying t = some (.map 9 e)) (key : ByteArray) (hk : key.size ≤ maxLen) (ty : TypeId) :
    ∃ w', (Builtin.delete_ #[t, 9] ty #[.map (some b), .string key]).run Tryz.prog W = .ok (.tuple #[]) w' ∧ MapAt w' b n z (delF F key) ∧ W.mapTurned w' b := by
  obtain ⟨D, zd, zp, h1, h2, h3⟩ := h
  obtain ⟨w', hr, ho, ht'⟩ := h2.drop (string_keyed Tryz.underlying9) ht (keyK key hk) ty
  refine ⟨w', hr, ⟨_, zd, zp, h1, ho, fun k => ?_⟩, ht'⟩
  by_cases e : k = key
  · subst e
    rw [delF_same, Maps.has_del_same, Maps.atKey_del_same]
    exact ⟨rfl, zp, h1⟩
  · rw [delF_other F e, Maps.has_del_other (kl_ne e), Maps.atKey_del_other (kl_ne e)]
    exact h3 k
theorem MapAt.len {W : World} {b n : Nat} {z : Value} {F : ByteArray → Option Value} {t e : TypeId} (h : MapAt W b n z F) (ht : Tryz.prog.underlying t = some (.map 9 e)) : ∃ m : Nat, m ≤ n ∧ ∀ ty, (Builtin.len_ #[t] ty #[.map (some b)]).run Tryz.prog W = .ok (.int .i64 (m : Int)) W := by
  obtain ⟨D, zd, zp, h1, h2, h3⟩ := h
  exact ⟨_, h2.size_le, fun ty => h2.len ht ty⟩
theorem turned_other {W W' : World} {b k : Nat} (h : W.mapTurned W' b) (hk : k ≠ b) : W'.heap[k]? = W.heap[k]? := by
  obtain ⟨es, clock, es', clock', hb, rfl⟩ := h
  exact heap_setBlock_other hb _ hk
theorem turned_size {W W' : World} {b : Nat} (h : W.mapTurned W' b) : W'.heap.size = W.heap.size := by
  obtain ⟨es, clock, es', clock', hb, rfl⟩ := h
  simp [setBlock]
theorem turned_below {B : Nat} {W0 W W' : World} {b : Nat} (h : W.mapTurned W' b) (hb : Below B W0 W) (hB : B ≤ b) : Below B W0 W' := by
  refine hb.trans ⟨?_, ?_, ?_, Nat.le_of_eq (turned_size h).symm, fun k hk => turned_other h (by omega)⟩ <;> (obtain ⟨es, clock, es', clock', hb', rfl⟩ := h; rfl)
end Go.Proofs.YtpjjofdphlgeiaaGreatDoor

namespace Go.Proofs.YtpjjofdphlgeiaaGreatDoor
open Go.RowKit

def unitF (names : List (List UInt8)) : ByteArray → Option Value := fun k => if k.data.toList ∈ names then some (.agg #[]) else none
/-- A map of names. -/
def MapU (W : World) (b : Nat) (names : List (List UInt8)) : Prop := MapAt W b names.length (.agg #[]) (unitF names)
theorem rdS_unit : rdS (.agg #[]) = some (.agg [], []) := rfl
theorem unitF_put (names : List (List UInt8)) (l : List UInt8) : putF (unitF names) (txt l) (.agg #[]) = unitF (l :: names) := by
  funext k
  unfold putF unitF
  by_cases e : k = txt l
  · rw [if_pos e, if_pos (by rw [e, data_txt]; exact List.mem_cons_self ..)]
  · rw [if_neg e]
    have e2 : ¬ k.data.toList = l := fun h => e (by rw [← txt_data k, h])
    by_cases h : k.data.toList ∈ names
    · rw [if_pos h, if_pos (List.mem_cons_of_mem _ h)]
    · rw [if_neg h, if_neg (fun h2 => (List.mem_cons.1 h2).elim e2 h)]
set_option maxRecDepth 10000 in
set_option maxHeartbeats 1600000 in
theorem fresh_any {W : World} {b : Nat} {names : List (List UInt8)} (h : MapU W b names) (hn : names.length < 1000000) (l : List UInt8) (hk : (txt l).size ≤ 1000000) :
    Calls Tryz.prog 107 #[.map (some b), .string (txt l)] W fun e w' => e = .returned (.bool (decide (¬ l ∈ names))) ∧ MapU w' b (l :: names) ∧ W.heap.size ≤ w'.heap.size ∧ (∀ k, k < W.heap.size → k ≠ b → w'.heap[k]? = W.heap[k]?) ∧ (∀ B, B ≤ b → Below B W w') := by
  have hnot : ∀ (x : Bool) (w : World), (Op.unary .not (.bool x)).run Tryz.prog w = .ok (.bool (!x)) w := fun _ _ => rfl
  have hz : ∀ w : World, (zeroValue 137).run Tryz.prog w = .ok (.agg #[]) w := fun _ => by kernel_rfl
  have hlk := h.look_ok (t := 128) Tryz.underlying128 (hz W) (txt l) (by unfold maxLen; omega)
  have hgd : ((unitF names) (txt l)).getD (.agg #[]) = .agg #[] := by unfold unitF; split <;> rfl
  have hsm : ((unitF names) (txt l)).isSome = decide (l ∈ names) := by unfold unitF; rw [data_txt]; by_cases e : l ∈ names <;> simp [e]
  rw [hgd, hsm] at hlk
  have hb := h.lt
  have h2 : MapU (W.alloc (.cells #[] 137)) b names := MapAt.of_eq h (Below.heap_alloc _ _ _ hb)
  obtain ⟨w', hst, hm', ht'⟩ := MapAt.store h2 (t := 128) Tryz.underlying128 (by unfold maxLen; omega) (txt l) (by unfold maxLen; omega) (.agg #[]) rdS_unit
  rw [unitF_put] at hm'
  have hsz := turned_size ht'
  have HM : Hid (MapU w' b (l :: names)) := hid' hm'
  have HF := hid' (fun k (hk : k < W.heap.size) (hne : k ≠ b) => (turned_other ht' hne).trans (Below.heap_alloc W (.cells #[] 137) k hk))
  have HB := hid' (fun B (hB : B ≤ b) => turned_below ht' ((Below.refl B W).alloc (by omega) (.cells #[] 137)) hB)
  have HZ : Hid (W.heap.size ≤ w'.heap.size) := hid' (by rw [hsz]; simp)
  clear h h2 hm' ht' hgd hsm hsz
  cases hd : decide (l ∈ names) with
  | true =>
    have he : decide (¬ l ∈ names) = false := by simp at hd ⊢; exact hd
    rw [hd] at hlk
    rw [he]
    clear hd he
    go_enter Tryz.func107, Tryz.ntmps107
    go_wp2
    go_returns
    exact ⟨rfl, HM.out, HZ.out, HF.out, HB.out⟩
  | false =>
    have he : decide (¬ l ∈ names) = true := by simp at hd ⊢; exact hd
    rw [hd] at hlk
    rw [he]
    clear hd he
    go_enter Tryz.func107, Tryz.ntmps107
    go_wp2
    go_returns
    exact ⟨rfl, HM.out, HZ.out, HF.out, HB.out⟩
end Go.Proofs.YtpjjofdphlgeiaaGreatDoor
