/- Maps whose elements are plain values, by what they hold at each key: looked up, stored. Conditions: keys of at most maxLen bytes. -/
import Derived.Test.YtdiocmcfaneajaaGreatDoorStM
import Derived.Maps.OwnSet
import Derived.Maps.Views
import Derived.StringKeys
namespace Go.Proofs.YtdiocmcfaneajaaGreatDoor
open Go.RowKit Go.Maps Go.ChangeMaps
namespace St

/-- A plain value as a literal. -/
def litOf : Value → Option Lit
  | .int k a => some (.int k a)
  | .bool b => some (.bool b)
  | .string s => some (.string s.data.toList)
  | _ => none
theorem litOf_inj {v v' : Value} {l : Lit} (h : litOf v = some l) (h' : litOf v' = some l) : v = v' := by
  cases v <;> simp [litOf] at h <;> cases v' <;> simp [litOf] at h' <;> subst h <;> simp_all
  rename_i s s'
  apply ByteArray.ext
  exact h'.symm
/-- A plain value, as it reads. -/
def rdS (v : Value) : Option (DataW Unit × List MemPlace) := (litOf v).map fun l => (.lit l, [])
theorem rdS_inj {v v' : Value} {d : DataW Unit} {p p' : List MemPlace} (h : rdS v = some (d, p)) (h' : rdS v' = some (d, p')) : v = v' := by
  unfold rdS at h h'
  obtain ⟨a, ha, e⟩ := Option.map_eq_some_iff.1 h
  obtain ⟨a', ha', e'⟩ := Option.map_eq_some_iff.1 h'
  have e2 := (Prod.mk.inj e).1.trans (Prod.mk.inj e').1.symm
  injection e2 with e3
  subst e3
  exact litOf_inj ha ha'

/-- A key as a literal. -/
def kl (key : ByteArray) : Lit := .string key.data.toList
theorem kl_inj {a b : ByteArray} (h : kl a = kl b) : a = b := by
  unfold kl at h
  injection h with h
  apply ByteArray.ext
  exact Array.toList_inj.1 h
theorem kl_ne {a b : ByteArray} (h : a ≠ b) : kl a ≠ kl b := fun e => h (kl_inj e)
def putF (F : ByteArray → Option Value) (key : ByteArray) (v : Value) : ByteArray → Option Value := fun k => if k = key then some v else F k
theorem putF_same (F : ByteArray → Option Value) (key : ByteArray) (v : Value) : putF F key v key = some v := if_pos rfl
theorem putF_other (F : ByteArray → Option Value) {key k : ByteArray} (v : Value) (h : k ≠ key) : putF F key v k = F k := if_neg h
theorem keyK (key : ByteArray) (h : key.size ≤ maxLen) : keyOf Tryz.prog 9 (.string key) = some (kl key) := WideMaps.keyOf_string_mk Tryz.underlying9 h
/-- Block b is a map of at most n entries; what stands at each key. z: what an element is that is not there. -/
def MapAt (W : World) (b n : Nat) (z : Value) (F : ByteArray → Option Value) : Prop :=
  ∃ D zd zp, rdS z = some (zd, zp) ∧ W.ownsMap Tryz.prog 9 rdS b n D ∧ ∀ key : ByteArray, Maps.has D (kl key) = (F key).isSome ∧ ∃ p, rdS ((F key).getD z) = some (D.atKey (kl key) zd, p)
theorem MapAt.of_eq {W W' : World} {b n : Nat} {z : Value} {F : ByteArray → Option Value} (h : MapAt W b n z F) (he : W'.heap[b]? = W.heap[b]?) : MapAt W' b n z F := by
  obtain ⟨D, zd, zp, h1, ⟨es, clock, hb, h2⟩, h3⟩ := h
  exact ⟨D, zd, zp, h1, ⟨es, clock, he.trans hb, h2⟩, h3⟩
theorem MapAt.lt {W : World} {b n : Nat} {z : Value} {F : ByteArray → Option Value} (h : MapAt W b n z F) : b < W.heap.size := by
  obtain ⟨D, zd, zp, h1, h2, h3⟩ := h
  exact h2.lt
theorem MapAt.mono {W : World} {b n n' : Nat} {z : Value} {F : ByteArray → Option Value} (h : MapAt W b n z F) (hn : n ≤ n') : MapAt W b n' z F := by
  obtain ⟨D, zd, zp, h1, h2, h3⟩ := h
  exact ⟨D, zd, zp, h1, h2.mono hn, h3⟩
theorem MapAt.made (w : World) (z : Value) {zd : DataW Unit} {zp : List MemPlace} (hz : rdS z = some (zd, zp)) : MapAt (w.alloc (.map #[] 0)) w.heap.size 0 z (fun _ => none) :=
  ⟨.map [], zd, zp, hz, World.ownsMap_made _ _ _ _, fun _ => ⟨rfl, zp, hz⟩⟩
theorem MapAt.look {W : World} {b n : Nat} {z : Value} {F : ByteArray → Option Value} {t e : TypeId} (h : MapAt W b n z F) (ht : Tryz.prog.underlying t = some (.map 9 e)) (hz : (zeroValue e).run Tryz.prog W = .ok z W) (key : ByteArray) (hk : key.size ≤ maxLen) :
    (Instr.lookup t (.map (some b)) (.string key) false).run Tryz.prog W = .ok ((F key).getD z) W := by
  obtain ⟨D, zd, zp, h1, h2, h3⟩ := h
  obtain ⟨v, ps, hr, hv⟩ := h2.lookup (string_keyed Tryz.underlying9) ht hz h1 (keyK key hk)
  obtain ⟨_, p, hp⟩ := h3 key
  rw [hr, rdS_inj hv hp]
theorem MapAt.look_ok {W : World} {b n : Nat} {z : Value} {F : ByteArray → Option Value} {t e : TypeId} (h : MapAt W b n z F) (ht : Tryz.prog.underlying t = some (.map 9 e)) (hz : (zeroValue e).run Tryz.prog W = .ok z W) (key : ByteArray) (hk : key.size ≤ maxLen) :
    (Instr.lookup t (.map (some b)) (.string key) true).run Tryz.prog W = .ok (.tuple #[(F key).getD z, .bool (F key).isSome]) W := by
  obtain ⟨D, zd, zp, h1, h2, h3⟩ := h
  obtain ⟨v, ps, hr, hv⟩ := h2.look_ok (string_keyed Tryz.underlying9) ht hz h1 (keyK key hk)
  obtain ⟨hh, p, hp⟩ := h3 key
  rw [hr, rdS_inj hv hp, hh]
theorem MapAt.store {W : World} {b n : Nat} {z : Value} {F : ByteArray → Option Value} {t e : TypeId} (h : MapAt W b n z F) (ht : Tryz.prog.underlying t = some (.map 9 e)) (hn : n < maxLen) (key : ByteArray) (hk : key.size ≤ maxLen) (v : Value) {d : DataW Unit} {ps : List MemPlace} (hv : rdS v = some (d, ps)) :
    ∃ w', (Instr.mapUpdate t (.map (some b)) (.string key) v).run Tryz.prog W = .ok () w' ∧ MapAt w' b (n + 1) z (putF F key v) ∧ W.mapTurned w' b := by
  obtain ⟨D, zd, zp, h1, h2, h3⟩ := h
  obtain ⟨w', hr, ho, ht'⟩ := h2.store (string_keyed Tryz.underlying9) ht hn (keyK key hk) hv
  refine ⟨w', hr, ⟨_, zd, zp, h1, ho, fun k => ?_⟩, ht'⟩
  by_cases e : k = key
  · subst e
    rw [putF_same, Maps.has_put_same h2.isMap (by simp [kl, WideAt.IsKeyLit]), Maps.atKey_put_same h2.isMap (by simp [kl, WideAt.IsKeyLit])]
    exact ⟨rfl, ps, hv⟩
  · rw [putF_other F v e, Maps.has_put_other (kl_ne e), Maps.atKey_put_other (kl_ne e)]
    exact h3 k
theorem turned_other {W W' : World} {b k : Nat} (h : W.mapTurned W' b) (hk : k ≠ b) : W'.heap[k]? = W.heap[k]? := by
  obtain ⟨es, clock, es', clock', hb, rfl⟩ := h
  exact heap_setBlock_other hb _ hk
theorem turned_size {W W' : World} {b : Nat} (h : W.mapTurned W' b) : W'.heap.size = W.heap.size := by
  obtain ⟨es, clock, es', clock', hb, rfl⟩ := h
  simp [setBlock]
theorem turned_below {B : Nat} {W0 W W' : World} {b : Nat} (h : W.mapTurned W' b) (hb : Below B W0 W) (hB : B ≤ b) : Below B W0 W' := by
  refine hb.trans ⟨?_, ?_, ?_, Nat.le_of_eq (turned_size h).symm, fun k hk => turned_other h (by omega)⟩ <;> (obtain ⟨es, clock, es', clock', hb', rfl⟩ := h; rfl)
end St
end Go.Proofs.YtdiocmcfaneajaaGreatDoor
