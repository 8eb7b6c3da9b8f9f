/- What a row's list of variables gives the walks of strings: the words, ErrDynamic and ErrLimit lie in their variables. Conditions: the row's list holds them. -/
import Derived.Test.YtdiocmcfaneajaaGreatDoorCards
import Derived.Test.YtdiocmcfaneajaaGreatDoorTie
import Derived.Test.YtdiocmcfaneajaaGreatDoorStA
import Derived.ProofKit
import Derived.OpenShut
import Derived.Lay
import Derived.Lib.LaidTab
import Derived.Lib.LaidU8
import Derived.Sort.Walk0
import Derived.Deep.DeepHandedRow
import Derived.SevenTiedAt
import Derived.Stop.LaidErr
import Derived.SliceStrings
import Derived.Carry
namespace Go.Proofs.YtdiocmcfaneajaaGreatDoor
open Go.ChangeShapes Go.WideShapes Go.ChangeAt Go.RowKit
open Lx
theorem trodAll_mk5 {H : Type} {enc : TypeId × Value → H} {P : Program} {w : World} {base : Nat} {spare : Nat → Bool} {held : Bool} {t0 t1 t2 t3 t4 : TypeId} {v0 v1 v2 v3 v4 : Value} {d0 d1 d2 d3 d4 : DataW H} {p0 p1 p2 p3 p4 : List MemPlace}
    (h0 : DataW.Trod enc P w base spare held t0 v0 d0 p0) (h1 : DataW.Trod enc P w base spare held t1 v1 d1 p1) (h2 : DataW.Trod enc P w base spare held t2 v2 d2 p2) (h3 : DataW.Trod enc P w base spare held t3 v3 d3 p3) (h4 : DataW.Trod enc P w base spare held t4 v4 d4 p4) :
    DataW.TrodAll enc P w base spare held [t0, t1, t2, t3, t4] [v0, v1, v2, v3, v4] [d0, d1, d2, d3, d4] (p0 ++ (p1 ++ (p2 ++ (p3 ++ p4)))) := ⟨p0, p1 ++ (p2 ++ (p3 ++ p4)), h0, trodAll_mk4 h1 h2 h3 h4, rfl⟩
theorem trodAll_mk6 {H : Type} {enc : TypeId × Value → H} {P : Program} {w : World} {base : Nat} {spare : Nat → Bool} {held : Bool} {t0 t1 t2 t3 t4 t5 : TypeId} {v0 v1 v2 v3 v4 v5 : Value} {d0 d1 d2 d3 d4 d5 : DataW H} {p0 p1 p2 p3 p4 p5 : List MemPlace}
    (h0 : DataW.Trod enc P w base spare held t0 v0 d0 p0) (h1 : DataW.Trod enc P w base spare held t1 v1 d1 p1) (h2 : DataW.Trod enc P w base spare held t2 v2 d2 p2) (h3 : DataW.Trod enc P w base spare held t3 v3 d3 p3) (h4 : DataW.Trod enc P w base spare held t4 v4 d4 p4) (h5 : DataW.Trod enc P w base spare held t5 v5 d5 p5) :
    DataW.TrodAll enc P w base spare held [t0, t1, t2, t3, t4, t5] [v0, v1, v2, v3, v4, v5] [d0, d1, d2, d3, d4, d5] (p0 ++ (p1 ++ (p2 ++ (p3 ++ (p4 ++ p5))))) := ⟨p0, p1 ++ (p2 ++ (p3 ++ (p4 ++ p5))), h0, trodAll_mk5 h1 h2 h3 h4 h5, rfl⟩
theorem trodAll_mk7 {H : Type} {enc : TypeId × Value → H} {P : Program} {w : World} {base : Nat} {spare : Nat → Bool} {held : Bool} {t0 t1 t2 t3 t4 t5 t6 : TypeId} {v0 v1 v2 v3 v4 v5 v6 : Value} {d0 d1 d2 d3 d4 d5 d6 : DataW H} {p0 p1 p2 p3 p4 p5 p6 : List MemPlace}
    (h0 : DataW.Trod enc P w base spare held t0 v0 d0 p0) (h1 : DataW.Trod enc P w base spare held t1 v1 d1 p1) (h2 : DataW.Trod enc P w base spare held t2 v2 d2 p2) (h3 : DataW.Trod enc P w base spare held t3 v3 d3 p3) (h4 : DataW.Trod enc P w base spare held t4 v4 d4 p4) (h5 : DataW.Trod enc P w base spare held t5 v5 d5 p5) (h6 : DataW.Trod enc P w base spare held t6 v6 d6 p6) :
    DataW.TrodAll enc P w base spare held [t0, t1, t2, t3, t4, t5, t6] [v0, v1, v2, v3, v4, v5, v6] [d0, d1, d2, d3, d4, d5, d6] (p0 ++ (p1 ++ (p2 ++ (p3 ++ (p4 ++ (p5 ++ p6)))))) := ⟨p0, p1 ++ (p2 ++ (p3 ++ (p4 ++ (p5 ++ p6)))), h0, trodAll_mk6 h1 h2 h3 h4 h5 h6, rfl⟩
theorem trodAll_mk8 {H : Type} {enc : TypeId × Value → H} {P : Program} {w : World} {base : Nat} {spare : Nat → Bool} {held : Bool} {t0 t1 t2 t3 t4 t5 t6 t7 : TypeId} {v0 v1 v2 v3 v4 v5 v6 v7 : Value} {d0 d1 d2 d3 d4 d5 d6 d7 : DataW H} {p0 p1 p2 p3 p4 p5 p6 p7 : List MemPlace}
    (h0 : DataW.Trod enc P w base spare held t0 v0 d0 p0) (h1 : DataW.Trod enc P w base spare held t1 v1 d1 p1) (h2 : DataW.Trod enc P w base spare held t2 v2 d2 p2) (h3 : DataW.Trod enc P w base spare held t3 v3 d3 p3) (h4 : DataW.Trod enc P w base spare held t4 v4 d4 p4) (h5 : DataW.Trod enc P w base spare held t5 v5 d5 p5) (h6 : DataW.Trod enc P w base spare held t6 v6 d6 p6) (h7 : DataW.Trod enc P w base spare held t7 v7 d7 p7) :
    DataW.TrodAll enc P w base spare held [t0, t1, t2, t3, t4, t5, t6, t7] [v0, v1, v2, v3, v4, v5, v6, v7] [d0, d1, d2, d3, d4, d5, d6, d7] (p0 ++ (p1 ++ (p2 ++ (p3 ++ (p4 ++ (p5 ++ (p6 ++ p7))))))) := ⟨p0, p1 ++ (p2 ++ (p3 ++ (p4 ++ (p5 ++ (p6 ++ p7))))), h0, trodAll_mk7 h1 h2 h3 h4 h5 h6 h7, rfl⟩
namespace St

theorem own : ownKnob Tryz.prog.godebug = none := by kernel_rfl
theorem star_name : "*" ++ "errors.errorString" = "*errors.errorString" := by decide
theorem err_type (u : TypeId) (h : Tryz.prog.typeName? 3 u = some "*errors.errorString") : u = 153 :=
  typeName_ptr_named (nm := "errors.errorString") (by rw [star_name]; kernel_rfl) (by kernel_rfl) (by decide) u (by rw [star_name]; exact h)
theorem cells_err : Tryz.prog.cellsOf 155 = 1 := by kernel_rfl
theorem cells_str' : Tryz.prog.cellsOf 9 = 1 := by kernel_rfl
/-- One error lies where g says: a pointer to its text. -/
def ErrAt (W : World) (g : Nat) (text : List UInt8) (a : Addr) : Prop :=
  W.cell? ⟨g, 0, none⟩ = some (.iface 153 (.pointer (some a))) ∧ (∃ s : ByteArray, W.cell? a = some (.string s) ∧ s.data.toList = text) ∧ ∃ c t, W.heap[a.block]? = some (.cells c t (0, 0))
theorem laid_drop {P : Program} {W : World} : ∀ (k : Nat) {l : List (String × DataW Unit)}, laidMet P l W → laidMet P (l.drop k) W
  | 0, _, h => h
  | _ + 1, [], h => h
  | k + 1, _ :: _, h => laid_drop k (laidMet.tail h)
set_option maxRecDepth 100000 in
theorem err_head {W : World} {g : Nat} {n : String} {text : List UInt8} {r : List (String × DataW Unit)} (h : laidMet Tryz.prog ((n, .iface "*errors.errorString" (.ptr (.agg [.lit (.string text)]))) :: r) W)
    (hg : Tryz.prog.globalNamed n = some g) (ht : (Tryz.prog.globals[g]?).map (·.type) = some 26) : ∃ a, ErrAt W g text a := by
  obtain ⟨ps, ⟨g0, t0, cs0, f0, p0, q0, hg0, ht0, hv0, hd0, _, e0⟩, _, hrows⟩ := h
  obtain rfl := Option.some.inj (hg.symm.trans hg0)
  obtain rfl := Option.some.inj (ht.symm.trans ht0)
  subst e0
  obtain ⟨l0⟩ := cs0
  have ok0 : ∀ u v, l0 = [.iface u v] → Value.okWide Tryz.prog W .any 0 u v := fun u v e => by
    subst e
    exact (hrows g 0 (by simp [MemPlace.row])).2 u v (by simpa using World.var?_cell hg0 hv0 0)
  obtain ⟨a0, s0, rfl, hc0, hs0, _, rfl⟩ := errorString_of_trod Tryz.underlying26 err_type Tryz.underlying153 Tryz.underlying155 rfl rfl Tryz.underlying9 cells_err cells_str' hd0 ok0
  have hc := World.var?_cell hg0 hv0 0
  exact ⟨a0, by simpa using hc, ⟨s0, hc0, hs0⟩, (hrows a0.block a0.off (by simp [MemPlace.row])).1⟩
theorem err_idx {W : World} {g : Nat} {l : List (String × DataW Unit)} {n : String} {text : List UInt8} (h : laidMet Tryz.prog l W) (k : Nat) (hk : l[k]? = some (n, .iface "*errors.errorString" (.ptr (.agg [.lit (.string text)]))))
    (hg : Tryz.prog.globalNamed n = some g) (ht : (Tryz.prog.globals[g]?).map (·.type) = some 26) : ∃ a, ErrAt W g text a := by
  have hd := laid_drop k h
  obtain ⟨hlt, e⟩ := List.getElem?_eq_some_iff.1 hk
  rw [List.drop_eq_getElem_cons hlt, e] at hd
  exact err_head hd hg ht

theorem lex_word {W : World} {n : String} {g : Nat} {t : TypeId} {ws : List (List UInt8)} {k : Nat} (h : Lib.VarReads Tryz.prog W n (.agg (ws.map fun x => .lit (.string x)))) (hg : Tryz.prog.globalNamed n = some g) (ht : (Tryz.prog.globals[g]?).map (·.type) = some t)
    (hu : Tryz.prog.underlying t = some (.array k 9)) (i : Nat) (hi : i < k) (hw : ws.length = k) : W.cell? ⟨g, i, none⟩ = some (.string (Go.Proofs.YtdiocmcfaneajaaGreatDoor.txt (ws.getD i []))) := by
  obtain ⟨g', t', cs, fuel, p, h1, h2, h3, h4⟩ := h
  obtain rfl := Option.some.inj (hg.symm.trans h1)
  obtain rfl := Option.some.inj (ht.symm.trans h2)
  obtain ⟨f2, d, q, hd, hr⟩ := Lib.array_elem hu h4 i hi
  rw [cells_str', Nat.mul_one] at hr
  obtain ⟨z, hz, hx, _⟩ := DataW.trod_string Tryz.underlying9 hr
  have hlt : i < ws.length := by omega
  rw [List.getElem?_map, List.getElem?_eq_getElem hlt] at hd
  cases hx
  have e : ws[i] = z.data.toList := by simpa using hd
  have hc := World.var?_cell h1 h3 i
  have hci : cs.toList[i]? = some (.string z) := by
    have h0 := congrArg (fun l => l[0]?) hz
    simpa [List.getElem?_take, List.getElem?_drop] using h0
  have hci' : cs[i]? = some (.string z) := by simpa using hci
  rw [List.getD_eq_getElem?_getD, List.getElem?_eq_getElem hlt, Option.getD_some, e, Go.Proofs.YtdiocmcfaneajaaGreatDoor.txt_data]
  exact hc.trans hci'
theorem words_of {W : World} {l : List (String × DataW Unit)} (h : laidMet Tryz.prog l W) (hm : ("smithy/lex.words", Rows.laid_smithy_lex_words) ∈ l) : WordsAt W := by
  have r := Lib.laidMet.reads h hm
  rw [show (Rows.laid_smithy_lex_words : DataW Unit) = .agg (words.map fun x => .lit (.string x)) from by kernel_rfl] at r
  intro j v hv
  rw [Nat.zero_add]
  rw [List.getElem?_map] at hv
  have hj : j < 17 := by
    by_cases hj : j < 17
    · exact hj
    · rw [List.getElem?_eq_none (by show 17 ≤ j; omega)] at hv; cases hv
  have := lex_word (g := 3) r (by kernel_rfl) (by kernel_rfl) Tryz.underlying145 j hj rfl
  have hlt : j < words.length := hj
  rw [List.getElem?_eq_getElem hlt] at hv
  rw [List.getD_eq_getElem?_getD, List.getElem?_eq_getElem hlt] at this
  exact this.trans hv

theorem bounds_i64 {n : Int} (h : (Lit.int .i64 n).wf = true) : -9223372036854775808 ≤ n ∧ n ≤ 9223372036854775807 := by
  simp [Lit.wf, IntKind.min, IntKind.max, IntKind.signed, IntKind.bits] at h
  omega
def dynText : List UInt8 := [100, 121, 110, 97, 109, 105, 99]
def limText : List UInt8 := [108, 105, 109, 105, 116]
theorem lw_of {W : World} {l : List (String × DataW Unit)} (h : laidMet Tryz.prog l W) (kd kl : Nat) (hd : l[kd]? = some ("smithy/api.ErrDynamic", .iface "*errors.errorString" (.ptr (.agg [.lit (.string dynText)])))) (hl : l[kl]? = some ("smithy/api.ErrLimit", .iface "*errors.errorString" (.ptr (.agg [.lit (.string limText)]))))
    (hm : ("smithy/lex.words", Rows.laid_smithy_lex_words) ∈ l) (hsh : W.ShapedOpen Tryz.prog) : ∃ D pE m, Lw D 153 pE m W := by
  obtain ⟨a, ha⟩ := err_idx (g := 0) (text := dynText) h kd hd (by kernel_rfl) (by kernel_rfl)
  obtain ⟨b, hb⟩ := err_idx (g := 1) (text := limText) h kl hl (by kernel_rfl) (by kernel_rfl)
  obtain ⟨m, hMax⟩ : ∃ m : Int, W.cell? ⟨2, 0, none⟩ = some (.int .i64 m) := Tryz.laysM143.s1_3 W hsh
  exact ⟨_, _, m, ⟨ha.1, hb.1, hMax⟩, words_of h hm⟩
end St
end Go.Proofs.YtdiocmcfaneajaaGreatDoor
