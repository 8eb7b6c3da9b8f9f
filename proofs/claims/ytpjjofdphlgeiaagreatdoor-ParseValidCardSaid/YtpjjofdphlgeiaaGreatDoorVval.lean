/- Parts of the proof, together. What a row's list of variables gives the scanner's walks: the words and the error of api lie in their variables. Conditions: the row's list holds them. -/
import Derived.Test.YtpjjofdphlgeiaaGreatDoorVvad
import Derived.Test.YtpjjofdphlgeiaaGreatDoorVvak
namespace Go.Proofs.YtpjjofdphlgeiaaGreatDoor
open Go.ChangeShapes Go.WideShapes Go.ChangeAt Go.RowKit
open Lx

theorem lex_word {W : World} {n : String} {g : Nat} {t : TypeId} {ws : List (List UInt8)} {k : Nat} (h : Lib.VarReads Tryz.prog W n (.agg (ws.map fun x => .lit (.string x)))) (hg : Tryz.prog.globalNamed n = some g) (ht : (Tryz.prog.globals[g]?).map (·.type) = some t)
    (hu : Tryz.prog.underlying t = some (.array k 9)) (i : Nat) (hi : i < k) (hw : ws.length = k) : W.cell? ⟨g, i, none⟩ = some (.string (txt (ws.getD i []))) := by
  obtain ⟨g', t', cs, fuel, p, h1, h2, h3, h4⟩ := h
  obtain rfl := Option.some.inj (hg.symm.trans h1)
  obtain rfl := Option.some.inj (ht.symm.trans h2)
  obtain ⟨f2, d, q, hd, hr⟩ := Lib.array_elem hu h4 i hi
  rw [cells_str', Nat.mul_one] at hr
  obtain ⟨z, hz, hx, _⟩ := DataW.trod_string Tryz.underlying9 hr
  have hlt : i < ws.length := by omega
  rw [List.getElem?_map, List.getElem?_eq_getElem hlt] at hd
  cases hx
  have e : ws[i] = z.data.toList := by simpa using hd
  have hc := World.var?_cell h1 h3 i
  have hci : cs.toList[i]? = some (.string z) := by
    have h0 := congrArg (fun l => l[0]?) hz
    simpa [List.getElem?_take, List.getElem?_drop] using h0
  have hci' : cs[i]? = some (.string z) := by simpa using hci
  rw [List.getD_eq_getElem?_getD, List.getElem?_eq_getElem hlt, Option.getD_some, e, txt_data]
  exact hc.trans hci'
theorem words_of {W : World} {l : List (String × DataW Unit)} (h : laidMet Tryz.prog l W) (hm : ("smithy/lex.words", Rows.laid_smithy_lex_words) ∈ l) : WordsAt W := by
  have r := Lib.laidMet.reads h hm
  rw [show (Rows.laid_smithy_lex_words : DataW Unit) = .agg (words.map fun x => .lit (.string x)) from by kernel_rfl] at r
  intro j v hv
  rw [Nat.zero_add]
  rw [List.getElem?_map] at hv
  have hj : j < 17 := by
    by_cases hj : j < 17
    · exact hj
    · rw [List.getElem?_eq_none (by show 17 ≤ j; omega)] at hv; cases hv
  have := lex_word (g := 17) r (by kernel_rfl) (by kernel_rfl) Tryz.underlying132 j hj rfl
  have hlt : j < words.length := hj
  rw [List.getElem?_eq_getElem hlt] at hv
  rw [List.getD_eq_getElem?_getD, List.getElem?_eq_getElem hlt] at this
  exact this.trans hv
end Go.Proofs.YtpjjofdphlgeiaaGreatDoor
