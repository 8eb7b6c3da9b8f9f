/- What Words answers. Conditions: a text of at most 100000 bytes. -/
import Derived.Test.YtdiocmcfaneajaaGreatDoorStWf
import Derived.Test.YtdiocmcfaneajaaGreatDoorShelfB
namespace Go.Proofs.YtdiocmcfaneajaaGreatDoor
open Go.RowKit
open Lx
namespace St

theorem texts_data (l : List ByteArray) : texts (datas l) = l := by
  unfold datas texts
  rw [List.map_map]
  exact (List.map_congr_left fun x _ => rfl).trans (List.map_id _)
set_option maxRecDepth 100000 in
set_option maxHeartbeats 1600000 in
theorem words_any (s : ByteArray) (w : World) (hs : s.size ≤ 100000) :
    Calls Tryz.prog 19 #[.string s] w fun e w' => ∃ ao n cap, e = .returned (.slice ao n cap) ∧ (wordsF s.data.toList).length = n ∧ Txs w' ao (texts (wordsF s.data.toList)) ∧ Below w.heap.size w w' := by
  have HF := hidden (Tryz.strings_FieldsFunc_grows 45 #[] (fun _ _ => rfl) blR s w (by omega) (fun W x hx _ => isBlank_any x hx W))
  rw [words_eq] at HF
  go_enter Tryz.func19, Tryz.ntmps19
  go_wp2_with (go_at_call 44; (refine HF.out.mono ?_); rintro e w2 ⟨A, rfl, _, hO, hb2⟩)
  go_ret
  have hO' : OwnT w2 w.heap.size (.slice (some ⟨A, 0, none⟩) (texts (wordsF s.data.toList)).length (texts (wordsF s.data.toList)).length) (texts (wordsF s.data.toList)) := hO
  obtain ⟨ao, cap, e, hX⟩ := hO'.txs
  have hl : (texts (wordsF s.data.toList)).length = (wordsF s.data.toList).length := by unfold texts; rw [List.length_map]
  exact ⟨ao, _, cap, by rw [← e]; rfl, hl.symm, hX, hb2⟩
end St
end Go.Proofs.YtdiocmcfaneajaaGreatDoor
