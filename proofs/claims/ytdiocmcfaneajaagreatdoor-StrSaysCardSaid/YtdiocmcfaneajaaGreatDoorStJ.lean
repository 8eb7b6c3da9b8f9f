/- What Join answers. Conditions: short texts; ErrLimit lies in its variable. -/
import Derived.Test.YtdiocmcfaneajaaGreatDoorStM
namespace Go.Proofs.YtdiocmcfaneajaaGreatDoor
open Go.RowKit
namespace St

/-- These texts lie from address ao on. -/
def Txs (W : World) (ao : Option Addr) (xs : List ByteArray) : Prop := xs = [] ∨ ∃ b o, ao = some ⟨b, o, none⟩ ∧ b < W.heap.size ∧ ∀ (j : Nat) x, xs[j]? = some x → W.cell? ⟨b, o + j, none⟩ = some (.string x)
theorem Txs.below {W W' : World} {ao : Option Addr} {xs : List ByteArray} (h : Txs W ao xs) (hb : Below W.heap.size W W') : Txs W' ao xs := by
  rcases h with h | ⟨b, o, e, hl, hc⟩
  · exact .inl h
  · exact .inr ⟨b, o, e, Nat.lt_of_lt_of_le hl hb.size, fun j x hx => (hb.cell hl).trans (hc j x hx)⟩
theorem Txs.at {W : World} {ao : Option Addr} {xs : List ByteArray} (h : Txs W ao xs) (k : Nat) (hk : k < xs.length) : ∃ b o, ao = some ⟨b, o, none⟩ ∧ b < W.heap.size ∧ W.cell? ⟨b, o + k, none⟩ = some (.string xs[k]) := by
  rcases h with rfl | ⟨b, o, e, hl, hc⟩
  · simp at hk
  · exact ⟨b, o, e, hl, hc k _ (List.getElem?_eq_getElem hk)⟩
/-- A list of texts of the call's own, from block B on. -/
def OwnT (W : World) (B : Nat) (v : Value) (xs : List ByteArray) : Prop := W.ownsRow B 9 1 v xs.length (xs.map Value.string)
theorem OwnT.txs {W : World} {B : Nat} {v : Value} {xs : List ByteArray} (h : OwnT W B v xs) : ∃ ao cap, v = .slice ao xs.length cap ∧ Txs W ao xs := by
  rcases h.2 with ⟨rfl, h0⟩ | ⟨g, cap, cur, rfl, hB, hg, hc, _, hs, ht⟩
  · exact ⟨none, 0, by rw [h0], .inl (List.eq_nil_of_length_eq_zero h0)⟩
  · refine ⟨_, cap, rfl, .inr ⟨g, 0, rfl, (Array.getElem?_eq_some_iff.1 hg).1, fun j x hx => ?_⟩⟩
    rw [cell_of_row W g (0 + j) _ _ _ hg, Nat.zero_add]
    have h1 : (xs.map Value.string)[j]? = some (.string x) := by rw [List.getElem?_map, hx]; rfl
    rw [← ht, List.getElem?_take] at h1
    split at h1
    · simpa using h1
    · cases h1
theorem OwnT.of_eq {W W' : World} {B : Nat} {v : Value} {xs : List ByteArray} (h : OwnT W B v xs) (hb : ∀ k, B ≤ k → k < W.heap.size → W'.heap[k]? = W.heap[k]?) : OwnT W' B v xs := by
  refine ⟨h.1, ?_⟩
  rcases h.2 with h0 | ⟨g, cap, cur, e, hB, hg, h3⟩
  · exact .inl h0
  · exact .inr ⟨g, cap, cur, e, hB, (hb g hB (Array.getElem?_eq_some_iff.1 hg).1).trans hg, h3⟩
theorem OwnT.below {W W' : World} {B : Nat} {v : Value} {xs : List ByteArray} (h : OwnT W B v xs) (hb : Below W.heap.size W W') : OwnT W' B v xs := h.of_eq fun k _ hk => hb.block k hk
theorem ownT_nil (W : World) (B : Nat) : OwnT W B (.slice none 0 0) [] := ⟨rfl, .inl ⟨rfl, rfl⟩⟩
theorem new_made (w : World) : MadeAt (w.alloc (.cells #[.slice none 0 0] 65)) w.heap.size [] := ⟨_, Boxed.new w _ _, ownB_nil _ _⟩
theorem MadeAt.below {W W' : World} {b : Nat} {bs : L} (h : MadeAt W b bs) (hb : Below W.heap.size W W') : MadeAt W' b bs := by
  obtain ⟨v, h1, h2⟩ := h
  exact ⟨v, (hb.block b h1.lt).trans h1, h2.below hb⟩
theorem rowS_new (w : World) (x y : ByteArray) : RowS (w.alloc (.cells #[.string x, .string y] 9)) w.heap.size [x, y] := heap_alloc_new _ _
theorem rowS_one (w : World) (x : ByteArray) : RowS (w.alloc (.cells #[.string x] 9)) w.heap.size [x] := heap_alloc_new _ _
def szOf : Value → Nat
  | .string s => s.size
  | _ => 0
def joinV (E : Value) (l : L) : Value := if l.length ≤ 1024 then .tuple #[.string (txt l), .nilIface] else .tuple #[.string ⟨#[]⟩, E]
theorem join_le (sep : L) (l t : List L) : (joinF sep l).length ≤ (joinF sep (l ++ t)).length := by
  cases l with
  | nil => simp [joinF]
  | cons x l => simp [joinF]
def datas (xs : List ByteArray) : List L := xs.map fun x => x.data.toList
theorem datas_take (xs : List ByteArray) (k : Nat) (hk : k < xs.length) : datas (xs.take (k + 1)) = datas (xs.take k) ++ [xs[k].data.toList] := by
  unfold datas
  rw [List.take_succ_eq_append_getElem hk, List.map_append]
  rfl
theorem datas_nil (xs : List ByteArray) (k : Nat) (hk : k ≤ xs.length) : datas (xs.take k) = [] ↔ k = 0 := by
  unfold datas
  simp
  intro h
  subst h
  simpa using hk

set_option maxRecDepth 100000 in
set_option maxHeartbeats 1600000 in
theorem join_any (D : Value) (tE : TypeId) (pE : Value) (m : Int) (sep : ByteArray) (ao : Option Addr) (cap n : Nat) (xs : List ByteArray) (w : World) (hn : xs.length = n) (hn2 : n ≤ 100000) (hC : Cx D (.iface tE pE) m w) (hX : Txs w ao xs) (hs : ∀ x ∈ xs, x.size < 1000000) (hsep : sep.size < 1000000) :
    Calls Tryz.prog 11 #[.string sep, .slice ao n cap] w fun e w' => e = .returned (joinV (.iface tE pE) (joinF sep.data.toList (datas xs))) ∧ Below w.heap.size w w' := by
  have hgb := World.block_lt_of_cell? w _ hC.lim
  have HG := hidden hgb
  have HC := hidden hC
  have HX := hidden hX
  have HS := hidden hs
  have HN := hidden hn
  have hM0 := hidden (new_made w)
  have hb0 := hidden ((Below.refl w.heap.size w).alloc (Nat.le_refl _) (.cells #[.slice none 0 0] 65))
  clear hC hX hs hn hgb
  go_enter Tryz.func11, Tryz.ntmps11
  go_wp2
  go_loopw [7, 15] (fun t i wr => ∃ k : Nat, ∃ y : ByteArray, k ≤ n ∧ i = .int .i64 k ∧ t = .string y ∧ Hid (y.size < 1000000) ∧ Hid (y.data.toList = if k = 0 then [] else sep.data.toList) ∧ Hid (MadeAt wr w.heap.size (joinF sep.data.toList (datas (xs.take k)))) ∧ Hid ((joinF sep.data.toList (datas (xs.take k))).length ≤ 1024) ∧ Hid (Below w.heap.size w wr)) (fun _ i _ => n - (intOf i).toNat)
  case atStart => exact ⟨0, ⟨#[]⟩, Nat.zero_le _, rfl, rfl, hidden (by decide), hidden rfl, hidden (by simpa [datas, joinF] using hM0.out), hidden (by simp [datas, joinF]), hb0⟩
  case round =>
    obtain ⟨k, y, hk, rfl, rfl, hy, hyd, hM, hT, hb⟩ := hrel
    clear hM0 hb0
    by_cases hlt : k < n
    · have hlt' : k < xs.length := by have := HN.out; omega
      obtain ⟨bk, o, rfl, hbk, hc⟩ := (HX.out.below hb.out).at k hlt'
      have hsz := HS.out _ (List.getElem_mem hlt')
      have hdt := datas_take xs k hlt'
      obtain ⟨x, hx⟩ : ∃ x, xs[k] = x := ⟨_, rfl⟩
      rw [hx] at hc hsz hdt
      have hj : Hid (joinF sep.data.toList (datas (xs.take (k + 1))) = joinF sep.data.toList (datas (xs.take k)) ++ cat [y, x]) := hidden (by
        rw [hdt, join_snoc]
        have h1 := datas_nil xs k (by omega)
        simp only [cat, List.flatMap_cons, List.flatMap_nil, List.append_nil, hyd.out]
        by_cases h0 : k = 0
        · rw [if_pos h0, if_pos (h1.2 h0)]
        · rw [if_neg h0, if_neg (fun e => h0 (h1.1 e))])
      have hle : Hid ((joinF sep.data.toList (datas (xs.take (k + 1)))).length ≤ (joinF sep.data.toList (datas xs)).length) := hidden (by
        have e : datas xs = datas (xs.take (k + 1)) ++ datas (xs.drop (k + 1)) := by unfold datas; rw [← List.map_append, List.take_append_drop]
        conv => rhs; rw [e]
        exact join_le _ _ _)
      have hba := (Below.refl wr.heap.size wr).alloc (Nat.le_refl _) (.cells #[.string y, .string x] 9)
      have hbs := hb.out.size
      have hlb := hM.out
      have HA := hidden (add_any D (.iface tE pE) m w.heap.size wr.heap.size _ [y, x] 2 (wr.alloc (.cells #[.string y, .string x] 9)) rfl (Nat.le_refl _) ((HC.out.below hb.out).below hba) (hM.out.below hba) (rowS_new wr y x) hT.out (by
        intro z hz
        rcases List.mem_cons.1 hz with rfl | hz
        · exact hy.out
        · rcases List.mem_cons.1 hz with rfl | hz
          · exact hsz
          · cases hz) (by obtain ⟨_, h1, _⟩ := hlb; have := h1.lt; omega) HG.out)
      rw [← hj.out] at HA
      clear hx hdt hba hlb
      by_cases hf : (joinF sep.data.toList (datas (xs.take (k + 1)))).length ≤ 1024
      · have HF := hidden hf
        rw [addV, if_pos hf] at HA
        clear hf
        go_wp2_with (go_at_call 39; with_reducible refine HA.out.mono ?_; rintro e w2 ⟨rfl, hm2, hb2, _⟩)
        have R1 := hidden (hm2 HF.out)
        have R2 : Hid (Below w.heap.size w w2) := hidden ((hb.out.alloc hbs _).trans hb2)
        have R3 : Hid (sep.data.toList = if k + 1 = 0 then [] else sep.data.toList) := hidden (by rw [if_neg (by omega)])
        clear hm2 hb2
        go_roundw
        case rel => exact ⟨k + 1, sep, by omega, by go_num, rfl, hidden hsep, R3, R1, HF, R2⟩
        case measure => simp [intOf]; omega
      · rw [addV, if_neg hf] at HA
        have HF := hidden hf
        clear hf
        go_wp2_with (go_at_call 39; with_reducible refine HA.out.mono ?_; rintro e w2 ⟨rfl, _, hb2, _⟩)
        go_ret2
        exact ⟨by rw [joinV, if_neg (by have := HF.out; have := hle.out; omega)]; rfl, (hb.out.alloc hbs _).trans hb2⟩
    · have hall : xs.take k = xs := List.take_of_length_le (by have := HN.out; omega)
      rw [hall] at hM hT
      obtain ⟨v, hv1, hv2⟩ := hM.out
      have hcell := hv1.cell
      have hconv := hv2.conv
      have HV : Hid (joinV (.iface tE pE) (joinF sep.data.toList (datas xs)) = .tuple #[.string (txt (joinF sep.data.toList (datas xs))), .nilIface]) := hidden (by rw [joinV, if_pos hT.out])
      clear hv1 hv2 hM hall
      generalize txt (joinF sep.data.toList (datas xs)) = R at hconv HV
      go_wp2
      go_ret2
      exact ⟨by rw [HV.out]; rfl, hb.out⟩
end St
end Go.Proofs.YtdiocmcfaneajaaGreatDoor
