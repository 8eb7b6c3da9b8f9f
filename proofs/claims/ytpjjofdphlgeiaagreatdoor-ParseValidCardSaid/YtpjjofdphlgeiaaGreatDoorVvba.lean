/- Parts of the proof, together. What ast's paramsFit answers; the functions of isModule. Conditions: the nodes lie below the world's end; each kid lies in the list. -/
import Derived.Test.YtpjjofdphlgeiaaGreatDoorVvau
import Derived.Test.YtpjjofdphlgeiaaGreatDoorVvaz
namespace Go.Proofs.YtpjjofdphlgeiaaGreatDoor
open Go.RowKit
open Lx Ax Ay

namespace Ay
/-- None without a value stands behind one with. -/
def gvF : List Nd → Bool → Bool
  | [], _ => true
  | x :: r, g => if g = true ∧ x.kids = [] then false else gvF r (!x.kids.isEmpty)
def fitG (ps : List Nd) : Bool := gvF ps false && decide ((ps.map (·.s.data.toList)).Nodup)
/-- A new row's members are another row's: how long it is. -/
theorem nodup_len : ∀ (xs R : List (List UInt8)), R.Nodup → (∀ x, x ∈ R ↔ x ∈ xs) → R.length ≤ xs.length ∧ (xs.Nodup ↔ R.length = xs.length)
  | [], R, _, h => by
    have : R = [] := List.eq_nil_iff_forall_not_mem.2 fun x hx => by simpa using (h x).1 hx
    subst this
    simp
  | a :: l, R, hn, h => by
    by_cases ha : a ∈ l
    · obtain ⟨h1, h2⟩ := nodup_len l R hn fun x => by
        rw [h x, List.mem_cons]
        exact ⟨fun e => e.elim (fun e => e ▸ ha) id, .inr⟩
      refine ⟨by simp only [List.length_cons]; omega, fun e => ?_, fun e => ?_⟩
      · exact absurd ha (List.nodup_cons.1 e).1
      · simp only [List.length_cons] at e; omega
    · have haR : a ∈ R := (h a).2 (List.mem_cons_self ..)
      obtain ⟨h1, h2⟩ := nodup_len l (R.erase a) (hn.erase a) fun x => by
        rw [hn.mem_erase_iff, h x, List.mem_cons]
        constructor
        · rintro ⟨e, e2 | e2⟩
          · exact absurd e2 e
          · exact e2
        · intro e
          exact ⟨fun e2 => ha (e2 ▸ e), .inr e⟩
      have hl := List.length_erase_of_mem haR
      have hp := List.length_pos_of_mem haR
      refine ⟨by simp only [List.length_cons]; omega, ?_⟩
      rw [List.nodup_cons]
      simp only [List.length_cons]
      constructor
      · rintro ⟨_, e⟩
        have := h2.1 e
        omega
      · intro e
        exact ⟨ha, h2.2 (by omega)⟩
theorem rising_nodup {R : List ByteArray} (h : Tx.Rising R) : (R.map (·.data.toList)).Nodup := by
  unfold Tx.Rising at h
  rw [List.Nodup, List.pairwise_map]
  refine h.imp fun {a b} hab e => ?_
  rw [e] at hab
  exact absurd hab (List.lt_irrefl _)
end Ay
section
variable {W : World} {n cap : Nat} {ao : Option Addr} {l : List Nd}
set_option maxRecDepth 10000 in
set_option maxHeartbeats 3200000 in
theorem fit_all (hN : NodesAt n W ao l) (hn : n ≤ W.heap.size) (v : Value) (zs : List Int) (hz : KidsAt n W v zs) (hr : ∀ z ∈ zs, 0 ≤ z ∧ z < (l.length : Int)) (hne : zs ≠ []) (hlz : zs.length ≤ 900000) :
    Calls Tryz.prog 43 #[.slice ao l.length cap, v] W fun e w' => e = .returned (.bool (fitG (paramsG l zs))) ∧ Below W.heap.size W w' := by
  have HZ := hid' hz
  have HN := hid' hN
  have HR := hid' hr
  obtain ⟨ako, kcap, rfl, ⟨hkc, hkl⟩, _⟩ := hz
  have hp := List.length_pos_iff.2 hne
  obtain ⟨m, hm⟩ : ∃ m, zs.length = m + 1 := ⟨zs.length - 1, by omega⟩
  have hl1 : IntKind.i64.wrap ((zs.length : Int) - 1) = (m : Int) := by rw [IntWalk.i64_in _ ⟨by omega, by omega⟩]; omega
  obtain ⟨kb, ko, kc, e, _, _⟩ := kid_at HZ.out (j := m) (by omega)
  simp only [Value.slice.injEq] at e
  obtain ⟨rfl, _, rfl⟩ := e
  obtain ⟨P, hP⟩ : ∃ P, paramsG l zs = P := ⟨_, rfl⟩
  have hPl : P.length = m := by rw [← hP]; unfold paramsG; rw [List.length_map, List.length_take]; omega
  have HPA : Hid (∀ j (h : j < m) (hz : j < zs.length), zs[j].toNat < l.length ∧ P[j]? = l[zs[j].toNat]?) := hid' (fun j h hz => by
    have h1 := HR.out zs[j] (List.getElem_mem hz)
    have h2 : zs[j].toNat < l.length := by omega
    refine ⟨h2, ?_⟩
    rw [← hP]
    unfold paramsG
    rw [List.getElem?_map, List.getElem?_take, if_pos (by omega), List.getElem?_eq_getElem hz, Option.map_some, List.getElem?_eq_getElem h2, List.getD_eq_getElem?_getD, List.getElem?_eq_getElem h2, Option.getD_some])
  rw [hP]
  unfold fitG
  clear hr hN hP hne
  go_enter Tryz.func43, Tryz.ntmps43
  go_wp2
  go_loopw [6, 7, 18] (fun nv gv i wr => ∃ (k : Nat), k ≤ m ∧ i = .int .i64 k ∧ Hid (∃ g : Bool, gv = .bool g ∧ gvF P false = gvF (P.drop k) g ∧ Tx.Owned wr W.heap.size nv ((P.take k).map (·.s))) ∧ Hid (Below W.heap.size W wr)) (fun _ _ i _ => m - (intOf i).toNat)
  case atStart => exact ⟨0, Nat.zero_le _, rfl, hid' ⟨false, rfl, rfl, ⟨rfl, .inl ⟨rfl, rfl⟩⟩⟩, hid' (Below.refl _ _)⟩
  case round =>
    obtain ⟨k, hk, rfl, hgo, hb⟩ := hrel
    obtain ⟨g, rfl, hg0, ho0⟩ := hgo.out
    have hg := hid' hg0
    have ho := hid' ho0
    clear hgo hg0 ho0
    have hwr := hb.out.size
    by_cases hlt : k < m
    · have hlt' : (k : Int) < (m : Int) := by omega
      obtain ⟨h1, h2⟩ := HPA.out k hlt (by omega)
      obtain ⟨kb', ko', kc', e, _, hkz⟩ := kid_at (HZ.out.keep (hb.out.mono hn) (Nat.le_refl _)) (j := k) (by omega)
      simp only [Value.slice.injEq] at e
      obtain ⟨e1, _, _⟩ := e
      injection e1 with e1
      injection e1 with e1 e2 _
      subst e1 e2
      have h0 := (HR.out zs[k] (List.getElem_mem (by omega))).1
      generalize zs[k] = z at h0 h1 h2 hkz
      obtain ⟨q, rfl⟩ := Int.eq_ofNat_of_zero_le h0
      rw [Int.toNat_natCast] at h1 h2
      obtain ⟨b, kv, hao, hbn, hnode⟩ := (HN.out.keep (hb.out.mono hn) (Nat.le_refl _)).node q h1
      subst hao
      have hql : (0 : Int) ≤ (q : Int) ∧ (q : Int) < (l.length : Int) := by omega
      have hc3 := hnode.text
      have hc4 := hnode.kids
      have hc5 := hnode.list
      obtain ⟨xo, xc, rfl, _, _⟩ := hc5
      have hx : P[k]? = some l[q] := by rw [h2, List.getElem?_eq_getElem h1]
      have hPk : k < P.length := by omega
      have hdrop : P.drop k = l[q] :: P.drop (k + 1) := by
        rw [List.drop_eq_getElem_cons hPk]
        have := List.getElem?_eq_getElem hPk
        rw [hx] at this
        rw [← Option.some.inj this]
      have htake : (P.take (k + 1)).map (·.s) = (P.take k).map (·.s) ++ [l[q].s] := by
        rw [List.take_succ_eq_append_getElem hPk, List.map_append]
        have := List.getElem?_eq_getElem hPk
        rw [hx] at this
        rw [← Option.some.inj this]; rfl
      have hg2 := hg.out
      rw [hdrop, gvF] at hg2
      generalize l[q] = x at hc3 hc4 hx hdrop htake hg2
      have HTK := hid' htake
      have HG2 := hid' hg2
      clear hnode hdrop htake hx hg hg2 h2
      obtain ⟨vao, vc, rfl, _⟩ := ho.out.slice
      have hlk : ((P.take k).map (·.s)).length = k := by rw [List.length_map, List.length_take]; omega
      have ho3 := ho.out
      rw [hlk] at ho3 ⊢
      have HO3 := hid' ho3
      have HLK := hid' hlk
      clear ho ho3 hlk
      by_cases hxk : x.kids = []
      · have hgt : decide (0 < x.kids.length) = false := by rw [hxk]; rfl
        have hem : x.kids.isEmpty = true := by rw [hxk]; rfl
        cases g with
        | true =>
          rw [if_pos ⟨rfl, hxk⟩] at HG2
          clear hxk
          go_wp2
          go_ret
          exact ⟨by rw [HG2.out]; rfl, hb.out⟩
        | false =>
          rw [if_neg (by rintro ⟨h, _⟩; cases h), hem] at HG2
          clear hxk hem
          go_wp2_with (at_builtin; refine Tx.append_texts (wr.alloc (.cells #[.string x.s] 9)) rfl (.tmp 35) (.tmp 41) rfl W.heap.size _ ((P.take k).map (·.s)) [x.s] rfl (Tx.Owned.below HO3.out ((Below.refl _ _).alloc (Nat.le_refl _) _)) _ 1 rfl (Tx.one_slice wr x.s) (by rw [HLK.out]; simp; omega) (by simp; omega) ?_; intro v5 w5 q1 q2 q3; have HO5 := hid' q1; have HB5 := hid' ((hb.out.alloc hwr _).trans q2); clear q1 q2 q3)
          go_roundw
          case rel => exact ⟨_, _, _, _, _, _, ⟨k + 1, by omega, by go_num, hid' (.inl ⟨rfl, HG2.out, by rw [← List.map_take, HTK.out]; exact HO5.out⟩)⟩, rfl, rfl, rfl, rfl, rfl, rfl⟩
          case measure => simp [intOf]; omega
      · have hgt : decide (0 < x.kids.length) = true := decide_eq_true (List.length_pos_iff.2 hxk)
        have hem : x.kids.isEmpty = false := by simpa using hxk
        rw [if_neg (by rintro ⟨_, h⟩; exact hxk h), hem] at HG2
        clear hxk hem
        cases g with
        | true =>
          go_wp2_with (at_builtin; refine Tx.append_texts (wr.alloc (.cells #[.string x.s] 9)) rfl (.tmp 35) (.tmp 41) rfl W.heap.size _ ((P.take k).map (·.s)) [x.s] rfl (Tx.Owned.below HO3.out ((Below.refl _ _).alloc (Nat.le_refl _) _)) _ 1 rfl (Tx.one_slice wr x.s) (by rw [HLK.out]; simp; omega) (by simp; omega) ?_; intro v5 w5 q1 q2 q3; have HO5 := hid' q1; have HB5 := hid' ((hb.out.alloc hwr _).trans q2); clear q1 q2 q3)
          go_roundw
          case rel => exact ⟨_, _, _, _, _, _, ⟨k + 1, by omega, by go_num, hid' (.inr ⟨rfl, HG2.out, by rw [← List.map_take, HTK.out]; exact HO5.out⟩)⟩, rfl, rfl, rfl, rfl, rfl, rfl⟩
          case measure => simp [intOf]; omega
        | false =>
          go_wp2_with (at_builtin; refine Tx.append_texts (wr.alloc (.cells #[.string x.s] 9)) rfl (.tmp 35) (.tmp 41) rfl W.heap.size _ ((P.take k).map (·.s)) [x.s] rfl (Tx.Owned.below HO3.out ((Below.refl _ _).alloc (Nat.le_refl _) _)) _ 1 rfl (Tx.one_slice wr x.s) (by rw [HLK.out]; simp; omega) (by simp; omega) ?_; intro v5 w5 q1 q2 q3; have HO5 := hid' q1; have HB5 := hid' ((hb.out.alloc hwr _).trans q2); clear q1 q2 q3)
          go_roundw
          case rel => exact ⟨_, _, _, _, _, _, ⟨k + 1, by omega, by go_num, hid' (.inr ⟨rfl, HG2.out, by rw [← List.map_take, HTK.out]; exact HO5.out⟩)⟩, rfl, rfl, rfl, rfl, rfl, rfl⟩
          case measure => simp [intOf]; omega
    · obtain rfl : k = m := by omega
      have ho2 := ho.out
      rw [List.take_of_length_le (by omega)] at ho2
      obtain ⟨vao, vc, rfl, hF⟩ := fresh_of ho2
      have hle : (P.map (·.s)).length ≤ 900000 := by rw [List.length_map]; omega
      have hlm : (P.map (·.s)).length = k := by rw [List.length_map]; exact hPl
      have HON := hid' (once_any W.heap.size vao vc (P.map (·.s)) (P.map (·.s)).length wr rfl (by omega) hwr hF)
      rw [hlm] at HON
      have hgt : gvF P false = true := by rw [hg.out, List.drop_of_length_le (by omega)]; rfl
      have HGT := hid' hgt
      clear ho ho2 hF hlt hg hgt HPA
      rw [hlm]
      go_wp2_with fail
      refine (HON.out).mono ?_
      rintro e w3 ⟨R, rfl, hs, hr, hmem, b3⟩
      have HB3 := hid' (hb.out.trans b3)
      have hfin : ((R.length : Int) == (k : Int)) = decide ((P.map (·.s.data.toList)).Nodup) := by
        obtain ⟨h1, h2⟩ := nodup_len (P.map (·.s.data.toList)) (R.map (·.data.toList)) (rising_nodup hr) fun q => by
          rw [List.mem_map, List.mem_map]
          constructor
          · rintro ⟨a, ha, rfl⟩
            obtain ⟨y, hy, e⟩ := List.mem_map.1 ((hmem a).1 ha)
            exact ⟨y, hy, by rw [e]⟩
          · rintro ⟨y, hy, rfl⟩
            exact ⟨y.s, (hmem _).2 (List.mem_map.2 ⟨y, hy, rfl⟩), rfl⟩
        rw [List.length_map, List.length_map] at h2
        rw [show decide ((P.map (·.s.data.toList)).Nodup) = decide (R.length = k) from decide_eq_decide.2 (by rw [h2, hPl])]
        by_cases e : R.length = k
        · simp [e]
        · rw [decide_eq_false e]; simp; omega
      have HFI := hid' hfin
      clear b3 hs hr hmem hfin
      go_wp2
      go_ret
      exact ⟨ret_bool' (by rw [HGT.out, HFI.out]; rfl), HB3.out⟩
end
end Go.Proofs.YtpjjofdphlgeiaaGreatDoor
