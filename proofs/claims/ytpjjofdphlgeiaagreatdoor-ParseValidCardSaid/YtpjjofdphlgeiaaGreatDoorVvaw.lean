/- Parts of the proof, together. What (*former).form answers, of whatever Op. Conditions: the nodes lie below block n, the former's own blocks above it; the words and the error of api lie in their variables. -/
import Derived.Deep.RegionWith
import Derived.Test.YtpjjofdphlgeiaaGreatDoorVvau
import Derived.Test.YtpjjofdphlgeiaaGreatDoorVvav
namespace Go.Proofs.YtpjjofdphlgeiaaGreatDoor
open Go.RowKit
open Lx Ax Ay

/-- A former that has looked at k nodes. -/
structure FormAt (n : Nat) (W : World) (B fb : Nat) (ao : Option Addr) (cap : Nat) (l : List Nd) (gt gs : Nat) (st : VS) (k : Nat) : Prop where
  row : RowV W fb 51 [.slice ao l.length cap, .slice (some ⟨gt, 0, none⟩) l.length l.length, .slice (some ⟨gs, 0, none⟩) l.length l.length]
  tks : RowV W gt 4 (flags (st.tk ++ List.replicate (l.length - k) false))
  sos : RowV W gs 81 (sorts (st.so ++ List.replicate (l.length - k) 0))
  ltk : st.tk.length = k
  lso : st.so.length = k
  low : n ≤ B ∧ B ≤ fb ∧ B ≤ gt ∧ B ≤ gs
  nodes : NodesAt n W ao l
  words : WordsAt W
  wlow : 17 < n
theorem words_keep {W W' : World} {n : Nat} (h : WordsAt W) (hn : 17 < n) (hb : Below n W W') : WordsAt W' := fun j v hv => (hb.cell (by exact hn)).trans (h j v hv)
theorem pad_zero (k : List Int) (n : Nat) (x : Int) (h : 0 < n) : (k ++ List.replicate n 0).set k.length x = (k ++ [x]) ++ List.replicate (n - 1) 0 := by
  obtain ⟨m, rfl⟩ : ∃ m, n = m + 1 := ⟨n - 1, by omega⟩
  rw [List.replicate_succ, row_put _ _ _ _ _ rfl]; simp
section
variable {n B fb gt gs k cap : Nat} {W : World} {ao : Option Addr} {l : List Nd} {st : VS}
theorem FormAt.keep {W' : World} (h : FormAt n W B fb ao cap l gt gs st k) (hb : Below W.heap.size W W') : FormAt n W' B fb ao cap l gt gs st k :=
  have hn : n ≤ W.heap.size := by have := h.low; have := h.row.lt; omega
  ⟨h.row.far (hb.block _ h.row.lt), h.tks.far (hb.block _ h.tks.lt), h.sos.far (hb.block _ h.sos.lt), h.ltk, h.lso, h.low, h.nodes.keep (hb.mono hn) (Nat.le_refl _), h.words.below hb, h.wlow⟩
theorem areF_pad (so r : List Int) : ∀ (zs ss : List Int), (∀ z ∈ zs, 0 ≤ z ∧ z < so.length) → areF (so ++ r) zs ss = areF so zs ss
  | [], [], _ => rfl
  | [], _ :: _, _ => rfl
  | _ :: _, [], _ => rfl
  | z :: zs, s :: ss, h => by
    have hz := h z (by simp)
    rw [areF, areF, areF_pad so r zs ss (fun y hy => h y (by simp [hy]))]
    rw [List.getD_eq_getElem?_getD, List.getD_eq_getElem?_getD, List.getElem?_append_left (by omega)]
theorem allF_pad (so r : List Int) (s : Int) : ∀ (zs : List Int), (∀ z ∈ zs, 0 ≤ z ∧ z < so.length) → allF (so ++ r) s zs = allF so s zs
  | [], _ => rfl
  | z :: zs, h => by
    have hz := h z (by simp)
    rw [allF, allF, allF_pad so r s zs (fun y hy => h y (by simp [hy]))]
    rw [List.getD_eq_getElem?_getD, List.getD_eq_getElem?_getD, List.getElem?_append_left (by omega)]
theorem byF_pad (so r zs : List Int) (h : ∀ z ∈ zs, 0 ≤ z ∧ z < so.length) : ∀ n, n ≤ zs.length → byF (so ++ r) zs n = byF so zs n
  | 0, _ => rfl
  | n + 1, hn => by
    have hz := h zs[n] (List.getElem_mem _)
    have e : (so ++ r).getD (zs.getD n 0).toNat 0 = so.getD (zs.getD n 0).toNat 0 := by
      rw [List.getD_eq_getElem?_getD (l := zs), List.getElem?_eq_getElem (by omega), Option.getD_some]
      rw [List.getD_eq_getElem?_getD, List.getD_eq_getElem?_getD, List.getElem?_append_left (by omega)]
    unfold byF
    rw [e, byF_pad so r zs h n (by omega)]
theorem hasG_pad (so r : List Int) (x : Nd) (h : ∀ z ∈ x.kids, 0 ≤ z ∧ z < so.length) : hasG (so ++ r) x = hasG so x := by
  have ha : ∀ ss, areF (so ++ r) x.kids ss = areF so x.kids ss := fun ss => areF_pad so r x.kids ss h
  have hl : ∀ s zs, (∀ z ∈ zs, z ∈ x.kids) → allF (so ++ r) s zs = allF so s zs := fun s zs hz => allF_pad so r s zs fun z hzz => h z (hz z hzz)
  have hc : callsF (so ++ r) x.kids = callsF so x.kids := by
    unfold callsF
    rw [byF_pad so r x.kids h _ (Nat.le_refl _), hl 1 _ (fun z hz => List.mem_of_mem_take hz)]
  have hd : areF (so ++ r) (x.kids.drop (x.kids.length - 1)) [256] = areF so (x.kids.drop (x.kids.length - 1)) [256] := areF_pad so r _ _ fun z hz => h z (List.mem_of_mem_drop hz)
  unfold hasG exprG stmtG
  simp only [ha, hl _ x.kids (fun _ hz => hz), hl _ (x.kids.take (x.kids.length - 1)) (fun _ hz => List.mem_of_mem_take hz), hc, hd]
theorem sortG_pad (l : List Nd) (so r : List Int) (x : Nd) (h : ∀ z ∈ x.kids, 0 ≤ z ∧ z < so.length) : sortG l (so ++ r) x = sortG l so x := by
  unfold sortG
  rw [allF_pad so r 8 x.kids h]
set_option maxRecDepth 10000 in
set_option maxHeartbeats 12000000 in
theorem form_all (h : FormAt n W B fb ao cap l gt gs st k) (hk : k < l.length) (ho : OpK l[k].op) (hs : l[k].s.size ≤ 1000000) :
    Calls Tryz.prog 20 #[.pointer (some ⟨fb, 0, none⟩), .int .i64 (k : Int)] W fun e w' => Below B W w' ∧ (formG l l[k] st = none → e = .returned (.bool false)) ∧ ∀ st', formG l l[k] st = some st' → e = .returned (.bool true) ∧ FormAt n w' B fb ao cap l gt gs st' (k + 1) := by
  obtain ⟨b, v, hao, hbn, hnode⟩ := h.nodes.node k hk
  have HX := hid' hnode.list
  obtain ⟨x, hx⟩ : ∃ x, l[k] = x := ⟨_, rfl⟩
  rw [hx] at hnode HX ho hs ⊢
  have hc0 := hnode.op
  have hc1 := hnode.num
  have hc2 := hnode.pos
  have hc3 := hnode.text
  have hc4 := hnode.kids
  have hr0 := h.row.cell (j := 0) rfl
  have H := hid' h
  have hlow := h.low
  have hfl := h.row.lt
  have hgl := h.tks.lt
  have hgsl := h.sos.lt
  have hk' : (k : Int) < (l.length : Int) := by omega
  obtain ⟨ako, kcap, hv, _⟩ := HX.out
  subst hv
  obtain ⟨W1, hW1⟩ : ∃ W1, W1 = W.alloc (.cells #[.int .i64 x.op, .int .i64 x.n, .int .i64 x.pos, .string x.s, .slice ako x.kids.length kcap] 32) := ⟨_, rfl⟩
  have hbW1 : Below W.heap.size W W1 := by rw [hW1]; exact (Below.refl _ _).alloc (Nat.le_refl _) _
  have hNB : RowV W1 W.heap.size 32 [.int .i64 x.op, .int .i64 x.n, .int .i64 x.pos, .string x.s, .slice ako x.kids.length kcap] := by rw [hW1]; exact row_new W _ _
  have hsz1 : W1.heap.size = W.heap.size + 1 := by rw [hW1]; simp
  have H1 := h.keep hbW1
  have HT := hid' (take_any gt n (st.tk ++ List.replicate (l.length - k) false) k (.slice ako x.kids.length kcap) x.kids W1.drew (by rw [List.length_append, h.ltk]; omega) H1.tks (HX.out.keep (W' := W1.drew) ((hbW1.mono (by omega)).drew) (Nat.le_refl _)) (by omega))
  have hT1 : (st.tk ++ List.replicate (l.length - k) false).length = l.length := by have := h.ltk; simp; omega
  have hT2 : (st.tk ++ List.replicate (l.length - k) false).take k = st.tk := List.take_left' h.ltk
  have hT3 : (st.tk ++ List.replicate (l.length - k) false).drop k = List.replicate (l.length - k) false := List.drop_left' h.ltk
  rw [hT1, hT2, hT3] at HT
  have e0 := H1.row.cell (j := 0) rfl
  have e1 := H1.row.cell (j := 1) rfl
  have d0 := hNB.cell (j := 0) rfl
  have d1 := hNB.cell (j := 1) rfl
  have d4 := hNB.cell (j := 4) rfl
  have HW1 := hid' hW1
  have HBW1 := hid' hbW1
  have HNB := hid' hNB
  have HH1 := hid' H1
  unfold formG
  clear hnode hT1 hT2 hT3 h hW1 hbW1 hNB H1
  subst hao
  cases hf : takeF x.kids st.tk with
  | none =>
    rw [hf] at HT
    clear hf hx
    obtain ⟨op, num, pos, s, kids⟩ := x
    simp only at hc0 hc1 hc2 hc3 hc4 HT HW1 d0 d1 d4 ⊢
    go_enter Tryz.func20, Tryz.ntmps20
    go_wp2_with fail
    rw [← HW1.out]
    first | go_region_with (go_at_call 37; refine (HT.out).mono ?_; rintro e w2 ⟨rfl, ⟨T', hr2, hl2, hT'⟩, ho2⟩; have HB2 : Hid (Below B W w2) := hid' ((HBW1.out.mono (by omega)).trans (Below.trans (b := W1.drew) (Below.refl _ _).drew (ho2.below (by omega)))); clear hr2 hl2 hT' ho2) | fail
    all_goals
      go_wp2
      go_ret
      exact ⟨HB2.out, fun _ => rfl, fun _ h => by cases h⟩
  | some tk =>
    have hltk' := takeF_length hf
    have hrg := takeF_range hf
    have hltk := H.out.ltk
    have hlso := H.out.lso
    rw [hf] at HT
    simp only
    have hpadS := sortG_pad l st.so (List.replicate (l.length - k) 0) x (fun z hz => by have := hrg z hz; omega)
    have hpadF := hasG_pad st.so (List.replicate (l.length - k) 0) x (fun z hz => by have := hrg z hz; omega)
    have hSl : (st.so ++ List.replicate (l.length - k) 0).length = l.length := by simp; omega
    have HSAY := hid' (fun W' (hw : WordsAt W') => says_all x (.slice ako x.kids.length kcap) W' ho hs hw)
    have HHAS := hid' (fun W' (hF : FS W' fb gs (st.so ++ List.replicate (l.length - k) 0)) (hz : KidsAt n W' (.slice ako x.kids.length kcap) x.kids) (hn : n ≤ W'.heap.size) => has_all hF x (.slice ako x.kids.length kcap) hz hn (fun z hz => by have := hrg z hz; rw [hSl]; omega) ho)
    have HSO := hid' (fun W' (hF : FS W' fb gs (st.so ++ List.replicate (l.length - k) 0)) (h0 : W'.cell? ⟨fb, 0, none⟩ = some (.slice (some ⟨b, 0, none⟩) l.length cap)) (hN : NodesAt n W' (some ⟨b, 0, none⟩) l) (hz : KidsAt n W' (.slice ako x.kids.length kcap) x.kids) (hn : n ≤ W'.heap.size) => sort_all hF h0 hN hn x (.slice ako x.kids.length kcap) hz (fun z hz => by have := hrg z hz; rw [hSl]; omega) hSl ho)
    rw [hpadS] at HSO
    rw [hpadF] at HHAS
    -- what holds behind take
    have HK2 := hid' (fun (w2 : World) (T' : List Bool) (hr2 : RowV w2 gt 4 (flags T')) (hT' : T' = tk ++ List.replicate (l.length - k) false) (ho2 : Only gt W1.drew w2) =>
      (show Below B W w2 ∧ RowV w2 W.heap.size 32 [.int .i64 x.op, .int .i64 x.n, .int .i64 x.pos, .string x.s, .slice ako x.kids.length kcap] ∧ RowV w2 gt 4 (flags (tk ++ List.replicate (l.length - k) false)) ∧
          RowV w2 fb 51 [.slice (some ⟨b, 0, none⟩) l.length cap, .slice (some ⟨gt, 0, none⟩) l.length l.length, .slice (some ⟨gs, 0, none⟩) l.length l.length] ∧ RowV w2 gs 81 (sorts (st.so ++ List.replicate (l.length - k) 0)) ∧ W.heap.size + 1 ≤ w2.heap.size ∧ NodesAt n w2 (some ⟨b, 0, none⟩) l ∧ WordsAt w2 ∧ KidsAt n w2 (.slice ako x.kids.length kcap) x.kids from by
        have hb1 : Below B W W1.drew := (HBW1.out.mono (by omega)).drew
        have hb2 : Below B W w2 := hb1.trans (ho2.below (by omega))
        refine ⟨hb2, HNB.out.far (ho2.block _ (by omega)), by rw [← hT']; exact hr2, HH1.out.row.far (ho2.block _ (HH1.out.row.apart HH1.out.tks (by decide))), HH1.out.sos.far (ho2.block _ (HH1.out.sos.apart HH1.out.tks (by decide))), ?_, H.out.nodes.keep (hb2.mono (by omega)) (Nat.le_refl _), words_keep H.out.words H.out.wlow (hb2.mono (by omega)), HX.out.keep (hb2.mono (by omega)) (Nat.le_refl _)⟩
        rw [ho2.size]; show _ ≤ W1.heap.size; omega))
    -- what holds behind a call that makes memory
    have HK3 := hid' (fun (w2 w3 : World) (hb : Below w2.heap.size w2 w3) (h : Below B W w2 ∧ RowV w2 W.heap.size 32 [.int .i64 x.op, .int .i64 x.n, .int .i64 x.pos, .string x.s, .slice ako x.kids.length kcap] ∧ RowV w2 gt 4 (flags (tk ++ List.replicate (l.length - k) false)) ∧
          RowV w2 fb 51 [.slice (some ⟨b, 0, none⟩) l.length cap, .slice (some ⟨gt, 0, none⟩) l.length l.length, .slice (some ⟨gs, 0, none⟩) l.length l.length] ∧ RowV w2 gs 81 (sorts (st.so ++ List.replicate (l.length - k) 0)) ∧ W.heap.size + 1 ≤ w2.heap.size ∧ NodesAt n w2 (some ⟨b, 0, none⟩) l ∧ WordsAt w2 ∧ KidsAt n w2 (.slice ako x.kids.length kcap) x.kids) =>
      (show Below B W w3 ∧ RowV w3 W.heap.size 32 [.int .i64 x.op, .int .i64 x.n, .int .i64 x.pos, .string x.s, .slice ako x.kids.length kcap] ∧ RowV w3 gt 4 (flags (tk ++ List.replicate (l.length - k) false)) ∧
          RowV w3 fb 51 [.slice (some ⟨b, 0, none⟩) l.length cap, .slice (some ⟨gt, 0, none⟩) l.length l.length, .slice (some ⟨gs, 0, none⟩) l.length l.length] ∧ RowV w3 gs 81 (sorts (st.so ++ List.replicate (l.length - k) 0)) ∧ W.heap.size + 1 ≤ w3.heap.size ∧ NodesAt n w3 (some ⟨b, 0, none⟩) l ∧ WordsAt w3 ∧ KidsAt n w3 (.slice ako x.kids.length kcap) x.kids from by
        obtain ⟨a1, a2, a3, a4, a5, a6, a7, a8, a9⟩ := h
        exact ⟨a1.trans (hb.mono (by omega)), a2.far (hb.block _ (by omega)), a3.far (hb.block _ a3.lt), a4.far (hb.block _ a4.lt), a5.far (hb.block _ a5.lt), Nat.le_trans a6 hb.size, a7.keep (hb.mono (by omega)) (Nat.le_refl _), words_keep a8 H.out.wlow (hb.mono (by omega)), a9.keep (hb.mono (by omega)) (Nat.le_refl _)⟩))
    have HFS := hid' (fun (w2 : World) (h4 : RowV w2 fb 51 [.slice (some ⟨b, 0, none⟩) l.length cap, .slice (some ⟨gt, 0, none⟩) l.length l.length, .slice (some ⟨gs, 0, none⟩) l.length l.length]) (h5 : RowV w2 gs 81 (sorts (st.so ++ List.replicate (l.length - k) 0))) =>
      (show FS w2 fb gs (st.so ++ List.replicate (l.length - k) 0) from ⟨by rw [hSl]; exact h4.cell (j := 2) rfl, h5⟩))
    have HFIN := hid' (fun (w5 : World) (so : List Int) (hso : so = (st.so ++ [sortG l st.so x]) ++ List.replicate (l.length - (k + 1)) 0) (a3 : RowV w5 gt 4 (flags (tk ++ List.replicate (l.length - k) false))) (a4 : RowV w5 fb 51 [.slice (some ⟨b, 0, none⟩) l.length cap, .slice (some ⟨gt, 0, none⟩) l.length l.length, .slice (some ⟨gs, 0, none⟩) l.length l.length]) (a5 : RowV w5 gs 81 (sorts so)) (a7 : NodesAt n w5 (some ⟨b, 0, none⟩) l) (a8 : WordsAt w5) =>
      (show FormAt n w5 B fb (some ⟨b, 0, none⟩) cap l gt gs ⟨tk ++ [false], st.so ++ [sortG l st.so x]⟩ (k + 1) from
        ⟨a4, by
          have h := a3
          rw [pad_next tk (l.length - k) (by omega), show l.length - k - 1 = l.length - (k + 1) by omega] at h
          exact h, by rw [← hso]; exact a5, by simp; omega, by simp; omega, H.out.low, a7, a8, H.out.wlow⟩))
    have HPZ := hid' (pad_zero st.so (l.length - k) (sortG l st.so x) (by omega))
    have hdrop : l.length - k - 1 = l.length - (k + 1) := by omega
    rw [hlso, hdrop] at HPZ
    have HK := hid' hk
    have HZ0 : Hid ((st.so ++ List.replicate (l.length - k) 0)[k]? = some 0) := hid' (by rw [List.getElem?_append_right (by omega), hlso, Nat.sub_self, List.getElem?_replicate, if_pos (by omega)])
    clear hf hx hpadF hpadS hrg hSl HNB HH1 HX hlso hltk hltk' hdrop
    generalize sortG l st.so x = sv at HSO HFIN HPZ ⊢
    generalize hasG st.so x = hb at HHAS ⊢
    generalize saysG x = sb at HSAY ⊢
    obtain ⟨op, num, pos, s, kids⟩ := x
    unfold nodeW at HSAY HHAS HSO
    simp only at hc0 hc1 hc2 hc3 hc4 HT HW1 d0 d1 d4 HSAY HHAS HSO HK2 HK3 ⊢
    by_cases hnum : num = 0
    · subst hnum
      cases sb with
      | true =>
        cases hb with
        | true =>
          rw [if_pos ⟨rfl, rfl, rfl⟩]
          go_enter Tryz.func20, Tryz.ntmps20
          go_wp2_with fail
          rw [← HW1.out]
          first | go_region_with (first | (go_at_call 37; refine (HT.out).mono ?_; rintro e w2 ⟨rfl, ⟨T', hr2, hl2, hT'⟩, ho2⟩; have HG2 := hid' (HK2.out w2 T' hr2 (hT' _ rfl) ho2); have q0 := HG2.out.2.1.cell (j := 0) rfl; have q1 := HG2.out.2.1.cell (j := 1) rfl; have q2 := HG2.out.2.1.cell (j := 2) rfl; have q3 := HG2.out.2.1.cell (j := 3) rfl; have q4 := HG2.out.2.1.cell (j := 4) rfl; clear hr2 hl2 hT' ho2) | (go_at_call 38; refine (HSAY.out _ HG2.out.2.2.2.2.2.2.2.1).mono ?_; rintro e w3 ⟨rfl, b3⟩; have HG3 := hid' (HK3.out w2 w3 b3 HG2.out); have r0 := HG3.out.2.1.cell (j := 0) rfl; have r1 := HG3.out.2.1.cell (j := 1) rfl; have r2 := HG3.out.2.1.cell (j := 2) rfl; have r3 := HG3.out.2.1.cell (j := 3) rfl; have r4 := HG3.out.2.1.cell (j := 4) rfl; clear b3 q0 q1 q2 q3 q4) | (go_at_call 39; refine (HHAS.out _ (HFS.out _ HG3.out.2.2.2.1 HG3.out.2.2.2.2.1) HG3.out.2.2.2.2.2.2.2.2 (by have := HG3.out.2.2.2.2.2.1; omega)).mono ?_; rintro e w4 ⟨rfl, b4⟩; have HG4 := hid' (HK3.out w3 w4 b4 HG3.out); have s0 := HG4.out.2.1.cell (j := 0) rfl; have s1 := HG4.out.2.1.cell (j := 1) rfl; have s2 := HG4.out.2.1.cell (j := 2) rfl; have s3 := HG4.out.2.1.cell (j := 3) rfl; have s4 := HG4.out.2.1.cell (j := 4) rfl; clear b4 r0 r1 r2 r3 r4)) | fail
          all_goals
            have u0 := HG4.out.2.2.2.1.cell (j := 2) rfl
            have hsk : (k : Int) < (l.length : Int) := by have := HK.out; omega
            go_wp2_with fail
            go_region_with (go_at_call 40; refine (HSO.out _ ((HFS.out _ HG4.out.2.2.2.1 HG4.out.2.2.2.2.1).keep (Below.refl _ _).drew) (HG4.out.2.2.2.1.cell (j := 0) rfl) (HG4.out.2.2.2.2.2.2.1.keep (Below.refl _ _).drew (Nat.le_refl _)) (HG4.out.2.2.2.2.2.2.2.2.keep (Below.refl _ _).drew (Nat.le_refl _)) (by show n ≤ w4.heap.size; have := HG4.out.2.2.2.2.2.1; omega)).mono ?_; rintro e w5 ⟨rfl, b5⟩; have HG5 := hid' (HK3.out w4 w5 ⟨b5.os, b5.tape, b5.output, b5.size, b5.block⟩ HG4.out); have u5 := HG5.out.2.2.2.1.cell (j := 2) rfl; have v0 := HG5.out.2.2.2.2.1.cell (sorts_at HZ0.out); have v1 := HG5.out.2.2.2.2.1.open_ k; clear b5 s0 s1 s2 s3 s4)
            all_goals
              go_wp2
              go_ret
              obtain ⟨a1, a2, a3, a4, a5, a6, a7, a8, a9⟩ := HG5.out
              have hS := a5.set k (.int .u16 sv)
              rw [sorts_set] at hS
              have hB6 : Below B W (w5.setCell ⟨gs, k, none⟩ (.int .u16 sv)) := a1.setCell (by simp only; omega) _
              have hF6 := HFIN.out _ _ HPZ.out (a3.far (heap_setCell_other _ ⟨gs, k, none⟩ _ _ (a3.apart a5 (by decide)))) (a4.far (heap_setCell_other _ ⟨gs, k, none⟩ _ _ (a4.apart a5 (by decide)))) hS (a7.keep (n := n) ((Below.refl n _).setCell (by simp only; omega) _) (Nat.le_refl _)) (words_keep a8 H.out.wlow ((Below.refl n _).setCell (by simp only; omega) _))
              exact ⟨hB6, fun h => by (try cases h), fun st' h => by cases h; exact ⟨rfl, hF6⟩⟩
        | false =>
          rw [if_neg (fun h => by cases h.2.2)]
          go_enter Tryz.func20, Tryz.ntmps20
          go_wp2_with fail
          rw [← HW1.out]
          first | go_region_with (first | (go_at_call 37; refine (HT.out).mono ?_; rintro e w2 ⟨rfl, ⟨T', hr2, hl2, hT'⟩, ho2⟩; have HG2 := hid' (HK2.out w2 T' hr2 (hT' _ rfl) ho2); have q0 := HG2.out.2.1.cell (j := 0) rfl; have q1 := HG2.out.2.1.cell (j := 1) rfl; have q2 := HG2.out.2.1.cell (j := 2) rfl; have q3 := HG2.out.2.1.cell (j := 3) rfl; have q4 := HG2.out.2.1.cell (j := 4) rfl; clear hr2 hl2 hT' ho2) | (go_at_call 38; refine (HSAY.out _ HG2.out.2.2.2.2.2.2.2.1).mono ?_; rintro e w3 ⟨rfl, b3⟩; have HG3 := hid' (HK3.out w2 w3 b3 HG2.out); have r0 := HG3.out.2.1.cell (j := 0) rfl; have r1 := HG3.out.2.1.cell (j := 1) rfl; have r2 := HG3.out.2.1.cell (j := 2) rfl; have r3 := HG3.out.2.1.cell (j := 3) rfl; have r4 := HG3.out.2.1.cell (j := 4) rfl; clear b3 q0 q1 q2 q3 q4) | (go_at_call 39; refine (HHAS.out _ (HFS.out _ HG3.out.2.2.2.1 HG3.out.2.2.2.2.1) HG3.out.2.2.2.2.2.2.2.2 (by have := HG3.out.2.2.2.2.2.1; omega)).mono ?_; rintro e w4 ⟨rfl, b4⟩; have HG4 := hid' (HK3.out w3 w4 b4 HG3.out); have s0 := HG4.out.2.1.cell (j := 0) rfl; have s1 := HG4.out.2.1.cell (j := 1) rfl; have s2 := HG4.out.2.1.cell (j := 2) rfl; have s3 := HG4.out.2.1.cell (j := 3) rfl; have s4 := HG4.out.2.1.cell (j := 4) rfl; clear b4 r0 r1 r2 r3 r4)) | fail
          all_goals
            go_wp2
            go_ret
            exact ⟨HG4.out.1, fun _ => rfl, fun _ h => by cases h⟩
      | false =>
        rw [if_neg (fun h => by cases h.2.1)]
        go_enter Tryz.func20, Tryz.ntmps20
        go_wp2_with fail
        rw [← HW1.out]
        first | go_region_with (first | (go_at_call 37; refine (HT.out).mono ?_; rintro e w2 ⟨rfl, ⟨T', hr2, hl2, hT'⟩, ho2⟩; have HG2 := hid' (HK2.out w2 T' hr2 (hT' _ rfl) ho2); have q0 := HG2.out.2.1.cell (j := 0) rfl; have q1 := HG2.out.2.1.cell (j := 1) rfl; have q2 := HG2.out.2.1.cell (j := 2) rfl; have q3 := HG2.out.2.1.cell (j := 3) rfl; have q4 := HG2.out.2.1.cell (j := 4) rfl; clear hr2 hl2 hT' ho2) | (go_at_call 38; refine (HSAY.out _ HG2.out.2.2.2.2.2.2.2.1).mono ?_; rintro e w3 ⟨rfl, b3⟩; have HG3 := hid' (HK3.out w2 w3 b3 HG2.out); have r0 := HG3.out.2.1.cell (j := 0) rfl; have r1 := HG3.out.2.1.cell (j := 1) rfl; have r2 := HG3.out.2.1.cell (j := 2) rfl; have r3 := HG3.out.2.1.cell (j := 3) rfl; have r4 := HG3.out.2.1.cell (j := 4) rfl; clear b3 q0 q1 q2 q3 q4)) | fail
        all_goals
          go_wp2
          go_ret
          exact ⟨HG3.out.1, fun _ => rfl, fun _ h => by cases h⟩
    · have hnum' : (num == 0) = false := by simpa using hnum
      have hnum2 : (num != 0) = true := by simpa using hnum
      rw [if_neg (fun h => hnum h.1)]
      clear hnum
      go_enter Tryz.func20, Tryz.ntmps20
      go_wp2_with fail
      rw [← HW1.out]
      first | go_region_with (go_at_call 37; refine (HT.out).mono ?_; rintro e w2 ⟨rfl, ⟨T', hr2, hl2, hT'⟩, ho2⟩; have HG2 := hid' (HK2.out w2 T' hr2 (hT' _ rfl) ho2); have q1 := HG2.out.2.1.cell (j := 1) rfl; clear hr2 hl2 hT' ho2) | fail
      all_goals
        go_wp2
        go_ret
        exact ⟨HG2.out.1, fun _ => rfl, fun _ h => by cases h⟩
end
end Go.Proofs.YtpjjofdphlgeiaaGreatDoor
