/- Parts of the proof, together. What texts of the parser answers. Conditions: texts of tokens are short. -/
import Derived.Test.YtpjjofdphlgeiaaGreatDoorVvbj
import Derived.Test.YtpjjofdphlgeiaaGreatDoorVvbp
namespace Go.Proofs.YtpjjofdphlgeiaaGreatDoor
open Go.RowKit
open Lx Ax Px

theorem tok_text2 (k p : Int) (x : ByteArray) (w : World) : (Instr.field 71 (.agg #[.int .i64 k, .string x, .int .i64 p]) 1).run Tryz.prog w = .ok (.string x) w := by kernel_rfl
section
variable {A : Nat → Addr} {n B B0 pb sb : Nat} {ts : List Tok} {tv : Value} {W0 W W' : World} {s s' : PS} {vl vl0 vl' : Value} {vs vs0 vs' : List Value} {v : Value} {bs : List UInt8}
theorem BV.pv (h : BV B0 sb v W bs) (hp : PV A B pb ts tv W s vl vs) (hb : Below B W W') (hk : BKeep sb v W W') : PV A B pb ts tv W' s vl vs := by
  obtain ⟨p, hr, _⟩ := h.ex
  have key : ∀ k, k < W.heap.size → k ≠ sb → v.ownBlock ≠ some k → W'.heap[k]? = W.heap[k]? := hk
  refine ⟨hp.row.far (key pb hp.lt (fun e => RowV.apart hr hp.row (by decide) e.symm) (h.own.ne hp.row (by decide))), hp.tr.keep' (fun k e hl => key k hl (ne_kind hp.tr.own hr (by decide) k e) (fun e2 => own_apart h.own hp.tr.own (by decide) k e2 e)) (fun j u hu k e hl => ?_), hp.high, hp.toks.below hb, hp.few, hp.env.below hb⟩
  have hj : j < s.nodes.length := by rw [← hp.tr.len]; exact (List.getElem?_eq_some_iff.1 hu).1
  have ho := hp.tr.kid j _ u (List.getElem?_eq_getElem hj) hu
  exact key k hl (ne_kind ho hr (by decide) k e) (fun e2 => own_apart h.own ho (by decide) k e2 e)
theorem BV.st (h : BV W0.heap.size sb v W bs) (hs : Step n B pb W0 vl0 vs0 W vl vs) (hb : Below B W W') (hk : BKeep sb v W W') : Step n B pb W0 vl0 vs0 W' vl vs :=
  ⟨hs.below.trans hb, fun k hl hp hne => (hk k (Nat.lt_of_lt_of_le hl hs.below.size) (by have := h.low; omega) (fun e => by have := (World.ownsRow.lt h.own k e).1; omega)).trans (hs.far k hl hp hne), hs.blk, hs.kids⟩
theorem BV.step (h : BV B0 sb v W bs) (hp : PV A B pb ts tv W s vl vs) (hs : Step n B pb W vl vs W' vl' vs') : BV B0 sb v W' bs := by
  obtain ⟨p, hr, h1⟩ := h.ex
  exact ⟨⟨p, hr.stepR (by decide) (by decide) hp hs, h1⟩, row_far h.own fun k e hk => hs.far k hk (fun e2 => h.own.ne hp.row (by decide) (by rw [← e2]; exact e)) (fun e2 => own_apart h.own hp.tr.own (by decide) k e e2), h.low, h.nil⟩
set_option maxRecDepth 10000 in
set_option maxHeartbeats 3200000 in
theorem texts_step {m : Nat} (hts : ∀ t ∈ ts, (txt t.text).size ≤ 1000000) : Does A B pb ts tv 173 #[ptr pb] .texts (m + 1) := by
  intro W s vl vs r h hr hnr
  have HR := hid' hr
  have HP := hid' h
  have HS := hid' (Step.refl W.heap.size B pb W vl vs)
  have HLO := hid' h.lowB
  have HTS := hid' hts
  clear hr h hts
  rw [runF] at HR
  unfold bodyF at HR
  try dsimp only at HR
  have hfk := tok_kind
  have hfp := tok_pos
  have hfx := tok_text2
  rw [nextF] at HR
  generalize ht1 : ts[PS.at_ s]? = o1 at HR
  rcases o1 with _ | t1
  · exact absurd HR.out.symm hnr
  try dsimp only at HR
  unfold ptr
  go_enter Tryz.func173, Tryz.ntmps173
  go_wp2_with fail
  refine Calls.mono (p_token_any HP.out t1 ht1) ?_
  rintro e w1 ⟨rfl, b⟩
  have hp := HP.out.low b
  have hs := Step.low (n := W.heap.size) HP.out b
  replace HS := hid' (HS.out.then (Nat.le_refl _) hs)
  replace HP := hid' hp
  clear b hp hs
  have hsz := HS.out.below.size
  have HBV : Hid (BV W.heap.size w1.heap.size (.slice none 0 0) (w1.alloc (.cells #[.pointer none, .slice none 0 0] 176)) []) := hid' ⟨⟨_, row_new w1 176 [.pointer none, .slice none 0 0], .inl rfl⟩, ⟨rfl, .inl ⟨rfl, rfl⟩⟩, hsz, fun _ => rfl⟩
  replace HS := hid' (HS.out.alloc (.cells #[.pointer none, .slice none 0 0] 176) HLO.out)
  replace HP := hid' (HP.out.alloc (.cells #[.pointer none, .slice none 0 0] 176))
  go_wp2_with fail
  go_loopg [] m (fun gk wr => ∃ (v : Value) (acc : List UInt8) (sr : PS), gk ≤ m ∧ acc.length < 900001 ∧ Hid (PV A B pb ts tv wr sr vl vs) ∧ Hid (Step W.heap.size B pb W vl vs wr vl vs) ∧ Hid (BV W.heap.size w1.heap.size v wr acc) ∧ Hid (runF ts gk (.textsLoop t1.pos acc) sr = r))
  case atStart => exact ⟨_, [], s, Nat.le_refl _, by simp, HP, HS, HBV, HR⟩
  case round =>
    obtain ⟨v, acc, sr, hgk, hal, HPr, HSr, HBr, HRr⟩ := hrel
    clear HP HS HBV HR
    rcases gk with _ | j
    · exact absurd HRr.out.symm hnr
    rw [runF] at HRr
    unfold bodyF at HRr
    try dsimp only at HRr
    rw [nextF] at HRr
    generalize ht2 : ts[PS.at_ sr]? = o2 at HRr
    rcases o2 with _ | t2
    · exact absurd HRr.out.symm hnr
    try dsimp only at HRr
    have hwr := HSr.out.below.size
    go_wp2_with fail
    refine Calls.mono (p_token_any HPr.out t2 ht2) ?_
    rintro e w2 ⟨rfl, b⟩
    have hs := Step.low (n := wr.heap.size) HPr.out b
    have HB2 := hid' (HBr.out.step HPr.out hs)
    have HS2 := hid' (HSr.out.then (Nat.le_refl _) hs)
    have HP2 := hid' (HPr.out.low b)
    clear b hs HPr HSr HBr
    by_cases h3 : t2.kind = 3
    · rw [if_pos h3] at HRr
      have q3 : ((t2.kind : Int) == 3) = true := by rw [h3]; rfl
      by_cases hl2 : ¬ acc.length + t2.text.length < 900000
      · rw [if_neg hl2] at HRr
        exact absurd HRr.out.symm hnr
      rw [Decidable.not_not] at hl2
      rw [if_pos hl2] at HRr
      clear h3
      go_wp2_with fail
      refine Calls.mono (next_any HP2.out t2 ht2) ?_
      rintro e w3 ⟨rfl, hp, hst⟩
      have hs := hst.step w2.heap.size vl vs
      have HB3 := hid' (HB2.out.step HP2.out hs)
      have HS3 := hid' (HS2.out.then (Nat.le_refl _) hs)
      have HP3 := hid' hp
      clear hp hst hs HB2 HS2 HP2
      have hw3 := HS3.out.below.size
      go_wp2_with fail
      refine Calls.mono (bd_write HB3.out t2.text (by omega) hw3) ?_
      rintro e w4 ⟨rfl, v4, h4, b4, k4⟩
      have hb4 : Below B w3 w4 := b4.mono HLO.out
      have HP4 := hid' (HB3.out.pv HP3.out hb4 k4)
      have HS4 := hid' (HB3.out.st HS3.out hb4 k4)
      have HB4 := hid' h4
      clear h4 b4 k4 hb4 HB3 HS3 HP3
      go_wp2
      go_roundg j
      case measure => omega
      case rel => exact ⟨v4, acc ++ t2.text, _, by omega, by rw [List.length_append]; omega, HP4, HS4, HB4, HRr⟩
    · rw [if_neg h3] at HRr
      have q3 : ((t2.kind : Int) == 3) = false := by simp; omega
      clear h3
      go_wp2_with fail
      refine Calls.mono (bd_string_any HB2.out) ?_
      rintro e w3 ⟨rfl, b3, k3, _⟩
      have hb3 : Below B w2 w3 := b3.mono HLO.out
      have HP3 := hid' (HB2.out.pv HP2.out hb3 k3)
      have HS3 := hid' (HB2.out.st HS2.out hb3 k3)
      clear b3 k3 hb3 HB2 HS2 HP2
      rw [addF] at HRr
      by_cases hn : ¬ ((PS.nodes sr).length < 900000 ∧ (List.length ([] : List Int)) < 900000)
      · rw [if_neg hn] at HRr
        exact absurd HRr.out.symm hnr
      rw [Decidable.not_not] at hn
      rw [if_pos hn] at HRr
      go_wp2_with fail
      refine Calls.mono (add_none HP3.out 5 _ (txt acc) (by show acc.length ≤ _; omega) hn.1) ?_
      rintro e w5 ⟨rfl, vl5, vs5, hp, hs⟩
      have HS5 := hid' (HS3.out.then (Nat.le_refl _) hs)
      have HP5 := hid' hp
      clear hp hs
      obtain rfl := HRr.out
      go_wp2
      go_returns
      exact ⟨_, _, rfl, HP5.out, HS5.out⟩
end
end Go.Proofs.YtpjjofdphlgeiaaGreatDoor
