/- What the reference's Sum answers: the digest. Conditions: fewer than 2^28 bytes. -/
import Derived.Test.YtffmldplchlnpaaDoorRefLoopA
import Derived.Test.YtffmldplchlnpaaDoorRefLoopB
import Derived.Test.YtffmldplchlnpaaDoorRefLoopC
import Derived.Test.YtffmldplchlnpaaDoorRefLoopD
import Derived.Test.YtffmldplchlnpaaDoorRefLoopE
namespace Go.Proofs.YtffmldplchlnpaaDoor
open Go.RowKit

theorem exQ_elim {n : Nat} {F : Act → World → Prop} {e : Exit} {a : Act} {w : World} (h : exQ n F e a w) : e = .exit n ∧ F a w := by
  cases e with
  | exit k => exact ⟨by rw [h.1], h.2⟩
  | _ => exact (h : False).elim

set_option maxRecDepth 100000 in
set_option maxHeartbeats 6400000 in
theorem rsum_any (s : ByteArray) (hs : s.size < 268435456) (w : World) :
    Calls Tryd.prog 12 #[.string s] w fun e w' => e = .returned (.agg (bcells (digest s.data.toList))) ∧ Below w.heap.size w w' := by
  have hinfo2 : (Tryd.prog.info? 25).map (·.size) = some 32 := by kernel_rfl
  obtain ⟨L, hL⟩ : ∃ L, s.data.toList = L := ⟨_, rfl⟩
  have hn : L.length = s.size := by rw [← hL, Array.length_toList]; rfl
  have hmk := make_bytes .i64 .i64 0 (s.size + 72) (by omega) (by omega) 0 ((s.size : Int) + 72) rfl (by omega)
  rw [hL]
  have HL := hidden hL
  have HN := hidden hn
  clear hL hn
  go_enter Tryd.func12, Tryd.ntmps12
  go_wp2_with fail
  obtain ⟨z, hz'⟩ : ∃ z : Array Value, z = #[Value.int .u8 0, Value.int .u8 0, Value.int .u8 0, Value.int .u8 0, Value.int .u8 0, Value.int .u8 0, Value.int .u8 0, Value.int .u8 0, Value.int .u8 0, Value.int .u8 0, Value.int .u8 0, Value.int .u8 0, Value.int .u8 0, Value.int .u8 0, Value.int .u8 0, Value.int .u8 0, Value.int .u8 0, Value.int .u8 0, Value.int .u8 0, Value.int .u8 0, Value.int .u8 0, Value.int .u8 0, Value.int .u8 0, Value.int .u8 0, Value.int .u8 0, Value.int .u8 0, Value.int .u8 0, Value.int .u8 0, Value.int .u8 0, Value.int .u8 0, Value.int .u8 0, Value.int .u8 0] := ⟨_, rfl⟩
  have hz32 : z.size = 32 := by rw [hz']; rfl
  have hzb : z = bcells (List.replicate 32 0) := by rw [hz']; rfl
  rw [← hz']
  have HZ := hidden hzb
  clear hz' hzb
  refine (table_any _).mono ?_
  rintro e w1 ⟨rfl, hw1⟩
  have hsz : s.data.toList.length = s.size := by rw [Array.length_toList]; rfl
  go_wp2_with (first
    | (at_builtin; refine append_text _ rfl (.tmp 30) (.tmp 31) rfl (w.heap.size + 1 + 1 + 1) _ [] s rfl (by first | exact ownB_made3 w _ _ _ _ (by omega) | (rw [hw1]; exact ownB_made3 w _ _ _ _ (by omega))) rfl (by simp; omega) (by simp) ?_; intro v4 w4 h4 hb4; have f0 := (hb4.block w.heap.size (by omega)).trans (al4_0 _ _ _ _ _); have f1 := (hb4.block (w.heap.size + 1) (by omega)).trans (al4_1 _ _ _ _ _); have f2 := (hb4.block (w.heap.size + 1 + 1) (by omega)).trans (al4_2 _ _ _ _ _); have hs4 := hb4.size; have HB4 := hidden ((al4_below _ _ _ _ _).trans (hb4.mono (by omega))); simp only [World.size_alloc] at hs4; have HO4 := hidden h4; have F0 := hidden f0; have F1 := hidden f1; have F2 := hidden f2; clear h4 hb4 f0 f1 f2)
    | (at_builtin; refine append_bytes _ rfl (.tmp 33) (.tmp 34) rfl (w.heap.size + 1 + 1 + 1) _ _ [128] rfl (HO4.out.of_eq fun k _ hk => Below.heap_alloc w4 _ k hk) w4.heap.size 0 1 1 rfl rfl (one_at 128 w4 _) (by simp; omega) (by simp; omega) ?_; intro v5 w5 h5 hb5))
  have hb15 : Below (w.heap.size + 1 + 1 + 1) w4 w5 := ((Below.refl _ _).alloc (by omega) _).trans hb5
  have F05 := hidden ((hb15.block w.heap.size (by omega)).trans F0.out)
  have F15 := hidden ((hb15.block (w.heap.size + 1) (by omega)).trans F1.out)
  have F25 := hidden ((hb15.block (w.heap.size + 1 + 1) (by omega)).trans F2.out)
  have HB5 := hidden (HB4.out.trans (hb15.mono (by omega)))
  have hs5 := hb15.size
  rw [show ([] ++ s.data.toList) ++ [128] = L ++ [128] by rw [List.nil_append, HL.out]] at h5
  have HO5 := hidden h5
  clear h5 hb5 hb15 F0 F1 F2 HB4 HO4 hw1 hsz hmk
  have h35 : w.heap.size + 1 + 1 + 1 ≤ w5.heap.size := by omega
  clear hs4 hs5
  go_loopw [5] (fun v wr => ∃ t : Nat, t ≤ noughts s.size ∧ Hid (OwnB wr (w.heap.size + 1 + 1 + 1) v (L ++ [128] ++ List.replicate t 0)) ∧ Hid (Below (w.heap.size + 1 + 1 + 1) w5 wr)) (fun v _ => s.size + 200 - lenV v)
  case atStart => exact ⟨0, Nat.zero_le _, by rw [show L ++ [128] ++ List.replicate 0 0 = L ++ [128] by simp]; exact HO5, Below.refl _ _⟩
  case round =>
    clear HO5
    obtain ⟨t, ht, ho, hb⟩ := hrel
    obtain ⟨ao, cap, rfl, hc, _⟩ := ho.out.at
    have hq0 : (L ++ [128] ++ List.replicate t 0).length = s.size + 1 + t := by simp [HN.out]; omega
    have hnl := noughts_le s.size
    obtain ⟨q, hq⟩ : ∃ q, (L ++ [128] ++ List.replicate t 0).length = q := ⟨_, rfl⟩
    rw [hq] at ho hc ⊢
    have hqv : q = s.size + 1 + t := by omega
    have HQ := hidden hq
    clear hq hq0
    obtain ⟨r, hr⟩ : ∃ r : Nat, q % 64 = r := ⟨_, rfl⟩
    have hri : (q : Int) % 64 = (r : Int) := by omega
    by_cases h56 : r = 56
    · have ht' : Hid (t = noughts s.size) := hidden (noughts_end _ _ ht (by omega))
      obtain ⟨P, hP⟩ : ∃ P, L ++ [128] ++ List.replicate t 0 = P := ⟨_, rfl⟩
      rw [hP] at ho HQ
      have hWh : whole L = P ++ tail8 (s.size * 8) := by rw [whole_tail, HN.out, ← ht'.out, hP]
      have HWH := hidden hWh
      have hq1 : q < 300000000 := by omega
      clear hP hWh
      rw [h56] at hri
      have HQV := hidden hqv
      clear hqv hr h56
      go_wp2
      clear hri
      go_loopw [5, 7] (fun v i wr => ∃ k : Nat, k ≤ 8 ∧ i = .int .i64 ((k : Int) - 1) ∧ Hid (OwnB wr (w.heap.size + 1 + 1 + 1) v (P ++ (tail8 (s.size * 8)).take (8 - k))) ∧ Hid (Below (w.heap.size + 1 + 1 + 1) w5 wr)) (fun _ i _ => (intOf i + 1).toNat)
      case atStart => exact ⟨8, by omega, rfl, by rw [show P ++ List.take (8 - 8) (tail8 (s.size * 8)) = P by simp]; exact ho, hb⟩
      case round =>
        clear ho hb
        obtain ⟨k, hk, rfl, ho, hb⟩ := hrel
        rcases k with _ | j
        · rw [show P ++ List.take (8 - 0) (tail8 (s.size * 8)) = whole L by rw [HWH.out]; rfl] at ho
          rw [show (((0 : Nat) : Int) - 1) = -1 from rfl]
          obtain ⟨ao3, cm, rfl, hcm, hat⟩ := ho.out.at
          have hwl := whole_len L
          have hwp : 0 < (whole L).length := by rw [HWH.out, List.length_append]; show 0 < P.length + 8; omega
          obtain ⟨mb, rfl, hmb, hml, hAt⟩ := hat hwp
          obtain ⟨nb, hnb⟩ : ∃ nb, (whole L).length / 64 = nb := ⟨_, rfl⟩
          have hdg : outB (hashN (whole L) nb) = digest L := by rw [digest, hnb]
          rw [hnb] at hwl
          have hwb : (whole L).length < 400000000 := by rw [HWH.out, List.length_append, HQ.out]; show q + 8 < _; omega
          generalize whole L = M at hwl hwp hAt ho hcm hdg hwb
          obtain ⟨lm, hlm⟩ : ∃ lm, M.length = lm := ⟨_, rfl⟩
          rw [hlm] at hwl hwp hcm hwb
          rw [hlm]
          have HAT := hidden hAt
          have HLM := hidden hlm
          have HDG := hidden hdg
          have F07 := hidden ((hb.out.block w.heap.size (by omega)).trans F05.out)
          have F17 := hidden ((hb.out.block (w.heap.size + 1) (by omega)).trans F15.out)
          have F27 := hidden ((hb.out.block (w.heap.size + 1 + 1) (by omega)).trans F25.out)
          have HB7 := hidden (HB5.out.trans (hb.out.mono (by omega)))
          have h37 : w.heap.size + 1 + 1 + 1 ≤ wr.heap.size := by have := hb.out.size; omega
          rename World => w7
          clear hat hnb hdg hlm hAt ho hb F05 F15 F25 HB5 h35 HWH HQ hq1 hc
          go_wp2
          go_loopw [8] (fun i wr => ∃ t a : Nat, t ≤ nb ∧ i = .int .i64 (a : Int) ∧ a = 64 * t ∧ Hid (Turned (w.heap.size + 1 + 1) w7 wr) ∧ Hid (wr.heap[w.heap.size + 1 + 1]? = some (.cells (wcells (hashN M t)) 53 (0, 0)))) (fun i _ => lm - (intOf i).toNat)
          case atStart => exact ⟨0, 0, Nat.zero_le _, rfl, rfl, Turned.refl _ _, by rw [show hashN M 0 = h0 from rfl, wcells_lit]; exact F27.out⟩
          case round =>
            clear F27
            obtain ⟨t, a, ht, rfl, hat, hb, hg⟩ := hrel
            by_cases htl : t < nb
            · have hin : a + 64 ≤ lm := by omega
              have hbl := blk_len M t (by rw [HLM.out]; omega)
              have hcm : ∀ i, i < 64 → w7.cell? ⟨mb, a + i, none⟩ = some (.int .u8 (((blk M t).getD i 0).toNat : Int)) := fun i hi => by
                have h := HAT.out.get (64 * t + i) (by rw [HLM.out]; omega)
                rw [blk_get M t i hi, hat]
                rwa [Nat.zero_add] at h
              have hH8 := hashN_len M t
              have hnx : hashN M (t + 1) = mixF (hashN M t) (blk M t) := rfl
              generalize blk M t = bs at hbl hcm hnx
              generalize hashN M t = H at hg hH8 hnx
              have hmb8 : ∀ i, i < 64 → wr.cell? ⟨mb, a + i, none⟩ = some (.int .u8 ((bs.getD i 0).toNat : Int)) := fun i hi => (hb.out.cell ⟨mb, a + i, none⟩ hml (by simp only; omega)).trans (hcm i hi)
              have hml8 : mb < wr.heap.size := by have := hb.out.size; omega
              have hk8 : wr.heap[w.heap.size + 1]? = some (.cells (wcells kTab) 53 (0, 0)) := (hb.out.block _ (by omega) (by omega)).trans F17.out
              have HM8 := hidden hmb8
              have HK8 := hidden hk8
              have HNX := hidden hnx
              have h38 : w.heap.size + 1 + 1 + 1 ≤ wr.heap.size := by have := hb.out.size; omega
              have HATT := hidden hat
              have HWL := hidden hwl
              clear hcm hmb8 hk8 hnx hat hwl
              have hmkW := make_words .i64 .i64 64 64 (by omega) (by omega) 64 64 rfl rfl
              have hmkV := make_words .i64 .i64 0 8 (by omega) (by omega) 0 8 rfl rfl
              go_wp2
              rename World => w8
              clear hmkW
              refine Code.wp_mono ?_ (loop4 _ _ _ _ _ _ _ _ _ _ _ _ _ _ _ _ _ _ _ _ _ _ _ _ _ _ _ _ _ _ _ _ _ _ _ _ _ _ _ _ _ _ _ _ _ _ _ _ _ _ _ _ _ _ _ _ _ _ _ _ _ _ _ _ _ _ _ _ _ _ _ _ _ _ _ _ _ _ _ _ _ _ _ _ _ _ _ _ _ _ _ _ _ _ _ _ _ _ _ _ _ _ _ _ _ _ _ _ _ _ _ _ _ _ _ _ _ _ _ _ _ _ _ _ _ _ _ _ _ _ _ _ _ _ _ _ _ _ _ _ _ _ _ _ _ _ _ _ _ _ _ _ _ _ _ _ _ _ _ _ _ _ _ _ _ _ _ _ _ _ _ _ _ _ _ _ _ _ _ _ _ _ _ _ _ _ _ _ _ _ _ _ _ _ _ _ _ _ _ _ _ _ _ _ _ _ _ _ _ _ _ _ _ _ _ _ _ _ _ _ _ _ _ _ _ _ _ _ _ _ _ _ _ _ _ _ _ _ _ _ _ _ _ _ _ _ _ _ _ _ _ _ _ _ _ _ _ _ _ _ _ _ _ _ _ _ _ _ _ _ _ _ _ _ _ _ _ _ _ _ _ _ _ _ _ _ _ _ _ _ _ _ _ _ _ _ _ _ _ _ _ _ _ _ _ _ _ _ _ _ _ _ _ _ _ _ _ _ _ _ _ _ _ _ _ _ _ _ _ _ _ _ _ mb w8.heap.size a lm cm w8.heap.size bs _ hbl hin hwb hml8 (Nat.le_refl _) (hidden fun i hi => (((Below.refl w8.heap.size w8).alloc (Nat.le_refl _) _).cell (p := ⟨mb, a + i, none⟩) hml8).trans (HM8.out i hi)) (hidden (heap_alloc_new _ _)))
              rintro e A' w9 h0
              obtain ⟨he, h⟩ := exQ_elim h0
              clear h0
              subst he
              obtain ⟨u67, h⟩ := h
              obtain ⟨u68, h⟩ := h
              obtain ⟨u69, h⟩ := h
              obtain ⟨u70, h⟩ := h
              obtain ⟨u71, h⟩ := h
              obtain ⟨u72, h⟩ := h
              obtain ⟨u73, h⟩ := h
              obtain ⟨u74, h⟩ := h
              obtain ⟨u75, h⟩ := h
              obtain ⟨u76, h⟩ := h
              obtain ⟨u77, h⟩ := h
              obtain ⟨u78, h⟩ := h
              obtain ⟨u79, h⟩ := h
              obtain ⟨u80, h⟩ := h
              obtain ⟨u81, h⟩ := h
              obtain ⟨u82, h⟩ := h
              obtain ⟨u83, h⟩ := h
              obtain ⟨u84, h⟩ := h
              obtain ⟨u85, h⟩ := h
              obtain ⟨u86, h⟩ := h
              obtain ⟨u87, h⟩ := h
              obtain ⟨u88, h⟩ := h
              obtain ⟨u89, h⟩ := h
              obtain ⟨u90, h⟩ := h
              obtain ⟨u91, h⟩ := h
              obtain ⟨u92, h⟩ := h
              obtain ⟨u93, h⟩ := h
              obtain ⟨u94, h⟩ := h
              obtain ⟨u95, h⟩ := h
              obtain ⟨u96, h⟩ := h
              obtain ⟨u97, h⟩ := h
              obtain ⟨u98, h⟩ := h
              obtain ⟨u99, h⟩ := h
              obtain ⟨u100, h⟩ := h
              obtain ⟨u101, h⟩ := h
              obtain ⟨u102, h⟩ := h
              obtain ⟨u103, h⟩ := h
              obtain ⟨u104, h⟩ := h
              obtain ⟨u105, h⟩ := h
              obtain ⟨u106, h⟩ := h
              obtain ⟨u107, h⟩ := h
              obtain ⟨u108, h⟩ := h
              obtain ⟨u109, h⟩ := h
              obtain ⟨u110, h⟩ := h
              obtain ⟨u111, h⟩ := h
              obtain ⟨u112, h⟩ := h
              obtain ⟨u113, h⟩ := h
              obtain ⟨u114, h⟩ := h
              obtain ⟨hb9, hg9, rfl⟩ := h
              have hb89 : Below w8.heap.size w8 w9 := ((Below.refl _ _).alloc (Nat.le_refl _) _).trans hb9
              clear hb9
              go_wp2
              refine Code.wp_mono ?_ (loop5 _ _ _ _ _ _ _ _ _ _ _ _ _ _ _ _ _ _ _ _ _ _ _ _ _ _ _ _ _ _ _ _ _ _ _ _ _ _ _ _ _ _ _ _ _ _ _ _ _ _ _ _ _ _ _ _ _ _ _ _ _ _ _ _ _ _ _ _ _ _ _ _ _ _ _ _ _ _ _ _ _ _ _ _ _ _ _ _ _ _ _ _ _ _ _ _ _ _ _ _ _ _ _ _ _ _ _ _ _ _ _ _ _ _ _ _ _ _ _ _ _ _ _ _ _ _ _ _ _ _ _ _ _ _ _ _ _ _ _ _ _ _ _ _ _ _ _ _ _ _ _ _ _ _ _ _ _ _ _ _ _ _ _ _ _ _ _ _ _ _ _ _ _ _ _ _ _ _ _ _ _ _ _ _ _ _ _ _ _ _ _ _ _ _ _ _ _ _ _ _ _ _ _ _ _ _ _ _ _ _ _ _ _ _ _ _ _ _ _ _ _ _ _ _ _ _ _ _ _ _ _ _ _ _ _ _ _ _ _ _ _ _ _ _ _ _ _ _ _ _ _ _ _ _ _ _ _ _ _ _ _ _ _ _ _ _ _ _ _ _ _ _ _ _ _ _ _ _ _ _ _ _ _ _ _ _ _ _ _ _ _ _ _ _ _ _ _ _ _ _ _ _ _ _ _ _ _ _ _ _ _ _ _ _ _ _ _ _ _ _ _ _ _ _ _ _ _ _ _ _ _ _ _ _ _ w8.heap.size w8.heap.size bs _ (Nat.le_refl _) (hidden hg9))
              rintro e A' w10 h0
              obtain ⟨he, h⟩ := exQ_elim h0
              clear h0
              subst he
              obtain ⟨u12, h⟩ := h
              obtain ⟨u13, h⟩ := h
              obtain ⟨u115, h⟩ := h
              obtain ⟨u116, h⟩ := h
              obtain ⟨u117, h⟩ := h
              obtain ⟨u118, h⟩ := h
              obtain ⟨u119, h⟩ := h
              obtain ⟨u120, h⟩ := h
              obtain ⟨u121, h⟩ := h
              obtain ⟨u122, h⟩ := h
              obtain ⟨u123, h⟩ := h
              obtain ⟨u124, h⟩ := h
              obtain ⟨u125, h⟩ := h
              obtain ⟨u126, h⟩ := h
              obtain ⟨u127, h⟩ := h
              obtain ⟨u128, h⟩ := h
              obtain ⟨u129, h⟩ := h
              obtain ⟨u130, h⟩ := h
              obtain ⟨u131, h⟩ := h
              obtain ⟨u132, h⟩ := h
              obtain ⟨u133, h⟩ := h
              obtain ⟨u134, h⟩ := h
              obtain ⟨u135, h⟩ := h
              obtain ⟨u136, h⟩ := h
              obtain ⟨u137, h⟩ := h
              obtain ⟨u138, h⟩ := h
              obtain ⟨u139, h⟩ := h
              obtain ⟨u140, h⟩ := h
              obtain ⟨u141, h⟩ := h
              obtain ⟨u142, h⟩ := h
              obtain ⟨u143, h⟩ := h
              obtain ⟨u144, h⟩ := h
              obtain ⟨u145, h⟩ := h
              obtain ⟨u146, h⟩ := h
              obtain ⟨u147, h⟩ := h
              obtain ⟨u148, h⟩ := h
              obtain ⟨u149, h⟩ := h
              obtain ⟨u150, h⟩ := h
              obtain ⟨u151, h⟩ := h
              obtain ⟨u152, h⟩ := h
              obtain ⟨u153, h⟩ := h
              obtain ⟨u154, h⟩ := h
              obtain ⟨u155, h⟩ := h
              obtain ⟨u156, h⟩ := h
              obtain ⟨u157, h⟩ := h
              obtain ⟨u158, h⟩ := h
              obtain ⟨u159, h⟩ := h
              obtain ⟨u160, h⟩ := h
              obtain ⟨u161, h⟩ := h
              obtain ⟨u162, h⟩ := h
              obtain ⟨u163, h⟩ := h
              obtain ⟨u164, h⟩ := h
              obtain ⟨u165, h⟩ := h
              obtain ⟨u166, h⟩ := h
              obtain ⟨u167, h⟩ := h
              obtain ⟨u168, h⟩ := h
              obtain ⟨u169, h⟩ := h
              obtain ⟨u170, h⟩ := h
              obtain ⟨u171, h⟩ := h
              obtain ⟨u172, h⟩ := h
              obtain ⟨u173, h⟩ := h
              obtain ⟨u174, h⟩ := h
              obtain ⟨u175, h⟩ := h
              obtain ⟨u176, h⟩ := h
              obtain ⟨hb10, hg10, rfl⟩ := h
              have hb810 : Below w8.heap.size w8 w10 := hb89.trans hb10
              have hMX : mixF H bs = addUp H (rnds (wsB bs 48) (v8 H) 64).list 8 := rfl
              have hwl48 := wsB_len bs 48
              generalize wsB bs 48 = ws at hg10 hMX hwl48
              have hgl : w8.heap.size < w10.heap.size := (Array.getElem?_eq_some_iff.1 hg10).1
              have hhk : ∀ W, Below w8.heap.size w8 W → W.heap[w.heap.size + 1 + 1]? = some (.cells (wcells H) 53 (0, 0)) := fun W hW => (hW.block _ (by omega)).trans hg.out
              have HMX := hidden hMX
              have HHK := hidden hhk
              have HB9 := hidden hb810
              have HG6 := hidden hg10
              clear hb89 hb10 hb810 hg9 hg10 hMX hhk
              go_wp2_with (at_builtin; refine append_words _ rfl (.tmp 177) (.tmp 178) rfl w10.heap.size _ [] H rfl (ownW_made w10 w10.heap.size 8 (by omega) (Nat.le_refl _)) (w.heap.size + 1 + 1) 0 8 8 rfl hH8 (fun i hi => (cell_of_row _ _ _ _ _ (0, 0) (HHK.out _ (HB9.out.alloc (by omega) _))).trans (by rw [Nat.zero_add]; exact wcells_get _ _ hi)) (by simp; omega) (by simp) ?_; intro v9 w11 h9 hb11)
              rw [List.nil_append] at h9
              obtain ⟨g0, cap0, rfl, hcap0, hgb0, hgl0, hcs0⟩ := h9.at (by omega)
              rw [hH8] at hcap0 hcs0 ⊢
              have hV0 : VAt w11 g0 (v8 H) := ⟨hcs0 0 (by omega), hcs0 1 (by omega), hcs0 2 (by omega), hcs0 3 (by omega), hcs0 4 (by omega), hcs0 5 (by omega), hcs0 6 (by omega), hcs0 7 (by omega), hgl0⟩
              have hb1011 : Below w10.heap.size w10 w11 := ((Below.refl _ _).alloc (Nat.le_refl _) _).trans hb11
              have hb811 : Below w8.heap.size w8 w11 := HB9.out.trans (hb1011.mono (by omega))
              have hs11 := hb1011.size
              refine Code.wp_mono ?_ (loop6 _ _ _ _ _ _ _ _ _ _ _ _ _ _ _ _ _ _ _ _ _ _ _ _ _ _ _ _ _ _ _ _ _ _ _ _ _ _ _ _ _ _ _ _ _ _ _ _ _ _ _ _ _ _ _ _ _ _ _ _ _ _ _ _ _ _ _ _ _ _ _ _ _ _ _ _ _ _ _ _ _ _ _ _ _ _ _ _ _ _ _ _ _ _ _ _ _ _ _ _ _ _ _ _ _ _ _ _ _ _ _ _ _ _ _ _ _ _ _ _ _ _ _ _ _ _ _ _ _ _ _ _ _ _ _ _ _ _ _ _ _ _ _ _ _ _ _ _ _ _ _ _ _ _ _ _ _ _ _ _ _ _ _ _ _ _ _ _ _ _ _ _ _ _ _ _ _ _ _ _ _ _ _ _ _ _ _ _ _ _ _ _ _ _ _ _ _ _ _ _ _ _ _ _ _ _ _ _ _ _ _ _ _ _ _ _ _ _ _ _ _ _ _ _ _ _ _ _ _ _ _ _ _ _ _ _ _ _ _ _ _ _ _ _ _ _ _ _ _ _ _ _ _ _ _ _ _ _ _ _ _ _ _ _ _ _ _ _ _ _ _ _ _ _ _ _ _ _ _ _ _ _ _ _ _ _ _ _ _ _ _ _ _ _ _ _ _ _ _ _ _ _ _ _ _ _ _ _ _ _ _ _ _ _ _ _ _ _ _ _ _ _ _ _ _ _ _ _ _ _ _ _ _ (w.heap.size + 1) w8.heap.size g0 cap0 w8.heap.size ws (v8 H) _ hwl48 hcap0 (by omega) (by omega) (by omega) (by omega) (hidden ((hb811.block _ (by omega)).trans HK8.out)) (hidden ((hb1011.block _ hgl).trans HG6.out)) (hidden hV0))
              rintro e A' w12 h0
              obtain ⟨he, h⟩ := exQ_elim h0
              clear h0
              subst he
              obtain ⟨u16, h⟩ := h
              obtain ⟨u17, h⟩ := h
              obtain ⟨u18, h⟩ := h
              obtain ⟨u19, h⟩ := h
              obtain ⟨u20, h⟩ := h
              obtain ⟨u180, h⟩ := h
              obtain ⟨u181, h⟩ := h
              obtain ⟨u182, h⟩ := h
              obtain ⟨u183, h⟩ := h
              obtain ⟨u184, h⟩ := h
              obtain ⟨u185, h⟩ := h
              obtain ⟨u186, h⟩ := h
              obtain ⟨u187, h⟩ := h
              obtain ⟨u188, h⟩ := h
              obtain ⟨u189, h⟩ := h
              obtain ⟨u190, h⟩ := h
              obtain ⟨u191, h⟩ := h
              obtain ⟨u192, h⟩ := h
              obtain ⟨u193, h⟩ := h
              obtain ⟨u194, h⟩ := h
              obtain ⟨u195, h⟩ := h
              obtain ⟨u196, h⟩ := h
              obtain ⟨u197, h⟩ := h
              obtain ⟨u198, h⟩ := h
              obtain ⟨u199, h⟩ := h
              obtain ⟨u200, h⟩ := h
              obtain ⟨u201, h⟩ := h
              obtain ⟨u202, h⟩ := h
              obtain ⟨u203, h⟩ := h
              obtain ⟨u204, h⟩ := h
              obtain ⟨u205, h⟩ := h
              obtain ⟨u206, h⟩ := h
              obtain ⟨u207, h⟩ := h
              obtain ⟨u208, h⟩ := h
              obtain ⟨u209, h⟩ := h
              obtain ⟨u210, h⟩ := h
              obtain ⟨u211, h⟩ := h
              obtain ⟨u212, h⟩ := h
              obtain ⟨u213, h⟩ := h
              obtain ⟨u214, h⟩ := h
              obtain ⟨u215, h⟩ := h
              obtain ⟨u216, h⟩ := h
              obtain ⟨u217, h⟩ := h
              obtain ⟨u218, h⟩ := h
              obtain ⟨u219, h⟩ := h
              obtain ⟨u220, h⟩ := h
              obtain ⟨u221, h⟩ := h
              obtain ⟨u222, h⟩ := h
              obtain ⟨u223, h⟩ := h
              obtain ⟨u224, h⟩ := h
              obtain ⟨u225, h⟩ := h
              obtain ⟨u226, h⟩ := h
              obtain ⟨u227, h⟩ := h
              obtain ⟨u228, h⟩ := h
              obtain ⟨u229, h⟩ := h
              obtain ⟨u230, h⟩ := h
              obtain ⟨u231, h⟩ := h
              obtain ⟨u232, h⟩ := h
              obtain ⟨u233, h⟩ := h
              obtain ⟨u234, h⟩ := h
              obtain ⟨u235, h⟩ := h
              obtain ⟨u236, h⟩ := h
              obtain ⟨u237, h⟩ := h
              obtain ⟨u238, h⟩ := h
              obtain ⟨u239, h⟩ := h
              obtain ⟨u240, h⟩ := h
              obtain ⟨u241, h⟩ := h
              obtain ⟨u242, h⟩ := h
              obtain ⟨u243, h⟩ := h
              obtain ⟨u244, h⟩ := h
              obtain ⟨u245, h⟩ := h
              obtain ⟨u246, h⟩ := h
              obtain ⟨u247, h⟩ := h
              obtain ⟨u248, h⟩ := h
              obtain ⟨u249, h⟩ := h
              obtain ⟨u250, h⟩ := h
              obtain ⟨u251, h⟩ := h
              obtain ⟨u252, h⟩ := h
              obtain ⟨u253, h⟩ := h
              obtain ⟨u254, h⟩ := h
              obtain ⟨u255, h⟩ := h
              obtain ⟨u256, h⟩ := h
              obtain ⟨u257, h⟩ := h
              obtain ⟨u258, h⟩ := h
              obtain ⟨u259, h⟩ := h
              obtain ⟨u260, h⟩ := h
              obtain ⟨u261, h⟩ := h
              obtain ⟨u262, h⟩ := h
              obtain ⟨u263, h⟩ := h
              obtain ⟨u264, h⟩ := h
              obtain ⟨u265, h⟩ := h
              obtain ⟨u266, h⟩ := h
              obtain ⟨u267, h⟩ := h
              obtain ⟨u268, h⟩ := h
              obtain ⟨u269, h⟩ := h
              obtain ⟨u270, h⟩ := h
              obtain ⟨u271, h⟩ := h
              obtain ⟨u272, h⟩ := h
              obtain ⟨u273, h⟩ := h
              obtain ⟨u274, h⟩ := h
              obtain ⟨u275, h⟩ := h
              obtain ⟨u276, h⟩ := h
              obtain ⟨u277, h⟩ := h
              obtain ⟨u278, h⟩ := h
              obtain ⟨u279, h⟩ := h
              obtain ⟨u280, h⟩ := h
              obtain ⟨u281, h⟩ := h
              obtain ⟨u282, h⟩ := h
              obtain ⟨u283, h⟩ := h
              obtain ⟨u284, h⟩ := h
              obtain ⟨u285, h⟩ := h
              obtain ⟨u286, h⟩ := h
              obtain ⟨u287, h⟩ := h
              obtain ⟨u288, h⟩ := h
              obtain ⟨u289, h⟩ := h
              obtain ⟨u290, h⟩ := h
              obtain ⟨u291, h⟩ := h
              obtain ⟨u292, h⟩ := h
              obtain ⟨u293, h⟩ := h
              obtain ⟨u294, h⟩ := h
              obtain ⟨u295, h⟩ := h
              obtain ⟨u296, h⟩ := h
              obtain ⟨g, cap, V, hg8, hcap, hVe, hV, hb12, rfl⟩ := h
              have hb812 : Below w8.heap.size w8 w12 := hb811.trans (hb12.mono (by omega))
              have hg12 := HHK.out _ hb812
              have HT12 := hidden (Turned.of_below (sb := w.heap.size + 1 + 1) hb812)
              have hE12 : addUp H V.list 8 = hashN M (t + 1) := by rw [HNX.out, HMX.out, hVe]
              have HE12 := hidden hE12
              clear h9 hcs0 hgb0 hgl0 hb11 hV0 hb1011 hb811 hb812 hE12 hVe HB9 HG6 HMX HHK hmkV
              go_wp2
              refine Code.wp_mono ?_ (loop7 _ _ _ _ _ _ _ _ _ _ _ _ _ _ _ _ _ _ _ _ _ _ _ _ _ _ _ _ _ _ _ _ _ _ _ _ _ _ _ _ _ _ _ _ _ _ _ _ _ _ _ _ _ _ _ _ _ _ _ _ _ _ _ _ _ _ _ _ _ _ _ _ _ _ _ _ _ _ _ _ _ _ _ _ _ _ _ _ _ _ _ _ _ _ _ _ _ _ _ _ _ _ _ _ _ _ _ _ _ _ _ _ _ _ _ _ _ _ _ _ _ _ _ _ _ _ _ _ _ _ _ _ _ _ _ _ _ _ _ _ _ _ _ _ _ _ _ _ _ _ _ _ _ _ _ _ _ _ _ _ _ _ _ _ _ _ _ _ _ _ _ _ _ _ _ _ _ _ _ _ _ _ _ _ _ _ _ _ _ _ _ _ _ _ _ _ _ _ _ _ _ _ _ _ _ _ _ _ _ _ _ _ _ _ _ _ _ _ _ _ _ _ _ _ _ _ _ _ _ _ _ _ _ _ _ _ _ _ _ _ _ _ _ _ _ _ _ _ _ _ _ _ _ _ _ _ _ _ _ _ _ _ _ _ _ _ _ _ _ _ _ _ _ _ _ _ _ _ _ _ _ _ _ _ _ _ _ _ _ _ _ _ _ _ _ _ _ _ _ _ _ _ _ _ _ _ _ _ _ _ _ _ _ _ _ _ _ _ _ _ _ _ _ _ _ _ _ _ _ _ _ _ _ _ (w.heap.size + 1 + 1) g cap H V _ hH8 hcap (by omega) (hidden hV) (hidden hg12))
              rintro e A' w13 h0
              obtain ⟨he, h⟩ := exQ_elim h0
              clear h0
              subst he
              obtain ⟨u297, h⟩ := h
              obtain ⟨u298, h⟩ := h
              obtain ⟨u299, h⟩ := h
              obtain ⟨u300, h⟩ := h
              obtain ⟨u301, h⟩ := h
              obtain ⟨u302, h⟩ := h
              obtain ⟨u303, h⟩ := h
              obtain ⟨u304, h⟩ := h
              obtain ⟨u305, h⟩ := h
              obtain ⟨u306, h⟩ := h
              obtain ⟨u307, h⟩ := h
              obtain ⟨u308, h⟩ := h
              obtain ⟨u309, h⟩ := h
              obtain ⟨u310, h⟩ := h
              obtain ⟨u311, h⟩ := h
              obtain ⟨u312, h⟩ := h
              obtain ⟨hb13, hg13, rfl⟩ := h
              rw [HE12.out] at hg13
              have hal : a + 64 = 64 * (t + 1) := by have := HATT.out; omega
              have HAL := hidden hal
              have HR13 := hidden (hb.out.trans (HT12.out.trans hb13))
              have HG13 := hidden hg13
              have hdec : lm - (a + 64) < lm - a := by omega
              clear hal hb13 hg13 hg12 hV hb12
              go_wp2
              go_roundw
              case rel => exact ⟨t + 1, a + 64, by omega, by go_num, HAL.out, HR13, HG13⟩
              case measure => simp [intOf]; omega
            · have htn : t = nb := by omega
              subst htn
              have hhl := hashN_len M t
              generalize hashN M t = hf at hg hhl HDG
              have HG8 := hidden hg
              have HT8 := hidden hb
              have hbs8 : w7.heap.size ≤ wr.heap.size := hb.out.size
              have hDL : (digest L).length = 32 := digest_len L
              generalize hdm : digest L = dg at HDG hDL
              have HDM := hidden hdm
              have HATT := hidden hat
              have HWL := hidden hwl
              have hge : lm ≤ a := by omega
              clear hb hg hdm hat hwl
              go_wp2
              clear hge
              rename World => w8
              have h48 : w.heap.size + 1 + 1 < w8.heap.size := by omega
              refine Code.wp_mono ?_ (loop8 _ _ _ _ _ _ _ _ _ _ _ _ _ _ _ _ _ _ _ _ _ _ _ _ _ _ _ _ _ _ _ _ _ _ _ _ _ _ _ _ _ _ _ _ _ _ _ _ _ _ _ _ _ _ _ _ _ _ _ _ _ _ _ _ _ _ _ _ _ _ _ _ _ _ _ _ _ _ _ _ _ _ _ _ _ _ _ _ _ _ _ _ _ _ _ _ _ _ _ _ _ _ _ _ _ _ _ _ _ _ _ _ _ _ _ _ _ _ _ _ _ _ _ _ _ _ _ _ _ _ _ _ _ _ _ _ _ _ _ _ _ _ _ _ _ _ _ _ _ _ _ _ _ _ _ _ _ _ _ _ _ _ _ _ _ _ _ _ _ _ _ _ _ _ _ _ _ _ _ _ _ _ _ _ _ _ _ _ _ _ _ _ _ _ _ _ _ _ _ _ _ _ _ _ _ _ _ _ _ _ _ _ _ _ _ _ _ _ _ _ _ _ _ _ _ _ _ _ _ _ _ _ _ _ _ _ _ _ _ _ _ _ _ _ _ _ _ _ _ _ _ _ _ _ _ _ _ _ _ _ _ _ _ _ _ _ _ _ _ _ _ _ _ _ _ _ _ _ _ _ _ _ _ _ _ _ _ _ _ _ _ _ _ _ _ _ _ _ _ _ _ _ _ _ _ _ _ _ _ _ _ _ _ _ _ _ _ _ _ _ _ _ _ _ _ _ _ _ _ _ _ _ _ _ (w.heap.size + 1 + 1) w8.heap.size w8.heap.size hf dg _ hhl hDL HDG h48 (Nat.le_refl _) (hidden ((Below.heap_alloc _ _ _ h48).trans HG8.out)) (hidden (heap_alloc_new _ _)))
              rintro e A' wr h0
              obtain ⟨he, h⟩ := exQ_elim h0
              clear h0
              subst he
              obtain ⟨u24, h⟩ := h
              obtain ⟨u313, h⟩ := h
              obtain ⟨u314, h⟩ := h
              obtain ⟨u315, h⟩ := h
              obtain ⟨u316, h⟩ := h
              obtain ⟨u317, h⟩ := h
              obtain ⟨u318, h⟩ := h
              obtain ⟨u319, h⟩ := h
              obtain ⟨u320, h⟩ := h
              obtain ⟨u321, h⟩ := h
              obtain ⟨u322, h⟩ := h
              obtain ⟨u323, h⟩ := h
              obtain ⟨u324, h⟩ := h
              obtain ⟨u325, h⟩ := h
              obtain ⟨u326, h⟩ := h
              obtain ⟨u327, h⟩ := h
              obtain ⟨u328, h⟩ := h
              obtain ⟨u329, h⟩ := h
              obtain ⟨u330, h⟩ := h
              obtain ⟨u331, h⟩ := h
              obtain ⟨u332, h⟩ := h
              obtain ⟨u333, h⟩ := h
              obtain ⟨u334, h⟩ := h
              obtain ⟨u335, h⟩ := h
              obtain ⟨hb9, hg9, rfl⟩ := h
              have hcs' : (bcells dg).size = 32 := by rw [bcells_size, hDL]
              have hb89 : Below w8.heap.size w8 wr := ((Below.refl _ _).alloc (Nat.le_refl _) _).trans hb9
              have hres : wr.heap[w.heap.size]? = some (.cells z 25 (0, 0)) := (hb89.block _ (by omega)).trans ((HT8.out.block _ (by omega) (by omega)).trans F07.out)
              generalize hcg : bcells dg = cg at hg9 hcs' ⊢
              have HBL := hidden (Turned.below HB7.out (HT8.out.trans (Turned.of_below hb89)) (by omega) (by omega))
              clear hb9 hb89
              go_wp2_with (first | (with_reducible refine wpList_load_row rfl 25 _ rfl w8.heap.size rfl _ cg (0, 0) _ hg9 Tryd.underlying25 rfl (by rw [hcs']; exact hinfo2) ?_) | (with_reducible refine wpList_store_rowTo rfl 25 _ _ rfl rfl w.heap.size cg rfl rfl _ z hres (by rw [hcs']; exact hinfo2) (by omega) (bcells_one _ _ hcg) ?_))
              refine bodyPost_ret (v := .agg cg) ?_ rfl ⟨by rw [← hcg, HDM.out], Below.setRow' HBL.out (Nat.le_refl _) cg⟩
              exact results_cell_row (fn := Tryd.f12) (p := 2) (ty := 25) (by kernel_rfl) _ _ w.heap.size _ cg (0, 0) _ (by simp [Act.put]) (setRow_heap wr w.heap.size z cg _ _ hres) Tryd.underlying25 rfl (by rw [hcs']; exact hinfo2)
        · rw [show (((j + 1 : Nat) : Int) - 1) = (j : Int) by omega]
          obtain ⟨sh, hsh⟩ : ∃ sh, 8 * j = sh := ⟨_, rfl⟩
          have hsi : 8 * (j : Int) = (sh : Int) := by omega
          have hsle : sh ≤ 56 := by omega
          have hby := byte_of s.size sh
          have hsn := tail8_snoc (s.size * 8) (7 - j) (by omega)
          rw [show 7 - (7 - j) = j by omega, hsh, show 7 - j + 1 = 8 - j by omega] at hsn
          generalize byteN (s.size * 8) sh = b at hby hsn
          have HSN := hidden hsn
          obtain ⟨ao2, cap2, rfl, hc2, _⟩ := ho.out.at
          have hq2 : (P ++ List.take (8 - (j + 1)) (tail8 (s.size * 8))).length = q + (7 - j) := by rw [List.length_append, HQ.out, List.length_take, show (tail8 (s.size * 8)).length = 8 from rfl]; omega
          have hq3 : Hid ((P ++ List.take (8 - (j + 1)) (tail8 (s.size * 8))).length < 400000000) := hidden (by omega)
          clear hsn hsh hq2
          generalize (P ++ List.take (8 - (j + 1)) (tail8 (s.size * 8))).length = q2 at hc2 ho
          go_wp2_with (at_builtin; refine append_bytes _ rfl (.tmp 51) (.tmp 58) rfl (w.heap.size + 1 + 1 + 1) _ _ [b] rfl (ho.out.of_eq fun k _ hk => Below.heap_alloc wr _ k hk) wr.heap.size 0 1 1 rfl rfl (one_at b wr _) (by have := hq3.out; simp only [List.length_cons, List.length_nil]; omega) (by have := hb.out.size; simp; omega) ?_; intro v6 w6 h6 hb6)
          rw [List.append_assoc, show 8 - (j + 1) = 7 - j by omega, ← HSN.out] at h6
          have H6 := hidden h6
          have HB6 := hidden (hb.out.trans (((Below.refl _ _).alloc (by have := hb.out.size; omega) _).trans hb6))
          clear h6 hb6
          go_roundw
          case rel => exact ⟨j, by omega, by go_num, H6, HB6⟩
          case measure => first | (simp [intOf]; done) | (simp [intOf]; omega)
    · have htl := noughts_mid s.size t ht (by omega)
      have HR := hidden hr
      clear hr
      go_wp2_with (at_builtin; refine append_bytes _ rfl (.tmp 40) (.tmp 41) rfl (w.heap.size + 1 + 1 + 1) _ _ [0] rfl (ho.out.of_eq fun k _ hk => Below.heap_alloc wr _ k hk) wr.heap.size 0 1 1 rfl rfl (one_at 0 wr _) (by rw [HQ.out]; simp; omega) (by have := hb.out.size; simp; omega) ?_; intro v6 w6 h6 hb6)
      rw [show L ++ [128] ++ List.replicate t 0 ++ [0] = L ++ [128] ++ List.replicate (t + 1) 0 by rw [List.replicate_succ', List.append_assoc]] at h6
      have H6 := hidden h6
      have HB6 := hidden (hb.out.trans (((Below.refl _ _).alloc (by have := hb.out.size; omega) _).trans hb6))
      obtain ⟨ao2, cap2, hv6, _, _⟩ := h6.at
      have hl6 : lenV v6 = q + 1 := by rw [hv6]; simp [lenV, HN.out]; omega
      clear h6 hb6 hv6
      go_roundw
      case rel => exact ⟨t + 1, htl, H6, HB6⟩
      case measure => rw [hl6]; simp only [lenV]; omega
end Go.Proofs.YtffmldplchlnpaaDoor
