/- smithylaw3.DiskKeeps answers true at every list of things to do, every keep and cut. Conditions: the errors of api lie in their variables; the library's number of bytes lies in its. -/
import Derived.Test.YtahaienalidiiaaDoorDiskKeepIn
import Derived.Test.YtahaienalidiiaaDoorDiskArmsLaw
import Derived.BigQuiet
import Derived.Deep.QuietTactic
import Derived.Deep.RegionLaw
namespace Go.Proofs.YtahaienalidiiaaDoor
open Go.RowKit Go.Maps

theorem sin_begin (w : World) : Sin (((((w.alloc (.cells #[.string (nk 0), .string (nk 1), .string (nk 2)] 9)).alloc (.cells #[.string ⟨#[]⟩] 9)).alloc (.cells #[.string ⟨#[]⟩] 9)).alloc (.cells #[.string ⟨#[]⟩] 9)).alloc (.cells #[.slice (some ⟨w.heap.size + 1, 0, none⟩) 1 1, .slice (some ⟨w.heap.size + 1 + 1, 0, none⟩) 1 1, .slice (some ⟨w.heap.size + 1 + 1 + 1, 0, none⟩) 1 1] 29))
    w.heap.size (fun k => .slice (some ⟨w.heap.size + 1 + k, 0, none⟩) 1 1) (fun _ => [⟨#[]⟩]) := by
  have h0 : ∀ (W : World) (o : Obj) (k : Nat), k < W.heap.size → (W.alloc o).heap[k]? = W.heap[k]? := fun W o k hk => Below.heap_alloc W o k hk
  have hnew : ∀ (W : World) (o : Obj) (k : Nat), k = W.heap.size → (W.alloc o).heap[k]? = some o := fun W o k hk => by subst hk; exact heap_alloc_new W o
  refine ⟨?_, ?_, fun k hk => ?_, fun _ _ => by simp, fun i j hi hj hij => ?_⟩
  · rw [h0 _ _ _ (by simp; omega), h0 _ _ _ (by simp; omega), h0 _ _ _ (by simp; omega), h0 _ _ _ (by simp)]
    exact hnew _ _ _ rfl
  · exact hnew _ _ _ (by simp)
  · refine ⟨by simp, .inr ⟨w.heap.size + 1 + k, 1, #[.string ⟨#[]⟩], rfl, by omega, ?_, by simp, by unfold maxLen; simp, by simp, by simp⟩⟩
    match k, hk with
    | 0, _ =>
      rw [h0 _ _ _ (by simp), h0 _ _ _ (by simp), h0 _ _ _ (by simp)]
      exact hnew _ _ _ (by simp)
    | 1, _ =>
      rw [h0 _ _ _ (by simp), h0 _ _ _ (by simp)]
      exact hnew _ _ _ (by simp)
    | 2, _ =>
      rw [h0 _ _ _ (by simp)]
      exact hnew _ _ _ (by simp)
  · simp only [Value.ownBlock, ne_eq, Option.some.injEq]
    omega
theorem kin_begin : Kin 0 (fun _ => none) (fun _ => none) (fun _ => false) (fun _ => ⟨#[]⟩) (fun _ => [⟨#[]⟩]) :=
  ⟨fun _ _ => rfl, fun _ _ _ => rfl, fun _ _ => Nat.le_refl _, fun _ _ => rfl, fun _ _ => KeepV.none_ (by simp), fun _ _ => rfl, fun _ _ => by simp⟩
theorem Sin.cellv {W : World} {q : Nat} {v : Nat → Value} {S : Nat → List ByteArray} (h : Sin W q v S) (k : Nat) (hk : k < 3) : W.cell? ⟨q + 1 + 1 + 1 + 1, k, none⟩ = some (v k) ∧ W.frozen? ⟨q + 1 + 1 + 1 + 1, k, none⟩ = false :=
  ⟨by rw [cell_of_row W _ k _ _ _ h.outer, three_at v k hk], frozen_of_row W _ k _ _ h.outer⟩
theorem updV_self {α : Type} (f : Nat → α) (k : Nat) : updV f k (f k) = f := by
  funext j
  unfold updV
  split
  · next e => rw [e]
  · rfl
theorem updV_twice {α : Type} (f : Nat → α) (k : Nat) (x y : α) : updV (updV f k x) k y = updV f k y := by
  funext j
  unfold updV
  split <;> rfl
theorem sin_parts {W : World} {q k p : Nat} {u : Nat → Value} {S : Nat → List ByteArray} {x s : ByteArray} (hp : 1 ≤ p) (h : Sin W q u (updV (updV S k (S k ++ parts x s (p - 1))) k ((updV S k (S k ++ parts x s (p - 1))) k ++ [x ++ s.extract 0 p]))) : Sin W q u (updV S k (S k ++ parts x s (p + 1 - 1))) := by
  rw [updV_twice, updV_same, List.append_assoc] at h
  obtain ⟨r, rfl⟩ : ∃ r, p = r + 1 := ⟨p - 1, by omega⟩
  rw [Nat.add_sub_cancel] at h ⊢
  rw [parts_succ]
  exact h
theorem DiskAt.high_ {W W' : World} {B sb fb cb nf nc q : Nat} {F C : ByteArray → Option Value} {ops armed : Int} {down : Bool} (h : DiskAt W B sb fb cb nf nc F C ops armed down) (hb : Below (q + 1) W W') (h1 : sb < q) (h2 : fb < q) (h3 : cb < q) : DiskAt W' B sb fb cb nf nc F C ops armed down :=
  h.of_eq (hb.block _ (by omega)) (hb.block _ (by omega)) (hb.block _ (by omega))
set_option maxRecDepth 100000 in
set_option maxHeartbeats 12800000 in
theorem DiskKeeps_any (A : Nat → Addr) (m : Int) (ao : Option Addr) (cap : Nat) (xs : List DoV) (keep cut : Int) (hk1 : -9223372036854775808 ≤ keep) (hk2 : keep < 9223372036854775808) (hc1 : -9223372036854775808 ≤ cut) (hc2 : cut < 9223372036854775808)
    (w : World) (hm : w.cell? ⟨3, 0, none⟩ = some (.int .i64 m)) (hS : Sent A w) (hX : DosAt w ao xs) :
    Calls Tryd.prog 3 #[.slice ao xs.length cap, .int .i64 keep, .int .i64 cut] w fun e w' => e = .returned (.bool true) ∧ Below w.heap.size w w' := by
  have hwm := World.block_lt_of_cell? w _ hm
  have hwe := World.block_lt_of_cell? w _ hS.g15
  have HF := hid' (first_any A m w hm hS)
  have HM := hid' hm
  have HS := hid' hS
  have HX := hid' hX
  have HKC := hid' (And.intro (And.intro hk1 hk2) (And.intro hc1 hc2))
  clear hm hS hX hk1 hk2 hc1 hc2
  go_enter Tryd.func3, Tryd.ntmps3
  go_wp2_with fail
  refine (HF.out).mono ?_
  rintro e w1 ⟨rfl, hb1⟩
  have hbb := hid' hb1
  by_cases h40 : 40 < xs.length
  · have h40' : (40 : Int) < (xs.length : Int) := by omega
    go_wp2
    go_ret
    exact ⟨rfl, hbb.out⟩
  · have h40' : ¬ (40 : Int) < (xs.length : Int) := by omega
    have s1 := hb1.size
    have HN0 := hid' (new_none w1)
    obtain ⟨B, hB⟩ : ∃ B, w1.heap.size = B := ⟨_, rfl⟩
    rw [hB] at HN0 s1
    obtain ⟨sb, hsb⟩ : ∃ sb, B + 1 + 1 = sb := ⟨_, rfl⟩
    obtain ⟨cb, hcb⟩ : ∃ cb, B + 1 = cb := ⟨_, rfl⟩
    rw [hsb, hcb] at HN0
    have h1sb : B ≤ sb := by omega
    have h1cb : B ≤ cb := by omega
    have HBB := hid' hB
    clear hb1 hB HF hsb hcb
    go_wp2_with fail
    refine (HN0.out).mono ?_
    rintro e w3 ⟨rfl, D3, b3⟩
    have hsl : sb < w3.heap.size := (Array.getElem?_eq_some_iff.1 D3.row).1
    have hfl := D3.files.lt
    have hcl := D3.changed.lt
    have hb3 : Below w.heap.size w w3 := hbb.out.trans (b3.mono s1)
    have s3 := hb3.size
    have HI3 := hid' (sin_begin w3)
    have HD3 : Hid (DiskAt (((((w3.alloc (.cells #[.string (nk 0), .string (nk 1), .string (nk 2)] 9)).alloc (.cells #[.string ⟨#[]⟩] 9)).alloc (.cells #[.string ⟨#[]⟩] 9)).alloc (.cells #[.string ⟨#[]⟩] 9)).alloc (.cells #[.slice (some ⟨w3.heap.size + 1, 0, none⟩) 1 1, .slice (some ⟨w3.heap.size + 1 + 1, 0, none⟩) 1 1, .slice (some ⟨w3.heap.size + 1 + 1 + 1, 0, none⟩) 1 1] 29)) B sb B cb 0 0 (fun _ => none) (fun _ => none) 0 0 false) := hid' (((((D3.alloc _).alloc _).alloc _).alloc _).alloc _)
    have HB3 : Hid (Below w.heap.size w (((((w3.alloc (.cells #[.string (nk 0), .string (nk 1), .string (nk 2)] 9)).alloc (.cells #[.string ⟨#[]⟩] 9)).alloc (.cells #[.string ⟨#[]⟩] 9)).alloc (.cells #[.string ⟨#[]⟩] 9)).alloc (.cells #[.slice (some ⟨w3.heap.size + 1, 0, none⟩) 1 1, .slice (some ⟨w3.heap.size + 1 + 1, 0, none⟩) 1 1, .slice (some ⟨w3.heap.size + 1 + 1 + 1, 0, none⟩) 1 1] 29))) := hid' (((((hb3.alloc s3 _).alloc (by simp; omega) _).alloc (by simp; omega) _).alloc (by simp; omega) _).alloc (by simp; omega) _)
    obtain ⟨q, hq⟩ : ∃ q, w3.heap.size = q := ⟨_, rfl⟩
    unfold nk at HI3 HB3 HD3
    rw [hq] at hsl hfl hcl s3 HI3 HB3 HD3
    have HQ := hid' hq
    clear D3 b3 hb3 HN0 hq
    go_wp2
    rw [HQ.out]
    obtain ⟨w6, hw6⟩ : ∃ w6, (((((w3.alloc (.cells #[.string ⟨#[97]⟩, .string ⟨#[98]⟩, .string ⟨#[99]⟩] 9)).alloc (.cells #[.string ⟨#[]⟩] 9)).alloc (.cells #[.string ⟨#[]⟩] 9)).alloc (.cells #[.string ⟨#[]⟩] 9)).alloc (.cells #[.slice (some ⟨q + 1, 0, none⟩) 1 1, .slice (some ⟨q + 1 + 1, 0, none⟩) 1 1, .slice (some ⟨q + 1 + 1 + 1, 0, none⟩) 1 1] 29)) = w6 := ⟨_, rfl⟩
    rw [hw6] at HI3 HB3 HD3 ⊢
    have hq3 : sb < q ∧ B < q ∧ cb < q := ⟨hsl, hfl, hcl⟩
    clear hw6 HQ hsl hfl hcl
    go_loopw [12] (fun i wr => ∃ (t : Nat) (F C : ByteArray → Option Value) (hv : Nat → Bool) (tx : Nat → ByteArray) (v : Nat → Value) (S : Nat → List ByteArray), t ≤ xs.length ∧ i = .int .i64 t ∧ Hid (DiskAt wr B sb B cb t t F C (t : Int) 0 false) ∧ Hid (Sin wr q v S) ∧ Hid (Kin t F C hv tx S) ∧ Hid (Below w.heap.size w wr)) (fun i _ => xs.length - (intOf i).toNat)
    case atStart => exact ⟨0, _, _, _, _, _, _, Nat.zero_le _, rfl, HD3, HI3, hid' kin_begin, HB3⟩
    case round =>
      clear HI3 HB3 HD3
      obtain ⟨t, F, C, hv, tx, v, S, ht, rfl, hD, hI, hK, hb⟩ := hrel
      have hmr := (hb.out.cell (p := ⟨3, 0, none⟩) hwm).trans HM.out
      by_cases htl : t < xs.length
      · rcases HX.out with h0 | ⟨xb, xo, rfl, xl, xc⟩
        · rw [h0] at htl; exact absurd htl (by simp)
        · obtain ⟨y0, y1, y2, y3, y4⟩ := xc t _ (List.getElem?_eq_getElem htl)
          generalize xs[t] = x at y0 y1 y2 y3 y4
          have y0 := (hb.out.cell (p := ⟨xb, xo + t * 5, none⟩) xl).trans y0
          have y1 := (hb.out.cell (p := ⟨xb, xo + t * 5 + 1, none⟩) xl).trans y1
          have y4 := (hb.out.cell (p := ⟨xb, xo + t * 5 + 4, none⟩) xl).trans y4
          clear xc y2 y3
          have HNum := hid' (number_any x.n 3 (by omega) (by omega) wr)
          go_wp2_with fail
          refine (HNum.out).mono ?_
          rintro e w7 ⟨k, hk3, rfl, rfl⟩
          by_cases hl : 50 < x.t.size
          · have hl' : (50 : Int) < (x.t.size : Int) := by omega
            clear HNum
            go_wp2
            go_ret
            exact ⟨rfl, hb.out⟩
          · have hl' : ¬ (50 : Int) < (x.t.size : Int) := by omega
            obtain ⟨g, gc, n1, hvk, hlen, hg1, hg2, ck, fk, cells⟩ := hI.out.form k hk3
            have cl := cells n1 (tx k) (by have h := hK.out.last k hk3; rwa [List.getLast?_eq_getElem?, hlen, Nat.add_sub_cancel] at h)
            have cn := hI.out.name k hk3
            have hk3' : (k : Int) < 3 := by omega
            have HVK := hid' hvk
            have hn1 : n1 ≤ 3000 := by have h := hK.out.len k hk3; omega
            have HLEN := hid' hlen
            have hsk := hK.out.small k hk3
            have hgk := hK.out.gone k hk3
            have HSG := hid' (And.intro hsk hgk)
            clear HNum cells hvk hlen hsk hgk
            go_wp2_with fail
            go_quiet (fail)
            generalize hwd : w7.drewN nq = wd
            have DD : DiskAt wd B sb B cb t t F C (t : Int) 0 false := by rw [← hwd]; exact hD.out.of_eq rfl rfl rfl
            have SS : Sin wd q v S := by rw [← hwd]; exact hI.out.keep fun _ _ _ => rfl
            have BB : Below w.heap.size w wd := by rw [← hwd]; exact ⟨hb.out.os, hb.out.tape, hb.out.output, hb.out.size, hb.out.block⟩
            have mm : wd.cell? ⟨3, 0, none⟩ = some (.int .i64 m) := by rw [← hwd]; exact hmr
            have y0 : wd.cell? ⟨xb, xo + t * 5, none⟩ = some (.int .i64 x.k) := by rw [← hwd]; exact y0
            have cn := SS.name k hk3
            clear hwd hD hI hb hmr y1 y4 cl ck fk
            have hs3 : (tx k).size ≤ 3000 := by have := HSG.out.1; omega
            obtain ⟨wx, hwx⟩ : ∃ wx : ByteArray, wx = (⟨#[119]⟩ : ByteArray) ++ x.t := ⟨_, rfl⟩
            have hw9 : wx.size ≤ 51 := by rw [hwx, ByteArray.size_append]; show 1 + x.t.size ≤ 51; omega
            have HWX := hid' hwx
            clear hwx
            have HDD := hid' DD
            have HSS := hid' SS
            have HBB2 := hid' BB
            have HMM := hid' mm
            clear DD SS BB mm
            by_cases e1 : x.k = 1
            · rw [e1] at y0
              obtain ⟨nv, hv1, hcall⟩ := set_keep HDD.out (by omega) (by omega) (by omega) (by omega) (by omega) (nk k) (nk_ok k hk3).1 (nk_ok k hk3).2 m HMM.out (tx k) (hv k) (hK.out.file k hk3) HSG.out.2 0 wx wx rfl (by omega) (by omega)
                (hK.out.keep k hk3) (by omega) (by omega) (S' := S k ++ [wx]) (fun y hy => List.mem_append_left _ hy) (by simp) (fun h => absurd h (by decide))
              have HW := hid' (write_any sb (nk k) wx .nilIface wd hcall)
              have HKK : Hid (Kin (t + 1) (putF F (nk k) (cont wx true)) (putF C (nk k) nv) (updV hv k true) (updV tx k wx) (updV S k (S k ++ [wx]))) := hid' (hK.out.step k hk3 true _ _ (putF_same _ _ _) (fun key h => putF_other _ _ h) (fun key h => putF_other _ _ h) (fun h => by cases h) (by omega) (by simp) (by rw [putF_same]; exact hv1) (by have := hK.out.len k hk3; rw [List.length_append, List.length_singleton]; omega))
              obtain rfl := HWX.out
              clear hcall hv1 hs3 hw9 HWX
              go_wp2_with fail
              refine (HW.out).mono ?_
              rintro e w8 ⟨rfl, D8, T8⟩
              have S8 := HSS.out.tri T8 hq3.1 hq3.2.1 hq3.2.2
              have B8 := Tri.below HBB2.out T8 (by omega) (by omega) (by omega) HBB2.out.size
              obtain ⟨ck, fk⟩ := S8.cellv k hk3
              rw [HVK.out] at ck
              have HS8 := hid' S8
              have HB8 := hid' B8
              have HD8 := hid' D8
              clear S8 B8 D8 T8 HW HDD HSS HBB2 HMM
              go_wp2_with (at_builtin; refine push_plain HS8.out k hk3 _ (by have := HLEN.out; omega) rfl (.tmp 110) (.tmp 113) (by rfl) (by exact HVK.out.symm) (by rfl) ?_; intro g2 n2 c2 w9 p1 p2 p3 p4; have HP3 := hid' p3; have HP4 := hid' p4; clear p3 p4)
              go_roundw
              case rel => exact ⟨t + 1, _, _, _, _, _, _, by omega, by go_num, hid' (by rw [show ((t + 1 : Nat) : Int) = (t : Int) + 1 by omega]; exact HD8.out.high_ HP4.out hq3.1 hq3.2.1 hq3.2.2), HP3, HKK, hid' (HB8.out.trans (HP4.out.mono (by omega)))⟩
              case measure => simp [intOf]; omega
            · by_cases e2 : x.k = 2
              · rw [e2] at y0
                have hlx : x.t.size ≤ 50 := by omega
                obtain ⟨nv, hv1, hcall⟩ := set_keep HDD.out (by omega) (by omega) (by omega) (by omega) (by omega) (nk k) (nk_ok k hk3).1 (nk_ok k hk3).2 m HMM.out (tx k) (hv k) (hK.out.file k hk3) HSG.out.2 1 x.t (tx k ++ x.t) rfl (by omega) (by rw [ByteArray.size_append]; omega)
                  (hK.out.keep k hk3) (by omega) (by omega) (S' := S k ++ parts (tx k) x.t x.t.size) (fun y hy => List.mem_append_left _ hy) (List.mem_of_getLast? (parts_last _ _ _ (hK.out.last k hk3))) (fun _ n h1 h2 => List.mem_append_right _ (parts_mem _ _ _ n h1 (by omega)))
                have HW := hid' (append_any sb (nk k) x.t .nilIface wd hcall)
                have HKK : Hid (Kin (t + 1) (putF F (nk k) (cont (tx k ++ x.t) true)) (putF C (nk k) nv) (updV hv k true) (updV tx k (tx k ++ x.t)) (updV S k (S k ++ parts (tx k) x.t x.t.size))) := hid' (hK.out.step k hk3 true _ _ (putF_same _ _ _) (fun key h => putF_other _ _ h) (fun key h => putF_other _ _ h) (fun h => by cases h) (by have := HSG.out.1; rw [ByteArray.size_append]; omega) (parts_last _ _ _ (hK.out.last k hk3)) (by rw [putF_same]; exact hv1) (by have := hK.out.len k hk3; rw [List.length_append, parts_len]; omega))
                clear hcall hv1 hs3 hw9 HWX
                go_wp2_with fail
                refine (HW.out).mono ?_
                rintro e w8 ⟨rfl, D8, T8⟩
                have HS8 := hid' (HSS.out.tri T8 hq3.1 hq3.2.1 hq3.2.2)
                have HB8 := hid' (Tri.below HBB2.out T8 (by omega) (by omega) (by omega) HBB2.out.size)
                have HD8 : Hid (DiskAt w8 B sb B cb (t + 1) (t + 1) (putF F (nk k) (cont (tx k ++ x.t) true)) (putF C (nk k) nv) ((t + 1 : Nat) : Int) 0 false) := hid' (by rw [show ((t + 1 : Nat) : Int) = (t : Int) + 1 by omega]; exact D8)
                clear D8 T8 HW HDD HSS HBB2 HMM
                go_wp2
                go_loopw [16] (fun i2 wl => ∃ (p : Nat) (vv : Nat → Value), 1 ≤ p ∧ p ≤ x.t.size + 1 ∧ i2 = .int .i64 p ∧ Hid (Sin wl q vv (updV S k (S k ++ parts (tx k) x.t (p - 1)))) ∧ Hid (DiskAt wl B sb B cb (t + 1) (t + 1) (putF F (nk k) (cont (tx k ++ x.t) true)) (putF C (nk k) nv) ((t + 1 : Nat) : Int) 0 false) ∧ Hid (Below w.heap.size w wl)) (fun i2 _ => x.t.size + 1 - (intOf i2).toNat)
                case atStart => exact ⟨1, v, by omega, by omega, rfl, hid' (by rw [show S k ++ parts (tx k) x.t (1 - 1) = S k from by simp [parts], updV_self]; exact HS8.out), HD8, HB8⟩
                case round =>
                  clear HS8 HD8 HB8
                  obtain ⟨p, vv, hp1, hp2, rfl, hs, hd, hbl⟩ := hrel
                  obtain ⟨wl, rfl⟩ : ∃ wl : World, wl = wr := ⟨_, rfl⟩
                  by_cases hpl : p ≤ x.t.size
                  · obtain ⟨g3, gc3, n3, hv3, hl3, _, _, ck, fk, _⟩ := hs.out.form k hk3
                    have HV3 := hid' hv3
                    have hadd : ¬ 9223372036854775807 < (tx k).size + p := by have := HSG.out.1; omega
                    have hl9 : ((updV S k (S k ++ parts (tx k) x.t (p - 1))) k).length < 1000000 := by
                      have := hK.out.len k hk3
                      rw [updV_same, List.length_append, parts_len]; omega
                    have hpl' : (p : Int) ≤ (x.t.size : Int) := by omega
                    have HL9 := hid' hl9
                    have hnw := World.new_ne wl _ ck
                    have hqh := (Array.getElem?_eq_some_iff.1 hs.out.outer).1
                    clear hv3 hl3 hl9
                    go_wp2_with fail
                    go_region_law (refine push_drawn (W := wl.drew) (hs.out.keep fun _ _ _ => rfl) k hk3 (tx k ++ x.t.extract 0 p) HL9.out rfl (.tmp 136) (.tmp 142) (by rfl) (by first | exact HV3.out.symm | (simp [Act.eval]; exact HV3.out.symm)) (by first | rfl | simp [Act.eval]) ?_; intro g2 n2 c2 w9 p1 p2 p3 p4)
                    all_goals (
                      have p4' : Below (q + 1) wl _ := ⟨p4.os, p4.tape, p4.output, p4.size, p4.block⟩
                      have HP3 := hid' (sin_parts hp1 p3)
                      have HP4 := hid' p4'
                      clear p3 p4 p4'
                      go_wp2
                      go_roundw
                      case rel => exact ⟨p + 1, _, by omega, by omega, by go_num, HP3, hid' (hd.out.high_ HP4.out hq3.1 hq3.2.1 hq3.2.2), hid' (hbl.out.trans (HP4.out.mono (by omega)))⟩
                      case measure => simp [intOf]; omega)
                  · obtain rfl : p = x.t.size + 1 := by omega
                    go_wp2
                    go_roundw
                    case rel => exact ⟨t + 1, _, _, _, _, _, _, by omega, by go_num, hd, hs, HKK, hbl⟩
                    case measure => simp [intOf]; omega
              · by_cases e3 : x.k = 3
                · rw [e3] at y0
                  obtain ⟨C', hC', hv1, hcall⟩ := drop_keep HDD.out (by omega) (by omega) (by omega) (by omega) (nk k) (nk_ok k hk3).1 (nk_ok k hk3).2 m HMM.out (tx k) (hv k) (hK.out.file k hk3) HSG.out.2 (by omega)
                    (hK.out.keep k hk3) (by omega) (S' := S k ++ [⟨#[]⟩]) (fun y hy => List.mem_append_left _ hy) (by simp)
                  have HW := hid' (remove_any sb (nk k) .nilIface wd hcall)
                  have HKK : Hid (Kin (t + 1) (delF F (nk k)) C' (updV hv k false) (updV tx k ⟨#[]⟩) (updV S k (S k ++ [⟨#[]⟩]))) := hid' (hK.out.step k hk3 false _ _ (delF_same _ _) (fun key h => delF_other _ h) (fun key h => hC' key h) (fun _ => rfl) (by show 0 ≤ _; omega) (by simp) hv1 (by have := hK.out.len k hk3; rw [List.length_append, List.length_singleton]; omega))
                  clear hcall hv1 hs3 hw9 HWX hC'
                  go_wp2_with fail
                  refine (HW.out).mono ?_
                  rintro e w8 ⟨rfl, D8, T8⟩
                  have S8 := HSS.out.tri T8 hq3.1 hq3.2.1 hq3.2.2
                  obtain ⟨ck, fk⟩ := S8.cellv k hk3
                  rw [HVK.out] at ck
                  have HS8 := hid' S8
                  have HB8 := hid' (Tri.below HBB2.out T8 (by omega) (by omega) (by omega) HBB2.out.size)
                  have HD8 : Hid (DiskAt w8 B sb B cb (t + 1) (t + 1) (delF F (nk k)) C' ((t + 1 : Nat) : Int) 0 false) := hid' (by rw [show ((t + 1 : Nat) : Int) = (t : Int) + 1 by omega]; exact D8.up (by omega) (by omega))
                  clear S8 D8 T8 HW HDD HSS HBB2 HMM
                  go_wp2_with (at_builtin; refine push_plain HS8.out k hk3 _ (by have := HLEN.out; omega) rfl (.tmp 158) (.tmp 159) (by rfl) (by exact HVK.out.symm) (by rfl) ?_; intro g2 n2 c2 w9 p1 p2 p3 p4; have HP3 := hid' p3; have HP4 := hid' p4; clear p3 p4)
                  go_roundw
                  case rel => exact ⟨t + 1, _, _, _, _, _, _, by omega, by go_num, hid' (HD8.out.high_ HP4.out hq3.1 hq3.2.1 hq3.2.2), HP3, HKK, hid' (HB8.out.trans (HP4.out.mono (by omega)))⟩
                  case measure => simp [intOf]; omega
                · have f1 : (x.k == 1) = false := by rw [beq_eq_false_iff_ne]; exact e1
                  have f2 : (x.k == 2) = false := by rw [beq_eq_false_iff_ne]; exact e2
                  have f3 : (x.k == 3) = false := by rw [beq_eq_false_iff_ne]; exact e3
                  have HW := hid' (sync_up HDD.out (by omega) (by omega) (by omega) (by decide) (by decide) (by decide) (nk k) (nk_ok k hk3).1 (nk_ok k hk3).2 m HMM.out)
                  have HKK : Hid (Kin (t + 1) F (delF C (nk k)) (updV hv k (hv k)) (updV tx k (tx k)) (updV S k [tx k])) := hid' (hK.out.step k hk3 (hv k) (tx k) [tx k] (hK.out.file k hk3) (fun _ _ => rfl) (fun key h => delF_other _ h) HSG.out.2 (by have := HSG.out.1; omega) rfl (by rw [delF_same]; exact KeepV.none_ (by simp)) (by simp))
                  clear e1 e2 e3 hs3 hw9 HWX
                  go_wp2_with fail
                  refine (HW.out).mono ?_
                  rintro e w8 ⟨rfl, D8, T8⟩
                  have S8 := HSS.out.tri T8 hq3.1 hq3.2.1 hq3.2.2
                  obtain ⟨ck, fk, hs8⟩ := S8.reset k hk3 (tx k)
                  rw [HVK.out] at ck
                  have hq8 := (Array.getElem?_eq_some_iff.1 S8.outer).1
                  have hcm := World.setCell_alloc_past (w := w8) (.cells #[.string (tx k)] 9) (q + 1 + 1 + 1 + 1) k (.slice (some ⟨w8.heap.size, 0, none⟩) 1 1) hq8
                  rw [hcm] at hs8
                  have HS8 := hid' hs8
                  have B8 := Tri.below HBB2.out T8 (by omega) (by omega) (by omega) HBB2.out.size
                  have HB8 := hid' ((B8.alloc B8.size (.cells #[.string (tx k)] 9)).setCell (p := ⟨q + 1 + 1 + 1 + 1, k, none⟩) (by simp only; omega) (.slice (some ⟨w8.heap.size, 0, none⟩) 1 1))
                  have D8' : DiskAt w8 B sb B cb (t + 1) (t + 1) F (delF C (nk k)) ((t + 1 : Nat) : Int) 0 false := by rw [show ((t + 1 : Nat) : Int) = (t : Int) + 1 by omega]; exact D8.up (by omega) (by omega)
                  have HD8 := hid' ((D8'.alloc (.cells #[.string (tx k)] 9)).high_ (q := q) (((Below.refl (q + 1) _)).setCell (p := ⟨q + 1 + 1 + 1 + 1, k, none⟩) (by simp only; omega) (.slice (some ⟨w8.heap.size, 0, none⟩) 1 1)) hq3.1 hq3.2.1 hq3.2.2)
                  rw [hcm] at HD8 HB8
                  clear S8 D8 D8' T8 HW HDD HSS HBB2 HMM hs8 B8 hcm
                  go_wp2
                  go_roundw
                  case rel => exact ⟨t + 1, _, _, _, _, _, _, by omega, by go_num, HD8, HS8, HKK, HB8⟩
                  case measure => simp [intOf]; omega
      · obtain rfl : t = xs.length := by omega
        have HA := hid' (arm_any hD.out 1)
        have HDOWN := hid' ((HS.out.below hb.out).g15)
        clear hmr
        go_wp2_with fail
        refine (HA.out).mono ?_
        rintro e w7 ⟨rfl, D7, T7⟩
        have B7 := Tri.below hb.out T7 (by omega) (by omega) (by omega) hb.out.size
        have HSY := hid' (sync_last A D7 (by omega) (by omega) (by omega) ⟨#[97]⟩ (HS.out.below B7).g15)
        have HT7 := hid' T7
        clear D7 T7 B7 HA HDOWN hD
        go_wp2_with fail
        refine (HSY.out).mono ?_
        rintro e w8 ⟨rfl, D8, T8⟩
        have HT8 := hid' (HT7.out.trans T8)
        have hshort := KC_short C
        have HR := hid' (rise_any D8 (KC C) (KC_nodup C) (KC_mem hK.out.only) hshort.1 (by omega) (by omega) (by omega) 4000 (by omega) (fun key s => ∀ j, j < 3 → key = nk j → s ∈ S j) keep cut HKC.out.1.1 HKC.out.1.2 HKC.out.2.1 HKC.out.2.2 (fun key u hu => by
          have hkey : ∃ j, j < 3 ∧ key = nk j := by
            by_cases h : ∃ j, j < 3 ∧ key = nk j
            · exact h
            · have := hK.out.only key (fun k hk e => h ⟨k, hk, e⟩)
              rw [this] at hu
              cases hu
          obtain ⟨j, hj, rfl⟩ := hkey
          obtain ⟨y, cs, a1, a2, a3, a4⟩ := (hK.out.keep j hj).2 u hu
          refine ⟨y, cs, a1, a2, a3, fun stand i hi e => ?_⟩
          by_cases hij : i = j
          · subst hij; exact a4.stand stand cut
          · exact absurd e (nk_ne hj hi (Ne.symm hij))))
        clear D8 T8 HSY HT7 hshort
        go_wp2_with fail
        refine (HR.out).mono ?_
        rintro e w9 ⟨rfl, F', hF', D9, T9⟩
        have hread : ∀ j, j < 3 → ∃ s b, F' (nk j) = optF b s ∧ (b = false → s = ⟨#[]⟩) ∧ s ∈ S j := fun j hj => by
          by_cases hc : C (nk j) = none
          · exact ⟨tx j, hv j, by rw [(hF' _).1 hc]; exact hK.out.file j hj, hK.out.gone j hj, (hK.out.keep j hj).1⟩
          · obtain ⟨s, b, h1, h2, h3⟩ := (hF' _).2 hc
            exact ⟨s, b, h1, h2, h3 j hj rfl⟩
        have HREAD := hid' hread
        have T19 := HT8.out.trans T9
        have HI9 := hid' (hI.out.tri T19 hq3.1 hq3.2.1 hq3.2.2)
        have HB9 := hid' (Tri.below hb.out T19 (by omega) (by omega) (by omega) hb.out.size)
        have HD9 : Hid (DiskAt w9 B sb B cb (xs.length + (KC C).length) 0 F' (fun _ => none) ((xs.length : Int) + 1 + ((0 : Nat) : Int)) 0 false) := hid' (by simpa using D9)
        have HLS := hid' hK.out.len
        clear hread hF' D9 T9 T19 HT8 HR hI hK hb
        generalize xs.length + (KC C).length = nf at HD9
        go_wp2
        go_loopw [17] (fun i wr => ∃ j : Nat, j ≤ 3 ∧ i = .int .i64 j ∧ Hid (DiskAt wr B sb B cb nf 0 F' (fun _ => none) ((xs.length : Int) + 1 + (j : Int)) 0 false) ∧ Hid (Sin wr q v S) ∧ Hid (Below w.heap.size w wr)) (fun i _ => 3 - (intOf i).toNat)
        case atStart => exact ⟨0, by omega, rfl, HD9, HI9, HB9⟩
        case round =>
          clear HI9 HB9 HD9
          obtain ⟨j, hj, rfl, hd, hi, hbr⟩ := hrel
          by_cases hj3 : j < 3
          · have hj3' : (j : Int) < 3 := by omega
            obtain ⟨s, b, r1, r2, r3⟩ := HREAD.out j hj3
            have HRD := hid' (read_up hd.out (by omega) (by omega) (by decide) (by decide) (by decide) (nk j) (nk_ok j hj3).1 s b (by rw [r1]; exact optF_getD b s r2))
            have cn := hi.out.name j hj3
            have HR3 := hid' r3
            clear r1 r2 r3
            go_wp2_with fail
            refine (HRD.out).mono ?_
            rintro e w10 ⟨rfl, D10, T10⟩
            have I10 := hi.out.tri T10 hq3.1 hq3.2.1 hq3.2.2
            obtain ⟨ck, _⟩ := I10.cellv j hj3
            obtain ⟨ao2, cap2, hvj, htx⟩ := txs_of (I10.rows j hj3)
            rw [hvj] at ck
            have HAM := hid' (among_any ao2 cap2 (S j) s w10 (by have := HLS.out j hj3; omega) htx)
            have hge := amI_in HR3.out
            have hge' : ¬ amI (S j) s < 0 := by omega
            have HI10 := hid' I10
            have HD10 : Hid (DiskAt w10 B sb B cb nf 0 F' (fun _ => none) ((xs.length : Int) + 1 + ((j + 1 : Nat) : Int)) 0 false) := hid' (by rw [show (xs.length : Int) + 1 + ((j + 1 : Nat) : Int) = (xs.length : Int) + 1 + (j : Int) + 1 by omega]; exact D10)
            have HB10 := hid' (Tri.below hbr.out T10 (by omega) (by omega) (by omega) hbr.out.size)
            clear I10 D10 T10 htx hvj HRD cn
            generalize amI (S j) s = z at HAM hge hge'
            go_wp2_with fail
            refine (HAM.out).mono ?_
            rintro e w11 ⟨rfl, rfl⟩
            go_wp2
            go_roundw
            case rel => exact ⟨j + 1, by omega, by go_num, HD10, HI10, HB10⟩
            case measure => simp [intOf]; omega
          · obtain rfl : j = 3 := by omega
            have HDN := hid' (down_any hd.out)
            go_wp2_with fail
            refine (HDN.out).mono ?_
            rintro e w11 ⟨rfl, rfl⟩
            go_wp2
            go_ret
            exact ⟨rfl, hbr.out⟩
end Go.Proofs.YtahaienalidiiaaDoor
