/- What path.Glob answers at every list of patterns and of paths: the first pattern's error, or those of the paths, sorted, each once, that are wanted. Conditions: internal/bytealg.MaxLen holds some number, smithy/api.ErrPath an error; texts of fewer than 2^31 bytes, fewer than 2^30 of them. -/
import Derived.Test.YteokigpeaggemaaDoorTidy
namespace Go.Proofs.YteokigpeaggemaaDoor
open Go.RowKit

def toB (q : List UInt8) : ByteArray := ⟨q.toArray⟩
theorem toB_list (q : List UInt8) : (toB q).data.toList = q := by simp [toB]
theorem toB_data (y : ByteArray) : toB y.data.toList = y := by simp [toB]
theorem owns_below {B : Nat} {e : TypeId} {k : Nat} {v : Value} {n : Nat} {xs : List Value} {w w' : World} (h : w.ownsRow B e k v n xs) (hb : Below w.heap.size w w') : w'.ownsRow B e k v n xs := by
  refine ⟨h.1, h.2.imp id ?_⟩
  rintro ⟨g, cap, cur, h1, h2, h3, h4⟩
  exact ⟨g, cap, cur, h1, h2, (hb.block g (Array.getElem?_eq_some_iff.1 h3).1).trans h3, h4⟩
/-- Is a text one of the paths that are wanted? -/
def want8 (l but : List ByteArray) (q : List UInt8) : Bool := Pth.splitOK Pth.partOK q && (anyB l (toB q) && !anyB but (toB q))
def tidy8 (xs : List ByteArray) : List (List UInt8) := Lib.compact (sorted8 (xs.map (·.data.toList)))
def globB (l but xs : List ByteArray) : List ByteArray := ((tidy8 xs).filter (want8 l but)).map toB
def badAt (ys : List ByteArray) (k : Nat) : Prop := ∃ h : k < ys.length, patsOK ys k ∧ Pth.splitOK Pth.patOK ys[k].data.toList = false
def globPost (l but xs : List ByteArray) (ev : Value) (w : World) (e : Ending) (w' : World) : Prop :=
  (patsOK l l.length ∧ patsOK but but.length ∧ (∃ ao cap, e = .returned (.tuple #[.slice ao (globB l but xs).length cap, .nilIface]) ∧ SliceOf w' ao cap (globB l but xs)) ∧ Below w.heap.size w w') ∨
  (∃ k : Nat, badAt (l ++ but) k ∧ (∃ v, e = .returned (.tuple #[.slice none 0 0, v]) ∧ PlacedAt w' w.heap.size v (k : Int) ev) ∧ Below w.heap.size w w')

theorem mem_compact {ls : List (List UInt8)} {q : List UInt8} (h : q ∈ Lib.compact ls) : q ∈ ls := by
  unfold Lib.compact Lib.compactUpTo at h
  obtain ⟨j, hj, rfl⟩ := List.mem_map.1 h
  have hj' : j < ls.length := by simpa using (List.mem_filter.1 hj).1
  rw [getElem!_pos _ _ (by simpa using hj')]
  simp
theorem mem_tidy {xs : List ByteArray} {q : List UInt8} (h : q ∈ tidy8 xs) : ∃ x ∈ xs, q = x.data.toList := by
  have h1 := mem_compact h
  unfold sorted8 at h1
  rw [List.mem_mergeSort, List.mem_map] at h1
  obtain ⟨x, hx, rfl⟩ := h1
  exact ⟨x, hx, rfl⟩
theorem tidy_len (xs : List ByteArray) : (tidy8 xs).length ≤ xs.length := by
  have := compact_le (sorted8 (xs.map (·.data.toList)))
  simpa [tidy8, sorted8, List.length_mergeSort] using this
theorem filter_snoc {α : Type} (f : α → Bool) (cs : List α) (k : Nat) (h : k < cs.length) : (cs.take (k + 1)).filter f = (cs.take k).filter f ++ if f cs[k] then [cs[k]] else [] := by
  rw [List.take_succ_eq_append_getElem h, List.filter_append]
  congr 1
  by_cases e : f cs[k] <;> simp [e]
theorem patsOK_len {xs : List ByteArray} (h : patsOK xs xs.length) (j : Nat) (hj : j < xs.length) : xs[j].size ≤ 200 := by
  have := splitOK_len (h j hj hj)
  rw [Lib.size_eq]; exact this
theorem patsOK_append {l but : List ByteArray} {k : Nat} (h1 : patsOK l l.length) (h2 : patsOK but k) : patsOK (l ++ but) (l.length + k) := by
  intro j hj hk
  by_cases e : j < l.length
  · rw [List.getElem_append_left e]; exact h1 j e e
  · rw [List.getElem_append_right (by omega)]; exact h2 (j - l.length) (by simp at hj; omega) (by omega)
theorem info_text : (Tryd.prog.info? 9).map (fun i => (i.zero, i.size, i.bytes)) = some (some (.string ⟨#[]⟩), 1, 16) := by kernel_rfl
theorem sliceOf_owns {W : World} {B : Nat} {v : Value} {ys : List ByteArray} (h : W.ownsRow B 9 1 v ys.length (ys.map Value.string)) : ∃ ao cap, v = .slice ao ys.length cap ∧ SliceOf W ao cap ys := by
  rcases h.2 with ⟨rfl, h0⟩ | ⟨g, cap, cur, rfl, hg, hh, hn, _⟩
  · obtain rfl : ys = [] := List.eq_nil_of_length_eq_zero h0
    exact ⟨none, 0, rfl, .inl rfl⟩
  · refine ⟨_, cap, rfl, .inr ⟨g, 0, rfl, hn, (h.lt g rfl).2, fun j z hz => ?_⟩⟩
    have hj : j < ys.length := (List.getElem?_eq_some_iff.1 hz).1
    rw [Nat.zero_add, h.cellAt j (by omega)]
    rw [List.getElem?_map, hz]
    rfl

set_option maxRecDepth 100000 in
set_option maxHeartbeats 1000000 in
theorem Glob_any (et : TypeId) (ex : Value) (a1 a2 a3 : Option Addr) (c1 c2 c3 : Nat) (l but xs : List ByteArray) (w : World) (hn1 : l.length < 1073741824) (hn2 : but.length < 1073741824) (hn3 : xs.length < 1073741824)
    (hl : ∀ x ∈ l, x.size < 2147483648) (hbut : ∀ x ∈ but, x.size < 2147483648) (hxs : ∀ x ∈ xs, x.size < 2147483648)
    (h1 : SliceOf w a1 c1 l) (h2 : SliceOf w a2 c2 but) (h3 : SliceOf w a3 c3 xs) (hR : Ready (.iface et ex) w) :
    Calls Tryd.prog 28 #[.slice a1 l.length c1, .slice a2 but.length c2, .slice a3 xs.length c3] w (globPost l but xs (.iface et ex) w) := by
  obtain ⟨i0, hi, hz0, hz1, hz2⟩ := info_parts info_text
  have HL := Lib.hid hl
  have HBU := Lib.hid hbut
  have HX := Lib.hid hxs
  have H1 := Lib.hid h1
  have H2 := Lib.hid h2
  have H3 := Lib.hid h3
  have HR := Lib.hid hR
  clear hl hbut hxs h1 h2 h3 hR
  obtain ⟨cs, hcs0⟩ : ∃ cs, tidy8 xs = cs := ⟨_, rfl⟩
  have hcs := Lib.hid hcs0
  clear hcs0
  go_enter Tryd.func28, Tryd.ntmps28
  go_wp2_with fail
  refine (splitPatterns_any et ex 0 a1 c1 l w (by omega) (by omega) HL.out H1.out HR.out).mono ?_
  rintro e w1 (⟨hok, ⟨ao, cap, rfl, hat⟩, hb⟩ | ⟨k, hk, hok, hno, ⟨v, rfl, b, rfl, hbw, hblk⟩, hb⟩)
  · have OK1 := Lib.hid hok
    have AT1 := Lib.hid hat
    have B1 := Lib.hid hb
    clear hok hat hb
    go_wp2_with fail
    refine (splitPatterns_any et ex (l.length : Int) a2 c2 but w1 (by omega) (by omega) HBU.out (H2.out.below B1.out) (HR.out.below B1.out)).mono ?_
    rintro e w2 (⟨hok, ⟨ao2, cap2, rfl, hat⟩, hb⟩ | ⟨k, hk, hok, hno, ⟨v, rfl, b, rfl, hbw, hblk⟩, hb⟩)
    · have OK2 := Lib.hid hok
      have AT2 := Lib.hid hat
      have AT1' := Lib.hid (AT1.out.below hb)
      have B2 := Lib.hid (B1.out.trans (hb.mono B1.out.size))
      clear hok hat hb AT1 B1
      have hz2' := B2.out.size
      go_wp2_with fail
      refine (Clone_slice a3 c3 xs w2 (by omega) (H3.out.below B2.out)).mono ?_
      rintro e w3 ⟨a4, c4, rfl, hf, hb⟩
      have F3 := Lib.hid hf
      have B3 := Lib.hid hb
      have hz3 := hb.size
      clear hf hb
      go_wp2_with fail
      refine (Sort_slice w2.heap.size a4 xs.length c4 (xs.map (·.data.toList)) w3 (List.length_map ..) (by omega) hz3 F3.out).mono ?_
      rintro e w4 ⟨rfl, hf, hb, hz4⟩
      have F4 := Lib.hid hf
      have B4 := Lib.hid (B3.out.trans hb)
      clear hf hb F3 B3
      go_wp2_with fail
      refine (Compact_slice w2.heap.size a4 xs.length c4 (sorted8 (xs.map fun x : ByteArray => x.data.toList)) cs w4 hcs.out (by simp [sorted8, List.length_mergeSort]) (by omega) F4.out).mono ?_
      rintro e w5 ⟨rfl, hf, hb, hz5⟩
      have F5 := Lib.hid hf
      have B5 := Lib.hid (B4.out.trans hb)
      clear hf hb F4 B4
      have hcl : cs.length ≤ xs.length := by rw [← hcs.out]; exact tidy_len xs
      have hw5 : w2.heap.size ≤ w5.heap.size := by omega
      clear hz3 hz4 hz5
      go_wp2_with fail
      go_loopw [12, 42] (fun v i wr => ∃ k : Nat, ∃ fs : List ByteArray, k ≤ cs.length ∧ i = .int .i64 k ∧ Hid (fs = ((cs.take k).filter (want8 l but)).map toB) ∧ fs.length ≤ k ∧ wr.ownsRow w5.heap.size 9 1 v fs.length (fs.map Value.string) ∧ Below w5.heap.size w5 wr ∧ w5.heap.size ≤ wr.heap.size) (fun _ i _ => cs.length - (intOf i).toNat)
      case atStart => exact ⟨0, [], Nat.zero_le _, rfl, Lib.hid rfl, Nat.zero_le _, World.ownsRow_nil _ _ _ _, Below.refl _ _, Nat.le_refl _⟩
      case round =>
        obtain ⟨k, fs, hk, rfl, hfs, hfk, hown, hb, hsz⟩ := hrel
        by_cases hlt : k < cs.length
        · obtain ⟨g, rfl, hg1, hg2, hg3, hcell0⟩ := F5.out.cell (by omega)
          obtain ⟨x, hx⟩ : ∃ x, toB cs[k] = x := ⟨_, rfl⟩
          have hcell : wr.cell? ⟨g, k, none⟩ = some (.string x) := by rw [← hx]; exact (hb.cell (p := ⟨g, k, none⟩) hg2).trans (hcell0 k hlt)
          have hxs : x.size < 2147483648 := by
            obtain ⟨y, hy, e⟩ := mem_tidy (xs := xs) (by rw [hcs.out]; exact List.getElem_mem hlt)
            have := HX.out y hy
            rw [← hx, e, toB_data]; exact this
          have hxl : cs[k] = x.data.toList := by rw [← hx, toB_list]
          have hsn : Hid (((cs.take (k + 1)).filter (want8 l but)).map toB = fs ++ if want8 l but cs[k] then [x] else []) := Lib.hid (by
            rw [filter_snoc _ _ _ hlt, List.map_append, ← hfs.out]
            congr 1
            by_cases e : want8 l but cs[k] <;> simp [e, hx])
          have HW : Hid (want8 l but cs[k] = (Pth.splitOK Pth.partOK x.data.toList && (anyB l x && !anyB but x))) := Lib.hid (by unfold want8; rw [hx, hxl])
          have BB := Lib.hid (B5.out.trans (hb.mono hw5))
          have hRr := (HR.out.below B2.out).below (BB.out.mono (Nat.le_refl _))
          obtain ⟨m, hm⟩ := hRr.len
          have Hp : Hid (∀ q : List UInt8, q.length ≤ 200 → Calls Tryd.prog 36 #[.string ⟨q.toArray⟩] (wr.alloc (pieces x)) fun e w' => e = .returned (.bool (Pth.partOK q)) ∧ wr.alloc (pieces x) = w') :=
            Lib.hid fun q hq => by
              obtain ⟨m', hm'⟩ := (hRr.alloc (pieces x)).len
              exact isPart_any ⟨q.toArray⟩ m' _ (by show q.toArray.size < _; simp; omega) hm'
          have HS := Lib.hid (split_any 36 Pth.partOK (enters_of Tryd.func36 (by kernel_rfl) rfl) x m wr (by omega) hm Hp)
          clear hcell0 hx hxl hm Hp hRr
          go_wp2_with fail
          refine HS.out.mono ?_
          rintro e w6 (⟨h, rfl, rfl⟩ | ⟨h, rfl, hw⟩)
          · have H := Lib.hid h
            have hx2 : x.size ≤ 200 := by have := splitOK_len h; rw [Lib.size_eq]; exact this
            have BA : Below wr.heap.size wr (wr.alloc (pieces x)) := (Below.refl _ _).alloc (Nat.le_refl _) _
            have hblk : (wr.alloc (pieces x)).heap[wr.heap.size]? = some (pieces x) := World.alloc_heap_new wr _
            have hsa : (wr.alloc (pieces x)).heap.size = wr.heap.size + 1 := by simp
            have BA2 := BB.out.trans (BA.mono (Nat.le_trans hw5 hsz))
            have HM1 := Lib.hid (matchAny_any l x ao cap wr.heap.size (wr.alloc (pieces x)) (by omega) (patsOK_len OK1.out) hx2 (AT1'.out.below BA2) hblk)
            have HM2 : Hid (∀ W, Below (wr.heap.size + 1) (wr.alloc (pieces x)) W → Calls Tryd.prog 53 #[.slice ao2 but.length cap2, partsV wr.heap.size x] W (saysB W.heap.size W (anyB but x))) :=
              Lib.hid fun W hW => matchAny_any but x ao2 cap2 wr.heap.size W (by omega) (patsOK_len OK2.out) hx2 (AT2.out.below (BA2.trans (hW.mono (by omega)))) ((hW.block _ (by omega)).trans hblk)
            have OWN := Lib.hid (fun W (hW : Below wr.heap.size wr W) => owns_below hown hW)
            have BR : Hid (∀ W, Below wr.heap.size wr W → Below w5.heap.size w5 W) := Lib.hid fun W hW => hb.trans (hW.mono hsz)
            have BA' := Lib.hid BA
            clear h HS hblk hown hb BA BA2 hcell
            rw [hsa] at HM1
            unfold partsV at HM1 HM2
            cases h1 : anyB l x
            · have H1 := Lib.hid h1
              rw [h1] at HM1
              clear h1
              go_wp2_with fail
              refine HM1.out.mono ?_
              rintro e w7 ⟨rfl, hb7⟩
              have B7 := Lib.hid (BA'.out.trans (hb7.mono (by omega)))
              have hz7 := B7.out.size
              clear hb7
              go_wp2_with fail
              go_roundw
              case rel => exact ⟨k + 1, fs, by omega, by go_num, Lib.hid (by rw [hsn.out, HW.out, H.out, H1.out]; simp), by omega, OWN.out w7 B7.out, BR.out w7 B7.out, by omega⟩
              case measure => simp [intOf]; omega
            · have H1 := Lib.hid h1
              rw [h1] at HM1
              clear h1
              go_wp2_with fail
              refine HM1.out.mono ?_
              rintro e w7 ⟨rfl, hb7⟩
              have B7 := Lib.hid (BA'.out.trans (hb7.mono (by omega)))
              have hz7 := B7.out.size
              have HM3 := HM2.out w7 hb7
              clear hb7 HM2
              cases h2 : anyB but x
              · have H2' := Lib.hid h2
                rw [h2] at HM3
                have HM4 := Lib.hid HM3
                clear h2 HM3
                go_wp2_with fail
                refine HM4.out.mono ?_
                rintro e w8 ⟨rfl, hb8⟩
                have B8 := Lib.hid (B7.out.trans (hb8.mono hz7))
                have hz8 := B8.out.size
                clear hb8
                have hown8 := OWN.out w8 B8.out
                have hb9 := BR.out w8 B8.out
                have hz9 : w5.heap.size ≤ w8.heap.size := by omega
                go_wp2_with (at_builtin; refine append_keep w8 rfl (.tmp 63) (.tmp 65) 22 rfl w5.heap.size 9 i0 (.string ⟨#[]⟩) 16 Tryd.underlying22 hi hz0 hz1 hz2 rfl _ _ _ rfl hown8 (.string x) rfl w8.heap.size rfl rfl rfl (by omega) (by unfold maxLen; omega) hz9 w5.heap.size w5 hb9 (Nat.le_refl _) ?_; intro g2 cap2' w9 hown9 hb9' hsz9 hkeep)
                go_roundw
                case rel => exact ⟨k + 1, fs ++ [x], by omega, by go_num, Lib.hid (by rw [hsn.out, HW.out, H.out, H1.out, H2'.out]; simp), by simp; omega, by simpa using hown9, hb9', by omega⟩
                case measure => simp [intOf]; omega
              · have H2' := Lib.hid h2
                rw [h2] at HM3
                have HM4 := Lib.hid HM3
                clear h2 HM3
                go_wp2_with fail
                refine HM4.out.mono ?_
                rintro e w8 ⟨rfl, hb8⟩
                have B8 := Lib.hid (B7.out.trans (hb8.mono hz7))
                have hz8 := B8.out.size
                clear hb8
                go_wp2_with fail
                go_roundw
                case rel => exact ⟨k + 1, fs, by omega, by go_num, Lib.hid (by rw [hsn.out, HW.out, H.out, H1.out, H2'.out]; simp), by omega, OWN.out w8 B8.out, BR.out w8 B8.out, by omega⟩
                case measure => simp [intOf]; omega
          · have H := Lib.hid h
            have BW : Hid (Below wr.heap.size wr w6) := Lib.hid (by
              rcases hw with rfl | rfl
              · exact Below.refl _ _
              · exact (Below.refl _ _).alloc (Nat.le_refl _) _)
            have OWN := Lib.hid (owns_below hown BW.out)
            have BR : Hid (Below w5.heap.size w5 w6) := Lib.hid (hb.trans (BW.out.mono hsz))
            have hz6 := BW.out.size
            clear h hw HS hown hb hcell
            go_wp2_with fail
            go_roundw
            case rel => exact ⟨k + 1, fs, by omega, by go_num, Lib.hid (by rw [hsn.out, HW.out, H.out]; simp), by omega, OWN.out, BR.out, by omega⟩
            case measure => simp [intOf]; omega
        · obtain rfl : k = cs.length := by omega
          have hg : globB l but xs = fs := by
            unfold globB
            rw [hcs.out, hfs.out, List.take_length]
          obtain ⟨ao9, cap9, e9, hs9⟩ := sliceOf_owns hown
          have HG := Lib.hid hg
          have HE := Lib.hid e9
          have HS9 := Lib.hid hs9
          have HB9 := Lib.hid (B2.out.trans ((B5.out.trans (hb.mono hw5)).mono hz2'))
          clear hg e9 hs9 hown hb
          go_wp2_with fail
          go_ret2
          exact .inl ⟨OK1.out, OK2.out, ⟨ao9, cap9, by rw [HG.out, HE.out]; rfl, by rw [HG.out]; exact HS9.out⟩, HB9.out⟩
    · have OK := Lib.hid (patsOK_append OK1.out hok)
      have NO := Lib.hid hno
      have B2 := Lib.hid (B1.out.trans (hb.mono B1.out.size))
      have hzb : w.heap.size ≤ b := Nat.le_trans B1.out.size hbw
      clear hok hno hb
      go_wp2_with fail
      go_ret2
      refine .inr ⟨l.length + k, ⟨by simp; omega, OK.out, ?_⟩, ⟨_, rfl, b, rfl, hzb, ?_⟩, B2.out⟩
      · rw [List.getElem_append_right (by omega)]; simpa using NO.out
      · rw [hblk]; simp
  · have OK := Lib.hid hok
    have NO := Lib.hid hno
    have B1 := Lib.hid hb
    clear hok hno hb
    go_wp2_with fail
    go_ret2
    refine .inr ⟨k, ⟨by simp; omega, fun j hj hjk => ?_, ?_⟩, ⟨_, rfl, b, rfl, hbw, ?_⟩, B1.out⟩
    · rw [List.getElem_append_left (by omega)]; exact OK.out j (by omega) hjk
    · rw [List.getElem_append_left (by omega)]; exact NO.out
    · rw [hblk]; simp

end Go.Proofs.YteokigpeaggemaaDoor
