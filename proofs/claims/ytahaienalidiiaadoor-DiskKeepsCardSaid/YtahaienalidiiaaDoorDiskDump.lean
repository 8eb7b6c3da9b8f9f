/- What Dump makes of a disk: as many files as it has names. Conditions: the disk's blocks lie from block B on; which names it has, fewer than a thousand. -/
import Derived.Test.YtahaienalidiiaaDoorDiskList
import Derived.Laws.AppendOwn
import Derived.OwnWalk
import Derived.RangeFuncBox
namespace Go.Proofs.YtahaienalidiiaaDoor
open Go.RowKit Go.Maps Go.Sort

theorem append_two {P : Program} {ops : Array Oper} {rest : List Oper} {o : Oper} {a : Act} {Q : Exit → Act → World → Prop} {W1 : World} (w : World) (hgd : o.guard = none) (s x : Operand) (t : TypeId)
    (ho : o.op = .call { callee := .builtin .append, args := #[s, x], argTypes := #[t, t] }) (base : Nat) (e : TypeId) (i : TypeInfo) (z : Value) (bytes : Nat) (ht : P.underlying t = some (.slice e)) (hi : P.info? e = some i) (hz : i.zero = some z)
    (hsize : i.size = 2) (hby : i.bytes = bytes) (hzs : z.cells.size = 2) (v : Value) (n : Nat) (xs : List Value) (hs : a.eval s = v) (hown : w.ownsRow base e 2 v n xs) (u u' : Value) (hW : W1 = w.alloc (.cells #[u, u'] e))
    (hx : a.eval x = .slice (some ⟨w.heap.size, 0, none⟩) 1 1) (h1 : u.oneCell' = true) (h1' : u'.oneCell' = true) (hbytes : (n + 1) * bytes ≤ 140737488355328) (h63 : n + 1 ≤ maxLen) (hbase : base ≤ w.heap.size)
    (h : ∀ v' w', w'.ownsRow base e 2 v' (n + 1) (xs ++ [u, u']) → (∀ k, k < w.heap.size → v.ownBlock ≠ some k → w'.heap[k]? = w.heap[k]?) → Below base w w' → wpList P ops Q rest (a.put o.dst v') w') :
    wpList P ops Q (o :: rest) a W1 := by
  subst hW
  have hr : (w.alloc (.cells #[u, u'] e)).heap[w.heap.size]? = some (.cells #[u, u'] e (0, 0)) := heap_alloc_new _ _
  refine wpList_append_own (w.alloc (.cells #[u, u'] e)) hgd s x t ho base e i z 2 bytes ht hi hz hsize hby hzs (by decide) v n xs hs (hown.alloc _) ⟨w.heap.size, 0, none⟩ 1 1 [u, u'] hx rfl ?_ (fun y hy => by simp at hy; rcases hy with rfl | rfl <;> assumption) h63 hbytes (by simp; omega) ?_
  · intro j y hy
    rw [Go.WideShapes.add_plain]
    match j, hy with
    | 0, hy => obtain rfl : u = y := by simpa using hy
               exact cell_of_row _ _ 0 _ _ _ hr
    | 1, hy => obtain rfl : u' = y := by simpa using hy
               exact cell_of_row _ _ 1 _ _ _ hr
    | j + 2, hy => simp at hy
  intro v' w' hown' hg _
  refine h v' w' hown' (fun k hk hne => (hg.block k (by simp; omega) (Ne.symm hne)).trans (Below.heap_alloc _ _ _ hk)) ?_
  refine (((Below.refl base w).alloc hbase _).grown hg (by simp; omega) fun k hk => (hown.lt k hk).1)
theorem info_file : (Tryd.prog.info? 52).map (fun i => (i.zero, i.size, i.bytes)) = some (some (.agg #[.string ⟨#[]⟩, .string ⟨#[]⟩]), 2, 32) := by kernel_rfl
/-- Rows of unlike kinds lie apart. -/
theorem apart_kinds {W : World} {base : Nat} {e e' : TypeId} {size n k : Nat} {v : Value} {xs : List Value} {cs : Array Value} {fz : Nat × Nat} (h : W.ownsRow base e size v n xs) (hk : W.heap[k]? = some (.cells cs e' fz)) (hne : e ≠ e') : v.ownBlock ≠ some k := by
  rcases h.2 with ⟨rfl, _⟩ | ⟨g, cap, cur, rfl, _, hg, _⟩
  · simp [Value.ownBlock]
  · intro e1
    simp only [Value.ownBlock, Option.some.injEq] at e1
    subst e1
    rw [hg] at hk
    injection hk with hk
    injection hk with _ h2 _
    exact hne h2
section
variable {W W' : World} {B sb fb cb nf nc : Nat} {F C : ByteArray → Option Value} {ops armed : Int} {down : Bool}
set_option maxRecDepth 100000 in
set_option maxHeartbeats 3200000 in
theorem dump_any (h : DiskAt W B sb fb cb nf nc F C ops armed down) (hnf : nf ≤ 1000000) (K : List (List UInt8)) (hnd : K.Nodup) (hm : ∀ x, x ∈ K ↔ (F ⟨x.toArray⟩).isSome = true) (hF : ∀ key, ∃ s b, (F key).getD cont0 = cont s b) (hK : ∀ x ∈ K, x.length ≤ 1000) (hKl : K.length ≤ 1000) :
    Calls Tryd.prog 20 #[.pointer (some ⟨sb, 0, none⟩)] W fun e w' => ∃ ao cap, e = .returned (.slice ao K.length cap) ∧ Below W.heap.size W w' := by
  obtain ⟨m2, hm2, hlen⟩ := h.files.len Tryd.underlying54
  obtain ⟨i0, hi, hz0, hz1, hz2⟩ := info_parts info_file
  obtain ⟨c0, c1, c2, c3, c4⟩ := h.cells
  have HM := hid' hm
  have HD := hid' h
  have HFF := hid' hF
  have HKK := hid' hK
  have hm3 : m2 ≤ maxLen := by unfold maxLen; omega
  have hm4 : i0.bytes * m2 ≤ 281474976710656 := by rw [hz2]; omega
  clear h hm hF hK
  go_enter Tryd.func20, Tryd.ntmps20
  go_wp2_with ((with_reducible refine wpList_make_own W rfl _ _ 46 rfl W.heap.size 52 i0 (.agg #[.string ⟨#[]⟩, .string ⟨#[]⟩]) 2 Tryd.underlying46 hi hz0 hz1 .i64 .i64 _ m2 rfl rfl rfl hm4 hm3 (Nat.le_refl _) ?_); intro w1 hown hg; have hb1 : Below W.heap.size W w1 := ⟨hg.os, hg.tape, hg.output, hg.size, fun k hk => hg.block k hk (by simp)⟩; obtain ⟨c0, c1, c2, c3, c4⟩ := (HD.out.below hb1).cells; have HK := hid' (keysF_call fb w1); unfold kf at HK; clear hg)
  refine (HK.out).mono ?_
  rintro e w2 ⟨rfl, rfl⟩
  have HS := hid' (sortedF_call (HD.out.below hb1).files hnf K hnd HM.out)
  unfold kf at HS
  clear HK c0 c1 c2 c3 c4 hlen
  go_wp2_with fail
  refine (HS.out).mono ?_
  rintro e w2 ⟨v, rfl, ho, hb2⟩
  have s1 := hb1.size
  have s2 := hb2.size
  rw [World.size_alloc] at s2
  have hb12 : Below W.heap.size W w2 := (hb1.alloc s1 _).trans (hb2.mono (by omega))
  obtain ⟨ao, cap, rfl⟩ : ∃ ao cap, v = .slice ao K.length cap := by
    rcases ho.2 with ⟨rfl, h0⟩ | ⟨g, cap, cur, rfl, _⟩
    · exact ⟨_, _, by rw [h0]⟩
    · exact ⟨_, _, rfl⟩
  have hown2 : w2.ownsRow W.heap.size 52 2 (.slice (some ⟨W.heap.size, 0, none⟩) 0 m2) 0 [] := by
    rcases hown.2 with ⟨h0, _⟩ | ⟨g, cap, cur, h0, h1, h2, h3⟩
    · cases h0
    · refine ⟨rfl, .inr ⟨g, cap, cur, h0, h1, ?_, h3⟩⟩
      have hgl := (Array.getElem?_eq_some_iff.1 h2).1
      exact (hb2.block g (by omega)).trans ((Below.heap_alloc _ _ _ hgl).trans h2)
  have HO2 := hid' hown2
  have HO := hid' ho
  have HB12 := hid' hb12
  obtain ⟨kl', hkl⟩ : ∃ n, K.length = n := ⟨_, rfl⟩
  rw [hkl]
  rw [hkl] at HO hKl
  have hkeys : ∀ k, k < kl' → ∃ g cur x, ao = some ⟨g, 0, none⟩ ∧ w2.heap[g]? = some (.cells cur 9 (0, 0)) ∧ cur[k]? = some (.string x) ∧ x.size ≤ 1000 := by
    intro k hk
    rcases ho.2 with ⟨_, h0⟩ | ⟨g, cap, cur, e1, _, hg, _, _, _, ht⟩
    · omega
    · injection e1 with e1 _ _
      have hkk : k < (K.mergeSort leB).length := by rw [List.length_mergeSort]; omega
      refine ⟨g, cur, ⟨(K.mergeSort leB)[k].toArray⟩, e1, hg, ?_, ?_⟩
      · have h1 : ((K.mergeSort leB).map encStr)[k]? = some (encStr (K.mergeSort leB)[k]) := by rw [List.getElem?_map, List.getElem?_eq_getElem hkk]; rfl
        rw [← ht, List.getElem?_take] at h1
        split at h1
        · simpa [encStr] using h1
        · cases h1
      · have := HKK.out _ ((List.mergeSort_perm K leB).mem_iff.1 (List.getElem_mem hkk))
        show (K.mergeSort leB)[k].toArray.size ≤ 1000
        simpa using this
  have HKEY := hid' hkeys
  clear hown hown2 ho hb2 hb12 HS hkeys
  go_wp2
  go_loopw [3, 19] (fun v i wr => ∃ k : Nat, k ≤ kl' ∧ i = .int .i64 k ∧ ∃ xs, Hid (wr.ownsRow W.heap.size 52 2 v k xs) ∧ Hid (∀ g, ao = some ⟨g, 0, none⟩ → wr.heap[g]? = w2.heap[g]?) ∧ Hid (Below W.heap.size W wr)) (fun _ i _ => kl' - (intOf i).toNat)
  case atStart => exact ⟨0, Nat.zero_le _, rfl, [], HO2, hid' (fun _ _ => rfl), HB12⟩
  case round =>
    obtain ⟨k, hk, rfl, xs, hO, hG, hB⟩ := hrel
    by_cases hlt : k < kl'
    · obtain ⟨g, cur, x, rfl, hg, hx, hxs⟩ := HKEY.out k hlt
      have hg' := (hG.out g rfl).trans hg
      have hxc := cell_of_row wr g k _ _ _ hg'
      rw [hx] at hxc
      obtain ⟨c0, c1, c2, c3, c4⟩ := (HD.out.below hB.out).cells
      have hlk := (HD.out.below hB.out).files.look Tryd.underlying54 (zero_cont _) x (by unfold maxLen; omega)
      obtain ⟨s, b, hsb⟩ := HFF.out x
      rw [hsb] at hlk
      unfold cont at hlk
      have hfl : (Instr.field 60 (.agg #[.string s, .bool b]) 0).run Tryd.prog wr = .ok (.string s) wr := by kernel_rfl
      have hap := hid' (apart_kinds hO.out hg' (by decide))
      have hgl := (Array.getElem?_eq_some_iff.1 hg').1
      have hz := hB.out.size
      clear hg hx hsb HD
      go_wp2_with (at_builtin; refine append_two wr rfl (.tmp 23) (.tmp 33) 46 rfl W.heap.size 52 i0 (.agg #[.string ⟨#[]⟩, .string ⟨#[]⟩]) 32 Tryd.underlying46 hi hz0 hz1 hz2 rfl u3 k xs rfl hO.out (.string x) (.string s) rfl rfl rfl rfl (by omega) (by unfold maxLen; omega) hz ?_; intro v4 w4 hown4 hbl4 hb4; have O4 := hid' hown4; have G4 := hid' hbl4; have B4 := hid' hb4; clear hown4 hbl4 hb4)
      go_roundw
      case rel => exact ⟨k + 1, by omega, by go_num, _, O4, hid' (fun g' e => by injection e with e; injection e with e _ _; subst e; exact (G4.out g hgl hap.out).trans (hG.out g rfl)), hid' (hB.out.trans B4.out)⟩
      case measure => simp [intOf]; omega
    · obtain rfl : k = kl' := by omega
      clear HKEY HD HFF
      have hv : ∃ ao cap, u3 = .slice ao k cap := by
        rcases hO.out.2 with ⟨rfl, h0⟩ | ⟨g, cap, cur, rfl, _⟩
        · exact ⟨_, _, by rw [h0]⟩
        · exact ⟨_, _, rfl⟩
      obtain ⟨ao', cap', rfl⟩ := hv
      go_wp2
      go_ret
      exact ⟨ao', cap', by rw [hkl]; rfl, hB.out⟩
end
end Go.Proofs.YtahaienalidiiaaDoor
