/- What Repeat answers. Conditions: a text of at most 100000 bytes; ErrLimit lies in its variable. -/
import Derived.Test.YtdiocmcfaneajaaGreatDoorStNu
namespace Go.Proofs.YtdiocmcfaneajaaGreatDoor
open Go.RowKit
open Lx
namespace St

def repV (E : Value) (s : L) (n : Int) : Value := if s.length = 0 ∨ n < 1 then .tuple #[.string ⟨#[]⟩, .nilIface] else if ((1024 / s.length : Nat) : Int) < n then .tuple #[.string ⟨#[]⟩, E] else .tuple #[.string (txt (Lib.repeatL s n.toNat)), .nilIface]
set_option maxRecDepth 100000 in
set_option maxHeartbeats 1600000 in
theorem repeat_any (D E : Value) (m : Int) (s : ByteArray) (n : Int) (w : World) (hC : Cx D E m w) (hs : s.size ≤ 100000) (hn : n ≤ 9223372036854775807) :
    Calls Tryz.prog 15 #[.string s, .int .i64 n] w fun e w' => e = .returned (repV E s.data.toList n) ∧ Below w.heap.size w w' := by
  have hlim := hC.lim
  clear hC
  have hsd := size_data s
  by_cases h0 : s.size = 0
  · have hem := text_emp h0
    have hR : Hid (repV E s.data.toList n = .tuple #[.string ⟨#[]⟩, .nilIface]) := hidden (by rw [repV, if_pos (.inl (by omega))])
    clear h0 hsd
    go_enter Tryz.func15, Tryz.ntmps15
    go_wp2
    go_ret2
    exact ⟨by rw [hR.out]; rfl, Below.refl _ _⟩
  · have hne := text_ne s (by omega)
    by_cases h1 : n < 1
    · have hR : Hid (repV E s.data.toList n = .tuple #[.string ⟨#[]⟩, .nilIface]) := hidden (by rw [repV, if_pos (.inr h1)])
      clear h0 hsd
      go_enter Tryz.func15, Tryz.ntmps15
      go_wp2
      go_ret2
      exact ⟨by rw [hR.out]; rfl, Below.refl _ _⟩
    · obtain ⟨q, hq⟩ : ∃ q : Nat, 1024 / s.size = q := ⟨_, rfl⟩
      have hqd : (1024 : Int).tdiv (s.size : Int) = (q : Int) := by
        rw [Int.tdiv_eq_ediv_of_nonneg (by omega), ← hq]
        rfl
      have hs0 : ¬ ((s.size : Int) = 0) := by omega
      have hql : q ≤ 1024 := by rw [← hq]; exact Nat.div_le_self _ _
      have hw : IntKind.i64.wrap (q : Int) = q := by rw [IntKind.wrap_i64]; omega
      by_cases h2 : (q : Int) < n
      · have hR : Hid (repV E s.data.toList n = .tuple #[.string ⟨#[]⟩, E]) := hidden (by
          rw [repV, if_neg (by omega), hsd, hq, if_pos h2])
        clear h0 hsd hq
        go_enter Tryz.func15, Tryz.ntmps15
        go_wp2_with fail
        go_quiet (fail)
        go_wp2
        go_ret2
        exact ⟨by rw [hR.out]; rfl, ⟨rfl, rfl, rfl, Nat.le_refl _, fun _ _ => rfl⟩⟩
      · obtain ⟨c, rfl⟩ : ∃ c : Nat, n = (c : Int) := ⟨n.toNat, by omega⟩
        have hR : Hid (repV E s.data.toList c = .tuple #[.string (txt (Lib.repeatL s.data.toList c)), .nilIface]) := hidden (by
          rw [repV, if_neg (by omega), hsd, hq, if_neg h2, Int.toNat_natCast])
        have hlen : s.size * c ≤ 140737488355328 := by
          have := Nat.mul_le_mul hs (show c ≤ 1024 by omega)
          omega
        have HP := hidden (Tryz.strings_Repeat s c w (by omega) hlen)
        clear h0 hsd hq hlen
        go_enter Tryz.func15, Tryz.ntmps15
        go_wp2_with (go_at_call 41; (with_reducible refine HP.out.mono ?_); rintro e w2 ⟨rfl, hb2⟩)
        go_ret2
        exact ⟨by rw [hR.out]; rfl, hb2⟩
theorem Lw.repeat {D : Value} {tE : TypeId} {pE : Value} {m : Int} {w : World} (h : Lw D tE pE m w) (s : ByteArray) (n : Int) (v : Value) (hv : repV (.iface tE pE) s.data.toList n = v) (hs : s.size ≤ 100000) (hn : n ≤ 9223372036854775807) :
    Ans 15 #[.string s, .int .i64 n] v w := by
  subst hv
  exact Ans.of fun W hb => repeat_any D _ m s n W (h.cx.below hb) hs hn
end St
end Go.Proofs.YtdiocmcfaneajaaGreatDoor
