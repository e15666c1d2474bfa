/-
  What the functions of package bits do, one contract each: the number that each answers, and that of what was in memory nothing has turned.
-/
import Derived.Test.YtnholkkkdmbfnaaProg
import Derived.Test.YtnholkkkdmbfnaaMath
import Derived.WalkSpells
import Derived.WalkLawsBesides
import Derived.Handy
import Derived.BigQuiet
import Derived.Deep.QuietTactic
import Derived.Laws.BitsAllLaws
import Derived.Lib.Zigzag
namespace Go.Proofs.Ytnholkkkdmbfnaa
open Go.RowKit

/-- A fact that the walk does not look into. -/
structure Kept (p : Prop) : Prop where
  out : p
theorem ret_of {k : IntKind} {a b : Int} (h : a = b) : Ending.returned (.int k a) = .returned (.int k b) := by rw [h]
theorem bool_of {a b : Bool} (h : a = b) : Ending.returned (.bool a) = .returned (.bool b) := by rw [h]
theorem quietly {P : Program} {f : FuncId} {args : Array Value} {w : World} {n : Nat} {v : Value}
    (h : Calls P f args (w.drewN n) fun e w' => e = .returned v ∧ w.drewN n = w') : Calls P f args (w.drewN n) fun e w'' => e = .returned v ∧ ∃ m, w'' = w.drewN m :=
  h.mono fun _ _ ⟨he, hm⟩ => ⟨he, n, hm.symm⟩
theorem cast_pow (n : Nat) : (2 : Int) ^ n = ((2 ^ n : Nat) : Int) := by simp
theorem cast_div_pow (x n : Nat) : (x : Int) / 2 ^ n = ((x / 2 ^ n : Nat) : Int) := by simp
theorem pow_bd {n : Nat} (h : n < 64) : 1 ≤ 2 ^ n ∧ 2 ^ n ≤ 9223372036854775808 := ⟨Nat.two_pow_pos n, (Nat.pow_le_pow_right (by decide) (by omega) : 2 ^ n ≤ 2 ^ 63)⟩

theorem wrap_shl (x n : Nat) : IntKind.u64.wrap ((x : Int) * 2 ^ n) = ((x * 2 ^ n % 18446744073709551616 : Nat) : Int) := by
  rw [IntKind.wrap_u64, cast_pow, ← Int.natCast_mul]; rfl

theorem low_any (n : Int) (w : World) (h1 : -9223372036854775808 ≤ n) (h2 : n ≤ 9223372036854775807) :
    Calls Try.prog 9 #[.int .i64 n] w fun e w' => e = .returned (.int .u64 (M.low n : Nat)) ∧ w = w' := by
  go_enter Try.func9, Try.ntmps9
  go_wp2
  · have h : n < 1 := by assumption
    go_ret
    refine ⟨ret_of ?_, rfl⟩
    unfold M.low
    rw [show min n.toNat 64 = 0 by omega]; rfl
  · have h : 64 ≤ n := by assumption
    go_ret
    refine ⟨ret_of ?_, rfl⟩
    unfold M.low
    rw [show min n.toNat 64 = 64 by omega]; rfl
  · have h : n < 64 := by assumption
    go_ret
    refine ⟨ret_of ?_, rfl⟩
    unfold M.low
    rw [show min n.toNat 64 = n.toNat by omega, cast_pow]
    have := pow_bd (n := n.toNat) (by omega)
    rw [IntKind.wrap_u64, IntKind.wrap_u64]
    omega

theorem there_any (lo n : Int) (b : Bool) (w : World) (h1 : -9223372036854775808 ≤ n) (h2 : n ≤ 9223372036854775807) (hb : M.thereB lo n = b) :
    Calls Try.prog 35 #[.int .i64 lo, .int .i64 n] w fun e w' => e = .returned (.bool b) ∧ w = w' := by
  subst hb
  go_enter Try.func35, Try.ntmps35
  go_wp2
  all_goals
    go_ret
    refine ⟨bool_of ?_, rfl⟩
    unfold M.thereB
    symm
  · rw [decide_eq_decide]; omega
  all_goals exact decide_eq_false (by omega)

theorem get_any (x : Nat) (lo n : Int) (w : World) (hx : x < 18446744073709551616) (h1 : -9223372036854775808 ≤ n) (h2 : n ≤ 9223372036854775807) :
    Calls Try.prog 11 #[.int .u64 x, .int .i64 lo, .int .i64 n] w fun e w' => e = .returned (.int .u64 (M.get x lo n : Nat)) ∧ ∃ m, w' = w.drewN m := by
  cases hb : M.thereB lo n
  · go_enter Try.func11, Try.ntmps11
    go_wp2_with (go_at_call 35; refine (there_any _ _ _ _ h1 h2 hb).mono ?_; rintro e w' ⟨rfl, rfl⟩)
    go_ret
    exact ⟨ret_of (by rw [M.get_none hb]; rfl), 0, rfl⟩
  · obtain ⟨a1, a2, a3, a4⟩ := M.there_iff.1 hb
    go_enter Try.func11, Try.ntmps11
    go_wp2_with (go_at_call 35; refine (there_any _ _ _ _ h1 h2 hb).mono ?_; rintro e w' ⟨rfl, rfl⟩)
    go_quiet ((go_at_call 9; exact quietly (low_any _ _ h1 h2)))
    go_wp2
    go_ret
    exact ⟨ret_of (by rw [cast_div_pow, u64_and_nat _ _ (Nat.lt_of_le_of_lt (Nat.div_le_self _ _) hx) (M.low_lt n), M.get_some hb]), _, rfl⟩

theorem put_any (x : Nat) (lo n : Int) (v : Nat) (w : World) (hx : x < 18446744073709551616) (h1 : -9223372036854775808 ≤ n) (h2 : n ≤ 9223372036854775807) :
    Calls Try.prog 13 #[.int .u64 x, .int .i64 lo, .int .i64 n, .int .u64 v] w fun e w' => e = .returned (.int .u64 (M.put x lo n v : Nat)) ∧ w = w' := by
  cases hb : M.thereB lo n
  · go_enter Try.func13, Try.ntmps13
    go_wp2_with (go_at_call 35; refine (there_any _ _ _ _ h1 h2 hb).mono ?_; rintro e w' ⟨rfl, rfl⟩)
    go_ret
    exact ⟨ret_of (by rw [M.put_none hx hb]), rfl⟩
  · obtain ⟨a1, a2, a3, a4⟩ := M.there_iff.1 hb
    go_enter Try.func13, Try.ntmps13
    go_wp2_with (first | (go_at_call 35; refine (there_any _ _ _ _ h1 h2 hb).mono ?_; rintro e w' ⟨rfl, rfl⟩) | (go_at_call 9; refine (low_any _ _ h1 h2).mono ?_; rintro e w' ⟨rfl, rfl⟩))
    go_ret
    have hl := M.low_lt n
    have m1 : M.low n * 2 ^ lo.toNat % 18446744073709551616 < 18446744073709551616 := Nat.mod_lt _ (by decide)
    have m2 : v * 2 ^ lo.toNat % 18446744073709551616 < 18446744073709551616 := Nat.mod_lt _ (by decide)
    refine ⟨ret_of ?_, rfl⟩
    rw [wrap_shl, wrap_shl, u64_andNot_nat _ _ hx m1, u64_and_nat _ _ m2 m1, u64_or_nat _ _ (Nat.lt_of_le_of_lt Nat.and_le_left hx) (Nat.lt_of_le_of_lt Nat.and_le_left m2), M.put_some hx hb]

theorem join_any (a b : Nat) (w : World) (ha : a < 4294967296) (hb : b < 4294967296) :
    Calls Try.prog 25 #[.int .u32 a, .int .u32 b] w fun e w' => e = .returned (.int .u64 (a * 4294967296 + b : Nat)) ∧ w = w' := by
  go_enter Try.func25, Try.ntmps25
  go_wp2
  go_ret
  refine ⟨ret_of ?_, rfl⟩
  rw [show (a : Int) * 4294967296 = ((a * 4294967296 : Nat) : Int) by omega, u64_or_nat _ _ (by omega) (by omega), nat_join 32 _ _ (by omega) (by omega)]
theorem split_any (x : Nat) (w : World) (hx : x < 18446744073709551616) :
    Calls Try.prog 17 #[.int .u64 x] w fun e w' => e = .returned (.tuple #[.int .u32 (x / 4294967296 : Nat), .int .u32 (x % 4294967296 : Nat)]) ∧ w = w' := by
  go_enter Try.func17, Try.ntmps17
  go_wp2
  go_ret2
  exact ⟨rfl, rfl⟩
theorem zig_any (a : Int) (w : World) (h1 : -9223372036854775808 ≤ a) (h2 : a ≤ 9223372036854775807) :
    Calls Try.prog 20 #[.int .i64 a] w fun e w' => e = .returned (.int .u64 (M.zig a : Nat)) ∧ w = w' := by
  go_enter Try.func20, Try.ntmps20
  go_wp2
  · have h : a < 0 := by assumption
    go_ret
    refine ⟨ret_of ?_, rfl⟩
    rw [show IntKind.u64.wrap (IntKind.u64.wrap a * 2) = (((2 * a + 18446744073709551616).toNat : Nat) : Int) by rw [IntKind.wrap_u64, IntKind.wrap_u64]; omega,
      show IntKind.u64.max = ((18446744073709551615 : Nat) : Int) by rfl, u64_xor_nat _ _ (by decide) (by omega)]
    have := Lib.xor_ones64 (2 * a + 18446744073709551616).toNat (by omega)
    rw [show (18446744073709551615 : Nat) = 2 ^ 64 - 1 from rfl, this]
    unfold M.zig
    rw [if_neg (by omega)]
    omega
  · have h : 0 ≤ a := by assumption
    go_ret
    refine ⟨ret_of ?_, rfl⟩
    unfold M.zig
    rw [if_pos h, IntKind.wrap_u64, IntKind.wrap_u64]
    omega
theorem zag_any (x : Nat) (r : Int) (w : World) (hx : x < 18446744073709551616) (hr : M.zag x = r) :
    Calls Try.prog 22 #[.int .u64 x] w fun e w' => e = .returned (.int .i64 r) ∧ w = w' := by
  subst hr
  unfold M.zag
  have ha := Lib.u64_and1 (x : Int) (by omega) (by omega)
  by_cases h : x % 2 = 1
  · have e1 : (bits .and .u64 (x : Int) 1 == 1) = true := by rw [ha, beq_iff_eq]; omega
    rw [if_pos h]
    clear ha h
    go_enter Try.func22, Try.ntmps22
    go_wp2
    go_ret
    have := Lib.i64_not (x / 2) (by omega)
    exact ⟨ret_of (by rw [show (x : Int) / 2 = ((x / 2 : Nat) : Int) by omega, this]), rfl⟩
  · have e1 : (bits .and .u64 (x : Int) 1 == 1) = false := by rw [ha, beq_eq_false_iff_ne]; omega
    rw [if_neg h]
    clear ha h
    go_enter Try.func22, Try.ntmps22
    go_wp2
    go_ret
    exact ⟨ret_of (by omega), rfl⟩
theorem flip_any (a : Int) (w : World) (h1 : -9223372036854775808 ≤ a) (h2 : a ≤ 9223372036854775807) :
    Calls Try.prog 24 #[.int .i64 a] w fun e w' => e = .returned (.int .u64 (M.flip a : Nat)) ∧ w = w' := by
  go_enter Try.func24, Try.ntmps24
  go_wp2
  go_ret
  exact ⟨ret_of (by unfold M.flip; rw [IntKind.wrap_u64, IntKind.wrap_u64]; omega), rfl⟩
theorem unflip_any (x : Nat) (w : World) (hx : x < 18446744073709551616) :
    Calls Try.prog 23 #[.int .u64 x] w fun e w' => e = .returned (.int .i64 (M.unflip x)) ∧ w = w' := by
  go_enter Try.func23, Try.ntmps23
  go_wp2
  go_ret
  exact ⟨ret_of (by unfold M.unflip wrap64; rw [IntKind.wrap_u64]; omega), rfl⟩
theorem sign_any (x : Nat) (n : Int) (w : World) (hx : x < 18446744073709551616) (h1 : -9223372036854775808 ≤ n) (h2 : n ≤ 9223372036854775807) :
    Calls Try.prog 18 #[.int .u64 x, .int .i64 n] w fun e w' => e = .returned (.int .i64 (M.sign x n)) ∧ w = w' := by
  go_enter Try.func18, Try.ntmps18
  go_wp2
  · have h : n < 1 := by assumption
    go_ret
    exact ⟨ret_of (by unfold M.sign; rw [if_pos h]), rfl⟩
  · have h : 64 ≤ n := by assumption
    go_ret
    exact ⟨ret_of (by rw [M.sign_all x n hx h]; unfold wrap64; split <;> omega), rfl⟩
  · have h : n < 64 := by assumption
    have h' : 1 ≤ n := by assumption
    go_ret
    refine ⟨ret_of ?_, rfl⟩
    obtain ⟨m, hm⟩ : ∃ m : Nat, n = ((m + 1 : Nat) : Int) := ⟨(n - 1).toNat, by omega⟩
    rw [show (64 - n).toNat = 64 - (m + 1) by omega, cast_pow]
    rw [hm]
    apply M.sign_shift x m (by omega)
    rw [← cast_pow, wrap_shl, M.shl_mod x (m + 1) (by omega)]
    have hlt : x % 2 ^ (m + 1) * 2 ^ (64 - (m + 1)) < 18446744073709551616 := by rw [← M.shl_mod x (m + 1) (by omega)]; exact Nat.mod_lt _ (by decide)
    generalize x % 2 ^ (m + 1) * 2 ^ (64 - (m + 1)) = y at *
    unfold wrap64
    split <;> omega
theorem turn_any (x k : Nat) (n : Int) (r : Nat) (w : World) (hx : x < 18446744073709551616) (hk : n % 64 = k) (hr : M.turn x k = r) :
    Calls Try.prog 28 #[.int .u64 x, .int .i64 n] w fun e w' => e = .returned (.int .u64 r) ∧ w = w' := by
  have e1 : (IntKind.u64.wrap n).tmod 64 = k := by rw [IntKind.wrap_u64, Int.tmod_eq_emod_of_nonneg (by omega)]; omega
  have hk64 : k < 64 := by omega
  clear hk
  go_enter Try.func28, Try.ntmps28
  go_wp2
  go_ret
  have m1 : x * 2 ^ k % 18446744073709551616 < 18446744073709551616 := Nat.mod_lt _ (by decide)
  exact ⟨ret_of (by rw [wrap_shl, cast_div_pow, u64_or_nat _ _ m1 (Nat.lt_of_le_of_lt (Nat.div_le_self _ _) hx), M.turn_shift hx hk64, hr]), rfl⟩
theorem one_any (x : Nat) (i : Nat) (b : Bool) (w : World) (hx : x < 18446744073709551616) (hi : i < 64) (hb : x.testBit i = b) :
    Calls Try.prog 39 #[.int .u64 x, .int .i64 i] w fun e w' => e = .returned (.bool b) ∧ w = w' := by
  subst hb
  go_enter Try.func39, Try.ntmps39
  go_wp2
  go_ret
  refine ⟨bool_of ?_, rfl⟩
  rw [cast_div_pow, Lib.u64_and1 _ (Int.natCast_nonneg _) (Int.ofNat_lt.2 (Nat.lt_of_le_of_lt (Nat.div_le_self x (2 ^ i)) hx)), Nat.testBit_eq_decide_div_mod_eq, Bool.eq_iff_iff, beq_iff_eq, decide_eq_true_eq]
  omega

theorem ones_any (x : Nat) (w : World) (hx : x < 18446744073709551616) :
    Calls Try.prog 32 #[.int .u64 x] w fun e w' => e = .returned (.int .i64 (M.ones x 64 : Nat)) ∧ w = w' := by
  go_enter Try.func32, Try.ntmps32
  go_wp2
  go_loop [3, 5] (fun t i => ∃ k : Nat, k ≤ 64 ∧ i = .int .i64 k ∧ t = .int .i64 (M.ones x k : Nat)) (fun _ i => 64 - (intOf i).toNat)
  case atStart => exact ⟨0, Nat.zero_le _, rfl, rfl⟩
  case round =>
    obtain ⟨k, hk, rfl, rfl⟩ := hrel
    have hle := M.ones_le x k
    by_cases hlt : k < 64
    · have hs := M.ones_succ x k
      cases hb : x.testBit k
      · rw [hb] at hs
        have HS : Hid (M.ones x (k + 1) = M.ones x k) := hs
        clear hs
        go_wp2_with (go_at_call 39; refine (one_any x k _ _ hx hlt hb).mono ?_; rintro e w' ⟨rfl, rfl⟩)
        go_round
        case rel => exact ⟨k + 1, by omega, by go_num, by rw [HS.out]⟩
        case measure => simp [intOf]; omega
      · rw [hb] at hs
        have HS : Hid (M.ones x (k + 1) = M.ones x k + 1) := hs
        clear hs
        go_wp2_with (go_at_call 39; refine (one_any x k _ _ hx hlt hb).mono ?_; rintro e w' ⟨rfl, rfl⟩)
        go_round
        case rel => exact ⟨k + 1, by omega, by go_num, by rw [HS.out]; go_num⟩
        case measure => simp [intOf]; omega
    · obtain rfl : k = 64 := by omega
      go_wp2
      go_ret
      exact ⟨rfl, rfl⟩

theorem top_any (x : Nat) (w : World) (hx : x < 18446744073709551616) :
    Calls Try.prog 26 #[.int .u64 x] w fun e w' => e = .returned (.int .i64 (M.top x 64)) ∧ w = w' := by
  go_enter Try.func26, Try.ntmps26
  go_wp2
  go_loop [3, 5] (fun t i => ∃ k : Nat, k ≤ 64 ∧ i = .int .i64 k ∧ t = .int .i64 (M.top x k)) (fun _ i => 64 - (intOf i).toNat)
  case atStart => exact ⟨0, Nat.zero_le _, rfl, rfl⟩
  case round =>
    obtain ⟨k, hk, rfl, rfl⟩ := hrel
    by_cases hlt : k < 64
    · cases hb : x.testBit k
      · have HS : Hid (M.top x (k + 1) = M.top x k) := by show _ = _; rw [M.top, hb]; rfl
        go_wp2_with (go_at_call 39; refine (one_any x k _ _ hx hlt hb).mono ?_; rintro e w' ⟨rfl, rfl⟩)
        go_round
        case rel => exact ⟨k + 1, by omega, by go_num, by rw [HS.out]⟩
        case measure => simp [intOf]; omega
      · have HS : Hid (M.top x (k + 1) = k) := by show _ = _; rw [M.top, hb]; rfl
        go_wp2_with (go_at_call 39; refine (one_any x k _ _ hx hlt hb).mono ?_; rintro e w' ⟨rfl, rfl⟩)
        go_round
        case rel => exact ⟨k + 1, by omega, by go_num, by rw [HS.out]⟩
        case measure => simp [intOf]; omega
    · obtain rfl : k = 64 := by omega
      go_wp2
      go_ret
      exact ⟨rfl, rfl⟩

/-- There was no one so far; the lowest one is r: kept from the walk. -/
structure NoneSoFar (x k : Nat) : Prop where
  out : M.bot x k = -1
structure BotIs (x : Nat) (r : Int) : Prop where
  out : M.bot x 64 = r
theorem none_first (x : Nat) : NoneSoFar x 0 := ⟨rfl⟩
theorem none_next {x k : Nat} (h : NoneSoFar x k) (hb : x.testBit k = false) : NoneSoFar x (k + 1) :=
  ⟨by rw [M.bot, hb, if_neg (by simp)]; exact h.out⟩
theorem none_hit {x k : Nat} {r : Int} (h : NoneSoFar x k) (hr : BotIs x r) (hb : x.testBit k = true) (hk : k < 64) : (k : Int) = r :=
  (M.bot_hit h.out hb hk).symm.trans hr.out
theorem none_all {x k : Nat} {r : Int} (h : NoneSoFar x k) (hr : BotIs x r) (hk : k = 64) : (-1 : Int) = r := by
  subst hk; exact h.out.symm.trans hr.out

theorem bottom_any (x : Nat) (r : Int) (w : World) (hx : x < 18446744073709551616) (hr : BotIs x r) :
    Calls Try.prog 33 #[.int .u64 x] w fun e w' => e = .returned (.int .i64 r) ∧ w = w' := by
  go_enter Try.func33, Try.ntmps33
  go_wp2
  go_loop [4] (fun i => ∃ k : Nat, k ≤ 64 ∧ i = .int .i64 k ∧ NoneSoFar x k) (fun i => 64 - (intOf i).toNat)
  case atStart => exact ⟨0, Nat.zero_le _, rfl, none_first x⟩
  case round =>
    obtain ⟨k, hk, rfl, HK⟩ := hrel
    by_cases hlt : k < 64
    · cases hb : x.testBit k
      · have HS := none_next HK hb
        clear HK
        go_wp2_with (go_at_call 39; refine (one_any x k _ _ hx hlt hb).mono ?_; rintro e w' ⟨rfl, rfl⟩)
        go_round
        case rel => exact ⟨k + 1, by omega, by go_num, HS⟩
        case measure => simp [intOf]; omega
      · have HS : Hid ((k : Int) = r) := none_hit HK hr hb hlt
        clear HK hr
        go_wp2_with (go_at_call 39; refine (one_any x k _ _ hx hlt hb).mono ?_; rintro e w' ⟨rfl, rfl⟩)
        go_ret
        exact ⟨ret_of HS.out, rfl⟩
    · have HS : Hid ((-1 : Int) = r) := none_all HK hr (by omega)
      clear HK hr
      go_wp2
      go_ret
      exact ⟨ret_of HS.out, rfl⟩

theorem swap_step (x k : Nat) : bits .or .u64 (IntKind.u64.wrap ((M.sw x k : Nat) * 256)) (M.get x (8 * (k : Int)) 8 : Nat) = ((M.sw x (k + 1) : Nat) : Int) := by
  have e := wrap_shl (M.sw x k) 8
  rw [show ((M.sw x k : Nat) : Int) * 256 = (M.sw x k : Int) * 2 ^ 8 by rfl, e, u64_or_nat _ _ (Nat.mod_lt _ (by decide)) (M.get_lt _ _ _), M.sw]
  rfl
theorem swap_any (x : Nat) (w : World) (hx : x < 18446744073709551616) :
    Calls Try.prog 30 #[.int .u64 x] w fun e w' => e = .returned (.int .u64 (M.swap x : Nat)) ∧ ∃ m, w' = w.drewN m := by
  go_enter Try.func30, Try.ntmps30
  go_wp2
  go_loopw [3, 5] (fun t i wr => ∃ k : Nat, k ≤ 8 ∧ i = .int .i64 k ∧ t = .int .u64 (M.sw x k : Nat) ∧ ∃ m, wr = w.drewN m) (fun _ i _ => 8 - (intOf i).toNat)
  case atStart => exact ⟨0, Nat.zero_le _, rfl, rfl, 0, rfl⟩
  case round =>
    obtain ⟨k, hk, rfl, rfl, m, rfl⟩ := hrel
    have hs := M.sw_lt x k hk
    by_cases hlt : k < 8
    · go_wp2_with (go_at_call 11; refine (get_any x ((8 * k : Nat) : Int) 8 _ hx (by omega) (by omega)).mono ?_; rintro e w' ⟨rfl, m', rfl⟩)
      go_roundw
      case rel => exact ⟨k + 1, by omega, by go_num, by rw [swap_step x k], _, rfl⟩
      case measure => simp [intOf]; omega
    · obtain rfl : k = 8 := by omega
      go_wp2
      go_ret
      exact ⟨ret_of (by rw [M.sw_swap]), m, rfl⟩
end Go.Proofs.Ytnholkkkdmbfnaa
