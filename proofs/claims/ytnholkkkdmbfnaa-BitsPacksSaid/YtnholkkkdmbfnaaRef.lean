/-
  What the document's answers for words do, one contract each.
-/
import Derived.Test.YtnholkkkdmbfnaaBits
import Derived.Deep.OwnRows
import Derived.Laws.Rows
import Derived.Lib.Hide
namespace Go.Proofs.Ytnholkkkdmbfnaa
open Go.RowKit

theorem power_any (n p : Nat) (w : World) (hn : n < 64) (hp : Hid (p = 2 ^ n)) :
    Calls Try.prog 40 #[.int .i64 n] w fun e w' => e = .returned (.int .u64 p) ∧ w = w' := by
  go_enter Try.func40, Try.ntmps40
  go_wp2
  go_loop [3, 4] (fun t i => ∃ k : Nat, k ≤ n ∧ i = .int .i64 k ∧ ∃ p : Nat, t = .int .u64 p ∧ Hid (p = 2 ^ k)) (fun _ i => n - (intOf i).toNat)
  case atStart => exact ⟨0, Nat.zero_le _, rfl, 1, rfl, rfl⟩
  case round =>
    obtain ⟨k, hk, rfl, q, rfl, HP⟩ := hrel
    by_cases hlt : k < n
    · have hp : q ≤ 4611686018427387904 := by rw [HP.out]; exact Nat.pow_le_pow_right (by decide) (by omega : k ≤ 62)
      have HS : Hid (q * 2 = 2 ^ (k + 1)) := by show _ = _; rw [HP.out, Nat.pow_succ]
      clear HP
      go_wp2
      go_round
      case rel => exact ⟨k + 1, by omega, by go_num, q * 2, by go_num, HS⟩
      case measure => simp [intOf]; omega
    · have hpq : Hid ((q : Int) = p) := by
        show _ = _
        rw [HP.out, hp.out, show k = n by omega]
      clear HP
      go_wp2
      go_ret
      exact ⟨ret_of hpq.out, rfl⟩

theorem bit_any (x i : Nat) (b : Bool) (w : World) (hx : x < 18446744073709551616) (hi : i < 64) (hb : x.testBit i = b) :
    Calls Try.prog 37 #[.int .u64 x, .int .i64 i] w fun e w' => e = .returned (.bool b) ∧ w = w' := by
  obtain ⟨p, hp⟩ : ∃ p, p = 2 ^ i := ⟨_, rfl⟩
  have HP : Hid (p = 2 ^ i) := hp
  have h1 := (pow_bd hi).1
  have h2 := (pow_bd hi).2
  rw [← hp] at h1 h2
  have hd : x / p ≤ x := Nat.div_le_self _ _
  have HB : Hid (((IntKind.u64.wrap ((x : Int) / p)).tmod 2 == 1) = b) := by
    show _ = _
    rw [← hb, Nat.testBit_eq_decide_div_mod_eq, ← hp, show (x : Int) / (p : Int) = ((x / p : Nat) : Int) from rfl]
    generalize x / p = q at *
    rw [IntKind.wrap_u64, Int.emod_eq_of_lt (by omega) (by omega), Int.tmod_eq_emod_of_nonneg (by omega), Bool.eq_iff_iff, beq_iff_eq, decide_eq_true_eq]
    omega
  clear hb hp hd
  go_enter Try.func37, Try.ntmps37
  go_wp2_with (go_at_call 40; refine (power_any i p _ hi HP).mono ?_; rintro e w' ⟨rfl, rfl⟩)
  go_ret
  exact ⟨bool_of HB.out, rfl⟩

theorem there_ref (lo n : Int) (b : Bool) (w : World) (h1 : -9223372036854775808 ≤ lo) (h2 : lo ≤ 9223372036854775807) (hb : M.thereB lo n = b) :
    Calls Try.prog 36 #[.int .i64 lo, .int .i64 n] w fun e w' => e = .returned (.bool b) ∧ w = w' := by
  subst hb
  go_enter Try.func36, Try.ntmps36
  go_wp2
  all_goals
    go_ret
    refine ⟨bool_of ?_, rfl⟩
    unfold M.thereB
    symm
  · rw [decide_eq_decide]; omega
  all_goals exact decide_eq_false (by omega)

/-- The bits from k on, as a word. -/
structure OfSoFar (f : Nat → Bool) (k t : Nat) : Prop where
  out : t = M.wd (64 - k) (fun j => f (k + j))
theorem of_first (f : Nat → Bool) : OfSoFar f 64 0 := ⟨rfl⟩
theorem of_bd {f : Nat → Bool} {k t : Nat} (h : OfSoFar f (k + 1) t) : t ≤ 9223372036854775807 := by
  have := M.wd_lt (64 - (k + 1)) (fun j => f (k + 1 + j))
  rw [← h.out] at this
  have h2 : 2 ^ (64 - (k + 1)) ≤ 2 ^ 63 := Nat.pow_le_pow_right (by decide) (by omega)
  omega
theorem of_next {f : Nat → Bool} {k t : Nat} (h : OfSoFar f (k + 1) t) (hk : k < 64) (b : Bool) (hb : f k = b) : OfSoFar f k (b.toNat + 2 * t) := by
  refine ⟨?_⟩
  rw [M.wd_step, if_pos hk, h.out, hb, show 63 - k = 64 - (k + 1) by omega]
theorem of_last {f : Nat → Bool} {t : Nat} (h : OfSoFar f 0 t) : t = M.wd 64 f := by
  rw [h.out]
  exact M.wd_congr fun i _ => by rw [Nat.zero_add]

theorem of_any (cs : Array Value) (f : Nat → Bool) (r : Nat) (w : World) (hf : ∀ i, i < 64 → cs[i]? = some (.bool (f i))) (hr : Kept (M.wd 64 f = r)) :
    Calls Try.prog 34 #[.agg cs] w fun e w' => e = .returned (.int .u64 r) ∧ Below w.heap.size w w' := by
  have HF := Lib.hid hf
  clear hf
  go_enter Try.func34, Try.ntmps34
  go_wp2
  go_loop [3, 4] (fun t i => ∃ k q : Nat, k ≤ 64 ∧ i = .int .i64 ((k : Int) - 1) ∧ t = .int .u64 q ∧ OfSoFar f k q) (fun _ i => (intOf i + 1).toNat)
  case atStart => exact ⟨64, 0, Nat.le_refl _, rfl, rfl, of_first f⟩
  case round =>
    obtain ⟨k, q, hk, rfl, rfl, HO⟩ := hrel
    cases k with
    | zero =>
      have hq : Hid ((q : Int) = r) := by show _ = _; rw [of_last HO, hr.out]
      clear HO hr HF
      go_wp2
      go_ret
      exact ⟨ret_of hq.out, (Below.refl _ _).alloc (Nat.le_refl _) _⟩
    | succ j =>
      have hbd := of_bd HO
      have hc : (w.alloc (.cells cs 48)).cell? ⟨w.heap.size, j, none⟩ = some (.bool (f j)) := by
        rw [World.cell?_alloc_new]; exact HF.out j (by omega)
      have hnext := of_next HO (by omega)
      cases hb : f j
      · have HN : OfSoFar f j (q * 2) := by have := hnext false hb; simpa [Nat.mul_comm] using this
        rw [hb] at hc
        clear HO hnext hb HF hr
        go_wp2
        go_round
        case rel => exact ⟨j, q * 2, by omega, by go_num, by go_num, HN⟩
        case measure => simp [intOf]
      · have HN : OfSoFar f j (q * 2 + 1) := by have := hnext true hb; simpa [Nat.mul_comm, Nat.add_comm] using this
        rw [hb] at hc
        clear HO hnext hb HF hr
        go_wp2
        go_round
        case rel => exact ⟨j, q * 2 + 1, by omega, by go_num, by go_num, HN⟩
        case measure => simp [intOf]

theorem zeros : ∀ i, i < 64 → (Array.replicate 64 (Value.bool false))[i]? = some (.bool false) := fun i hi => by simp [hi]
theorem below_drawN {B : Nat} {a w : World} (h : Below B a w) (n : Nat) : Below B a (w.drewN n) := ⟨h.os, h.tape, h.output, h.size, h.block⟩

theorem low_ref (n : Int) (w : World) :
    Calls Try.prog 10 #[.int .i64 n] w fun e w' => e = .returned (.int .u64 (M.low n : Nat)) ∧ Below w.heap.size w w' := by
  go_enter Try.func10, Try.ntmps10
  go_wp2
  go_loopw [4] (fun i wr => ∃ k : Nat, k ≤ 64 ∧ i = .int .i64 k ∧ wr.rowIs w.heap.size 48 64 (fun j => .bool (decide (j < k) && decide ((j : Int) < n))) ∧ Below w.heap.size w wr) (fun i _ => 64 - (intOf i).toNat)
  case atStart => exact ⟨0, Nat.zero_le _, rfl, (World.rowIs_alloc w (Array.replicate 64 (Value.bool false)) _ _ zeros).congr (fun i _ => by simp), (Below.refl _ _).alloc (Nat.le_refl _) _⟩
  case round =>
    obtain ⟨k, hk, rfl, hrow, hbel⟩ := hrel
    by_cases hlt : k < 64
    · have hc := hrow.cell hlt
      have hz := hrow.frozen k
      have hrow2 := (hrow.set k (.bool (decide ((k : Int) < n)))).congr (g := fun j => .bool (decide (j < k + 1) && decide ((j : Int) < n))) (fun i _ => by
        by_cases h : i = k
        · subst h; simp
        · have : (i < k + 1) = (i < k) := by rw [eq_iff_iff]; omega
          simp [h, this])
      clear hrow
      go_wp2
      go_roundw
      case rel => exact ⟨k + 1, by omega, by go_num, hrow2, hbel.setCell (Nat.le_refl _) _⟩
      case measure => simp [intOf]; omega
    · obtain rfl : k = 64 := by omega
      obtain ⟨c, hb, hn, hc⟩ := hrow
      have HC := Lib.hid hc
      clear hc
      have hofa := fun W => of_any c _ (M.low n) W HC.out ⟨by rw [← M.low_wd]; exact M.wd_congr fun i hi => by simp [hi]⟩
      have HOF := Lib.hid hofa
      clear hofa
      go_wp2_with (first | (go_at_call 34; refine (HOF.out _).mono ?_; rintro e w1 ⟨rfl, hb1⟩) | (refine wpList_load_row rfl 48 _ rfl w.heap.size rfl 48 c _ _ hb Try.underlying48 rfl (by rw [hn]; kernel_rfl) ?_))
      go_ret
      exact ⟨rfl, hbel.trans (hb1.mono hbel.size)⟩

end Go.Proofs.Ytnholkkkdmbfnaa
