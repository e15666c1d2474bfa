/-
  What the document's answers for words do, one contract each, further ones.
-/
import Derived.Test.YtnholkkkdmbfnaaRef
namespace Go.Proofs.Ytnholkkkdmbfnaa
open Go.RowKit

/-- Where each bit of a turned word comes from. -/
theorem turn_at {i k c : Nat} (hc : c < 64) (hi : i < 64) (hk : k < 64) : ((i + 64 - c) % 64 < k + 1) ↔ ((i + 64 - c) % 64 < k ∨ i = (k + c) % 64) := by omega

theorem turn_ref (x c r : Nat) (w : World) (hx : x < 18446744073709551616) (hc64 : c < 64) (hr : Kept (M.turn x c = r)) :
    Calls Try.prog 29 #[.int .u64 x, .int .i64 c] w fun e w' => e = .returned (.int .u64 r) ∧ Below w.heap.size w w' := by
  go_enter Try.func29, Try.ntmps29
  go_wp2
  go_loopw [6] (fun i wr => ∃ k : Nat, k ≤ 64 ∧ i = .int .i64 k ∧ wr.rowIs w.heap.size 48 64 (fun j => .bool (decide ((j + 64 - c) % 64 < k) && x.testBit ((j + 64 - c) % 64))) ∧ Below w.heap.size w wr) (fun i _ => 64 - (intOf i).toNat)
  case atStart => exact ⟨0, Nat.zero_le _, rfl, (World.rowIs_alloc w (Array.replicate 64 (Value.bool false)) _ _ zeros).congr (fun i _ => by simp), (Below.refl _ _).alloc (Nat.le_refl _) _⟩
  case round =>
    obtain ⟨k, hk, rfl, hrow, hbel⟩ := hrel
    by_cases hlt : k < 64
    · obtain ⟨v, hc⟩ : ∃ v, wr.cell? ⟨w.heap.size, (k + c) % 64, none⟩ = some v := ⟨_, hrow.cell (Nat.mod_lt _ (by decide))⟩
      have hz := hrow.frozen ((k + c) % 64)
      have hrow2 := (hrow.set ((k + c) % 64) (.bool (x.testBit k))).congr (g := fun j => .bool (decide ((j + 64 - c) % 64 < k + 1) && x.testBit ((j + 64 - c) % 64))) (fun i hi => by
        have e := turn_at hc64 hi hlt
        by_cases h : i = (k + c) % 64
        · have e2 : (i + 64 - c) % 64 = k := by omega
          simp [h]; rw [← h, e2]; simp
        · simp [h, e])
      clear hrow
      have HR2 := Lib.hid hrow2
      clear hrow2 hr
      go_wp2_with (go_at_call 37; refine (bit_any x k _ _ hx hlt rfl).mono ?_; rintro e w' ⟨rfl, rfl⟩)
      go_roundw
      case rel => exact ⟨k + 1, by omega, by go_num, HR2.out, hbel.setCell (Nat.le_refl _) _⟩
      case measure => simp [intOf]; omega
    · obtain rfl : k = 64 := by omega
      obtain ⟨cs, hb, hn, hc⟩ := hrow
      have hofa := fun W => of_any cs _ r W hc ⟨by rw [← hr.out]; unfold M.turn; exact M.wd_congr fun i hi => by simp [Nat.mod_lt]⟩
      have HOF := Lib.hid hofa
      clear hofa hc
      go_wp2_with (first | (go_at_call 34; refine (HOF.out _).mono ?_; rintro e w1 ⟨rfl, hb1⟩) | (refine wpList_load_row rfl 48 _ rfl w.heap.size rfl 48 cs _ _ hb Try.underlying48 rfl (by rw [hn]; kernel_rfl) ?_))
      go_ret
      exact ⟨rfl, hbel.trans (hb1.mono hbel.size)⟩

theorem swap_at {i k : Nat} (hi : i < 64) (hk : k < 64) : (56 - i / 8 * 8 + i % 8 < k + 1) ↔ (56 - i / 8 * 8 + i % 8 < k ∨ i = 56 - k / 8 * 8 + k % 8) := by omega

theorem swap_ref (x r : Nat) (w : World) (hx : x < 18446744073709551616) (hr : Kept (M.swap x = r)) :
    Calls Try.prog 31 #[.int .u64 x] w fun e w' => e = .returned (.int .u64 r) ∧ Below w.heap.size w w' := by
  go_enter Try.func31, Try.ntmps31
  go_wp2
  go_loopw [4] (fun i wr => ∃ k : Nat, k ≤ 64 ∧ i = .int .i64 k ∧ wr.rowIs w.heap.size 48 64 (fun j => .bool (decide (56 - j / 8 * 8 + j % 8 < k) && x.testBit (56 - j / 8 * 8 + j % 8))) ∧ Below w.heap.size w wr) (fun i _ => 64 - (intOf i).toNat)
  case atStart => exact ⟨0, Nat.zero_le _, rfl, (World.rowIs_alloc w (Array.replicate 64 (Value.bool false)) _ _ zeros).congr (fun i _ => by simp), (Below.refl _ _).alloc (Nat.le_refl _) _⟩
  case round =>
    obtain ⟨k, hk, rfl, hrow, hbel⟩ := hrel
    by_cases hlt : k < 64
    · obtain ⟨v, hc⟩ : ∃ v, wr.cell? ⟨w.heap.size, 56 - k / 8 * 8 + k % 8, none⟩ = some v := ⟨_, hrow.cell (by omega)⟩
      have hz := hrow.frozen (56 - k / 8 * 8 + k % 8)
      have hrow2 := (hrow.set (56 - k / 8 * 8 + k % 8) (.bool (x.testBit k))).congr (g := fun j => .bool (decide (56 - j / 8 * 8 + j % 8 < k + 1) && x.testBit (56 - j / 8 * 8 + j % 8))) (fun i hi => by
        have e := swap_at hi hlt
        by_cases h : i = 56 - k / 8 * 8 + k % 8
        · have e2 : 56 - i / 8 * 8 + i % 8 = k := by omega
          simp only [e2]
          rw [if_pos h]; simp
        · rw [if_neg h]
          simp only [e, h, or_false])
      have HR2 := Lib.hid hrow2
      clear hrow2 hr hrow
      go_wp2_with (go_at_call 37; refine (bit_any x k _ _ hx hlt rfl).mono ?_; rintro e w' ⟨rfl, rfl⟩)
      go_roundw
      case rel => exact ⟨k + 1, by omega, by go_num, HR2.out, hbel.setCell (Nat.le_refl _) _⟩
      case measure => simp [intOf]; omega
    · obtain rfl : k = 64 := by omega
      obtain ⟨cs, hb, hn, hc⟩ := hrow
      have hsw : M.wd 64 (fun j => decide (56 - j / 8 * 8 + j % 8 < 64) && x.testBit (56 - j / 8 * 8 + j % 8)) = M.swap x := M.wd_congr fun i hi => by
        rw [decide_eq_true (by omega), Bool.true_and]
      have hofa := fun W => of_any cs _ r W hc ⟨hsw.trans hr.out⟩
      clear hsw
      have HOF := Lib.hid hofa
      clear hofa hc hr
      go_wp2_with (first | (go_at_call 34; refine (HOF.out _).mono ?_; rintro e w1 ⟨rfl, hb1⟩) | (refine wpList_load_row rfl 48 _ rfl w.heap.size rfl 48 cs _ _ hb Try.underlying48 rfl (by rw [hn]; kernel_rfl) ?_))
      go_ret
      exact ⟨rfl, hbel.trans (hb1.mono hbel.size)⟩

theorem get_ref_no (x : Nat) (lo n : Int) (w : World) (h1 : -9223372036854775808 ≤ lo) (h2 : lo ≤ 9223372036854775807) (ht : M.thereB lo n = false) :
    Calls Try.prog 12 #[.int .u64 x, .int .i64 lo, .int .i64 n] w fun e w' => e = .returned (.int .u64 (0 : Nat)) ∧ Below w.heap.size w w' := by
  have hth := fun W => there_ref lo n false W h1 h2 ht
  have HTH := Lib.hid hth
  clear hth ht
  go_enter Try.func12, Try.ntmps12
  go_wp2_with fail
  go_loopw [8] (fun i wr => i = .int .i64 0 ∧ wr.rowIs w.heap.size 48 64 (fun _ => .bool false) ∧ Below w.heap.size w wr) (fun _ _ => 0)
  case atStart => exact ⟨rfl, World.rowIs_alloc w (Array.replicate 64 (Value.bool false)) _ _ zeros, (Below.refl _ _).alloc (Nat.le_refl _) _⟩
  case round =>
    obtain ⟨rfl, hrow, hbel⟩ := hrel
    obtain ⟨cs, hb, hn, hc⟩ := hrow
    have hofa := fun W => of_any cs _ 0 W hc ⟨M.wd_of (by decide) fun i _ => by simp⟩
    have HOF := Lib.hid hofa
    clear hofa hc
    go_wp2_with (first | (go_at_call 36; refine (HTH.out _).mono ?_; rintro e w' ⟨rfl, rfl⟩) | (go_at_call 34; refine (HOF.out _).mono ?_; rintro e w1 ⟨rfl, hb1⟩) | (refine wpList_load_row rfl 48 _ rfl w.heap.size rfl 48 cs _ _ hb Try.underlying48 rfl (by rw [hn]; kernel_rfl) ?_))
    go_ret
    exact ⟨rfl, hbel.trans (hb1.mono hbel.size)⟩

theorem get_ref_yes (x lo n r : Nat) (w : World) (hx : x < 18446744073709551616) (hln : lo + n ≤ 64) (hr : Kept (M.get x lo n = r)) :
    Calls Try.prog 12 #[.int .u64 x, .int .i64 lo, .int .i64 n] w fun e w' => e = .returned (.int .u64 r) ∧ Below w.heap.size w w' := by
  have hth := fun W => there_ref lo n true W (by omega) (by omega) (M.there_iff.2 (by omega))
  have HTH := Lib.hid hth
  clear hth
  go_enter Try.func12, Try.ntmps12
  go_wp2_with fail
  go_loopw [8] (fun i wr => ∃ k : Nat, k ≤ n ∧ i = .int .i64 k ∧ wr.rowIs w.heap.size 48 64 (fun j => .bool (decide (j < k) && x.testBit (lo + j))) ∧ Below w.heap.size w wr) (fun i _ => n - (intOf i).toNat)
  case atStart => exact ⟨0, Nat.zero_le _, rfl, (World.rowIs_alloc w (Array.replicate 64 (Value.bool false)) _ _ zeros).congr (fun i _ => by simp), (Below.refl _ _).alloc (Nat.le_refl _) _⟩
  case round =>
    obtain ⟨k, hk, rfl, hrow, hbel⟩ := hrel
    by_cases hlt : k < n
    · obtain ⟨v, hc⟩ : ∃ v, wr.cell? ⟨w.heap.size, k, none⟩ = some v := ⟨_, hrow.cell (by omega)⟩
      have hz := hrow.frozen k
      have hrow2 := (hrow.set k (.bool (x.testBit (lo + k)))).congr (g := fun j => .bool (decide (j < k + 1) && x.testBit (lo + j))) (fun i hi => by
        by_cases h : i = k
        · subst h; simp
        · have : (i < k + 1) = (i < k) := by rw [eq_iff_iff]; omega
          simp [h, this])
      have HR2 := Lib.hid hrow2
      clear hrow2 hr hrow
      have hbit := fun W => bit_any x (lo + k) _ W hx (by omega) rfl
      have HB := Lib.hid hbit
      clear hbit
      go_wp2_with (first | (go_at_call 36; refine (HTH.out _).mono ?_; rintro e w' ⟨rfl, rfl⟩) | (go_at_call 37; refine (HB.out _).mono ?_; rintro e w' ⟨rfl, rfl⟩))
      go_roundw
      case rel => exact ⟨k + 1, by omega, by go_num, HR2.out, hbel.setCell (Nat.le_refl _) _⟩
      case measure => simp [intOf]; omega
    · obtain rfl : k = n := by omega
      obtain ⟨cs, hb, hn, hc⟩ := hrow
      have hofa := fun W => of_any cs _ r W hc ⟨by rw [← hr.out]; exact M.wd_congr fun i hi => by unfold M.getF; rw [M.there_iff.2 (by omega)]; simp⟩
      have HOF := Lib.hid hofa
      clear hofa hc hr
      go_wp2_with (first | (go_at_call 36; refine (HTH.out _).mono ?_; rintro e w' ⟨rfl, rfl⟩) | (go_at_call 34; refine (HOF.out _).mono ?_; rintro e w1 ⟨rfl, hb1⟩) | (refine wpList_load_row rfl 48 _ rfl w.heap.size rfl 48 cs _ _ hb Try.underlying48 rfl (by rw [hn]; kernel_rfl) ?_))
      go_ret
      exact ⟨rfl, hbel.trans (hb1.mono hbel.size)⟩

theorem get_ref (x r : Nat) (lo n : Int) (w : World) (hx : x < 18446744073709551616) (h1 : -9223372036854775808 ≤ lo) (h2 : lo ≤ 9223372036854775807) (hr : Kept (M.get x lo n = r)) :
    Calls Try.prog 12 #[.int .u64 x, .int .i64 lo, .int .i64 n] w fun e w' => e = .returned (.int .u64 r) ∧ Below w.heap.size w w' := by
  cases ht : M.thereB lo n
  · have e : r = 0 := by rw [← hr.out, M.get_none ht]
    rw [e]
    exact get_ref_no x lo n w h1 h2 ht
  · obtain ⟨a1, a2, a3, a4⟩ := M.there_iff.1 ht
    obtain ⟨l, rfl⟩ := Int.eq_ofNat_of_zero_le a1
    obtain ⟨m, rfl⟩ := Int.eq_ofNat_of_zero_le a2
    exact get_ref_yes x l m r w hx (by omega) hr

/-- A word whose field is put so far: the bits of x, but from lo on k bits of v. -/
def putSoFar (x v lo k j : Nat) : Bool := if lo ≤ j ∧ j < lo + k then v.testBit (j - lo) else x.testBit j
theorem put_zero (x v lo j : Nat) : putSoFar x v lo 0 j = x.testBit j := by
  unfold putSoFar; rw [if_neg (by omega)]
theorem put_next (x v lo k j : Nat) : putSoFar x v lo (k + 1) j = if j = lo + k then v.testBit k else putSoFar x v lo k j := by
  unfold putSoFar
  by_cases h : j = lo + k
  · subst h
    rw [if_pos (by omega), if_pos rfl, Nat.add_sub_cancel_left]
  · rw [if_neg h]
    by_cases h2 : lo ≤ j ∧ j < lo + k
    · rw [if_pos h2, if_pos (by omega)]
    · rw [if_neg h2, if_neg (by omega)]
theorem put_done {x v lo n : Nat} (h : lo + n ≤ 64) : M.wd 64 (putSoFar x v lo n) = M.put x lo n v := by
  unfold M.put
  apply M.wd_congr
  intro i _
  unfold M.putF putSoFar
  rw [M.there_iff.2 (by omega)]
  by_cases h2 : lo ≤ i ∧ i < lo + n
  · have e1 : (lo : Int) ≤ i := by omega
    have e2 : (i : Int) < lo + n := by omega
    simp [h2, e1, e2]
  · have e1 : ¬ ((lo : Int) ≤ i ∧ (i : Int) < lo + n) := by omega
    have e2 : (decide ((lo : Int) ≤ i) && decide ((i : Int) < lo + n)) = false := by rw [← Bool.decide_and]; exact decide_eq_false e1
    rw [if_neg h2, Bool.true_and, e2]; rfl

theorem put_ref (x r : Nat) (lo n : Int) (v : Nat) (w : World) (hx : x < 18446744073709551616) (hv : v < 18446744073709551616) (h1 : -9223372036854775808 ≤ lo) (h2 : lo ≤ 9223372036854775807) (hr : Kept (M.put x lo n v = r)) :
    Calls Try.prog 14 #[.int .u64 x, .int .i64 lo, .int .i64 n, .int .u64 v] w fun e w' => e = .returned (.int .u64 r) ∧ Below w.heap.size w w' := by
  obtain ⟨b, hb0⟩ : ∃ b, M.thereB lo n = b := ⟨_, rfl⟩
  have hth := fun W => there_ref lo n b W h1 h2 hb0
  have HTH := Lib.hid hth
  have HB0 := Lib.hid hb0
  clear hth hb0
  go_enter Try.func14, Try.ntmps14
  go_wp2_with fail
  go_loopw [10] (fun i wr => ∃ k : Nat, k ≤ 64 ∧ i = .int .i64 k ∧ wr.rowIs w.heap.size 48 64 (fun j => .bool (decide (j < k) && x.testBit j)) ∧ Below w.heap.size w wr) (fun i _ => 64 - (intOf i).toNat)
  case atStart => exact ⟨0, Nat.zero_le _, rfl, (World.rowIs_alloc w (Array.replicate 64 (Value.bool false)) _ _ zeros).congr (fun i _ => by simp), (Below.refl _ _).alloc (Nat.le_refl _) _⟩
  case round =>
    obtain ⟨k, hk, rfl, hrow, hbel⟩ := hrel
    by_cases hlt : k < 64
    · obtain ⟨c, hc⟩ : ∃ c, wr.cell? ⟨w.heap.size, k, none⟩ = some c := ⟨_, hrow.cell hlt⟩
      have hz := hrow.frozen k
      have hrow2 := (hrow.set k (.bool (x.testBit k))).congr (g := fun j => .bool (decide (j < k + 1) && x.testBit j)) (fun i hi => by
        by_cases h : i = k
        · subst h; simp
        · have : (i < k + 1) = (i < k) := by rw [eq_iff_iff]; omega
          simp [h, this])
      have HR2 := Lib.hid hrow2
      clear hrow2 hr hrow
      go_wp2_with (go_at_call 37; refine (bit_any x k _ _ hx hlt rfl).mono ?_; rintro e w' ⟨rfl, rfl⟩)
      go_roundw
      case rel => exact ⟨k + 1, by omega, by go_num, HR2.out, hbel.setCell (Nat.le_refl _) _⟩
      case measure => simp [intOf]; omega
    · have hrow0 := hrow.congr (g := fun j => .bool (x.testBit j)) (fun i hi => by
        have : i < k := by omega
        simp [this])
      have HR0 := Lib.hid hrow0
      clear hrow hrow0
      cases b
      · obtain ⟨cs, hb, hn, hc⟩ := HR0.out
        have hofa := fun W => of_any cs _ r W hc ⟨by rw [← hr.out, M.put_none hx HB0.out]; exact M.wd_of hx fun _ _ => rfl⟩
        have HOF := Lib.hid hofa
        clear hofa hc hr HR0
        go_wp2_with fail
        go_loop [11] (fun i => i = .int .i64 0) (fun _ => 0)
        case atStart => rfl
        case round =>
          obtain rfl := hrel
          go_wp2_with (first | (go_at_call 36; refine (HTH.out _).mono ?_; rintro e w' ⟨rfl, rfl⟩) | (go_at_call 34; refine (HOF.out _).mono ?_; rintro e w1 ⟨rfl, hb1⟩) | (refine wpList_load_row rfl 48 _ rfl w.heap.size rfl 48 cs _ _ hb Try.underlying48 rfl (by rw [hn]; kernel_rfl) ?_))
          go_ret
          exact ⟨rfl, hbel.trans (hb1.mono hbel.size)⟩
      · obtain ⟨a1, a2, a3, a4⟩ := M.there_iff.1 HB0.out
        obtain ⟨l, rfl⟩ := Int.eq_ofNat_of_zero_le a1
        obtain ⟨m, rfl⟩ := Int.eq_ofNat_of_zero_le a2
        clear HB0
        go_wp2_with fail
        go_loopw [11] (fun i wr2 => ∃ q : Nat, q ≤ m ∧ i = .int .i64 q ∧ wr2.rowIs w.heap.size 48 64 (fun j => .bool (putSoFar x v l q j)) ∧ Below w.heap.size w wr2) (fun i _ => m - (intOf i).toNat)
        case atStart => exact ⟨0, Nat.zero_le _, rfl, HR0.out.congr (fun i _ => by rw [put_zero]), hbel⟩
        case round =>
          clear HR0 hbel hlt hk
          obtain ⟨q, hq, rfl, hrow, hbel⟩ := hrel
          by_cases hlt : q < m
          · obtain ⟨c, hc⟩ : ∃ c, wr.cell? ⟨w.heap.size, l + q, none⟩ = some c := ⟨_, hrow.cell (by omega)⟩
            have hz := hrow.frozen (l + q)
            have hrow2 := (hrow.set (l + q) (.bool (v.testBit q))).congr (g := fun j => .bool (putSoFar x v l (q + 1) j)) (fun i hi => by
              rw [put_next]; split <;> rfl)
            have HR2 := Lib.hid hrow2
            have hbit := fun W => bit_any v q _ W hv (by omega) rfl
            have HB := Lib.hid hbit
            clear hrow2 hrow hr hbit
            go_wp2_with (first | (go_at_call 36; refine (HTH.out _).mono ?_; rintro e w' ⟨rfl, rfl⟩) | (go_at_call 37; refine (HB.out _).mono ?_; rintro e w' ⟨rfl, rfl⟩))
            go_roundw
            case rel => exact ⟨q + 1, by omega, by go_num, HR2.out, hbel.setCell (Nat.le_refl _) _⟩
            case measure => simp [intOf]; omega
          · have hqm : Kept (q = m) := ⟨by omega⟩
            obtain ⟨cs, hb, hn, hc⟩ := hrow
            have hofa := fun W => of_any cs _ r W hc ⟨by rw [← hr.out, ← put_done (by omega), hqm.out]⟩
            have HOF := Lib.hid hofa
            clear hofa hc hr hqm
            go_wp2_with (first | (go_at_call 36; refine (HTH.out _).mono ?_; rintro e w' ⟨rfl, rfl⟩) | (go_at_call 34; refine (HOF.out _).mono ?_; rintro e w1 ⟨rfl, hb1⟩) | (refine wpList_load_row rfl 48 _ rfl w.heap.size rfl 48 cs _ _ hb Try.underlying48 rfl (by rw [hn]; kernel_rfl) ?_))
            go_ret
            exact ⟨rfl, hbel.trans (hb1.mono hbel.size)⟩

theorem zig_ref (a : Int) (w : World) (h1 : -9223372036854775808 ≤ a) (h2 : a ≤ 9223372036854775807) :
    Calls Try.prog 21 #[.int .i64 a] w fun e w' => e = .returned (.int .u64 (M.zig a : Nat)) ∧ w = w' := by
  go_enter Try.func21, Try.ntmps21
  go_wp2
  · have h : 0 ≤ a := by assumption
    go_ret
    exact ⟨ret_of (by unfold M.zig; rw [if_pos h]; omega), rfl⟩
  · have h : a < 0 := by assumption
    go_ret
    exact ⟨ret_of (by unfold M.zig; rw [if_neg (by omega)]; omega), rfl⟩

/-- How many, the highest, the lowest, below k. -/
structure Counted (x k n : Nat) (t b : Int) : Prop where
  n : n = M.ones x k
  t : t = M.top x k
  b : b = M.bot x k
theorem counted_none (x : Nat) : Counted x 0 0 (-1) (-1) := ⟨rfl, rfl, rfl⟩
theorem counted_zero {x k n : Nat} {t b : Int} (h : Counted x k n t b) (hb : x.testBit k = false) : Counted x (k + 1) n t b :=
  ⟨by rw [M.ones_succ, hb, h.n]; rfl, by rw [M.top, hb, h.t]; rfl, by rw [M.bot, hb, h.b]; simp⟩
theorem counted_one {x k n : Nat} {t b : Int} (h : Counted x k n t b) (hb : x.testBit k = true) (hn : b < 0) : Counted x (k + 1) (n + 1) k k :=
  ⟨by rw [M.ones_succ, hb, h.n]; rfl, by rw [M.top, hb]; rfl, by rw [M.bot, hb, ← h.b, if_pos ⟨hn, rfl⟩]⟩
theorem counted_more {x k n : Nat} {t b : Int} (h : Counted x k n t b) (hb : x.testBit k = true) (hn : 0 ≤ b) : Counted x (k + 1) (n + 1) k b :=
  ⟨by rw [M.ones_succ, hb, h.n]; rfl, by rw [M.top, hb]; rfl, by rw [M.bot, hb, ← h.b, if_neg (by omega)]⟩
theorem counted_in {x k n : Nat} {t b : Int} (h : Counted x k n t b) : n ≤ k ∧ -1 ≤ b := by
  have := M.ones_le x k
  have := M.bot_in x k
  rw [h.n, h.b]; omega

theorem count_ref (x n : Nat) (t b : Int) (w : World) (hx : x < 18446744073709551616) (hC : Counted x 64 n t b) :
    Calls Try.prog 27 #[.int .u64 x] w fun e w' => e = .returned (.tuple #[.int .i64 n, .int .i64 t, .int .i64 b]) ∧ w = w' := by
  go_enter Try.func27, Try.ntmps27
  go_wp2
  go_loop [5, 6, 7, 8] (fun sn st sb i => ∃ (k q : Nat) (u c : Int), k ≤ 64 ∧ i = .int .i64 k ∧ sn = .int .i64 q ∧ st = .int .i64 u ∧ sb = .int .i64 c ∧ Counted x k q u c) (fun _ _ _ i => 64 - (intOf i).toNat)
  case atStart => exact ⟨0, 0, -1, -1, Nat.zero_le _, rfl, rfl, rfl, rfl, counted_none x⟩
  case round =>
    obtain ⟨k, q, u, c, hk, rfl, rfl, rfl, rfl, HC⟩ := hrel
    have hin := counted_in HC
    obtain ⟨hq, hc⟩ := hin
    by_cases hlt : k < 64
    · cases hbit : x.testBit k
      · have HN := counted_zero HC hbit
        clear HC hC
        go_wp2_with (go_at_call 37; refine (bit_any x k _ _ hx hlt hbit).mono ?_; rintro e w' ⟨rfl, rfl⟩)
        go_round
        case rel => exact ⟨k + 1, q, u, c, by omega, by go_num, rfl, rfl, rfl, HN⟩
        case measure => simp [intOf]; omega
      · by_cases hneg : c < 0
        · have HN := counted_one HC hbit hneg
          clear HC hC
          go_wp2_with (go_at_call 37; refine (bit_any x k _ _ hx hlt hbit).mono ?_; rintro e w' ⟨rfl, rfl⟩)
          go_round
          case rel => exact ⟨k + 1, q + 1, k, k, by omega, by go_num, by go_num, rfl, rfl, HN⟩
          case measure => simp [intOf]; omega
        · have HN := counted_more HC hbit (by omega)
          clear HC hC
          go_wp2_with (go_at_call 37; refine (bit_any x k _ _ hx hlt hbit).mono ?_; rintro e w' ⟨rfl, rfl⟩)
          go_round
          case rel => exact ⟨k + 1, q + 1, k, c, by omega, by go_num, by go_num, rfl, rfl, HN⟩
          case measure => simp [intOf]; omega
    · have e64 : k = 64 := by omega
      have HE : Kept (q = n ∧ u = t ∧ c = b) := by
        rw [e64] at HC
        exact ⟨HC.n.trans hC.n.symm, HC.t.trans hC.t.symm, HC.b.trans hC.b.symm⟩
      clear HC hC e64
      go_wp2
      obtain ⟨rfl, rfl, rfl⟩ := HE.out
      go_ret3
      exact ⟨rfl, rfl⟩

theorem sign_small (x : Nat) (n : Int) (h1 : 1 ≤ n) (m r L : Nat) (hm : m = min n.toNat 64 - 1) (hr : r = x % 2 ^ m) (hL : L + 1 = 2 ^ m) (b : Bool) (hb : x.testBit m = b) :
    M.sign x n = if b then (r : Int) - L - 1 else r := by
  unfold M.sign
  rw [if_neg (by omega), ← hm, ← hr, hb]
  cases b
  · simp
  · simp only [if_true]; omega

theorem sign_ref (x : Nat) (n : Int) (w : World) (hx : x < 18446744073709551616) (h1 : -9223372036854775808 ≤ n) (h2 : n ≤ 9223372036854775807) :
    Calls Try.prog 19 #[.int .u64 x, .int .i64 n] w fun e w' => e = .returned (.int .i64 (M.sign x n)) ∧ Below w.heap.size w w' := by
  by_cases h0 : n < 1
  · go_enter Try.func19, Try.ntmps19
    go_wp2
    go_ret
    exact ⟨ret_of (by unfold M.sign; rw [if_pos h0]), Below.refl _ _⟩
  · obtain ⟨m, hm⟩ : ∃ m, m = min n.toNat 64 - 1 := ⟨_, rfl⟩
    have hm64 : m < 64 := by omega
    obtain ⟨r, hr⟩ : ∃ r, r = x % 2 ^ m := ⟨_, rfl⟩
    obtain ⟨p, hp⟩ : ∃ p, p = 2 ^ m := ⟨_, rfl⟩
    obtain ⟨L, hL⟩ : ∃ L, L + 1 = 2 ^ m := ⟨2 ^ m - 1, by have := pow_bd hm64; omega⟩
    have hp1 := pow_bd hm64
    have hrp : r < 2 ^ m := by rw [hr]; exact Nat.mod_lt _ (by omega)
    have hL63 : L ≤ 9223372036854775807 := by omega
    have hr63 : r ≤ 9223372036854775807 := by omega
    have hlow : M.low (m : Int) = L := by unfold M.low; rw [show min (m : Int).toNat 64 = m by omega]; omega
    obtain ⟨b, hb⟩ : ∃ b, x.testBit m = b := ⟨_, rfl⟩
    have HS : Kept (M.sign x n = if b then (r : Int) - L - 1 else r) := ⟨sign_small x n (by omega) m r L hm hr hL b hb⟩
    obtain ⟨mi, hmi⟩ : ∃ mi : Int, mi = m := ⟨_, rfl⟩
    have HG := Lib.hid (fun W => get_ref x r 0 mi W hx (by omega) (by omega) ⟨by rw [hmi, M.get_mod (by omega), hr]⟩)
    have HL := Lib.hid (fun W => low_ref mi W)
    rw [hmi, hlow, ← hmi] at HL
    have HB := Lib.hid (fun W => bit_any x m b W hx hm64 hb)
    rw [← hmi] at HB
    obtain ⟨s, hs⟩ : ∃ s, M.sign x n = s := ⟨_, rfl⟩
    rw [hs] at HS ⊢
    clear hs hb hlow hrp hp1 hL hp hr
    by_cases h64 : 64 < n
    · obtain rfl : mi = 63 := by omega
      clear hmi hm hm64
      cases b
      · go_enter Try.func19, Try.ntmps19
        go_wp2_with (first | (go_at_call 12; refine (HG.out _).mono ?_; rintro e w1 ⟨rfl, hb1⟩) | (go_at_call 37; refine (HB.out _).mono ?_; rintro e w' ⟨rfl, rfl⟩) | (go_at_call 10; refine (HL.out _).mono ?_; rintro e w2 ⟨rfl, hb2⟩))
        go_ret
        exact ⟨ret_of (by rw [HS.out]; rfl), hb1⟩
      · go_enter Try.func19, Try.ntmps19
        go_wp2_with (first | (go_at_call 12; refine (HG.out _).mono ?_; rintro e w1 ⟨rfl, hb1⟩) | (go_at_call 37; refine (HB.out _).mono ?_; rintro e w' ⟨rfl, rfl⟩) | (go_at_call 10; refine (HL.out _).mono ?_; rintro e w2 ⟨rfl, hb2⟩))
        go_ret
        exact ⟨ret_of (by rw [HS.out]; rfl), hb1.trans (hb2.mono hb1.size)⟩
    · have hn : n = mi + 1 := by omega
      subst hn
      clear hmi hm
      cases b
      · go_enter Try.func19, Try.ntmps19
        go_wp2_with (first | (go_at_call 12; refine (HG.out _).mono ?_; rintro e w1 ⟨rfl, hb1⟩) | (go_at_call 37; refine (HB.out _).mono ?_; rintro e w' ⟨rfl, rfl⟩) | (go_at_call 10; refine (HL.out _).mono ?_; rintro e w2 ⟨rfl, hb2⟩))
        go_ret
        exact ⟨ret_of (by rw [HS.out]; rfl), hb1⟩
      · go_enter Try.func19, Try.ntmps19
        go_wp2_with (first | (go_at_call 12; refine (HG.out _).mono ?_; rintro e w1 ⟨rfl, hb1⟩) | (go_at_call 37; refine (HB.out _).mono ?_; rintro e w' ⟨rfl, rfl⟩) | (go_at_call 10; refine (HL.out _).mono ?_; rintro e w2 ⟨rfl, hb2⟩))
        go_ret
        exact ⟨ret_of (by rw [HS.out]; rfl), hb1.trans (hb2.mono hb1.size)⟩
end Go.Proofs.Ytnholkkkdmbfnaa
