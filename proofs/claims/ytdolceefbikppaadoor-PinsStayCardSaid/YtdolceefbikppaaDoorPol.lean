/-
  Oldest, Below; what nil tables answer; OnesCount64 of words that are known.
-/
import Derived.Test.YtdolceefbikppaaDoorPsr
import Derived.Test.YtdolceefbikppaaDoorPun
import Derived.Maps.RangeWalk
import Derived.Laws.IdiomRangeMap
set_option linter.unusedVariables false
set_option linter.unusedSimpArgs false
set_option maxRecDepth 100000
namespace Go.Proofs.YtdolceefbikppaaDoor
open Go.RowKit
attribute [local go_sem ↓] Go.wp_at_zero Go.wp_at_succ
theorem oldest_nil {w : World} {p : Option Nat} (h : Cm w p none) : Calls Tryd.prog 16 #[.pointer (p.map fun g => ⟨g, 0, none⟩)] w fun e w' => e = .returned (.tuple #[.int .u64 0, .bool false]) ∧ Below w.heap.size w w' := by
  have CC := Lib.hid (h.out w (Below.refl _ _))
  have hrg := run_range_nilMap (P := Tryd.prog) w 25 23 3 Tryd.underlying25
  have hnx : ∀ ty, (Instr.next (.pointer (some ⟨w.heap.size, 0, none⟩)) false ty).run Tryd.prog (w.alloc (.mapIter none 0 #[] 0)) = _ := fun ty => run_next_nilMap _ ty 0 0 #[]
  have HB := Lib.hid (below_alloc_ w (.mapIter none 0 #[] 0))
  clear h
  go_enter Tryd.func16, Tryd.ntmps16
  go_wp2_with (go_at_call 26; (with_reducible refine CC.out.mono ?_); rintro e w1 ⟨rfl, rfl⟩)
  refine wp_loop_rounds 1 ?_
  rw [rounds_succ]
  go_wp2
  refine bodyPost_ret (results_tmp2 rfl _ _ _) rfl ⟨rfl, HB.out⟩
theorem below_nil {w : World} {p : Option Nat} (h : Cm w p none) (t : Nat) : Calls Tryd.prog 18 #[.pointer (p.map fun g => ⟨g, 0, none⟩), .int .u64 (t : Nat)] w fun e w' => e = .returned (.bool false) ∧ Below w.heap.size w w' := by
  have CO := Lib.hid (oldest_nil h)
  clear h
  go_enter Tryd.func18, Tryd.ntmps18
  go_wp2_with (go_at_call 16; (with_reducible refine CO.out.mono ?_); rintro e w1 ⟨rfl, hb⟩)
  go_ret
  exact ⟨rfl, hb⟩
theorem unpin_nil (i : Int) (h1 : -9223372036854775808 ≤ i) (h2 : i ≤ 9223372036854775807) (w : World) (A : Option Addr) (c : Nat) (hr : Row w A 1 (zs [i])) : Calls Tryd.prog 8 #[.pointer none, .slice A 1 c] w fun e w' => e = .returned (.int .i64 0) ∧ w' = w := by
  obtain ⟨ad, rfl, hc⟩ := hr.cell (k := 0) (u := .int .i64 i) rfl
  rw [add_zero_] at hc
  have CH := Lib.hid (has_nil w i h1 h2)
  clear hr
  go_enter Tryd.func8, Tryd.ntmps8
  go_wp2_with fail
  refine wp_loop_rounds 2 ?_
  rw [rounds_succ]
  go_wp2_with (go_at_call 19; (with_reducible refine CH.out.mono ?_); rintro e w1 ⟨rfl, rfl⟩)
  rw [rounds_succ]
  go_wp2
  go_ret
  exact ⟨rfl, rfl⟩
theorem pin_nil (t : Nat) (w : World) : Calls Tryd.prog 10 #[.pointer none, .int .u64 (t : Nat)] w fun e w' => e = .returned (.tuple #[.int .i64 0, .int .i64 9]) ∧ w' = w := by
  go_enter Tryd.func10, Tryd.ntmps10
  go_wp2
  refine bodyPost_ret (results_tmp2 rfl _ _ _) rfl ⟨rfl, rfl⟩
theorem ones_0 (w : World) : Calls Tryd.prog 24 #[.int .u64 0] w fun e w' => e = .returned (.int .i64 0) ∧ w' = w := by
  go_enter Tryd.func24, Tryd.ntmps24
  go_wp2
  go_ret
  exact ⟨by kernel_rfl, rfl⟩
theorem ones_64 (w : World) : Calls Tryd.prog 24 #[.int .u64 18446744073709551615] w fun e w' => e = .returned (.int .i64 64) ∧ w' = w := by
  go_enter Tryd.func24, Tryd.ntmps24
  go_wp2
  go_ret
  exact ⟨by kernel_rfl, rfl⟩
theorem len_nil (w : World) : Calls Tryd.prog 13 #[.pointer none] w fun e w' => e = .returned (.int .i64 0) ∧ w' = w := by
  have CW := Lib.hid (word_nil w)
  have CO := Lib.hid (ones_0 w)
  go_enter Tryd.func13, Tryd.ntmps13
  go_wp2_with (first
    | (go_at_call 25; (with_reducible refine CW.out.mono ?_); rintro e w1 ⟨rfl, rfl⟩)
    | (go_at_call 24; (with_reducible refine CO.out.mono ?_); rintro e w1 ⟨rfl, rfl⟩))
  go_ret
  exact ⟨rfl, rfl⟩
theorem len_full {base g : Nat} {w : World} {m : Option Nat} {l : D.Ps} (h : Tab base w g m l) (hf : D.fr l = 64) : Calls Tryd.prog 13 #[.pointer (some ⟨g, 0, none⟩)] w fun e w' => e = .returned (.int .i64 64) ∧ w' = w := by
  have CW := Lib.hid (word_any h)
  have := D.fr_full (l := l) (by rw [hf, h.len])
  rw [h.len] at this
  rw [this] at CW
  have CW : Hid (Calls Tryd.prog 25 #[.pointer (some ⟨g, 0, none⟩)] w fun e w' => e = .returned (.int .u64 18446744073709551615) ∧ w = w') := CW
  have CO := Lib.hid (ones_64 w)
  clear h hf this
  go_enter Tryd.func13, Tryd.ntmps13
  go_wp2_with (first
    | (go_at_call 25; (with_reducible refine CW.out.mono ?_); rintro e w1 ⟨rfl, rfl⟩)
    | (go_at_call 24; (with_reducible refine CO.out.mono ?_); rintro e w1 ⟨rfl, rfl⟩))
  go_ret
  exact ⟨rfl, rfl⟩
end Go.Proofs.YtdolceefbikppaaDoor
