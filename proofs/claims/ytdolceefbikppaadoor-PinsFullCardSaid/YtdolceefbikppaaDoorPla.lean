/-
  A nil table: the law.
-/
import Derived.Test.YtdolceefbikppaaDoorPkn
import Derived.Test.YtdolceefbikppaaDoorPol
set_option linter.unusedVariables false
set_option linter.unusedSimpArgs false
set_option maxRecDepth 100000
namespace Go.Proofs.YtdolceefbikppaaDoor
open Go.RowKit
attribute [local go_sem ↓] Go.wp_at_zero Go.wp_at_succ
set_option maxHeartbeats 4000000 in
theorem law_nil (i : Int) (t : Nat) (w : World) (h1 : -9223372036854775808 ≤ i) (h2 : i ≤ 9223372036854775807) (ht : t < 18446744073709551616) (hE : Env w) :
    Calls Tryd.prog 6 #[.int .i64 i, .int .u64 (t : Nat)] w fun e w' => e = .returned (.bool true) ∧ Below w.heap.size w w' := by
  have CP := Lib.hid (fun W => pin_nil t W)
  have CA := Lib.hid (fun W => at_nil W i h1 h2)
  have CO : Hid (∀ W : World, Calls Tryd.prog 16 #[.pointer none] W fun e w' => e = .returned (.tuple #[.int .u64 0, .bool false]) ∧ Below W.heap.size W w') := Lib.hid fun W => by have := oldest_nil (Cm.nil W); rw [Option.map_none] at this; exact this
  have CB : Hid (∀ W : World, Calls Tryd.prog 18 #[.pointer none, .int .u64 (t : Nat)] W fun e w' => e = .returned (.bool false) ∧ Below W.heap.size W w') := Lib.hid fun W => by have := below_nil (Cm.nil W) t; rw [Option.map_none] at this; exact this
  have CK := Lib.hid (fun W (hW : Below w.heap.size w W) => known_any W (hE.on hW))
  have CU : Hid (∀ W : World, Calls Tryd.prog 8 #[.pointer none, .slice (some ⟨W.heap.size, 0, none⟩) 1 1] (W.alloc (.cells #[.int .i64 i] 3)) fun e w' => e = .returned (.int .i64 0) ∧ Below W.heap.size W w') := Lib.hid fun W => (unpin_nil i h1 h2 _ _ 1 (row_one W i)).mono fun e w' ⟨h, h'⟩ => ⟨h, by rw [h']; exact below_alloc_ _ _⟩
  have CT : Hid (∀ W : World, Calls Tryd.prog 17 #[.pointer none] W fun e w' => ∃ A c, e = .returned (.slice A 0 c) ∧ Below W.heap.size W w') := Lib.hid fun W => by have := times_any (Cm.nil W) (L := []) (fun b e => by cases e) (fun _ => rfl) (by simp); rw [Option.map_none] at this; exact this.mono fun e w' ⟨A, c, ys, h, _, hs, hb⟩ => ⟨A, c, by rw [h, hs.len]; rfl, hb⟩
  have CC := Lib.hid (fun W => count_nil W t ht)
  have CL := Lib.hid (fun W => len_nil W)
  clear hE ht
  go_enter Tryd.func6, Tryd.ntmps6
  go_wp2_with (first
    | (go_at_call 10; (with_reducible refine (CP.out _).mono ?_); rintro e w1 ⟨rfl, rfl⟩)
    | (go_at_call 14; (with_reducible refine (CA.out _).mono ?_); rintro e w1 ⟨rfl, rfl⟩)
    | (go_at_call 16; (with_reducible refine (CO.out _).mono ?_); rintro e w2 ⟨rfl, b2⟩; have B2 := Lib.hid b2; clear b2)
    | (go_at_call 12; (with_reducible refine (CK.out _ B2.out).mono ?_); rintro e w3 ⟨rfl, b3⟩; have B3 := Lib.hid (below_up B2.out B2.out.size b3); clear b3)
    | (go_at_call 8; (with_reducible refine (CU.out _).mono ?_); rintro e w4 ⟨rfl, b4⟩; have B4 := Lib.hid (below_up B3.out B3.out.size b4); clear b4)
    | (go_at_call 17; (with_reducible refine (CT.out _).mono ?_); rintro e w5 ⟨A, c, rfl, b5⟩; have B5 := Lib.hid (below_up B4.out B4.out.size b5); clear b5)
    | (go_at_call 15; (with_reducible refine (CC.out _).mono ?_); rintro e w1 ⟨rfl, rfl⟩)
    | (go_at_call 18; (with_reducible refine (CB.out _).mono ?_); rintro e w6 ⟨rfl, b6⟩; have B6 := Lib.hid (below_up B5.out B5.out.size b6); clear b6)
    | (go_at_call 13; (with_reducible refine (CL.out _).mono ?_); rintro e w1 ⟨rfl, rfl⟩))
  go_ret
  exact ⟨rfl, B6.out⟩
end Go.Proofs.YtdolceefbikppaaDoor
