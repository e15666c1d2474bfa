/-
  The chapter's examples.
-/
import Derived.Test.YtelifoagnheioaaRal
set_option linter.unusedVariables false
set_option linter.unusedSimpArgs false
set_option maxRecDepth 100000
namespace Go.Proofs.Ytelifoagnheioaa
open Go.RowKit
attribute [local go_sem ↓] Go.wp_at_zero Go.wp_at_succ ld_r st_r bd_r ne_r bs_r
attribute [local go_sem] run_ldr run_str run_bdr1 run_bdr0 run_bsr1 run_ner Shp.rd_new Shp.rd_old Shp.tn_new Shp.tn_old setRow_alloc setRow_alloc2

def xk : D.Rc := ⟨6, 3, 2, 0, 0, false, 300, 0, ⟨#[72, 97, 108, 108, 111]⟩⟩
def bk : List Nat := [6, 3, 2, 172, 2, 5, 72, 97, 108, 108, 111]
theorem run_bdr5 (w : World) : (bdr #[(0, .int .u8 6), (1, .int .u8 3), (2, .int .u8 2), (6, .int .u32 300), (8, .string ⟨#[72, 97, 108, 108, 111]⟩)]).run Try.prog w = .ok (.agg (rS.v xk)) w := by
  unfold bdr
  kernel_rfl
theorem xk_wf : xk.wf := by constructor <;> decide
theorem xk_errs : D.errs [xk] = 0 := by decide
theorem xk_rbs : D.rbs [xk] = bk := by
  have h1 : D.sm 300 = [172, 2] := by rw [D.sm_more (by decide), D.sm_last (by decide)]
  have h2 : D.sm 5 = [5] := D.sm_last (by decide)
  have h3 : (⟨#[72, 97, 108, 108, 111]⟩ : ByteArray).size = 5 := rfl
  simp only [D.rbs, List.flatMap_cons, List.flatMap_nil, D.rby, xk, D.rtl, D.rtxt_, h1, h2, h3]
  rfl
theorem five_rdr : D.rdr [5, 2, 1, 0] 0 = ⟨D.zRc, 0, 5⟩ := by rfl
theorem lit_bk (w : World) (H : Nat) (hH : w.heap.size = H) : Row (w.alloc (.cells #[.int .u8 6, .int .u8 3, .int .u8 2, .int .u8 172, .int .u8 2, .int .u8 5, .int .u8 72, .int .u8 97, .int .u8 108, .int .u8 108, .int .u8 111] 5)) (some ⟨H, 0, none⟩) 11 (bys bk) := by
  subst hH
  exact ⟨rfl, fun _ => ⟨_, rfl, by simp, World.news_of_block (heap_alloc_new w _)⟩⟩
theorem lit_five (w : World) (H : Nat) (hH : w.heap.size = H) : Row (w.alloc (.cells #[.int .u8 5, .int .u8 2, .int .u8 1, .int .u8 0] 5)) (some ⟨H, 0, none⟩) 4 (bys [5, 2, 1, 0]) := by
  subst hH
  exact ⟨rfl, fun _ => ⟨_, rfl, by simp, World.news_of_block (heap_alloc_new w _)⟩⟩
attribute [local go_sem] run_bdr5
set_option maxHeartbeats 4000000 in
theorem known_any (w : World) : Calls Try.prog 14 #[] w fun en w' => en = .returned (.bool true) ∧ Below w.heap.size w w' := by
  have CB : Hid (∀ W A, Rw 9 W A 1 (rS.rcs [xk]) → Calls Try.prog 12 #[.slice A 1 1] W fun en w' => ∃ (B : Option Addr) (d : Nat), en = .returned (.tuple #[.slice B 11 d, .int .i64 0]) ∧ Row w' B 11 (bys bk) ∧ Below W.heap.size W w') := Lib.hid (fun W A k => (bytes_any [xk] A 1 1 W (fun r hr => (List.mem_singleton.1 hr) ▸ xk_wf) k (by decide)).mono fun en w' ⟨B, m, d, h1, h2, h3, h4, h5⟩ => by
    rw [xk_errs] at h1 h2
    rw [if_pos rfl, xk_rbs] at h2
    have hm : 11 = m := h2.len
    subst hm
    exact ⟨B, d, h1, h2, h5⟩)
  have CR : Hid (∀ W A, Row W A 4 (bys [5, 2, 1, 0]) → Calls Try.prog 17 #[.slice A 4 4] W fun en w' => en = .returned (.tuple #[.agg (rS.v D.zRc), .int .i64 0, .int .i64 5]) ∧ Below W.heap.size W w') := Lib.hid (fun W A k => by
    have := read_any [5, 2, 1, 0] A 4 4 W (by decide) k (by decide)
    rw [five_rdr] at this
    exact this)
  have CS : Hid (∀ A B d e W, Row W A 11 (bys bk) → Row W B 11 (bys bk) → Calls Try.prog 15 #[.slice A 11 d, .slice B 11 e] W fun en w' => en = .returned (.bool true) ∧ ∃ q, w' = W.drewN q) := Lib.hid (fun A B d e W h1 h2 => same_any A B 11 d 11 e bk bk true W h1 h2 (by decide) (by decide) ⟨D.same_self _⟩)
  go_enter Try.func14, Try.ntmps14
  go_wp2_with (first
    | (go_at_call 12; (with_reducible refine (CB.out _ _ (rw_one w _ xk rfl)).mono ?_); rintro en w1 ⟨B1, d1, rfl, r1, b1⟩
       have R1 := Lib.hid r1
       have B1' := Lib.hid ((below_alloc w (.cells (rS.v xk) 28)).trans (b1.mono (by simp)))
       clear r1 b1)
    | (go_at_call 17; (with_reducible refine (CR.out _ _ (lit_five w1 _ rfl)).mono ?_); rintro en w2 ⟨rfl, b2⟩
       have B2 := Lib.hid ((below_alloc w1 (.cells #[.int .u8 5, .int .u8 2, .int .u8 1, .int .u8 0] 5)).trans (b2.mono (by simp)))
       clear b2)
    | (go_at_call 15; (with_reducible refine (CS.out _ _ _ _ _ ?_ ?_).mono ?_); (exact ((R1.out.on B2.out).alloc _).alloc _); (exact lit_bk _ _ (by simp)); rintro en w3 ⟨rfl, u, hu⟩
       have B3 := Lib.hid (show Below w2.heap.size w2 w3 from by rw [hu]; exact below_drewN ((((Below.refl _ _).alloc (Nat.le_refl _) _)).alloc (by simp) _) u)
       clear hu))
  go_ret
  exact ⟨rfl, (B1'.out.trans (B2.out.mono B1'.out.size)).trans (B3.out.mono (Nat.le_trans B1'.out.size B2.out.size))⟩
end Go.Proofs.Ytelifoagnheioaa
