/-
  The law's To and raw: a tag's ten bytes, one by one.
-/
import Derived.Test.YtnggojnfppehpaaRby
set_option linter.unusedVariables false
set_option linter.unusedSimpArgs false
namespace Go.Proofs.Ytnggojnfppehpaa
open Go.RowKit
attribute [local go_sem ↓] Go.wp_at_zero Go.wp_at_succ ld_a ld_n st_a st_n eq_a eq_n ne_a ne_n lv_a lv_n lp_3 lp_4
attribute [local go_sem] run_ld_a run_ld_n run_sw_a run_sw_n run_eq_a run_eq_n run_ne_a run_ne_n run_lv_a run_lv_n st_z ne_z rd_new rd_old rd_drew rd_drewN rd_set tn_new tn_old tn_drew tn_drewN setRow_alloc run_lp_3 run_lp_4

theorem tg_at (x : D.Tg) {k : Nat} (h : k < 10) : ∃ b, x.l[k]? = some b := ⟨x.l[k]'(by rw [x.len]; exact h), List.getElem?_eq_getElem _⟩
theorem blk_at {w : World} {g : Nat} {t : TypeId} {x : D.Tg} {j b : Nat} (h : Blk w g t (nc x)) (hb : x.l[j]? = some b) : w.cell? ⟨g, j, none⟩ = some (.int .u8 b) := by
  rw [h.c j]
  simp [nc, bys, hb]
/-- One byte more. -/
theorem put_one {w : World} {g : Nat} {t : TypeId} {x : D.Tg} {k b : Nat} (h : Blk w g t (pk x.l k 10)) (hb : x.l[k]? = some b) (hk : k < 10) :
    (∃ v, w.cell? ⟨g, k, none⟩ = some v) ∧ w.frozen? ⟨g, k, none⟩ = false ∧ Blk (w.setCell ⟨g, k, none⟩ (.int .u8 b)) g t (pk x.l (k + 1) 10) := by
  refine ⟨?_, h.f k, ?_⟩
  · rw [h.c]
    exact ⟨_, Array.getElem?_eq_getElem (by rw [pk_size]; omega)⟩
  · have := h.put k (.int .u8 b)
    rwa [pk_next hb hk] at this
theorem lv_of_n {w : World} {a : Addr} {x : D.Tg} (h : rd w a = some x) : (loadVar 28 a).run Try.prog w = .ok (.agg (nc x)) w := (run_lv_n w a).trans (by rw [h]; rfl)
theorem ten_first (x : D.Tg) : pk x.l 0 10 = z10 := rfl
end Go.Proofs.Ytnggojnfppehpaa
