/-
  Two entries that are the same.
-/
import Derived.Test.YteiikacgcfidmaaGreatDoorSfo
set_option linter.unusedVariables false
set_option linter.unusedSimpArgs false
set_option maxRecDepth 100000
namespace Go.Proofs.YteiikacgcfidmaaGreatDoor
open Go.RowKit
theorem run_eq_rec_at (d : Nat) (w : World) (x : D.Rc) : (Op.equalIn (d + 2) 53 (.agg (rSh.v x)) (.agg (rSh.v x))).run Tryz.prog w = .ok true w := by
  rw [run_equalIn_agg w (d + 1) 53 _ _ (by kernel_rfl) (by kernel_rfl), rv_eq]
  simp only [Program.fieldsOf, Tryz.underlying53]
  simp [Op.eqFields, go_sem, run_equalIn_int w _ 5 _ _ _ _ Tryz.underlying5, run_equalIn_int w _ 51 _ _ _ _ Tryz.underlying51, run_equalIn_int w _ 44 _ _ _ _ Tryz.underlying44, run_equalIn_bool' w _ 4 _ _ Tryz.underlying4, run_equalIn_string w _ 9 _ _ Tryz.underlying9]
theorem run_eq_key_at (w : World) (x : D.Ky) : (Op.equalIn 9999 39 (.agg (kS.v x)) (.agg (kS.v x))).run Tryz.prog w = .ok true w := by
  obtain ⟨l, hl⟩ := k_lits_k x 0
  have hs : ((kS.v x).size == Tryz.prog.cellsOf 39) = true := by rw [kS.v_size, c_key]; rfl
  have hf : (Value.agg (kS.v x)).formed Tryz.prog 39 = true := by simp only [Value.formed, Tryz.underlying39, hs]
  have hc : Tryz.prog.keyLits 4 39 (Value.agg (kS.v x)).cells.toList = some l := by
    rw [show (Value.agg (kS.v x)).cells.toList = bys x.l by simp [Value.cells, Shp.v]; rfl]
    exact hl
  obtain ⟨r, hr, hiff⟩ := run_equalIn_deep 9993 6 39 (by kernel_rfl) w 4 4 _ _ l l hf hf hc hc
  rw [hr, hiff.2 rfl]
theorem run_eq_ent (w : World) (x : Ent) : (Op.equalIn 10000 60 (.agg (eS.v x)) (.agg (eS.v x))).run Tryz.prog w = .ok true w := by
  have hl : (bys x.1.l).length = 25 := by rw [bys_len, x.1.len]
  have e1 : (eS.v x).extract 0 25 = kS.v x.1 := by
    apply Array.ext'
    show ((ecells x).toArray.extract 0 25).toList = (bys x.1.l).toArray.toList
    simp [ecells, hl]
  have e2 : (eS.v x).extract 25 34 = rSh.v x.2 := by
    apply Array.ext'
    show ((ecells x).toArray.extract 25 34).toList = (rcellsh x.2).toArray.toList
    simp [ecells, hl, rcellsh]
  rw [run_equalIn_agg w 9999 60 _ _ (by kernel_rfl) (by kernel_rfl)]
  simp only [Program.fieldsOf, Tryz.underlying60, Op.eqFields]
  have p1 : (part 39 (eS.v x) 0).run Tryz.prog w = .ok (.agg (kS.v x.1)) w := by
    rw [← e1]
    simp [part, go_sem]
  have p2 : (part 53 (eS.v x) 25).run Tryz.prog w = .ok (.agg (rSh.v x.2)) w := by
    rw [← e2]
    simp [part, go_sem]
  have r2 := run_eq_rec_at 9997 w x.2
  simp only [ne_eq, reduceIte, show ¬ ("Key" = "_") by decide, show ¬ ("Rec" = "_") by decide, not_false_eq_true, Sem.run_bind, p1, p2, Result.andThen_ok, run_eq_key_at, r2, Bool.not_true, Bool.false_eq_true, if_false, Sem.run_pure]
theorem run_nee_same (w : World) (x : Ent) : (nee (.agg (eS.v x)) (.agg (eS.v x))).run Tryz.prog w = .ok (.bool false) w := by
  unfold nee
  rw [run_neq_struct, run_eq_ent]
  rfl
end Go.Proofs.YteiikacgcfidmaaGreatDoor
