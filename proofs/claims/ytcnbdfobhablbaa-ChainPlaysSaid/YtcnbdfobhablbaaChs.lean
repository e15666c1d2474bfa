/-
  Versions in memory: a version's cells, the program's and the document's; loads, stores, versions built, compared.
-/
import Derived.Test.YtcnbdfobhablbaaRsh
import Derived.Test.YtcnbdfobhablbaaChm
import Derived.Deep.MidRow
set_option linter.unusedVariables false
set_option linter.unusedSimpArgs false
set_option maxRecDepth 100000
namespace Go.Proofs.Ytcnbdfobhablbaa
open Go.RowKit

theorem rc_ext {x y : D.Rc} (h1 : x.k = y.k) (h2 : x.s = y.s) (h3 : x.u = y.u) (h4 : x.p = y.p) (h5 : x.m = y.m) (h6 : x.g = y.g) (h7 : x.v = y.v) (h8 : x.a = y.a) (h9 : x.t = y.t) : x = y := by
  cases x; cases y; simp only at *; subst h1 h2 h3 h4 h5 h6 h7 h8 h9; rfl
theorem add_sc (a : Addr) (k : Nat) : a.add (k + 1) = ⟨a.block, a.off + (k + 1), none⟩ := by unfold Addr.add; simp
theorem cell_kept_ {w w' : World} (hb : Below w.heap.size w w') {a : Addr} {v : Value} (h : w.cell? a = some v) : w'.cell? a = some v := (World.cell?_of_block (hb.block _ (World.block_lt_of_cell? w _ h))).trans h
theorem below_up {B : Nat} {w0 w w' : World} (h : Below B w0 w) (hs : B ≤ w.heap.size) (hb : Below w.heap.size w w') : Below B w0 w' := h.trans (hb.mono hs)
theorem below_dn {w0 w : World} {B : Nat} (h : Below B w0 w) (n : Nat) : Below B w0 (w.drewN n) := ⟨h.os, h.tape, h.output, h.size, h.block⟩
def vcells (x : D.Vn) : List Value := .int .u64 (x.a : Nat) :: .bool x.d :: rcells x.r
def wcells (x : D.Vn) : List Value := .int .u64 (x.a : Nat) :: .bool x.d :: dcells x.r
theorem vcells_inj {x y : D.Vn} (h : vcells x = vcells y) : x = y := by
  obtain ⟨a, d, r⟩ := x
  obtain ⟨a', d', r'⟩ := y
  simp only [vcells, List.cons.injEq, Value.int.injEq, Value.bool.injEq, true_and, Int.ofNat_inj] at h
  obtain ⟨rfl, rfl, h⟩ := h
  rw [rcells_inj h]
theorem wcells_inj {x y : D.Vn} (h : wcells x = wcells y) : x = y := by
  obtain ⟨a, d, r⟩ := x
  obtain ⟨a', d', r'⟩ := y
  simp only [wcells, List.cons.injEq, Value.int.injEq, Value.bool.injEq, true_and, Int.ofNat_inj] at h
  obtain ⟨rfl, rfl, h⟩ := h
  rw [dcells_inj h]
def vS : Shp D.Vn := ⟨vcells, 11, by decide, fun _ => rfl, vcells_inj, fun x u hu => by
  simp only [vcells, List.mem_cons] at hu
  rcases hu with rfl | rfl | hu
  · rfl
  · rfl
  · exact rS.one x.r u hu⟩
def wS : Shp D.Vn := ⟨wcells, 11, by decide, fun _ => rfl, wcells_inj, fun x u hu => by
  simp only [wcells, List.mem_cons] at hu
  rcases hu with rfl | rfl | hu
  · rfl
  · rfl
  · exact dS.one x.r u hu⟩
theorem vv_eq (x : D.Vn) : vS.v x = #[.int .u64 (x.a : Nat), .bool x.d, .int .u8 (x.r.k : Nat), .int .u8 (x.r.s : Nat), .int .u8 (x.r.u : Nat), .int .u8 (x.r.p : Nat), .int .u8 (x.r.m : Nat), .bool x.r.g, .int .u32 (x.r.v : Nat), .int .u64 (x.r.a : Nat), .string x.r.t] := rfl
theorem wv_eq (x : D.Vn) : wS.v x = #[.int .u64 (x.a : Nat), .bool x.d, .int .i64 (x.r.k : Nat), .int .i64 (x.r.s : Nat), .int .i64 (x.r.u : Nat), .int .i64 (x.r.p : Nat), .int .i64 (x.r.m : Nat), .bool x.r.g, .int .u64 (x.r.v : Nat), .int .u64 (x.r.a : Nat), .string x.r.t] := rfl
noncomputable def ldv (v : Value) : Sem Value := Instr.loadAt 32 v
noncomputable def lvv (a : Addr) : Sem Value := loadVar 32 a
noncomputable def stv (p v : Value) : Sem Unit := Instr.storeAt 32 p v
noncomputable def nev (u v : Value) : Sem Value := binOp .neq 32 u v
noncomputable def bdv (ps : Array (Nat × Value)) : Sem Value := Instr.build 32 ps
noncomputable def bsv (n : Nat) (ps : Array (Nat × Value)) : Sem Value := Instr.buildSlice 24 n ps
theorem ld_v (v : Value) : Instr.loadAt 32 v = ldv v := rfl
theorem lv_v (a : Addr) : loadVar 32 a = lvv a := rfl
theorem st_v (p v : Value) : Instr.storeAt 32 p v = stv p v := rfl
theorem ne_v (u v : Value) : binOp .neq 32 u v = nev u v := rfl
theorem bd_v (ps : Array (Nat × Value)) : Instr.build 32 ps = bdv ps := rfl
theorem bs_v (n : Nat) (ps : Array (Nat × Value)) : Instr.buildSlice 24 n ps = bsv n ps := rfl
theorem run_lvv (w : World) (a : Addr) : (lvv a).run Try.prog w = (vS.rd w a).elim (bl 32 a w) fun x => .ok (.agg (vS.v x)) w := by
  cases h : vS.rd w a with
  | none => rfl
  | some x => exact Shp.loadVar_of Try.isAgg32 Try.sizeOf32 (Shp.at_of h)
theorem run_ldv (w : World) (a : Addr) : (ldv (.pointer (some a))).run Try.prog w = (vS.rd w a).elim (bl 32 a w) fun x => .ok (.agg (vS.v x)) w := by
  rw [← run_lvv]; simp only [ldv, lvv, Instr.loadAt, Instr.sureAddr, Sem.run_bind, Sem.run_pure, Result.andThen_ok]
theorem lvv_of {w : World} {a : Addr} {x : D.Vn} (h : vS.rd w a = some x) : (loadVar 32 a).run Try.prog w = .ok (.agg (vS.v x)) w := (run_lvv w a).trans (by rw [h]; rfl)
theorem run_stv (w : World) (g : Nat) (x : D.Vn) : (stv (.pointer (some ⟨g, 0, none⟩)) (.agg (vS.v x))).run Try.prog w = bif Shp.tn 11 w g then .ok () (w.setRow g (vS.v x)) else bs 32 g (vS.v x) w := by
  cases h : Shp.tn 11 w g with
  | false => rfl
  | true => exact Shp.storeVar_of (S := vS) h x fun t' cs hb hs => run_storeVar_row (P := Try.prog) w g t' _ cs (vS.v x) hb.out (by rw [vS.v_size]; kernel_rfl) hs (vS.v_one x)
theorem run_bsv1 (w : World) (x : D.Vn) : (bsv 1 #[(0, .agg (vS.v x))]).run Try.prog w = .ok (.slice (some ⟨w.heap.size, 0, none⟩) 1 1) (w.alloc (.cells (vS.v x) 32)) := by
  simp [bsv, vv_eq, Instr.buildSlice, go_sem]
theorem run_bsv0 (w : World) : (bsv 0 #[]).run Try.prog w = .ok (.slice (some ⟨w.heap.size, 0, none⟩) 0 0) (w.alloc (.cells #[] 32)) := by
  simp [bsv, Instr.buildSlice, go_sem]
noncomputable def ldw (v : Value) : Sem Value := Instr.loadAt 44 v
noncomputable def lvw (a : Addr) : Sem Value := loadVar 44 a
noncomputable def stw (p v : Value) : Sem Unit := Instr.storeAt 44 p v
noncomputable def new (u v : Value) : Sem Value := binOp .neq 44 u v
noncomputable def bdw (ps : Array (Nat × Value)) : Sem Value := Instr.build 44 ps
noncomputable def bsw (n : Nat) (ps : Array (Nat × Value)) : Sem Value := Instr.buildSlice 27 n ps
theorem ld_w (v : Value) : Instr.loadAt 44 v = ldw v := rfl
theorem lv_w (a : Addr) : loadVar 44 a = lvw a := rfl
theorem st_w (p v : Value) : Instr.storeAt 44 p v = stw p v := rfl
theorem ne_w (u v : Value) : binOp .neq 44 u v = new u v := rfl
theorem bd_w (ps : Array (Nat × Value)) : Instr.build 44 ps = bdw ps := rfl
theorem bs_w (n : Nat) (ps : Array (Nat × Value)) : Instr.buildSlice 27 n ps = bsw n ps := rfl
theorem run_lvw (w : World) (a : Addr) : (lvw a).run Try.prog w = (wS.rd w a).elim (bl 44 a w) fun x => .ok (.agg (wS.v x)) w := by
  cases h : wS.rd w a with
  | none => rfl
  | some x => exact Shp.loadVar_of Try.isAgg44 Try.sizeOf44 (Shp.at_of h)
theorem run_ldw (w : World) (a : Addr) : (ldw (.pointer (some a))).run Try.prog w = (wS.rd w a).elim (bl 44 a w) fun x => .ok (.agg (wS.v x)) w := by
  rw [← run_lvw]; simp only [ldw, lvw, Instr.loadAt, Instr.sureAddr, Sem.run_bind, Sem.run_pure, Result.andThen_ok]
theorem lvw_of {w : World} {a : Addr} {x : D.Vn} (h : wS.rd w a = some x) : (loadVar 44 a).run Try.prog w = .ok (.agg (wS.v x)) w := (run_lvw w a).trans (by rw [h]; rfl)
theorem run_stw (w : World) (g : Nat) (x : D.Vn) : (stw (.pointer (some ⟨g, 0, none⟩)) (.agg (wS.v x))).run Try.prog w = bif Shp.tn 11 w g then .ok () (w.setRow g (wS.v x)) else bs 44 g (wS.v x) w := by
  cases h : Shp.tn 11 w g with
  | false => rfl
  | true => exact Shp.storeVar_of (S := wS) h x fun t' cs hb hs => run_storeVar_row (P := Try.prog) w g t' _ cs (wS.v x) hb.out (by rw [wS.v_size]; kernel_rfl) hs (wS.v_one x)
theorem run_bsw1 (w : World) (x : D.Vn) : (bsw 1 #[(0, .agg (wS.v x))]).run Try.prog w = .ok (.slice (some ⟨w.heap.size, 0, none⟩) 1 1) (w.alloc (.cells (wS.v x) 44)) := by
  simp [bsw, wv_eq, Instr.buildSlice, go_sem]
theorem run_bsw0 (w : World) : (bsw 0 #[]).run Try.prog w = .ok (.slice (some ⟨w.heap.size, 0, none⟩) 0 0) (w.alloc (.cells #[] 44)) := by
  simp [bsw, Instr.buildSlice, go_sem]
theorem run_bdv_z (w : World) : (bdv #[(1, .bool true)]).run Try.prog w = .ok (.agg (vS.v (D.dd 0))) w := by
  simp [bdv, vv_eq, D.dd, D.zRc, Instr.build, go_sem]
theorem run_bdv_d (w : World) (a : Nat) : (bdv #[(0, .int .u64 (a : Nat)), (1, .bool true)]).run Try.prog w = .ok (.agg (vS.v (D.dd a))) w := by
  simp [bdv, vv_eq, D.dd, D.zRc, Instr.build, go_sem]
theorem run_bdv_r (w : World) (a : Nat) (r : D.Rc) : (bdv #[(0, .int .u64 (a : Nat)), (2, .agg (rS.v r))]).run Try.prog w = .ok (.agg (vS.v ⟨a, false, r⟩)) w := by
  simp [bdv, vv_eq, rv_eq, Instr.build, go_sem]
theorem run_bdw_3 (w : World) (x : D.Vn) : (bdw #[(0, .int .u64 (x.a : Nat)), (1, .bool x.d), (2, .agg (dS.v x.r))]).run Try.prog w = .ok (.agg (wS.v x)) w := by
  simp [bdw, wv_eq, dv_eq, Instr.build, go_sem]
theorem run_eq_vn (w : World) (x y : D.Vn) : (Op.equalIn 10000 32 (.agg (vS.v x)) (.agg (vS.v y))).run Try.prog w = .ok (decide (x = y)) w := by
  have hd : decide (x = y) = (decide (x.a = y.a) && decide (x.d = y.d) && decide (x.r = y.r)) := by
    obtain ⟨a, d, r⟩ := x
    obtain ⟨a', d', r'⟩ := y
    simp only [D.Vn.mk.injEq, ← Bool.decide_and, and_assoc]
  rw [hd, run_equalIn_agg w 9999 32 _ _ (by kernel_rfl) (by kernel_rfl)]
  simp only [Program.fieldsOf, Try.underlying32]
  have e8 : ∀ a b : Nat, (((a : Nat) : Int) == ((b : Nat) : Int)) = decide (a = b) := fun a b => by
    rw [Bool.eq_iff_iff]; simp; omega
  have eb : ∀ a b : Bool, (a == b) = decide (a = b) := by decide
  rw [vv_eq, vv_eq]
  simp [Op.eqFields, go_sem, run_equalIn_int w _ 28 _ _ _ _ Try.underlying28, run_equalIn_int w _ 23 _ _ _ _ Try.underlying23, run_equalIn_int w _ 5 _ _ _ _ Try.underlying5, run_equalIn_bool' w _ 4 _ _ Try.underlying4, run_equalIn_string w _ 9 _ _ Try.underlying9, e8, eb]
  by_cases h0 : x.a = y.a
  · by_cases h1 : x.d = y.d
    · by_cases h2 : x.r = y.r
      · simp [h0, h1, h2]
      · simp [h0, h1, h2]
        intro e1 e2 e3 e4 e5 e6 e7 e8 e9
        exact h2 (rc_ext e1 e2 e3 e4 e5 e6 e7 e8 (of_decide_eq_true (by rw [← txt_beq, e9]; exact beq_self_eq_true _)))
    · simp [h0, h1]
  · simp [h0]
theorem run_nev (w : World) (x y : D.Vn) : (nev (.agg (vS.v x)) (.agg (vS.v y))).run Try.prog w = .ok (.bool (!decide (x = y))) w := by
  unfold nev
  rw [run_neq_struct, run_eq_vn]
  rfl
theorem run_eq_wn (w : World) (x y : D.Vn) : (Op.equalIn 10000 44 (.agg (wS.v x)) (.agg (wS.v y))).run Try.prog w = .ok (decide (x = y)) w := by
  have hd : decide (x = y) = (decide (x.a = y.a) && decide (x.d = y.d) && decide (x.r = y.r)) := by
    obtain ⟨a, d, r⟩ := x
    obtain ⟨a', d', r'⟩ := y
    simp only [D.Vn.mk.injEq, ← Bool.decide_and, and_assoc]
  rw [hd, run_equalIn_agg w 9999 44 _ _ (by kernel_rfl) (by kernel_rfl)]
  simp only [Program.fieldsOf, Try.underlying44]
  have e8 : ∀ a b : Nat, (((a : Nat) : Int) == ((b : Nat) : Int)) = decide (a = b) := fun a b => by
    rw [Bool.eq_iff_iff]; simp; omega
  have eb : ∀ a b : Bool, (a == b) = decide (a = b) := by decide
  rw [wv_eq, wv_eq]
  simp [Op.eqFields, go_sem, run_equalIn_int w _ 3 _ _ _ _ Try.underlying3, run_equalIn_int w _ 23 _ _ _ _ Try.underlying23, run_equalIn_bool' w _ 4 _ _ Try.underlying4, run_equalIn_string w _ 9 _ _ Try.underlying9, e8, eb]
  by_cases h0 : x.a = y.a
  · by_cases h1 : x.d = y.d
    · by_cases h2 : x.r = y.r
      · simp [h0, h1, h2]
      · simp [h0, h1, h2]
        intro e1 e2 e3 e4 e5 e6 e7 e8 e9
        exact h2 (rc_ext e1 e2 e3 e4 e5 e6 e7 e8 (of_decide_eq_true (by rw [← txt_beq, e9]; exact beq_self_eq_true _)))
    · simp [h0, h1]
  · simp [h0]
theorem run_new (w : World) (x y : D.Vn) : (new (.agg (wS.v x)) (.agg (wS.v y))).run Try.prog w = .ok (.bool (!decide (x = y))) w := by
  unfold new
  rw [run_neq_struct, run_eq_wn]
  rfl
/-- A version's record lies two cells on. -/
theorem vrec {w : World} {a : Addr} {x : D.Vn} (h : vS.rd w a = some x) : rS.rd w (a.add 2) = some x.r := Shp.rd_of fun j u hu => by
  rw [add_of_add]
  exact Shp.at_of h (2 + j) u (by rw [Nat.add_comm]; exact hu)
theorem wrec {w : World} {a : Addr} {x : D.Vn} (h : wS.rd w a = some x) : dS.rd w (a.add 2) = some x.r := Shp.rd_of fun j u hu => by
  rw [add_of_add]
  exact Shp.at_of h (2 + j) u (by rw [Nat.add_comm]; exact hu)
/-- The parts of a version in a block of its own. -/
theorem vf {w : World} {g : Nat} {x : D.Vn} (h : vS.rd w ⟨g, 0, none⟩ = some x) : w.cell? ⟨g, 0, none⟩ = some (.int .u64 (x.a : Nat)) ∧ w.cell? ⟨g, 1, none⟩ = some (.bool x.d) ∧ rS.rd w ⟨g, 2, none⟩ = some x.r ∧ w.cell? ⟨g, 10, none⟩ = some (.string x.r.t) := by
  have hc := Shp.at_of h
  have c : ∀ j u, (vcells x)[j]? = some u → w.cell? ⟨g, j, none⟩ = some u := fun j u hu => by have := hc j u hu; rwa [add_o, Nat.zero_add] at this
  have h2 := vrec h
  rw [add_o] at h2
  exact ⟨c 0 _ rfl, c 1 _ rfl, h2, c 10 _ rfl⟩
theorem wf_ {w : World} {g : Nat} {x : D.Vn} (h : wS.rd w ⟨g, 0, none⟩ = some x) : w.cell? ⟨g, 0, none⟩ = some (.int .u64 (x.a : Nat)) ∧ w.cell? ⟨g, 1, none⟩ = some (.bool x.d) ∧ dS.rd w ⟨g, 2, none⟩ = some x.r := by
  have hc := Shp.at_of h
  have c : ∀ j u, (wcells x)[j]? = some u → w.cell? ⟨g, j, none⟩ = some u := fun j u hu => by have := hc j u hu; rwa [add_o, Nat.zero_add] at this
  have h2 := wrec h
  rw [add_o] at h2
  exact ⟨c 0 _ rfl, c 1 _ rfl, h2⟩
/-- .. in a row. -/
theorem vr {w : World} {ad : Addr} {i : Nat} {x : D.Vn} (h : vS.rd w (ad.add (i * 11)) = some x) : w.cell? (ad.add (i * 11)) = some (.int .u64 (x.a : Nat)) ∧ w.cell? ⟨(ad.add (i * 11)).block, (ad.add (i * 11)).off + 1, none⟩ = some (.bool x.d) ∧ rS.rd w ⟨(ad.add (i * 11)).block, (ad.add (i * 11)).off + 2, none⟩ = some x.r := by
  have hc := Shp.at_of h
  have h0 : w.cell? (ad.add (i * 11)) = some (.int .u64 (x.a : Nat)) := by have := hc 0 _ rfl; rwa [add_zero_] at this
  have hn : ∀ j u, (vcells x)[j + 1]? = some u → w.cell? ⟨(ad.add (i * 11)).block, (ad.add (i * 11)).off + (j + 1), none⟩ = some u := fun j u hu => by
    have := hc (j + 1) u hu
    rwa [add_sc] at this
  refine ⟨h0, hn 0 _ rfl, Shp.rd_of fun j u hu => ?_⟩
  rw [add_o]
  have := hn (1 + j) u (by rw [show 1 + j + 1 = j + 1 + 1 by omega]; exact hu)
  rwa [show 1 + j + 1 = 2 + j by omega, ← Nat.add_assoc] at this
/-- .. in a row. -/
theorem wr {w : World} {ad : Addr} {i : Nat} {x : D.Vn} (h : wS.rd w (ad.add (i * 11)) = some x) : w.cell? (ad.add (i * 11)) = some (.int .u64 (x.a : Nat)) ∧ w.cell? ⟨(ad.add (i * 11)).block, (ad.add (i * 11)).off + 1, none⟩ = some (.bool x.d) ∧ dS.rd w ⟨(ad.add (i * 11)).block, (ad.add (i * 11)).off + 2, none⟩ = some x.r := by
  have hc := Shp.at_of h
  have h0 : w.cell? (ad.add (i * 11)) = some (.int .u64 (x.a : Nat)) := by have := hc 0 _ rfl; rwa [add_zero_] at this
  have hn : ∀ j u, (wcells x)[j + 1]? = some u → w.cell? ⟨(ad.add (i * 11)).block, (ad.add (i * 11)).off + (j + 1), none⟩ = some u := fun j u hu => by
    have := hc (j + 1) u hu
    rwa [add_sc] at this
  refine ⟨h0, hn 0 _ rfl, Shp.rd_of fun j u hu => ?_⟩
  rw [add_o]
  have := hn (1 + j) u (by rw [show 1 + j + 1 = j + 1 + 1 by omega]; exact hu)
  rwa [show 1 + j + 1 = 2 + j by omega, ← Nat.add_assoc] at this
end Go.Proofs.Ytcnbdfobhablbaa
