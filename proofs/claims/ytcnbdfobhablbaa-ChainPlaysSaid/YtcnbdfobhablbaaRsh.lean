/-
  Records in memory: a record's cells, the program's and the document's; loads, stores, records built, compared.
-/
import Derived.Test.YtcnbdfobhablbaaRcb
import Derived.Test.YtcnbdfobhablbaaShp
import Derived.Test.YtcnbdfobhablbaaMeth
set_option linter.unusedVariables false
set_option linter.unusedSimpArgs false
set_option maxRecDepth 100000
namespace Go.Proofs.Ytcnbdfobhablbaa
open Go.RowKit

def rcells (x : D.Rc) : List Value := [.int .u8 (x.k : Nat), .int .u8 (x.s : Nat), .int .u8 (x.u : Nat), .int .u8 (x.p : Nat), .int .u8 (x.m : Nat), .bool x.g, .int .u32 (x.v : Nat), .int .u64 (x.a : Nat), .string x.t]
def dcells (x : D.Rc) : List Value := [.int .i64 (x.k : Nat), .int .i64 (x.s : Nat), .int .i64 (x.u : Nat), .int .i64 (x.p : Nat), .int .i64 (x.m : Nat), .bool x.g, .int .u64 (x.v : Nat), .int .u64 (x.a : Nat), .string x.t]
theorem rcells_inj {x y : D.Rc} (h : rcells x = rcells y) : x = y := by
  obtain ⟨k, s, u, p, m, g, v, a, t⟩ := x
  obtain ⟨k', s', u', p', m', g', v', a', t'⟩ := y
  simp only [rcells, List.cons.injEq, Value.int.injEq, Value.bool.injEq, Value.string.injEq, true_and, and_true, Int.ofNat_inj] at h
  obtain ⟨rfl, rfl, rfl, rfl, rfl, rfl, rfl, rfl, rfl⟩ := h
  rfl
theorem dcells_inj {x y : D.Rc} (h : dcells x = dcells y) : x = y := by
  obtain ⟨k, s, u, p, m, g, v, a, t⟩ := x
  obtain ⟨k', s', u', p', m', g', v', a', t'⟩ := y
  simp only [dcells, List.cons.injEq, Value.int.injEq, Value.bool.injEq, Value.string.injEq, true_and, and_true, Int.ofNat_inj] at h
  obtain ⟨rfl, rfl, rfl, rfl, rfl, rfl, rfl, rfl, rfl⟩ := h
  rfl
def rS : Shp D.Rc := ⟨rcells, 9, by decide, fun _ => rfl, rcells_inj, fun x u hu => by
  simp only [rcells, List.mem_cons, List.not_mem_nil, or_false] at hu
  rcases hu with rfl | rfl | rfl | rfl | rfl | rfl | rfl | rfl | rfl <;> rfl⟩
def dS : Shp D.Rc := ⟨dcells, 9, by decide, fun _ => rfl, dcells_inj, fun x u hu => by
  simp only [dcells, List.mem_cons, List.not_mem_nil, or_false] at hu
  rcases hu with rfl | rfl | rfl | rfl | rfl | rfl | rfl | rfl | rfl <;> rfl⟩
theorem rv_eq (x : D.Rc) : rS.v x = #[.int .u8 (x.k : Nat), .int .u8 (x.s : Nat), .int .u8 (x.u : Nat), .int .u8 (x.p : Nat), .int .u8 (x.m : Nat), .bool x.g, .int .u32 (x.v : Nat), .int .u64 (x.a : Nat), .string x.t] := rfl
theorem dv_eq (x : D.Rc) : dS.v x = #[.int .i64 (x.k : Nat), .int .i64 (x.s : Nat), .int .i64 (x.u : Nat), .int .i64 (x.p : Nat), .int .i64 (x.m : Nat), .bool x.g, .int .u64 (x.v : Nat), .int .u64 (x.a : Nat), .string x.t] := rfl

noncomputable def ldr (v : Value) : Sem Value := Instr.loadAt 30 v
noncomputable def ldd (v : Value) : Sem Value := Instr.loadAt 42 v
noncomputable def lvr (a : Addr) : Sem Value := loadVar 30 a
noncomputable def lvd (a : Addr) : Sem Value := loadVar 42 a
noncomputable def str (p v : Value) : Sem Unit := Instr.storeAt 30 p v
noncomputable def std (p v : Value) : Sem Unit := Instr.storeAt 42 p v
noncomputable def ner (u v : Value) : Sem Value := binOp .neq 30 u v
noncomputable def eqr (u v : Value) : Sem Value := binOp .eql 30 u v
noncomputable def ned (u v : Value) : Sem Value := binOp .neq 42 u v
noncomputable def bdr (ps : Array (Nat × Value)) : Sem Value := Instr.build 30 ps
noncomputable def bdd (ps : Array (Nat × Value)) : Sem Value := Instr.build 42 ps
theorem ld_r (v : Value) : Instr.loadAt 30 v = ldr v := rfl
theorem ld_d (v : Value) : Instr.loadAt 42 v = ldd v := rfl
theorem lv_r (a : Addr) : loadVar 30 a = lvr a := rfl
theorem lv_d (a : Addr) : loadVar 42 a = lvd a := rfl
theorem st_r (p v : Value) : Instr.storeAt 30 p v = str p v := rfl
theorem st_d (p v : Value) : Instr.storeAt 42 p v = std p v := rfl
theorem ne_r (u v : Value) : binOp .neq 30 u v = ner u v := rfl
theorem eq_r (u v : Value) : binOp .eql 30 u v = eqr u v := rfl
theorem ne_d (u v : Value) : binOp .neq 42 u v = ned u v := rfl
theorem bd_r (ps : Array (Nat × Value)) : Instr.build 30 ps = bdr ps := rfl
theorem bd_d (ps : Array (Nat × Value)) : Instr.build 42 ps = bdd ps := rfl
noncomputable def bl (t : TypeId) (a : Addr) (w : World) : Result Value := (loadVar t a).run Try.prog w
theorem run_lvr (w : World) (a : Addr) : (lvr a).run Try.prog w = (rS.rd w a).elim (bl 30 a w) fun x => .ok (.agg (rS.v x)) w := by
  cases h : rS.rd w a with
  | none => rfl
  | some x => exact Shp.loadVar_of Try.isAgg30 Try.sizeOf30 (Shp.at_of h)
theorem run_lvd (w : World) (a : Addr) : (lvd a).run Try.prog w = (dS.rd w a).elim (bl 42 a w) fun x => .ok (.agg (dS.v x)) w := by
  cases h : dS.rd w a with
  | none => rfl
  | some x => exact Shp.loadVar_of Try.isAgg42 Try.sizeOf42 (Shp.at_of h)
theorem run_ldr (w : World) (a : Addr) : (ldr (.pointer (some a))).run Try.prog w = (rS.rd w a).elim (bl 30 a w) fun x => .ok (.agg (rS.v x)) w := by
  rw [← run_lvr]; simp only [ldr, lvr, Instr.loadAt, Instr.sureAddr, Sem.run_bind, Sem.run_pure, Result.andThen_ok]
theorem run_ldd (w : World) (a : Addr) : (ldd (.pointer (some a))).run Try.prog w = (dS.rd w a).elim (bl 42 a w) fun x => .ok (.agg (dS.v x)) w := by
  rw [← run_lvd]; simp only [ldd, lvd, Instr.loadAt, Instr.sureAddr, Sem.run_bind, Sem.run_pure, Result.andThen_ok]
theorem lvr_of {w : World} {a : Addr} {x : D.Rc} (h : rS.rd w a = some x) : (loadVar 30 a).run Try.prog w = .ok (.agg (rS.v x)) w := (run_lvr w a).trans (by rw [h]; rfl)
theorem lvd_of {w : World} {a : Addr} {x : D.Rc} (h : dS.rd w a = some x) : (loadVar 42 a).run Try.prog w = .ok (.agg (dS.v x)) w := (run_lvd w a).trans (by rw [h]; rfl)
noncomputable def bs (t : TypeId) (g : Nat) (v : Array Value) (w : World) : Result Unit := (Instr.storeAt t (.pointer (some ⟨g, 0, none⟩)) (.agg v)).run Try.prog w
theorem run_str (w : World) (g : Nat) (x : D.Rc) : (str (.pointer (some ⟨g, 0, none⟩)) (.agg (rS.v x))).run Try.prog w = bif Shp.tn 9 w g then .ok () (w.setRow g (rS.v x)) else bs 30 g (rS.v x) w := by
  cases h : Shp.tn 9 w g with
  | false => rfl
  | true => exact Shp.storeVar_of (S := rS) h x fun t' cs hb hs => run_storeVar_row (P := Try.prog) w g t' _ cs (rS.v x) hb.out (by rw [rS.v_size]; kernel_rfl) hs (rS.v_one x)
theorem run_std (w : World) (g : Nat) (x : D.Rc) : (std (.pointer (some ⟨g, 0, none⟩)) (.agg (dS.v x))).run Try.prog w = bif Shp.tn 9 w g then .ok () (w.setRow g (dS.v x)) else bs 42 g (dS.v x) w := by
  cases h : Shp.tn 9 w g with
  | false => rfl
  | true => exact Shp.storeVar_of (S := dS) h x fun t' cs hb hs => run_storeVar_row (P := Try.prog) w g t' _ cs (dS.v x) hb.out (by rw [dS.v_size]; kernel_rfl) hs (dS.v_one x)
theorem run_bdr0 (w : World) : (bdr #[]).run Try.prog w = .ok (.agg (rS.v D.zRc)) w := by
  simp [bdr, rv_eq, D.zRc, Instr.build, go_sem]
theorem run_bdd0 (w : World) : (bdd #[]).run Try.prog w = .ok (.agg (dS.v D.zRc)) w := by
  simp [bdd, dv_eq, D.zRc, Instr.build, go_sem]
theorem run_bdr1 (w : World) (k : Nat) : (bdr #[(0, .int .u8 (k : Nat))]).run Try.prog w = .ok (.agg (rS.v (D.bare k))) w := by
  simp [bdr, rv_eq, D.bare, Instr.build, go_sem]
theorem run_bdd1 (w : World) (k : Nat) : (bdd #[(0, .int .i64 (k : Nat))]).run Try.prog w = .ok (.agg (dS.v (D.bare k))) w := by
  simp [bdd, dv_eq, D.bare, Instr.build, go_sem]
theorem run_bdd9 (w : World) (x : D.Rc) : (bdd #[(0, .int .i64 (x.k : Nat)), (1, .int .i64 (x.s : Nat)), (2, .int .i64 (x.u : Nat)), (3, .int .i64 (x.p : Nat)), (4, .int .i64 (x.m : Nat)), (5, .bool x.g), (6, .int .u64 (x.v : Nat)), (7, .int .u64 (x.a : Nat)), (8, .string x.t)]).run Try.prog w = .ok (.agg (dS.v x)) w := by
  simp [bdd, dv_eq, Instr.build, go_sem]
theorem txt_beq (a b : ByteArray) : (a.toList == b.toList) = decide (a = b) := by
  rw [Bool.eq_iff_iff]
  simp only [beq_iff_eq, decide_eq_true_eq, ByteArray.toList_eq]
  constructor
  · intro h
    obtain ⟨⟨a⟩⟩ := a
    obtain ⟨⟨b⟩⟩ := b
    simp only at h
    rw [h]
  · rintro rfl; rfl
theorem run_eq_rec (w : World) (x y : D.Rc) : (Op.equalIn 10000 30 (.agg (rS.v x)) (.agg (rS.v y))).run Try.prog w = .ok (decide (x = y)) w := by
  have hd : decide (x = y) = (decide (x.k = y.k) && decide (x.s = y.s) && decide (x.u = y.u) && decide (x.p = y.p) && decide (x.m = y.m) && decide (x.g = y.g) && decide (x.v = y.v) && decide (x.a = y.a) && decide (x.t = y.t)) := by
    obtain ⟨k, s, u, p, m, g, v, a, t⟩ := x
    obtain ⟨k', s', u', p', m', g', v', a', t'⟩ := y
    simp only [D.Rc.mk.injEq, ← Bool.decide_and, and_assoc]
  rw [hd, run_equalIn_agg w 9999 30 _ _ (by kernel_rfl) (by kernel_rfl), rv_eq, rv_eq]
  simp only [Program.fieldsOf, Try.underlying30]
  obtain ⟨k, s, u, p, m, g, v, a, t⟩ := x
  obtain ⟨k', s', u', p', m', g', v', a', t'⟩ := y
  have e8 : ∀ a b : Nat, (((a : Nat) : Int) == ((b : Nat) : Int)) = decide (a = b) := fun a b => by
    rw [Bool.eq_iff_iff]; simp; omega
  have eb : ∀ a b : Bool, (a == b) = decide (a = b) := by decide
  simp [Op.eqFields, go_sem, run_equalIn_int w _ 5 _ _ _ _ Try.underlying5, run_equalIn_int w _ 28 _ _ _ _ Try.underlying28, run_equalIn_int w _ 23 _ _ _ _ Try.underlying23, run_equalIn_bool' w _ 4 _ _ Try.underlying4, run_equalIn_string w _ 9 _ _ Try.underlying9, txt_beq, e8, eb]
  by_cases h0 : k = k'
  · subst h0
    by_cases h1 : s = s'
    · subst h1
      by_cases h2 : u = u'
      · subst h2
        by_cases h3 : p = p'
        · subst h3
          by_cases h4 : m = m'
          · subst h4
            by_cases h5 : g = g'
            · subst h5
              by_cases h6 : v = v'
              · subst h6
                by_cases h7 : a = a'
                · subst h7
                  by_cases h8 : t = t'
                  · subst h8
                    simp
                  · simp [h8]
                · simp [h7]
              · simp [h6]
            · simp [h5]
          · simp [h4]
        · simp [h3]
      · simp [h2]
    · simp [h1]
  · simp [h0]
theorem run_ner (w : World) (x y : D.Rc) : (ner (.agg (rS.v x)) (.agg (rS.v y))).run Try.prog w = .ok (.bool (!decide (x = y))) w := by
  unfold ner
  rw [run_neq_struct, run_eq_rec]
  rfl
theorem run_eqr (w : World) (x y : D.Rc) : (eqr (.agg (rS.v x)) (.agg (rS.v y))).run Try.prog w = .ok (.bool (decide (x = y))) w := by
  unfold eqr
  rw [run_eql_struct, run_eq_rec]
  rfl
theorem run_eq_dec (w : World) (x y : D.Rc) : (Op.equalIn 10000 42 (.agg (dS.v x)) (.agg (dS.v y))).run Try.prog w = .ok (decide (x = y)) w := by
  have hd : decide (x = y) = (decide (x.k = y.k) && decide (x.s = y.s) && decide (x.u = y.u) && decide (x.p = y.p) && decide (x.m = y.m) && decide (x.g = y.g) && decide (x.v = y.v) && decide (x.a = y.a) && decide (x.t = y.t)) := by
    obtain ⟨k, s, u, p, m, g, v, a, t⟩ := x
    obtain ⟨k', s', u', p', m', g', v', a', t'⟩ := y
    simp only [D.Rc.mk.injEq, ← Bool.decide_and, and_assoc]
  rw [hd, run_equalIn_agg w 9999 42 _ _ (by kernel_rfl) (by kernel_rfl), dv_eq, dv_eq]
  simp only [Program.fieldsOf, Try.underlying42]
  obtain ⟨k, s, u, p, m, g, v, a, t⟩ := x
  obtain ⟨k', s', u', p', m', g', v', a', t'⟩ := y
  have e8 : ∀ a b : Nat, (((a : Nat) : Int) == ((b : Nat) : Int)) = decide (a = b) := fun a b => by
    rw [Bool.eq_iff_iff]; simp; omega
  have eb : ∀ a b : Bool, (a == b) = decide (a = b) := by decide
  simp [Op.eqFields, go_sem, run_equalIn_int w _ 3 _ _ _ _ Try.underlying3, run_equalIn_int w _ 23 _ _ _ _ Try.underlying23, run_equalIn_bool' w _ 4 _ _ Try.underlying4, run_equalIn_string w _ 9 _ _ Try.underlying9, txt_beq, e8, eb]
  by_cases h0 : k = k'
  · subst h0
    by_cases h1 : s = s'
    · subst h1
      by_cases h2 : u = u'
      · subst h2
        by_cases h3 : p = p'
        · subst h3
          by_cases h4 : m = m'
          · subst h4
            by_cases h5 : g = g'
            · subst h5
              by_cases h6 : v = v'
              · subst h6
                by_cases h7 : a = a'
                · subst h7
                  by_cases h8 : t = t'
                  · subst h8
                    simp
                  · simp [h8]
                · simp [h7]
              · simp [h6]
            · simp [h5]
          · simp [h4]
        · simp [h3]
      · simp [h2]
    · simp [h1]
  · simp [h0]
theorem run_ned (w : World) (x y : D.Rc) : (ned (.agg (dS.v x)) (.agg (dS.v y))).run Try.prog w = .ok (.bool (!decide (x = y))) w := by
  unfold ned
  rw [run_neq_struct, run_eq_dec]
  rfl
theorem add_o (g o j : Nat) : (⟨g, o, none⟩ : Addr).add j = ⟨g, o + j, none⟩ := by simp [Addr.add]
/-- The parts of a record that lies whole in a block. -/
theorem rf_of {w : World} {g : Nat} {x : D.Rc} (h : rS.rd w ⟨g, 0, none⟩ = some x) : w.cell? ⟨g, 0, none⟩ = some (.int .u8 (x.k : Nat)) ∧ w.cell? ⟨g, 1, none⟩ = some (.int .u8 (x.s : Nat)) ∧ w.cell? ⟨g, 2, none⟩ = some (.int .u8 (x.u : Nat)) ∧ w.cell? ⟨g, 3, none⟩ = some (.int .u8 (x.p : Nat)) ∧ w.cell? ⟨g, 4, none⟩ = some (.int .u8 (x.m : Nat)) ∧ w.cell? ⟨g, 5, none⟩ = some (.bool x.g) ∧ w.cell? ⟨g, 6, none⟩ = some (.int .u32 (x.v : Nat)) ∧ w.cell? ⟨g, 7, none⟩ = some (.int .u64 (x.a : Nat)) ∧ w.cell? ⟨g, 8, none⟩ = some (.string x.t) := by
  have hc : rS.At w ⟨g, 0, none⟩ x := Shp.at_of h
  have c : ∀ j u, (rcells x)[j]? = some u → w.cell? ⟨g, j, none⟩ = some u := fun j u hu => by have := hc j u hu; rwa [add_o, Nat.zero_add] at this
  exact ⟨c 0 _ rfl, c 1 _ rfl, c 2 _ rfl, c 3 _ rfl, c 4 _ rfl, c 5 _ rfl, c 6 _ rfl, c 7 _ rfl, c 8 _ rfl⟩
theorem df_of {w : World} {g : Nat} {x : D.Rc} (h : dS.rd w ⟨g, 0, none⟩ = some x) : w.cell? ⟨g, 0, none⟩ = some (.int .i64 (x.k : Nat)) ∧ w.cell? ⟨g, 1, none⟩ = some (.int .i64 (x.s : Nat)) ∧ w.cell? ⟨g, 2, none⟩ = some (.int .i64 (x.u : Nat)) ∧ w.cell? ⟨g, 3, none⟩ = some (.int .i64 (x.p : Nat)) ∧ w.cell? ⟨g, 4, none⟩ = some (.int .i64 (x.m : Nat)) ∧ w.cell? ⟨g, 5, none⟩ = some (.bool x.g) ∧ w.cell? ⟨g, 6, none⟩ = some (.int .u64 (x.v : Nat)) ∧ w.cell? ⟨g, 7, none⟩ = some (.int .u64 (x.a : Nat)) ∧ w.cell? ⟨g, 8, none⟩ = some (.string x.t) := by
  have hc : dS.At w ⟨g, 0, none⟩ x := Shp.at_of h
  have c : ∀ j u, (dcells x)[j]? = some u → w.cell? ⟨g, j, none⟩ = some u := fun j u hu => by have := hc j u hu; rwa [add_o, Nat.zero_add] at this
  exact ⟨c 0 _ rfl, c 1 _ rfl, c 2 _ rfl, c 3 _ rfl, c 4 _ rfl, c 5 _ rfl, c 6 _ rfl, c 7 _ rfl, c 8 _ rfl⟩
/-- A block that holds just a record. -/
def RB (w : World) (g : Nat) (x : D.Rc) : Prop := Blk w g 30 (rS.v x)
theorem RB.rd {w : World} {g : Nat} {x : D.Rc} (h : RB w g x) : rS.rd w ⟨g, 0, none⟩ = some x := Shp.rd_blk h
theorem RB.tn {w : World} {g : Nat} {x : D.Rc} (h : RB w g x) : Shp.tn 9 w g = true := Shp.tn_of h (by rw [rS.v_size]; rfl)
theorem RB.new (w : World) (g : Nat) (x : D.Rc) (h : g = w.heap.size) : RB (w.alloc (.cells (rS.v x) 30)) g x := by subst h; exact Blk.new _ _ _
theorem RB.only {S : Nat → Prop} {w w' : World} {g : Nat} {x : D.Rc} (h : RB w g x) (k : Only S w w') (hg : ¬ S g) : RB w' g x := Blk.only h k hg
theorem RB.on {w w' : World} {g : Nat} {x : D.Rc} (h : RB w g x) (k : Below w.heap.size w w') : RB w' g x := Blk.on h k
theorem RB.put {w : World} {g : Nat} {x y : D.Rc} (h : RB w g x) (i : Nat) (u : Value) (e : (rS.v x).setIfInBounds i u = rS.v y) : RB (w.setCell ⟨g, i, none⟩ u) g y := by
  have := Blk.put h i u
  rw [e] at this
  exact this
end Go.Proofs.Ytcnbdfobhablbaa
