/-
  
-/
import Derived.Test.YtjlaffgbmcpldaaGreatDoorG14
import Derived.Deep.MidRow
import Derived.Deep.WholeRow
import Derived.DeepKeys4
import Derived.KernelRfl
import Derived.Laws.CopyRow
import Derived.Laws.ResultCell
import Derived.Laws.Rows
import Derived.Laws.StructEq
import Derived.Maps.OwnSet
import Derived.Test.YtjlaffgbmcpldaaGreatDoorGow
import Derived.Test.YtjlaffgbmcpldaaGreatDoorG10
import Derived.Test.YtjlaffgbmcpldaaGreatDoorG11
import Derived.Test.YtjlaffgbmcpldaaGreatDoorG13
import Derived.Test.YtjlaffgbmcpldaaGreatDoorG09
import Derived.Test.YtjlaffgbmcpldaaGreatDoorG12
import Derived.StillTailTactics
set_option linter.unusedVariables false
set_option linter.unusedSimpArgs false
set_option maxRecDepth 100000
namespace Go.Proofs.YtjlaffgbmcpldaaGreatDoor
open Go.RowKit

def rcellsh (x : D.Rc) : List Value := [.int .u8 (x.k : Nat), .int .u8 (x.s : Nat), .int .u8 (x.u : Nat), .int .u8 (x.p : Nat), .int .u8 (x.m : Nat), .bool x.g, .int .u32 (x.v : Nat), .int .u64 (x.a : Nat), .string x.t]
def dcells (x : D.Rc) : List Value := [.int .i64 (x.k : Nat), .int .i64 (x.s : Nat), .int .i64 (x.u : Nat), .int .i64 (x.p : Nat), .int .i64 (x.m : Nat), .bool x.g, .int .u64 (x.v : Nat), .int .u64 (x.a : Nat), .string x.t]
theorem rcells_injh {x y : D.Rc} (h : rcellsh x = rcellsh y) : x = y := by
 obtain ⟨k, s, u, p, m, g, v, a, t⟩ := x
 obtain ⟨k', s', u', p', m', g', v', a', t'⟩ := y
 simp only [rcellsh, List.cons.injEq, Value.int.injEq, Value.bool.injEq, Value.string.injEq, true_and, and_true, Int.ofNat_inj] at h
 obtain ⟨rfl, rfl, rfl, rfl, rfl, rfl, rfl, rfl, rfl⟩ := h
 rfl
theorem dcells_inj {x y : D.Rc} (h : dcells x = dcells y) : x = y := by
 obtain ⟨k, s, u, p, m, g, v, a, t⟩ := x
 obtain ⟨k', s', u', p', m', g', v', a', t'⟩ := y
 simp only [dcells, List.cons.injEq, Value.int.injEq, Value.bool.injEq, Value.string.injEq, true_and, and_true, Int.ofNat_inj] at h
 obtain ⟨rfl, rfl, rfl, rfl, rfl, rfl, rfl, rfl, rfl⟩ := h
 rfl
def rSh : Shp D.Rc := ⟨rcellsh, 9, by decide, fun _ => rfl, rcells_injh, fun x u hu => by
 simp only [rcellsh, List.mem_cons, List.not_mem_nil, or_false] at hu
 rcases hu with rfl | rfl | rfl | rfl | rfl | rfl | rfl | rfl | rfl <;> rfl⟩
def dS : Shp D.Rc := ⟨dcells, 9, by decide, fun _ => rfl, dcells_inj, fun x u hu => by
 simp only [dcells, List.mem_cons, List.not_mem_nil, or_false] at hu
 rcases hu with rfl | rfl | rfl | rfl | rfl | rfl | rfl | rfl | rfl <;> rfl⟩
theorem rv_eq (x : D.Rc) : rSh.v x = #[.int .u8 (x.k : Nat), .int .u8 (x.s : Nat), .int .u8 (x.u : Nat), .int .u8 (x.p : Nat), .int .u8 (x.m : Nat), .bool x.g, .int .u32 (x.v : Nat), .int .u64 (x.a : Nat), .string x.t] := rfl
theorem dv_eq (x : D.Rc) : dS.v x = #[.int .i64 (x.k : Nat), .int .i64 (x.s : Nat), .int .i64 (x.u : Nat), .int .i64 (x.p : Nat), .int .i64 (x.m : Nat), .bool x.g, .int .u64 (x.v : Nat), .int .u64 (x.a : Nat), .string x.t] := rfl

noncomputable def ldrh (v : Value) : Sem Value := Instr.loadAt 75 v
noncomputable def ldd (v : Value) : Sem Value := Instr.loadAt 69 v
noncomputable def lvrh (a : Addr) : Sem Value := loadVar 75 a
noncomputable def lvd (a : Addr) : Sem Value := loadVar 69 a
noncomputable def str (p v : Value) : Sem Unit := Instr.storeAt 75 p v
noncomputable def std (p v : Value) : Sem Unit := Instr.storeAt 69 p v
noncomputable def nerh (u v : Value) : Sem Value := binOp .neq 75 u v
noncomputable def eqrh (u v : Value) : Sem Value := binOp .eql 75 u v
noncomputable def ned (u v : Value) : Sem Value := binOp .neq 69 u v
noncomputable def bdrh (ps : Array (Nat × Value)) : Sem Value := Instr.build 75 ps
noncomputable def bdd (ps : Array (Nat × Value)) : Sem Value := Instr.build 69 ps
theorem ld_rh (v : Value) : Instr.loadAt 75 v = ldrh v := rfl
theorem ld_d (v : Value) : Instr.loadAt 69 v = ldd v := rfl
theorem lv_rh (a : Addr) : loadVar 75 a = lvrh a := rfl
theorem lv_d (a : Addr) : loadVar 69 a = lvd a := rfl
theorem st_r (p v : Value) : Instr.storeAt 75 p v = str p v := rfl
theorem st_d (p v : Value) : Instr.storeAt 69 p v = std p v := rfl
theorem ne_rh (u v : Value) : binOp .neq 75 u v = nerh u v := rfl
theorem eq_rh (u v : Value) : binOp .eql 75 u v = eqrh u v := rfl
theorem ne_d (u v : Value) : binOp .neq 69 u v = ned u v := rfl
theorem bd_rh (ps : Array (Nat × Value)) : Instr.build 75 ps = bdrh ps := rfl
theorem bd_d (ps : Array (Nat × Value)) : Instr.build 69 ps = bdd ps := rfl
theorem run_lvrh (w : World) (a : Addr) : (lvrh a).run Tryz.prog w = (rSh.rd w a).elim (bl 75 a w) fun x => .ok (.agg (rSh.v x)) w := by
 cases h : rSh.rd w a with
 | none => rfl
 | some x => exact Shp.loadVar_of Tryz.isAgg75 Tryz.sizeOf75 (Shp.at_of h)
theorem run_lvd (w : World) (a : Addr) : (lvd a).run Tryz.prog w = (dS.rd w a).elim (bl 69 a w) fun x => .ok (.agg (dS.v x)) w := by
 cases h : dS.rd w a with
 | none => rfl
 | some x => exact Shp.loadVar_of Tryz.isAgg69 Tryz.sizeOf69 (Shp.at_of h)
theorem run_ldrh (w : World) (a : Addr) : (ldrh (.pointer (some a))).run Tryz.prog w = (rSh.rd w a).elim (bl 75 a w) fun x => .ok (.agg (rSh.v x)) w := by
 rw [← run_lvrh]; simp only [ldrh, lvrh, Instr.loadAt, Instr.sureAddr, Sem.run_bind, Sem.run_pure, Result.andThen_ok]
theorem run_ldd (w : World) (a : Addr) : (ldd (.pointer (some a))).run Tryz.prog w = (dS.rd w a).elim (bl 69 a w) fun x => .ok (.agg (dS.v x)) w := by
 rw [← run_lvd]; simp only [ldd, lvd, Instr.loadAt, Instr.sureAddr, Sem.run_bind, Sem.run_pure, Result.andThen_ok]
theorem lvr_ofh {w : World} {a : Addr} {x : D.Rc} (h : rSh.rd w a = some x) : (loadVar 75 a).run Tryz.prog w = .ok (.agg (rSh.v x)) w := (run_lvrh w a).trans (by rw [h]; rfl)
theorem run_str (w : World) (g : Nat) (x : D.Rc) : (str (.pointer (some ⟨g, 0, none⟩)) (.agg (rSh.v x))).run Tryz.prog w = bif Shp.tn 9 w g then .ok () (w.setRow g (rSh.v x)) else bs 75 g (rSh.v x) w := by
 cases h : Shp.tn 9 w g with
 | false => rfl
 | true => exact Shp.storeVar_of (S := rSh) h x fun t' cs hb hs => run_storeVar_row (P := Tryz.prog) w g t' _ cs (rSh.v x) hb.out (by rw [rSh.v_size]; kernel_rfl) hs (rSh.v_one x)
theorem run_std (w : World) (g : Nat) (x : D.Rc) : (std (.pointer (some ⟨g, 0, none⟩)) (.agg (dS.v x))).run Tryz.prog w = bif Shp.tn 9 w g then .ok () (w.setRow g (dS.v x)) else bs 69 g (dS.v x) w := by
 cases h : Shp.tn 9 w g with
 | false => rfl
 | true => exact Shp.storeVar_of (S := dS) h x fun t' cs hb hs => run_storeVar_row (P := Tryz.prog) w g t' _ cs (dS.v x) hb.out (by rw [dS.v_size]; kernel_rfl) hs (dS.v_one x)
theorem run_bdr0 (w : World) : (bdrh #[]).run Tryz.prog w = .ok (.agg (rSh.v D.zRc)) w := by
 simp [bdrh, rv_eq, D.zRc, Instr.build, go_sem]
theorem run_bdd0 (w : World) : (bdd #[]).run Tryz.prog w = .ok (.agg (dS.v D.zRc)) w := by
 simp [bdd, dv_eq, D.zRc, Instr.build, go_sem]
theorem run_bdr1 (w : World) (k : Nat) : (bdrh #[(0, .int .u8 (k : Nat))]).run Tryz.prog w = .ok (.agg (rSh.v (D.bare k))) w := by
 simp [bdrh, rv_eq, D.bare, Instr.build, go_sem]
theorem run_bdd1 (w : World) (k : Nat) : (bdd #[(0, .int .i64 (k : Nat))]).run Tryz.prog w = .ok (.agg (dS.v (D.bare k))) w := by
 simp [bdd, dv_eq, D.bare, Instr.build, go_sem]
theorem run_bdd9 (w : World) (x : D.Rc) : (bdd #[(0, .int .i64 (x.k : Nat)), (1, .int .i64 (x.s : Nat)), (2, .int .i64 (x.u : Nat)), (3, .int .i64 (x.p : Nat)), (4, .int .i64 (x.m : Nat)), (5, .bool x.g), (6, .int .u64 (x.v : Nat)), (7, .int .u64 (x.a : Nat)), (8, .string x.t)]).run Tryz.prog w = .ok (.agg (dS.v x)) w := by
 simp [bdd, dv_eq, Instr.build, go_sem]
theorem txt_beq (a b : ByteArray) : (a.toList == b.toList) = decide (a = b) := by
 rw [Bool.eq_iff_iff]
 simp only [beq_iff_eq, decide_eq_true_eq, ByteArray.toList_eq]
 constructor
 ·intro h
  obtain ⟨⟨a⟩⟩ := a
  obtain ⟨⟨b⟩⟩ := b
  simp only at h
  rw [h]
 ·rintro rfl; rfl
theorem run_eq_rec (w : World) (x y : D.Rc) : (Op.equalIn 10000 75 (.agg (rSh.v x)) (.agg (rSh.v y))).run Tryz.prog w = .ok (decide (x = y)) w := by
 have hd : decide (x = y) = (decide (x.k = y.k) && decide (x.s = y.s) && decide (x.u = y.u) && decide (x.p = y.p) && decide (x.m = y.m) && decide (x.g = y.g) && decide (x.v = y.v) && decide (x.a = y.a) && decide (x.t = y.t)) := by
  obtain ⟨k, s, u, p, m, g, v, a, t⟩ := x
  obtain ⟨k', s', u', p', m', g', v', a', t'⟩ := y
  simp only [D.Rc.mk.injEq, ← Bool.decide_and, and_assoc]
 rw [hd, run_equalIn_agg w 9999 75 _ _ (by kernel_rfl) (by kernel_rfl), rv_eq, rv_eq]
 simp only [Program.fieldsOf, Tryz.underlying75]
 obtain ⟨k, s, u, p, m, g, v, a, t⟩ := x
 obtain ⟨k', s', u', p', m', g', v', a', t'⟩ := y
 have e8 : ∀ a b : Nat, (((a : Nat) : Int) == ((b : Nat) : Int)) = decide (a = b) := fun a b => by
  rw [Bool.eq_iff_iff]; simp; omega
 have eb : ∀ a b : Bool, (a == b) = decide (a = b) := by decide
 simp [Op.eqFields, go_sem, run_equalIn_int w _ 5 _ _ _ _ Tryz.underlying5, run_equalIn_int w _ 73 _ _ _ _ Tryz.underlying73, run_equalIn_int w _ 42 _ _ _ _ Tryz.underlying42, run_equalIn_bool' w _ 4 _ _ Tryz.underlying4, run_equalIn_string w _ 9 _ _ Tryz.underlying9, txt_beq, e8, eb]
 by_cases h0 : k = k'
 ·subst h0
  by_cases h1 : s = s'
  ·subst h1
   by_cases h2 : u = u'
   ·subst h2
    by_cases h3 : p = p'
    ·subst h3
     by_cases h4 : m = m'
     ·subst h4
      by_cases h5 : g = g'
      ·subst h5
       by_cases h6 : v = v'
       ·subst h6
        by_cases h7 : a = a'
        ·subst h7
         by_cases h8 : t = t'
         ·subst h8
          simp
         ·simp [h8]
        ·simp [h7]
       ·simp [h6]
      ·simp [h5]
     ·simp [h4]
    ·simp [h3]
   ·simp [h2]
  ·simp [h1]
 ·simp [h0]
theorem run_nerh (w : World) (x y : D.Rc) : (nerh (.agg (rSh.v x)) (.agg (rSh.v y))).run Tryz.prog w = .ok (.bool (!decide (x = y))) w := by
 unfold nerh
 rw [run_neq_struct, run_eq_rec]
 rfl
theorem run_eqrh (w : World) (x y : D.Rc) : (eqrh (.agg (rSh.v x)) (.agg (rSh.v y))).run Tryz.prog w = .ok (.bool (decide (x = y))) w := by
 unfold eqrh
 rw [run_eql_struct, run_eq_rec]
 rfl
theorem run_eq_dec (w : World) (x y : D.Rc) : (Op.equalIn 10000 69 (.agg (dS.v x)) (.agg (dS.v y))).run Tryz.prog w = .ok (decide (x = y)) w := by
 have hd : decide (x = y) = (decide (x.k = y.k) && decide (x.s = y.s) && decide (x.u = y.u) && decide (x.p = y.p) && decide (x.m = y.m) && decide (x.g = y.g) && decide (x.v = y.v) && decide (x.a = y.a) && decide (x.t = y.t)) := by
  obtain ⟨k, s, u, p, m, g, v, a, t⟩ := x
  obtain ⟨k', s', u', p', m', g', v', a', t'⟩ := y
  simp only [D.Rc.mk.injEq, ← Bool.decide_and, and_assoc]
 rw [hd, run_equalIn_agg w 9999 69 _ _ (by kernel_rfl) (by kernel_rfl), dv_eq, dv_eq]
 simp only [Program.fieldsOf, Tryz.underlying69]
 obtain ⟨k, s, u, p, m, g, v, a, t⟩ := x
 obtain ⟨k', s', u', p', m', g', v', a', t'⟩ := y
 have e8 : ∀ a b : Nat, (((a : Nat) : Int) == ((b : Nat) : Int)) = decide (a = b) := fun a b => by
  rw [Bool.eq_iff_iff]; simp; omega
 have eb : ∀ a b : Bool, (a == b) = decide (a = b) := by decide
 simp [Op.eqFields, go_sem, run_equalIn_int w _ 3 _ _ _ _ Tryz.underlying3, run_equalIn_int w _ 42 _ _ _ _ Tryz.underlying42, run_equalIn_bool' w _ 4 _ _ Tryz.underlying4, run_equalIn_string w _ 9 _ _ Tryz.underlying9, txt_beq, e8, eb]
 by_cases h0 : k = k'
 ·subst h0
  by_cases h1 : s = s'
  ·subst h1
   by_cases h2 : u = u'
   ·subst h2
    by_cases h3 : p = p'
    ·subst h3
     by_cases h4 : m = m'
     ·subst h4
      by_cases h5 : g = g'
      ·subst h5
       by_cases h6 : v = v'
       ·subst h6
        by_cases h7 : a = a'
        ·subst h7
         by_cases h8 : t = t'
         ·subst h8
          simp
         ·simp [h8]
        ·simp [h7]
       ·simp [h6]
      ·simp [h5]
     ·simp [h4]
    ·simp [h3]
   ·simp [h2]
  ·simp [h1]
 ·simp [h0]
theorem run_ned (w : World) (x y : D.Rc) : (ned (.agg (dS.v x)) (.agg (dS.v y))).run Tryz.prog w = .ok (.bool (!decide (x = y))) w := by
 unfold ned
 rw [run_neq_struct, run_eq_dec]
 rfl
theorem rf_of {w : World} {g : Nat} {x : D.Rc} (h : rSh.rd w ⟨g, 0, none⟩ = some x) : w.cell? ⟨g, 0, none⟩ = some (.int .u8 (x.k : Nat)) ∧ w.cell? ⟨g, 1, none⟩ = some (.int .u8 (x.s : Nat)) ∧ w.cell? ⟨g, 2, none⟩ = some (.int .u8 (x.u : Nat)) ∧ w.cell? ⟨g, 3, none⟩ = some (.int .u8 (x.p : Nat)) ∧ w.cell? ⟨g, 4, none⟩ = some (.int .u8 (x.m : Nat)) ∧ w.cell? ⟨g, 5, none⟩ = some (.bool x.g) ∧ w.cell? ⟨g, 6, none⟩ = some (.int .u32 (x.v : Nat)) ∧ w.cell? ⟨g, 7, none⟩ = some (.int .u64 (x.a : Nat)) ∧ w.cell? ⟨g, 8, none⟩ = some (.string x.t) := by
 have hc : rSh.At w ⟨g, 0, none⟩ x := Shp.at_of h
 have c : ∀ j u, (rcellsh x)[j]? = some u → w.cell? ⟨g, j, none⟩ = some u := fun j u hu => by have := hc j u hu; rwa [add_o, Nat.zero_add] at this
 exact ⟨c 0 _ rfl, c 1 _ rfl, c 2 _ rfl, c 3 _ rfl, c 4 _ rfl, c 5 _ rfl, c 6 _ rfl, c 7 _ rfl, c 8 _ rfl⟩
def RBh (w : World) (g : Nat) (x : D.Rc) : Prop := Blk w g 75 (rSh.v x)
theorem RBh.rd {w : World} {g : Nat} {x : D.Rc} (h : RBh w g x) : rSh.rd w ⟨g, 0, none⟩ = some x := Shp.rd_blk h
theorem RBh.tn {w : World} {g : Nat} {x : D.Rc} (h : RBh w g x) : Shp.tn 9 w g = true := Shp.tn_of h (by rw [rSh.v_size]; rfl)
theorem RBh.new (w : World) (g : Nat) (x : D.Rc) (h : g = w.heap.size) : RBh (w.alloc (.cells (rSh.v x) 75)) g x := by subst h; exact Blk.new _ _ _
theorem RBh.only {S : Nat → Prop} {w w' : World} {g : Nat} {x : D.Rc} (h : RBh w g x) (k : Only S w w') (hg : ¬ S g) : RBh w' g x := Blk.only h k hg
theorem RBh.on {w w' : World} {g : Nat} {x : D.Rc} (h : RBh w g x) (k : Below w.heap.size w w') : RBh w' g x := Blk.on h k
theorem RBh.put {w : World} {g : Nat} {x y : D.Rc} (h : RBh w g x) (i : Nat) (u : Value) (e : (rSh.v x).setIfInBounds i u = rSh.v y) : RBh (w.setCell ⟨g, i, none⟩ u) g y := by
 have := Blk.put h i u
 rw [e] at this
 exact this
end Go.Proofs.YtjlaffgbmcpldaaGreatDoor
namespace Go.Proofs.YtjlaffgbmcpldaaGreatDoor
open Go.RowKit

theorem rc_ext {x y : D.Rc} (h1 : x.k = y.k) (h2 : x.s = y.s) (h3 : x.u = y.u) (h4 : x.p = y.p) (h5 : x.m = y.m) (h6 : x.g = y.g) (h7 : x.v = y.v) (h8 : x.a = y.a) (h9 : x.t = y.t) : x = y := by
 cases x; cases y; simp only at *; subst h1 h2 h3 h4 h5 h6 h7 h8 h9; rfl
theorem add_sc (a : Addr) (k : Nat) : a.add (k + 1) = ⟨a.block, a.off + (k + 1), none⟩ := by unfold Addr.add; simp
theorem below_dn {w0 w : World} {B : Nat} (h : Below B w0 w) (n : Nat) : Below B w0 (w.drewN n) := ⟨h.os, h.tape, h.output, h.size, h.block⟩
def vcells (x : D.Vn) : List Value := .int .u64 (x.a : Nat) :: .bool x.d :: rcellsh x.r
def wcells (x : D.Vn) : List Value := .int .u64 (x.a : Nat) :: .bool x.d :: dcells x.r
theorem vcells_inj {x y : D.Vn} (h : vcells x = vcells y) : x = y := by
 obtain ⟨a, d, r⟩ := x
 obtain ⟨a', d', r'⟩ := y
 simp only [vcells, List.cons.injEq, Value.int.injEq, Value.bool.injEq, true_and, Int.ofNat_inj] at h
 obtain ⟨rfl, rfl, h⟩ := h
 rw [rcells_injh h]
theorem wcells_inj {x y : D.Vn} (h : wcells x = wcells y) : x = y := by
 obtain ⟨a, d, r⟩ := x
 obtain ⟨a', d', r'⟩ := y
 simp only [wcells, List.cons.injEq, Value.int.injEq, Value.bool.injEq, true_and, Int.ofNat_inj] at h
 obtain ⟨rfl, rfl, h⟩ := h
 rw [dcells_inj h]
def vS : Shp D.Vn := ⟨vcells, 11, by decide, fun _ => rfl, vcells_inj, fun x u hu => by
 simp only [vcells, List.mem_cons] at hu
 rcases hu with rfl | rfl | hu
 ·rfl
 ·rfl
 ·exact rSh.one x.r u hu⟩
def wS : Shp D.Vn := ⟨wcells, 11, by decide, fun _ => rfl, wcells_inj, fun x u hu => by
 simp only [wcells, List.mem_cons] at hu
 rcases hu with rfl | rfl | hu
 ·rfl
 ·rfl
 ·exact dS.one x.r u hu⟩
theorem vv_eq (x : D.Vn) : vS.v x = #[.int .u64 (x.a : Nat), .bool x.d, .int .u8 (x.r.k : Nat), .int .u8 (x.r.s : Nat), .int .u8 (x.r.u : Nat), .int .u8 (x.r.p : Nat), .int .u8 (x.r.m : Nat), .bool x.r.g, .int .u32 (x.r.v : Nat), .int .u64 (x.r.a : Nat), .string x.r.t] := rfl
theorem wv_eq (x : D.Vn) : wS.v x = #[.int .u64 (x.a : Nat), .bool x.d, .int .i64 (x.r.k : Nat), .int .i64 (x.r.s : Nat), .int .i64 (x.r.u : Nat), .int .i64 (x.r.p : Nat), .int .i64 (x.r.m : Nat), .bool x.r.g, .int .u64 (x.r.v : Nat), .int .u64 (x.r.a : Nat), .string x.r.t] := rfl
noncomputable def ldv (v : Value) : Sem Value := Instr.loadAt 194 v
noncomputable def lvv (a : Addr) : Sem Value := loadVar 194 a
noncomputable def stv (p v : Value) : Sem Unit := Instr.storeAt 194 p v
noncomputable def nev (u v : Value) : Sem Value := binOp .neq 194 u v
noncomputable def bdv (ps : Array (Nat × Value)) : Sem Value := Instr.build 194 ps
noncomputable def bsv (n : Nat) (ps : Array (Nat × Value)) : Sem Value := Instr.buildSlice 187 n ps
theorem ld_v (v : Value) : Instr.loadAt 194 v = ldv v := rfl
theorem lv_v (a : Addr) : loadVar 194 a = lvv a := rfl
theorem st_v (p v : Value) : Instr.storeAt 194 p v = stv p v := rfl
theorem ne_v (u v : Value) : binOp .neq 194 u v = nev u v := rfl
theorem bd_v (ps : Array (Nat × Value)) : Instr.build 194 ps = bdv ps := rfl
theorem bs_v (n : Nat) (ps : Array (Nat × Value)) : Instr.buildSlice 187 n ps = bsv n ps := rfl
theorem run_lvv (w : World) (a : Addr) : (lvv a).run Tryz.prog w = (vS.rd w a).elim (bl 194 a w) fun x => .ok (.agg (vS.v x)) w := by
 cases h : vS.rd w a with
 | none => rfl
 | some x => exact Shp.loadVar_of Tryz.isAgg194 Tryz.sizeOf194 (Shp.at_of h)
theorem run_ldv (w : World) (a : Addr) : (ldv (.pointer (some a))).run Tryz.prog w = (vS.rd w a).elim (bl 194 a w) fun x => .ok (.agg (vS.v x)) w := by
 rw [← run_lvv]; simp only [ldv, lvv, Instr.loadAt, Instr.sureAddr, Sem.run_bind, Sem.run_pure, Result.andThen_ok]
theorem lvv_of {w : World} {a : Addr} {x : D.Vn} (h : vS.rd w a = some x) : (loadVar 194 a).run Tryz.prog w = .ok (.agg (vS.v x)) w := (run_lvv w a).trans (by rw [h]; rfl)
theorem run_stv (w : World) (g : Nat) (x : D.Vn) : (stv (.pointer (some ⟨g, 0, none⟩)) (.agg (vS.v x))).run Tryz.prog w = bif Shp.tn 11 w g then .ok () (w.setRow g (vS.v x)) else bs 194 g (vS.v x) w := by
 cases h : Shp.tn 11 w g with
 | false => rfl
 | true => exact Shp.storeVar_of (S := vS) h x fun t' cs hb hs => run_storeVar_row (P := Tryz.prog) w g t' _ cs (vS.v x) hb.out (by rw [vS.v_size]; kernel_rfl) hs (vS.v_one x)
theorem run_bsv1 (w : World) (x : D.Vn) : (bsv 1 #[(0, .agg (vS.v x))]).run Tryz.prog w = .ok (.slice (some ⟨w.heap.size, 0, none⟩) 1 1) (w.alloc (.cells (vS.v x) 194)) := by
 simp [bsv, vv_eq, Instr.buildSlice, go_sem]
theorem run_bsv0 (w : World) : (bsv 0 #[]).run Tryz.prog w = .ok (.slice (some ⟨w.heap.size, 0, none⟩) 0 0) (w.alloc (.cells #[] 194)) := by
 simp [bsv, Instr.buildSlice, go_sem]
noncomputable def ldw (v : Value) : Sem Value := Instr.loadAt 182 v
noncomputable def lvw (a : Addr) : Sem Value := loadVar 182 a
noncomputable def stw (p v : Value) : Sem Unit := Instr.storeAt 182 p v
noncomputable def new (u v : Value) : Sem Value := binOp .neq 182 u v
noncomputable def bdw (ps : Array (Nat × Value)) : Sem Value := Instr.build 182 ps
noncomputable def bsw (n : Nat) (ps : Array (Nat × Value)) : Sem Value := Instr.buildSlice 153 n ps
theorem ld_w (v : Value) : Instr.loadAt 182 v = ldw v := rfl
theorem lv_w (a : Addr) : loadVar 182 a = lvw a := rfl
theorem st_w (p v : Value) : Instr.storeAt 182 p v = stw p v := rfl
theorem ne_w (u v : Value) : binOp .neq 182 u v = new u v := rfl
theorem bd_w (ps : Array (Nat × Value)) : Instr.build 182 ps = bdw ps := rfl
theorem bs_w (n : Nat) (ps : Array (Nat × Value)) : Instr.buildSlice 153 n ps = bsw n ps := rfl
theorem run_lvw (w : World) (a : Addr) : (lvw a).run Tryz.prog w = (wS.rd w a).elim (bl 182 a w) fun x => .ok (.agg (wS.v x)) w := by
 cases h : wS.rd w a with
 | none => rfl
 | some x => exact Shp.loadVar_of Tryz.isAgg182 Tryz.sizeOf182 (Shp.at_of h)
theorem run_ldw (w : World) (a : Addr) : (ldw (.pointer (some a))).run Tryz.prog w = (wS.rd w a).elim (bl 182 a w) fun x => .ok (.agg (wS.v x)) w := by
 rw [← run_lvw]; simp only [ldw, lvw, Instr.loadAt, Instr.sureAddr, Sem.run_bind, Sem.run_pure, Result.andThen_ok]
theorem run_stw (w : World) (g : Nat) (x : D.Vn) : (stw (.pointer (some ⟨g, 0, none⟩)) (.agg (wS.v x))).run Tryz.prog w = bif Shp.tn 11 w g then .ok () (w.setRow g (wS.v x)) else bs 182 g (wS.v x) w := by
 cases h : Shp.tn 11 w g with
 | false => rfl
 | true => exact Shp.storeVar_of (S := wS) h x fun t' cs hb hs => run_storeVar_row (P := Tryz.prog) w g t' _ cs (wS.v x) hb.out (by rw [wS.v_size]; kernel_rfl) hs (wS.v_one x)
theorem run_bsw1 (w : World) (x : D.Vn) : (bsw 1 #[(0, .agg (wS.v x))]).run Tryz.prog w = .ok (.slice (some ⟨w.heap.size, 0, none⟩) 1 1) (w.alloc (.cells (wS.v x) 182)) := by
 simp [bsw, wv_eq, Instr.buildSlice, go_sem]
theorem run_bsw0 (w : World) : (bsw 0 #[]).run Tryz.prog w = .ok (.slice (some ⟨w.heap.size, 0, none⟩) 0 0) (w.alloc (.cells #[] 182)) := by
 simp [bsw, Instr.buildSlice, go_sem]
theorem run_bdv_z (w : World) : (bdv #[(1, .bool true)]).run Tryz.prog w = .ok (.agg (vS.v (D.dd 0))) w := by
 simp [bdv, vv_eq, D.dd, D.zRc, Instr.build, go_sem]
theorem run_bdv_d (w : World) (a : Nat) : (bdv #[(0, .int .u64 (a : Nat)), (1, .bool true)]).run Tryz.prog w = .ok (.agg (vS.v (D.dd a))) w := by
 simp [bdv, vv_eq, D.dd, D.zRc, Instr.build, go_sem]
theorem run_bdv_r (w : World) (a : Nat) (r : D.Rc) : (bdv #[(0, .int .u64 (a : Nat)), (2, .agg (rSh.v r))]).run Tryz.prog w = .ok (.agg (vS.v ⟨a, false, r⟩)) w := by
 simp [bdv, vv_eq, rv_eq, Instr.build, go_sem]
theorem run_bdw_3 (w : World) (x : D.Vn) : (bdw #[(0, .int .u64 (x.a : Nat)), (1, .bool x.d), (2, .agg (dS.v x.r))]).run Tryz.prog w = .ok (.agg (wS.v x)) w := by
 simp [bdw, wv_eq, dv_eq, Instr.build, go_sem]
theorem run_eq_vn (w : World) (x y : D.Vn) : (Op.equalIn 10000 194 (.agg (vS.v x)) (.agg (vS.v y))).run Tryz.prog w = .ok (decide (x = y)) w := by
 have hd : decide (x = y) = (decide (x.a = y.a) && decide (x.d = y.d) && decide (x.r = y.r)) := by
  obtain ⟨a, d, r⟩ := x
  obtain ⟨a', d', r'⟩ := y
  simp only [D.Vn.mk.injEq, ← Bool.decide_and, and_assoc]
 rw [hd, run_equalIn_agg w 9999 194 _ _ (by kernel_rfl) (by kernel_rfl)]
 simp only [Program.fieldsOf, Tryz.underlying194]
 have e8 : ∀ a b : Nat, (((a : Nat) : Int) == ((b : Nat) : Int)) = decide (a = b) := fun a b => by
  rw [Bool.eq_iff_iff]; simp; omega
 have eb : ∀ a b : Bool, (a == b) = decide (a = b) := by decide
 rw [vv_eq, vv_eq]
 simp [Op.eqFields, go_sem, run_equalIn_int w _ 73 _ _ _ _ Tryz.underlying73, run_equalIn_int w _ 42 _ _ _ _ Tryz.underlying42, run_equalIn_int w _ 5 _ _ _ _ Tryz.underlying5, run_equalIn_bool' w _ 4 _ _ Tryz.underlying4, run_equalIn_string w _ 9 _ _ Tryz.underlying9, e8, eb]
 by_cases h0 : x.a = y.a
 ·by_cases h1 : x.d = y.d
  ·by_cases h2 : x.r = y.r
   ·simp [h0, h1, h2]
   ·simp [h0, h1, h2]
    intro e1 e2 e3 e4 e5 e6 e7 e8 e9
    exact h2 (rc_ext e1 e2 e3 e4 e5 e6 e7 e8 (of_decide_eq_true (by rw [← txt_beq, e9]; exact beq_self_eq_true _)))
  ·simp [h0, h1]
 ·simp [h0]
theorem run_nev (w : World) (x y : D.Vn) : (nev (.agg (vS.v x)) (.agg (vS.v y))).run Tryz.prog w = .ok (.bool (!decide (x = y))) w := by
 unfold nev
 rw [run_neq_struct, run_eq_vn]
 rfl
theorem run_eq_wn (w : World) (x y : D.Vn) : (Op.equalIn 10000 182 (.agg (wS.v x)) (.agg (wS.v y))).run Tryz.prog w = .ok (decide (x = y)) w := by
 have hd : decide (x = y) = (decide (x.a = y.a) && decide (x.d = y.d) && decide (x.r = y.r)) := by
  obtain ⟨a, d, r⟩ := x
  obtain ⟨a', d', r'⟩ := y
  simp only [D.Vn.mk.injEq, ← Bool.decide_and, and_assoc]
 rw [hd, run_equalIn_agg w 9999 182 _ _ (by kernel_rfl) (by kernel_rfl)]
 simp only [Program.fieldsOf, Tryz.underlying182]
 have e8 : ∀ a b : Nat, (((a : Nat) : Int) == ((b : Nat) : Int)) = decide (a = b) := fun a b => by
  rw [Bool.eq_iff_iff]; simp; omega
 have eb : ∀ a b : Bool, (a == b) = decide (a = b) := by decide
 rw [wv_eq, wv_eq]
 simp [Op.eqFields, go_sem, run_equalIn_int w _ 3 _ _ _ _ Tryz.underlying3, run_equalIn_int w _ 42 _ _ _ _ Tryz.underlying42, run_equalIn_bool' w _ 4 _ _ Tryz.underlying4, run_equalIn_string w _ 9 _ _ Tryz.underlying9, e8, eb]
 by_cases h0 : x.a = y.a
 ·by_cases h1 : x.d = y.d
  ·by_cases h2 : x.r = y.r
   ·simp [h0, h1, h2]
   ·simp [h0, h1, h2]
    intro e1 e2 e3 e4 e5 e6 e7 e8 e9
    exact h2 (rc_ext e1 e2 e3 e4 e5 e6 e7 e8 (of_decide_eq_true (by rw [← txt_beq, e9]; exact beq_self_eq_true _)))
  ·simp [h0, h1]
 ·simp [h0]
theorem run_new (w : World) (x y : D.Vn) : (new (.agg (wS.v x)) (.agg (wS.v y))).run Tryz.prog w = .ok (.bool (!decide (x = y))) w := by
 unfold new
 rw [run_neq_struct, run_eq_wn]
 rfl
theorem vrec {w : World} {a : Addr} {x : D.Vn} (h : vS.rd w a = some x) : rSh.rd w (a.add 2) = some x.r := Shp.rd_of fun j u hu => by
 rw [add_of_add]
 exact Shp.at_of h (2 + j) u (by rw [Nat.add_comm]; exact hu)
theorem vf {w : World} {g : Nat} {x : D.Vn} (h : vS.rd w ⟨g, 0, none⟩ = some x) : w.cell? ⟨g, 0, none⟩ = some (.int .u64 (x.a : Nat)) ∧ w.cell? ⟨g, 1, none⟩ = some (.bool x.d) ∧ rSh.rd w ⟨g, 2, none⟩ = some x.r ∧ w.cell? ⟨g, 10, none⟩ = some (.string x.r.t) := by
 have hc := Shp.at_of h
 have c : ∀ j u, (vcells x)[j]? = some u → w.cell? ⟨g, j, none⟩ = some u := fun j u hu => by have := hc j u hu; rwa [add_o, Nat.zero_add] at this
 have h2 := vrec h
 rw [add_o] at h2
 exact ⟨c 0 _ rfl, c 1 _ rfl, h2, c 10 _ rfl⟩
theorem vr {w : World} {ad : Addr} {i : Nat} {x : D.Vn} (h : vS.rd w (ad.add (i * 11)) = some x) : w.cell? (ad.add (i * 11)) = some (.int .u64 (x.a : Nat)) ∧ w.cell? ⟨(ad.add (i * 11)).block, (ad.add (i * 11)).off + 1, none⟩ = some (.bool x.d) ∧ rSh.rd w ⟨(ad.add (i * 11)).block, (ad.add (i * 11)).off + 2, none⟩ = some x.r := by
 have hc := Shp.at_of h
 have h0 : w.cell? (ad.add (i * 11)) = some (.int .u64 (x.a : Nat)) := by have := hc 0 _ rfl; rwa [add_zero_] at this
 have hn : ∀ j u, (vcells x)[j + 1]? = some u → w.cell? ⟨(ad.add (i * 11)).block, (ad.add (i * 11)).off + (j + 1), none⟩ = some u := fun j u hu => by
  have := hc (j + 1) u hu
  rwa [add_sc] at this
 refine ⟨h0, hn 0 _ rfl, Shp.rd_of fun j u hu => ?_⟩
 rw [add_o]
 have := hn (1 + j) u (by rw [show 1 + j + 1 = j + 1 + 1 by omega]; exact hu)
 rwa [show 1 + j + 1 = 2 + j by omega, ← Nat.add_assoc] at this
theorem wr {w : World} {ad : Addr} {i : Nat} {x : D.Vn} (h : wS.rd w (ad.add (i * 11)) = some x) : w.cell? (ad.add (i * 11)) = some (.int .u64 (x.a : Nat)) ∧ w.cell? ⟨(ad.add (i * 11)).block, (ad.add (i * 11)).off + 1, none⟩ = some (.bool x.d) ∧ dS.rd w ⟨(ad.add (i * 11)).block, (ad.add (i * 11)).off + 2, none⟩ = some x.r := by
 have hc := Shp.at_of h
 have h0 : w.cell? (ad.add (i * 11)) = some (.int .u64 (x.a : Nat)) := by have := hc 0 _ rfl; rwa [add_zero_] at this
 have hn : ∀ j u, (wcells x)[j + 1]? = some u → w.cell? ⟨(ad.add (i * 11)).block, (ad.add (i * 11)).off + (j + 1), none⟩ = some u := fun j u hu => by
  have := hc (j + 1) u hu
  rwa [add_sc] at this
 refine ⟨h0, hn 0 _ rfl, Shp.rd_of fun j u hu => ?_⟩
 rw [add_o]
 have := hn (1 + j) u (by rw [show 1 + j + 1 = j + 1 + 1 by omega]; exact hu)
 rwa [show 1 + j + 1 = 2 + j by omega, ← Nat.add_assoc] at this
end Go.Proofs.YtjlaffgbmcpldaaGreatDoor
namespace Go.Proofs.YtjlaffgbmcpldaaGreatDoor
open Go.RowKit
attribute [local go_sem ↓] Go.wp_at_zero Go.wp_at_succ

theorem D.fst2_some {a b : Nat} (h : a ≠ 0) : D.fst2 a b = a := by unfold D.fst2; rw [if_neg h]
theorem D.fst2_none (b : Nat) : D.fst2 0 b = b := rfl
theorem D.fst2_r (a : Nat) : D.fst2 a 0 = a := by
 unfold D.fst2
 split
 ·omega
 ·rfl
structure Wg (w : World) (h hb g : Nat) : Prop where
 b1 : Blk w h 235 #[.pointer (some ⟨g, 0, none⟩)]
 b2 : Blk w hb 279 #[.func (.func 149) #[] #[.pointer (some ⟨h, 0, none⟩)]]
def EB (w : World) (g e : Nat) : Prop := Blk w g 25 #[.int .i64 (e : Nat)]
theorem EB.cell {w : World} {g e : Nat} (h : EB w g e) : w.cell? ⟨g, 0, none⟩ = some (.int .i64 (e : Nat)) := Blk.cell h
theorem EB.set {w : World} {g e : Nat} (h : EB w g e) (r : Nat) : EB (w.setCell ⟨g, 0, none⟩ (.int .i64 (r : Nat))) g r := Blk.set_ h _
def Pg (p g : Nat) (i : Nat) : Prop := i = p ∨ i = g
theorem Wg.only {w w' : World} {h hb g p e : Nat} {x : D.Rc} (hw : Wg w h hb g) (he : EB w g e) (hp : RBh w p x) (k : Only (Pg p g) w w') : Wg w' h hb g := by
 have n1 := hw.b1.ne_ he (by decide)
 have n2 := hw.b1.ne_ hp (by decide)
 have n3 := hw.b2.ne_ he (by decide)
 have n4 := hw.b2.ne_ hp (by decide)
 refine ⟨hw.b1.only k ?_, hw.b2.only k ?_⟩
 ·rintro (h | h)
  ·exact n2 h
  ·exact n1 h
 ·rintro (h | h)
  ·exact n4 h
  ·exact n3 h
theorem hold_yes (r h g : Nat) (w : World) :
  Calls Tryz.prog 149 #[.bool true, .int .i64 (r : Nat), .pointer (some ⟨h, 0, none⟩)] w fun en w' => en = .returned (.tuple #[]) ∧ w = w' := by
 go_enter Tryz.func149, Tryz.ntmps149
 go_wp2
 go_end0
 exact ⟨rfl, rfl⟩
theorem hold_no (r h g e : Nat) (w : World) (hc : w.cell? ⟨h, 0, none⟩ = some (.pointer (some ⟨g, 0, none⟩))) (he : EB w g e) :
  Calls Tryz.prog 149 #[.bool false, .int .i64 (r : Nat), .pointer (some ⟨h, 0, none⟩)] w fun en w' => en = .returned (.tuple #[]) ∧ EB w' g (D.fst2 e r) ∧ Only (fun i => i = g) w w' := by
 have h1 := he.cell
 have h2 := Blk.free he
 by_cases h0 : e = 0
 ·subst h0
  have h1 : w.cell? ⟨g, 0, none⟩ = some (.int .i64 0) := h1
  have HS := Lib.hid (he.set r)
  rw [D.fst2_none]
  go_enter Tryz.func149, Tryz.ntmps149
  go_wp2
  go_end0
  exact ⟨rfl, HS.out, (Only.self (fun i => i = g) w).set (p := ⟨g, 0, none⟩) (.inl rfl) _⟩
 ·rw [D.fst2_some h0]
  have hb : ((e : Int) == 0) = false := by simp; exact h0
  go_enter Tryz.func149, Tryz.ntmps149
  go_wp2
  go_end0
  exact ⟨rfl, he, Only.self _ _⟩
theorem hold_any (b : Bool) (r h g e e' : Nat) (w : World) (hc : w.cell? ⟨h, 0, none⟩ = some (.pointer (some ⟨g, 0, none⟩))) (he : EB w g e) (hq : Kept (D.fst2 e (if b then 0 else r) = e')) :
  Calls Tryz.prog 149 #[.bool b, .int .i64 (r : Nat), .pointer (some ⟨h, 0, none⟩)] w fun en w' => en = .returned (.tuple #[]) ∧ EB w' g e' ∧ Only (fun i => i = g) w w' := by
 obtain ⟨rfl⟩ := hq
 cases b
 ·exact hold_no r h g e w hc he
 ·rw [if_pos rfl, D.fst2_r]
  refine (hold_yes r h g w).mono ?_
  rintro en w' ⟨rfl, rfl⟩
  exact ⟨rfl, he, Only.self _ _⟩
theorem hold5 (b : Bool) (h g e e' : Nat) (w : World) (hc : w.cell? ⟨h, 0, none⟩ = some (.pointer (some ⟨g, 0, none⟩))) (he : EB w g e) (hq : Kept (D.fst2 e (if b then 0 else 5) = e')) :
  Calls Tryz.prog 149 #[.bool b, .int .i64 5, .pointer (some ⟨h, 0, none⟩)] w fun en w' => en = .returned (.tuple #[]) ∧ EB w' g e' ∧ Only (fun i => i = g) w w' := hold_any b 5 h g e e' w hc he hq
theorem hold2 (b : Bool) (h g e e' : Nat) (w : World) (hc : w.cell? ⟨h, 0, none⟩ = some (.pointer (some ⟨g, 0, none⟩))) (he : EB w g e) (hq : Kept (D.fst2 e (if b then 0 else 2) = e')) :
  Calls Tryz.prog 149 #[.bool b, .int .i64 2, .pointer (some ⟨h, 0, none⟩)] w fun en w' => en = .returned (.tuple #[]) ∧ EB w' g e' ∧ Only (fun i => i = g) w w' := hold_any b 2 h g e e' w hc he hq
def Wd (p g e' : Nat) (y : D.Rc) (w : World) (en : Ending) (w' : World) : Prop := en = .returned (.tuple #[]) ∧ EB w' g e' ∧ RBh w' p y ∧ Only (Pg p g) w w'
theorem wd_of {w w1 : World} {p g e e' i : Nat} {x y : D.Rc} {u : Value} (hp : RBh w p x) (he : EB w g e) (h1 : EB w1 g e') (k1 : Only (fun i => i = g) w.drew w1) (hy : (rSh.v x).setIfInBounds i u = rSh.v y) :
  Wd p g e' y w (.returned (.tuple #[])) (w1.setCell ⟨p, i, none⟩ u) := by
 have n1 : p ≠ g := Blk.ne_ hp he (by decide)
 have hp1 : RBh w1 p x := RBh.only (S := fun i => i = g) (hp.on ((Below.refl _ _).drew)) k1 n1
 refine ⟨rfl, ?_, hp1.put i u hy, ?_⟩
 ·exact ⟨(Below.heap_setCell w1 ⟨p, i, none⟩ u g (Ne.symm n1)).trans h1.out⟩
 ·have k2 : Only (Pg p g) w w1 := (Only.off ((Below.refl _ _).drew) k1).more fun i h => .inr h
  exact k2.set (.inl (.inl rfl)) _
theorem inn_if (x lo hi : Nat) : D.inn x lo hi = if (decide (lo ≤ x) && decide (x ≤ hi)) then 0 else 5 := by
 unfold D.inn
 by_cases h1 : lo ≤ x <;> by_cases h2 : x ≤ hi <;> simp [h1, h2]
set_option maxHeartbeats 1000000 in
theorem weigh_small (p g h hb e i v lo hi : Nat) (x y : D.Rc) (w : World) (hw : Wg w h hb g) (hp : RBh w p x) (he : EB w g e) (hc : w.cell? ⟨p, i, none⟩ = some (.int .u8 (v : Nat))) (hy : Kept ((rSh.v x).setIfInBounds i (.int .u8 0) = rSh.v y)) :
  Calls Tryz.prog 150 #[.pointer (some ⟨p, i, none⟩), .int .u8 (lo : Nat), .int .u8 (hi : Nat), .pointer (some ⟨hb, 0, none⟩)] w (Wd p g (D.fst2 e (D.inn v lo hi)) y w) := by
 have c1 := hw.b2.cell
 have hlt := hp.out
 have f1 := Blk.f hp i
 have n1 : p ≠ g := Blk.ne_ hp he (by decide)
 have HQ := Kept.mk (rfl : D.fst2 e (D.inn v lo hi) = D.fst2 e (D.inn v lo hi))
 rw [inn_if] at HQ ⊢
 have HP := Lib.hid hp
 have HE := Lib.hid he
 have fin : ∀ w1 e', EB w1 g e' → Only (fun i => i = g) w.drew w1 → Hid (w1.cell? ⟨p, i, none⟩ = some (.int .u8 (v : Nat)) ∧ w1.frozen? ⟨p, i, none⟩ = false) := fun w1 e' h1 k1 => by
  have hp1 : RBh w1 p x := RBh.only (S := fun i => i = g) (hp.on ((Below.refl _ _).drew)) k1 n1
  refine Lib.hid ⟨?_, Blk.f hp1 i⟩
  rw [← hc, Blk.c hp i, Blk.c hp1 i]
 by_cases h1 : lo ≤ v
 ·by_cases h2 : v ≤ hi
  ·have hb1 : (decide (lo ≤ v) && decide (v ≤ hi)) = true := by simp [h1, h2]
   rw [hb1] at HQ ⊢
   have CH := Lib.hid (hold5 true h g e _ w.drew hw.b1.drew.cell (show EB w.drew g e from Blk.drew he) HQ)
   clear HQ hb1 hlt
   go_enter Tryz.func150, Tryz.ntmps150
   go_wp2_with fail
   go_still_tail 13, (by kernel_rfl)
   change wpList _ _ _ _ _ w.drew
   go_wp2_with (go_at_call 149; (with_reducible refine CH.out.mono ?_); rintro en w1 ⟨rfl, he1, k1⟩; have HF := fin _ _ he1 k1; obtain ⟨cc, ff⟩ := HF.out)
   go_end0
   exact wd_of HP.out HE.out he1 k1 hy.out
  ·have hb1 : (decide (lo ≤ v) && decide (v ≤ hi)) = false := by simp [h2]
   rw [hb1] at HQ ⊢
   have CH := Lib.hid (hold5 false h g e _ w.drew hw.b1.drew.cell (show EB w.drew g e from Blk.drew he) HQ)
   clear HQ hb1 hlt
   go_enter Tryz.func150, Tryz.ntmps150
   go_wp2_with fail
   go_still_tail 13, (by kernel_rfl)
   change wpList _ _ _ _ _ w.drew
   go_wp2_with (go_at_call 149; (with_reducible refine CH.out.mono ?_); rintro en w1 ⟨rfl, he1, k1⟩; have HF := fin _ _ he1 k1; obtain ⟨cc, ff⟩ := HF.out)
   go_end0
   exact wd_of HP.out HE.out he1 k1 hy.out
 ·have hb1 : (decide (lo ≤ v) && decide (v ≤ hi)) = false := by simp [h1]
  rw [hb1] at HQ ⊢
  have CH := Lib.hid (hold5 false h g e _ w.drew hw.b1.drew.cell (show EB w.drew g e from Blk.drew he) HQ)
  clear HQ hb1 hlt
  go_enter Tryz.func150, Tryz.ntmps150
  go_wp2_with fail
  go_still_tail 13, (by kernel_rfl)
  change wpList _ _ _ _ _ w.drew
  go_wp2_with (go_at_call 149; (with_reducible refine CH.out.mono ?_); rintro en w1 ⟨rfl, he1, k1⟩; have HF := fin _ _ he1 k1; obtain ⟨cc, ff⟩ := HF.out)
  go_end0
  exact wd_of HP.out HE.out he1 k1 hy.out
theorem Wd.self {w : World} {p g e i : Nat} {x y : D.Rc} {u : Value} (hp : RBh w p x) (he : EB w g e) (hy : (rSh.v x).setIfInBounds i u = rSh.v y) : Wd p g e y w (.returned (.tuple #[])) (w.setCell ⟨p, i, none⟩ u) := by
 have n1 : p ≠ g := Blk.ne_ hp he (by decide)
 exact ⟨rfl, ⟨(Below.heap_setCell w ⟨p, i, none⟩ u g (Ne.symm n1)).trans he.out⟩, hp.put i u hy, (Only.self _ _).set (.inl (.inl rfl)) _⟩
theorem weigh_gone (p g e : Nat) (b : Bool) (x y : D.Rc) (w : World) (hp : RBh w p x) (he : EB w g e) (hc : w.cell? ⟨p, 5, none⟩ = some (.bool b)) (hy : Kept ((rSh.v x).setIfInBounds 5 (.bool false) = rSh.v y)) :
  Calls Tryz.prog 151 #[.pointer (some ⟨p, 5, none⟩)] w (Wd p g e y w) := by
 have f1 := Blk.f hp 5
 have HF := Lib.hid (Wd.self hp he hy.out)
 go_enter Tryz.func151, Tryz.ntmps151
 go_wp2
 go_end0
 exact HF.out
theorem weigh_time (p g e v : Nat) (x y : D.Rc) (w : World) (hp : RBh w p x) (he : EB w g e) (hc : w.cell? ⟨p, 7, none⟩ = some (.int .u64 (v : Nat))) (hy : Kept ((rSh.v x).setIfInBounds 7 (.int .u64 0) = rSh.v y)) :
  Calls Tryz.prog 153 #[.pointer (some ⟨p, 7, none⟩)] w (Wd p g e y w) := by
 have f1 := Blk.f hp 7
 have HF := Lib.hid (Wd.self hp he hy.out)
 go_enter Tryz.func153, Tryz.ntmps153
 go_wp2
 go_end0
 exact HF.out
set_option maxHeartbeats 1000000 in
theorem weigh_rev (p g h hb e v : Nat) (x y : D.Rc) (w : World) (hv : v < 4294967296) (hw : Wg w h hb g) (hp : RBh w p x) (he : EB w g e) (hc : w.cell? ⟨p, 6, none⟩ = some (.int .u32 (v : Nat))) (hy : Kept ((rSh.v x).setIfInBounds 6 (.int .u32 0) = rSh.v y)) :
  Calls Tryz.prog 152 #[.pointer (some ⟨p, 6, none⟩), .pointer (some ⟨hb, 0, none⟩)] w (Wd p g (D.fst2 e (D.inn v 1 4294967295)) y w) := by
 have c1 := hw.b2.cell
 have n1 : p ≠ g := Blk.ne_ hp he (by decide)
 have HQ := Kept.mk (rfl : D.fst2 e (D.inn v 1 4294967295) = D.fst2 e (D.inn v 1 4294967295))
 rw [inn_if] at HQ ⊢
 have HP := Lib.hid hp
 have HE := Lib.hid he
 have fin : ∀ w1 e', EB w1 g e' → Only (fun i => i = g) w.drew w1 → Hid (w1.cell? ⟨p, 6, none⟩ = some (.int .u32 (v : Nat)) ∧ w1.frozen? ⟨p, 6, none⟩ = false) := fun w1 e' h1 k1 => by
  have hp1 : RBh w1 p x := RBh.only (S := fun i => i = g) (hp.on ((Below.refl _ _).drew)) k1 n1
  refine Lib.hid ⟨?_, Blk.f hp1 6⟩
  rw [← hc, Blk.c hp 6, Blk.c hp1 6]
 by_cases h1 : 1 ≤ v
 ·have hb1 : (decide (1 ≤ v) && decide (v ≤ 4294967295)) = true := by simp [h1]; omega
  rw [hb1] at HQ ⊢
  have i1 : (1 : Int) ≤ (v : Int) := by omega
  have CH := Lib.hid (hold5 true h g e _ w.drew hw.b1.drew.cell (show EB w.drew g e from Blk.drew he) HQ)
  clear HQ hb1
  go_enter Tryz.func152, Tryz.ntmps152
  go_wp2_with fail
  go_still_tail 5, (by kernel_rfl)
  change wpList _ _ _ _ _ w.drew
  go_wp2_with (go_at_call 149; (with_reducible refine CH.out.mono ?_); rintro en w1 ⟨rfl, he1, k1⟩; have HF := fin _ _ he1 k1; obtain ⟨cc, ff⟩ := HF.out)
  go_end0
  exact wd_of HP.out HE.out he1 k1 hy.out
 ·obtain rfl : v = 0 := by omega
  have hb1 : (decide (1 ≤ 0) && decide (0 ≤ 4294967295)) = false := by decide
  rw [hb1] at HQ ⊢
  have hc : w.cell? ⟨p, 6, none⟩ = some (.int .u32 0) := hc
  have CH := Lib.hid (hold5 false h g e _ w.drew hw.b1.drew.cell (show EB w.drew g e from Blk.drew he) HQ)
  clear HQ hb1
  go_enter Tryz.func152, Tryz.ntmps152
  go_wp2_with fail
  go_still_tail 5, (by kernel_rfl)
  change wpList _ _ _ _ _ w.drew
  go_wp2_with (go_at_call 149; (with_reducible refine CH.out.mono ?_); rintro en w1 ⟨rfl, he1, k1⟩; have HF := fin _ _ he1 k1; obtain ⟨cc, ff⟩ := HF.out)
  go_end0
  exact wd_of HP.out HE.out he1 k1 hy.out
theorem lng_if (t : ByteArray) : D.lng t = if decide (t.size ≤ 60) then 0 else 2 := by
 unfold D.lng
 by_cases h : t.size ≤ 60 <;> simp [h]
set_option maxHeartbeats 1000000 in
theorem weigh_text (p g h hb e : Nat) (t : ByteArray) (x y : D.Rc) (w : World) (hw : Wg w h hb g) (hp : RBh w p x) (he : EB w g e) (hc : w.cell? ⟨p, 8, none⟩ = some (.string t)) (hy : Kept ((rSh.v x).setIfInBounds 8 (.string ⟨#[]⟩) = rSh.v y)) :
  Calls Tryz.prog 154 #[.pointer (some ⟨p, 8, none⟩), .pointer (some ⟨hb, 0, none⟩)] w (Wd p g (D.fst2 e (D.lng t)) y w) := by
 have c1 := hw.b2.cell
 have n1 : p ≠ g := Blk.ne_ hp he (by decide)
 have HQ := Kept.mk (rfl : D.fst2 e (D.lng t) = D.fst2 e (D.lng t))
 rw [lng_if] at HQ ⊢
 have HP := Lib.hid hp
 have HE := Lib.hid he
 have fin : ∀ w1 e', EB w1 g e' → Only (fun i => i = g) w.drew w1 → Hid (w1.cell? ⟨p, 8, none⟩ = some (.string t) ∧ w1.frozen? ⟨p, 8, none⟩ = false) := fun w1 e' h1 k1 => by
  have hp1 : RBh w1 p x := RBh.only (S := fun i => i = g) (hp.on ((Below.refl _ _).drew)) k1 n1
  refine Lib.hid ⟨?_, Blk.f hp1 8⟩
  rw [← hc, Blk.c hp 8, Blk.c hp1 8]
 by_cases h1 : t.size ≤ 60
 ·have hb1 : decide (t.size ≤ 60) = true := by simp [h1]
  rw [hb1] at HQ ⊢
  have i1 : (t.size : Int) ≤ 60 := by omega
  have CH := Lib.hid (hold2 true h g e _ w.drew hw.b1.drew.cell (show EB w.drew g e from Blk.drew he) HQ)
  clear HQ hb1
  go_enter Tryz.func154, Tryz.ntmps154
  go_wp2_with fail
  go_still_tail 6, (by kernel_rfl)
  change wpList _ _ _ _ _ w.drew
  go_wp2_with (go_at_call 149; (with_reducible refine CH.out.mono ?_); rintro en w1 ⟨rfl, he1, k1⟩; have HF := fin _ _ he1 k1; obtain ⟨cc, ff⟩ := HF.out)
  go_end0
  exact wd_of HP.out HE.out he1 k1 hy.out
 ·have hb1 : decide (t.size ≤ 60) = false := by simp [h1]
  rw [hb1] at HQ ⊢
  have i1 : (60 : Int) < (t.size : Int) := by omega
  have i2 : decide ((t.size : Int) ≤ 60) = false := by simp; omega
  have CH := Lib.hid (hold2 false h g e _ w.drew hw.b1.drew.cell (show EB w.drew g e from Blk.drew he) HQ)
  clear HQ hb1
  go_enter Tryz.func154, Tryz.ntmps154
  go_wp2_with fail
  go_still_tail 6, (by kernel_rfl)
  change wpList _ _ _ _ _ w.drew
  go_wp2_with (go_at_call 149; (with_reducible refine CH.out.mono ?_); rintro en w1 ⟨rfl, he1, k1⟩; have HF := fin _ _ he1 k1; obtain ⟨cc, ff⟩ := HF.out)
  go_end0
  exact wd_of HP.out HE.out he1 k1 hy.out
end Go.Proofs.YtjlaffgbmcpldaaGreatDoor
namespace Go.Proofs.YtjlaffgbmcpldaaGreatDoor
open Go.RowKit
attribute [local go_sem ↓] Go.wp_at_zero Go.wp_at_succ

structure AcT where
 l : List Value
 len : l.length = 5
 one : ∀ u ∈ l, u.oneCell' = true
theorem AcT.eq {x y : AcT} (h : x.l = y.l) : x = y := by
 obtain ⟨l, _, _⟩ := x
 obtain ⟨m, _, _⟩ := y
 simp only at h
 subst h
 rfl
def aS : Shp AcT := ⟨AcT.l, 5, by decide, AcT.len, AcT.eq, AcT.one⟩
def fv (f : Nat) (bs : List Nat) : Value := .func (.func f) #[] (bs.map fun b => Value.pointer (some ⟨b, 0, none⟩)).toArray
def actW (b : Nat) : AcT := ⟨[fv 150 [b], fv 151 [], fv 152 [b], fv 153 [], fv 154 [b]], rfl, by simp [fv, Value.oneCell']⟩
noncomputable def lva (a : Addr) : Sem Value := loadVar 233 a
noncomputable def sta (p v : Value) : Sem Unit := Instr.storeAt 233 p v
noncomputable def bda (ps : Array (Nat × Value)) : Sem Value := Instr.build 233 ps
theorem st_ah (p v : Value) : Instr.storeAt 233 p v = sta p v := rfl
theorem bd_a (ps : Array (Nat × Value)) : Instr.build 233 ps = bda ps := rfl
theorem run_lva (w : World) (a : Addr) : (lva a).run Tryz.prog w = (aS.rd w a).elim (bl 233 a w) fun x => .ok (.agg (aS.v x)) w := by
 cases h : aS.rd w a with
 | none => rfl
 | some x => exact Shp.loadVar_of Tryz.isAgg233 Tryz.sizeOf233 (Shp.at_of h)
theorem lva_of {w : World} {a : Addr} {x : AcT} (h : aS.rd w a = some x) : (loadVar 233 a).run Tryz.prog w = .ok (.agg (aS.v x)) w := (run_lva w a).trans (by rw [h]; rfl)
theorem run_sta (w : World) (g : Nat) (x : AcT) : (sta (.pointer (some ⟨g, 0, none⟩)) (.agg (aS.v x))).run Tryz.prog w = bif Shp.tn 5 w g then .ok () (w.setRow g (aS.v x)) else bs 233 g (aS.v x) w := by
 cases h : Shp.tn 5 w g with
 | false => rfl
 | true => exact Shp.storeVar_of (S := aS) h x fun t' cs hb hs => run_storeVar_row (P := Tryz.prog) w g t' _ cs (aS.v x) hb.out (by rw [aS.v_size]; kernel_rfl) hs (aS.v_one x)
theorem run_bda_w (w : World) (b : Nat) : (bda #[(0, .func (.func 150) #[] #[.pointer (some ⟨b, 0, none⟩)]), (1, .func (.func 151) #[] #[]), (2, .func (.func 152) #[] #[.pointer (some ⟨b, 0, none⟩)]), (3, .func (.func 153) #[] #[]), (4, .func (.func 154) #[] #[.pointer (some ⟨b, 0, none⟩)])]).run Tryz.prog w = .ok (.agg (aS.v (actW b))) w := by
 simp [bda, Instr.build, go_sem, aS, Shp.v, actW, fv]
theorem run_stf (w : World) (n : Nat) (f : Fn) (bs : Array Value) (t : TypeId) (h : n = w.heap.size) : (store ⟨n, 0, none⟩ (.func f #[] bs)).run Tryz.prog (w.alloc (.cells #[.nilFunc] t)) = .ok () (w.alloc (.cells #[.func f #[] bs] t)) := by
 subst h
 have hc : (w.alloc (.cells #[.nilFunc] t)).cell? ⟨w.heap.size, 0, none⟩ = some .nilFunc := (Blk.new w t #[.nilFunc]).cell
 have hf : (w.alloc (.cells #[.nilFunc] t)).frozen? ⟨w.heap.size, 0, none⟩ = false := Blk.free (Blk.new w t #[.nilFunc])
 rw [run_store _ _ _ _ _ (by rfl)]
 simp [hc, hf, World.setCell_alloc_new]
attribute [local go_sem ↓] st_ah bd_a
attribute [local go_sem] run_bda_w run_sta Shp.tn_new Shp.tn_old Shp.tn_drew setRow_alloc run_stf
theorem bel_setRow {B : Nat} {w w' : World} (h : Below B w w') {g : Nat} (hg : B ≤ g) (cs : Array Value) : Below B w (w'.setRow g cs) := h.trans ⟨rfl, rfl, rfl, by simp [World.setRow], fun k hk => setRow_other w' g k cs (by omega)⟩
set_option maxHeartbeats 1000000 in
theorem weighing_any (g : Nat) (w : World) :
  Calls Tryz.prog 118 #[.pointer (some ⟨g, 0, none⟩)] w fun en w' => en = .returned (.agg (aS.v (actW (w.heap.size + 2)))) ∧ Wg w' w.heap.size (w.heap.size + 2) g ∧ Below w.heap.size w w' := by
 go_enter Tryz.func118, Tryz.ntmps118
 go_wp2
 obtain ⟨W, hW⟩ : ∃ W, (((w.alloc (Obj.cells #[Value.pointer (some { block := g, off := 0 })] 235)).alloc (Obj.cells #[Value.nilFunc, Value.nilFunc, Value.nilFunc, Value.nilFunc, Value.nilFunc] 233)).alloc (Obj.cells #[Value.func (Fn.func 149) #[] #[Value.pointer (some { block := w.heap.size, off := 0 })]] 279)) = W := ⟨_, rfl⟩
 have hb : Below w.heap.size w W := by
  rw [← hW]
  exact (((Below.refl _ _).alloc (Nat.le_refl _) _).alloc (by simp) _).alloc (by simp; omega) _
 have h1 : Blk W w.heap.size 235 #[.pointer (some ⟨g, 0, none⟩)] := by
  rw [← hW]
  exact ((Blk.new _ _ _).alloc _).alloc _
 have h2 : Blk W (w.heap.size + 2) 279 #[.func (.func 149) #[] #[.pointer (some ⟨w.heap.size, 0, none⟩)]] := by
  rw [← hW]
  have := Blk.new ((w.alloc (Obj.cells #[Value.pointer (some { block := g, off := 0 })] 235)).alloc (Obj.cells #[Value.nilFunc, Value.nilFunc, Value.nilFunc, Value.nilFunc, Value.nilFunc] 233)) 279 #[Value.func (Fn.func 149) #[] #[Value.pointer (some { block := w.heap.size, off := 0 })]]
  simpa using this
 have h3 : Shp.tn 5 W (w.heap.size + 1) = true := by
  rw [← hW]
  simp [Shp.tn_new, Shp.tn_old]
 have hr := Shp.rd_set (S := aS) W (w.heap.size + 1) (actW (w.heap.size + 1 + 1)) h3
 rw [hW]
 have e1 : ∀ i, i ≠ w.heap.size + 1 → (W.setRow (w.heap.size + 1) (aS.v (actW (w.heap.size + 1 + 1)))).heap[i]? = W.heap[i]? := fun i hi => heap_setRow W _ _ _ hi
 refine bodyPost_ret (v := .agg (aS.v (actW (w.heap.size + 1 + 1)))) (by rw [results_cell1 rfl]; simp [asAddr, Result.andThen, lva_of hr]) rfl ⟨rfl, ⟨⟨(e1 _ (by omega)).trans h1.out⟩, ⟨(e1 _ (by omega)).trans h2.out⟩⟩, bel_setRow hb (by omega) _⟩
end Go.Proofs.YtjlaffgbmcpldaaGreatDoor
