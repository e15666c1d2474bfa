/-
  What is done with a record's fields: five functions in a struct. How they are made.
-/
import Derived.Test.YtcnbdfobhablbaaRwg
import Derived.Laws.ResultCell
set_option linter.unusedVariables false
set_option linter.unusedSimpArgs false
set_option maxRecDepth 100000
namespace Go.Proofs.Ytcnbdfobhablbaa
open Go.RowKit
attribute [local go_sem ↓] Go.wp_at_zero Go.wp_at_succ

/-- Five functions. -/
structure AcT where
  l : List Value
  len : l.length = 5
  one : ∀ u ∈ l, u.oneCell' = true
theorem AcT.eq {x y : AcT} (h : x.l = y.l) : x = y := by
  obtain ⟨l, _, _⟩ := x
  obtain ⟨m, _, _⟩ := y
  simp only at h
  subst h
  rfl
def aS : Shp AcT := ⟨AcT.l, 5, by decide, AcT.len, AcT.eq, AcT.one⟩
def fv (f : Nat) (bs : List Nat) : Value := .func (.func f) #[] (bs.map fun b => Value.pointer (some ⟨b, 0, none⟩)).toArray
def actW (b : Nat) : AcT := ⟨[fv 55 [b], fv 56 [], fv 57 [b], fv 58 [], fv 59 [b]], rfl, by simp [fv, Value.oneCell']⟩
noncomputable def lva (a : Addr) : Sem Value := loadVar 101 a
noncomputable def sta (p v : Value) : Sem Unit := Instr.storeAt 101 p v
noncomputable def bda (ps : Array (Nat × Value)) : Sem Value := Instr.build 101 ps
theorem lv_a (a : Addr) : loadVar 101 a = lva a := rfl
theorem st_a (p v : Value) : Instr.storeAt 101 p v = sta p v := rfl
theorem bd_a (ps : Array (Nat × Value)) : Instr.build 101 ps = bda ps := rfl
theorem run_lva (w : World) (a : Addr) : (lva a).run Try.prog w = (aS.rd w a).elim (bl 101 a w) fun x => .ok (.agg (aS.v x)) w := by
  cases h : aS.rd w a with
  | none => rfl
  | some x => exact Shp.loadVar_of Try.isAgg101 Try.sizeOf101 (Shp.at_of h)
theorem lva_of {w : World} {a : Addr} {x : AcT} (h : aS.rd w a = some x) : (loadVar 101 a).run Try.prog w = .ok (.agg (aS.v x)) w := (run_lva w a).trans (by rw [h]; rfl)
theorem run_sta (w : World) (g : Nat) (x : AcT) : (sta (.pointer (some ⟨g, 0, none⟩)) (.agg (aS.v x))).run Try.prog w = bif Shp.tn 5 w g then .ok () (w.setRow g (aS.v x)) else bs 101 g (aS.v x) w := by
  cases h : Shp.tn 5 w g with
  | false => rfl
  | true => exact Shp.storeVar_of (S := aS) h x fun t' cs hb hs => run_storeVar_row (P := Try.prog) w g t' _ cs (aS.v x) hb.out (by rw [aS.v_size]; kernel_rfl) hs (aS.v_one x)
theorem run_bda_w (w : World) (b : Nat) : (bda #[(0, .func (.func 55) #[] #[.pointer (some ⟨b, 0, none⟩)]), (1, .func (.func 56) #[] #[]), (2, .func (.func 57) #[] #[.pointer (some ⟨b, 0, none⟩)]), (3, .func (.func 58) #[] #[]), (4, .func (.func 59) #[] #[.pointer (some ⟨b, 0, none⟩)])]).run Try.prog w = .ok (.agg (aS.v (actW b))) w := by
  simp [bda, Instr.build, go_sem, aS, Shp.v, actW, fv]
theorem results_cell1 {fn : Func} {p : Tmp} {ty : TypeId} (h : fn.results = #[.cell p ty]) (tmps : Array Value) (P : Program) (w : World) :
    (results fn tmps).run P w = ((asAddr (tmps.getD p undef)).run P w).andThen fun a w₁ => (loadVar ty a).run P w₁ := by
  simp only [results, h]
  simp [Sem.run_bind, Result.andThen]
theorem tn_alloc2 (n : Nat) (w : World) (g : Nat) (t : TypeId) (cs : Array Value) (o : Obj) (h : g = w.heap.size) (hs : cs.size = n) : Shp.tn n ((w.alloc (.cells cs t)).alloc o) g = true := by
  rw [Shp.tn_old]
  · exact Shp.tn_new n w g t cs h hs
  · subst h; simp
theorem run_stf (w : World) (n : Nat) (f : Fn) (bs : Array Value) (t : TypeId) (h : n = w.heap.size) : (store ⟨n, 0, none⟩ (.func f #[] bs)).run Try.prog (w.alloc (.cells #[.nilFunc] t)) = .ok () (w.alloc (.cells #[.func f #[] bs] t)) := by
  subst h
  have hc : (w.alloc (.cells #[.nilFunc] t)).cell? ⟨w.heap.size, 0, none⟩ = some .nilFunc := (Blk.new w t #[.nilFunc]).cell
  have hf : (w.alloc (.cells #[.nilFunc] t)).frozen? ⟨w.heap.size, 0, none⟩ = false := Blk.free (Blk.new w t #[.nilFunc])
  rw [run_store _ _ _ _ _ (by rfl)]
  simp [hc, hf, World.setCell_alloc_new]
attribute [local go_sem ↓] st_a bd_a
attribute [local go_sem] run_bda_w run_sta Shp.tn_new Shp.tn_old Shp.tn_drew setRow_alloc run_stf
theorem bel_setRow {B : Nat} {w w' : World} (h : Below B w w') {g : Nat} (hg : B ≤ g) (cs : Array Value) : Below B w (w'.setRow g cs) := h.trans ⟨rfl, rfl, rfl, by simp [World.setRow], fun k hk => setRow_other w' g k cs (by omega)⟩
set_option maxHeartbeats 1000000 in
theorem weighing_any (g : Nat) (w : World) :
    Calls Try.prog 49 #[.pointer (some ⟨g, 0, none⟩)] w fun en w' => en = .returned (.agg (aS.v (actW (w.heap.size + 2)))) ∧ Wg w' w.heap.size (w.heap.size + 2) g ∧ Below w.heap.size w w' := by
  go_enter Try.func49, Try.ntmps49
  go_wp2
  obtain ⟨W, hW⟩ : ∃ W, (((w.alloc (Obj.cells #[Value.pointer (some { block := g, off := 0 })] 103)).alloc (Obj.cells #[Value.nilFunc, Value.nilFunc, Value.nilFunc, Value.nilFunc, Value.nilFunc] 101)).alloc (Obj.cells #[Value.func (Fn.func 54) #[] #[Value.pointer (some { block := w.heap.size, off := 0 })]] 112)) = W := ⟨_, rfl⟩
  have hb : Below w.heap.size w W := by
    rw [← hW]
    exact (((Below.refl _ _).alloc (Nat.le_refl _) _).alloc (by simp) _).alloc (by simp; omega) _
  have h1 : Blk W w.heap.size 103 #[.pointer (some ⟨g, 0, none⟩)] := by
    rw [← hW]
    exact ((Blk.new _ _ _).alloc _).alloc _
  have h2 : Blk W (w.heap.size + 2) 112 #[.func (.func 54) #[] #[.pointer (some ⟨w.heap.size, 0, none⟩)]] := by
    rw [← hW]
    have := Blk.new ((w.alloc (Obj.cells #[Value.pointer (some { block := g, off := 0 })] 103)).alloc (Obj.cells #[Value.nilFunc, Value.nilFunc, Value.nilFunc, Value.nilFunc, Value.nilFunc] 101)) 112 #[Value.func (Fn.func 54) #[] #[Value.pointer (some { block := w.heap.size, off := 0 })]]
    simpa using this
  have h3 : Shp.tn 5 W (w.heap.size + 1) = true := by
    rw [← hW]
    simp [Shp.tn_new, Shp.tn_old]
  have hr := Shp.rd_set (S := aS) W (w.heap.size + 1) (actW (w.heap.size + 1 + 1)) h3
  rw [hW]
  have e1 : ∀ i, i ≠ w.heap.size + 1 → (W.setRow (w.heap.size + 1) (aS.v (actW (w.heap.size + 1 + 1)))).heap[i]? = W.heap[i]? := fun i hi => heap_setRow W _ _ _ hi
  refine bodyPost_ret (v := .agg (aS.v (actW (w.heap.size + 1 + 1)))) (by rw [results_cell1 rfl]; simp [asAddr, Result.andThen, lva_of hr]) rfl ⟨rfl, ⟨⟨(e1 _ (by omega)).trans h1.out⟩, ⟨(e1 _ (by omega)).trans h2.out⟩⟩, bel_setRow hb (by omega) _⟩
end Go.Proofs.Ytcnbdfobhablbaa
