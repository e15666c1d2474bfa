/-
  Calls that came in, in memory.
-/
import Derived.Test.YtgobbdfgjgjigaaDoorIkn
set_option linter.unusedVariables false
set_option linter.unusedSimpArgs false
set_option maxRecDepth 100000
namespace Go.Proofs.YtgobbdfgjgjigaaDoor
open Go.RowKit
/-- A call: Drop (or Take), an owner, two keys. -/
structure D.Ia where
  d : Bool
  o : Int
  a : Ky
  b : Ky
def icells (x : D.Ia) : List Value := .bool x.d :: .int .i64 x.o :: (bys x.a.l ++ bys x.b.l)
theorem icells_inj {x y : D.Ia} (h : icells x = icells y) : x = y := by
  obtain ⟨d, o, a, b⟩ := x
  obtain ⟨d', o', a', b'⟩ := y
  simp only [icells, List.cons.injEq, Value.bool.injEq, Value.int.injEq, true_and] at h
  obtain ⟨rfl, rfl, h⟩ := h
  have := List.append_inj h (by simp [bys_len, D.Ky.len])
  obtain rfl := D.Ky.eq (bys_inj this.1)
  obtain rfl := D.Ky.eq (bys_inj this.2)
  rfl
def iS : Shp D.Ia := ⟨icells, 52, by decide, fun x => by simp [icells, bys_len, x.a.len, x.b.len], icells_inj, fun x u hu => by
  simp only [icells, List.mem_cons, List.mem_append] at hu
  rcases hu with rfl | rfl | hu | hu
  · rfl
  · rfl
  · exact bys_one _ u hu
  · exact bys_one _ u hu⟩
noncomputable def ldi (v : Value) : Sem Value := Instr.loadAt 36 v
noncomputable def lvi (a : Addr) : Sem Value := loadVar 36 a
noncomputable def sti (p v : Value) : Sem Unit := Instr.storeAt 36 p v
theorem ld_i (v : Value) : Instr.loadAt 36 v = ldi v := rfl
theorem lv_i (a : Addr) : loadVar 36 a = lvi a := rfl
theorem st_i (p v : Value) : Instr.storeAt 36 p v = sti p v := rfl
theorem run_sti (w : World) (g : Nat) (x : D.Ia) : (sti (.pointer (some ⟨g, 0, none⟩)) (.agg (iS.v x))).run Tryd.prog w = bif Shp.tn 52 w g then .ok () (w.setRow g (iS.v x)) else bs 36 g (iS.v x) w := by
  cases h : Shp.tn 52 w g with
  | false => rfl
  | true => exact Shp.storeVar_of (S := iS) h x fun t' cs hb hs => run_storeVar_row (P := Tryd.prog) w g t' _ cs (iS.v x) hb.out (by rw [iS.v_size]; kernel_rfl) hs (iS.v_one x)
theorem run_lvi (w : World) (a : Addr) : (lvi a).run Tryd.prog w = (iS.rd w a).elim (bl 36 a w) fun x => .ok (.agg (iS.v x)) w := by
  cases h : iS.rd w a with
  | none => rfl
  | some x => exact Shp.loadVar_of Tryd.isAgg36 Tryd.sizeOf36 (Shp.at_of h)
theorem run_ldi (w : World) (a : Addr) : (ldi (.pointer (some a))).run Tryd.prog w = (iS.rd w a).elim (bl 36 a w) fun x => .ok (.agg (iS.v x)) w := by
  rw [← run_lvi]; simp only [ldi, lvi, Instr.loadAt, Instr.sureAddr, Sem.run_bind, Sem.run_pure, Result.andThen_ok]
/-- What lies in a call. -/
theorem ia_in {w : World} {g : Nat} {x : D.Ia} {o : Nat} (h : iS.rd w ⟨g, o, none⟩ = some x) : w.cell? ⟨g, o, none⟩ = some (.bool x.d) ∧ w.cell? ⟨g, o + 1, none⟩ = some (.int .i64 x.o) ∧ kS.rd w ⟨g, o + 2, none⟩ = some x.a ∧ kS.rd w ⟨g, o + 27, none⟩ = some x.b := by
  have hc := Shp.at_of h
  have c0 : ∀ j u, (icells x)[j]? = some u → w.cell? ⟨g, o + j, none⟩ = some u := fun j u hu => by have := hc j u hu; rwa [add_o'] at this
  have hl : (bys x.a.l).length = 25 := by rw [bys_len, x.a.len]
  refine ⟨c0 0 _ rfl, c0 1 _ rfl, Shp.rd_of fun j u hu => ?_, Shp.rd_of fun j u hu => ?_⟩
  · have hj : j < (bys x.a.l).length := (List.getElem?_eq_some_iff.1 hu).1
    have := c0 (j + 2) u (by
      show (bys x.a.l ++ bys x.b.l)[j]? = some u
      rw [List.getElem?_append_left hj]; exact hu)
    rw [add_o']
    rwa [show o + 2 + j = o + (j + 2) by omega]
  · have := c0 (j + 27) u (by
      show (bys x.a.l ++ bys x.b.l)[j + 25]? = some u
      rw [List.getElem?_append_right (by omega), hl, Nat.add_sub_cancel]; exact hu)
    rw [add_o']
    rwa [show o + 27 + j = o + (j + 27) by omega]
theorem ia_row {w : World} {ad : Addr} {i : Nat} {x : D.Ia} (h : iS.rd w (ad.add (i * 52)) = some x) : w.cell? (ad.add (i * 52)) = some (.bool x.d) ∧ w.cell? ⟨(ad.add (i * 52)).block, (ad.add (i * 52)).off + 1, none⟩ = some (.int .i64 x.o) ∧
    kS.rd w ⟨(ad.add (i * 52)).block, (ad.add (i * 52)).off + 2, none⟩ = some x.a ∧ kS.rd w ⟨(ad.add (i * 52)).block, (ad.add (i * 52)).off + 27, none⟩ = some x.b := by
  obtain ⟨g, o, r⟩ := ad
  have hc := Shp.at_of h
  have c0 : ∀ j u, (icells x)[j]? = some u → w.cell? (((⟨g, o, r⟩ : Addr).add (i * 52)).add j) = some u := fun j u hu => hc j u hu
  have hl : (bys x.a.l).length = 25 := by rw [bys_len, x.a.len]
  have ea : ∀ j, ((⟨g, o, r⟩ : Addr).add (i * 52)).add (j + 1) = ⟨((⟨g, o, r⟩ : Addr).add (i * 52)).block, ((⟨g, o, r⟩ : Addr).add (i * 52)).off + (j + 1), none⟩ := fun j => by unfold Addr.add; simp
  have e0 : ((⟨g, o, r⟩ : Addr).add (i * 52)).add 0 = (⟨g, o, r⟩ : Addr).add (i * 52) := by unfold Addr.add; split <;> simp_all
  refine ⟨?_, ?_, Shp.rd_of fun j u hu => ?_, Shp.rd_of fun j u hu => ?_⟩
  · have := c0 0 _ rfl
    rwa [e0] at this
  · have := c0 1 _ rfl
    rwa [ea 0] at this
  · have hj : j < (bys x.a.l).length := (List.getElem?_eq_some_iff.1 hu).1
    have := c0 (j + 1 + 1) u (by
      show (bys x.a.l ++ bys x.b.l)[j]? = some u
      rw [List.getElem?_append_left hj]; exact hu)
    rw [ea] at this
    rw [add_o']
    rwa [show ((⟨g, o, r⟩ : Addr).add (i * 52)).off + 2 + j = ((⟨g, o, r⟩ : Addr).add (i * 52)).off + (j + 1 + 1) by omega]
  · have := c0 (j + 26 + 1) u (by
      show (bys x.a.l ++ bys x.b.l)[j + 25]? = some u
      rw [List.getElem?_append_right (by omega), hl, Nat.add_sub_cancel]; exact hu)
    rw [ea] at this
    rw [add_o']
    rwa [show ((⟨g, o, r⟩ : Addr).add (i * 52)).off + 27 + j = ((⟨g, o, r⟩ : Addr).add (i * 52)).off + (j + 26 + 1) by omega]
end Go.Proofs.YtgobbdfgjgjigaaDoor
