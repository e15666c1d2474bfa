/-
  Acts in memory: a bool and two names; two names in one array.
-/
import Derived.Test.YtgfpdfafkimkcaaList
import Derived.Test.YtgfpdfafkimkcaaInsr
import Derived.Test.YtgfpdfafkimkcaaDel
import Derived.Test.YtgfpdfafkimkcaaFullWalk
import Derived.Test.YtgfpdfafkimkcaaTextsWalk
set_option linter.unusedVariables false
set_option linter.unusedSimpArgs false
namespace Go.Proofs.Ytgfpdfafkimkcaa
open Go.RowKit Go.Sort

/-- An act: in or out, and two names. -/
structure D.Ac where
  out : Bool
  a : D.Nm
  b : D.Nm
def ac (x : D.Ac) : List Value := .bool x.out :: (bys x.a.l ++ bys x.b.l)
def acv (x : D.Ac) : Array Value := (ac x).toArray
theorem ac_len (x : D.Ac) : (ac x).length = 25 := by simp [ac, bys_len, D.Nm.len]
theorem acv_size (x : D.Ac) : (acv x).size = 25 := by simp [acv, ac_len]
theorem ac_one (x : D.Ac) : ∀ u ∈ ac x, u.oneCell' = true := by
  intro u hu
  simp only [ac, List.mem_cons, List.mem_append] at hu
  rcases hu with rfl | hu | hu
  · rfl
  · exact bys_one _ u hu
  · exact bys_one _ u hu
theorem ac_inj {x y : D.Ac} (h : ac x = ac y) : x = y := by
  obtain ⟨o, a, b⟩ := x
  obtain ⟨o', a', b'⟩ := y
  simp only [ac, List.cons.injEq, Value.bool.injEq] at h
  obtain ⟨rfl, h⟩ := h
  have := List.append_inj h (by simp [bys_len, D.Nm.len])
  obtain rfl := D.Nm.eq (bys_inj this.1)
  obtain rfl := D.Nm.eq (bys_inj this.2)
  rfl
/-- At this address lies this act. -/
def AAt (w : World) (a : Addr) (x : D.Ac) : Prop := ∀ j u, (ac x)[j]? = some u → w.cell? (a.add j) = some u
theorem AAt.one {w : World} {a : Addr} {x y : D.Ac} (h : AAt w a x) (k : AAt w a y) : x = y := by
  refine ac_inj (List.ext_getElem? fun j => ?_)
  by_cases hj : j < 25
  · have e1 : (ac x)[j]? = some ((ac x)[j]'(by rw [ac_len]; exact hj)) := List.getElem?_eq_getElem _
    have e2 : (ac y)[j]? = some ((ac y)[j]'(by rw [ac_len]; exact hj)) := List.getElem?_eq_getElem _
    have := (h j _ e1).symm.trans (k j _ e2)
    rw [e1, e2, this]
  · rw [List.getElem?_eq_none (by rw [ac_len]; omega), List.getElem?_eq_none (by rw [ac_len]; omega)]
open Classical in
noncomputable def rdA (w : World) (a : Addr) : Option D.Ac := if h : ∃ x, AAt w a x then some (Classical.choose h) else none
theorem rdA_of {w : World} {a : Addr} {x : D.Ac} (h : AAt w a x) : rdA w a = some x := by
  have hx : ∃ x, AAt w a x := ⟨x, h⟩
  rw [rdA, dif_pos hx, (Classical.choose_spec hx).one h]
theorem aat_of {w : World} {a : Addr} {x : D.Ac} (h : rdA w a = some x) : AAt w a x := by
  unfold rdA at h
  split at h
  · rename_i hx
    injection h with h
    rw [← h]
    exact Classical.choose_spec hx
  · cases h
theorem AAt.to {w w' : World} {a : Addr} {x : D.Ac} (h : AAt w a x) (hk : w'.heap[a.block]? = w.heap[a.block]?) : AAt w' a x := fun j u hu =>
  (World.cell?_of_block (w := w) (by rw [block_of_add]; exact hk)).trans (h j u hu)
noncomputable def ldc (v : Value) : Sem Value := Instr.loadAt 50 v
noncomputable def badc (a : Addr) (w : World) : Result Value := (Instr.loadAt 50 (.pointer (some a))).run Try.prog w
theorem ld_c (v : Value) : Instr.loadAt 50 v = ldc v := rfl
theorem run_ld_c (w : World) (a : Addr) : (ldc (.pointer (some a))).run Try.prog w = (rdA w a).elim (badc a w) fun x => .ok (.agg (acv x)) w := by
  cases h : rdA w a with
  | none => rfl
  | some x =>
    have hl := run_loadCells_list (P := Try.prog) w a (ac x) (aat_of h)
    rw [ac_len] at hl
    simp only [ldc, Instr.loadAt, Instr.sureAddr, Sem.run_bind, Sem.run_pure, Result.andThen_ok, loadVar, Try.isAgg50, Try.sizeOf50, if_true, hl]
    rfl
noncomputable def stc (p v : Value) : Sem Unit := Instr.storeAt 50 p v
theorem st_c (p v : Value) : Instr.storeAt 50 p v = stc p v := rfl
theorem run_st_c (w : World) (n : Nat) (x : D.Ac) (h : n = w.heap.size) :
    (stc (.pointer (some ⟨n, 0, none⟩)) (.agg (acv x))).run Try.prog (w.alloc (.cells #[.bool false, .int .u8 0, .int .u8 0, .int .u8 0, .int .u8 0, .int .u8 0, .int .u8 0, .int .u8 0, .int .u8 0, .int .u8 0, .int .u8 0, .int .u8 0, .int .u8 0, .int .u8 0, .int .u8 0, .int .u8 0, .int .u8 0, .int .u8 0, .int .u8 0, .int .u8 0, .int .u8 0, .int .u8 0, .int .u8 0, .int .u8 0, .int .u8 0] 50)) = .ok () (w.alloc (.cells (acv x) 50)) := by
  subst h
  exact run_storeAt_new (P := Try.prog) w 50 _ (acv x) (by rw [acv_size]; kernel_rfl) (by rw [acv_size]; rfl) (all_oneCell_toArray (ac_one x))
theorem run_st_a (w : World) (n : Nat) (x : D.Nm) (h : n = w.heap.size) :
    (st 22 (.pointer (some ⟨n, 0, none⟩)) (.agg (nc x))).run Try.prog (w.alloc (.cells #[.int .u8 0, .int .u8 0, .int .u8 0, .int .u8 0, .int .u8 0, .int .u8 0, .int .u8 0, .int .u8 0, .int .u8 0, .int .u8 0, .int .u8 0, .int .u8 0] 22)) = .ok () (w.alloc (.cells (nc x) 22)) := by
  subst h
  exact run_storeAt_new (P := Try.prog) w 22 _ (nc x) (by rw [nc_size]; kernel_rfl) (by rw [nc_size]; rfl) (nc_one x)
/-- Two names in one array. -/
def two (x y : D.Nm) : Array Value := nc x ++ nc y
theorem two_size (x y : D.Nm) : (two x y).size = 24 := by simp [two, nc_size]
theorem two_eq (x y : D.Nm) : two x y = (bys x.l ++ bys y.l).toArray := by simp [two, nc]
noncomputable def bdd (ps : Array (Nat × Value)) : Sem Value := Instr.build 51 ps
theorem bd_d (ps : Array (Nat × Value)) : Instr.build 51 ps = bdd ps := rfl
theorem run_bd_d (w : World) (x y : D.Nm) : (bdd #[(0, .agg (nc x)), (1, .agg (nc y))]).run Try.prog w = .ok (.agg (two x y)) w := by
  obtain ⟨a, b, c, d, e, f, g, h, i, j, k, l, hx⟩ := twelve x
  obtain ⟨a', b', c', d', e', f', g', h', i', j', k', l', hy⟩ := twelve y
  rw [two, hx, hy]
  simp [bdd, Instr.build, go_sem]
noncomputable def std (p v : Value) : Sem Unit := Instr.storeAt 51 p v
theorem st_d (p v : Value) : Instr.storeAt 51 p v = std p v := rfl
theorem run_st_d (w : World) (n : Nat) (x y : D.Nm) (h : n = w.heap.size) :
    (std (.pointer (some ⟨n, 0, none⟩)) (.agg (two x y))).run Try.prog (w.alloc (.cells #[.int .u8 0, .int .u8 0, .int .u8 0, .int .u8 0, .int .u8 0, .int .u8 0, .int .u8 0, .int .u8 0, .int .u8 0, .int .u8 0, .int .u8 0, .int .u8 0, .int .u8 0, .int .u8 0, .int .u8 0, .int .u8 0, .int .u8 0, .int .u8 0, .int .u8 0, .int .u8 0, .int .u8 0, .int .u8 0, .int .u8 0, .int .u8 0] 51)) = .ok () (w.alloc (.cells (two x y) 51)) := by
  subst h
  exact run_storeAt_new (P := Try.prog) w 51 _ (two x y) (by rw [two_size]; kernel_rfl) (by rw [two_size]; rfl) (by
    rw [two_eq]
    exact all_oneCell_toArray (fun u hu => (List.mem_append.1 hu).elim (bys_one _ u) (bys_one _ u)))

/-- What lies in a block of two names, of an act. -/
theorem add_at (g k j : Nat) : (⟨g, k, none⟩ : Addr).add j = ⟨g, k + j, none⟩ := by simp [Addr.add]
theorem two_at {w : World} {g : Nat} {t : TypeId} {x y : D.Nm} (h : Blk w g t (two x y)) : rd w ⟨g, 0, none⟩ = some x ∧ rd w ⟨g, 12, none⟩ = some y := by
  have hx := x.len
  refine ⟨rd_of fun j u hu => ?_, rd_of fun j u hu => ?_⟩
  · have hj := (List.getElem?_eq_some_iff.1 hu).1
    rw [add_at]
    refine (h.c (0 + j)).trans ?_
    rw [two_eq, List.getElem?_toArray, Nat.zero_add, List.getElem?_append_left hj, hu]
  · rw [add_at]
    refine (h.c (12 + j)).trans ?_
    rw [two_eq, List.getElem?_toArray, List.getElem?_append_right (by rw [bys_len]; omega), bys_len, hx, Nat.add_sub_cancel_left, hu]
theorem act_at {w : World} {g : Nat} {t : TypeId} {x : D.Ac} (h : Blk w g t (acv x)) : w.cell? ⟨g, 0, none⟩ = some (.bool x.out) ∧ rd w ⟨g, 1, none⟩ = some x.a ∧ rd w ⟨g, 13, none⟩ = some x.b := by
  have hx := x.a.len
  refine ⟨(h.c 0).trans rfl, rd_of fun j u hu => ?_, rd_of fun j u hu => ?_⟩
  · have hj := (List.getElem?_eq_some_iff.1 hu).1
    rw [add_at]
    refine (h.c (1 + j)).trans ?_
    rw [acv, ac, List.getElem?_toArray, Nat.add_comm 1 j, List.getElem?_cons_succ, List.getElem?_append_left hj, hu]
  · rw [add_at]
    refine (h.c (13 + j)).trans ?_
    rw [acv, ac, List.getElem?_toArray, show 13 + j = (12 + j) + 1 by omega, List.getElem?_cons_succ, List.getElem?_append_right (by rw [bys_len]; omega), bys_len, hx, Nat.add_sub_cancel_left, hu]

/-- A slice of acts, nil let in. -/
structure ARow (w : World) (A : Option Addr) (n : Nat) (l : List D.Ac) : Prop where
  len : l.length = n
  to : 0 < n → ∃ ad, A = some ad ∧ ad.block < w.heap.size ∧ ∀ i x, l[i]? = some x → AAt w (ad.add (i * 25)) x
theorem ARow.nil (w : World) (A : Option Addr) : ARow w A 0 [] := ⟨rfl, fun h => absurd h (by omega)⟩
theorem ARow.on {w w' : World} {A : Option Addr} {n : Nat} {l : List D.Ac} (h : ARow w A n l) (hb : Below w.heap.size w w') : ARow w' A n l := ⟨h.len, fun hn => by
  obtain ⟨ad, e, hl, hc⟩ := h.to hn
  exact ⟨ad, e, Nat.lt_of_lt_of_le hl hb.size, fun i x hx => (hc i x hx).to (by rw [block_of_add]; exact hb.block _ hl)⟩⟩
theorem ARow.rd {w : World} {A : Option Addr} {n : Nat} {l : List D.Ac} (h : ARow w A n l) {i : Nat} {x : D.Ac} (hx : l[i]? = some x) : ∃ ad, A = some ad ∧ ad.block < w.heap.size ∧ rdA w (ad.add (i * 25)) = some x := by
  have := (List.getElem?_eq_some_iff.1 hx).1
  obtain ⟨ad, e, hl, hc⟩ := h.to (by have := h.len; omega)
  exact ⟨ad, e, hl, rdA_of (hc i x hx)⟩

/-- One step of the reference's list. -/
def stp (o : Bool) (L : List D.Nm) (x : D.Nm) : List D.Nm := if o then D.wo L x else add1 L x
theorem srt_add1 {L : List D.Nm} (h : D.Srt L) (x : D.Nm) : D.Srt (add1 L x) := by
  unfold add1
  split
  · exact D.srt_ins h x
  · exact h
theorem srt_stp {L : List D.Nm} (h : D.Srt L) (o : Bool) (x : D.Nm) : D.Srt (stp o L x) := by
  cases o
  · exact srt_add1 h x
  · exact D.srt_wo h x
theorem Held.stp {L : List D.Nm} (h : Held L) (o : Bool) (x : D.Nm) : Held (stp o L x) := by
  cases o
  · exact h.add1 x
  · exact h.wo x
/-- A row of the call's own is no part of the set. -/
theorem NOwn.off {base e n c : Nat} {w : World} {A : Option Addr} {l : List D.Nm} {bs p : Nat} {M : Option Nat} {L : List D.Nm} (h : NOwn base e w A n c l) (hS : SetP bs w p M L) (he : e ≠ 48) : ∀ g, (Value.slice A n c).ownBlock = some g → ¬ Sf p M g := by
  intro g hg
  rcases h.row.2 with ⟨h0, _⟩ | ⟨g', cap, cur, h0, _, hb, _⟩
  · rw [h0] at hg
    cases hg
  · rw [h0] at hg
    injection hg with hg
    subst hg
    exact hS.off (t := e) (cs := cur) ⟨hb⟩ he
theorem NOwn.only {base e n c : Nat} {w w' : World} {A : Option Addr} {l : List D.Nm} {bs p : Nat} {M : Option Nat} {L : List D.Nm} (h : NOwn base e w A n c l) (hS : SetP bs w p M L) (he : e ≠ 48) (ho : Only (Sf p M) w w') : NOwn base e w' A n c l :=
  h.kept ho.size fun g hg => ho.block g (h.lt g hg).2 (h.off hS he g hg)
end Go.Proofs.Ytgfpdfafkimkcaa
