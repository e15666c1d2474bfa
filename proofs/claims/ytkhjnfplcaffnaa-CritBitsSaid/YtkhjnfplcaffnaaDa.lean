/-
  Lists in order of keys by places: where a key stands, put in and taken out there.
  The document's entries, and calls, in memory.
  The document's find, Get, Next.
-/
import Derived.Test.YtkhjnfplcaffnaaDd
import Derived.Test.YtkhjnfplcaffnaaCke
import Derived.Test.YtkhjnfplcaffnaaCde
import Derived.Test.YtkhjnfplcaffnaaCnx
import Derived.Test.YtkhjnfplcaffnaaKlo
import Derived.Test.YtkhjnfplcaffnaaDf
set_option linter.unusedVariables false
set_option linter.unusedSimpArgs false
set_option linter.unusedSectionVars false
namespace Go.Proofs.Ytkhjnfplcaffnaa.Cr
variable {α : Type} [Bits α] [DecidableEq α]
/-- Where a key stands first. -/
def fix (k : α) : List (α × Int) → Option Nat
  | [] => none
  | e :: l => if e.1 = k then some 0 else (fix k l).map (· + 1)
theorem fix_some {k : α} : ∀ {l : List (α × Int)} {i : Nat}, fix k l = some i → (∃ v, l[i]? = some (k, v)) ∧ ∀ j, j < i → ∀ e, l[j]? = some e → e.1 ≠ k
  | [], i, h => by simp [fix] at h
  | e :: l, i, h => by
    unfold fix at h
    split at h
    · rename_i he
      injection h with h
      subst h
      exact ⟨⟨e.2, by rw [← he]; rfl⟩, fun j hj => by omega⟩
    · rename_i he
      obtain ⟨i', h1, rfl⟩ := Option.map_eq_some_iff.1 h
      obtain ⟨⟨v, hv⟩, h2⟩ := fix_some h1
      refine ⟨⟨v, by simpa using hv⟩, fun j hj e' he' => ?_⟩
      cases j with
      | zero => simp at he'; subst he'; exact he
      | succ j => exact h2 j (by omega) e' (by simpa using he')
theorem fix_is {k : α} : ∀ {l : List (α × Int)} {i : Nat} {e : α × Int}, l[i]? = some e → e.1 = k → (∀ j, j < i → ∀ e', l[j]? = some e' → e'.1 ≠ k) → fix k l = some i
  | [], i, e, h, _, _ => by simp at h
  | f :: l, 0, e, h, he, _ => by simp at h; subst h; simp [fix, he]
  | f :: l, i + 1, e, h, he, hn => by
    have h0 : f.1 ≠ k := hn 0 (by omega) f rfl
    rw [fix, if_neg h0, fix_is (l := l) (i := i) (by simpa using h) he (fun j hj e' h' => hn (j + 1) (by omega) e' (by simpa using h'))]
    rfl
theorem fix_no {k : α} : ∀ {l : List (α × Int)}, (∀ (j : Nat) (e : α × Int), l[j]? = some e → e.1 ≠ k) → fix k l = none
  | [], _ => rfl
  | f :: l, h => by rw [fix, if_neg (h 0 f rfl), fix_no (l := l) fun j e h' => h (j + 1) e (by simpa using h')]; rfl
theorem fix_has {k : α} : ∀ {l : List (α × Int)}, (fix k l).isSome = has k l
  | [] => rfl
  | f :: l => by
    have := fix_has (k := k) (l := l)
    unfold has at this ⊢
    rw [fix, List.any_cons]
    by_cases he : f.1 = k
    · simp [he]
    · simp [he, this]
theorem up_get {l : List (α × Int)} (h : Up l) {i j : Nat} {e f : α × Int} (hi : l[i]? = some e) (hj : l[j]? = some f) (hij : i < j) : lt e.1 f.1 = true := by
  obtain ⟨h1, rfl⟩ := List.getElem?_eq_some_iff.1 hi
  obtain ⟨h2, rfl⟩ := List.getElem?_eq_some_iff.1 hj
  exact List.pairwise_iff_getElem.1 h i j h1 h2 hij
theorem up_ne {l : List (α × Int)} (h : Up l) {i j : Nat} {e f : α × Int} (hi : l[i]? = some e) (hj : l[j]? = some f) (hij : i ≠ j) : e.1 ≠ f.1 := by
  intro c
  rcases Nat.lt_or_gt_of_ne hij with h1 | h1
  · have := up_get h hi hj h1; rw [c, lt_irr] at this; cases this
  · have := up_get h hj hi h1; rw [c, lt_irr] at this; cases this
theorem put_at {k : α} {v : Int} {l : List (α × Int)} (h : Up l) {i : Nat} (hi : fix k l = some i) : put k v l = l.set i (k, v) := by
  obtain ⟨⟨u, hu⟩, _⟩ := fix_some hi
  rw [put_old h (by rw [← fix_has, hi]; rfl)]
  apply List.ext_getElem?
  intro j
  rw [List.getElem?_map, List.getElem?_set]
  by_cases e : i = j
  · subst e
    rw [if_pos rfl, hu, if_pos (List.getElem?_eq_some_iff.1 hu).1]
    simp
  · rw [if_neg e]
    cases hj : l[j]? with
    | none => rfl
    | some f =>
      have : f.1 ≠ k := fun c => up_ne h hu hj e c.symm
      simp [this]
theorem put_in {k : α} {v : Int} : ∀ {l : List (α × Int)} {a : Nat}, fix k l = none → (∀ j, j < a → ∀ e, l[j]? = some e → lt e.1 k = true) → (∀ e, l[a]? = some e → lt e.1 k = false) → put k v l = l.take a ++ (k, v) :: l.drop a
  | [], a, _, _, _ => by simp [put]
  | f :: l, 0, hf, _, h2 => by
    have hn : f.1 ≠ k := by
      intro c
      rw [fix, if_pos c] at hf; cases hf
    rw [put, h2 f rfl]
    simp [hn]
  | f :: l, a + 1, hf, h1, h2 => by
    have hn : f.1 ≠ k := by
      intro c
      rw [fix, if_pos c] at hf; cases hf
    rw [fix, if_neg hn] at hf
    have hf' : fix k l = none := by simpa using hf
    rw [put, h1 0 (by omega) f rfl, if_pos rfl, put_in (l := l) (a := a) hf' (fun j hj e he => h1 (j + 1) (by omega) e (by simpa using he)) (fun e he => h2 e (by simpa using he))]
    simp
theorem del_at {k : α} : ∀ {l : List (α × Int)} {i : Nat}, Up l → fix k l = some i → del k l = l.take i ++ l.drop (i + 1)
  | [], i, _, h => by simp [fix] at h
  | f :: l, i, hU, h => by
    have h2 := List.pairwise_cons.1 hU
    unfold fix at h
    split at h
    · rename_i he
      injection h with h
      subst h
      have : del k l = l := del_not (by
        cases c : has k l
        · rfl
        · obtain ⟨v, hv⟩ := has_iff.1 c
          have := h2.1 _ hv; rw [he, lt_irr] at this; cases this)
      have e2 : del k (f :: l) = del k l := by simp [del, he]
      rw [e2, this]; simp
    · rename_i he
      obtain ⟨i', h1, rfl⟩ := Option.map_eq_some_iff.1 h
      have e2 : del k (f :: l) = f :: del k l := by simp [del, he]
      rw [e2, del_at h2.2 h1]
      simp
theorem get_at {k : α} {l : List (α × Int)} (h : Up l) {i : Nat} {v : Int} (hv : l[i]? = some (k, v)) : get k l = some v := get_some h (List.mem_of_getElem? hv)
/-- The first behind a key, by its place. -/
theorem nxt_is {k : α} : ∀ {l : List (α × Int)} {i : Nat} {e : α × Int}, l[i]? = some e → lt k e.1 = true → (∀ j, j < i → ∀ e', l[j]? = some e' → lt k e'.1 = false) → nxt k l = some e.1
  | [], i, e, h, _, _ => by simp at h
  | f :: l, 0, e, h, he, _ => by simp at h; subst h; simp [nxt, he]
  | f :: l, i + 1, e, h, he, hn => by
    have h0 : lt k f.1 = false := hn 0 (by omega) f rfl
    have := nxt_is (l := l) (i := i) (by simpa using h) he (fun j hj e' h' => hn (j + 1) (by omega) e' (by simpa using h'))
    unfold nxt at this ⊢
    rw [List.find?_cons, h0]
    exact this
theorem nxt_no {k : α} {l : List (α × Int)} (h : ∀ (j : Nat) (e : α × Int), l[j]? = some e → lt k e.1 = false) : nxt k l = none := by
  unfold nxt
  rw [List.find?_eq_none.2]
  · rfl
  · intro e he
    obtain ⟨i, hi, rfl⟩ := List.mem_iff_getElem.1 he
    rw [h i _ (List.getElem?_eq_getElem hi)]
    simp
theorem put_len {k : α} {v : Int} {l : List (α × Int)} (h : Up l) : (put k v l).length ≤ l.length + 1 := by
  cases hh : has k l with
  | true => rw [put_old h hh]; simp
  | false => rw [put_new h hh]; omega
theorem del_len_le {k : α} {l : List (α × Int)} : (del k l).length ≤ l.length := List.length_filter_le _ _
end Go.Proofs.Ytkhjnfplcaffnaa.Cr
set_option linter.unusedVariables false
set_option linter.unusedSimpArgs false
set_option maxRecDepth 100000
namespace Go.Proofs.Ytkhjnfplcaffnaa
open Go.RowKit
attribute [local go_sem ↓] Go.wp_at_zero Go.wp_at_succ ld_k lv_k st_k eq_k ne_k bd_k ld_b lv_b st_b eq_b ne_b bd_25 ld_r lv_r st_rk eq_rk ne_rk bd_r ld_p lv_p st_px bd_p Nm.ld_a Nm.ld_n Nm.st_a Nm.st_n Nm.eq_a Nm.eq_n Nm.ne_a Nm.ne_n Nm.lv_a Nm.lv_n ld_a ld_n st_a st_n eq_a eq_n ne_a ne_n lv_a lv_n ld_l lv_l st_l bd_l bd_n bs_l bs_k
attribute [local go_sem] run_ldk run_lvk run_stk run_eqk run_nek run_bdk_z run_ldb run_lvb run_stb run_eqb run_neb run_ldr run_lvr run_strk run_eqrk run_nerk run_bdr_z run_ldp run_lvp run_stpx Nm.run_ld_a Nm.run_ld_n Nm.run_st_n Nm.run_eq_a Nm.run_eq_n Nm.run_ne_a Nm.run_ne_n Nm.run_lv_a Nm.run_lv_n Nm.rd_new Nm.rd_old Nm.rd_drew Nm.rd_drewN run_ld_a run_ld_n run_sw_a run_sw_n run_eq_a run_eq_n run_ne_a run_ne_n run_lv_a run_lv_n st_z ne_z eq_z rd_new rd_old rd_drew rd_drewN Shp.rd_new Shp.rd_old Shp.rd_drew Shp.rd_drewN Shp.rd_set Shp.tn_new Shp.tn_old Shp.tn_drew Shp.tn_drewN tn_new tn_old tn_drew tn_drewN rd_set setRow_alloc run_stn3 run_stt15 run_lvl run_ldl run_stl run_bdl run_bdn run_bdn0 run_bsl run_bsk

def ecells (e : Lf) : List Value := rcells (D.toR e.1) ++ [.int .i64 e.2]
theorem ecells_inj {x y : Lf} (h : ecells x = ecells y) : x = y := by
  have := List.append_inj h (by rw [show (rcells (D.toR x.1)).length = 25 from rS.len _, show (rcells (D.toR y.1)).length = 25 from rS.len _])
  have h1 := D.toR_inj (rcells_inj this.1)
  have h2 := this.2
  simp only [List.cons.injEq, Value.int.injEq, true_and, and_true] at h2
  exact Prod.ext h1 h2
def eS : Shp Lf := ⟨ecells, 26, by decide, fun x => by rw [ecells, List.length_append, show (rcells (D.toR x.1)).length = 25 from rS.len _]; rfl, ecells_inj, fun x u hu => by
  rcases List.mem_append.1 hu with hu | hu
  · exact rS.one _ u hu
  · simp only [List.mem_singleton] at hu; subst hu; rfl⟩
noncomputable def lde (v : Value) : Sem Value := Instr.loadAt 59 v
noncomputable def lve (a : Addr) : Sem Value := loadVar 59 a
noncomputable def bde (ps : Array (Nat × Value)) : Sem Value := Instr.build 59 ps
noncomputable def bse (n : Nat) (ps : Array (Nat × Value)) : Sem Value := Instr.buildSlice 33 n ps
theorem ld_e (v : Value) : Instr.loadAt 59 v = lde v := rfl
theorem lv_e (a : Addr) : loadVar 59 a = lve a := rfl
theorem bd_e (ps : Array (Nat × Value)) : Instr.build 59 ps = bde ps := rfl
theorem bs_e (n : Nat) (ps : Array (Nat × Value)) : Instr.buildSlice 33 n ps = bse n ps := rfl
theorem run_lve (w : World) (a : Addr) : (lve a).run Try.prog w = (eS.rd w a).elim (bl 59 a w) fun x => .ok (.agg (eS.v x)) w := by
  cases h : eS.rd w a with
  | none => rfl
  | some x => exact Shp.loadVar_of Try.isAgg59 Try.sizeOf59 (Shp.at_of h)
theorem run_lde (w : World) (a : Addr) : (lde (.pointer (some a))).run Try.prog w = (eS.rd w a).elim (bl 59 a w) fun x => .ok (.agg (eS.v x)) w := by
  rw [← run_lve]; simp only [lde, lve, Instr.loadAt, Instr.sureAddr, Sem.run_bind, Sem.run_pure, Result.andThen_ok]
theorem bde_list (w : World) (d : Int) : ∀ l : List Value, l.length = 25 → (bde #[(0, .agg l.toArray), (1, .int .i64 d)]).run Try.prog w = .ok (.agg (l ++ [Value.int .i64 d]).toArray) w
  | [a0, a1, a2, a3, a4, a5, a6, a7, a8, a9, a10, a11, a12, a13, a14, a15, a16, a17, a18, a19, a20, a21, a22, a23, a24], _ => by
    simp [bde, Instr.build, go_sem]
theorem run_bde (w : World) (x : D.Ky) (d : Int) : (bde #[(0, .agg (rS.v (D.toR x))), (1, .int .i64 d)]).run Try.prog w = .ok (.agg (eS.v (x, d))) w := bde_list w d (rcells (D.toR x)) (rS.len _)
theorem bse_list (w : World) : ∀ l : List Value, l.length = 26 → (bse 1 #[(0, .agg l.toArray)]).run Try.prog w = .ok (.slice (some ⟨w.heap.size, 0, none⟩) 1 1) (w.alloc (.cells l.toArray 59))
  | [a0, a1, a2, a3, a4, a5, a6, a7, a8, a9, a10, a11, a12, a13, a14, a15, a16, a17, a18, a19, a20, a21, a22, a23, a24, a25], _ => by
    simp [bse, Instr.buildSlice, go_sem]
theorem run_bse (w : World) (e : Lf) : (bse 1 #[(0, .agg (eS.v e))]).run Try.prog w = .ok (.slice (some ⟨w.heap.size, 0, none⟩) 1 1) (w.alloc (.cells (eS.v e) 59)) := bse_list w (ecells e) (eS.len e)
theorem run_bse0 (w : World) : (bse 0 #[]).run Try.prog w = .ok (.slice (some ⟨w.heap.size, 0, none⟩) 0 0) (w.alloc (.cells #[] 59)) := by
  simp [bse, Instr.buildSlice, go_sem]
/-- An entry's parts, in a row. -/
theorem er {w : World} {ad : Addr} {i : Nat} {e : Lf} (h : eS.rd w (ad.add (i * 26)) = some e) : rS.rd w (ad.add (i * 26)) = some (D.toR e.1) ∧ w.cell? ⟨(ad.add (i * 26)).block, (ad.add (i * 26)).off + 25, none⟩ = some (.int .i64 e.2) := by
  have hc := Shp.at_of h
  have hl : (rcells (D.toR e.1)).length = 25 := rS.len _
  refine ⟨Shp.rd_of fun j u hu => ?_, ?_⟩
  · have hj : j < (rcells (D.toR e.1)).length := (List.getElem?_eq_some_iff.1 hu).1
    exact hc j u (by
      show (rcells (D.toR e.1) ++ [Value.int .i64 e.2])[j]? = some u
      rw [List.getElem?_append_left hj]; exact hu)
  · have := hc 25 (.int .i64 e.2) (by
      show (rcells (D.toR e.1) ++ [Value.int .i64 e.2])[25]? = some (.int .i64 e.2)
      rw [List.getElem?_append_right (by omega), hl]; rfl)
    have e2 : (ad.add (i * 26)).add 25 = ⟨(ad.add (i * 26)).block, (ad.add (i * 26)).off + 25, none⟩ := by unfold Addr.add; simp
    rwa [e2] at this
/-- Calls that came in. -/
structure Kac where
  o : Bool
  k : D.Ky
  v : Int
def kacells (x : Kac) : List Value := .bool x.o :: (bys x.k.l ++ [.int .i64 x.v])
theorem kacells_inj {x y : Kac} (h : kacells x = kacells y) : x = y := by
  obtain ⟨o, k, v⟩ := x
  obtain ⟨o', k', v'⟩ := y
  simp only [kacells, List.cons.injEq, Value.bool.injEq] at h
  obtain ⟨rfl, h⟩ := h
  have := List.append_inj h (by simp [bys_len, D.Ky.len])
  obtain rfl := D.Ky.eq (bys_inj this.1)
  have h2 := this.2
  simp only [List.cons.injEq, Value.int.injEq, true_and, and_true] at h2
  subst h2
  rfl
def aS : Shp Kac := ⟨kacells, 27, by decide, fun x => by simp [kacells, bys_len, x.k.len], kacells_inj, fun x u hu => by
  simp only [kacells, List.mem_cons, List.mem_append, List.not_mem_nil, or_false] at hu
  rcases hu with rfl | hu | rfl
  · rfl
  · exact bys_one _ u hu
  · rfl⟩
noncomputable def lda (v : Value) : Sem Value := Instr.loadAt 35 v
noncomputable def lva (a : Addr) : Sem Value := loadVar 35 a
theorem ld_ac (v : Value) : Instr.loadAt 35 v = lda v := rfl
theorem lv_ac (a : Addr) : loadVar 35 a = lva a := rfl
noncomputable def sta (p v : Value) : Sem Unit := Instr.storeAt 35 p v
theorem st_ac (p v : Value) : Instr.storeAt 35 p v = sta p v := rfl
theorem run_sta (w : World) (g : Nat) (x : Kac) : (sta (.pointer (some ⟨g, 0, none⟩)) (.agg (aS.v x))).run Try.prog w = bif Shp.tn 27 w g then .ok () (w.setRow g (aS.v x)) else bs 35 g (aS.v x) w := by
  cases h : Shp.tn 27 w g with
  | false => rfl
  | true => exact Shp.storeVar_of (S := aS) h x fun t' cs hb hs => run_storeVar_row (P := Try.prog) w g t' _ cs (aS.v x) hb.out (by rw [aS.v_size]; kernel_rfl) hs (aS.v_one x)
theorem run_lva (w : World) (a : Addr) : (lva a).run Try.prog w = (aS.rd w a).elim (bl 35 a w) fun x => .ok (.agg (aS.v x)) w := by
  cases h : aS.rd w a with
  | none => rfl
  | some x => exact Shp.loadVar_of Try.isAgg35 Try.sizeOf35 (Shp.at_of h)
theorem run_lda (w : World) (a : Addr) : (lda (.pointer (some a))).run Try.prog w = (aS.rd w a).elim (bl 35 a w) fun x => .ok (.agg (aS.v x)) w := by
  rw [← run_lva]; simp only [lda, lva, Instr.loadAt, Instr.sureAddr, Sem.run_bind, Sem.run_pure, Result.andThen_ok]
theorem adr_o (g o j : Nat) : (⟨g, o, none⟩ : Addr).add j = ⟨g, o + j, none⟩ := by simp [Addr.add]
/-- What lies in a call. -/
theorem ac_in {w : World} {g : Nat} {x : Kac} (h : aS.rd w ⟨g, 0, none⟩ = some x) : w.cell? ⟨g, 0, none⟩ = some (.bool x.o) ∧ kS.rd w ⟨g, 1, none⟩ = some x.k ∧ w.cell? ⟨g, 26, none⟩ = some (.int .i64 x.v) := by
  have hc := Shp.at_of h
  have c0 : ∀ j u, (kacells x)[j]? = some u → w.cell? ⟨g, j, none⟩ = some u := fun j u hu => by have := hc j u hu; rwa [adr_o, Nat.zero_add] at this
  have hl : (bys x.k.l).length = 25 := by rw [bys_len, x.k.len]
  refine ⟨c0 0 _ rfl, Shp.rd_of fun j u hu => ?_, c0 26 _ ?_⟩
  · have hj : j < (bys x.k.l).length := (List.getElem?_eq_some_iff.1 hu).1
    have := c0 (j + 1) u (by
      show (bys x.k.l ++ [Value.int .i64 x.v])[j]? = some u
      rw [List.getElem?_append_left hj]; exact hu)
    have e : (⟨g, 1, none⟩ : Addr).add j = ⟨g, j + 1, none⟩ := by rw [adr_o, Nat.add_comm]
    rw [e]; exact this
  · show (bys x.k.l ++ [Value.int .i64 x.v])[25]? = _
    rw [List.getElem?_append_right (by omega), hl]; rfl
end Go.Proofs.Ytkhjnfplcaffnaa
set_option linter.unusedVariables false
set_option linter.unusedSimpArgs false
set_option maxRecDepth 100000
namespace Go.Proofs.Ytkhjnfplcaffnaa
open Go.RowKit
attribute [local go_sem ↓] Go.wp_at_zero Go.wp_at_succ ld_k lv_k st_k eq_k ne_k bd_k ld_b lv_b st_b eq_b ne_b bd_25 ld_r lv_r st_rk eq_rk ne_rk bd_r ld_p lv_p st_px bd_p Nm.ld_a Nm.ld_n Nm.st_a Nm.st_n Nm.eq_a Nm.eq_n Nm.ne_a Nm.ne_n Nm.lv_a Nm.lv_n ld_a ld_n st_a st_n eq_a eq_n ne_a ne_n lv_a lv_n ld_l lv_l st_l bd_l bd_n bs_l bs_k ld_e lv_e bd_e bs_e ld_ac lv_ac st_ac
attribute [local go_sem] run_ldk run_lvk run_stk run_eqk run_nek run_bdk_z run_ldb run_lvb run_stb run_eqb run_neb run_ldr run_lvr run_strk run_eqrk run_nerk run_bdr_z run_ldp run_lvp run_stpx Nm.run_ld_a Nm.run_ld_n Nm.run_st_n Nm.run_eq_a Nm.run_eq_n Nm.run_ne_a Nm.run_ne_n Nm.run_lv_a Nm.run_lv_n Nm.rd_new Nm.rd_old Nm.rd_drew Nm.rd_drewN run_ld_a run_ld_n run_sw_a run_sw_n run_eq_a run_eq_n run_ne_a run_ne_n run_lv_a run_lv_n st_z ne_z eq_z rd_new rd_old rd_drew rd_drewN Shp.rd_new Shp.rd_old Shp.rd_drew Shp.rd_drewN Shp.rd_set Shp.tn_new Shp.tn_old Shp.tn_drew Shp.tn_drewN tn_new tn_old tn_drew tn_drewN rd_set setRow_alloc run_stn3 run_stt15 run_lvl run_ldl run_stl run_bdl run_bdn run_bdn0 run_bsl run_bsk run_lde run_lve run_bde run_bse run_bse0 run_lda run_lva run_sta

theorem sm_toR (a b : D.Ky) : rS.sm (D.toR a) (D.toR b) = decide (a = b) := by
  unfold Shp.sm
  by_cases h : a = b
  · subst h; simp
  · have h2 : ¬ D.toR a = D.toR b := fun e => h (D.toR_inj e)
    simp [h, h2]
/-- Where a key stands, as find tells it. -/
def fxi (k : D.Ky) (l : List Lf) : Int := match Cr.fix k l with
  | some i => (i : Nat)
  | none => -1
set_option maxHeartbeats 4000000 in
theorem find_any {w : World} {A : Option Addr} {n c : Nat} {l : List Lf} (hr : Shp.Row eS w A n l) (hn : n ≤ 1000000) (k : D.Ky) :
    Calls Try.prog 27 #[.slice A n c, .agg (rS.v (D.toR k))] w fun e w' => e = .returned (.int .i64 (fxi k l)) ∧ Below w.heap.size w w' := by
  have hlen := hr.len
  have q0 := Shp.rd_new (S := rS) w w.heap.size 40 (D.toR k) rfl
  have b0 := below_alloc_ w (.cells (rS.v (D.toR k)) 40)
  obtain ⟨w0, hw0⟩ : ∃ w0, w.alloc (.cells (rS.v (D.toR k)) 40) = w0 := ⟨_, rfl⟩
  rw [hw0] at q0 b0
  have HR := Lib.hid (hr.on b0)
  have HB := Lib.hid b0
  have HQ := Lib.hid q0
  have HL := Lib.hid hlen
  clear hr b0 q0
  go_enter Try.func27, Try.ntmps27
  go_wp2_with fail
  try rw [hw0]
  go_loopw [5] (fun s5 wx => ∃ i : Nat, i ≤ n ∧ s5 = .int .i64 i ∧ Hid (∀ j, j < i → ∀ e, l[j]? = some e → e.1 ≠ k) ∧ Hid (Below w0.heap.size w0 wx)) (fun s5 _ => n - (intOf s5).toNat)
  case atStart => exact ⟨0, Nat.zero_le _, rfl, Lib.hid (fun j h => by omega), Lib.hid (Below.refl _ _)⟩
  case round =>
    obtain ⟨i, hin, rfl, HN, HW⟩ := hrel
    by_cases hlt : i < n
    · have i0 : (0 : Int) ≤ (i : Int) := by omega
      have i1 : (i : Int) < (n : Int) := by omega
      obtain ⟨e, he⟩ : ∃ e, l[i]? = some e := ⟨_, List.getElem?_eq_getElem (by omega)⟩
      obtain ⟨ad, hAe, hal, hrd⟩ := (HR.out.on HW.out).rd he
      subst hAe
      obtain ⟨r1, -⟩ := er hrd
      have r0 := Shp.rd_on HQ.out HW.out
      have l0 : w.heap.size < wr.heap.size := Shp.rd_lt r0
      have HE := Lib.hid he
      have hsm := sm_toR e.1 k
      have r2 : (ad.add (i * 26)).block < wr.heap.size := Shp.rd_lt r1
      clear hrd he hlen
      by_cases hk : e.1 = k
      · rw [decide_eq_true hk] at hsm
        have HF := Lib.hid (Cr.fix_is HE.out hk HN.out)
        clear hk
        go_wp2_with fail
        go_quiet (fail)
        have b3 : Below wr.heap.size wr (wr.drewN nq) := ⟨rfl, rfl, rfl, Nat.le_refl _, fun _ _ => rfl⟩
        go_wp2
        go_ret
        exact ⟨by unfold fxi; rw [HF.out]; rfl, HB.out.trans ((HW.out.trans (b3.mono HW.out.size)).mono HB.out.size)⟩
      · rw [decide_eq_false hk] at hsm
        have HK := Lib.hid hk
        clear hk
        go_wp2_with fail
        go_quiet (fail)
        have b3 : Below wr.heap.size wr (wr.drewN nq) := ⟨rfl, rfl, rfl, Nat.le_refl _, fun _ _ => rfl⟩
        go_wp2
        go_roundw
        case rel => exact ⟨i + 1, by omega, by go_num, Lib.hid (fun j hj e' he' => by
          by_cases e2 : j = i
          · subst e2; rw [HE.out] at he'; injection he' with he'; subst he'; exact HK.out
          · exact HN.out j (by omega) e' he'), Lib.hid (HW.out.trans (b3.mono HW.out.size))⟩
        case measure => simp [intOf]; omega
    · have HF := Lib.hid (Cr.fix_no (k := k) (l := l) fun j e he => HN.out j (by have := (List.getElem?_eq_some_iff.1 he).1; have := HL.out; omega) e he)
      have i1 : ¬ ((i : Int) < (n : Int)) := by omega
      go_wp2
      go_ret
      exact ⟨by unfold fxi; rw [HF.out]; rfl, HB.out.trans (HW.out.mono HB.out.size)⟩
set_option maxHeartbeats 2000000 in
theorem rget_any {w : World} {A : Option Addr} {n c : Nat} {l : List Lf} (hr : Shp.Row eS w A n l) (hU : Cr.Up l) (hn : n ≤ 1000000) (k : D.Ky) :
    Calls Try.prog 13 #[.slice A n c, .agg (rS.v (D.toR k))] w fun e w' => e = .returned (.tuple #[.int .i64 (got k l), .bool (Cr.has k l)]) ∧ Below w.heap.size w w' := by
  have hlen := hr.len
  have q0 := Shp.rd_new (S := rS) w w.heap.size 40 (D.toR k) rfl
  have b0 := below_alloc_ w (.cells (rS.v (D.toR k)) 40)
  obtain ⟨w0, hw0⟩ : ∃ w0, w.alloc (.cells (rS.v (D.toR k)) 40) = w0 := ⟨_, rfl⟩
  rw [hw0] at q0 b0
  have CF := Lib.hid (find_any (c := c) (hr.on b0) hn k)
  have HR := Lib.hid (hr.on b0)
  have HB := Lib.hid b0
  clear hr b0
  cases hf : Cr.fix k l with
  | none =>
    have e1 : fxi k l = -1 := by unfold fxi; rw [hf]
    have e2 : Cr.has k l = false := by rw [← Cr.fix_has, hf]; rfl
    have e3 : got k l = 0 := by unfold got; rw [Cr.get_none e2]; rfl
    rw [e1] at CF
    rw [e2, e3]
    clear hf e1 e2 e3 hU
    go_enter Try.func13, Try.ntmps13
    go_wp2_with fail
    try rw [hw0]
    go_wp2_with (go_at_call 27; (with_reducible refine CF.out.mono ?_); rintro e w1 ⟨rfl, b1⟩; have B1 := Lib.hid (below_up HB.out HB.out.size b1); clear b1)
    exact bodyPost_ret (results_tmp2 rfl _ _ _) rfl ⟨rfl, B1.out⟩
  | some i =>
    obtain ⟨⟨v, hv⟩, _⟩ := Cr.fix_some hf
    have e1 : fxi k l = (i : Int) := by unfold fxi; rw [hf]
    have e2 : Cr.has k l = true := by rw [← Cr.fix_has, hf]; rfl
    have e3 : got k l = v := by unfold got; rw [Cr.get_at hU hv]; rfl
    rw [e1] at CF
    rw [e2, e3]
    have hi := (List.getElem?_eq_some_iff.1 hv).1
    have i0 : (0 : Int) ≤ (i : Int) := by omega
    have i1 : (i : Int) < (n : Int) := by omega
    have i2 : ¬ ((i : Int) < 0) := by omega
    have HV := Lib.hid hv
    clear hf e1 e2 e3 hU hv
    go_enter Try.func13, Try.ntmps13
    go_wp2_with fail
    try rw [hw0]
    go_wp2_with (go_at_call 27; (with_reducible refine CF.out.mono ?_); rintro e w1 ⟨rfl, b1⟩; have B1 := Lib.hid (below_up HB.out HB.out.size b1); obtain ⟨ad, hAe, hal, hrd⟩ := (HR.out.on b1).rd HV.out; subst hAe; obtain ⟨-, r1⟩ := er hrd; clear b1 hrd)
    exact bodyPost_ret (results_tmp2 rfl _ _ _) rfl ⟨rfl, B1.out⟩
end Go.Proofs.Ytkhjnfplcaffnaa
