/-
  Less, of keys; the document's Less and Same, of bytes.
-/
import Derived.Test.YtkhjnfplcaffnaaKbt
import Derived.Test.YtkhjnfplcaffnaaCmq
set_option linter.unusedVariables false
set_option linter.unusedSimpArgs false
set_option maxRecDepth 100000
namespace Go.Proofs.Ytkhjnfplcaffnaa
open Go.RowKit
theorem Shp.rd_extk {α : Type} {S : Shp α} (w : World) (p : On) (a : Addr) (h : a.block < w.heap.size) : S.rd (ext w p) a = S.rd w a := Shp.rd_to (ext_heap w p h)
attribute [local go_sem ↓] Go.wp_at_zero Go.wp_at_succ ld_k lv_k st_k eq_k ne_k bd_k ld_b lv_b st_b eq_b ne_b bd_25 ld_r lv_r st_rk eq_rk ne_rk bd_r ld_p lv_p st_px bd_p Nm.ld_a Nm.ld_n Nm.st_a Nm.st_n Nm.eq_a Nm.eq_n Nm.ne_a Nm.ne_n Nm.lv_a Nm.lv_n ld_a ld_n st_a st_n eq_a eq_n ne_a ne_n lv_a lv_n
attribute [local go_sem] run_ldk run_lvk run_stk run_eqk run_nek run_bdk_z run_ldb run_lvb run_stb run_eqb run_neb run_ldr run_lvr run_strk run_eqrk run_nerk run_bdr_z run_ldp run_lvp run_stpx Nm.run_ld_a Nm.run_ld_n Nm.run_st_n Nm.run_eq_a Nm.run_eq_n Nm.run_ne_a Nm.run_ne_n Nm.run_lv_a Nm.run_lv_n Nm.rd_new Nm.rd_old Nm.rd_drew Nm.rd_drewN run_ld_a run_ld_n run_sw_a run_sw_n run_eq_a run_eq_n run_ne_a run_ne_n run_lv_a run_lv_n st_z ne_z eq_z rd_new rd_old rd_drew rd_drewN Shp.rd_new Shp.rd_old Shp.rd_drew Shp.rd_drewN Shp.rd_set Shp.tn_new Shp.tn_old Shp.tn_drew Shp.tn_drewN tn_new tn_old tn_drew tn_drewN rd_set setRow_alloc run_stn3 run_stt15 Shp.rd_extk cell_ext

section
variable {P : Program} {ops : Array Oper} {Q : Exit → Act → World → Prop} {md : Region.Mode} {S : World → Prop}
theorem fork3 (i j k : Nat) {fuel : Nat} {listed : Array Bool} {a : Act} {w : World} (hr : Region.ready md ops listed = [i, j, k])
    (hwi : (ops[i]?).map (fun o => Region.wanted o (yielded ops a.tmps)) = some true) (hwj : (ops[j]?).map (fun o => Region.wanted o (yielded ops a.tmps)) = some true) (hwk : (ops[k]?).map (fun o => Region.wanted o (yielded ops a.tmps)) = some true)
    (hi : ∀ o, ops[i]? = some o → ∀ K : Act → World → Prop, Shut (∀ a w, S w → (S w → wpAnyH P md ops Q S fuel (listed.setIfInBounds i true) a w) → K a w) → Oper.wp P o a w K Q)
    (hj : ∀ o, ops[j]? = some o → ∀ K : Act → World → Prop, Shut (∀ a w, S w → (S w → wpAnyH P md ops Q S fuel (listed.setIfInBounds j true) a w) → K a w) → Oper.wp P o a w K Q)
    (hk : ∀ o, ops[k]? = some o → ∀ K : Act → World → Prop, Shut (∀ a w, S w → (S w → wpAnyH P md ops Q S fuel (listed.setIfInBounds k true) a w) → K a w) → Oper.wp P o a w K Q) : wpAnyH P md ops Q S (fuel + 1) listed a w := by
  cases ho : ops[i]? with
  | none => rw [ho] at hwi; cases hwi
  | some o =>
    cases hp : ops[j]? with
    | none => rw [hp] at hwj; cases hwj
    | some p =>
      cases hq : ops[k]? with
      | none => rw [hq] at hwk; cases hwk
      | some q =>
        rw [ho] at hwi
        rw [hp] at hwj
        rw [hq] at hwk
        simp only [Option.map_some, Option.some.injEq] at hwi hwj hwk
        refine wpAnyH_ready hr (by simp) (AllReadyH.cons ho (fun K hK => ?_) (AllReadyH.cons hp (fun K hK => ?_) (AllReadyH.cons hq (fun K hK => ?_) AllReadyH.nil)))
        · rw [if_pos hwi]; exact hi o ho K hK
        · rw [if_pos hwj]; exact hj p hp K hK
        · rw [if_pos hwk]; exact hk q hq K hK
end

def D.less (l k : List Nat) : Bool := decide (D.cmp l k = -1)
def D.same (l k : List Nat) : Bool := !D.less l k && !D.less k l
theorem cmp_nil_l : ∀ b, D.cmp [] b = if b = [] then 0 else -1
  | [] => rfl
  | _ :: _ => rfl
theorem cmp_nil_r : ∀ a, D.cmp a [] = if a = [] then 0 else 1
  | [] => rfl
  | _ :: _ => rfl
theorem cmp_three : ∀ a b, D.cmp a b = -1 ∨ D.cmp a b = 0 ∨ D.cmp a b = 1
  | [], [] => .inr (.inl rfl)
  | [], _ :: _ => .inl rfl
  | _ :: _, [] => .inr (.inr rfl)
  | x :: a, y :: b => by
    rw [D.cmp]
    split
    · exact cmp_three a b
    · split
      · exact .inl rfl
      · exact .inr (.inr rfl)
theorem cmp_same : ∀ a, D.cmp a a = 0
  | [] => rfl
  | x :: a => by rw [D.cmp, if_pos rfl, cmp_same a]
theorem less_cmp (l k : List Nat) : D.less l k = decide (D.cmp l k < 0) := by
  unfold D.less
  rw [decide_eq_decide]
  have := cmp_three l k
  omega
theorem same_iff : ∀ l k, D.same l k = decide (l = k) := by
  have h : ∀ l k, (D.cmp l k = -1 ∨ D.cmp k l = -1) ∨ l = k := by
    intro l
    induction l with
    | nil => intro k; cases k with
      | nil => exact .inr rfl
      | cons y k => exact .inl (.inl rfl)
    | cons x l ih => intro k; cases k with
      | nil => exact .inl (.inr rfl)
      | cons y k =>
        rw [D.cmp, D.cmp]
        by_cases e : x = y
        · subst e
          rw [if_pos rfl, if_pos rfl]
          rcases ih k with h | h
          · exact .inl h
          · exact .inr (by rw [h])
        · rw [if_neg e, if_neg (Ne.symm e)]
          by_cases h : x < y
          · exact .inl (.inl (by rw [if_pos h]))
          · exact .inl (.inr (by rw [if_pos (by omega)]))
  intro l k
  unfold D.same D.less
  rcases h l k with (h | h) | h
  · have : l ≠ k := fun e => by subst e; rw [cmp_same] at h; cases h
    simp [h, this]
  · have : l ≠ k := fun e => by subst e; rw [cmp_same] at h; cases h
    simp [h, this]
  · subst h; simp [cmp_same]
theorem at_ltk {l : List Nat} {i : Nat} (h : i < l.length) : ∃ x, l[i]? = some x ∧ True := ⟨l[i], List.getElem?_eq_getElem h, trivial⟩
theorem bool_ofk {a b : Bool} (h : a = b) : Ending.returned (.bool a) = .returned (.bool b) := by rw [h]
theorem krow_rd {w : World} {g : Nat} {x : D.Ky} (h : kS.rd w ⟨g, 0, none⟩ = some x) : Row w (some ⟨g, 0, none⟩) 25 (bys x.l) := ⟨by rw [bys_len, x.len], fun _ => ⟨_, rfl, Shp.rd_lt h, Shp.at_of h⟩⟩

theorem kdrop_at {l : List Nat} {j x : Nat} (h : l[j]? = some x) : l.drop j = x :: l.drop (j + 1) := by
  obtain ⟨h1, h2⟩ := List.getElem?_eq_some_iff.1 h
  rw [List.drop_eq_getElem_cons h1, h2]

/-- So far the two rows are the same. -/
structure Like (l k : List Nat) (j : Nat) : Prop where
  out : D.cmp (l.drop j) (k.drop j) = D.cmp l k
theorem like_first (l k : List Nat) : Like l k 0 := ⟨rfl⟩
theorem like_next {l k : List Nat} {j x y : Nat} (h : Like l k j) (hx : l[j]? = some x) (hy : k[j]? = some y) (e : x = y) : Like l k (j + 1) := by
  refine ⟨?_⟩
  rw [← h.out, kdrop_at hx, kdrop_at hy, D.cmp, if_pos e]
theorem like_end {l k : List Nat} {j x y : Nat} {r : Bool} (h : Like l k j) (hx : l[j]? = some x) (hy : k[j]? = some y) (e : x ≠ y) (hr : Kept (D.less l k = r)) : decide (x < y) = r := by
  rw [← hr.out, D.less, ← h.out, kdrop_at hx, kdrop_at hy, D.cmp, if_neg e, decide_eq_decide]
  split <;> simp <;> omega
theorem like_left {l k : List Nat} {j : Nat} {r : Bool} (h : Like l k j) (hl : l.length ≤ j) (hk : j < k.length) (hr : Kept (D.less l k = r)) : true = r := by
  rw [← hr.out, D.less, ← h.out, List.drop_of_length_le hl, cmp_nil_l, if_neg (by simp; omega)]; rfl
theorem like_right {l k : List Nat} {j : Nat} {r : Bool} (h : Like l k j) (hk : k.length ≤ j) (hr : Kept (D.less l k = r)) : false = r := by
  rw [← hr.out, D.less, ← h.out, List.drop_of_length_le hk, cmp_nil_r]
  split <;> rfl

end Go.Proofs.Ytkhjnfplcaffnaa
