/-
  Less, of keys; the document's Less and Same, of bytes.
-/
import Derived.Test.YtphbjkcplpfogaaKbt
import Derived.Test.YtphbjkcplpfogaaCmq
set_option linter.unusedVariables false
set_option linter.unusedSimpArgs false
set_option maxRecDepth 100000
namespace Go.Proofs.Ytphbjkcplpfogaa
open Go.RowKit
theorem Shp.rd_extk {α : Type} {S : Shp α} (w : World) (p : On) (a : Addr) (h : a.block < w.heap.size) : S.rd (ext w p) a = S.rd w a := Shp.rd_to (ext_heap w p h)
attribute [local go_sem ↓] Go.wp_at_zero Go.wp_at_succ ld_k lv_k st_k eq_k ne_k bd_k ld_b lv_b st_b eq_b ne_b bd_25 ld_r lv_r st_rk eq_rk ne_rk bd_r ld_p lv_p st_px bd_p Nm.ld_a Nm.ld_n Nm.st_a Nm.st_n Nm.eq_a Nm.eq_n Nm.ne_a Nm.ne_n Nm.lv_a Nm.lv_n ld_a ld_n st_a st_n eq_a eq_n ne_a ne_n lv_a lv_n
attribute [local go_sem] run_ldk run_lvk run_stk run_eqk run_nek run_bdk_z run_ldb run_lvb run_stb run_eqb run_neb run_ldr run_lvr run_strk run_eqrk run_nerk run_bdr_z run_ldp run_lvp run_stpx Nm.run_ld_a Nm.run_ld_n Nm.run_st_n Nm.run_eq_a Nm.run_eq_n Nm.run_ne_a Nm.run_ne_n Nm.run_lv_a Nm.run_lv_n Nm.rd_new Nm.rd_old Nm.rd_drew Nm.rd_drewN run_ld_a run_ld_n run_sw_a run_sw_n run_eq_a run_eq_n run_ne_a run_ne_n run_lv_a run_lv_n st_z ne_z eq_z rd_new rd_old rd_drew rd_drewN Shp.rd_new Shp.rd_old Shp.rd_drew Shp.rd_drewN Shp.rd_set Shp.tn_new Shp.tn_old Shp.tn_drew Shp.tn_drewN tn_new tn_old tn_drew tn_drewN rd_set setRow_alloc run_stn3 run_stt15 Shp.rd_extk cell_ext

section
variable {P : Program} {ops : Array Oper} {Q : Exit → Act → World → Prop} {md : Region.Mode} {S : World → Prop}
theorem fork3 (i j k : Nat) {fuel : Nat} {listed : Array Bool} {a : Act} {w : World} (hr : Region.ready md ops listed = [i, j, k])
    (hwi : (ops[i]?).map (fun o => Region.wanted o (yielded ops a.tmps)) = some true) (hwj : (ops[j]?).map (fun o => Region.wanted o (yielded ops a.tmps)) = some true) (hwk : (ops[k]?).map (fun o => Region.wanted o (yielded ops a.tmps)) = some true)
    (hi : ∀ o, ops[i]? = some o → ∀ K : Act → World → Prop, Shut (∀ a w, S w → (S w → wpAnyH P md ops Q S fuel (listed.setIfInBounds i true) a w) → K a w) → Oper.wp P o a w K Q)
    (hj : ∀ o, ops[j]? = some o → ∀ K : Act → World → Prop, Shut (∀ a w, S w → (S w → wpAnyH P md ops Q S fuel (listed.setIfInBounds j true) a w) → K a w) → Oper.wp P o a w K Q)
    (hk : ∀ o, ops[k]? = some o → ∀ K : Act → World → Prop, Shut (∀ a w, S w → (S w → wpAnyH P md ops Q S fuel (listed.setIfInBounds k true) a w) → K a w) → Oper.wp P o a w K Q) : wpAnyH P md ops Q S (fuel + 1) listed a w := by
  cases ho : ops[i]? with
  | none => rw [ho] at hwi; cases hwi
  | some o =>
    cases hp : ops[j]? with
    | none => rw [hp] at hwj; cases hwj
    | some p =>
      cases hq : ops[k]? with
      | none => rw [hq] at hwk; cases hwk
      | some q =>
        rw [ho] at hwi
        rw [hp] at hwj
        rw [hq] at hwk
        simp only [Option.map_some, Option.some.injEq] at hwi hwj hwk
        refine wpAnyH_ready hr (by simp) (AllReadyH.cons ho (fun K hK => ?_) (AllReadyH.cons hp (fun K hK => ?_) (AllReadyH.cons hq (fun K hK => ?_) AllReadyH.nil)))
        · rw [if_pos hwi]; exact hi o ho K hK
        · rw [if_pos hwj]; exact hj p hp K hK
        · rw [if_pos hwk]; exact hk q hq K hK
end

def D.less (l k : List Nat) : Bool := decide (D.cmp l k = -1)
def D.same (l k : List Nat) : Bool := !D.less l k && !D.less k l
theorem cmp_nil_l : ∀ b, D.cmp [] b = if b = [] then 0 else -1
  | [] => rfl
  | _ :: _ => rfl
theorem cmp_nil_r : ∀ a, D.cmp a [] = if a = [] then 0 else 1
  | [] => rfl
  | _ :: _ => rfl
theorem cmp_three : ∀ a b, D.cmp a b = -1 ∨ D.cmp a b = 0 ∨ D.cmp a b = 1
  | [], [] => .inr (.inl rfl)
  | [], _ :: _ => .inl rfl
  | _ :: _, [] => .inr (.inr rfl)
  | x :: a, y :: b => by
    rw [D.cmp]
    split
    · exact cmp_three a b
    · split
      · exact .inl rfl
      · exact .inr (.inr rfl)
theorem cmp_same : ∀ a, D.cmp a a = 0
  | [] => rfl
  | x :: a => by rw [D.cmp, if_pos rfl, cmp_same a]
theorem less_cmp (l k : List Nat) : D.less l k = decide (D.cmp l k < 0) := by
  unfold D.less
  rw [decide_eq_decide]
  have := cmp_three l k
  omega
theorem same_iff : ∀ l k, D.same l k = decide (l = k) := by
  have h : ∀ l k, (D.cmp l k = -1 ∨ D.cmp k l = -1) ∨ l = k := by
    intro l
    induction l with
    | nil => intro k; cases k with
      | nil => exact .inr rfl
      | cons y k => exact .inl (.inl rfl)
    | cons x l ih => intro k; cases k with
      | nil => exact .inl (.inr rfl)
      | cons y k =>
        rw [D.cmp, D.cmp]
        by_cases e : x = y
        · subst e
          rw [if_pos rfl, if_pos rfl]
          rcases ih k with h | h
          · exact .inl h
          · exact .inr (by rw [h])
        · rw [if_neg e, if_neg (Ne.symm e)]
          by_cases h : x < y
          · exact .inl (.inl (by rw [if_pos h]))
          · exact .inl (.inr (by rw [if_pos (by omega)]))
  intro l k
  unfold D.same D.less
  rcases h l k with (h | h) | h
  · have : l ≠ k := fun e => by subst e; rw [cmp_same] at h; cases h
    simp [h, this]
  · have : l ≠ k := fun e => by subst e; rw [cmp_same] at h; cases h
    simp [h, this]
  · subst h; simp [cmp_same]
theorem at_ltk {l : List Nat} {i : Nat} (h : i < l.length) : ∃ x, l[i]? = some x ∧ True := ⟨l[i], List.getElem?_eq_getElem h, trivial⟩
theorem bool_ofk {a b : Bool} (h : a = b) : Ending.returned (.bool a) = .returned (.bool b) := by rw [h]
theorem krow_rd {w : World} {g : Nat} {x : D.Ky} (h : kS.rd w ⟨g, 0, none⟩ = some x) : Row w (some ⟨g, 0, none⟩) 25 (bys x.l) := ⟨by rw [bys_len, x.len], fun _ => ⟨_, rfl, Shp.rd_lt h, Shp.at_of h⟩⟩

theorem kdrop_at {l : List Nat} {j x : Nat} (h : l[j]? = some x) : l.drop j = x :: l.drop (j + 1) := by
  obtain ⟨h1, h2⟩ := List.getElem?_eq_some_iff.1 h
  rw [List.drop_eq_getElem_cons h1, h2]

/-- So far the two rows are the same. -/
structure Like (l k : List Nat) (j : Nat) : Prop where
  out : D.cmp (l.drop j) (k.drop j) = D.cmp l k
theorem like_first (l k : List Nat) : Like l k 0 := ⟨rfl⟩
theorem like_next {l k : List Nat} {j x y : Nat} (h : Like l k j) (hx : l[j]? = some x) (hy : k[j]? = some y) (e : x = y) : Like l k (j + 1) := by
  refine ⟨?_⟩
  rw [← h.out, kdrop_at hx, kdrop_at hy, D.cmp, if_pos e]
theorem like_end {l k : List Nat} {j x y : Nat} {r : Bool} (h : Like l k j) (hx : l[j]? = some x) (hy : k[j]? = some y) (e : x ≠ y) (hr : Kept (D.less l k = r)) : decide (x < y) = r := by
  rw [← hr.out, D.less, ← h.out, kdrop_at hx, kdrop_at hy, D.cmp, if_neg e, decide_eq_decide]
  split <;> simp <;> omega
theorem like_left {l k : List Nat} {j : Nat} {r : Bool} (h : Like l k j) (hl : l.length ≤ j) (hk : j < k.length) (hr : Kept (D.less l k = r)) : true = r := by
  rw [← hr.out, D.less, ← h.out, List.drop_of_length_le hl, cmp_nil_l, if_neg (by simp; omega)]; rfl
theorem like_right {l k : List Nat} {j : Nat} {r : Bool} (h : Like l k j) (hk : k.length ≤ j) (hr : Kept (D.less l k = r)) : false = r := by
  rw [← hr.out, D.less, ← h.out, List.drop_of_length_le hk, cmp_nil_r]
  split <;> rfl

set_option maxHeartbeats 16000000 in
theorem kless_any (a b : D.Ky) (w : World) : Calls Try.prog 29 #[.agg (kS.v a), .agg (kS.v b)] w fun e w' => e = .returned (.bool (decide (D.cmp a.l b.l < 0))) ∧ Below w.heap.size w w' := by
  have CA := Lib.hid (kbytes_any a)
  have CB := Lib.hid (kbytes_any b)
  obtain ⟨w0, hw0⟩ : ∃ w0, (w.alloc (.cells (kS.v a) 30)).alloc (.cells (kS.v b) 30) = w0 := ⟨_, rfl⟩
  have f0 : kS.rd w0 ⟨w.heap.size, 0, none⟩ = some a := by rw [← hw0]; exact Shp.rd_on (Shp.rd_new (S := kS) w _ _ a rfl) (below_alloc_ _ _)
  have f1 : kS.rd w0 ⟨w.heap.size + 1, 0, none⟩ = some b := by rw [← hw0]; exact Shp.rd_new _ _ _ _ (by simp)
  have b0 : Below w.heap.size w w0 := by rw [← hw0]; exact (below_alloc_ _ _).alloc (by simp) _
  go_enter Try.func29, Try.ntmps29
  go_wp2_with fail
  try rw [hw0]
  clear hw0
  go_cut [5, 6] from 7 (fun s5 s6 wx => ∃ k5 k6 : Nat, s5 = .pointer (some ⟨k5, 0, none⟩) ∧ s6 = .pointer (some ⟨k6, 0, none⟩) ∧ kS.rd wx ⟨k5, 0, none⟩ = some a ∧ kS.rd wx ⟨k6, 0, none⟩ = some b ∧ Below w0.heap.size w0 wx)
  case first =>
    refine wp_region_noPanic ?_
    refine wp_region_held_drew (S := fun W => Below w0.heap.size w0 W) (by kernel_rfl) (Below.refl _ _).drew (fun _ => ?_)
    obtain ⟨wd, hwd⟩ : ∃ wd, w0.drew = wd := ⟨_, rfl⟩
    have sd : Below w0.heap.size w0 wd := by rw [← hwd]; exact (Below.refl _ _).drew
    rw [hwd]
    clear hwd
    refine takeS 0 (some 7) ?vr0 (by kernel_rfl) (by kernel_rfl) (by kernel_rfl) (by kernel_rfl) (fun _ _ _ h => h) (by rfl) ?hyr0 sd ?restr0
    case hyr0 => (intro o ho W hW; simp only [List.getElem?_toArray, List.getElem?_cons_succ, List.getElem?_cons_zero, Option.some.injEq] at ho; subst ho; (try dsimp only at hW); have g := Shp.rd_on f0 hW; go_simp; try rfl)
    try simp only [Act.put, List.setIfInBounds_toArray, List.set_cons_zero, List.set_cons_succ]
    refine takeS 2 (some 9) ?vr2 (by kernel_rfl) (by kernel_rfl) (by kernel_rfl) (by kernel_rfl) (fun _ _ _ h => h) (by rfl) ?hyr2 sd ?restr2
    case hyr2 => (intro o ho W hW; simp only [List.getElem?_toArray, List.getElem?_cons_succ, List.getElem?_cons_zero, Option.some.injEq] at ho; subst ho; (try dsimp only at hW); have g := Shp.rd_on f1 hW; go_simp; try rfl)
    try simp only [Act.put, List.setIfInBounds_toArray, List.set_cons_zero, List.set_cons_succ]
    refine fork3 1 4 5 (by kernel_rfl) (by rfl) (by rfl) (by rfl) (fun o ho K hK => ?_) (fun o ho K hK => ?_) (fun o ho K hK => ?_)
    · simp only [List.getElem?_toArray, List.getElem?_cons_succ, List.getElem?_cons_zero, Option.some.injEq] at ho; subst ho
      go_simp
      (go_at_call 43; (with_reducible refine (CA.out _).mono ?_); rintro e u1w ⟨rfl, b1⟩)
      have s1 : Below w0.heap.size w0 u1w := below_up sd sd.size b1
      refine hK.out _ _ s1 (fun _ => ?_)
      clear hK K
      try simp only [Act.put, List.setIfInBounds_toArray, List.set_cons_zero, List.set_cons_succ]
      refine fork3 3 4 5 (by kernel_rfl) (by rfl) (by rfl) (by rfl) (fun o ho K hK => ?_) (fun o ho K hK => ?_) (fun o ho K hK => ?_)
      · simp only [List.getElem?_toArray, List.getElem?_cons_succ, List.getElem?_cons_zero, Option.some.injEq] at ho; subst ho
        go_simp
        (go_at_call 43; (with_reducible refine (CB.out _).mono ?_); rintro e u2w ⟨rfl, b2⟩)
        have s2 : Below w0.heap.size w0 u2w := below_up s1 s1.size b2
        refine hK.out _ _ s2 (fun _ => ?_)
        clear hK K
        try simp only [Act.put, List.setIfInBounds_toArray, List.set_cons_zero, List.set_cons_succ]
        refine forkS 4 5 (by kernel_rfl) (by rfl) (by rfl) (fun o ho K hK => ?_) (fun o ho K hK => ?_)
        · simp only [List.getElem?_toArray, List.getElem?_cons_succ, List.getElem?_cons_zero, Option.some.injEq] at ho; subst ho
          go_simp
          have s3 : Below w0.heap.size w0 (u2w.alloc (.cells #[.int .u8 0, .int .u8 0, .int .u8 0, .int .u8 0, .int .u8 0, .int .u8 0, .int .u8 0, .int .u8 0, .int .u8 0, .int .u8 0, .int .u8 0, .int .u8 0, .int .u8 0, .int .u8 0, .int .u8 0, .int .u8 0, .int .u8 0, .int .u8 0, .int .u8 0, .int .u8 0, .int .u8 0, .int .u8 0, .int .u8 0, .int .u8 0, .int .u8 0] 104)) := s2.alloc s2.size _
          have q3 : Shp.tn 25 (u2w.alloc (.cells #[.int .u8 0, .int .u8 0, .int .u8 0, .int .u8 0, .int .u8 0, .int .u8 0, .int .u8 0, .int .u8 0, .int .u8 0, .int .u8 0, .int .u8 0, .int .u8 0, .int .u8 0, .int .u8 0, .int .u8 0, .int .u8 0, .int .u8 0, .int .u8 0, .int .u8 0, .int .u8 0, .int .u8 0, .int .u8 0, .int .u8 0, .int .u8 0, .int .u8 0] 104)) u2w.heap.size = true := Shp.tn_of (Blk.new u2w _ _) rfl
          refine hK.out _ _ s3 (fun _ => ?_)
          clear hK K
          try simp only [Act.put, List.setIfInBounds_toArray, List.set_cons_zero, List.set_cons_succ]
          obtain ⟨u3w, hu3w⟩ : ∃ V, u2w.alloc (.cells #[.int .u8 0, .int .u8 0, .int .u8 0, .int .u8 0, .int .u8 0, .int .u8 0, .int .u8 0, .int .u8 0, .int .u8 0, .int .u8 0, .int .u8 0, .int .u8 0, .int .u8 0, .int .u8 0, .int .u8 0, .int .u8 0, .int .u8 0, .int .u8 0, .int .u8 0, .int .u8 0, .int .u8 0, .int .u8 0, .int .u8 0, .int .u8 0, .int .u8 0] 104) = V := ⟨_, rfl⟩
          rw [hu3w] at s3 q3
          rw [hu3w]
          clear hu3w
          refine nextS 5 (by kernel_rfl) (by rfl) (fun o ho K hK => ?_)
          simp only [List.getElem?_toArray, List.getElem?_cons_succ, List.getElem?_cons_zero, Option.some.injEq] at ho; subst ho
          go_simp
          have s4 : Below w0.heap.size w0 (u3w.alloc (.cells #[.int .u8 0, .int .u8 0, .int .u8 0, .int .u8 0, .int .u8 0, .int .u8 0, .int .u8 0, .int .u8 0, .int .u8 0, .int .u8 0, .int .u8 0, .int .u8 0, .int .u8 0, .int .u8 0, .int .u8 0, .int .u8 0, .int .u8 0, .int .u8 0, .int .u8 0, .int .u8 0, .int .u8 0, .int .u8 0, .int .u8 0, .int .u8 0, .int .u8 0] 104)) := s3.alloc s3.size _
          have q4 : Shp.tn 25 (u3w.alloc (.cells #[.int .u8 0, .int .u8 0, .int .u8 0, .int .u8 0, .int .u8 0, .int .u8 0, .int .u8 0, .int .u8 0, .int .u8 0, .int .u8 0, .int .u8 0, .int .u8 0, .int .u8 0, .int .u8 0, .int .u8 0, .int .u8 0, .int .u8 0, .int .u8 0, .int .u8 0, .int .u8 0, .int .u8 0, .int .u8 0, .int .u8 0, .int .u8 0, .int .u8 0] 104)) u3w.heap.size = true := Shp.tn_of (Blk.new u3w _ _) rfl
          have t4_4 := Shp.tn_on q3 (below_alloc_ u3w (.cells #[.int .u8 0, .int .u8 0, .int .u8 0, .int .u8 0, .int .u8 0, .int .u8 0, .int .u8 0, .int .u8 0, .int .u8 0, .int .u8 0, .int .u8 0, .int .u8 0, .int .u8 0, .int .u8 0, .int .u8 0, .int .u8 0, .int .u8 0, .int .u8 0, .int .u8 0, .int .u8 0, .int .u8 0, .int .u8 0, .int .u8 0, .int .u8 0, .int .u8 0] 104))
          have ne : u2w.heap.size ≠ u3w.heap.size := Nat.ne_of_lt (Shp.tn_lt q3)
          refine hK.out _ _ s4 (fun _ => ?_)
          clear hK K
          try simp only [Act.put, List.setIfInBounds_toArray, List.set_cons_zero, List.set_cons_succ]
          obtain ⟨u4w, hu4w⟩ : ∃ V, u3w.alloc (.cells #[.int .u8 0, .int .u8 0, .int .u8 0, .int .u8 0, .int .u8 0, .int .u8 0, .int .u8 0, .int .u8 0, .int .u8 0, .int .u8 0, .int .u8 0, .int .u8 0, .int .u8 0, .int .u8 0, .int .u8 0, .int .u8 0, .int .u8 0, .int .u8 0, .int .u8 0, .int .u8 0, .int .u8 0, .int .u8 0, .int .u8 0, .int .u8 0, .int .u8 0] 104) = V := ⟨_, rfl⟩
          rw [hu4w] at s4 q4 t4_4
          rw [hu4w]
          clear hu4w
          have t6 : Shp.tn 25 (u4w.setRow (u2w.heap.size) (kS.v a)) (u3w.heap.size) = true := Shp.tn_setRow (u2w.heap.size) (kS.v_size a) q4
          refine nextS 6 (by kernel_rfl) (by rfl) (fun o ho K hK => ?_)
          simp only [List.getElem?_toArray, List.getElem?_cons_succ, List.getElem?_cons_zero, Option.some.injEq] at ho; subst ho
          go_simp
          have s6 : Below w0.heap.size w0 (u4w.setRow (u2w.heap.size) (kS.v a)) := below_setRow s4 s2.size _
          refine hK.out _ _ s6 (fun _ => ?_)
          clear hK K
          try simp only [Act.put, List.setIfInBounds_toArray, List.set_cons_zero, List.set_cons_succ]
          refine nextS 7 (by kernel_rfl) (by rfl) (fun o ho K hK => ?_)
          simp only [List.getElem?_toArray, List.getElem?_cons_succ, List.getElem?_cons_zero, Option.some.injEq] at ho; subst ho
          go_simp
          have s7 : Below w0.heap.size w0 ((u4w.setRow (u2w.heap.size) (kS.v a)).setRow (u3w.heap.size) (kS.v b)) := below_setRow s6 s3.size _
          refine hK.out _ _ s7 (fun _ => ?_)
          clear hK K
          try simp only [Act.put, List.setIfInBounds_toArray, List.set_cons_zero, List.set_cons_succ]
          refine wpAnyH_done (by kernel_rfl) ?_ _
          refine NoPanic.normal ?_
          have RB := Shp.rd_set (S := kS) (u4w.setRow (u2w.heap.size) (kS.v a)) (u3w.heap.size) b t6
          have RA : kS.rd ((u4w.setRow (u2w.heap.size) (kS.v a)).setRow (u3w.heap.size) (kS.v b)) ⟨u2w.heap.size, 0, none⟩ = some a := by rw [Shp.rd_far _ _ _ _ ne]; exact Shp.rd_set (S := kS) _ _ _ t4_4
          go_wp2_with fail
          go_meet
          exact ⟨_, _, rfl, rfl, RA, RB, s7⟩
        · simp only [List.getElem?_toArray, List.getElem?_cons_succ, List.getElem?_cons_zero, Option.some.injEq] at ho; subst ho
          go_simp
          have s5 : Below w0.heap.size w0 (u2w.alloc (.cells #[.int .u8 0, .int .u8 0, .int .u8 0, .int .u8 0, .int .u8 0, .int .u8 0, .int .u8 0, .int .u8 0, .int .u8 0, .int .u8 0, .int .u8 0, .int .u8 0, .int .u8 0, .int .u8 0, .int .u8 0, .int .u8 0, .int .u8 0, .int .u8 0, .int .u8 0, .int .u8 0, .int .u8 0, .int .u8 0, .int .u8 0, .int .u8 0, .int .u8 0] 104)) := s2.alloc s2.size _
          have q5 : Shp.tn 25 (u2w.alloc (.cells #[.int .u8 0, .int .u8 0, .int .u8 0, .int .u8 0, .int .u8 0, .int .u8 0, .int .u8 0, .int .u8 0, .int .u8 0, .int .u8 0, .int .u8 0, .int .u8 0, .int .u8 0, .int .u8 0, .int .u8 0, .int .u8 0, .int .u8 0, .int .u8 0, .int .u8 0, .int .u8 0, .int .u8 0, .int .u8 0, .int .u8 0, .int .u8 0, .int .u8 0] 104)) u2w.heap.size = true := Shp.tn_of (Blk.new u2w _ _) rfl
          refine hK.out _ _ s5 (fun _ => ?_)
          clear hK K
          try simp only [Act.put, List.setIfInBounds_toArray, List.set_cons_zero, List.set_cons_succ]
          obtain ⟨u5w, hu5w⟩ : ∃ V, u2w.alloc (.cells #[.int .u8 0, .int .u8 0, .int .u8 0, .int .u8 0, .int .u8 0, .int .u8 0, .int .u8 0, .int .u8 0, .int .u8 0, .int .u8 0, .int .u8 0, .int .u8 0, .int .u8 0, .int .u8 0, .int .u8 0, .int .u8 0, .int .u8 0, .int .u8 0, .int .u8 0, .int .u8 0, .int .u8 0, .int .u8 0, .int .u8 0, .int .u8 0, .int .u8 0] 104) = V := ⟨_, rfl⟩
          rw [hu5w] at s5 q5
          rw [hu5w]
          clear hu5w
          refine nextS 4 (by kernel_rfl) (by rfl) (fun o ho K hK => ?_)
          simp only [List.getElem?_toArray, List.getElem?_cons_succ, List.getElem?_cons_zero, Option.some.injEq] at ho; subst ho
          go_simp
          have s6 : Below w0.heap.size w0 (u5w.alloc (.cells #[.int .u8 0, .int .u8 0, .int .u8 0, .int .u8 0, .int .u8 0, .int .u8 0, .int .u8 0, .int .u8 0, .int .u8 0, .int .u8 0, .int .u8 0, .int .u8 0, .int .u8 0, .int .u8 0, .int .u8 0, .int .u8 0, .int .u8 0, .int .u8 0, .int .u8 0, .int .u8 0, .int .u8 0, .int .u8 0, .int .u8 0, .int .u8 0, .int .u8 0] 104)) := s5.alloc s5.size _
          have q6 : Shp.tn 25 (u5w.alloc (.cells #[.int .u8 0, .int .u8 0, .int .u8 0, .int .u8 0, .int .u8 0, .int .u8 0, .int .u8 0, .int .u8 0, .int .u8 0, .int .u8 0, .int .u8 0, .int .u8 0, .int .u8 0, .int .u8 0, .int .u8 0, .int .u8 0, .int .u8 0, .int .u8 0, .int .u8 0, .int .u8 0, .int .u8 0, .int .u8 0, .int .u8 0, .int .u8 0, .int .u8 0] 104)) u5w.heap.size = true := Shp.tn_of (Blk.new u5w _ _) rfl
          have t5_6 := Shp.tn_on q5 (below_alloc_ u5w (.cells #[.int .u8 0, .int .u8 0, .int .u8 0, .int .u8 0, .int .u8 0, .int .u8 0, .int .u8 0, .int .u8 0, .int .u8 0, .int .u8 0, .int .u8 0, .int .u8 0, .int .u8 0, .int .u8 0, .int .u8 0, .int .u8 0, .int .u8 0, .int .u8 0, .int .u8 0, .int .u8 0, .int .u8 0, .int .u8 0, .int .u8 0, .int .u8 0, .int .u8 0] 104))
          have ne : u5w.heap.size ≠ u2w.heap.size := Nat.ne_of_gt (Shp.tn_lt q5)
          refine hK.out _ _ s6 (fun _ => ?_)
          clear hK K
          try simp only [Act.put, List.setIfInBounds_toArray, List.set_cons_zero, List.set_cons_succ]
          obtain ⟨u6w, hu6w⟩ : ∃ V, u5w.alloc (.cells #[.int .u8 0, .int .u8 0, .int .u8 0, .int .u8 0, .int .u8 0, .int .u8 0, .int .u8 0, .int .u8 0, .int .u8 0, .int .u8 0, .int .u8 0, .int .u8 0, .int .u8 0, .int .u8 0, .int .u8 0, .int .u8 0, .int .u8 0, .int .u8 0, .int .u8 0, .int .u8 0, .int .u8 0, .int .u8 0, .int .u8 0, .int .u8 0, .int .u8 0] 104) = V := ⟨_, rfl⟩
          rw [hu6w] at s6 q6 t5_6
          rw [hu6w]
          clear hu6w
          have t6 : Shp.tn 25 (u6w.setRow (u5w.heap.size) (kS.v a)) (u2w.heap.size) = true := Shp.tn_setRow (u5w.heap.size) (kS.v_size a) t5_6
          refine nextS 6 (by kernel_rfl) (by rfl) (fun o ho K hK => ?_)
          simp only [List.getElem?_toArray, List.getElem?_cons_succ, List.getElem?_cons_zero, Option.some.injEq] at ho; subst ho
          go_simp
          have s6 : Below w0.heap.size w0 (u6w.setRow (u5w.heap.size) (kS.v a)) := below_setRow s6 s5.size _
          refine hK.out _ _ s6 (fun _ => ?_)
          clear hK K
          try simp only [Act.put, List.setIfInBounds_toArray, List.set_cons_zero, List.set_cons_succ]
          refine nextS 7 (by kernel_rfl) (by rfl) (fun o ho K hK => ?_)
          simp only [List.getElem?_toArray, List.getElem?_cons_succ, List.getElem?_cons_zero, Option.some.injEq] at ho; subst ho
          go_simp
          have s7 : Below w0.heap.size w0 ((u6w.setRow (u5w.heap.size) (kS.v a)).setRow (u2w.heap.size) (kS.v b)) := below_setRow s6 s2.size _
          refine hK.out _ _ s7 (fun _ => ?_)
          clear hK K
          try simp only [Act.put, List.setIfInBounds_toArray, List.set_cons_zero, List.set_cons_succ]
          refine wpAnyH_done (by kernel_rfl) ?_ _
          refine NoPanic.normal ?_
          have RB := Shp.rd_set (S := kS) (u6w.setRow (u5w.heap.size) (kS.v a)) (u2w.heap.size) b t6
          have RA : kS.rd ((u6w.setRow (u5w.heap.size) (kS.v a)).setRow (u2w.heap.size) (kS.v b)) ⟨u5w.heap.size, 0, none⟩ = some a := by rw [Shp.rd_far _ _ _ _ ne]; exact Shp.rd_set (S := kS) _ _ _ q6
          go_wp2_with fail
          go_meet
          exact ⟨_, _, rfl, rfl, RA, RB, s7⟩
      · simp only [List.getElem?_toArray, List.getElem?_cons_succ, List.getElem?_cons_zero, Option.some.injEq] at ho; subst ho
        go_simp
        have s7 : Below w0.heap.size w0 (u1w.alloc (.cells #[.int .u8 0, .int .u8 0, .int .u8 0, .int .u8 0, .int .u8 0, .int .u8 0, .int .u8 0, .int .u8 0, .int .u8 0, .int .u8 0, .int .u8 0, .int .u8 0, .int .u8 0, .int .u8 0, .int .u8 0, .int .u8 0, .int .u8 0, .int .u8 0, .int .u8 0, .int .u8 0, .int .u8 0, .int .u8 0, .int .u8 0, .int .u8 0, .int .u8 0] 104)) := s1.alloc s1.size _
        have q7 : Shp.tn 25 (u1w.alloc (.cells #[.int .u8 0, .int .u8 0, .int .u8 0, .int .u8 0, .int .u8 0, .int .u8 0, .int .u8 0, .int .u8 0, .int .u8 0, .int .u8 0, .int .u8 0, .int .u8 0, .int .u8 0, .int .u8 0, .int .u8 0, .int .u8 0, .int .u8 0, .int .u8 0, .int .u8 0, .int .u8 0, .int .u8 0, .int .u8 0, .int .u8 0, .int .u8 0, .int .u8 0] 104)) u1w.heap.size = true := Shp.tn_of (Blk.new u1w _ _) rfl
        refine hK.out _ _ s7 (fun _ => ?_)
        clear hK K
        try simp only [Act.put, List.setIfInBounds_toArray, List.set_cons_zero, List.set_cons_succ]
        obtain ⟨u7w, hu7w⟩ : ∃ V, u1w.alloc (.cells #[.int .u8 0, .int .u8 0, .int .u8 0, .int .u8 0, .int .u8 0, .int .u8 0, .int .u8 0, .int .u8 0, .int .u8 0, .int .u8 0, .int .u8 0, .int .u8 0, .int .u8 0, .int .u8 0, .int .u8 0, .int .u8 0, .int .u8 0, .int .u8 0, .int .u8 0, .int .u8 0, .int .u8 0, .int .u8 0, .int .u8 0, .int .u8 0, .int .u8 0] 104) = V := ⟨_, rfl⟩
        rw [hu7w] at s7 q7
        rw [hu7w]
        clear hu7w
        refine forkS 3 5 (by kernel_rfl) (by rfl) (by rfl) (fun o ho K hK => ?_) (fun o ho K hK => ?_)
        · simp only [List.getElem?_toArray, List.getElem?_cons_succ, List.getElem?_cons_zero, Option.some.injEq] at ho; subst ho
          go_simp
          (go_at_call 43; (with_reducible refine (CB.out _).mono ?_); rintro e u8w ⟨rfl, b8⟩)
          have s8 : Below w0.heap.size w0 u8w := below_up s7 s7.size b8
          have t4_8 := Shp.tn_on q7 b8
          refine hK.out _ _ s8 (fun _ => ?_)
          clear hK K
          try simp only [Act.put, List.setIfInBounds_toArray, List.set_cons_zero, List.set_cons_succ]
          refine nextS 5 (by kernel_rfl) (by rfl) (fun o ho K hK => ?_)
          simp only [List.getElem?_toArray, List.getElem?_cons_succ, List.getElem?_cons_zero, Option.some.injEq] at ho; subst ho
          go_simp
          have s9 : Below w0.heap.size w0 (u8w.alloc (.cells #[.int .u8 0, .int .u8 0, .int .u8 0, .int .u8 0, .int .u8 0, .int .u8 0, .int .u8 0, .int .u8 0, .int .u8 0, .int .u8 0, .int .u8 0, .int .u8 0, .int .u8 0, .int .u8 0, .int .u8 0, .int .u8 0, .int .u8 0, .int .u8 0, .int .u8 0, .int .u8 0, .int .u8 0, .int .u8 0, .int .u8 0, .int .u8 0, .int .u8 0] 104)) := s8.alloc s8.size _
          have q9 : Shp.tn 25 (u8w.alloc (.cells #[.int .u8 0, .int .u8 0, .int .u8 0, .int .u8 0, .int .u8 0, .int .u8 0, .int .u8 0, .int .u8 0, .int .u8 0, .int .u8 0, .int .u8 0, .int .u8 0, .int .u8 0, .int .u8 0, .int .u8 0, .int .u8 0, .int .u8 0, .int .u8 0, .int .u8 0, .int .u8 0, .int .u8 0, .int .u8 0, .int .u8 0, .int .u8 0, .int .u8 0] 104)) u8w.heap.size = true := Shp.tn_of (Blk.new u8w _ _) rfl
          have t4_9 := Shp.tn_on t4_8 (below_alloc_ u8w (.cells #[.int .u8 0, .int .u8 0, .int .u8 0, .int .u8 0, .int .u8 0, .int .u8 0, .int .u8 0, .int .u8 0, .int .u8 0, .int .u8 0, .int .u8 0, .int .u8 0, .int .u8 0, .int .u8 0, .int .u8 0, .int .u8 0, .int .u8 0, .int .u8 0, .int .u8 0, .int .u8 0, .int .u8 0, .int .u8 0, .int .u8 0, .int .u8 0, .int .u8 0] 104))
          have ne : u1w.heap.size ≠ u8w.heap.size := Nat.ne_of_lt (Shp.tn_lt t4_8)
          refine hK.out _ _ s9 (fun _ => ?_)
          clear hK K
          try simp only [Act.put, List.setIfInBounds_toArray, List.set_cons_zero, List.set_cons_succ]
          obtain ⟨u9w, hu9w⟩ : ∃ V, u8w.alloc (.cells #[.int .u8 0, .int .u8 0, .int .u8 0, .int .u8 0, .int .u8 0, .int .u8 0, .int .u8 0, .int .u8 0, .int .u8 0, .int .u8 0, .int .u8 0, .int .u8 0, .int .u8 0, .int .u8 0, .int .u8 0, .int .u8 0, .int .u8 0, .int .u8 0, .int .u8 0, .int .u8 0, .int .u8 0, .int .u8 0, .int .u8 0, .int .u8 0, .int .u8 0] 104) = V := ⟨_, rfl⟩
          rw [hu9w] at s9 q9 t4_9
          rw [hu9w]
          clear hu9w
          have t6 : Shp.tn 25 (u9w.setRow (u1w.heap.size) (kS.v a)) (u8w.heap.size) = true := Shp.tn_setRow (u1w.heap.size) (kS.v_size a) q9
          refine nextS 6 (by kernel_rfl) (by rfl) (fun o ho K hK => ?_)
          simp only [List.getElem?_toArray, List.getElem?_cons_succ, List.getElem?_cons_zero, Option.some.injEq] at ho; subst ho
          go_simp
          have s6 : Below w0.heap.size w0 (u9w.setRow (u1w.heap.size) (kS.v a)) := below_setRow s9 s1.size _
          refine hK.out _ _ s6 (fun _ => ?_)
          clear hK K
          try simp only [Act.put, List.setIfInBounds_toArray, List.set_cons_zero, List.set_cons_succ]
          refine nextS 7 (by kernel_rfl) (by rfl) (fun o ho K hK => ?_)
          simp only [List.getElem?_toArray, List.getElem?_cons_succ, List.getElem?_cons_zero, Option.some.injEq] at ho; subst ho
          go_simp
          have s7 : Below w0.heap.size w0 ((u9w.setRow (u1w.heap.size) (kS.v a)).setRow (u8w.heap.size) (kS.v b)) := below_setRow s6 s8.size _
          refine hK.out _ _ s7 (fun _ => ?_)
          clear hK K
          try simp only [Act.put, List.setIfInBounds_toArray, List.set_cons_zero, List.set_cons_succ]
          refine wpAnyH_done (by kernel_rfl) ?_ _
          refine NoPanic.normal ?_
          have RB := Shp.rd_set (S := kS) (u9w.setRow (u1w.heap.size) (kS.v a)) (u8w.heap.size) b t6
          have RA : kS.rd ((u9w.setRow (u1w.heap.size) (kS.v a)).setRow (u8w.heap.size) (kS.v b)) ⟨u1w.heap.size, 0, none⟩ = some a := by rw [Shp.rd_far _ _ _ _ ne]; exact Shp.rd_set (S := kS) _ _ _ t4_9
          go_wp2_with fail
          go_meet
          exact ⟨_, _, rfl, rfl, RA, RB, s7⟩
        · simp only [List.getElem?_toArray, List.getElem?_cons_succ, List.getElem?_cons_zero, Option.some.injEq] at ho; subst ho
          go_simp
          have s10 : Below w0.heap.size w0 (u7w.alloc (.cells #[.int .u8 0, .int .u8 0, .int .u8 0, .int .u8 0, .int .u8 0, .int .u8 0, .int .u8 0, .int .u8 0, .int .u8 0, .int .u8 0, .int .u8 0, .int .u8 0, .int .u8 0, .int .u8 0, .int .u8 0, .int .u8 0, .int .u8 0, .int .u8 0, .int .u8 0, .int .u8 0, .int .u8 0, .int .u8 0, .int .u8 0, .int .u8 0, .int .u8 0] 104)) := s7.alloc s7.size _
          have q10 : Shp.tn 25 (u7w.alloc (.cells #[.int .u8 0, .int .u8 0, .int .u8 0, .int .u8 0, .int .u8 0, .int .u8 0, .int .u8 0, .int .u8 0, .int .u8 0, .int .u8 0, .int .u8 0, .int .u8 0, .int .u8 0, .int .u8 0, .int .u8 0, .int .u8 0, .int .u8 0, .int .u8 0, .int .u8 0, .int .u8 0, .int .u8 0, .int .u8 0, .int .u8 0, .int .u8 0, .int .u8 0] 104)) u7w.heap.size = true := Shp.tn_of (Blk.new u7w _ _) rfl
          have t4_10 := Shp.tn_on q7 (below_alloc_ u7w (.cells #[.int .u8 0, .int .u8 0, .int .u8 0, .int .u8 0, .int .u8 0, .int .u8 0, .int .u8 0, .int .u8 0, .int .u8 0, .int .u8 0, .int .u8 0, .int .u8 0, .int .u8 0, .int .u8 0, .int .u8 0, .int .u8 0, .int .u8 0, .int .u8 0, .int .u8 0, .int .u8 0, .int .u8 0, .int .u8 0, .int .u8 0, .int .u8 0, .int .u8 0] 104))
          have ne : u1w.heap.size ≠ u7w.heap.size := Nat.ne_of_lt (Shp.tn_lt q7)
          refine hK.out _ _ s10 (fun _ => ?_)
          clear hK K
          try simp only [Act.put, List.setIfInBounds_toArray, List.set_cons_zero, List.set_cons_succ]
          obtain ⟨u10w, hu10w⟩ : ∃ V, u7w.alloc (.cells #[.int .u8 0, .int .u8 0, .int .u8 0, .int .u8 0, .int .u8 0, .int .u8 0, .int .u8 0, .int .u8 0, .int .u8 0, .int .u8 0, .int .u8 0, .int .u8 0, .int .u8 0, .int .u8 0, .int .u8 0, .int .u8 0, .int .u8 0, .int .u8 0, .int .u8 0, .int .u8 0, .int .u8 0, .int .u8 0, .int .u8 0, .int .u8 0, .int .u8 0] 104) = V := ⟨_, rfl⟩
          rw [hu10w] at s10 q10 t4_10
          rw [hu10w]
          clear hu10w
          refine nextS 3 (by kernel_rfl) (by rfl) (fun o ho K hK => ?_)
          simp only [List.getElem?_toArray, List.getElem?_cons_succ, List.getElem?_cons_zero, Option.some.injEq] at ho; subst ho
          go_simp
          (go_at_call 43; (with_reducible refine (CB.out _).mono ?_); rintro e u11w ⟨rfl, b11⟩)
          have s11 : Below w0.heap.size w0 u11w := below_up s10 s10.size b11
          have t4_11 := Shp.tn_on t4_10 b11
          have t5_11 := Shp.tn_on q10 b11
          refine hK.out _ _ s11 (fun _ => ?_)
          clear hK K
          try simp only [Act.put, List.setIfInBounds_toArray, List.set_cons_zero, List.set_cons_succ]
          have t6 : Shp.tn 25 (u11w.setRow (u1w.heap.size) (kS.v a)) (u7w.heap.size) = true := Shp.tn_setRow (u1w.heap.size) (kS.v_size a) t5_11
          refine nextS 6 (by kernel_rfl) (by rfl) (fun o ho K hK => ?_)
          simp only [List.getElem?_toArray, List.getElem?_cons_succ, List.getElem?_cons_zero, Option.some.injEq] at ho; subst ho
          go_simp
          have s6 : Below w0.heap.size w0 (u11w.setRow (u1w.heap.size) (kS.v a)) := below_setRow s11 s1.size _
          refine hK.out _ _ s6 (fun _ => ?_)
          clear hK K
          try simp only [Act.put, List.setIfInBounds_toArray, List.set_cons_zero, List.set_cons_succ]
          refine nextS 7 (by kernel_rfl) (by rfl) (fun o ho K hK => ?_)
          simp only [List.getElem?_toArray, List.getElem?_cons_succ, List.getElem?_cons_zero, Option.some.injEq] at ho; subst ho
          go_simp
          have s7 : Below w0.heap.size w0 ((u11w.setRow (u1w.heap.size) (kS.v a)).setRow (u7w.heap.size) (kS.v b)) := below_setRow s6 s7.size _
          refine hK.out _ _ s7 (fun _ => ?_)
          clear hK K
          try simp only [Act.put, List.setIfInBounds_toArray, List.set_cons_zero, List.set_cons_succ]
          refine wpAnyH_done (by kernel_rfl) ?_ _
          refine NoPanic.normal ?_
          have RB := Shp.rd_set (S := kS) (u11w.setRow (u1w.heap.size) (kS.v a)) (u7w.heap.size) b t6
          have RA : kS.rd ((u11w.setRow (u1w.heap.size) (kS.v a)).setRow (u7w.heap.size) (kS.v b)) ⟨u1w.heap.size, 0, none⟩ = some a := by rw [Shp.rd_far _ _ _ _ ne]; exact Shp.rd_set (S := kS) _ _ _ t4_11
          go_wp2_with fail
          go_meet
          exact ⟨_, _, rfl, rfl, RA, RB, s7⟩
      · simp only [List.getElem?_toArray, List.getElem?_cons_succ, List.getElem?_cons_zero, Option.some.injEq] at ho; subst ho
        go_simp
        have s12 : Below w0.heap.size w0 (u1w.alloc (.cells #[.int .u8 0, .int .u8 0, .int .u8 0, .int .u8 0, .int .u8 0, .int .u8 0, .int .u8 0, .int .u8 0, .int .u8 0, .int .u8 0, .int .u8 0, .int .u8 0, .int .u8 0, .int .u8 0, .int .u8 0, .int .u8 0, .int .u8 0, .int .u8 0, .int .u8 0, .int .u8 0, .int .u8 0, .int .u8 0, .int .u8 0, .int .u8 0, .int .u8 0] 104)) := s1.alloc s1.size _
        have q12 : Shp.tn 25 (u1w.alloc (.cells #[.int .u8 0, .int .u8 0, .int .u8 0, .int .u8 0, .int .u8 0, .int .u8 0, .int .u8 0, .int .u8 0, .int .u8 0, .int .u8 0, .int .u8 0, .int .u8 0, .int .u8 0, .int .u8 0, .int .u8 0, .int .u8 0, .int .u8 0, .int .u8 0, .int .u8 0, .int .u8 0, .int .u8 0, .int .u8 0, .int .u8 0, .int .u8 0, .int .u8 0] 104)) u1w.heap.size = true := Shp.tn_of (Blk.new u1w _ _) rfl
        refine hK.out _ _ s12 (fun _ => ?_)
        clear hK K
        try simp only [Act.put, List.setIfInBounds_toArray, List.set_cons_zero, List.set_cons_succ]
        obtain ⟨u12w, hu12w⟩ : ∃ V, u1w.alloc (.cells #[.int .u8 0, .int .u8 0, .int .u8 0, .int .u8 0, .int .u8 0, .int .u8 0, .int .u8 0, .int .u8 0, .int .u8 0, .int .u8 0, .int .u8 0, .int .u8 0, .int .u8 0, .int .u8 0, .int .u8 0, .int .u8 0, .int .u8 0, .int .u8 0, .int .u8 0, .int .u8 0, .int .u8 0, .int .u8 0, .int .u8 0, .int .u8 0, .int .u8 0] 104) = V := ⟨_, rfl⟩
        rw [hu12w] at s12 q12
        rw [hu12w]
        clear hu12w
        refine forkS 3 4 (by kernel_rfl) (by rfl) (by rfl) (fun o ho K hK => ?_) (fun o ho K hK => ?_)
        · simp only [List.getElem?_toArray, List.getElem?_cons_succ, List.getElem?_cons_zero, Option.some.injEq] at ho; subst ho
          go_simp
          (go_at_call 43; (with_reducible refine (CB.out _).mono ?_); rintro e u13w ⟨rfl, b13⟩)
          have s13 : Below w0.heap.size w0 u13w := below_up s12 s12.size b13
          have t5_13 := Shp.tn_on q12 b13
          refine hK.out _ _ s13 (fun _ => ?_)
          clear hK K
          try simp only [Act.put, List.setIfInBounds_toArray, List.set_cons_zero, List.set_cons_succ]
          refine nextS 4 (by kernel_rfl) (by rfl) (fun o ho K hK => ?_)
          simp only [List.getElem?_toArray, List.getElem?_cons_succ, List.getElem?_cons_zero, Option.some.injEq] at ho; subst ho
          go_simp
          have s14 : Below w0.heap.size w0 (u13w.alloc (.cells #[.int .u8 0, .int .u8 0, .int .u8 0, .int .u8 0, .int .u8 0, .int .u8 0, .int .u8 0, .int .u8 0, .int .u8 0, .int .u8 0, .int .u8 0, .int .u8 0, .int .u8 0, .int .u8 0, .int .u8 0, .int .u8 0, .int .u8 0, .int .u8 0, .int .u8 0, .int .u8 0, .int .u8 0, .int .u8 0, .int .u8 0, .int .u8 0, .int .u8 0] 104)) := s13.alloc s13.size _
          have q14 : Shp.tn 25 (u13w.alloc (.cells #[.int .u8 0, .int .u8 0, .int .u8 0, .int .u8 0, .int .u8 0, .int .u8 0, .int .u8 0, .int .u8 0, .int .u8 0, .int .u8 0, .int .u8 0, .int .u8 0, .int .u8 0, .int .u8 0, .int .u8 0, .int .u8 0, .int .u8 0, .int .u8 0, .int .u8 0, .int .u8 0, .int .u8 0, .int .u8 0, .int .u8 0, .int .u8 0, .int .u8 0] 104)) u13w.heap.size = true := Shp.tn_of (Blk.new u13w _ _) rfl
          have t5_14 := Shp.tn_on t5_13 (below_alloc_ u13w (.cells #[.int .u8 0, .int .u8 0, .int .u8 0, .int .u8 0, .int .u8 0, .int .u8 0, .int .u8 0, .int .u8 0, .int .u8 0, .int .u8 0, .int .u8 0, .int .u8 0, .int .u8 0, .int .u8 0, .int .u8 0, .int .u8 0, .int .u8 0, .int .u8 0, .int .u8 0, .int .u8 0, .int .u8 0, .int .u8 0, .int .u8 0, .int .u8 0, .int .u8 0] 104))
          have ne : u13w.heap.size ≠ u1w.heap.size := Nat.ne_of_gt (Shp.tn_lt t5_13)
          refine hK.out _ _ s14 (fun _ => ?_)
          clear hK K
          try simp only [Act.put, List.setIfInBounds_toArray, List.set_cons_zero, List.set_cons_succ]
          obtain ⟨u14w, hu14w⟩ : ∃ V, u13w.alloc (.cells #[.int .u8 0, .int .u8 0, .int .u8 0, .int .u8 0, .int .u8 0, .int .u8 0, .int .u8 0, .int .u8 0, .int .u8 0, .int .u8 0, .int .u8 0, .int .u8 0, .int .u8 0, .int .u8 0, .int .u8 0, .int .u8 0, .int .u8 0, .int .u8 0, .int .u8 0, .int .u8 0, .int .u8 0, .int .u8 0, .int .u8 0, .int .u8 0, .int .u8 0] 104) = V := ⟨_, rfl⟩
          rw [hu14w] at s14 q14 t5_14
          rw [hu14w]
          clear hu14w
          have t6 : Shp.tn 25 (u14w.setRow (u13w.heap.size) (kS.v a)) (u1w.heap.size) = true := Shp.tn_setRow (u13w.heap.size) (kS.v_size a) t5_14
          refine nextS 6 (by kernel_rfl) (by rfl) (fun o ho K hK => ?_)
          simp only [List.getElem?_toArray, List.getElem?_cons_succ, List.getElem?_cons_zero, Option.some.injEq] at ho; subst ho
          go_simp
          have s6 : Below w0.heap.size w0 (u14w.setRow (u13w.heap.size) (kS.v a)) := below_setRow s14 s13.size _
          refine hK.out _ _ s6 (fun _ => ?_)
          clear hK K
          try simp only [Act.put, List.setIfInBounds_toArray, List.set_cons_zero, List.set_cons_succ]
          refine nextS 7 (by kernel_rfl) (by rfl) (fun o ho K hK => ?_)
          simp only [List.getElem?_toArray, List.getElem?_cons_succ, List.getElem?_cons_zero, Option.some.injEq] at ho; subst ho
          go_simp
          have s7 : Below w0.heap.size w0 ((u14w.setRow (u13w.heap.size) (kS.v a)).setRow (u1w.heap.size) (kS.v b)) := below_setRow s6 s1.size _
          refine hK.out _ _ s7 (fun _ => ?_)
          clear hK K
          try simp only [Act.put, List.setIfInBounds_toArray, List.set_cons_zero, List.set_cons_succ]
          refine wpAnyH_done (by kernel_rfl) ?_ _
          refine NoPanic.normal ?_
          have RB := Shp.rd_set (S := kS) (u14w.setRow (u13w.heap.size) (kS.v a)) (u1w.heap.size) b t6
          have RA : kS.rd ((u14w.setRow (u13w.heap.size) (kS.v a)).setRow (u1w.heap.size) (kS.v b)) ⟨u13w.heap.size, 0, none⟩ = some a := by rw [Shp.rd_far _ _ _ _ ne]; exact Shp.rd_set (S := kS) _ _ _ q14
          go_wp2_with fail
          go_meet
          exact ⟨_, _, rfl, rfl, RA, RB, s7⟩
        · simp only [List.getElem?_toArray, List.getElem?_cons_succ, List.getElem?_cons_zero, Option.some.injEq] at ho; subst ho
          go_simp
          have s15 : Below w0.heap.size w0 (u12w.alloc (.cells #[.int .u8 0, .int .u8 0, .int .u8 0, .int .u8 0, .int .u8 0, .int .u8 0, .int .u8 0, .int .u8 0, .int .u8 0, .int .u8 0, .int .u8 0, .int .u8 0, .int .u8 0, .int .u8 0, .int .u8 0, .int .u8 0, .int .u8 0, .int .u8 0, .int .u8 0, .int .u8 0, .int .u8 0, .int .u8 0, .int .u8 0, .int .u8 0, .int .u8 0] 104)) := s12.alloc s12.size _
          have q15 : Shp.tn 25 (u12w.alloc (.cells #[.int .u8 0, .int .u8 0, .int .u8 0, .int .u8 0, .int .u8 0, .int .u8 0, .int .u8 0, .int .u8 0, .int .u8 0, .int .u8 0, .int .u8 0, .int .u8 0, .int .u8 0, .int .u8 0, .int .u8 0, .int .u8 0, .int .u8 0, .int .u8 0, .int .u8 0, .int .u8 0, .int .u8 0, .int .u8 0, .int .u8 0, .int .u8 0, .int .u8 0] 104)) u12w.heap.size = true := Shp.tn_of (Blk.new u12w _ _) rfl
          have t5_15 := Shp.tn_on q12 (below_alloc_ u12w (.cells #[.int .u8 0, .int .u8 0, .int .u8 0, .int .u8 0, .int .u8 0, .int .u8 0, .int .u8 0, .int .u8 0, .int .u8 0, .int .u8 0, .int .u8 0, .int .u8 0, .int .u8 0, .int .u8 0, .int .u8 0, .int .u8 0, .int .u8 0, .int .u8 0, .int .u8 0, .int .u8 0, .int .u8 0, .int .u8 0, .int .u8 0, .int .u8 0, .int .u8 0] 104))
          have ne : u12w.heap.size ≠ u1w.heap.size := Nat.ne_of_gt (Shp.tn_lt q12)
          refine hK.out _ _ s15 (fun _ => ?_)
          clear hK K
          try simp only [Act.put, List.setIfInBounds_toArray, List.set_cons_zero, List.set_cons_succ]
          obtain ⟨u15w, hu15w⟩ : ∃ V, u12w.alloc (.cells #[.int .u8 0, .int .u8 0, .int .u8 0, .int .u8 0, .int .u8 0, .int .u8 0, .int .u8 0, .int .u8 0, .int .u8 0, .int .u8 0, .int .u8 0, .int .u8 0, .int .u8 0, .int .u8 0, .int .u8 0, .int .u8 0, .int .u8 0, .int .u8 0, .int .u8 0, .int .u8 0, .int .u8 0, .int .u8 0, .int .u8 0, .int .u8 0, .int .u8 0] 104) = V := ⟨_, rfl⟩
          rw [hu15w] at s15 q15 t5_15
          rw [hu15w]
          clear hu15w
          refine nextS 3 (by kernel_rfl) (by rfl) (fun o ho K hK => ?_)
          simp only [List.getElem?_toArray, List.getElem?_cons_succ, List.getElem?_cons_zero, Option.some.injEq] at ho; subst ho
          go_simp
          (go_at_call 43; (with_reducible refine (CB.out _).mono ?_); rintro e u16w ⟨rfl, b16⟩)
          have s16 : Below w0.heap.size w0 u16w := below_up s15 s15.size b16
          have t4_16 := Shp.tn_on q15 b16
          have t5_16 := Shp.tn_on t5_15 b16
          refine hK.out _ _ s16 (fun _ => ?_)
          clear hK K
          try simp only [Act.put, List.setIfInBounds_toArray, List.set_cons_zero, List.set_cons_succ]
          have t6 : Shp.tn 25 (u16w.setRow (u12w.heap.size) (kS.v a)) (u1w.heap.size) = true := Shp.tn_setRow (u12w.heap.size) (kS.v_size a) t5_16
          refine nextS 6 (by kernel_rfl) (by rfl) (fun o ho K hK => ?_)
          simp only [List.getElem?_toArray, List.getElem?_cons_succ, List.getElem?_cons_zero, Option.some.injEq] at ho; subst ho
          go_simp
          have s6 : Below w0.heap.size w0 (u16w.setRow (u12w.heap.size) (kS.v a)) := below_setRow s16 s12.size _
          refine hK.out _ _ s6 (fun _ => ?_)
          clear hK K
          try simp only [Act.put, List.setIfInBounds_toArray, List.set_cons_zero, List.set_cons_succ]
          refine nextS 7 (by kernel_rfl) (by rfl) (fun o ho K hK => ?_)
          simp only [List.getElem?_toArray, List.getElem?_cons_succ, List.getElem?_cons_zero, Option.some.injEq] at ho; subst ho
          go_simp
          have s7 : Below w0.heap.size w0 ((u16w.setRow (u12w.heap.size) (kS.v a)).setRow (u1w.heap.size) (kS.v b)) := below_setRow s6 s1.size _
          refine hK.out _ _ s7 (fun _ => ?_)
          clear hK K
          try simp only [Act.put, List.setIfInBounds_toArray, List.set_cons_zero, List.set_cons_succ]
          refine wpAnyH_done (by kernel_rfl) ?_ _
          refine NoPanic.normal ?_
          have RB := Shp.rd_set (S := kS) (u16w.setRow (u12w.heap.size) (kS.v a)) (u1w.heap.size) b t6
          have RA : kS.rd ((u16w.setRow (u12w.heap.size) (kS.v a)).setRow (u1w.heap.size) (kS.v b)) ⟨u12w.heap.size, 0, none⟩ = some a := by rw [Shp.rd_far _ _ _ _ ne]; exact Shp.rd_set (S := kS) _ _ _ t4_16
          go_wp2_with fail
          go_meet
          exact ⟨_, _, rfl, rfl, RA, RB, s7⟩
    · simp only [List.getElem?_toArray, List.getElem?_cons_succ, List.getElem?_cons_zero, Option.some.injEq] at ho; subst ho
      go_simp
      have s17 : Below w0.heap.size w0 (wd.alloc (.cells #[.int .u8 0, .int .u8 0, .int .u8 0, .int .u8 0, .int .u8 0, .int .u8 0, .int .u8 0, .int .u8 0, .int .u8 0, .int .u8 0, .int .u8 0, .int .u8 0, .int .u8 0, .int .u8 0, .int .u8 0, .int .u8 0, .int .u8 0, .int .u8 0, .int .u8 0, .int .u8 0, .int .u8 0, .int .u8 0, .int .u8 0, .int .u8 0, .int .u8 0] 104)) := sd.alloc sd.size _
      have q17 : Shp.tn 25 (wd.alloc (.cells #[.int .u8 0, .int .u8 0, .int .u8 0, .int .u8 0, .int .u8 0, .int .u8 0, .int .u8 0, .int .u8 0, .int .u8 0, .int .u8 0, .int .u8 0, .int .u8 0, .int .u8 0, .int .u8 0, .int .u8 0, .int .u8 0, .int .u8 0, .int .u8 0, .int .u8 0, .int .u8 0, .int .u8 0, .int .u8 0, .int .u8 0, .int .u8 0, .int .u8 0] 104)) wd.heap.size = true := Shp.tn_of (Blk.new wd _ _) rfl
      refine hK.out _ _ s17 (fun _ => ?_)
      clear hK K
      try simp only [Act.put, List.setIfInBounds_toArray, List.set_cons_zero, List.set_cons_succ]
      obtain ⟨u17w, hu17w⟩ : ∃ V, wd.alloc (.cells #[.int .u8 0, .int .u8 0, .int .u8 0, .int .u8 0, .int .u8 0, .int .u8 0, .int .u8 0, .int .u8 0, .int .u8 0, .int .u8 0, .int .u8 0, .int .u8 0, .int .u8 0, .int .u8 0, .int .u8 0, .int .u8 0, .int .u8 0, .int .u8 0, .int .u8 0, .int .u8 0, .int .u8 0, .int .u8 0, .int .u8 0, .int .u8 0, .int .u8 0] 104) = V := ⟨_, rfl⟩
      rw [hu17w] at s17 q17
      rw [hu17w]
      clear hu17w
      refine forkS 1 5 (by kernel_rfl) (by rfl) (by rfl) (fun o ho K hK => ?_) (fun o ho K hK => ?_)
      · simp only [List.getElem?_toArray, List.getElem?_cons_succ, List.getElem?_cons_zero, Option.some.injEq] at ho; subst ho
        go_simp
        (go_at_call 43; (with_reducible refine (CA.out _).mono ?_); rintro e u18w ⟨rfl, b18⟩)
        have s18 : Below w0.heap.size w0 u18w := below_up s17 s17.size b18
        have t4_18 := Shp.tn_on q17 b18
        refine hK.out _ _ s18 (fun _ => ?_)
        clear hK K
        try simp only [Act.put, List.setIfInBounds_toArray, List.set_cons_zero, List.set_cons_succ]
        refine forkS 3 5 (by kernel_rfl) (by rfl) (by rfl) (fun o ho K hK => ?_) (fun o ho K hK => ?_)
        · simp only [List.getElem?_toArray, List.getElem?_cons_succ, List.getElem?_cons_zero, Option.some.injEq] at ho; subst ho
          go_simp
          (go_at_call 43; (with_reducible refine (CB.out _).mono ?_); rintro e u19w ⟨rfl, b19⟩)
          have s19 : Below w0.heap.size w0 u19w := below_up s18 s18.size b19
          have t4_19 := Shp.tn_on t4_18 b19
          refine hK.out _ _ s19 (fun _ => ?_)
          clear hK K
          try simp only [Act.put, List.setIfInBounds_toArray, List.set_cons_zero, List.set_cons_succ]
          refine nextS 5 (by kernel_rfl) (by rfl) (fun o ho K hK => ?_)
          simp only [List.getElem?_toArray, List.getElem?_cons_succ, List.getElem?_cons_zero, Option.some.injEq] at ho; subst ho
          go_simp
          have s20 : Below w0.heap.size w0 (u19w.alloc (.cells #[.int .u8 0, .int .u8 0, .int .u8 0, .int .u8 0, .int .u8 0, .int .u8 0, .int .u8 0, .int .u8 0, .int .u8 0, .int .u8 0, .int .u8 0, .int .u8 0, .int .u8 0, .int .u8 0, .int .u8 0, .int .u8 0, .int .u8 0, .int .u8 0, .int .u8 0, .int .u8 0, .int .u8 0, .int .u8 0, .int .u8 0, .int .u8 0, .int .u8 0] 104)) := s19.alloc s19.size _
          have q20 : Shp.tn 25 (u19w.alloc (.cells #[.int .u8 0, .int .u8 0, .int .u8 0, .int .u8 0, .int .u8 0, .int .u8 0, .int .u8 0, .int .u8 0, .int .u8 0, .int .u8 0, .int .u8 0, .int .u8 0, .int .u8 0, .int .u8 0, .int .u8 0, .int .u8 0, .int .u8 0, .int .u8 0, .int .u8 0, .int .u8 0, .int .u8 0, .int .u8 0, .int .u8 0, .int .u8 0, .int .u8 0] 104)) u19w.heap.size = true := Shp.tn_of (Blk.new u19w _ _) rfl
          have t4_20 := Shp.tn_on t4_19 (below_alloc_ u19w (.cells #[.int .u8 0, .int .u8 0, .int .u8 0, .int .u8 0, .int .u8 0, .int .u8 0, .int .u8 0, .int .u8 0, .int .u8 0, .int .u8 0, .int .u8 0, .int .u8 0, .int .u8 0, .int .u8 0, .int .u8 0, .int .u8 0, .int .u8 0, .int .u8 0, .int .u8 0, .int .u8 0, .int .u8 0, .int .u8 0, .int .u8 0, .int .u8 0, .int .u8 0] 104))
          have ne : wd.heap.size ≠ u19w.heap.size := Nat.ne_of_lt (Shp.tn_lt t4_19)
          refine hK.out _ _ s20 (fun _ => ?_)
          clear hK K
          try simp only [Act.put, List.setIfInBounds_toArray, List.set_cons_zero, List.set_cons_succ]
          obtain ⟨u20w, hu20w⟩ : ∃ V, u19w.alloc (.cells #[.int .u8 0, .int .u8 0, .int .u8 0, .int .u8 0, .int .u8 0, .int .u8 0, .int .u8 0, .int .u8 0, .int .u8 0, .int .u8 0, .int .u8 0, .int .u8 0, .int .u8 0, .int .u8 0, .int .u8 0, .int .u8 0, .int .u8 0, .int .u8 0, .int .u8 0, .int .u8 0, .int .u8 0, .int .u8 0, .int .u8 0, .int .u8 0, .int .u8 0] 104) = V := ⟨_, rfl⟩
          rw [hu20w] at s20 q20 t4_20
          rw [hu20w]
          clear hu20w
          have t6 : Shp.tn 25 (u20w.setRow (wd.heap.size) (kS.v a)) (u19w.heap.size) = true := Shp.tn_setRow (wd.heap.size) (kS.v_size a) q20
          refine nextS 6 (by kernel_rfl) (by rfl) (fun o ho K hK => ?_)
          simp only [List.getElem?_toArray, List.getElem?_cons_succ, List.getElem?_cons_zero, Option.some.injEq] at ho; subst ho
          go_simp
          have s6 : Below w0.heap.size w0 (u20w.setRow (wd.heap.size) (kS.v a)) := below_setRow s20 sd.size _
          refine hK.out _ _ s6 (fun _ => ?_)
          clear hK K
          try simp only [Act.put, List.setIfInBounds_toArray, List.set_cons_zero, List.set_cons_succ]
          refine nextS 7 (by kernel_rfl) (by rfl) (fun o ho K hK => ?_)
          simp only [List.getElem?_toArray, List.getElem?_cons_succ, List.getElem?_cons_zero, Option.some.injEq] at ho; subst ho
          go_simp
          have s7 : Below w0.heap.size w0 ((u20w.setRow (wd.heap.size) (kS.v a)).setRow (u19w.heap.size) (kS.v b)) := below_setRow s6 s19.size _
          refine hK.out _ _ s7 (fun _ => ?_)
          clear hK K
          try simp only [Act.put, List.setIfInBounds_toArray, List.set_cons_zero, List.set_cons_succ]
          refine wpAnyH_done (by kernel_rfl) ?_ _
          refine NoPanic.normal ?_
          have RB := Shp.rd_set (S := kS) (u20w.setRow (wd.heap.size) (kS.v a)) (u19w.heap.size) b t6
          have RA : kS.rd ((u20w.setRow (wd.heap.size) (kS.v a)).setRow (u19w.heap.size) (kS.v b)) ⟨wd.heap.size, 0, none⟩ = some a := by rw [Shp.rd_far _ _ _ _ ne]; exact Shp.rd_set (S := kS) _ _ _ t4_20
          go_wp2_with fail
          go_meet
          exact ⟨_, _, rfl, rfl, RA, RB, s7⟩
        · simp only [List.getElem?_toArray, List.getElem?_cons_succ, List.getElem?_cons_zero, Option.some.injEq] at ho; subst ho
          go_simp
          have s21 : Below w0.heap.size w0 (u18w.alloc (.cells #[.int .u8 0, .int .u8 0, .int .u8 0, .int .u8 0, .int .u8 0, .int .u8 0, .int .u8 0, .int .u8 0, .int .u8 0, .int .u8 0, .int .u8 0, .int .u8 0, .int .u8 0, .int .u8 0, .int .u8 0, .int .u8 0, .int .u8 0, .int .u8 0, .int .u8 0, .int .u8 0, .int .u8 0, .int .u8 0, .int .u8 0, .int .u8 0, .int .u8 0] 104)) := s18.alloc s18.size _
          have q21 : Shp.tn 25 (u18w.alloc (.cells #[.int .u8 0, .int .u8 0, .int .u8 0, .int .u8 0, .int .u8 0, .int .u8 0, .int .u8 0, .int .u8 0, .int .u8 0, .int .u8 0, .int .u8 0, .int .u8 0, .int .u8 0, .int .u8 0, .int .u8 0, .int .u8 0, .int .u8 0, .int .u8 0, .int .u8 0, .int .u8 0, .int .u8 0, .int .u8 0, .int .u8 0, .int .u8 0, .int .u8 0] 104)) u18w.heap.size = true := Shp.tn_of (Blk.new u18w _ _) rfl
          have t4_21 := Shp.tn_on t4_18 (below_alloc_ u18w (.cells #[.int .u8 0, .int .u8 0, .int .u8 0, .int .u8 0, .int .u8 0, .int .u8 0, .int .u8 0, .int .u8 0, .int .u8 0, .int .u8 0, .int .u8 0, .int .u8 0, .int .u8 0, .int .u8 0, .int .u8 0, .int .u8 0, .int .u8 0, .int .u8 0, .int .u8 0, .int .u8 0, .int .u8 0, .int .u8 0, .int .u8 0, .int .u8 0, .int .u8 0] 104))
          have ne : wd.heap.size ≠ u18w.heap.size := Nat.ne_of_lt (Shp.tn_lt t4_18)
          refine hK.out _ _ s21 (fun _ => ?_)
          clear hK K
          try simp only [Act.put, List.setIfInBounds_toArray, List.set_cons_zero, List.set_cons_succ]
          obtain ⟨u21w, hu21w⟩ : ∃ V, u18w.alloc (.cells #[.int .u8 0, .int .u8 0, .int .u8 0, .int .u8 0, .int .u8 0, .int .u8 0, .int .u8 0, .int .u8 0, .int .u8 0, .int .u8 0, .int .u8 0, .int .u8 0, .int .u8 0, .int .u8 0, .int .u8 0, .int .u8 0, .int .u8 0, .int .u8 0, .int .u8 0, .int .u8 0, .int .u8 0, .int .u8 0, .int .u8 0, .int .u8 0, .int .u8 0] 104) = V := ⟨_, rfl⟩
          rw [hu21w] at s21 q21 t4_21
          rw [hu21w]
          clear hu21w
          refine nextS 3 (by kernel_rfl) (by rfl) (fun o ho K hK => ?_)
          simp only [List.getElem?_toArray, List.getElem?_cons_succ, List.getElem?_cons_zero, Option.some.injEq] at ho; subst ho
          go_simp
          (go_at_call 43; (with_reducible refine (CB.out _).mono ?_); rintro e u22w ⟨rfl, b22⟩)
          have s22 : Below w0.heap.size w0 u22w := below_up s21 s21.size b22
          have t4_22 := Shp.tn_on t4_21 b22
          have t5_22 := Shp.tn_on q21 b22
          refine hK.out _ _ s22 (fun _ => ?_)
          clear hK K
          try simp only [Act.put, List.setIfInBounds_toArray, List.set_cons_zero, List.set_cons_succ]
          have t6 : Shp.tn 25 (u22w.setRow (wd.heap.size) (kS.v a)) (u18w.heap.size) = true := Shp.tn_setRow (wd.heap.size) (kS.v_size a) t5_22
          refine nextS 6 (by kernel_rfl) (by rfl) (fun o ho K hK => ?_)
          simp only [List.getElem?_toArray, List.getElem?_cons_succ, List.getElem?_cons_zero, Option.some.injEq] at ho; subst ho
          go_simp
          have s6 : Below w0.heap.size w0 (u22w.setRow (wd.heap.size) (kS.v a)) := below_setRow s22 sd.size _
          refine hK.out _ _ s6 (fun _ => ?_)
          clear hK K
          try simp only [Act.put, List.setIfInBounds_toArray, List.set_cons_zero, List.set_cons_succ]
          refine nextS 7 (by kernel_rfl) (by rfl) (fun o ho K hK => ?_)
          simp only [List.getElem?_toArray, List.getElem?_cons_succ, List.getElem?_cons_zero, Option.some.injEq] at ho; subst ho
          go_simp
          have s7 : Below w0.heap.size w0 ((u22w.setRow (wd.heap.size) (kS.v a)).setRow (u18w.heap.size) (kS.v b)) := below_setRow s6 s18.size _
          refine hK.out _ _ s7 (fun _ => ?_)
          clear hK K
          try simp only [Act.put, List.setIfInBounds_toArray, List.set_cons_zero, List.set_cons_succ]
          refine wpAnyH_done (by kernel_rfl) ?_ _
          refine NoPanic.normal ?_
          have RB := Shp.rd_set (S := kS) (u22w.setRow (wd.heap.size) (kS.v a)) (u18w.heap.size) b t6
          have RA : kS.rd ((u22w.setRow (wd.heap.size) (kS.v a)).setRow (u18w.heap.size) (kS.v b)) ⟨wd.heap.size, 0, none⟩ = some a := by rw [Shp.rd_far _ _ _ _ ne]; exact Shp.rd_set (S := kS) _ _ _ t4_22
          go_wp2_with fail
          go_meet
          exact ⟨_, _, rfl, rfl, RA, RB, s7⟩
      · simp only [List.getElem?_toArray, List.getElem?_cons_succ, List.getElem?_cons_zero, Option.some.injEq] at ho; subst ho
        go_simp
        have s23 : Below w0.heap.size w0 (u17w.alloc (.cells #[.int .u8 0, .int .u8 0, .int .u8 0, .int .u8 0, .int .u8 0, .int .u8 0, .int .u8 0, .int .u8 0, .int .u8 0, .int .u8 0, .int .u8 0, .int .u8 0, .int .u8 0, .int .u8 0, .int .u8 0, .int .u8 0, .int .u8 0, .int .u8 0, .int .u8 0, .int .u8 0, .int .u8 0, .int .u8 0, .int .u8 0, .int .u8 0, .int .u8 0] 104)) := s17.alloc s17.size _
        have q23 : Shp.tn 25 (u17w.alloc (.cells #[.int .u8 0, .int .u8 0, .int .u8 0, .int .u8 0, .int .u8 0, .int .u8 0, .int .u8 0, .int .u8 0, .int .u8 0, .int .u8 0, .int .u8 0, .int .u8 0, .int .u8 0, .int .u8 0, .int .u8 0, .int .u8 0, .int .u8 0, .int .u8 0, .int .u8 0, .int .u8 0, .int .u8 0, .int .u8 0, .int .u8 0, .int .u8 0, .int .u8 0] 104)) u17w.heap.size = true := Shp.tn_of (Blk.new u17w _ _) rfl
        have t4_23 := Shp.tn_on q17 (below_alloc_ u17w (.cells #[.int .u8 0, .int .u8 0, .int .u8 0, .int .u8 0, .int .u8 0, .int .u8 0, .int .u8 0, .int .u8 0, .int .u8 0, .int .u8 0, .int .u8 0, .int .u8 0, .int .u8 0, .int .u8 0, .int .u8 0, .int .u8 0, .int .u8 0, .int .u8 0, .int .u8 0, .int .u8 0, .int .u8 0, .int .u8 0, .int .u8 0, .int .u8 0, .int .u8 0] 104))
        have ne : wd.heap.size ≠ u17w.heap.size := Nat.ne_of_lt (Shp.tn_lt q17)
        refine hK.out _ _ s23 (fun _ => ?_)
        clear hK K
        try simp only [Act.put, List.setIfInBounds_toArray, List.set_cons_zero, List.set_cons_succ]
        obtain ⟨u23w, hu23w⟩ : ∃ V, u17w.alloc (.cells #[.int .u8 0, .int .u8 0, .int .u8 0, .int .u8 0, .int .u8 0, .int .u8 0, .int .u8 0, .int .u8 0, .int .u8 0, .int .u8 0, .int .u8 0, .int .u8 0, .int .u8 0, .int .u8 0, .int .u8 0, .int .u8 0, .int .u8 0, .int .u8 0, .int .u8 0, .int .u8 0, .int .u8 0, .int .u8 0, .int .u8 0, .int .u8 0, .int .u8 0] 104) = V := ⟨_, rfl⟩
        rw [hu23w] at s23 q23 t4_23
        rw [hu23w]
        clear hu23w
        refine nextS 1 (by kernel_rfl) (by rfl) (fun o ho K hK => ?_)
        simp only [List.getElem?_toArray, List.getElem?_cons_succ, List.getElem?_cons_zero, Option.some.injEq] at ho; subst ho
        go_simp
        (go_at_call 43; (with_reducible refine (CA.out _).mono ?_); rintro e u24w ⟨rfl, b24⟩)
        have s24 : Below w0.heap.size w0 u24w := below_up s23 s23.size b24
        have t4_24 := Shp.tn_on t4_23 b24
        have t5_24 := Shp.tn_on q23 b24
        refine hK.out _ _ s24 (fun _ => ?_)
        clear hK K
        try simp only [Act.put, List.setIfInBounds_toArray, List.set_cons_zero, List.set_cons_succ]
        refine nextS 3 (by kernel_rfl) (by rfl) (fun o ho K hK => ?_)
        simp only [List.getElem?_toArray, List.getElem?_cons_succ, List.getElem?_cons_zero, Option.some.injEq] at ho; subst ho
        go_simp
        (go_at_call 43; (with_reducible refine (CB.out _).mono ?_); rintro e u25w ⟨rfl, b25⟩)
        have s25 : Below w0.heap.size w0 u25w := below_up s24 s24.size b25
        have t4_25 := Shp.tn_on t4_24 b25
        have t5_25 := Shp.tn_on t5_24 b25
        refine hK.out _ _ s25 (fun _ => ?_)
        clear hK K
        try simp only [Act.put, List.setIfInBounds_toArray, List.set_cons_zero, List.set_cons_succ]
        have t6 : Shp.tn 25 (u25w.setRow (wd.heap.size) (kS.v a)) (u17w.heap.size) = true := Shp.tn_setRow (wd.heap.size) (kS.v_size a) t5_25
        refine nextS 6 (by kernel_rfl) (by rfl) (fun o ho K hK => ?_)
        simp only [List.getElem?_toArray, List.getElem?_cons_succ, List.getElem?_cons_zero, Option.some.injEq] at ho; subst ho
        go_simp
        have s6 : Below w0.heap.size w0 (u25w.setRow (wd.heap.size) (kS.v a)) := below_setRow s25 sd.size _
        refine hK.out _ _ s6 (fun _ => ?_)
        clear hK K
        try simp only [Act.put, List.setIfInBounds_toArray, List.set_cons_zero, List.set_cons_succ]
        refine nextS 7 (by kernel_rfl) (by rfl) (fun o ho K hK => ?_)
        simp only [List.getElem?_toArray, List.getElem?_cons_succ, List.getElem?_cons_zero, Option.some.injEq] at ho; subst ho
        go_simp
        have s7 : Below w0.heap.size w0 ((u25w.setRow (wd.heap.size) (kS.v a)).setRow (u17w.heap.size) (kS.v b)) := below_setRow s6 s17.size _
        refine hK.out _ _ s7 (fun _ => ?_)
        clear hK K
        try simp only [Act.put, List.setIfInBounds_toArray, List.set_cons_zero, List.set_cons_succ]
        refine wpAnyH_done (by kernel_rfl) ?_ _
        refine NoPanic.normal ?_
        have RB := Shp.rd_set (S := kS) (u25w.setRow (wd.heap.size) (kS.v a)) (u17w.heap.size) b t6
        have RA : kS.rd ((u25w.setRow (wd.heap.size) (kS.v a)).setRow (u17w.heap.size) (kS.v b)) ⟨wd.heap.size, 0, none⟩ = some a := by rw [Shp.rd_far _ _ _ _ ne]; exact Shp.rd_set (S := kS) _ _ _ t4_25
        go_wp2_with fail
        go_meet
        exact ⟨_, _, rfl, rfl, RA, RB, s7⟩
    · simp only [List.getElem?_toArray, List.getElem?_cons_succ, List.getElem?_cons_zero, Option.some.injEq] at ho; subst ho
      go_simp
      have s26 : Below w0.heap.size w0 (wd.alloc (.cells #[.int .u8 0, .int .u8 0, .int .u8 0, .int .u8 0, .int .u8 0, .int .u8 0, .int .u8 0, .int .u8 0, .int .u8 0, .int .u8 0, .int .u8 0, .int .u8 0, .int .u8 0, .int .u8 0, .int .u8 0, .int .u8 0, .int .u8 0, .int .u8 0, .int .u8 0, .int .u8 0, .int .u8 0, .int .u8 0, .int .u8 0, .int .u8 0, .int .u8 0] 104)) := sd.alloc sd.size _
      have q26 : Shp.tn 25 (wd.alloc (.cells #[.int .u8 0, .int .u8 0, .int .u8 0, .int .u8 0, .int .u8 0, .int .u8 0, .int .u8 0, .int .u8 0, .int .u8 0, .int .u8 0, .int .u8 0, .int .u8 0, .int .u8 0, .int .u8 0, .int .u8 0, .int .u8 0, .int .u8 0, .int .u8 0, .int .u8 0, .int .u8 0, .int .u8 0, .int .u8 0, .int .u8 0, .int .u8 0, .int .u8 0] 104)) wd.heap.size = true := Shp.tn_of (Blk.new wd _ _) rfl
      refine hK.out _ _ s26 (fun _ => ?_)
      clear hK K
      try simp only [Act.put, List.setIfInBounds_toArray, List.set_cons_zero, List.set_cons_succ]
      obtain ⟨u26w, hu26w⟩ : ∃ V, wd.alloc (.cells #[.int .u8 0, .int .u8 0, .int .u8 0, .int .u8 0, .int .u8 0, .int .u8 0, .int .u8 0, .int .u8 0, .int .u8 0, .int .u8 0, .int .u8 0, .int .u8 0, .int .u8 0, .int .u8 0, .int .u8 0, .int .u8 0, .int .u8 0, .int .u8 0, .int .u8 0, .int .u8 0, .int .u8 0, .int .u8 0, .int .u8 0, .int .u8 0, .int .u8 0] 104) = V := ⟨_, rfl⟩
      rw [hu26w] at s26 q26
      rw [hu26w]
      clear hu26w
      refine forkS 1 4 (by kernel_rfl) (by rfl) (by rfl) (fun o ho K hK => ?_) (fun o ho K hK => ?_)
      · simp only [List.getElem?_toArray, List.getElem?_cons_succ, List.getElem?_cons_zero, Option.some.injEq] at ho; subst ho
        go_simp
        (go_at_call 43; (with_reducible refine (CA.out _).mono ?_); rintro e u27w ⟨rfl, b27⟩)
        have s27 : Below w0.heap.size w0 u27w := below_up s26 s26.size b27
        have t5_27 := Shp.tn_on q26 b27
        refine hK.out _ _ s27 (fun _ => ?_)
        clear hK K
        try simp only [Act.put, List.setIfInBounds_toArray, List.set_cons_zero, List.set_cons_succ]
        refine forkS 3 4 (by kernel_rfl) (by rfl) (by rfl) (fun o ho K hK => ?_) (fun o ho K hK => ?_)
        · simp only [List.getElem?_toArray, List.getElem?_cons_succ, List.getElem?_cons_zero, Option.some.injEq] at ho; subst ho
          go_simp
          (go_at_call 43; (with_reducible refine (CB.out _).mono ?_); rintro e u28w ⟨rfl, b28⟩)
          have s28 : Below w0.heap.size w0 u28w := below_up s27 s27.size b28
          have t5_28 := Shp.tn_on t5_27 b28
          refine hK.out _ _ s28 (fun _ => ?_)
          clear hK K
          try simp only [Act.put, List.setIfInBounds_toArray, List.set_cons_zero, List.set_cons_succ]
          refine nextS 4 (by kernel_rfl) (by rfl) (fun o ho K hK => ?_)
          simp only [List.getElem?_toArray, List.getElem?_cons_succ, List.getElem?_cons_zero, Option.some.injEq] at ho; subst ho
          go_simp
          have s29 : Below w0.heap.size w0 (u28w.alloc (.cells #[.int .u8 0, .int .u8 0, .int .u8 0, .int .u8 0, .int .u8 0, .int .u8 0, .int .u8 0, .int .u8 0, .int .u8 0, .int .u8 0, .int .u8 0, .int .u8 0, .int .u8 0, .int .u8 0, .int .u8 0, .int .u8 0, .int .u8 0, .int .u8 0, .int .u8 0, .int .u8 0, .int .u8 0, .int .u8 0, .int .u8 0, .int .u8 0, .int .u8 0] 104)) := s28.alloc s28.size _
          have q29 : Shp.tn 25 (u28w.alloc (.cells #[.int .u8 0, .int .u8 0, .int .u8 0, .int .u8 0, .int .u8 0, .int .u8 0, .int .u8 0, .int .u8 0, .int .u8 0, .int .u8 0, .int .u8 0, .int .u8 0, .int .u8 0, .int .u8 0, .int .u8 0, .int .u8 0, .int .u8 0, .int .u8 0, .int .u8 0, .int .u8 0, .int .u8 0, .int .u8 0, .int .u8 0, .int .u8 0, .int .u8 0] 104)) u28w.heap.size = true := Shp.tn_of (Blk.new u28w _ _) rfl
          have t5_29 := Shp.tn_on t5_28 (below_alloc_ u28w (.cells #[.int .u8 0, .int .u8 0, .int .u8 0, .int .u8 0, .int .u8 0, .int .u8 0, .int .u8 0, .int .u8 0, .int .u8 0, .int .u8 0, .int .u8 0, .int .u8 0, .int .u8 0, .int .u8 0, .int .u8 0, .int .u8 0, .int .u8 0, .int .u8 0, .int .u8 0, .int .u8 0, .int .u8 0, .int .u8 0, .int .u8 0, .int .u8 0, .int .u8 0] 104))
          have ne : u28w.heap.size ≠ wd.heap.size := Nat.ne_of_gt (Shp.tn_lt t5_28)
          refine hK.out _ _ s29 (fun _ => ?_)
          clear hK K
          try simp only [Act.put, List.setIfInBounds_toArray, List.set_cons_zero, List.set_cons_succ]
          obtain ⟨u29w, hu29w⟩ : ∃ V, u28w.alloc (.cells #[.int .u8 0, .int .u8 0, .int .u8 0, .int .u8 0, .int .u8 0, .int .u8 0, .int .u8 0, .int .u8 0, .int .u8 0, .int .u8 0, .int .u8 0, .int .u8 0, .int .u8 0, .int .u8 0, .int .u8 0, .int .u8 0, .int .u8 0, .int .u8 0, .int .u8 0, .int .u8 0, .int .u8 0, .int .u8 0, .int .u8 0, .int .u8 0, .int .u8 0] 104) = V := ⟨_, rfl⟩
          rw [hu29w] at s29 q29 t5_29
          rw [hu29w]
          clear hu29w
          have t6 : Shp.tn 25 (u29w.setRow (u28w.heap.size) (kS.v a)) (wd.heap.size) = true := Shp.tn_setRow (u28w.heap.size) (kS.v_size a) t5_29
          refine nextS 6 (by kernel_rfl) (by rfl) (fun o ho K hK => ?_)
          simp only [List.getElem?_toArray, List.getElem?_cons_succ, List.getElem?_cons_zero, Option.some.injEq] at ho; subst ho
          go_simp
          have s6 : Below w0.heap.size w0 (u29w.setRow (u28w.heap.size) (kS.v a)) := below_setRow s29 s28.size _
          refine hK.out _ _ s6 (fun _ => ?_)
          clear hK K
          try simp only [Act.put, List.setIfInBounds_toArray, List.set_cons_zero, List.set_cons_succ]
          refine nextS 7 (by kernel_rfl) (by rfl) (fun o ho K hK => ?_)
          simp only [List.getElem?_toArray, List.getElem?_cons_succ, List.getElem?_cons_zero, Option.some.injEq] at ho; subst ho
          go_simp
          have s7 : Below w0.heap.size w0 ((u29w.setRow (u28w.heap.size) (kS.v a)).setRow (wd.heap.size) (kS.v b)) := below_setRow s6 sd.size _
          refine hK.out _ _ s7 (fun _ => ?_)
          clear hK K
          try simp only [Act.put, List.setIfInBounds_toArray, List.set_cons_zero, List.set_cons_succ]
          refine wpAnyH_done (by kernel_rfl) ?_ _
          refine NoPanic.normal ?_
          have RB := Shp.rd_set (S := kS) (u29w.setRow (u28w.heap.size) (kS.v a)) (wd.heap.size) b t6
          have RA : kS.rd ((u29w.setRow (u28w.heap.size) (kS.v a)).setRow (wd.heap.size) (kS.v b)) ⟨u28w.heap.size, 0, none⟩ = some a := by rw [Shp.rd_far _ _ _ _ ne]; exact Shp.rd_set (S := kS) _ _ _ q29
          go_wp2_with fail
          go_meet
          exact ⟨_, _, rfl, rfl, RA, RB, s7⟩
        · simp only [List.getElem?_toArray, List.getElem?_cons_succ, List.getElem?_cons_zero, Option.some.injEq] at ho; subst ho
          go_simp
          have s30 : Below w0.heap.size w0 (u27w.alloc (.cells #[.int .u8 0, .int .u8 0, .int .u8 0, .int .u8 0, .int .u8 0, .int .u8 0, .int .u8 0, .int .u8 0, .int .u8 0, .int .u8 0, .int .u8 0, .int .u8 0, .int .u8 0, .int .u8 0, .int .u8 0, .int .u8 0, .int .u8 0, .int .u8 0, .int .u8 0, .int .u8 0, .int .u8 0, .int .u8 0, .int .u8 0, .int .u8 0, .int .u8 0] 104)) := s27.alloc s27.size _
          have q30 : Shp.tn 25 (u27w.alloc (.cells #[.int .u8 0, .int .u8 0, .int .u8 0, .int .u8 0, .int .u8 0, .int .u8 0, .int .u8 0, .int .u8 0, .int .u8 0, .int .u8 0, .int .u8 0, .int .u8 0, .int .u8 0, .int .u8 0, .int .u8 0, .int .u8 0, .int .u8 0, .int .u8 0, .int .u8 0, .int .u8 0, .int .u8 0, .int .u8 0, .int .u8 0, .int .u8 0, .int .u8 0] 104)) u27w.heap.size = true := Shp.tn_of (Blk.new u27w _ _) rfl
          have t5_30 := Shp.tn_on t5_27 (below_alloc_ u27w (.cells #[.int .u8 0, .int .u8 0, .int .u8 0, .int .u8 0, .int .u8 0, .int .u8 0, .int .u8 0, .int .u8 0, .int .u8 0, .int .u8 0, .int .u8 0, .int .u8 0, .int .u8 0, .int .u8 0, .int .u8 0, .int .u8 0, .int .u8 0, .int .u8 0, .int .u8 0, .int .u8 0, .int .u8 0, .int .u8 0, .int .u8 0, .int .u8 0, .int .u8 0] 104))
          have ne : u27w.heap.size ≠ wd.heap.size := Nat.ne_of_gt (Shp.tn_lt t5_27)
          refine hK.out _ _ s30 (fun _ => ?_)
          clear hK K
          try simp only [Act.put, List.setIfInBounds_toArray, List.set_cons_zero, List.set_cons_succ]
          obtain ⟨u30w, hu30w⟩ : ∃ V, u27w.alloc (.cells #[.int .u8 0, .int .u8 0, .int .u8 0, .int .u8 0, .int .u8 0, .int .u8 0, .int .u8 0, .int .u8 0, .int .u8 0, .int .u8 0, .int .u8 0, .int .u8 0, .int .u8 0, .int .u8 0, .int .u8 0, .int .u8 0, .int .u8 0, .int .u8 0, .int .u8 0, .int .u8 0, .int .u8 0, .int .u8 0, .int .u8 0, .int .u8 0, .int .u8 0] 104) = V := ⟨_, rfl⟩
          rw [hu30w] at s30 q30 t5_30
          rw [hu30w]
          clear hu30w
          refine nextS 3 (by kernel_rfl) (by rfl) (fun o ho K hK => ?_)
          simp only [List.getElem?_toArray, List.getElem?_cons_succ, List.getElem?_cons_zero, Option.some.injEq] at ho; subst ho
          go_simp
          (go_at_call 43; (with_reducible refine (CB.out _).mono ?_); rintro e u31w ⟨rfl, b31⟩)
          have s31 : Below w0.heap.size w0 u31w := below_up s30 s30.size b31
          have t4_31 := Shp.tn_on q30 b31
          have t5_31 := Shp.tn_on t5_30 b31
          refine hK.out _ _ s31 (fun _ => ?_)
          clear hK K
          try simp only [Act.put, List.setIfInBounds_toArray, List.set_cons_zero, List.set_cons_succ]
          have t6 : Shp.tn 25 (u31w.setRow (u27w.heap.size) (kS.v a)) (wd.heap.size) = true := Shp.tn_setRow (u27w.heap.size) (kS.v_size a) t5_31
          refine nextS 6 (by kernel_rfl) (by rfl) (fun o ho K hK => ?_)
          simp only [List.getElem?_toArray, List.getElem?_cons_succ, List.getElem?_cons_zero, Option.some.injEq] at ho; subst ho
          go_simp
          have s6 : Below w0.heap.size w0 (u31w.setRow (u27w.heap.size) (kS.v a)) := below_setRow s31 s27.size _
          refine hK.out _ _ s6 (fun _ => ?_)
          clear hK K
          try simp only [Act.put, List.setIfInBounds_toArray, List.set_cons_zero, List.set_cons_succ]
          refine nextS 7 (by kernel_rfl) (by rfl) (fun o ho K hK => ?_)
          simp only [List.getElem?_toArray, List.getElem?_cons_succ, List.getElem?_cons_zero, Option.some.injEq] at ho; subst ho
          go_simp
          have s7 : Below w0.heap.size w0 ((u31w.setRow (u27w.heap.size) (kS.v a)).setRow (wd.heap.size) (kS.v b)) := below_setRow s6 sd.size _
          refine hK.out _ _ s7 (fun _ => ?_)
          clear hK K
          try simp only [Act.put, List.setIfInBounds_toArray, List.set_cons_zero, List.set_cons_succ]
          refine wpAnyH_done (by kernel_rfl) ?_ _
          refine NoPanic.normal ?_
          have RB := Shp.rd_set (S := kS) (u31w.setRow (u27w.heap.size) (kS.v a)) (wd.heap.size) b t6
          have RA : kS.rd ((u31w.setRow (u27w.heap.size) (kS.v a)).setRow (wd.heap.size) (kS.v b)) ⟨u27w.heap.size, 0, none⟩ = some a := by rw [Shp.rd_far _ _ _ _ ne]; exact Shp.rd_set (S := kS) _ _ _ t4_31
          go_wp2_with fail
          go_meet
          exact ⟨_, _, rfl, rfl, RA, RB, s7⟩
      · simp only [List.getElem?_toArray, List.getElem?_cons_succ, List.getElem?_cons_zero, Option.some.injEq] at ho; subst ho
        go_simp
        have s32 : Below w0.heap.size w0 (u26w.alloc (.cells #[.int .u8 0, .int .u8 0, .int .u8 0, .int .u8 0, .int .u8 0, .int .u8 0, .int .u8 0, .int .u8 0, .int .u8 0, .int .u8 0, .int .u8 0, .int .u8 0, .int .u8 0, .int .u8 0, .int .u8 0, .int .u8 0, .int .u8 0, .int .u8 0, .int .u8 0, .int .u8 0, .int .u8 0, .int .u8 0, .int .u8 0, .int .u8 0, .int .u8 0] 104)) := s26.alloc s26.size _
        have q32 : Shp.tn 25 (u26w.alloc (.cells #[.int .u8 0, .int .u8 0, .int .u8 0, .int .u8 0, .int .u8 0, .int .u8 0, .int .u8 0, .int .u8 0, .int .u8 0, .int .u8 0, .int .u8 0, .int .u8 0, .int .u8 0, .int .u8 0, .int .u8 0, .int .u8 0, .int .u8 0, .int .u8 0, .int .u8 0, .int .u8 0, .int .u8 0, .int .u8 0, .int .u8 0, .int .u8 0, .int .u8 0] 104)) u26w.heap.size = true := Shp.tn_of (Blk.new u26w _ _) rfl
        have t5_32 := Shp.tn_on q26 (below_alloc_ u26w (.cells #[.int .u8 0, .int .u8 0, .int .u8 0, .int .u8 0, .int .u8 0, .int .u8 0, .int .u8 0, .int .u8 0, .int .u8 0, .int .u8 0, .int .u8 0, .int .u8 0, .int .u8 0, .int .u8 0, .int .u8 0, .int .u8 0, .int .u8 0, .int .u8 0, .int .u8 0, .int .u8 0, .int .u8 0, .int .u8 0, .int .u8 0, .int .u8 0, .int .u8 0] 104))
        have ne : u26w.heap.size ≠ wd.heap.size := Nat.ne_of_gt (Shp.tn_lt q26)
        refine hK.out _ _ s32 (fun _ => ?_)
        clear hK K
        try simp only [Act.put, List.setIfInBounds_toArray, List.set_cons_zero, List.set_cons_succ]
        obtain ⟨u32w, hu32w⟩ : ∃ V, u26w.alloc (.cells #[.int .u8 0, .int .u8 0, .int .u8 0, .int .u8 0, .int .u8 0, .int .u8 0, .int .u8 0, .int .u8 0, .int .u8 0, .int .u8 0, .int .u8 0, .int .u8 0, .int .u8 0, .int .u8 0, .int .u8 0, .int .u8 0, .int .u8 0, .int .u8 0, .int .u8 0, .int .u8 0, .int .u8 0, .int .u8 0, .int .u8 0, .int .u8 0, .int .u8 0] 104) = V := ⟨_, rfl⟩
        rw [hu32w] at s32 q32 t5_32
        rw [hu32w]
        clear hu32w
        refine nextS 1 (by kernel_rfl) (by rfl) (fun o ho K hK => ?_)
        simp only [List.getElem?_toArray, List.getElem?_cons_succ, List.getElem?_cons_zero, Option.some.injEq] at ho; subst ho
        go_simp
        (go_at_call 43; (with_reducible refine (CA.out _).mono ?_); rintro e u33w ⟨rfl, b33⟩)
        have s33 : Below w0.heap.size w0 u33w := below_up s32 s32.size b33
        have t4_33 := Shp.tn_on q32 b33
        have t5_33 := Shp.tn_on t5_32 b33
        refine hK.out _ _ s33 (fun _ => ?_)
        clear hK K
        try simp only [Act.put, List.setIfInBounds_toArray, List.set_cons_zero, List.set_cons_succ]
        refine nextS 3 (by kernel_rfl) (by rfl) (fun o ho K hK => ?_)
        simp only [List.getElem?_toArray, List.getElem?_cons_succ, List.getElem?_cons_zero, Option.some.injEq] at ho; subst ho
        go_simp
        (go_at_call 43; (with_reducible refine (CB.out _).mono ?_); rintro e u34w ⟨rfl, b34⟩)
        have s34 : Below w0.heap.size w0 u34w := below_up s33 s33.size b34
        have t4_34 := Shp.tn_on t4_33 b34
        have t5_34 := Shp.tn_on t5_33 b34
        refine hK.out _ _ s34 (fun _ => ?_)
        clear hK K
        try simp only [Act.put, List.setIfInBounds_toArray, List.set_cons_zero, List.set_cons_succ]
        have t6 : Shp.tn 25 (u34w.setRow (u26w.heap.size) (kS.v a)) (wd.heap.size) = true := Shp.tn_setRow (u26w.heap.size) (kS.v_size a) t5_34
        refine nextS 6 (by kernel_rfl) (by rfl) (fun o ho K hK => ?_)
        simp only [List.getElem?_toArray, List.getElem?_cons_succ, List.getElem?_cons_zero, Option.some.injEq] at ho; subst ho
        go_simp
        have s6 : Below w0.heap.size w0 (u34w.setRow (u26w.heap.size) (kS.v a)) := below_setRow s34 s26.size _
        refine hK.out _ _ s6 (fun _ => ?_)
        clear hK K
        try simp only [Act.put, List.setIfInBounds_toArray, List.set_cons_zero, List.set_cons_succ]
        refine nextS 7 (by kernel_rfl) (by rfl) (fun o ho K hK => ?_)
        simp only [List.getElem?_toArray, List.getElem?_cons_succ, List.getElem?_cons_zero, Option.some.injEq] at ho; subst ho
        go_simp
        have s7 : Below w0.heap.size w0 ((u34w.setRow (u26w.heap.size) (kS.v a)).setRow (wd.heap.size) (kS.v b)) := below_setRow s6 sd.size _
        refine hK.out _ _ s7 (fun _ => ?_)
        clear hK K
        try simp only [Act.put, List.setIfInBounds_toArray, List.set_cons_zero, List.set_cons_succ]
        refine wpAnyH_done (by kernel_rfl) ?_ _
        refine NoPanic.normal ?_
        have RB := Shp.rd_set (S := kS) (u34w.setRow (u26w.heap.size) (kS.v a)) (wd.heap.size) b t6
        have RA : kS.rd ((u34w.setRow (u26w.heap.size) (kS.v a)).setRow (wd.heap.size) (kS.v b)) ⟨u26w.heap.size, 0, none⟩ = some a := by rw [Shp.rd_far _ _ _ _ ne]; exact Shp.rd_set (S := kS) _ _ _ t4_34
        go_wp2_with fail
        go_meet
        exact ⟨_, _, rfl, rfl, RA, RB, s7⟩
  case rest =>
    obtain ⟨k5, k6, rfl, rfl, RA, RB, b1⟩ := hcut
    have bF := below_up b0 b0.size b1
    have cq := Lib.hid (fun p => bytes_compare (some ⟨k5, 0, none⟩) (some ⟨k6, 0, none⟩) 25 25 25 25 a.l b.l (D.cmp a.l b.l) (ext wc p) ((krow_rd RA).on (ext_below wc p)) ((krow_rd RB).on (ext_below wc p)) ⟨a.lt⟩ ⟨b.lt⟩ ⟨rfl⟩)
    obtain ⟨r, hr⟩ : ∃ r, D.cmp a.l b.l = r := ⟨_, rfl⟩
    rw [hr] at cq
    have HR := Lib.hid hr
    clear hr
    go_wp2_with fail
    refine wp_region_ext (by kernel_rfl) (by kernel_rfl) ?_
    repeat (go_big_quiet_step ((go_at_call 50; exact calls_same (cq.out _))))
    refine wpQuiet_nil ?_
    intro w9 hw9
    have b9 := bF.trans ((ext_to hw9).mono bF.size)
    clear hw9
    go_wp2
    go_ret
    exact ⟨by show Ending.returned (.bool (decide (r < 0))) = _; rw [HR.out], b9⟩
end Go.Proofs.Ytphbjkcplpfogaa
