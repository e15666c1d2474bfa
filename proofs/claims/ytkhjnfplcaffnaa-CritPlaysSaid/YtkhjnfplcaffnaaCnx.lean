/-
  The first key behind one.
-/
import Derived.Test.YtkhjnfplcaffnaaCgv
import Derived.Test.YtkhjnfplcaffnaaRnd
set_option linter.unusedVariables false
set_option linter.unusedSimpArgs false
set_option maxRecDepth 100000
namespace Go.Proofs.Ytkhjnfplcaffnaa
open Go.RowKit Go.Shelf
attribute [local go_sem] Oper.semAt_some
attribute [local go_sem ↓] Go.wp_at_zero Go.wp_at_succ ld_k lv_k st_k eq_k ne_k bd_k ld_b lv_b st_b eq_b ne_b bd_25 ld_r lv_r st_rk eq_rk ne_rk bd_r ld_p lv_p st_px bd_p Nm.ld_a Nm.ld_n Nm.st_a Nm.st_n Nm.eq_a Nm.eq_n Nm.ne_a Nm.ne_n Nm.lv_a Nm.lv_n ld_a ld_n st_a st_n eq_a eq_n ne_a ne_n lv_a lv_n ld_l lv_l st_l bd_l bd_n bs_l bs_k
attribute [local go_sem] run_ldk run_lvk run_stk run_eqk run_nek run_bdk_z run_ldb run_lvb run_stb run_eqb run_neb run_ldr run_lvr run_strk run_eqrk run_nerk run_bdr_z run_ldp run_lvp run_stpx Nm.run_ld_a Nm.run_ld_n Nm.run_st_n Nm.run_eq_a Nm.run_eq_n Nm.run_ne_a Nm.run_ne_n Nm.run_lv_a Nm.run_lv_n Nm.rd_new Nm.rd_old Nm.rd_drew Nm.rd_drewN run_ld_a run_ld_n run_sw_a run_sw_n run_eq_a run_eq_n run_ne_a run_ne_n run_lv_a run_lv_n st_z ne_z eq_z rd_new rd_old rd_drew rd_drewN Shp.rd_new Shp.rd_old Shp.rd_drew Shp.rd_drewN Shp.rd_set Shp.tn_new Shp.tn_old Shp.tn_drew Shp.tn_drewN tn_new tn_old tn_drew tn_drewN rd_set setRow_alloc run_stn3 run_stt15 run_lvl run_ldl run_stl run_bdl run_bdn run_bdn0 run_bsl run_bsk Shp.rd_extk cell_ext
/-- The tree behind a key, by the nodes that its bits pass. -/
def bst (k : D.Ky) (a : Option Tk) (y : Tk) : Option Tk := if Cr.Bits.bt k y.bit = true then a else kid y true
def bhf (k : D.Ky) (a : Option Tk) (l : List Tk) : Option Tk := l.foldl (bst k) a
theorem bhf_app (k : D.Ky) (a : Option Tk) (l : List Tk) (y : Tk) : bhf k a (l ++ [y]) = bst k (bhf k a l) y := by simp [bhf]
theorem bhf_beh {k : D.Ky} {d : Nat} : ∀ {t : Tk} {a : Option Tk}, bhf k a (t.path k d) = t.beh k d a
  | .lf _ _ _, a => rfl
  | .br b c l r, a => by
    simp only [Cr.Tr.path, Cr.Tr.beh]
    by_cases h : c < d
    · rw [if_pos h, if_pos h]
      by_cases hb : Cr.Bits.bt k c = true
      · rw [if_pos hb, if_pos hb]
        show bhf k (bst k a (Cr.Tr.br b c l r)) (r.path k d) = _
        have : bst k a (Cr.Tr.br b c l r) = a := by
          show (if Cr.Bits.bt k c = true then a else kid (Cr.Tr.br b c l r) true) = a
          rw [if_pos hb]
        rw [this]
        exact bhf_beh
      · rw [if_neg hb, if_neg hb]
        show bhf k (bst k a (Cr.Tr.br b c l r)) (l.path k d) = _
        have : bst k a (Cr.Tr.br b c l r) = some r := by
          show (if Cr.Bits.bt k c = true then a else kid (Cr.Tr.br b c l r) true) = some r
          rw [if_neg hb]; rfl
        rw [this]
        exact bhf_beh
    · rw [if_neg h, if_neg h]; rfl
/-- What Next tells. -/
def nx (k : D.Ky) (l : List Lf) : D.Ky := (Cr.nxt k l).getD D.zK
theorem nx_left {w : World} {g : Nat} {t : Tk} (h : TR w g (some t)) {k : D.Ky} {r : Nat} (hr : Cr.par (t.near k).hd.1 k = r) (hl : r < 200) (hb : Cr.Bits.bt k r = false) : nx k t.ls = fk (subo k r (some t)) ∧ (Cr.nxt k t.ls).isSome = true := by
  have := Cr.Tr.sub_find hl hb (h.wf t rfl) hr
  unfold nx Cr.nxt
  rw [this]
  exact ⟨rfl, rfl⟩
theorem nx_right {w : World} {g : Nat} {t : Tk} (h : TR w g (some t)) {k : D.Ky} {r : Nat} (hr : Cr.par (t.near k).hd.1 k = r) (hb : r = 200 ∨ r < 200 ∧ Cr.Bits.bt k r = true) : nx k t.ls = fk (bhf k none (pth k r (some t))) ∧ (Cr.nxt k t.ls).isSome = (bhf k none (pth k r (some t))).isSome := by
  have := Cr.Tr.beh_find (o := none) (h.wf t rfl) hr hb
  have e : bhf k none (pth k r (some t)) = t.beh k r none := bhf_beh
  rw [e]
  unfold nx Cr.nxt
  simp only [Cr.Tr.hdo, Option.or_none] at this
  rw [this]
  cases t.beh k r none <;> exact ⟨rfl, rfl⟩
theorem bhf_ok {w : World} {g : Nat} {t : Tk} (h : TR w g (some t)) {k : D.Ky} {r : Nat} : ∀ (l : List Tk) (a : Option Tk), (∀ u, a = some u → Nd w u ∧ u.wf ∧ ∀ q ∈ u.bl, q ∈ t.bl) → (∀ y ∈ l, y ∈ pth k r (some t)) → ∀ u, bhf k a l = some u → Nd w u ∧ u.wf ∧ ∀ q ∈ u.bl, q ∈ t.bl
  | [], a, ha, _, u, hu => ha u hu
  | y :: l, a, ha, hl, u, hu => by
    refine bhf_ok h l (bst k a y) (fun v hv => ?_) (fun z hz => hl z (List.mem_cons_of_mem _ hz)) u hu
    unfold bst at hv
    by_cases hb : Cr.Bits.bt k y.bit = true
    · rw [if_pos hb] at hv; exact ha v hv
    · rw [if_neg hb] at hv
      obtain ⟨h1, h2, h3, t', h4, h5⟩ := h.mem (hl y (List.mem_cons_self ..))
      obtain ⟨k1, k2, _, k4⟩ := kid_ok h1 h2 hv
      injection h4 with h4
      subst h4
      exact ⟨k1, k2, fun q hq => h5 q (k4 q hq)⟩
theorem next_nil (k : D.Ky) (w : World) : Calls Try.prog 19 #[.pointer none, .agg (kS.v k)] w fun e w' => e = .returned (.tuple #[.agg (kS.v D.zK), .bool false]) ∧ Below w.heap.size w w' := by
  obtain ⟨w0, hw0⟩ : ∃ w0, (w.alloc (.cells (kS.v k) 30)).alloc (.cells z25 30) = w0 := ⟨_, rfl⟩
  have f0 : kS.rd w0 ⟨w.heap.size, 0, none⟩ = some k := by rw [← hw0]; exact Shp.rd_on (Shp.rd_new (S := kS) w _ _ _ rfl) (below_alloc_ _ _)
  have b0 : Below w.heap.size w w0 := by rw [← hw0]; exact (below_alloc_ _ _).alloc (by simp) _
  have k0 : Shp.tn 25 w0 (w.heap.size + 1) = true := by rw [← hw0]; exact Shp.tn_new _ _ _ _ _ (by simp) rfl
  unfold z25 at hw0
  have CP := Lib.hid (fun w => place200n k w)
  go_enter Try.func19, Try.ntmps19
  go_wp2_with fail
  try rw [hw0]
  clear hw0
  go_wp2_with (go_at_call 35; (with_reducible refine (CP.out _).mono ?_); rintro e w1 ⟨kt, rfl, hk, hB, b1⟩; have hc := hB.cell; have z1 := below_up b0 b0.size b1; have k1 := Shp.tn_on k0 b1)
  have hset := Shp.rd_set (S := kS) w1 (w.heap.size + 1) D.zK k1
  refine bodyPost_ret (v := .tuple #[.agg (kS.v D.zK), .bool false]) (by rw [results_ct rfl]; simp [asAddr, Result.andThen, lvk_of hset]) rfl ⟨rfl, below_setRow z1 (Nat.le_succ _) _⟩
set_option maxHeartbeats 4000000 in
theorem next_none (g : Nat) (k : D.Ky) (w : World) (hT : TR w g none) : Calls Try.prog 19 #[.pointer (some ⟨g, 0, none⟩), .agg (kS.v k)] w fun e w' => e = .returned (.tuple #[.agg (kS.v D.zK), .bool false]) ∧ Below w.heap.size w w' := by
  obtain ⟨w0, hw0⟩ : ∃ w0, (w.alloc (.cells (kS.v k) 30)).alloc (.cells z25 30) = w0 := ⟨_, rfl⟩
  have f0 : kS.rd w0 ⟨w.heap.size, 0, none⟩ = some k := by rw [← hw0]; exact Shp.rd_on (Shp.rd_new (S := kS) w _ _ _ rfl) (below_alloc_ _ _)
  have b0 : Below w.heap.size w w0 := by rw [← hw0]; exact (below_alloc_ _ _).alloc (by simp) _
  have k0 : Shp.tn 25 w0 (w.heap.size + 1) = true := by rw [← hw0]; exact Shp.tn_new _ _ _ _ _ (by simp) rfl
  have hT0 := hT.on b0
  unfold z25 at hw0
  have CP := Lib.hid (place200 g none k w0 hT0)
  clear hT
  go_enter Try.func19, Try.ntmps19
  go_wp2_with fail
  try rw [hw0]
  clear hw0
  go_wp2_with (go_at_call 35; (with_reducible refine CP.out.mono ?_); rintro e w1 ⟨rfl, b1⟩; have hc : w1.cell? (plc k ⟨g, 0, none⟩ (pth k 200 none)) = some (.pointer none) := (hT0.on b1).sub_cell (Nat.le_refl _); have z1 := below_up b0 b0.size b1; have k1 := Shp.tn_on k0 b1)
  have hset := Shp.rd_set (S := kS) w1 (w.heap.size + 1) D.zK k1
  refine bodyPost_ret (v := .tuple #[.agg (kS.v D.zK), .bool false]) (by rw [results_ct rfl]; simp [asAddr, Result.andThen, lvk_of hset]) rfl ⟨rfl, below_setRow z1 (Nat.le_succ _) _⟩
set_option maxHeartbeats 16000000 in
theorem next_some (g : Nat) (t : Tk) (k : D.Ky) (w : World) (hT : TR w g (some t)) : Calls Try.prog 19 #[.pointer (some ⟨g, 0, none⟩), .agg (kS.v k)] w fun e w' => e = .returned (.tuple #[.agg (kS.v (nx k t.ls)), .bool (Cr.nxt k t.ls).isSome]) ∧ Below w.heap.size w w' := by
  obtain ⟨w0, hw0⟩ : ∃ w0, (w.alloc (.cells (kS.v k) 30)).alloc (.cells z25 30) = w0 := ⟨_, rfl⟩
  have f0 : kS.rd w0 ⟨w.heap.size, 0, none⟩ = some k := by rw [← hw0]; exact Shp.rd_on (Shp.rd_new (S := kS) w _ _ _ rfl) (below_alloc_ _ _)
  have b0 : Below w.heap.size w w0 := by rw [← hw0]; exact (below_alloc_ _ _).alloc (by simp) _
  have k0 : Shp.tn 25 w0 (w.heap.size + 1) = true := by rw [← hw0]; exact Shp.tn_new _ _ _ _ _ (by simp) rfl
  have hT0 := hT.on b0
  have HZ0 : Kept (w0.heap.size = w.heap.size + 2) := ⟨by rw [← hw0]; simp⟩
  unfold z25 at hw0
  have CP := Lib.hid (place200 g (some t) k w0 hT0)
  obtain ⟨a, x, u, hnr⟩ := Cr.Tr.near_lf k t
  have hs2 := subo_near hT k
  rw [hnr] at hs2
  have CPa := Lib.hid (fun w => parting_any x k w)
  have hl := Cr.par_le x k
  obtain ⟨r, hr⟩ : ∃ r, Cr.par x k = r := ⟨_, rfl⟩
  have hpar : Cr.par (t.near k).hd.1 k = r := by rw [hnr]; exact hr
  rw [hr] at CPa hl
  have HN := Lib.hid (fun w1 (hT1 : TR w1 g (some t)) => show NF w1 a 200 none none (x, u) from by have := (nd_near hT1 k).nf; rw [hnr] at this; exact this)
  have CB := Lib.hid (fun w => kbytes_any k w)
  have CSi := Lib.hid (fun i (hi : i < 200) w => side_any k i hi w)
  clear hr hnr
  refine (callsIn_wide (n := 10)).1 ?_
  refine callsIn_of_wp_marks Try.func19 rfl trivial ?_ rfl
  simp only [Try.ntmps19, List.size_toArray, List.length_cons, List.length_nil, Nat.reduceAdd, Nat.reduceSub, Array.replicate_succ, Array.replicate_zero, List.push_toArray, List.append_toArray, List.nil_append, List.cons_append]
  gi_wp2
  try rw [hw0]
  clear hw0
  refine ⟨trivial, ?_⟩
  refine (callsIn_wide.2 CP.out).mono ?_
  rintro e w1 ⟨rfl, b1⟩
  have hT1 := hT0.on b1
  have hc : w1.cell? (plc k ⟨g, 0, none⟩ (pth k 200 (some t))) = some (.pointer (some ⟨a, 0, none⟩)) := by
    have := hT1.sub_cell (k := k) (Nat.le_refl 200)
    rw [hs2] at this
    exact this
  have f1 := Shp.rd_on f0 b1
  have kk1 := Shp.tn_on k0 b1
  have k1 := (HN.out _ hT1).key
  have z1 := below_up b0 b0.size b1
  have hz1 : w.heap.size + 2 ≤ w1.heap.size := by rw [← HZ0.out]; exact b1.size
  clear b1 hT0 f0 k0 HN CP hs2
  gi_wp2
  refine wpIn_wide.2 ?_
  go_cut [7, 8] from 19 (fun s7 s8 wx => ∃ k8 : Nat, s7 = .int .i64 (r : Nat) ∧ s8 = .pointer (some ⟨k8, 0, none⟩) ∧ kS.rd wx ⟨k8, 0, none⟩ = some k ∧ w1.heap.size ≤ k8 ∧ Below w1.heap.size w1 wx)
  case first =>
    refine wp_region_noPanic ?_
    refine wp_region_held_drew (S := fun W => Below w1.heap.size w1 W) (by kernel_rfl) (Below.refl _ _).drew (fun _ => ?_)
    obtain ⟨wd, hwd⟩ : ∃ wd, w1.drew = wd := ⟨_, rfl⟩
    have sd : Below w1.heap.size w1 wd := by rw [← hwd]; exact (Below.refl _ _).drew
    rw [hwd]
    clear hwd
    refine takeS 0 (some 19) ?vr0 (by kernel_rfl) (by kernel_rfl) (by kernel_rfl) (by kernel_rfl) (fun _ _ _ h => h) (by rfl) ?hyr0 sd ?restr0
    case hyr0 => (intro o ho W hW; simp only [List.getElem?_toArray, List.getElem?_cons_succ, List.getElem?_cons_zero, Option.some.injEq] at ho; subst ho; (try dsimp only at hW); skip; go_simp; try rfl)
    try simp only [Act.put, List.setIfInBounds_toArray, List.set_cons_zero, List.set_cons_succ]
    refine takeS 1 (some 20) ?vr1 (by kernel_rfl) (by kernel_rfl) (by kernel_rfl) (by kernel_rfl) (fun _ _ _ h => h) (by rfl) ?hyr1 sd ?restr1
    case hyr1 => (intro o ho W hW; simp only [List.getElem?_toArray, List.getElem?_cons_succ, List.getElem?_cons_zero, Option.some.injEq] at ho; subst ho; (try dsimp only at hW); skip; go_simp; try rfl)
    try simp only [Act.put, List.setIfInBounds_toArray, List.set_cons_zero, List.set_cons_succ]
    refine takeS 2 (some 21) ?vr2 (by kernel_rfl) (by kernel_rfl) (by kernel_rfl) (by kernel_rfl) (fun _ _ _ h => h) (by rfl) ?hyr2 sd ?restr2
    case hyr2 => (intro o ho W hW; simp only [List.getElem?_toArray, List.getElem?_cons_succ, List.getElem?_cons_zero, Option.some.injEq] at ho; subst ho; (try dsimp only at hW); skip; go_simp; try rfl)
    try simp only [Act.put, List.setIfInBounds_toArray, List.set_cons_zero, List.set_cons_succ]
    refine takeS 3 (some 22) ?vr3 (by kernel_rfl) (by kernel_rfl) (by kernel_rfl) (by kernel_rfl) (fun _ _ _ h => h) (by rfl) ?hyr3 sd ?restr3
    case hyr3 => (intro o ho W hW; simp only [List.getElem?_toArray, List.getElem?_cons_succ, List.getElem?_cons_zero, Option.some.injEq] at ho; subst ho; (try dsimp only at hW); skip; go_simp; try rfl)
    try simp only [Act.put, List.setIfInBounds_toArray, List.set_cons_zero, List.set_cons_succ]
    refine takeS 4 (some 23) ?vr4 (by kernel_rfl) (by kernel_rfl) (by kernel_rfl) (by kernel_rfl) (fun _ _ _ h => h) (by rfl) ?hyr4 sd ?restr4
    case hyr4 => (intro o ho W hW; simp only [List.getElem?_toArray, List.getElem?_cons_succ, List.getElem?_cons_zero, Option.some.injEq] at ho; subst ho; (try dsimp only at hW); have g1 := Shp.rd_on k1 hW; go_simp; try rfl)
    try simp only [Act.put, List.setIfInBounds_toArray, List.set_cons_zero, List.set_cons_succ]
    refine takeS 5 (some 24) ?vr5 (by kernel_rfl) (by kernel_rfl) (by kernel_rfl) (by kernel_rfl) (fun _ _ _ h => h) (by rfl) ?hyr5 sd ?restr5
    case hyr5 => (intro o ho W hW; simp only [List.getElem?_toArray, List.getElem?_cons_succ, List.getElem?_cons_zero, Option.some.injEq] at ho; subst ho; (try dsimp only at hW); have g2 := Shp.rd_on f1 hW; go_simp; try rfl)
    try simp only [Act.put, List.setIfInBounds_toArray, List.set_cons_zero, List.set_cons_succ]
    refine takeS 7 (some 26) ?vr7 (by kernel_rfl) (by kernel_rfl) (by kernel_rfl) (by kernel_rfl) (fun _ _ _ h => h) (by rfl) ?hyr7 sd ?restr7
    case hyr7 => (intro o ho W hW; simp only [List.getElem?_toArray, List.getElem?_cons_succ, List.getElem?_cons_zero, Option.some.injEq] at ho; subst ho; (try dsimp only at hW); have g2 := Shp.rd_on f1 hW; go_simp; try rfl)
    try simp only [Act.put, List.setIfInBounds_toArray, List.set_cons_zero, List.set_cons_succ]
    refine forkS 6 9 (by kernel_rfl) (by rfl) (by rfl) (fun o ho K hK => ?_) (fun o ho K hK => ?_)
    · simp only [List.getElem?_toArray, List.getElem?_cons_succ, List.getElem?_cons_zero, Option.some.injEq] at ho; subst ho
      go_simp
      (go_at_call 40; (with_reducible refine (CPa.out _).mono ?_); rintro e u1w ⟨rfl, b1⟩)
      have s1 : Below w1.heap.size w1 u1w := below_up sd sd.size b1
      refine hK.out _ _ s1 (fun _ => ?_)
      clear hK K
      try simp only [Act.put, List.setIfInBounds_toArray, List.set_cons_zero, List.set_cons_succ]
      refine forkS 8 9 (by kernel_rfl) (by rfl) (by rfl) (fun o ho K hK => ?_) (fun o ho K hK => ?_)
      · simp only [List.getElem?_toArray, List.getElem?_cons_succ, List.getElem?_cons_zero, Option.some.injEq] at ho; subst ho
        go_simp
        (go_at_call 41; (with_reducible refine (CB.out _).mono ?_); rintro e u2w ⟨rfl, b2⟩)
        have s2 : Below w1.heap.size w1 u2w := below_up s1 s1.size b2
        refine hK.out _ _ s2 (fun _ => ?_)
        clear hK K
        try simp only [Act.put, List.setIfInBounds_toArray, List.set_cons_zero, List.set_cons_succ]
        refine nextS 9 (by kernel_rfl) (by rfl) (fun o ho K hK => ?_)
        simp only [List.getElem?_toArray, List.getElem?_cons_succ, List.getElem?_cons_zero, Option.some.injEq] at ho; subst ho
        go_simp
        have s3 : Below w1.heap.size w1 (u2w.alloc (.cells #[.int .u8 0, .int .u8 0, .int .u8 0, .int .u8 0, .int .u8 0, .int .u8 0, .int .u8 0, .int .u8 0, .int .u8 0, .int .u8 0, .int .u8 0, .int .u8 0, .int .u8 0, .int .u8 0, .int .u8 0, .int .u8 0, .int .u8 0, .int .u8 0, .int .u8 0, .int .u8 0, .int .u8 0, .int .u8 0, .int .u8 0, .int .u8 0, .int .u8 0] 101)) := s2.alloc s2.size _
        have q3 : Shp.tn 25 (u2w.alloc (.cells #[.int .u8 0, .int .u8 0, .int .u8 0, .int .u8 0, .int .u8 0, .int .u8 0, .int .u8 0, .int .u8 0, .int .u8 0, .int .u8 0, .int .u8 0, .int .u8 0, .int .u8 0, .int .u8 0, .int .u8 0, .int .u8 0, .int .u8 0, .int .u8 0, .int .u8 0, .int .u8 0, .int .u8 0, .int .u8 0, .int .u8 0, .int .u8 0, .int .u8 0] 101)) u2w.heap.size = true := Shp.tn_of (Blk.new u2w _ _) rfl
        refine hK.out _ _ s3 (fun _ => ?_)
        clear hK K
        try simp only [Act.put, List.setIfInBounds_toArray, List.set_cons_zero, List.set_cons_succ]
        obtain ⟨u3w, hu3w⟩ : ∃ V, u2w.alloc (.cells #[.int .u8 0, .int .u8 0, .int .u8 0, .int .u8 0, .int .u8 0, .int .u8 0, .int .u8 0, .int .u8 0, .int .u8 0, .int .u8 0, .int .u8 0, .int .u8 0, .int .u8 0, .int .u8 0, .int .u8 0, .int .u8 0, .int .u8 0, .int .u8 0, .int .u8 0, .int .u8 0, .int .u8 0, .int .u8 0, .int .u8 0, .int .u8 0, .int .u8 0] 101) = V := ⟨_, rfl⟩
        rw [hu3w] at s3 q3
        rw [hu3w]
        clear hu3w
        refine takeS 10 (some 7) ?vz3x10 (by kernel_rfl) (by kernel_rfl) (by kernel_rfl) (by kernel_rfl) (fun _ _ _ h => h) (by rfl) ?hyz3x10 s3 ?restz3x10
        case hyz3x10 => (intro o ho W hW; simp only [List.getElem?_toArray, List.getElem?_cons_succ, List.getElem?_cons_zero, Option.some.injEq] at ho; subst ho; (try dsimp only at hW); skip; go_simp; try rfl)
        try simp only [Act.put, List.setIfInBounds_toArray, List.set_cons_zero, List.set_cons_succ]
        refine nextS 11 (by kernel_rfl) (by rfl) (fun o ho K hK => ?_)
        simp only [List.getElem?_toArray, List.getElem?_cons_succ, List.getElem?_cons_zero, Option.some.injEq] at ho; subst ho
        go_simp
        have t6 := q3
        have sB : Below w1.heap.size w1 (u3w.setRow (u2w.heap.size) (kS.v k)) := below_setRow s3 s2.size _
        refine hK.out _ _ sB (fun _ => ?_)
        clear hK K
        try simp only [Act.put, List.setIfInBounds_toArray, List.set_cons_zero, List.set_cons_succ]
        refine wpAnyH_done (by kernel_rfl) ?_ _
        refine NoPanic.normal ?_
        have RB := Shp.rd_set (S := kS) u3w (u2w.heap.size) k q3
        have z9 : w1.heap.size ≤ u2w.heap.size := s2.size
        go_wp2_with fail
        go_meet
        exact ⟨_, rfl, rfl, RB, z9, sB⟩
      · simp only [List.getElem?_toArray, List.getElem?_cons_succ, List.getElem?_cons_zero, Option.some.injEq] at ho; subst ho
        go_simp
        have s4 : Below w1.heap.size w1 (u1w.alloc (.cells #[.int .u8 0, .int .u8 0, .int .u8 0, .int .u8 0, .int .u8 0, .int .u8 0, .int .u8 0, .int .u8 0, .int .u8 0, .int .u8 0, .int .u8 0, .int .u8 0, .int .u8 0, .int .u8 0, .int .u8 0, .int .u8 0, .int .u8 0, .int .u8 0, .int .u8 0, .int .u8 0, .int .u8 0, .int .u8 0, .int .u8 0, .int .u8 0, .int .u8 0] 101)) := s1.alloc s1.size _
        have q4 : Shp.tn 25 (u1w.alloc (.cells #[.int .u8 0, .int .u8 0, .int .u8 0, .int .u8 0, .int .u8 0, .int .u8 0, .int .u8 0, .int .u8 0, .int .u8 0, .int .u8 0, .int .u8 0, .int .u8 0, .int .u8 0, .int .u8 0, .int .u8 0, .int .u8 0, .int .u8 0, .int .u8 0, .int .u8 0, .int .u8 0, .int .u8 0, .int .u8 0, .int .u8 0, .int .u8 0, .int .u8 0] 101)) u1w.heap.size = true := Shp.tn_of (Blk.new u1w _ _) rfl
        refine hK.out _ _ s4 (fun _ => ?_)
        clear hK K
        try simp only [Act.put, List.setIfInBounds_toArray, List.set_cons_zero, List.set_cons_succ]
        obtain ⟨u4w, hu4w⟩ : ∃ V, u1w.alloc (.cells #[.int .u8 0, .int .u8 0, .int .u8 0, .int .u8 0, .int .u8 0, .int .u8 0, .int .u8 0, .int .u8 0, .int .u8 0, .int .u8 0, .int .u8 0, .int .u8 0, .int .u8 0, .int .u8 0, .int .u8 0, .int .u8 0, .int .u8 0, .int .u8 0, .int .u8 0, .int .u8 0, .int .u8 0, .int .u8 0, .int .u8 0, .int .u8 0, .int .u8 0] 101) = V := ⟨_, rfl⟩
        rw [hu4w] at s4 q4
        rw [hu4w]
        clear hu4w
        refine nextS 8 (by kernel_rfl) (by rfl) (fun o ho K hK => ?_)
        simp only [List.getElem?_toArray, List.getElem?_cons_succ, List.getElem?_cons_zero, Option.some.injEq] at ho; subst ho
        go_simp
        (go_at_call 41; (with_reducible refine (CB.out _).mono ?_); rintro e u5w ⟨rfl, b5⟩)
        have s5 : Below w1.heap.size w1 u5w := below_up s4 s4.size b5
        have t9_5 := Shp.tn_on q4 b5
        refine hK.out _ _ s5 (fun _ => ?_)
        clear hK K
        try simp only [Act.put, List.setIfInBounds_toArray, List.set_cons_zero, List.set_cons_succ]
        refine takeS 10 (some 7) ?vz5x10 (by kernel_rfl) (by kernel_rfl) (by kernel_rfl) (by kernel_rfl) (fun _ _ _ h => h) (by rfl) ?hyz5x10 s5 ?restz5x10
        case hyz5x10 => (intro o ho W hW; simp only [List.getElem?_toArray, List.getElem?_cons_succ, List.getElem?_cons_zero, Option.some.injEq] at ho; subst ho; (try dsimp only at hW); skip; go_simp; try rfl)
        try simp only [Act.put, List.setIfInBounds_toArray, List.set_cons_zero, List.set_cons_succ]
        refine nextS 11 (by kernel_rfl) (by rfl) (fun o ho K hK => ?_)
        simp only [List.getElem?_toArray, List.getElem?_cons_succ, List.getElem?_cons_zero, Option.some.injEq] at ho; subst ho
        go_simp
        have t6 := t9_5
        have sB : Below w1.heap.size w1 (u5w.setRow (u1w.heap.size) (kS.v k)) := below_setRow s5 s1.size _
        refine hK.out _ _ sB (fun _ => ?_)
        clear hK K
        try simp only [Act.put, List.setIfInBounds_toArray, List.set_cons_zero, List.set_cons_succ]
        refine wpAnyH_done (by kernel_rfl) ?_ _
        refine NoPanic.normal ?_
        have RB := Shp.rd_set (S := kS) u5w (u1w.heap.size) k t9_5
        have z9 : w1.heap.size ≤ u1w.heap.size := s1.size
        go_wp2_with fail
        go_meet
        exact ⟨_, rfl, rfl, RB, z9, sB⟩
    · simp only [List.getElem?_toArray, List.getElem?_cons_succ, List.getElem?_cons_zero, Option.some.injEq] at ho; subst ho
      go_simp
      have s6 : Below w1.heap.size w1 (wd.alloc (.cells #[.int .u8 0, .int .u8 0, .int .u8 0, .int .u8 0, .int .u8 0, .int .u8 0, .int .u8 0, .int .u8 0, .int .u8 0, .int .u8 0, .int .u8 0, .int .u8 0, .int .u8 0, .int .u8 0, .int .u8 0, .int .u8 0, .int .u8 0, .int .u8 0, .int .u8 0, .int .u8 0, .int .u8 0, .int .u8 0, .int .u8 0, .int .u8 0, .int .u8 0] 101)) := sd.alloc sd.size _
      have q6 : Shp.tn 25 (wd.alloc (.cells #[.int .u8 0, .int .u8 0, .int .u8 0, .int .u8 0, .int .u8 0, .int .u8 0, .int .u8 0, .int .u8 0, .int .u8 0, .int .u8 0, .int .u8 0, .int .u8 0, .int .u8 0, .int .u8 0, .int .u8 0, .int .u8 0, .int .u8 0, .int .u8 0, .int .u8 0, .int .u8 0, .int .u8 0, .int .u8 0, .int .u8 0, .int .u8 0, .int .u8 0] 101)) wd.heap.size = true := Shp.tn_of (Blk.new wd _ _) rfl
      refine hK.out _ _ s6 (fun _ => ?_)
      clear hK K
      try simp only [Act.put, List.setIfInBounds_toArray, List.set_cons_zero, List.set_cons_succ]
      obtain ⟨u6w, hu6w⟩ : ∃ V, wd.alloc (.cells #[.int .u8 0, .int .u8 0, .int .u8 0, .int .u8 0, .int .u8 0, .int .u8 0, .int .u8 0, .int .u8 0, .int .u8 0, .int .u8 0, .int .u8 0, .int .u8 0, .int .u8 0, .int .u8 0, .int .u8 0, .int .u8 0, .int .u8 0, .int .u8 0, .int .u8 0, .int .u8 0, .int .u8 0, .int .u8 0, .int .u8 0, .int .u8 0, .int .u8 0] 101) = V := ⟨_, rfl⟩
      rw [hu6w] at s6 q6
      rw [hu6w]
      clear hu6w
      refine nextS 6 (by kernel_rfl) (by rfl) (fun o ho K hK => ?_)
      simp only [List.getElem?_toArray, List.getElem?_cons_succ, List.getElem?_cons_zero, Option.some.injEq] at ho; subst ho
      go_simp
      (go_at_call 40; (with_reducible refine (CPa.out _).mono ?_); rintro e u7w ⟨rfl, b7⟩)
      have s7 : Below w1.heap.size w1 u7w := below_up s6 s6.size b7
      have t9_7 := Shp.tn_on q6 b7
      refine hK.out _ _ s7 (fun _ => ?_)
      clear hK K
      try simp only [Act.put, List.setIfInBounds_toArray, List.set_cons_zero, List.set_cons_succ]
      refine nextS 8 (by kernel_rfl) (by rfl) (fun o ho K hK => ?_)
      simp only [List.getElem?_toArray, List.getElem?_cons_succ, List.getElem?_cons_zero, Option.some.injEq] at ho; subst ho
      go_simp
      (go_at_call 41; (with_reducible refine (CB.out _).mono ?_); rintro e u8w ⟨rfl, b8⟩)
      have s8 : Below w1.heap.size w1 u8w := below_up s7 s7.size b8
      have t9_8 := Shp.tn_on t9_7 b8
      refine hK.out _ _ s8 (fun _ => ?_)
      clear hK K
      try simp only [Act.put, List.setIfInBounds_toArray, List.set_cons_zero, List.set_cons_succ]
      refine takeS 10 (some 7) ?vz8x10 (by kernel_rfl) (by kernel_rfl) (by kernel_rfl) (by kernel_rfl) (fun _ _ _ h => h) (by rfl) ?hyz8x10 s8 ?restz8x10
      case hyz8x10 => (intro o ho W hW; simp only [List.getElem?_toArray, List.getElem?_cons_succ, List.getElem?_cons_zero, Option.some.injEq] at ho; subst ho; (try dsimp only at hW); skip; go_simp; try rfl)
      try simp only [Act.put, List.setIfInBounds_toArray, List.set_cons_zero, List.set_cons_succ]
      refine nextS 11 (by kernel_rfl) (by rfl) (fun o ho K hK => ?_)
      simp only [List.getElem?_toArray, List.getElem?_cons_succ, List.getElem?_cons_zero, Option.some.injEq] at ho; subst ho
      go_simp
      have t6 := t9_8
      have sB : Below w1.heap.size w1 (u8w.setRow (wd.heap.size) (kS.v k)) := below_setRow s8 sd.size _
      refine hK.out _ _ sB (fun _ => ?_)
      clear hK K
      try simp only [Act.put, List.setIfInBounds_toArray, List.set_cons_zero, List.set_cons_succ]
      refine wpAnyH_done (by kernel_rfl) ?_ _
      refine NoPanic.normal ?_
      have RB := Shp.rd_set (S := kS) u8w (wd.heap.size) k t9_8
      have z9 : w1.heap.size ≤ wd.heap.size := sd.size
      go_wp2_with fail
      go_meet
      exact ⟨_, rfl, rfl, RB, z9, sB⟩
  case rest =>
    obtain ⟨k8, rfl, rfl, R8, z8, b5⟩ := hcut
    have hT5 := hT1.on b5
    have f5 := Shp.rd_on f1 b5
    have kk5 := Shp.tn_on kk1 b5
    have z5 := below_up z1 z1.size b5
    have hz5 : w.heap.size + 2 ≤ wc.heap.size := by have := b5.size; omega
    clear b5 hT1 f1 kk1 z1 k1 hc CPa
    have hcase : (r < 200 ∧ Cr.Bits.bt k r = false) ∨ r = 200 ∨ (r < 200 ∧ Cr.Bits.bt k r = true) := by
      by_cases c : r < 200
      · cases hb : Cr.Bits.bt k r
        · exact .inl ⟨c, rfl⟩
        · exact .inr (.inr ⟨c, rfl⟩)
      · exact .inr (.inl (by omega))
    rcases hcase with ⟨hrl, hbt⟩ | hrb
    · have hdc : decide ((r : Int) < 200) = true := decide_eq_true (by omega)
      have hs0 : D.sd k r = 0 := by unfold D.sd; rw [if_neg (by rw [hbt]; decide)]
      have CS := Lib.hid (fun w => CSi.out r hrl w)
      rw [hs0] at CS
      have HNX := Lib.hid (nx_left hT hpar hrl hbt)
      clear hs0
      gi_wp2
      refine ⟨trivial, ?_⟩
      refine (callsIn_wide.2 (CS.out _)).mono ?_
      rintro e w6 ⟨rfl, b6⟩
      have hT6 := hT5.on b6
      have f6 := Shp.rd_on f5 b6
      have kk6 := Shp.tn_on kk5 b6
      have z6 := below_up z5 z5.size b6
      clear hT5 f5 kk5 z5 b6
      gi_wp2
      refine ⟨trivial, ?_⟩
      refine (callsIn_wide.2 (place_any g (some t) k r (by omega) _ hT6)).mono ?_
      rintro e w7 ⟨rfl, b7⟩
      have hT7 := hT6.on b7
      have kk7 := Shp.tn_on kk6 b7
      have z7 := below_up z6 z6.size b7
      have hc7 := hT7.sub_cell (k := k) (d := r) (by omega)
      clear hT6 f6 kk6 z6 b7
      gi_wp2
      refine ⟨trivial, ?_⟩
      refine (callsIn_wide.2 (first_any (subo k r (some t)) _ (fun u hu => by injection hu with hu; subst hu; exact ⟨(nd_sub (hT7.nd t rfl)).1, Cr.Tr.sub_wf k r (hT7.wf t rfl)⟩))).mono ?_
      rintro e w8 ⟨rfl, b8⟩
      have kk8 := Shp.tn_on kk7 b8
      have z8 := below_up z7 z7.size b8
      clear hT7 kk7 z7 b8 hc7
      have hset := Shp.rd_set (S := kS) w8 (w.heap.size + 1) (fk (subo k r (some t))) kk8
      gi_wp2
      refine ⟨.tuple #[.agg (kS.v (fk (subo k r (some t)))), .bool true], ?_, by rw [HNX.out.1, HNX.out.2], below_setRow z8 (Nat.le_succ _) _⟩
      rw [results_ct rfl]; simp [asAddr, Result.andThen, lvk_of hset]; rfl
    · have HNX := Lib.hid (nx_right hT hpar hrb)
      have HZ5 := Lib.hid hz5
      clear hz5
      rcases hrb with hr2 | ⟨hrl, hbt⟩
      · have hdc : decide ((r : Int) < 200) = false := decide_eq_false (by omega)
        clear hr2
        obtain ⟨w6, hw6⟩ : ∃ w6, w6 = wc := ⟨_, rfl⟩
        have b6 : Below wc.heap.size wc w6 := by rw [hw6]; exact Below.refl _ _
        have hT6 := hT5.on b6
        have f6 := Shp.rd_on f5 b6
        have kk6 := Shp.tn_on kk5 b6
        have z6 := below_up z5 z5.size b6
        have R6 := Shp.rd_on R8 b6
        have hz6 : w.heap.size + 2 ≤ w6.heap.size := Nat.le_trans HZ5.out b6.size
        subst hw6
        clear hT5 f5 kk5 z5 R8
        obtain ⟨gb, hgb⟩ : ∃ gb, w6.heap.size = gb := ⟨_, rfl⟩
        obtain ⟨wb, hwb⟩ : ∃ wb, w6.alloc (.cells #[.pointer none] 73) = wb := ⟨_, rfl⟩
        have bb : Below w6.heap.size w6 wb := by rw [← hwb]; exact below_alloc_ _ _
        have Bb : Blk wb gb 73 #[.pointer none] := by rw [← hwb, ← hgb]; exact Blk.new _ _ _
        have CP2 := Lib.hid (fun w => passed_any (some ⟨g, 0, none⟩) k (r : Nat) w)
        have fb := Shp.rd_on f6 bb
        gi_wp2
        refine ⟨trivial, ?_⟩
        gi_wp2
        try rw [hwb]
        try rw [hgb]
        clear hwb
        refine ⟨trivial, ?_⟩
        refine (callsIn_wide.2 (CP2.out _)).mono ?_
        rintro e w3 ⟨rfl, hw3⟩
        have b3 : Below wb.heap.size wb w3 := by rw [hw3]; exact ((below_alloc_ _ _).alloc (by simp) _).alloc (by simp; omega) _
        have hz3 : w3.heap.size = wb.heap.size + 3 := by rw [hw3]; simp
        have ht3 : w3.cell? ⟨wb.heap.size, 0, none⟩ = some (.pointer (some ⟨g, 0, none⟩)) := by
          rw [hw3]
          exact cell_kept_ (below_alloc_ _ _) (cell_kept_ (below_alloc_ _ _) (Blk.new wb _ _).cell)
        have hk3 : kS.rd w3 ⟨wb.heap.size + 1, 0, none⟩ = some k := by
          rw [hw3]
          exact Shp.rd_on (Shp.rd_new (S := kS) _ _ _ _ (by simp)) (below_alloc_ _ _)
        have hb3 : w3.cell? ⟨wb.heap.size + 2, 0, none⟩ = some (.int .i64 (r : Nat)) := by
          rw [hw3]
          have := (Blk.new ((wb.alloc (.cells #[.pointer (some ⟨g, 0, none⟩)] 31)).alloc (.cells (kS.v k) 30)) 3 #[.int .i64 (r : Nat)]).cell
          simpa using this
        clear hw3
        have hT3 := (hT6.on bb).on b3
        have B73 := Bb.on b3
        have R83 := Shp.rd_on (Shp.rd_on R6 bb) b3
        have kk3 := Shp.tn_on (Shp.tn_on kk6 bb) b3
        have z3 : Below w.heap.size w w3 := below_up (below_up z6 z6.size bb) (Nat.le_trans z6.size bb.size) b3
        have l7 := Bb.lt
        have l8 : k8 < w6.heap.size := Shp.rd_lt R6
        have n78 : k8 ≠ gb := by omega
        have hgz : w.heap.size + 2 ≤ gb := by omega
        have hX : ∀ u, some t = some u → ∀ q ∈ u.bl, q < w3.heap.size ∧ q ∉ [gb] := fun u e q hq => by
          obtain ⟨cs, hB⟩ := (hT3.nd u e).lt q hq
          refine ⟨hB.lt, fun c => ?_⟩
          simp only [List.mem_singleton] at c
          exact blk_ne hB B73 (by decide) c
        clear hT6 f6 fb kk6 R6 Bb
        gi_wp2
        refine wpIn_rangeFunc_ownH rfl (by decide) (gf := 57) (lb := #[.pointer (some ⟨wb.heap.size + 1, 0, none⟩), .pointer (some ⟨wb.heap.size, 0, none⟩), .pointer (some ⟨wb.heap.size + 2, 0, none⟩)]) rfl trivial (enters_of Try.func57 (by kernel_rfl) rfl)
          (psd_stops 9 (by decide) (wb.heap.size + 1) wb.heap.size (wb.heap.size + 2) g k r (by omega) (some t) w3.heap.size [gb] w3 hk3 ht3 hb3 hT3 ⟨by omega, by simp; omega⟩ hX (Nat.le_refl _)) (fun h k => h.trans k) (fun W l o o' h1 h2 h3 _ => Kp.put W l o o' h1 h2 h3) (Below.refl _ _) (fun _ => rfl)
          (fun pre W => Ov w3.heap.size [gb] w3 W ∧ Blk W gb 73 #[.pointer (pt (bhf k none (pre.map (·.1))))]) (fun _ _ _ => False)
          (fun s W W' row hs hg hr => ⟨hs.1.grown (Nat.le_refl _) hg fun r e => .inl (hr r e).1, (blk_own (t := 73) (fun s : List { u : Tk // u ∈ pth k r (some t) } => #[.pointer (pt (bhf k none (s.map (·.1))))])) s W W' row hs.2 hg hr⟩) (fun _ _ _ _ _ hs _ _ => hs) ⟨Ov.refl _ _ _, B73⟩
          (fun y a' W => a' = { tmps := #[.pointer (some ⟨g, 0, none⟩), .agg (kS.v k), undef, .pointer (some ⟨w.heap.size, 0, none⟩), .pointer (some ⟨w.heap.size + 1, 0, none⟩), .bool false, .pointer (some ⟨a, 0, none⟩), .int .i64 (r : Nat), .pointer (some ⟨k8, 0, none⟩), .pointer (some ⟨gb, 0, none⟩), .pointer (some ⟨y.1.ad, 0, none⟩), .pointer (some ⟨g, 0, none⟩), .agg (kS.v k), .pointer (some (plc k ⟨g, 0, none⟩ (pth k 200 (some t)))), .pointer (some (plc k ⟨g, 0, none⟩ (pth k 200 (some t)))), .pointer (some ⟨a, 0, none⟩), .pointer (some ⟨a, 0, none⟩), .bool false, undef, u19, u20, u21, u22, u23, u24, u25, u26, u27, .int .i64 (r : Nat), .bool false, .bool false, undef, undef, undef, undef, .bool false, u36, u37, u38, u39, u40, u41, u42, u43, u44, .pointer (some ⟨g, 0, none⟩), .agg (kS.v k), .int .i64 (r : Nat), .func (.func 57) #[] #[.pointer (some ⟨wb.heap.size + 1, 0, none⟩), .pointer (some ⟨wb.heap.size, 0, none⟩), .pointer (some ⟨wb.heap.size + 2, 0, none⟩)], .pointer (some ⟨y.1.ad, 0, none⟩), u50, u51, u52, u53, u54, u55, u56, u57, u58, u59, u60, u61, u62, u63, u64, u65], defers := [] })
          (fun _ _ _ _ _ _ hs _ _ => hs) ?assign1 ?body1 ?done1 ?stop1
        case assign1 =>
          rintro l pre y W K hI hK
          gi_wp2
          exact hK _ _ (KeepsFrom.refl _ _) (Kp.refl _ _ _) hI rfl
        case body1 =>
          rintro l pre y a' W hl ⟨r2, hr2⟩ ⟨hO, hB⟩ rfl hlt
          obtain ⟨m1, m2, m3, u, m4, m5⟩ := hT3.mem y.2
          have hbl : ∀ q ∈ y.1.bl, q < w3.heap.size ∧ q ∉ [gb] := fun q hq => hX u m4 q (m5 q hq)
          have hN := hO.nd m1 hbl
          have c0 := hN.nf.bit
          have c1 : kS.rd W ⟨k8, 0, none⟩ = some k := (Shp.rd_to (hO.block k8 (by omega) (by simpa using n78))).trans R83
          have c2 : w.heap.size = w.heap.size := rfl
          have l1 := Shp.rd_lt c1
          have l0 := hN.nf.lt
          have C1 := Lib.hid (fun w => CSi.out y.1.bit (by omega) w)
          have HB := Lib.hid hB
          have HO := Lib.hid hO
          have hmix : Try.prog.follows .mixedOrders = true := by kernel_rfl
          have sw : Below W.heap.size W W.drew := (Below.refl _ _).drew
          have sv : Ov W.heap.size [gb] W W.drew := (Ov.refl _ _ _).on (Nat.le_refl _) sw
          have h8 : k8 ∉ [gb] := by simpa using n78
          have hy7 := (hbl y.1.ad y.1.ad_mem).2
          have hbb := show (Cr.Bits.bt k y.1.bit = true ∧ D.sd k y.1.bit = 1) ∨ (Cr.Bits.bt k y.1.bit = false ∧ D.sd k y.1.bit = 0) from by
            unfold D.sd
            cases Cr.Bits.bt k y.1.bit
            · exact .inr ⟨rfl, rfl⟩
            · exact .inl ⟨rfl, rfl⟩
          have hhi : W.cell? ⟨y.1.ad, 2, none⟩ = some (.pointer (pt (kid y.1 true))) := by
            have e2 := hN.nf.hi
            have m3' := m3
            generalize y.1 = z at e2 m3'
            cases z with
            | lf a x v => simp only [Cr.Tr.bit] at m3'; omega
            | br a b l r => exact e2
          clear hN hB hX m1 m2 m4 m5 c2
          obtain ⟨sd, hsd⟩ : ∃ sd, D.sd k y.1.bit = sd := ⟨_, rfl⟩
          rw [hsd] at C1 hbb
          clear hsd
          rcases hbb with ⟨hb1, rfl⟩ | ⟨hb1, rfl⟩
          · gi_wp2
            refine region_round (S := fun V => Ov W.heap.size [gb] W V) (R := fun a' w' => a' = { tmps := #[.pointer (some ⟨g, 0, none⟩), .agg (kS.v k), undef, .pointer (some ⟨w.heap.size, 0, none⟩), .pointer (some ⟨w.heap.size + 1, 0, none⟩), .bool false, .pointer (some ⟨a, 0, none⟩), .int .i64 (r : Nat), .pointer (some ⟨k8, 0, none⟩), .pointer (some ⟨gb, 0, none⟩), .pointer (some ⟨y.1.ad, 0, none⟩), .pointer (some ⟨g, 0, none⟩), .agg (kS.v k), .pointer (some (plc k ⟨g, 0, none⟩ (pth k 200 (some t)))), .pointer (some (plc k ⟨g, 0, none⟩ (pth k 200 (some t)))), .pointer (some ⟨a, 0, none⟩), .pointer (some ⟨a, 0, none⟩), .bool false, undef, u19, u20, u21, u22, u23, u24, u25, u26, u27, .int .i64 (r : Nat), .bool false, .bool false, undef, undef, undef, undef, .bool false, u36, u37, u38, u39, u40, u41, u42, u43, u44, .pointer (some ⟨g, 0, none⟩), .agg (kS.v k), .int .i64 (r : Nat), .func (.func 57) #[] #[.pointer (some ⟨wb.heap.size + 1, 0, none⟩), .pointer (some ⟨wb.heap.size, 0, none⟩), .pointer (some ⟨wb.heap.size + 2, 0, none⟩)], .pointer (some ⟨y.1.ad, 0, none⟩), .agg (kS.v k), .pointer (some ⟨y.1.ad, 0, none⟩), .pointer (some ⟨y.1.ad, 0, none⟩), .pointer (some ⟨y.1.ad, 0, none⟩), .int .i64 (y.1.bit : Nat), .int .i64 1, .bool false, u57, u58, u59, u60, u61, u62, u63, u64, u65], defers := [] } ∧ Below W.heap.size W w') hmix (by kernel_rfl) sv (fun sd0 => ?_) ?_
            refine takeS 0 (some 50) ?vb110 (by kernel_rfl) (by kernel_rfl) (by kernel_rfl) (by kernel_rfl) (fun _ _ _ h => h) (by rfl) ?hyb110 sd0 ?restb110
            case hyb110 => (intro o ho W hW; simp only [List.getElem?_toArray, List.getElem?_cons_succ, List.getElem?_cons_zero, Option.some.injEq] at ho; subst ho; (try dsimp only at hW); have g1 := (Shp.rd_to (hW.block k8 l1 h8)).trans c1; go_simp; try rfl)
            try simp only [Act.put, List.setIfInBounds_toArray, List.set_cons_zero, List.set_cons_succ]
            refine takeS 1 (some 51) ?vb111 (by kernel_rfl) (by kernel_rfl) (by kernel_rfl) (by kernel_rfl) (fun _ _ _ h => h) (by rfl) ?hyb111 sd0 ?restb111
            case hyb111 => (intro o ho W hW; simp only [List.getElem?_toArray, List.getElem?_cons_succ, List.getElem?_cons_zero, Option.some.injEq] at ho; subst ho; (try dsimp only at hW); skip; go_simp; try rfl)
            try simp only [Act.put, List.setIfInBounds_toArray, List.set_cons_zero, List.set_cons_succ]
            refine takeS 2 (some 52) ?vb112 (by kernel_rfl) (by kernel_rfl) (by kernel_rfl) (by kernel_rfl) (fun _ _ _ h => h) (by rfl) ?hyb112 sd0 ?restb112
            case hyb112 => (intro o ho W hW; simp only [List.getElem?_toArray, List.getElem?_cons_succ, List.getElem?_cons_zero, Option.some.injEq] at ho; subst ho; (try dsimp only at hW); skip; go_simp; try rfl)
            try simp only [Act.put, List.setIfInBounds_toArray, List.set_cons_zero, List.set_cons_succ]
            refine takeS 3 (some 53) ?vb113 (by kernel_rfl) (by kernel_rfl) (by kernel_rfl) (by kernel_rfl) (fun _ _ _ h => h) (by rfl) ?hyb113 sd0 ?restb113
            case hyb113 => (intro o ho W hW; simp only [List.getElem?_toArray, List.getElem?_cons_succ, List.getElem?_cons_zero, Option.some.injEq] at ho; subst ho; (try dsimp only at hW); skip; go_simp; try rfl)
            try simp only [Act.put, List.setIfInBounds_toArray, List.set_cons_zero, List.set_cons_succ]
            refine takeS 4 (some 54) ?vb114 (by kernel_rfl) (by kernel_rfl) (by kernel_rfl) (by kernel_rfl) (fun _ _ _ h => h) (by rfl) ?hyb114 sd0 ?restb114
            case hyb114 => (intro o ho W hW; simp only [List.getElem?_toArray, List.getElem?_cons_succ, List.getElem?_cons_zero, Option.some.injEq] at ho; subst ho; (try dsimp only at hW); have g2 := (World.cell?_of_block (hW.block y.1.ad l0 hy7)).trans c0; go_simp; try rfl)
            try simp only [Act.put, List.setIfInBounds_toArray, List.set_cons_zero, List.set_cons_succ]
            refine nextS 5 (by kernel_rfl) (by rfl) (fun o ho K hK => ?_)
            simp only [List.getElem?_toArray, List.getElem?_cons_succ, List.getElem?_cons_zero, Option.some.injEq] at ho; subst ho
            go_simp
            (go_at_call 42; (with_reducible refine (C1.out _).mono ?_); rintro e w4 ⟨rfl, b4⟩)
            have s4 : Below W.heap.size W w4 := below_up sw sw.size b4
            have s5 := sv.on (Nat.le_refl _) b4
            refine hK.out _ _ s5 (fun _ => ?_)
            clear hK K
            try simp only [Act.put, List.setIfInBounds_toArray, List.set_cons_zero, List.set_cons_succ]
            refine takeS 6 (some 56) ?vb116 (by kernel_rfl) (by kernel_rfl) (by kernel_rfl) (by kernel_rfl) (fun _ _ _ h => h) (by rfl) ?hyb116 s5 ?restb116
            case hyb116 => (intro o ho W hW; simp only [List.getElem?_toArray, List.getElem?_cons_succ, List.getElem?_cons_zero, Option.some.injEq] at ho; subst ho; (try dsimp only at hW); skip; go_simp; try rfl)
            try simp only [Act.put, List.setIfInBounds_toArray, List.set_cons_zero, List.set_cons_succ]
            refine wpAnyH_done (by kernel_rfl) ?_ _
            exact ⟨rfl, s4⟩
            rintro a' w' ⟨rfl, b4⟩
            have hO4 := HO.out.on (Nat.le_refl _) b4
            have hB4 := HB.out.on b4
            have K1 : KeepsOthers W w' := KeepsOthers.of_grownBy (grown_none b4) (fun j o e h => by cases e)
            have K2 : Kp w3.heap.size [gb] W w' := Kp.below b4 HO.out.size
            gi_wp2
            refine ⟨K1.from _, K2, hO4, ?_⟩
            rw [List.map_append, List.map_cons, List.map_nil, bhf_app]
            unfold bst
            rw [if_pos hb1]
            exact hB4
          · gi_wp2
            refine region_round (S := fun V => Ov W.heap.size [gb] W V) (R := fun a' w' => a' = { tmps := #[.pointer (some ⟨g, 0, none⟩), .agg (kS.v k), undef, .pointer (some ⟨w.heap.size, 0, none⟩), .pointer (some ⟨w.heap.size + 1, 0, none⟩), .bool false, .pointer (some ⟨a, 0, none⟩), .int .i64 (r : Nat), .pointer (some ⟨k8, 0, none⟩), .pointer (some ⟨gb, 0, none⟩), .pointer (some ⟨y.1.ad, 0, none⟩), .pointer (some ⟨g, 0, none⟩), .agg (kS.v k), .pointer (some (plc k ⟨g, 0, none⟩ (pth k 200 (some t)))), .pointer (some (plc k ⟨g, 0, none⟩ (pth k 200 (some t)))), .pointer (some ⟨a, 0, none⟩), .pointer (some ⟨a, 0, none⟩), .bool false, undef, u19, u20, u21, u22, u23, u24, u25, u26, u27, .int .i64 (r : Nat), .bool false, .bool false, undef, undef, undef, undef, .bool false, u36, u37, u38, u39, u40, u41, u42, u43, u44, .pointer (some ⟨g, 0, none⟩), .agg (kS.v k), .int .i64 (r : Nat), .func (.func 57) #[] #[.pointer (some ⟨wb.heap.size + 1, 0, none⟩), .pointer (some ⟨wb.heap.size, 0, none⟩), .pointer (some ⟨wb.heap.size + 2, 0, none⟩)], .pointer (some ⟨y.1.ad, 0, none⟩), .agg (kS.v k), .pointer (some ⟨y.1.ad, 0, none⟩), .pointer (some ⟨y.1.ad, 0, none⟩), .pointer (some ⟨y.1.ad, 0, none⟩), .int .i64 (y.1.bit : Nat), .int .i64 0, .bool true, u57, u58, u59, u60, u61, u62, u63, u64, u65], defers := [] } ∧ Below W.heap.size W w') hmix (by kernel_rfl) sv (fun sd0 => ?_) ?_
            refine takeS 0 (some 50) ?vb100 (by kernel_rfl) (by kernel_rfl) (by kernel_rfl) (by kernel_rfl) (fun _ _ _ h => h) (by rfl) ?hyb100 sd0 ?restb100
            case hyb100 => (intro o ho W hW; simp only [List.getElem?_toArray, List.getElem?_cons_succ, List.getElem?_cons_zero, Option.some.injEq] at ho; subst ho; (try dsimp only at hW); have g1 := (Shp.rd_to (hW.block k8 l1 h8)).trans c1; go_simp; try rfl)
            try simp only [Act.put, List.setIfInBounds_toArray, List.set_cons_zero, List.set_cons_succ]
            refine takeS 1 (some 51) ?vb101 (by kernel_rfl) (by kernel_rfl) (by kernel_rfl) (by kernel_rfl) (fun _ _ _ h => h) (by rfl) ?hyb101 sd0 ?restb101
            case hyb101 => (intro o ho W hW; simp only [List.getElem?_toArray, List.getElem?_cons_succ, List.getElem?_cons_zero, Option.some.injEq] at ho; subst ho; (try dsimp only at hW); skip; go_simp; try rfl)
            try simp only [Act.put, List.setIfInBounds_toArray, List.set_cons_zero, List.set_cons_succ]
            refine takeS 2 (some 52) ?vb102 (by kernel_rfl) (by kernel_rfl) (by kernel_rfl) (by kernel_rfl) (fun _ _ _ h => h) (by rfl) ?hyb102 sd0 ?restb102
            case hyb102 => (intro o ho W hW; simp only [List.getElem?_toArray, List.getElem?_cons_succ, List.getElem?_cons_zero, Option.some.injEq] at ho; subst ho; (try dsimp only at hW); skip; go_simp; try rfl)
            try simp only [Act.put, List.setIfInBounds_toArray, List.set_cons_zero, List.set_cons_succ]
            refine takeS 3 (some 53) ?vb103 (by kernel_rfl) (by kernel_rfl) (by kernel_rfl) (by kernel_rfl) (fun _ _ _ h => h) (by rfl) ?hyb103 sd0 ?restb103
            case hyb103 => (intro o ho W hW; simp only [List.getElem?_toArray, List.getElem?_cons_succ, List.getElem?_cons_zero, Option.some.injEq] at ho; subst ho; (try dsimp only at hW); skip; go_simp; try rfl)
            try simp only [Act.put, List.setIfInBounds_toArray, List.set_cons_zero, List.set_cons_succ]
            refine takeS 4 (some 54) ?vb104 (by kernel_rfl) (by kernel_rfl) (by kernel_rfl) (by kernel_rfl) (fun _ _ _ h => h) (by rfl) ?hyb104 sd0 ?restb104
            case hyb104 => (intro o ho W hW; simp only [List.getElem?_toArray, List.getElem?_cons_succ, List.getElem?_cons_zero, Option.some.injEq] at ho; subst ho; (try dsimp only at hW); have g2 := (World.cell?_of_block (hW.block y.1.ad l0 hy7)).trans c0; go_simp; try rfl)
            try simp only [Act.put, List.setIfInBounds_toArray, List.set_cons_zero, List.set_cons_succ]
            refine nextS 5 (by kernel_rfl) (by rfl) (fun o ho K hK => ?_)
            simp only [List.getElem?_toArray, List.getElem?_cons_succ, List.getElem?_cons_zero, Option.some.injEq] at ho; subst ho
            go_simp
            (go_at_call 42; (with_reducible refine (C1.out _).mono ?_); rintro e w4 ⟨rfl, b4⟩)
            have s4 : Below W.heap.size W w4 := below_up sw sw.size b4
            have s5 := sv.on (Nat.le_refl _) b4
            refine hK.out _ _ s5 (fun _ => ?_)
            clear hK K
            try simp only [Act.put, List.setIfInBounds_toArray, List.set_cons_zero, List.set_cons_succ]
            refine takeS 6 (some 56) ?vb106 (by kernel_rfl) (by kernel_rfl) (by kernel_rfl) (by kernel_rfl) (fun _ _ _ h => h) (by rfl) ?hyb106 s5 ?restb106
            case hyb106 => (intro o ho W hW; simp only [List.getElem?_toArray, List.getElem?_cons_succ, List.getElem?_cons_zero, Option.some.injEq] at ho; subst ho; (try dsimp only at hW); skip; go_simp; try rfl)
            try simp only [Act.put, List.setIfInBounds_toArray, List.set_cons_zero, List.set_cons_succ]
            refine wpAnyH_done (by kernel_rfl) ?_ _
            exact ⟨rfl, s4⟩
            rintro a' w' ⟨rfl, b4⟩
            have hO4 := HO.out.on (Nat.le_refl _) b4
            have hB4 := HB.out.on b4
            have hhi4 := cell_kept_ b4 hhi
            have hc4 := hB4.cell
            have hf4 := hB4.free
            have K1 : KeepsOthers W w' := KeepsOthers.of_grownBy (grown_none b4) (fun j o e h => by cases e)
            have K2 : Kp w3.heap.size [gb] W w' := Kp.below b4 HO.out.size
            gi_wp2
            refine ⟨(K1.trans (KeepsOthers.setCell _ _ _)).from _, K2.trans (Kp.set _ _ _ _ (by simp) hB4 (by decide)), hO4.set (by simp) _, ?_⟩
            rw [List.map_append, List.map_cons, List.map_nil, bhf_app]
            unfold bst
            rw [if_neg (by rw [hb1]; decide)]
            exact hB4.set_ _
        case done1 =>
          rintro D0 ys W hD hp ⟨hO, hB⟩ hK
          have hc := hB.cell
          rw [hp] at hB hc
          have hok := bhf_ok hT3 (pth k r (some t)) none (fun u e => by cases e) (fun y h => h)
          obtain ⟨bo, hbo⟩ : ∃ bo, bhf k none (pth k r (some t)) = bo := ⟨_, rfl⟩
          rw [hbo] at hok hc hB HNX
          clear hbo
          have hkW : Shp.tn 25 W (w.heap.size + 1) = true := (Shp.tn_to (hO.block (w.heap.size + 1) (by omega) (by simp; omega))).trans kk3
          have CF := Lib.hid (first_any bo W (fun u e => by
            obtain ⟨h1, h2, h3⟩ := hok u e
            exact ⟨hO.nd h1 (fun q hq => hX t rfl q (h3 q hq)), h2⟩))
          clear hok
          gi_wp2
          refine ⟨trivial, ?_⟩
          refine (callsIn_wide.2 CF.out).mono ?_
          rintro e w8 ⟨rfl, b8⟩
          have kk8 := Shp.tn_on hkW b8
          have hO8 := hO.on (Nat.le_refl _) b8
          have hD8 : D0 < W.heap.size := (Array.getElem?_eq_some_iff.1 hK).1
          have hK8 : (w8.setRow (w.heap.size + 1) (kS.v (fk bo))).heap[D0]? = some (.deferred (some [])) := (heap_setRow _ _ _ _ (by omega)).trans ((b8.block D0 hD8).trans hK)
          have hset := Shp.rd_set (S := kS) w8 (w.heap.size + 1) (fk bo) kk8
          have R2 : kS.rd ((w8.setRow (w.heap.size + 1) (kS.v (fk bo))).putObj D0 (.deferred none)) ⟨w.heap.size + 1, 0, none⟩ = some (fk bo) :=
            (Shp.rd_to (World.putObj_heap_other (by show w.heap.size + 1 ≠ D0; omega))).trans hset
          have hfin := below_setRow (z3.trans (hO8.below (b := w.heap.size) (by omega) (fun x hx => by simp at hx; omega))) (Nat.le_succ _) (kS.v (fk bo))
          have hfin2 : Below w.heap.size w ((w8.setRow (w.heap.size + 1) (kS.v (fk bo))).putObj D0 (.deferred none)) := ⟨hfin.os, hfin.tape, hfin.output, by have := hfin.size; simpa [World.putObj] using this, fun q hq => (World.putObj_heap_other (by omega)).trans (hfin.block q hq)⟩
          clear hO hB hK hO8
          gi_wp2
          refine ⟨by simp, .inl ⟨_, _, rfl, run_takeDeferred hK8, ?_⟩⟩
          refine ⟨.tuple #[.agg (kS.v (fk bo)), .bool bo.isSome], ?_, by rw [HNX.out.1, HNX.out.2], hfin2⟩
          rw [results_ct rfl]; simp [asAddr, Result.andThen, lvk_of R2] <;> rfl
        case stop1 =>
          rintro D0 c pre W _ _ h _
          exact h.elim
      · have hdc : decide ((r : Int) < 200) = true := decide_eq_true (by omega)
        have hs1 : D.sd k r = 1 := by unfold D.sd; rw [if_pos hbt]
        have CS := Lib.hid (fun w => CSi.out r hrl w)
        rw [hs1] at CS
        clear hs1
        gi_wp2
        refine ⟨trivial, ?_⟩
        refine (callsIn_wide.2 (CS.out _)).mono ?_
        rintro e w6 ⟨rfl, b6⟩
        have hT6 := hT5.on b6
        have f6 := Shp.rd_on f5 b6
        have kk6 := Shp.tn_on kk5 b6
        have z6 := below_up z5 z5.size b6
        have R6 := Shp.rd_on R8 b6
        have hz6 : w.heap.size + 2 ≤ w6.heap.size := Nat.le_trans HZ5.out b6.size
        clear hT5 f5 kk5 z5 R8
        obtain ⟨gb, hgb⟩ : ∃ gb, w6.heap.size = gb := ⟨_, rfl⟩
        obtain ⟨wb, hwb⟩ : ∃ wb, w6.alloc (.cells #[.pointer none] 73) = wb := ⟨_, rfl⟩
        have bb : Below w6.heap.size w6 wb := by rw [← hwb]; exact below_alloc_ _ _
        have Bb : Blk wb gb 73 #[.pointer none] := by rw [← hwb, ← hgb]; exact Blk.new _ _ _
        have CP2 := Lib.hid (fun w => passed_any (some ⟨g, 0, none⟩) k (r : Nat) w)
        have fb := Shp.rd_on f6 bb
        gi_wp2
        try rw [hwb]
        try rw [hgb]
        clear hwb
        refine ⟨trivial, ?_⟩
        refine (callsIn_wide.2 (CP2.out _)).mono ?_
        rintro e w3 ⟨rfl, hw3⟩
        have b3 : Below wb.heap.size wb w3 := by rw [hw3]; exact ((below_alloc_ _ _).alloc (by simp) _).alloc (by simp; omega) _
        have hz3 : w3.heap.size = wb.heap.size + 3 := by rw [hw3]; simp
        have ht3 : w3.cell? ⟨wb.heap.size, 0, none⟩ = some (.pointer (some ⟨g, 0, none⟩)) := by
          rw [hw3]
          exact cell_kept_ (below_alloc_ _ _) (cell_kept_ (below_alloc_ _ _) (Blk.new wb _ _).cell)
        have hk3 : kS.rd w3 ⟨wb.heap.size + 1, 0, none⟩ = some k := by
          rw [hw3]
          exact Shp.rd_on (Shp.rd_new (S := kS) _ _ _ _ (by simp)) (below_alloc_ _ _)
        have hb3 : w3.cell? ⟨wb.heap.size + 2, 0, none⟩ = some (.int .i64 (r : Nat)) := by
          rw [hw3]
          have := (Blk.new ((wb.alloc (.cells #[.pointer (some ⟨g, 0, none⟩)] 31)).alloc (.cells (kS.v k) 30)) 3 #[.int .i64 (r : Nat)]).cell
          simpa using this
        clear hw3
        have hT3 := (hT6.on bb).on b3
        have B73 := Bb.on b3
        have R83 := Shp.rd_on (Shp.rd_on R6 bb) b3
        have kk3 := Shp.tn_on (Shp.tn_on kk6 bb) b3
        have z3 : Below w.heap.size w w3 := below_up (below_up z6 z6.size bb) (Nat.le_trans z6.size bb.size) b3
        have l7 := Bb.lt
        have l8 : k8 < w6.heap.size := Shp.rd_lt R6
        have n78 : k8 ≠ gb := by omega
        have hgz : w.heap.size + 2 ≤ gb := by omega
        have hX : ∀ u, some t = some u → ∀ q ∈ u.bl, q < w3.heap.size ∧ q ∉ [gb] := fun u e q hq => by
          obtain ⟨cs, hB⟩ := (hT3.nd u e).lt q hq
          refine ⟨hB.lt, fun c => ?_⟩
          simp only [List.mem_singleton] at c
          exact blk_ne hB B73 (by decide) c
        clear hT6 f6 fb kk6 R6 Bb
        gi_wp2
        refine wpIn_rangeFunc_ownH rfl (by decide) (gf := 57) (lb := #[.pointer (some ⟨wb.heap.size + 1, 0, none⟩), .pointer (some ⟨wb.heap.size, 0, none⟩), .pointer (some ⟨wb.heap.size + 2, 0, none⟩)]) rfl trivial (enters_of Try.func57 (by kernel_rfl) rfl)
          (psd_stops 9 (by decide) (wb.heap.size + 1) wb.heap.size (wb.heap.size + 2) g k r (by omega) (some t) w3.heap.size [gb] w3 hk3 ht3 hb3 hT3 ⟨by omega, by simp; omega⟩ hX (Nat.le_refl _)) (fun h k => h.trans k) (fun W l o o' h1 h2 h3 _ => Kp.put W l o o' h1 h2 h3) (Below.refl _ _) (fun _ => rfl)
          (fun pre W => Ov w3.heap.size [gb] w3 W ∧ Blk W gb 73 #[.pointer (pt (bhf k none (pre.map (·.1))))]) (fun _ _ _ => False)
          (fun s W W' row hs hg hr => ⟨hs.1.grown (Nat.le_refl _) hg fun r e => .inl (hr r e).1, (blk_own (t := 73) (fun s : List { u : Tk // u ∈ pth k r (some t) } => #[.pointer (pt (bhf k none (s.map (·.1))))])) s W W' row hs.2 hg hr⟩) (fun _ _ _ _ _ hs _ _ => hs) ⟨Ov.refl _ _ _, B73⟩
          (fun y a' W => a' = { tmps := #[.pointer (some ⟨g, 0, none⟩), .agg (kS.v k), undef, .pointer (some ⟨w.heap.size, 0, none⟩), .pointer (some ⟨w.heap.size + 1, 0, none⟩), .bool false, .pointer (some ⟨a, 0, none⟩), .int .i64 (r : Nat), .pointer (some ⟨k8, 0, none⟩), .pointer (some ⟨gb, 0, none⟩), .pointer (some ⟨y.1.ad, 0, none⟩), .pointer (some ⟨g, 0, none⟩), .agg (kS.v k), .pointer (some (plc k ⟨g, 0, none⟩ (pth k 200 (some t)))), .pointer (some (plc k ⟨g, 0, none⟩ (pth k 200 (some t)))), .pointer (some ⟨a, 0, none⟩), .pointer (some ⟨a, 0, none⟩), .bool false, undef, u19, u20, u21, u22, u23, u24, u25, u26, u27, .int .i64 (r : Nat), .bool true, .bool true, .agg (kS.v k), .int .i64 (r : Nat), .int .i64 1, .bool false, .bool false, u36, u37, u38, u39, u40, u41, u42, u43, u44, .pointer (some ⟨g, 0, none⟩), .agg (kS.v k), .int .i64 (r : Nat), .func (.func 57) #[] #[.pointer (some ⟨wb.heap.size + 1, 0, none⟩), .pointer (some ⟨wb.heap.size, 0, none⟩), .pointer (some ⟨wb.heap.size + 2, 0, none⟩)], .pointer (some ⟨y.1.ad, 0, none⟩), u50, u51, u52, u53, u54, u55, u56, u57, u58, u59, u60, u61, u62, u63, u64, u65], defers := [] })
          (fun _ _ _ _ _ _ hs _ _ => hs) ?assign2 ?body2 ?done2 ?stop2
        case assign2 =>
          rintro l pre y W K hI hK
          gi_wp2
          exact hK _ _ (KeepsFrom.refl _ _) (Kp.refl _ _ _) hI rfl
        case body2 =>
          rintro l pre y a' W hl ⟨r2, hr2⟩ ⟨hO, hB⟩ rfl hlt
          obtain ⟨m1, m2, m3, u, m4, m5⟩ := hT3.mem y.2
          have hbl : ∀ q ∈ y.1.bl, q < w3.heap.size ∧ q ∉ [gb] := fun q hq => hX u m4 q (m5 q hq)
          have hN := hO.nd m1 hbl
          have c0 := hN.nf.bit
          have c1 : kS.rd W ⟨k8, 0, none⟩ = some k := (Shp.rd_to (hO.block k8 (by omega) (by simpa using n78))).trans R83
          have c2 : w.heap.size = w.heap.size := rfl
          have l1 := Shp.rd_lt c1
          have l0 := hN.nf.lt
          have C1 := Lib.hid (fun w => CSi.out y.1.bit (by omega) w)
          have HB := Lib.hid hB
          have HO := Lib.hid hO
          have hmix : Try.prog.follows .mixedOrders = true := by kernel_rfl
          have sw : Below W.heap.size W W.drew := (Below.refl _ _).drew
          have sv : Ov W.heap.size [gb] W W.drew := (Ov.refl _ _ _).on (Nat.le_refl _) sw
          have h8 : k8 ∉ [gb] := by simpa using n78
          have hy7 := (hbl y.1.ad y.1.ad_mem).2
          have hbb := show (Cr.Bits.bt k y.1.bit = true ∧ D.sd k y.1.bit = 1) ∨ (Cr.Bits.bt k y.1.bit = false ∧ D.sd k y.1.bit = 0) from by
            unfold D.sd
            cases Cr.Bits.bt k y.1.bit
            · exact .inr ⟨rfl, rfl⟩
            · exact .inl ⟨rfl, rfl⟩
          have hhi : W.cell? ⟨y.1.ad, 2, none⟩ = some (.pointer (pt (kid y.1 true))) := by
            have e2 := hN.nf.hi
            have m3' := m3
            generalize y.1 = z at e2 m3'
            cases z with
            | lf a x v => simp only [Cr.Tr.bit] at m3'; omega
            | br a b l r => exact e2
          clear hN hB hX m1 m2 m4 m5 c2
          obtain ⟨sd, hsd⟩ : ∃ sd, D.sd k y.1.bit = sd := ⟨_, rfl⟩
          rw [hsd] at C1 hbb
          clear hsd
          rcases hbb with ⟨hb1, rfl⟩ | ⟨hb1, rfl⟩
          · gi_wp2
            refine region_round (S := fun V => Ov W.heap.size [gb] W V) (R := fun a' w' => a' = { tmps := #[.pointer (some ⟨g, 0, none⟩), .agg (kS.v k), undef, .pointer (some ⟨w.heap.size, 0, none⟩), .pointer (some ⟨w.heap.size + 1, 0, none⟩), .bool false, .pointer (some ⟨a, 0, none⟩), .int .i64 (r : Nat), .pointer (some ⟨k8, 0, none⟩), .pointer (some ⟨gb, 0, none⟩), .pointer (some ⟨y.1.ad, 0, none⟩), .pointer (some ⟨g, 0, none⟩), .agg (kS.v k), .pointer (some (plc k ⟨g, 0, none⟩ (pth k 200 (some t)))), .pointer (some (plc k ⟨g, 0, none⟩ (pth k 200 (some t)))), .pointer (some ⟨a, 0, none⟩), .pointer (some ⟨a, 0, none⟩), .bool false, undef, u19, u20, u21, u22, u23, u24, u25, u26, u27, .int .i64 (r : Nat), .bool true, .bool true, .agg (kS.v k), .int .i64 (r : Nat), .int .i64 1, .bool false, .bool false, u36, u37, u38, u39, u40, u41, u42, u43, u44, .pointer (some ⟨g, 0, none⟩), .agg (kS.v k), .int .i64 (r : Nat), .func (.func 57) #[] #[.pointer (some ⟨wb.heap.size + 1, 0, none⟩), .pointer (some ⟨wb.heap.size, 0, none⟩), .pointer (some ⟨wb.heap.size + 2, 0, none⟩)], .pointer (some ⟨y.1.ad, 0, none⟩), .agg (kS.v k), .pointer (some ⟨y.1.ad, 0, none⟩), .pointer (some ⟨y.1.ad, 0, none⟩), .pointer (some ⟨y.1.ad, 0, none⟩), .int .i64 (y.1.bit : Nat), .int .i64 1, .bool false, u57, u58, u59, u60, u61, u62, u63, u64, u65], defers := [] } ∧ Below W.heap.size W w') hmix (by kernel_rfl) sv (fun sd0 => ?_) ?_
            refine takeS 0 (some 50) ?vb210 (by kernel_rfl) (by kernel_rfl) (by kernel_rfl) (by kernel_rfl) (fun _ _ _ h => h) (by rfl) ?hyb210 sd0 ?restb210
            case hyb210 => (intro o ho W hW; simp only [List.getElem?_toArray, List.getElem?_cons_succ, List.getElem?_cons_zero, Option.some.injEq] at ho; subst ho; (try dsimp only at hW); have g1 := (Shp.rd_to (hW.block k8 l1 h8)).trans c1; go_simp; try rfl)
            try simp only [Act.put, List.setIfInBounds_toArray, List.set_cons_zero, List.set_cons_succ]
            refine takeS 1 (some 51) ?vb211 (by kernel_rfl) (by kernel_rfl) (by kernel_rfl) (by kernel_rfl) (fun _ _ _ h => h) (by rfl) ?hyb211 sd0 ?restb211
            case hyb211 => (intro o ho W hW; simp only [List.getElem?_toArray, List.getElem?_cons_succ, List.getElem?_cons_zero, Option.some.injEq] at ho; subst ho; (try dsimp only at hW); skip; go_simp; try rfl)
            try simp only [Act.put, List.setIfInBounds_toArray, List.set_cons_zero, List.set_cons_succ]
            refine takeS 2 (some 52) ?vb212 (by kernel_rfl) (by kernel_rfl) (by kernel_rfl) (by kernel_rfl) (fun _ _ _ h => h) (by rfl) ?hyb212 sd0 ?restb212
            case hyb212 => (intro o ho W hW; simp only [List.getElem?_toArray, List.getElem?_cons_succ, List.getElem?_cons_zero, Option.some.injEq] at ho; subst ho; (try dsimp only at hW); skip; go_simp; try rfl)
            try simp only [Act.put, List.setIfInBounds_toArray, List.set_cons_zero, List.set_cons_succ]
            refine takeS 3 (some 53) ?vb213 (by kernel_rfl) (by kernel_rfl) (by kernel_rfl) (by kernel_rfl) (fun _ _ _ h => h) (by rfl) ?hyb213 sd0 ?restb213
            case hyb213 => (intro o ho W hW; simp only [List.getElem?_toArray, List.getElem?_cons_succ, List.getElem?_cons_zero, Option.some.injEq] at ho; subst ho; (try dsimp only at hW); skip; go_simp; try rfl)
            try simp only [Act.put, List.setIfInBounds_toArray, List.set_cons_zero, List.set_cons_succ]
            refine takeS 4 (some 54) ?vb214 (by kernel_rfl) (by kernel_rfl) (by kernel_rfl) (by kernel_rfl) (fun _ _ _ h => h) (by rfl) ?hyb214 sd0 ?restb214
            case hyb214 => (intro o ho W hW; simp only [List.getElem?_toArray, List.getElem?_cons_succ, List.getElem?_cons_zero, Option.some.injEq] at ho; subst ho; (try dsimp only at hW); have g2 := (World.cell?_of_block (hW.block y.1.ad l0 hy7)).trans c0; go_simp; try rfl)
            try simp only [Act.put, List.setIfInBounds_toArray, List.set_cons_zero, List.set_cons_succ]
            refine nextS 5 (by kernel_rfl) (by rfl) (fun o ho K hK => ?_)
            simp only [List.getElem?_toArray, List.getElem?_cons_succ, List.getElem?_cons_zero, Option.some.injEq] at ho; subst ho
            go_simp
            (go_at_call 42; (with_reducible refine (C1.out _).mono ?_); rintro e w4 ⟨rfl, b4⟩)
            have s4 : Below W.heap.size W w4 := below_up sw sw.size b4
            have s5 := sv.on (Nat.le_refl _) b4
            refine hK.out _ _ s5 (fun _ => ?_)
            clear hK K
            try simp only [Act.put, List.setIfInBounds_toArray, List.set_cons_zero, List.set_cons_succ]
            refine takeS 6 (some 56) ?vb216 (by kernel_rfl) (by kernel_rfl) (by kernel_rfl) (by kernel_rfl) (fun _ _ _ h => h) (by rfl) ?hyb216 s5 ?restb216
            case hyb216 => (intro o ho W hW; simp only [List.getElem?_toArray, List.getElem?_cons_succ, List.getElem?_cons_zero, Option.some.injEq] at ho; subst ho; (try dsimp only at hW); skip; go_simp; try rfl)
            try simp only [Act.put, List.setIfInBounds_toArray, List.set_cons_zero, List.set_cons_succ]
            refine wpAnyH_done (by kernel_rfl) ?_ _
            exact ⟨rfl, s4⟩
            rintro a' w' ⟨rfl, b4⟩
            have hO4 := HO.out.on (Nat.le_refl _) b4
            have hB4 := HB.out.on b4
            have K1 : KeepsOthers W w' := KeepsOthers.of_grownBy (grown_none b4) (fun j o e h => by cases e)
            have K2 : Kp w3.heap.size [gb] W w' := Kp.below b4 HO.out.size
            gi_wp2
            refine ⟨K1.from _, K2, hO4, ?_⟩
            rw [List.map_append, List.map_cons, List.map_nil, bhf_app]
            unfold bst
            rw [if_pos hb1]
            exact hB4
          · gi_wp2
            refine region_round (S := fun V => Ov W.heap.size [gb] W V) (R := fun a' w' => a' = { tmps := #[.pointer (some ⟨g, 0, none⟩), .agg (kS.v k), undef, .pointer (some ⟨w.heap.size, 0, none⟩), .pointer (some ⟨w.heap.size + 1, 0, none⟩), .bool false, .pointer (some ⟨a, 0, none⟩), .int .i64 (r : Nat), .pointer (some ⟨k8, 0, none⟩), .pointer (some ⟨gb, 0, none⟩), .pointer (some ⟨y.1.ad, 0, none⟩), .pointer (some ⟨g, 0, none⟩), .agg (kS.v k), .pointer (some (plc k ⟨g, 0, none⟩ (pth k 200 (some t)))), .pointer (some (plc k ⟨g, 0, none⟩ (pth k 200 (some t)))), .pointer (some ⟨a, 0, none⟩), .pointer (some ⟨a, 0, none⟩), .bool false, undef, u19, u20, u21, u22, u23, u24, u25, u26, u27, .int .i64 (r : Nat), .bool true, .bool true, .agg (kS.v k), .int .i64 (r : Nat), .int .i64 1, .bool false, .bool false, u36, u37, u38, u39, u40, u41, u42, u43, u44, .pointer (some ⟨g, 0, none⟩), .agg (kS.v k), .int .i64 (r : Nat), .func (.func 57) #[] #[.pointer (some ⟨wb.heap.size + 1, 0, none⟩), .pointer (some ⟨wb.heap.size, 0, none⟩), .pointer (some ⟨wb.heap.size + 2, 0, none⟩)], .pointer (some ⟨y.1.ad, 0, none⟩), .agg (kS.v k), .pointer (some ⟨y.1.ad, 0, none⟩), .pointer (some ⟨y.1.ad, 0, none⟩), .pointer (some ⟨y.1.ad, 0, none⟩), .int .i64 (y.1.bit : Nat), .int .i64 0, .bool true, u57, u58, u59, u60, u61, u62, u63, u64, u65], defers := [] } ∧ Below W.heap.size W w') hmix (by kernel_rfl) sv (fun sd0 => ?_) ?_
            refine takeS 0 (some 50) ?vb200 (by kernel_rfl) (by kernel_rfl) (by kernel_rfl) (by kernel_rfl) (fun _ _ _ h => h) (by rfl) ?hyb200 sd0 ?restb200
            case hyb200 => (intro o ho W hW; simp only [List.getElem?_toArray, List.getElem?_cons_succ, List.getElem?_cons_zero, Option.some.injEq] at ho; subst ho; (try dsimp only at hW); have g1 := (Shp.rd_to (hW.block k8 l1 h8)).trans c1; go_simp; try rfl)
            try simp only [Act.put, List.setIfInBounds_toArray, List.set_cons_zero, List.set_cons_succ]
            refine takeS 1 (some 51) ?vb201 (by kernel_rfl) (by kernel_rfl) (by kernel_rfl) (by kernel_rfl) (fun _ _ _ h => h) (by rfl) ?hyb201 sd0 ?restb201
            case hyb201 => (intro o ho W hW; simp only [List.getElem?_toArray, List.getElem?_cons_succ, List.getElem?_cons_zero, Option.some.injEq] at ho; subst ho; (try dsimp only at hW); skip; go_simp; try rfl)
            try simp only [Act.put, List.setIfInBounds_toArray, List.set_cons_zero, List.set_cons_succ]
            refine takeS 2 (some 52) ?vb202 (by kernel_rfl) (by kernel_rfl) (by kernel_rfl) (by kernel_rfl) (fun _ _ _ h => h) (by rfl) ?hyb202 sd0 ?restb202
            case hyb202 => (intro o ho W hW; simp only [List.getElem?_toArray, List.getElem?_cons_succ, List.getElem?_cons_zero, Option.some.injEq] at ho; subst ho; (try dsimp only at hW); skip; go_simp; try rfl)
            try simp only [Act.put, List.setIfInBounds_toArray, List.set_cons_zero, List.set_cons_succ]
            refine takeS 3 (some 53) ?vb203 (by kernel_rfl) (by kernel_rfl) (by kernel_rfl) (by kernel_rfl) (fun _ _ _ h => h) (by rfl) ?hyb203 sd0 ?restb203
            case hyb203 => (intro o ho W hW; simp only [List.getElem?_toArray, List.getElem?_cons_succ, List.getElem?_cons_zero, Option.some.injEq] at ho; subst ho; (try dsimp only at hW); skip; go_simp; try rfl)
            try simp only [Act.put, List.setIfInBounds_toArray, List.set_cons_zero, List.set_cons_succ]
            refine takeS 4 (some 54) ?vb204 (by kernel_rfl) (by kernel_rfl) (by kernel_rfl) (by kernel_rfl) (fun _ _ _ h => h) (by rfl) ?hyb204 sd0 ?restb204
            case hyb204 => (intro o ho W hW; simp only [List.getElem?_toArray, List.getElem?_cons_succ, List.getElem?_cons_zero, Option.some.injEq] at ho; subst ho; (try dsimp only at hW); have g2 := (World.cell?_of_block (hW.block y.1.ad l0 hy7)).trans c0; go_simp; try rfl)
            try simp only [Act.put, List.setIfInBounds_toArray, List.set_cons_zero, List.set_cons_succ]
            refine nextS 5 (by kernel_rfl) (by rfl) (fun o ho K hK => ?_)
            simp only [List.getElem?_toArray, List.getElem?_cons_succ, List.getElem?_cons_zero, Option.some.injEq] at ho; subst ho
            go_simp
            (go_at_call 42; (with_reducible refine (C1.out _).mono ?_); rintro e w4 ⟨rfl, b4⟩)
            have s4 : Below W.heap.size W w4 := below_up sw sw.size b4
            have s5 := sv.on (Nat.le_refl _) b4
            refine hK.out _ _ s5 (fun _ => ?_)
            clear hK K
            try simp only [Act.put, List.setIfInBounds_toArray, List.set_cons_zero, List.set_cons_succ]
            refine takeS 6 (some 56) ?vb206 (by kernel_rfl) (by kernel_rfl) (by kernel_rfl) (by kernel_rfl) (fun _ _ _ h => h) (by rfl) ?hyb206 s5 ?restb206
            case hyb206 => (intro o ho W hW; simp only [List.getElem?_toArray, List.getElem?_cons_succ, List.getElem?_cons_zero, Option.some.injEq] at ho; subst ho; (try dsimp only at hW); skip; go_simp; try rfl)
            try simp only [Act.put, List.setIfInBounds_toArray, List.set_cons_zero, List.set_cons_succ]
            refine wpAnyH_done (by kernel_rfl) ?_ _
            exact ⟨rfl, s4⟩
            rintro a' w' ⟨rfl, b4⟩
            have hO4 := HO.out.on (Nat.le_refl _) b4
            have hB4 := HB.out.on b4
            have hhi4 := cell_kept_ b4 hhi
            have hc4 := hB4.cell
            have hf4 := hB4.free
            have K1 : KeepsOthers W w' := KeepsOthers.of_grownBy (grown_none b4) (fun j o e h => by cases e)
            have K2 : Kp w3.heap.size [gb] W w' := Kp.below b4 HO.out.size
            gi_wp2
            refine ⟨(K1.trans (KeepsOthers.setCell _ _ _)).from _, K2.trans (Kp.set _ _ _ _ (by simp) hB4 (by decide)), hO4.set (by simp) _, ?_⟩
            rw [List.map_append, List.map_cons, List.map_nil, bhf_app]
            unfold bst
            rw [if_neg (by rw [hb1]; decide)]
            exact hB4.set_ _
        case done2 =>
          rintro D0 ys W hD hp ⟨hO, hB⟩ hK
          have hc := hB.cell
          rw [hp] at hB hc
          have hok := bhf_ok hT3 (pth k r (some t)) none (fun u e => by cases e) (fun y h => h)
          obtain ⟨bo, hbo⟩ : ∃ bo, bhf k none (pth k r (some t)) = bo := ⟨_, rfl⟩
          rw [hbo] at hok hc hB HNX
          clear hbo
          have hkW : Shp.tn 25 W (w.heap.size + 1) = true := (Shp.tn_to (hO.block (w.heap.size + 1) (by omega) (by simp; omega))).trans kk3
          have CF := Lib.hid (first_any bo W (fun u e => by
            obtain ⟨h1, h2, h3⟩ := hok u e
            exact ⟨hO.nd h1 (fun q hq => hX t rfl q (h3 q hq)), h2⟩))
          clear hok
          gi_wp2
          refine ⟨trivial, ?_⟩
          refine (callsIn_wide.2 CF.out).mono ?_
          rintro e w8 ⟨rfl, b8⟩
          have kk8 := Shp.tn_on hkW b8
          have hO8 := hO.on (Nat.le_refl _) b8
          have hD8 : D0 < W.heap.size := (Array.getElem?_eq_some_iff.1 hK).1
          have hK8 : (w8.setRow (w.heap.size + 1) (kS.v (fk bo))).heap[D0]? = some (.deferred (some [])) := (heap_setRow _ _ _ _ (by omega)).trans ((b8.block D0 hD8).trans hK)
          have hset := Shp.rd_set (S := kS) w8 (w.heap.size + 1) (fk bo) kk8
          have R2 : kS.rd ((w8.setRow (w.heap.size + 1) (kS.v (fk bo))).putObj D0 (.deferred none)) ⟨w.heap.size + 1, 0, none⟩ = some (fk bo) :=
            (Shp.rd_to (World.putObj_heap_other (by show w.heap.size + 1 ≠ D0; omega))).trans hset
          have hfin := below_setRow (z3.trans (hO8.below (b := w.heap.size) (by omega) (fun x hx => by simp at hx; omega))) (Nat.le_succ _) (kS.v (fk bo))
          have hfin2 : Below w.heap.size w ((w8.setRow (w.heap.size + 1) (kS.v (fk bo))).putObj D0 (.deferred none)) := ⟨hfin.os, hfin.tape, hfin.output, by have := hfin.size; simpa [World.putObj] using this, fun q hq => (World.putObj_heap_other (by omega)).trans (hfin.block q hq)⟩
          clear hO hB hK hO8
          gi_wp2
          refine ⟨by simp, .inl ⟨_, _, rfl, run_takeDeferred hK8, ?_⟩⟩
          refine ⟨.tuple #[.agg (kS.v (fk bo)), .bool bo.isSome], ?_, by rw [HNX.out.1, HNX.out.2], hfin2⟩
          rw [results_ct rfl]; simp [asAddr, Result.andThen, lvk_of R2] <;> rfl
        case stop2 =>
          rintro D0 c pre W _ _ h _
          exact h.elim
end Go.Proofs.Ytkhjnfplcaffnaa
