/-
  Which keys are of a prefix: the law's walk.
-/
import Derived.Test.YtjblepjkejihcaaGreatDoorKrs
import Derived.Test.YtjblepjkejihcaaGreatDoorKpb
import Derived.Test.YtjblepjkejihcaaGreatDoorKls
import Derived.Test.YtjblepjkejihcaaGreatDoorGh
set_option linter.unusedVariables false
set_option linter.unusedSimpArgs false
set_option maxRecDepth 100000
namespace Go.Proofs.YtjblepjkejihcaaGreatDoor
open Go.RowKit
attribute [local go_sem ↓] Go.wp_at_zero Go.wp_at_succ ld_k lv_k st_k eq_k ne_k bd_k ld_b lv_b st_b eq_b ne_b bd_25 ld_r lv_r st_rk eq_rk ne_rk bd_r ld_p lv_p st_px bd_p Nm.ld_a Nm.ld_n Nm.st_a Nm.st_n Nm.eq_a Nm.eq_n Nm.ne_a Nm.ne_n Nm.lv_a Nm.lv_n ld_a ld_n st_a st_n eq_a eq_n ne_a ne_n lv_a lv_n
attribute [local go_sem] run_ldk run_lvk run_stk run_eqk run_nek run_bdk_z run_ldb run_lvb run_stb run_eqb run_neb run_ldr run_lvr run_strk run_eqrk run_nerk run_bdr_z run_ldp run_lvp run_stpx Nm.run_ld_a Nm.run_ld_n Nm.run_st_n Nm.run_eq_a Nm.run_eq_n Nm.run_ne_a Nm.run_ne_n Nm.run_lv_a Nm.run_lv_n Nm.rd_new Nm.rd_old Nm.rd_drew Nm.rd_drewN run_ld_a run_ld_n run_sw_a run_sw_n run_eq_a run_eq_n run_ne_a run_ne_n run_lv_a run_lv_n st_z ne_z eq_z rd_new rd_old rd_drew rd_drewN Shp.rd_new Shp.rd_old Shp.rd_drew Shp.rd_drewN Shp.rd_set Shp.tn_new Shp.tn_old Shp.tn_drew Shp.tn_drewN tn_new tn_old tn_drew tn_drewN rd_set setRow_alloc run_stn3 run_stt15 Shp.rd_extk cell_ext

theorem row_setRow {w : World} {A : Option Addr} {n g : Nat} {xs : List Value} {cs : Array Value} (h : Row w A n xs) (hg : 0 < n → ∀ ad, A = some ad → ad.block ≠ g) : Row (w.setRow g cs) A n xs := ⟨h.len, fun hn => by
  obtain ⟨ad, e, hl, hc⟩ := h.to hn
  exact ⟨ad, e, by simpa [World.setRow] using hl, fun j u hu => (World.cell?_of_block (w := w) (by rw [block_of_add]; exact heap_setRow w g _ _ (hg hn ad e))).trans (hc j u hu)⟩⟩
theorem row_ne {w : World} {A : Option Addr} {n : Nat} {xs : List Value} (h : Row w A n xs) : 0 < n → ∀ ad, A = some ad → ad.block ≠ w.heap.size := fun hn ad e => by
  obtain ⟨ad', e', hl, _⟩ := h.to hn
  rw [e] at e'
  injection e' with e'
  subst e'
  omega
theorem own_ne {base g n c : Nat} {w : World} {A : Option Addr} {l : List Nat} (h : Own base w A n c l) (hg : g < base) : 0 < n → ∀ ad, A = some ad → ad.block ≠ g := fun _ ad e => by
  have := h.block_le ad.block (by rw [e]; rfl)
  omega
theorem ends_out {d : Int} (h : ¬ (0 ≤ d ∧ d ≤ 5)) : D.ends d = 0 := by
  unfold D.ends
  rw [if_neg (by omega), if_neg (by omega), if_neg (by omega), if_neg (by omega), if_neg (by omega)]
theorem take_row {w : World} {g : Nat} {x : D.Ky} (h : kS.rd w ⟨g, 0, none⟩ = some x) (n : Nat) (p : On) (hn : n ≤ 25) : Row (ext w p) (some ⟨g, 0, none⟩) n (bys (x.l.take n)) := by
  have := ((krow_rd h).on (ext_below w p)).take (k := n) hn
  rwa [bys_take] at this
theorem lt_row {w : World} {g n : Nat} (h : Shp.tn n w g = true) : g < w.heap.size := Shp.tn_lt h

set_option maxHeartbeats 32000000 in
theorem kprefixes_all (q : D.Px) (x : D.Ky) (w : World) (hE : Env w) : Calls Tryz.prog 7 #[.agg (pS.v q), .agg (kS.v x)] w fun e w' => e = .returned (.bool true) ∧ Below w.heap.size w w' := by
  have hn := D.ends_le q.d
  obtain ⟨n, hnn⟩ : ∃ n, D.ends q.d = n := ⟨_, rfl⟩
  have cP := fun W => pbytes_any q W
  rw [hnn] at hn cP
  have hlen : (q.x.l.take n).length = n := by rw [List.length_take, q.x.len]; omega
  have CP := Lib.hid (fun W => (show Calls Tryz.prog 25 #[.agg (pS.v q)] W fun e w' => ∃ A c, e = .returned (.slice A n c) ∧ Own W.heap.size w' A n c (q.x.l.take n) ∧ Below W.heap.size W w' from (cP W).mono fun e w' ⟨A, c, he, ho, hb⟩ => ⟨A, c, by rw [he, hlen], by rw [hlen] at ho; exact ho, hb⟩))
  have CB := Lib.hid (kbytes_any x)
  obtain ⟨l, hl⟩ : ∃ l, q.x.l.take n = l := ⟨_, rfl⟩
  rw [hl] at CP hlen
  obtain ⟨w0, hw0⟩ : ∃ w0, (w.alloc (.cells (pS.v q) 58)).alloc (.cells (kS.v x) 33) = w0 := ⟨_, rfl⟩
  have f0 : pS.rd w0 ⟨w.heap.size, 0, none⟩ = some q := by rw [← hw0]; exact Shp.rd_on (Shp.rd_new (S := pS) w _ _ q rfl) (below_alloc_ _ _)
  have f1 : kS.rd w0 ⟨w.heap.size + 1, 0, none⟩ = some x := by rw [← hw0]; exact Shp.rd_new _ _ _ _ (by simp)
  have b0 : Below w.heap.size w w0 := by rw [← hw0]; exact (below_alloc_ _ _).alloc (by simp) _
  clear cP
  go_enter Tryz.func7, Tryz.ntmps7
  go_wp2_with fail
  try rw [hw0]
  clear hw0
  go_cut [5, 6] from 10 (fun s5 s6 wx => ∃ (A : Option Addr) (c k6 : Nat), s5 = .slice A n c ∧ s6 = .pointer (some ⟨k6, 0, none⟩) ∧ n ≤ c ∧ Row wx A n (bys l) ∧ kS.rd wx ⟨k6, 0, none⟩ = some x ∧ Below w0.heap.size w0 wx)
  case first =>
    refine wp_region_noPanic ?_
    refine wp_region_held_drew (S := fun W => Below w0.heap.size w0 W) (by kernel_rfl) (Below.refl _ _).drew (fun _ => ?_)
    obtain ⟨wd, hwd⟩ : ∃ wd, w0.drew = wd := ⟨_, rfl⟩
    have sd : Below w0.heap.size w0 wd := by rw [← hwd]; exact (Below.refl _ _).drew
    rw [hwd]
    clear hwd
    refine takeS 0 (some 10) ?vr0 (by kernel_rfl) (by kernel_rfl) (by kernel_rfl) (by kernel_rfl) (fun _ _ _ h => h) (by rfl) ?hyr0 sd ?restr0
    case hyr0 => (intro o ho W hW; simp only [List.getElem?_toArray, List.getElem?_cons_succ, List.getElem?_cons_zero, Option.some.injEq] at ho; subst ho; (try dsimp only at hW); have g := Shp.rd_on f0 hW; go_simp; try rfl)
    try simp only [Act.put, List.setIfInBounds_toArray, List.set_cons_zero, List.set_cons_succ]
    refine takeS 2 (some 12) ?vr2 (by kernel_rfl) (by kernel_rfl) (by kernel_rfl) (by kernel_rfl) (fun _ _ _ h => h) (by rfl) ?hyr2 sd ?restr2
    case hyr2 => (intro o ho W hW; simp only [List.getElem?_toArray, List.getElem?_cons_succ, List.getElem?_cons_zero, Option.some.injEq] at ho; subst ho; (try dsimp only at hW); have g := Shp.rd_on f1 hW; go_simp; try rfl)
    try simp only [Act.put, List.setIfInBounds_toArray, List.set_cons_zero, List.set_cons_succ]
    refine forkS 1 4 (by kernel_rfl) (by rfl) (by rfl) (fun o ho K hK => ?_) (fun o ho K hK => ?_)
    · simp only [List.getElem?_toArray, List.getElem?_cons_succ, List.getElem?_cons_zero, Option.some.injEq] at ho; subst ho
      go_simp
      (go_at_call 25; (with_reducible refine (CP.out _).mono ?_); rintro e u1w ⟨A1, c1, rfl, o1, b1⟩)
      have s1 : Below w0.heap.size w0 u1w := below_up sd sd.size b1
      have r1 := o1.to_row
      have m1 := o1.cap.1
      refine hK.out _ _ s1 (fun _ => ?_)
      clear hK K
      try simp only [Act.put, List.setIfInBounds_toArray, List.set_cons_zero, List.set_cons_succ]
      refine forkS 3 4 (by kernel_rfl) (by rfl) (by rfl) (fun o ho K hK => ?_) (fun o ho K hK => ?_)
      · simp only [List.getElem?_toArray, List.getElem?_cons_succ, List.getElem?_cons_zero, Option.some.injEq] at ho; subst ho
        go_simp
        (go_at_call 16; (with_reducible refine (CB.out _).mono ?_); rintro e u2w ⟨rfl, b2⟩)
        have s2 : Below w0.heap.size w0 u2w := below_up s1 s1.size b2
        have r2 := r1.on b2
        refine hK.out _ _ s2 (fun _ => ?_)
        clear hK K
        try simp only [Act.put, List.setIfInBounds_toArray, List.set_cons_zero, List.set_cons_succ]
        refine nextS 4 (by kernel_rfl) (by rfl) (fun o ho K hK => ?_)
        simp only [List.getElem?_toArray, List.getElem?_cons_succ, List.getElem?_cons_zero, Option.some.injEq] at ho; subst ho
        go_simp
        have s3 : Below w0.heap.size w0 (u2w.alloc (.cells #[.int .u8 0, .int .u8 0, .int .u8 0, .int .u8 0, .int .u8 0, .int .u8 0, .int .u8 0, .int .u8 0, .int .u8 0, .int .u8 0, .int .u8 0, .int .u8 0, .int .u8 0, .int .u8 0, .int .u8 0, .int .u8 0, .int .u8 0, .int .u8 0, .int .u8 0, .int .u8 0, .int .u8 0, .int .u8 0, .int .u8 0, .int .u8 0, .int .u8 0] 42)) := s2.alloc s2.size _
        have q3 : Shp.tn 25 (u2w.alloc (.cells #[.int .u8 0, .int .u8 0, .int .u8 0, .int .u8 0, .int .u8 0, .int .u8 0, .int .u8 0, .int .u8 0, .int .u8 0, .int .u8 0, .int .u8 0, .int .u8 0, .int .u8 0, .int .u8 0, .int .u8 0, .int .u8 0, .int .u8 0, .int .u8 0, .int .u8 0, .int .u8 0, .int .u8 0, .int .u8 0, .int .u8 0, .int .u8 0, .int .u8 0] 42)) u2w.heap.size = true := Shp.tn_of (Blk.new u2w _ _) rfl
        have ne := row_ne r2
        have r3 := r2.on (below_alloc_ u2w (.cells #[.int .u8 0, .int .u8 0, .int .u8 0, .int .u8 0, .int .u8 0, .int .u8 0, .int .u8 0, .int .u8 0, .int .u8 0, .int .u8 0, .int .u8 0, .int .u8 0, .int .u8 0, .int .u8 0, .int .u8 0, .int .u8 0, .int .u8 0, .int .u8 0, .int .u8 0, .int .u8 0, .int .u8 0, .int .u8 0, .int .u8 0, .int .u8 0, .int .u8 0] 42))
        refine hK.out _ _ s3 (fun _ => ?_)
        clear hK K
        try simp only [Act.put, List.setIfInBounds_toArray, List.set_cons_zero, List.set_cons_succ]
        obtain ⟨u3w, hu3w⟩ : ∃ V, u2w.alloc (.cells #[.int .u8 0, .int .u8 0, .int .u8 0, .int .u8 0, .int .u8 0, .int .u8 0, .int .u8 0, .int .u8 0, .int .u8 0, .int .u8 0, .int .u8 0, .int .u8 0, .int .u8 0, .int .u8 0, .int .u8 0, .int .u8 0, .int .u8 0, .int .u8 0, .int .u8 0, .int .u8 0, .int .u8 0, .int .u8 0, .int .u8 0, .int .u8 0, .int .u8 0] 42) = V := ⟨_, rfl⟩
        rw [hu3w] at s3 q3 r3
        rw [hu3w]
        clear hu3w
        refine takeS 5 (some 5) ?vz1_5 (by kernel_rfl) (by kernel_rfl) (by kernel_rfl) (by kernel_rfl) (fun _ _ _ h => h) (by rfl) ?hyz1_5 s3 ?restz1_5
        case hyz1_5 => (intro o ho W hW; simp only [List.getElem?_toArray, List.getElem?_cons_succ, List.getElem?_cons_zero, Option.some.injEq] at ho; subst ho; (try dsimp only at hW); skip; go_simp; try rfl)
        try simp only [Act.put, List.setIfInBounds_toArray, List.set_cons_zero, List.set_cons_succ]
        refine nextS 6 (by kernel_rfl) (by rfl) (fun o ho K hK => ?_)
        simp only [List.getElem?_toArray, List.getElem?_cons_succ, List.getElem?_cons_zero, Option.some.injEq] at ho; subst ho
        go_simp
        have s6 : Below w0.heap.size w0 (u3w.setRow (u2w.heap.size) (kS.v x)) := below_setRow s3 s2.size _
        refine hK.out _ _ s6 (fun _ => ?_)
        clear hK K
        try simp only [Act.put, List.setIfInBounds_toArray, List.set_cons_zero, List.set_cons_succ]
        refine wpAnyH_done (by kernel_rfl) ?_ _
        refine NoPanic.normal ?_
        have RA := Shp.rd_set (S := kS) u3w (u2w.heap.size) x q3
        have RB := row_setRow (cs := kS.v x) r3 ne
        go_wp2_with fail
        go_meet
        exact ⟨_, _, _, rfl, rfl, m1, RB, RA, s6⟩
      · simp only [List.getElem?_toArray, List.getElem?_cons_succ, List.getElem?_cons_zero, Option.some.injEq] at ho; subst ho
        go_simp
        have s4 : Below w0.heap.size w0 (u1w.alloc (.cells #[.int .u8 0, .int .u8 0, .int .u8 0, .int .u8 0, .int .u8 0, .int .u8 0, .int .u8 0, .int .u8 0, .int .u8 0, .int .u8 0, .int .u8 0, .int .u8 0, .int .u8 0, .int .u8 0, .int .u8 0, .int .u8 0, .int .u8 0, .int .u8 0, .int .u8 0, .int .u8 0, .int .u8 0, .int .u8 0, .int .u8 0, .int .u8 0, .int .u8 0] 42)) := s1.alloc s1.size _
        have q4 : Shp.tn 25 (u1w.alloc (.cells #[.int .u8 0, .int .u8 0, .int .u8 0, .int .u8 0, .int .u8 0, .int .u8 0, .int .u8 0, .int .u8 0, .int .u8 0, .int .u8 0, .int .u8 0, .int .u8 0, .int .u8 0, .int .u8 0, .int .u8 0, .int .u8 0, .int .u8 0, .int .u8 0, .int .u8 0, .int .u8 0, .int .u8 0, .int .u8 0, .int .u8 0, .int .u8 0, .int .u8 0] 42)) u1w.heap.size = true := Shp.tn_of (Blk.new u1w _ _) rfl
        have ne := row_ne r1
        have r4 := r1.on (below_alloc_ u1w (.cells #[.int .u8 0, .int .u8 0, .int .u8 0, .int .u8 0, .int .u8 0, .int .u8 0, .int .u8 0, .int .u8 0, .int .u8 0, .int .u8 0, .int .u8 0, .int .u8 0, .int .u8 0, .int .u8 0, .int .u8 0, .int .u8 0, .int .u8 0, .int .u8 0, .int .u8 0, .int .u8 0, .int .u8 0, .int .u8 0, .int .u8 0, .int .u8 0, .int .u8 0] 42))
        refine hK.out _ _ s4 (fun _ => ?_)
        clear hK K
        try simp only [Act.put, List.setIfInBounds_toArray, List.set_cons_zero, List.set_cons_succ]
        obtain ⟨u4w, hu4w⟩ : ∃ V, u1w.alloc (.cells #[.int .u8 0, .int .u8 0, .int .u8 0, .int .u8 0, .int .u8 0, .int .u8 0, .int .u8 0, .int .u8 0, .int .u8 0, .int .u8 0, .int .u8 0, .int .u8 0, .int .u8 0, .int .u8 0, .int .u8 0, .int .u8 0, .int .u8 0, .int .u8 0, .int .u8 0, .int .u8 0, .int .u8 0, .int .u8 0, .int .u8 0, .int .u8 0, .int .u8 0] 42) = V := ⟨_, rfl⟩
        rw [hu4w] at s4 q4 r4
        rw [hu4w]
        clear hu4w
        refine nextS 3 (by kernel_rfl) (by rfl) (fun o ho K hK => ?_)
        simp only [List.getElem?_toArray, List.getElem?_cons_succ, List.getElem?_cons_zero, Option.some.injEq] at ho; subst ho
        go_simp
        (go_at_call 16; (with_reducible refine (CB.out _).mono ?_); rintro e u5w ⟨rfl, b5⟩)
        have s5 : Below w0.heap.size w0 u5w := below_up s4 s4.size b5
        have r5 := r4.on b5
        have t6_5 := Shp.tn_on q4 b5
        refine hK.out _ _ s5 (fun _ => ?_)
        clear hK K
        try simp only [Act.put, List.setIfInBounds_toArray, List.set_cons_zero, List.set_cons_succ]
        refine takeS 5 (some 5) ?vz2_5 (by kernel_rfl) (by kernel_rfl) (by kernel_rfl) (by kernel_rfl) (fun _ _ _ h => h) (by rfl) ?hyz2_5 s5 ?restz2_5
        case hyz2_5 => (intro o ho W hW; simp only [List.getElem?_toArray, List.getElem?_cons_succ, List.getElem?_cons_zero, Option.some.injEq] at ho; subst ho; (try dsimp only at hW); skip; go_simp; try rfl)
        try simp only [Act.put, List.setIfInBounds_toArray, List.set_cons_zero, List.set_cons_succ]
        refine nextS 6 (by kernel_rfl) (by rfl) (fun o ho K hK => ?_)
        simp only [List.getElem?_toArray, List.getElem?_cons_succ, List.getElem?_cons_zero, Option.some.injEq] at ho; subst ho
        go_simp
        have s6 : Below w0.heap.size w0 (u5w.setRow (u1w.heap.size) (kS.v x)) := below_setRow s5 s1.size _
        refine hK.out _ _ s6 (fun _ => ?_)
        clear hK K
        try simp only [Act.put, List.setIfInBounds_toArray, List.set_cons_zero, List.set_cons_succ]
        refine wpAnyH_done (by kernel_rfl) ?_ _
        refine NoPanic.normal ?_
        have RA := Shp.rd_set (S := kS) u5w (u1w.heap.size) x t6_5
        have RB := row_setRow (cs := kS.v x) r5 ne
        go_wp2_with fail
        go_meet
        exact ⟨_, _, _, rfl, rfl, m1, RB, RA, s6⟩
    · simp only [List.getElem?_toArray, List.getElem?_cons_succ, List.getElem?_cons_zero, Option.some.injEq] at ho; subst ho
      go_simp
      have s6 : Below w0.heap.size w0 (wd.alloc (.cells #[.int .u8 0, .int .u8 0, .int .u8 0, .int .u8 0, .int .u8 0, .int .u8 0, .int .u8 0, .int .u8 0, .int .u8 0, .int .u8 0, .int .u8 0, .int .u8 0, .int .u8 0, .int .u8 0, .int .u8 0, .int .u8 0, .int .u8 0, .int .u8 0, .int .u8 0, .int .u8 0, .int .u8 0, .int .u8 0, .int .u8 0, .int .u8 0, .int .u8 0] 42)) := sd.alloc sd.size _
      have q6 : Shp.tn 25 (wd.alloc (.cells #[.int .u8 0, .int .u8 0, .int .u8 0, .int .u8 0, .int .u8 0, .int .u8 0, .int .u8 0, .int .u8 0, .int .u8 0, .int .u8 0, .int .u8 0, .int .u8 0, .int .u8 0, .int .u8 0, .int .u8 0, .int .u8 0, .int .u8 0, .int .u8 0, .int .u8 0, .int .u8 0, .int .u8 0, .int .u8 0, .int .u8 0, .int .u8 0, .int .u8 0] 42)) wd.heap.size = true := Shp.tn_of (Blk.new wd _ _) rfl
      refine hK.out _ _ s6 (fun _ => ?_)
      clear hK K
      try simp only [Act.put, List.setIfInBounds_toArray, List.set_cons_zero, List.set_cons_succ]
      obtain ⟨u6w, hu6w⟩ : ∃ V, wd.alloc (.cells #[.int .u8 0, .int .u8 0, .int .u8 0, .int .u8 0, .int .u8 0, .int .u8 0, .int .u8 0, .int .u8 0, .int .u8 0, .int .u8 0, .int .u8 0, .int .u8 0, .int .u8 0, .int .u8 0, .int .u8 0, .int .u8 0, .int .u8 0, .int .u8 0, .int .u8 0, .int .u8 0, .int .u8 0, .int .u8 0, .int .u8 0, .int .u8 0, .int .u8 0] 42) = V := ⟨_, rfl⟩
      rw [hu6w] at s6 q6
      rw [hu6w]
      clear hu6w
      refine nextS 1 (by kernel_rfl) (by rfl) (fun o ho K hK => ?_)
      simp only [List.getElem?_toArray, List.getElem?_cons_succ, List.getElem?_cons_zero, Option.some.injEq] at ho; subst ho
      go_simp
      (go_at_call 25; (with_reducible refine (CP.out _).mono ?_); rintro e u7w ⟨A7, c7, rfl, o7, b7⟩)
      have s7 : Below w0.heap.size w0 u7w := below_up s6 s6.size b7
      have r7 := o7.to_row
      have m7 := o7.cap.1
      have t6_7 := Shp.tn_on q6 b7
      have ne := own_ne o7 (lt_row q6)
      refine hK.out _ _ s7 (fun _ => ?_)
      clear hK K
      try simp only [Act.put, List.setIfInBounds_toArray, List.set_cons_zero, List.set_cons_succ]
      refine nextS 3 (by kernel_rfl) (by rfl) (fun o ho K hK => ?_)
      simp only [List.getElem?_toArray, List.getElem?_cons_succ, List.getElem?_cons_zero, Option.some.injEq] at ho; subst ho
      go_simp
      (go_at_call 16; (with_reducible refine (CB.out _).mono ?_); rintro e u8w ⟨rfl, b8⟩)
      have s8 : Below w0.heap.size w0 u8w := below_up s7 s7.size b8
      have r8 := r7.on b8
      have t6_8 := Shp.tn_on t6_7 b8
      refine hK.out _ _ s8 (fun _ => ?_)
      clear hK K
      try simp only [Act.put, List.setIfInBounds_toArray, List.set_cons_zero, List.set_cons_succ]
      refine takeS 5 (some 5) ?vz3_5 (by kernel_rfl) (by kernel_rfl) (by kernel_rfl) (by kernel_rfl) (fun _ _ _ h => h) (by rfl) ?hyz3_5 s8 ?restz3_5
      case hyz3_5 => (intro o ho W hW; simp only [List.getElem?_toArray, List.getElem?_cons_succ, List.getElem?_cons_zero, Option.some.injEq] at ho; subst ho; (try dsimp only at hW); skip; go_simp; try rfl)
      try simp only [Act.put, List.setIfInBounds_toArray, List.set_cons_zero, List.set_cons_succ]
      refine nextS 6 (by kernel_rfl) (by rfl) (fun o ho K hK => ?_)
      simp only [List.getElem?_toArray, List.getElem?_cons_succ, List.getElem?_cons_zero, Option.some.injEq] at ho; subst ho
      go_simp
      have s6 : Below w0.heap.size w0 (u8w.setRow (wd.heap.size) (kS.v x)) := below_setRow s8 sd.size _
      refine hK.out _ _ s6 (fun _ => ?_)
      clear hK K
      try simp only [Act.put, List.setIfInBounds_toArray, List.set_cons_zero, List.set_cons_succ]
      refine wpAnyH_done (by kernel_rfl) ?_ _
      refine NoPanic.normal ?_
      have RA := Shp.rd_set (S := kS) u8w (wd.heap.size) x t6_8
      have RB := row_setRow (cs := kS.v x) r8 ne
      go_wp2_with fail
      go_meet
      exact ⟨_, _, _, rfl, rfl, m7, RB, RA, s6⟩
  case rest =>
    obtain ⟨A, c, k6, rfl, rfl, hnc, RA, RX, b1⟩ := hcut
    have bF := below_up b0 b0.size b1
    have p0 := Shp.rd_on f0 b1
    have h1 := Shp.rd_on f1 b1
    have CH := Lib.hid (fun W => has_any q x W)
    have CLp := Lib.hid (lawof_any q.x)
    have CLx := Lib.hid (lawof_any x)
    have CR := Lib.hid (fun W => rhas_any q.x x q.d W)
    obtain ⟨g0, c0⟩ := pf0 p0
    have sp := Shp.rd_lt p0
    have sx := Shp.rd_lt h1
    have s6 := Shp.rd_lt RX
    simp only at sp sx s6
    have EF := hE.on bF
    obtain ⟨hh, hhh⟩ : ∃ b, D.has q.x q.d x = b := ⟨_, rfl⟩
    have hN : n = D.ends q.d := hnn.symm
    have hS : 0 ≤ q.d → q.d ≤ 5 → D.same l (x.l.take n) = hh := fun a b => by rw [same_iff, ← hhh, D.has_take a b, ← hl, hnn]
    simp only [hhh] at CH CR
    clear b0 b1 f0 f1 CP CB hl hlen hnn hhh

    by_cases hin : 0 ≤ q.d ∧ q.d ≤ 5
    · obtain hqd | hqd | hqd | hqd | hqd | hqd : q.d = 0 ∨ q.d = 1 ∨ q.d = 2 ∨ q.d = 3 ∨ q.d = 4 ∨ q.d = 5 := by omega
      · have hn3 : n = 0 := by rw [hN, hqd]; rfl
        have hS' := hS (by omega) (by omega)
        rw [hqd] at c0
        simp only [hqd] at CR
        subst hn3
        clear hS hN
        go_wp2_with (go_at_call 26; (with_reducible refine (CH.out _).mono ?_); rintro e w5 ⟨rfl, b5⟩; have p5 := Shp.rd_on (Shp.rd_on p0 (below_alloc_ wc (.cells #[.int .i64 0, .int .i64 1, .int .i64 2, .int .i64 3, .int .i64 15, .int .i64 25] 3))) b5; have h5 := Shp.rd_on (Shp.rd_on h1 (below_alloc_ wc (.cells #[.int .i64 0, .int .i64 1, .int .i64 2, .int .i64 3, .int .i64 15, .int .i64 25] 3))) b5; have RA5 := (RA.on (below_alloc_ wc (.cells #[.int .i64 0, .int .i64 1, .int .i64 2, .int .i64 3, .int .i64 15, .int .i64 25] 3))).on b5; have RX5 := Shp.rd_on (Shp.rd_on RX (below_alloc_ wc (.cells #[.int .i64 0, .int .i64 1, .int .i64 2, .int .i64 3, .int .i64 15, .int .i64 25] 3))) b5; have z5 := below_up (bF.alloc bF.size (.cells #[.int .i64 0, .int .i64 1, .int .i64 2, .int .i64 3, .int .i64 15, .int .i64 25] 3)) (bF.alloc bF.size (.cells #[.int .i64 0, .int .i64 1, .int .i64 2, .int .i64 3, .int .i64 15, .int .i64 25] 3)).size b5)
        have E5 := hE.on z5
        obtain ⟨g5, c5⟩ := pf0 p5
        have sp5 := Shp.rd_lt p5
        have sx5 := Shp.rd_lt h5
        have s65 := Shp.rd_lt RX5
        simp only at sp5 sx5 s65
        rw [hqd] at c5
        have CS := Lib.hid (fun p => (show Calls Tryz.prog 28 #[.slice A 0 c, .slice (some ⟨k6, 0, none⟩) 0 25] (ext w5 p) fun e w' => e = .returned (.bool hh) ∧ Below (ext w5 p).heap.size (ext w5 p) w' from (rsame_any A (some ⟨k6, 0, none⟩) 0 c 0 25 l (x.l.take 0) hh (ext w5 p) (RA5.on (ext_below w5 p)) (take_row RX5 0 p (by decide)) (by decide) (by decide) ⟨hS'⟩).mono fun e w' ⟨he, z, hz⟩ => ⟨he, by rw [hz]; exact below_drewN (Below.refl _ _) z⟩))
        have CK := Lib.hid (fun p => kknown_any (ext w5 p) (E5.on (ext_below w5 p)))
        clear CH RA RX p0 h1 b5 sp sx s6 c0 g0
        refine wp_region_ext (by kernel_rfl) (by kernel_rfl) ?_
        repeat (go_big_quiet_step (first | (go_at_call 12; with_reducible exact calls_ext (CK.out _)) | (go_at_call 9; with_reducible exact calls_ext (CLp.out _)) | (go_at_call 9; with_reducible exact calls_ext (CLx.out _)) | (go_at_call 27; with_reducible exact calls_ext (CR.out _)) | (go_at_call 28; with_reducible exact calls_ext (CS.out _))))
        refine wpQuiet_nil ?_
        intro w9 hw9
        have b9 := z5.trans ((ext_to hw9).mono z5.size)
        clear hw9
        go_wp2
        go_ret
        exact ⟨by rfl, b9⟩
      · have hn3 : n = 1 := by rw [hN, hqd]; rfl
        have hS' := hS (by omega) (by omega)
        rw [hqd] at c0
        simp only [hqd] at CR
        subst hn3
        clear hS hN
        go_wp2_with (go_at_call 26; (with_reducible refine (CH.out _).mono ?_); rintro e w5 ⟨rfl, b5⟩; have p5 := Shp.rd_on (Shp.rd_on p0 (below_alloc_ wc (.cells #[.int .i64 0, .int .i64 1, .int .i64 2, .int .i64 3, .int .i64 15, .int .i64 25] 3))) b5; have h5 := Shp.rd_on (Shp.rd_on h1 (below_alloc_ wc (.cells #[.int .i64 0, .int .i64 1, .int .i64 2, .int .i64 3, .int .i64 15, .int .i64 25] 3))) b5; have RA5 := (RA.on (below_alloc_ wc (.cells #[.int .i64 0, .int .i64 1, .int .i64 2, .int .i64 3, .int .i64 15, .int .i64 25] 3))).on b5; have RX5 := Shp.rd_on (Shp.rd_on RX (below_alloc_ wc (.cells #[.int .i64 0, .int .i64 1, .int .i64 2, .int .i64 3, .int .i64 15, .int .i64 25] 3))) b5; have z5 := below_up (bF.alloc bF.size (.cells #[.int .i64 0, .int .i64 1, .int .i64 2, .int .i64 3, .int .i64 15, .int .i64 25] 3)) (bF.alloc bF.size (.cells #[.int .i64 0, .int .i64 1, .int .i64 2, .int .i64 3, .int .i64 15, .int .i64 25] 3)).size b5)
        have E5 := hE.on z5
        obtain ⟨g5, c5⟩ := pf0 p5
        have sp5 := Shp.rd_lt p5
        have sx5 := Shp.rd_lt h5
        have s65 := Shp.rd_lt RX5
        simp only at sp5 sx5 s65
        rw [hqd] at c5
        have CS := Lib.hid (fun p => (show Calls Tryz.prog 28 #[.slice A 1 c, .slice (some ⟨k6, 0, none⟩) 1 25] (ext w5 p) fun e w' => e = .returned (.bool hh) ∧ Below (ext w5 p).heap.size (ext w5 p) w' from (rsame_any A (some ⟨k6, 0, none⟩) 1 c 1 25 l (x.l.take 1) hh (ext w5 p) (RA5.on (ext_below w5 p)) (take_row RX5 1 p (by decide)) (by decide) (by decide) ⟨hS'⟩).mono fun e w' ⟨he, z, hz⟩ => ⟨he, by rw [hz]; exact below_drewN (Below.refl _ _) z⟩))
        have CK := Lib.hid (fun p => kknown_any (ext w5 p) (E5.on (ext_below w5 p)))
        clear CH RA RX p0 h1 b5 sp sx s6 c0 g0
        refine wp_region_ext (by kernel_rfl) (by kernel_rfl) ?_
        repeat (go_big_quiet_step (first | (go_at_call 12; with_reducible exact calls_ext (CK.out _)) | (go_at_call 9; with_reducible exact calls_ext (CLp.out _)) | (go_at_call 9; with_reducible exact calls_ext (CLx.out _)) | (go_at_call 27; with_reducible exact calls_ext (CR.out _)) | (go_at_call 28; with_reducible exact calls_ext (CS.out _))))
        refine wpQuiet_nil ?_
        intro w9 hw9
        have b9 := z5.trans ((ext_to hw9).mono z5.size)
        clear hw9
        go_wp2
        go_ret
        exact ⟨by rfl, b9⟩
      · have hn3 : n = 2 := by rw [hN, hqd]; rfl
        have hS' := hS (by omega) (by omega)
        rw [hqd] at c0
        simp only [hqd] at CR
        subst hn3
        clear hS hN
        go_wp2_with (go_at_call 26; (with_reducible refine (CH.out _).mono ?_); rintro e w5 ⟨rfl, b5⟩; have p5 := Shp.rd_on (Shp.rd_on p0 (below_alloc_ wc (.cells #[.int .i64 0, .int .i64 1, .int .i64 2, .int .i64 3, .int .i64 15, .int .i64 25] 3))) b5; have h5 := Shp.rd_on (Shp.rd_on h1 (below_alloc_ wc (.cells #[.int .i64 0, .int .i64 1, .int .i64 2, .int .i64 3, .int .i64 15, .int .i64 25] 3))) b5; have RA5 := (RA.on (below_alloc_ wc (.cells #[.int .i64 0, .int .i64 1, .int .i64 2, .int .i64 3, .int .i64 15, .int .i64 25] 3))).on b5; have RX5 := Shp.rd_on (Shp.rd_on RX (below_alloc_ wc (.cells #[.int .i64 0, .int .i64 1, .int .i64 2, .int .i64 3, .int .i64 15, .int .i64 25] 3))) b5; have z5 := below_up (bF.alloc bF.size (.cells #[.int .i64 0, .int .i64 1, .int .i64 2, .int .i64 3, .int .i64 15, .int .i64 25] 3)) (bF.alloc bF.size (.cells #[.int .i64 0, .int .i64 1, .int .i64 2, .int .i64 3, .int .i64 15, .int .i64 25] 3)).size b5)
        have E5 := hE.on z5
        obtain ⟨g5, c5⟩ := pf0 p5
        have sp5 := Shp.rd_lt p5
        have sx5 := Shp.rd_lt h5
        have s65 := Shp.rd_lt RX5
        simp only at sp5 sx5 s65
        rw [hqd] at c5
        have CS := Lib.hid (fun p => (show Calls Tryz.prog 28 #[.slice A 2 c, .slice (some ⟨k6, 0, none⟩) 2 25] (ext w5 p) fun e w' => e = .returned (.bool hh) ∧ Below (ext w5 p).heap.size (ext w5 p) w' from (rsame_any A (some ⟨k6, 0, none⟩) 2 c 2 25 l (x.l.take 2) hh (ext w5 p) (RA5.on (ext_below w5 p)) (take_row RX5 2 p (by decide)) (by decide) (by decide) ⟨hS'⟩).mono fun e w' ⟨he, z, hz⟩ => ⟨he, by rw [hz]; exact below_drewN (Below.refl _ _) z⟩))
        have CK := Lib.hid (fun p => kknown_any (ext w5 p) (E5.on (ext_below w5 p)))
        clear CH RA RX p0 h1 b5 sp sx s6 c0 g0
        refine wp_region_ext (by kernel_rfl) (by kernel_rfl) ?_
        repeat (go_big_quiet_step (first | (go_at_call 12; with_reducible exact calls_ext (CK.out _)) | (go_at_call 9; with_reducible exact calls_ext (CLp.out _)) | (go_at_call 9; with_reducible exact calls_ext (CLx.out _)) | (go_at_call 27; with_reducible exact calls_ext (CR.out _)) | (go_at_call 28; with_reducible exact calls_ext (CS.out _))))
        refine wpQuiet_nil ?_
        intro w9 hw9
        have b9 := z5.trans ((ext_to hw9).mono z5.size)
        clear hw9
        go_wp2
        go_ret
        exact ⟨by rfl, b9⟩
      · have hn3 : n = 3 := by rw [hN, hqd]; rfl
        have hS' := hS (by omega) (by omega)
        rw [hqd] at c0
        simp only [hqd] at CR
        subst hn3
        clear hS hN
        go_wp2_with (go_at_call 26; (with_reducible refine (CH.out _).mono ?_); rintro e w5 ⟨rfl, b5⟩; have p5 := Shp.rd_on (Shp.rd_on p0 (below_alloc_ wc (.cells #[.int .i64 0, .int .i64 1, .int .i64 2, .int .i64 3, .int .i64 15, .int .i64 25] 3))) b5; have h5 := Shp.rd_on (Shp.rd_on h1 (below_alloc_ wc (.cells #[.int .i64 0, .int .i64 1, .int .i64 2, .int .i64 3, .int .i64 15, .int .i64 25] 3))) b5; have RA5 := (RA.on (below_alloc_ wc (.cells #[.int .i64 0, .int .i64 1, .int .i64 2, .int .i64 3, .int .i64 15, .int .i64 25] 3))).on b5; have RX5 := Shp.rd_on (Shp.rd_on RX (below_alloc_ wc (.cells #[.int .i64 0, .int .i64 1, .int .i64 2, .int .i64 3, .int .i64 15, .int .i64 25] 3))) b5; have z5 := below_up (bF.alloc bF.size (.cells #[.int .i64 0, .int .i64 1, .int .i64 2, .int .i64 3, .int .i64 15, .int .i64 25] 3)) (bF.alloc bF.size (.cells #[.int .i64 0, .int .i64 1, .int .i64 2, .int .i64 3, .int .i64 15, .int .i64 25] 3)).size b5)
        have E5 := hE.on z5
        obtain ⟨g5, c5⟩ := pf0 p5
        have sp5 := Shp.rd_lt p5
        have sx5 := Shp.rd_lt h5
        have s65 := Shp.rd_lt RX5
        simp only at sp5 sx5 s65
        rw [hqd] at c5
        have CS := Lib.hid (fun p => (show Calls Tryz.prog 28 #[.slice A 3 c, .slice (some ⟨k6, 0, none⟩) 3 25] (ext w5 p) fun e w' => e = .returned (.bool hh) ∧ Below (ext w5 p).heap.size (ext w5 p) w' from (rsame_any A (some ⟨k6, 0, none⟩) 3 c 3 25 l (x.l.take 3) hh (ext w5 p) (RA5.on (ext_below w5 p)) (take_row RX5 3 p (by decide)) (by decide) (by decide) ⟨hS'⟩).mono fun e w' ⟨he, z, hz⟩ => ⟨he, by rw [hz]; exact below_drewN (Below.refl _ _) z⟩))
        have CK := Lib.hid (fun p => kknown_any (ext w5 p) (E5.on (ext_below w5 p)))
        clear CH RA RX p0 h1 b5 sp sx s6 c0 g0
        refine wp_region_ext (by kernel_rfl) (by kernel_rfl) ?_
        repeat (go_big_quiet_step (first | (go_at_call 12; with_reducible exact calls_ext (CK.out _)) | (go_at_call 9; with_reducible exact calls_ext (CLp.out _)) | (go_at_call 9; with_reducible exact calls_ext (CLx.out _)) | (go_at_call 27; with_reducible exact calls_ext (CR.out _)) | (go_at_call 28; with_reducible exact calls_ext (CS.out _))))
        refine wpQuiet_nil ?_
        intro w9 hw9
        have b9 := z5.trans ((ext_to hw9).mono z5.size)
        clear hw9
        go_wp2
        go_ret
        exact ⟨by rfl, b9⟩
      · have hn3 : n = 15 := by rw [hN, hqd]; rfl
        have hS' := hS (by omega) (by omega)
        rw [hqd] at c0
        simp only [hqd] at CR
        subst hn3
        clear hS hN
        go_wp2_with (go_at_call 26; (with_reducible refine (CH.out _).mono ?_); rintro e w5 ⟨rfl, b5⟩; have p5 := Shp.rd_on (Shp.rd_on p0 (below_alloc_ wc (.cells #[.int .i64 0, .int .i64 1, .int .i64 2, .int .i64 3, .int .i64 15, .int .i64 25] 3))) b5; have h5 := Shp.rd_on (Shp.rd_on h1 (below_alloc_ wc (.cells #[.int .i64 0, .int .i64 1, .int .i64 2, .int .i64 3, .int .i64 15, .int .i64 25] 3))) b5; have RA5 := (RA.on (below_alloc_ wc (.cells #[.int .i64 0, .int .i64 1, .int .i64 2, .int .i64 3, .int .i64 15, .int .i64 25] 3))).on b5; have RX5 := Shp.rd_on (Shp.rd_on RX (below_alloc_ wc (.cells #[.int .i64 0, .int .i64 1, .int .i64 2, .int .i64 3, .int .i64 15, .int .i64 25] 3))) b5; have z5 := below_up (bF.alloc bF.size (.cells #[.int .i64 0, .int .i64 1, .int .i64 2, .int .i64 3, .int .i64 15, .int .i64 25] 3)) (bF.alloc bF.size (.cells #[.int .i64 0, .int .i64 1, .int .i64 2, .int .i64 3, .int .i64 15, .int .i64 25] 3)).size b5)
        have E5 := hE.on z5
        obtain ⟨g5, c5⟩ := pf0 p5
        have sp5 := Shp.rd_lt p5
        have sx5 := Shp.rd_lt h5
        have s65 := Shp.rd_lt RX5
        simp only at sp5 sx5 s65
        rw [hqd] at c5
        have CS := Lib.hid (fun p => (show Calls Tryz.prog 28 #[.slice A 15 c, .slice (some ⟨k6, 0, none⟩) 15 25] (ext w5 p) fun e w' => e = .returned (.bool hh) ∧ Below (ext w5 p).heap.size (ext w5 p) w' from (rsame_any A (some ⟨k6, 0, none⟩) 15 c 15 25 l (x.l.take 15) hh (ext w5 p) (RA5.on (ext_below w5 p)) (take_row RX5 15 p (by decide)) (by decide) (by decide) ⟨hS'⟩).mono fun e w' ⟨he, z, hz⟩ => ⟨he, by rw [hz]; exact below_drewN (Below.refl _ _) z⟩))
        have CK := Lib.hid (fun p => kknown_any (ext w5 p) (E5.on (ext_below w5 p)))
        clear CH RA RX p0 h1 b5 sp sx s6 c0 g0
        refine wp_region_ext (by kernel_rfl) (by kernel_rfl) ?_
        repeat (go_big_quiet_step (first | (go_at_call 12; with_reducible exact calls_ext (CK.out _)) | (go_at_call 9; with_reducible exact calls_ext (CLp.out _)) | (go_at_call 9; with_reducible exact calls_ext (CLx.out _)) | (go_at_call 27; with_reducible exact calls_ext (CR.out _)) | (go_at_call 28; with_reducible exact calls_ext (CS.out _))))
        refine wpQuiet_nil ?_
        intro w9 hw9
        have b9 := z5.trans ((ext_to hw9).mono z5.size)
        clear hw9
        go_wp2
        go_ret
        exact ⟨by rfl, b9⟩
      · have hn3 : n = 25 := by rw [hN, hqd]; rfl
        have hS' := hS (by omega) (by omega)
        rw [hqd] at c0
        simp only [hqd] at CR
        subst hn3
        clear hS hN
        go_wp2_with (go_at_call 26; (with_reducible refine (CH.out _).mono ?_); rintro e w5 ⟨rfl, b5⟩; have p5 := Shp.rd_on (Shp.rd_on p0 (below_alloc_ wc (.cells #[.int .i64 0, .int .i64 1, .int .i64 2, .int .i64 3, .int .i64 15, .int .i64 25] 3))) b5; have h5 := Shp.rd_on (Shp.rd_on h1 (below_alloc_ wc (.cells #[.int .i64 0, .int .i64 1, .int .i64 2, .int .i64 3, .int .i64 15, .int .i64 25] 3))) b5; have RA5 := (RA.on (below_alloc_ wc (.cells #[.int .i64 0, .int .i64 1, .int .i64 2, .int .i64 3, .int .i64 15, .int .i64 25] 3))).on b5; have RX5 := Shp.rd_on (Shp.rd_on RX (below_alloc_ wc (.cells #[.int .i64 0, .int .i64 1, .int .i64 2, .int .i64 3, .int .i64 15, .int .i64 25] 3))) b5; have z5 := below_up (bF.alloc bF.size (.cells #[.int .i64 0, .int .i64 1, .int .i64 2, .int .i64 3, .int .i64 15, .int .i64 25] 3)) (bF.alloc bF.size (.cells #[.int .i64 0, .int .i64 1, .int .i64 2, .int .i64 3, .int .i64 15, .int .i64 25] 3)).size b5)
        have E5 := hE.on z5
        obtain ⟨g5, c5⟩ := pf0 p5
        have sp5 := Shp.rd_lt p5
        have sx5 := Shp.rd_lt h5
        have s65 := Shp.rd_lt RX5
        simp only at sp5 sx5 s65
        rw [hqd] at c5
        have CS := Lib.hid (fun p => (show Calls Tryz.prog 28 #[.slice A 25 c, .slice (some ⟨k6, 0, none⟩) 25 25] (ext w5 p) fun e w' => e = .returned (.bool hh) ∧ Below (ext w5 p).heap.size (ext w5 p) w' from (rsame_any A (some ⟨k6, 0, none⟩) 25 c 25 25 l (x.l.take 25) hh (ext w5 p) (RA5.on (ext_below w5 p)) (take_row RX5 25 p (by decide)) (by decide) (by decide) ⟨hS'⟩).mono fun e w' ⟨he, z, hz⟩ => ⟨he, by rw [hz]; exact below_drewN (Below.refl _ _) z⟩))
        have CK := Lib.hid (fun p => kknown_any (ext w5 p) (E5.on (ext_below w5 p)))
        clear CH RA RX p0 h1 b5 sp sx s6 c0 g0
        refine wp_region_ext (by kernel_rfl) (by kernel_rfl) ?_
        repeat (go_big_quiet_step (first | (go_at_call 12; with_reducible exact calls_ext (CK.out _)) | (go_at_call 9; with_reducible exact calls_ext (CLp.out _)) | (go_at_call 9; with_reducible exact calls_ext (CLx.out _)) | (go_at_call 27; with_reducible exact calls_ext (CR.out _)) | (go_at_call 28; with_reducible exact calls_ext (CS.out _))))
        refine wpQuiet_nil ?_
        intro w9 hw9
        have b9 := z5.trans ((ext_to hw9).mono z5.size)
        clear hw9
        go_wp2
        go_ret
        exact ⟨by rfl, b9⟩
    · by_cases hlo : q.d < 0
      · have g1 : ¬ (0 ≤ q.d) := by omega
        have g2 : decide (0 ≤ q.d) = false := decide_eq_false g1
        have hn3 : n = 0 := hN.trans (ends_out (by omega))
        have hS' := hE
        subst hn3
        clear hS hN
        go_wp2_with (go_at_call 26; (with_reducible refine (CH.out _).mono ?_); rintro e w5 ⟨rfl, b5⟩; have p5 := Shp.rd_on (Shp.rd_on p0 (below_alloc_ wc (.cells #[.int .i64 0, .int .i64 1, .int .i64 2, .int .i64 3, .int .i64 15, .int .i64 25] 3))) b5; have h5 := Shp.rd_on (Shp.rd_on h1 (below_alloc_ wc (.cells #[.int .i64 0, .int .i64 1, .int .i64 2, .int .i64 3, .int .i64 15, .int .i64 25] 3))) b5; have RA5 := (RA.on (below_alloc_ wc (.cells #[.int .i64 0, .int .i64 1, .int .i64 2, .int .i64 3, .int .i64 15, .int .i64 25] 3))).on b5; have RX5 := Shp.rd_on (Shp.rd_on RX (below_alloc_ wc (.cells #[.int .i64 0, .int .i64 1, .int .i64 2, .int .i64 3, .int .i64 15, .int .i64 25] 3))) b5; have z5 := below_up (bF.alloc bF.size (.cells #[.int .i64 0, .int .i64 1, .int .i64 2, .int .i64 3, .int .i64 15, .int .i64 25] 3)) (bF.alloc bF.size (.cells #[.int .i64 0, .int .i64 1, .int .i64 2, .int .i64 3, .int .i64 15, .int .i64 25] 3)).size b5)
        have E5 := hE.on z5
        obtain ⟨g5, c5⟩ := pf0 p5
        have sp5 := Shp.rd_lt p5
        have sx5 := Shp.rd_lt h5
        have s65 := Shp.rd_lt RX5
        simp only at sp5 sx5 s65
        have CK := Lib.hid (fun p => kknown_any (ext w5 p) (E5.on (ext_below w5 p)))
        clear CH RA RX p0 h1 b5 sp sx s6 c0 g0
        refine wp_region_ext (by kernel_rfl) (by kernel_rfl) ?_
        repeat (go_big_quiet_step (first | (go_at_call 12; with_reducible exact calls_ext (CK.out _)) | (go_at_call 9; with_reducible exact calls_ext (CLp.out _)) | (go_at_call 9; with_reducible exact calls_ext (CLx.out _)) | (go_at_call 27; with_reducible exact calls_ext (CR.out _))))
        refine wpQuiet_nil ?_
        intro w9 hw9
        have b9 := z5.trans ((ext_to hw9).mono z5.size)
        clear hw9
        go_wp2
        go_ret
        exact ⟨by rfl, b9⟩
      · have g1 : 0 ≤ q.d := by omega
        have g3 : ¬ (q.d ≤ 5) := by omega
        have g4 : 5 < q.d := by omega
        have g2 : decide (0 ≤ q.d) = true := decide_eq_true g1
        have g5 : decide (q.d ≤ 5) = false := decide_eq_false g3
        have hn3 : n = 0 := hN.trans (ends_out (by omega))
        have hS' := hE
        subst hn3
        clear hS hN
        go_wp2_with (go_at_call 26; (with_reducible refine (CH.out _).mono ?_); rintro e w5 ⟨rfl, b5⟩; have p5 := Shp.rd_on (Shp.rd_on p0 (below_alloc_ wc (.cells #[.int .i64 0, .int .i64 1, .int .i64 2, .int .i64 3, .int .i64 15, .int .i64 25] 3))) b5; have h5 := Shp.rd_on (Shp.rd_on h1 (below_alloc_ wc (.cells #[.int .i64 0, .int .i64 1, .int .i64 2, .int .i64 3, .int .i64 15, .int .i64 25] 3))) b5; have RA5 := (RA.on (below_alloc_ wc (.cells #[.int .i64 0, .int .i64 1, .int .i64 2, .int .i64 3, .int .i64 15, .int .i64 25] 3))).on b5; have RX5 := Shp.rd_on (Shp.rd_on RX (below_alloc_ wc (.cells #[.int .i64 0, .int .i64 1, .int .i64 2, .int .i64 3, .int .i64 15, .int .i64 25] 3))) b5; have z5 := below_up (bF.alloc bF.size (.cells #[.int .i64 0, .int .i64 1, .int .i64 2, .int .i64 3, .int .i64 15, .int .i64 25] 3)) (bF.alloc bF.size (.cells #[.int .i64 0, .int .i64 1, .int .i64 2, .int .i64 3, .int .i64 15, .int .i64 25] 3)).size b5)
        have E5 := hE.on z5
        obtain ⟨g5, c5⟩ := pf0 p5
        have sp5 := Shp.rd_lt p5
        have sx5 := Shp.rd_lt h5
        have s65 := Shp.rd_lt RX5
        simp only at sp5 sx5 s65
        have CK := Lib.hid (fun p => kknown_any (ext w5 p) (E5.on (ext_below w5 p)))
        clear CH RA RX p0 h1 b5 sp sx s6 c0 g0
        refine wp_region_ext (by kernel_rfl) (by kernel_rfl) ?_
        repeat (go_big_quiet_step (first | (go_at_call 12; with_reducible exact calls_ext (CK.out _)) | (go_at_call 9; with_reducible exact calls_ext (CLp.out _)) | (go_at_call 9; with_reducible exact calls_ext (CLx.out _)) | (go_at_call 27; with_reducible exact calls_ext (CR.out _))))
        refine wpQuiet_nil ?_
        intro w9 hw9
        have b9 := z5.trans ((ext_to hw9).mono z5.size)
        clear hw9
        go_wp2
        go_ret
        exact ⟨by rfl, b9⟩
end Go.Proofs.YtjblepjkejihcaaGreatDoor
