/-
  
-/
import Derived.Test.YtjlaffgbmcpldaaGreatDoorG22
import Derived.Test.YtjlaffgbmcpldaaGreatDoorG20
import Derived.Test.YtjlaffgbmcpldaaGreatDoorG24
set_option linter.unusedVariables false
set_option linter.unusedSimpArgs false
set_option maxRecDepth 100000
namespace Go.Proofs.YtjlaffgbmcpldaaGreatDoor
open Go.RowKit Go.Shelf
attribute [local go_sem] Oper.semAt_some
attribute [local go_sem ↓] Go.wp_at_zero Go.wp_at_succ ld_k lv_k st_k eq_k ne_k bd_k ld_b lv_b st_b eq_b ne_b bd_25 ld_r lv_r st_rk eq_rk ne_rk bd_r ld_p lv_p st_px bd_p Nm.ld_a Nm.ld_n Nm.st_a Nm.st_n Nm.eq_a Nm.eq_n Nm.ne_a Nm.ne_n Nm.lv_a Nm.lv_n ld_a ld_n st_a st_n eq_a eq_n ne_a ne_n lv_a lv_n ld_l lv_l st_l bd_l bd_n bs_k
attribute [local go_sem] run_ldk run_lvk run_stk run_eqk run_nek run_bdk_z run_ldb run_lvb run_stb run_eqb run_neb run_ldr run_lvr run_strk run_eqrk run_nerk run_bdr_z run_ldp run_lvp run_stpx Nm.run_ld_a Nm.run_ld_n Nm.run_st_n Nm.run_eq_a Nm.run_eq_n Nm.run_ne_a Nm.run_ne_n Nm.run_lv_a Nm.run_lv_n Nm.rd_new Nm.rd_old Nm.rd_drew Nm.rd_drewN run_ld_a run_ld_n run_sw_a run_sw_n run_eq_a run_eq_n run_ne_a run_ne_n run_lv_a run_lv_n st_z ne_z eq_z rd_new rd_old rd_drew rd_drewN Shp.rd_new Shp.rd_old Shp.rd_drew Shp.rd_drewN Shp.rd_set Shp.tn_new Shp.tn_old Shp.tn_drew Shp.tn_drewN tn_new tn_old tn_drew tn_drewN rd_set setRow_alloc run_stn3 run_stt15 run_lvl run_ldl run_stl run_bdl run_bdn run_bdn0 run_bsk Shp.rd_extk cell_ext
def bst (k : D.Ky) (a : Option Tk) (y : Tk) : Option Tk := if Cr.Bits.bt k y.bit = true then a else kid y true
def bhf (k : D.Ky) (a : Option Tk) (l : List Tk) : Option Tk := l.foldl (bst k) a
theorem bhf_app (k : D.Ky) (a : Option Tk) (l : List Tk) (y : Tk) : bhf k a (l ++ [y]) = bst k (bhf k a l) y := by simp [bhf]
theorem bhf_beh {k : D.Ky} {d : Nat} : ∀ {t : Tk} {a : Option Tk}, bhf k a (t.path k d) = t.beh k d a
 | .lf _ _ _, a => rfl
 | .br b c l r, a => by
  simp only [Cr.Tr.path, Cr.Tr.beh]
  by_cases h : c < d
  ·rw [if_pos h, if_pos h]
   by_cases hb : Cr.Bits.bt k c = true
   ·rw [if_pos hb, if_pos hb]
    show bhf k (bst k a (Cr.Tr.br b c l r)) (r.path k d) = _
    have : bst k a (Cr.Tr.br b c l r) = a := by
     show (if Cr.Bits.bt k c = true then a else kid (Cr.Tr.br b c l r) true) = a
     rw [if_pos hb]
    rw [this]
    exact bhf_beh
   ·rw [if_neg hb, if_neg hb]
    show bhf k (bst k a (Cr.Tr.br b c l r)) (l.path k d) = _
    have : bst k a (Cr.Tr.br b c l r) = some r := by
     show (if Cr.Bits.bt k c = true then a else kid (Cr.Tr.br b c l r) true) = some r
     rw [if_neg hb]; rfl
    rw [this]
    exact bhf_beh
  ·rw [if_neg h, if_neg h]; rfl
def nx (k : D.Ky) (l : List Lf) : D.Ky := (Cr.nxt k l).getD D.zK
theorem nx_left {w : World} {g : Nat} {t : Tk} (h : TR w g (some t)) {k : D.Ky} {r : Nat} (hr : Cr.par (t.near k).hd.1 k = r) (hl : r < 200) (hb : Cr.Bits.bt k r = false) : nx k t.ls = fk (subo k r (some t)) ∧ (Cr.nxt k t.ls).isSome = true := by
 have := Cr.Tr.sub_find hl hb (h.wf t rfl) hr
 unfold nx Cr.nxt
 rw [this]
 exact ⟨rfl, rfl⟩
theorem nx_right {w : World} {g : Nat} {t : Tk} (h : TR w g (some t)) {k : D.Ky} {r : Nat} (hr : Cr.par (t.near k).hd.1 k = r) (hb : r = 200 ∨ r < 200 ∧ Cr.Bits.bt k r = true) : nx k t.ls = fk (bhf k none (pth k r (some t))) ∧ (Cr.nxt k t.ls).isSome = (bhf k none (pth k r (some t))).isSome := by
 have := Cr.Tr.beh_find (o := none) (h.wf t rfl) hr hb
 have e : bhf k none (pth k r (some t)) = t.beh k r none := bhf_beh
 rw [e]
 unfold nx Cr.nxt
 simp only [Cr.Tr.hdo, Option.or_none] at this
 rw [this]
 cases t.beh k r none <;> exact ⟨rfl, rfl⟩
theorem bhf_ok {w : World} {g : Nat} {t : Tk} (h : TR w g (some t)) {k : D.Ky} {r : Nat} : ∀ (l : List Tk) (a : Option Tk), (∀ u, a = some u → Nd w u ∧ u.wf ∧ ∀ q ∈ u.bl, q ∈ t.bl) → (∀ y ∈ l, y ∈ pth k r (some t)) → ∀ u, bhf k a l = some u → Nd w u ∧ u.wf ∧ ∀ q ∈ u.bl, q ∈ t.bl
 | [], a, ha, _, u, hu => ha u hu
 | y :: l, a, ha, hl, u, hu => by
  refine bhf_ok h l (bst k a y) (fun v hv => ?_) (fun z hz => hl z (List.mem_cons_of_mem _ hz)) u hu
  unfold bst at hv
  by_cases hb : Cr.Bits.bt k y.bit = true
  ·rw [if_pos hb] at hv; exact ha v hv
  ·rw [if_neg hb] at hv
   obtain ⟨h1, h2, h3, t', h4, h5⟩ := h.mem (hl y (List.mem_cons_self ..))
   obtain ⟨k1, k2, _, k4⟩ := kid_ok h1 h2 hv
   injection h4 with h4
   subst h4
   exact ⟨k1, k2, fun q hq => h5 q (k4 q hq)⟩
set_option maxHeartbeats 4000000 in
theorem next_none (g : Nat) (k : D.Ky) (w : World) (hT : TR w g none) : Calls Tryz.prog 104 #[.pointer (some ⟨g, 0, none⟩), .agg (kS.v k)] w fun e w' => e = .returned (.tuple #[.agg (kS.v D.zK), .bool false]) ∧ Below w.heap.size w w' := by
 obtain ⟨w0, hw0⟩ : ∃ w0, (w.alloc (.cells (kS.v k) 39)).alloc (.cells z25 39) = w0 := ⟨_, rfl⟩
 have f0 : kS.rd w0 ⟨w.heap.size, 0, none⟩ = some k := by rw [← hw0]; exact Shp.rd_on (Shp.rd_new (S := kS) w _ _ _ rfl) (below_alloc_ _ _)
 have b0 : Below w.heap.size w w0 := by rw [← hw0]; exact (below_alloc_ _ _).alloc (by simp) _
 have k0 : Shp.tn 25 w0 (w.heap.size + 1) = true := by rw [← hw0]; exact Shp.tn_new _ _ _ _ _ (by simp) rfl
 have hT0 := hT.on b0
 unfold z25 at hw0
 have CP := Lib.hid (place200 g none k w0 hT0)
 clear hT
 go_enter Tryz.func104, Tryz.ntmps104
 go_wp2_with fail
 try rw [hw0]
 clear hw0
 go_wp2_with (go_at_call 105; (with_reducible refine CP.out.mono ?_); rintro e w1 ⟨rfl, b1⟩; have hc : w1.cell? (plc k ⟨g, 0, none⟩ (pth k 200 none)) = some (.pointer none) := (hT0.on b1).sub_cell (Nat.le_refl _); have z1 := below_up b0 b0.size b1; have k1 := Shp.tn_on k0 b1)
 have hset := Shp.rd_set (S := kS) w1 (w.heap.size + 1) D.zK k1
 refine bodyPost_ret (v := .tuple #[.agg (kS.v D.zK), .bool false]) (by rw [results_ct rfl]; simp [asAddr, Result.andThen, lvk_of hset]) rfl ⟨rfl, below_setRow z1 (Nat.le_succ _) _⟩
set_option maxHeartbeats 16000000 in
theorem next_some (g : Nat) (t : Tk) (k : D.Ky) (w : World) (hT : TR w g (some t)) : Calls Tryz.prog 104 #[.pointer (some ⟨g, 0, none⟩), .agg (kS.v k)] w fun e w' => e = .returned (.tuple #[.agg (kS.v (nx k t.ls)), .bool (Cr.nxt k t.ls).isSome]) ∧ Below w.heap.size w w' := by
 obtain ⟨w0, hw0⟩ : ∃ w0, (w.alloc (.cells (kS.v k) 39)).alloc (.cells z25 39) = w0 := ⟨_, rfl⟩
 have f0 : kS.rd w0 ⟨w.heap.size, 0, none⟩ = some k := by rw [← hw0]; exact Shp.rd_on (Shp.rd_new (S := kS) w _ _ _ rfl) (below_alloc_ _ _)
 have b0 : Below w.heap.size w w0 := by rw [← hw0]; exact (below_alloc_ _ _).alloc (by simp) _
 have k0 : Shp.tn 25 w0 (w.heap.size + 1) = true := by rw [← hw0]; exact Shp.tn_new _ _ _ _ _ (by simp) rfl
 have hT0 := hT.on b0
 have HZ0 : Kept (w0.heap.size = w.heap.size + 2) := ⟨by rw [← hw0]; simp⟩
 unfold z25 at hw0
 have CP := Lib.hid (place200 g (some t) k w0 hT0)
 obtain ⟨a, x, u, hnr⟩ := Cr.Tr.near_lf k t
 have hs2 := subo_near hT k
 rw [hnr] at hs2
 have CPa := Lib.hid (fun w => parting_any x k w)
 have hl := Cr.par_le x k
 obtain ⟨r, hr⟩ : ∃ r, Cr.par x k = r := ⟨_, rfl⟩
 have hpar : Cr.par (t.near k).hd.1 k = r := by rw [hnr]; exact hr
 rw [hr] at CPa hl
 have HN := Lib.hid (fun w1 (hT1 : TR w1 g (some t)) => show NF w1 a 200 none none (x, u) from by have := (nd_near hT1 k).nf; rw [hnr] at this; exact this)
 have CB := Lib.hid (fun w => kbytes_any k w)
 have CSi := Lib.hid (fun i (hi : i < 200) w => side_any k i hi w)
 clear hr hnr
 refine (callsIn_wide (n := 10)).1 ?_
 refine callsIn_of_wp_marks Tryz.func104 rfl trivial ?_ rfl
 simp only [Tryz.ntmps104, List.size_toArray, List.length_cons, List.length_nil, Nat.reduceAdd, Nat.reduceSub, Array.replicate_succ, Array.replicate_zero, List.push_toArray, List.append_toArray, List.nil_append, List.cons_append]
 gi_wp2
 try rw [hw0]
 clear hw0
 refine ⟨trivial, ?_⟩
 refine (callsIn_wide.2 CP.out).mono ?_
 rintro e w1 ⟨rfl, b1⟩
 have hT1 := hT0.on b1
 have hc : w1.cell? (plc k ⟨g, 0, none⟩ (pth k 200 (some t))) = some (.pointer (some ⟨a, 0, none⟩)) := by
  have := hT1.sub_cell (k := k) (Nat.le_refl 200)
  rw [hs2] at this
  exact this
 have f1 := Shp.rd_on f0 b1
 have kk1 := Shp.tn_on k0 b1
 have k1 := (HN.out _ hT1).key
 have z1 := below_up b0 b0.size b1
 have hz1 : w.heap.size + 2 ≤ w1.heap.size := by rw [← HZ0.out]; exact b1.size
 clear b1 hT0 f0 k0 HN CP hs2
 gi_wp2
 refine wpIn_wide.2 ?_
 go_cut [7, 8] from 19 (fun s7 s8 wx => ∃ k8 : Nat, s7 = .int .i64 (r : Nat) ∧ s8 = .pointer (some ⟨k8, 0, none⟩) ∧ kS.rd wx ⟨k8, 0, none⟩ = some k ∧ w1.heap.size ≤ k8 ∧ Below w1.heap.size w1 wx)
 case first =>
  refine wp_region_noPanic ?_
  refine wp_region_held_drew (S := fun W => Below w1.heap.size w1 W) (by kernel_rfl) (Below.refl _ _).drew (fun _ => ?_)
  obtain ⟨wd, hwd⟩ : ∃ wd, w1.drew = wd := ⟨_, rfl⟩
  have sd : Below w1.heap.size w1 wd := by rw [← hwd]; exact (Below.refl _ _).drew
  rw [hwd]
  clear hwd
  refine takeT 0 (some 19) ?vr0 ?hyr0 sd ?restr0
  case hyr0 => (intro o ho W hW; simp only [gT, gS, gZ, sI] at ho; subst ho; (try dsimp only at hW); go_simp; try rfl)
  try simp only [Act.put, iT, iZ, iS]
  refine takeT 1 (some 20) ?vr1 ?hyr1 sd ?restr1
  case hyr1 => (intro o ho W hW; simp only [gT, gS, gZ, sI] at ho; subst ho; (try dsimp only at hW); go_simp; try rfl)
  try simp only [Act.put, iT, iZ, iS]
  refine takeT 2 (some 21) ?vr2 ?hyr2 sd ?restr2
  case hyr2 => (intro o ho W hW; simp only [gT, gS, gZ, sI] at ho; subst ho; (try dsimp only at hW); go_simp; try rfl)
  try simp only [Act.put, iT, iZ, iS]
  refine takeT 3 (some 22) ?vr3 ?hyr3 sd ?restr3
  case hyr3 => (intro o ho W hW; simp only [gT, gS, gZ, sI] at ho; subst ho; (try dsimp only at hW); go_simp; try rfl)
  try simp only [Act.put, iT, iZ, iS]
  refine takeT 4 (some 23) ?vr4 ?hyr4 sd ?restr4
  case hyr4 => (intro o ho W hW; simp only [gT, gS, gZ, sI] at ho; subst ho; (try dsimp only at hW); have g1 := Shp.rd_on k1 hW; go_simp; try rfl)
  try simp only [Act.put, iT, iZ, iS]
  refine takeT 5 (some 24) ?vr5 ?hyr5 sd ?restr5
  case hyr5 => (intro o ho W hW; simp only [gT, gS, gZ, sI] at ho; subst ho; (try dsimp only at hW); have g2 := Shp.rd_on f1 hW; go_simp; try rfl)
  try simp only [Act.put, iT, iZ, iS]
  refine takeT 7 (some 26) ?vr7 ?hyr7 sd ?restr7
  case hyr7 => (intro o ho W hW; simp only [gT, gS, gZ, sI] at ho; subst ho; (try dsimp only at hW); have g2 := Shp.rd_on f1 hW; go_simp; try rfl)
  try simp only [Act.put, iT, iZ, iS]
  refine forkS 6 9 (by kernel_rfl) (by rfl) (by rfl) (fun o ho K hK => ?_) (fun o ho K hK => ?_)
  ·simp only [gT, gS, gZ, sI] at ho; subst ho
   go_simp
   (go_at_call 130; (with_reducible refine (CPa.out _).mono ?_); rintro e u1w ⟨rfl, b1⟩)
   have s1 : Below w1.heap.size w1 u1w := below_up sd sd.size b1
   refine hK.out _ _ s1 (fun _ => ?_)
   clear hK K
   try simp only [Act.put, iT, iZ, iS]
   refine forkS 8 9 (by kernel_rfl) (by rfl) (by rfl) (fun o ho K hK => ?_) (fun o ho K hK => ?_)
   ·simp only [gT, gS, gZ, sI] at ho; subst ho
    go_simp
    (go_at_call 131; (with_reducible refine (CB.out _).mono ?_); rintro e u2w ⟨rfl, b2⟩)
    have s2 : Below w1.heap.size w1 u2w := below_up s1 s1.size b2
    refine hK.out _ _ s2 (fun _ => ?_)
    clear hK K
    try simp only [Act.put, iT, iZ, iS]
    refine nextS 9 (by kernel_rfl) (by rfl) (fun o ho K hK => ?_)
    simp only [gT, gS, gZ, sI] at ho; subst ho
    go_simp
    have s3 : Below w1.heap.size w1 (u2w.alloc (.cells z25 201)) := s2.alloc s2.size _
    have q3 : Shp.tn 25 (u2w.alloc (.cells z25 201)) u2w.heap.size = true := Shp.tn_of (Blk.new u2w _ _) rfl
    refine hK.out _ _ s3 (fun _ => ?_)
    clear hK K
    try simp only [Act.put, iT, iZ, iS]
    obtain ⟨u3w, hu3w⟩ : ∃ V, u2w.alloc (.cells z25 201) = V := ⟨_, rfl⟩
    rw [hu3w] at s3 q3
    rw [hu3w]
    clear hu3w
    refine takeT 10 (some 7) ?vz3x10 ?hyz3x10 s3 ?restz3x10
    case hyz3x10 => (intro o ho W hW; simp only [gT, gS, gZ, sI] at ho; subst ho; (try dsimp only at hW); go_simp; try rfl)
    try simp only [Act.put, iT, iZ, iS]
    refine nextS 11 (by kernel_rfl) (by rfl) (fun o ho K hK => ?_)
    simp only [gT, gS, gZ, sI] at ho; subst ho
    go_simp
    have t6 := q3
    have sB : Below w1.heap.size w1 (u3w.setRow (u2w.heap.size) (kS.v k)) := below_setRow s3 s2.size _
    refine hK.out _ _ sB (fun _ => ?_)
    clear hK K
    try simp only [Act.put, iT, iZ, iS]
    refine wpAnyH_done (by kernel_rfl) ?_ _
    refine NoPanic.normal ?_
    have RB := Shp.rd_set (S := kS) u3w (u2w.heap.size) k q3
    have z9 : w1.heap.size ≤ u2w.heap.size := s2.size
    go_wp2_with fail
    go_meet
    exact ⟨_, rfl, rfl, RB, z9, sB⟩
   ·simp only [gT, gS, gZ, sI] at ho; subst ho
    go_simp
    have s4 : Below w1.heap.size w1 (u1w.alloc (.cells z25 201)) := s1.alloc s1.size _
    have q4 : Shp.tn 25 (u1w.alloc (.cells z25 201)) u1w.heap.size = true := Shp.tn_of (Blk.new u1w _ _) rfl
    refine hK.out _ _ s4 (fun _ => ?_)
    clear hK K
    try simp only [Act.put, iT, iZ, iS]
    obtain ⟨u4w, hu4w⟩ : ∃ V, u1w.alloc (.cells z25 201) = V := ⟨_, rfl⟩
    rw [hu4w] at s4 q4
    rw [hu4w]
    clear hu4w
    refine nextS 8 (by kernel_rfl) (by rfl) (fun o ho K hK => ?_)
    simp only [gT, gS, gZ, sI] at ho; subst ho
    go_simp
    (go_at_call 131; (with_reducible refine (CB.out _).mono ?_); rintro e u5w ⟨rfl, b5⟩)
    have s5 : Below w1.heap.size w1 u5w := below_up s4 s4.size b5
    have t9_5 := Shp.tn_on q4 b5
    refine hK.out _ _ s5 (fun _ => ?_)
    clear hK K
    try simp only [Act.put, iT, iZ, iS]
    refine takeT 10 (some 7) ?vz5x10 ?hyz5x10 s5 ?restz5x10
    case hyz5x10 => (intro o ho W hW; simp only [gT, gS, gZ, sI] at ho; subst ho; (try dsimp only at hW); go_simp; try rfl)
    try simp only [Act.put, iT, iZ, iS]
    refine nextS 11 (by kernel_rfl) (by rfl) (fun o ho K hK => ?_)
    simp only [gT, gS, gZ, sI] at ho; subst ho
    go_simp
    have t6 := t9_5
    have sB : Below w1.heap.size w1 (u5w.setRow (u1w.heap.size) (kS.v k)) := below_setRow s5 s1.size _
    refine hK.out _ _ sB (fun _ => ?_)
    clear hK K
    try simp only [Act.put, iT, iZ, iS]
    refine wpAnyH_done (by kernel_rfl) ?_ _
    refine NoPanic.normal ?_
    have RB := Shp.rd_set (S := kS) u5w (u1w.heap.size) k t9_5
    have z9 : w1.heap.size ≤ u1w.heap.size := s1.size
    go_wp2_with fail
    go_meet
    exact ⟨_, rfl, rfl, RB, z9, sB⟩
  ·simp only [gT, gS, gZ, sI] at ho; subst ho
   go_simp
   have s6 : Below w1.heap.size w1 (wd.alloc (.cells z25 201)) := sd.alloc sd.size _
   have q6 : Shp.tn 25 (wd.alloc (.cells z25 201)) wd.heap.size = true := Shp.tn_of (Blk.new wd _ _) rfl
   refine hK.out _ _ s6 (fun _ => ?_)
   clear hK K
   try simp only [Act.put, iT, iZ, iS]
   obtain ⟨u6w, hu6w⟩ : ∃ V, wd.alloc (.cells z25 201) = V := ⟨_, rfl⟩
   rw [hu6w] at s6 q6
   rw [hu6w]
   clear hu6w
   refine nextS 6 (by kernel_rfl) (by rfl) (fun o ho K hK => ?_)
   simp only [gT, gS, gZ, sI] at ho; subst ho
   go_simp
   (go_at_call 130; (with_reducible refine (CPa.out _).mono ?_); rintro e u7w ⟨rfl, b7⟩)
   have s7 : Below w1.heap.size w1 u7w := below_up s6 s6.size b7
   have t9_7 := Shp.tn_on q6 b7
   refine hK.out _ _ s7 (fun _ => ?_)
   clear hK K
   try simp only [Act.put, iT, iZ, iS]
   refine nextS 8 (by kernel_rfl) (by rfl) (fun o ho K hK => ?_)
   simp only [gT, gS, gZ, sI] at ho; subst ho
   go_simp
   (go_at_call 131; (with_reducible refine (CB.out _).mono ?_); rintro e u8w ⟨rfl, b8⟩)
   have s8 : Below w1.heap.size w1 u8w := below_up s7 s7.size b8
   have t9_8 := Shp.tn_on t9_7 b8
   refine hK.out _ _ s8 (fun _ => ?_)
   clear hK K
   try simp only [Act.put, iT, iZ, iS]
   refine takeT 10 (some 7) ?vz8x10 ?hyz8x10 s8 ?restz8x10
   case hyz8x10 => (intro o ho W hW; simp only [gT, gS, gZ, sI] at ho; subst ho; (try dsimp only at hW); go_simp; try rfl)
   try simp only [Act.put, iT, iZ, iS]
   refine nextS 11 (by kernel_rfl) (by rfl) (fun o ho K hK => ?_)
   simp only [gT, gS, gZ, sI] at ho; subst ho
   go_simp
   have t6 := t9_8
   have sB : Below w1.heap.size w1 (u8w.setRow (wd.heap.size) (kS.v k)) := below_setRow s8 sd.size _
   refine hK.out _ _ sB (fun _ => ?_)
   clear hK K
   try simp only [Act.put, iT, iZ, iS]
   refine wpAnyH_done (by kernel_rfl) ?_ _
   refine NoPanic.normal ?_
   have RB := Shp.rd_set (S := kS) u8w (wd.heap.size) k t9_8
   have z9 : w1.heap.size ≤ wd.heap.size := sd.size
   go_wp2_with fail
   go_meet
   exact ⟨_, rfl, rfl, RB, z9, sB⟩
 case rest =>
  obtain ⟨k8, rfl, rfl, R8, z8, b5⟩ := hcut
  have hT5 := hT1.on b5
  have f5 := Shp.rd_on f1 b5
  have kk5 := Shp.tn_on kk1 b5
  have z5 := below_up z1 z1.size b5
  have hz5 : w.heap.size + 2 ≤ wc.heap.size := by have := b5.size; omega
  clear b5 hT1 f1 kk1 z1 k1 hc CPa
  have hcase : (r < 200 ∧ Cr.Bits.bt k r = false) ∨ r = 200 ∨ (r < 200 ∧ Cr.Bits.bt k r = true) := by
   by_cases c : r < 200
   ·cases hb : Cr.Bits.bt k r
    ·exact .inl ⟨c, rfl⟩
    ·exact .inr (.inr ⟨c, rfl⟩)
   ·exact .inr (.inl (by omega))
  rcases hcase with ⟨hrl, hbt⟩ | hrb
  ·have hdc : decide ((r : Int) < 200) = true := decide_eq_true (by omega)
   have hs0 : D.sd k r = 0 := by unfold D.sd; rw [if_neg (by rw [hbt]; decide)]
   have CS := Lib.hid (fun w => CSi.out r hrl w)
   rw [hs0] at CS
   have HNX := Lib.hid (nx_left hT hpar hrl hbt)
   clear hs0
   gi_wp2
   refine ⟨trivial, ?_⟩
   refine (callsIn_wide.2 (CS.out _)).mono ?_
   rintro e w6 ⟨rfl, b6⟩
   have hT6 := hT5.on b6
   have f6 := Shp.rd_on f5 b6
   have kk6 := Shp.tn_on kk5 b6
   have z6 := below_up z5 z5.size b6
   clear hT5 f5 kk5 z5 b6
   gi_wp2
   refine ⟨trivial, ?_⟩
   refine (callsIn_wide.2 (place_any g (some t) k r (by omega) _ hT6)).mono ?_
   rintro e w7 ⟨rfl, b7⟩
   have hT7 := hT6.on b7
   have kk7 := Shp.tn_on kk6 b7
   have z7 := below_up z6 z6.size b7
   have hc7 := hT7.sub_cell (k := k) (d := r) (by omega)
   clear hT6 f6 kk6 z6 b7
   gi_wp2
   refine ⟨trivial, ?_⟩
   refine (callsIn_wide.2 (first_any (subo k r (some t)) _ (fun u hu => by injection hu with hu; subst hu; exact ⟨(nd_sub (hT7.nd t rfl)).1, Cr.Tr.sub_wf k r (hT7.wf t rfl)⟩))).mono ?_
   rintro e w8 ⟨rfl, b8⟩
   have kk8 := Shp.tn_on kk7 b8
   have z8 := below_up z7 z7.size b8
   clear hT7 kk7 z7 b8 hc7
   have hset := Shp.rd_set (S := kS) w8 (w.heap.size + 1) (fk (subo k r (some t))) kk8
   gi_wp2
   refine ⟨.tuple #[.agg (kS.v (fk (subo k r (some t)))), .bool true], ?_, by rw [HNX.out.1, HNX.out.2], below_setRow z8 (Nat.le_succ _) _⟩
   rw [results_ct rfl]; simp [asAddr, Result.andThen, lvk_of hset]; rfl
  ·have HNX := Lib.hid (nx_right hT hpar hrb)
   have HZ5 := Lib.hid hz5
   clear hz5
   rcases hrb with hr2 | ⟨hrl, hbt⟩
   ·have hdc : decide ((r : Int) < 200) = false := decide_eq_false (by omega)
    clear hr2
    obtain ⟨w6, hw6⟩ : ∃ w6, w6 = wc := ⟨_, rfl⟩
    have b6 : Below wc.heap.size wc w6 := by rw [hw6]; exact Below.refl _ _
    have hT6 := hT5.on b6
    have f6 := Shp.rd_on f5 b6
    have kk6 := Shp.tn_on kk5 b6
    have z6 := below_up z5 z5.size b6
    have R6 := Shp.rd_on R8 b6
    have hz6 : w.heap.size + 2 ≤ w6.heap.size := Nat.le_trans HZ5.out b6.size
    subst hw6
    clear hT5 f5 kk5 z5 R8
    obtain ⟨gb, hgb⟩ : ∃ gb, w6.heap.size = gb := ⟨_, rfl⟩
    obtain ⟨wb, hwb⟩ : ∃ wb, w6.alloc (.cells #[.pointer none] 175) = wb := ⟨_, rfl⟩
    have bb : Below w6.heap.size w6 wb := by rw [← hwb]; exact below_alloc_ _ _
    have Bb : Blk wb gb 175 #[.pointer none] := by rw [← hwb, ← hgb]; exact Blk.new _ _ _
    have CP2 := Lib.hid (fun w => passed_any (some ⟨g, 0, none⟩) k (r : Nat) w)
    have fb := Shp.rd_on f6 bb
    gi_wp2
    refine ⟨trivial, ?_⟩
    gi_wp2
    try rw [hwb]
    try rw [hgb]
    clear hwb
    refine ⟨trivial, ?_⟩
    refine (callsIn_wide.2 (CP2.out _)).mono ?_
    rintro e w3 ⟨rfl, hw3⟩
    have b3 : Below wb.heap.size wb w3 := by rw [hw3]; exact ((below_alloc_ _ _).alloc (by simp) _).alloc (by simp; omega) _
    have hz3 : w3.heap.size = wb.heap.size + 3 := by rw [hw3]; simp
    have ht3 : w3.cell? ⟨wb.heap.size, 0, none⟩ = some (.pointer (some ⟨g, 0, none⟩)) := by
     rw [hw3]
     exact cell_kept_ (below_alloc_ _ _) (cell_kept_ (below_alloc_ _ _) (Blk.new wb _ _).cell)
    have hk3 : kS.rd w3 ⟨wb.heap.size + 1, 0, none⟩ = some k := by
     rw [hw3]
     exact Shp.rd_on (Shp.rd_new (S := kS) _ _ _ _ (by simp)) (below_alloc_ _ _)
    have hb3 : w3.cell? ⟨wb.heap.size + 2, 0, none⟩ = some (.int .i64 (r : Nat)) := by
     rw [hw3]
     have := (Blk.new ((wb.alloc (.cells #[.pointer (some ⟨g, 0, none⟩)] 125)).alloc (.cells (kS.v k) 39)) 3 #[.int .i64 (r : Nat)]).cell
     simpa using this
    clear hw3
    have hT3 := (hT6.on bb).on b3
    have B73 := Bb.on b3
    have R83 := Shp.rd_on (Shp.rd_on R6 bb) b3
    have kk3 := Shp.tn_on (Shp.tn_on kk6 bb) b3
    have z3 : Below w.heap.size w w3 := below_up (below_up z6 z6.size bb) (Nat.le_trans z6.size bb.size) b3
    have l7 := Bb.lt
    have l8 : k8 < w6.heap.size := Shp.rd_lt R6
    have n78 : k8 ≠ gb := by omega
    have hgz : w.heap.size + 2 ≤ gb := by omega
    have hX : ∀ u, some t = some u → ∀ q ∈ u.bl, q < w3.heap.size ∧ q ∉ [gb] := fun u e q hq => by
     obtain ⟨cs, hB⟩ := (hT3.nd u e).lt q hq
     refine ⟨hB.lt, fun c => ?_⟩
     simp only [List.mem_singleton] at c
     exact blk_ne hB B73 (by decide) c
    clear hT6 f6 fb kk6 R6 Bb
    gi_wp2
    refine wpIn_rangeFunc_ownH rfl (by decide) (gf := 165) (lb := #[.pointer (some ⟨wb.heap.size + 1, 0, none⟩), .pointer (some ⟨wb.heap.size, 0, none⟩), .pointer (some ⟨wb.heap.size + 2, 0, none⟩)]) rfl trivial (enters_of Tryz.func165 (by kernel_rfl) rfl)
     (psd_stops 9 (by decide) (wb.heap.size + 1) wb.heap.size (wb.heap.size + 2) g k r (by omega) (some t) w3.heap.size [gb] w3 hk3 ht3 hb3 hT3 ⟨by omega, by simp; omega⟩ hX (Nat.le_refl _)) (fun h k => h.trans k) (fun W l o o' h1 h2 h3 _ => Kp.put W l o o' h1 h2 h3) (Below.refl _ _) (fun _ => rfl)
     (fun pre W => Ov w3.heap.size [gb] w3 W ∧ Blk W gb 175 #[.pointer (pt (bhf k none (pre.map (·.1))))]) (fun _ _ _ => False)
     (fun s W W' row hs hg hr => ⟨hs.1.grown (Nat.le_refl _) hg fun r e => .inl (hr r e).1, (blk_own (t := 175) (fun s : List { u : Tk // u ∈ pth k r (some t) } => #[.pointer (pt (bhf k none (s.map (·.1))))])) s W W' row hs.2 hg hr⟩) (fun _ _ _ _ _ hs _ _ => hs) ⟨Ov.refl _ _ _, B73⟩
     (fun y a' W => a' = { tmps := #[.pointer (some ⟨g, 0, none⟩), .agg (kS.v k), undef, .pointer (some ⟨w.heap.size, 0, none⟩), .pointer (some ⟨w.heap.size + 1, 0, none⟩), .bool false, .pointer (some ⟨a, 0, none⟩), .int .i64 (r : Nat), .pointer (some ⟨k8, 0, none⟩), .pointer (some ⟨gb, 0, none⟩), .pointer (some ⟨y.1.ad, 0, none⟩), .pointer (some ⟨g, 0, none⟩), .agg (kS.v k), .pointer (some (plc k ⟨g, 0, none⟩ (pth k 200 (some t)))), .pointer (some (plc k ⟨g, 0, none⟩ (pth k 200 (some t)))), .pointer (some ⟨a, 0, none⟩), .pointer (some ⟨a, 0, none⟩), .bool false, undef, u19, u20, u21, u22, u23, u24, u25, u26, u27, .int .i64 (r : Nat), .bool false, .bool false, undef, undef, undef, undef, .bool false, u36, u37, u38, u39, u40, u41, u42, u43, u44, .pointer (some ⟨g, 0, none⟩), .agg (kS.v k), .int .i64 (r : Nat), .func (.func 165) #[] #[.pointer (some ⟨wb.heap.size + 1, 0, none⟩), .pointer (some ⟨wb.heap.size, 0, none⟩), .pointer (some ⟨wb.heap.size + 2, 0, none⟩)], .pointer (some ⟨y.1.ad, 0, none⟩), u50, u51, u52, u53, u54, u55, u56, u57, u58, u59, u60, u61, u62, u63, u64, u65], defers := [] })
     (fun _ _ _ _ _ _ hs _ _ => hs) ?assign1 ?body1 ?done1 ?stop1
    case assign1 =>
     rintro l pre y W K hI hK
     gi_wp2
     exact hK _ _ (KeepsFrom.refl _ _) (Kp.refl _ _ _) hI rfl
    case body1 =>
     rintro l pre y a' W hl ⟨r2, hr2⟩ ⟨hO, hB⟩ rfl hlt
     obtain ⟨m1, m2, m3, u, m4, m5⟩ := hT3.mem y.2
     have hbl : ∀ q ∈ y.1.bl, q < w3.heap.size ∧ q ∉ [gb] := fun q hq => hX u m4 q (m5 q hq)
     have hN := hO.nd m1 hbl
     have c0 := hN.nf.bit
     have c1 : kS.rd W ⟨k8, 0, none⟩ = some k := (Shp.rd_to (hO.block k8 (by omega) (by simpa using n78))).trans R83
     have c2 : w.heap.size = w.heap.size := rfl
     have l1 := Shp.rd_lt c1
     have l0 := hN.nf.lt
     have C1 := Lib.hid (fun w => CSi.out y.1.bit (by omega) w)
     have HB := Lib.hid hB
     have HO := Lib.hid hO
     have hmix : Tryz.prog.follows .mixedOrders = true := by kernel_rfl
     have sw : Below W.heap.size W W.drew := (Below.refl _ _).drew
     have sv : Ov W.heap.size [gb] W W.drew := (Ov.refl _ _ _).on (Nat.le_refl _) sw
     have h8 : k8 ∉ [gb] := by simpa using n78
     have hy7 := (hbl y.1.ad y.1.ad_mem).2
     have hbb := show (Cr.Bits.bt k y.1.bit = true ∧ D.sd k y.1.bit = 1) ∨ (Cr.Bits.bt k y.1.bit = false ∧ D.sd k y.1.bit = 0) from by
      unfold D.sd
      cases Cr.Bits.bt k y.1.bit
      ·exact .inr ⟨rfl, rfl⟩
      ·exact .inl ⟨rfl, rfl⟩
     have hhi : W.cell? ⟨y.1.ad, 2, none⟩ = some (.pointer (pt (kid y.1 true))) := by
      have e2 := hN.nf.hi
      have m3' := m3
      generalize y.1 = z at e2 m3'
      cases z with
      | lf a x v => simp only [Cr.Tr.bit] at m3'; omega
      | br a b l r => exact e2
     clear hN hB hX m1 m2 m4 m5 c2
     obtain ⟨sd, hsd⟩ : ∃ sd, D.sd k y.1.bit = sd := ⟨_, rfl⟩
     rw [hsd] at C1 hbb
     clear hsd
     rcases hbb with ⟨hb1, rfl⟩ | ⟨hb1, rfl⟩
     ·gi_wp2
      refine region_round (S := fun V => Ov W.heap.size [gb] W V) (R := fun a' w' => a' = { tmps := #[.pointer (some ⟨g, 0, none⟩), .agg (kS.v k), undef, .pointer (some ⟨w.heap.size, 0, none⟩), .pointer (some ⟨w.heap.size + 1, 0, none⟩), .bool false, .pointer (some ⟨a, 0, none⟩), .int .i64 (r : Nat), .pointer (some ⟨k8, 0, none⟩), .pointer (some ⟨gb, 0, none⟩), .pointer (some ⟨y.1.ad, 0, none⟩), .pointer (some ⟨g, 0, none⟩), .agg (kS.v k), .pointer (some (plc k ⟨g, 0, none⟩ (pth k 200 (some t)))), .pointer (some (plc k ⟨g, 0, none⟩ (pth k 200 (some t)))), .pointer (some ⟨a, 0, none⟩), .pointer (some ⟨a, 0, none⟩), .bool false, undef, u19, u20, u21, u22, u23, u24, u25, u26, u27, .int .i64 (r : Nat), .bool false, .bool false, undef, undef, undef, undef, .bool false, u36, u37, u38, u39, u40, u41, u42, u43, u44, .pointer (some ⟨g, 0, none⟩), .agg (kS.v k), .int .i64 (r : Nat), .func (.func 165) #[] #[.pointer (some ⟨wb.heap.size + 1, 0, none⟩), .pointer (some ⟨wb.heap.size, 0, none⟩), .pointer (some ⟨wb.heap.size + 2, 0, none⟩)], .pointer (some ⟨y.1.ad, 0, none⟩), .agg (kS.v k), .pointer (some ⟨y.1.ad, 0, none⟩), .pointer (some ⟨y.1.ad, 0, none⟩), .pointer (some ⟨y.1.ad, 0, none⟩), .int .i64 (y.1.bit : Nat), .int .i64 1, .bool false, u57, u58, u59, u60, u61, u62, u63, u64, u65], defers := [] } ∧ Below W.heap.size W w') hmix (by kernel_rfl) sv (fun sd0 => ?_) ?_
      refine takeT 0 (some 50) ?vb110 ?hyb110 sd0 ?restb110
      case hyb110 => (intro o ho W hW; simp only [gT, gS, gZ, sI] at ho; subst ho; (try dsimp only at hW); have g1 := (Shp.rd_to (hW.block k8 l1 h8)).trans c1; go_simp; try rfl)
      try simp only [Act.put, iT, iZ, iS]
      refine takeT 1 (some 51) ?vb111 ?hyb111 sd0 ?restb111
      case hyb111 => (intro o ho W hW; simp only [gT, gS, gZ, sI] at ho; subst ho; (try dsimp only at hW); go_simp; try rfl)
      try simp only [Act.put, iT, iZ, iS]
      refine takeT 2 (some 52) ?vb112 ?hyb112 sd0 ?restb112
      case hyb112 => (intro o ho W hW; simp only [gT, gS, gZ, sI] at ho; subst ho; (try dsimp only at hW); go_simp; try rfl)
      try simp only [Act.put, iT, iZ, iS]
      refine takeT 3 (some 53) ?vb113 ?hyb113 sd0 ?restb113
      case hyb113 => (intro o ho W hW; simp only [gT, gS, gZ, sI] at ho; subst ho; (try dsimp only at hW); go_simp; try rfl)
      try simp only [Act.put, iT, iZ, iS]
      refine takeT 4 (some 54) ?vb114 ?hyb114 sd0 ?restb114
      case hyb114 => (intro o ho W hW; simp only [gT, gS, gZ, sI] at ho; subst ho; (try dsimp only at hW); have g2 := (World.cell?_of_block (hW.block y.1.ad l0 hy7)).trans c0; go_simp; try rfl)
      try simp only [Act.put, iT, iZ, iS]
      refine nextS 5 (by kernel_rfl) (by rfl) (fun o ho K hK => ?_)
      simp only [gT, gS, gZ, sI] at ho; subst ho
      go_simp
      (go_at_call 132; (with_reducible refine (C1.out _).mono ?_); rintro e w4 ⟨rfl, b4⟩)
      have s4 : Below W.heap.size W w4 := below_up sw sw.size b4
      have s5 := sv.on (Nat.le_refl _) b4
      refine hK.out _ _ s5 (fun _ => ?_)
      clear hK K
      try simp only [Act.put, iT, iZ, iS]
      refine takeT 6 (some 56) ?vb116 ?hyb116 s5 ?restb116
      case hyb116 => (intro o ho W hW; simp only [gT, gS, gZ, sI] at ho; subst ho; (try dsimp only at hW); go_simp; try rfl)
      try simp only [Act.put, iT, iZ, iS]
      refine wpAnyH_done (by kernel_rfl) ?_ _
      exact ⟨rfl, s4⟩
      rintro a' w' ⟨rfl, b4⟩
      have hO4 := HO.out.on (Nat.le_refl _) b4
      have hB4 := HB.out.on b4
      have K1 : KeepsOthers W w' := KeepsOthers.of_grownBy (grown_none b4) (fun j o e h => by cases e)
      have K2 : Kp w3.heap.size [gb] W w' := Kp.below b4 HO.out.size
      gi_wp2
      refine ⟨K1.from _, K2, hO4, ?_⟩
      rw [List.map_append, List.map_cons, List.map_nil, bhf_app]
      unfold bst
      rw [if_pos hb1]
      exact hB4
     ·gi_wp2
      refine region_round (S := fun V => Ov W.heap.size [gb] W V) (R := fun a' w' => a' = { tmps := #[.pointer (some ⟨g, 0, none⟩), .agg (kS.v k), undef, .pointer (some ⟨w.heap.size, 0, none⟩), .pointer (some ⟨w.heap.size + 1, 0, none⟩), .bool false, .pointer (some ⟨a, 0, none⟩), .int .i64 (r : Nat), .pointer (some ⟨k8, 0, none⟩), .pointer (some ⟨gb, 0, none⟩), .pointer (some ⟨y.1.ad, 0, none⟩), .pointer (some ⟨g, 0, none⟩), .agg (kS.v k), .pointer (some (plc k ⟨g, 0, none⟩ (pth k 200 (some t)))), .pointer (some (plc k ⟨g, 0, none⟩ (pth k 200 (some t)))), .pointer (some ⟨a, 0, none⟩), .pointer (some ⟨a, 0, none⟩), .bool false, undef, u19, u20, u21, u22, u23, u24, u25, u26, u27, .int .i64 (r : Nat), .bool false, .bool false, undef, undef, undef, undef, .bool false, u36, u37, u38, u39, u40, u41, u42, u43, u44, .pointer (some ⟨g, 0, none⟩), .agg (kS.v k), .int .i64 (r : Nat), .func (.func 165) #[] #[.pointer (some ⟨wb.heap.size + 1, 0, none⟩), .pointer (some ⟨wb.heap.size, 0, none⟩), .pointer (some ⟨wb.heap.size + 2, 0, none⟩)], .pointer (some ⟨y.1.ad, 0, none⟩), .agg (kS.v k), .pointer (some ⟨y.1.ad, 0, none⟩), .pointer (some ⟨y.1.ad, 0, none⟩), .pointer (some ⟨y.1.ad, 0, none⟩), .int .i64 (y.1.bit : Nat), .int .i64 0, .bool true, u57, u58, u59, u60, u61, u62, u63, u64, u65], defers := [] } ∧ Below W.heap.size W w') hmix (by kernel_rfl) sv (fun sd0 => ?_) ?_
      refine takeT 0 (some 50) ?vb100 ?hyb100 sd0 ?restb100
      case hyb100 => (intro o ho W hW; simp only [gT, gS, gZ, sI] at ho; subst ho; (try dsimp only at hW); have g1 := (Shp.rd_to (hW.block k8 l1 h8)).trans c1; go_simp; try rfl)
      try simp only [Act.put, iT, iZ, iS]
      refine takeT 1 (some 51) ?vb101 ?hyb101 sd0 ?restb101
      case hyb101 => (intro o ho W hW; simp only [gT, gS, gZ, sI] at ho; subst ho; (try dsimp only at hW); go_simp; try rfl)
      try simp only [Act.put, iT, iZ, iS]
      refine takeT 2 (some 52) ?vb102 ?hyb102 sd0 ?restb102
      case hyb102 => (intro o ho W hW; simp only [gT, gS, gZ, sI] at ho; subst ho; (try dsimp only at hW); go_simp; try rfl)
      try simp only [Act.put, iT, iZ, iS]
      refine takeT 3 (some 53) ?vb103 ?hyb103 sd0 ?restb103
      case hyb103 => (intro o ho W hW; simp only [gT, gS, gZ, sI] at ho; subst ho; (try dsimp only at hW); go_simp; try rfl)
      try simp only [Act.put, iT, iZ, iS]
      refine takeT 4 (some 54) ?vb104 ?hyb104 sd0 ?restb104
      case hyb104 => (intro o ho W hW; simp only [gT, gS, gZ, sI] at ho; subst ho; (try dsimp only at hW); have g2 := (World.cell?_of_block (hW.block y.1.ad l0 hy7)).trans c0; go_simp; try rfl)
      try simp only [Act.put, iT, iZ, iS]
      refine nextS 5 (by kernel_rfl) (by rfl) (fun o ho K hK => ?_)
      simp only [gT, gS, gZ, sI] at ho; subst ho
      go_simp
      (go_at_call 132; (with_reducible refine (C1.out _).mono ?_); rintro e w4 ⟨rfl, b4⟩)
      have s4 : Below W.heap.size W w4 := below_up sw sw.size b4
      have s5 := sv.on (Nat.le_refl _) b4
      refine hK.out _ _ s5 (fun _ => ?_)
      clear hK K
      try simp only [Act.put, iT, iZ, iS]
      refine takeT 6 (some 56) ?vb106 ?hyb106 s5 ?restb106
      case hyb106 => (intro o ho W hW; simp only [gT, gS, gZ, sI] at ho; subst ho; (try dsimp only at hW); go_simp; try rfl)
      try simp only [Act.put, iT, iZ, iS]
      refine wpAnyH_done (by kernel_rfl) ?_ _
      exact ⟨rfl, s4⟩
      rintro a' w' ⟨rfl, b4⟩
      have hO4 := HO.out.on (Nat.le_refl _) b4
      have hB4 := HB.out.on b4
      have hhi4 := cell_kept_ b4 hhi
      have hc4 := hB4.cell
      have hf4 := hB4.free
      have K1 : KeepsOthers W w' := KeepsOthers.of_grownBy (grown_none b4) (fun j o e h => by cases e)
      have K2 : Kp w3.heap.size [gb] W w' := Kp.below b4 HO.out.size
      gi_wp2
      refine ⟨(K1.trans (KeepsOthers.setCell _ _ _)).from _, K2.trans (Kp.set _ _ _ _ (by simp) hB4 (by decide)), hO4.set (by simp) _, ?_⟩
      rw [List.map_append, List.map_cons, List.map_nil, bhf_app]
      unfold bst
      rw [if_neg (by rw [hb1]; decide)]
      exact hB4.set_ _
    case done1 =>
     rintro D0 ys W hD hp ⟨hO, hB⟩ hK
     have hc := hB.cell
     rw [hp] at hB hc
     have hok := bhf_ok hT3 (pth k r (some t)) none (fun u e => by cases e) (fun y h => h)
     obtain ⟨bo, hbo⟩ : ∃ bo, bhf k none (pth k r (some t)) = bo := ⟨_, rfl⟩
     rw [hbo] at hok hc hB HNX
     clear hbo
     have hkW : Shp.tn 25 W (w.heap.size + 1) = true := (Shp.tn_to (hO.block (w.heap.size + 1) (by omega) (by simp; omega))).trans kk3
     have CF := Lib.hid (first_any bo W (fun u e => by
      obtain ⟨h1, h2, h3⟩ := hok u e
      exact ⟨hO.nd h1 (fun q hq => hX t rfl q (h3 q hq)), h2⟩))
     clear hok
     gi_wp2
     refine ⟨trivial, ?_⟩
     refine (callsIn_wide.2 CF.out).mono ?_
     rintro e w8 ⟨rfl, b8⟩
     have kk8 := Shp.tn_on hkW b8
     have hO8 := hO.on (Nat.le_refl _) b8
     have hD8 : D0 < W.heap.size := (Array.getElem?_eq_some_iff.1 hK).1
     have hK8 : (w8.setRow (w.heap.size + 1) (kS.v (fk bo))).heap[D0]? = some (.deferred (some [])) := (heap_setRow _ _ _ _ (by omega)).trans ((b8.block D0 hD8).trans hK)
     have hset := Shp.rd_set (S := kS) w8 (w.heap.size + 1) (fk bo) kk8
     have R2 : kS.rd ((w8.setRow (w.heap.size + 1) (kS.v (fk bo))).putObj D0 (.deferred none)) ⟨w.heap.size + 1, 0, none⟩ = some (fk bo) :=
      (Shp.rd_to (World.putObj_heap_other (by show w.heap.size + 1 ≠ D0; omega))).trans hset
     have hfin := below_setRow (z3.trans (hO8.below (b := w.heap.size) (by omega) (fun x hx => by simp at hx; omega))) (Nat.le_succ _) (kS.v (fk bo))
     have hfin2 : Below w.heap.size w ((w8.setRow (w.heap.size + 1) (kS.v (fk bo))).putObj D0 (.deferred none)) := ⟨hfin.os, hfin.tape, hfin.output, by have := hfin.size; simpa [World.putObj] using this, fun q hq => (World.putObj_heap_other (by omega)).trans (hfin.block q hq)⟩
     clear hO hB hK hO8
     gi_wp2
     refine ⟨by simp, .inl ⟨_, _, rfl, run_takeDeferred hK8, ?_⟩⟩
     refine ⟨.tuple #[.agg (kS.v (fk bo)), .bool bo.isSome], ?_, by rw [HNX.out.1, HNX.out.2], hfin2⟩
     rw [results_ct rfl]; simp [asAddr, Result.andThen, lvk_of R2] <;> rfl
    case stop1 =>
     rintro D0 c pre W _ _ h _
     exact h.elim
   ·have hdc : decide ((r : Int) < 200) = true := decide_eq_true (by omega)
    have hs1 : D.sd k r = 1 := by unfold D.sd; rw [if_pos hbt]
    have CS := Lib.hid (fun w => CSi.out r hrl w)
    rw [hs1] at CS
    clear hs1
    gi_wp2
    refine ⟨trivial, ?_⟩
    refine (callsIn_wide.2 (CS.out _)).mono ?_
    rintro e w6 ⟨rfl, b6⟩
    have hT6 := hT5.on b6
    have f6 := Shp.rd_on f5 b6
    have kk6 := Shp.tn_on kk5 b6
    have z6 := below_up z5 z5.size b6
    have R6 := Shp.rd_on R8 b6
    have hz6 : w.heap.size + 2 ≤ w6.heap.size := Nat.le_trans HZ5.out b6.size
    clear hT5 f5 kk5 z5 R8
    obtain ⟨gb, hgb⟩ : ∃ gb, w6.heap.size = gb := ⟨_, rfl⟩
    obtain ⟨wb, hwb⟩ : ∃ wb, w6.alloc (.cells #[.pointer none] 175) = wb := ⟨_, rfl⟩
    have bb : Below w6.heap.size w6 wb := by rw [← hwb]; exact below_alloc_ _ _
    have Bb : Blk wb gb 175 #[.pointer none] := by rw [← hwb, ← hgb]; exact Blk.new _ _ _
    have CP2 := Lib.hid (fun w => passed_any (some ⟨g, 0, none⟩) k (r : Nat) w)
    have fb := Shp.rd_on f6 bb
    gi_wp2
    try rw [hwb]
    try rw [hgb]
    clear hwb
    refine ⟨trivial, ?_⟩
    refine (callsIn_wide.2 (CP2.out _)).mono ?_
    rintro e w3 ⟨rfl, hw3⟩
    have b3 : Below wb.heap.size wb w3 := by rw [hw3]; exact ((below_alloc_ _ _).alloc (by simp) _).alloc (by simp; omega) _
    have hz3 : w3.heap.size = wb.heap.size + 3 := by rw [hw3]; simp
    have ht3 : w3.cell? ⟨wb.heap.size, 0, none⟩ = some (.pointer (some ⟨g, 0, none⟩)) := by
     rw [hw3]
     exact cell_kept_ (below_alloc_ _ _) (cell_kept_ (below_alloc_ _ _) (Blk.new wb _ _).cell)
    have hk3 : kS.rd w3 ⟨wb.heap.size + 1, 0, none⟩ = some k := by
     rw [hw3]
     exact Shp.rd_on (Shp.rd_new (S := kS) _ _ _ _ (by simp)) (below_alloc_ _ _)
    have hb3 : w3.cell? ⟨wb.heap.size + 2, 0, none⟩ = some (.int .i64 (r : Nat)) := by
     rw [hw3]
     have := (Blk.new ((wb.alloc (.cells #[.pointer (some ⟨g, 0, none⟩)] 125)).alloc (.cells (kS.v k) 39)) 3 #[.int .i64 (r : Nat)]).cell
     simpa using this
    clear hw3
    have hT3 := (hT6.on bb).on b3
    have B73 := Bb.on b3
    have R83 := Shp.rd_on (Shp.rd_on R6 bb) b3
    have kk3 := Shp.tn_on (Shp.tn_on kk6 bb) b3
    have z3 : Below w.heap.size w w3 := below_up (below_up z6 z6.size bb) (Nat.le_trans z6.size bb.size) b3
    have l7 := Bb.lt
    have l8 : k8 < w6.heap.size := Shp.rd_lt R6
    have n78 : k8 ≠ gb := by omega
    have hgz : w.heap.size + 2 ≤ gb := by omega
    have hX : ∀ u, some t = some u → ∀ q ∈ u.bl, q < w3.heap.size ∧ q ∉ [gb] := fun u e q hq => by
     obtain ⟨cs, hB⟩ := (hT3.nd u e).lt q hq
     refine ⟨hB.lt, fun c => ?_⟩
     simp only [List.mem_singleton] at c
     exact blk_ne hB B73 (by decide) c
    clear hT6 f6 fb kk6 R6 Bb
    gi_wp2
    refine wpIn_rangeFunc_ownH rfl (by decide) (gf := 165) (lb := #[.pointer (some ⟨wb.heap.size + 1, 0, none⟩), .pointer (some ⟨wb.heap.size, 0, none⟩), .pointer (some ⟨wb.heap.size + 2, 0, none⟩)]) rfl trivial (enters_of Tryz.func165 (by kernel_rfl) rfl)
     (psd_stops 9 (by decide) (wb.heap.size + 1) wb.heap.size (wb.heap.size + 2) g k r (by omega) (some t) w3.heap.size [gb] w3 hk3 ht3 hb3 hT3 ⟨by omega, by simp; omega⟩ hX (Nat.le_refl _)) (fun h k => h.trans k) (fun W l o o' h1 h2 h3 _ => Kp.put W l o o' h1 h2 h3) (Below.refl _ _) (fun _ => rfl)
     (fun pre W => Ov w3.heap.size [gb] w3 W ∧ Blk W gb 175 #[.pointer (pt (bhf k none (pre.map (·.1))))]) (fun _ _ _ => False)
     (fun s W W' row hs hg hr => ⟨hs.1.grown (Nat.le_refl _) hg fun r e => .inl (hr r e).1, (blk_own (t := 175) (fun s : List { u : Tk // u ∈ pth k r (some t) } => #[.pointer (pt (bhf k none (s.map (·.1))))])) s W W' row hs.2 hg hr⟩) (fun _ _ _ _ _ hs _ _ => hs) ⟨Ov.refl _ _ _, B73⟩
     (fun y a' W => a' = { tmps := #[.pointer (some ⟨g, 0, none⟩), .agg (kS.v k), undef, .pointer (some ⟨w.heap.size, 0, none⟩), .pointer (some ⟨w.heap.size + 1, 0, none⟩), .bool false, .pointer (some ⟨a, 0, none⟩), .int .i64 (r : Nat), .pointer (some ⟨k8, 0, none⟩), .pointer (some ⟨gb, 0, none⟩), .pointer (some ⟨y.1.ad, 0, none⟩), .pointer (some ⟨g, 0, none⟩), .agg (kS.v k), .pointer (some (plc k ⟨g, 0, none⟩ (pth k 200 (some t)))), .pointer (some (plc k ⟨g, 0, none⟩ (pth k 200 (some t)))), .pointer (some ⟨a, 0, none⟩), .pointer (some ⟨a, 0, none⟩), .bool false, undef, u19, u20, u21, u22, u23, u24, u25, u26, u27, .int .i64 (r : Nat), .bool true, .bool true, .agg (kS.v k), .int .i64 (r : Nat), .int .i64 1, .bool false, .bool false, u36, u37, u38, u39, u40, u41, u42, u43, u44, .pointer (some ⟨g, 0, none⟩), .agg (kS.v k), .int .i64 (r : Nat), .func (.func 165) #[] #[.pointer (some ⟨wb.heap.size + 1, 0, none⟩), .pointer (some ⟨wb.heap.size, 0, none⟩), .pointer (some ⟨wb.heap.size + 2, 0, none⟩)], .pointer (some ⟨y.1.ad, 0, none⟩), u50, u51, u52, u53, u54, u55, u56, u57, u58, u59, u60, u61, u62, u63, u64, u65], defers := [] })
     (fun _ _ _ _ _ _ hs _ _ => hs) ?assign2 ?body2 ?done2 ?stop2
    case assign2 =>
     rintro l pre y W K hI hK
     gi_wp2
     exact hK _ _ (KeepsFrom.refl _ _) (Kp.refl _ _ _) hI rfl
    case body2 =>
     rintro l pre y a' W hl ⟨r2, hr2⟩ ⟨hO, hB⟩ rfl hlt
     obtain ⟨m1, m2, m3, u, m4, m5⟩ := hT3.mem y.2
     have hbl : ∀ q ∈ y.1.bl, q < w3.heap.size ∧ q ∉ [gb] := fun q hq => hX u m4 q (m5 q hq)
     have hN := hO.nd m1 hbl
     have c0 := hN.nf.bit
     have c1 : kS.rd W ⟨k8, 0, none⟩ = some k := (Shp.rd_to (hO.block k8 (by omega) (by simpa using n78))).trans R83
     have c2 : w.heap.size = w.heap.size := rfl
     have l1 := Shp.rd_lt c1
     have l0 := hN.nf.lt
     have C1 := Lib.hid (fun w => CSi.out y.1.bit (by omega) w)
     have HB := Lib.hid hB
     have HO := Lib.hid hO
     have hmix : Tryz.prog.follows .mixedOrders = true := by kernel_rfl
     have sw : Below W.heap.size W W.drew := (Below.refl _ _).drew
     have sv : Ov W.heap.size [gb] W W.drew := (Ov.refl _ _ _).on (Nat.le_refl _) sw
     have h8 : k8 ∉ [gb] := by simpa using n78
     have hy7 := (hbl y.1.ad y.1.ad_mem).2
     have hbb := show (Cr.Bits.bt k y.1.bit = true ∧ D.sd k y.1.bit = 1) ∨ (Cr.Bits.bt k y.1.bit = false ∧ D.sd k y.1.bit = 0) from by
      unfold D.sd
      cases Cr.Bits.bt k y.1.bit
      ·exact .inr ⟨rfl, rfl⟩
      ·exact .inl ⟨rfl, rfl⟩
     have hhi : W.cell? ⟨y.1.ad, 2, none⟩ = some (.pointer (pt (kid y.1 true))) := by
      have e2 := hN.nf.hi
      have m3' := m3
      generalize y.1 = z at e2 m3'
      cases z with
      | lf a x v => simp only [Cr.Tr.bit] at m3'; omega
      | br a b l r => exact e2
     clear hN hB hX m1 m2 m4 m5 c2
     obtain ⟨sd, hsd⟩ : ∃ sd, D.sd k y.1.bit = sd := ⟨_, rfl⟩
     rw [hsd] at C1 hbb
     clear hsd
     rcases hbb with ⟨hb1, rfl⟩ | ⟨hb1, rfl⟩
     ·gi_wp2
      refine region_round (S := fun V => Ov W.heap.size [gb] W V) (R := fun a' w' => a' = { tmps := #[.pointer (some ⟨g, 0, none⟩), .agg (kS.v k), undef, .pointer (some ⟨w.heap.size, 0, none⟩), .pointer (some ⟨w.heap.size + 1, 0, none⟩), .bool false, .pointer (some ⟨a, 0, none⟩), .int .i64 (r : Nat), .pointer (some ⟨k8, 0, none⟩), .pointer (some ⟨gb, 0, none⟩), .pointer (some ⟨y.1.ad, 0, none⟩), .pointer (some ⟨g, 0, none⟩), .agg (kS.v k), .pointer (some (plc k ⟨g, 0, none⟩ (pth k 200 (some t)))), .pointer (some (plc k ⟨g, 0, none⟩ (pth k 200 (some t)))), .pointer (some ⟨a, 0, none⟩), .pointer (some ⟨a, 0, none⟩), .bool false, undef, u19, u20, u21, u22, u23, u24, u25, u26, u27, .int .i64 (r : Nat), .bool true, .bool true, .agg (kS.v k), .int .i64 (r : Nat), .int .i64 1, .bool false, .bool false, u36, u37, u38, u39, u40, u41, u42, u43, u44, .pointer (some ⟨g, 0, none⟩), .agg (kS.v k), .int .i64 (r : Nat), .func (.func 165) #[] #[.pointer (some ⟨wb.heap.size + 1, 0, none⟩), .pointer (some ⟨wb.heap.size, 0, none⟩), .pointer (some ⟨wb.heap.size + 2, 0, none⟩)], .pointer (some ⟨y.1.ad, 0, none⟩), .agg (kS.v k), .pointer (some ⟨y.1.ad, 0, none⟩), .pointer (some ⟨y.1.ad, 0, none⟩), .pointer (some ⟨y.1.ad, 0, none⟩), .int .i64 (y.1.bit : Nat), .int .i64 1, .bool false, u57, u58, u59, u60, u61, u62, u63, u64, u65], defers := [] } ∧ Below W.heap.size W w') hmix (by kernel_rfl) sv (fun sd0 => ?_) ?_
      refine takeT 0 (some 50) ?vb210 ?hyb210 sd0 ?restb210
      case hyb210 => (intro o ho W hW; simp only [gT, gS, gZ, sI] at ho; subst ho; (try dsimp only at hW); have g1 := (Shp.rd_to (hW.block k8 l1 h8)).trans c1; go_simp; try rfl)
      try simp only [Act.put, iT, iZ, iS]
      refine takeT 1 (some 51) ?vb211 ?hyb211 sd0 ?restb211
      case hyb211 => (intro o ho W hW; simp only [gT, gS, gZ, sI] at ho; subst ho; (try dsimp only at hW); go_simp; try rfl)
      try simp only [Act.put, iT, iZ, iS]
      refine takeT 2 (some 52) ?vb212 ?hyb212 sd0 ?restb212
      case hyb212 => (intro o ho W hW; simp only [gT, gS, gZ, sI] at ho; subst ho; (try dsimp only at hW); go_simp; try rfl)
      try simp only [Act.put, iT, iZ, iS]
      refine takeT 3 (some 53) ?vb213 ?hyb213 sd0 ?restb213
      case hyb213 => (intro o ho W hW; simp only [gT, gS, gZ, sI] at ho; subst ho; (try dsimp only at hW); go_simp; try rfl)
      try simp only [Act.put, iT, iZ, iS]
      refine takeT 4 (some 54) ?vb214 ?hyb214 sd0 ?restb214
      case hyb214 => (intro o ho W hW; simp only [gT, gS, gZ, sI] at ho; subst ho; (try dsimp only at hW); have g2 := (World.cell?_of_block (hW.block y.1.ad l0 hy7)).trans c0; go_simp; try rfl)
      try simp only [Act.put, iT, iZ, iS]
      refine nextS 5 (by kernel_rfl) (by rfl) (fun o ho K hK => ?_)
      simp only [gT, gS, gZ, sI] at ho; subst ho
      go_simp
      (go_at_call 132; (with_reducible refine (C1.out _).mono ?_); rintro e w4 ⟨rfl, b4⟩)
      have s4 : Below W.heap.size W w4 := below_up sw sw.size b4
      have s5 := sv.on (Nat.le_refl _) b4
      refine hK.out _ _ s5 (fun _ => ?_)
      clear hK K
      try simp only [Act.put, iT, iZ, iS]
      refine takeT 6 (some 56) ?vb216 ?hyb216 s5 ?restb216
      case hyb216 => (intro o ho W hW; simp only [gT, gS, gZ, sI] at ho; subst ho; (try dsimp only at hW); go_simp; try rfl)
      try simp only [Act.put, iT, iZ, iS]
      refine wpAnyH_done (by kernel_rfl) ?_ _
      exact ⟨rfl, s4⟩
      rintro a' w' ⟨rfl, b4⟩
      have hO4 := HO.out.on (Nat.le_refl _) b4
      have hB4 := HB.out.on b4
      have K1 : KeepsOthers W w' := KeepsOthers.of_grownBy (grown_none b4) (fun j o e h => by cases e)
      have K2 : Kp w3.heap.size [gb] W w' := Kp.below b4 HO.out.size
      gi_wp2
      refine ⟨K1.from _, K2, hO4, ?_⟩
      rw [List.map_append, List.map_cons, List.map_nil, bhf_app]
      unfold bst
      rw [if_pos hb1]
      exact hB4
     ·gi_wp2
      refine region_round (S := fun V => Ov W.heap.size [gb] W V) (R := fun a' w' => a' = { tmps := #[.pointer (some ⟨g, 0, none⟩), .agg (kS.v k), undef, .pointer (some ⟨w.heap.size, 0, none⟩), .pointer (some ⟨w.heap.size + 1, 0, none⟩), .bool false, .pointer (some ⟨a, 0, none⟩), .int .i64 (r : Nat), .pointer (some ⟨k8, 0, none⟩), .pointer (some ⟨gb, 0, none⟩), .pointer (some ⟨y.1.ad, 0, none⟩), .pointer (some ⟨g, 0, none⟩), .agg (kS.v k), .pointer (some (plc k ⟨g, 0, none⟩ (pth k 200 (some t)))), .pointer (some (plc k ⟨g, 0, none⟩ (pth k 200 (some t)))), .pointer (some ⟨a, 0, none⟩), .pointer (some ⟨a, 0, none⟩), .bool false, undef, u19, u20, u21, u22, u23, u24, u25, u26, u27, .int .i64 (r : Nat), .bool true, .bool true, .agg (kS.v k), .int .i64 (r : Nat), .int .i64 1, .bool false, .bool false, u36, u37, u38, u39, u40, u41, u42, u43, u44, .pointer (some ⟨g, 0, none⟩), .agg (kS.v k), .int .i64 (r : Nat), .func (.func 165) #[] #[.pointer (some ⟨wb.heap.size + 1, 0, none⟩), .pointer (some ⟨wb.heap.size, 0, none⟩), .pointer (some ⟨wb.heap.size + 2, 0, none⟩)], .pointer (some ⟨y.1.ad, 0, none⟩), .agg (kS.v k), .pointer (some ⟨y.1.ad, 0, none⟩), .pointer (some ⟨y.1.ad, 0, none⟩), .pointer (some ⟨y.1.ad, 0, none⟩), .int .i64 (y.1.bit : Nat), .int .i64 0, .bool true, u57, u58, u59, u60, u61, u62, u63, u64, u65], defers := [] } ∧ Below W.heap.size W w') hmix (by kernel_rfl) sv (fun sd0 => ?_) ?_
      refine takeT 0 (some 50) ?vb200 ?hyb200 sd0 ?restb200
      case hyb200 => (intro o ho W hW; simp only [gT, gS, gZ, sI] at ho; subst ho; (try dsimp only at hW); have g1 := (Shp.rd_to (hW.block k8 l1 h8)).trans c1; go_simp; try rfl)
      try simp only [Act.put, iT, iZ, iS]
      refine takeT 1 (some 51) ?vb201 ?hyb201 sd0 ?restb201
      case hyb201 => (intro o ho W hW; simp only [gT, gS, gZ, sI] at ho; subst ho; (try dsimp only at hW); go_simp; try rfl)
      try simp only [Act.put, iT, iZ, iS]
      refine takeT 2 (some 52) ?vb202 ?hyb202 sd0 ?restb202
      case hyb202 => (intro o ho W hW; simp only [gT, gS, gZ, sI] at ho; subst ho; (try dsimp only at hW); go_simp; try rfl)
      try simp only [Act.put, iT, iZ, iS]
      refine takeT 3 (some 53) ?vb203 ?hyb203 sd0 ?restb203
      case hyb203 => (intro o ho W hW; simp only [gT, gS, gZ, sI] at ho; subst ho; (try dsimp only at hW); go_simp; try rfl)
      try simp only [Act.put, iT, iZ, iS]
      refine takeT 4 (some 54) ?vb204 ?hyb204 sd0 ?restb204
      case hyb204 => (intro o ho W hW; simp only [gT, gS, gZ, sI] at ho; subst ho; (try dsimp only at hW); have g2 := (World.cell?_of_block (hW.block y.1.ad l0 hy7)).trans c0; go_simp; try rfl)
      try simp only [Act.put, iT, iZ, iS]
      refine nextS 5 (by kernel_rfl) (by rfl) (fun o ho K hK => ?_)
      simp only [gT, gS, gZ, sI] at ho; subst ho
      go_simp
      (go_at_call 132; (with_reducible refine (C1.out _).mono ?_); rintro e w4 ⟨rfl, b4⟩)
      have s4 : Below W.heap.size W w4 := below_up sw sw.size b4
      have s5 := sv.on (Nat.le_refl _) b4
      refine hK.out _ _ s5 (fun _ => ?_)
      clear hK K
      try simp only [Act.put, iT, iZ, iS]
      refine takeT 6 (some 56) ?vb206 ?hyb206 s5 ?restb206
      case hyb206 => (intro o ho W hW; simp only [gT, gS, gZ, sI] at ho; subst ho; (try dsimp only at hW); go_simp; try rfl)
      try simp only [Act.put, iT, iZ, iS]
      refine wpAnyH_done (by kernel_rfl) ?_ _
      exact ⟨rfl, s4⟩
      rintro a' w' ⟨rfl, b4⟩
      have hO4 := HO.out.on (Nat.le_refl _) b4
      have hB4 := HB.out.on b4
      have hhi4 := cell_kept_ b4 hhi
      have hc4 := hB4.cell
      have hf4 := hB4.free
      have K1 : KeepsOthers W w' := KeepsOthers.of_grownBy (grown_none b4) (fun j o e h => by cases e)
      have K2 : Kp w3.heap.size [gb] W w' := Kp.below b4 HO.out.size
      gi_wp2
      refine ⟨(K1.trans (KeepsOthers.setCell _ _ _)).from _, K2.trans (Kp.set _ _ _ _ (by simp) hB4 (by decide)), hO4.set (by simp) _, ?_⟩
      rw [List.map_append, List.map_cons, List.map_nil, bhf_app]
      unfold bst
      rw [if_neg (by rw [hb1]; decide)]
      exact hB4.set_ _
    case done2 =>
     rintro D0 ys W hD hp ⟨hO, hB⟩ hK
     have hc := hB.cell
     rw [hp] at hB hc
     have hok := bhf_ok hT3 (pth k r (some t)) none (fun u e => by cases e) (fun y h => h)
     obtain ⟨bo, hbo⟩ : ∃ bo, bhf k none (pth k r (some t)) = bo := ⟨_, rfl⟩
     rw [hbo] at hok hc hB HNX
     clear hbo
     have hkW : Shp.tn 25 W (w.heap.size + 1) = true := (Shp.tn_to (hO.block (w.heap.size + 1) (by omega) (by simp; omega))).trans kk3
     have CF := Lib.hid (first_any bo W (fun u e => by
      obtain ⟨h1, h2, h3⟩ := hok u e
      exact ⟨hO.nd h1 (fun q hq => hX t rfl q (h3 q hq)), h2⟩))
     clear hok
     gi_wp2
     refine ⟨trivial, ?_⟩
     refine (callsIn_wide.2 CF.out).mono ?_
     rintro e w8 ⟨rfl, b8⟩
     have kk8 := Shp.tn_on hkW b8
     have hO8 := hO.on (Nat.le_refl _) b8
     have hD8 : D0 < W.heap.size := (Array.getElem?_eq_some_iff.1 hK).1
     have hK8 : (w8.setRow (w.heap.size + 1) (kS.v (fk bo))).heap[D0]? = some (.deferred (some [])) := (heap_setRow _ _ _ _ (by omega)).trans ((b8.block D0 hD8).trans hK)
     have hset := Shp.rd_set (S := kS) w8 (w.heap.size + 1) (fk bo) kk8
     have R2 : kS.rd ((w8.setRow (w.heap.size + 1) (kS.v (fk bo))).putObj D0 (.deferred none)) ⟨w.heap.size + 1, 0, none⟩ = some (fk bo) :=
      (Shp.rd_to (World.putObj_heap_other (by show w.heap.size + 1 ≠ D0; omega))).trans hset
     have hfin := below_setRow (z3.trans (hO8.below (b := w.heap.size) (by omega) (fun x hx => by simp at hx; omega))) (Nat.le_succ _) (kS.v (fk bo))
     have hfin2 : Below w.heap.size w ((w8.setRow (w.heap.size + 1) (kS.v (fk bo))).putObj D0 (.deferred none)) := ⟨hfin.os, hfin.tape, hfin.output, by have := hfin.size; simpa [World.putObj] using this, fun q hq => (World.putObj_heap_other (by omega)).trans (hfin.block q hq)⟩
     clear hO hB hK hO8
     gi_wp2
     refine ⟨by simp, .inl ⟨_, _, rfl, run_takeDeferred hK8, ?_⟩⟩
     refine ⟨.tuple #[.agg (kS.v (fk bo)), .bool bo.isSome], ?_, by rw [HNX.out.1, HNX.out.2], hfin2⟩
     rw [results_ct rfl]; simp [asAddr, Result.andThen, lvk_of R2] <;> rfl
    case stop2 =>
     rintro D0 c pre W _ _ h _
     exact h.elim
end Go.Proofs.YtjlaffgbmcpldaaGreatDoor
namespace Go.Proofs.YtjlaffgbmcpldaaGreatDoor
open Go.RowKit
attribute [local go_sem ↓] Go.wp_at_zero Go.wp_at_succ ld_k lv_k st_k eq_k ne_k bd_k ld_b lv_b st_b eq_b ne_b bd_25 ld_r lv_r st_rk eq_rk ne_rk bd_r ld_p lv_p st_px bd_p Nm.ld_a Nm.ld_n Nm.st_a Nm.st_n Nm.eq_a Nm.eq_n Nm.ne_a Nm.ne_n Nm.lv_a Nm.lv_n ld_a ld_n st_a st_n eq_a eq_n ne_a ne_n lv_a lv_n ld_l lv_l st_l bd_l bd_n bs_k ld_v lv_v st_v ne_v bd_v bs_v ld_rh ld_d lv_rh lv_d st_r st_d ne_rh eq_rh ne_d bd_rh bd_d ld_x lv_x st_x bd_x bs_x ld_e lv_e st_e bd_e bs_e ne_e
attribute [local go_sem] run_ldk run_lvk run_stk run_eqk run_nek run_bdk_z run_ldb run_lvb run_stb run_eqb run_neb run_ldr run_lvr run_strk run_eqrk run_nerk run_bdr_z run_ldp run_lvp run_stpx Nm.run_ld_a Nm.run_ld_n Nm.run_st_n Nm.run_eq_a Nm.run_eq_n Nm.run_ne_a Nm.run_ne_n Nm.run_lv_a Nm.run_lv_n Nm.rd_new Nm.rd_old Nm.rd_drew Nm.rd_drewN run_ld_a run_ld_n run_sw_a run_sw_n run_eq_a run_eq_n run_ne_a run_ne_n run_lv_a run_lv_n st_z ne_z eq_z rd_new rd_old rd_drew rd_drewN Shp.rd_new Shp.rd_old Shp.rd_drew Shp.rd_drewN Shp.rd_set Shp.tn_new Shp.tn_old Shp.tn_drew Shp.tn_drewN tn_new tn_old tn_drew tn_drewN rd_set setRow_alloc run_stn3 run_stt15 run_lvl run_ldl run_stl run_bdl run_bdn run_bdn0 run_bsk Shp.rd_extk cell_ext run_ldv run_lvv run_stv run_nev run_bdv_z run_bdv_d run_bdv_r run_bsv1 run_bsv0 run_ldrh run_ldd run_lvrh run_lvd run_str run_std run_nerh run_eqrh run_ned run_bdr0 run_bdd0 run_bdr1 run_bdd1 run_bdd9 run_ldx run_lvx run_stx run_lde run_lve run_bde run_bse1 run_bdv_3 Shp.rd_extk cell_ext
theorem SC.keys {base s g : Nat} {w : World} {o : Option Tk} {q : D.Ky → Qd} {lv : Int} {M : D.Sm} (h : SC base w s g o q lv M) (x : D.Px) : kyo x o = M.ks.filter fun k => D.has x.x x.d k := by
 rw [kyo_eq h.tc.tr, h.ls, List.filter_map, List.map_map]
 have e : (fun e : D.Ky × Vl => D.has x.x x.d e.1) ∘ (fun k => (k, some (⟨(q k).b, 0, none⟩ : Addr))) = fun k => D.has x.x x.d k := rfl
 rw [e]
 exact List.map_id _
def D.Sm.keys (M : D.Sm) (x : D.Px) : List D.Ky := M.ks.filter fun k => D.has x.x x.d k
set_option maxHeartbeats 1000000 in
theorem skeys_any {base : Nat} {w : World} {p : Option Addr} {M : D.Sm} (hS : SO base w p M) (x : D.Px) : Calls Tryz.prog 37 #[.pointer p, .agg (pS.v x)] w fun e w' => ∃ (A : Option Addr) (c : Nat), e = .returned (.slice A (M.keys x).length c) ∧ Ow 39 25 w.heap.size w' A (M.keys x).length c (kS.rcs (M.keys x)) ∧ Below w.heap.size w w' := by
 have f0 := Shp.rd_new (S := pS) w w.heap.size 41 x rfl
 have b0 := below_alloc_ w (.cells (pS.v x) 41)
 have HO := Lib.hid hS
 go_enter Tryz.func37, Tryz.ntmps37
 go_wp2_with fail
 obtain ⟨w0, hw0⟩ : ∃ w0, w.alloc (.cells (pS.v x) 41) = w0 := ⟨_, rfl⟩
 rw [hw0] at f0 b0
 rw [hw0]
 clear hw0
 have b1 : Below w0.heap.size w0 w0.drew := (Below.refl _ _).drew
 refine wp_region_noPanic ?_
 refine wp_region_held_drew (S := (fun V => Below w0.heap.size w0 V)) (by kernel_rfl) b1 (fun _ => ?_)
 refine takeT 0 (some 5) ?v2 ?hy2 b1 ?rest2
 case hy2 => (intro o ho W hW; simp only [gT, gS, gZ, sI] at ho; subst ho; (try dsimp only at hW); go_simp; try rfl)
 try simp only [Act.put, iT, iZ, iS]
 refine takeT 5 (some 10) ?v3 ?hy3 b1 ?rest3
 case hy3 => (intro o ho W hW; simp only [gT, gS, gZ, sI] at ho; subst ho; (try dsimp only at hW); have f_ := Shp.rd_on f0 hW; go_simp; try rfl)
 try simp only [Act.put, iT, iZ, iS]
 refine nextS 1 (by kernel_rfl) (by rfl) (fun o ho K hK => ?_)
 simp only [gT, gS, gZ, sI] at ho; subst ho
 go_simp
 go_at_call 56
 refine (HO.out _ (below_up b0 b0.size b1)).mono ?_
 rintro e w2 ⟨s, rfl, ⟨g, o, q, h2⟩, b2⟩
 have b3 := below_up b1 b1.size b2
 refine hK.out _ _ b3 (fun _ => ?_)
 clear hK K
 try simp only [Act.put, iT, iZ, iS]
 have c0 := h2.blk.c 0
 simp only [List.getElem?_toArray, List.getElem?_cons_zero] at c0
 refine takeT 2 (some 7) ?v6 ?hy6 b3 ?rest6
 case hy6 => (intro o ho W hW; simp only [gT, gS, gZ, sI] at ho; subst ho; (try dsimp only at hW); go_simp; try rfl)
 try simp only [Act.put, iT, iZ, iS]
 refine takeT 3 (some 8) ?v7 ?hy7 b3 ?rest7
 case hy7 => (intro o ho W hW; simp only [gT, gS, gZ, sI] at ho; subst ho; (try dsimp only at hW); go_simp; try rfl)
 try simp only [Act.put, iT, iZ, iS]
 have hC := Lib.hid h2
 have hz := Nat.le_trans b0.size b3.size
 have hk := Lib.hid (h2.keys x)
 clear b1 h2
 refine nextS 4 (by kernel_rfl) (by rfl) (fun o ho K hK => ?_)
 simp only [gT, gS, gZ, sI] at ho; subst ho
 go_simp
 refine hK.out _ _ b3 (fun _ => ?_)
 clear hK K
 try simp only [Act.put, iT, iZ, iS]
 refine nextS 6 (by kernel_rfl) (by rfl) (fun o ho K hK => ?_)
 simp only [gT, gS, gZ, sI] at ho; subst ho
 go_simp
 go_at_call 72
 refine (keys_any g o x _ hC.out.tc.tr).mono ?_
 rintro e w4 ⟨A, c, rfl, hA, b4⟩
 rw [hk.out] at hA ⊢
 have b5 := below_up b3 b3.size b4
 refine hK.out _ _ b5 (fun _ => ?_)
 clear hK K
 try simp only [Act.put, iT, iZ, iS]
 refine takeT 7 (some 4) ?v12 ?hy12 b5 ?rest12
 case hy12 => (intro o ho W hW; simp only [gT, gS, gZ, sI] at ho; subst ho; (try dsimp only at hW); go_simp; try rfl)
 try simp only [Act.put, iT, iZ, iS]
 refine wpAnyH_done (by kernel_rfl) ?_ _
 refine NoPanic.normal ?_
 go_wp2
 go_ret
 exact ⟨A, c, rfl, hA.low hz, below_up b0 b0.size b5⟩
def D.Sm.vsum (M : D.Sm) (l : List D.Ky) : Nat := (l.map fun k => (M.f k).length).sum
theorem D.Sm.vers_eq (M : D.Sm) (x : D.Px) : M.vers x = M.vsum (M.keys x) := rfl
theorem D.Sm.vsum_snoc (M : D.Sm) (l : List D.Ky) (k : D.Ky) : M.vsum (l ++ [k]) = M.vsum l + (M.f k).length := by simp [D.Sm.vsum]
theorem D.Sm.vsum_le {M : D.Sm} (h : M.wf) (hl : M.last ≤ 1000) : ∀ l : List D.Ky, M.vsum l ≤ l.length * 1000
 | [] => by simp [D.Sm.vsum]
 | k :: l => by
  have := D.Sm.vsum_le h hl l
  have := h.len k
  simp only [D.Sm.vsum, List.map_cons, List.sum_cons, List.length_cons] at *
  omega
theorem stk_next {α : Type} {l : List α} {i : Nat} {x : α} (h : l[i]? = some x) : l.take (i + 1) = l.take i ++ [x] := by
 rw [List.take_add_one, h]; rfl
set_option maxHeartbeats 4000000 in
theorem svers_any {base : Nat} {w : World} {p : Option Addr} {M : D.Sm} (hS : SO base w p M) (hM : M.wf) (hl : M.last ≤ 1000) (hk : M.ks.length ≤ 1000) (x : D.Px) : Calls Tryz.prog 38 #[.pointer p, .agg (pS.v x)] w fun e w' => e = .returned (.int .i64 (M.vers x : Nat)) ∧ Below w.heap.size w w' := by
 have f0 := Shp.rd_new (S := pS) w w.heap.size 41 x rfl
 have b0 := below_alloc_ w (.cells (pS.v x) 41)
 obtain ⟨w0, hw0⟩ : ∃ w0, w.alloc (.cells (pS.v x) 41) = w0 := ⟨_, rfl⟩
 rw [hw0] at f0 b0
 have HS := Lib.hid (hS.on b0)
 have CK := Lib.hid (skeys_any (hS.on b0) x)
 have HN : Kept ((M.keys x).length ≤ 1000) := ⟨Nat.le_trans (List.length_filter_le _ _) hk⟩
 rw [D.Sm.vers_eq]
 obtain ⟨ks, hks⟩ : ∃ ks, M.keys x = ks := ⟨_, rfl⟩
 rw [hks] at CK HN ⊢
 have HB := Lib.hid (fun i => D.Sm.vsum_le hM hl (ks.take i))
 clear hS hk hks
 go_enter Tryz.func38, Tryz.ntmps38
 go_wp2_with fail
 try rw [hw0]
 clear hw0
 go_wp2_with (go_at_call 37; (with_reducible refine CK.out.mono ?_); rintro e w1 ⟨A, c, rfl, hA, b1⟩)
 have hR := Lib.hid (ow_srow (S := kS) hA)
 have hS1 := Lib.hid (HS.out.on b1)
 have z1 := Lib.hid (below_up b0 b0.size b1)
 clear hA HS b1
 go_loopw [5, 12] (fun s i wr => ∃ j : Nat, j ≤ ks.length ∧ i = .int .i64 j ∧ s = .int .i64 (M.vsum (ks.take j) : Nat) ∧ Hid (Below w1.heap.size w1 wr)) (fun _ i _ => ks.length - (intOf i).toNat)
 case atStart => exact ⟨0, Nat.zero_le _, rfl, rfl, Lib.hid (Below.refl _ _)⟩
 case round =>
  obtain ⟨j, hj, rfl, rfl, hb⟩ := hrel
  by_cases hlt : j < ks.length
  ·obtain ⟨k, hk⟩ : ∃ k, ks[j]? = some k := ⟨_, List.getElem?_eq_getElem hlt⟩
   obtain ⟨ad, hAe, hal, hrd⟩ := (hR.out.on hb.out).rd hk
   have hrd : kS.rd wr (ad.add (j * 25)) = some k := hrd
   subst hAe
   have i0 : (0 : Int) ≤ (j : Int) := by omega
   have i1 : (j : Int) < (ks.length : Int) := by omega
   have hkl : ks.length ≤ 1000 := HN.out
   have hv := HB.out (j + 1)
   rw [stk_next hk, D.Sm.vsum_snoc] at hv
   have hT := Lib.hid (stk_next hk)
   have CO := Lib.hid (fun W (hW : Below w1.heap.size w1 W) => of_key (hS1.out.on hW) hl k)
   obtain ⟨m, hm⟩ : ∃ m, M.vsum (ks.take j) = m := ⟨_, rfl⟩
   rw [hm] at hv
   have hb1 := below_alloc_ wr (.cells (kS.v k) 39)
   have f1 := Shp.rd_new (S := kS) wr wr.heap.size 39 k rfl
   have hlen : (List.take j ks ++ [k]).length * 1000 ≤ 1000000 := by
    have := HN.out
    simp only [List.length_append, List.length_take, List.length_singleton]
    omega
   have hv2 : m + (M.f k).length ≤ 1000000 := Nat.le_trans hv hlen
   clear hk hv hlen
   rw [hm]
   go_wp2_with (first
    | (go_at_call 73; (refine (CO.out _ (below_up hb.out hb.out.size hb1)).mono ?_); rintro e w2 ⟨c2, A2, n2, d2, rfl, hA2, hv3, b2, -⟩; have CL := Lib.hid (len_anyh hA2); have hn2 : n2 = (M.f k).length := hA2.row.len.symm)
    | (go_at_call 74; (with_reducible refine CL.out.mono ?_); rintro e w3 ⟨rfl, b3⟩))
   go_roundw
   case rel => exact ⟨j + 1, by omega, by go_num, by rw [hT.out, D.Sm.vsum_snoc, hm, ← hn2]; go_num, Lib.hid (below_up (below_up (below_up hb.out hb.out.size hb1) (below_up hb.out hb.out.size hb1).size b2) (below_up (below_up hb.out hb.out.size hb1) (below_up hb.out hb.out.size hb1).size b2).size b3)⟩
   case measure => simp [intOf]; omega
  ·obtain rfl : ks.length = j := by omega
   have hT := Lib.hid (show ks.take ks.length = ks from List.take_length)
   go_wp2
   go_ret
   exact ⟨by rw [hT.out]; rfl, below_up z1.out z1.out.size hb.out⟩
def KRt : Prop := ∀ (x : D.Ky) (w : World), Calls Tryz.prog 82 #[.agg (kS.v x)] w fun e w' => e = .returned (.bool (D.kright x)) ∧ Below w.heap.size w w'
theorem rfo {w : World} {g o : Nat} {x : D.Rc} (h : rSh.rd w ⟨g, o, none⟩ = some x) {j : Nat} {u : Value} (hu : (rcellsh x)[j]? = some u) : w.cell? ⟨g, o + j, none⟩ = some u := by
 have hc : rSh.At w ⟨g, o, none⟩ x := Shp.at_of h
 have := hc j u hu
 rwa [add_o] at this
structure XF (w : World) (g : Nat) (x : D.Wt) : Prop where
 all : xS.rd w ⟨g, 0, none⟩ = some x
 k : kS.rd w ⟨g, 0, none⟩ = some x.k
 d : w.cell? ⟨g, 25, none⟩ = some (.bool x.d)
 r : rSh.rd w ⟨g, 26, none⟩ = some x.r
 kk : w.cell? ⟨g, 0, none⟩ = some (.int .u8 (x.k.k : Nat))
 ka : w.cell? ⟨g, 2, none⟩ = some (.int .u8 (x.k.a : Nat))
 rk : w.cell? ⟨g, 26, none⟩ = some (.int .u8 (x.r.k : Nat))
 ra : w.cell? ⟨g, 33, none⟩ = some (.int .u64 (x.r.a : Nat))
theorem XF.of {w : World} {g : Nat} {x : D.Wt} (h : xS.rd w ⟨g, 0, none⟩ = some x) : XF w g x := by
 obtain ⟨q1, q2, q3⟩ := xf h
 have k0 := kf0 q1
 rw [Nat.zero_add] at q2 q3
 exact ⟨h, q1, q2, q3, k0.1, k0.2.2.1, rfo q3 (j := 0) rfl, rfo q3 (j := 7) rfl⟩
theorem XF.on {w w' : World} {g : Nat} {x : D.Wt} (h : XF w g x) (hb : Below w.heap.size w w') : XF w' g x := .of (Shp.rd_on h.all hb)
set_option maxHeartbeats 4000000 in
theorem weighs_any (hR : KRt) (x : D.Wt) (w : World) (hw : x.r.wf) : Calls Tryz.prog 44 #[.agg (xS.v x)] w fun e w' => e = .returned (.int .i64 (D.wwg x : Nat)) ∧ Below w.heap.size w w' := by
 have q0 := Shp.rd_new (S := xS) w w.heap.size 77 x rfl
 have b0 := below_alloc_ w (.cells (xS.v x) 77)
 obtain ⟨w0, hw0⟩ : ∃ w0, w.alloc (.cells (xS.v x) 77) = w0 := ⟨_, rfl⟩
 rw [hw0] at q0 b0
 have F0 := XF.of q0
 have HF := Lib.hid F0
 have c1 := F0.k
 have CR := Lib.hid (hR x.k)
 have CC := Lib.hid (fun W => check_any x.r W hw)
 clear q0 F0
 by_cases hk : D.kright x.k = true
 ·rw [hk] at CR
  cases hd : x.d with
  | true =>
   by_cases hr : x.r = D.zRc
   ·have e : D.wwg x = 0 := by unfold D.wwg; rw [if_neg (by simp [hk, hr]), if_pos hd]
    have hde : decide (x.r = D.zRc) = true := decide_eq_true hr
    rw [e]
    clear hr e
    go_enter Tryz.func44, Tryz.ntmps44
    go_wp2_with fail
    try rw [hw0]
    clear hw0
    go_wp2_with (go_at_call 82; (with_reducible refine (CR.out _).mono ?_); rintro e w1 ⟨rfl, b1⟩; have F1 := HF.out.on b1; have c2 := F1.d; have c3 := F1.r; rw [hd] at c2)
    go_ret
    exact ⟨rfl, below_up b0 b0.size b1⟩
   ·have e : D.wwg x = 3 := by unfold D.wwg; rw [if_pos (.inr ⟨hd, hr⟩)]
    have hde : decide (x.r = D.zRc) = false := decide_eq_false hr
    rw [e]
    clear hr e
    go_enter Tryz.func44, Tryz.ntmps44
    go_wp2_with fail
    try rw [hw0]
    clear hw0
    go_wp2_with (go_at_call 82; (with_reducible refine (CR.out _).mono ?_); rintro e w1 ⟨rfl, b1⟩; have F1 := HF.out.on b1; have c2 := F1.d; have c3 := F1.r; rw [hd] at c2)
    go_ret
    exact ⟨rfl, below_up b0 b0.size b1⟩
  | false =>
   obtain ⟨ch, hch⟩ : ∃ ch, D.chk x.r = ch := ⟨_, rfl⟩
   have e : D.wwg x = if ch ≠ 0 then ch else if x.r.k ≠ x.k.k then 16 else 0 := by unfold D.wwg; rw [if_neg (by simp [hk, hd]), if_neg (by simp [hd]), hch]
   rw [e]
   rw [hch] at CC
   clear e hch
   by_cases h0 : ch = 0
   ·subst h0
    rw [if_neg (by simp)]
    by_cases hkk : x.r.k = x.k.k
    ·rw [if_neg (by simp [hkk])]
     have hi : ((x.r.k : Int) == (x.k.k : Int)) = true := by simp [hkk]
     have hi2 : ((x.r.k : Int) != (x.k.k : Int)) = false := by simp [hkk]
     go_enter Tryz.func44, Tryz.ntmps44
     go_wp2_with fail
     try rw [hw0]
     clear hw0
     go_wp2_with (first
      | (go_at_call 82; (with_reducible refine (CR.out _).mono ?_); rintro e w1 ⟨rfl, b1⟩; have F1 := HF.out.on b1; have c2 := F1.d; have c3 := F1.r; rw [hd] at c2)
      | (go_at_call 83; (with_reducible refine (CC.out _).mono ?_); rintro e w2 ⟨rfl, b2⟩; have F2 := F1.on b2; have c4 := F2.rk; have c5 := F2.kk))
     go_ret
     exact ⟨rfl, below_up (below_up b0 b0.size b1) (below_up b0 b0.size b1).size b2⟩
    ·rw [if_pos hkk]
     have hi : ((x.r.k : Int) == (x.k.k : Int)) = false := by simp; omega
     have hi2 : ((x.r.k : Int) != (x.k.k : Int)) = true := by simp; omega
     go_enter Tryz.func44, Tryz.ntmps44
     go_wp2_with fail
     try rw [hw0]
     clear hw0
     go_wp2_with (first
      | (go_at_call 82; (with_reducible refine (CR.out _).mono ?_); rintro e w1 ⟨rfl, b1⟩; have F1 := HF.out.on b1; have c2 := F1.d; have c3 := F1.r; rw [hd] at c2)
      | (go_at_call 83; (with_reducible refine (CC.out _).mono ?_); rintro e w2 ⟨rfl, b2⟩; have F2 := F1.on b2; have c4 := F2.rk; have c5 := F2.kk))
     go_ret
     exact ⟨rfl, below_up (below_up b0 b0.size b1) (below_up b0 b0.size b1).size b2⟩
   ·rw [if_pos h0]
    have hi : ((ch : Int) == 0) = false := by simp; omega
    go_enter Tryz.func44, Tryz.ntmps44
    go_wp2_with fail
    try rw [hw0]
    clear hw0
    go_wp2_with (first
      | (go_at_call 82; (with_reducible refine (CR.out _).mono ?_); rintro e w1 ⟨rfl, b1⟩; have F1 := HF.out.on b1; have c2 := F1.d; have c3 := F1.r; rw [hd] at c2)
      | (go_at_call 83; (with_reducible refine (CC.out _).mono ?_); rintro e w2 ⟨rfl, b2⟩))
    go_ret
    exact ⟨rfl, below_up (below_up b0 b0.size b1) (below_up b0 b0.size b1).size b2⟩
 ·have e : D.wwg x = 3 := by unfold D.wwg; rw [if_pos (.inl (by simpa using hk))]
  rw [e]
  have hk : D.kright x.k = false := by simpa using hk
  rw [hk] at CR
  go_enter Tryz.func44, Tryz.ntmps44
  go_wp2_with fail
  try rw [hw0]
  clear hw0
  go_wp2_with (go_at_call 82; (with_reducible refine (CR.out _).mono ?_); rintro e w1 ⟨rfl, b1⟩)
  go_ret
  exact ⟨rfl, below_up b0 b0.size b1⟩
theorem D.wck_next {l : List D.Wt} {j : Nat} {x : D.Wt} (h : l[j]? = some x) (ks : List D.Ky) : D.wck ks (l.drop j) = if D.wwg x ≠ 0 then D.wwg x else if x.k ∈ ks then 8 else D.wck (ks ++ [x.k]) (l.drop (j + 1)) := by
 obtain ⟨hj, rfl⟩ := List.getElem?_eq_some_iff.1 h
 rw [List.drop_eq_getElem_cons hj, D.wck]
set_option maxHeartbeats 8000000 in
theorem scheck_any (hR : KRt) {w : World} {A : Option Addr} {n c : Nat} {l : List D.Wt} (hr : Shp.Row xS w A n l) (hw : ∀ x ∈ l, x.r.wf) (hn : n ≤ maxLen) : Calls Tryz.prog 10 #[.slice A n c] w fun e w' => e = .returned (.int .i64 (D.sck l : Nat)) ∧ Below w.heap.size w w' := by
 have hlen := hr.len
 have hn63 : n ≤ 9223372036854775807 := by simp only [maxLen] at hn; omega
 clear hn
 by_cases h0 : n = 0
 ·have e : D.sck l = 1 := by unfold D.sck; rw [if_pos (by omega)]
  rw [e]
  subst h0
  clear hr e
  go_enter Tryz.func10, Tryz.ntmps10
  go_wp2
  go_ret
  exact ⟨rfl, Below.refl _ _⟩
 ·have i0 : ¬ ((n : Int) = 0) := by omega
  by_cases h16 : 16 < n
  ·have e : D.sck l = 2 := by unfold D.sck; rw [if_neg (by omega), if_pos (by omega)]
   rw [e]
   have i1 : (16 : Int) < (n : Int) := by omega
   clear hr e
   go_enter Tryz.func10, Tryz.ntmps10
   go_wp2
   go_ret
   exact ⟨rfl, Below.refl _ _⟩
  ·have e : D.sck l = D.wck [] l := by unfold D.sck; rw [if_neg (by omega), if_neg (by omega)]
   rw [e]
   have i1 : ¬ ((16 : Int) < (n : Int)) := by omega
   have HL := Lib.hid hlen
   have HR := Lib.hid hr
   have HW := Lib.hid hw
   have hmm := @run_makeMap Tryz.prog
   have hC0 := Lib.hid (kc_new w)
   clear hlen hr hw e
   go_enter Tryz.func10, Tryz.ntmps10
   go_wp2
   clear hmm
   go_loopw [18] (fun i wr => ∃ j : Nat, j ≤ n ∧ i = .int .i64 j ∧ KcAt wr w.heap.size ((l.take j).map (·.k)) ∧ Below w.heap.size w wr ∧ Kept (D.wck [] l = D.wck ((l.take j).map (·.k)) (l.drop j))) (fun i _ => n - (intOf i).toNat)
   case atStart => exact ⟨0, Nat.zero_le _, rfl, hC0.out, below_alloc_ _ _, ⟨by simp⟩⟩
   case round =>
    obtain ⟨j, hj, rfl, hc, hb, HE⟩ := hrel
    have HC := Lib.hid hc
    have HB := Lib.hid hb
    clear hc hb hC0
    by_cases hlt : j < n
    ·obtain ⟨x, hx⟩ : ∃ x, l[j]? = some x := ⟨_, List.getElem?_eq_getElem (by rw [HL.out]; exact hlt)⟩
     obtain ⟨ad, rfl, hal, hrd⟩ := (HR.out.on HB.out).rd hx
     have hrd : xS.rd wr (ad.add (j * 35)) = some x := hrd
     have HN := D.wck_next hx ((l.take j).map (·.k))
     have HT := Lib.hid (show (l.take (j + 1)).map (·.k) = (l.take j).map (·.k) ++ [x.k] by rw [stk_next hx]; simp)
     have hwx := HW.out x (List.mem_of_getElem? hx)
     have HKl : ((l.take j).map (·.k)).length ≤ 1000 := by simp; omega
     have CW := Lib.hid (fun W => weighs_any hR x W hwx)
     obtain ⟨K, hK⟩ : ∃ K, (l.take j).map (·.k) = K := ⟨_, rfl⟩
     rw [hK] at HC HN HKl HT HE
     have j1 : (j : Int) < (n : Int) := by omega
     have j0 : (0 : Int) ≤ (j : Int) := by omega
     have F1 := Lib.hid (XF.of (Shp.rd_new (S := xS) wr wr.heap.size 77 x rfl))
     have f1 := F1.out.all
     have bx := below_alloc_ wr (.cells (xS.v x) 77)
     obtain ⟨q, hq⟩ : ∃ q, D.wwg x = q := ⟨_, rfl⟩
     rw [hq] at CW HN
     obtain ⟨w1, hw1⟩ : ∃ w1, wr.alloc (.cells (xS.v x) 77) = w1 := ⟨_, rfl⟩
     rw [hw1] at F1 f1 bx
     clear hx hK hq
     have hend : Hid (D.wck [] l = q ∨ q = 0) := Lib.hid (by
      by_cases h : q = 0
      ·exact .inr h
      ·exact .inl (by rw [HE.out, HN, if_pos h]))
     by_cases hq0 : q = 0
     ·subst hq0
      rw [if_neg (by simp)] at HN
      have hkt := D.kct_pos (l := K) (x := x.k)
      have hkl := D.kct_le K x.k
      go_wp2_with fail
      try rw [hw1]
      clear hw1
      go_wp2_with (go_at_call 44; (with_reducible refine (CW.out _).mono ?_); rintro e w2 ⟨rfl, b2⟩)
      have C2 := HC.out.on (below_up bx bx.size b2)
      have F2 := F1.out.on b2
      have B2 := below_up HB.out HB.out.size (below_up bx bx.size b2)
      have hlk := C2.drew.look x.k
      obtain ⟨st, w3, w4, hE, hL1, hS, hC4, hg4, hg3⟩ := C2.drew.more HKl x.k
      have e0 : goInt st = .int .i64 (st : Int) := rfl
      rw [e0] at hE hS
      have f3 : kS.rd w2.drew ⟨wr.heap.size, 0, none⟩ = some x.k := F2.k
      have hne : wr.heap.size ≠ w.heap.size := by have := HC.out.lt; omega
      have F4 : Hid (xS.rd w4 ⟨wr.heap.size, 0, none⟩ = some x) := Lib.hid ((Shp.rd_to (hg4.block wr.heap.size (Shp.rd_lt F2.all) (by intro e; injection e with e; exact hne e))).trans F2.all)
      have B4 : Hid (Below w.heap.size w w4) := Lib.hid ⟨hg4.os.trans B2.os, hg4.tape.trans B2.tape, hg4.output.trans B2.output, Nat.le_trans B2.size hg4.size, fun i hi => (hg4.block i (Nat.lt_of_lt_of_le hi B2.size) (by intro e; injection e with e; omega)).trans (B2.block i hi)⟩
      have H4 := Lib.hid hC4
      have HB2 := Lib.hid B2
      clear C2 F2 B2 hC4 hg4 hg3 f1 hrd CW
      obtain ⟨m, hm⟩ : ∃ m, D.kct K x.k = m := ⟨_, rfl⟩
      rw [hm] at hlk hE hL1 hS hkt hkl
      have f4 := (XF.of F4.out).k
      have hlk4 := H4.out.look x.k
      rw [D.kct_snoc, if_pos rfl, hm] at hlk4
      have e1 : ((m + 1 : Nat) : Int) = (m : Int) + 1 := by omega
      rw [e1] at hlk4
      clear hm e1
      by_cases hmem : x.k ∈ K
      ·rw [if_pos hmem] at HN
       have hm1 : ¬ ((m : Int) + 1 ≤ 1) := by have := hkt.2 hmem; omega
       have HX : Kept (D.wck [] l = 8) := ⟨HE.out.trans HN⟩
       clear hmem HN hkt
       go_region
       all_goals
        go_wp2
        go_ret
        exact ⟨by rw [HX.out]; rfl, B4.out⟩
      ·rw [if_neg hmem] at HN
       have hm1 : (m : Int) + 1 ≤ 1 := by
        rcases Nat.eq_zero_or_pos m with h | h
        ·omega
        ·exact absurd (hkt.1 h) hmem
       have HX : Kept (D.wck [] l = D.wck (K ++ [x.k]) (l.drop (j + 1))) := ⟨HE.out.trans HN⟩
       clear hmem HN hkt
       go_region
       all_goals
        go_wp2
        go_roundw
        case rel => exact ⟨j + 1, by omega, by go_num, by rw [HT.out]; exact H4.out, B4.out, by rw [HT.out]; exact HX⟩
        case measure => simp [intOf]; omega
     ·have HX : Kept (D.wck [] l = q) := ⟨by rcases hend.out with h | h; exact h; exact absurd h hq0⟩
      have hqi : ((q : Int) == 0) = false := by simp; omega
      clear HN
      go_wp2_with fail
      try rw [hw1]
      clear hw1
      go_wp2_with (go_at_call 44; (with_reducible refine (CW.out _).mono ?_); rintro e w2 ⟨rfl, b2⟩)
      go_ret
      exact ⟨by rw [HX.out]; rfl, below_up HB.out HB.out.size (below_up bx bx.size b2)⟩
    ·obtain rfl : n = j := by omega
     have HX : Kept (D.wck [] l = 0) := ⟨by rw [HE.out, ← HL.out, List.drop_length]; rfl⟩
     go_wp2
     go_ret
     exact ⟨by rw [HX.out]; rfl, HB.out⟩
theorem D.Sm.live_le (M : D.Sm) : M.live ≤ M.ks.length := List.countP_le_length
theorem D.grw_bd (M : D.Sm) (hk : M.ks.length ≤ 1000) (l : List D.Wt) : -(l.length : Int) ≤ D.grw M l ∧ D.grw M l ≤ 1000 + l.length := by
 have h1 := M.live_le
 have h2 := D.grs_bd M l
 rw [D.grw_eq]
 omega
set_option maxHeartbeats 8000000 in
theorem sgrown_any {base s : Nat} {w : World} {M : D.Sm} (hS : SM base w s M) (hl : M.last ≤ 1000) (hk : M.ks.length ≤ 1000) {A : Option Addr} {n c : Nat} {l : List D.Wt} (hr : Shp.Row xS w A n l) (hn : n ≤ 1000) : Calls Tryz.prog 53 #[.pointer (some ⟨s, 0, none⟩), .slice A n c] w fun e w' => e = .returned (.int .i64 (D.grw M l)) ∧ Below w.heap.size w w' := by
 have hlen : Kept (l.length = n) := ⟨hr.len⟩
 have HR := Lib.hid hr
 have HS := Lib.hid (SO.of hS)
 obtain ⟨g, o, q, hC⟩ := hS
 have c0 := hC.blk.c 2
 simp only [List.getElem?_toArray, List.getElem?_cons_succ, List.getElem?_cons_zero] at c0
 have HB := Lib.hid (D.grw_bd M hk)
 clear hC hr hk
 go_enter Tryz.func53, Tryz.ntmps53
 go_wp2_with fail
 clear c0
 go_loopw [5, 15] (fun m i wr => ∃ j : Nat, j ≤ n ∧ i = .int .i64 j ∧ m = .int .i64 (D.grw M (l.take j)) ∧ Hid (Below w.heap.size w wr) ∧ Kept (-(j : Int) ≤ D.grw M (l.take j) ∧ D.grw M (l.take j) ≤ 1000 + j)) (fun _ i _ => n - (intOf i).toNat)
 case atStart => exact ⟨0, Nat.zero_le _, rfl, rfl, Lib.hid (Below.refl _ _), ⟨by have := HB.out []; simpa using this⟩⟩
 case round =>
  obtain ⟨j, hj, rfl, rfl, hb, hbn⟩ := hrel
  by_cases hlt : j < n
  ·obtain ⟨x, hx⟩ : ∃ x, l[j]? = some x := ⟨_, List.getElem?_eq_getElem (by rw [hlen.out]; exact hlt)⟩
   obtain ⟨ad, rfl, hal, hrd⟩ := (HR.out.on hb.out).rd hx
   have hrd : xS.rd wr (ad.add (j * 35)) = some x := hrd
   have j1 : (j : Int) < (n : Int) := by omega
   have j0 : (0 : Int) ≤ (j : Int) := by omega
   have hT := Lib.hid (stk_next hx)
   have HBN : Kept (-((j + 1 : Nat) : Int) ≤ D.grw M (l.take (j + 1)) ∧ D.grw M (l.take (j + 1)) ≤ 1000 + ((j + 1 : Nat) : Int)) := ⟨by
    have := HB.out (l.take (j + 1))
    have h2 : (l.take (j + 1)).length ≤ j + 1 := by simp; omega
    omega⟩
   have CO := Lib.hid (fun W (hW : Below w.heap.size w W) => of_key (HS.out.on hW) hl x.k)
   have F1 := Lib.hid (XF.of (Shp.rd_new (S := xS) wr wr.heap.size 77 x rfl))
   have f1 := F1.out.k
   have bx := below_alloc_ wr (.cells (xS.v x) 77)
   obtain ⟨w1, hw1⟩ : ∃ w1, wr.alloc (.cells (xS.v x) 77) = w1 := ⟨_, rfl⟩
   rw [hw1] at F1 f1 bx
   obtain ⟨m, hm⟩ : ∃ m, D.grw M (l.take j) = m := ⟨_, rfl⟩
   have hbm : -1000 ≤ m ∧ m ≤ 2000 := by have := hbn.out; rw [hm] at this; omega
   obtain ⟨hb1, hb2⟩ := hbm
   rw [hm]
   by_cases hcase : (D.liv (M.f x.k) = true ∧ x.d = true)
   ·have HLV : Hid (D.liv (M.f x.k) = true) := Lib.hid hcase.1
    have HD : Hid (x.d = true) := Lib.hid hcase.2
    have hdl : D.dlt M x = -1 := by
     unfold D.dlt
     rw [show D.lvn (M.f x.k) = D.liv (M.f x.k) from rfl, hcase.1, hcase.2]
     rfl
    have HG : Kept (D.grw M (l.take (j + 1)) = m - 1) := ⟨by rw [hT.out, D.grw_snoc, hm, hdl] <;> omega⟩
    clear hcase hdl
    go_wp2_with fail
    try rw [hw1]
    clear hw1
    go_wp2_with (first
     | (go_at_call 73; (refine (CO.out _ (below_up hb.out hb.out.size bx)).mono ?_); rintro e w2 ⟨c2, A2, n2, d2, rfl, hA2, hv3, b2, -⟩; have CL := Lib.hid (live_any hA2 hv3); have F2 := F1.out.on b2; have c25 := F2.d; rw [HLV.out] at CL; rw [HD.out] at c25)
     | (go_at_call 91; (with_reducible refine CL.out.mono ?_); rintro e w3 ⟨rfl, b3⟩; have F3 := F2.on b3; have c25' := F3.d; rw [HD.out] at c25'))
    go_roundw
    case rel => exact ⟨j + 1, by omega, by go_num, by rw [HG.out] <;> go_num, Lib.hid (below_up (below_up (below_up hb.out hb.out.size bx) (below_up hb.out hb.out.size bx).size b2) (below_up (below_up hb.out hb.out.size bx) (below_up hb.out hb.out.size bx).size b2).size b3), HBN⟩
    case measure => simp [intOf]; omega
   by_cases hcase : (D.liv (M.f x.k) = true ∧ x.d = false)
   ·have HLV : Hid (D.liv (M.f x.k) = true) := Lib.hid hcase.1
    have HD : Hid (x.d = false) := Lib.hid hcase.2
    have hdl : D.dlt M x = 0 := by
     unfold D.dlt
     rw [show D.lvn (M.f x.k) = D.liv (M.f x.k) from rfl, hcase.1, hcase.2]
     rfl
    have HG : Kept (D.grw M (l.take (j + 1)) = m + 0) := ⟨by rw [hT.out, D.grw_snoc, hm, hdl] <;> omega⟩
    clear hcase hdl
    go_wp2_with fail
    try rw [hw1]
    clear hw1
    go_wp2_with (first
     | (go_at_call 73; (refine (CO.out _ (below_up hb.out hb.out.size bx)).mono ?_); rintro e w2 ⟨c2, A2, n2, d2, rfl, hA2, hv3, b2, -⟩; have CL := Lib.hid (live_any hA2 hv3); have F2 := F1.out.on b2; have c25 := F2.d; rw [HLV.out] at CL; rw [HD.out] at c25)
     | (go_at_call 91; (with_reducible refine CL.out.mono ?_); rintro e w3 ⟨rfl, b3⟩; have F3 := F2.on b3; have c25' := F3.d; rw [HD.out] at c25'))
    go_roundw
    case rel => exact ⟨j + 1, by omega, by go_num, by rw [HG.out, Int.add_zero], Lib.hid (below_up (below_up (below_up hb.out hb.out.size bx) (below_up hb.out hb.out.size bx).size b2) (below_up (below_up hb.out hb.out.size bx) (below_up hb.out hb.out.size bx).size b2).size b3), HBN⟩
    case measure => simp [intOf]; omega
   by_cases hcase : (D.liv (M.f x.k) = false ∧ x.d = true)
   ·have HLV : Hid (D.liv (M.f x.k) = false) := Lib.hid hcase.1
    have HD : Hid (x.d = true) := Lib.hid hcase.2
    have hdl : D.dlt M x = 0 := by
     unfold D.dlt
     rw [show D.lvn (M.f x.k) = D.liv (M.f x.k) from rfl, hcase.1, hcase.2]
     rfl
    have HG : Kept (D.grw M (l.take (j + 1)) = m + 0) := ⟨by rw [hT.out, D.grw_snoc, hm, hdl] <;> omega⟩
    clear hcase hdl
    go_wp2_with fail
    try rw [hw1]
    clear hw1
    go_wp2_with (first
     | (go_at_call 73; (refine (CO.out _ (below_up hb.out hb.out.size bx)).mono ?_); rintro e w2 ⟨c2, A2, n2, d2, rfl, hA2, hv3, b2, -⟩; have CL := Lib.hid (live_any hA2 hv3); have F2 := F1.out.on b2; have c25 := F2.d; rw [HLV.out] at CL; rw [HD.out] at c25)
     | (go_at_call 91; (with_reducible refine CL.out.mono ?_); rintro e w3 ⟨rfl, b3⟩; have F3 := F2.on b3; have c25' := F3.d; rw [HD.out] at c25'))
    go_roundw
    case rel => exact ⟨j + 1, by omega, by go_num, by rw [HG.out, Int.add_zero], Lib.hid (below_up (below_up (below_up hb.out hb.out.size bx) (below_up hb.out hb.out.size bx).size b2) (below_up (below_up hb.out hb.out.size bx) (below_up hb.out hb.out.size bx).size b2).size b3), HBN⟩
    case measure => simp [intOf]; omega
   by_cases hcase : (D.liv (M.f x.k) = false ∧ x.d = false)
   ·have HLV : Hid (D.liv (M.f x.k) = false) := Lib.hid hcase.1
    have HD : Hid (x.d = false) := Lib.hid hcase.2
    have hdl : D.dlt M x = 1 := by
     unfold D.dlt
     rw [show D.lvn (M.f x.k) = D.liv (M.f x.k) from rfl, hcase.1, hcase.2]
     rfl
    have HG : Kept (D.grw M (l.take (j + 1)) = m + 1) := ⟨by rw [hT.out, D.grw_snoc, hm, hdl] <;> omega⟩
    clear hcase hdl
    go_wp2_with fail
    try rw [hw1]
    clear hw1
    go_wp2_with (first
     | (go_at_call 73; (refine (CO.out _ (below_up hb.out hb.out.size bx)).mono ?_); rintro e w2 ⟨c2, A2, n2, d2, rfl, hA2, hv3, b2, -⟩; have CL := Lib.hid (live_any hA2 hv3); have F2 := F1.out.on b2; have c25 := F2.d; rw [HLV.out] at CL; rw [HD.out] at c25)
     | (go_at_call 91; (with_reducible refine CL.out.mono ?_); rintro e w3 ⟨rfl, b3⟩; have F3 := F2.on b3; have c25' := F3.d; rw [HD.out] at c25'))
    go_roundw
    case rel => exact ⟨j + 1, by omega, by go_num, by rw [HG.out] <;> go_num, Lib.hid (below_up (below_up (below_up hb.out hb.out.size bx) (below_up hb.out hb.out.size bx).size b2) (below_up (below_up hb.out hb.out.size bx) (below_up hb.out hb.out.size bx).size b2).size b3), HBN⟩
    case measure => simp [intOf]; omega
   exfalso
   rename_i h1 h2 h3 h4
   cases hq : D.liv (M.f x.k) <;> cases hd : x.d <;> simp_all
  ·obtain rfl : n = j := by omega
   have hT := Lib.hid (show l.take n = l by rw [← hlen.out]; exact List.take_length)
   go_wp2
   go_ret
   exact ⟨by rw [hT.out]; rfl, hb.out⟩
theorem sroom_any {base s : Nat} {w : World} {M : D.Sm} (hS : SM base w s M) (hl : M.last ≤ 1000) (hk : M.ks.length ≤ 1000) {A : Option Addr} {n c : Nat} {l : List D.Wt} (hr : Shp.Row xS w A n l) (hn : n ≤ 1000) : Calls Tryz.prog 52 #[.pointer (some ⟨s, 0, none⟩), .slice A n c] w fun e w' => e = .returned (.int .i64 (if 200 < D.grw M l then 6 else 0)) ∧ Below w.heap.size w w' := by
 have CG := Lib.hid (sgrown_any (c := c) hS hl hk hr hn)
 clear hS hr
 obtain ⟨m, hm⟩ : ∃ m, D.grw M l = m := ⟨_, rfl⟩
 rw [hm] at CG ⊢
 by_cases h : 200 < m
 ·rw [if_pos h]
  go_enter Tryz.func52, Tryz.ntmps52
  go_wp2_with (go_at_call 53; (with_reducible refine CG.out.mono ?_); rintro e w2 ⟨rfl, b2⟩)
  go_ret
  exact ⟨rfl, b2⟩
 ·rw [if_neg h]
  go_enter Tryz.func52, Tryz.ntmps52
  go_wp2_with (go_at_call 53; (with_reducible refine CG.out.mono ?_); rintro e w2 ⟨rfl, b2⟩)
  go_ret
  exact ⟨rfl, b2⟩
end Go.Proofs.YtjlaffgbmcpldaaGreatDoor
