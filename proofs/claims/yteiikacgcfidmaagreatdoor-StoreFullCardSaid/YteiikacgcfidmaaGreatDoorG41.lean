/-
  The key of a text: Parse.
  What a law of keys is told of the library's variables: the way from its row to its call, with the world's shape.
  StoreFull, with what the library's variables hold.
-/
import Derived.Test.YteiikacgcfidmaaGreatDoorG04
import Derived.Test.YteiikacgcfidmaaGreatDoorG40
import Derived.Test.YteiikacgcfidmaaGreatDoorG11
import Derived.Deep.Light
import Derived.Sort.Grow
import Derived.Test.YteiikacgcfidmaaGreatDoorG10
import Derived.Test.YteiikacgcfidmaaGreatDoorG39
import Derived.Handed
import Derived.HandedShaped
import Derived.ProofKit
import Derived.LaidMore
import Derived.Shelf.Vars
set_option linter.unusedVariables false
set_option linter.unusedSimpArgs false
set_option maxRecDepth 100000
namespace Go.Proofs.YteiikacgcfidmaaGreatDoor
open Go.RowKit
attribute [local go_sem ↓] Go.wp_at_zero Go.wp_at_succ ld_k lv_k st_k eq_k ne_k bd_k ld_b lv_b st_b eq_b ne_b bd_25 ld_r lv_r st_rk eq_rk ne_rk bd_r ld_p lv_p st_px bd_p Nm.ld_a Nm.ld_n Nm.st_a Nm.st_n Nm.eq_a Nm.eq_n Nm.ne_a Nm.ne_n Nm.lv_a Nm.lv_n ld_a ld_n st_a st_n eq_a eq_n ne_a ne_n lv_a lv_n
attribute [local go_sem] run_ldk run_lvk run_stk run_eqk run_nek run_bdk_z run_ldb run_lvb run_stb run_eqb run_neb run_ldr run_lvr run_strk run_eqrk run_nerk run_bdr_z run_ldp run_lvp run_stpx Nm.run_ld_a Nm.run_ld_n Nm.run_st_n Nm.run_eq_a Nm.run_eq_n Nm.run_ne_a Nm.run_ne_n Nm.run_lv_a Nm.run_lv_n Nm.rd_new Nm.rd_old Nm.rd_drew Nm.rd_drewN run_ld_a run_ld_n run_sw_a run_sw_n run_eq_a run_eq_n run_ne_a run_ne_n run_lv_a run_lv_n st_z ne_z eq_z rd_new rd_old rd_drew rd_drewN Shp.rd_new Shp.rd_old Shp.rd_drew Shp.rd_drewN Shp.rd_set Shp.tn_new Shp.tn_old Shp.tn_drew Shp.tn_drewN tn_new tn_old tn_drew tn_drewN rd_set setRow_alloc run_stn3 run_stt15

theorem toList_inj' {a b : ByteArray} (h : a.toList = b.toList) : a = b := by
  rw [ByteArray.toList_eq, ByteArray.toList_eq] at h
  obtain ⟨⟨x⟩⟩ := a
  obtain ⟨⟨y⟩⟩ := b
  simp at h
  rw [h]
theorem spk_size {s : ByteArray} (hs : s.size ≤ 100) {xs : List ByteArray} (h : xs.map D.ns = D.spk 5 (D.ns s)) : ∀ x ∈ xs, x.size ≤ 100 := fun x hx => by
  have := D.spk_len 5 (D.ns s) (D.ns x) (by rw [← h]; exact List.mem_map_of_mem hx)
  rw [D.ns_len, D.ns_len] at this
  omega
theorem ksplit_key (s : ByteArray) (w : World) (hs : s.size ≤ 100) :
    Calls Tryz.prog 43 #[.string s, .string slash, .int .i64 6] w fun e w' => ∃ (x0 : ByteArray) (q : List ByteArray) (N : Nat), e = .returned (.slice (some ⟨w.heap.size, 0, none⟩) (q.length + 1) (N + 1)) ∧ q.length ≤ N ∧ w.heap.size < w'.heap.size ∧ Below w.heap.size w w' ∧ Row w' (some ⟨w.heap.size, 0, none⟩) (q.length + 1) (.string x0 :: q.map Value.string) ∧ Kept (D.spk 5 (D.ns s) = D.ns x0 :: q.map D.ns) ∧ x0.size ≤ 100 ∧ Shrt q := by
  refine (ksplit_any s w hs).mono fun e w' ⟨xs, N, h1, h2, h3, he, hw⟩ => ?_
  have hpl := spk_size hs h1
  have hc := D.spk_cnt 5 (D.ns s)
  cases xs with
  | nil => rw [← h1] at hc; simp at hc
  | cons x0 xs =>
    have hr := cells_row w (x0 :: xs) N h2 9
    simp only [List.length_cons] at h2
    refine ⟨x0, xs, N - 1, ?_, by omega, ?_, ?_, ?_, ⟨h1.symm⟩, hpl x0 (by simp), ⟨fun x hx => hpl x (by simp [hx])⟩⟩
    · rw [he, show N - 1 + 1 = N by omega]; rfl
    · rw [hw]; simp
    · rw [hw]; exact below_alloc_ _ _
    · rw [hw]; exact hr
theorem kparse_of {s x0 : ByteArray} {q : List ByteArray} (h : D.spk 5 (D.ns s) = D.ns x0 :: q.map D.ns) : D.kparse s = if (D.spld x0 q).2 = 0 ∧ D.ktx (D.spld x0 q).1 = D.ns s then D.spld x0 q else (D.zK, 3) := by
  have e1 : D.sb (D.ns x0) = x0 := D.sb_ns x0
  have e2 : (q.map D.ns).map D.sb = q := by rw [List.map_map]; conv => rhs; rw [← List.map_id q]
                                            exact List.map_congr_left fun x _ => D.sb_ns x
  unfold D.kparse
  rw [h]
  simp only [e1, e2]
theorem from1_blk {A1 : Option Addr} {G : Nat} (h : ∀ b, (∀ ad, (some ⟨G, 0, none⟩ : Option Addr) = some ad → ad.block ≠ b) → ∀ ad, A1 = some ad → ad.block ≠ b) : ∀ ad, A1 = some ad → ad.block = G := fun ad e => by
  by_cases hg : ad.block = G
  · exact hg
  · exact absurd rfl (h ad.block (fun a ha => by injection ha with ha; subst ha; exact fun e => hg e.symm) ad e)

set_option maxHeartbeats 8000000 in
theorem kparse_any (s : ByteArray) (w : World) (hs : s.size ≤ 100) (hE : Env w) :
    Calls Tryz.prog 22 #[.string s] w fun e w' => e = .returned (.tuple #[.agg (kS.v (D.kparse s).1), .int .i64 (D.kparse s).2]) ∧ Below w.heap.size w w' := by
  have CS := Lib.hid (fun w => ksplit_key s w hs)
  have tk := Shp.tn_new 25 w _ 39 z25 rfl rfl
  have zz := below_alloc_ w (.cells z25 39)
  obtain ⟨W0, hW0⟩ : ∃ W, w.alloc (.cells z25 39) = W := ⟨_, rfl⟩
  rw [hW0] at tk zz
  unfold z25 at hW0
  have E0 := hE.on zz
  go_enter Tryz.func22, Tryz.ntmps22
  go_wp2_with fail
  try rw [hW0]
  clear hW0
  go_wp2_with (go_at_call 43; (with_reducible refine (CS.out _).mono ?_); rintro e W ⟨x0, q, N, rfl, hqN, hlt, b1, hr, HK, hx0, hsh⟩)
  have tW := Shp.tn_on tk b1
  have zW := below_up zz zz.size b1
  have EW := E0.on b1
  obtain ⟨G, hG⟩ : ∃ G, W0.heap.size = G := ⟨_, rfl⟩
  rw [hG] at hr hlt
  rw [hG]
  obtain ⟨ad, had, hx⟩ := hr.cell (k := 0) (u := .string x0) rfl
  injection had with had
  subst had
  rw [add_zero_] at hx
  obtain ⟨A1, e1, e2, e3⟩ := from1_s (some ⟨G, 0, none⟩) q.length N hqN
  have hA1 := from1_blk e3
  have hr1 := e2 W (.string x0) (q.map Value.string) hr
  clear e2 e3 hr CS tk b1 E0 hE zz
  have hq1 : (0 : Int) < (q.length : Int) + 1 := by omega
  obtain ⟨⟨y, er⟩, hy⟩ : ∃ y, D.spld x0 q = y := ⟨_, rfl⟩
  have CK := Lib.hid (fun V (b : Below W.heap.size W V) => (show Calls Tryz.prog 44 #[.string x0, .slice A1 q.length N] V fun e w' => e = .returned (.tuple #[.agg (kS.v y), .int .i64 er]) ∧ Below V.heap.size V w' from by
    have := spelled_key x0 A1 N q V hsh hqN (fun ad e => by rw [hA1 ad e]; exact Nat.lt_of_lt_of_le hlt b.size) (hr1.on b) (EW.on b)
    rwa [hy] at this))
  have zd : Below W.heap.size W W.drew := (Below.refl _ _).drew
  clear hG
  refine wp_region_noPanic ?_
  refine wp_region_held_drew (S := fun V => Below W.heap.size W V) (by kernel_rfl) zd (fun _ => ?_)
  refine takeS 0 (some 10) ?va0 (by kernel_rfl) (by kernel_rfl) (by kernel_rfl) (by kernel_rfl) (fun _ _ _ h => h) (by rfl) ?hya0 zd ?resta0
  case hya0 => (intro o ho W hW; simp only [List.getElem?_toArray, List.getElem?_cons_succ, List.getElem?_cons_zero, Option.some.injEq] at ho; subst ho; (try dsimp only at hW); have hxW := cell_kept_ hW hx; go_simp; try rfl)
  try simp only [Act.put, List.setIfInBounds_toArray, List.set_cons_zero, List.set_cons_succ]
  refine takeS 1 (some 11) ?va1 (by kernel_rfl) (by kernel_rfl) (by kernel_rfl) (by kernel_rfl) (fun _ _ _ h => h) (by rfl) ?hya1 zd ?resta1
  case hya1 => (intro o ho W hW; simp only [List.getElem?_toArray, List.getElem?_cons_succ, List.getElem?_cons_zero, Option.some.injEq] at ho; subst ho; (try dsimp only at hW); have hxW := cell_kept_ hW hx; go_simp; try rfl)
  try simp only [Act.put, List.setIfInBounds_toArray, List.set_cons_zero, List.set_cons_succ]
  refine takeS 2 (some 12) ?va2 (by kernel_rfl) (by kernel_rfl) (by kernel_rfl) (by kernel_rfl) (fun _ _ _ h => h) (by rfl) ?hya2 zd ?resta2
  case hya2 => (intro o ho W hW; simp only [List.getElem?_toArray, List.getElem?_cons_succ, List.getElem?_cons_zero, Option.some.injEq] at ho; subst ho; (try dsimp only at hW); have hxW := cell_kept_ hW hx; go_simp; try rfl)
  try simp only [Act.put, List.setIfInBounds_toArray, List.set_cons_zero, List.set_cons_succ]
  refine takeS 3 (some 13) ?va3 (by kernel_rfl) (by kernel_rfl) (by kernel_rfl) (by kernel_rfl) (fun _ _ _ h => h) (by rfl) ?hya3 zd ?resta3
  case hya3 => (intro o ho W hW; simp only [List.getElem?_toArray, List.getElem?_cons_succ, List.getElem?_cons_zero, Option.some.injEq] at ho; subst ho; (try dsimp only at hW); have hxW := cell_kept_ hW hx; go_simp; try rfl)
  try simp only [Act.put, List.setIfInBounds_toArray, List.set_cons_zero, List.set_cons_succ]
  refine takeS 4 (some 14) (.slice A1 q.length N) (by kernel_rfl) (by kernel_rfl) (by kernel_rfl) (by kernel_rfl) (fun _ _ _ h => h) (by rfl) ?hya4 zd ?resta4
  case hya4 => (intro o ho W hW; simp only [List.getElem?_toArray, List.getElem?_cons_succ, List.getElem?_cons_zero, Option.some.injEq] at ho; subst ho; (try dsimp only at hW); have hxW := cell_kept_ hW hx; go_simp; (first | done | rfl | (rw [e1]; rfl) | (simp [e1])))
  try simp only [Act.put, List.setIfInBounds_toArray, List.set_cons_zero, List.set_cons_succ]
  refine forkS 5 9 (by kernel_rfl) (by rfl) (by rfl) (fun o ho K hK => ?_) (fun o ho K hK => ?_)
  · simp only [List.getElem?_toArray, List.getElem?_cons_succ, List.getElem?_cons_zero, Option.some.injEq] at ho; subst ho
    go_simp
    (go_at_call 44; (with_reducible refine (CK.out _ zd).mono ?_); rintro e v1 ⟨rfl, b1⟩)
    have g1 : Below W.heap.size W v1 := below_up zd zd.size b1
    refine hK.out _ _ g1 (fun _ => ?_)
    clear hK K
    try simp only [Act.put, List.setIfInBounds_toArray, List.set_cons_zero, List.set_cons_succ]
    refine takeS 6 (some 9) ?vb6 (by kernel_rfl) (by kernel_rfl) (by kernel_rfl) (by kernel_rfl) (fun _ _ _ h => h) (by rfl) ?hyb6 g1 ?restb6
    case hyb6 => (intro o ho W hW; simp only [List.getElem?_toArray, List.getElem?_cons_succ, List.getElem?_cons_zero, Option.some.injEq] at ho; subst ho; (try dsimp only at hW); skip; go_simp; try rfl)
    try simp only [Act.put, List.setIfInBounds_toArray, List.set_cons_zero, List.set_cons_succ]
    refine takeS 7 (some 16) ?vb7 (by kernel_rfl) (by kernel_rfl) (by kernel_rfl) (by kernel_rfl) (fun _ _ _ h => h) (by rfl) ?hyb7 g1 ?restb7
    case hyb7 => (intro o ho W hW; simp only [List.getElem?_toArray, List.getElem?_cons_succ, List.getElem?_cons_zero, Option.some.injEq] at ho; subst ho; (try dsimp only at hW); skip; go_simp; try rfl)
    try simp only [Act.put, List.setIfInBounds_toArray, List.set_cons_zero, List.set_cons_succ]
    refine takeS 8 (some 17) ?vb8 (by kernel_rfl) (by kernel_rfl) (by kernel_rfl) (by kernel_rfl) (fun _ _ _ h => h) (by rfl) ?hyb8 g1 ?restb8
    case hyb8 => (intro o ho W hW; simp only [List.getElem?_toArray, List.getElem?_cons_succ, List.getElem?_cons_zero, Option.some.injEq] at ho; subst ho; (try dsimp only at hW); skip; go_simp; try rfl)
    try simp only [Act.put, List.setIfInBounds_toArray, List.set_cons_zero, List.set_cons_succ]
    refine nextS 9 (by kernel_rfl) (by rfl) (fun o ho K hK => ?_)
    simp only [List.getElem?_toArray, List.getElem?_cons_succ, List.getElem?_cons_zero, Option.some.injEq] at ho; subst ho
    go_simp
    refine hK.out _ _ (g1.alloc g1.size _) (fun _ => ?_)
    clear hK K
    try simp only [Act.put, List.setIfInBounds_toArray, List.set_cons_zero, List.set_cons_succ]
    refine nextS 10 (by kernel_rfl) (by rfl) (fun o ho K hK => ?_)
    simp only [List.getElem?_toArray, List.getElem?_cons_succ, List.getElem?_cons_zero, Option.some.injEq] at ho; subst ho
    go_simp
    refine hK.out _ _ (g1.alloc g1.size _) (fun _ => ?_)
    clear hK K
    try simp only [Act.put, List.setIfInBounds_toArray, List.set_cons_zero, List.set_cons_succ]
    refine takeS 11 (some 6) ?vc11 (by kernel_rfl) (by kernel_rfl) (by kernel_rfl) (by kernel_rfl) (fun _ _ _ h => h) (by rfl) ?hyc11 (g1.alloc g1.size _) ?restc11
    case hyc11 => (intro o ho W hW; simp only [List.getElem?_toArray, List.getElem?_cons_succ, List.getElem?_cons_zero, Option.some.injEq] at ho; subst ho; (try dsimp only at hW); skip; go_simp; try rfl)
    try simp only [Act.put, List.setIfInBounds_toArray, List.set_cons_zero, List.set_cons_succ]
    refine wpAnyH_done (by kernel_rfl) ?_ _
    refine NoPanic.normal ?_
    have zY := g1.alloc g1.size (.cells (kS.v y) 39)
    have rY := Shp.rd_new (S := kS) v1 _ 39 y rfl
    obtain ⟨V, hV⟩ : ∃ V, v1.alloc (.cells (kS.v y) 39) = V := ⟨_, rfl⟩
    rw [hV] at zY rY
    try rw [hV]
    clear hV
    have tV := Shp.tn_on tW zY
    have zV := below_up zW zW.size zY
    have HKs := HK.out
    have sB : w.heap.size < V.heap.size := Shp.tn_lt tV
    have sY := Shp.rd_lt rY
    simp only at sY
    by_cases he : er = 0
    · subst he
      have cT := ktext_any y
      by_cases ht : D.ktx y = D.ns s
      · have hP : D.kparse s = (y, 0) := by rw [kparse_of HKs, hy, if_pos ⟨rfl, ht⟩]
        have hs' : D.sb (D.ktx y) = s := by rw [ht, D.sb_ns]
        rw [hs'] at cT
        have CT := Lib.hid cT
        have HP := Lib.hid hP
        clear cT hs' ht hP HKs hy CK
        go_wp2_with (go_at_call 45; (with_reducible refine (CT.out _).mono ?_); rintro e v9 ⟨rfl, b9⟩; have rY9 := Shp.rd_on rY b9; have tV9 := Shp.tn_on tV b9)
        have hset := Shp.rd_set (S := kS) v9 w.heap.size y tV9
        have z9 := below_setRow (below_up zV zV.size b9) (Nat.le_refl _) (kS.v y)
        exact bodyPost_ret (v := .tuple #[.agg (kS.v y), .int .i64 0]) (by rw [results_cell_tmp rfl]; simp [asAddr, Result.andThen, lvk_of hset]) rfl ⟨by rw [HP.out], z9⟩
      · have hP : D.kparse s = (D.zK, 3) := by rw [kparse_of HKs, hy, if_neg (fun h => ht h.2)]
        obtain ⟨u, hu⟩ : ∃ u, D.sb (D.ktx y) = u := ⟨_, rfl⟩
        have hne : ¬ u = s := fun h => ht (by rw [← D.ns_sb (D.ktx_lt y), hu, h])
        have hnb : (u.toList == s.toList) = false := by rw [beq_eq_false_iff_ne]; exact fun h => hne (toList_inj' h)
        rw [hu] at cT
        have CT := Lib.hid cT
        have HP := Lib.hid hP
        clear cT hu ht hP HKs hy CK
        go_wp2_with (go_at_call 45; (with_reducible refine (CT.out _).mono ?_); rintro e v9 ⟨rfl, b9⟩; have rY9 := Shp.rd_on rY b9; have tV9 := Shp.tn_on tV b9)
        have hset := Shp.rd_set (S := kS) v9 w.heap.size D.zK tV9
        have z9 := below_setRow (below_up zV zV.size b9) (Nat.le_refl _) (kS.v D.zK)
        exact bodyPost_ret (v := .tuple #[.agg (kS.v D.zK), .int .i64 3]) (by rw [results_cell_tmp rfl]; simp [asAddr, Result.andThen, lvk_of hset]) rfl ⟨by rw [HP.out], z9⟩
    · have hP : D.kparse s = (D.zK, 3) := by rw [kparse_of HKs, hy, if_neg (fun h => he h.1)]
      have HP := Lib.hid hP
      clear hP HKs hy CK
      go_wp2
      have hset := Shp.rd_set (S := kS) V w.heap.size D.zK tV
      have z9 := below_setRow zV (Nat.le_refl _) (kS.v D.zK)
      exact bodyPost_ret (v := .tuple #[.agg (kS.v D.zK), .int .i64 3]) (by rw [results_cell_tmp rfl]; simp [asAddr, Result.andThen, lvk_of hset]) rfl ⟨by rw [HP.out], z9⟩
  · simp only [List.getElem?_toArray, List.getElem?_cons_succ, List.getElem?_cons_zero, Option.some.injEq] at ho; subst ho
    go_simp
    refine hK.out _ _ (zd.alloc zd.size _) (fun _ => ?_)
    clear hK K
    try simp only [Act.put, List.setIfInBounds_toArray, List.set_cons_zero, List.set_cons_succ]
    have zA := zd.alloc zd.size (.cells z25 39)
    have kA := Shp.tn_new 25 W.drew _ 39 z25 rfl rfl
    obtain ⟨V0, hV0⟩ : ∃ V, W.drew.alloc (.cells z25 39) = V := ⟨_, rfl⟩
    rw [hV0] at zA kA
    unfold z25 at hV0
    try rw [hV0]
    have hV1 : (W.alloc (.cells #[.int .u8 0, .int .u8 0, .int .u8 0, .int .u8 0, .int .u8 0, .int .u8 0, .int .u8 0, .int .u8 0, .int .u8 0, .int .u8 0, .int .u8 0, .int .u8 0, .int .u8 0, .int .u8 0, .int .u8 0, .int .u8 0, .int .u8 0, .int .u8 0, .int .u8 0, .int .u8 0, .int .u8 0, .int .u8 0, .int .u8 0, .int .u8 0, .int .u8 0] 39)).drew = V0 := hV0
    try rw [hV1]
    clear hV0 hV1
    have eA : W.drew.heap.size = W.heap.size := rfl
    rw [eA] at kA
    refine nextS 5 (by kernel_rfl) (by rfl) (fun o ho K hK => ?_)
    simp only [List.getElem?_toArray, List.getElem?_cons_succ, List.getElem?_cons_zero, Option.some.injEq] at ho; subst ho
    go_simp
    (go_at_call 44; (with_reducible refine (CK.out _ zA).mono ?_); rintro e v1 ⟨rfl, b1⟩)
    have g1 : Below W.heap.size W v1 := below_up zA zA.size b1
    have k1 := Shp.tn_on kA b1
    refine hK.out _ _ g1 (fun _ => ?_)
    clear hK K
    try simp only [Act.put, List.setIfInBounds_toArray, List.set_cons_zero, List.set_cons_succ]
    refine takeS 6 (some 9) ?vd6 (by kernel_rfl) (by kernel_rfl) (by kernel_rfl) (by kernel_rfl) (fun _ _ _ h => h) (by rfl) ?hyd6 g1 ?restd6
    case hyd6 => (intro o ho W hW; simp only [List.getElem?_toArray, List.getElem?_cons_succ, List.getElem?_cons_zero, Option.some.injEq] at ho; subst ho; (try dsimp only at hW); skip; go_simp; try rfl)
    try simp only [Act.put, List.setIfInBounds_toArray, List.set_cons_zero, List.set_cons_succ]
    refine takeS 7 (some 16) ?vd7 (by kernel_rfl) (by kernel_rfl) (by kernel_rfl) (by kernel_rfl) (fun _ _ _ h => h) (by rfl) ?hyd7 g1 ?restd7
    case hyd7 => (intro o ho W hW; simp only [List.getElem?_toArray, List.getElem?_cons_succ, List.getElem?_cons_zero, Option.some.injEq] at ho; subst ho; (try dsimp only at hW); skip; go_simp; try rfl)
    try simp only [Act.put, List.setIfInBounds_toArray, List.set_cons_zero, List.set_cons_succ]
    refine takeS 8 (some 17) ?vd8 (by kernel_rfl) (by kernel_rfl) (by kernel_rfl) (by kernel_rfl) (fun _ _ _ h => h) (by rfl) ?hyd8 g1 ?restd8
    case hyd8 => (intro o ho W hW; simp only [List.getElem?_toArray, List.getElem?_cons_succ, List.getElem?_cons_zero, Option.some.injEq] at ho; subst ho; (try dsimp only at hW); skip; go_simp; try rfl)
    try simp only [Act.put, List.setIfInBounds_toArray, List.set_cons_zero, List.set_cons_succ]
    have zY := below_setRow g1 (Nat.le_refl _) (kS.v y)
    refine nextS 10 (by kernel_rfl) (by rfl) (fun o ho K hK => ?_)
    simp only [List.getElem?_toArray, List.getElem?_cons_succ, List.getElem?_cons_zero, Option.some.injEq] at ho; subst ho
    go_simp
    refine hK.out _ _ zY (fun _ => ?_)
    clear hK K
    try simp only [Act.put, List.setIfInBounds_toArray, List.set_cons_zero, List.set_cons_succ]
    refine takeS 11 (some 6) ?ve11 (by kernel_rfl) (by kernel_rfl) (by kernel_rfl) (by kernel_rfl) (fun _ _ _ h => h) (by rfl) ?hye11 zY ?reste11
    case hye11 => (intro o ho W hW; simp only [List.getElem?_toArray, List.getElem?_cons_succ, List.getElem?_cons_zero, Option.some.injEq] at ho; subst ho; (try dsimp only at hW); skip; go_simp; try rfl)
    try simp only [Act.put, List.setIfInBounds_toArray, List.set_cons_zero, List.set_cons_succ]
    refine wpAnyH_done (by kernel_rfl) ?_ _
    refine NoPanic.normal ?_
    have rY := Shp.rd_set (S := kS) v1 W.heap.size y k1
    obtain ⟨V, hV⟩ : ∃ V, v1.setRow W.heap.size (kS.v y) = V := ⟨_, rfl⟩
    rw [hV] at zY rY
    try rw [hV]
    clear hV
    have tV := Shp.tn_on tW zY
    have zV := below_up zW zW.size zY
    have HKs := HK.out
    have sB : w.heap.size < V.heap.size := Shp.tn_lt tV
    have sY := Shp.rd_lt rY
    simp only at sY
    by_cases he : er = 0
    · subst he
      have cT := ktext_any y
      by_cases ht : D.ktx y = D.ns s
      · have hP : D.kparse s = (y, 0) := by rw [kparse_of HKs, hy, if_pos ⟨rfl, ht⟩]
        have hs' : D.sb (D.ktx y) = s := by rw [ht, D.sb_ns]
        rw [hs'] at cT
        have CT := Lib.hid cT
        have HP := Lib.hid hP
        clear cT hs' ht hP HKs hy CK
        go_wp2_with (go_at_call 45; (with_reducible refine (CT.out _).mono ?_); rintro e v9 ⟨rfl, b9⟩; have rY9 := Shp.rd_on rY b9; have tV9 := Shp.tn_on tV b9)
        have hset := Shp.rd_set (S := kS) v9 w.heap.size y tV9
        have z9 := below_setRow (below_up zV zV.size b9) (Nat.le_refl _) (kS.v y)
        exact bodyPost_ret (v := .tuple #[.agg (kS.v y), .int .i64 0]) (by rw [results_cell_tmp rfl]; simp [asAddr, Result.andThen, lvk_of hset]) rfl ⟨by rw [HP.out], z9⟩
      · have hP : D.kparse s = (D.zK, 3) := by rw [kparse_of HKs, hy, if_neg (fun h => ht h.2)]
        obtain ⟨u, hu⟩ : ∃ u, D.sb (D.ktx y) = u := ⟨_, rfl⟩
        have hne : ¬ u = s := fun h => ht (by rw [← D.ns_sb (D.ktx_lt y), hu, h])
        have hnb : (u.toList == s.toList) = false := by rw [beq_eq_false_iff_ne]; exact fun h => hne (toList_inj' h)
        rw [hu] at cT
        have CT := Lib.hid cT
        have HP := Lib.hid hP
        clear cT hu ht hP HKs hy CK
        go_wp2_with (go_at_call 45; (with_reducible refine (CT.out _).mono ?_); rintro e v9 ⟨rfl, b9⟩; have rY9 := Shp.rd_on rY b9; have tV9 := Shp.tn_on tV b9)
        have hset := Shp.rd_set (S := kS) v9 w.heap.size D.zK tV9
        have z9 := below_setRow (below_up zV zV.size b9) (Nat.le_refl _) (kS.v D.zK)
        exact bodyPost_ret (v := .tuple #[.agg (kS.v D.zK), .int .i64 3]) (by rw [results_cell_tmp rfl]; simp [asAddr, Result.andThen, lvk_of hset]) rfl ⟨by rw [HP.out], z9⟩
    · have hP : D.kparse s = (D.zK, 3) := by rw [kparse_of HKs, hy, if_neg (fun h => he h.1)]
      have HP := Lib.hid hP
      clear hP HKs hy CK
      go_wp2
      have hset := Shp.rd_set (S := kS) V w.heap.size D.zK tV
      have z9 := below_setRow zV (Nat.le_refl _) (kS.v D.zK)
      exact bodyPost_ret (v := .tuple #[.agg (kS.v D.zK), .int .i64 3]) (by rw [results_cell_tmp rfl]; simp [asAddr, Result.andThen, lvk_of hset]) rfl ⟨by rw [HP.out], z9⟩
end Go.Proofs.YteiikacgcfidmaaGreatDoor
set_option linter.unusedVariables false
set_option linter.unusedSimpArgs false
set_option maxRecDepth 100000
namespace Go.Proofs.YteiikacgcfidmaaGreatDoor
open Go.ChangeShapes Go.WideShapes Go.ChangeAt Go.RowKit

/-- A row's call, told what was laid and how the world is shaped. -/
theorem returns_both {H : Type} {enc : TypeId × Value → H} {a : Assume} {C : Checked} {os : Os} {f : FuncId} {fn : Func} {s : ChangeSpec} {conds : List PathCond} {apart fresh handsOn again : Bool} {X : World → Array Value → Prop}
    (hX : ∀ (w w' : World) (args : Array Value), w.heap = w'.heap → X w args → X w' args)
    (own : ownKnob C.prog.godebug = none) (started : os.Started) (noInit : C.prog.inits.idxOf? f = none) (hfn : C.prog.funcs[f]? = some fn)
    (witness : ∃ (w : World) (tape : Tape) (i : Input), w.os = os ∧ (w.forCall tape i).Shaped C.prog ∧ i.vars = [] ∧ Input.okWide C.prog (w.forCall tape i) .any w.heap.size f i ∧
      ((s.pre enc C.prog fn conds apart (w.forCall tape i).memory i.args ∧ X (w.forCall tape i).memory i.args) ∧ sizedMet enc C.prog fn (OpenSpec.ofChange s) apart (w.forCall tape i).memory i.args) ∧ a.holds C.prog (lone (Frame.enter C.prog f i.args .normal) [] (w.forCall tape i)))
    (contract : ∀ (W : World) (base : Nat) (args : Array Value) (ds gs : List (DataW H)) (before : List MemPlace),
      (∀ (j : Nat) t v, fn.params[j]? = some t → args[j]? = some v → Value.okWide C.prog W .any base t v) →
      DataW.Whole enc C.prog fn.params.toList s.vars apart W args.toList ds gs before → X W args → W.ShapedOpen C.prog →
      Calls C.prog f args W fun e W' => ∃ v, e = .returned v ∧ s.post enc C.prog fn apart fresh handsOn again W args v W') :
    ReturnsInHanded a C os f .any (fun w args => (s.pre enc C.prog fn conds apart w args ∧ X w args) ∧ sizedMet enc C.prog fn (OpenSpec.ofChange s) apart w args) (s.post enc C.prog fn apart fresh handsOn again) := by
  refine returnsInHanded_of_calls own started noInit witness ?_
  intro w tape i _ hsh _ hok hpre _
  obtain ⟨_, _, _, fn', hfn', _, _, _, _, hval⟩ := hok
  obtain rfl : fn' = fn := Option.some.inj (hfn'.symm.trans hfn)
  obtain ⟨⟨⟨ds, gs, before, hw, _⟩, hx⟩, _⟩ := hpre
  refine (contract (w.forCall tape i) w.heap.size i.args ds gs before hval (DataW.Whole.of_heap (w' := w.forCall tape i) (by rfl) hw) (hX _ _ _ (by rfl) hx) hsh).mono fun e W' ⟨v, he, hp⟩ => ?_
  subst he
  exact ChangeSpec.post_blind hp
theorem trod_iface {H : Type} {enc : TypeId × Value → H} {P : Program} {w : World} {base : Nat} {spare : Nat → Bool} {held : Bool} {fuel : Nat} {t : TypeId} {ms : Array (String × TypeId)} {cs : List Value} {x : DataW H × List MemPlace} (ht : P.underlying t = some (.interface ms)) (h : DataW.trod enc P w base spare held fuel t cs = some x) :
    ∃ v, cs = [v] ∧ (v = .nilIface ∨ ∃ te pe, v = .iface te pe) := by
  cases fuel with
  | zero => simp [DataW.trod] at h
  | succ m =>
    unfold DataW.trod at h
    rw [ht] at h
    split at h <;> simp_all
theorem laid_find {P : Program} {w : World} : ∀ {laid : List (String × DataW Unit)} {ps : List MemPlace} {n : String} {d : DataW Unit}, DataW.LaidVars P w laid ps → (n, d) ∈ laid →
    ∃ g t cs fuel p, P.globalNamed n = some g ∧ (P.globals[g]?).map (·.type) = some t ∧ w.var? P n = some cs ∧ DataW.trod (fun _ => ()) P w 0 (fun _ => true) false fuel t cs.toList = some (d, p)
  | [], ps, n, d, _, hm => by cases hm
  | (m, e) :: r, ps, n, d, h, hm => by
    obtain ⟨g, t, cs, fuel, p, q, h1, h2, h3, h4, h5, _⟩ := h
    rcases List.mem_cons.1 hm with hm | hm
    · injection hm with e1 e2
      subst e1 e2
      exact ⟨g, t, cs, fuel, p, h1, h2, h3, h4⟩
    · exact laid_find h5 hm
theorem iface_var {w : World} {laid : List (String × DataW Unit)} {ps : List MemPlace} {n : String} {d : DataW Unit} {g : Nat} (h : DataW.LaidVars Tryz.prog w laid ps) (hm : (n, d) ∈ laid) (hg : Tryz.prog.globalNamed n = some g) (ht : (Tryz.prog.globals[g]?).map (·.type) = some 200) :
    ∃ v, w.cell? ⟨g, 0, none⟩ = some v ∧ (v = .nilIface ∨ ∃ te pe, v = .iface te pe) := by
  obtain ⟨g', t, cs, fuel, p, h1, h2, h3, h4⟩ := laid_find h hm
  rw [hg] at h1
  injection h1 with h1
  subst h1
  rw [ht] at h2
  injection h2 with h2
  subst h2
  obtain ⟨v, e, hv⟩ := trod_iface Tryz.underlying200 h4
  refine ⟨v, ?_, hv⟩
  rw [World.var?_cell hg h3 0]
  have : cs.toList[0]? = some v := by rw [e]; rfl
  simpa using this
theorem env_of {w : World} {laid : List (String × DataW Unit)} {d1 d2 : DataW Unit} (hs : w.ShapedOpen Tryz.prog) (hl : laidMetH Tryz.prog laid w) (hp : (laid.all fun x => x.2.handleName?.isNone) = true) (h1 : ("strconv.ErrSyntax", d1) ∈ laid) (h2 : ("strconv.ErrRange", d2) ∈ laid) : Env w := by
  rw [MakeChecks.laidMetH_plain _ _ _ hp] at hl
  obtain ⟨ps, hv, _, _⟩ := hl
  refine ⟨?_, iface_var hv h1 (by kernel_rfl) (by kernel_rfl), iface_var hv h2 (by kernel_rfl) (by kernel_rfl)⟩
  exact cell_of_shapedOpen_int hs (of_decide_eq_true (by kernel_rfl)) (t := 3) (zero := #[.int .i64 0]) (by kernel_rfl) rfl (by kernel_rfl) (by kernel_rfl) Tryz.underlying3
theorem wf_i64 {n : Int} (h : (Lit.int .i64 n).wf = true) : -9223372036854775808 ≤ n ∧ n ≤ 9223372036854775807 := by
  simp [Lit.wf, IntKind.min, IntKind.max, IntKind.signed, IntKind.bits] at h
  omega
end Go.Proofs.YteiikacgcfidmaaGreatDoor
set_option linter.unusedVariables false
set_option linter.unusedSimpArgs false
set_option maxRecDepth 100000
namespace Go.Proofs.YteiikacgcfidmaaGreatDoor
open Go.RowKit
theorem law_full_env (n0 : Int) (w : World) (hE : Env w) : Calls Tryz.prog 6 #[.int .i64 n0] w fun e w' => e = .returned (.bool true) ∧ Below w.heap.size w w' :=
  law_full kr_all n0 fun W hb i hi => by
    have h := kparse_any (D.ftx i) W (by show (9 : Nat) ≤ 100; decide) (hE.on hb)
    rw [(D.ftx_ok i hi).1] at h
    exact h
end Go.Proofs.YteiikacgcfidmaaGreatDoor
