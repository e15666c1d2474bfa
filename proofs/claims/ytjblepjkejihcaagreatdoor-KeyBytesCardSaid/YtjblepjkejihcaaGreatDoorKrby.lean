/-
  The document's Bytes, of keys.
-/
import Derived.Test.YtjblepjkejihcaaGreatDoorGj
import Derived.Test.YtjblepjkejihcaaGreatDoorKbt
set_option linter.unusedVariables false
set_option linter.unusedSimpArgs false
set_option maxRecDepth 100000
namespace Go.Proofs.YtjblepjkejihcaaGreatDoor
open Go.RowKit
attribute [local go_sem ↓] Go.wp_at_zero Go.wp_at_succ ld_k lv_k st_k eq_k ne_k bd_k ld_b lv_b st_b eq_b ne_b bd_25 ld_r lv_r st_rk eq_rk ne_rk bd_r ld_p lv_p st_px bd_p Nm.ld_a Nm.ld_n Nm.st_a Nm.st_n Nm.eq_a Nm.eq_n Nm.ne_a Nm.ne_n Nm.lv_a Nm.lv_n ld_a ld_n st_a st_n eq_a eq_n ne_a ne_n lv_a lv_n
attribute [local go_sem] run_ldk run_lvk run_stk run_eqk run_nek run_bdk_z run_ldb run_lvb run_stb run_eqb run_neb run_ldr run_lvr run_strk run_eqrk run_nerk run_bdr_z run_ldp run_lvp run_stpx Nm.run_ld_a Nm.run_ld_n Nm.run_st_n Nm.run_eq_a Nm.run_eq_n Nm.run_ne_a Nm.run_ne_n Nm.run_lv_a Nm.run_lv_n Nm.rd_new Nm.rd_old Nm.rd_drew Nm.rd_drewN run_ld_a run_ld_n run_sw_a run_sw_n run_eq_a run_eq_n run_ne_a run_ne_n run_lv_a run_lv_n st_z ne_z eq_z rd_new rd_old rd_drew rd_drewN Shp.rd_new Shp.rd_old Shp.rd_drew Shp.rd_drewN Shp.rd_set Shp.tn_new Shp.tn_old Shp.tn_drew Shp.tn_drewN tn_new tn_old tn_drew tn_drewN rd_set setRow_alloc run_stn3 run_stt15

/-- The bytes so far: the first of the name, the first of the tag. -/
def bq (x : D.Ky) (i j : Nat) : Array Value := (bys (x.k :: x.p :: x.a :: (D.padn (x.n.l.take i) 12 ++ D.padn (x.t.l.take j) 10))).toArray
theorem bq_size (x : D.Ky) (i j : Nat) : (bq x i j).size = 25 := by simp [bq, bys_len, D.padn_len]
theorem pad_set {l : List Nat} {k b n : Nat} (hb : l[k]? = some b) (hk : k < n) : (D.padn (l.take k) n).set k b = D.padn (l.take (k + 1)) n := by
  have h := pk_next hb hk
  unfold pk at h
  refine bys_inj ?_
  have h' := congrArg Array.toList h
  simp only [List.setIfInBounds_toArray] at h'
  rw [← h']
  simp [bys, List.map_set]
theorem bq_next1 {x : D.Ky} {i b : Nat} (hb : x.n.l[i]? = some b) (hi : i < 12) : (bq x i 0).setIfInBounds (3 + i) (.int .u8 b) = bq x (i + 1) 0 := by
  unfold bq
  rw [← pad_set hb hi]
  simp only [List.setIfInBounds_toArray, show 3 + i = i + 3 by omega, bys, List.map_cons, List.map_append, List.set_cons_succ]
  rw [List.set_append_left _ _ (by simp [D.padn_len]; exact hi), List.map_set]
theorem bq_next2 {x : D.Ky} {j b : Nat} (hb : x.t.l[j]? = some b) (hj : j < 10) : (bq x 12 j).setIfInBounds (15 + j) (.int .u8 b) = bq x 12 (j + 1) := by
  unfold bq
  rw [← pad_set hb hj]
  simp only [List.setIfInBounds_toArray, show 15 + j = (12 + j) + 3 by omega, bys, List.map_cons, List.map_append, List.set_cons_succ]
  have hl : ((D.padn (x.n.l.take 12) 12).map fun b : Nat => Value.int .u8 (b : Int)).length = 12 := by simp [D.padn_len]
  rw [List.set_append_right _ _ (by omega), hl, Nat.add_sub_cancel_left, List.map_set]
theorem padn_full {l : List Nat} {n : Nat} (h : l.length = n) : D.padn (l.take n) n = l := by
  rw [List.take_of_length_le (by omega), D.padn_eq (by omega)]
  simp [h]
theorem bq_end (x : D.Ky) : bq x 12 10 = kS.v x := by
  unfold bq
  rw [padn_full x.n.len, padn_full x.t.len, ← D.Ky.l_eq]
  rfl
theorem bq_start (x : D.Ky) : (((kS.v D.zK).setIfInBounds 0 (.int .u8 (x.k : Int))).setIfInBounds 1 (.int .u8 (x.p : Int))).setIfInBounds 2 (.int .u8 (x.a : Int)) = bq x 0 0 := by
  have e1 : D.padn (x.n.l.take 0) 12 = [0, 0, 0, 0, 0, 0, 0, 0, 0, 0, 0, 0] := rfl
  have e2 : D.padn (x.t.l.take 0) 10 = [0, 0, 0, 0, 0, 0, 0, 0, 0, 0] := rfl
  unfold bq
  rw [e1, e2]
  rfl
theorem rname_cell {w : World} {g : Nat} {x : D.Rk} (h : rS.rd w ⟨g, 0, none⟩ = some x) {j b : Nat} (hb : x.n.l[j]? = some b) : w.cell? ⟨g, 3 + j, none⟩ = some (.int .u8 b) := by
  have := Nm.at_of (rf0 h).2.2.2.1 j (.int .u8 b) (bys_at hb)
  rwa [add_o] at this
theorem rtag_cell {w : World} {g : Nat} {x : D.Rk} (h : rS.rd w ⟨g, 0, none⟩ = some x) {j b : Nat} (hb : x.t.l[j]? = some b) : w.cell? ⟨g, 15 + j, none⟩ = some (.int .u8 b) := by
  have := at_of (rf0 h).2.2.2.2 j (.int .u8 b) (bys_at hb)
  rwa [add_o] at this
theorem wrap8 {n : Nat} (h : n < 256) : IntKind.u8.wrap (n : Int) = n := by
  simp [IntKind.wrap, IntKind.bits, IntKind.signed]
  omega
/-- How far the document's Bytes has come. -/
structure RB (w w' : World) (x : D.Ky) (cs : Array Value) : Prop where
  r : rS.rd w' ⟨w.heap.size, 0, none⟩ = some (D.toR x)
  k : Shp.tn 25 w' (w.heap.size + 1) = true
  b : Blk w' (w.heap.size + 2) 42 cs
  z : Below w.heap.size w w'
theorem RB.drew {w w' : World} {x : D.Ky} {cs : Array Value} (h : RB w w' x cs) : RB w w'.drew x cs := ⟨(Shp.rd_drew _ _).trans h.r, (Shp.tn_drew _ _ _).trans h.k, ⟨h.b.out⟩, h.z.drew⟩
theorem RB.put {w w' : World} {x : D.Ky} {cs : Array Value} (h : RB w w' x cs) (i : Nat) (v : Value) : RB w (w'.setCell ⟨w.heap.size + 2, i, none⟩ v) x (cs.setIfInBounds i v) :=
  ⟨(Shp.rd_setCell _ _ _ _ (by show w.heap.size ≠ w.heap.size + 2; omega)).trans h.r, (Shp.tn_to (Below.heap_setCell _ _ _ _ (by show w.heap.size + 1 ≠ w.heap.size + 2; omega))).trans h.k, h.b.put i v, h.z.setCell (by show w.heap.size ≤ w.heap.size + 2; omega) v⟩

set_option maxHeartbeats 16000000 in
theorem rbytes_any (x : D.Ky) (w : World) : Calls Tryz.prog 17 #[.agg (rS.v (D.toR x))] w fun e w' => e = .returned (.agg (kS.v x)) ∧ Below w.heap.size w w' := by
  obtain ⟨W0, hW0⟩ : ∃ W, ((w.alloc (.cells (rS.v (D.toR x)) 30)).alloc (.cells z25 42)).alloc (.cells z25 42) = W := ⟨_, rfl⟩
  have R0 : RB w W0 x (kS.v D.zK) := by
    rw [← hW0]
    refine ⟨Shp.rd_on (Shp.rd_on (Shp.rd_new (S := rS) w _ _ _ rfl) (below_alloc_ _ _)) (below_alloc_ _ _), Shp.tn_on (Shp.tn_new 25 _ _ _ _ (by simp) rfl) (below_alloc_ _ _), ?_, ((below_alloc_ _ _).alloc (by simp) _).alloc (by simp; omega) _⟩
    have := Blk.new ((w.alloc (.cells (rS.v (D.toR x)) 30)).alloc (.cells z25 42)) 42 z25
    rw [World.size_alloc, World.size_alloc] at this
    exact this
  unfold z25 at hW0
  have w0' := wrap8 x.k_lt
  have w1' := wrap8 x.p_lt
  have w2' := wrap8 x.a_lt
  go_enter Tryz.func17, Tryz.ntmps17
  go_wp2_with fail
  try rw [hW0]
  clear hW0
  try rw [show w.heap.size + 1 + 1 = w.heap.size + 2 from rfl]
  have s0 := R0.drew
  have hK0 : (D.toR x).k = (x.k : Int) := rfl
  have hK1 : (D.toR x).p = (x.p : Int) := rfl
  have hK2 : (D.toR x).a = (x.a : Int) := rfl
  refine wp_region_noPanic ?_
  refine wp_region_held_drew (S := fun W => ∃ cs, RB w W x cs) (by kernel_rfl) ⟨_, s0⟩ (fun _ => ?_)
  obtain ⟨wd, hwd⟩ : ∃ wd, W0.drew = wd := ⟨_, rfl⟩
  rw [hwd] at s0
  rw [hwd]
  clear hwd
  refine takeS 0 (some 6) ?va0 (by kernel_rfl) (by kernel_rfl) (by kernel_rfl) (by kernel_rfl) (fun _ _ _ h => h) (by rfl) ?hya0 ⟨_, s0⟩ ?resta0
  case hya0 => (intro o ho W hW; simp only [List.getElem?_toArray, List.getElem?_cons_succ, List.getElem?_cons_zero, Option.some.injEq] at ho; subst ho; (try dsimp only at hW); obtain ⟨cs', hR⟩ := hW; obtain ⟨d0, d1, d2, d3, d4⟩ := rf0 hR.r; rw [hK0] at d0; rw [hK1] at d1; rw [hK2] at d2; go_simp; try rfl)
  try simp only [Act.put, List.setIfInBounds_toArray, List.set_cons_zero, List.set_cons_succ]
  refine takeS 1 (some 7) ?va1 (by kernel_rfl) (by kernel_rfl) (by kernel_rfl) (by kernel_rfl) (fun _ _ _ h => h) (by rfl) ?hya1 ⟨_, s0⟩ ?resta1
  case hya1 => (intro o ho W hW; simp only [List.getElem?_toArray, List.getElem?_cons_succ, List.getElem?_cons_zero, Option.some.injEq] at ho; subst ho; (try dsimp only at hW); obtain ⟨cs', hR⟩ := hW; obtain ⟨d0, d1, d2, d3, d4⟩ := rf0 hR.r; rw [hK0] at d0; rw [hK1] at d1; rw [hK2] at d2; go_simp; try rfl)
  try simp only [Act.put, List.setIfInBounds_toArray, List.set_cons_zero, List.set_cons_succ]
  refine takeS 2 (some 8) (.int .u8 (x.k : Int)) (by kernel_rfl) (by kernel_rfl) (by kernel_rfl) (by kernel_rfl) (fun _ _ _ h => h) (by rfl) ?hya2 ⟨_, s0⟩ ?resta2
  case hya2 => (intro o ho W hW; simp only [List.getElem?_toArray, List.getElem?_cons_succ, List.getElem?_cons_zero, Option.some.injEq] at ho; subst ho; (try dsimp only at hW); obtain ⟨cs', hR⟩ := hW; obtain ⟨d0, d1, d2, d3, d4⟩ := rf0 hR.r; rw [hK0] at d0; rw [hK1] at d1; rw [hK2] at d2; go_simp; (first | done | rfl | (rw [w0'])))
  try simp only [Act.put, List.setIfInBounds_toArray, List.set_cons_zero, List.set_cons_succ]
  refine takeS 3 (some 9) ?va3 (by kernel_rfl) (by kernel_rfl) (by kernel_rfl) (by kernel_rfl) (fun _ _ _ h => h) (by rfl) ?hya3 ⟨_, s0⟩ ?resta3
  case hya3 => (intro o ho W hW; simp only [List.getElem?_toArray, List.getElem?_cons_succ, List.getElem?_cons_zero, Option.some.injEq] at ho; subst ho; (try dsimp only at hW); obtain ⟨cs', hR⟩ := hW; obtain ⟨d0, d1, d2, d3, d4⟩ := rf0 hR.r; rw [hK0] at d0; rw [hK1] at d1; rw [hK2] at d2; go_simp; try rfl)
  try simp only [Act.put, List.setIfInBounds_toArray, List.set_cons_zero, List.set_cons_succ]
  refine takeS 4 (some 10) ?va4 (by kernel_rfl) (by kernel_rfl) (by kernel_rfl) (by kernel_rfl) (fun _ _ _ h => h) (by rfl) ?hya4 ⟨_, s0⟩ ?resta4
  case hya4 => (intro o ho W hW; simp only [List.getElem?_toArray, List.getElem?_cons_succ, List.getElem?_cons_zero, Option.some.injEq] at ho; subst ho; (try dsimp only at hW); obtain ⟨cs', hR⟩ := hW; obtain ⟨d0, d1, d2, d3, d4⟩ := rf0 hR.r; rw [hK0] at d0; rw [hK1] at d1; rw [hK2] at d2; go_simp; try rfl)
  try simp only [Act.put, List.setIfInBounds_toArray, List.set_cons_zero, List.set_cons_succ]
  refine takeS 5 (some 11) (.int .u8 (x.p : Int)) (by kernel_rfl) (by kernel_rfl) (by kernel_rfl) (by kernel_rfl) (fun _ _ _ h => h) (by rfl) ?hya5 ⟨_, s0⟩ ?resta5
  case hya5 => (intro o ho W hW; simp only [List.getElem?_toArray, List.getElem?_cons_succ, List.getElem?_cons_zero, Option.some.injEq] at ho; subst ho; (try dsimp only at hW); obtain ⟨cs', hR⟩ := hW; obtain ⟨d0, d1, d2, d3, d4⟩ := rf0 hR.r; rw [hK0] at d0; rw [hK1] at d1; rw [hK2] at d2; go_simp; (first | done | rfl | (rw [w1'])))
  try simp only [Act.put, List.setIfInBounds_toArray, List.set_cons_zero, List.set_cons_succ]
  refine takeS 6 (some 12) ?va6 (by kernel_rfl) (by kernel_rfl) (by kernel_rfl) (by kernel_rfl) (fun _ _ _ h => h) (by rfl) ?hya6 ⟨_, s0⟩ ?resta6
  case hya6 => (intro o ho W hW; simp only [List.getElem?_toArray, List.getElem?_cons_succ, List.getElem?_cons_zero, Option.some.injEq] at ho; subst ho; (try dsimp only at hW); obtain ⟨cs', hR⟩ := hW; obtain ⟨d0, d1, d2, d3, d4⟩ := rf0 hR.r; rw [hK0] at d0; rw [hK1] at d1; rw [hK2] at d2; go_simp; try rfl)
  try simp only [Act.put, List.setIfInBounds_toArray, List.set_cons_zero, List.set_cons_succ]
  refine takeS 7 (some 13) ?va7 (by kernel_rfl) (by kernel_rfl) (by kernel_rfl) (by kernel_rfl) (fun _ _ _ h => h) (by rfl) ?hya7 ⟨_, s0⟩ ?resta7
  case hya7 => (intro o ho W hW; simp only [List.getElem?_toArray, List.getElem?_cons_succ, List.getElem?_cons_zero, Option.some.injEq] at ho; subst ho; (try dsimp only at hW); obtain ⟨cs', hR⟩ := hW; obtain ⟨d0, d1, d2, d3, d4⟩ := rf0 hR.r; rw [hK0] at d0; rw [hK1] at d1; rw [hK2] at d2; go_simp; try rfl)
  try simp only [Act.put, List.setIfInBounds_toArray, List.set_cons_zero, List.set_cons_succ]
  refine takeS 8 (some 14) (.int .u8 (x.a : Int)) (by kernel_rfl) (by kernel_rfl) (by kernel_rfl) (by kernel_rfl) (fun _ _ _ h => h) (by rfl) ?hya8 ⟨_, s0⟩ ?resta8
  case hya8 => (intro o ho W hW; simp only [List.getElem?_toArray, List.getElem?_cons_succ, List.getElem?_cons_zero, Option.some.injEq] at ho; subst ho; (try dsimp only at hW); obtain ⟨cs', hR⟩ := hW; obtain ⟨d0, d1, d2, d3, d4⟩ := rf0 hR.r; rw [hK0] at d0; rw [hK1] at d1; rw [hK2] at d2; go_simp; (first | done | rfl | (rw [w2'])))
  try simp only [Act.put, List.setIfInBounds_toArray, List.set_cons_zero, List.set_cons_succ]
  refine takeS 9 (some 15) ?va9 (by kernel_rfl) (by kernel_rfl) (by kernel_rfl) (by kernel_rfl) (fun _ _ _ h => h) (by rfl) ?hya9 ⟨_, s0⟩ ?resta9
  case hya9 => (intro o ho W hW; simp only [List.getElem?_toArray, List.getElem?_cons_succ, List.getElem?_cons_zero, Option.some.injEq] at ho; subst ho; (try dsimp only at hW); obtain ⟨cs', hR⟩ := hW; obtain ⟨d0, d1, d2, d3, d4⟩ := rf0 hR.r; rw [hK0] at d0; rw [hK1] at d1; rw [hK2] at d2; go_simp; try rfl)
  try simp only [Act.put, List.setIfInBounds_toArray, List.set_cons_zero, List.set_cons_succ]
  have i0 := s0.b.c 0
  have j0 : ∃ v, wd.cell? ⟨w.heap.size + 2, 0, none⟩ = some v := by rw [i0]; exact ⟨_, Array.getElem?_eq_getElem (by (try simp only [Array.size_setIfInBounds]); rw [kS.v_size]; decide)⟩
  obtain ⟨y0, j0⟩ := j0
  clear i0
  have k0 := s0.b.f 0
  have s1 := s0.put 0 (.int .u8 (x.k : Int))
  refine nextS 10 (by kernel_rfl) (by rfl) (fun o ho K hK => ?_)
  simp only [List.getElem?_toArray, List.getElem?_cons_succ, List.getElem?_cons_zero, Option.some.injEq] at ho; subst ho
  go_simp
  refine hK.out _ _ ⟨_, s1⟩ (fun _ => ?_)
  clear hK K
  try simp only [Act.put, List.setIfInBounds_toArray, List.set_cons_zero, List.set_cons_succ]
  obtain ⟨v1, hv1⟩ : ∃ V, wd.setCell ⟨w.heap.size + 2, 0, none⟩ (.int .u8 (x.k : Int)) = V := ⟨_, rfl⟩
  rw [hv1] at s1
  try rw [hv1]
  clear hv1 j0 k0
  refine takeS 11 (some 16) ?vp011 (by kernel_rfl) (by kernel_rfl) (by kernel_rfl) (by kernel_rfl) (fun _ _ _ h => h) (by rfl) ?hyp011 ⟨_, s1⟩ ?restp011
  case hyp011 => (intro o ho W hW; simp only [List.getElem?_toArray, List.getElem?_cons_succ, List.getElem?_cons_zero, Option.some.injEq] at ho; subst ho; (try dsimp only at hW); obtain ⟨cs', hR⟩ := hW; obtain ⟨d0, d1, d2, d3, d4⟩ := rf0 hR.r; rw [hK0] at d0; rw [hK1] at d1; rw [hK2] at d2; go_simp; try rfl)
  try simp only [Act.put, List.setIfInBounds_toArray, List.set_cons_zero, List.set_cons_succ]
  have i1 := s1.b.c 1
  have j1 : ∃ v, v1.cell? ⟨w.heap.size + 2, 1, none⟩ = some v := by rw [i1]; exact ⟨_, Array.getElem?_eq_getElem (by (try simp only [Array.size_setIfInBounds]); rw [kS.v_size]; decide)⟩
  obtain ⟨y1, j1⟩ := j1
  clear i1
  have k1 := s1.b.f 1
  have s2 := s1.put 1 (.int .u8 (x.p : Int))
  refine nextS 12 (by kernel_rfl) (by rfl) (fun o ho K hK => ?_)
  simp only [List.getElem?_toArray, List.getElem?_cons_succ, List.getElem?_cons_zero, Option.some.injEq] at ho; subst ho
  go_simp
  refine hK.out _ _ ⟨_, s2⟩ (fun _ => ?_)
  clear hK K
  try simp only [Act.put, List.setIfInBounds_toArray, List.set_cons_zero, List.set_cons_succ]
  obtain ⟨v2, hv2⟩ : ∃ V, v1.setCell ⟨w.heap.size + 2, 1, none⟩ (.int .u8 (x.p : Int)) = V := ⟨_, rfl⟩
  rw [hv2] at s2
  try rw [hv2]
  clear hv2 j1 k1
  refine takeS 13 (some 17) ?vp113 (by kernel_rfl) (by kernel_rfl) (by kernel_rfl) (by kernel_rfl) (fun _ _ _ h => h) (by rfl) ?hyp113 ⟨_, s2⟩ ?restp113
  case hyp113 => (intro o ho W hW; simp only [List.getElem?_toArray, List.getElem?_cons_succ, List.getElem?_cons_zero, Option.some.injEq] at ho; subst ho; (try dsimp only at hW); obtain ⟨cs', hR⟩ := hW; obtain ⟨d0, d1, d2, d3, d4⟩ := rf0 hR.r; rw [hK0] at d0; rw [hK1] at d1; rw [hK2] at d2; go_simp; try rfl)
  try simp only [Act.put, List.setIfInBounds_toArray, List.set_cons_zero, List.set_cons_succ]
  have i2 := s2.b.c 2
  have j2 : ∃ v, v2.cell? ⟨w.heap.size + 2, 2, none⟩ = some v := by rw [i2]; exact ⟨_, Array.getElem?_eq_getElem (by (try simp only [Array.size_setIfInBounds]); rw [kS.v_size]; decide)⟩
  obtain ⟨y2, j2⟩ := j2
  clear i2
  have k2 := s2.b.f 2
  have s3 := s2.put 2 (.int .u8 (x.a : Int))
  refine nextS 14 (by kernel_rfl) (by rfl) (fun o ho K hK => ?_)
  simp only [List.getElem?_toArray, List.getElem?_cons_succ, List.getElem?_cons_zero, Option.some.injEq] at ho; subst ho
  go_simp
  refine hK.out _ _ ⟨_, s3⟩ (fun _ => ?_)
  clear hK K
  try simp only [Act.put, List.setIfInBounds_toArray, List.set_cons_zero, List.set_cons_succ]
  obtain ⟨v3, hv3⟩ : ∃ V, v2.setCell ⟨w.heap.size + 2, 2, none⟩ (.int .u8 (x.a : Int)) = V := ⟨_, rfl⟩
  rw [hv3] at s3
  try rw [hv3]
  clear hv3 j2 k2
  refine wpAnyH_done (by kernel_rfl) ?_ _
  refine NoPanic.normal ?_
  rw [bq_start] at s3
  clear s0 s1 s2 R0
  go_wp2
  go_loopw [4] (fun i wr => ∃ k : Nat, k ≤ 12 ∧ i = .int .i64 k ∧ RB w wr x (bq x k 0)) (fun i _ => 12 - (intOf i).toNat)
  case atStart => exact ⟨0, Nat.zero_le _, rfl, s3⟩
  case round =>
    obtain ⟨k, hk, rfl, R⟩ := hrel
    clear s3
    by_cases hlt : k < 12
    · obtain ⟨b, hb⟩ : ∃ b, x.n.l[k]? = some b := ⟨_, List.getElem?_eq_getElem (by rw [x.n.len]; exact hlt)⟩
      have hc := rname_cell R.r (j := k) (b := b) hb
      have hcs : ∃ v, wr.cell? ⟨w.heap.size + 2, 3 + k, none⟩ = some v := by
        rw [R.b.c]
        exact ⟨_, Array.getElem?_eq_getElem (by rw [bq_size]; omega)⟩
      obtain ⟨v0, hc0⟩ := hcs
      have hf := R.b.f (3 + k)
      have hn := R.put (3 + k) (.int .u8 b)
      rw [bq_next1 hb hlt] at hn
      clear R hb
      obtain rfl | rfl | rfl | rfl | rfl | rfl | rfl | rfl | rfl | rfl | rfl | rfl : k = 0 ∨ k = 1 ∨ k = 2 ∨ k = 3 ∨ k = 4 ∨ k = 5 ∨ k = 6 ∨ k = 7 ∨ k = 8 ∨ k = 9 ∨ k = 10 ∨ k = 11 := by omega
      all_goals
        simp only [Nat.reduceAdd] at hc hc0 hf hn
        go_wp2
        go_roundw
        case rel => exact ⟨_, by decide, rfl, hn⟩
        case measure => simp [intOf]
    · obtain rfl : k = 12 := by omega
      clear hlt hk
      go_wp2
      go_loopw [5] (fun i wr => ∃ k : Nat, k ≤ 10 ∧ i = .int .i64 k ∧ RB w wr x (bq x 12 k)) (fun i _ => 10 - (intOf i).toNat)
      case atStart => exact ⟨0, Nat.zero_le _, rfl, R⟩
      case round =>
        obtain ⟨k, hk, rfl, R⟩ := hrel
        by_cases hlt : k < 10
        · obtain ⟨b, hb⟩ : ∃ b, x.t.l[k]? = some b := ⟨_, List.getElem?_eq_getElem (by rw [x.t.len]; exact hlt)⟩
          have hc := rtag_cell R.r (j := k) (b := b) hb
          have hcs : ∃ v, wr.cell? ⟨w.heap.size + 2, 15 + k, none⟩ = some v := by
            rw [R.b.c]
            exact ⟨_, Array.getElem?_eq_getElem (by rw [bq_size]; omega)⟩
          obtain ⟨v0, hc0⟩ := hcs
          have hf := R.b.f (15 + k)
          have hn := R.put (15 + k) (.int .u8 b)
          rw [bq_next2 hb hlt] at hn
          clear R hb
          obtain rfl | rfl | rfl | rfl | rfl | rfl | rfl | rfl | rfl | rfl : k = 0 ∨ k = 1 ∨ k = 2 ∨ k = 3 ∨ k = 4 ∨ k = 5 ∨ k = 6 ∨ k = 7 ∨ k = 8 ∨ k = 9 := by omega
          all_goals
            simp only [Nat.reduceAdd] at hc hc0 hf hn
            go_wp2
            go_roundw
            case rel => exact ⟨_, by decide, rfl, hn⟩
            case measure => simp [intOf]
        · obtain rfl : k = 10 := by omega
          have D3 := R.b
          rw [bq_end] at D3
          have r3 := Shp.rd_blk (S := kS) D3
          have hset := Shp.rd_set (S := kS) wr (w.heap.size + 1) x R.k
          have z9 := below_setRow R.z (Nat.le_succ _) (kS.v x)
          have tk := R.k
          clear R D3
          go_wp2
          exact bodyPost_ret (v := .agg (kS.v x)) (by rw [Nm.results_cell1 rfl]; simp [asAddr, Result.andThen, lvb_of hset]) rfl ⟨rfl, z9⟩
end Go.Proofs.YtjblepjkejihcaaGreatDoor
