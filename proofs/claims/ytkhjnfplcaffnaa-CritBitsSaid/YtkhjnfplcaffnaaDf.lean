/-
  The document's Bytes, of keys.
  The document's Less, of keys.
-/
import Derived.Test.YtkhjnfplcaffnaaKlo
import Derived.Test.YtkhjnfplcaffnaaKbt
import Derived.Test.YtkhjnfplcaffnaaKls
set_option linter.unusedVariables false
set_option linter.unusedSimpArgs false
set_option maxRecDepth 100000
namespace Go.Proofs.Ytkhjnfplcaffnaa
open Go.RowKit
attribute [local go_sem ↓] Go.wp_at_zero Go.wp_at_succ ld_k lv_k st_k eq_k ne_k bd_k ld_b lv_b st_b eq_b ne_b bd_25 ld_r lv_r st_rk eq_rk ne_rk bd_r ld_p lv_p st_px bd_p Nm.ld_a Nm.ld_n Nm.st_a Nm.st_n Nm.eq_a Nm.eq_n Nm.ne_a Nm.ne_n Nm.lv_a Nm.lv_n ld_a ld_n st_a st_n eq_a eq_n ne_a ne_n lv_a lv_n
attribute [local go_sem] run_ldk run_lvk run_stk run_eqk run_nek run_bdk_z run_ldb run_lvb run_stb run_eqb run_neb run_ldr run_lvr run_strk run_eqrk run_nerk run_bdr_z run_ldp run_lvp run_stpx Nm.run_ld_a Nm.run_ld_n Nm.run_st_n Nm.run_eq_a Nm.run_eq_n Nm.run_ne_a Nm.run_ne_n Nm.run_lv_a Nm.run_lv_n Nm.rd_new Nm.rd_old Nm.rd_drew Nm.rd_drewN run_ld_a run_ld_n run_sw_a run_sw_n run_eq_a run_eq_n run_ne_a run_ne_n run_lv_a run_lv_n st_z ne_z eq_z rd_new rd_old rd_drew rd_drewN Shp.rd_new Shp.rd_old Shp.rd_drew Shp.rd_drewN Shp.rd_set Shp.tn_new Shp.tn_old Shp.tn_drew Shp.tn_drewN tn_new tn_old tn_drew tn_drewN rd_set setRow_alloc run_stn3 run_stt15

/-- The bytes so far: the first of the name, the first of the tag. -/
def bq (x : D.Ky) (i j : Nat) : Array Value := (bys (x.k :: x.p :: x.a :: (D.padn (x.n.l.take i) 12 ++ D.padn (x.t.l.take j) 10))).toArray
theorem bq_size (x : D.Ky) (i j : Nat) : (bq x i j).size = 25 := by simp [bq, bys_len, D.padn_len]
theorem pad_set {l : List Nat} {k b n : Nat} (hb : l[k]? = some b) (hk : k < n) : (D.padn (l.take k) n).set k b = D.padn (l.take (k + 1)) n := by
  have h := pk_next hb hk
  unfold pk at h
  refine bys_inj ?_
  have h' := congrArg Array.toList h
  simp only [List.setIfInBounds_toArray] at h'
  rw [← h']
  simp [bys, List.map_set]
theorem bq_next1 {x : D.Ky} {i b : Nat} (hb : x.n.l[i]? = some b) (hi : i < 12) : (bq x i 0).setIfInBounds (3 + i) (.int .u8 b) = bq x (i + 1) 0 := by
  unfold bq
  rw [← pad_set hb hi]
  simp only [List.setIfInBounds_toArray, show 3 + i = i + 3 by omega, bys, List.map_cons, List.map_append, List.set_cons_succ]
  rw [List.set_append_left _ _ (by simp [D.padn_len]; exact hi), List.map_set]
theorem bq_next2 {x : D.Ky} {j b : Nat} (hb : x.t.l[j]? = some b) (hj : j < 10) : (bq x 12 j).setIfInBounds (15 + j) (.int .u8 b) = bq x 12 (j + 1) := by
  unfold bq
  rw [← pad_set hb hj]
  simp only [List.setIfInBounds_toArray, show 15 + j = (12 + j) + 3 by omega, bys, List.map_cons, List.map_append, List.set_cons_succ]
  have hl : ((D.padn (x.n.l.take 12) 12).map fun b : Nat => Value.int .u8 (b : Int)).length = 12 := by simp [D.padn_len]
  rw [List.set_append_right _ _ (by omega), hl, Nat.add_sub_cancel_left, List.map_set]
theorem padn_full {l : List Nat} {n : Nat} (h : l.length = n) : D.padn (l.take n) n = l := by
  rw [List.take_of_length_le (by omega), D.padn_eq (by omega)]
  simp [h]
theorem bq_end (x : D.Ky) : bq x 12 10 = kS.v x := by
  unfold bq
  rw [padn_full x.n.len, padn_full x.t.len, ← D.Ky.l_eq]
  rfl
theorem bq_start (x : D.Ky) : (((kS.v D.zK).setIfInBounds 0 (.int .u8 (x.k : Int))).setIfInBounds 1 (.int .u8 (x.p : Int))).setIfInBounds 2 (.int .u8 (x.a : Int)) = bq x 0 0 := by
  have e1 : D.padn (x.n.l.take 0) 12 = [0, 0, 0, 0, 0, 0, 0, 0, 0, 0, 0, 0] := rfl
  have e2 : D.padn (x.t.l.take 0) 10 = [0, 0, 0, 0, 0, 0, 0, 0, 0, 0] := rfl
  unfold bq
  rw [e1, e2]
  rfl
theorem rname_cell {w : World} {g : Nat} {x : D.Rk} (h : rS.rd w ⟨g, 0, none⟩ = some x) {j b : Nat} (hb : x.n.l[j]? = some b) : w.cell? ⟨g, 3 + j, none⟩ = some (.int .u8 b) := by
  have := Nm.at_of (rf0 h).2.2.2.1 j (.int .u8 b) (bys_at hb)
  rwa [add_o] at this
theorem rtag_cell {w : World} {g : Nat} {x : D.Rk} (h : rS.rd w ⟨g, 0, none⟩ = some x) {j b : Nat} (hb : x.t.l[j]? = some b) : w.cell? ⟨g, 15 + j, none⟩ = some (.int .u8 b) := by
  have := at_of (rf0 h).2.2.2.2 j (.int .u8 b) (bys_at hb)
  rwa [add_o] at this
theorem wrap8 {n : Nat} (h : n < 256) : IntKind.u8.wrap (n : Int) = n := by
  simp [IntKind.wrap, IntKind.bits, IntKind.signed]
  omega
/-- How far the document's Bytes has come. -/
structure RB (w w' : World) (x : D.Ky) (cs : Array Value) : Prop where
  r : rS.rd w' ⟨w.heap.size, 0, none⟩ = some (D.toR x)
  k : Shp.tn 25 w' (w.heap.size + 1) = true
  b : Blk w' (w.heap.size + 2) 101 cs
  z : Below w.heap.size w w'
theorem RB.drew {w w' : World} {x : D.Ky} {cs : Array Value} (h : RB w w' x cs) : RB w w'.drew x cs := ⟨(Shp.rd_drew _ _).trans h.r, (Shp.tn_drew _ _ _).trans h.k, ⟨h.b.out⟩, h.z.drew⟩
theorem RB.put {w w' : World} {x : D.Ky} {cs : Array Value} (h : RB w w' x cs) (i : Nat) (v : Value) : RB w (w'.setCell ⟨w.heap.size + 2, i, none⟩ v) x (cs.setIfInBounds i v) :=
  ⟨(Shp.rd_setCell _ _ _ _ (by show w.heap.size ≠ w.heap.size + 2; omega)).trans h.r, (Shp.tn_to (Below.heap_setCell _ _ _ _ (by show w.heap.size + 1 ≠ w.heap.size + 2; omega))).trans h.k, h.b.put i v, h.z.setCell (by show w.heap.size ≤ w.heap.size + 2; omega) v⟩

set_option maxHeartbeats 16000000 in
theorem rbytes_any (x : D.Ky) (w : World) : Calls Try.prog 45 #[.agg (rS.v (D.toR x))] w fun e w' => e = .returned (.agg (kS.v x)) ∧ Below w.heap.size w w' := by
  obtain ⟨W0, hW0⟩ : ∃ W, ((w.alloc (.cells (rS.v (D.toR x)) 40)).alloc (.cells z25 101)).alloc (.cells z25 101) = W := ⟨_, rfl⟩
  have R0 : RB w W0 x (kS.v D.zK) := by
    rw [← hW0]
    refine ⟨Shp.rd_on (Shp.rd_on (Shp.rd_new (S := rS) w _ _ _ rfl) (below_alloc_ _ _)) (below_alloc_ _ _), Shp.tn_on (Shp.tn_new 25 _ _ _ _ (by simp) rfl) (below_alloc_ _ _), ?_, ((below_alloc_ _ _).alloc (by simp) _).alloc (by simp; omega) _⟩
    have := Blk.new ((w.alloc (.cells (rS.v (D.toR x)) 40)).alloc (.cells z25 101)) 101 z25
    rw [World.size_alloc, World.size_alloc] at this
    exact this
  unfold z25 at hW0
  have w0' := wrap8 x.k_lt
  have w1' := wrap8 x.p_lt
  have w2' := wrap8 x.a_lt
  go_enter Try.func45, Try.ntmps45
  go_wp2_with fail
  try rw [hW0]
  clear hW0
  try rw [show w.heap.size + 1 + 1 = w.heap.size + 2 from rfl]
  have s0 := R0.drew
  have hK0 : (D.toR x).k = (x.k : Int) := rfl
  have hK1 : (D.toR x).p = (x.p : Int) := rfl
  have hK2 : (D.toR x).a = (x.a : Int) := rfl
  refine wp_region_noPanic ?_
  refine wp_region_held_drew (S := fun W => ∃ cs, RB w W x cs) (by kernel_rfl) ⟨_, s0⟩ (fun _ => ?_)
  obtain ⟨wd, hwd⟩ : ∃ wd, W0.drew = wd := ⟨_, rfl⟩
  rw [hwd] at s0
  rw [hwd]
  clear hwd
  refine takeS 0 (some 6) ?va0 (by kernel_rfl) (by kernel_rfl) (by kernel_rfl) (by kernel_rfl) (fun _ _ _ h => h) (by rfl) ?hya0 ⟨_, s0⟩ ?resta0
  case hya0 => (intro o ho W hW; simp only [List.getElem?_toArray, List.getElem?_cons_succ, List.getElem?_cons_zero, Option.some.injEq] at ho; subst ho; (try dsimp only at hW); obtain ⟨cs', hR⟩ := hW; obtain ⟨d0, d1, d2, d3, d4⟩ := rf0 hR.r; rw [hK0] at d0; rw [hK1] at d1; rw [hK2] at d2; go_simp; try rfl)
  try simp only [Act.put, List.setIfInBounds_toArray, List.set_cons_zero, List.set_cons_succ]
  refine takeS 1 (some 7) ?va1 (by kernel_rfl) (by kernel_rfl) (by kernel_rfl) (by kernel_rfl) (fun _ _ _ h => h) (by rfl) ?hya1 ⟨_, s0⟩ ?resta1
  case hya1 => (intro o ho W hW; simp only [List.getElem?_toArray, List.getElem?_cons_succ, List.getElem?_cons_zero, Option.some.injEq] at ho; subst ho; (try dsimp only at hW); obtain ⟨cs', hR⟩ := hW; obtain ⟨d0, d1, d2, d3, d4⟩ := rf0 hR.r; rw [hK0] at d0; rw [hK1] at d1; rw [hK2] at d2; go_simp; try rfl)
  try simp only [Act.put, List.setIfInBounds_toArray, List.set_cons_zero, List.set_cons_succ]
  refine takeS 2 (some 8) (.int .u8 (x.k : Int)) (by kernel_rfl) (by kernel_rfl) (by kernel_rfl) (by kernel_rfl) (fun _ _ _ h => h) (by rfl) ?hya2 ⟨_, s0⟩ ?resta2
  case hya2 => (intro o ho W hW; simp only [List.getElem?_toArray, List.getElem?_cons_succ, List.getElem?_cons_zero, Option.some.injEq] at ho; subst ho; (try dsimp only at hW); obtain ⟨cs', hR⟩ := hW; obtain ⟨d0, d1, d2, d3, d4⟩ := rf0 hR.r; rw [hK0] at d0; rw [hK1] at d1; rw [hK2] at d2; go_simp; (first | done | rfl | (rw [w0'])))
  try simp only [Act.put, List.setIfInBounds_toArray, List.set_cons_zero, List.set_cons_succ]
  refine takeS 3 (some 9) ?va3 (by kernel_rfl) (by kernel_rfl) (by kernel_rfl) (by kernel_rfl) (fun _ _ _ h => h) (by rfl) ?hya3 ⟨_, s0⟩ ?resta3
  case hya3 => (intro o ho W hW; simp only [List.getElem?_toArray, List.getElem?_cons_succ, List.getElem?_cons_zero, Option.some.injEq] at ho; subst ho; (try dsimp only at hW); obtain ⟨cs', hR⟩ := hW; obtain ⟨d0, d1, d2, d3, d4⟩ := rf0 hR.r; rw [hK0] at d0; rw [hK1] at d1; rw [hK2] at d2; go_simp; try rfl)
  try simp only [Act.put, List.setIfInBounds_toArray, List.set_cons_zero, List.set_cons_succ]
  refine takeS 4 (some 10) ?va4 (by kernel_rfl) (by kernel_rfl) (by kernel_rfl) (by kernel_rfl) (fun _ _ _ h => h) (by rfl) ?hya4 ⟨_, s0⟩ ?resta4
  case hya4 => (intro o ho W hW; simp only [List.getElem?_toArray, List.getElem?_cons_succ, List.getElem?_cons_zero, Option.some.injEq] at ho; subst ho; (try dsimp only at hW); obtain ⟨cs', hR⟩ := hW; obtain ⟨d0, d1, d2, d3, d4⟩ := rf0 hR.r; rw [hK0] at d0; rw [hK1] at d1; rw [hK2] at d2; go_simp; try rfl)
  try simp only [Act.put, List.setIfInBounds_toArray, List.set_cons_zero, List.set_cons_succ]
  refine takeS 5 (some 11) (.int .u8 (x.p : Int)) (by kernel_rfl) (by kernel_rfl) (by kernel_rfl) (by kernel_rfl) (fun _ _ _ h => h) (by rfl) ?hya5 ⟨_, s0⟩ ?resta5
  case hya5 => (intro o ho W hW; simp only [List.getElem?_toArray, List.getElem?_cons_succ, List.getElem?_cons_zero, Option.some.injEq] at ho; subst ho; (try dsimp only at hW); obtain ⟨cs', hR⟩ := hW; obtain ⟨d0, d1, d2, d3, d4⟩ := rf0 hR.r; rw [hK0] at d0; rw [hK1] at d1; rw [hK2] at d2; go_simp; (first | done | rfl | (rw [w1'])))
  try simp only [Act.put, List.setIfInBounds_toArray, List.set_cons_zero, List.set_cons_succ]
  refine takeS 6 (some 12) ?va6 (by kernel_rfl) (by kernel_rfl) (by kernel_rfl) (by kernel_rfl) (fun _ _ _ h => h) (by rfl) ?hya6 ⟨_, s0⟩ ?resta6
  case hya6 => (intro o ho W hW; simp only [List.getElem?_toArray, List.getElem?_cons_succ, List.getElem?_cons_zero, Option.some.injEq] at ho; subst ho; (try dsimp only at hW); obtain ⟨cs', hR⟩ := hW; obtain ⟨d0, d1, d2, d3, d4⟩ := rf0 hR.r; rw [hK0] at d0; rw [hK1] at d1; rw [hK2] at d2; go_simp; try rfl)
  try simp only [Act.put, List.setIfInBounds_toArray, List.set_cons_zero, List.set_cons_succ]
  refine takeS 7 (some 13) ?va7 (by kernel_rfl) (by kernel_rfl) (by kernel_rfl) (by kernel_rfl) (fun _ _ _ h => h) (by rfl) ?hya7 ⟨_, s0⟩ ?resta7
  case hya7 => (intro o ho W hW; simp only [List.getElem?_toArray, List.getElem?_cons_succ, List.getElem?_cons_zero, Option.some.injEq] at ho; subst ho; (try dsimp only at hW); obtain ⟨cs', hR⟩ := hW; obtain ⟨d0, d1, d2, d3, d4⟩ := rf0 hR.r; rw [hK0] at d0; rw [hK1] at d1; rw [hK2] at d2; go_simp; try rfl)
  try simp only [Act.put, List.setIfInBounds_toArray, List.set_cons_zero, List.set_cons_succ]
  refine takeS 8 (some 14) (.int .u8 (x.a : Int)) (by kernel_rfl) (by kernel_rfl) (by kernel_rfl) (by kernel_rfl) (fun _ _ _ h => h) (by rfl) ?hya8 ⟨_, s0⟩ ?resta8
  case hya8 => (intro o ho W hW; simp only [List.getElem?_toArray, List.getElem?_cons_succ, List.getElem?_cons_zero, Option.some.injEq] at ho; subst ho; (try dsimp only at hW); obtain ⟨cs', hR⟩ := hW; obtain ⟨d0, d1, d2, d3, d4⟩ := rf0 hR.r; rw [hK0] at d0; rw [hK1] at d1; rw [hK2] at d2; go_simp; (first | done | rfl | (rw [w2'])))
  try simp only [Act.put, List.setIfInBounds_toArray, List.set_cons_zero, List.set_cons_succ]
  refine takeS 9 (some 15) ?va9 (by kernel_rfl) (by kernel_rfl) (by kernel_rfl) (by kernel_rfl) (fun _ _ _ h => h) (by rfl) ?hya9 ⟨_, s0⟩ ?resta9
  case hya9 => (intro o ho W hW; simp only [List.getElem?_toArray, List.getElem?_cons_succ, List.getElem?_cons_zero, Option.some.injEq] at ho; subst ho; (try dsimp only at hW); obtain ⟨cs', hR⟩ := hW; obtain ⟨d0, d1, d2, d3, d4⟩ := rf0 hR.r; rw [hK0] at d0; rw [hK1] at d1; rw [hK2] at d2; go_simp; try rfl)
  try simp only [Act.put, List.setIfInBounds_toArray, List.set_cons_zero, List.set_cons_succ]
  have i0 := s0.b.c 0
  have j0 : ∃ v, wd.cell? ⟨w.heap.size + 2, 0, none⟩ = some v := by rw [i0]; exact ⟨_, Array.getElem?_eq_getElem (by (try simp only [Array.size_setIfInBounds]); rw [kS.v_size]; decide)⟩
  obtain ⟨y0, j0⟩ := j0
  clear i0
  have k0 := s0.b.f 0
  have s1 := s0.put 0 (.int .u8 (x.k : Int))
  refine nextS 10 (by kernel_rfl) (by rfl) (fun o ho K hK => ?_)
  simp only [List.getElem?_toArray, List.getElem?_cons_succ, List.getElem?_cons_zero, Option.some.injEq] at ho; subst ho
  go_simp
  refine hK.out _ _ ⟨_, s1⟩ (fun _ => ?_)
  clear hK K
  try simp only [Act.put, List.setIfInBounds_toArray, List.set_cons_zero, List.set_cons_succ]
  obtain ⟨v1, hv1⟩ : ∃ V, wd.setCell ⟨w.heap.size + 2, 0, none⟩ (.int .u8 (x.k : Int)) = V := ⟨_, rfl⟩
  rw [hv1] at s1
  try rw [hv1]
  clear hv1 j0 k0
  refine takeS 11 (some 16) ?vp011 (by kernel_rfl) (by kernel_rfl) (by kernel_rfl) (by kernel_rfl) (fun _ _ _ h => h) (by rfl) ?hyp011 ⟨_, s1⟩ ?restp011
  case hyp011 => (intro o ho W hW; simp only [List.getElem?_toArray, List.getElem?_cons_succ, List.getElem?_cons_zero, Option.some.injEq] at ho; subst ho; (try dsimp only at hW); obtain ⟨cs', hR⟩ := hW; obtain ⟨d0, d1, d2, d3, d4⟩ := rf0 hR.r; rw [hK0] at d0; rw [hK1] at d1; rw [hK2] at d2; go_simp; try rfl)
  try simp only [Act.put, List.setIfInBounds_toArray, List.set_cons_zero, List.set_cons_succ]
  have i1 := s1.b.c 1
  have j1 : ∃ v, v1.cell? ⟨w.heap.size + 2, 1, none⟩ = some v := by rw [i1]; exact ⟨_, Array.getElem?_eq_getElem (by (try simp only [Array.size_setIfInBounds]); rw [kS.v_size]; decide)⟩
  obtain ⟨y1, j1⟩ := j1
  clear i1
  have k1 := s1.b.f 1
  have s2 := s1.put 1 (.int .u8 (x.p : Int))
  refine nextS 12 (by kernel_rfl) (by rfl) (fun o ho K hK => ?_)
  simp only [List.getElem?_toArray, List.getElem?_cons_succ, List.getElem?_cons_zero, Option.some.injEq] at ho; subst ho
  go_simp
  refine hK.out _ _ ⟨_, s2⟩ (fun _ => ?_)
  clear hK K
  try simp only [Act.put, List.setIfInBounds_toArray, List.set_cons_zero, List.set_cons_succ]
  obtain ⟨v2, hv2⟩ : ∃ V, v1.setCell ⟨w.heap.size + 2, 1, none⟩ (.int .u8 (x.p : Int)) = V := ⟨_, rfl⟩
  rw [hv2] at s2
  try rw [hv2]
  clear hv2 j1 k1
  refine takeS 13 (some 17) ?vp113 (by kernel_rfl) (by kernel_rfl) (by kernel_rfl) (by kernel_rfl) (fun _ _ _ h => h) (by rfl) ?hyp113 ⟨_, s2⟩ ?restp113
  case hyp113 => (intro o ho W hW; simp only [List.getElem?_toArray, List.getElem?_cons_succ, List.getElem?_cons_zero, Option.some.injEq] at ho; subst ho; (try dsimp only at hW); obtain ⟨cs', hR⟩ := hW; obtain ⟨d0, d1, d2, d3, d4⟩ := rf0 hR.r; rw [hK0] at d0; rw [hK1] at d1; rw [hK2] at d2; go_simp; try rfl)
  try simp only [Act.put, List.setIfInBounds_toArray, List.set_cons_zero, List.set_cons_succ]
  have i2 := s2.b.c 2
  have j2 : ∃ v, v2.cell? ⟨w.heap.size + 2, 2, none⟩ = some v := by rw [i2]; exact ⟨_, Array.getElem?_eq_getElem (by (try simp only [Array.size_setIfInBounds]); rw [kS.v_size]; decide)⟩
  obtain ⟨y2, j2⟩ := j2
  clear i2
  have k2 := s2.b.f 2
  have s3 := s2.put 2 (.int .u8 (x.a : Int))
  refine nextS 14 (by kernel_rfl) (by rfl) (fun o ho K hK => ?_)
  simp only [List.getElem?_toArray, List.getElem?_cons_succ, List.getElem?_cons_zero, Option.some.injEq] at ho; subst ho
  go_simp
  refine hK.out _ _ ⟨_, s3⟩ (fun _ => ?_)
  clear hK K
  try simp only [Act.put, List.setIfInBounds_toArray, List.set_cons_zero, List.set_cons_succ]
  obtain ⟨v3, hv3⟩ : ∃ V, v2.setCell ⟨w.heap.size + 2, 2, none⟩ (.int .u8 (x.a : Int)) = V := ⟨_, rfl⟩
  rw [hv3] at s3
  try rw [hv3]
  clear hv3 j2 k2
  refine wpAnyH_done (by kernel_rfl) ?_ _
  refine NoPanic.normal ?_
  rw [bq_start] at s3
  clear s0 s1 s2 R0
  go_wp2
  go_loopw [4] (fun i wr => ∃ k : Nat, k ≤ 12 ∧ i = .int .i64 k ∧ RB w wr x (bq x k 0)) (fun i _ => 12 - (intOf i).toNat)
  case atStart => exact ⟨0, Nat.zero_le _, rfl, s3⟩
  case round =>
    obtain ⟨k, hk, rfl, R⟩ := hrel
    clear s3
    by_cases hlt : k < 12
    · obtain ⟨b, hb⟩ : ∃ b, x.n.l[k]? = some b := ⟨_, List.getElem?_eq_getElem (by rw [x.n.len]; exact hlt)⟩
      have hc := rname_cell R.r (j := k) (b := b) hb
      have hcs : ∃ v, wr.cell? ⟨w.heap.size + 2, 3 + k, none⟩ = some v := by
        rw [R.b.c]
        exact ⟨_, Array.getElem?_eq_getElem (by rw [bq_size]; omega)⟩
      obtain ⟨v0, hc0⟩ := hcs
      have hf := R.b.f (3 + k)
      have hn := R.put (3 + k) (.int .u8 b)
      rw [bq_next1 hb hlt] at hn
      clear R hb
      obtain rfl | rfl | rfl | rfl | rfl | rfl | rfl | rfl | rfl | rfl | rfl | rfl : k = 0 ∨ k = 1 ∨ k = 2 ∨ k = 3 ∨ k = 4 ∨ k = 5 ∨ k = 6 ∨ k = 7 ∨ k = 8 ∨ k = 9 ∨ k = 10 ∨ k = 11 := by omega
      all_goals
        simp only [Nat.reduceAdd] at hc hc0 hf hn
        go_wp2
        go_roundw
        case rel => exact ⟨_, by decide, rfl, hn⟩
        case measure => simp [intOf]
    · obtain rfl : k = 12 := by omega
      clear hlt hk
      go_wp2
      go_loopw [5] (fun i wr => ∃ k : Nat, k ≤ 10 ∧ i = .int .i64 k ∧ RB w wr x (bq x 12 k)) (fun i _ => 10 - (intOf i).toNat)
      case atStart => exact ⟨0, Nat.zero_le _, rfl, R⟩
      case round =>
        obtain ⟨k, hk, rfl, R⟩ := hrel
        by_cases hlt : k < 10
        · obtain ⟨b, hb⟩ : ∃ b, x.t.l[k]? = some b := ⟨_, List.getElem?_eq_getElem (by rw [x.t.len]; exact hlt)⟩
          have hc := rtag_cell R.r (j := k) (b := b) hb
          have hcs : ∃ v, wr.cell? ⟨w.heap.size + 2, 15 + k, none⟩ = some v := by
            rw [R.b.c]
            exact ⟨_, Array.getElem?_eq_getElem (by rw [bq_size]; omega)⟩
          obtain ⟨v0, hc0⟩ := hcs
          have hf := R.b.f (15 + k)
          have hn := R.put (15 + k) (.int .u8 b)
          rw [bq_next2 hb hlt] at hn
          clear R hb
          obtain rfl | rfl | rfl | rfl | rfl | rfl | rfl | rfl | rfl | rfl : k = 0 ∨ k = 1 ∨ k = 2 ∨ k = 3 ∨ k = 4 ∨ k = 5 ∨ k = 6 ∨ k = 7 ∨ k = 8 ∨ k = 9 := by omega
          all_goals
            simp only [Nat.reduceAdd] at hc hc0 hf hn
            go_wp2
            go_roundw
            case rel => exact ⟨_, by decide, rfl, hn⟩
            case measure => simp [intOf]
        · obtain rfl : k = 10 := by omega
          have D3 := R.b
          rw [bq_end] at D3
          have r3 := Shp.rd_blk (S := kS) D3
          have hset := Shp.rd_set (S := kS) wr (w.heap.size + 1) x R.k
          have z9 := below_setRow R.z (Nat.le_succ _) (kS.v x)
          have tk := R.k
          clear R D3
          go_wp2
          exact bodyPost_ret (v := .agg (kS.v x)) (by rw [Nm.results_cell1 rfl]; simp [asAddr, Result.andThen, lvb_of hset]) rfl ⟨rfl, z9⟩
end Go.Proofs.Ytkhjnfplcaffnaa
set_option linter.unusedVariables false
set_option linter.unusedSimpArgs false
set_option maxRecDepth 100000
namespace Go.Proofs.Ytkhjnfplcaffnaa
open Go.RowKit
attribute [local go_sem ↓] Go.wp_at_zero Go.wp_at_succ ld_k lv_k st_k eq_k ne_k bd_k ld_b lv_b st_b eq_b ne_b bd_25 ld_r lv_r st_rk eq_rk ne_rk bd_r ld_p lv_p st_px bd_p Nm.ld_a Nm.ld_n Nm.st_a Nm.st_n Nm.eq_a Nm.eq_n Nm.ne_a Nm.ne_n Nm.lv_a Nm.lv_n ld_a ld_n st_a st_n eq_a eq_n ne_a ne_n lv_a lv_n
attribute [local go_sem] run_ldk run_lvk run_stk run_eqk run_nek run_bdk_z run_ldb run_lvb run_stb run_eqb run_neb run_ldr run_lvr run_strk run_eqrk run_nerk run_bdr_z run_ldp run_lvp run_stpx Nm.run_ld_a Nm.run_ld_n Nm.run_st_n Nm.run_eq_a Nm.run_eq_n Nm.run_ne_a Nm.run_ne_n Nm.run_lv_a Nm.run_lv_n Nm.rd_new Nm.rd_old Nm.rd_drew Nm.rd_drewN run_ld_a run_ld_n run_sw_a run_sw_n run_eq_a run_eq_n run_ne_a run_ne_n run_lv_a run_lv_n st_z ne_z eq_z rd_new rd_old rd_drew rd_drewN Shp.rd_new Shp.rd_old Shp.rd_drew Shp.rd_drewN Shp.rd_set Shp.tn_new Shp.tn_old Shp.tn_drew Shp.tn_drewN tn_new tn_old tn_drew tn_drewN rd_set setRow_alloc run_stn3 run_stt15 Shp.rd_extk cell_ext

theorem key_at (x : D.Ky) {j : Nat} (h : j < 25) : ∃ b, x.l[j]? = some b ∧ True := ⟨x.l[j]'(by rw [x.len]; exact h), List.getElem?_eq_getElem _, trivial⟩
theorem cell_kr {w : World} {g : Nat} {x : D.Ky} (h : kS.rd w ⟨g, 0, none⟩ = some x) {j b : Nat} (hb : x.l[j]? = some b) : w.cell? ⟨g, j, none⟩ = some (.int .u8 b) := by
  have := Shp.at_of h j (.int .u8 b) (bys_at hb)
  rwa [add_o, Nat.zero_add] at this
theorem like_endk {l k : List Nat} {j x y : Nat} {r : Bool} (h : Like l k j) (hx : l[j]? = some x) (hy : k[j]? = some y) (e : x ≠ y) (hr : Kept (decide (D.cmp l k < 0) = r)) : decide (x < y) = r := by
  rw [← hr.out, ← h.out, kdrop_at hx, kdrop_at hy, D.cmp, if_neg e, decide_eq_decide]
  split <;> simp <;> omega
theorem like_stop {a b : D.Ky} {r : Bool} (h : Like a.l b.l 25) (hr : Kept (decide (D.cmp a.l b.l < 0) = r)) : false = r := by
  rw [← hr.out, ← h.out, List.drop_of_length_le (by rw [a.len]; omega), List.drop_of_length_le (by rw [b.len]; omega)]
  rfl

set_option maxHeartbeats 16000000 in
theorem rless_key (a b : D.Ky) (r : Bool) (w : World) (hr : Kept (decide (D.cmp a.l b.l < 0) = r)) : Calls Try.prog 30 #[.agg (rS.v (D.toR a)), .agg (rS.v (D.toR b))] w fun e w' => e = .returned (.bool r) ∧ Below w.heap.size w w' := by
  have CA := Lib.hid (rbytes_any a)
  have CB := Lib.hid (rbytes_any b)
  obtain ⟨w0, hw0⟩ : ∃ w0, (w.alloc (.cells (rS.v (D.toR a)) 40)).alloc (.cells (rS.v (D.toR b)) 40) = w0 := ⟨_, rfl⟩
  have f0 : rS.rd w0 ⟨w.heap.size, 0, none⟩ = some (D.toR a) := by rw [← hw0]; exact Shp.rd_on (Shp.rd_new (S := rS) w _ _ _ rfl) (below_alloc_ _ _)
  have f1 : rS.rd w0 ⟨w.heap.size + 1, 0, none⟩ = some (D.toR b) := by rw [← hw0]; exact Shp.rd_new _ _ _ _ (by simp)
  have b0 : Below w.heap.size w w0 := by rw [← hw0]; exact (below_alloc_ _ _).alloc (by simp) _
  go_enter Try.func30, Try.ntmps30
  go_wp2_with fail
  try rw [hw0]
  clear hw0
  go_cut [5, 6] from 8 (fun s5 s6 wx => ∃ k5 k6 : Nat, s5 = .pointer (some ⟨k5, 0, none⟩) ∧ s6 = .pointer (some ⟨k6, 0, none⟩) ∧ kS.rd wx ⟨k5, 0, none⟩ = some a ∧ kS.rd wx ⟨k6, 0, none⟩ = some b ∧ Below w0.heap.size w0 wx)
  case first =>
    refine wp_region_noPanic ?_
    refine wp_region_held_drew (S := fun W => Below w0.heap.size w0 W) (by kernel_rfl) (Below.refl _ _).drew (fun _ => ?_)
    obtain ⟨wd, hwd⟩ : ∃ wd, w0.drew = wd := ⟨_, rfl⟩
    have sd : Below w0.heap.size w0 wd := by rw [← hwd]; exact (Below.refl _ _).drew
    rw [hwd]
    clear hwd
    refine takeS 0 (some 8) ?vr0 (by kernel_rfl) (by kernel_rfl) (by kernel_rfl) (by kernel_rfl) (fun _ _ _ h => h) (by rfl) ?hyr0 sd ?restr0
    case hyr0 => (intro o ho W hW; simp only [List.getElem?_toArray, List.getElem?_cons_succ, List.getElem?_cons_zero, Option.some.injEq] at ho; subst ho; (try dsimp only at hW); have g := Shp.rd_on f0 hW; go_simp; try rfl)
    try simp only [Act.put, List.setIfInBounds_toArray, List.set_cons_zero, List.set_cons_succ]
    refine takeS 2 (some 10) ?vr2 (by kernel_rfl) (by kernel_rfl) (by kernel_rfl) (by kernel_rfl) (fun _ _ _ h => h) (by rfl) ?hyr2 sd ?restr2
    case hyr2 => (intro o ho W hW; simp only [List.getElem?_toArray, List.getElem?_cons_succ, List.getElem?_cons_zero, Option.some.injEq] at ho; subst ho; (try dsimp only at hW); have g := Shp.rd_on f1 hW; go_simp; try rfl)
    try simp only [Act.put, List.setIfInBounds_toArray, List.set_cons_zero, List.set_cons_succ]
    refine fork3 1 4 5 (by kernel_rfl) (by rfl) (by rfl) (by rfl) (fun o ho K hK => ?_) (fun o ho K hK => ?_) (fun o ho K hK => ?_)
    · simp only [List.getElem?_toArray, List.getElem?_cons_succ, List.getElem?_cons_zero, Option.some.injEq] at ho; subst ho
      go_simp
      (go_at_call 45; (with_reducible refine (CA.out _).mono ?_); rintro e u1w ⟨rfl, b1⟩)
      have s1 : Below w0.heap.size w0 u1w := below_up sd sd.size b1
      refine hK.out _ _ s1 (fun _ => ?_)
      clear hK K
      try simp only [Act.put, List.setIfInBounds_toArray, List.set_cons_zero, List.set_cons_succ]
      refine fork3 3 4 5 (by kernel_rfl) (by rfl) (by rfl) (by rfl) (fun o ho K hK => ?_) (fun o ho K hK => ?_) (fun o ho K hK => ?_)
      · simp only [List.getElem?_toArray, List.getElem?_cons_succ, List.getElem?_cons_zero, Option.some.injEq] at ho; subst ho
        go_simp
        (go_at_call 45; (with_reducible refine (CB.out _).mono ?_); rintro e u2w ⟨rfl, b2⟩)
        have s2 : Below w0.heap.size w0 u2w := below_up s1 s1.size b2
        refine hK.out _ _ s2 (fun _ => ?_)
        clear hK K
        try simp only [Act.put, List.setIfInBounds_toArray, List.set_cons_zero, List.set_cons_succ]
        refine forkS 4 5 (by kernel_rfl) (by rfl) (by rfl) (fun o ho K hK => ?_) (fun o ho K hK => ?_)
        · simp only [List.getElem?_toArray, List.getElem?_cons_succ, List.getElem?_cons_zero, Option.some.injEq] at ho; subst ho
          go_simp
          have s3 : Below w0.heap.size w0 (u2w.alloc (.cells #[.int .u8 0, .int .u8 0, .int .u8 0, .int .u8 0, .int .u8 0, .int .u8 0, .int .u8 0, .int .u8 0, .int .u8 0, .int .u8 0, .int .u8 0, .int .u8 0, .int .u8 0, .int .u8 0, .int .u8 0, .int .u8 0, .int .u8 0, .int .u8 0, .int .u8 0, .int .u8 0, .int .u8 0, .int .u8 0, .int .u8 0, .int .u8 0, .int .u8 0] 101)) := s2.alloc s2.size _
          have q3 : Shp.tn 25 (u2w.alloc (.cells #[.int .u8 0, .int .u8 0, .int .u8 0, .int .u8 0, .int .u8 0, .int .u8 0, .int .u8 0, .int .u8 0, .int .u8 0, .int .u8 0, .int .u8 0, .int .u8 0, .int .u8 0, .int .u8 0, .int .u8 0, .int .u8 0, .int .u8 0, .int .u8 0, .int .u8 0, .int .u8 0, .int .u8 0, .int .u8 0, .int .u8 0, .int .u8 0, .int .u8 0] 101)) u2w.heap.size = true := Shp.tn_of (Blk.new u2w _ _) rfl
          refine hK.out _ _ s3 (fun _ => ?_)
          clear hK K
          try simp only [Act.put, List.setIfInBounds_toArray, List.set_cons_zero, List.set_cons_succ]
          obtain ⟨u3w, hu3w⟩ : ∃ V, u2w.alloc (.cells #[.int .u8 0, .int .u8 0, .int .u8 0, .int .u8 0, .int .u8 0, .int .u8 0, .int .u8 0, .int .u8 0, .int .u8 0, .int .u8 0, .int .u8 0, .int .u8 0, .int .u8 0, .int .u8 0, .int .u8 0, .int .u8 0, .int .u8 0, .int .u8 0, .int .u8 0, .int .u8 0, .int .u8 0, .int .u8 0, .int .u8 0, .int .u8 0, .int .u8 0] 101) = V := ⟨_, rfl⟩
          rw [hu3w] at s3 q3
          rw [hu3w]
          clear hu3w
          refine nextS 5 (by kernel_rfl) (by rfl) (fun o ho K hK => ?_)
          simp only [List.getElem?_toArray, List.getElem?_cons_succ, List.getElem?_cons_zero, Option.some.injEq] at ho; subst ho
          go_simp
          have s4 : Below w0.heap.size w0 (u3w.alloc (.cells #[.int .u8 0, .int .u8 0, .int .u8 0, .int .u8 0, .int .u8 0, .int .u8 0, .int .u8 0, .int .u8 0, .int .u8 0, .int .u8 0, .int .u8 0, .int .u8 0, .int .u8 0, .int .u8 0, .int .u8 0, .int .u8 0, .int .u8 0, .int .u8 0, .int .u8 0, .int .u8 0, .int .u8 0, .int .u8 0, .int .u8 0, .int .u8 0, .int .u8 0] 101)) := s3.alloc s3.size _
          have q4 : Shp.tn 25 (u3w.alloc (.cells #[.int .u8 0, .int .u8 0, .int .u8 0, .int .u8 0, .int .u8 0, .int .u8 0, .int .u8 0, .int .u8 0, .int .u8 0, .int .u8 0, .int .u8 0, .int .u8 0, .int .u8 0, .int .u8 0, .int .u8 0, .int .u8 0, .int .u8 0, .int .u8 0, .int .u8 0, .int .u8 0, .int .u8 0, .int .u8 0, .int .u8 0, .int .u8 0, .int .u8 0] 101)) u3w.heap.size = true := Shp.tn_of (Blk.new u3w _ _) rfl
          have t4_4 := Shp.tn_on q3 (below_alloc_ u3w (.cells #[.int .u8 0, .int .u8 0, .int .u8 0, .int .u8 0, .int .u8 0, .int .u8 0, .int .u8 0, .int .u8 0, .int .u8 0, .int .u8 0, .int .u8 0, .int .u8 0, .int .u8 0, .int .u8 0, .int .u8 0, .int .u8 0, .int .u8 0, .int .u8 0, .int .u8 0, .int .u8 0, .int .u8 0, .int .u8 0, .int .u8 0, .int .u8 0, .int .u8 0] 101))
          have ne : u2w.heap.size ≠ u3w.heap.size := Nat.ne_of_lt (Shp.tn_lt q3)
          refine hK.out _ _ s4 (fun _ => ?_)
          clear hK K
          try simp only [Act.put, List.setIfInBounds_toArray, List.set_cons_zero, List.set_cons_succ]
          obtain ⟨u4w, hu4w⟩ : ∃ V, u3w.alloc (.cells #[.int .u8 0, .int .u8 0, .int .u8 0, .int .u8 0, .int .u8 0, .int .u8 0, .int .u8 0, .int .u8 0, .int .u8 0, .int .u8 0, .int .u8 0, .int .u8 0, .int .u8 0, .int .u8 0, .int .u8 0, .int .u8 0, .int .u8 0, .int .u8 0, .int .u8 0, .int .u8 0, .int .u8 0, .int .u8 0, .int .u8 0, .int .u8 0, .int .u8 0] 101) = V := ⟨_, rfl⟩
          rw [hu4w] at s4 q4 t4_4
          rw [hu4w]
          clear hu4w
          have t6 : Shp.tn 25 (u4w.setRow (u2w.heap.size) (kS.v a)) (u3w.heap.size) = true := Shp.tn_setRow (u2w.heap.size) (kS.v_size a) q4
          refine nextS 6 (by kernel_rfl) (by rfl) (fun o ho K hK => ?_)
          simp only [List.getElem?_toArray, List.getElem?_cons_succ, List.getElem?_cons_zero, Option.some.injEq] at ho; subst ho
          go_simp
          have s6 : Below w0.heap.size w0 (u4w.setRow (u2w.heap.size) (kS.v a)) := below_setRow s4 s2.size _
          refine hK.out _ _ s6 (fun _ => ?_)
          clear hK K
          try simp only [Act.put, List.setIfInBounds_toArray, List.set_cons_zero, List.set_cons_succ]
          refine nextS 7 (by kernel_rfl) (by rfl) (fun o ho K hK => ?_)
          simp only [List.getElem?_toArray, List.getElem?_cons_succ, List.getElem?_cons_zero, Option.some.injEq] at ho; subst ho
          go_simp
          have s7 : Below w0.heap.size w0 ((u4w.setRow (u2w.heap.size) (kS.v a)).setRow (u3w.heap.size) (kS.v b)) := below_setRow s6 s3.size _
          refine hK.out _ _ s7 (fun _ => ?_)
          clear hK K
          try simp only [Act.put, List.setIfInBounds_toArray, List.set_cons_zero, List.set_cons_succ]
          refine wpAnyH_done (by kernel_rfl) ?_ _
          refine NoPanic.normal ?_
          have RB := Shp.rd_set (S := kS) (u4w.setRow (u2w.heap.size) (kS.v a)) (u3w.heap.size) b t6
          have RA : kS.rd ((u4w.setRow (u2w.heap.size) (kS.v a)).setRow (u3w.heap.size) (kS.v b)) ⟨u2w.heap.size, 0, none⟩ = some a := by rw [Shp.rd_far _ _ _ _ ne]; exact Shp.rd_set (S := kS) _ _ _ t4_4
          go_wp2_with fail
          go_meet
          exact ⟨_, _, rfl, rfl, RA, RB, s7⟩
        · simp only [List.getElem?_toArray, List.getElem?_cons_succ, List.getElem?_cons_zero, Option.some.injEq] at ho; subst ho
          go_simp
          have s5 : Below w0.heap.size w0 (u2w.alloc (.cells #[.int .u8 0, .int .u8 0, .int .u8 0, .int .u8 0, .int .u8 0, .int .u8 0, .int .u8 0, .int .u8 0, .int .u8 0, .int .u8 0, .int .u8 0, .int .u8 0, .int .u8 0, .int .u8 0, .int .u8 0, .int .u8 0, .int .u8 0, .int .u8 0, .int .u8 0, .int .u8 0, .int .u8 0, .int .u8 0, .int .u8 0, .int .u8 0, .int .u8 0] 101)) := s2.alloc s2.size _
          have q5 : Shp.tn 25 (u2w.alloc (.cells #[.int .u8 0, .int .u8 0, .int .u8 0, .int .u8 0, .int .u8 0, .int .u8 0, .int .u8 0, .int .u8 0, .int .u8 0, .int .u8 0, .int .u8 0, .int .u8 0, .int .u8 0, .int .u8 0, .int .u8 0, .int .u8 0, .int .u8 0, .int .u8 0, .int .u8 0, .int .u8 0, .int .u8 0, .int .u8 0, .int .u8 0, .int .u8 0, .int .u8 0] 101)) u2w.heap.size = true := Shp.tn_of (Blk.new u2w _ _) rfl
          refine hK.out _ _ s5 (fun _ => ?_)
          clear hK K
          try simp only [Act.put, List.setIfInBounds_toArray, List.set_cons_zero, List.set_cons_succ]
          obtain ⟨u5w, hu5w⟩ : ∃ V, u2w.alloc (.cells #[.int .u8 0, .int .u8 0, .int .u8 0, .int .u8 0, .int .u8 0, .int .u8 0, .int .u8 0, .int .u8 0, .int .u8 0, .int .u8 0, .int .u8 0, .int .u8 0, .int .u8 0, .int .u8 0, .int .u8 0, .int .u8 0, .int .u8 0, .int .u8 0, .int .u8 0, .int .u8 0, .int .u8 0, .int .u8 0, .int .u8 0, .int .u8 0, .int .u8 0] 101) = V := ⟨_, rfl⟩
          rw [hu5w] at s5 q5
          rw [hu5w]
          clear hu5w
          refine nextS 4 (by kernel_rfl) (by rfl) (fun o ho K hK => ?_)
          simp only [List.getElem?_toArray, List.getElem?_cons_succ, List.getElem?_cons_zero, Option.some.injEq] at ho; subst ho
          go_simp
          have s6 : Below w0.heap.size w0 (u5w.alloc (.cells #[.int .u8 0, .int .u8 0, .int .u8 0, .int .u8 0, .int .u8 0, .int .u8 0, .int .u8 0, .int .u8 0, .int .u8 0, .int .u8 0, .int .u8 0, .int .u8 0, .int .u8 0, .int .u8 0, .int .u8 0, .int .u8 0, .int .u8 0, .int .u8 0, .int .u8 0, .int .u8 0, .int .u8 0, .int .u8 0, .int .u8 0, .int .u8 0, .int .u8 0] 101)) := s5.alloc s5.size _
          have q6 : Shp.tn 25 (u5w.alloc (.cells #[.int .u8 0, .int .u8 0, .int .u8 0, .int .u8 0, .int .u8 0, .int .u8 0, .int .u8 0, .int .u8 0, .int .u8 0, .int .u8 0, .int .u8 0, .int .u8 0, .int .u8 0, .int .u8 0, .int .u8 0, .int .u8 0, .int .u8 0, .int .u8 0, .int .u8 0, .int .u8 0, .int .u8 0, .int .u8 0, .int .u8 0, .int .u8 0, .int .u8 0] 101)) u5w.heap.size = true := Shp.tn_of (Blk.new u5w _ _) rfl
          have t5_6 := Shp.tn_on q5 (below_alloc_ u5w (.cells #[.int .u8 0, .int .u8 0, .int .u8 0, .int .u8 0, .int .u8 0, .int .u8 0, .int .u8 0, .int .u8 0, .int .u8 0, .int .u8 0, .int .u8 0, .int .u8 0, .int .u8 0, .int .u8 0, .int .u8 0, .int .u8 0, .int .u8 0, .int .u8 0, .int .u8 0, .int .u8 0, .int .u8 0, .int .u8 0, .int .u8 0, .int .u8 0, .int .u8 0] 101))
          have ne : u5w.heap.size ≠ u2w.heap.size := Nat.ne_of_gt (Shp.tn_lt q5)
          refine hK.out _ _ s6 (fun _ => ?_)
          clear hK K
          try simp only [Act.put, List.setIfInBounds_toArray, List.set_cons_zero, List.set_cons_succ]
          obtain ⟨u6w, hu6w⟩ : ∃ V, u5w.alloc (.cells #[.int .u8 0, .int .u8 0, .int .u8 0, .int .u8 0, .int .u8 0, .int .u8 0, .int .u8 0, .int .u8 0, .int .u8 0, .int .u8 0, .int .u8 0, .int .u8 0, .int .u8 0, .int .u8 0, .int .u8 0, .int .u8 0, .int .u8 0, .int .u8 0, .int .u8 0, .int .u8 0, .int .u8 0, .int .u8 0, .int .u8 0, .int .u8 0, .int .u8 0] 101) = V := ⟨_, rfl⟩
          rw [hu6w] at s6 q6 t5_6
          rw [hu6w]
          clear hu6w
          have t6 : Shp.tn 25 (u6w.setRow (u5w.heap.size) (kS.v a)) (u2w.heap.size) = true := Shp.tn_setRow (u5w.heap.size) (kS.v_size a) t5_6
          refine nextS 6 (by kernel_rfl) (by rfl) (fun o ho K hK => ?_)
          simp only [List.getElem?_toArray, List.getElem?_cons_succ, List.getElem?_cons_zero, Option.some.injEq] at ho; subst ho
          go_simp
          have s6 : Below w0.heap.size w0 (u6w.setRow (u5w.heap.size) (kS.v a)) := below_setRow s6 s5.size _
          refine hK.out _ _ s6 (fun _ => ?_)
          clear hK K
          try simp only [Act.put, List.setIfInBounds_toArray, List.set_cons_zero, List.set_cons_succ]
          refine nextS 7 (by kernel_rfl) (by rfl) (fun o ho K hK => ?_)
          simp only [List.getElem?_toArray, List.getElem?_cons_succ, List.getElem?_cons_zero, Option.some.injEq] at ho; subst ho
          go_simp
          have s7 : Below w0.heap.size w0 ((u6w.setRow (u5w.heap.size) (kS.v a)).setRow (u2w.heap.size) (kS.v b)) := below_setRow s6 s2.size _
          refine hK.out _ _ s7 (fun _ => ?_)
          clear hK K
          try simp only [Act.put, List.setIfInBounds_toArray, List.set_cons_zero, List.set_cons_succ]
          refine wpAnyH_done (by kernel_rfl) ?_ _
          refine NoPanic.normal ?_
          have RB := Shp.rd_set (S := kS) (u6w.setRow (u5w.heap.size) (kS.v a)) (u2w.heap.size) b t6
          have RA : kS.rd ((u6w.setRow (u5w.heap.size) (kS.v a)).setRow (u2w.heap.size) (kS.v b)) ⟨u5w.heap.size, 0, none⟩ = some a := by rw [Shp.rd_far _ _ _ _ ne]; exact Shp.rd_set (S := kS) _ _ _ q6
          go_wp2_with fail
          go_meet
          exact ⟨_, _, rfl, rfl, RA, RB, s7⟩
      · simp only [List.getElem?_toArray, List.getElem?_cons_succ, List.getElem?_cons_zero, Option.some.injEq] at ho; subst ho
        go_simp
        have s7 : Below w0.heap.size w0 (u1w.alloc (.cells #[.int .u8 0, .int .u8 0, .int .u8 0, .int .u8 0, .int .u8 0, .int .u8 0, .int .u8 0, .int .u8 0, .int .u8 0, .int .u8 0, .int .u8 0, .int .u8 0, .int .u8 0, .int .u8 0, .int .u8 0, .int .u8 0, .int .u8 0, .int .u8 0, .int .u8 0, .int .u8 0, .int .u8 0, .int .u8 0, .int .u8 0, .int .u8 0, .int .u8 0] 101)) := s1.alloc s1.size _
        have q7 : Shp.tn 25 (u1w.alloc (.cells #[.int .u8 0, .int .u8 0, .int .u8 0, .int .u8 0, .int .u8 0, .int .u8 0, .int .u8 0, .int .u8 0, .int .u8 0, .int .u8 0, .int .u8 0, .int .u8 0, .int .u8 0, .int .u8 0, .int .u8 0, .int .u8 0, .int .u8 0, .int .u8 0, .int .u8 0, .int .u8 0, .int .u8 0, .int .u8 0, .int .u8 0, .int .u8 0, .int .u8 0] 101)) u1w.heap.size = true := Shp.tn_of (Blk.new u1w _ _) rfl
        refine hK.out _ _ s7 (fun _ => ?_)
        clear hK K
        try simp only [Act.put, List.setIfInBounds_toArray, List.set_cons_zero, List.set_cons_succ]
        obtain ⟨u7w, hu7w⟩ : ∃ V, u1w.alloc (.cells #[.int .u8 0, .int .u8 0, .int .u8 0, .int .u8 0, .int .u8 0, .int .u8 0, .int .u8 0, .int .u8 0, .int .u8 0, .int .u8 0, .int .u8 0, .int .u8 0, .int .u8 0, .int .u8 0, .int .u8 0, .int .u8 0, .int .u8 0, .int .u8 0, .int .u8 0, .int .u8 0, .int .u8 0, .int .u8 0, .int .u8 0, .int .u8 0, .int .u8 0] 101) = V := ⟨_, rfl⟩
        rw [hu7w] at s7 q7
        rw [hu7w]
        clear hu7w
        refine forkS 3 5 (by kernel_rfl) (by rfl) (by rfl) (fun o ho K hK => ?_) (fun o ho K hK => ?_)
        · simp only [List.getElem?_toArray, List.getElem?_cons_succ, List.getElem?_cons_zero, Option.some.injEq] at ho; subst ho
          go_simp
          (go_at_call 45; (with_reducible refine (CB.out _).mono ?_); rintro e u8w ⟨rfl, b8⟩)
          have s8 : Below w0.heap.size w0 u8w := below_up s7 s7.size b8
          have t4_8 := Shp.tn_on q7 b8
          refine hK.out _ _ s8 (fun _ => ?_)
          clear hK K
          try simp only [Act.put, List.setIfInBounds_toArray, List.set_cons_zero, List.set_cons_succ]
          refine nextS 5 (by kernel_rfl) (by rfl) (fun o ho K hK => ?_)
          simp only [List.getElem?_toArray, List.getElem?_cons_succ, List.getElem?_cons_zero, Option.some.injEq] at ho; subst ho
          go_simp
          have s9 : Below w0.heap.size w0 (u8w.alloc (.cells #[.int .u8 0, .int .u8 0, .int .u8 0, .int .u8 0, .int .u8 0, .int .u8 0, .int .u8 0, .int .u8 0, .int .u8 0, .int .u8 0, .int .u8 0, .int .u8 0, .int .u8 0, .int .u8 0, .int .u8 0, .int .u8 0, .int .u8 0, .int .u8 0, .int .u8 0, .int .u8 0, .int .u8 0, .int .u8 0, .int .u8 0, .int .u8 0, .int .u8 0] 101)) := s8.alloc s8.size _
          have q9 : Shp.tn 25 (u8w.alloc (.cells #[.int .u8 0, .int .u8 0, .int .u8 0, .int .u8 0, .int .u8 0, .int .u8 0, .int .u8 0, .int .u8 0, .int .u8 0, .int .u8 0, .int .u8 0, .int .u8 0, .int .u8 0, .int .u8 0, .int .u8 0, .int .u8 0, .int .u8 0, .int .u8 0, .int .u8 0, .int .u8 0, .int .u8 0, .int .u8 0, .int .u8 0, .int .u8 0, .int .u8 0] 101)) u8w.heap.size = true := Shp.tn_of (Blk.new u8w _ _) rfl
          have t4_9 := Shp.tn_on t4_8 (below_alloc_ u8w (.cells #[.int .u8 0, .int .u8 0, .int .u8 0, .int .u8 0, .int .u8 0, .int .u8 0, .int .u8 0, .int .u8 0, .int .u8 0, .int .u8 0, .int .u8 0, .int .u8 0, .int .u8 0, .int .u8 0, .int .u8 0, .int .u8 0, .int .u8 0, .int .u8 0, .int .u8 0, .int .u8 0, .int .u8 0, .int .u8 0, .int .u8 0, .int .u8 0, .int .u8 0] 101))
          have ne : u1w.heap.size ≠ u8w.heap.size := Nat.ne_of_lt (Shp.tn_lt t4_8)
          refine hK.out _ _ s9 (fun _ => ?_)
          clear hK K
          try simp only [Act.put, List.setIfInBounds_toArray, List.set_cons_zero, List.set_cons_succ]
          obtain ⟨u9w, hu9w⟩ : ∃ V, u8w.alloc (.cells #[.int .u8 0, .int .u8 0, .int .u8 0, .int .u8 0, .int .u8 0, .int .u8 0, .int .u8 0, .int .u8 0, .int .u8 0, .int .u8 0, .int .u8 0, .int .u8 0, .int .u8 0, .int .u8 0, .int .u8 0, .int .u8 0, .int .u8 0, .int .u8 0, .int .u8 0, .int .u8 0, .int .u8 0, .int .u8 0, .int .u8 0, .int .u8 0, .int .u8 0] 101) = V := ⟨_, rfl⟩
          rw [hu9w] at s9 q9 t4_9
          rw [hu9w]
          clear hu9w
          have t6 : Shp.tn 25 (u9w.setRow (u1w.heap.size) (kS.v a)) (u8w.heap.size) = true := Shp.tn_setRow (u1w.heap.size) (kS.v_size a) q9
          refine nextS 6 (by kernel_rfl) (by rfl) (fun o ho K hK => ?_)
          simp only [List.getElem?_toArray, List.getElem?_cons_succ, List.getElem?_cons_zero, Option.some.injEq] at ho; subst ho
          go_simp
          have s6 : Below w0.heap.size w0 (u9w.setRow (u1w.heap.size) (kS.v a)) := below_setRow s9 s1.size _
          refine hK.out _ _ s6 (fun _ => ?_)
          clear hK K
          try simp only [Act.put, List.setIfInBounds_toArray, List.set_cons_zero, List.set_cons_succ]
          refine nextS 7 (by kernel_rfl) (by rfl) (fun o ho K hK => ?_)
          simp only [List.getElem?_toArray, List.getElem?_cons_succ, List.getElem?_cons_zero, Option.some.injEq] at ho; subst ho
          go_simp
          have s7 : Below w0.heap.size w0 ((u9w.setRow (u1w.heap.size) (kS.v a)).setRow (u8w.heap.size) (kS.v b)) := below_setRow s6 s8.size _
          refine hK.out _ _ s7 (fun _ => ?_)
          clear hK K
          try simp only [Act.put, List.setIfInBounds_toArray, List.set_cons_zero, List.set_cons_succ]
          refine wpAnyH_done (by kernel_rfl) ?_ _
          refine NoPanic.normal ?_
          have RB := Shp.rd_set (S := kS) (u9w.setRow (u1w.heap.size) (kS.v a)) (u8w.heap.size) b t6
          have RA : kS.rd ((u9w.setRow (u1w.heap.size) (kS.v a)).setRow (u8w.heap.size) (kS.v b)) ⟨u1w.heap.size, 0, none⟩ = some a := by rw [Shp.rd_far _ _ _ _ ne]; exact Shp.rd_set (S := kS) _ _ _ t4_9
          go_wp2_with fail
          go_meet
          exact ⟨_, _, rfl, rfl, RA, RB, s7⟩
        · simp only [List.getElem?_toArray, List.getElem?_cons_succ, List.getElem?_cons_zero, Option.some.injEq] at ho; subst ho
          go_simp
          have s10 : Below w0.heap.size w0 (u7w.alloc (.cells #[.int .u8 0, .int .u8 0, .int .u8 0, .int .u8 0, .int .u8 0, .int .u8 0, .int .u8 0, .int .u8 0, .int .u8 0, .int .u8 0, .int .u8 0, .int .u8 0, .int .u8 0, .int .u8 0, .int .u8 0, .int .u8 0, .int .u8 0, .int .u8 0, .int .u8 0, .int .u8 0, .int .u8 0, .int .u8 0, .int .u8 0, .int .u8 0, .int .u8 0] 101)) := s7.alloc s7.size _
          have q10 : Shp.tn 25 (u7w.alloc (.cells #[.int .u8 0, .int .u8 0, .int .u8 0, .int .u8 0, .int .u8 0, .int .u8 0, .int .u8 0, .int .u8 0, .int .u8 0, .int .u8 0, .int .u8 0, .int .u8 0, .int .u8 0, .int .u8 0, .int .u8 0, .int .u8 0, .int .u8 0, .int .u8 0, .int .u8 0, .int .u8 0, .int .u8 0, .int .u8 0, .int .u8 0, .int .u8 0, .int .u8 0] 101)) u7w.heap.size = true := Shp.tn_of (Blk.new u7w _ _) rfl
          have t4_10 := Shp.tn_on q7 (below_alloc_ u7w (.cells #[.int .u8 0, .int .u8 0, .int .u8 0, .int .u8 0, .int .u8 0, .int .u8 0, .int .u8 0, .int .u8 0, .int .u8 0, .int .u8 0, .int .u8 0, .int .u8 0, .int .u8 0, .int .u8 0, .int .u8 0, .int .u8 0, .int .u8 0, .int .u8 0, .int .u8 0, .int .u8 0, .int .u8 0, .int .u8 0, .int .u8 0, .int .u8 0, .int .u8 0] 101))
          have ne : u1w.heap.size ≠ u7w.heap.size := Nat.ne_of_lt (Shp.tn_lt q7)
          refine hK.out _ _ s10 (fun _ => ?_)
          clear hK K
          try simp only [Act.put, List.setIfInBounds_toArray, List.set_cons_zero, List.set_cons_succ]
          obtain ⟨u10w, hu10w⟩ : ∃ V, u7w.alloc (.cells #[.int .u8 0, .int .u8 0, .int .u8 0, .int .u8 0, .int .u8 0, .int .u8 0, .int .u8 0, .int .u8 0, .int .u8 0, .int .u8 0, .int .u8 0, .int .u8 0, .int .u8 0, .int .u8 0, .int .u8 0, .int .u8 0, .int .u8 0, .int .u8 0, .int .u8 0, .int .u8 0, .int .u8 0, .int .u8 0, .int .u8 0, .int .u8 0, .int .u8 0] 101) = V := ⟨_, rfl⟩
          rw [hu10w] at s10 q10 t4_10
          rw [hu10w]
          clear hu10w
          refine nextS 3 (by kernel_rfl) (by rfl) (fun o ho K hK => ?_)
          simp only [List.getElem?_toArray, List.getElem?_cons_succ, List.getElem?_cons_zero, Option.some.injEq] at ho; subst ho
          go_simp
          (go_at_call 45; (with_reducible refine (CB.out _).mono ?_); rintro e u11w ⟨rfl, b11⟩)
          have s11 : Below w0.heap.size w0 u11w := below_up s10 s10.size b11
          have t4_11 := Shp.tn_on t4_10 b11
          have t5_11 := Shp.tn_on q10 b11
          refine hK.out _ _ s11 (fun _ => ?_)
          clear hK K
          try simp only [Act.put, List.setIfInBounds_toArray, List.set_cons_zero, List.set_cons_succ]
          have t6 : Shp.tn 25 (u11w.setRow (u1w.heap.size) (kS.v a)) (u7w.heap.size) = true := Shp.tn_setRow (u1w.heap.size) (kS.v_size a) t5_11
          refine nextS 6 (by kernel_rfl) (by rfl) (fun o ho K hK => ?_)
          simp only [List.getElem?_toArray, List.getElem?_cons_succ, List.getElem?_cons_zero, Option.some.injEq] at ho; subst ho
          go_simp
          have s6 : Below w0.heap.size w0 (u11w.setRow (u1w.heap.size) (kS.v a)) := below_setRow s11 s1.size _
          refine hK.out _ _ s6 (fun _ => ?_)
          clear hK K
          try simp only [Act.put, List.setIfInBounds_toArray, List.set_cons_zero, List.set_cons_succ]
          refine nextS 7 (by kernel_rfl) (by rfl) (fun o ho K hK => ?_)
          simp only [List.getElem?_toArray, List.getElem?_cons_succ, List.getElem?_cons_zero, Option.some.injEq] at ho; subst ho
          go_simp
          have s7 : Below w0.heap.size w0 ((u11w.setRow (u1w.heap.size) (kS.v a)).setRow (u7w.heap.size) (kS.v b)) := below_setRow s6 s7.size _
          refine hK.out _ _ s7 (fun _ => ?_)
          clear hK K
          try simp only [Act.put, List.setIfInBounds_toArray, List.set_cons_zero, List.set_cons_succ]
          refine wpAnyH_done (by kernel_rfl) ?_ _
          refine NoPanic.normal ?_
          have RB := Shp.rd_set (S := kS) (u11w.setRow (u1w.heap.size) (kS.v a)) (u7w.heap.size) b t6
          have RA : kS.rd ((u11w.setRow (u1w.heap.size) (kS.v a)).setRow (u7w.heap.size) (kS.v b)) ⟨u1w.heap.size, 0, none⟩ = some a := by rw [Shp.rd_far _ _ _ _ ne]; exact Shp.rd_set (S := kS) _ _ _ t4_11
          go_wp2_with fail
          go_meet
          exact ⟨_, _, rfl, rfl, RA, RB, s7⟩
      · simp only [List.getElem?_toArray, List.getElem?_cons_succ, List.getElem?_cons_zero, Option.some.injEq] at ho; subst ho
        go_simp
        have s12 : Below w0.heap.size w0 (u1w.alloc (.cells #[.int .u8 0, .int .u8 0, .int .u8 0, .int .u8 0, .int .u8 0, .int .u8 0, .int .u8 0, .int .u8 0, .int .u8 0, .int .u8 0, .int .u8 0, .int .u8 0, .int .u8 0, .int .u8 0, .int .u8 0, .int .u8 0, .int .u8 0, .int .u8 0, .int .u8 0, .int .u8 0, .int .u8 0, .int .u8 0, .int .u8 0, .int .u8 0, .int .u8 0] 101)) := s1.alloc s1.size _
        have q12 : Shp.tn 25 (u1w.alloc (.cells #[.int .u8 0, .int .u8 0, .int .u8 0, .int .u8 0, .int .u8 0, .int .u8 0, .int .u8 0, .int .u8 0, .int .u8 0, .int .u8 0, .int .u8 0, .int .u8 0, .int .u8 0, .int .u8 0, .int .u8 0, .int .u8 0, .int .u8 0, .int .u8 0, .int .u8 0, .int .u8 0, .int .u8 0, .int .u8 0, .int .u8 0, .int .u8 0, .int .u8 0] 101)) u1w.heap.size = true := Shp.tn_of (Blk.new u1w _ _) rfl
        refine hK.out _ _ s12 (fun _ => ?_)
        clear hK K
        try simp only [Act.put, List.setIfInBounds_toArray, List.set_cons_zero, List.set_cons_succ]
        obtain ⟨u12w, hu12w⟩ : ∃ V, u1w.alloc (.cells #[.int .u8 0, .int .u8 0, .int .u8 0, .int .u8 0, .int .u8 0, .int .u8 0, .int .u8 0, .int .u8 0, .int .u8 0, .int .u8 0, .int .u8 0, .int .u8 0, .int .u8 0, .int .u8 0, .int .u8 0, .int .u8 0, .int .u8 0, .int .u8 0, .int .u8 0, .int .u8 0, .int .u8 0, .int .u8 0, .int .u8 0, .int .u8 0, .int .u8 0] 101) = V := ⟨_, rfl⟩
        rw [hu12w] at s12 q12
        rw [hu12w]
        clear hu12w
        refine forkS 3 4 (by kernel_rfl) (by rfl) (by rfl) (fun o ho K hK => ?_) (fun o ho K hK => ?_)
        · simp only [List.getElem?_toArray, List.getElem?_cons_succ, List.getElem?_cons_zero, Option.some.injEq] at ho; subst ho
          go_simp
          (go_at_call 45; (with_reducible refine (CB.out _).mono ?_); rintro e u13w ⟨rfl, b13⟩)
          have s13 : Below w0.heap.size w0 u13w := below_up s12 s12.size b13
          have t5_13 := Shp.tn_on q12 b13
          refine hK.out _ _ s13 (fun _ => ?_)
          clear hK K
          try simp only [Act.put, List.setIfInBounds_toArray, List.set_cons_zero, List.set_cons_succ]
          refine nextS 4 (by kernel_rfl) (by rfl) (fun o ho K hK => ?_)
          simp only [List.getElem?_toArray, List.getElem?_cons_succ, List.getElem?_cons_zero, Option.some.injEq] at ho; subst ho
          go_simp
          have s14 : Below w0.heap.size w0 (u13w.alloc (.cells #[.int .u8 0, .int .u8 0, .int .u8 0, .int .u8 0, .int .u8 0, .int .u8 0, .int .u8 0, .int .u8 0, .int .u8 0, .int .u8 0, .int .u8 0, .int .u8 0, .int .u8 0, .int .u8 0, .int .u8 0, .int .u8 0, .int .u8 0, .int .u8 0, .int .u8 0, .int .u8 0, .int .u8 0, .int .u8 0, .int .u8 0, .int .u8 0, .int .u8 0] 101)) := s13.alloc s13.size _
          have q14 : Shp.tn 25 (u13w.alloc (.cells #[.int .u8 0, .int .u8 0, .int .u8 0, .int .u8 0, .int .u8 0, .int .u8 0, .int .u8 0, .int .u8 0, .int .u8 0, .int .u8 0, .int .u8 0, .int .u8 0, .int .u8 0, .int .u8 0, .int .u8 0, .int .u8 0, .int .u8 0, .int .u8 0, .int .u8 0, .int .u8 0, .int .u8 0, .int .u8 0, .int .u8 0, .int .u8 0, .int .u8 0] 101)) u13w.heap.size = true := Shp.tn_of (Blk.new u13w _ _) rfl
          have t5_14 := Shp.tn_on t5_13 (below_alloc_ u13w (.cells #[.int .u8 0, .int .u8 0, .int .u8 0, .int .u8 0, .int .u8 0, .int .u8 0, .int .u8 0, .int .u8 0, .int .u8 0, .int .u8 0, .int .u8 0, .int .u8 0, .int .u8 0, .int .u8 0, .int .u8 0, .int .u8 0, .int .u8 0, .int .u8 0, .int .u8 0, .int .u8 0, .int .u8 0, .int .u8 0, .int .u8 0, .int .u8 0, .int .u8 0] 101))
          have ne : u13w.heap.size ≠ u1w.heap.size := Nat.ne_of_gt (Shp.tn_lt t5_13)
          refine hK.out _ _ s14 (fun _ => ?_)
          clear hK K
          try simp only [Act.put, List.setIfInBounds_toArray, List.set_cons_zero, List.set_cons_succ]
          obtain ⟨u14w, hu14w⟩ : ∃ V, u13w.alloc (.cells #[.int .u8 0, .int .u8 0, .int .u8 0, .int .u8 0, .int .u8 0, .int .u8 0, .int .u8 0, .int .u8 0, .int .u8 0, .int .u8 0, .int .u8 0, .int .u8 0, .int .u8 0, .int .u8 0, .int .u8 0, .int .u8 0, .int .u8 0, .int .u8 0, .int .u8 0, .int .u8 0, .int .u8 0, .int .u8 0, .int .u8 0, .int .u8 0, .int .u8 0] 101) = V := ⟨_, rfl⟩
          rw [hu14w] at s14 q14 t5_14
          rw [hu14w]
          clear hu14w
          have t6 : Shp.tn 25 (u14w.setRow (u13w.heap.size) (kS.v a)) (u1w.heap.size) = true := Shp.tn_setRow (u13w.heap.size) (kS.v_size a) t5_14
          refine nextS 6 (by kernel_rfl) (by rfl) (fun o ho K hK => ?_)
          simp only [List.getElem?_toArray, List.getElem?_cons_succ, List.getElem?_cons_zero, Option.some.injEq] at ho; subst ho
          go_simp
          have s6 : Below w0.heap.size w0 (u14w.setRow (u13w.heap.size) (kS.v a)) := below_setRow s14 s13.size _
          refine hK.out _ _ s6 (fun _ => ?_)
          clear hK K
          try simp only [Act.put, List.setIfInBounds_toArray, List.set_cons_zero, List.set_cons_succ]
          refine nextS 7 (by kernel_rfl) (by rfl) (fun o ho K hK => ?_)
          simp only [List.getElem?_toArray, List.getElem?_cons_succ, List.getElem?_cons_zero, Option.some.injEq] at ho; subst ho
          go_simp
          have s7 : Below w0.heap.size w0 ((u14w.setRow (u13w.heap.size) (kS.v a)).setRow (u1w.heap.size) (kS.v b)) := below_setRow s6 s1.size _
          refine hK.out _ _ s7 (fun _ => ?_)
          clear hK K
          try simp only [Act.put, List.setIfInBounds_toArray, List.set_cons_zero, List.set_cons_succ]
          refine wpAnyH_done (by kernel_rfl) ?_ _
          refine NoPanic.normal ?_
          have RB := Shp.rd_set (S := kS) (u14w.setRow (u13w.heap.size) (kS.v a)) (u1w.heap.size) b t6
          have RA : kS.rd ((u14w.setRow (u13w.heap.size) (kS.v a)).setRow (u1w.heap.size) (kS.v b)) ⟨u13w.heap.size, 0, none⟩ = some a := by rw [Shp.rd_far _ _ _ _ ne]; exact Shp.rd_set (S := kS) _ _ _ q14
          go_wp2_with fail
          go_meet
          exact ⟨_, _, rfl, rfl, RA, RB, s7⟩
        · simp only [List.getElem?_toArray, List.getElem?_cons_succ, List.getElem?_cons_zero, Option.some.injEq] at ho; subst ho
          go_simp
          have s15 : Below w0.heap.size w0 (u12w.alloc (.cells #[.int .u8 0, .int .u8 0, .int .u8 0, .int .u8 0, .int .u8 0, .int .u8 0, .int .u8 0, .int .u8 0, .int .u8 0, .int .u8 0, .int .u8 0, .int .u8 0, .int .u8 0, .int .u8 0, .int .u8 0, .int .u8 0, .int .u8 0, .int .u8 0, .int .u8 0, .int .u8 0, .int .u8 0, .int .u8 0, .int .u8 0, .int .u8 0, .int .u8 0] 101)) := s12.alloc s12.size _
          have q15 : Shp.tn 25 (u12w.alloc (.cells #[.int .u8 0, .int .u8 0, .int .u8 0, .int .u8 0, .int .u8 0, .int .u8 0, .int .u8 0, .int .u8 0, .int .u8 0, .int .u8 0, .int .u8 0, .int .u8 0, .int .u8 0, .int .u8 0, .int .u8 0, .int .u8 0, .int .u8 0, .int .u8 0, .int .u8 0, .int .u8 0, .int .u8 0, .int .u8 0, .int .u8 0, .int .u8 0, .int .u8 0] 101)) u12w.heap.size = true := Shp.tn_of (Blk.new u12w _ _) rfl
          have t5_15 := Shp.tn_on q12 (below_alloc_ u12w (.cells #[.int .u8 0, .int .u8 0, .int .u8 0, .int .u8 0, .int .u8 0, .int .u8 0, .int .u8 0, .int .u8 0, .int .u8 0, .int .u8 0, .int .u8 0, .int .u8 0, .int .u8 0, .int .u8 0, .int .u8 0, .int .u8 0, .int .u8 0, .int .u8 0, .int .u8 0, .int .u8 0, .int .u8 0, .int .u8 0, .int .u8 0, .int .u8 0, .int .u8 0] 101))
          have ne : u12w.heap.size ≠ u1w.heap.size := Nat.ne_of_gt (Shp.tn_lt q12)
          refine hK.out _ _ s15 (fun _ => ?_)
          clear hK K
          try simp only [Act.put, List.setIfInBounds_toArray, List.set_cons_zero, List.set_cons_succ]
          obtain ⟨u15w, hu15w⟩ : ∃ V, u12w.alloc (.cells #[.int .u8 0, .int .u8 0, .int .u8 0, .int .u8 0, .int .u8 0, .int .u8 0, .int .u8 0, .int .u8 0, .int .u8 0, .int .u8 0, .int .u8 0, .int .u8 0, .int .u8 0, .int .u8 0, .int .u8 0, .int .u8 0, .int .u8 0, .int .u8 0, .int .u8 0, .int .u8 0, .int .u8 0, .int .u8 0, .int .u8 0, .int .u8 0, .int .u8 0] 101) = V := ⟨_, rfl⟩
          rw [hu15w] at s15 q15 t5_15
          rw [hu15w]
          clear hu15w
          refine nextS 3 (by kernel_rfl) (by rfl) (fun o ho K hK => ?_)
          simp only [List.getElem?_toArray, List.getElem?_cons_succ, List.getElem?_cons_zero, Option.some.injEq] at ho; subst ho
          go_simp
          (go_at_call 45; (with_reducible refine (CB.out _).mono ?_); rintro e u16w ⟨rfl, b16⟩)
          have s16 : Below w0.heap.size w0 u16w := below_up s15 s15.size b16
          have t4_16 := Shp.tn_on q15 b16
          have t5_16 := Shp.tn_on t5_15 b16
          refine hK.out _ _ s16 (fun _ => ?_)
          clear hK K
          try simp only [Act.put, List.setIfInBounds_toArray, List.set_cons_zero, List.set_cons_succ]
          have t6 : Shp.tn 25 (u16w.setRow (u12w.heap.size) (kS.v a)) (u1w.heap.size) = true := Shp.tn_setRow (u12w.heap.size) (kS.v_size a) t5_16
          refine nextS 6 (by kernel_rfl) (by rfl) (fun o ho K hK => ?_)
          simp only [List.getElem?_toArray, List.getElem?_cons_succ, List.getElem?_cons_zero, Option.some.injEq] at ho; subst ho
          go_simp
          have s6 : Below w0.heap.size w0 (u16w.setRow (u12w.heap.size) (kS.v a)) := below_setRow s16 s12.size _
          refine hK.out _ _ s6 (fun _ => ?_)
          clear hK K
          try simp only [Act.put, List.setIfInBounds_toArray, List.set_cons_zero, List.set_cons_succ]
          refine nextS 7 (by kernel_rfl) (by rfl) (fun o ho K hK => ?_)
          simp only [List.getElem?_toArray, List.getElem?_cons_succ, List.getElem?_cons_zero, Option.some.injEq] at ho; subst ho
          go_simp
          have s7 : Below w0.heap.size w0 ((u16w.setRow (u12w.heap.size) (kS.v a)).setRow (u1w.heap.size) (kS.v b)) := below_setRow s6 s1.size _
          refine hK.out _ _ s7 (fun _ => ?_)
          clear hK K
          try simp only [Act.put, List.setIfInBounds_toArray, List.set_cons_zero, List.set_cons_succ]
          refine wpAnyH_done (by kernel_rfl) ?_ _
          refine NoPanic.normal ?_
          have RB := Shp.rd_set (S := kS) (u16w.setRow (u12w.heap.size) (kS.v a)) (u1w.heap.size) b t6
          have RA : kS.rd ((u16w.setRow (u12w.heap.size) (kS.v a)).setRow (u1w.heap.size) (kS.v b)) ⟨u12w.heap.size, 0, none⟩ = some a := by rw [Shp.rd_far _ _ _ _ ne]; exact Shp.rd_set (S := kS) _ _ _ t4_16
          go_wp2_with fail
          go_meet
          exact ⟨_, _, rfl, rfl, RA, RB, s7⟩
    · simp only [List.getElem?_toArray, List.getElem?_cons_succ, List.getElem?_cons_zero, Option.some.injEq] at ho; subst ho
      go_simp
      have s17 : Below w0.heap.size w0 (wd.alloc (.cells #[.int .u8 0, .int .u8 0, .int .u8 0, .int .u8 0, .int .u8 0, .int .u8 0, .int .u8 0, .int .u8 0, .int .u8 0, .int .u8 0, .int .u8 0, .int .u8 0, .int .u8 0, .int .u8 0, .int .u8 0, .int .u8 0, .int .u8 0, .int .u8 0, .int .u8 0, .int .u8 0, .int .u8 0, .int .u8 0, .int .u8 0, .int .u8 0, .int .u8 0] 101)) := sd.alloc sd.size _
      have q17 : Shp.tn 25 (wd.alloc (.cells #[.int .u8 0, .int .u8 0, .int .u8 0, .int .u8 0, .int .u8 0, .int .u8 0, .int .u8 0, .int .u8 0, .int .u8 0, .int .u8 0, .int .u8 0, .int .u8 0, .int .u8 0, .int .u8 0, .int .u8 0, .int .u8 0, .int .u8 0, .int .u8 0, .int .u8 0, .int .u8 0, .int .u8 0, .int .u8 0, .int .u8 0, .int .u8 0, .int .u8 0] 101)) wd.heap.size = true := Shp.tn_of (Blk.new wd _ _) rfl
      refine hK.out _ _ s17 (fun _ => ?_)
      clear hK K
      try simp only [Act.put, List.setIfInBounds_toArray, List.set_cons_zero, List.set_cons_succ]
      obtain ⟨u17w, hu17w⟩ : ∃ V, wd.alloc (.cells #[.int .u8 0, .int .u8 0, .int .u8 0, .int .u8 0, .int .u8 0, .int .u8 0, .int .u8 0, .int .u8 0, .int .u8 0, .int .u8 0, .int .u8 0, .int .u8 0, .int .u8 0, .int .u8 0, .int .u8 0, .int .u8 0, .int .u8 0, .int .u8 0, .int .u8 0, .int .u8 0, .int .u8 0, .int .u8 0, .int .u8 0, .int .u8 0, .int .u8 0] 101) = V := ⟨_, rfl⟩
      rw [hu17w] at s17 q17
      rw [hu17w]
      clear hu17w
      refine forkS 1 5 (by kernel_rfl) (by rfl) (by rfl) (fun o ho K hK => ?_) (fun o ho K hK => ?_)
      · simp only [List.getElem?_toArray, List.getElem?_cons_succ, List.getElem?_cons_zero, Option.some.injEq] at ho; subst ho
        go_simp
        (go_at_call 45; (with_reducible refine (CA.out _).mono ?_); rintro e u18w ⟨rfl, b18⟩)
        have s18 : Below w0.heap.size w0 u18w := below_up s17 s17.size b18
        have t4_18 := Shp.tn_on q17 b18
        refine hK.out _ _ s18 (fun _ => ?_)
        clear hK K
        try simp only [Act.put, List.setIfInBounds_toArray, List.set_cons_zero, List.set_cons_succ]
        refine forkS 3 5 (by kernel_rfl) (by rfl) (by rfl) (fun o ho K hK => ?_) (fun o ho K hK => ?_)
        · simp only [List.getElem?_toArray, List.getElem?_cons_succ, List.getElem?_cons_zero, Option.some.injEq] at ho; subst ho
          go_simp
          (go_at_call 45; (with_reducible refine (CB.out _).mono ?_); rintro e u19w ⟨rfl, b19⟩)
          have s19 : Below w0.heap.size w0 u19w := below_up s18 s18.size b19
          have t4_19 := Shp.tn_on t4_18 b19
          refine hK.out _ _ s19 (fun _ => ?_)
          clear hK K
          try simp only [Act.put, List.setIfInBounds_toArray, List.set_cons_zero, List.set_cons_succ]
          refine nextS 5 (by kernel_rfl) (by rfl) (fun o ho K hK => ?_)
          simp only [List.getElem?_toArray, List.getElem?_cons_succ, List.getElem?_cons_zero, Option.some.injEq] at ho; subst ho
          go_simp
          have s20 : Below w0.heap.size w0 (u19w.alloc (.cells #[.int .u8 0, .int .u8 0, .int .u8 0, .int .u8 0, .int .u8 0, .int .u8 0, .int .u8 0, .int .u8 0, .int .u8 0, .int .u8 0, .int .u8 0, .int .u8 0, .int .u8 0, .int .u8 0, .int .u8 0, .int .u8 0, .int .u8 0, .int .u8 0, .int .u8 0, .int .u8 0, .int .u8 0, .int .u8 0, .int .u8 0, .int .u8 0, .int .u8 0] 101)) := s19.alloc s19.size _
          have q20 : Shp.tn 25 (u19w.alloc (.cells #[.int .u8 0, .int .u8 0, .int .u8 0, .int .u8 0, .int .u8 0, .int .u8 0, .int .u8 0, .int .u8 0, .int .u8 0, .int .u8 0, .int .u8 0, .int .u8 0, .int .u8 0, .int .u8 0, .int .u8 0, .int .u8 0, .int .u8 0, .int .u8 0, .int .u8 0, .int .u8 0, .int .u8 0, .int .u8 0, .int .u8 0, .int .u8 0, .int .u8 0] 101)) u19w.heap.size = true := Shp.tn_of (Blk.new u19w _ _) rfl
          have t4_20 := Shp.tn_on t4_19 (below_alloc_ u19w (.cells #[.int .u8 0, .int .u8 0, .int .u8 0, .int .u8 0, .int .u8 0, .int .u8 0, .int .u8 0, .int .u8 0, .int .u8 0, .int .u8 0, .int .u8 0, .int .u8 0, .int .u8 0, .int .u8 0, .int .u8 0, .int .u8 0, .int .u8 0, .int .u8 0, .int .u8 0, .int .u8 0, .int .u8 0, .int .u8 0, .int .u8 0, .int .u8 0, .int .u8 0] 101))
          have ne : wd.heap.size ≠ u19w.heap.size := Nat.ne_of_lt (Shp.tn_lt t4_19)
          refine hK.out _ _ s20 (fun _ => ?_)
          clear hK K
          try simp only [Act.put, List.setIfInBounds_toArray, List.set_cons_zero, List.set_cons_succ]
          obtain ⟨u20w, hu20w⟩ : ∃ V, u19w.alloc (.cells #[.int .u8 0, .int .u8 0, .int .u8 0, .int .u8 0, .int .u8 0, .int .u8 0, .int .u8 0, .int .u8 0, .int .u8 0, .int .u8 0, .int .u8 0, .int .u8 0, .int .u8 0, .int .u8 0, .int .u8 0, .int .u8 0, .int .u8 0, .int .u8 0, .int .u8 0, .int .u8 0, .int .u8 0, .int .u8 0, .int .u8 0, .int .u8 0, .int .u8 0] 101) = V := ⟨_, rfl⟩
          rw [hu20w] at s20 q20 t4_20
          rw [hu20w]
          clear hu20w
          have t6 : Shp.tn 25 (u20w.setRow (wd.heap.size) (kS.v a)) (u19w.heap.size) = true := Shp.tn_setRow (wd.heap.size) (kS.v_size a) q20
          refine nextS 6 (by kernel_rfl) (by rfl) (fun o ho K hK => ?_)
          simp only [List.getElem?_toArray, List.getElem?_cons_succ, List.getElem?_cons_zero, Option.some.injEq] at ho; subst ho
          go_simp
          have s6 : Below w0.heap.size w0 (u20w.setRow (wd.heap.size) (kS.v a)) := below_setRow s20 sd.size _
          refine hK.out _ _ s6 (fun _ => ?_)
          clear hK K
          try simp only [Act.put, List.setIfInBounds_toArray, List.set_cons_zero, List.set_cons_succ]
          refine nextS 7 (by kernel_rfl) (by rfl) (fun o ho K hK => ?_)
          simp only [List.getElem?_toArray, List.getElem?_cons_succ, List.getElem?_cons_zero, Option.some.injEq] at ho; subst ho
          go_simp
          have s7 : Below w0.heap.size w0 ((u20w.setRow (wd.heap.size) (kS.v a)).setRow (u19w.heap.size) (kS.v b)) := below_setRow s6 s19.size _
          refine hK.out _ _ s7 (fun _ => ?_)
          clear hK K
          try simp only [Act.put, List.setIfInBounds_toArray, List.set_cons_zero, List.set_cons_succ]
          refine wpAnyH_done (by kernel_rfl) ?_ _
          refine NoPanic.normal ?_
          have RB := Shp.rd_set (S := kS) (u20w.setRow (wd.heap.size) (kS.v a)) (u19w.heap.size) b t6
          have RA : kS.rd ((u20w.setRow (wd.heap.size) (kS.v a)).setRow (u19w.heap.size) (kS.v b)) ⟨wd.heap.size, 0, none⟩ = some a := by rw [Shp.rd_far _ _ _ _ ne]; exact Shp.rd_set (S := kS) _ _ _ t4_20
          go_wp2_with fail
          go_meet
          exact ⟨_, _, rfl, rfl, RA, RB, s7⟩
        · simp only [List.getElem?_toArray, List.getElem?_cons_succ, List.getElem?_cons_zero, Option.some.injEq] at ho; subst ho
          go_simp
          have s21 : Below w0.heap.size w0 (u18w.alloc (.cells #[.int .u8 0, .int .u8 0, .int .u8 0, .int .u8 0, .int .u8 0, .int .u8 0, .int .u8 0, .int .u8 0, .int .u8 0, .int .u8 0, .int .u8 0, .int .u8 0, .int .u8 0, .int .u8 0, .int .u8 0, .int .u8 0, .int .u8 0, .int .u8 0, .int .u8 0, .int .u8 0, .int .u8 0, .int .u8 0, .int .u8 0, .int .u8 0, .int .u8 0] 101)) := s18.alloc s18.size _
          have q21 : Shp.tn 25 (u18w.alloc (.cells #[.int .u8 0, .int .u8 0, .int .u8 0, .int .u8 0, .int .u8 0, .int .u8 0, .int .u8 0, .int .u8 0, .int .u8 0, .int .u8 0, .int .u8 0, .int .u8 0, .int .u8 0, .int .u8 0, .int .u8 0, .int .u8 0, .int .u8 0, .int .u8 0, .int .u8 0, .int .u8 0, .int .u8 0, .int .u8 0, .int .u8 0, .int .u8 0, .int .u8 0] 101)) u18w.heap.size = true := Shp.tn_of (Blk.new u18w _ _) rfl
          have t4_21 := Shp.tn_on t4_18 (below_alloc_ u18w (.cells #[.int .u8 0, .int .u8 0, .int .u8 0, .int .u8 0, .int .u8 0, .int .u8 0, .int .u8 0, .int .u8 0, .int .u8 0, .int .u8 0, .int .u8 0, .int .u8 0, .int .u8 0, .int .u8 0, .int .u8 0, .int .u8 0, .int .u8 0, .int .u8 0, .int .u8 0, .int .u8 0, .int .u8 0, .int .u8 0, .int .u8 0, .int .u8 0, .int .u8 0] 101))
          have ne : wd.heap.size ≠ u18w.heap.size := Nat.ne_of_lt (Shp.tn_lt t4_18)
          refine hK.out _ _ s21 (fun _ => ?_)
          clear hK K
          try simp only [Act.put, List.setIfInBounds_toArray, List.set_cons_zero, List.set_cons_succ]
          obtain ⟨u21w, hu21w⟩ : ∃ V, u18w.alloc (.cells #[.int .u8 0, .int .u8 0, .int .u8 0, .int .u8 0, .int .u8 0, .int .u8 0, .int .u8 0, .int .u8 0, .int .u8 0, .int .u8 0, .int .u8 0, .int .u8 0, .int .u8 0, .int .u8 0, .int .u8 0, .int .u8 0, .int .u8 0, .int .u8 0, .int .u8 0, .int .u8 0, .int .u8 0, .int .u8 0, .int .u8 0, .int .u8 0, .int .u8 0] 101) = V := ⟨_, rfl⟩
          rw [hu21w] at s21 q21 t4_21
          rw [hu21w]
          clear hu21w
          refine nextS 3 (by kernel_rfl) (by rfl) (fun o ho K hK => ?_)
          simp only [List.getElem?_toArray, List.getElem?_cons_succ, List.getElem?_cons_zero, Option.some.injEq] at ho; subst ho
          go_simp
          (go_at_call 45; (with_reducible refine (CB.out _).mono ?_); rintro e u22w ⟨rfl, b22⟩)
          have s22 : Below w0.heap.size w0 u22w := below_up s21 s21.size b22
          have t4_22 := Shp.tn_on t4_21 b22
          have t5_22 := Shp.tn_on q21 b22
          refine hK.out _ _ s22 (fun _ => ?_)
          clear hK K
          try simp only [Act.put, List.setIfInBounds_toArray, List.set_cons_zero, List.set_cons_succ]
          have t6 : Shp.tn 25 (u22w.setRow (wd.heap.size) (kS.v a)) (u18w.heap.size) = true := Shp.tn_setRow (wd.heap.size) (kS.v_size a) t5_22
          refine nextS 6 (by kernel_rfl) (by rfl) (fun o ho K hK => ?_)
          simp only [List.getElem?_toArray, List.getElem?_cons_succ, List.getElem?_cons_zero, Option.some.injEq] at ho; subst ho
          go_simp
          have s6 : Below w0.heap.size w0 (u22w.setRow (wd.heap.size) (kS.v a)) := below_setRow s22 sd.size _
          refine hK.out _ _ s6 (fun _ => ?_)
          clear hK K
          try simp only [Act.put, List.setIfInBounds_toArray, List.set_cons_zero, List.set_cons_succ]
          refine nextS 7 (by kernel_rfl) (by rfl) (fun o ho K hK => ?_)
          simp only [List.getElem?_toArray, List.getElem?_cons_succ, List.getElem?_cons_zero, Option.some.injEq] at ho; subst ho
          go_simp
          have s7 : Below w0.heap.size w0 ((u22w.setRow (wd.heap.size) (kS.v a)).setRow (u18w.heap.size) (kS.v b)) := below_setRow s6 s18.size _
          refine hK.out _ _ s7 (fun _ => ?_)
          clear hK K
          try simp only [Act.put, List.setIfInBounds_toArray, List.set_cons_zero, List.set_cons_succ]
          refine wpAnyH_done (by kernel_rfl) ?_ _
          refine NoPanic.normal ?_
          have RB := Shp.rd_set (S := kS) (u22w.setRow (wd.heap.size) (kS.v a)) (u18w.heap.size) b t6
          have RA : kS.rd ((u22w.setRow (wd.heap.size) (kS.v a)).setRow (u18w.heap.size) (kS.v b)) ⟨wd.heap.size, 0, none⟩ = some a := by rw [Shp.rd_far _ _ _ _ ne]; exact Shp.rd_set (S := kS) _ _ _ t4_22
          go_wp2_with fail
          go_meet
          exact ⟨_, _, rfl, rfl, RA, RB, s7⟩
      · simp only [List.getElem?_toArray, List.getElem?_cons_succ, List.getElem?_cons_zero, Option.some.injEq] at ho; subst ho
        go_simp
        have s23 : Below w0.heap.size w0 (u17w.alloc (.cells #[.int .u8 0, .int .u8 0, .int .u8 0, .int .u8 0, .int .u8 0, .int .u8 0, .int .u8 0, .int .u8 0, .int .u8 0, .int .u8 0, .int .u8 0, .int .u8 0, .int .u8 0, .int .u8 0, .int .u8 0, .int .u8 0, .int .u8 0, .int .u8 0, .int .u8 0, .int .u8 0, .int .u8 0, .int .u8 0, .int .u8 0, .int .u8 0, .int .u8 0] 101)) := s17.alloc s17.size _
        have q23 : Shp.tn 25 (u17w.alloc (.cells #[.int .u8 0, .int .u8 0, .int .u8 0, .int .u8 0, .int .u8 0, .int .u8 0, .int .u8 0, .int .u8 0, .int .u8 0, .int .u8 0, .int .u8 0, .int .u8 0, .int .u8 0, .int .u8 0, .int .u8 0, .int .u8 0, .int .u8 0, .int .u8 0, .int .u8 0, .int .u8 0, .int .u8 0, .int .u8 0, .int .u8 0, .int .u8 0, .int .u8 0] 101)) u17w.heap.size = true := Shp.tn_of (Blk.new u17w _ _) rfl
        have t4_23 := Shp.tn_on q17 (below_alloc_ u17w (.cells #[.int .u8 0, .int .u8 0, .int .u8 0, .int .u8 0, .int .u8 0, .int .u8 0, .int .u8 0, .int .u8 0, .int .u8 0, .int .u8 0, .int .u8 0, .int .u8 0, .int .u8 0, .int .u8 0, .int .u8 0, .int .u8 0, .int .u8 0, .int .u8 0, .int .u8 0, .int .u8 0, .int .u8 0, .int .u8 0, .int .u8 0, .int .u8 0, .int .u8 0] 101))
        have ne : wd.heap.size ≠ u17w.heap.size := Nat.ne_of_lt (Shp.tn_lt q17)
        refine hK.out _ _ s23 (fun _ => ?_)
        clear hK K
        try simp only [Act.put, List.setIfInBounds_toArray, List.set_cons_zero, List.set_cons_succ]
        obtain ⟨u23w, hu23w⟩ : ∃ V, u17w.alloc (.cells #[.int .u8 0, .int .u8 0, .int .u8 0, .int .u8 0, .int .u8 0, .int .u8 0, .int .u8 0, .int .u8 0, .int .u8 0, .int .u8 0, .int .u8 0, .int .u8 0, .int .u8 0, .int .u8 0, .int .u8 0, .int .u8 0, .int .u8 0, .int .u8 0, .int .u8 0, .int .u8 0, .int .u8 0, .int .u8 0, .int .u8 0, .int .u8 0, .int .u8 0] 101) = V := ⟨_, rfl⟩
        rw [hu23w] at s23 q23 t4_23
        rw [hu23w]
        clear hu23w
        refine nextS 1 (by kernel_rfl) (by rfl) (fun o ho K hK => ?_)
        simp only [List.getElem?_toArray, List.getElem?_cons_succ, List.getElem?_cons_zero, Option.some.injEq] at ho; subst ho
        go_simp
        (go_at_call 45; (with_reducible refine (CA.out _).mono ?_); rintro e u24w ⟨rfl, b24⟩)
        have s24 : Below w0.heap.size w0 u24w := below_up s23 s23.size b24
        have t4_24 := Shp.tn_on t4_23 b24
        have t5_24 := Shp.tn_on q23 b24
        refine hK.out _ _ s24 (fun _ => ?_)
        clear hK K
        try simp only [Act.put, List.setIfInBounds_toArray, List.set_cons_zero, List.set_cons_succ]
        refine nextS 3 (by kernel_rfl) (by rfl) (fun o ho K hK => ?_)
        simp only [List.getElem?_toArray, List.getElem?_cons_succ, List.getElem?_cons_zero, Option.some.injEq] at ho; subst ho
        go_simp
        (go_at_call 45; (with_reducible refine (CB.out _).mono ?_); rintro e u25w ⟨rfl, b25⟩)
        have s25 : Below w0.heap.size w0 u25w := below_up s24 s24.size b25
        have t4_25 := Shp.tn_on t4_24 b25
        have t5_25 := Shp.tn_on t5_24 b25
        refine hK.out _ _ s25 (fun _ => ?_)
        clear hK K
        try simp only [Act.put, List.setIfInBounds_toArray, List.set_cons_zero, List.set_cons_succ]
        have t6 : Shp.tn 25 (u25w.setRow (wd.heap.size) (kS.v a)) (u17w.heap.size) = true := Shp.tn_setRow (wd.heap.size) (kS.v_size a) t5_25
        refine nextS 6 (by kernel_rfl) (by rfl) (fun o ho K hK => ?_)
        simp only [List.getElem?_toArray, List.getElem?_cons_succ, List.getElem?_cons_zero, Option.some.injEq] at ho; subst ho
        go_simp
        have s6 : Below w0.heap.size w0 (u25w.setRow (wd.heap.size) (kS.v a)) := below_setRow s25 sd.size _
        refine hK.out _ _ s6 (fun _ => ?_)
        clear hK K
        try simp only [Act.put, List.setIfInBounds_toArray, List.set_cons_zero, List.set_cons_succ]
        refine nextS 7 (by kernel_rfl) (by rfl) (fun o ho K hK => ?_)
        simp only [List.getElem?_toArray, List.getElem?_cons_succ, List.getElem?_cons_zero, Option.some.injEq] at ho; subst ho
        go_simp
        have s7 : Below w0.heap.size w0 ((u25w.setRow (wd.heap.size) (kS.v a)).setRow (u17w.heap.size) (kS.v b)) := below_setRow s6 s17.size _
        refine hK.out _ _ s7 (fun _ => ?_)
        clear hK K
        try simp only [Act.put, List.setIfInBounds_toArray, List.set_cons_zero, List.set_cons_succ]
        refine wpAnyH_done (by kernel_rfl) ?_ _
        refine NoPanic.normal ?_
        have RB := Shp.rd_set (S := kS) (u25w.setRow (wd.heap.size) (kS.v a)) (u17w.heap.size) b t6
        have RA : kS.rd ((u25w.setRow (wd.heap.size) (kS.v a)).setRow (u17w.heap.size) (kS.v b)) ⟨wd.heap.size, 0, none⟩ = some a := by rw [Shp.rd_far _ _ _ _ ne]; exact Shp.rd_set (S := kS) _ _ _ t4_25
        go_wp2_with fail
        go_meet
        exact ⟨_, _, rfl, rfl, RA, RB, s7⟩
    · simp only [List.getElem?_toArray, List.getElem?_cons_succ, List.getElem?_cons_zero, Option.some.injEq] at ho; subst ho
      go_simp
      have s26 : Below w0.heap.size w0 (wd.alloc (.cells #[.int .u8 0, .int .u8 0, .int .u8 0, .int .u8 0, .int .u8 0, .int .u8 0, .int .u8 0, .int .u8 0, .int .u8 0, .int .u8 0, .int .u8 0, .int .u8 0, .int .u8 0, .int .u8 0, .int .u8 0, .int .u8 0, .int .u8 0, .int .u8 0, .int .u8 0, .int .u8 0, .int .u8 0, .int .u8 0, .int .u8 0, .int .u8 0, .int .u8 0] 101)) := sd.alloc sd.size _
      have q26 : Shp.tn 25 (wd.alloc (.cells #[.int .u8 0, .int .u8 0, .int .u8 0, .int .u8 0, .int .u8 0, .int .u8 0, .int .u8 0, .int .u8 0, .int .u8 0, .int .u8 0, .int .u8 0, .int .u8 0, .int .u8 0, .int .u8 0, .int .u8 0, .int .u8 0, .int .u8 0, .int .u8 0, .int .u8 0, .int .u8 0, .int .u8 0, .int .u8 0, .int .u8 0, .int .u8 0, .int .u8 0] 101)) wd.heap.size = true := Shp.tn_of (Blk.new wd _ _) rfl
      refine hK.out _ _ s26 (fun _ => ?_)
      clear hK K
      try simp only [Act.put, List.setIfInBounds_toArray, List.set_cons_zero, List.set_cons_succ]
      obtain ⟨u26w, hu26w⟩ : ∃ V, wd.alloc (.cells #[.int .u8 0, .int .u8 0, .int .u8 0, .int .u8 0, .int .u8 0, .int .u8 0, .int .u8 0, .int .u8 0, .int .u8 0, .int .u8 0, .int .u8 0, .int .u8 0, .int .u8 0, .int .u8 0, .int .u8 0, .int .u8 0, .int .u8 0, .int .u8 0, .int .u8 0, .int .u8 0, .int .u8 0, .int .u8 0, .int .u8 0, .int .u8 0, .int .u8 0] 101) = V := ⟨_, rfl⟩
      rw [hu26w] at s26 q26
      rw [hu26w]
      clear hu26w
      refine forkS 1 4 (by kernel_rfl) (by rfl) (by rfl) (fun o ho K hK => ?_) (fun o ho K hK => ?_)
      · simp only [List.getElem?_toArray, List.getElem?_cons_succ, List.getElem?_cons_zero, Option.some.injEq] at ho; subst ho
        go_simp
        (go_at_call 45; (with_reducible refine (CA.out _).mono ?_); rintro e u27w ⟨rfl, b27⟩)
        have s27 : Below w0.heap.size w0 u27w := below_up s26 s26.size b27
        have t5_27 := Shp.tn_on q26 b27
        refine hK.out _ _ s27 (fun _ => ?_)
        clear hK K
        try simp only [Act.put, List.setIfInBounds_toArray, List.set_cons_zero, List.set_cons_succ]
        refine forkS 3 4 (by kernel_rfl) (by rfl) (by rfl) (fun o ho K hK => ?_) (fun o ho K hK => ?_)
        · simp only [List.getElem?_toArray, List.getElem?_cons_succ, List.getElem?_cons_zero, Option.some.injEq] at ho; subst ho
          go_simp
          (go_at_call 45; (with_reducible refine (CB.out _).mono ?_); rintro e u28w ⟨rfl, b28⟩)
          have s28 : Below w0.heap.size w0 u28w := below_up s27 s27.size b28
          have t5_28 := Shp.tn_on t5_27 b28
          refine hK.out _ _ s28 (fun _ => ?_)
          clear hK K
          try simp only [Act.put, List.setIfInBounds_toArray, List.set_cons_zero, List.set_cons_succ]
          refine nextS 4 (by kernel_rfl) (by rfl) (fun o ho K hK => ?_)
          simp only [List.getElem?_toArray, List.getElem?_cons_succ, List.getElem?_cons_zero, Option.some.injEq] at ho; subst ho
          go_simp
          have s29 : Below w0.heap.size w0 (u28w.alloc (.cells #[.int .u8 0, .int .u8 0, .int .u8 0, .int .u8 0, .int .u8 0, .int .u8 0, .int .u8 0, .int .u8 0, .int .u8 0, .int .u8 0, .int .u8 0, .int .u8 0, .int .u8 0, .int .u8 0, .int .u8 0, .int .u8 0, .int .u8 0, .int .u8 0, .int .u8 0, .int .u8 0, .int .u8 0, .int .u8 0, .int .u8 0, .int .u8 0, .int .u8 0] 101)) := s28.alloc s28.size _
          have q29 : Shp.tn 25 (u28w.alloc (.cells #[.int .u8 0, .int .u8 0, .int .u8 0, .int .u8 0, .int .u8 0, .int .u8 0, .int .u8 0, .int .u8 0, .int .u8 0, .int .u8 0, .int .u8 0, .int .u8 0, .int .u8 0, .int .u8 0, .int .u8 0, .int .u8 0, .int .u8 0, .int .u8 0, .int .u8 0, .int .u8 0, .int .u8 0, .int .u8 0, .int .u8 0, .int .u8 0, .int .u8 0] 101)) u28w.heap.size = true := Shp.tn_of (Blk.new u28w _ _) rfl
          have t5_29 := Shp.tn_on t5_28 (below_alloc_ u28w (.cells #[.int .u8 0, .int .u8 0, .int .u8 0, .int .u8 0, .int .u8 0, .int .u8 0, .int .u8 0, .int .u8 0, .int .u8 0, .int .u8 0, .int .u8 0, .int .u8 0, .int .u8 0, .int .u8 0, .int .u8 0, .int .u8 0, .int .u8 0, .int .u8 0, .int .u8 0, .int .u8 0, .int .u8 0, .int .u8 0, .int .u8 0, .int .u8 0, .int .u8 0] 101))
          have ne : u28w.heap.size ≠ wd.heap.size := Nat.ne_of_gt (Shp.tn_lt t5_28)
          refine hK.out _ _ s29 (fun _ => ?_)
          clear hK K
          try simp only [Act.put, List.setIfInBounds_toArray, List.set_cons_zero, List.set_cons_succ]
          obtain ⟨u29w, hu29w⟩ : ∃ V, u28w.alloc (.cells #[.int .u8 0, .int .u8 0, .int .u8 0, .int .u8 0, .int .u8 0, .int .u8 0, .int .u8 0, .int .u8 0, .int .u8 0, .int .u8 0, .int .u8 0, .int .u8 0, .int .u8 0, .int .u8 0, .int .u8 0, .int .u8 0, .int .u8 0, .int .u8 0, .int .u8 0, .int .u8 0, .int .u8 0, .int .u8 0, .int .u8 0, .int .u8 0, .int .u8 0] 101) = V := ⟨_, rfl⟩
          rw [hu29w] at s29 q29 t5_29
          rw [hu29w]
          clear hu29w
          have t6 : Shp.tn 25 (u29w.setRow (u28w.heap.size) (kS.v a)) (wd.heap.size) = true := Shp.tn_setRow (u28w.heap.size) (kS.v_size a) t5_29
          refine nextS 6 (by kernel_rfl) (by rfl) (fun o ho K hK => ?_)
          simp only [List.getElem?_toArray, List.getElem?_cons_succ, List.getElem?_cons_zero, Option.some.injEq] at ho; subst ho
          go_simp
          have s6 : Below w0.heap.size w0 (u29w.setRow (u28w.heap.size) (kS.v a)) := below_setRow s29 s28.size _
          refine hK.out _ _ s6 (fun _ => ?_)
          clear hK K
          try simp only [Act.put, List.setIfInBounds_toArray, List.set_cons_zero, List.set_cons_succ]
          refine nextS 7 (by kernel_rfl) (by rfl) (fun o ho K hK => ?_)
          simp only [List.getElem?_toArray, List.getElem?_cons_succ, List.getElem?_cons_zero, Option.some.injEq] at ho; subst ho
          go_simp
          have s7 : Below w0.heap.size w0 ((u29w.setRow (u28w.heap.size) (kS.v a)).setRow (wd.heap.size) (kS.v b)) := below_setRow s6 sd.size _
          refine hK.out _ _ s7 (fun _ => ?_)
          clear hK K
          try simp only [Act.put, List.setIfInBounds_toArray, List.set_cons_zero, List.set_cons_succ]
          refine wpAnyH_done (by kernel_rfl) ?_ _
          refine NoPanic.normal ?_
          have RB := Shp.rd_set (S := kS) (u29w.setRow (u28w.heap.size) (kS.v a)) (wd.heap.size) b t6
          have RA : kS.rd ((u29w.setRow (u28w.heap.size) (kS.v a)).setRow (wd.heap.size) (kS.v b)) ⟨u28w.heap.size, 0, none⟩ = some a := by rw [Shp.rd_far _ _ _ _ ne]; exact Shp.rd_set (S := kS) _ _ _ q29
          go_wp2_with fail
          go_meet
          exact ⟨_, _, rfl, rfl, RA, RB, s7⟩
        · simp only [List.getElem?_toArray, List.getElem?_cons_succ, List.getElem?_cons_zero, Option.some.injEq] at ho; subst ho
          go_simp
          have s30 : Below w0.heap.size w0 (u27w.alloc (.cells #[.int .u8 0, .int .u8 0, .int .u8 0, .int .u8 0, .int .u8 0, .int .u8 0, .int .u8 0, .int .u8 0, .int .u8 0, .int .u8 0, .int .u8 0, .int .u8 0, .int .u8 0, .int .u8 0, .int .u8 0, .int .u8 0, .int .u8 0, .int .u8 0, .int .u8 0, .int .u8 0, .int .u8 0, .int .u8 0, .int .u8 0, .int .u8 0, .int .u8 0] 101)) := s27.alloc s27.size _
          have q30 : Shp.tn 25 (u27w.alloc (.cells #[.int .u8 0, .int .u8 0, .int .u8 0, .int .u8 0, .int .u8 0, .int .u8 0, .int .u8 0, .int .u8 0, .int .u8 0, .int .u8 0, .int .u8 0, .int .u8 0, .int .u8 0, .int .u8 0, .int .u8 0, .int .u8 0, .int .u8 0, .int .u8 0, .int .u8 0, .int .u8 0, .int .u8 0, .int .u8 0, .int .u8 0, .int .u8 0, .int .u8 0] 101)) u27w.heap.size = true := Shp.tn_of (Blk.new u27w _ _) rfl
          have t5_30 := Shp.tn_on t5_27 (below_alloc_ u27w (.cells #[.int .u8 0, .int .u8 0, .int .u8 0, .int .u8 0, .int .u8 0, .int .u8 0, .int .u8 0, .int .u8 0, .int .u8 0, .int .u8 0, .int .u8 0, .int .u8 0, .int .u8 0, .int .u8 0, .int .u8 0, .int .u8 0, .int .u8 0, .int .u8 0, .int .u8 0, .int .u8 0, .int .u8 0, .int .u8 0, .int .u8 0, .int .u8 0, .int .u8 0] 101))
          have ne : u27w.heap.size ≠ wd.heap.size := Nat.ne_of_gt (Shp.tn_lt t5_27)
          refine hK.out _ _ s30 (fun _ => ?_)
          clear hK K
          try simp only [Act.put, List.setIfInBounds_toArray, List.set_cons_zero, List.set_cons_succ]
          obtain ⟨u30w, hu30w⟩ : ∃ V, u27w.alloc (.cells #[.int .u8 0, .int .u8 0, .int .u8 0, .int .u8 0, .int .u8 0, .int .u8 0, .int .u8 0, .int .u8 0, .int .u8 0, .int .u8 0, .int .u8 0, .int .u8 0, .int .u8 0, .int .u8 0, .int .u8 0, .int .u8 0, .int .u8 0, .int .u8 0, .int .u8 0, .int .u8 0, .int .u8 0, .int .u8 0, .int .u8 0, .int .u8 0, .int .u8 0] 101) = V := ⟨_, rfl⟩
          rw [hu30w] at s30 q30 t5_30
          rw [hu30w]
          clear hu30w
          refine nextS 3 (by kernel_rfl) (by rfl) (fun o ho K hK => ?_)
          simp only [List.getElem?_toArray, List.getElem?_cons_succ, List.getElem?_cons_zero, Option.some.injEq] at ho; subst ho
          go_simp
          (go_at_call 45; (with_reducible refine (CB.out _).mono ?_); rintro e u31w ⟨rfl, b31⟩)
          have s31 : Below w0.heap.size w0 u31w := below_up s30 s30.size b31
          have t4_31 := Shp.tn_on q30 b31
          have t5_31 := Shp.tn_on t5_30 b31
          refine hK.out _ _ s31 (fun _ => ?_)
          clear hK K
          try simp only [Act.put, List.setIfInBounds_toArray, List.set_cons_zero, List.set_cons_succ]
          have t6 : Shp.tn 25 (u31w.setRow (u27w.heap.size) (kS.v a)) (wd.heap.size) = true := Shp.tn_setRow (u27w.heap.size) (kS.v_size a) t5_31
          refine nextS 6 (by kernel_rfl) (by rfl) (fun o ho K hK => ?_)
          simp only [List.getElem?_toArray, List.getElem?_cons_succ, List.getElem?_cons_zero, Option.some.injEq] at ho; subst ho
          go_simp
          have s6 : Below w0.heap.size w0 (u31w.setRow (u27w.heap.size) (kS.v a)) := below_setRow s31 s27.size _
          refine hK.out _ _ s6 (fun _ => ?_)
          clear hK K
          try simp only [Act.put, List.setIfInBounds_toArray, List.set_cons_zero, List.set_cons_succ]
          refine nextS 7 (by kernel_rfl) (by rfl) (fun o ho K hK => ?_)
          simp only [List.getElem?_toArray, List.getElem?_cons_succ, List.getElem?_cons_zero, Option.some.injEq] at ho; subst ho
          go_simp
          have s7 : Below w0.heap.size w0 ((u31w.setRow (u27w.heap.size) (kS.v a)).setRow (wd.heap.size) (kS.v b)) := below_setRow s6 sd.size _
          refine hK.out _ _ s7 (fun _ => ?_)
          clear hK K
          try simp only [Act.put, List.setIfInBounds_toArray, List.set_cons_zero, List.set_cons_succ]
          refine wpAnyH_done (by kernel_rfl) ?_ _
          refine NoPanic.normal ?_
          have RB := Shp.rd_set (S := kS) (u31w.setRow (u27w.heap.size) (kS.v a)) (wd.heap.size) b t6
          have RA : kS.rd ((u31w.setRow (u27w.heap.size) (kS.v a)).setRow (wd.heap.size) (kS.v b)) ⟨u27w.heap.size, 0, none⟩ = some a := by rw [Shp.rd_far _ _ _ _ ne]; exact Shp.rd_set (S := kS) _ _ _ t4_31
          go_wp2_with fail
          go_meet
          exact ⟨_, _, rfl, rfl, RA, RB, s7⟩
      · simp only [List.getElem?_toArray, List.getElem?_cons_succ, List.getElem?_cons_zero, Option.some.injEq] at ho; subst ho
        go_simp
        have s32 : Below w0.heap.size w0 (u26w.alloc (.cells #[.int .u8 0, .int .u8 0, .int .u8 0, .int .u8 0, .int .u8 0, .int .u8 0, .int .u8 0, .int .u8 0, .int .u8 0, .int .u8 0, .int .u8 0, .int .u8 0, .int .u8 0, .int .u8 0, .int .u8 0, .int .u8 0, .int .u8 0, .int .u8 0, .int .u8 0, .int .u8 0, .int .u8 0, .int .u8 0, .int .u8 0, .int .u8 0, .int .u8 0] 101)) := s26.alloc s26.size _
        have q32 : Shp.tn 25 (u26w.alloc (.cells #[.int .u8 0, .int .u8 0, .int .u8 0, .int .u8 0, .int .u8 0, .int .u8 0, .int .u8 0, .int .u8 0, .int .u8 0, .int .u8 0, .int .u8 0, .int .u8 0, .int .u8 0, .int .u8 0, .int .u8 0, .int .u8 0, .int .u8 0, .int .u8 0, .int .u8 0, .int .u8 0, .int .u8 0, .int .u8 0, .int .u8 0, .int .u8 0, .int .u8 0] 101)) u26w.heap.size = true := Shp.tn_of (Blk.new u26w _ _) rfl
        have t5_32 := Shp.tn_on q26 (below_alloc_ u26w (.cells #[.int .u8 0, .int .u8 0, .int .u8 0, .int .u8 0, .int .u8 0, .int .u8 0, .int .u8 0, .int .u8 0, .int .u8 0, .int .u8 0, .int .u8 0, .int .u8 0, .int .u8 0, .int .u8 0, .int .u8 0, .int .u8 0, .int .u8 0, .int .u8 0, .int .u8 0, .int .u8 0, .int .u8 0, .int .u8 0, .int .u8 0, .int .u8 0, .int .u8 0] 101))
        have ne : u26w.heap.size ≠ wd.heap.size := Nat.ne_of_gt (Shp.tn_lt q26)
        refine hK.out _ _ s32 (fun _ => ?_)
        clear hK K
        try simp only [Act.put, List.setIfInBounds_toArray, List.set_cons_zero, List.set_cons_succ]
        obtain ⟨u32w, hu32w⟩ : ∃ V, u26w.alloc (.cells #[.int .u8 0, .int .u8 0, .int .u8 0, .int .u8 0, .int .u8 0, .int .u8 0, .int .u8 0, .int .u8 0, .int .u8 0, .int .u8 0, .int .u8 0, .int .u8 0, .int .u8 0, .int .u8 0, .int .u8 0, .int .u8 0, .int .u8 0, .int .u8 0, .int .u8 0, .int .u8 0, .int .u8 0, .int .u8 0, .int .u8 0, .int .u8 0, .int .u8 0] 101) = V := ⟨_, rfl⟩
        rw [hu32w] at s32 q32 t5_32
        rw [hu32w]
        clear hu32w
        refine nextS 1 (by kernel_rfl) (by rfl) (fun o ho K hK => ?_)
        simp only [List.getElem?_toArray, List.getElem?_cons_succ, List.getElem?_cons_zero, Option.some.injEq] at ho; subst ho
        go_simp
        (go_at_call 45; (with_reducible refine (CA.out _).mono ?_); rintro e u33w ⟨rfl, b33⟩)
        have s33 : Below w0.heap.size w0 u33w := below_up s32 s32.size b33
        have t4_33 := Shp.tn_on q32 b33
        have t5_33 := Shp.tn_on t5_32 b33
        refine hK.out _ _ s33 (fun _ => ?_)
        clear hK K
        try simp only [Act.put, List.setIfInBounds_toArray, List.set_cons_zero, List.set_cons_succ]
        refine nextS 3 (by kernel_rfl) (by rfl) (fun o ho K hK => ?_)
        simp only [List.getElem?_toArray, List.getElem?_cons_succ, List.getElem?_cons_zero, Option.some.injEq] at ho; subst ho
        go_simp
        (go_at_call 45; (with_reducible refine (CB.out _).mono ?_); rintro e u34w ⟨rfl, b34⟩)
        have s34 : Below w0.heap.size w0 u34w := below_up s33 s33.size b34
        have t4_34 := Shp.tn_on t4_33 b34
        have t5_34 := Shp.tn_on t5_33 b34
        refine hK.out _ _ s34 (fun _ => ?_)
        clear hK K
        try simp only [Act.put, List.setIfInBounds_toArray, List.set_cons_zero, List.set_cons_succ]
        have t6 : Shp.tn 25 (u34w.setRow (u26w.heap.size) (kS.v a)) (wd.heap.size) = true := Shp.tn_setRow (u26w.heap.size) (kS.v_size a) t5_34
        refine nextS 6 (by kernel_rfl) (by rfl) (fun o ho K hK => ?_)
        simp only [List.getElem?_toArray, List.getElem?_cons_succ, List.getElem?_cons_zero, Option.some.injEq] at ho; subst ho
        go_simp
        have s6 : Below w0.heap.size w0 (u34w.setRow (u26w.heap.size) (kS.v a)) := below_setRow s34 s26.size _
        refine hK.out _ _ s6 (fun _ => ?_)
        clear hK K
        try simp only [Act.put, List.setIfInBounds_toArray, List.set_cons_zero, List.set_cons_succ]
        refine nextS 7 (by kernel_rfl) (by rfl) (fun o ho K hK => ?_)
        simp only [List.getElem?_toArray, List.getElem?_cons_succ, List.getElem?_cons_zero, Option.some.injEq] at ho; subst ho
        go_simp
        have s7 : Below w0.heap.size w0 ((u34w.setRow (u26w.heap.size) (kS.v a)).setRow (wd.heap.size) (kS.v b)) := below_setRow s6 sd.size _
        refine hK.out _ _ s7 (fun _ => ?_)
        clear hK K
        try simp only [Act.put, List.setIfInBounds_toArray, List.set_cons_zero, List.set_cons_succ]
        refine wpAnyH_done (by kernel_rfl) ?_ _
        refine NoPanic.normal ?_
        have RB := Shp.rd_set (S := kS) (u34w.setRow (u26w.heap.size) (kS.v a)) (wd.heap.size) b t6
        have RA : kS.rd ((u34w.setRow (u26w.heap.size) (kS.v a)).setRow (wd.heap.size) (kS.v b)) ⟨u26w.heap.size, 0, none⟩ = some a := by rw [Shp.rd_far _ _ _ _ ne]; exact Shp.rd_set (S := kS) _ _ _ t4_34
        go_wp2_with fail
        go_meet
        exact ⟨_, _, rfl, rfl, RA, RB, s7⟩
  case rest =>
    obtain ⟨k5, k6, rfl, rfl, RA, RB, b1⟩ := hcut
    have bF := below_up b0 b0.size b1
    clear CA CB f0 f1 b1 b0
    go_wp2
    go_loopw [7] (fun i wr => ∃ j : Nat, j ≤ 25 ∧ i = .int .i64 j ∧ Like a.l b.l j ∧ kS.rd wr ⟨k5, 0, none⟩ = some a ∧ kS.rd wr ⟨k6, 0, none⟩ = some b ∧ Below w.heap.size w wr) (fun i _ => 25 - (intOf i).toNat)
    case atStart => exact ⟨0, Nat.zero_le _, rfl, like_first _ _, RA, RB, bF⟩
    case round =>
      obtain ⟨j, hj, rfl, HL, RA, RB, bF⟩ := hrel
      by_cases hlt : j < 25
      · obtain ⟨x, hx, _⟩ := key_at a hlt
        obtain ⟨y, hy, _⟩ := key_at b hlt
        have cx := cell_kr RA hx
        have cy := cell_kr RB hy
        have i1 : (0 : Int) ≤ (j : Int) := by omega
        have i2 : (j : Int) < 25 := by omega
        by_cases e : x = y
        · have HN := like_next HL hx hy e
          subst e
          have RA' := fun q => (Shp.rd_drewN (S := kS) wr ⟨k5, 0, none⟩ q).trans RA
          have RB' := fun q => (Shp.rd_drewN (S := kS) wr ⟨k6, 0, none⟩ q).trans RB
          have bF' := fun q => below_drewN bF q
          clear HL hr hx hy RA RB bF
          go_wp2_with fail
          go_quiet (fail)
          go_wp2
          go_roundw
          case rel => exact ⟨j + 1, by omega, by go_num, HN, RA' _, RB' _, bF' _⟩
          case measure => simp [intOf]; omega
        · have HN := Lib.hid (like_endk HL hx hy e hr)
          have hne : (((x : Int) == (y : Int)) = false) := by rw [beq_eq_false_iff_ne]; omega
          have hne2 : (((x : Int) != (y : Int)) = true) := by rw [bne_iff_ne]; omega
          have bF' := fun q p => below_drewN (below_drewN bF q) p
          clear HL hr hx hy RA RB
          go_wp2_with fail
          go_quiet (fail)
          go_wp2_with fail
          go_quiet (fail)
          go_wp2
          go_ret
          exact ⟨bool_ofk HN.out, by first | exact bF' _ _ | (rw [← World.drewN_drewN]; exact bF' _ _)⟩
      · obtain rfl : j = 25 := by omega
        have HN := Lib.hid (like_stop HL hr)
        clear HL hr RA RB
        go_wp2
        go_ret
        exact ⟨bool_ofk HN.out, bF⟩
end Go.Proofs.Ytkhjnfplcaffnaa
