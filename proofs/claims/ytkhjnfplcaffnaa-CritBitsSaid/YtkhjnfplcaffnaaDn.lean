/-
  The law's To, of the document's key of any key: some key.
  The document's Differ.
  The document's Branch.
-/
import Derived.Test.YtkhjnfplcaffnaaDl
import Derived.Test.YtkhjnfplcaffnaaDm
import Derived.Test.YtkhjnfplcaffnaaDf
import Derived.Deep.MidRow
import Derived.WalkSpells
import Derived.Test.YtkhjnfplcaffnaaDa
import Derived.Test.YtkhjnfplcaffnaaCbr
set_option linter.unusedVariables false
set_option linter.unusedSimpArgs false
set_option maxRecDepth 100000
namespace Go.Proofs.Ytkhjnfplcaffnaa
open Go.RowKit
attribute [local go_sem ↓] Go.wp_at_zero Go.wp_at_succ ld_k lv_k st_k eq_k ne_k bd_k ld_b lv_b st_b eq_b ne_b bd_25 ld_r lv_r st_rk eq_rk ne_rk bd_r ld_p lv_p st_px bd_p Nm.ld_a Nm.ld_n Nm.st_a Nm.st_n Nm.eq_a Nm.eq_n Nm.ne_a Nm.ne_n Nm.lv_a Nm.lv_n ld_a ld_n st_a st_n eq_a eq_n ne_a ne_n lv_a lv_n
attribute [local go_sem] run_ldk run_lvk run_stk run_eqk run_nek run_bdk_z run_ldb run_lvb run_stb run_eqb run_neb run_ldr run_lvr run_strk run_eqrk run_nerk run_bdr_z run_ldp run_lvp run_stpx Nm.run_ld_a Nm.run_ld_n Nm.run_st_n Nm.run_eq_a Nm.run_eq_n Nm.run_ne_a Nm.run_ne_n Nm.run_lv_a Nm.run_lv_n Nm.rd_new Nm.rd_old Nm.rd_drew Nm.rd_drewN run_ld_a run_ld_n run_sw_a run_sw_n run_eq_a run_eq_n run_ne_a run_ne_n run_lv_a run_lv_n st_z ne_z eq_z rd_new rd_old rd_drew rd_drewN Shp.rd_new Shp.rd_old Shp.rd_drew Shp.rd_drewN Shp.rd_set Shp.tn_new Shp.tn_old Shp.tn_drew Shp.tn_drewN tn_new tn_old tn_drew tn_drewN rd_set setRow_alloc run_stn3 run_stt15

theorem rof_le {x : D.Tg} {p : D.Pt} (h : D.rof x = some p) : p.l.length ≤ 4 ∧ p.s.length ≤ 4 ∧ p.r.length ≤ 4 := by
  obtain ⟨h1, h2, h3⟩ := frt_le x
  unfold D.rof at h
  split at h
  · split at h
    · injection h with h; subst h; decide
    · cases h
  · split at h
    · cases h
    · split at h
      · injection h with h; subst h; omega
      · cases h
theorem below_setCells {base g : Nat} {w0 : World} (hg : base ≤ g) : ∀ (vs : List Value) (o : Nat) (w : World), Below base w0 w → Below base w0 (w.setCells g o vs)
  | [], _, _, h => h
  | v :: r, o, w, h => below_setCells hg r (o + 1) _ (h.setCell hg v)
theorem heap_setCells {g q : Nat} (hg : q ≠ g) : ∀ (vs : List Value) (o : Nat) (w : World), (w.setCells g o vs).heap[q]? = w.heap[q]?
  | [], _, _ => rfl
  | v :: r, o, w => (heap_setCells hg r (o + 1) _).trans (Below.heap_setCell _ _ _ _ hg)
/-- A key with another tag. -/
def ktg (y : D.Ky) (x : D.Tg) : D.Ky := ⟨y.l.take 15 ++ x.l, by simp [y.len, x.len], fun b hb => by
  rcases List.mem_append.1 hb with hb | hb
  · exact y.lt b (List.mem_of_mem_take hb)
  · exact x.lt b hb⟩
theorem kv15 {w : World} {g : Nat} {ty : TypeId} {y : D.Ky} (h : Blk w g ty (kS.v y)) (x : D.Tg) :
    (st 28 (.pointer (some ⟨g, 15, none⟩)) (.agg (nc x))).run Try.prog w = .ok () (w.setCells g 15 (bys x.l)) ∧ kS.rd (w.setCells g 15 (bys x.l)) ⟨g, 0, none⟩ = some (ktg y x) := by
  have hlen : (bys x.l).length = 10 := by rw [bys_len, x.len]
  have hyl : (bys y.l).length = 25 := by rw [bys_len, y.len]
  have hc : ∀ j v, (bys y.l)[j]? = some v → w.cell? ⟨g, j, none⟩ = some v := fun j v hv => by
    have := Shp.at_of (Shp.rd_blk (S := kS) h) j v hv
    rwa [add_o, Nat.zero_add] at this
  have ht : w.there g 15 10 := fun j hj => ⟨by rw [hc (15 + j) _ (List.getElem?_eq_getElem (by rw [hyl]; omega))]; rfl, h.f (15 + j)⟩
  have hR0 : w.rangeAt g 0 ((bys y.l).take 15) := fun j v hv => by
    rw [Nat.zero_add]
    have hj : j < 15 := by
      have := (List.getElem?_eq_some_iff.1 hv).1
      rw [List.length_take] at this; omega
    rw [List.getElem?_take_of_lt hj] at hv
    exact hc j v hv
  have hA := World.rangeAt_setCells_apart hR0 g 15 (bys x.l) (.inr (.inl (by rw [List.length_take]; omega)))
  have hS := World.rangeAt_setCells_same w g 15 (bys x.l) (by rw [hlen]; exact ht)
  have hsz : (nc x).size = 10 := nc_size x
  refine ⟨?_, Shp.rd_of fun j u hu => ?_⟩
  · have := run_storeAt_mid (P := Try.prog) w g 15 28 (nc x) (by rw [hsz]; exact ht) (by rw [hsz]; kernel_rfl) (all_oneCell_toArray (bys_one x.l))
    exact this
  · rw [add_o, Nat.zero_add]
    have hu : (bys (y.l.take 15 ++ x.l))[j]? = some u := hu
    have e : bys (y.l.take 15 ++ x.l) = (bys y.l).take 15 ++ bys x.l := by simp [bys, List.map_take]
    rw [e] at hu
    by_cases hj : j < 15
    · rw [List.getElem?_append_left (by rw [List.length_take]; omega)] at hu
      have := hA j u hu
      rwa [Nat.zero_add] at this
    · rw [List.getElem?_append_right (by rw [List.length_take]; omega), List.length_take, hyl] at hu
      have := hS (j - 15) u (by rw [show j - 15 = j - min 15 25 by omega]; exact hu)
      rwa [show 15 + (j - 15) = j by omega] at this
theorem lvk_of_ {w : World} {g : Nat} {x : D.Ky} (h : kS.rd w ⟨g, 0, none⟩ = some x) : (loadVar 30 ⟨g, 0, none⟩).run Try.prog w = .ok (.agg (kS.v x)) w := (run_lvk w ⟨g, 0, none⟩).trans (by rw [h]; rfl)
set_option maxHeartbeats 8000000 in
theorem lawto_any (x : D.Ky) (w : World) : Calls Try.prog 24 #[.agg (rS.v (D.toR x))] w fun e w' => ∃ y : D.Ky, e = .returned (.agg (kS.v y)) ∧ Below w.heap.size w w' := by
  obtain ⟨w0, hw0⟩ : ∃ w0, (w.alloc (.cells (rS.v (D.toR x)) 40)).alloc (.cells #[.int .u8 0, .int .u8 0, .int .u8 0, .int .u8 0, .int .u8 0, .int .u8 0, .int .u8 0, .int .u8 0, .int .u8 0, .int .u8 0, .int .u8 0, .int .u8 0, .int .u8 0, .int .u8 0, .int .u8 0, .int .u8 0, .int .u8 0, .int .u8 0, .int .u8 0, .int .u8 0, .int .u8 0, .int .u8 0, .int .u8 0, .int .u8 0, .int .u8 0] 30) = w0 := ⟨_, rfl⟩
  have f0 : rS.rd w0 ⟨w.heap.size, 0, none⟩ = some (D.toR x) := by rw [← hw0]; exact Shp.rd_on (Shp.rd_new (S := rS) w _ _ _ rfl) (below_alloc_ _ _)
  have k0 : Shp.tn 25 w0 (w.heap.size + 1) = true := by rw [← hw0]; exact Shp.tn_new _ _ _ _ _ (by simp) rfl
  have b0 : Below w.heap.size w w0 := by rw [← hw0]; exact (below_alloc_ _ _).alloc (by simp) _
  have s0 : w0.heap.size = w.heap.size + 2 := by rw [← hw0]; simp
  obtain ⟨gb, hgb⟩ : ∃ gb, w.heap.size = gb := ⟨_, rfl⟩
  rw [hgb] at f0 k0 s0
  obtain ⟨d0, d1, d2, d3, d4⟩ := rf0 f0
  have hK0 : (D.toR x).k = (x.k : Int) := rfl
  have hK1 : (D.toR x).p = (x.p : Int) := rfl
  have hK2 : (D.toR x).a = (x.a : Int) := rfl
  have hKn : (D.toR x).n = x.n := rfl
  have hKt : (D.toR x).t = x.t := rfl
  rw [hK0] at d0
  rw [hK1] at d1
  rw [hK2] at d2
  rw [hKn] at d3
  rw [hKt] at d4
  have q0 := wrap8 x.k_lt
  have q1 := wrap8 x.p_lt
  have q2 := wrap8 x.a_lt
  have hbd := fun W => bdk4 W x
  obtain ⟨y, hy⟩ : ∃ y, D.mkK x.k x.p x.a x.n D.zero = y := ⟨_, rfl⟩
  rw [hy] at hbd
  obtain ⟨W1, hW1⟩ : ∃ W1, w0.alloc (.cells (kS.v y) 30) = W1 := ⟨_, rfl⟩
  have b1 : Below w0.heap.size w0 W1 := by rw [← hW1]; exact below_alloc_ _ _
  have B1 : Blk W1 w0.heap.size 30 (kS.v y) := by rw [← hW1]; exact Blk.new _ _ _
  have k1 := Shp.tn_on k0 b1
  obtain ⟨t1, ht1⟩ : ∃ t1, x.t = t1 := ⟨_, rfl⟩
  rw [ht1] at d4
  have HW1 := Lib.hid hW1
  have HS0 := Lib.hid s0
  have HB0 := Lib.hid b0
  have HB1 := Lib.hid b1
  have HBK := Lib.hid B1
  have HK1 := Lib.hid k1
  have HGB := Lib.hid hgb
  have CO := Lib.hid (fun W => rof_any t1 W)
  have DD4 := Lib.hid (rd_on d4 b1)
  clear hy ht1 hK0 hK1 hK2 hKn hKt b0 b1 B1 k1 f0 hW1
  go_enter Try.func24, Try.ntmps24
  go_wp2_with fail
  try rw [hw0]
  try rw [hgb]
  rw [HS0.out] at HBK
  have B1 := HBK.out
  have r1 := Shp.rd_blk (S := kS) B1
  have lg : gb + 2 < W1.heap.size := B1.lt
  have e0 : (some ⟨gb + 2, 0, none⟩ : Option Addr) = some ⟨gb + 2, 0, none⟩ := rfl
  try rw [HW1.out]
  clear d0 d1 d2 d3 d4 q0 q1 q2 hbd
  cases ho : D.rof t1 with
  | none =>
    obtain ⟨s1, s2, s3, hs⟩ : ∃ s1 s2 s3, av D.rt = .agg #[.string s1, .string s2, .string s3] := ⟨_, _, _, rfl⟩
    have CO1 : Hid (Calls Try.prog 46 #[.agg (nc t1)] W1 fun e w' => e = .returned (.tuple #[.agg #[.string s1, .string s2, .string s3], .bool false]) ∧ Below W1.heap.size W1 w') := Lib.hid (by have := CO.out W1; rw [ho] at this; rw [← hs]; exact this)
    clear CO ho hs
    go_wp2_with (first
      | (go_at_call 46; (with_reducible refine CO1.out.mono ?_); rintro e w2 ⟨rfl, b2⟩; have r2 := Shp.rd_on r1 b2; have t2 := Shp.tn_on HK1.out b2; have l2 : gb + 2 < w2.heap.size := Shp.rd_lt r2; have l3 : gb + 1 < w2.heap.size := (by omega); have B2 := Lib.hid (below_up HB1.out HB1.out.size b2); clear b2)
      | fail)
    have t3 : Shp.tn 25 (w2.alloc (.cells #[.string s1, .string s2, .string s3] 110)) (gb + 1) = true := Shp.tn_on t2 (below_alloc_ _ _)
    have hset := Shp.rd_set (S := kS) (w2.alloc (.cells #[.string s1, .string s2, .string s3] 110)) (gb + 1) y t3
    have bw := HB0.out.trans (B2.out.mono HB0.out.size)
    have bz := below_setRow (bw.alloc bw.size (.cells #[.string s1, .string s2, .string s3] 110)) (show w.heap.size ≤ gb + 1 by rw [HGB.out]; omega) (kS.v y)
    exact bodyPost_ret (v := .agg (kS.v y)) (by rw [results_cell1 rfl]; simp [asAddr, Result.andThen, lvk_of_ hset]) rfl ⟨y, rfl, bz⟩
  | some p =>
    obtain ⟨z1, z2, z3⟩ := rof_le ho
    have CT := Lib.hid (fun W => to_any (D.sb p.l) (D.sb p.s) (D.sb p.r) W (by rw [D.sb_len]; omega) (by rw [D.sb_len]; omega) (by rw [D.sb_len]; omega))
    obtain ⟨m, hm⟩ : ∃ m, D.tb ⟨D.ns (D.sb p.l), D.ns (D.sb p.s), D.ns (D.sb p.r)⟩ = m := ⟨_, rfl⟩
    rw [hm] at CT
    have CO1 : Hid (Calls Try.prog 46 #[.agg (nc t1)] W1 fun e w' => e = .returned (.tuple #[.agg #[.string (D.sb p.l), .string (D.sb p.s), .string (D.sb p.r)], .bool true]) ∧ Below W1.heap.size W1 w') := Lib.hid (by have := CO.out W1; rw [ho] at this; exact this)
    obtain ⟨s1, hs1⟩ : ∃ s, D.sb p.l = s := ⟨_, rfl⟩
    obtain ⟨s2, hs2⟩ : ∃ s, D.sb p.s = s := ⟨_, rfl⟩
    obtain ⟨s3, hs3⟩ : ∃ s, D.sb p.r = s := ⟨_, rfl⟩
    rw [hs1, hs2, hs3] at CT CO1
    clear CO ho hm hs1 hs2 hs3
    go_wp2_with (first
      | (go_at_call 46; (with_reducible refine CO1.out.mono ?_); rintro e w2 ⟨rfl, b2⟩; have H2 := Lib.hid (B1.on b2); have t2 := Shp.tn_on HK1.out b2; have l2 : gb + 2 < w2.heap.size := H2.out.lt; have l3 : gb + 1 < w2.heap.size := (by omega); have B2 := Lib.hid (below_up HB1.out HB1.out.size b2); clear b2)
      | fail)
    have b3 := below_alloc_ w2 (.cells #[.string s1, .string s2, .string s3] 110)
    obtain ⟨W3, hW3⟩ : ∃ W3, w2.alloc (.cells #[.string s1, .string s2, .string s3] 110) = W3 := ⟨_, rfl⟩
    rw [hW3] at b3
    have H3 := H2.out.on b3
    have t3 := Shp.tn_on t2 b3
    have B3 := Lib.hid (below_up B2.out B2.out.size b3)
    rw [hW3]
    clear hW3 b3
    go_wp2_with (first
      | (go_at_call 47; (with_reducible refine (CT.out _).mono ?_); rintro e w4 ⟨rfl, b4⟩; obtain ⟨hst, hk4⟩ := kv15 (H3.on b4) m; have t4 := Shp.tn_on t3 b4; have B4 := Lib.hid (below_up B3.out B3.out.size b4); obtain ⟨V, hV⟩ : ∃ V, w4.setCells (gb + 2) 15 (bys m.l) = V := ⟨_, rfl⟩; have t5 : Shp.tn 25 V (gb + 1) = true := (by rw [← hV]; exact (Shp.tn_to (heap_setCells (by omega) _ _ _)).trans t4); have bV : Below w.heap.size w V := (by rw [← hV]; exact below_setCells (by rw [HGB.out]; omega) _ _ _ (HB0.out.trans (B4.out.mono HB0.out.size))); rw [hV] at hst hk4; have lV : gb + 2 < V.heap.size := Shp.rd_lt hk4; have HBV := Lib.hid bV; clear b4 t4 hV bV)
      | fail)
    have hset := Shp.rd_set (S := kS) V (gb + 1) (ktg y m) t5
    have bz := below_setRow HBV.out (show w.heap.size ≤ gb + 1 by rw [HGB.out]; omega) (kS.v (ktg y m))
    exact bodyPost_ret (v := .agg (kS.v (ktg y m))) (by rw [results_cell1 rfl]; simp [asAddr, Result.andThen, lvk_of_ hset]) rfl ⟨ktg y m, rfl, bz⟩
end Go.Proofs.Ytkhjnfplcaffnaa
set_option linter.unusedVariables false
set_option linter.unusedSimpArgs false
set_option maxRecDepth 100000
namespace Go.Proofs.Ytkhjnfplcaffnaa
open Go.RowKit
attribute [local go_sem ↓] Go.wp_at_zero Go.wp_at_succ ld_k lv_k st_k eq_k ne_k bd_k ld_b lv_b st_b eq_b ne_b bd_25 ld_r lv_r st_rk eq_rk ne_rk bd_r ld_p lv_p st_px bd_p Nm.ld_a Nm.ld_n Nm.st_a Nm.st_n Nm.eq_a Nm.eq_n Nm.ne_a Nm.ne_n Nm.lv_a Nm.lv_n ld_a ld_n st_a st_n eq_a eq_n ne_a ne_n lv_a lv_n ld_l lv_l st_l bd_l bd_n bs_l bs_k ld_e lv_e bd_e bs_e
attribute [local go_sem] run_ldk run_lvk run_stk run_eqk run_nek run_bdk_z run_ldb run_lvb run_stb run_eqb run_neb run_ldr run_lvr run_strk run_eqrk run_nerk run_bdr_z run_ldp run_lvp run_stpx Nm.run_ld_a Nm.run_ld_n Nm.run_st_n Nm.run_eq_a Nm.run_eq_n Nm.run_ne_a Nm.run_ne_n Nm.run_lv_a Nm.run_lv_n Nm.rd_new Nm.rd_old Nm.rd_drew Nm.rd_drewN run_ld_a run_ld_n run_sw_a run_sw_n run_eq_a run_eq_n run_ne_a run_ne_n run_lv_a run_lv_n st_z ne_z eq_z rd_new rd_old rd_drew rd_drewN Shp.rd_new Shp.rd_old Shp.rd_drew Shp.rd_drewN Shp.rd_set Shp.tn_new Shp.tn_old Shp.tn_drew Shp.tn_drewN tn_new tn_old tn_drew tn_drewN rd_set setRow_alloc run_stn3 run_stt15 run_lvl run_ldl run_stl run_bdl run_bdn run_bdn0 run_bsl run_bsk run_lde run_lve run_bde run_bse run_bse0 Shp.rd_extk cell_ext

noncomputable def quB (x y : Value) : Sem Value := binOp .quo 5 x y
noncomputable def rmB (x y : Value) : Sem Value := binOp .rem 5 x y
theorem qu_b (x y : Value) : binOp .quo 5 x y = quB x y := rfl
theorem rm_b (x y : Value) : binOp .rem 5 x y = rmB x y := rfl
theorem run_quB {a b : Nat} (ha : a < 256) (h0 : 0 < b) (W : World) : (quB (.int .u8 (a : Nat)) (.int .u8 (b : Nat))).run Try.prog W = .ok (.int .u8 ((a / b : Nat) : Int)) W := by
  have h0' : ¬ b = 0 := by omega
  have h1 : (a : Int).tdiv (b : Int) = ((a / b : Nat) : Int) := by rw [Int.ofNat_tdiv]
  have h2 : a / b < 256 := Nat.lt_of_le_of_lt (Nat.div_le_self _ _) ha
  obtain ⟨q, hq⟩ : ∃ q, a / b = q := ⟨_, rfl⟩
  rw [hq] at h1 h2 ⊢
  have h3 : IntKind.u8.wrap (q : Int) = (q : Int) := by
    simp only [IntKind.wrap, IntKind.bits, IntKind.signed]
    simp
    omega
  simp [quB, binOp_quo, Op.intDiv, h0', h1, h3, go_sem]
theorem run_rmB {a : Nat} (W : World) : (rmB (.int .u8 (a : Nat)) (.int .u8 2)).run Try.prog W = .ok (.int .u8 ((a % 2 : Nat) : Int)) W := by
  have h1 : (a : Int).tmod 2 = ((a % 2 : Nat) : Int) := by
    have := Int.ofNat_tmod a 2
    simpa using this.symm
  have h2 : a % 2 < 2 := Nat.mod_lt _ (by decide)
  obtain ⟨q, hq⟩ : ∃ q, a % 2 = q := ⟨_, rfl⟩
  rw [hq] at h1 h2 ⊢
  have h3 : IntKind.u8.wrap (q : Int) = (q : Int) := by
    simp only [IntKind.wrap, IntKind.bits, IntKind.signed]
    simp
    omega
  simp [rmB, binOp_rem, Op.intDiv, h1, h3, go_sem]
attribute [local go_sem ↓] qu_b rm_b
def wth (k : Nat) : Nat := 128 / 2 ^ k
theorem wth_next (k : Nat) : wth k / 2 = wth (k + 1) := by unfold wth; rw [Nat.div_div_eq_div_mul, Nat.pow_succ]
theorem wth_lt (k : Nat) : wth k < 256 := Nat.lt_of_le_of_lt (Nat.div_le_self _ _) (by decide)
theorem wth_pos {k : Nat} (h : k < 8) : 0 < wth k := by
  have : ∀ k : Fin 8, 0 < wth k.val := by decide
  exact this ⟨k, h⟩
theorem bit_all : ∀ x : Fin 256, ∀ k : Fin 8, (x.val / wth k.val) % 2 = (x.val.testBit (7 - k.val)).toNat := by decide +kernel
theorem bit_at {a : D.Ky} {j k x : Nat} (hx : a.l[j]? = some x) (hk : k < 8) : (x / wth k) % 2 = (Cr.Bits.bt a (8 * j + k)).toNat := by
  have hl : x < 256 := by
    have := D.byte_lt a j
    rw [List.getD, hx] at this; exact this
  rw [D.bt_def, D.kbt_at a j k hk, List.getD, hx]
  exact bit_all ⟨x, hl⟩ ⟨k, hk⟩
theorem ky_lt {a : D.Ky} {j x : Nat} (hx : a.l[j]? = some x) : x < 256 := by
  have := D.byte_lt a j
  rw [List.getD, hx] at this; exact this
/-- Bits alike up to one. -/
def Lik (a b : D.Ky) (n : Nat) : Prop := ∀ i, i < n → Cr.Bits.bt a i = Cr.Bits.bt b i
theorem Lik.next {a b : D.Ky} {n : Nat} (h : Lik a b n) (e : (Cr.Bits.bt a n).toNat = (Cr.Bits.bt b n).toNat) : Lik a b (n + 1) := fun i hi => by
  by_cases c : i < n
  · exact h i c
  · obtain rfl : i = n := by omega
    revert e; cases Cr.Bits.bt a i <;> cases Cr.Bits.bt b i <;> simp
theorem Lik.stop {a b : D.Ky} {n : Nat} (h : Lik a b n) (hn : n < 200) (e : ¬ (Cr.Bits.bt a n).toNat = (Cr.Bits.bt b n).toNat) : Cr.par a b = n := Cr.par_of hn h (fun c => e (by rw [c]))
theorem Lik.all {a b : D.Ky} (h : Lik a b 200) : Cr.par a b = 200 := by
  have := Cr.par_ge (x := a) (y := b) (d := 200) (Nat.le_refl _) h
  have := Cr.par_le a b
  omega
def dfi (a b : D.Ky) : Int := if Cr.par a b < 200 then (Cr.par a b : Nat) else -1
set_option maxHeartbeats 16000000 in
theorem rdiffer_any (a b : D.Ky) (w : World) : Calls Try.prog 23 #[.agg (rS.v (D.toR a)), .agg (rS.v (D.toR b))] w fun e w' => e = .returned (.int .i64 (dfi a b)) ∧ Below w.heap.size w w' := by
  have CA := Lib.hid (rbytes_any a)
  have CB := Lib.hid (rbytes_any b)
  obtain ⟨w0, hw0⟩ : ∃ w0, (w.alloc (.cells (rS.v (D.toR a)) 40)).alloc (.cells (rS.v (D.toR b)) 40) = w0 := ⟨_, rfl⟩
  have f0 : rS.rd w0 ⟨w.heap.size, 0, none⟩ = some (D.toR a) := by rw [← hw0]; exact Shp.rd_on (Shp.rd_new (S := rS) w _ _ _ rfl) (below_alloc_ _ _)
  have f1 : rS.rd w0 ⟨w.heap.size + 1, 0, none⟩ = some (D.toR b) := by rw [← hw0]; exact Shp.rd_new _ _ _ _ (by simp)
  have b0 : Below w.heap.size w w0 := by rw [← hw0]; exact (below_alloc_ _ _).alloc (by simp) _
  go_enter Try.func23, Try.ntmps23
  go_wp2_with fail
  try rw [hw0]
  clear hw0
  go_cut [5, 6] from 10 (fun s5 s6 wx => ∃ k5 k6 : Nat, s5 = .pointer (some ⟨k5, 0, none⟩) ∧ s6 = .pointer (some ⟨k6, 0, none⟩) ∧ kS.rd wx ⟨k5, 0, none⟩ = some a ∧ kS.rd wx ⟨k6, 0, none⟩ = some b ∧ Below w0.heap.size w0 wx)
  case first =>
    refine wp_region_noPanic ?_
    refine wp_region_held_drew (S := fun W => Below w0.heap.size w0 W) (by kernel_rfl) (Below.refl _ _).drew (fun _ => ?_)
    obtain ⟨wd, hwd⟩ : ∃ wd, w0.drew = wd := ⟨_, rfl⟩
    have sd : Below w0.heap.size w0 wd := by rw [← hwd]; exact (Below.refl _ _).drew
    rw [hwd]
    clear hwd
    refine takeS 0 (some 10) ?vr0 (by kernel_rfl) (by kernel_rfl) (by kernel_rfl) (by kernel_rfl) (fun _ _ _ h => h) (by rfl) ?hyr0 sd ?restr0
    case hyr0 => (intro o ho W hW; simp only [List.getElem?_toArray, List.getElem?_cons_succ, List.getElem?_cons_zero, Option.some.injEq] at ho; subst ho; (try dsimp only at hW); have g := Shp.rd_on f0 hW; go_simp; try rfl)
    try simp only [Act.put, List.setIfInBounds_toArray, List.set_cons_zero, List.set_cons_succ]
    refine takeS 2 (some 12) ?vr2 (by kernel_rfl) (by kernel_rfl) (by kernel_rfl) (by kernel_rfl) (fun _ _ _ h => h) (by rfl) ?hyr2 sd ?restr2
    case hyr2 => (intro o ho W hW; simp only [List.getElem?_toArray, List.getElem?_cons_succ, List.getElem?_cons_zero, Option.some.injEq] at ho; subst ho; (try dsimp only at hW); have g := Shp.rd_on f1 hW; go_simp; try rfl)
    try simp only [Act.put, List.setIfInBounds_toArray, List.set_cons_zero, List.set_cons_succ]
    refine fork3 1 4 5 (by kernel_rfl) (by rfl) (by rfl) (by rfl) (fun o ho K hK => ?_) (fun o ho K hK => ?_) (fun o ho K hK => ?_)
    · simp only [List.getElem?_toArray, List.getElem?_cons_succ, List.getElem?_cons_zero, Option.some.injEq] at ho; subst ho
      go_simp
      (go_at_call 45; (with_reducible refine (CA.out _).mono ?_); rintro e u1w ⟨rfl, b1⟩)
      have s1 : Below w0.heap.size w0 u1w := below_up sd sd.size b1
      refine hK.out _ _ s1 (fun _ => ?_)
      clear hK K
      try simp only [Act.put, List.setIfInBounds_toArray, List.set_cons_zero, List.set_cons_succ]
      refine fork3 3 4 5 (by kernel_rfl) (by rfl) (by rfl) (by rfl) (fun o ho K hK => ?_) (fun o ho K hK => ?_) (fun o ho K hK => ?_)
      · simp only [List.getElem?_toArray, List.getElem?_cons_succ, List.getElem?_cons_zero, Option.some.injEq] at ho; subst ho
        go_simp
        (go_at_call 45; (with_reducible refine (CB.out _).mono ?_); rintro e u2w ⟨rfl, b2⟩)
        have s2 : Below w0.heap.size w0 u2w := below_up s1 s1.size b2
        refine hK.out _ _ s2 (fun _ => ?_)
        clear hK K
        try simp only [Act.put, List.setIfInBounds_toArray, List.set_cons_zero, List.set_cons_succ]
        refine forkS 4 5 (by kernel_rfl) (by rfl) (by rfl) (fun o ho K hK => ?_) (fun o ho K hK => ?_)
        · simp only [List.getElem?_toArray, List.getElem?_cons_succ, List.getElem?_cons_zero, Option.some.injEq] at ho; subst ho
          go_simp
          have s3 : Below w0.heap.size w0 (u2w.alloc (.cells #[.int .u8 0, .int .u8 0, .int .u8 0, .int .u8 0, .int .u8 0, .int .u8 0, .int .u8 0, .int .u8 0, .int .u8 0, .int .u8 0, .int .u8 0, .int .u8 0, .int .u8 0, .int .u8 0, .int .u8 0, .int .u8 0, .int .u8 0, .int .u8 0, .int .u8 0, .int .u8 0, .int .u8 0, .int .u8 0, .int .u8 0, .int .u8 0, .int .u8 0] 101)) := s2.alloc s2.size _
          have q3 : Shp.tn 25 (u2w.alloc (.cells #[.int .u8 0, .int .u8 0, .int .u8 0, .int .u8 0, .int .u8 0, .int .u8 0, .int .u8 0, .int .u8 0, .int .u8 0, .int .u8 0, .int .u8 0, .int .u8 0, .int .u8 0, .int .u8 0, .int .u8 0, .int .u8 0, .int .u8 0, .int .u8 0, .int .u8 0, .int .u8 0, .int .u8 0, .int .u8 0, .int .u8 0, .int .u8 0, .int .u8 0] 101)) u2w.heap.size = true := Shp.tn_of (Blk.new u2w _ _) rfl
          refine hK.out _ _ s3 (fun _ => ?_)
          clear hK K
          try simp only [Act.put, List.setIfInBounds_toArray, List.set_cons_zero, List.set_cons_succ]
          obtain ⟨u3w, hu3w⟩ : ∃ V, u2w.alloc (.cells #[.int .u8 0, .int .u8 0, .int .u8 0, .int .u8 0, .int .u8 0, .int .u8 0, .int .u8 0, .int .u8 0, .int .u8 0, .int .u8 0, .int .u8 0, .int .u8 0, .int .u8 0, .int .u8 0, .int .u8 0, .int .u8 0, .int .u8 0, .int .u8 0, .int .u8 0, .int .u8 0, .int .u8 0, .int .u8 0, .int .u8 0, .int .u8 0, .int .u8 0] 101) = V := ⟨_, rfl⟩
          rw [hu3w] at s3 q3
          rw [hu3w]
          clear hu3w
          refine nextS 5 (by kernel_rfl) (by rfl) (fun o ho K hK => ?_)
          simp only [List.getElem?_toArray, List.getElem?_cons_succ, List.getElem?_cons_zero, Option.some.injEq] at ho; subst ho
          go_simp
          have s4 : Below w0.heap.size w0 (u3w.alloc (.cells #[.int .u8 0, .int .u8 0, .int .u8 0, .int .u8 0, .int .u8 0, .int .u8 0, .int .u8 0, .int .u8 0, .int .u8 0, .int .u8 0, .int .u8 0, .int .u8 0, .int .u8 0, .int .u8 0, .int .u8 0, .int .u8 0, .int .u8 0, .int .u8 0, .int .u8 0, .int .u8 0, .int .u8 0, .int .u8 0, .int .u8 0, .int .u8 0, .int .u8 0] 101)) := s3.alloc s3.size _
          have q4 : Shp.tn 25 (u3w.alloc (.cells #[.int .u8 0, .int .u8 0, .int .u8 0, .int .u8 0, .int .u8 0, .int .u8 0, .int .u8 0, .int .u8 0, .int .u8 0, .int .u8 0, .int .u8 0, .int .u8 0, .int .u8 0, .int .u8 0, .int .u8 0, .int .u8 0, .int .u8 0, .int .u8 0, .int .u8 0, .int .u8 0, .int .u8 0, .int .u8 0, .int .u8 0, .int .u8 0, .int .u8 0] 101)) u3w.heap.size = true := Shp.tn_of (Blk.new u3w _ _) rfl
          have t4_4 := Shp.tn_on q3 (below_alloc_ u3w (.cells #[.int .u8 0, .int .u8 0, .int .u8 0, .int .u8 0, .int .u8 0, .int .u8 0, .int .u8 0, .int .u8 0, .int .u8 0, .int .u8 0, .int .u8 0, .int .u8 0, .int .u8 0, .int .u8 0, .int .u8 0, .int .u8 0, .int .u8 0, .int .u8 0, .int .u8 0, .int .u8 0, .int .u8 0, .int .u8 0, .int .u8 0, .int .u8 0, .int .u8 0] 101))
          have ne : u2w.heap.size ≠ u3w.heap.size := Nat.ne_of_lt (Shp.tn_lt q3)
          refine hK.out _ _ s4 (fun _ => ?_)
          clear hK K
          try simp only [Act.put, List.setIfInBounds_toArray, List.set_cons_zero, List.set_cons_succ]
          obtain ⟨u4w, hu4w⟩ : ∃ V, u3w.alloc (.cells #[.int .u8 0, .int .u8 0, .int .u8 0, .int .u8 0, .int .u8 0, .int .u8 0, .int .u8 0, .int .u8 0, .int .u8 0, .int .u8 0, .int .u8 0, .int .u8 0, .int .u8 0, .int .u8 0, .int .u8 0, .int .u8 0, .int .u8 0, .int .u8 0, .int .u8 0, .int .u8 0, .int .u8 0, .int .u8 0, .int .u8 0, .int .u8 0, .int .u8 0] 101) = V := ⟨_, rfl⟩
          rw [hu4w] at s4 q4 t4_4
          rw [hu4w]
          clear hu4w
          have t6 : Shp.tn 25 (u4w.setRow (u2w.heap.size) (kS.v a)) (u3w.heap.size) = true := Shp.tn_setRow (u2w.heap.size) (kS.v_size a) q4
          refine nextS 6 (by kernel_rfl) (by rfl) (fun o ho K hK => ?_)
          simp only [List.getElem?_toArray, List.getElem?_cons_succ, List.getElem?_cons_zero, Option.some.injEq] at ho; subst ho
          go_simp
          have s6 : Below w0.heap.size w0 (u4w.setRow (u2w.heap.size) (kS.v a)) := below_setRow s4 s2.size _
          refine hK.out _ _ s6 (fun _ => ?_)
          clear hK K
          try simp only [Act.put, List.setIfInBounds_toArray, List.set_cons_zero, List.set_cons_succ]
          refine nextS 7 (by kernel_rfl) (by rfl) (fun o ho K hK => ?_)
          simp only [List.getElem?_toArray, List.getElem?_cons_succ, List.getElem?_cons_zero, Option.some.injEq] at ho; subst ho
          go_simp
          have s7 : Below w0.heap.size w0 ((u4w.setRow (u2w.heap.size) (kS.v a)).setRow (u3w.heap.size) (kS.v b)) := below_setRow s6 s3.size _
          refine hK.out _ _ s7 (fun _ => ?_)
          clear hK K
          try simp only [Act.put, List.setIfInBounds_toArray, List.set_cons_zero, List.set_cons_succ]
          refine wpAnyH_done (by kernel_rfl) ?_ _
          refine NoPanic.normal ?_
          have RB := Shp.rd_set (S := kS) (u4w.setRow (u2w.heap.size) (kS.v a)) (u3w.heap.size) b t6
          have RA : kS.rd ((u4w.setRow (u2w.heap.size) (kS.v a)).setRow (u3w.heap.size) (kS.v b)) ⟨u2w.heap.size, 0, none⟩ = some a := by rw [Shp.rd_far _ _ _ _ ne]; exact Shp.rd_set (S := kS) _ _ _ t4_4
          go_wp2_with fail
          go_meet
          exact ⟨_, _, rfl, rfl, RA, RB, s7⟩
        · simp only [List.getElem?_toArray, List.getElem?_cons_succ, List.getElem?_cons_zero, Option.some.injEq] at ho; subst ho
          go_simp
          have s5 : Below w0.heap.size w0 (u2w.alloc (.cells #[.int .u8 0, .int .u8 0, .int .u8 0, .int .u8 0, .int .u8 0, .int .u8 0, .int .u8 0, .int .u8 0, .int .u8 0, .int .u8 0, .int .u8 0, .int .u8 0, .int .u8 0, .int .u8 0, .int .u8 0, .int .u8 0, .int .u8 0, .int .u8 0, .int .u8 0, .int .u8 0, .int .u8 0, .int .u8 0, .int .u8 0, .int .u8 0, .int .u8 0] 101)) := s2.alloc s2.size _
          have q5 : Shp.tn 25 (u2w.alloc (.cells #[.int .u8 0, .int .u8 0, .int .u8 0, .int .u8 0, .int .u8 0, .int .u8 0, .int .u8 0, .int .u8 0, .int .u8 0, .int .u8 0, .int .u8 0, .int .u8 0, .int .u8 0, .int .u8 0, .int .u8 0, .int .u8 0, .int .u8 0, .int .u8 0, .int .u8 0, .int .u8 0, .int .u8 0, .int .u8 0, .int .u8 0, .int .u8 0, .int .u8 0] 101)) u2w.heap.size = true := Shp.tn_of (Blk.new u2w _ _) rfl
          refine hK.out _ _ s5 (fun _ => ?_)
          clear hK K
          try simp only [Act.put, List.setIfInBounds_toArray, List.set_cons_zero, List.set_cons_succ]
          obtain ⟨u5w, hu5w⟩ : ∃ V, u2w.alloc (.cells #[.int .u8 0, .int .u8 0, .int .u8 0, .int .u8 0, .int .u8 0, .int .u8 0, .int .u8 0, .int .u8 0, .int .u8 0, .int .u8 0, .int .u8 0, .int .u8 0, .int .u8 0, .int .u8 0, .int .u8 0, .int .u8 0, .int .u8 0, .int .u8 0, .int .u8 0, .int .u8 0, .int .u8 0, .int .u8 0, .int .u8 0, .int .u8 0, .int .u8 0] 101) = V := ⟨_, rfl⟩
          rw [hu5w] at s5 q5
          rw [hu5w]
          clear hu5w
          refine nextS 4 (by kernel_rfl) (by rfl) (fun o ho K hK => ?_)
          simp only [List.getElem?_toArray, List.getElem?_cons_succ, List.getElem?_cons_zero, Option.some.injEq] at ho; subst ho
          go_simp
          have s6 : Below w0.heap.size w0 (u5w.alloc (.cells #[.int .u8 0, .int .u8 0, .int .u8 0, .int .u8 0, .int .u8 0, .int .u8 0, .int .u8 0, .int .u8 0, .int .u8 0, .int .u8 0, .int .u8 0, .int .u8 0, .int .u8 0, .int .u8 0, .int .u8 0, .int .u8 0, .int .u8 0, .int .u8 0, .int .u8 0, .int .u8 0, .int .u8 0, .int .u8 0, .int .u8 0, .int .u8 0, .int .u8 0] 101)) := s5.alloc s5.size _
          have q6 : Shp.tn 25 (u5w.alloc (.cells #[.int .u8 0, .int .u8 0, .int .u8 0, .int .u8 0, .int .u8 0, .int .u8 0, .int .u8 0, .int .u8 0, .int .u8 0, .int .u8 0, .int .u8 0, .int .u8 0, .int .u8 0, .int .u8 0, .int .u8 0, .int .u8 0, .int .u8 0, .int .u8 0, .int .u8 0, .int .u8 0, .int .u8 0, .int .u8 0, .int .u8 0, .int .u8 0, .int .u8 0] 101)) u5w.heap.size = true := Shp.tn_of (Blk.new u5w _ _) rfl
          have t5_6 := Shp.tn_on q5 (below_alloc_ u5w (.cells #[.int .u8 0, .int .u8 0, .int .u8 0, .int .u8 0, .int .u8 0, .int .u8 0, .int .u8 0, .int .u8 0, .int .u8 0, .int .u8 0, .int .u8 0, .int .u8 0, .int .u8 0, .int .u8 0, .int .u8 0, .int .u8 0, .int .u8 0, .int .u8 0, .int .u8 0, .int .u8 0, .int .u8 0, .int .u8 0, .int .u8 0, .int .u8 0, .int .u8 0] 101))
          have ne : u5w.heap.size ≠ u2w.heap.size := Nat.ne_of_gt (Shp.tn_lt q5)
          refine hK.out _ _ s6 (fun _ => ?_)
          clear hK K
          try simp only [Act.put, List.setIfInBounds_toArray, List.set_cons_zero, List.set_cons_succ]
          obtain ⟨u6w, hu6w⟩ : ∃ V, u5w.alloc (.cells #[.int .u8 0, .int .u8 0, .int .u8 0, .int .u8 0, .int .u8 0, .int .u8 0, .int .u8 0, .int .u8 0, .int .u8 0, .int .u8 0, .int .u8 0, .int .u8 0, .int .u8 0, .int .u8 0, .int .u8 0, .int .u8 0, .int .u8 0, .int .u8 0, .int .u8 0, .int .u8 0, .int .u8 0, .int .u8 0, .int .u8 0, .int .u8 0, .int .u8 0] 101) = V := ⟨_, rfl⟩
          rw [hu6w] at s6 q6 t5_6
          rw [hu6w]
          clear hu6w
          have t6 : Shp.tn 25 (u6w.setRow (u5w.heap.size) (kS.v a)) (u2w.heap.size) = true := Shp.tn_setRow (u5w.heap.size) (kS.v_size a) t5_6
          refine nextS 6 (by kernel_rfl) (by rfl) (fun o ho K hK => ?_)
          simp only [List.getElem?_toArray, List.getElem?_cons_succ, List.getElem?_cons_zero, Option.some.injEq] at ho; subst ho
          go_simp
          have s6 : Below w0.heap.size w0 (u6w.setRow (u5w.heap.size) (kS.v a)) := below_setRow s6 s5.size _
          refine hK.out _ _ s6 (fun _ => ?_)
          clear hK K
          try simp only [Act.put, List.setIfInBounds_toArray, List.set_cons_zero, List.set_cons_succ]
          refine nextS 7 (by kernel_rfl) (by rfl) (fun o ho K hK => ?_)
          simp only [List.getElem?_toArray, List.getElem?_cons_succ, List.getElem?_cons_zero, Option.some.injEq] at ho; subst ho
          go_simp
          have s7 : Below w0.heap.size w0 ((u6w.setRow (u5w.heap.size) (kS.v a)).setRow (u2w.heap.size) (kS.v b)) := below_setRow s6 s2.size _
          refine hK.out _ _ s7 (fun _ => ?_)
          clear hK K
          try simp only [Act.put, List.setIfInBounds_toArray, List.set_cons_zero, List.set_cons_succ]
          refine wpAnyH_done (by kernel_rfl) ?_ _
          refine NoPanic.normal ?_
          have RB := Shp.rd_set (S := kS) (u6w.setRow (u5w.heap.size) (kS.v a)) (u2w.heap.size) b t6
          have RA : kS.rd ((u6w.setRow (u5w.heap.size) (kS.v a)).setRow (u2w.heap.size) (kS.v b)) ⟨u5w.heap.size, 0, none⟩ = some a := by rw [Shp.rd_far _ _ _ _ ne]; exact Shp.rd_set (S := kS) _ _ _ q6
          go_wp2_with fail
          go_meet
          exact ⟨_, _, rfl, rfl, RA, RB, s7⟩
      · simp only [List.getElem?_toArray, List.getElem?_cons_succ, List.getElem?_cons_zero, Option.some.injEq] at ho; subst ho
        go_simp
        have s7 : Below w0.heap.size w0 (u1w.alloc (.cells #[.int .u8 0, .int .u8 0, .int .u8 0, .int .u8 0, .int .u8 0, .int .u8 0, .int .u8 0, .int .u8 0, .int .u8 0, .int .u8 0, .int .u8 0, .int .u8 0, .int .u8 0, .int .u8 0, .int .u8 0, .int .u8 0, .int .u8 0, .int .u8 0, .int .u8 0, .int .u8 0, .int .u8 0, .int .u8 0, .int .u8 0, .int .u8 0, .int .u8 0] 101)) := s1.alloc s1.size _
        have q7 : Shp.tn 25 (u1w.alloc (.cells #[.int .u8 0, .int .u8 0, .int .u8 0, .int .u8 0, .int .u8 0, .int .u8 0, .int .u8 0, .int .u8 0, .int .u8 0, .int .u8 0, .int .u8 0, .int .u8 0, .int .u8 0, .int .u8 0, .int .u8 0, .int .u8 0, .int .u8 0, .int .u8 0, .int .u8 0, .int .u8 0, .int .u8 0, .int .u8 0, .int .u8 0, .int .u8 0, .int .u8 0] 101)) u1w.heap.size = true := Shp.tn_of (Blk.new u1w _ _) rfl
        refine hK.out _ _ s7 (fun _ => ?_)
        clear hK K
        try simp only [Act.put, List.setIfInBounds_toArray, List.set_cons_zero, List.set_cons_succ]
        obtain ⟨u7w, hu7w⟩ : ∃ V, u1w.alloc (.cells #[.int .u8 0, .int .u8 0, .int .u8 0, .int .u8 0, .int .u8 0, .int .u8 0, .int .u8 0, .int .u8 0, .int .u8 0, .int .u8 0, .int .u8 0, .int .u8 0, .int .u8 0, .int .u8 0, .int .u8 0, .int .u8 0, .int .u8 0, .int .u8 0, .int .u8 0, .int .u8 0, .int .u8 0, .int .u8 0, .int .u8 0, .int .u8 0, .int .u8 0] 101) = V := ⟨_, rfl⟩
        rw [hu7w] at s7 q7
        rw [hu7w]
        clear hu7w
        refine forkS 3 5 (by kernel_rfl) (by rfl) (by rfl) (fun o ho K hK => ?_) (fun o ho K hK => ?_)
        · simp only [List.getElem?_toArray, List.getElem?_cons_succ, List.getElem?_cons_zero, Option.some.injEq] at ho; subst ho
          go_simp
          (go_at_call 45; (with_reducible refine (CB.out _).mono ?_); rintro e u8w ⟨rfl, b8⟩)
          have s8 : Below w0.heap.size w0 u8w := below_up s7 s7.size b8
          have t4_8 := Shp.tn_on q7 b8
          refine hK.out _ _ s8 (fun _ => ?_)
          clear hK K
          try simp only [Act.put, List.setIfInBounds_toArray, List.set_cons_zero, List.set_cons_succ]
          refine nextS 5 (by kernel_rfl) (by rfl) (fun o ho K hK => ?_)
          simp only [List.getElem?_toArray, List.getElem?_cons_succ, List.getElem?_cons_zero, Option.some.injEq] at ho; subst ho
          go_simp
          have s9 : Below w0.heap.size w0 (u8w.alloc (.cells #[.int .u8 0, .int .u8 0, .int .u8 0, .int .u8 0, .int .u8 0, .int .u8 0, .int .u8 0, .int .u8 0, .int .u8 0, .int .u8 0, .int .u8 0, .int .u8 0, .int .u8 0, .int .u8 0, .int .u8 0, .int .u8 0, .int .u8 0, .int .u8 0, .int .u8 0, .int .u8 0, .int .u8 0, .int .u8 0, .int .u8 0, .int .u8 0, .int .u8 0] 101)) := s8.alloc s8.size _
          have q9 : Shp.tn 25 (u8w.alloc (.cells #[.int .u8 0, .int .u8 0, .int .u8 0, .int .u8 0, .int .u8 0, .int .u8 0, .int .u8 0, .int .u8 0, .int .u8 0, .int .u8 0, .int .u8 0, .int .u8 0, .int .u8 0, .int .u8 0, .int .u8 0, .int .u8 0, .int .u8 0, .int .u8 0, .int .u8 0, .int .u8 0, .int .u8 0, .int .u8 0, .int .u8 0, .int .u8 0, .int .u8 0] 101)) u8w.heap.size = true := Shp.tn_of (Blk.new u8w _ _) rfl
          have t4_9 := Shp.tn_on t4_8 (below_alloc_ u8w (.cells #[.int .u8 0, .int .u8 0, .int .u8 0, .int .u8 0, .int .u8 0, .int .u8 0, .int .u8 0, .int .u8 0, .int .u8 0, .int .u8 0, .int .u8 0, .int .u8 0, .int .u8 0, .int .u8 0, .int .u8 0, .int .u8 0, .int .u8 0, .int .u8 0, .int .u8 0, .int .u8 0, .int .u8 0, .int .u8 0, .int .u8 0, .int .u8 0, .int .u8 0] 101))
          have ne : u1w.heap.size ≠ u8w.heap.size := Nat.ne_of_lt (Shp.tn_lt t4_8)
          refine hK.out _ _ s9 (fun _ => ?_)
          clear hK K
          try simp only [Act.put, List.setIfInBounds_toArray, List.set_cons_zero, List.set_cons_succ]
          obtain ⟨u9w, hu9w⟩ : ∃ V, u8w.alloc (.cells #[.int .u8 0, .int .u8 0, .int .u8 0, .int .u8 0, .int .u8 0, .int .u8 0, .int .u8 0, .int .u8 0, .int .u8 0, .int .u8 0, .int .u8 0, .int .u8 0, .int .u8 0, .int .u8 0, .int .u8 0, .int .u8 0, .int .u8 0, .int .u8 0, .int .u8 0, .int .u8 0, .int .u8 0, .int .u8 0, .int .u8 0, .int .u8 0, .int .u8 0] 101) = V := ⟨_, rfl⟩
          rw [hu9w] at s9 q9 t4_9
          rw [hu9w]
          clear hu9w
          have t6 : Shp.tn 25 (u9w.setRow (u1w.heap.size) (kS.v a)) (u8w.heap.size) = true := Shp.tn_setRow (u1w.heap.size) (kS.v_size a) q9
          refine nextS 6 (by kernel_rfl) (by rfl) (fun o ho K hK => ?_)
          simp only [List.getElem?_toArray, List.getElem?_cons_succ, List.getElem?_cons_zero, Option.some.injEq] at ho; subst ho
          go_simp
          have s6 : Below w0.heap.size w0 (u9w.setRow (u1w.heap.size) (kS.v a)) := below_setRow s9 s1.size _
          refine hK.out _ _ s6 (fun _ => ?_)
          clear hK K
          try simp only [Act.put, List.setIfInBounds_toArray, List.set_cons_zero, List.set_cons_succ]
          refine nextS 7 (by kernel_rfl) (by rfl) (fun o ho K hK => ?_)
          simp only [List.getElem?_toArray, List.getElem?_cons_succ, List.getElem?_cons_zero, Option.some.injEq] at ho; subst ho
          go_simp
          have s7 : Below w0.heap.size w0 ((u9w.setRow (u1w.heap.size) (kS.v a)).setRow (u8w.heap.size) (kS.v b)) := below_setRow s6 s8.size _
          refine hK.out _ _ s7 (fun _ => ?_)
          clear hK K
          try simp only [Act.put, List.setIfInBounds_toArray, List.set_cons_zero, List.set_cons_succ]
          refine wpAnyH_done (by kernel_rfl) ?_ _
          refine NoPanic.normal ?_
          have RB := Shp.rd_set (S := kS) (u9w.setRow (u1w.heap.size) (kS.v a)) (u8w.heap.size) b t6
          have RA : kS.rd ((u9w.setRow (u1w.heap.size) (kS.v a)).setRow (u8w.heap.size) (kS.v b)) ⟨u1w.heap.size, 0, none⟩ = some a := by rw [Shp.rd_far _ _ _ _ ne]; exact Shp.rd_set (S := kS) _ _ _ t4_9
          go_wp2_with fail
          go_meet
          exact ⟨_, _, rfl, rfl, RA, RB, s7⟩
        · simp only [List.getElem?_toArray, List.getElem?_cons_succ, List.getElem?_cons_zero, Option.some.injEq] at ho; subst ho
          go_simp
          have s10 : Below w0.heap.size w0 (u7w.alloc (.cells #[.int .u8 0, .int .u8 0, .int .u8 0, .int .u8 0, .int .u8 0, .int .u8 0, .int .u8 0, .int .u8 0, .int .u8 0, .int .u8 0, .int .u8 0, .int .u8 0, .int .u8 0, .int .u8 0, .int .u8 0, .int .u8 0, .int .u8 0, .int .u8 0, .int .u8 0, .int .u8 0, .int .u8 0, .int .u8 0, .int .u8 0, .int .u8 0, .int .u8 0] 101)) := s7.alloc s7.size _
          have q10 : Shp.tn 25 (u7w.alloc (.cells #[.int .u8 0, .int .u8 0, .int .u8 0, .int .u8 0, .int .u8 0, .int .u8 0, .int .u8 0, .int .u8 0, .int .u8 0, .int .u8 0, .int .u8 0, .int .u8 0, .int .u8 0, .int .u8 0, .int .u8 0, .int .u8 0, .int .u8 0, .int .u8 0, .int .u8 0, .int .u8 0, .int .u8 0, .int .u8 0, .int .u8 0, .int .u8 0, .int .u8 0] 101)) u7w.heap.size = true := Shp.tn_of (Blk.new u7w _ _) rfl
          have t4_10 := Shp.tn_on q7 (below_alloc_ u7w (.cells #[.int .u8 0, .int .u8 0, .int .u8 0, .int .u8 0, .int .u8 0, .int .u8 0, .int .u8 0, .int .u8 0, .int .u8 0, .int .u8 0, .int .u8 0, .int .u8 0, .int .u8 0, .int .u8 0, .int .u8 0, .int .u8 0, .int .u8 0, .int .u8 0, .int .u8 0, .int .u8 0, .int .u8 0, .int .u8 0, .int .u8 0, .int .u8 0, .int .u8 0] 101))
          have ne : u1w.heap.size ≠ u7w.heap.size := Nat.ne_of_lt (Shp.tn_lt q7)
          refine hK.out _ _ s10 (fun _ => ?_)
          clear hK K
          try simp only [Act.put, List.setIfInBounds_toArray, List.set_cons_zero, List.set_cons_succ]
          obtain ⟨u10w, hu10w⟩ : ∃ V, u7w.alloc (.cells #[.int .u8 0, .int .u8 0, .int .u8 0, .int .u8 0, .int .u8 0, .int .u8 0, .int .u8 0, .int .u8 0, .int .u8 0, .int .u8 0, .int .u8 0, .int .u8 0, .int .u8 0, .int .u8 0, .int .u8 0, .int .u8 0, .int .u8 0, .int .u8 0, .int .u8 0, .int .u8 0, .int .u8 0, .int .u8 0, .int .u8 0, .int .u8 0, .int .u8 0] 101) = V := ⟨_, rfl⟩
          rw [hu10w] at s10 q10 t4_10
          rw [hu10w]
          clear hu10w
          refine nextS 3 (by kernel_rfl) (by rfl) (fun o ho K hK => ?_)
          simp only [List.getElem?_toArray, List.getElem?_cons_succ, List.getElem?_cons_zero, Option.some.injEq] at ho; subst ho
          go_simp
          (go_at_call 45; (with_reducible refine (CB.out _).mono ?_); rintro e u11w ⟨rfl, b11⟩)
          have s11 : Below w0.heap.size w0 u11w := below_up s10 s10.size b11
          have t4_11 := Shp.tn_on t4_10 b11
          have t5_11 := Shp.tn_on q10 b11
          refine hK.out _ _ s11 (fun _ => ?_)
          clear hK K
          try simp only [Act.put, List.setIfInBounds_toArray, List.set_cons_zero, List.set_cons_succ]
          have t6 : Shp.tn 25 (u11w.setRow (u1w.heap.size) (kS.v a)) (u7w.heap.size) = true := Shp.tn_setRow (u1w.heap.size) (kS.v_size a) t5_11
          refine nextS 6 (by kernel_rfl) (by rfl) (fun o ho K hK => ?_)
          simp only [List.getElem?_toArray, List.getElem?_cons_succ, List.getElem?_cons_zero, Option.some.injEq] at ho; subst ho
          go_simp
          have s6 : Below w0.heap.size w0 (u11w.setRow (u1w.heap.size) (kS.v a)) := below_setRow s11 s1.size _
          refine hK.out _ _ s6 (fun _ => ?_)
          clear hK K
          try simp only [Act.put, List.setIfInBounds_toArray, List.set_cons_zero, List.set_cons_succ]
          refine nextS 7 (by kernel_rfl) (by rfl) (fun o ho K hK => ?_)
          simp only [List.getElem?_toArray, List.getElem?_cons_succ, List.getElem?_cons_zero, Option.some.injEq] at ho; subst ho
          go_simp
          have s7 : Below w0.heap.size w0 ((u11w.setRow (u1w.heap.size) (kS.v a)).setRow (u7w.heap.size) (kS.v b)) := below_setRow s6 s7.size _
          refine hK.out _ _ s7 (fun _ => ?_)
          clear hK K
          try simp only [Act.put, List.setIfInBounds_toArray, List.set_cons_zero, List.set_cons_succ]
          refine wpAnyH_done (by kernel_rfl) ?_ _
          refine NoPanic.normal ?_
          have RB := Shp.rd_set (S := kS) (u11w.setRow (u1w.heap.size) (kS.v a)) (u7w.heap.size) b t6
          have RA : kS.rd ((u11w.setRow (u1w.heap.size) (kS.v a)).setRow (u7w.heap.size) (kS.v b)) ⟨u1w.heap.size, 0, none⟩ = some a := by rw [Shp.rd_far _ _ _ _ ne]; exact Shp.rd_set (S := kS) _ _ _ t4_11
          go_wp2_with fail
          go_meet
          exact ⟨_, _, rfl, rfl, RA, RB, s7⟩
      · simp only [List.getElem?_toArray, List.getElem?_cons_succ, List.getElem?_cons_zero, Option.some.injEq] at ho; subst ho
        go_simp
        have s12 : Below w0.heap.size w0 (u1w.alloc (.cells #[.int .u8 0, .int .u8 0, .int .u8 0, .int .u8 0, .int .u8 0, .int .u8 0, .int .u8 0, .int .u8 0, .int .u8 0, .int .u8 0, .int .u8 0, .int .u8 0, .int .u8 0, .int .u8 0, .int .u8 0, .int .u8 0, .int .u8 0, .int .u8 0, .int .u8 0, .int .u8 0, .int .u8 0, .int .u8 0, .int .u8 0, .int .u8 0, .int .u8 0] 101)) := s1.alloc s1.size _
        have q12 : Shp.tn 25 (u1w.alloc (.cells #[.int .u8 0, .int .u8 0, .int .u8 0, .int .u8 0, .int .u8 0, .int .u8 0, .int .u8 0, .int .u8 0, .int .u8 0, .int .u8 0, .int .u8 0, .int .u8 0, .int .u8 0, .int .u8 0, .int .u8 0, .int .u8 0, .int .u8 0, .int .u8 0, .int .u8 0, .int .u8 0, .int .u8 0, .int .u8 0, .int .u8 0, .int .u8 0, .int .u8 0] 101)) u1w.heap.size = true := Shp.tn_of (Blk.new u1w _ _) rfl
        refine hK.out _ _ s12 (fun _ => ?_)
        clear hK K
        try simp only [Act.put, List.setIfInBounds_toArray, List.set_cons_zero, List.set_cons_succ]
        obtain ⟨u12w, hu12w⟩ : ∃ V, u1w.alloc (.cells #[.int .u8 0, .int .u8 0, .int .u8 0, .int .u8 0, .int .u8 0, .int .u8 0, .int .u8 0, .int .u8 0, .int .u8 0, .int .u8 0, .int .u8 0, .int .u8 0, .int .u8 0, .int .u8 0, .int .u8 0, .int .u8 0, .int .u8 0, .int .u8 0, .int .u8 0, .int .u8 0, .int .u8 0, .int .u8 0, .int .u8 0, .int .u8 0, .int .u8 0] 101) = V := ⟨_, rfl⟩
        rw [hu12w] at s12 q12
        rw [hu12w]
        clear hu12w
        refine forkS 3 4 (by kernel_rfl) (by rfl) (by rfl) (fun o ho K hK => ?_) (fun o ho K hK => ?_)
        · simp only [List.getElem?_toArray, List.getElem?_cons_succ, List.getElem?_cons_zero, Option.some.injEq] at ho; subst ho
          go_simp
          (go_at_call 45; (with_reducible refine (CB.out _).mono ?_); rintro e u13w ⟨rfl, b13⟩)
          have s13 : Below w0.heap.size w0 u13w := below_up s12 s12.size b13
          have t5_13 := Shp.tn_on q12 b13
          refine hK.out _ _ s13 (fun _ => ?_)
          clear hK K
          try simp only [Act.put, List.setIfInBounds_toArray, List.set_cons_zero, List.set_cons_succ]
          refine nextS 4 (by kernel_rfl) (by rfl) (fun o ho K hK => ?_)
          simp only [List.getElem?_toArray, List.getElem?_cons_succ, List.getElem?_cons_zero, Option.some.injEq] at ho; subst ho
          go_simp
          have s14 : Below w0.heap.size w0 (u13w.alloc (.cells #[.int .u8 0, .int .u8 0, .int .u8 0, .int .u8 0, .int .u8 0, .int .u8 0, .int .u8 0, .int .u8 0, .int .u8 0, .int .u8 0, .int .u8 0, .int .u8 0, .int .u8 0, .int .u8 0, .int .u8 0, .int .u8 0, .int .u8 0, .int .u8 0, .int .u8 0, .int .u8 0, .int .u8 0, .int .u8 0, .int .u8 0, .int .u8 0, .int .u8 0] 101)) := s13.alloc s13.size _
          have q14 : Shp.tn 25 (u13w.alloc (.cells #[.int .u8 0, .int .u8 0, .int .u8 0, .int .u8 0, .int .u8 0, .int .u8 0, .int .u8 0, .int .u8 0, .int .u8 0, .int .u8 0, .int .u8 0, .int .u8 0, .int .u8 0, .int .u8 0, .int .u8 0, .int .u8 0, .int .u8 0, .int .u8 0, .int .u8 0, .int .u8 0, .int .u8 0, .int .u8 0, .int .u8 0, .int .u8 0, .int .u8 0] 101)) u13w.heap.size = true := Shp.tn_of (Blk.new u13w _ _) rfl
          have t5_14 := Shp.tn_on t5_13 (below_alloc_ u13w (.cells #[.int .u8 0, .int .u8 0, .int .u8 0, .int .u8 0, .int .u8 0, .int .u8 0, .int .u8 0, .int .u8 0, .int .u8 0, .int .u8 0, .int .u8 0, .int .u8 0, .int .u8 0, .int .u8 0, .int .u8 0, .int .u8 0, .int .u8 0, .int .u8 0, .int .u8 0, .int .u8 0, .int .u8 0, .int .u8 0, .int .u8 0, .int .u8 0, .int .u8 0] 101))
          have ne : u13w.heap.size ≠ u1w.heap.size := Nat.ne_of_gt (Shp.tn_lt t5_13)
          refine hK.out _ _ s14 (fun _ => ?_)
          clear hK K
          try simp only [Act.put, List.setIfInBounds_toArray, List.set_cons_zero, List.set_cons_succ]
          obtain ⟨u14w, hu14w⟩ : ∃ V, u13w.alloc (.cells #[.int .u8 0, .int .u8 0, .int .u8 0, .int .u8 0, .int .u8 0, .int .u8 0, .int .u8 0, .int .u8 0, .int .u8 0, .int .u8 0, .int .u8 0, .int .u8 0, .int .u8 0, .int .u8 0, .int .u8 0, .int .u8 0, .int .u8 0, .int .u8 0, .int .u8 0, .int .u8 0, .int .u8 0, .int .u8 0, .int .u8 0, .int .u8 0, .int .u8 0] 101) = V := ⟨_, rfl⟩
          rw [hu14w] at s14 q14 t5_14
          rw [hu14w]
          clear hu14w
          have t6 : Shp.tn 25 (u14w.setRow (u13w.heap.size) (kS.v a)) (u1w.heap.size) = true := Shp.tn_setRow (u13w.heap.size) (kS.v_size a) t5_14
          refine nextS 6 (by kernel_rfl) (by rfl) (fun o ho K hK => ?_)
          simp only [List.getElem?_toArray, List.getElem?_cons_succ, List.getElem?_cons_zero, Option.some.injEq] at ho; subst ho
          go_simp
          have s6 : Below w0.heap.size w0 (u14w.setRow (u13w.heap.size) (kS.v a)) := below_setRow s14 s13.size _
          refine hK.out _ _ s6 (fun _ => ?_)
          clear hK K
          try simp only [Act.put, List.setIfInBounds_toArray, List.set_cons_zero, List.set_cons_succ]
          refine nextS 7 (by kernel_rfl) (by rfl) (fun o ho K hK => ?_)
          simp only [List.getElem?_toArray, List.getElem?_cons_succ, List.getElem?_cons_zero, Option.some.injEq] at ho; subst ho
          go_simp
          have s7 : Below w0.heap.size w0 ((u14w.setRow (u13w.heap.size) (kS.v a)).setRow (u1w.heap.size) (kS.v b)) := below_setRow s6 s1.size _
          refine hK.out _ _ s7 (fun _ => ?_)
          clear hK K
          try simp only [Act.put, List.setIfInBounds_toArray, List.set_cons_zero, List.set_cons_succ]
          refine wpAnyH_done (by kernel_rfl) ?_ _
          refine NoPanic.normal ?_
          have RB := Shp.rd_set (S := kS) (u14w.setRow (u13w.heap.size) (kS.v a)) (u1w.heap.size) b t6
          have RA : kS.rd ((u14w.setRow (u13w.heap.size) (kS.v a)).setRow (u1w.heap.size) (kS.v b)) ⟨u13w.heap.size, 0, none⟩ = some a := by rw [Shp.rd_far _ _ _ _ ne]; exact Shp.rd_set (S := kS) _ _ _ q14
          go_wp2_with fail
          go_meet
          exact ⟨_, _, rfl, rfl, RA, RB, s7⟩
        · simp only [List.getElem?_toArray, List.getElem?_cons_succ, List.getElem?_cons_zero, Option.some.injEq] at ho; subst ho
          go_simp
          have s15 : Below w0.heap.size w0 (u12w.alloc (.cells #[.int .u8 0, .int .u8 0, .int .u8 0, .int .u8 0, .int .u8 0, .int .u8 0, .int .u8 0, .int .u8 0, .int .u8 0, .int .u8 0, .int .u8 0, .int .u8 0, .int .u8 0, .int .u8 0, .int .u8 0, .int .u8 0, .int .u8 0, .int .u8 0, .int .u8 0, .int .u8 0, .int .u8 0, .int .u8 0, .int .u8 0, .int .u8 0, .int .u8 0] 101)) := s12.alloc s12.size _
          have q15 : Shp.tn 25 (u12w.alloc (.cells #[.int .u8 0, .int .u8 0, .int .u8 0, .int .u8 0, .int .u8 0, .int .u8 0, .int .u8 0, .int .u8 0, .int .u8 0, .int .u8 0, .int .u8 0, .int .u8 0, .int .u8 0, .int .u8 0, .int .u8 0, .int .u8 0, .int .u8 0, .int .u8 0, .int .u8 0, .int .u8 0, .int .u8 0, .int .u8 0, .int .u8 0, .int .u8 0, .int .u8 0] 101)) u12w.heap.size = true := Shp.tn_of (Blk.new u12w _ _) rfl
          have t5_15 := Shp.tn_on q12 (below_alloc_ u12w (.cells #[.int .u8 0, .int .u8 0, .int .u8 0, .int .u8 0, .int .u8 0, .int .u8 0, .int .u8 0, .int .u8 0, .int .u8 0, .int .u8 0, .int .u8 0, .int .u8 0, .int .u8 0, .int .u8 0, .int .u8 0, .int .u8 0, .int .u8 0, .int .u8 0, .int .u8 0, .int .u8 0, .int .u8 0, .int .u8 0, .int .u8 0, .int .u8 0, .int .u8 0] 101))
          have ne : u12w.heap.size ≠ u1w.heap.size := Nat.ne_of_gt (Shp.tn_lt q12)
          refine hK.out _ _ s15 (fun _ => ?_)
          clear hK K
          try simp only [Act.put, List.setIfInBounds_toArray, List.set_cons_zero, List.set_cons_succ]
          obtain ⟨u15w, hu15w⟩ : ∃ V, u12w.alloc (.cells #[.int .u8 0, .int .u8 0, .int .u8 0, .int .u8 0, .int .u8 0, .int .u8 0, .int .u8 0, .int .u8 0, .int .u8 0, .int .u8 0, .int .u8 0, .int .u8 0, .int .u8 0, .int .u8 0, .int .u8 0, .int .u8 0, .int .u8 0, .int .u8 0, .int .u8 0, .int .u8 0, .int .u8 0, .int .u8 0, .int .u8 0, .int .u8 0, .int .u8 0] 101) = V := ⟨_, rfl⟩
          rw [hu15w] at s15 q15 t5_15
          rw [hu15w]
          clear hu15w
          refine nextS 3 (by kernel_rfl) (by rfl) (fun o ho K hK => ?_)
          simp only [List.getElem?_toArray, List.getElem?_cons_succ, List.getElem?_cons_zero, Option.some.injEq] at ho; subst ho
          go_simp
          (go_at_call 45; (with_reducible refine (CB.out _).mono ?_); rintro e u16w ⟨rfl, b16⟩)
          have s16 : Below w0.heap.size w0 u16w := below_up s15 s15.size b16
          have t4_16 := Shp.tn_on q15 b16
          have t5_16 := Shp.tn_on t5_15 b16
          refine hK.out _ _ s16 (fun _ => ?_)
          clear hK K
          try simp only [Act.put, List.setIfInBounds_toArray, List.set_cons_zero, List.set_cons_succ]
          have t6 : Shp.tn 25 (u16w.setRow (u12w.heap.size) (kS.v a)) (u1w.heap.size) = true := Shp.tn_setRow (u12w.heap.size) (kS.v_size a) t5_16
          refine nextS 6 (by kernel_rfl) (by rfl) (fun o ho K hK => ?_)
          simp only [List.getElem?_toArray, List.getElem?_cons_succ, List.getElem?_cons_zero, Option.some.injEq] at ho; subst ho
          go_simp
          have s6 : Below w0.heap.size w0 (u16w.setRow (u12w.heap.size) (kS.v a)) := below_setRow s16 s12.size _
          refine hK.out _ _ s6 (fun _ => ?_)
          clear hK K
          try simp only [Act.put, List.setIfInBounds_toArray, List.set_cons_zero, List.set_cons_succ]
          refine nextS 7 (by kernel_rfl) (by rfl) (fun o ho K hK => ?_)
          simp only [List.getElem?_toArray, List.getElem?_cons_succ, List.getElem?_cons_zero, Option.some.injEq] at ho; subst ho
          go_simp
          have s7 : Below w0.heap.size w0 ((u16w.setRow (u12w.heap.size) (kS.v a)).setRow (u1w.heap.size) (kS.v b)) := below_setRow s6 s1.size _
          refine hK.out _ _ s7 (fun _ => ?_)
          clear hK K
          try simp only [Act.put, List.setIfInBounds_toArray, List.set_cons_zero, List.set_cons_succ]
          refine wpAnyH_done (by kernel_rfl) ?_ _
          refine NoPanic.normal ?_
          have RB := Shp.rd_set (S := kS) (u16w.setRow (u12w.heap.size) (kS.v a)) (u1w.heap.size) b t6
          have RA : kS.rd ((u16w.setRow (u12w.heap.size) (kS.v a)).setRow (u1w.heap.size) (kS.v b)) ⟨u12w.heap.size, 0, none⟩ = some a := by rw [Shp.rd_far _ _ _ _ ne]; exact Shp.rd_set (S := kS) _ _ _ t4_16
          go_wp2_with fail
          go_meet
          exact ⟨_, _, rfl, rfl, RA, RB, s7⟩
    · simp only [List.getElem?_toArray, List.getElem?_cons_succ, List.getElem?_cons_zero, Option.some.injEq] at ho; subst ho
      go_simp
      have s17 : Below w0.heap.size w0 (wd.alloc (.cells #[.int .u8 0, .int .u8 0, .int .u8 0, .int .u8 0, .int .u8 0, .int .u8 0, .int .u8 0, .int .u8 0, .int .u8 0, .int .u8 0, .int .u8 0, .int .u8 0, .int .u8 0, .int .u8 0, .int .u8 0, .int .u8 0, .int .u8 0, .int .u8 0, .int .u8 0, .int .u8 0, .int .u8 0, .int .u8 0, .int .u8 0, .int .u8 0, .int .u8 0] 101)) := sd.alloc sd.size _
      have q17 : Shp.tn 25 (wd.alloc (.cells #[.int .u8 0, .int .u8 0, .int .u8 0, .int .u8 0, .int .u8 0, .int .u8 0, .int .u8 0, .int .u8 0, .int .u8 0, .int .u8 0, .int .u8 0, .int .u8 0, .int .u8 0, .int .u8 0, .int .u8 0, .int .u8 0, .int .u8 0, .int .u8 0, .int .u8 0, .int .u8 0, .int .u8 0, .int .u8 0, .int .u8 0, .int .u8 0, .int .u8 0] 101)) wd.heap.size = true := Shp.tn_of (Blk.new wd _ _) rfl
      refine hK.out _ _ s17 (fun _ => ?_)
      clear hK K
      try simp only [Act.put, List.setIfInBounds_toArray, List.set_cons_zero, List.set_cons_succ]
      obtain ⟨u17w, hu17w⟩ : ∃ V, wd.alloc (.cells #[.int .u8 0, .int .u8 0, .int .u8 0, .int .u8 0, .int .u8 0, .int .u8 0, .int .u8 0, .int .u8 0, .int .u8 0, .int .u8 0, .int .u8 0, .int .u8 0, .int .u8 0, .int .u8 0, .int .u8 0, .int .u8 0, .int .u8 0, .int .u8 0, .int .u8 0, .int .u8 0, .int .u8 0, .int .u8 0, .int .u8 0, .int .u8 0, .int .u8 0] 101) = V := ⟨_, rfl⟩
      rw [hu17w] at s17 q17
      rw [hu17w]
      clear hu17w
      refine forkS 1 5 (by kernel_rfl) (by rfl) (by rfl) (fun o ho K hK => ?_) (fun o ho K hK => ?_)
      · simp only [List.getElem?_toArray, List.getElem?_cons_succ, List.getElem?_cons_zero, Option.some.injEq] at ho; subst ho
        go_simp
        (go_at_call 45; (with_reducible refine (CA.out _).mono ?_); rintro e u18w ⟨rfl, b18⟩)
        have s18 : Below w0.heap.size w0 u18w := below_up s17 s17.size b18
        have t4_18 := Shp.tn_on q17 b18
        refine hK.out _ _ s18 (fun _ => ?_)
        clear hK K
        try simp only [Act.put, List.setIfInBounds_toArray, List.set_cons_zero, List.set_cons_succ]
        refine forkS 3 5 (by kernel_rfl) (by rfl) (by rfl) (fun o ho K hK => ?_) (fun o ho K hK => ?_)
        · simp only [List.getElem?_toArray, List.getElem?_cons_succ, List.getElem?_cons_zero, Option.some.injEq] at ho; subst ho
          go_simp
          (go_at_call 45; (with_reducible refine (CB.out _).mono ?_); rintro e u19w ⟨rfl, b19⟩)
          have s19 : Below w0.heap.size w0 u19w := below_up s18 s18.size b19
          have t4_19 := Shp.tn_on t4_18 b19
          refine hK.out _ _ s19 (fun _ => ?_)
          clear hK K
          try simp only [Act.put, List.setIfInBounds_toArray, List.set_cons_zero, List.set_cons_succ]
          refine nextS 5 (by kernel_rfl) (by rfl) (fun o ho K hK => ?_)
          simp only [List.getElem?_toArray, List.getElem?_cons_succ, List.getElem?_cons_zero, Option.some.injEq] at ho; subst ho
          go_simp
          have s20 : Below w0.heap.size w0 (u19w.alloc (.cells #[.int .u8 0, .int .u8 0, .int .u8 0, .int .u8 0, .int .u8 0, .int .u8 0, .int .u8 0, .int .u8 0, .int .u8 0, .int .u8 0, .int .u8 0, .int .u8 0, .int .u8 0, .int .u8 0, .int .u8 0, .int .u8 0, .int .u8 0, .int .u8 0, .int .u8 0, .int .u8 0, .int .u8 0, .int .u8 0, .int .u8 0, .int .u8 0, .int .u8 0] 101)) := s19.alloc s19.size _
          have q20 : Shp.tn 25 (u19w.alloc (.cells #[.int .u8 0, .int .u8 0, .int .u8 0, .int .u8 0, .int .u8 0, .int .u8 0, .int .u8 0, .int .u8 0, .int .u8 0, .int .u8 0, .int .u8 0, .int .u8 0, .int .u8 0, .int .u8 0, .int .u8 0, .int .u8 0, .int .u8 0, .int .u8 0, .int .u8 0, .int .u8 0, .int .u8 0, .int .u8 0, .int .u8 0, .int .u8 0, .int .u8 0] 101)) u19w.heap.size = true := Shp.tn_of (Blk.new u19w _ _) rfl
          have t4_20 := Shp.tn_on t4_19 (below_alloc_ u19w (.cells #[.int .u8 0, .int .u8 0, .int .u8 0, .int .u8 0, .int .u8 0, .int .u8 0, .int .u8 0, .int .u8 0, .int .u8 0, .int .u8 0, .int .u8 0, .int .u8 0, .int .u8 0, .int .u8 0, .int .u8 0, .int .u8 0, .int .u8 0, .int .u8 0, .int .u8 0, .int .u8 0, .int .u8 0, .int .u8 0, .int .u8 0, .int .u8 0, .int .u8 0] 101))
          have ne : wd.heap.size ≠ u19w.heap.size := Nat.ne_of_lt (Shp.tn_lt t4_19)
          refine hK.out _ _ s20 (fun _ => ?_)
          clear hK K
          try simp only [Act.put, List.setIfInBounds_toArray, List.set_cons_zero, List.set_cons_succ]
          obtain ⟨u20w, hu20w⟩ : ∃ V, u19w.alloc (.cells #[.int .u8 0, .int .u8 0, .int .u8 0, .int .u8 0, .int .u8 0, .int .u8 0, .int .u8 0, .int .u8 0, .int .u8 0, .int .u8 0, .int .u8 0, .int .u8 0, .int .u8 0, .int .u8 0, .int .u8 0, .int .u8 0, .int .u8 0, .int .u8 0, .int .u8 0, .int .u8 0, .int .u8 0, .int .u8 0, .int .u8 0, .int .u8 0, .int .u8 0] 101) = V := ⟨_, rfl⟩
          rw [hu20w] at s20 q20 t4_20
          rw [hu20w]
          clear hu20w
          have t6 : Shp.tn 25 (u20w.setRow (wd.heap.size) (kS.v a)) (u19w.heap.size) = true := Shp.tn_setRow (wd.heap.size) (kS.v_size a) q20
          refine nextS 6 (by kernel_rfl) (by rfl) (fun o ho K hK => ?_)
          simp only [List.getElem?_toArray, List.getElem?_cons_succ, List.getElem?_cons_zero, Option.some.injEq] at ho; subst ho
          go_simp
          have s6 : Below w0.heap.size w0 (u20w.setRow (wd.heap.size) (kS.v a)) := below_setRow s20 sd.size _
          refine hK.out _ _ s6 (fun _ => ?_)
          clear hK K
          try simp only [Act.put, List.setIfInBounds_toArray, List.set_cons_zero, List.set_cons_succ]
          refine nextS 7 (by kernel_rfl) (by rfl) (fun o ho K hK => ?_)
          simp only [List.getElem?_toArray, List.getElem?_cons_succ, List.getElem?_cons_zero, Option.some.injEq] at ho; subst ho
          go_simp
          have s7 : Below w0.heap.size w0 ((u20w.setRow (wd.heap.size) (kS.v a)).setRow (u19w.heap.size) (kS.v b)) := below_setRow s6 s19.size _
          refine hK.out _ _ s7 (fun _ => ?_)
          clear hK K
          try simp only [Act.put, List.setIfInBounds_toArray, List.set_cons_zero, List.set_cons_succ]
          refine wpAnyH_done (by kernel_rfl) ?_ _
          refine NoPanic.normal ?_
          have RB := Shp.rd_set (S := kS) (u20w.setRow (wd.heap.size) (kS.v a)) (u19w.heap.size) b t6
          have RA : kS.rd ((u20w.setRow (wd.heap.size) (kS.v a)).setRow (u19w.heap.size) (kS.v b)) ⟨wd.heap.size, 0, none⟩ = some a := by rw [Shp.rd_far _ _ _ _ ne]; exact Shp.rd_set (S := kS) _ _ _ t4_20
          go_wp2_with fail
          go_meet
          exact ⟨_, _, rfl, rfl, RA, RB, s7⟩
        · simp only [List.getElem?_toArray, List.getElem?_cons_succ, List.getElem?_cons_zero, Option.some.injEq] at ho; subst ho
          go_simp
          have s21 : Below w0.heap.size w0 (u18w.alloc (.cells #[.int .u8 0, .int .u8 0, .int .u8 0, .int .u8 0, .int .u8 0, .int .u8 0, .int .u8 0, .int .u8 0, .int .u8 0, .int .u8 0, .int .u8 0, .int .u8 0, .int .u8 0, .int .u8 0, .int .u8 0, .int .u8 0, .int .u8 0, .int .u8 0, .int .u8 0, .int .u8 0, .int .u8 0, .int .u8 0, .int .u8 0, .int .u8 0, .int .u8 0] 101)) := s18.alloc s18.size _
          have q21 : Shp.tn 25 (u18w.alloc (.cells #[.int .u8 0, .int .u8 0, .int .u8 0, .int .u8 0, .int .u8 0, .int .u8 0, .int .u8 0, .int .u8 0, .int .u8 0, .int .u8 0, .int .u8 0, .int .u8 0, .int .u8 0, .int .u8 0, .int .u8 0, .int .u8 0, .int .u8 0, .int .u8 0, .int .u8 0, .int .u8 0, .int .u8 0, .int .u8 0, .int .u8 0, .int .u8 0, .int .u8 0] 101)) u18w.heap.size = true := Shp.tn_of (Blk.new u18w _ _) rfl
          have t4_21 := Shp.tn_on t4_18 (below_alloc_ u18w (.cells #[.int .u8 0, .int .u8 0, .int .u8 0, .int .u8 0, .int .u8 0, .int .u8 0, .int .u8 0, .int .u8 0, .int .u8 0, .int .u8 0, .int .u8 0, .int .u8 0, .int .u8 0, .int .u8 0, .int .u8 0, .int .u8 0, .int .u8 0, .int .u8 0, .int .u8 0, .int .u8 0, .int .u8 0, .int .u8 0, .int .u8 0, .int .u8 0, .int .u8 0] 101))
          have ne : wd.heap.size ≠ u18w.heap.size := Nat.ne_of_lt (Shp.tn_lt t4_18)
          refine hK.out _ _ s21 (fun _ => ?_)
          clear hK K
          try simp only [Act.put, List.setIfInBounds_toArray, List.set_cons_zero, List.set_cons_succ]
          obtain ⟨u21w, hu21w⟩ : ∃ V, u18w.alloc (.cells #[.int .u8 0, .int .u8 0, .int .u8 0, .int .u8 0, .int .u8 0, .int .u8 0, .int .u8 0, .int .u8 0, .int .u8 0, .int .u8 0, .int .u8 0, .int .u8 0, .int .u8 0, .int .u8 0, .int .u8 0, .int .u8 0, .int .u8 0, .int .u8 0, .int .u8 0, .int .u8 0, .int .u8 0, .int .u8 0, .int .u8 0, .int .u8 0, .int .u8 0] 101) = V := ⟨_, rfl⟩
          rw [hu21w] at s21 q21 t4_21
          rw [hu21w]
          clear hu21w
          refine nextS 3 (by kernel_rfl) (by rfl) (fun o ho K hK => ?_)
          simp only [List.getElem?_toArray, List.getElem?_cons_succ, List.getElem?_cons_zero, Option.some.injEq] at ho; subst ho
          go_simp
          (go_at_call 45; (with_reducible refine (CB.out _).mono ?_); rintro e u22w ⟨rfl, b22⟩)
          have s22 : Below w0.heap.size w0 u22w := below_up s21 s21.size b22
          have t4_22 := Shp.tn_on t4_21 b22
          have t5_22 := Shp.tn_on q21 b22
          refine hK.out _ _ s22 (fun _ => ?_)
          clear hK K
          try simp only [Act.put, List.setIfInBounds_toArray, List.set_cons_zero, List.set_cons_succ]
          have t6 : Shp.tn 25 (u22w.setRow (wd.heap.size) (kS.v a)) (u18w.heap.size) = true := Shp.tn_setRow (wd.heap.size) (kS.v_size a) t5_22
          refine nextS 6 (by kernel_rfl) (by rfl) (fun o ho K hK => ?_)
          simp only [List.getElem?_toArray, List.getElem?_cons_succ, List.getElem?_cons_zero, Option.some.injEq] at ho; subst ho
          go_simp
          have s6 : Below w0.heap.size w0 (u22w.setRow (wd.heap.size) (kS.v a)) := below_setRow s22 sd.size _
          refine hK.out _ _ s6 (fun _ => ?_)
          clear hK K
          try simp only [Act.put, List.setIfInBounds_toArray, List.set_cons_zero, List.set_cons_succ]
          refine nextS 7 (by kernel_rfl) (by rfl) (fun o ho K hK => ?_)
          simp only [List.getElem?_toArray, List.getElem?_cons_succ, List.getElem?_cons_zero, Option.some.injEq] at ho; subst ho
          go_simp
          have s7 : Below w0.heap.size w0 ((u22w.setRow (wd.heap.size) (kS.v a)).setRow (u18w.heap.size) (kS.v b)) := below_setRow s6 s18.size _
          refine hK.out _ _ s7 (fun _ => ?_)
          clear hK K
          try simp only [Act.put, List.setIfInBounds_toArray, List.set_cons_zero, List.set_cons_succ]
          refine wpAnyH_done (by kernel_rfl) ?_ _
          refine NoPanic.normal ?_
          have RB := Shp.rd_set (S := kS) (u22w.setRow (wd.heap.size) (kS.v a)) (u18w.heap.size) b t6
          have RA : kS.rd ((u22w.setRow (wd.heap.size) (kS.v a)).setRow (u18w.heap.size) (kS.v b)) ⟨wd.heap.size, 0, none⟩ = some a := by rw [Shp.rd_far _ _ _ _ ne]; exact Shp.rd_set (S := kS) _ _ _ t4_22
          go_wp2_with fail
          go_meet
          exact ⟨_, _, rfl, rfl, RA, RB, s7⟩
      · simp only [List.getElem?_toArray, List.getElem?_cons_succ, List.getElem?_cons_zero, Option.some.injEq] at ho; subst ho
        go_simp
        have s23 : Below w0.heap.size w0 (u17w.alloc (.cells #[.int .u8 0, .int .u8 0, .int .u8 0, .int .u8 0, .int .u8 0, .int .u8 0, .int .u8 0, .int .u8 0, .int .u8 0, .int .u8 0, .int .u8 0, .int .u8 0, .int .u8 0, .int .u8 0, .int .u8 0, .int .u8 0, .int .u8 0, .int .u8 0, .int .u8 0, .int .u8 0, .int .u8 0, .int .u8 0, .int .u8 0, .int .u8 0, .int .u8 0] 101)) := s17.alloc s17.size _
        have q23 : Shp.tn 25 (u17w.alloc (.cells #[.int .u8 0, .int .u8 0, .int .u8 0, .int .u8 0, .int .u8 0, .int .u8 0, .int .u8 0, .int .u8 0, .int .u8 0, .int .u8 0, .int .u8 0, .int .u8 0, .int .u8 0, .int .u8 0, .int .u8 0, .int .u8 0, .int .u8 0, .int .u8 0, .int .u8 0, .int .u8 0, .int .u8 0, .int .u8 0, .int .u8 0, .int .u8 0, .int .u8 0] 101)) u17w.heap.size = true := Shp.tn_of (Blk.new u17w _ _) rfl
        have t4_23 := Shp.tn_on q17 (below_alloc_ u17w (.cells #[.int .u8 0, .int .u8 0, .int .u8 0, .int .u8 0, .int .u8 0, .int .u8 0, .int .u8 0, .int .u8 0, .int .u8 0, .int .u8 0, .int .u8 0, .int .u8 0, .int .u8 0, .int .u8 0, .int .u8 0, .int .u8 0, .int .u8 0, .int .u8 0, .int .u8 0, .int .u8 0, .int .u8 0, .int .u8 0, .int .u8 0, .int .u8 0, .int .u8 0] 101))
        have ne : wd.heap.size ≠ u17w.heap.size := Nat.ne_of_lt (Shp.tn_lt q17)
        refine hK.out _ _ s23 (fun _ => ?_)
        clear hK K
        try simp only [Act.put, List.setIfInBounds_toArray, List.set_cons_zero, List.set_cons_succ]
        obtain ⟨u23w, hu23w⟩ : ∃ V, u17w.alloc (.cells #[.int .u8 0, .int .u8 0, .int .u8 0, .int .u8 0, .int .u8 0, .int .u8 0, .int .u8 0, .int .u8 0, .int .u8 0, .int .u8 0, .int .u8 0, .int .u8 0, .int .u8 0, .int .u8 0, .int .u8 0, .int .u8 0, .int .u8 0, .int .u8 0, .int .u8 0, .int .u8 0, .int .u8 0, .int .u8 0, .int .u8 0, .int .u8 0, .int .u8 0] 101) = V := ⟨_, rfl⟩
        rw [hu23w] at s23 q23 t4_23
        rw [hu23w]
        clear hu23w
        refine nextS 1 (by kernel_rfl) (by rfl) (fun o ho K hK => ?_)
        simp only [List.getElem?_toArray, List.getElem?_cons_succ, List.getElem?_cons_zero, Option.some.injEq] at ho; subst ho
        go_simp
        (go_at_call 45; (with_reducible refine (CA.out _).mono ?_); rintro e u24w ⟨rfl, b24⟩)
        have s24 : Below w0.heap.size w0 u24w := below_up s23 s23.size b24
        have t4_24 := Shp.tn_on t4_23 b24
        have t5_24 := Shp.tn_on q23 b24
        refine hK.out _ _ s24 (fun _ => ?_)
        clear hK K
        try simp only [Act.put, List.setIfInBounds_toArray, List.set_cons_zero, List.set_cons_succ]
        refine nextS 3 (by kernel_rfl) (by rfl) (fun o ho K hK => ?_)
        simp only [List.getElem?_toArray, List.getElem?_cons_succ, List.getElem?_cons_zero, Option.some.injEq] at ho; subst ho
        go_simp
        (go_at_call 45; (with_reducible refine (CB.out _).mono ?_); rintro e u25w ⟨rfl, b25⟩)
        have s25 : Below w0.heap.size w0 u25w := below_up s24 s24.size b25
        have t4_25 := Shp.tn_on t4_24 b25
        have t5_25 := Shp.tn_on t5_24 b25
        refine hK.out _ _ s25 (fun _ => ?_)
        clear hK K
        try simp only [Act.put, List.setIfInBounds_toArray, List.set_cons_zero, List.set_cons_succ]
        have t6 : Shp.tn 25 (u25w.setRow (wd.heap.size) (kS.v a)) (u17w.heap.size) = true := Shp.tn_setRow (wd.heap.size) (kS.v_size a) t5_25
        refine nextS 6 (by kernel_rfl) (by rfl) (fun o ho K hK => ?_)
        simp only [List.getElem?_toArray, List.getElem?_cons_succ, List.getElem?_cons_zero, Option.some.injEq] at ho; subst ho
        go_simp
        have s6 : Below w0.heap.size w0 (u25w.setRow (wd.heap.size) (kS.v a)) := below_setRow s25 sd.size _
        refine hK.out _ _ s6 (fun _ => ?_)
        clear hK K
        try simp only [Act.put, List.setIfInBounds_toArray, List.set_cons_zero, List.set_cons_succ]
        refine nextS 7 (by kernel_rfl) (by rfl) (fun o ho K hK => ?_)
        simp only [List.getElem?_toArray, List.getElem?_cons_succ, List.getElem?_cons_zero, Option.some.injEq] at ho; subst ho
        go_simp
        have s7 : Below w0.heap.size w0 ((u25w.setRow (wd.heap.size) (kS.v a)).setRow (u17w.heap.size) (kS.v b)) := below_setRow s6 s17.size _
        refine hK.out _ _ s7 (fun _ => ?_)
        clear hK K
        try simp only [Act.put, List.setIfInBounds_toArray, List.set_cons_zero, List.set_cons_succ]
        refine wpAnyH_done (by kernel_rfl) ?_ _
        refine NoPanic.normal ?_
        have RB := Shp.rd_set (S := kS) (u25w.setRow (wd.heap.size) (kS.v a)) (u17w.heap.size) b t6
        have RA : kS.rd ((u25w.setRow (wd.heap.size) (kS.v a)).setRow (u17w.heap.size) (kS.v b)) ⟨wd.heap.size, 0, none⟩ = some a := by rw [Shp.rd_far _ _ _ _ ne]; exact Shp.rd_set (S := kS) _ _ _ t4_25
        go_wp2_with fail
        go_meet
        exact ⟨_, _, rfl, rfl, RA, RB, s7⟩
    · simp only [List.getElem?_toArray, List.getElem?_cons_succ, List.getElem?_cons_zero, Option.some.injEq] at ho; subst ho
      go_simp
      have s26 : Below w0.heap.size w0 (wd.alloc (.cells #[.int .u8 0, .int .u8 0, .int .u8 0, .int .u8 0, .int .u8 0, .int .u8 0, .int .u8 0, .int .u8 0, .int .u8 0, .int .u8 0, .int .u8 0, .int .u8 0, .int .u8 0, .int .u8 0, .int .u8 0, .int .u8 0, .int .u8 0, .int .u8 0, .int .u8 0, .int .u8 0, .int .u8 0, .int .u8 0, .int .u8 0, .int .u8 0, .int .u8 0] 101)) := sd.alloc sd.size _
      have q26 : Shp.tn 25 (wd.alloc (.cells #[.int .u8 0, .int .u8 0, .int .u8 0, .int .u8 0, .int .u8 0, .int .u8 0, .int .u8 0, .int .u8 0, .int .u8 0, .int .u8 0, .int .u8 0, .int .u8 0, .int .u8 0, .int .u8 0, .int .u8 0, .int .u8 0, .int .u8 0, .int .u8 0, .int .u8 0, .int .u8 0, .int .u8 0, .int .u8 0, .int .u8 0, .int .u8 0, .int .u8 0] 101)) wd.heap.size = true := Shp.tn_of (Blk.new wd _ _) rfl
      refine hK.out _ _ s26 (fun _ => ?_)
      clear hK K
      try simp only [Act.put, List.setIfInBounds_toArray, List.set_cons_zero, List.set_cons_succ]
      obtain ⟨u26w, hu26w⟩ : ∃ V, wd.alloc (.cells #[.int .u8 0, .int .u8 0, .int .u8 0, .int .u8 0, .int .u8 0, .int .u8 0, .int .u8 0, .int .u8 0, .int .u8 0, .int .u8 0, .int .u8 0, .int .u8 0, .int .u8 0, .int .u8 0, .int .u8 0, .int .u8 0, .int .u8 0, .int .u8 0, .int .u8 0, .int .u8 0, .int .u8 0, .int .u8 0, .int .u8 0, .int .u8 0, .int .u8 0] 101) = V := ⟨_, rfl⟩
      rw [hu26w] at s26 q26
      rw [hu26w]
      clear hu26w
      refine forkS 1 4 (by kernel_rfl) (by rfl) (by rfl) (fun o ho K hK => ?_) (fun o ho K hK => ?_)
      · simp only [List.getElem?_toArray, List.getElem?_cons_succ, List.getElem?_cons_zero, Option.some.injEq] at ho; subst ho
        go_simp
        (go_at_call 45; (with_reducible refine (CA.out _).mono ?_); rintro e u27w ⟨rfl, b27⟩)
        have s27 : Below w0.heap.size w0 u27w := below_up s26 s26.size b27
        have t5_27 := Shp.tn_on q26 b27
        refine hK.out _ _ s27 (fun _ => ?_)
        clear hK K
        try simp only [Act.put, List.setIfInBounds_toArray, List.set_cons_zero, List.set_cons_succ]
        refine forkS 3 4 (by kernel_rfl) (by rfl) (by rfl) (fun o ho K hK => ?_) (fun o ho K hK => ?_)
        · simp only [List.getElem?_toArray, List.getElem?_cons_succ, List.getElem?_cons_zero, Option.some.injEq] at ho; subst ho
          go_simp
          (go_at_call 45; (with_reducible refine (CB.out _).mono ?_); rintro e u28w ⟨rfl, b28⟩)
          have s28 : Below w0.heap.size w0 u28w := below_up s27 s27.size b28
          have t5_28 := Shp.tn_on t5_27 b28
          refine hK.out _ _ s28 (fun _ => ?_)
          clear hK K
          try simp only [Act.put, List.setIfInBounds_toArray, List.set_cons_zero, List.set_cons_succ]
          refine nextS 4 (by kernel_rfl) (by rfl) (fun o ho K hK => ?_)
          simp only [List.getElem?_toArray, List.getElem?_cons_succ, List.getElem?_cons_zero, Option.some.injEq] at ho; subst ho
          go_simp
          have s29 : Below w0.heap.size w0 (u28w.alloc (.cells #[.int .u8 0, .int .u8 0, .int .u8 0, .int .u8 0, .int .u8 0, .int .u8 0, .int .u8 0, .int .u8 0, .int .u8 0, .int .u8 0, .int .u8 0, .int .u8 0, .int .u8 0, .int .u8 0, .int .u8 0, .int .u8 0, .int .u8 0, .int .u8 0, .int .u8 0, .int .u8 0, .int .u8 0, .int .u8 0, .int .u8 0, .int .u8 0, .int .u8 0] 101)) := s28.alloc s28.size _
          have q29 : Shp.tn 25 (u28w.alloc (.cells #[.int .u8 0, .int .u8 0, .int .u8 0, .int .u8 0, .int .u8 0, .int .u8 0, .int .u8 0, .int .u8 0, .int .u8 0, .int .u8 0, .int .u8 0, .int .u8 0, .int .u8 0, .int .u8 0, .int .u8 0, .int .u8 0, .int .u8 0, .int .u8 0, .int .u8 0, .int .u8 0, .int .u8 0, .int .u8 0, .int .u8 0, .int .u8 0, .int .u8 0] 101)) u28w.heap.size = true := Shp.tn_of (Blk.new u28w _ _) rfl
          have t5_29 := Shp.tn_on t5_28 (below_alloc_ u28w (.cells #[.int .u8 0, .int .u8 0, .int .u8 0, .int .u8 0, .int .u8 0, .int .u8 0, .int .u8 0, .int .u8 0, .int .u8 0, .int .u8 0, .int .u8 0, .int .u8 0, .int .u8 0, .int .u8 0, .int .u8 0, .int .u8 0, .int .u8 0, .int .u8 0, .int .u8 0, .int .u8 0, .int .u8 0, .int .u8 0, .int .u8 0, .int .u8 0, .int .u8 0] 101))
          have ne : u28w.heap.size ≠ wd.heap.size := Nat.ne_of_gt (Shp.tn_lt t5_28)
          refine hK.out _ _ s29 (fun _ => ?_)
          clear hK K
          try simp only [Act.put, List.setIfInBounds_toArray, List.set_cons_zero, List.set_cons_succ]
          obtain ⟨u29w, hu29w⟩ : ∃ V, u28w.alloc (.cells #[.int .u8 0, .int .u8 0, .int .u8 0, .int .u8 0, .int .u8 0, .int .u8 0, .int .u8 0, .int .u8 0, .int .u8 0, .int .u8 0, .int .u8 0, .int .u8 0, .int .u8 0, .int .u8 0, .int .u8 0, .int .u8 0, .int .u8 0, .int .u8 0, .int .u8 0, .int .u8 0, .int .u8 0, .int .u8 0, .int .u8 0, .int .u8 0, .int .u8 0] 101) = V := ⟨_, rfl⟩
          rw [hu29w] at s29 q29 t5_29
          rw [hu29w]
          clear hu29w
          have t6 : Shp.tn 25 (u29w.setRow (u28w.heap.size) (kS.v a)) (wd.heap.size) = true := Shp.tn_setRow (u28w.heap.size) (kS.v_size a) t5_29
          refine nextS 6 (by kernel_rfl) (by rfl) (fun o ho K hK => ?_)
          simp only [List.getElem?_toArray, List.getElem?_cons_succ, List.getElem?_cons_zero, Option.some.injEq] at ho; subst ho
          go_simp
          have s6 : Below w0.heap.size w0 (u29w.setRow (u28w.heap.size) (kS.v a)) := below_setRow s29 s28.size _
          refine hK.out _ _ s6 (fun _ => ?_)
          clear hK K
          try simp only [Act.put, List.setIfInBounds_toArray, List.set_cons_zero, List.set_cons_succ]
          refine nextS 7 (by kernel_rfl) (by rfl) (fun o ho K hK => ?_)
          simp only [List.getElem?_toArray, List.getElem?_cons_succ, List.getElem?_cons_zero, Option.some.injEq] at ho; subst ho
          go_simp
          have s7 : Below w0.heap.size w0 ((u29w.setRow (u28w.heap.size) (kS.v a)).setRow (wd.heap.size) (kS.v b)) := below_setRow s6 sd.size _
          refine hK.out _ _ s7 (fun _ => ?_)
          clear hK K
          try simp only [Act.put, List.setIfInBounds_toArray, List.set_cons_zero, List.set_cons_succ]
          refine wpAnyH_done (by kernel_rfl) ?_ _
          refine NoPanic.normal ?_
          have RB := Shp.rd_set (S := kS) (u29w.setRow (u28w.heap.size) (kS.v a)) (wd.heap.size) b t6
          have RA : kS.rd ((u29w.setRow (u28w.heap.size) (kS.v a)).setRow (wd.heap.size) (kS.v b)) ⟨u28w.heap.size, 0, none⟩ = some a := by rw [Shp.rd_far _ _ _ _ ne]; exact Shp.rd_set (S := kS) _ _ _ q29
          go_wp2_with fail
          go_meet
          exact ⟨_, _, rfl, rfl, RA, RB, s7⟩
        · simp only [List.getElem?_toArray, List.getElem?_cons_succ, List.getElem?_cons_zero, Option.some.injEq] at ho; subst ho
          go_simp
          have s30 : Below w0.heap.size w0 (u27w.alloc (.cells #[.int .u8 0, .int .u8 0, .int .u8 0, .int .u8 0, .int .u8 0, .int .u8 0, .int .u8 0, .int .u8 0, .int .u8 0, .int .u8 0, .int .u8 0, .int .u8 0, .int .u8 0, .int .u8 0, .int .u8 0, .int .u8 0, .int .u8 0, .int .u8 0, .int .u8 0, .int .u8 0, .int .u8 0, .int .u8 0, .int .u8 0, .int .u8 0, .int .u8 0] 101)) := s27.alloc s27.size _
          have q30 : Shp.tn 25 (u27w.alloc (.cells #[.int .u8 0, .int .u8 0, .int .u8 0, .int .u8 0, .int .u8 0, .int .u8 0, .int .u8 0, .int .u8 0, .int .u8 0, .int .u8 0, .int .u8 0, .int .u8 0, .int .u8 0, .int .u8 0, .int .u8 0, .int .u8 0, .int .u8 0, .int .u8 0, .int .u8 0, .int .u8 0, .int .u8 0, .int .u8 0, .int .u8 0, .int .u8 0, .int .u8 0] 101)) u27w.heap.size = true := Shp.tn_of (Blk.new u27w _ _) rfl
          have t5_30 := Shp.tn_on t5_27 (below_alloc_ u27w (.cells #[.int .u8 0, .int .u8 0, .int .u8 0, .int .u8 0, .int .u8 0, .int .u8 0, .int .u8 0, .int .u8 0, .int .u8 0, .int .u8 0, .int .u8 0, .int .u8 0, .int .u8 0, .int .u8 0, .int .u8 0, .int .u8 0, .int .u8 0, .int .u8 0, .int .u8 0, .int .u8 0, .int .u8 0, .int .u8 0, .int .u8 0, .int .u8 0, .int .u8 0] 101))
          have ne : u27w.heap.size ≠ wd.heap.size := Nat.ne_of_gt (Shp.tn_lt t5_27)
          refine hK.out _ _ s30 (fun _ => ?_)
          clear hK K
          try simp only [Act.put, List.setIfInBounds_toArray, List.set_cons_zero, List.set_cons_succ]
          obtain ⟨u30w, hu30w⟩ : ∃ V, u27w.alloc (.cells #[.int .u8 0, .int .u8 0, .int .u8 0, .int .u8 0, .int .u8 0, .int .u8 0, .int .u8 0, .int .u8 0, .int .u8 0, .int .u8 0, .int .u8 0, .int .u8 0, .int .u8 0, .int .u8 0, .int .u8 0, .int .u8 0, .int .u8 0, .int .u8 0, .int .u8 0, .int .u8 0, .int .u8 0, .int .u8 0, .int .u8 0, .int .u8 0, .int .u8 0] 101) = V := ⟨_, rfl⟩
          rw [hu30w] at s30 q30 t5_30
          rw [hu30w]
          clear hu30w
          refine nextS 3 (by kernel_rfl) (by rfl) (fun o ho K hK => ?_)
          simp only [List.getElem?_toArray, List.getElem?_cons_succ, List.getElem?_cons_zero, Option.some.injEq] at ho; subst ho
          go_simp
          (go_at_call 45; (with_reducible refine (CB.out _).mono ?_); rintro e u31w ⟨rfl, b31⟩)
          have s31 : Below w0.heap.size w0 u31w := below_up s30 s30.size b31
          have t4_31 := Shp.tn_on q30 b31
          have t5_31 := Shp.tn_on t5_30 b31
          refine hK.out _ _ s31 (fun _ => ?_)
          clear hK K
          try simp only [Act.put, List.setIfInBounds_toArray, List.set_cons_zero, List.set_cons_succ]
          have t6 : Shp.tn 25 (u31w.setRow (u27w.heap.size) (kS.v a)) (wd.heap.size) = true := Shp.tn_setRow (u27w.heap.size) (kS.v_size a) t5_31
          refine nextS 6 (by kernel_rfl) (by rfl) (fun o ho K hK => ?_)
          simp only [List.getElem?_toArray, List.getElem?_cons_succ, List.getElem?_cons_zero, Option.some.injEq] at ho; subst ho
          go_simp
          have s6 : Below w0.heap.size w0 (u31w.setRow (u27w.heap.size) (kS.v a)) := below_setRow s31 s27.size _
          refine hK.out _ _ s6 (fun _ => ?_)
          clear hK K
          try simp only [Act.put, List.setIfInBounds_toArray, List.set_cons_zero, List.set_cons_succ]
          refine nextS 7 (by kernel_rfl) (by rfl) (fun o ho K hK => ?_)
          simp only [List.getElem?_toArray, List.getElem?_cons_succ, List.getElem?_cons_zero, Option.some.injEq] at ho; subst ho
          go_simp
          have s7 : Below w0.heap.size w0 ((u31w.setRow (u27w.heap.size) (kS.v a)).setRow (wd.heap.size) (kS.v b)) := below_setRow s6 sd.size _
          refine hK.out _ _ s7 (fun _ => ?_)
          clear hK K
          try simp only [Act.put, List.setIfInBounds_toArray, List.set_cons_zero, List.set_cons_succ]
          refine wpAnyH_done (by kernel_rfl) ?_ _
          refine NoPanic.normal ?_
          have RB := Shp.rd_set (S := kS) (u31w.setRow (u27w.heap.size) (kS.v a)) (wd.heap.size) b t6
          have RA : kS.rd ((u31w.setRow (u27w.heap.size) (kS.v a)).setRow (wd.heap.size) (kS.v b)) ⟨u27w.heap.size, 0, none⟩ = some a := by rw [Shp.rd_far _ _ _ _ ne]; exact Shp.rd_set (S := kS) _ _ _ t4_31
          go_wp2_with fail
          go_meet
          exact ⟨_, _, rfl, rfl, RA, RB, s7⟩
      · simp only [List.getElem?_toArray, List.getElem?_cons_succ, List.getElem?_cons_zero, Option.some.injEq] at ho; subst ho
        go_simp
        have s32 : Below w0.heap.size w0 (u26w.alloc (.cells #[.int .u8 0, .int .u8 0, .int .u8 0, .int .u8 0, .int .u8 0, .int .u8 0, .int .u8 0, .int .u8 0, .int .u8 0, .int .u8 0, .int .u8 0, .int .u8 0, .int .u8 0, .int .u8 0, .int .u8 0, .int .u8 0, .int .u8 0, .int .u8 0, .int .u8 0, .int .u8 0, .int .u8 0, .int .u8 0, .int .u8 0, .int .u8 0, .int .u8 0] 101)) := s26.alloc s26.size _
        have q32 : Shp.tn 25 (u26w.alloc (.cells #[.int .u8 0, .int .u8 0, .int .u8 0, .int .u8 0, .int .u8 0, .int .u8 0, .int .u8 0, .int .u8 0, .int .u8 0, .int .u8 0, .int .u8 0, .int .u8 0, .int .u8 0, .int .u8 0, .int .u8 0, .int .u8 0, .int .u8 0, .int .u8 0, .int .u8 0, .int .u8 0, .int .u8 0, .int .u8 0, .int .u8 0, .int .u8 0, .int .u8 0] 101)) u26w.heap.size = true := Shp.tn_of (Blk.new u26w _ _) rfl
        have t5_32 := Shp.tn_on q26 (below_alloc_ u26w (.cells #[.int .u8 0, .int .u8 0, .int .u8 0, .int .u8 0, .int .u8 0, .int .u8 0, .int .u8 0, .int .u8 0, .int .u8 0, .int .u8 0, .int .u8 0, .int .u8 0, .int .u8 0, .int .u8 0, .int .u8 0, .int .u8 0, .int .u8 0, .int .u8 0, .int .u8 0, .int .u8 0, .int .u8 0, .int .u8 0, .int .u8 0, .int .u8 0, .int .u8 0] 101))
        have ne : u26w.heap.size ≠ wd.heap.size := Nat.ne_of_gt (Shp.tn_lt q26)
        refine hK.out _ _ s32 (fun _ => ?_)
        clear hK K
        try simp only [Act.put, List.setIfInBounds_toArray, List.set_cons_zero, List.set_cons_succ]
        obtain ⟨u32w, hu32w⟩ : ∃ V, u26w.alloc (.cells #[.int .u8 0, .int .u8 0, .int .u8 0, .int .u8 0, .int .u8 0, .int .u8 0, .int .u8 0, .int .u8 0, .int .u8 0, .int .u8 0, .int .u8 0, .int .u8 0, .int .u8 0, .int .u8 0, .int .u8 0, .int .u8 0, .int .u8 0, .int .u8 0, .int .u8 0, .int .u8 0, .int .u8 0, .int .u8 0, .int .u8 0, .int .u8 0, .int .u8 0] 101) = V := ⟨_, rfl⟩
        rw [hu32w] at s32 q32 t5_32
        rw [hu32w]
        clear hu32w
        refine nextS 1 (by kernel_rfl) (by rfl) (fun o ho K hK => ?_)
        simp only [List.getElem?_toArray, List.getElem?_cons_succ, List.getElem?_cons_zero, Option.some.injEq] at ho; subst ho
        go_simp
        (go_at_call 45; (with_reducible refine (CA.out _).mono ?_); rintro e u33w ⟨rfl, b33⟩)
        have s33 : Below w0.heap.size w0 u33w := below_up s32 s32.size b33
        have t4_33 := Shp.tn_on q32 b33
        have t5_33 := Shp.tn_on t5_32 b33
        refine hK.out _ _ s33 (fun _ => ?_)
        clear hK K
        try simp only [Act.put, List.setIfInBounds_toArray, List.set_cons_zero, List.set_cons_succ]
        refine nextS 3 (by kernel_rfl) (by rfl) (fun o ho K hK => ?_)
        simp only [List.getElem?_toArray, List.getElem?_cons_succ, List.getElem?_cons_zero, Option.some.injEq] at ho; subst ho
        go_simp
        (go_at_call 45; (with_reducible refine (CB.out _).mono ?_); rintro e u34w ⟨rfl, b34⟩)
        have s34 : Below w0.heap.size w0 u34w := below_up s33 s33.size b34
        have t4_34 := Shp.tn_on t4_33 b34
        have t5_34 := Shp.tn_on t5_33 b34
        refine hK.out _ _ s34 (fun _ => ?_)
        clear hK K
        try simp only [Act.put, List.setIfInBounds_toArray, List.set_cons_zero, List.set_cons_succ]
        have t6 : Shp.tn 25 (u34w.setRow (u26w.heap.size) (kS.v a)) (wd.heap.size) = true := Shp.tn_setRow (u26w.heap.size) (kS.v_size a) t5_34
        refine nextS 6 (by kernel_rfl) (by rfl) (fun o ho K hK => ?_)
        simp only [List.getElem?_toArray, List.getElem?_cons_succ, List.getElem?_cons_zero, Option.some.injEq] at ho; subst ho
        go_simp
        have s6 : Below w0.heap.size w0 (u34w.setRow (u26w.heap.size) (kS.v a)) := below_setRow s34 s26.size _
        refine hK.out _ _ s6 (fun _ => ?_)
        clear hK K
        try simp only [Act.put, List.setIfInBounds_toArray, List.set_cons_zero, List.set_cons_succ]
        refine nextS 7 (by kernel_rfl) (by rfl) (fun o ho K hK => ?_)
        simp only [List.getElem?_toArray, List.getElem?_cons_succ, List.getElem?_cons_zero, Option.some.injEq] at ho; subst ho
        go_simp
        have s7 : Below w0.heap.size w0 ((u34w.setRow (u26w.heap.size) (kS.v a)).setRow (wd.heap.size) (kS.v b)) := below_setRow s6 sd.size _
        refine hK.out _ _ s7 (fun _ => ?_)
        clear hK K
        try simp only [Act.put, List.setIfInBounds_toArray, List.set_cons_zero, List.set_cons_succ]
        refine wpAnyH_done (by kernel_rfl) ?_ _
        refine NoPanic.normal ?_
        have RB := Shp.rd_set (S := kS) (u34w.setRow (u26w.heap.size) (kS.v a)) (wd.heap.size) b t6
        have RA : kS.rd ((u34w.setRow (u26w.heap.size) (kS.v a)).setRow (wd.heap.size) (kS.v b)) ⟨u26w.heap.size, 0, none⟩ = some a := by rw [Shp.rd_far _ _ _ _ ne]; exact Shp.rd_set (S := kS) _ _ _ t4_34
        go_wp2_with fail
        go_meet
        exact ⟨_, _, rfl, rfl, RA, RB, s7⟩
  case rest =>
    obtain ⟨k5, k6, rfl, rfl, RA, RB, b1⟩ := hcut
    have bF := below_up b0 b0.size b1
    clear CA CB f0 f1 b1 b0
    go_wp2
    go_loopw [7] (fun i wr => ∃ j : Nat, j ≤ 25 ∧ i = .int .i64 j ∧ Hid (Lik a b (8 * j)) ∧ kS.rd wr ⟨k5, 0, none⟩ = some a ∧ kS.rd wr ⟨k6, 0, none⟩ = some b ∧ Below w.heap.size w wr) (fun i _ => 25 - (intOf i).toNat)
    case atStart => exact ⟨0, Nat.zero_le _, rfl, Lib.hid (fun i hi => absurd hi (by omega)), RA, RB, bF⟩
    case round =>
      clear RA RB bF
      obtain ⟨j, hj, rfl, HL, RA, RB, bF⟩ := hrel
      by_cases hlt : j < 25
      · obtain ⟨x, hx, _⟩ := key_at a hlt
        obtain ⟨y, hy, _⟩ := key_at b hlt
        have i1 : (0 : Int) ≤ (j : Int) := by omega
        have i2 : (j : Int) < 25 := by omega
        have HX := Lib.hid hx
        have HY := Lib.hid hy
        clear hx hy
        go_wp2
        go_loopw [8, 9] (fun s8 s9 wr => ∃ k : Nat, k ≤ 8 ∧ s8 = .int .u8 (wth k : Nat) ∧ s9 = .int .i64 k ∧ Hid (Lik a b (8 * j + k)) ∧ kS.rd wr ⟨k5, 0, none⟩ = some a ∧ kS.rd wr ⟨k6, 0, none⟩ = some b ∧ Below w.heap.size w wr) (fun _ s9 _ => 8 - (intOf s9).toNat)
        case atStart => exact ⟨0, Nat.zero_le _, rfl, rfl, HL, RA, RB, bF⟩
        case round =>
          clear RA RB bF HL
          obtain ⟨k, hk, rfl, rfl, HL, RA, RB, bF⟩ := hrel
          by_cases hlk : k < 8
          · have cx := cell_kr RA HX.out
            have cy := cell_kr RB HY.out
            have l5 : k5 < wr.heap.size := Shp.rd_lt RA
            have l6 : k6 < wr.heap.size := Shp.rd_lt RB
            have HBX := Lib.hid (bit_at HX.out hlk)
            have HBY := Lib.hid (bit_at HY.out hlk)
            have i3 : (0 : Int) ≤ (k : Int) := by omega
            have i4 : (k : Int) < 8 := by omega
            have HWN := Lib.hid (wth_next k)
            have hwl := wth_lt k
            have hwp := wth_pos hlk
            obtain ⟨wk, hwk⟩ : ∃ wk, wth k = wk := ⟨_, rfl⟩
            rw [hwk] at HBX HBY HWN hwl hwp
            try rw [hwk]
            have Q1 := fun W => run_quB (ky_lt HX.out) hwp W
            have Q2 := fun W => run_quB (ky_lt HY.out) hwp W
            have Q3 := fun W => run_rmB (a := x / wk) W
            have Q4 := fun W => run_rmB (a := y / wk) W
            have Q5 : ∀ W : World, (quB (.int .u8 (wk : Nat)) (.int .u8 2)).run Try.prog W = .ok (.int .u8 ((wk / 2 : Nat) : Int)) W := fun W => run_quB (b := 2) hwl (by decide) W
            rw [HWN.out] at Q5
            obtain ⟨q1, hq1⟩ : ∃ q, x / wk = q := ⟨_, rfl⟩
            obtain ⟨q2, hq2⟩ : ∃ q, y / wk = q := ⟨_, rfl⟩
            rw [hq1] at Q1 Q3 HBX
            rw [hq2] at Q2 Q4 HBY
            obtain ⟨p1, hp1⟩ : ∃ p, q1 % 2 = p := ⟨_, rfl⟩
            obtain ⟨p2, hp2⟩ : ∃ p, q2 % 2 = p := ⟨_, rfl⟩
            rw [hp1] at Q3 HBX
            rw [hp2] at Q4 HBY
            obtain ⟨wn, hwn⟩ : ∃ wn, wth (k + 1) = wn := ⟨_, rfl⟩
            rw [hwn] at Q5
            have HWK := Lib.hid hwn
            clear hq1 hq2 hp1 hp2 hwk hwl hwp HWN hwn
            by_cases e : p1 = p2
            · subst e
              have HN := Lib.hid (HL.out.next (HBX.out.symm.trans HBY.out))
              clear HBX HBY
              go_wp2_with fail
              refine wp_region_ext (by kernel_rfl) (by kernel_rfl) ?_
              repeat (go_big_quiet_step (fail))
              refine wpQuiet_nil ?_
              intro w5 hw5
              have b5 := ext_to hw5
              have RA5 := Shp.rd_on RA b5
              have RB5 := Shp.rd_on RB b5
              have bF5 := bF.trans (b5.mono bF.size)
              clear hw5 b5 RA RB bF cx cy l5 l6
              go_wp2
              go_roundw
              case rel => exact ⟨k + 1, by omega, by rw [HWK.out], by go_num, HN, RA5, RB5, bF5⟩
              case measure => simp [intOf]; omega
            · have e1 : ¬ ((p1 : Int) = (p2 : Int)) := by omega
              have HS := Lib.hid (HL.out.stop (by omega) (fun c => e (HBX.out.trans (c.trans HBY.out.symm))))
              have i5 : (8 : Int) * (j : Int) + (k : Int) < 200 := by omega
              have e2 : ((p1 : Int) == (p2 : Int)) = false := by simpa using e1
              have e3 : ((p1 : Int) != (p2 : Int)) = true := by simpa using e1
              clear HBX HBY
              go_wp2_with fail
              refine wp_region_ext (by kernel_rfl) (by kernel_rfl) ?_
              repeat (go_big_quiet_step (fail))
              refine wpQuiet_nil ?_
              intro w5 hw5
              have b5 := ext_to hw5
              have bF5 := bF.trans (b5.mono bF.size)
              clear hw5 b5 RA RB bF cx cy l5 l6
              go_wp2
              go_ret
              exact ⟨by unfold dfi; rw [HS.out, if_pos (by omega)]; congr 2, bF5⟩
          · obtain rfl : k = 8 := by omega
            go_wp2
            go_roundw
            case rel => exact ⟨j + 1, by omega, by go_num, HL, RA, RB, bF⟩
            case measure => simp [intOf]; omega
      · obtain rfl : j = 25 := by omega
        go_wp2
        go_ret
        exact ⟨by unfold dfi; rw [HL.out.all]; rfl, bF⟩
end Go.Proofs.Ytkhjnfplcaffnaa
set_option linter.unusedVariables false
set_option linter.unusedSimpArgs false
set_option maxRecDepth 100000
namespace Go.Proofs.Ytkhjnfplcaffnaa
open Go.RowKit
attribute [local go_sem ↓] Go.wp_at_zero Go.wp_at_succ ld_k lv_k st_k eq_k ne_k bd_k ld_b lv_b st_b eq_b ne_b bd_25 ld_r lv_r st_rk eq_rk ne_rk bd_r ld_p lv_p st_px bd_p Nm.ld_a Nm.ld_n Nm.st_a Nm.st_n Nm.eq_a Nm.eq_n Nm.ne_a Nm.ne_n Nm.lv_a Nm.lv_n ld_a ld_n st_a st_n eq_a eq_n ne_a ne_n lv_a lv_n ld_l lv_l st_l bd_l bd_n bs_l bs_k ld_e lv_e bd_e bs_e
attribute [local go_sem] run_ldk run_lvk run_stk run_eqk run_nek run_bdk_z run_ldb run_lvb run_stb run_eqb run_neb run_ldr run_lvr run_strk run_eqrk run_nerk run_bdr_z run_ldp run_lvp run_stpx Nm.run_ld_a Nm.run_ld_n Nm.run_st_n Nm.run_eq_a Nm.run_eq_n Nm.run_ne_a Nm.run_ne_n Nm.run_lv_a Nm.run_lv_n Nm.rd_new Nm.rd_old Nm.rd_drew Nm.rd_drewN run_ld_a run_ld_n run_sw_a run_sw_n run_eq_a run_eq_n run_ne_a run_ne_n run_lv_a run_lv_n st_z ne_z eq_z rd_new rd_old rd_drew rd_drewN Shp.rd_new Shp.rd_old Shp.rd_drew Shp.rd_drewN Shp.rd_set Shp.tn_new Shp.tn_old Shp.tn_drew Shp.tn_drewN tn_new tn_old tn_drew tn_drewN rd_set setRow_alloc run_stn3 run_stt15 run_lvl run_ldl run_stl run_bdl run_bdn run_bdn0 run_bsl run_bsk run_lde run_lve run_bde run_bse run_bse0 Shp.rd_extk cell_ext

theorem wpl_gapp {T T' : TypeId} {z : Value} {sz by_ : Nat} (w : World) {ops : Array Oper} {rest : List Oper} {o : Oper} {a : Act} {Q : Exit → Act → World → Prop} (hgd : o.guard = none) (hu : Try.prog.underlying T' = some (.slice T)) (hi : (Try.prog.info? T).map (fun i => (i.zero, i.size, i.bytes)) = some (some z, sz, by_)) (hz : z.cells.size = sz) (hs : 0 < sz) (hby : by_ ≤ 1000)
    (s x : Operand) (hop : o.op = .call { callee := .builtin .append, args := #[s, x], argTypes := #[T', T'] })
    {base : Nat} {A B : Option Addr} {n c m d : Nat} {l k : List Value} (hes : a.eval s = .slice A n c) (ho : Ow T sz base w A n c l) (hx : a.eval x = .slice B m d) (hr : Rw sz w B m k) (h1 : ∀ u ∈ k, u.oneCell' = true) (h63 : n + m ≤ 1000000)
    (h : ∀ A' c' w', Ow T sz base w' A' (n + m) c' (l ++ k) → w.grownBy w' (Value.slice A n c).ownBlock → wpList Try.prog ops Q rest (a.put o.dst (.slice A' (n + m) c')) w') : wpList Try.prog ops Q (o :: rest) a w :=
  wpList_plain hgd fun _ hK => wp_gapp w hu hi hz hs hby s x hop hes ho hx hr h1 h63 fun A' c' w' h2 h3 => hK _ _ (h A' c' w' h2 h3)
/-- Is there one that leaves the key at a bit; the bits up to one. -/
def brp (k : D.Ky) (i : Nat) (e : Lf) : Bool := decide (Cr.par e.1 k = i)
def bru (k : D.Ky) (l : List Lf) (i : Nat) : List Nat := (List.range i).filter (fun b => l.any (brp k b))
theorem bru_all {k : D.Ky} {l : List Lf} (h : Cr.has k l = true) : Cr.brs k l = bru k l 200 := by unfold Cr.brs; rw [if_pos h]; rfl
theorem bru_none {k : D.Ky} {l : List Lf} (h : Cr.has k l = false) : Cr.brs k l = [] := by unfold Cr.brs; rw [if_neg (by simp [h])]
theorem bru_yes {k : D.Ky} {l : List Lf} {i : Nat} (h : l.any (brp k i) = true) : bru k l (i + 1) = bru k l i ++ [i] := by
  unfold bru; rw [List.range_succ, List.filter_append]; simp [h]
theorem bru_no {k : D.Ky} {l : List Lf} {i : Nat} (h : l.any (brp k i) = false) : bru k l (i + 1) = bru k l i := by
  unfold bru; rw [List.range_succ, List.filter_append]; simp [h]
theorem bru_len (k : D.Ky) (l : List Lf) (i : Nat) : (bru k l i).length ≤ i := by
  have := List.length_filter_le (fun b => l.any (brp k b)) (List.range i)
  rw [List.length_range] at this; exact this
theorem brp_next {k : D.Ky} {l : List Lf} {i j : Nat} {e : Lf} (h : l[j]? = some e) : (l.take (j + 1)).any (brp k i) = ((l.take j).any (brp k i) || brp k i e) := by
  rw [List.take_add_one, h, List.any_append]; simp
theorem dfi_yes {a b : D.Ky} {i : Nat} (hi : i < 200) (h : Cr.par a b = i) : dfi a b = (i : Nat) := by unfold dfi; rw [h, if_pos hi]
theorem dfi_no {a b : D.Ky} {i : Nat} (h : ¬ Cr.par a b = i) : ¬ dfi a b = (i : Int) := by
  unfold dfi; split <;> omega
set_option maxHeartbeats 8000000 in
theorem rbranch_any {w : World} {A : Option Addr} {n c : Nat} {l : List Lf} (hr : Shp.Row eS w A n l) (hn : n ≤ 1000) (k : D.Ky) :
    Calls Try.prog 26 #[.slice A n c, .agg (rS.v (D.toR k))] w fun e w' => ∃ (A' : Option Addr) (c' : Nat), e = .returned (.slice A' (Cr.brs k l).length c') ∧ Ow 3 1 w.heap.size w' A' (Cr.brs k l).length c' (ivs (Cr.brs k l)) ∧ Below w.heap.size w w' := by
  have hlen := hr.len
  have q0 := Shp.rd_new (S := rS) w w.heap.size 40 (D.toR k) rfl
  have b0 := below_alloc_ w (.cells (rS.v (D.toR k)) 40)
  obtain ⟨g3, hg3⟩ : ∃ g3, w.heap.size = g3 := ⟨_, rfl⟩
  obtain ⟨w0, hw0⟩ : ∃ w0, w.alloc (.cells (rS.v (D.toR k)) 40) = w0 := ⟨_, rfl⟩
  rw [hw0] at q0 b0
  rw [hg3] at q0
  have CF := Lib.hid (find_any (c := c) (hr.on b0) (by omega) k)
  have HR0 := hr.on b0
  have HR : Hid (∀ W, Below w0.heap.size w0 W → Shp.Row eS W A n l) := Lib.hid fun W hW => HR0.on hW
  have HB := Lib.hid b0
  have HQ : Hid (∀ W, Below w0.heap.size w0 W → rS.rd W ⟨g3, 0, none⟩ = some (D.toR k)) := Lib.hid fun W hW => Shp.rd_on q0 hW
  have HG := Lib.hid hg3
  clear hr HR0 b0
  subst hlen
  cases hf : Cr.fix k l with
  | none =>
    have e1 : fxi k l = -1 := by unfold fxi; rw [hf]
    have e2 : Cr.has k l = false := by rw [← Cr.fix_has, hf]; rfl
    rw [e1] at CF
    rw [bru_none e2]
    clear hf e1 e2
    go_enter Try.func26, Try.ntmps26
    go_wp2_with fail
    try rw [hw0]
    try rw [hg3]
    go_wp2_with (go_at_call 27; (with_reducible refine CF.out.mono ?_); rintro e w1 ⟨rfl, b1⟩; have B1 := Lib.hid (below_up HB.out HB.out.size b1); clear b1)
    go_ret
    exact ⟨none, 0, rfl, Ow.nil _ 1 B1.out.size, B1.out⟩
  | some i0 =>
    obtain ⟨⟨v, hv⟩, _⟩ := Cr.fix_some hf
    have e1 : fxi k l = (i0 : Int) := by unfold fxi; rw [hf]
    have e2 : Cr.has k l = true := by rw [← Cr.fix_has, hf]; rfl
    rw [e1] at CF
    rw [bru_all e2]
    have z2 : ¬ ((i0 : Int) < 0) := by omega
    clear hf e1 e2 hv
    go_enter Try.func26, Try.ntmps26
    go_wp2_with fail
    try rw [hw0]
    try rw [hg3]
    clear hw0 hg3
    go_wp2_with (go_at_call 27; (with_reducible refine CF.out.mono ?_); rintro e w1 ⟨rfl, b1⟩; have B1 : Hid (Below w0.heap.size w0 w1) := Lib.hid b1; clear b1)
    clear q0 CF
    go_loopw [5, 6] (fun s5 s6 wx => ∃ (i : Nat) (A1 : Option Addr) (c1 : Nat), i ≤ 200 ∧ s5 = .slice A1 (bru k l i).length c1 ∧ s6 = .int .i64 i ∧ Hid (Ow 3 1 w0.heap.size wx A1 (bru k l i).length c1 (ivs (bru k l i))) ∧ Hid (Below w0.heap.size w0 wx)) (fun _ s6 _ => 200 - (intOf s6).toNat)
    case atStart => exact ⟨0, none, 0, Nat.zero_le _, rfl, rfl, Lib.hid (Ow.nil _ 1 B1.out.size), B1⟩
    case round =>
      clear B1
      obtain ⟨i, A1, c1, hi, rfl, rfl, HO, HW⟩ := hrel
      have j1 : (0 : Int) ≤ (i : Int) := by omega
      by_cases hlt : i < 200
      · have j2 : (i : Int) < 200 := by omega
        have hbl := bru_len k l i
        go_wp2
        go_loopw [7, 8] (fun s7 s8 wx => ∃ (j : Nat), j ≤ l.length ∧ s7 = .bool ((l.take j).any (brp k i)) ∧ s8 = .int .i64 j ∧ Hid (Ow 3 1 w0.heap.size wx A1 (bru k l i).length c1 (ivs (bru k l i))) ∧ Hid (Below w0.heap.size w0 wx)) (fun _ s8 _ => l.length - (intOf s8).toNat)
        case atStart => exact ⟨0, Nat.zero_le _, by simp, rfl, HO, HW⟩
        case round =>
          clear HO HW
          obtain ⟨j, hj, rfl, rfl, HO, HW⟩ := hrel
          have k1 : (0 : Int) ≤ (j : Int) := by omega
          by_cases hjl : j < l.length
          · have k2 : (j : Int) < (l.length : Int) := by omega
            obtain ⟨e, he⟩ : ∃ e, l[j]? = some e := ⟨_, List.getElem?_eq_getElem hjl⟩
            obtain ⟨ad, hAe, hal, hrd⟩ := (HR.out wr HW.out).rd he
            subst hAe
            obtain ⟨r1, -⟩ := er hrd
            have r3 : (ad.add (j * 26)).block < wr.heap.size := Shp.rd_lt r1
            have q1 := HQ.out wr HW.out
            have q3 : g3 < wr.heap.size := Shp.rd_lt q1
            have HNX := Lib.hid (brp_next (k := k) (i := i) he)
            clear hrd he hal
            cases hat : (l.take j).any (brp k i) with
            | true =>
              rw [hat] at HNX
              clear hat
              go_wp2_with fail
              refine wp_region_ext (by kernel_rfl) (by kernel_rfl) ?_
              repeat (go_big_quiet_step (fail))
              refine wpQuiet_nil ?_
              intro w5 hw5
              have b5 := ext_to hw5
              clear hw5
              go_wp2
              go_roundw
              case rel => exact ⟨j + 1, hjl, by rw [HNX.out]; rfl, by go_num, Lib.hid (HO.out.on b5), Lib.hid (below_up HW.out HW.out.size b5)⟩
              case measure => simp [intOf]; omega
            | false =>
              rw [hat] at HNX
              clear hat
              by_cases hp : Cr.par e.1 k = i
              · have CD : Hid (∀ p : On, Calls Try.prog 23 #[.agg (rS.v (D.toR e.1)), .agg (rS.v (D.toR k))] (ext wr p) fun e w' => e = .returned (.int .i64 (i : Nat)) ∧ Below (ext wr p).heap.size (ext wr p) w') := Lib.hid fun p => by have := rdiffer_any e.1 k (ext wr p); rwa [dfi_yes hlt hp] at this
                have HPE : Hid (brp k i e = true) := Lib.hid (by simp [brp, hp])
                clear hp
                go_wp2_with fail
                refine wp_region_ext (by kernel_rfl) (by kernel_rfl) ?_
                repeat (go_big_quiet_step ((go_at_call 23; with_reducible exact calls_ext (CD.out _))))
                refine wpQuiet_nil ?_
                intro w5 hw5
                have b5 := ext_to hw5
                clear hw5
                go_wp2
                go_roundw
                case rel => exact ⟨j + 1, hjl, by rw [HNX.out, HPE.out]; rfl, by go_num, Lib.hid (HO.out.on b5), Lib.hid (below_up HW.out HW.out.size b5)⟩
                case measure => simp [intOf]; omega
              · have hdn := dfi_no hp
                have CD : Hid (∀ p : On, Calls Try.prog 23 #[.agg (rS.v (D.toR e.1)), .agg (rS.v (D.toR k))] (ext wr p) fun e' w' => e' = .returned (.int .i64 (dfi e.1 k)) ∧ Below (ext wr p).heap.size (ext wr p) w') := Lib.hid fun p => rdiffer_any e.1 k (ext wr p)
                obtain ⟨dv, hdv⟩ : ∃ dv, dfi e.1 k = dv := ⟨_, rfl⟩
                rw [hdv] at CD hdn
                have hd2 : (dv == (i : Int)) = false := by simpa using hdn
                have HPE : Hid (brp k i e = false) := Lib.hid (by simp [brp, hp])
                clear hp hdv
                go_wp2_with fail
                refine wp_region_ext (by kernel_rfl) (by kernel_rfl) ?_
                repeat (go_big_quiet_step ((go_at_call 23; with_reducible exact calls_ext (CD.out _))))
                refine wpQuiet_nil ?_
                intro w5 hw5
                have b5 := ext_to hw5
                clear hw5
                go_wp2
                go_roundw
                case rel => exact ⟨j + 1, hjl, by rw [HNX.out, HPE.out]; rfl, by go_num, Lib.hid (HO.out.on b5), Lib.hid (below_up HW.out HW.out.size b5)⟩
                case measure => simp [intOf]; omega
          · obtain rfl : j = l.length := by omega
            have k2 : ¬ ((l.length : Int) < (l.length : Int)) := by omega
            rw [List.take_length]
            cases hany : l.any (brp k i) with
            | true =>
              have HY := Lib.hid (bru_yes hany)
              obtain ⟨xs, hxs⟩ : ∃ xs, bru k l i = xs := ⟨_, rfl⟩
              rw [hxs] at HY HO hbl
              try rw [hxs]
              clear hany hxs
              go_wp2_with (at_builtin; refine wpl_gapp _ rfl int_under int_info rfl (by decide) (by decide) (.tmp 36) (.tmp 38) rfl rfl (HO.out.alloc (.cells #[.int .i64 (i : Nat)] 3)) rfl (rw_new _ 1 3 1 #[.int .i64 (i : Nat)] rfl) (by intro u hu; simp at hu; subst hu; rfl) (by omega) ?_; intro A2 c2 w2 ho2 hg2; have HO2 := Lib.hid ho2; have HB2 := Lib.hid ((HW.out.alloc HW.out.size (.cells #[.int .i64 (i : Nat)] 3)).grown hg2 (by have := HW.out.size; simp; omega) (fun q hq => (HO.out.lt q hq).1)); clear ho2 hg2)
              go_roundw
              case rel => exact ⟨i + 1, A2, c2, hlt, by rw [HY.out]; simp, by go_num, Lib.hid (by rw [HY.out, ivs_app, List.length_append]; exact HO2.out), HB2⟩
              case measure => simp [intOf]; omega
            | false =>
              have HY := Lib.hid (bru_no hany)
              clear hany
              go_wp2
              go_roundw
              case rel => exact ⟨i + 1, A1, c1, hlt, by rw [HY.out], by go_num, Lib.hid (by rw [HY.out]; exact HO.out), HW⟩
              case measure => simp [intOf]; omega
      · obtain rfl : i = 200 := by omega
        go_wp2
        go_ret
        exact ⟨A1, c1, rfl, ow_base HO.out (by have := HB.out.size; omega), HB.out.trans (HW.out.mono (by have := HB.out.size; omega))⟩
end Go.Proofs.Ytkhjnfplcaffnaa
