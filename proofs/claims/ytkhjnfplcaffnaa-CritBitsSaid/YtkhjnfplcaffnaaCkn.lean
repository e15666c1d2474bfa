/-
  The chapter's example.
-/
import Derived.Test.YtkhjnfplcaffnaaCni
set_option linter.unusedVariables false
set_option linter.unusedSimpArgs false
set_option maxRecDepth 100000
namespace Go.Proofs.Ytkhjnfplcaffnaa
open Go.RowKit
attribute [local go_sem ↓] Go.wp_at_zero Go.wp_at_succ ld_k lv_k st_k eq_k ne_k bd_k ld_b lv_b st_b eq_b ne_b bd_25 ld_r lv_r st_rk eq_rk ne_rk bd_r ld_p lv_p st_px bd_p Nm.ld_a Nm.ld_n Nm.st_a Nm.st_n Nm.eq_a Nm.eq_n Nm.ne_a Nm.ne_n Nm.lv_a Nm.lv_n ld_a ld_n st_a st_n eq_a eq_n ne_a ne_n lv_a lv_n ld_l lv_l st_l bd_l bd_n bs_l bs_k
attribute [local go_sem] run_ldk run_lvk run_stk run_eqk run_nek run_bdk_z run_ldb run_lvb run_stb run_eqb run_neb run_ldr run_lvr run_strk run_eqrk run_nerk run_bdr_z run_ldp run_lvp run_stpx Nm.run_ld_a Nm.run_ld_n Nm.run_st_n Nm.run_eq_a Nm.run_eq_n Nm.run_ne_a Nm.run_ne_n Nm.run_lv_a Nm.run_lv_n Nm.rd_new Nm.rd_old Nm.rd_drew Nm.rd_drewN run_ld_a run_ld_n run_sw_a run_sw_n run_eq_a run_eq_n run_ne_a run_ne_n run_lv_a run_lv_n st_z ne_z eq_z rd_new rd_old rd_drew rd_drewN Shp.rd_new Shp.rd_old Shp.rd_drew Shp.rd_drewN Shp.rd_set Shp.tn_new Shp.tn_old Shp.tn_drew Shp.tn_drewN tn_new tn_old tn_drew tn_drewN rd_set setRow_alloc run_stn3 run_stt15 run_lvl run_ldl run_stl run_bdl run_bdn run_bdn0 run_bsl run_bsk Shp.rd_extk cell_ext
theorem next_any (g : Nat) (o : Option Tk) (k : D.Ky) (w : World) (hT : TR w g o) : Calls Try.prog 19 #[.pointer (some ⟨g, 0, none⟩), .agg (kS.v k)] w fun e w' => e = .returned (.tuple #[.agg (kS.v (nx k (Cr.Tr.lso o))), .bool (Cr.nxt k (Cr.Tr.lso o)).isSome]) ∧ Below w.heap.size w w' := by
  cases o with
  | none => exact next_none g k w hT
  | some t => exact next_some g t k w hT
def ka : D.Ky := D.mkK 1 0 0 Nm.D.zero D.zero
def kb : D.Ky := D.mkK 1 1 0 Nm.D.zero D.zero
theorem par_ab : Cr.par ka kb = 15 := by decide +kernel
theorem lt_ab : Cr.lt ka kb = true := by decide +kernel
theorem ne_ab : ka ≠ kb := by decide +kernel
theorem bka (w : World) : (bdk #[(0, .int .u8 1)]).run Try.prog w = .ok (.agg (kS.v ka)) w := run_bdk_1 w 1 (by decide)
theorem bkb (w : World) : (bdk #[(0, .int .u8 1), (1, .int .u8 1)]).run Try.prog w = .ok (.agg (kS.v kb)) w := run_bdk_2 w 1 1 (by decide) (by decide)
theorem l_one : Cr.put kb 5 [] = [(kb, 5)] := rfl
theorem l_two : Cr.put ka 6 [(kb, 5)] = [(ka, 6), (kb, 5)] := by
  have h1 : Cr.lt kb ka = false := Cr.lt_asym lt_ab
  unfold Cr.put
  simp only [h1, Bool.false_eq_true, if_false]
  rw [if_neg (fun e => ne_ab e.symm)]
theorem nx_two : nx ka [(ka, 6), (kb, 5)] = kb ∧ (Cr.nxt ka [(ka, 6), (kb, 5)]).isSome = true := by
  unfold nx Cr.nxt
  have h1 : Cr.lt ka ka = false := Cr.lt_irr ka
  simp [List.find?, h1, lt_ab]
theorem get_two : got kb [(ka, 6), (kb, 5)] = 5 ∧ Cr.has kb [(ka, 6), (kb, 5)] = true := by
  unfold got Cr.get Cr.has
  have := ne_ab
  simp [List.find?, ne_ab]
theorem has_one : Cr.has ka [(kb, 5)] = false := by
  unfold Cr.has
  simp [Ne.symm ne_ab]
theorem differ_ab (w : World) : Calls Try.prog 22 #[.agg (kS.v ka), .agg (kS.v kb)] w fun e w' => e = .returned (.int .i64 15) ∧ Below w.heap.size w w' := by
  have := differ_any ka kb w
  rw [par_ab] at this
  exact this
theorem putb_one (g : Nat) (w : World) (hT : TC w g none) : Calls Try.prog 11 #[.pointer (some ⟨g, 0, none⟩), .agg (kS.v kb), .int .i64 5] w fun e w' => e = .returned (.bool true) ∧ ∃ o1, PutC w g none kb 5 w' o1 := put_any g none kb 5 w hT (by decide)
theorem puta_two (g : Nat) (o1 : Option Tk) (w : World) (hT : TC w g o1) (hl : Cr.Tr.lso o1 = [(kb, 5)]) : Calls Try.prog 11 #[.pointer (some ⟨g, 0, none⟩), .agg (kS.v ka), .int .i64 6] w fun e w' => e = .returned (.bool true) ∧ ∃ o2, PutC w g o1 ka 6 w' o2 := by
  have := put_any g o1 ka 6 w hT (by rw [hl]; decide)
  rw [hl, has_one] at this
  exact this
theorem next_two (g : Nat) (o2 : Option Tk) (w : World) (hT : TC w g o2) (hl : Cr.Tr.lso o2 = [(ka, 6), (kb, 5)]) : Calls Try.prog 19 #[.pointer (some ⟨g, 0, none⟩), .agg (kS.v ka)] w fun e w' => e = .returned (.tuple #[.agg (kS.v kb), .bool true]) ∧ Below w.heap.size w w' := by
  have := next_any g o2 ka w hT.tr
  rw [hl, nx_two.1, nx_two.2] at this
  exact this
theorem gett_two (g : Nat) (o2 : Option Tk) (w : World) (hT : TC w g o2) (hl : Cr.Tr.lso o2 = [(ka, 6), (kb, 5)]) : Calls Try.prog 12 #[.pointer (some ⟨g, 0, none⟩), .agg (kS.v kb)] w fun e w' => e = .returned (.tuple #[.int .i64 5, .bool true]) ∧ Below w.heap.size w w' := by
  have := get_any g o2 kb w hT.tr
  rw [hl, get_two.1, get_two.2] at this
  exact this
theorem len_two (g : Nat) (o2 : Option Tk) (w : World) (hT : TC w g o2) (hl : Cr.Tr.lso o2 = [(ka, 6), (kb, 5)]) : Calls Try.prog 34 #[.pointer (some ⟨g, 0, none⟩)] w fun e w' => e = .returned (.int .i64 2) ∧ w = w' := by
  have := len_any g o2 w hT
  rw [hl] at this
  exact this
attribute [local go_sem] bka bkb
theorem PutC.key {w w' : World} {g : Nat} {o o' : Option Tk} {k x : D.Ky} {v : Int} {b : Nat} (h : PutC w g o k v w' o') (hr : kS.rd w ⟨b, 0, none⟩ = some x) (hb : ∀ q ∈ g :: blo o, q ≠ b) : kS.rd w' ⟨b, 0, none⟩ = some x :=
  (Shp.rd_to (h.ov.block b (Shp.rd_lt hr) (fun c => hb b c rfl))).trans hr
set_option maxHeartbeats 16000000 in
theorem known_any (w : World) : Calls Try.prog 15 #[] w fun e w' => e = .returned (.bool true) ∧ Below w.heap.size w w' := by
  have hsm : kS.sm kb kb = true := by rw [kS_sm]; simp
  have CN := Lib.hid (fun w => new_any w)
  have CD := Lib.hid (fun w => differ_ab w)
  go_enter Try.func15, Try.ntmps15
  go_wp2_with (go_at_call 6; (with_reducible refine (CN.out _).mono ?_); rintro e w1 ⟨rfl, hT1, b1⟩)
  obtain ⟨g, hg⟩ : ∃ g, w.heap.size = g := ⟨_, rfl⟩
  rw [hg] at hT1
  try rw [hg]
  have hz1 : g < w1.heap.size := hT1.tr.lt
  obtain ⟨a, ha⟩ : ∃ a, w1.heap.size = a := ⟨_, rfl⟩
  obtain ⟨w2, hw2⟩ : ∃ w2, (w1.alloc (.cells z25 30)).alloc (.cells z25 30) = w2 := ⟨_, rfl⟩
  have b2 : Below w1.heap.size w1 w2 := by rw [← hw2]; exact (below_alloc_ _ _).alloc (by simp) _
  have ta : Shp.tn 25 w2 a = true := by rw [← hw2, ← ha]; exact Shp.tn_on (Shp.tn_new _ _ _ _ _ rfl rfl) (below_alloc_ _ _)
  have tb : Shp.tn 25 w2 (a + 1) = true := by rw [← hw2, ← ha]; exact Shp.tn_new _ _ _ _ _ (by simp) rfl
  unfold z25 at hw2
  obtain ⟨w3, hw3⟩ : ∃ w3, w2.setRow a (kS.v ka) = w3 := ⟨_, rfl⟩
  have tb3 : Shp.tn 25 w3 (a + 1) = true := by rw [← hw3]; exact Shp.tn_setRow a (kS.v_size ka) tb
  have RA3 : kS.rd w3 ⟨a, 0, none⟩ = some ka := by rw [← hw3]; exact Shp.rd_set (S := kS) w2 a ka ta
  have b3 : Below w1.heap.size w1 w3 := by rw [← hw3]; exact below_setRow b2 (by omega) _
  obtain ⟨w4, hw4⟩ : ∃ w4, w3.setRow (a + 1) (kS.v kb) = w4 := ⟨_, rfl⟩
  have RB4 : kS.rd w4 ⟨a + 1, 0, none⟩ = some kb := by rw [← hw4]; exact Shp.rd_set (S := kS) w3 (a + 1) kb tb3
  have RA4 : kS.rd w4 ⟨a, 0, none⟩ = some ka := by rw [← hw4, Shp.rd_far _ _ _ _ (by show a ≠ a + 1; omega)]; exact RA3
  have b4 : Below w1.heap.size w1 w4 := by rw [← hw4]; exact below_setRow b3 (by omega) _
  have hT4 := hT1.on b4
  have z4 : Below g w w4 := by rw [← hg]; exact b1.trans (b4.mono (by omega))
  have hz4 : w4.heap.size = a + 2 := by rw [← hw4, ← hw3, ← hw2, ← ha]; simp [World.setRow]
  clear hT1 b2 b3 b4 RA3
  have HZ4 := Lib.hid hz4
  clear hz4
  go_wp2_with fail
  try rw [ha]
  try rw [hw2]
  clear hw2
  go_wp2_with fail
  try rw [hw3]
  clear hw3
  go_simp
  try rw [hw4]
  clear hw4 ta tb tb3
  go_wp2_with (first
    | (go_at_call 11; (with_reducible refine (putb_one g w4 hT4).mono ?_); rintro e w5 ⟨rfl, o1, hP⟩; have HP1 := Lib.hid hP; have RA5 := hP.key RA4 (fun q hq => by simp [blo] at hq; omega); have RB5 := hP.key RB4 (fun q hq => by simp [blo] at hq; omega); have hT5 := hP.tc; have hl5 : Cr.Tr.lso o1 = [(kb, 5)] := hP.ls; have HN1 : Kept (∀ q ∈ g :: blo o1, q ≠ a ∧ q ≠ a + 1 ∧ g ≤ q) := ⟨fun q hq => by { rcases List.mem_cons.1 hq with rfl | hq; omega; rcases hP.old q hq with h | h; cases h; have := HZ4.out; omega }⟩; have z5 : Below g w w5 := z4.trans (hP.ov.below (by have := HZ4.out; omega) (fun x hx => by simp [blo] at hx; omega)); clear hP)
    | (go_at_call 11; (with_reducible refine (puta_two g o1 w5 hT5 hl5).mono ?_); rintro e w6 ⟨rfl, o2, hP⟩; have RA6 := hP.key RA5 (fun q hq => (HN1.out q hq).1); have RB6 := hP.key RB5 (fun q hq => (HN1.out q hq).2.1); have hT6 := hP.tc; have hl6 : Cr.Tr.lso o2 = [(ka, 6), (kb, 5)] := by { have := hP.ls; rw [hl5, l_two] at this; exact this }; have z6 : Below g w w6 := z5.trans (hP.ov.below (by have := z5.size; have := hT5.tr.lt; omega) (fun x hx => (HN1.out x hx).2.2)); clear hP)
    | (go_at_call 19; (with_reducible refine (next_two g o2 w6 hT6 hl6).mono ?_); rintro e w7 ⟨rfl, b7⟩; have b8 := b7.alloc b7.size (.cells (kS.v kb) 30); have hT8 := hT6.on b8; have RA8 := Shp.rd_on RA6 b8; have RB8 := Shp.rd_on RB6 b8; have RC8 := Shp.rd_new (S := kS) w7 w7.heap.size 30 kb rfl; have z8 : Below g w _ := below_up z6 (by have := z6.size; omega) b8)
    | (go_at_call 12; (with_reducible refine (gett_two g o2 _ hT8 hl6).mono ?_); rintro e w9 ⟨rfl, b9⟩; have hT9 := hT8.on b9; have RA9 := Shp.rd_on RA8 b9; have RB9 := Shp.rd_on RB8 b9; have RC9 := Shp.rd_on RC8 b9; have z9 := below_up z8 (by have := z8.size; omega) b9)
    | (go_at_call 22; (with_reducible refine (CD.out _).mono ?_); rintro e w10 ⟨rfl, b10⟩; have hT10 := hT9.on b10; have RB10 := Shp.rd_on RB9 b10; have RC10 := Shp.rd_on RC9 b10; have z10 := below_up z9 (by have := z9.size; omega) b10)
    | (go_at_call 34; (with_reducible refine (len_two g o2 _ hT10 hl6).mono ?_); rintro e w11 ⟨rfl, rfl⟩))
  go_ret
  exact ⟨rfl, by rw [hg]; exact z10⟩
end Go.Proofs.Ytkhjnfplcaffnaa
