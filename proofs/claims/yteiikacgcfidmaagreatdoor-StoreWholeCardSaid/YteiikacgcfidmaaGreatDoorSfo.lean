/-
  Calls that publish, one after another; a branch's record without a time forks (StoreForks).
-/
import Derived.Test.YteiikacgcfidmaaGreatDoorSop
set_option linter.unusedVariables false
set_option linter.unusedSimpArgs false
set_option maxRecDepth 100000
namespace Go.Proofs.YteiikacgcfidmaaGreatDoor
open Go.RowKit
theorem sc_27 {w : World} {ad : Addr} {x : Scv} (h : scS.rd w ad = some x) : w.cell? ⟨ad.block, ad.off + 27, none⟩ = some (.slice x.A x.n x.c) := by
  have hc : scS.At w ad x := Shp.at_of h
  have hl := x.k.len
  exact hc 27 (.slice x.A x.n x.c) (by
    show (sccells x)[27]? = _
    rw [sccells, List.getElem?_cons_succ, List.getElem?_append_right (by rw [bys_len, hl]; omega), bys_len, hl]
    rfl)
theorem ScOk.on {w w' : World} {a : Scv} {l : List D.Wt} (h : ScOk w a l) (hb : Below w.heap.size w w') : ScOk w' a l := ⟨h.1.on hb, h.2⟩
theorem cutL_len (l : List D.Wt) : (D.cutL l).length ≤ 20 := by simp only [D.cutL, List.length_map, List.length_take]; omega
theorem cutL_wf {l : List D.Wt} (h : ∀ x ∈ l, x.r.wf) : ∀ x ∈ D.cutL l, x.r.wf := fun x hx => by
  obtain ⟨y, hy, rfl⟩ := List.mem_map.1 hx
  exact D.cutW_wf (h y (List.mem_of_mem_take hy))
/-- An own row of writes may be published. -/
theorem xr_ow {w : World} {b n c : Nat} {A : Option Addr} {l : List D.Wt} (h : Ow 65 35 b w A n c (xS.rcs l)) : XR w A n l := ⟨ow_srow (S := xS) h, fun ad e hn ⟨cs', T', f, h2, h3⟩ => by
  subst e
  obtain ⟨cs, e⟩ := ow_block h (i := ad.block) ⟨ad, rfl, rfl⟩
  have := h2.symm.trans e
  injection this with this
  injection this with _ e
  subst e
  exact absurd h3 (by decide)⟩
/-- One call: the writes cut, then published. -/
theorem pub_cut (hR : KRt) {base s : Nat} {w W : World} {M : D.Sm} (hS : SM base w s M) (hl : M.last < 999) (hk : M.ks.length ≤ 980) {A : Option Addr} {n c : Nat} {l : List D.Wt} (ho : Ow 65 35 w.heap.size W A n c (xS.rcs (D.cutL l))) (hn : n = (D.cutL l).length) (hb : Below w.heap.size w W) (hw : ∀ x ∈ l, x.r.wf) :
    Calls Tryz.prog 15 #[.pointer (some ⟨s, 0, none⟩), .slice A n c] W fun e w' => e = .returned (.tuple #[.int .u64 (M.time (D.cutL l) : Nat), .int .i64 (M.err (D.cutL l) : Nat)]) ∧ SM base w' s (M.pub (D.cutL l)) ∧ Frm base w w' := by
  have := cutL_len l
  exact (spub_any hR (hS.on hb) hl hk (xr_ow ho) (cutL_wf hw) (by omega)).mono fun e w' ⟨h1, h2, h3⟩ => ⟨h1, h2, Frm.off hb h3⟩

namespace D
def bk (p a : Nat) : Ky := mkK 4 p a Nm.D.zero zero
def br (t : Nat) : Rc := ⟨4, 0, 0, 0, 0, false, 0, t, ⟨#[]⟩⟩
def bx (p a t : Nat) : Wt := ⟨bk p a, false, br t⟩
theorem bk_right {p a : Nat} (hp : p < 4) (ha : a < 4) : kright (bk p a) = true := by
  obtain rfl | rfl | rfl | rfl : p = 0 ∨ p = 1 ∨ p = 2 ∨ p = 3 := by omega
  all_goals (obtain rfl | rfl | rfl | rfl : a = 0 ∨ a = 1 ∨ a = 2 ∨ a = 3 := by omega) <;> decide +kernel
theorem bx_wg {p a : Nat} (t : Nat) (hp : p < 4) (ha : a < 4) : wwg (bx p a t) = 0 := by
  have h1 : kright (bx p a t).k = true := bk_right hp ha
  have h2 : chk (bx p a t).r = 0 := (chk_a (br 0) t rfl).trans (by decide +kernel)
  have h3 : (bx p a t).r.k = (bx p a t).k.k := rfl
  unfold wwg
  rw [h1, h2, h3]
  simp [bx]
theorem bx_wf {p a t : Nat} (ht : t < 18446744073709551616) : ∀ x ∈ [bx p a t], x.r.wf := fun x hx => by
  simp at hx
  subst hx
  exact ⟨show (4 : Nat) < 256 by omega, show (0 : Nat) < 256 by omega, show (0 : Nat) < 256 by omega, show (0 : Nat) < 256 by omega, show (0 : Nat) < 256 by omega, show (0 : Nat) < 4294967296 by omega, ht⟩
theorem bx_sck {p a : Nat} (t : Nat) (hp : p < 4) (ha : a < 4) : sck [bx p a t] = 0 := by simp [sck, wck, bx_wg t hp ha]
theorem bx_fork {p a t : Nat} (ha : a < 4) (n : Nat) : (vof (bx p a t) n).r.a = if t = 0 ∧ 0 < a then n else t := by
  have e : (bx p a t).k.a = a := show a % 256 = a by omega
  show (fkd (bx p a t) n).a = _
  unfold fkd
  rw [e]
  have h1 : (bx p a t).r.k = 4 := rfl
  have h2 : (bx p a t).r.a = t := rfl
  rw [h1, h2]
  by_cases h : t = 0 ∧ 0 < a
  · rw [if_pos ⟨rfl, h.1, by omega⟩, if_pos h]
  · rw [if_neg (by omega), if_neg h]; rfl
theorem bx_err {M : Sm} {p a : Nat} (t : Nat) (hp : p < 4) (ha : a < 4) : M.err [bx p a t] = 0 ∨ M.err [bx p a t] = 6 := by
  unfold Sm.err
  rw [bx_sck t hp ha]
  simp only [ne_eq, not_true_eq_false, if_false]
  split
  · exact .inr rfl
  · exact .inl rfl
theorem pub_in {M : Sm} (h : M.wf) {l : List Wt} (hr : ∀ x ∈ l, x.r.wf) (hl : M.last < 999) (he : M.err l = 0) {x : Wt} (hx : x ∈ l) : seen ((M.pub l).f x.k) (M.last + 1) = vof x (M.last + 1) := by
  have hs := (Sm.err_ok he).1
  have e := Sm.app_in (M := M) hs hx
  have hp : M.pub l = M.app l := by unfold Sm.pub; rw [if_pos he]
  rw [hp, e]
  exact seen_new (by rw [← e]; exact (Sm.app_wf h hs hr (by omega)).srt _) (Nat.le_refl _)
end D

theorem run_bdk_b (w : World) (p q : Nat) (hp : p < 256) (hq : q < 256) : (bdk #[(0, .int .u8 4), (1, .int .u8 (p : Int)), (2, .int .u8 (q : Int))]).run Tryz.prog w = .ok (.agg (kS.v (D.bk p q))) w := run_bdk_3 w 4 p q (by decide) hp hq
theorem m4 (i : Int) : ∃ p : Nat, p < 4 ∧ (IntKind.u64.wrap i).tmod 4 % 256 = (p : Int) := by
  rw [IntKind.wrap_u64, Int.tmod_eq_emod_of_nonneg (by omega)]
  exact ⟨(i % 18446744073709551616 % 4 % 256).toNat, by omega, by omega⟩
theorem pub_one (hR : KRt) {base s n : Nat} {w : World} {M : D.Sm} (hS : SM base w s M) (hl : M.last < 990) (hk : M.ks.length ≤ 900) (x : D.Wt) (hw : ∀ y ∈ [x], y.r.wf) (hn : n = w.heap.size) :
    Calls Tryz.prog 15 #[.pointer (some ⟨s, 0, none⟩), .slice (some ⟨n, 0, none⟩) 1 1] (w.alloc (.cells (xS.v x) 65)) fun e w' => e = .returned (.tuple #[.int .u64 (M.time [x] : Nat), .int .i64 (M.err [x] : Nat)]) ∧ SM base w' s (M.pub [x]) ∧ Frm base w w' :=
  (spub_any (c := 1) hR (hS.on (below_alloc_ w (.cells (xS.v x) 65))) (by omega) (by omega) (xr_one w x n hn) hw (by decide)).mono fun e w' ⟨h1, h2, h3⟩ => ⟨h1, h2, Frm.off (below_alloc_ _ _) h3⟩
theorem run_bdr_at (w : World) (t : Nat) : (bdrh #[(0, .int .u8 4), (7, .int .u64 (t : Nat))]).run Tryz.prog w = .ok (.agg (rSh.v (D.br t))) w := by
  simp [bdrh, rv_eq, D.br, Instr.build, go_sem]

attribute [local go_sem ↓] Go.wp_at_zero Go.wp_at_succ ld_k lv_k st_k eq_k ne_k bd_k ld_b lv_b st_b eq_b ne_b bd_25 ld_r lv_r st_rk eq_rk ne_rk bd_r ld_p lv_p st_px bd_p Nm.ld_a Nm.ld_n Nm.st_a Nm.st_n Nm.eq_a Nm.eq_n Nm.ne_a Nm.ne_n Nm.lv_a Nm.lv_n ld_a ld_n st_a st_n eq_a eq_n ne_a ne_n lv_a lv_n ld_l lv_l st_l bd_l bd_n bs_k ld_v lv_v st_v ne_v bd_v bs_v ld_rh ld_d lv_rh lv_d st_r st_d ne_rh eq_rh ne_d bd_rh bd_d ld_x lv_x st_x bd_x bs_x ld_e lv_e st_e bd_e bs_e ne_e
attribute [local go_sem] run_ldk run_lvk run_stk run_eqk run_nek run_bdk_z run_ldb run_lvb run_stb run_eqb run_neb run_ldr run_lvr run_strk run_eqrk run_nerk run_bdr_z run_ldp run_lvp run_stpx Nm.run_ld_a Nm.run_ld_n Nm.run_st_n Nm.run_eq_a Nm.run_eq_n Nm.run_ne_a Nm.run_ne_n Nm.run_lv_a Nm.run_lv_n Nm.rd_new Nm.rd_old Nm.rd_drew Nm.rd_drewN run_ld_a run_ld_n run_sw_a run_sw_n run_eq_a run_eq_n run_ne_a run_ne_n run_lv_a run_lv_n st_z ne_z eq_z rd_new rd_old rd_drew rd_drewN Shp.rd_new Shp.rd_old Shp.rd_drew Shp.rd_drewN Shp.rd_set Shp.tn_new Shp.tn_old Shp.tn_drew Shp.tn_drewN tn_new tn_old tn_drew tn_drewN rd_set setRow_alloc run_stn3 run_stt15 run_lvl run_ldl run_stl run_bdl run_bdn run_bdn0 run_bsk Shp.rd_extk cell_ext run_ldv run_lvv run_stv run_nev run_bdv_z run_bdv_d run_bdv_r run_bsv1 run_bsv0 run_ldrh run_ldd run_lvrh run_lvd run_str run_std run_nerh run_eqrh run_ned run_bdr0 run_bdd0 run_bdr1 run_bdd1 run_bdd9 run_ldx run_lvx run_stx run_lde run_lve run_bde run_bse1 run_bdv_3 Shp.rd_extk cell_ext
attribute [local go_sem] run_bsx1 run_bdr_at run_bdk_b run_bdx_r
set_option maxHeartbeats 8000000 in
theorem law_forks (hR : KRt) {A : Option Addr} {n c : Nat} {l : List Scv} {w : World} (hr : Shp.Row scS w A n l) (ho : ∀ r ∈ l, ∃ m, ScOk w r m) (hnc : n ≤ maxLen) (pj aa : Int) (t : Nat) (ht : t < 18446744073709551616) : Calls Tryz.prog 7 #[.slice A n c, .int .i64 pj, .int .i64 aa, .int .u64 (t : Nat)] w fun e w' => e = .returned (.bool true) ∧ Below w.heap.size w w' := by
  have hlen : Kept (l.length = n) := ⟨hr.len⟩
  have hn63 : n ≤ 9223372036854775807 := by simp only [maxLen] at hnc; omega
  have HR := Lib.hid hr
  have HO := Lib.hid ho
  have CN := Lib.hid (snew_any w.heap.size w (Nat.le_refl _))
  clear hr ho hnc
  obtain ⟨p, hp4, hp⟩ := m4 pj
  obtain ⟨q, hq4, hq⟩ := m4 aa
  have hp8 : p < 256 := by omega
  have hq8 : q < 256 := by omega
  have hk2 : (kS.v (D.bk p q))[2]? = some (.int .u8 (q : Nat)) := by show some (Value.int .u8 ((q % 256 : Nat) : Int)) = _; rw [Nat.mod_eq_of_lt hq8]
  have hbk : D.mkK 4 p q Nm.D.zero D.zero = D.bk p q := rfl
  have hbx : (⟨D.bk p q, false, D.br t⟩ : D.Wt) = D.bx p q t := rfl
  go_enter Tryz.func7, Tryz.ntmps7
  go_wp2_with (go_at_call 14; (with_reducible refine CN.out.mono ?_); rintro e w1 ⟨rfl, hS1, b1⟩; have HS1 := Lib.hid hS1; have B1 := Lib.hid b1; clear hS1 b1)
  obtain ⟨s, hs⟩ : ∃ s, w.heap.size + 1 = s := ⟨_, rfl⟩
  try rw [hs]
  rw [hs] at HS1
  clear hs CN
  go_loopw [10] (fun i wr => ∃ (j : Nat) (M : D.Sm), j ≤ n ∧ j ≤ 12 ∧ i = .int .i64 j ∧ Hid (SM w.heap.size wr s M ∧ M.last ≤ j ∧ M.ks.length ≤ 16 * j) ∧ Hid (Below w.heap.size w wr)) (fun i _ => n - (intOf i).toNat)
  case atStart => exact ⟨0, _, Nat.zero_le _, by omega, rfl, Lib.hid ⟨HS1.out, Nat.le_refl _, Nat.le_refl _⟩, B1⟩
  case round =>
    obtain ⟨j, M, hj, hj12, rfl, HS, HB⟩ := hrel
    have hfin : Hid (SM w.heap.size wr s M ∧ M.last < 990 ∧ M.ks.length ≤ 900) := Lib.hid ⟨HS.out.1, by have := HS.out.2.1; omega, by have := HS.out.2.2; omega⟩
    by_cases hlt : j < n
    · have j1 : (j : Int) < (n : Int) := by omega
      have j0 : (0 : Int) ≤ (j : Int) := by omega
      by_cases h12 : j < 12
      · have j2 : (j : Int) < 12 := by omega
        obtain ⟨x, hx⟩ : ∃ x, l[j]? = some x := ⟨_, List.getElem?_eq_getElem (by rw [hlen.out]; exact hlt)⟩
        obtain ⟨ad, hAe, hal, hrd⟩ := (HR.out.on HB.out).rd hx
        have hrd := sc_27 (show scS.rd wr (ad.add (j * 28)) = some x from hrd)
        obtain ⟨ls, hls⟩ := HO.out x (List.mem_of_getElem? hx)
        have CC := Lib.hid (scut_any (c := x.c) (hls.on HB.out).1 (fun x hx => (hls.2.1 x hx).2) hls.2.2)
        have HW := Lib.hid (fun x hx => (hls.2.1 x hx).1)
        subst hAe
        go_wp2_with (first
          | (go_at_call 9; (with_reducible refine CC.out.mono ?_); rintro e w2 ⟨B2, m2, d2, rfl, ho2, hm2, b2⟩; have CP := Lib.hid (pub_cut hR HS.out.1 (by have := HS.out.2.1; omega) (by have := HS.out.2.2; omega) ho2 hm2 b2 HW.out); clear ho2 hm2 b2)
          | (go_at_call 15; (with_reducible refine CP.out.mono ?_); rintro e w3 ⟨rfl, hS3, f3⟩; have HS3 := Lib.hid hS3; have HB3 := Lib.hid (f3.bel HB.out HB.out.size); clear hS3 f3))
        go_roundw
        case rel => exact ⟨j + 1, M.pub (D.cutL ls), by omega, by omega, by go_num, Lib.hid ⟨HS3.out, by have := (M.pub_last (D.cutL ls)).2; have := HS.out.2.1; omega, by have := M.pub_len (D.cutL ls); have := HS.out.2.2; omega⟩, HB3⟩
        case measure => simp [intOf]; omega
      · have j2 : ¬ ((j : Int) < 12) := by omega
        obtain ⟨SM0, hl0, hk0⟩ := hfin.out
        clear hfin HS
        have HB1 := HB
        go_wp2_with fail
        have hx1 := D.bx_wf (p := p) (a := q) ht
        have K2 := Lib.hid (Blk.new wr 39 (kS.v (D.bk p q)))
        have HS2 := Lib.hid (SM0.on (below_alloc_ wr (.cells (kS.v (D.bk p q)) 39)))
        have B2 := Lib.hid (below_up HB.out HB.out.size (below_alloc_ wr (.cells (kS.v (D.bk p q)) 39)))
        have C1 := pub_one hR HS2.out hl0 hk0 (D.bx p q t) hx1 (n := wr.heap.size + 1) (by simp)
        obtain ⟨gk, hgk⟩ : ∃ gk, wr.heap.size = gk := ⟨_, rfl⟩
        obtain ⟨w2, hw2⟩ : ∃ w2, wr.alloc (.cells (kS.v (D.bk p q)) 39) = w2 := ⟨_, rfl⟩
        rw [hgk] at K2 C1 ⊢
        rw [hw2] at K2 HS2 B2 C1 ⊢
        clear hgk hw2
        have hl1 := (M.pub_last [D.bx p q t]).2
        have h1000 : (M.pub [D.bx p q t]).last ≤ 1000 := by omega
        rcases D.bx_err (M := M) t hp4 hq4 with he | he
        · have hsn : D.seen ((M.pub [D.bx p q t]).f (D.bk p q)) (M.last + 1) = D.vof (D.bx p q t) (M.last + 1) := D.pub_in SM0.wf hx1 (by omega) he (x := D.bx p q t) (by simp)
          have ht1 : M.time [D.bx p q t] = M.last + 1 := by unfold D.Sm.time; rw [if_pos he]
          rw [he, ht1, show ((0 : Nat) : Int) = 0 from rfl] at C1
          obtain ⟨T, hT⟩ : ∃ T, M.last + 1 = T := ⟨_, rfl⟩
          have hfo := D.bx_fork (p := p) (t := t) hq4 T
          rw [hT] at C1 hsn
          have hdd : (D.vof (D.bx p q t) T).d = false := rfl
          obtain ⟨rr, hrr⟩ : ∃ rr, (D.vof (D.bx p q t) T).r = rr := ⟨_, rfl⟩
          obtain ⟨M1, hM1⟩ : ∃ M1, M.pub [D.bx p q t] = M1 := ⟨_, rfl⟩
          have HZ : Hid (∀ W, SM w.heap.size W s M1 → Calls Tryz.prog 17 #[.pointer (some ⟨s, 0, none⟩), .agg (kS.v (D.bk p q)), .int .u64 (T : Nat)] W fun e w' => e = .returned (.tuple #[.agg (rSh.v rr), .bool true]) ∧ Below W.heap.size W w') := Lib.hid fun W h => by
            have := sread_any (SO.of h) (by rw [← hM1]; exact h1000) (D.bk p q) T
            rwa [← hM1, hsn, hrr, hdd] at this
          rw [hrr] at hfo
          rw [hM1] at C1
          have C1 := Lib.hid C1
          clear hsn ht1 hdd hrr hM1 h1000 hl1 hT he hl0 hk0
          by_cases ht0 : t = 0
          · have z1 : ((t : Nat) : Int) = 0 := by omega
            by_cases hq0 : 0 < q
            · have z2 : (0 : Int) < (q : Nat) := by omega
              rw [if_pos ⟨ht0, hq0⟩] at hfo
              clear ht0 hq0
              refine C1.out.mono ?_
              rintro e w3 ⟨rfl, hS3, f3⟩
              have HS3 := Lib.hid hS3
              have K3 := Lib.hid (Frm.blk f3 K2.out (by decide))
              have B3 := Lib.hid (Frm.bel f3 B2.out B2.out.size)
              have k3_ := Shp.rd_blk K3.out
              clear hS3 f3
              go_wp2_with (first
                | (go_at_call 17; (with_reducible refine (HZ.out _ HS3.out).mono ?_); rintro e w5 ⟨rfl, b5⟩; have d5 := below_up b5 b5.size (below_alloc_ w5 (.cells (rSh.v rr) 53)); have R5 := Lib.hid (Blk.new w5 53 (rSh.v rr)); have B5 := Lib.hid (below_up B3.out B3.out.size d5); have k5_ := (K3.out.on d5).c 2; rw [show (kS.v (D.bk p q))[2]? = some (.int .u8 (q : Nat)) from hk2] at k5_; clear d5)
                | (go_at_call 10; refine (known_any kr_all _).mono ?_; rintro e w6 ⟨rfl, b6⟩; have u6_ := (R5.out.on b6).c 7; rw [show (rSh.v rr)[7]? = some (.int .u64 (rr.a : Nat)) from rfl] at u6_; have B6 := Lib.hid (below_up B5.out B5.out.size b6); rw [hfo] at u6_; clear b6))
              go_ret
              exact ⟨rfl, B6.out⟩
            · have z2 : ¬ ((0 : Int) < (q : Nat)) := by omega
              rw [if_neg (fun h => hq0 h.2)] at hfo
              clear ht0 hq0
              refine C1.out.mono ?_
              rintro e w3 ⟨rfl, hS3, f3⟩
              have HS3 := Lib.hid hS3
              have K3 := Lib.hid (Frm.blk f3 K2.out (by decide))
              have B3 := Lib.hid (Frm.bel f3 B2.out B2.out.size)
              have k3_ := Shp.rd_blk K3.out
              clear hS3 f3
              go_wp2_with (first
                | (go_at_call 17; (with_reducible refine (HZ.out _ HS3.out).mono ?_); rintro e w5 ⟨rfl, b5⟩; have d5 := below_up b5 b5.size (below_alloc_ w5 (.cells (rSh.v rr) 53)); have R5 := Lib.hid (Blk.new w5 53 (rSh.v rr)); have B5 := Lib.hid (below_up B3.out B3.out.size d5); have k5_ := (K3.out.on d5).c 2; rw [show (kS.v (D.bk p q))[2]? = some (.int .u8 (q : Nat)) from hk2] at k5_; clear d5)
                | (go_at_call 10; refine (known_any kr_all _).mono ?_; rintro e w6 ⟨rfl, b6⟩; have u6_ := (R5.out.on b6).c 7; rw [show (rSh.v rr)[7]? = some (.int .u64 (rr.a : Nat)) from rfl] at u6_; have B6 := Lib.hid (below_up B5.out B5.out.size b6); rw [hfo] at u6_; clear b6))
              go_ret
              exact ⟨rfl, B6.out⟩
          · have z1 : ¬ (((t : Nat) : Int) = 0) := by omega
            rw [if_neg (fun h => ht0 h.1)] at hfo
            clear ht0
            refine C1.out.mono ?_
            rintro e w3 ⟨rfl, hS3, f3⟩
            have HS3 := Lib.hid hS3
            have K3 := Lib.hid (Frm.blk f3 K2.out (by decide))
            have B3 := Lib.hid (Frm.bel f3 B2.out B2.out.size)
            have k3_ := Shp.rd_blk K3.out
            clear hS3 f3
            go_wp2_with (first
              | (go_at_call 17; (with_reducible refine (HZ.out _ HS3.out).mono ?_); rintro e w5 ⟨rfl, b5⟩; have d5 := below_up b5 b5.size (below_alloc_ w5 (.cells (rSh.v rr) 53)); have R5 := Lib.hid (Blk.new w5 53 (rSh.v rr)); have B5 := Lib.hid (below_up B3.out B3.out.size d5); have k5_ := (K3.out.on d5).c 2; rw [show (kS.v (D.bk p q))[2]? = some (.int .u8 (q : Nat)) from hk2] at k5_; clear d5)
              | (go_at_call 10; refine (known_any kr_all _).mono ?_; rintro e w6 ⟨rfl, b6⟩; have u6_ := (R5.out.on b6).c 7; rw [show (rSh.v rr)[7]? = some (.int .u64 (rr.a : Nat)) from rfl] at u6_; have B6 := Lib.hid (below_up B5.out B5.out.size b6); rw [hfo] at u6_; clear b6))
            go_ret
            exact ⟨rfl, B6.out⟩
        · have ht1 : M.time [D.bx p q t] = 0 := by unfold D.Sm.time; rw [if_neg (by rw [he]; decide)]
          rw [he, ht1, show ((0 : Nat) : Int) = 0 from rfl, show ((6 : Nat) : Int) = 6 from rfl] at C1
          obtain ⟨M1, hM1⟩ : ∃ M1, M.pub [D.bx p q t] = M1 := ⟨_, rfl⟩
          obtain ⟨r0, hr0⟩ : ∃ r0, (D.seen (M1.f (D.bk p q)) 0).r = r0 := ⟨_, rfl⟩
          obtain ⟨d0, hd0⟩ : ∃ d0, (!(D.seen (M1.f (D.bk p q)) 0).d) = d0 := ⟨_, rfl⟩
          have HZ : Hid (∀ W, SM w.heap.size W s M1 → Calls Tryz.prog 17 #[.pointer (some ⟨s, 0, none⟩), .agg (kS.v (D.bk p q)), .int .u64 0] W fun e w' => e = .returned (.tuple #[.agg (rSh.v r0), .bool d0]) ∧ Below W.heap.size W w') := Lib.hid fun W h => by
            have := sread_any (SO.of h) (by rw [← hM1]; exact h1000) (D.bk p q) 0
            rwa [hr0, hd0] at this
          rw [hM1] at C1
          have C1 := Lib.hid C1
          clear ht1 hM1 h1000 hl1 he hl0 hk0 hr0 hd0
          by_cases ht0 : t = 0
          · have z1 : ((t : Nat) : Int) = 0 := by omega
            by_cases hq0 : 0 < q
            · have z2 : (0 : Int) < (q : Nat) := by omega
              clear ht0 hq0
              refine C1.out.mono ?_
              rintro e w3 ⟨rfl, hS3, f3⟩
              have HS3 := Lib.hid hS3
              have K3 := Lib.hid (Frm.blk f3 K2.out (by decide))
              have B3 := Lib.hid (Frm.bel f3 B2.out B2.out.size)
              have k3_ := Shp.rd_blk K3.out
              clear hS3 f3
              go_wp2_with (first
                | (go_at_call 17; (with_reducible refine (HZ.out _ HS3.out).mono ?_); rintro e w5 ⟨rfl, b5⟩; have d5 := below_up b5 b5.size (below_alloc_ w5 (.cells (rSh.v r0) 53)); have R5 := Lib.hid (Blk.new w5 53 (rSh.v r0)); have B5 := Lib.hid (below_up B3.out B3.out.size d5); have k5_ := (K3.out.on d5).c 2; rw [show (kS.v (D.bk p q))[2]? = some (.int .u8 (q : Nat)) from hk2] at k5_; clear d5)
                | (go_at_call 10; refine (known_any kr_all _).mono ?_; rintro e w6 ⟨rfl, b6⟩; have u6_ := (R5.out.on b6).c 7; rw [show (rSh.v r0)[7]? = some (.int .u64 (r0.a : Nat)) from rfl] at u6_; have B6 := Lib.hid (below_up B5.out B5.out.size b6); clear b6))
              go_ret
              exact ⟨rfl, B6.out⟩
            · have z2 : ¬ ((0 : Int) < (q : Nat)) := by omega
              clear ht0 hq0
              refine C1.out.mono ?_
              rintro e w3 ⟨rfl, hS3, f3⟩
              have HS3 := Lib.hid hS3
              have K3 := Lib.hid (Frm.blk f3 K2.out (by decide))
              have B3 := Lib.hid (Frm.bel f3 B2.out B2.out.size)
              have k3_ := Shp.rd_blk K3.out
              clear hS3 f3
              go_wp2_with (first
                | (go_at_call 17; (with_reducible refine (HZ.out _ HS3.out).mono ?_); rintro e w5 ⟨rfl, b5⟩; have d5 := below_up b5 b5.size (below_alloc_ w5 (.cells (rSh.v r0) 53)); have R5 := Lib.hid (Blk.new w5 53 (rSh.v r0)); have B5 := Lib.hid (below_up B3.out B3.out.size d5); have k5_ := (K3.out.on d5).c 2; rw [show (kS.v (D.bk p q))[2]? = some (.int .u8 (q : Nat)) from hk2] at k5_; clear d5)
                | (go_at_call 10; refine (known_any kr_all _).mono ?_; rintro e w6 ⟨rfl, b6⟩; have u6_ := (R5.out.on b6).c 7; rw [show (rSh.v r0)[7]? = some (.int .u64 (r0.a : Nat)) from rfl] at u6_; have B6 := Lib.hid (below_up B5.out B5.out.size b6); clear b6))
              go_ret
              exact ⟨rfl, B6.out⟩
          · have z1 : ¬ (((t : Nat) : Int) = 0) := by omega
            clear ht0
            refine C1.out.mono ?_
            rintro e w3 ⟨rfl, hS3, f3⟩
            have HS3 := Lib.hid hS3
            have K3 := Lib.hid (Frm.blk f3 K2.out (by decide))
            have B3 := Lib.hid (Frm.bel f3 B2.out B2.out.size)
            have k3_ := Shp.rd_blk K3.out
            clear hS3 f3
            go_wp2_with (first
              | (go_at_call 17; (with_reducible refine (HZ.out _ HS3.out).mono ?_); rintro e w5 ⟨rfl, b5⟩; have d5 := below_up b5 b5.size (below_alloc_ w5 (.cells (rSh.v r0) 53)); have R5 := Lib.hid (Blk.new w5 53 (rSh.v r0)); have B5 := Lib.hid (below_up B3.out B3.out.size d5); have k5_ := (K3.out.on d5).c 2; rw [show (kS.v (D.bk p q))[2]? = some (.int .u8 (q : Nat)) from hk2] at k5_; clear d5)
              | (go_at_call 10; refine (known_any kr_all _).mono ?_; rintro e w6 ⟨rfl, b6⟩; have u6_ := (R5.out.on b6).c 7; rw [show (rSh.v r0)[7]? = some (.int .u64 (r0.a : Nat)) from rfl] at u6_; have B6 := Lib.hid (below_up B5.out B5.out.size b6); clear b6))
            go_ret
            exact ⟨rfl, B6.out⟩
    · have j1 : ¬ ((j : Int) < (n : Int)) := by omega
      · obtain ⟨SM0, hl0, hk0⟩ := hfin.out
        clear hfin HS
        have HB1 := HB
        go_wp2_with fail
        have hx1 := D.bx_wf (p := p) (a := q) ht
        have K2 := Lib.hid (Blk.new wr 39 (kS.v (D.bk p q)))
        have HS2 := Lib.hid (SM0.on (below_alloc_ wr (.cells (kS.v (D.bk p q)) 39)))
        have B2 := Lib.hid (below_up HB.out HB.out.size (below_alloc_ wr (.cells (kS.v (D.bk p q)) 39)))
        have C1 := pub_one hR HS2.out hl0 hk0 (D.bx p q t) hx1 (n := wr.heap.size + 1) (by simp)
        obtain ⟨gk, hgk⟩ : ∃ gk, wr.heap.size = gk := ⟨_, rfl⟩
        obtain ⟨w2, hw2⟩ : ∃ w2, wr.alloc (.cells (kS.v (D.bk p q)) 39) = w2 := ⟨_, rfl⟩
        rw [hgk] at K2 C1 ⊢
        rw [hw2] at K2 HS2 B2 C1 ⊢
        clear hgk hw2
        have hl1 := (M.pub_last [D.bx p q t]).2
        have h1000 : (M.pub [D.bx p q t]).last ≤ 1000 := by omega
        rcases D.bx_err (M := M) t hp4 hq4 with he | he
        · have hsn : D.seen ((M.pub [D.bx p q t]).f (D.bk p q)) (M.last + 1) = D.vof (D.bx p q t) (M.last + 1) := D.pub_in SM0.wf hx1 (by omega) he (x := D.bx p q t) (by simp)
          have ht1 : M.time [D.bx p q t] = M.last + 1 := by unfold D.Sm.time; rw [if_pos he]
          rw [he, ht1, show ((0 : Nat) : Int) = 0 from rfl] at C1
          obtain ⟨T, hT⟩ : ∃ T, M.last + 1 = T := ⟨_, rfl⟩
          have hfo := D.bx_fork (p := p) (t := t) hq4 T
          rw [hT] at C1 hsn
          have hdd : (D.vof (D.bx p q t) T).d = false := rfl
          obtain ⟨rr, hrr⟩ : ∃ rr, (D.vof (D.bx p q t) T).r = rr := ⟨_, rfl⟩
          obtain ⟨M1, hM1⟩ : ∃ M1, M.pub [D.bx p q t] = M1 := ⟨_, rfl⟩
          have HZ : Hid (∀ W, SM w.heap.size W s M1 → Calls Tryz.prog 17 #[.pointer (some ⟨s, 0, none⟩), .agg (kS.v (D.bk p q)), .int .u64 (T : Nat)] W fun e w' => e = .returned (.tuple #[.agg (rSh.v rr), .bool true]) ∧ Below W.heap.size W w') := Lib.hid fun W h => by
            have := sread_any (SO.of h) (by rw [← hM1]; exact h1000) (D.bk p q) T
            rwa [← hM1, hsn, hrr, hdd] at this
          rw [hrr] at hfo
          rw [hM1] at C1
          have C1 := Lib.hid C1
          clear hsn ht1 hdd hrr hM1 h1000 hl1 hT he hl0 hk0
          by_cases ht0 : t = 0
          · have z1 : ((t : Nat) : Int) = 0 := by omega
            by_cases hq0 : 0 < q
            · have z2 : (0 : Int) < (q : Nat) := by omega
              rw [if_pos ⟨ht0, hq0⟩] at hfo
              clear ht0 hq0
              refine C1.out.mono ?_
              rintro e w3 ⟨rfl, hS3, f3⟩
              have HS3 := Lib.hid hS3
              have K3 := Lib.hid (Frm.blk f3 K2.out (by decide))
              have B3 := Lib.hid (Frm.bel f3 B2.out B2.out.size)
              have k3_ := Shp.rd_blk K3.out
              clear hS3 f3
              go_wp2_with (first
                | (go_at_call 17; (with_reducible refine (HZ.out _ HS3.out).mono ?_); rintro e w5 ⟨rfl, b5⟩; have d5 := below_up b5 b5.size (below_alloc_ w5 (.cells (rSh.v rr) 53)); have R5 := Lib.hid (Blk.new w5 53 (rSh.v rr)); have B5 := Lib.hid (below_up B3.out B3.out.size d5); have k5_ := (K3.out.on d5).c 2; rw [show (kS.v (D.bk p q))[2]? = some (.int .u8 (q : Nat)) from hk2] at k5_; clear d5)
                | (go_at_call 10; refine (known_any kr_all _).mono ?_; rintro e w6 ⟨rfl, b6⟩; have u6_ := (R5.out.on b6).c 7; rw [show (rSh.v rr)[7]? = some (.int .u64 (rr.a : Nat)) from rfl] at u6_; have B6 := Lib.hid (below_up B5.out B5.out.size b6); rw [hfo] at u6_; clear b6))
              go_ret
              exact ⟨rfl, B6.out⟩
            · have z2 : ¬ ((0 : Int) < (q : Nat)) := by omega
              rw [if_neg (fun h => hq0 h.2)] at hfo
              clear ht0 hq0
              refine C1.out.mono ?_
              rintro e w3 ⟨rfl, hS3, f3⟩
              have HS3 := Lib.hid hS3
              have K3 := Lib.hid (Frm.blk f3 K2.out (by decide))
              have B3 := Lib.hid (Frm.bel f3 B2.out B2.out.size)
              have k3_ := Shp.rd_blk K3.out
              clear hS3 f3
              go_wp2_with (first
                | (go_at_call 17; (with_reducible refine (HZ.out _ HS3.out).mono ?_); rintro e w5 ⟨rfl, b5⟩; have d5 := below_up b5 b5.size (below_alloc_ w5 (.cells (rSh.v rr) 53)); have R5 := Lib.hid (Blk.new w5 53 (rSh.v rr)); have B5 := Lib.hid (below_up B3.out B3.out.size d5); have k5_ := (K3.out.on d5).c 2; rw [show (kS.v (D.bk p q))[2]? = some (.int .u8 (q : Nat)) from hk2] at k5_; clear d5)
                | (go_at_call 10; refine (known_any kr_all _).mono ?_; rintro e w6 ⟨rfl, b6⟩; have u6_ := (R5.out.on b6).c 7; rw [show (rSh.v rr)[7]? = some (.int .u64 (rr.a : Nat)) from rfl] at u6_; have B6 := Lib.hid (below_up B5.out B5.out.size b6); rw [hfo] at u6_; clear b6))
              go_ret
              exact ⟨rfl, B6.out⟩
          · have z1 : ¬ (((t : Nat) : Int) = 0) := by omega
            rw [if_neg (fun h => ht0 h.1)] at hfo
            clear ht0
            refine C1.out.mono ?_
            rintro e w3 ⟨rfl, hS3, f3⟩
            have HS3 := Lib.hid hS3
            have K3 := Lib.hid (Frm.blk f3 K2.out (by decide))
            have B3 := Lib.hid (Frm.bel f3 B2.out B2.out.size)
            have k3_ := Shp.rd_blk K3.out
            clear hS3 f3
            go_wp2_with (first
              | (go_at_call 17; (with_reducible refine (HZ.out _ HS3.out).mono ?_); rintro e w5 ⟨rfl, b5⟩; have d5 := below_up b5 b5.size (below_alloc_ w5 (.cells (rSh.v rr) 53)); have R5 := Lib.hid (Blk.new w5 53 (rSh.v rr)); have B5 := Lib.hid (below_up B3.out B3.out.size d5); have k5_ := (K3.out.on d5).c 2; rw [show (kS.v (D.bk p q))[2]? = some (.int .u8 (q : Nat)) from hk2] at k5_; clear d5)
              | (go_at_call 10; refine (known_any kr_all _).mono ?_; rintro e w6 ⟨rfl, b6⟩; have u6_ := (R5.out.on b6).c 7; rw [show (rSh.v rr)[7]? = some (.int .u64 (rr.a : Nat)) from rfl] at u6_; have B6 := Lib.hid (below_up B5.out B5.out.size b6); rw [hfo] at u6_; clear b6))
            go_ret
            exact ⟨rfl, B6.out⟩
        · have ht1 : M.time [D.bx p q t] = 0 := by unfold D.Sm.time; rw [if_neg (by rw [he]; decide)]
          rw [he, ht1, show ((0 : Nat) : Int) = 0 from rfl, show ((6 : Nat) : Int) = 6 from rfl] at C1
          obtain ⟨M1, hM1⟩ : ∃ M1, M.pub [D.bx p q t] = M1 := ⟨_, rfl⟩
          obtain ⟨r0, hr0⟩ : ∃ r0, (D.seen (M1.f (D.bk p q)) 0).r = r0 := ⟨_, rfl⟩
          obtain ⟨d0, hd0⟩ : ∃ d0, (!(D.seen (M1.f (D.bk p q)) 0).d) = d0 := ⟨_, rfl⟩
          have HZ : Hid (∀ W, SM w.heap.size W s M1 → Calls Tryz.prog 17 #[.pointer (some ⟨s, 0, none⟩), .agg (kS.v (D.bk p q)), .int .u64 0] W fun e w' => e = .returned (.tuple #[.agg (rSh.v r0), .bool d0]) ∧ Below W.heap.size W w') := Lib.hid fun W h => by
            have := sread_any (SO.of h) (by rw [← hM1]; exact h1000) (D.bk p q) 0
            rwa [hr0, hd0] at this
          rw [hM1] at C1
          have C1 := Lib.hid C1
          clear ht1 hM1 h1000 hl1 he hl0 hk0 hr0 hd0
          by_cases ht0 : t = 0
          · have z1 : ((t : Nat) : Int) = 0 := by omega
            by_cases hq0 : 0 < q
            · have z2 : (0 : Int) < (q : Nat) := by omega
              clear ht0 hq0
              refine C1.out.mono ?_
              rintro e w3 ⟨rfl, hS3, f3⟩
              have HS3 := Lib.hid hS3
              have K3 := Lib.hid (Frm.blk f3 K2.out (by decide))
              have B3 := Lib.hid (Frm.bel f3 B2.out B2.out.size)
              have k3_ := Shp.rd_blk K3.out
              clear hS3 f3
              go_wp2_with (first
                | (go_at_call 17; (with_reducible refine (HZ.out _ HS3.out).mono ?_); rintro e w5 ⟨rfl, b5⟩; have d5 := below_up b5 b5.size (below_alloc_ w5 (.cells (rSh.v r0) 53)); have R5 := Lib.hid (Blk.new w5 53 (rSh.v r0)); have B5 := Lib.hid (below_up B3.out B3.out.size d5); have k5_ := (K3.out.on d5).c 2; rw [show (kS.v (D.bk p q))[2]? = some (.int .u8 (q : Nat)) from hk2] at k5_; clear d5)
                | (go_at_call 10; refine (known_any kr_all _).mono ?_; rintro e w6 ⟨rfl, b6⟩; have u6_ := (R5.out.on b6).c 7; rw [show (rSh.v r0)[7]? = some (.int .u64 (r0.a : Nat)) from rfl] at u6_; have B6 := Lib.hid (below_up B5.out B5.out.size b6); clear b6))
              go_ret
              exact ⟨rfl, B6.out⟩
            · have z2 : ¬ ((0 : Int) < (q : Nat)) := by omega
              clear ht0 hq0
              refine C1.out.mono ?_
              rintro e w3 ⟨rfl, hS3, f3⟩
              have HS3 := Lib.hid hS3
              have K3 := Lib.hid (Frm.blk f3 K2.out (by decide))
              have B3 := Lib.hid (Frm.bel f3 B2.out B2.out.size)
              have k3_ := Shp.rd_blk K3.out
              clear hS3 f3
              go_wp2_with (first
                | (go_at_call 17; (with_reducible refine (HZ.out _ HS3.out).mono ?_); rintro e w5 ⟨rfl, b5⟩; have d5 := below_up b5 b5.size (below_alloc_ w5 (.cells (rSh.v r0) 53)); have R5 := Lib.hid (Blk.new w5 53 (rSh.v r0)); have B5 := Lib.hid (below_up B3.out B3.out.size d5); have k5_ := (K3.out.on d5).c 2; rw [show (kS.v (D.bk p q))[2]? = some (.int .u8 (q : Nat)) from hk2] at k5_; clear d5)
                | (go_at_call 10; refine (known_any kr_all _).mono ?_; rintro e w6 ⟨rfl, b6⟩; have u6_ := (R5.out.on b6).c 7; rw [show (rSh.v r0)[7]? = some (.int .u64 (r0.a : Nat)) from rfl] at u6_; have B6 := Lib.hid (below_up B5.out B5.out.size b6); clear b6))
              go_ret
              exact ⟨rfl, B6.out⟩
          · have z1 : ¬ (((t : Nat) : Int) = 0) := by omega
            clear ht0
            refine C1.out.mono ?_
            rintro e w3 ⟨rfl, hS3, f3⟩
            have HS3 := Lib.hid hS3
            have K3 := Lib.hid (Frm.blk f3 K2.out (by decide))
            have B3 := Lib.hid (Frm.bel f3 B2.out B2.out.size)
            have k3_ := Shp.rd_blk K3.out
            clear hS3 f3
            go_wp2_with (first
              | (go_at_call 17; (with_reducible refine (HZ.out _ HS3.out).mono ?_); rintro e w5 ⟨rfl, b5⟩; have d5 := below_up b5 b5.size (below_alloc_ w5 (.cells (rSh.v r0) 53)); have R5 := Lib.hid (Blk.new w5 53 (rSh.v r0)); have B5 := Lib.hid (below_up B3.out B3.out.size d5); have k5_ := (K3.out.on d5).c 2; rw [show (kS.v (D.bk p q))[2]? = some (.int .u8 (q : Nat)) from hk2] at k5_; clear d5)
              | (go_at_call 10; refine (known_any kr_all _).mono ?_; rintro e w6 ⟨rfl, b6⟩; have u6_ := (R5.out.on b6).c 7; rw [show (rSh.v r0)[7]? = some (.int .u64 (r0.a : Nat)) from rfl] at u6_; have B6 := Lib.hid (below_up B5.out B5.out.size b6); clear b6))
            go_ret
            exact ⟨rfl, B6.out⟩
end Go.Proofs.YteiikacgcfidmaaGreatDoor
