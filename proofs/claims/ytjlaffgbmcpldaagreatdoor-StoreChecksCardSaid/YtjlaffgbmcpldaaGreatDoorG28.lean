/-
  
-/
import Derived.Test.YtjlaffgbmcpldaaGreatDoorG27
import Derived.Test.YtjlaffgbmcpldaaGreatDoorG26
import Derived.Test.YtjlaffgbmcpldaaGreatDoorG23
set_option linter.unusedVariables false
set_option linter.unusedSimpArgs false
set_option maxRecDepth 100000
namespace Go.Proofs.YtjlaffgbmcpldaaGreatDoor
theorem kyo_eq {w : World} {g : Nat} {o : Option Tk} (h : TR w g o) (q : D.Px) : kyo q o = ((Cr.Tr.lso o).filter (fun e => D.has q.x q.d e.1)).map (·.1) := by
 unfold kyo
 by_cases hd : 0 ≤ q.d ∧ q.d ≤ 5
 ·have hp : ∀ x, D.has q.x q.d x = decide (8 * D.ends q.d ≤ Cr.par x q.x) := fun x => D.has_par hd.1 hd.2
  have hn := D.ends_le q.d
  cases o with
  | none => simp [Cr.Tr.lso, subo]
  | some t =>
   have hw := h.wf t rfl
   rw [hp]
   have e : fk (subo q.x (8 * D.ends q.d) (some t)) = (t.sub q.x (8 * D.ends q.d)).hd.1 := rfl
   rw [e]
   have hf : (Cr.Tr.lso (some t)).filter (fun e => D.has q.x q.d e.1) = t.ls.filter (fun e => decide (8 * D.ends q.d ≤ Cr.par e.1 q.x)) := by
    show t.ls.filter _ = _
    congr 1
    funext e
    exact hp e.1
   rw [hf]
   by_cases c : 8 * D.ends q.d ≤ Cr.par (t.sub q.x (8 * D.ends q.d)).hd.1 q.x
   ·rw [decide_eq_true c, if_pos rfl, Cr.Tr.pre_yes (by omega) hw c]; rfl
   ·rw [decide_eq_false c, if_neg (by decide), Cr.Tr.pre_no (by omega) hw c]; rfl
 ·have hp : ∀ x, D.has q.x q.d x = false := fun x => by
   unfold D.has
   simp only [Bool.and_eq_false_iff, decide_eq_false_iff_not]
   omega
  simp [hp]
end Go.Proofs.YtjlaffgbmcpldaaGreatDoor
set_option linter.unusedVariables false
set_option linter.unusedSimpArgs false
set_option maxRecDepth 100000
namespace Go.Proofs.YtjlaffgbmcpldaaGreatDoor
open Go.RowKit
attribute [local go_sem ↓] Go.wp_at_zero Go.wp_at_succ ld_k lv_k st_k eq_k ne_k bd_k ld_b lv_b st_b eq_b ne_b bd_25 ld_r lv_r st_rk eq_rk ne_rk bd_r ld_p lv_p st_px bd_p Nm.ld_a Nm.ld_n Nm.st_a Nm.st_n Nm.eq_a Nm.eq_n Nm.ne_a Nm.ne_n Nm.lv_a Nm.lv_n ld_a ld_n st_a st_n eq_a eq_n ne_a ne_n lv_a lv_n ld_l lv_l st_l bd_l bd_n bs_k ld_v lv_v st_v ne_v bd_v bs_v ld_rh ld_d lv_rh lv_d st_r st_d ne_rh eq_rh ne_d bd_rh bd_d ld_x lv_x st_x bd_x bs_x ld_e lv_e st_e bd_e bs_e ne_e
attribute [local go_sem] run_ldk run_lvk run_stk run_eqk run_nek run_bdk_z run_ldb run_lvb run_stb run_eqb run_neb run_ldr run_lvr run_strk run_eqrk run_nerk run_bdr_z run_ldp run_lvp run_stpx Nm.run_ld_a Nm.run_ld_n Nm.run_st_n Nm.run_eq_a Nm.run_eq_n Nm.run_ne_a Nm.run_ne_n Nm.run_lv_a Nm.run_lv_n Nm.rd_new Nm.rd_old Nm.rd_drew Nm.rd_drewN run_ld_a run_ld_n run_sw_a run_sw_n run_eq_a run_eq_n run_ne_a run_ne_n run_lv_a run_lv_n st_z ne_z eq_z rd_new rd_old rd_drew rd_drewN Shp.rd_new Shp.rd_old Shp.rd_drew Shp.rd_drewN Shp.rd_set Shp.tn_new Shp.tn_old Shp.tn_drew Shp.tn_drewN tn_new tn_old tn_drew tn_drewN rd_set setRow_alloc run_stn3 run_stt15 run_lvl run_ldl run_stl run_bdl run_bdn run_bdn0 run_bsk Shp.rd_extk cell_ext run_ldv run_lvv run_stv run_nev run_bdv_z run_bdv_d run_bdv_r run_bsv1 run_bsv0 run_ldrh run_ldd run_lvrh run_lvd run_str run_std run_nerh run_eqrh run_ned run_bdr0 run_bdd0 run_bdr1 run_bdd1 run_bdd9 run_ldx run_lvx run_stx run_lde run_lve run_bde run_bse1 run_bdv_3 Shp.rd_extk cell_ext
theorem SC.keys {base s g : Nat} {w : World} {o : Option Tk} {q : D.Ky → Qd} {lv : Int} {M : D.Sm} (h : SC base w s g o q lv M) (x : D.Px) : kyo x o = M.ks.filter fun k => D.has x.x x.d k := by
 rw [kyo_eq h.tc.tr, h.ls, List.filter_map, List.map_map]
 have e : (fun e : D.Ky × Vl => D.has x.x x.d e.1) ∘ (fun k => (k, some (⟨(q k).b, 0, none⟩ : Addr))) = fun k => D.has x.x x.d k := rfl
 rw [e]
 exact List.map_id _
def D.Sm.keys (M : D.Sm) (x : D.Px) : List D.Ky := M.ks.filter fun k => D.has x.x x.d k
theorem stk_next {α : Type} {l : List α} {i : Nat} {x : α} (h : l[i]? = some x) : l.take (i + 1) = l.take i ++ [x] := by
 rw [List.take_add_one, h]; rfl
end Go.Proofs.YtjlaffgbmcpldaaGreatDoor
set_option linter.unusedVariables false
set_option linter.unusedSimpArgs false
set_option maxRecDepth 100000
namespace Go.Proofs.YtjlaffgbmcpldaaGreatDoor
open Go.RowKit
attribute [local go_sem ↓] Go.wp_at_zero Go.wp_at_succ ld_k lv_k st_k eq_k ne_k bd_k ld_b lv_b st_b eq_b ne_b bd_25 ld_r lv_r st_rk eq_rk ne_rk bd_r ld_p lv_p st_px bd_p Nm.ld_a Nm.ld_n Nm.st_a Nm.st_n Nm.eq_a Nm.eq_n Nm.ne_a Nm.ne_n Nm.lv_a Nm.lv_n ld_a ld_n st_a st_n eq_a eq_n ne_a ne_n lv_a lv_n ld_l lv_l st_l bd_l bd_n bs_k ld_v lv_v st_v ne_v bd_v bs_v ld_rh ld_d lv_rh lv_d st_r st_d ne_rh eq_rh ne_d bd_rh bd_d ld_x lv_x st_x bd_x bs_x ld_e lv_e st_e bd_e bs_e ne_e
attribute [local go_sem] run_ldk run_lvk run_stk run_eqk run_nek run_bdk_z run_ldb run_lvb run_stb run_eqb run_neb run_ldr run_lvr run_strk run_eqrk run_nerk run_bdr_z run_ldp run_lvp run_stpx Nm.run_ld_a Nm.run_ld_n Nm.run_st_n Nm.run_eq_a Nm.run_eq_n Nm.run_ne_a Nm.run_ne_n Nm.run_lv_a Nm.run_lv_n Nm.rd_new Nm.rd_old Nm.rd_drew Nm.rd_drewN run_ld_a run_ld_n run_sw_a run_sw_n run_eq_a run_eq_n run_ne_a run_ne_n run_lv_a run_lv_n st_z ne_z eq_z rd_new rd_old rd_drew rd_drewN Shp.rd_new Shp.rd_old Shp.rd_drew Shp.rd_drewN Shp.rd_set Shp.tn_new Shp.tn_old Shp.tn_drew Shp.tn_drewN tn_new tn_old tn_drew tn_drewN rd_set setRow_alloc run_stn3 run_stt15 run_lvl run_ldl run_stl run_bdl run_bdn run_bdn0 run_bsk Shp.rd_extk cell_ext run_ldv run_lvv run_stv run_nev run_bdv_z run_bdv_d run_bdv_r run_bsv1 run_bsv0 run_ldrh run_ldd run_lvrh run_lvd run_str run_std run_nerh run_eqrh run_ned run_bdr0 run_bdd0 run_bdr1 run_bdd1 run_bdd9 run_ldx run_lvx run_stx run_lde run_lve run_bde run_bse1 run_bdv_3 Shp.rd_extk cell_ext
def KRt : Prop := ∀ (x : D.Ky) (w : World), Calls Tryz.prog 82 #[.agg (kS.v x)] w fun e w' => e = .returned (.bool (D.kright x)) ∧ Below w.heap.size w w'
theorem rfo {w : World} {g o : Nat} {x : D.Rc} (h : rSh.rd w ⟨g, o, none⟩ = some x) {j : Nat} {u : Value} (hu : (rcellsh x)[j]? = some u) : w.cell? ⟨g, o + j, none⟩ = some u := by
 have hc : rSh.At w ⟨g, o, none⟩ x := Shp.at_of h
 have := hc j u hu
 rwa [add_o] at this
structure XF (w : World) (g : Nat) (x : D.Wt) : Prop where
 all : xS.rd w ⟨g, 0, none⟩ = some x
 k : kS.rd w ⟨g, 0, none⟩ = some x.k
 d : w.cell? ⟨g, 25, none⟩ = some (.bool x.d)
 r : rSh.rd w ⟨g, 26, none⟩ = some x.r
 kk : w.cell? ⟨g, 0, none⟩ = some (.int .u8 (x.k.k : Nat))
 ka : w.cell? ⟨g, 2, none⟩ = some (.int .u8 (x.k.a : Nat))
 rk : w.cell? ⟨g, 26, none⟩ = some (.int .u8 (x.r.k : Nat))
 ra : w.cell? ⟨g, 33, none⟩ = some (.int .u64 (x.r.a : Nat))
theorem XF.of {w : World} {g : Nat} {x : D.Wt} (h : xS.rd w ⟨g, 0, none⟩ = some x) : XF w g x := by
 obtain ⟨q1, q2, q3⟩ := xf h
 have k0 := kf0 q1
 rw [Nat.zero_add] at q2 q3
 exact ⟨h, q1, q2, q3, k0.1, k0.2.2.1, rfo q3 (j := 0) rfl, rfo q3 (j := 7) rfl⟩
theorem XF.on {w w' : World} {g : Nat} {x : D.Wt} (h : XF w g x) (hb : Below w.heap.size w w') : XF w' g x := .of (Shp.rd_on h.all hb)
set_option maxHeartbeats 4000000 in
theorem weighs_any (hR : KRt) (x : D.Wt) (w : World) (hw : x.r.wf) : Calls Tryz.prog 44 #[.agg (xS.v x)] w fun e w' => e = .returned (.int .i64 (D.wwg x : Nat)) ∧ Below w.heap.size w w' := by
 have q0 := Shp.rd_new (S := xS) w w.heap.size 77 x rfl
 have b0 := below_alloc_ w (.cells (xS.v x) 77)
 obtain ⟨w0, hw0⟩ : ∃ w0, w.alloc (.cells (xS.v x) 77) = w0 := ⟨_, rfl⟩
 rw [hw0] at q0 b0
 have F0 := XF.of q0
 have HF := Lib.hid F0
 have c1 := F0.k
 have CR := Lib.hid (hR x.k)
 have CC := Lib.hid (fun W => check_any x.r W hw)
 clear q0 F0
 by_cases hk : D.kright x.k = true
 ·rw [hk] at CR
  cases hd : x.d with
  | true =>
   by_cases hr : x.r = D.zRc
   ·have e : D.wwg x = 0 := by unfold D.wwg; rw [if_neg (by simp [hk, hr]), if_pos hd]
    have hde : decide (x.r = D.zRc) = true := decide_eq_true hr
    rw [e]
    clear hr e
    go_enter Tryz.func44, Tryz.ntmps44
    go_wp2_with fail
    try rw [hw0]
    clear hw0
    go_wp2_with (go_at_call 82; (with_reducible refine (CR.out _).mono ?_); rintro e w1 ⟨rfl, b1⟩; have F1 := HF.out.on b1; have c2 := F1.d; have c3 := F1.r; rw [hd] at c2)
    go_ret
    exact ⟨rfl, below_up b0 b0.size b1⟩
   ·have e : D.wwg x = 3 := by unfold D.wwg; rw [if_pos (.inr ⟨hd, hr⟩)]
    have hde : decide (x.r = D.zRc) = false := decide_eq_false hr
    rw [e]
    clear hr e
    go_enter Tryz.func44, Tryz.ntmps44
    go_wp2_with fail
    try rw [hw0]
    clear hw0
    go_wp2_with (go_at_call 82; (with_reducible refine (CR.out _).mono ?_); rintro e w1 ⟨rfl, b1⟩; have F1 := HF.out.on b1; have c2 := F1.d; have c3 := F1.r; rw [hd] at c2)
    go_ret
    exact ⟨rfl, below_up b0 b0.size b1⟩
  | false =>
   obtain ⟨ch, hch⟩ : ∃ ch, D.chk x.r = ch := ⟨_, rfl⟩
   have e : D.wwg x = if ch ≠ 0 then ch else if x.r.k ≠ x.k.k then 16 else 0 := by unfold D.wwg; rw [if_neg (by simp [hk, hd]), if_neg (by simp [hd]), hch]
   rw [e]
   rw [hch] at CC
   clear e hch
   by_cases h0 : ch = 0
   ·subst h0
    rw [if_neg (by simp)]
    by_cases hkk : x.r.k = x.k.k
    ·rw [if_neg (by simp [hkk])]
     have hi : ((x.r.k : Int) == (x.k.k : Int)) = true := by simp [hkk]
     have hi2 : ((x.r.k : Int) != (x.k.k : Int)) = false := by simp [hkk]
     go_enter Tryz.func44, Tryz.ntmps44
     go_wp2_with fail
     try rw [hw0]
     clear hw0
     go_wp2_with (first
      | (go_at_call 82; (with_reducible refine (CR.out _).mono ?_); rintro e w1 ⟨rfl, b1⟩; have F1 := HF.out.on b1; have c2 := F1.d; have c3 := F1.r; rw [hd] at c2)
      | (go_at_call 83; (with_reducible refine (CC.out _).mono ?_); rintro e w2 ⟨rfl, b2⟩; have F2 := F1.on b2; have c4 := F2.rk; have c5 := F2.kk))
     go_ret
     exact ⟨rfl, below_up (below_up b0 b0.size b1) (below_up b0 b0.size b1).size b2⟩
    ·rw [if_pos hkk]
     have hi : ((x.r.k : Int) == (x.k.k : Int)) = false := by simp; omega
     have hi2 : ((x.r.k : Int) != (x.k.k : Int)) = true := by simp; omega
     go_enter Tryz.func44, Tryz.ntmps44
     go_wp2_with fail
     try rw [hw0]
     clear hw0
     go_wp2_with (first
      | (go_at_call 82; (with_reducible refine (CR.out _).mono ?_); rintro e w1 ⟨rfl, b1⟩; have F1 := HF.out.on b1; have c2 := F1.d; have c3 := F1.r; rw [hd] at c2)
      | (go_at_call 83; (with_reducible refine (CC.out _).mono ?_); rintro e w2 ⟨rfl, b2⟩; have F2 := F1.on b2; have c4 := F2.rk; have c5 := F2.kk))
     go_ret
     exact ⟨rfl, below_up (below_up b0 b0.size b1) (below_up b0 b0.size b1).size b2⟩
   ·rw [if_pos h0]
    have hi : ((ch : Int) == 0) = false := by simp; omega
    go_enter Tryz.func44, Tryz.ntmps44
    go_wp2_with fail
    try rw [hw0]
    clear hw0
    go_wp2_with (first
      | (go_at_call 82; (with_reducible refine (CR.out _).mono ?_); rintro e w1 ⟨rfl, b1⟩; have F1 := HF.out.on b1; have c2 := F1.d; have c3 := F1.r; rw [hd] at c2)
      | (go_at_call 83; (with_reducible refine (CC.out _).mono ?_); rintro e w2 ⟨rfl, b2⟩))
    go_ret
    exact ⟨rfl, below_up (below_up b0 b0.size b1) (below_up b0 b0.size b1).size b2⟩
 ·have e : D.wwg x = 3 := by unfold D.wwg; rw [if_pos (.inl (by simpa using hk))]
  rw [e]
  have hk : D.kright x.k = false := by simpa using hk
  rw [hk] at CR
  go_enter Tryz.func44, Tryz.ntmps44
  go_wp2_with fail
  try rw [hw0]
  clear hw0
  go_wp2_with (go_at_call 82; (with_reducible refine (CR.out _).mono ?_); rintro e w1 ⟨rfl, b1⟩)
  go_ret
  exact ⟨rfl, below_up b0 b0.size b1⟩
theorem D.wck_next {l : List D.Wt} {j : Nat} {x : D.Wt} (h : l[j]? = some x) (ks : List D.Ky) : D.wck ks (l.drop j) = if D.wwg x ≠ 0 then D.wwg x else if x.k ∈ ks then 8 else D.wck (ks ++ [x.k]) (l.drop (j + 1)) := by
 obtain ⟨hj, rfl⟩ := List.getElem?_eq_some_iff.1 h
 rw [List.drop_eq_getElem_cons hj, D.wck]
set_option maxHeartbeats 8000000 in
theorem scheck_any (hR : KRt) {w : World} {A : Option Addr} {n c : Nat} {l : List D.Wt} (hr : Shp.Row xS w A n l) (hw : ∀ x ∈ l, x.r.wf) (hn : n ≤ maxLen) : Calls Tryz.prog 10 #[.slice A n c] w fun e w' => e = .returned (.int .i64 (D.sck l : Nat)) ∧ Below w.heap.size w w' := by
 have hlen := hr.len
 have hn63 : n ≤ 9223372036854775807 := by simp only [maxLen] at hn; omega
 clear hn
 by_cases h0 : n = 0
 ·have e : D.sck l = 1 := by unfold D.sck; rw [if_pos (by omega)]
  rw [e]
  subst h0
  clear hr e
  go_enter Tryz.func10, Tryz.ntmps10
  go_wp2
  go_ret
  exact ⟨rfl, Below.refl _ _⟩
 ·have i0 : ¬ ((n : Int) = 0) := by omega
  by_cases h16 : 16 < n
  ·have e : D.sck l = 2 := by unfold D.sck; rw [if_neg (by omega), if_pos (by omega)]
   rw [e]
   have i1 : (16 : Int) < (n : Int) := by omega
   clear hr e
   go_enter Tryz.func10, Tryz.ntmps10
   go_wp2
   go_ret
   exact ⟨rfl, Below.refl _ _⟩
  ·have e : D.sck l = D.wck [] l := by unfold D.sck; rw [if_neg (by omega), if_neg (by omega)]
   rw [e]
   have i1 : ¬ ((16 : Int) < (n : Int)) := by omega
   have HL := Lib.hid hlen
   have HR := Lib.hid hr
   have HW := Lib.hid hw
   have hmm := @run_makeMap Tryz.prog
   have hC0 := Lib.hid (kc_new w)
   clear hlen hr hw e
   go_enter Tryz.func10, Tryz.ntmps10
   go_wp2
   clear hmm
   go_loopw [18] (fun i wr => ∃ j : Nat, j ≤ n ∧ i = .int .i64 j ∧ KcAt wr w.heap.size ((l.take j).map (·.k)) ∧ Below w.heap.size w wr ∧ Kept (D.wck [] l = D.wck ((l.take j).map (·.k)) (l.drop j))) (fun i _ => n - (intOf i).toNat)
   case atStart => exact ⟨0, Nat.zero_le _, rfl, hC0.out, below_alloc_ _ _, ⟨by simp⟩⟩
   case round =>
    obtain ⟨j, hj, rfl, hc, hb, HE⟩ := hrel
    have HC := Lib.hid hc
    have HB := Lib.hid hb
    clear hc hb hC0
    by_cases hlt : j < n
    ·obtain ⟨x, hx⟩ : ∃ x, l[j]? = some x := ⟨_, List.getElem?_eq_getElem (by rw [HL.out]; exact hlt)⟩
     obtain ⟨ad, rfl, hal, hrd⟩ := (HR.out.on HB.out).rd hx
     have hrd : xS.rd wr (ad.add (j * 35)) = some x := hrd
     have HN := D.wck_next hx ((l.take j).map (·.k))
     have HT := Lib.hid (show (l.take (j + 1)).map (·.k) = (l.take j).map (·.k) ++ [x.k] by rw [stk_next hx]; simp)
     have hwx := HW.out x (List.mem_of_getElem? hx)
     have HKl : ((l.take j).map (·.k)).length ≤ 1000 := by simp; omega
     have CW := Lib.hid (fun W => weighs_any hR x W hwx)
     obtain ⟨K, hK⟩ : ∃ K, (l.take j).map (·.k) = K := ⟨_, rfl⟩
     rw [hK] at HC HN HKl HT HE
     have j1 : (j : Int) < (n : Int) := by omega
     have j0 : (0 : Int) ≤ (j : Int) := by omega
     have F1 := Lib.hid (XF.of (Shp.rd_new (S := xS) wr wr.heap.size 77 x rfl))
     have f1 := F1.out.all
     have bx := below_alloc_ wr (.cells (xS.v x) 77)
     obtain ⟨q, hq⟩ : ∃ q, D.wwg x = q := ⟨_, rfl⟩
     rw [hq] at CW HN
     obtain ⟨w1, hw1⟩ : ∃ w1, wr.alloc (.cells (xS.v x) 77) = w1 := ⟨_, rfl⟩
     rw [hw1] at F1 f1 bx
     clear hx hK hq
     have hend : Hid (D.wck [] l = q ∨ q = 0) := Lib.hid (by
      by_cases h : q = 0
      ·exact .inr h
      ·exact .inl (by rw [HE.out, HN, if_pos h]))
     by_cases hq0 : q = 0
     ·subst hq0
      rw [if_neg (by simp)] at HN
      have hkt := D.kct_pos (l := K) (x := x.k)
      have hkl := D.kct_le K x.k
      go_wp2_with fail
      try rw [hw1]
      clear hw1
      go_wp2_with (go_at_call 44; (with_reducible refine (CW.out _).mono ?_); rintro e w2 ⟨rfl, b2⟩)
      have C2 := HC.out.on (below_up bx bx.size b2)
      have F2 := F1.out.on b2
      have B2 := below_up HB.out HB.out.size (below_up bx bx.size b2)
      have hlk := C2.drew.look x.k
      obtain ⟨st, w3, w4, hE, hL1, hS, hC4, hg4, hg3⟩ := C2.drew.more HKl x.k
      have e0 : goInt st = .int .i64 (st : Int) := rfl
      rw [e0] at hE hS
      have f3 : kS.rd w2.drew ⟨wr.heap.size, 0, none⟩ = some x.k := F2.k
      have hne : wr.heap.size ≠ w.heap.size := by have := HC.out.lt; omega
      have F4 : Hid (xS.rd w4 ⟨wr.heap.size, 0, none⟩ = some x) := Lib.hid ((Shp.rd_to (hg4.block wr.heap.size (Shp.rd_lt F2.all) (by intro e; injection e with e; exact hne e))).trans F2.all)
      have B4 : Hid (Below w.heap.size w w4) := Lib.hid ⟨hg4.os.trans B2.os, hg4.tape.trans B2.tape, hg4.output.trans B2.output, Nat.le_trans B2.size hg4.size, fun i hi => (hg4.block i (Nat.lt_of_lt_of_le hi B2.size) (by intro e; injection e with e; omega)).trans (B2.block i hi)⟩
      have H4 := Lib.hid hC4
      have HB2 := Lib.hid B2
      clear C2 F2 B2 hC4 hg4 hg3 f1 hrd CW
      obtain ⟨m, hm⟩ : ∃ m, D.kct K x.k = m := ⟨_, rfl⟩
      rw [hm] at hlk hE hL1 hS hkt hkl
      have f4 := (XF.of F4.out).k
      have hlk4 := H4.out.look x.k
      rw [D.kct_snoc, if_pos rfl, hm] at hlk4
      have e1 : ((m + 1 : Nat) : Int) = (m : Int) + 1 := by omega
      rw [e1] at hlk4
      clear hm e1
      by_cases hmem : x.k ∈ K
      ·rw [if_pos hmem] at HN
       have hm1 : ¬ ((m : Int) + 1 ≤ 1) := by have := hkt.2 hmem; omega
       have HX : Kept (D.wck [] l = 8) := ⟨HE.out.trans HN⟩
       clear hmem HN hkt
       go_region
       all_goals
        go_wp2
        go_ret
        exact ⟨by rw [HX.out]; rfl, B4.out⟩
      ·rw [if_neg hmem] at HN
       have hm1 : (m : Int) + 1 ≤ 1 := by
        rcases Nat.eq_zero_or_pos m with h | h
        ·omega
        ·exact absurd (hkt.1 h) hmem
       have HX : Kept (D.wck [] l = D.wck (K ++ [x.k]) (l.drop (j + 1))) := ⟨HE.out.trans HN⟩
       clear hmem HN hkt
       go_region
       all_goals
        go_wp2
        go_roundw
        case rel => exact ⟨j + 1, by omega, by go_num, by rw [HT.out]; exact H4.out, B4.out, by rw [HT.out]; exact HX⟩
        case measure => simp [intOf]; omega
     ·have HX : Kept (D.wck [] l = q) := ⟨by rcases hend.out with h | h; exact h; exact absurd h hq0⟩
      have hqi : ((q : Int) == 0) = false := by simp; omega
      clear HN
      go_wp2_with fail
      try rw [hw1]
      clear hw1
      go_wp2_with (go_at_call 44; (with_reducible refine (CW.out _).mono ?_); rintro e w2 ⟨rfl, b2⟩)
      go_ret
      exact ⟨by rw [HX.out]; rfl, below_up HB.out HB.out.size (below_up bx bx.size b2)⟩
    ·obtain rfl : n = j := by omega
     have HX : Kept (D.wck [] l = 0) := ⟨by rw [HE.out, ← HL.out, List.drop_length]; rfl⟩
     go_wp2
     go_ret
     exact ⟨by rw [HX.out]; rfl, HB.out⟩
end Go.Proofs.YtjlaffgbmcpldaaGreatDoor
