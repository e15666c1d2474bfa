/-
  Split: keys in groups, each by its prefix of depth 3: the walk.
-/
import Derived.Test.YtjblepjkejihcaaGreatDoorKslt
set_option linter.unusedVariables false
set_option linter.unusedSimpArgs false
set_option maxRecDepth 100000
namespace Go.Proofs.YtjblepjkejihcaaGreatDoor
open Go.RowKit
open Go.ChangeMaps (setBlock)
attribute [local go_sem ↓] Go.wp_at_zero Go.wp_at_succ bsl_k ld_k lv_k st_k eq_k ne_k bd_k ld_b lv_b st_b eq_b ne_b bd_25 ld_r lv_r st_rk eq_rk ne_rk bd_r ld_p lv_p st_px bd_p Nm.ld_a Nm.ld_n Nm.st_a Nm.st_n Nm.eq_a Nm.eq_n Nm.ne_a Nm.ne_n Nm.lv_a Nm.lv_n ld_a ld_n st_a st_n eq_a eq_n ne_a ne_n lv_a lv_n
attribute [local go_sem] run_bslk run_ldk run_lvk run_stk run_eqk run_nek run_bdk_z run_ldb run_lvb run_stb run_eqb run_neb run_ldr run_lvr run_strk run_eqrk run_nerk run_bdr_z run_ldp run_lvp run_stpx Nm.run_ld_a Nm.run_ld_n Nm.run_st_n Nm.run_eq_a Nm.run_eq_n Nm.run_ne_a Nm.run_ne_n Nm.run_lv_a Nm.run_lv_n Nm.rd_new Nm.rd_old Nm.rd_drew Nm.rd_drewN run_ld_a run_ld_n run_sw_a run_sw_n run_eq_a run_eq_n run_ne_a run_ne_n run_lv_a run_lv_n st_z ne_z eq_z rd_new rd_old rd_drew rd_drewN Shp.rd_new Shp.rd_old Shp.rd_drew Shp.rd_drewN Shp.rd_set Shp.tn_new Shp.tn_old Shp.tn_drew Shp.tn_drewN tn_new tn_old tn_drew tn_drewN rd_set setRow_alloc run_stn3 run_stt15 Shp.rd_extk cell_ext

/-- The prefix of depth 3 of a key. -/
def D.px3 (x : D.Ky) : D.Px := ⟨D.upto x 3, 3, by decide⟩
theorem memg_len (L : List D.Ky) (p : D.Px) : (D.memg (D.grp D.px3 L) p).length ≤ L.length := by
  rw [D.grp_mem]
  exact List.length_filter_le _ _
theorem kright_next {l : List D.Ky} {i : Nat} {x : D.Ky} (h : l[i]? = some x) : (l.take (i + 1)).filter D.kright = if D.kright x then (l.take i).filter D.kright ++ [x] else (l.take i).filter D.kright := by
  obtain ⟨h1, h2⟩ := List.getElem?_eq_some_iff.1 h
  rw [List.take_succ_eq_append_getElem h1, h2, List.filter_append]
  cases hr : D.kright x <;> simp [hr]
theorem kat_lt {l : List D.Ky} {i : Nat} (h : i < l.length) : ∃ x, l[i]? = some x := ⟨l[i], List.getElem?_eq_getElem h⟩
/-- The entry, its slice, and what an append to it leaves to be stored. -/
theorem GrpAt.entry2 {base b : Nat} {w : World} {G : List (D.Px × List D.Ky)} (h : GrpAt base w b G) (p : D.Px) : ∃ (j : Nat) (A : Option Addr) (n c : Nat) (w5 : World),
    (Instr.mapEntry 64 (.map (some b)) (.agg (pS.v p))).run Tryz.prog w = .ok (.tuple #[.slice A n c, .int .i64 (j : Int)]) w5 ∧ w.grownBy w5 (some b) ∧ kS.Own base 33 w5 A n c (D.memg G p) ∧
    ∀ (k : D.Ky) (A' : Option Addr) (c' : Nat) (w6 : World), kS.Own base 33 w6 A' (n + 1) c' (D.memg G p ++ [k]) → w5.grownBy w6 (Value.slice A n c).ownBlock → ((Value.slice A' (n + 1) c').ownBlock = (Value.slice A n c).ownBlock ∨ (Value.slice A' (n + 1) c').ownBlock = some w5.heap.size) →
      ∃ w7, (Instr.entryStore 64 (.map (some b)) (.int .i64 (j : Int)) (.slice A' (n + 1) c')).run Tryz.prog w6 = .ok () w7 ∧ GrpAt base w7 b (D.addg G p k) ∧ (∀ B, B ≤ b → B ≤ w.heap.size → Below B w w7) := by
  obtain ⟨es0, g1, _⟩ := h.out
  obtain ⟨j, es1, G1, A, n, c, e, hE, hG, hj, hv, hGj, hadd⟩ := h.entry p
  obtain ⟨es2, q1, q2, q3, q4⟩ := hG.out
  have hsame := Go.ChangeMaps.heap_setBlock_same g1 (.map es1 es1.size)
  rw [hsame] at q1
  injection q1 with q1
  injection q1 with q1
  subst q1
  obtain ⟨_, _, A0, n0, c0, hv0, ho0⟩ := q3 j e _ hj hGj
  rw [hv] at hv0
  injection hv0 with hA hn0 hc0
  subst hA; subst hn0; subst hc0
  have hg5 := set_grown g1 (.map es1 es1.size)
  refine ⟨j, A, n, c, _, hE, hg5, ho0, fun k A' c' w6 ho6 hg6 hk6 => ?_⟩
  obtain ⟨w7, hS, hG7, hg7⟩ := hG.store hsame hj hv hGj hg6 ho6 hk6
  refine ⟨w7, hS, by rw [hadd k]; exact hG7, fun B hB hs => ?_⟩
  have b5 : Below B w (setBlock w b (.map es1 es1.size)) := ⟨hg5.os, hg5.tape, hg5.output, hg5.size, fun i hi => hg5.block i (by omega) (by intro e; injection e with e; omega)⟩
  have b6 : Below B (setBlock w b (.map es1 es1.size)) w6 := ⟨hg6.os, hg6.tape, hg6.output, hg6.size, fun i hi => hg6.block i (by have := hg5.size; omega) (by
    intro e
    have := (ho0.lt i e.symm).1
    have := h.low
    omega)⟩
  have b7 : Below B w6 w7 := ⟨hg7.os, hg7.tape, hg7.output, hg7.size, fun i hi => hg7.block i (by have := hg5.size; have := hg6.size; omega) (by intro e; injection e with e; omega)⟩
  exact (b5.trans b6).trans b7

/-- What Split tells. -/
def KSplit (L : List D.Ky) (w : World) (e : Ending) (w' : World) : Prop :=
  ∃ b base, e = .returned (.map (some b)) ∧ w.heap.size ≤ b ∧ GrpAt base w' b (D.grp D.px3 L) ∧ Below w.heap.size w w'
set_option maxHeartbeats 4000000 in
theorem groups_any (A : Option Addr) (n c : Nat) (l : List D.Ky) (w : World) (hl : kS.Row w A n l) (hn : n ≤ 1000) :
    Calls Tryz.prog 29 #[.slice A n c] w (KSplit (l.filter D.kright) w) := by
  have hmm := @run_makeMap Tryz.prog
  have hC0 := grp_new w
  obtain ⟨base, hbase⟩ : ∃ base, w.heap.size + 1 = base := ⟨_, rfl⟩
  rw [hbase] at hC0
  go_enter Tryz.func29, Tryz.ntmps29
  go_wp2
  clear hmm
  go_loopw [10] (fun i wr => ∃ k : Nat, k ≤ n ∧ i = .int .i64 k ∧ GrpAt base wr w.heap.size (D.grp D.px3 ((l.take k).filter D.kright)) ∧ Below w.heap.size w wr) (fun i _ => n - (intOf i).toNat)
  case atStart => exact ⟨0, Nat.zero_le _, rfl, hC0, below_alloc_ _ _⟩
  case round =>
    obtain ⟨k, hk, rfl, hc, hb⟩ := hrel
    by_cases hlt : k < n
    · obtain ⟨x, hx⟩ := kat_lt (l := l) (i := k) (by rw [hl.len]; exact hlt)
      obtain ⟨ad, rfl, hadl, hr⟩ := (hl.on hb).rd hx
      have HN := kright_next hx
      have HKl : ((l.take k).filter D.kright).length ≤ 1000 := Nat.le_trans (List.length_filter_le _ _) (by simp; omega)
      obtain ⟨K, hK⟩ : ∃ K, (l.take k).filter D.kright = K := ⟨_, rfl⟩
      rw [hK] at hc HN HKl
      have i1 : (k : Int) < (n : Int) := by omega
      have i0 : (0 : Int) ≤ (k : Int) := by omega
      have f1 := Shp.rd_new (S := kS) wr _ 33 x rfl
      have hr2 : kS.rd wr (ad.add (k * 25)) = some x := hr
      have HR := keyright_any x
      clear hK hx
      cases hrt : D.kright x
      · rw [hrt] at HR
        have CR := Lib.hid HR
        have HN2 : Kept ((l.take (k + 1)).filter D.kright = K) := ⟨by rw [HN, hrt]; rfl⟩
        clear HR hrt HN
        go_wp2_with (go_at_call 13; (with_reducible refine (CR.out _).mono ?_); rintro e w2 ⟨rfl, b2⟩)
        go_roundw
        case rel => exact ⟨k + 1, by omega, by go_num, by rw [HN2.out]; exact (hc.alloc _).on b2, (hb.alloc hb.size _).trans (b2.mono (by simpa using Nat.le_succ_of_le hb.size))⟩
        case measure => simp [intOf]; omega
      · rw [hrt] at HR
        have CR := Lib.hid HR
        have HN2 : Kept ((l.take (k + 1)).filter D.kright = K ++ [x]) := ⟨by rw [HN, hrt]; rfl⟩
        have CU := Lib.hid (upto_any x 3)
        have hbp : ∀ W, (bdp #[(0, .agg (kS.v (D.upto x 3))), (1, .int .i64 3)]).run Tryz.prog W = .ok (.agg (pS.v (D.px3 x))) W := fun W => run_bdp W (D.upto x 3) 3 (by decide)
        have hml := memg_len K (D.px3 x)
        clear HR hrt HN
        go_wp2_with (first
          | (go_at_call 13; (with_reducible refine (CR.out _).mono ?_); rintro e w2 ⟨rfl, b2⟩; have f2 := Shp.rd_on f1 b2; have s2 : wr.heap.size < w2.heap.size := Shp.rd_lt f2)
          | (go_at_call 50; (with_reducible refine (CU.out _).mono ?_); rintro e w3 ⟨rfl, b3⟩; have f3 := Shp.rd_on f2 b3; have s3 : wr.heap.size < w3.heap.size := Shp.rd_lt f3
             have hc4 := ((((hc.alloc (.cells (kS.v x) 33)).on b2).on b3).alloc (.cells (pS.v (D.px3 x)) 58)).alloc (.cells (kS.v x) 33)
             obtain ⟨j, A1, n1, c1, w5, hE, hg5, ho5, hS5⟩ := hc4.entry2 (D.px3 x)
             have hn1 : n1 ≤ 1000 := by rw [← ho5.len]; exact Nat.le_trans hml HKl
             have f5 : kS.rd w5 ⟨w3.heap.size + 1, 0, none⟩ = some x := by
               have hbl := hc4.low
               have hlt4 : w.heap.size < w3.heap.size := Nat.lt_of_le_of_lt hb.size s3
               rw [Shp.rd_to (w' := w5) (a := ⟨w3.heap.size + 1, 0, none⟩) (hg5.block (w3.heap.size + 1) (by simp) (by intro e; injection e with e; omega))]
               exact Shp.rd_new _ _ _ _ (by simp))
          | (at_builtin; refine kapp _ rfl (.tmp 21) (.tmp 23) rfl rfl ho5 rfl f5 (by omega) ?_; intro A6 c6 w6 ho6 hg6 hk6; obtain ⟨w7, hS7, hG7, hb7⟩ := hS5 x A6 c6 w6 ho6 hg6 hk6))
        go_roundw
        case rel =>
          have hbz := hb.size
          have bb := ((((hb.alloc hb.size (.cells (kS.v x) 33)).trans (b2.mono (by simpa using Nat.le_succ_of_le hb.size))).trans (b3.mono (by omega))).alloc (by omega) (.cells (pS.v (D.px3 x)) 58)).alloc (by simp; omega) (.cells (kS.v x) 33)
          exact ⟨k + 1, by omega, by go_num, by rw [HN2.out, D.grp_snoc]; exact hG7, bb.trans (hb7 _ (Nat.le_refl _) (by simp; omega))⟩
        case measure => simp [intOf]; omega
    · have e : l.take k = l := List.take_of_length_le (by rw [hl.len]; omega)
      rw [e] at hc
      have i1 : (n : Int) ≤ (k : Int) := by omega
      clear e
      go_wp2
      go_ret
      exact ⟨_, _, rfl, Nat.le_refl _, hc, hb⟩
end Go.Proofs.YtjblepjkejihcaaGreatDoor
