/-
  Calls that publish, one after another; a branch's record without a time forks (StoreForks).
  A store that fills (StoreFull): the keys' texts, what is live behind so many calls. No program is spoken of.
  A store that fills: what it is behind so many calls. No program is spoken of.
-/
import Derived.Test.YteiikacgcfidmaaGreatDoorG37
import Derived.Test.YteiikacgcfidmaaGreatDoorG20
import Derived.Test.YteiikacgcfidmaaGreatDoorG08
import Derived.Test.YteiikacgcfidmaaGreatDoorG18
set_option linter.unusedVariables false
set_option linter.unusedSimpArgs false
set_option maxRecDepth 100000
namespace Go.Proofs.YteiikacgcfidmaaGreatDoor
open Go.RowKit
theorem ScOk.on {w w' : World} {a : Scv} {l : List D.Wt} (h : ScOk w a l) (hb : Below w.heap.size w w') : ScOk w' a l := ⟨h.1.on hb, h.2⟩
namespace D
def bk (p a : Nat) : Ky := mkK 4 p a Nm.D.zero zero
def br (t : Nat) : Rc := ⟨4, 0, 0, 0, 0, false, 0, t, ⟨#[]⟩⟩
def bx (p a t : Nat) : Wt := ⟨bk p a, false, br t⟩
end D

theorem run_bdk_b (w : World) (p q : Nat) (hp : p < 256) (hq : q < 256) : (bdk #[(0, .int .u8 4), (1, .int .u8 (p : Int)), (2, .int .u8 (q : Int))]).run Tryz.prog w = .ok (.agg (kS.v (D.bk p q))) w := run_bdk_3 w 4 p q (by decide) hp hq
theorem m4 (i : Int) : ∃ p : Nat, p < 4 ∧ (IntKind.u64.wrap i).tmod 4 % 256 = (p : Int) := by
  rw [IntKind.wrap_u64, Int.tmod_eq_emod_of_nonneg (by omega)]
  exact ⟨(i % 18446744073709551616 % 4 % 256).toNat, by omega, by omega⟩
theorem pub_one (hR : KRt) {base s n : Nat} {w : World} {M : D.Sm} (hS : SM base w s M) (hl : M.last < 990) (hk : M.ks.length ≤ 900) (x : D.Wt) (hw : ∀ y ∈ [x], y.r.wf) (hn : n = w.heap.size) :
    Calls Tryz.prog 15 #[.pointer (some ⟨s, 0, none⟩), .slice (some ⟨n, 0, none⟩) 1 1] (w.alloc (.cells (xS.v x) 65)) fun e w' => e = .returned (.tuple #[.int .u64 (M.time [x] : Nat), .int .i64 (M.err [x] : Nat)]) ∧ SM base w' s (M.pub [x]) ∧ Frm base w w' :=
  (spub_any (c := 1) hR (hS.on (below_alloc_ w (.cells (xS.v x) 65))) (by omega) (by omega) (xr_one w x n hn) hw (by decide)).mono fun e w' ⟨h1, h2, h3⟩ => ⟨h1, h2, Frm.off (below_alloc_ _ _) h3⟩
theorem run_bdr_at (w : World) (t : Nat) : (bdrh #[(0, .int .u8 4), (7, .int .u64 (t : Nat))]).run Tryz.prog w = .ok (.agg (rSh.v (D.br t))) w := by
  simp [bdrh, rv_eq, D.br, Instr.build, go_sem]

attribute [local go_sem ↓] Go.wp_at_zero Go.wp_at_succ ld_k lv_k st_k eq_k ne_k bd_k ld_b lv_b st_b eq_b ne_b bd_25 ld_r lv_r st_rk eq_rk ne_rk bd_r ld_p lv_p st_px bd_p Nm.ld_a Nm.ld_n Nm.st_a Nm.st_n Nm.eq_a Nm.eq_n Nm.ne_a Nm.ne_n Nm.lv_a Nm.lv_n ld_a ld_n st_a st_n eq_a eq_n ne_a ne_n lv_a lv_n ld_l lv_l st_l bd_l bd_n bs_k ld_v lv_v st_v ne_v bd_v bs_v ld_rh ld_d lv_rh lv_d st_r st_d ne_rh eq_rh ne_d bd_rh bd_d ld_x lv_x st_x bd_x bs_x ld_e lv_e st_e bd_e bs_e ne_e
attribute [local go_sem] run_ldk run_lvk run_stk run_eqk run_nek run_bdk_z run_ldb run_lvb run_stb run_eqb run_neb run_ldr run_lvr run_strk run_eqrk run_nerk run_bdr_z run_ldp run_lvp run_stpx Nm.run_ld_a Nm.run_ld_n Nm.run_st_n Nm.run_eq_a Nm.run_eq_n Nm.run_ne_a Nm.run_ne_n Nm.run_lv_a Nm.run_lv_n Nm.rd_new Nm.rd_old Nm.rd_drew Nm.rd_drewN run_ld_a run_ld_n run_sw_a run_sw_n run_eq_a run_eq_n run_ne_a run_ne_n run_lv_a run_lv_n st_z ne_z eq_z rd_new rd_old rd_drew rd_drewN Shp.rd_new Shp.rd_old Shp.rd_drew Shp.rd_drewN Shp.rd_set Shp.tn_new Shp.tn_old Shp.tn_drew Shp.tn_drewN tn_new tn_old tn_drew tn_drewN rd_set setRow_alloc run_stn3 run_stt15 run_lvl run_ldl run_stl run_bdl run_bdn run_bdn0 run_bsk Shp.rd_extk cell_ext run_ldv run_lvv run_stv run_nev run_bdv_z run_bdv_d run_bdv_r run_bsv1 run_bsv0 run_ldrh run_ldd run_lvrh run_lvd run_str run_std run_nerh run_eqrh run_ned run_bdr0 run_bdd0 run_bdr1 run_bdd1 run_bdd9 run_ldx run_lvx run_stx run_lde run_lve run_bde run_bse1 run_bdv_3 Shp.rd_extk cell_ext
attribute [local go_sem] run_bsx1 run_bdr_at run_bdk_b run_bdx_r
end Go.Proofs.YteiikacgcfidmaaGreatDoor
set_option linter.unusedVariables false
set_option linter.unusedSimpArgs false
set_option maxRecDepth 100000
namespace Go.Proofs.YteiikacgcfidmaaGreatDoor
namespace D
/-- The text of the key that comes as number i. -/
def ftx (i : Nat) : ByteArray := ⟨#[115, 47, (48 + i % 4).toUInt8, 47, 48, 47, 97, (97 + i / 4 % 10).toUInt8, (97 + i / 40).toUInt8]⟩
def fky (i : Nat) : Ky := (kparse (ftx i)).1
theorem ftx_ok : ∀ i < 220, (kparse (ftx i)).2 = 0 ∧ kright (fky i) = true ∧ (fky i).k = 5 := by decide +kernel
theorem fky_ne : ∀ i < 220, ∀ j < 220, i ≠ j → fky i ≠ fky j := by decide +kernel
end D
end Go.Proofs.YteiikacgcfidmaaGreatDoor
set_option linter.unusedVariables false
set_option linter.unusedSimpArgs false
set_option maxRecDepth 100000
namespace Go.Proofs.YteiikacgcfidmaaGreatDoor
namespace D
def frc : Rc := ⟨5, 0, 0, 0, 0, false, 1, 0, ⟨#[]⟩⟩
def fx (i : Nat) : Wt := ⟨fky i, false, frc⟩
def fxd : Wt := ⟨fky 0, true, zRc⟩
theorem fx_wg {i : Nat} (h : i < 220) : wwg (fx i) = 0 := by
  obtain ⟨_, h1, h3⟩ := ftx_ok i h
  have h1 : kright (fx i).k = true := h1
  have h2 : chk (fx i).r = 0 := by show chk frc = 0; decide +kernel
  have h3 : (fx i).k.k = 5 := h3
  unfold wwg
  rw [h1, h2, h3]
  simp [fx, frc]
theorem fxd_wg : wwg fxd = 0 := by
  have h1 : kright fxd.k = true := (ftx_ok 0 (by decide)).2.1
  unfold wwg
  rw [h1]
  simp [fxd]
theorem frc_wf : frc.wf := ⟨by decide, by decide, by decide, by decide, by decide, by decide, by decide⟩
theorem zrc_wf : zRc.wf := ⟨by decide, by decide, by decide, by decide, by decide, by decide, by decide⟩
theorem fx_wf (i : Nat) : ∀ x ∈ [fx i], x.r.wf := fun x hx => by
  simp at hx
  subst hx
  exact frc_wf
theorem fx2_wf : ∀ x ∈ [fxd, fx 200], x.r.wf := fun x hx => by
  simp at hx
  rcases hx with rfl | rfl
  · exact zrc_wf
  · exact frc_wf
theorem fx_sck {i : Nat} (h : i < 220) : sck [fx i] = 0 := by simp [sck, wck, fx_wg h]
theorem fx2_sck : sck [fxd, fx 200] = 0 := by
  have h1 := fxd_wg
  have h2 := fx_wg (i := 200) (by decide)
  have h3 : ¬ (fx 200).k = fxd.k := fun e => fky_ne 200 (by decide) 0 (by decide) (by decide) e
  simp [sck, wck, h1, h2, h3]
/-- The store behind i calls. -/
def fm : Nat → Sm
  | 0 => .zero
  | i + 1 => (fm i).pub [fx i]
/-- A store with so many keys, all alive. -/
structure Ful (M : Sm) (m : Nat) : Prop where
  wf : M.wf
  last : M.last = m
  live : M.live = m
  ks : M.ks.length ≤ m
  no : ∀ j, m ≤ j → j < 220 → M.f (fky j) = []
  yes : ∀ j, j < m → ∃ v, M.f (fky j) = [v] ∧ v.d = false
theorem Ful.zero : Ful .zero 0 := ⟨Sm.zero_wf, rfl, rfl, Nat.le_refl _, fun _ _ _ => rfl, fun j h => by omega⟩
theorem Ful.grw {M : Sm} {m i : Nat} (h : Ful M m) (hi : m ≤ i) (hi2 : i < 220) : grw M [fx i] = m + 1 := by
  rw [grw_eq, h.live]
  have : dlt M (fx i) = 1 := by
    unfold dlt
    rw [show M.f (fx i).k = [] from h.no i hi hi2]
    simp [lvn_nil, fx]
  simp [grs, this]
theorem Ful.ok {M : Sm} {m : Nat} (h : Ful M m) (hm : m < 200) : M.err [fx m] = 0 := by
  unfold Sm.err
  rw [fx_sck (by omega), h.grw (Nat.le_refl _) (by omega), if_neg (by simp), if_neg (by omega)]
theorem Ful.full {M : Sm} {i : Nat} (h : Ful M 200) (hi : 200 ≤ i) (hi2 : i < 220) : M.err [fx i] = 6 := by
  unfold Sm.err
  rw [fx_sck hi2, h.grw hi hi2, if_neg (by simp), if_pos (by omega)]
theorem Ful.next {M : Sm} {m : Nat} (h : Ful M m) (hm : m < 200) : Ful (M.pub [fx m]) (m + 1) := by
  have he := h.ok hm
  have hs := fx_sck (i := m) (by omega)
  have hp : M.pub [fx m] = M.app [fx m] := by unfold Sm.pub; rw [if_pos he]
  rw [hp]
  have hout : ∀ j, j < 220 → j ≠ m → (M.app [fx m]).f (fky j) = M.f (fky j) := fun j hj hne => Sm.puts_out [fx m] M.tick fun x hx => by
    simp at hx
    subst hx
    exact fky_ne m (by omega) j hj (fun e => hne e.symm)
  refine ⟨Sm.app_wf h.wf hs (fx_wf m) (by rw [h.last]; omega), by rw [Sm.app_last, h.last], ?_, ?_, fun j h1 h2 => ?_, fun j h1 => ?_⟩
  · have := Sm.app_live h.wf hs (fx_wf m) (by rw [h.last]; omega)
    rw [h.grw (Nat.le_refl _) (by omega)] at this
    omega
  · have := Sm.puts_len [fx m] M.tick
    have h2 : M.tick.ks = M.ks := rfl
    rw [h2] at this
    have h3 := h.ks
    show (M.tick.puts [fx m]).ks.length ≤ _
    simp only [List.length_cons, List.length_nil] at this
    omega
  · rw [hout j h2 (by omega)]
    exact h.no j (by omega) h2
  · by_cases e : j = m
    · subst e
      refine ⟨vof (fx j) (M.last + 1), ?_, rfl⟩
      have := Sm.app_in (M := M) hs (x := fx j) (by simp)
      rw [show M.f (fx j).k = [] from h.no j (Nat.le_refl _) (by omega)] at this
      exact this
    · rw [hout j (by omega) e]
      exact h.yes j (by omega)
theorem Ful.stay {M : Sm} {i : Nat} (h : Ful M 200) (hi : 200 ≤ i) (hi2 : i < 220) : M.pub [fx i] = M := by
  unfold Sm.pub
  rw [if_neg (by rw [h.full hi hi2]; decide)]
theorem fm_ful : ∀ i, i ≤ 220 → Ful (fm i) (min i 200)
  | 0, _ => Ful.zero
  | i + 1, h => by
    have ih := fm_ful i (by omega)
    by_cases hi : i < 200
    · rw [Nat.min_eq_left (by omega)] at ih
      rw [Nat.min_eq_left (by omega)]
      exact ih.next hi
    · rw [Nat.min_eq_right (by omega)] at ih
      rw [Nat.min_eq_right (by omega)]
      rw [fm, ih.stay (by omega) (by omega)]
      exact ih
theorem Ful.two {M : Sm} (h : Ful M 200) : M.err [fxd, fx 200] = 0 ∧ (M.pub [fxd, fx 200]).live = 200 := by
  have hg : D.grw M [fxd, fx 200] = 200 := by
    rw [grw_eq, h.live]
    obtain ⟨v, hv, hd⟩ := h.yes 0 (by decide)
    have h1 : dlt M fxd = -1 := by
      unfold dlt
      rw [show M.f fxd.k = [v] from hv]
      simp [lvn, hd, fxd]
    have h2 : dlt M (fx 200) = 1 := by
      unfold dlt
      rw [show M.f (fx 200).k = [] from h.no 200 (Nat.le_refl _) (by decide)]
      simp [lvn_nil, fx]
    simp [grs, h1, h2]
  have he : M.err [fxd, fx 200] = 0 := by
    unfold Sm.err
    rw [fx2_sck, hg, if_neg (by simp), if_neg (by decide)]
  refine ⟨he, ?_⟩
  have := Sm.app_live h.wf fx2_sck fx2_wf (by rw [h.last]; decide)
  rw [hg] at this
  have hp : M.pub [fxd, fx 200] = M.app [fxd, fx 200] := by unfold Sm.pub; rw [if_pos he]
  rw [hp]
  omega
end D
end Go.Proofs.YteiikacgcfidmaaGreatDoor
