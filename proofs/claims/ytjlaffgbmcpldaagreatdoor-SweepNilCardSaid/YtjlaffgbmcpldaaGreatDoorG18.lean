/-
  
-/
import Derived.Test.YtjlaffgbmcpldaaGreatDoorG17
import Derived.Laws.ResultCell
import Derived.Test.YtjlaffgbmcpldaaGreatDoorG12
import Derived.Deep.Slices
import Derived.Test.YtjlaffgbmcpldaaGreatDoorG10
import Derived.Test.YtjlaffgbmcpldaaGreatDoorG13
import Derived.Test.YtjlaffgbmcpldaaGreatDoorGow
set_option linter.unusedVariables false
set_option linter.unusedSimpArgs false
set_option maxRecDepth 100000
namespace Go.Proofs.YtjlaffgbmcpldaaGreatDoor
open Go.RowKit
theorem vv_0 (x : D.Vn) : (vS.v x)[0]? = some (.int .u64 (x.a : Nat)) := rfl
theorem vv_1 (x : D.Vn) : (vS.v x)[1]? = some (.bool x.d) := rfl
theorem wv_0 (x : D.Vn) : (wS.v x)[0]? = some (.int .u64 (x.a : Nat)) := rfl
theorem wv_1 (x : D.Vn) : (wS.v x)[1]? = some (.bool x.d) := rfl
theorem run_fdv0 (w : World) (x : D.Vn) : (Instr.field 194 (.agg (vS.v x)) 0).run Tryz.prog w = .ok (.int .u64 (x.a : Nat)) w := by
 simp [vv_eq, Instr.field, asAgg, go_sem]
theorem run_fdv1 (w : World) (x : D.Vn) : (Instr.field 194 (.agg (vS.v x)) 1).run Tryz.prog w = .ok (.bool x.d) w := by
 simp [vv_eq, Instr.field, asAgg, go_sem]
attribute [local go_sem ↓] Go.wp_at_zero Go.wp_at_succ ld_v lv_v st_v ne_v bd_v bs_v ld_w lv_w st_w ne_w bd_w bs_w ld_rh ld_d lv_rh lv_d st_r st_d ne_rh eq_rh ne_d bd_rh bd_d
attribute [local go_sem] run_ldv run_lvv run_stv run_nev run_bdv_z run_bdv_d run_bdv_r run_bsv1 run_bsv0 run_ldw run_lvw run_stw run_new run_bdw_3 run_bsw1 run_bsw0 run_ldrh run_ldd run_lvrh run_lvd run_str run_std run_nerh run_eqrh run_ned run_bdr0 run_bdd0 run_bdr1 run_bdd1 run_bdd9 Shp.rd_new Shp.rd_old Shp.rd_drew Shp.rd_drewN Shp.rd_set Shp.tn_new Shp.tn_old Shp.tn_drew Shp.tn_drewN setRow_alloc vv_0 vv_1 wv_0 wv_1 run_fdv0 run_fdv1 Shp.rd_extk cell_ext
def D.liv (l : List D.Vn) : Bool := match l.getLast? with
 | none => false
 | some v => !v.d
theorem D.liv_seen {l : List D.Vn} (h : D.Srt l) {t : Nat} (ht : D.nwt l ≤ t) : (!(D.seen l t).d) = D.liv l := by
 rw [D.seen_late h ht, D.liv]
 cases l.getLast? <;> rfl
theorem D.nwt_top {l : List D.Vn} (h : ∀ v ∈ l, v.wf) : D.nwt l ≤ 18446744073709551615 := by
 rw [D.nwt]
 cases hl : l.getLast? with
 | none => exact Nat.zero_le _
 | some v => have := (h v (List.mem_of_getLast? hl)).a; simp only; omega
section
variable {w : World} {p A : Option Addr} {n c : Nat} {l : List D.Vn}
theorem seen_top (h : Al w p A n c l) : Calls Tryz.prog 114 #[.pointer p, .int .u64 18446744073709551615] w fun e w' => e = .returned (.agg (vS.v (D.seen l 18446744073709551615))) ∧ Below w.heap.size w w' := seen_any h 18446744073709551615
theorem newest_any (h : Al w p A n c l) (hw : ∀ v ∈ l, v.wf) : Calls Tryz.prog 81 #[.pointer p] w fun e w' => e = .returned (.int .u64 (D.nwt l : Nat)) ∧ Below w.heap.size w w' := by
 have CS := Lib.hid (seen_top h)
 have HE := Lib.hid (D.nwt_seen h.srt (D.nwt_top hw))
 clear h
 go_enter Tryz.func81, Tryz.ntmps81
 go_wp2_with (go_at_call 114; (with_reducible refine CS.out.mono ?_); rintro e w1 ⟨rfl, b1⟩)
 go_ret
 exact ⟨by rw [← HE.out]; rfl, b1⟩
theorem live_any (h : Al w p A n c l) (hw : ∀ v ∈ l, v.wf) : Calls Tryz.prog 91 #[.pointer p] w fun e w' => e = .returned (.bool (D.liv l)) ∧ Below w.heap.size w w' := by
 have CS := Lib.hid (seen_top h)
 have HE := Lib.hid (D.liv_seen h.srt (D.nwt_top hw))
 clear h
 go_enter Tryz.func91, Tryz.ntmps91
 go_wp2_with (go_at_call 114; (with_reducible refine CS.out.mono ?_); rintro e w1 ⟨rfl, b1⟩)
 go_ret
 exact ⟨by rw [← HE.out]; rfl, b1⟩
theorem len_anyh (h : Al w p A n c l) : Calls Tryz.prog 74 #[.pointer p] w fun e w' => e = .returned (.int .i64 (n : Nat)) ∧ Below w.heap.size w w' := by
 have CA := Lib.hid (h.all w (Below.refl _ _))
 clear h
 go_enter Tryz.func74, Tryz.ntmps74
 go_wp2_with (go_at_call 110; (with_reducible refine CA.out.mono ?_); rintro e w1 ⟨rfl, rfl⟩)
 go_ret
 exact ⟨rfl, Below.refl _ _⟩
theorem ver_info : (Tryz.prog.info? 194).map (fun i => (i.zero, i.size, i.bytes)) = some (some (.agg (vS.v D.zVn)), 11, 56) := by kernel_rfl
theorem ow_vrow {T : TypeId} {base n c : Nat} {A : Option Addr} {W : World} (h : Ow T 11 base W A n c (vS.rcs l)) : Shp.Row vS W A n l := Shp.Own.to_row (S := vS) (base := base) (e := T) (c := c) ⟨h.row, h.base⟩
end
set_option maxHeartbeats 2000000 in
theorem weigh_any (v : D.Vn) (w : World) (hw : v.wf) : Calls Tryz.prog 123 #[.agg (vS.v v)] w fun e w' => e = .returned (.int .i64 (D.wgh v : Nat)) ∧ Below w.heap.size w w' := by
 have q0 := Shp.rd_new (S := vS) w w.heap.size 194 v rfl
 obtain ⟨q1, q2, q3, -⟩ := vf q0
 have b0 := below_alloc_ w (.cells (vS.v v) 194)
 by_cases hd : v.d = true
 ·by_cases hr : v.r = D.zRc
  ·have e : D.wgh v = 0 := by simp [D.wgh, hd, hr]
   have hv : v = D.dd v.a := by obtain ⟨a, d, r⟩ := v; simp only at hd hr; subst hd hr; rfl
   have hde : decide (v = D.dd v.a) = true := decide_eq_true hv
   rw [e]
   rw [hd] at q2
   clear hv
   go_enter Tryz.func123, Tryz.ntmps123
   go_wp2
   go_ret
   exact ⟨rfl, b0⟩
  ·have e : D.wgh v = 3 := by simp [D.wgh, hd, hr]
   have hde : decide (v = D.dd v.a) = false := decide_eq_false fun h => hr (by rw [h]; rfl)
   rw [e]
   rw [hd] at q2
   go_enter Tryz.func123, Tryz.ntmps123
   go_wp2
   go_ret
   exact ⟨rfl, b0⟩
 ·have e : D.wgh v = D.chk v.r := by simp [D.wgh, hd]
  have hd : v.d = false := by simpa using hd
  have CC := Lib.hid (fun W => check_any v.r W hw.r)
  rw [e]
  rw [hd] at q2
  go_enter Tryz.func123, Tryz.ntmps123
  go_wp2_with (go_at_call 83; (with_reducible refine (CC.out _).mono ?_); rintro e w1 ⟨rfl, b1⟩)
  go_ret
  exact ⟨rfl, below_up b0 b0.size b1⟩
end Go.Proofs.YtjlaffgbmcpldaaGreatDoor
namespace Go.Proofs.YtjlaffgbmcpldaaGreatDoor
namespace D

theorem Srt.tl {v : Vn} {l : List Vn} (h : Srt (v :: l)) : Srt l := h.sub (List.sublist_cons_self v l)
theorem Srt.hd {v : Vn} {l : List Vn} (h : Srt (v :: l)) : ∀ w ∈ l, v.a < w.a := fun w hw => (List.pairwise_cons.1 h.up).1 w hw
theorem cnt_zero {l : List Vn} {t : Nat} (h : ∀ w ∈ l, t < w.a) : cnt l t = 0 := by
 rw [cnt, List.countP_eq_zero]
 intro w hw
 have := h w hw
 simp
 omega
theorem seen_lo {v : Vn} {l : List Vn} (h : Srt (v :: l)) {t : Nat} (ht : t < v.a) : seen (v :: l) t = dd 0 := by
 refine seen_0 (cnt_zero fun w hw => ?_)
 rcases List.mem_cons.1 hw with rfl | hw
 ·exact ht
 ·have := h.hd w hw; omega
theorem seen_hi {v : Vn} {l : List Vn} {t : Nat} (ht : v.a ≤ t) : seen (v :: l) t = if cnt l t = 0 then v else seen l t := by
 have hc : cnt (v :: l) t = cnt l t + 1 := by
  rw [cnt, cnt, List.countP_cons_of_pos (by simpa using ht)]
 rw [seen, hc, if_neg (by omega)]
 by_cases h0 : cnt l t = 0
 ·rw [if_pos h0, h0]; rfl
 ·rw [if_neg h0, seen, if_neg h0]
  obtain ⟨k, hk⟩ : ∃ k, cnt l t = k + 1 := ⟨cnt l t - 1, by omega⟩
  rw [hk]; rfl
theorem seen_a0 {l : List Vn} (h : Srt l) {t : Nat} : cnt l t = 0 ↔ (seen l t).a = 0 := by
 constructor
 ·intro h0; rw [seen_0 h0]; rfl
 ·intro h0
  by_cases hc : cnt l t = 0
  ·exact hc
  ·obtain ⟨v, _, e, hm⟩ := seen_mem hc
   have := h.one v hm
   rw [e] at h0
   omega
theorem Srt.ned {l : List Vn} (h : Srt l) (ps : List Nat) : Srt (ned ps l) := h.sub (ned_sub ps l)
theorem seen_ned {ps : List Nat} {p : Nat} (hp : p ∈ ps) : ∀ {l : List Vn}, Srt l → seen (ned ps l) p = seen l p
 | [], _ => rfl
 | [v], _ => rfl
 | v :: w :: l, h => by
  have ih := seen_ned hp h.tl
  have hvw := h.hd w (List.mem_cons_self ..)
  rw [ned]
  by_cases hpin : pin ps v.a w.a = true
  ·rw [if_pos hpin]
   rcases Nat.lt_or_ge p v.a with hlt | hge
   ·rw [seen_lo h hlt]
    have h2 : Srt (v :: ned ps (w :: l)) := h.sub ((ned_sub ps (w :: l)).cons_cons v)
    rw [seen_lo h2 hlt]
   ·rw [seen_hi hge, seen_hi hge, ih]
    have e1 := seen_a0 (t := p) (h.tl.ned ps)
    have e2 := seen_a0 (t := p) h.tl
    rw [ih, ← e2] at e1
    by_cases h0 : cnt (w :: l) p = 0
    ·rw [if_pos h0, if_pos (e1.2 h0)]
    ·rw [if_neg h0, if_neg (fun h1 => h0 (e1.1 h1))]
  ·rw [if_neg hpin, ih]
   rcases Nat.lt_or_ge p v.a with hlt | hge
   ·rw [seen_lo h hlt, seen_lo h.tl (by omega)]
   ·have hw : w.a ≤ p := by
     rcases Nat.lt_or_ge p w.a with h1 | h1
     ·exact absurd (pin_iff.2 ⟨p, hp, hge, h1⟩) hpin
     ·exact h1
    rw [seen_hi hge, if_neg]
    rw [seen_a0 h.tl]
    rw [seen_hi hw]
    split
    ·have := h.one w (by simp); omega
    ·rename_i h0
     rw [seen_a0 h.tl.tl] at h0
     exact h0
theorem trm_is {l : List Vn} (h : Srt l) (ps : List Nat) : trm ps l = ned ps l ∨ ∃ u rest, ned ps l = u :: rest ∧ trm ps l = rest ∧ u.d = true ∧ u.r = zRc ∧ u ∈ l ∧ kep ps u = false ∧ ∀ p ∈ ps, u.a ≤ p := by
 unfold trm
 cases hn : ned ps l with
 | nil => exact .inl rfl
 | cons u rest =>
  have hr := ned_pin ps h.up u rest hn
  have hf : rest.filter (kep ps) = rest := List.filter_eq_self.2 fun x hx => by simp [kep, hr x hx]
  have hu : u ∈ l := (ned_sub ps l).subset (by rw [hn]; exact List.mem_cons_self ..)
  rw [List.filter_cons, hf]
  cases hk : kep ps u with
  | true => exact .inl rfl
  | false =>
   have hk2 := hk
   simp [kep] at hk2
   refine .inr ⟨u, rest, rfl, rfl, hk2.1, dead_rec (h.ok u hu) hk2.1, hu, hk, fun p hp => ?_⟩
   rcases Nat.lt_or_ge p u.a with h1 | h1
   ·have := pin_iff.2 ⟨p, hp, Nat.zero_le _, h1⟩
    rw [hk2.2] at this; cases this
   ·exact h1
theorem trm_seen {l : List Vn} (h : Srt l) {ps : List Nat} {p : Nat} (hp : p ∈ ps) : (seen (trm ps l) p).d = (seen l p).d ∧ (seen (trm ps l) p).r = (seen l p).r := by
 rw [← seen_ned hp h]
 rcases trm_is h ps with e | ⟨u, rest, e, e2, hd, hr, _, _, hq⟩
 ·rw [e]; exact ⟨rfl, rfl⟩
 ·rw [e, e2, seen_hi (hq p hp)]
  by_cases h0 : cnt rest p = 0
  ·rw [if_pos h0, seen_0 h0]; exact ⟨hd.symm, hr.symm⟩
  ·rw [if_neg h0]; exact ⟨rfl, rfl⟩
theorem nwt_ned (ps : List Nat) (l : List Vn) : nwt (ned ps l) = nwt l := by rw [nwt, nwt, ned_last]
theorem liv_ned (ps : List Nat) (l : List Vn) : liv (ned ps l) = liv l := by rw [liv, liv, ned_last]
theorem trm_nwt {l : List Vn} (h : Srt l) (ps : List Nat) : (trm ps l = [] ∧ ∀ p ∈ ps, nwt l ≤ p) ∨ nwt (trm ps l) = nwt l := by
 rcases trm_is h ps with e | ⟨u, rest, e, e2, hd, hr, _, _, hq⟩
 ·right; rw [e, nwt_ned]
 ·rw [e2, ← nwt_ned ps l, e]
  cases rest with
  | nil => left; exact ⟨rfl, fun p hp => hq p hp⟩
  | cons x r => right; simp [nwt, List.getLast?_cons_cons]
theorem trm_above {l : List Vn} (h : Srt l) {ps : List Nat} {p : Nat} (hp : p ∈ ps) : p < nwt (trm ps l) ↔ p < nwt l := by
 rcases trm_nwt h ps with ⟨e, hq⟩ | e
 ·rw [e, nwt_nil]; have := hq p hp; omega
 ·rw [e]
theorem trm_liv {l : List Vn} (h : Srt l) (ps : List Nat) : liv (trm ps l) = liv l := by
 rcases trm_is h ps with e | ⟨u, rest, e, e2, hd, hr, _, _, hq⟩
 ·rw [e, liv_ned]
 ·rw [e2, ← liv_ned ps l, e]
  cases rest with
  | nil => simp [liv, hd]
  | cons x r => simp [liv, List.getLast?_cons_cons]
theorem nwt_trm_le {l : List Vn} (h : Srt l) (ps : List Nat) : nwt (trm ps l) ≤ nwt l := by
 rcases trm_nwt h ps with ⟨e, hq⟩ | e
 ·rw [e, nwt_nil]; exact Nat.zero_le _
 ·omega
theorem trm_late {l : List Vn} (h : Srt l) (ps : List Nat) {t : Nat} (ht : nwt l ≤ t) : (seen (trm ps l) t).d = (seen l t).d ∧ (seen (trm ps l) t).r = (seen l t).r := by
 rw [seen_late (h.trm ps) (Nat.le_trans (nwt_trm_le h ps) ht), seen_late h ht]
 rcases trm_is h ps with e | ⟨u, rest, e, e2, hd, hr, _, _, hq⟩
 ·rw [e, ned_last]; exact ⟨rfl, rfl⟩
 ·rw [e2, ← ned_last ps l, e]
  cases rest with
  | nil => exact ⟨hd.symm, hr.symm⟩
  | cons x r => rw [List.getLast?_cons_cons]; exact ⟨rfl, rfl⟩
end D
end Go.Proofs.YtjlaffgbmcpldaaGreatDoor
namespace Go.Proofs.YtjlaffgbmcpldaaGreatDoor
open Go.RowKit
attribute [local go_sem ↓] Go.wp_at_zero Go.wp_at_succ ld_v lv_v st_v ne_v bd_v bs_v ld_w lv_w st_w ne_w bd_w bs_w ld_rh ld_d lv_rh lv_d st_r st_d ne_rh eq_rh ne_d bd_rh bd_d
attribute [local go_sem] run_ldv run_lvv run_stv run_nev run_bdv_z run_bdv_d run_bdv_r run_bsv1 run_bsv0 run_ldw run_lvw run_stw run_new run_bdw_3 run_bsw1 run_bsw0 run_ldrh run_ldd run_lvrh run_lvd run_str run_std run_nerh run_eqrh run_ned run_bdr0 run_bdd0 run_bdr1 run_bdd1 run_bdd9 Shp.rd_new Shp.rd_old Shp.rd_drew Shp.rd_drewN Shp.rd_set Shp.tn_new Shp.tn_old Shp.tn_drew Shp.tn_drewN setRow_alloc vv_0 vv_1 wv_0 wv_1 run_fdv0 run_fdv1 Shp.rd_extk cell_ext
structure Cn (base : Nat) (w : World) (g : Nat) (A : Option Addr) (c : Nat) (l : List D.Vn) : Prop where
 blk : Blk w g 189 #[.slice A l.length c]
 own : Ow 194 11 base w A l.length c (vS.rcs l)
 gb : base ≤ g
 srt : D.Srt l
 wf : ∀ v ∈ l, v.wf
 le : l.length ≤ 1000
theorem Cn.al {base g c : Nat} {w : World} {A : Option Addr} {l : List D.Vn} (h : Cn base w g A c l) : Al w (some ⟨g, 0, none⟩) A l.length c l := Al.of h.blk.cell (ow_vrow h.own) h.srt (by have := h.le; omega)
theorem Cn.on {base g c : Nat} {w w' : World} {A : Option Addr} {l : List D.Vn} (h : Cn base w g A c l) (hb : Below w.heap.size w w') : Cn base w' g A c l := ⟨h.blk.on hb, h.own.on hb, h.gb, h.srt, h.wf, h.le⟩
theorem Cn.only {S : Nat → Prop} {base g c : Nat} {w w' : World} {A : Option Addr} {l : List D.Vn} (h : Cn base w g A c l) (k : Only S w w') (hg : ¬ S g) (hA : ∀ i, at_ A i → ¬ S i) : Cn base w' g A c l :=
 ⟨h.blk.only k hg, h.own.kept k.size fun q hq => k.block q (h.own.lt q hq).2 (hA q (own_at hq)), h.gb, h.srt, h.wf, h.le⟩
theorem Cn.lt {base g c : Nat} {w : World} {A : Option Addr} {l : List D.Vn} (h : Cn base w g A c l) : ∀ i, at_ A i → i < w.heap.size ∨ l.length = 0 := by
 intro i hi
 rcases Nat.eq_zero_or_pos l.length with h0 | h0
 ·exact .inr h0
 ·refine .inl ?_
  obtain ⟨ad, e, hl, _⟩ := (ow_vrow h.own).tow h0
  obtain ⟨ad', e', hb⟩ := hi
  rw [e] at e'; injection e' with e'; subst e'
  omega
theorem ow_at {T : TypeId} {sz base n c i : Nat} {w : World} {A : Option Addr} {xs : List Value} (h : Ow T sz base w A n c xs) (hi : at_ A i) : (Value.slice A n c).ownBlock = some i ∧ base ≤ i ∧ i < w.heap.size := by
 obtain ⟨ad, rfl, rfl⟩ := hi
 rcases h.row.2 with ⟨e, _⟩ | ⟨g2, cap, cur, e, _, hh, _⟩
 ·cases e
 ·injection e with e1 e2 e3
  injection e1 with e1
  subst e1
  have hk : (Value.slice (some ⟨g2, 0, none⟩) n c).ownBlock = some g2 := rfl
  exact ⟨hk, h.row.lt g2 hk⟩
theorem ow_block {T : TypeId} {sz base n c i : Nat} {w : World} {A : Option Addr} {xs : List Value} (h : Ow T sz base w A n c xs) (hi : at_ A i) : ∃ cs, w.heap[i]? = some (Obj.cells cs T (0, 0)) := by
 obtain ⟨ad, rfl, rfl⟩ := hi
 rcases h.row.2 with ⟨e, _⟩ | ⟨g2, cap, cur, e, _, hh, _⟩
 ·cases e
 ·injection e with e1 e2 e3
  injection e1 with e1
  subst e1
  exact ⟨_, hh⟩
theorem Cn.ne {base g c : Nat} {w : World} {A : Option Addr} {l : List D.Vn} (h : Cn base w g A c l) : ¬ at_ A g := fun hg => by
 obtain ⟨cs, e⟩ := ow_block h.own hg
 have := e.symm.trans h.blk.out
 injection this with this
 injection this with _ h2
 exact absurd h2 (by decide)
def Putd (base g : Nat) (A : Option Addr) (w : World) (l : List D.Vn) (w' : World) : Prop := ∃ A' c', Cn base w' g A' c' l ∧ Only (fun i => i = g ∨ at_ A i) w w' ∧ Nx w.heap.size A A'
theorem wp_gapp {T T' : TypeId} {z : Value} {sz by_ : Nat} (w : World) (hu : Tryz.prog.underlying T' = some (.slice T)) (hi : (Tryz.prog.info? T).map (fun i => (i.zero, i.size, i.bytes)) = some (some z, sz, by_)) (hz : z.cells.size = sz) (hs : 0 < sz) (hby : by_ ≤ 1000)
  {o : Oper} {a : Act} {K : Act → World → Prop} {Q : Exit → Act → World → Prop} (s x : Operand)
  (hop : o.op = .call { callee := .builtin .append, args := #[s, x], argTypes := #[T', T'] })
  {base : Nat} {A B : Option Addr} {n c m d : Nat} {l k : List Value} (hes : a.eval s = .slice A n c) (ho : Ow T sz base w A n c l) (hx : a.eval x = .slice B m d) (hr : Rw sz w B m k) (h1 : ∀ u ∈ k, u.oneCell' = true) (h63 : n + m ≤ 1000000)
  (h : ∀ A' c' w', Ow T sz base w' A' (n + m) c' (l ++ k) → w.grownBy w' (Value.slice A n c).ownBlock → ((Value.slice A' (n + m) c').ownBlock = (Value.slice A n c).ownBlock ∨ (Value.slice A' (n + m) c').ownBlock = some w.heap.size) → K (a.put o.dst (.slice A' (n + m) c')) w') : o.wp Tryz.prog a w K Q := by
 obtain ⟨A', c', w', hrun, h2, h3, h4⟩ := run_gapp w hu hi hz hs o.type ho hr h1 h63 hby (d := d)
 unfold Oper.wp execOp
 simp only [hop, resolve, invoke, builtin, Sem.run_bind, Sem.run_pure, Result.andThen_ok, List.map_toArray, List.map_cons, List.map_nil, hes, hx, hrun]
 exact h A' c' w' h2 h3 h4
theorem rcs_snoc {α : Type} (S : Shp α) (l : List α) (x : α) : S.rcs (l ++ [x]) = S.rcs l ++ S.cs x := by rw [Shp.rcs_app]; simp [Shp.rcs]
theorem Cn.app {base g c c5 : Nat} {w w6 : World} {A A5 : Option Addr} {l : List D.Vn} {v : D.Vn} (h : Cn base w g A c l) (hl : l.length < 1000) (hs : D.Srt (l ++ [v])) (hv : v.wf) (ho : Ow 194 11 base w6 A5 (l.length + 1) c5 (vS.rcs l ++ vS.cs v)) (hg : w.grownBy w6 (Value.slice A l.length c).ownBlock) :
  Cn base (w6.setCell ⟨g, 0, none⟩ (.slice A5 (l.length + 1) c5)) g A5 c5 (l ++ [v]) := by
 have hne : ∀ i, at_ A i → i ≠ g := fun i hi e => h.ne (by rw [← e]; exact hi)
 have hb6 : Blk w6 g 189 #[.slice A l.length c] := ⟨(hg.block g h.blk.lt fun e => by
  obtain ⟨q1, _⟩ := own_at e.symm
  exact hne _ (own_at e.symm) rfl).trans h.blk.out⟩
 have hlen : (l ++ [v]).length = l.length + 1 := by simp
 refine ⟨by rw [hlen]; exact hb6.set_ _, ?_, h.gb, hs, fun u hu => ?_, by rw [hlen]; omega⟩
 ·rw [hlen, rcs_snoc]
  have hne5 : (Value.slice A5 (l.length + 1) c5).ownBlock ≠ some g := fun e => by
   obtain ⟨cs, e2⟩ := ow_block ho (own_at e)
   have := e2.symm.trans hb6.out
   injection this with this
   injection this with _ h2
   exact absurd h2 (by decide)
  exact ho.kept (by simp [World.setCell]) fun q hq => Below.heap_setCell _ _ _ _ (fun e => hne5 (by rw [hq]; exact congrArg some e))
 ·rcases List.mem_append.1 hu with hu | hu
  ·exact h.wf u hu
  ·simp at hu; subst hu; exact hv
theorem take_snoc {α : Type} {l k l1 : List α} {j : Nat} {v : α} (h : k[j]? = some v) (e : l ++ k.take j = l1) : l ++ k.take (j + 1) = l1 ++ [v] := by
 rw [List.take_add_one, h, ← e, List.append_assoc]; rfl
theorem puts_next {l vs l1 : List D.Vn} {j : Nat} {v : D.Vn} (h : vs[j]? = some v) (hp : D.per l1 v = 0) (H : D.puts l vs = ((D.puts l1 (vs.drop j)).1, (D.puts l1 (vs.drop j)).2.1 + j, (D.puts l1 (vs.drop j)).2.2)) :
  D.puts l vs = ((D.puts (l1 ++ [v]) (vs.drop (j + 1))).1, (D.puts (l1 ++ [v]) (vs.drop (j + 1))).2.1 + (j + 1), (D.puts (l1 ++ [v]) (vs.drop (j + 1))).2.2) := by
 obtain ⟨hj, rfl⟩ := List.getElem?_eq_some_iff.1 h
 have e1 : vs.drop j = vs[j] :: vs.drop (j + 1) := (List.drop_eq_getElem_cons hj)
 rw [H, e1, D.puts_cons_ok hp]
 simp only [Prod.mk.injEq, true_and, and_true]
 omega
theorem puts_bad {l vs l1 : List D.Vn} {j : Nat} {v : D.Vn} (h : vs[j]? = some v) (hp : D.per l1 v ≠ 0) (H : D.puts l vs = ((D.puts l1 (vs.drop j)).1, (D.puts l1 (vs.drop j)).2.1 + j, (D.puts l1 (vs.drop j)).2.2)) :
  D.puts l vs = (l1, j, D.per l1 v) := by
 obtain ⟨hj, rfl⟩ := List.getElem?_eq_some_iff.1 h
 rw [H, List.drop_eq_getElem_cons hj, D.puts_cons_bad hp]
 simp
theorem puts_end {l vs l1 : List D.Vn} {j : Nat} (h : j = vs.length) (e : l ++ vs.take j = l1) (H : D.puts l vs = ((D.puts l1 (vs.drop j)).1, (D.puts l1 (vs.drop j)).2.1 + j, (D.puts l1 (vs.drop j)).2.2)) :
  D.puts l vs = (l1, vs.length, 0) := by
 subst h
 rw [H, List.drop_length, D.puts]
 simp
set_option maxHeartbeats 4000000 in
theorem put_anyh {base g c m d : Nat} {w : World} {A B : Option Addr} {l vs : List D.Vn} (h : Cn base w g A c l) (hr : Shp.Row vS w B m vs) (hB : ∀ ad, B = some ad → 0 < m → ad.block ≠ g ∧ ¬ at_ A ad.block) (hw : ∀ v ∈ vs, v.wf) (hm : l.length + m ≤ 1000) :
  Calls Tryz.prog 94 #[.pointer (some ⟨g, 0, none⟩), .slice B m d] w fun e w' => e = .returned (.tuple #[.int .i64 ((D.puts l vs).2.1 : Nat), .int .i64 ((D.puts l vs).2.2 : Nat)]) ∧ Putd base g A w (D.puts l vs).1 w' := by
 have HW := Lib.hid hw
 have HR := Lib.hid hr
 have HB := Lib.hid hB
 have hlen := hr.len
 have HH := Lib.hid h
 clear hw hr hB h
 go_enter Tryz.func94, Tryz.ntmps94
 go_wp2_with fail
 go_loopw [13] (fun i wr => ∃ (j : Nat) (A' : Option Addr) (c' : Nat) (l1 : List D.Vn), j ≤ m ∧ i = .int .i64 j ∧ Kept (l ++ vs.take j = l1) ∧ Cn base wr g A' c' l1 ∧ Only (fun i => i = g ∨ at_ A i) w wr ∧ Nx w.heap.size A A' ∧ Kept (D.puts l vs = ((D.puts l1 (vs.drop j)).1, (D.puts l1 (vs.drop j)).2.1 + j, (D.puts l1 (vs.drop j)).2.2))) (fun i _ => m - (intOf i).toNat)
 case atStart => exact ⟨0, A, c, l, Nat.zero_le _, rfl, ⟨by simp⟩, HH.out, Only.self _ _, Nx.self _ _, ⟨by simp⟩⟩
 case round =>
  obtain ⟨j, A1, c1, l1, hj, rfl, HL, hC, hO, hN, HP⟩ := hrel
  have hl1n : Kept (l1.length = l.length + j) := ⟨by rw [← HL.out, List.length_append, List.length_take]; omega⟩
  have HC := Lib.hid hC
  have HO := Lib.hid hO
  have HN := Lib.hid hN
  clear hC hO hN
  by_cases hlt : j < m
  ·obtain ⟨v, hv⟩ : ∃ v, vs[j]? = some v := ⟨_, List.getElem?_eq_getElem (by omega)⟩
   have hvw := HW.out v (List.mem_of_getElem? hv)
   have HV := Lib.hid hv
   have hR1 : Shp.Row vS wr B m vs := HR.out.kept HO.out.size fun ad e => HO.out.block _ (by
    obtain ⟨ad', e', hl, _⟩ := HR.out.tow (by omega)
    rw [e] at e'; injection e' with e'; subst e'; exact hl) (by
    obtain ⟨h1, h2⟩ := HB.out ad e (by omega)
    rintro (h | h)
    ·exact h1 h
    ·exact h2 h)
   obtain ⟨ad, hBe, hal, hrd⟩ := hR1.rd hv
   subst hBe
   have hrd : vS.rd wr (ad.add (j * 11)) = some v := hrd
   have i0 : (0 : Int) ≤ (j : Int) := by omega
   have i1 : (j : Int) < (m : Int) := by omega
   obtain ⟨gv, hgv⟩ : ∃ gv, wr.heap.size = gv := ⟨_, rfl⟩
   obtain ⟨W1, hW1⟩ : ∃ W1, wr.alloc (.cells (vS.v v) 194) = W1 := ⟨_, rfl⟩
   have b1 : Below wr.heap.size wr W1 := by rw [← hW1]; exact below_alloc_ _ _
   have r1 : vS.rd W1 ⟨gv, 0, none⟩ = some v := by rw [← hW1, ← hgv]; exact Shp.rd_new _ _ _ _ rfl
   have CW := Lib.hid (weigh_any v W1 hvw)
   have C1 := Lib.hid (HC.out.on b1)
   have HVW := Lib.hid hvw
   clear hR1 hv hvw
   by_cases h0 : D.wgh v = 0
   ·rw [h0] at CW
    have HG := Lib.hid h0
    clear h0
    go_wp2_with (go_at_call 123; (with_reducible refine CW.out.mono ?_); rintro e w2 ⟨rfl, b2⟩)
    have C2 := Lib.hid (C1.out.on b2)
    have r2 := Shp.rd_on r1 b2
    have lt2 := Shp.rd_lt r2
    obtain ⟨q1, -, -, -⟩ := vf r2
    have CN := Lib.hid (fun o : On => newest_any (C2.out.on (ext_below w2 o)).al C2.out.wf)
    have CN : Hid (∀ o : On, Calls Tryz.prog 81 #[.pointer (some ⟨g, 0, none⟩)] (ext w2 o) fun e w' => e = .returned (.int .u64 (D.nwt l1 : Nat)) ∧ Below (ext w2 o).heap.size (ext w2 o) w') := CN
    refine wp_region_ext (by kernel_rfl) (by kernel_rfl) ?_
    repeat (go_big_quiet_step ((go_at_call 81; with_reducible exact calls_ext (CN.out _))))
    refine wpQuiet_nil ?_
    intro w3 hw3
    have b3 := ext_to hw3
    clear hw3 q1 lt2 CN
    have C3 := Lib.hid (C2.out.on b3)
    have r3 := Shp.rd_on r2 b3
    have hO3 := Lib.hid (((HO.out.on b1).on b2).on b3)
    have hn3 : Kept (wr.heap.size ≤ w3.heap.size) := ⟨Nat.le_trans b1.size (Nat.le_trans b2.size b3.size)⟩
    have hggv : Kept (g ≠ gv) := ⟨by have := HC.out.blk.lt; omega⟩
    have gv3 : Kept (∀ i, at_ A1 i → i ≠ gv) := ⟨fun i hi e => by
     have := (ow_at HC.out.own hi).2.2
     omega⟩
    clear r1 r2 b1 b2 b3
    by_cases h1 : v.a ≤ D.nwt l1
    ·have hper : D.per l1 v = 21 := by rw [D.per, if_neg (by simp [HG.out]), if_pos h1]
     have HE := Lib.hid (puts_bad HV.out (by rw [hper]; decide) HP.out)
     rw [hper] at HE
     have h1i : (v.a : Int) ≤ (D.nwt l1 : Int) := by omega
     clear h1 hper
     go_wp2
     go_ret2
     exact ⟨by rw [HE.out]; rfl, A1, c1, by rw [HE.out]; exact C3.out, hO3.out, HN.out⟩
    ·have hper : D.per l1 v = 0 := by rw [D.per, if_neg (by simp [HG.out]), if_neg h1]
     have HE := Lib.hid (puts_next HV.out hper HP.out)
     have HSS := Lib.hid (C3.out.srt.snoc hper)
     have h1i : ¬ ((v.a : Int) ≤ (D.nwt l1 : Int)) := by omega
     clear h1 hper
     go_wp2_with fail
     have b4 : Below w3.heap.size w3 w3.drew := (Below.refl _ _).drew
     obtain ⟨w4, hw4⟩ : ∃ w4, w3.drew = w4 := ⟨_, rfl⟩
     rw [hw4] at b4
     have C4 := Lib.hid (C3.out.on b4)
     have r4 := Shp.rd_on r3 b4
     have cg := C4.out.blk.cell
     have fg := C4.out.blk.free
     refine wp_region_noPanic ?_
     refine wp_region_held_drew (S := fun W => vS.rd W ⟨gv, 0, none⟩ = some v) (by kernel_rfl) (by rw [hw4]; exact r4) (fun sd => ?_)
     rw [hw4]
     refine takeT 0 (some 30) ?vq0 ?hyq0 r4 ?restq0
     case hyq0 => (intro o ho W hW; simp only [gT, gS, gZ, sI] at ho; subst ho; (try dsimp only at hW); go_simp; try rfl)
     try simp only [Act.put, iT, iZ, iS]
     refine takeT 1 (some 31) ?vq1 ?hyq1 r4 ?restq1
     case hyq1 => (intro o ho W hW; simp only [gT, gS, gZ, sI] at ho; subst ho; (try dsimp only at hW); go_simp; try rfl)
     try simp only [Act.put, iT, iZ, iS]
     refine takeT 2 (some 32) ?vq2 ?hyq2 r4 ?restq2
     case hyq2 => (intro o ho W hW; simp only [gT, gS, gZ, sI] at ho; subst ho; (try dsimp only at hW); go_simp; try rfl)
     try simp only [Act.put, iT, iZ, iS]
     refine takeT 3 (some 33) ?vq3 ?hyq3 r4 ?restq3
     case hyq3 => (intro o ho W hW; simp only [gT, gS, gZ, sI] at ho; subst ho; (try dsimp only at hW); go_simp; try rfl)
     try simp only [Act.put, iT, iZ, iS]
     refine takeT 5 (some 35) (.agg (vS.v v)) ?hyq5 r4 ?restq5
     case hyq5 => (intro o ho W hW; simp only [gT, gS, gZ, sI] at ho; subst ho; (try dsimp only at hW); go_simp; try rfl)
     try simp only [Act.put, iT, iZ, iS]
     refine forkS 4 6 (by kernel_rfl) (by rfl) (by rfl) (fun o ho K hK => ?_) (fun o ho K hK => ?_)
     ·simp only [gT, gS, gZ, sI] at ho; subst ho
      go_simp
      refine hK.out _ _ r4 (fun _ => ?_)
      clear hK K
      try simp only [Act.put, iT, iZ, iS]
      refine nextS 6 (by kernel_rfl) (by rfl) (fun o ho K hK => ?_)
      simp only [gT, gS, gZ, sI] at ho; subst ho
      go_simp
      have b5 := below_alloc_ w4 (.cells (vS.v v) 194)
      have r5 := Shp.rd_on r4 b5
      have C5 := Lib.hid (C4.out.on b5)
      refine hK.out _ _ r5 (fun _ => ?_)
      clear hK K
      try simp only [Act.put, iT, iZ, iS]
      obtain ⟨w5, hw5⟩ : ∃ w5, w4.alloc (.cells (vS.v v) 194) = w5 := ⟨_, rfl⟩
      have hq5 : Rw 11 w5 (some ⟨w4.heap.size, 0, none⟩) 1 (vS.cs v) := by rw [← hw5]; exact rw_new w4 11 194 1 (vS.v v) (by rw [vS.v_size]; rfl)
      rw [hw5] at b5 r5 C5
      rw [hw5]
      have HOW := Lib.hid C5.out.own
      refine nextS 7 (by kernel_rfl) (by rfl) (fun o ho K hK => ?_)
      simp only [gT, gS, gZ, sI] at ho; subst ho
      refine wp_gapp _ Tryz.underlying187 ver_info rfl (by decide) (by decide) (.tmp 34) (.tmp 36) rfl rfl HOW.out rfl hq5 (vS.one v) (by have := hl1n.out; omega) ?_
      intro A5 c5 w6 ho6 hg6 hat6
      have hne6 : some gv ≠ (Value.slice A1 l1.length c1).ownBlock := fun e => gv3.out _ (own_at e.symm) rfl
      have r6 : vS.rd w6 ⟨gv, 0, none⟩ = some v := (Shp.rd_to (hg6.block _ (Shp.rd_lt r5) hne6)).trans r5
      have hng : some g ≠ (Value.slice A1 l1.length c1).ownBlock := fun e => C5.out.ne (own_at e.symm)
      have B6 : Blk w6 g 189 #[.slice A1 l1.length c1] := ⟨(hg6.block g C5.out.blk.lt hng).trans C5.out.blk.out⟩
      have cg6 := B6.cell
      have fg6 := B6.free
      refine hK.out _ _ r6 (fun _ => ?_)
      clear hK K
      try simp only [Act.put, iT, iZ, iS]
      refine takeT 8 (some 38) ?vp8 ?hyp8 r6 ?restp8
      case hyp8 => (intro o ho W hW; simp only [gT, gS, gZ, sI] at ho; subst ho; (try dsimp only at hW); go_simp; try rfl)
      try simp only [Act.put, iT, iZ, iS]
      refine takeT 9 (some 39) ?vp9 ?hyp9 r6 ?restp9
      case hyp9 => (intro o ho W hW; simp only [gT, gS, gZ, sI] at ho; subst ho; (try dsimp only at hW); go_simp; try rfl)
      try simp only [Act.put, iT, iZ, iS]
      refine nextS 10 (by kernel_rfl) (by rfl) (fun o ho K hK => ?_)
      simp only [gT, gS, gZ, sI] at ho; subst ho
      go_simp
      refine hK.out _ _ ((Shp.rd_setCell _ _ _ _ (fun e => hggv.out (Eq.symm e))).trans r6) (fun _ => ?_)
      clear hK K
      try simp only [Act.put, iT, iZ, iS]
      refine wpAnyH_done (by kernel_rfl) ?_ _
      refine NoPanic.normal ?_
      go_wp2
      go_roundw
      case rel =>
       refine ⟨j + 1, A5, c5, l1 ++ [v], hlt, by go_num, ⟨take_snoc HV.out HL.out⟩, C5.out.app (by have := hl1n.out; omega) HSS.out HVW.out ho6 hg6, ?_, ?_, ⟨HE.out⟩⟩
       ·refine (((hO3.out.on b4).on b5).grown hg6 fun k hk => ?_).set (.inl (.inl rfl)) _
        have hk1 := own_at hk
        rcases HN.out k hk1 with h | h
        ·exact .inl (.inr h)
        ·exact .inr h
       ·intro i hi
        rcases hat6 with h | h
        ·have e := at_own (n := l1.length + 1) (c := c5) hi
         rw [h] at e
         exact HN.out i (own_at e)
        ·have e := at_own (n := l1.length + 1) (c := c5) hi
         rw [h] at e
         injection e with e
         have := hn3.out
         have := HO.out.size
         have := b4.size
         have := b5.size
         exact .inr (by omega)
      case measure => simp [intOf]; omega
     ·simp only [gT, gS, gZ, sI] at ho; subst ho
      go_simp
      have b5 := below_alloc_ w4 (.cells (vS.v v) 194)
      have r5 := Shp.rd_on r4 b5
      have C5 := Lib.hid (C4.out.on b5)
      have cg5 := C5.out.blk.cell
      refine hK.out _ _ r5 (fun _ => ?_)
      clear hK K
      try simp only [Act.put, iT, iZ, iS]
      refine nextS 4 (by kernel_rfl) (by rfl) (fun o ho K hK => ?_)
      simp only [gT, gS, gZ, sI] at ho; subst ho
      go_simp
      refine hK.out _ _ r5 (fun _ => ?_)
      clear hK K
      try simp only [Act.put, iT, iZ, iS]
      obtain ⟨w5, hw5⟩ : ∃ w5, w4.alloc (.cells (vS.v v) 194) = w5 := ⟨_, rfl⟩
      have hq5 : Rw 11 w5 (some ⟨w4.heap.size, 0, none⟩) 1 (vS.cs v) := by rw [← hw5]; exact rw_new w4 11 194 1 (vS.v v) (by rw [vS.v_size]; rfl)
      rw [hw5] at b5 r5 C5
      rw [hw5]
      have HOW := Lib.hid C5.out.own
      refine nextS 7 (by kernel_rfl) (by rfl) (fun o ho K hK => ?_)
      simp only [gT, gS, gZ, sI] at ho; subst ho
      refine wp_gapp _ Tryz.underlying187 ver_info rfl (by decide) (by decide) (.tmp 34) (.tmp 36) rfl rfl HOW.out rfl hq5 (vS.one v) (by have := hl1n.out; omega) ?_
      intro A5 c5 w6 ho6 hg6 hat6
      have hne6 : some gv ≠ (Value.slice A1 l1.length c1).ownBlock := fun e => gv3.out _ (own_at e.symm) rfl
      have r6 : vS.rd w6 ⟨gv, 0, none⟩ = some v := (Shp.rd_to (hg6.block _ (Shp.rd_lt r5) hne6)).trans r5
      have hng : some g ≠ (Value.slice A1 l1.length c1).ownBlock := fun e => C5.out.ne (own_at e.symm)
      have B6 : Blk w6 g 189 #[.slice A1 l1.length c1] := ⟨(hg6.block g C5.out.blk.lt hng).trans C5.out.blk.out⟩
      have cg6 := B6.cell
      have fg6 := B6.free
      refine hK.out _ _ r6 (fun _ => ?_)
      clear hK K
      try simp only [Act.put, iT, iZ, iS]
      refine takeT 8 (some 38) ?vu8 ?hyu8 r6 ?restu8
      case hyu8 => (intro o ho W hW; simp only [gT, gS, gZ, sI] at ho; subst ho; (try dsimp only at hW); go_simp; try rfl)
      try simp only [Act.put, iT, iZ, iS]
      refine takeT 9 (some 39) ?vu9 ?hyu9 r6 ?restu9
      case hyu9 => (intro o ho W hW; simp only [gT, gS, gZ, sI] at ho; subst ho; (try dsimp only at hW); go_simp; try rfl)
      try simp only [Act.put, iT, iZ, iS]
      refine nextS 10 (by kernel_rfl) (by rfl) (fun o ho K hK => ?_)
      simp only [gT, gS, gZ, sI] at ho; subst ho
      go_simp
      refine hK.out _ _ ((Shp.rd_setCell _ _ _ _ (fun e => hggv.out (Eq.symm e))).trans r6) (fun _ => ?_)
      clear hK K
      try simp only [Act.put, iT, iZ, iS]
      refine wpAnyH_done (by kernel_rfl) ?_ _
      refine NoPanic.normal ?_
      go_wp2
      go_roundw
      case rel =>
       refine ⟨j + 1, A5, c5, l1 ++ [v], hlt, by go_num, ⟨take_snoc HV.out HL.out⟩, C5.out.app (by have := hl1n.out; omega) HSS.out HVW.out ho6 hg6, ?_, ?_, ⟨HE.out⟩⟩
       ·refine (((hO3.out.on b4).on b5).grown hg6 fun k hk => ?_).set (.inl (.inl rfl)) _
        have hk1 := own_at hk
        rcases HN.out k hk1 with h | h
        ·exact .inl (.inr h)
        ·exact .inr h
       ·intro i hi
        rcases hat6 with h | h
        ·have e := at_own (n := l1.length + 1) (c := c5) hi
         rw [h] at e
         exact HN.out i (own_at e)
        ·have e := at_own (n := l1.length + 1) (c := c5) hi
         rw [h] at e
         injection e with e
         have := hn3.out
         have := HO.out.size
         have := b4.size
         have := b5.size
         exact .inr (by omega)
      case measure => simp [intOf]; omega
   ·have HG := Lib.hid h0
    have h0i : ¬ ((D.wgh v : Int) = 0) := by omega
    have hper : D.per l1 v = D.wgh v := by rw [D.per, if_pos h0]
    have HE := Lib.hid (puts_bad HV.out (by rw [hper]; exact h0) HP.out)
    rw [hper] at HE
    clear h0 hper
    go_wp2_with (go_at_call 123; (with_reducible refine CW.out.mono ?_); rintro e w2 ⟨rfl, b2⟩)
    go_ret2
    exact ⟨by rw [HE.out]; rfl, A1, c1, by rw [HE.out]; exact C1.out.on b2, (HO.out.on b1).on b2, HN.out⟩
  ·have HE := Lib.hid (puts_end (show j = vs.length by omega) HL.out HP.out)
   have hjm : j = m := by omega
   go_wp2
   go_ret2
   exact ⟨by rw [HE.out, hlen]; rfl, A1, c1, by rw [HE.out]; exact HC.out, HO.out, HN.out⟩
end Go.Proofs.YtjlaffgbmcpldaaGreatDoor
namespace Go.Proofs.YtjlaffgbmcpldaaGreatDoor
open Go.RowKit

def lcells (e : D.Ky × Vl) : List Value := bys e.1.l ++ [.pointer e.2]
theorem lcells_inj {x y : D.Ky × Vl} (h : lcells x = lcells y) : x = y := by
 obtain ⟨x, u⟩ := x
 obtain ⟨y, v⟩ := y
 have := List.append_inj h (by simp [bys_len, D.Ky.len])
 obtain rfl := D.Ky.eq (bys_inj this.1)
 have h2 := this.2
 simp only [List.cons.injEq, Value.pointer.injEq, and_true] at h2
 subst h2
 rfl
def lS : Shp (D.Ky × Vl) := ⟨lcells, 26, by decide, fun x => by simp [lcells, bys_len, x.1.len], lcells_inj, fun x u hu => by
 rcases List.mem_append.1 hu with hu | hu
 ·exact bys_one _ u hu
 ·simp only [List.mem_singleton] at hu; subst hu; rfl⟩
def ndl (b : Int) (p q : Option Addr) (e : D.Ky × Vl) : List Value := .int .i64 b :: .pointer p :: .pointer q :: lcells e
def ndc (b : Int) (p q : Option Addr) (e : D.Ky × Vl) : Array Value := (ndl b p q e).toArray
noncomputable def ldl (v : Value) : Sem Value := Instr.loadAt 217 v
noncomputable def lvl (a : Addr) : Sem Value := loadVar 217 a
noncomputable def stl (p v : Value) : Sem Unit := Instr.storeAt 217 p v
noncomputable def bdl (ps : Array (Nat × Value)) : Sem Value := Instr.build 217 ps
noncomputable def bdn (ps : Array (Nat × Value)) : Sem Value := Instr.build 243 ps
noncomputable def bsk (n : Nat) (ps : Array (Nat × Value)) : Sem Value := Instr.buildSlice 106 n ps
theorem ld_l (v : Value) : Instr.loadAt 217 v = ldl v := rfl
theorem lv_l (a : Addr) : loadVar 217 a = lvl a := rfl
theorem st_l (p v : Value) : Instr.storeAt 217 p v = stl p v := rfl
theorem bd_l (ps : Array (Nat × Value)) : Instr.build 217 ps = bdl ps := rfl
theorem bd_n (ps : Array (Nat × Value)) : Instr.build 243 ps = bdn ps := rfl
theorem bs_k (n : Nat) (ps : Array (Nat × Value)) : Instr.buildSlice 106 n ps = bsk n ps := rfl
theorem run_lvl (w : World) (a : Addr) : (lvl a).run Tryz.prog w = (lS.rd w a).elim (bl 217 a w) fun x => .ok (.agg (lS.v x)) w := by
 cases h : lS.rd w a with
 | none => rfl
 | some x => exact Shp.loadVar_of Tryz.isAgg217 Tryz.sizeOf217 (Shp.at_of h)
theorem run_ldl (w : World) (a : Addr) : (ldl (.pointer (some a))).run Tryz.prog w = (lS.rd w a).elim (bl 217 a w) fun x => .ok (.agg (lS.v x)) w := by
 rw [← run_lvl]; simp only [ldl, lvl, Instr.loadAt, Instr.sureAddr, Sem.run_bind, Sem.run_pure, Result.andThen_ok]
theorem run_stl (w : World) (g : Nat) (x : D.Ky × Vl) : (stl (.pointer (some ⟨g, 0, none⟩)) (.agg (lS.v x))).run Tryz.prog w = bif Shp.tn 26 w g then .ok () (w.setRow g (lS.v x)) else bs 217 g (lS.v x) w := by
 cases h : Shp.tn 26 w g with
 | false => rfl
 | true => exact Shp.storeVar_of (S := lS) h x fun t' cs hb hs => run_storeVar_row (P := Tryz.prog) w g t' _ cs (lS.v x) hb.out (by rw [lS.v_size]; kernel_rfl) hs (lS.v_one x)
theorem bdl_list (w : World) (d : Vl) : ∀ l : List Value, l.length = 25 → (bdl #[(0, .agg l.toArray), (1, .pointer d)]).run Tryz.prog w = .ok (.agg (l ++ [Value.pointer d]).toArray) w
 | [a0, a1, a2, a3, a4, a5, a6, a7, a8, a9, a10, a11, a12, a13, a14, a15, a16, a17, a18, a19, a20, a21, a22, a23, a24], _ => by
  simp [bdl, Instr.build, go_sem]
theorem run_bdl (w : World) (x : D.Ky) (d : Vl) : (bdl #[(0, .agg (kS.v x)), (1, .pointer d)]).run Tryz.prog w = .ok (.agg (lS.v (x, d))) w := bdl_list w d (bys x.l) (by rw [bys_len, x.len])
theorem bdn_list (w : World) : ∀ l : List Value, l.length = 26 → (bdn #[(0, .int .i64 200), (2, .agg l.toArray)]).run Tryz.prog w = .ok (.agg (.int .i64 200 :: .pointer none :: .pointer none :: l).toArray) w
 | [a0, a1, a2, a3, a4, a5, a6, a7, a8, a9, a10, a11, a12, a13, a14, a15, a16, a17, a18, a19, a20, a21, a22, a23, a24, a25], _ => by
  simp [bdn, Instr.build, go_sem]
theorem run_bdn (w : World) (e : D.Ky × Vl) : (bdn #[(0, .int .i64 200), (2, .agg (lS.v e))]).run Tryz.prog w = .ok (.agg (ndc 200 none none e)) w := bdn_list w (lcells e) (lS.len e)
theorem run_bdn0 (w : World) (b : Int) : (bdn #[(0, .int .i64 b)]).run Tryz.prog w = .ok (.agg (ndc b none none (D.zK, none))) w := by
 simp [bdn, Instr.build, go_sem]
 rfl
theorem bsk_list (w : World) : ∀ l : List Value, l.length = 25 → (bsk 1 #[(0, .agg l.toArray)]).run Tryz.prog w = .ok (.slice (some ⟨w.heap.size, 0, none⟩) 1 1) (w.alloc (.cells l.toArray 39))
 | [a0, a1, a2, a3, a4, a5, a6, a7, a8, a9, a10, a11, a12, a13, a14, a15, a16, a17, a18, a19, a20, a21, a22, a23, a24], _ => by
  simp [bsk, Instr.buildSlice, go_sem]
theorem run_bsk (w : World) (x : D.Ky) : (bsk 1 #[(0, .agg (kS.v x))]).run Tryz.prog w = .ok (.slice (some ⟨w.heap.size, 0, none⟩) 1 1) (w.alloc (.cells (kS.v x) 39)) := bsk_list w (bys x.l) (by rw [bys_len, x.len])
theorem lf_of {w : World} {g o : Nat} {e : D.Ky × Vl} (h : lS.rd w ⟨g, o, none⟩ = some e) : kS.rd w ⟨g, o, none⟩ = some e.1 ∧ w.cell? ⟨g, o + 25, none⟩ = some (.pointer e.2) := by
 have hc : lS.At w ⟨g, o, none⟩ e := Shp.at_of h
 have hn : (bys e.1.l).length = 25 := by rw [bys_len, e.1.len]
 have c : ∀ j u, (lcells e)[j]? = some u → w.cell? ((⟨g, o, none⟩ : Addr).add j) = some u := hc
 refine ⟨Shp.rd_of fun j u hu => c j u ?_, ?_⟩
 ·have hu : (bys e.1.l)[j]? = some u := hu
  have hj := (List.getElem?_eq_some_iff.1 hu).1
  rw [lcells, List.getElem?_append_left hj, hu]
 ·have := c 25 (.pointer e.2) (by rw [lcells, List.getElem?_append_right (by omega), hn]; rfl)
  rwa [add_o] at this
structure NF (w : World) (g : Nat) (b : Int) (p q : Option Addr) (e : D.Ky × Vl) : Prop where
 bit : w.cell? ⟨g, 0, none⟩ = some (.int .i64 b)
 lo : w.cell? ⟨g, 1, none⟩ = some (.pointer p)
 hi : w.cell? ⟨g, 2, none⟩ = some (.pointer q)
 leaf : lS.rd w ⟨g, 3, none⟩ = some e
 key : kS.rd w ⟨g, 3, none⟩ = some e.1
 thing : w.cell? ⟨g, 28, none⟩ = some (.pointer e.2)
 lt : g < w.heap.size
theorem nf_of {w : World} {g : Nat} {b : Int} {p q : Option Addr} {e : D.Ky × Vl} (h : Blk w g 243 (ndc b p q e)) : NF w g b p q e := by
 have hc : ∀ j u, (ndl b p q e)[j]? = some u → w.cell? ⟨g, j, none⟩ = some u := fun j u hu => by
  have := World.news_of_block h.out j u (by simpa [ndc] using hu)
  rwa [add_o, Nat.zero_add] at this
 have hl : lS.rd w ⟨g, 3, none⟩ = some e := Shp.rd_of fun j u hu => by
  rw [add_o]
  exact hc (3 + j) u (by rw [Nat.add_comm]; exact hu)
 obtain ⟨h1, h2⟩ := lf_of hl
 exact ⟨hc 0 _ rfl, hc 1 _ rfl, hc 2 _ rfl, hl, h1, h2, h.lt⟩
abbrev Tk := Cr.Tr D.Ky
def pt (o : Option Tk) : Option Addr := o.map fun t => ⟨t.ad, 0, none⟩
def Nd (w : World) : Tk → Prop
 | .lf a k v => Blk w a 243 (ndc 200 none none (k, v))
 | .br a b l r => Blk w a 243 (ndc b (some ⟨l.ad, 0, none⟩) (some ⟨r.ad, 0, none⟩) (D.zK, none)) ∧ Nd w l ∧ Nd w r
theorem Nd.kept {w w' : World} : ∀ {t : Tk}, Nd w t → (∀ g ∈ t.bl, w'.heap[g]? = w.heap[g]?) → Nd w' t
 | .lf a k v, h, hk => ⟨(hk a (by simp [Cr.Tr.bl])).trans h.out⟩
 | .br a b l r, h, hk => ⟨⟨(hk a (by simp [Cr.Tr.bl])).trans h.1.out⟩, h.2.1.kept fun g hg => hk g (by simp [Cr.Tr.bl, hg]), h.2.2.kept fun g hg => hk g (by simp [Cr.Tr.bl, hg])⟩
theorem Nd.lt {w : World} : ∀ {t : Tk}, Nd w t → ∀ g ∈ t.bl, ∃ cs, Blk w g 243 cs
 | .lf a k v, h, g, hg => by
  have hg : g = a := by simpa [Cr.Tr.bl] using hg
  subst hg; exact ⟨_, h⟩
 | .br a b l r, h, g, hg => by
  simp only [Cr.Tr.bl, List.mem_cons, List.mem_append] at hg
  rcases hg with rfl | hg | hg
  ·exact ⟨_, h.1⟩
  ·exact h.2.1.lt g hg
  ·exact h.2.2.lt g hg
theorem Nd.on {w w' : World} {t : Tk} (h : Nd w t) (hb : Below w.heap.size w w') : Nd w' t := h.kept fun g hg => hb.block g (let ⟨_, hc⟩ := h.lt g hg; hc.lt)
def lfe : Tk → D.Ky × Vl
 | .lf _ k v => (k, v)
 | .br _ _ _ _ => (D.zK, none)
def lop : Tk → Option Addr
 | .lf _ _ _ => none
 | .br _ _ l _ => some ⟨l.ad, 0, none⟩
def hip : Tk → Option Addr
 | .lf _ _ _ => none
 | .br _ _ _ r => some ⟨r.ad, 0, none⟩
theorem Nd.nf {w : World} : ∀ {t : Tk}, Nd w t → NF w t.ad (t.bit : Int) (lop t) (hip t) (lfe t)
 | .lf _ _ _, h => nf_of h
 | .br _ _ _ _, h => nf_of h.1
structure TR (w : World) (g : Nat) (o : Option Tk) : Prop where
 blk : ∃ n : Int, Blk w g 177 #[.pointer (pt o), .int .i64 n]
 nd : ∀ t, o = some t → Nd w t
 wf : ∀ t, o = some t → t.wf
 ndp : ∀ t, o = some t → t.bl.Nodup
 sz : (Cr.Tr.lso o).length ≤ 1000
theorem TR.on {w w' : World} {g : Nat} {o : Option Tk} (h : TR w g o) (hb : Below w.heap.size w w') : TR w' g o := ⟨let ⟨n, hB⟩ := h.blk; ⟨n, hB.on hb⟩, fun t e => (h.nd t e).on hb, h.wf, h.ndp, h.sz⟩
theorem TR.lt {w : World} {g : Nat} {o : Option Tk} (h : TR w g o) : g < w.heap.size := let ⟨_, hB⟩ := h.blk; hB.lt
theorem TR.root {w : World} {g : Nat} {o : Option Tk} (h : TR w g o) : w.cell? ⟨g, 0, none⟩ = some (.pointer (pt o)) := by
 obtain ⟨n, hB⟩ := h.blk
 have := World.news_of_block hB.out 0 _ rfl
 rwa [add_o] at this
structure TC (w : World) (g : Nat) (o : Option Tk) : Prop where
 tr : TR w g o
 cnt : w.cell? ⟨g, 1, none⟩ = some (.int .i64 ((Cr.Tr.lso o).length : Nat))
theorem TC.on {w w' : World} {g : Nat} {o : Option Tk} (h : TC w g o) (hb : Below w.heap.size w w') : TC w' g o := ⟨h.tr.on hb, cell_kept_ hb h.cnt⟩
theorem TC.blk {w : World} {g : Nat} {o : Option Tk} (h : TC w g o) : Blk w g 177 #[.pointer (pt o), .int .i64 ((Cr.Tr.lso o).length : Nat)] := by
 obtain ⟨n, hB⟩ := h.tr.blk
 have h1 := World.news_of_block hB.out 1 (.int .i64 n) rfl
 rw [add_o] at h1
 have := h1.symm.trans h.cnt
 simp only [Option.some.injEq, Value.int.injEq, true_and] at this
 rw [this] at hB
 exact hB
theorem TC.of {w : World} {g : Nat} {o : Option Tk} (h : TR w g o) (hb : Blk w g 177 #[.pointer (pt o), .int .i64 ((Cr.Tr.lso o).length : Nat)]) : TC w g o := ⟨h, by
 have := World.news_of_block hb.out 1 _ rfl
 rwa [add_o] at this⟩
theorem blk_ne {w : World} {g h : Nat} {s t : TypeId} {cs ds : Array Value} (hg : Blk w g s cs) (hh : Blk w h t ds) (hne : s ≠ t) : g ≠ h := by
 intro e
 subst e
 have := hg.out.symm.trans hh.out
 injection this with this
 injection this with _ e2
 exact hne e2
theorem TR.out {w : World} {g : Nat} {o : Option Tk} (h : TR w g o) : ∀ t, o = some t → g ∉ t.bl := fun t e hg => by
 obtain ⟨cs, hb⟩ := (h.nd t e).lt g hg
 obtain ⟨n, hB⟩ := h.blk
 exact blk_ne hB hb (by decide) rfl
end Go.Proofs.YtjlaffgbmcpldaaGreatDoor
