/-
  A long plain region walked by hand, without forks: what each slot holds, under which condition.
  A chain's versions; what is seen at a time.
  A chain's calls that only read; what is wrong with a version.
-/
import Derived.Laws.StructEq
import Derived.Test.YteiikacgcfidmaaGreatDoorG24
import Derived.Test.YteiikacgcfidmaaGreatDoorG18
import Derived.Test.YteiikacgcfidmaaGreatDoorG23
import Derived.IntWalk
import Derived.BigQuiet
import Derived.Deep.CutRange
import Derived.Deep.Light
import Derived.Test.YteiikacgcfidmaaGreatDoorG17
import Derived.Test.YteiikacgcfidmaaGreatDoorG15
import Derived.Laws.ResultCell
set_option linter.unusedVariables false
set_option linter.unusedSimpArgs false
set_option maxRecDepth 100000
namespace Go.Proofs.YteiikacgcfidmaaGreatDoor
open Go.RowKit

/-- A slot's value. -/
def ev (a : Act) (j : Nat) : Value := a.tmps.getD j undef
/-- A slot holds a value where c, else nothing. -/
structure Is (a : Act) (d : Nat) (c : Bool) (v : Value) : Prop where
  out : ev a d = bif c then v else undef
theorem Is.get {a : Act} {d : Nat} {c : Bool} {v : Value} (h : Is a d c v) (hc : c = true) : a.eval (.tmp d) = v := by
  have := h.out
  rw [hc] at this
  exact this
theorem Is.as {a : Act} {d : Nat} {c : Bool} {v u : Value} (h : Is a d c v) (e : v = u) : Is a d c u := e ▸ h
section
variable {P : Program} {ops : Array Oper} {Q : Exit → Act → World → Prop} {a : Act} {w : World} {rest : List Oper} {o : Oper}
end
section
variable {P : Program} {F : Operand → Value} {w : World} {o : Oper}
end
section
variable {F : Operand → Value} {w : World} {o : Oper}
end
end Go.Proofs.YteiikacgcfidmaaGreatDoor
set_option linter.unusedVariables false
set_option linter.unusedSimpArgs false
set_option maxRecDepth 100000
namespace Go.Proofs.YteiikacgcfidmaaGreatDoor
open Go.RowKit
attribute [local go_sem ↓] Go.wp_at_zero Go.wp_at_succ ld_v lv_v st_v ne_v bd_v bs_v ld_rh ld_d lv_rh lv_d st_r st_d ne_rh eq_rh ne_d bd_rh bd_d
attribute [local go_sem] run_ldv run_lvv run_stv run_nev run_bdv_z run_bdv_d run_bdv_r run_bsv1 run_bsv0 run_ldrh run_ldd run_lvrh run_lvd run_str run_std run_nerh run_eqrh run_ned run_bdr0 run_bdd0 run_bdr1 run_bdd1 run_bdd9 Shp.rd_new Shp.rd_old Shp.rd_drew Shp.rd_drewN Shp.rd_set Shp.tn_new Shp.tn_old Shp.tn_drew Shp.tn_drewN setRow_alloc
theorem all_any (g n c : Nat) (A : Option Addr) (w : World) (h : w.cell? ⟨g, 0, none⟩ = some (.slice A n c)) : Calls Tryz.prog 64 #[.pointer (some ⟨g, 0, none⟩)] w fun e w' => e = .returned (.slice A n c) ∧ w' = w := by
  go_enter Tryz.func64, Tryz.ntmps64
  go_wp2
  go_ret
  exact ⟨rfl, rfl⟩
theorem all_nil (w : World) : Calls Tryz.prog 64 #[.pointer none] w fun e w' => e = .returned (.slice none 0 0) ∧ w' = w := by
  go_enter Tryz.func64, Tryz.ntmps64
  go_wp2
  go_ret
  exact ⟨rfl, rfl⟩
set_option maxHeartbeats 1000000 in
theorem seen1_any (b1 b2 n c t i : Nat) (A : Option Addr) (l : List D.Vn) (v : D.Vn) (w : World) (h1 : w.cell? ⟨b1, 0, none⟩ = some (.slice A n c)) (h2 : w.cell? ⟨b2, 0, none⟩ = some (.int .u64 (t : Nat))) (hr : Shp.Row vS w A n l) (hv : l[i]? = some v) :
    Calls Tryz.prog 98 #[.int .i64 (i : Nat), .pointer (some ⟨b1, 0, none⟩), .pointer (some ⟨b2, 0, none⟩)] w fun e w' => e = .returned (.bool (decide (t < v.a))) ∧ Below w.heap.size w w' := by
  have hi : (i : Int) < (n : Int) := by have := (List.getElem?_eq_some_iff.1 hv).1; have := hr.len; omega
  have i0 : (0 : Int) ≤ (i : Int) := by omega
  obtain ⟨ad, rfl, hlt, hrd⟩ := hr.rd hv
  obtain ⟨q0, -, -⟩ := vr hrd
  clear hr hv hrd
  go_enter Tryz.func98, Tryz.ntmps98
  go_wp2_with fail
  go_quiet (fail)
  go_wp2
  go_ret
  exact ⟨by simp, below_dn (Below.refl _ _) _⟩
set_option maxHeartbeats 2000000 in
theorem search_any (b1 b2 n c t : Nat) (A : Option Addr) (l : List D.Vn) (w : World) (h1 : w.cell? ⟨b1, 0, none⟩ = some (.slice A n c)) (h2 : w.cell? ⟨b2, 0, none⟩ = some (.int .u64 (t : Nat))) (hr : Shp.Row vS w A n l) (hs : D.Srt l) (hn : n ≤ 1000000) :
    Calls Tryz.prog 97 #[.int .i64 (n : Nat), .func (.func 98) #[] #[.pointer (some ⟨b1, 0, none⟩), .pointer (some ⟨b2, 0, none⟩)]] w fun e w' => e = .returned (.int .i64 (D.cnt l t : Nat)) ∧ Below w.heap.size w w' := by
  have CC := Lib.hid (fun (W : World) (hb : Below w.heap.size w W) i v (hv : l[i]? = some v) => seen1_any b1 b2 n c t i A l v W (cell_kept_ hb h1) (cell_kept_ hb h2) (hr.on hb) hv)
  have HS := Lib.hid hs
  have hlen := hr.len
  clear h1 h2 hr hs
  go_enter Tryz.func97, Tryz.ntmps97
  go_wp2_with fail
  go_loopw [5, 6] (fun x y wr => ∃ lo hi : Nat, x = .int .i64 lo ∧ y = .int .i64 hi ∧ lo ≤ hi ∧ hi ≤ n ∧ Below w.heap.size w wr ∧ Kept ((∀ k v, l[k]? = some v → k < lo → v.a ≤ t) ∧ (∀ k v, l[k]? = some v → hi ≤ k → t < v.a))) (fun x y _ => (intOf y).toNat - (intOf x).toNat)
  case atStart => exact ⟨0, n, rfl, rfl, Nat.zero_le _, Nat.le_refl _, Below.refl _ _, ⟨fun k v _ h => absurd h (by omega), fun k v hv h => absurd (List.getElem?_eq_some_iff.1 hv).1 (by omega)⟩⟩
  case round =>
    obtain ⟨lo, hi, rfl, rfl, hlh, hin, hb, HI⟩ := hrel
    by_cases hlt : lo < hi
    · obtain ⟨v, hv⟩ : ∃ v, l[(lo + hi) / 2]? = some v := ⟨_, List.getElem?_eq_getElem (by omega)⟩
      have C1 := CC.out wr hb _ v hv
      rw [show (((lo + hi) / 2 : Nat) : Int) = ((lo : Int) + (hi : Int)) / 2 by omega] at C1
      have HV := Lib.hid hv
      clear hv
      by_cases ht : t < v.a
      · rw [decide_eq_true ht] at C1
        have HT := Lib.hid ht
        clear ht
        go_wp2_with (go_at_call 98; (refine C1.mono ?_); rintro e w1 ⟨rfl, b1⟩)
        go_roundw
        case rel => exact ⟨lo, (lo + hi) / 2, rfl, by rw [show ((lo : Int) + (hi : Int)) / 2 = (((lo + hi) / 2 : Nat) : Int) by omega], by omega, by omega, below_up hb hb.size b1, ⟨HI.out.1, fun k u hu hk => by
          by_cases e : (lo + hi) / 2 = k
          · subst e; have := HV.out.symm.trans hu; injection this with this; subst this; exact HT.out
          · have := HS.out.lt HV.out hu (by omega); have := HT.out; omega⟩⟩
        case measure => simp [intOf]; omega
      · rw [decide_eq_false ht] at C1
        have HT := Lib.hid ht
        clear ht
        go_wp2_with (go_at_call 98; (refine C1.mono ?_); rintro e w1 ⟨rfl, b1⟩)
        go_roundw
        case rel => exact ⟨(lo + hi) / 2 + 1, hi, by rw [show ((lo : Int) + (hi : Int)) / 2 + 1 = (((lo + hi) / 2 + 1 : Nat) : Int) by omega], rfl, by omega, hin, below_up hb hb.size b1, ⟨fun k u hu hk => by
          by_cases e : (lo + hi) / 2 = k
          · subst e; have := HV.out.symm.trans hu; injection this with this; subst this; have := HT.out; omega
          · have := HS.out.lt hu HV.out (by omega); have := HT.out; omega, HI.out.2⟩⟩
        case measure => simp [intOf]; omega
    · obtain rfl : lo = hi := by omega
      have he := D.cnt_is (l := l) (t := t) (i := lo) (by omega) HI.out.1 HI.out.2
      go_wp2
      go_ret
      exact ⟨by rw [he]; rfl, hb⟩
/-- A pointer to a chain of these versions, or nil. -/
structure Al (w : World) (p A : Option Addr) (n c : Nat) (l : List D.Vn) : Prop where
  all : ∀ W, Below w.heap.size w W → Calls Tryz.prog 64 #[.pointer p] W fun e w' => e = .returned (.slice A n c) ∧ w' = W
  row : Shp.Row vS w A n l
  srt : D.Srt l
  le : n ≤ 1000000
theorem Al.on {w w' : World} {p A : Option Addr} {n c : Nat} {l : List D.Vn} (h : Al w p A n c l) (hb : Below w.heap.size w w') : Al w' p A n c l := ⟨fun W hW => h.all W (below_up hb hb.size hW), h.row.on hb, h.srt, h.le⟩
theorem Al.nil (w : World) : Al w none none 0 0 [] := ⟨fun W _ => all_nil W, Shp.Row.nil _ _, D.Srt.nil, Nat.zero_le _⟩
theorem Al.of {w : World} {g n c : Nat} {A : Option Addr} {l : List D.Vn} (h : w.cell? ⟨g, 0, none⟩ = some (.slice A n c)) (hr : Shp.Row vS w A n l) (hs : D.Srt l) (hn : n ≤ 1000000) : Al w (some ⟨g, 0, none⟩) A n c l :=
  ⟨fun W hW => all_any g n c A W (cell_kept_ hW h), hr, hs, hn⟩
set_option maxHeartbeats 2000000 in
theorem seen_any {w : World} {p : Option Addr} {A : Option Addr} {n c : Nat} {l : List D.Vn} (h : Al w p A n c l) (t : Nat) :
    Calls Tryz.prog 62 #[.pointer p, .int .u64 (t : Nat)] w fun e w' => e = .returned (.agg (vS.v (D.seen l t))) ∧ Below w.heap.size w w' := by
  have hr := h.row
  have hs := h.srt
  have hn := h.le
  have HA := Lib.hid h.all
  have HS := Lib.hid hs
  have hlen := hr.len
  go_enter Tryz.func62, Tryz.ntmps62
  go_wp2_with fail
  have z0 : Below w.heap.size w ((w.alloc (.cells #[.int .u64 (t : Nat)] 44)).alloc (.cells #[.int .u64 0, .bool false, .int .u8 0, .int .u8 0, .int .u8 0, .int .u8 0, .int .u8 0, .bool false, .int .u32 0, .int .u64 0, .string ⟨#[]⟩] 133)) := ((Below.refl _ _).alloc (Nat.le_refl _) _).alloc (by simp) _
  have f1 : ((w.alloc (.cells #[.int .u64 (t : Nat)] 44)).alloc (.cells #[.int .u64 0, .bool false, .int .u8 0, .int .u8 0, .int .u8 0, .int .u8 0, .int .u8 0, .bool false, .int .u32 0, .int .u64 0, .string ⟨#[]⟩] 133)).cell? ⟨w.heap.size, 0, none⟩ = some (.int .u64 (t : Nat)) := ((Blk.new w _ _).alloc _).cell
  have f2 : Shp.tn 11 ((w.alloc (.cells #[.int .u64 (t : Nat)] 44)).alloc (.cells #[.int .u64 0, .bool false, .int .u8 0, .int .u8 0, .int .u8 0, .int .u8 0, .int .u8 0, .bool false, .int .u32 0, .int .u64 0, .string ⟨#[]⟩] 133)) (w.heap.size + 1) = true := Shp.tn_new _ _ _ _ _ (by simp) rfl
  generalize (w.alloc (.cells #[.int .u64 (t : Nat)] 44)).alloc (.cells #[.int .u64 0, .bool false, .int .u8 0, .int .u8 0, .int .u8 0, .int .u8 0, .int .u8 0, .bool false, .int .u32 0, .int .u64 0, .string ⟨#[]⟩] 133) = W0 at z0 f1 f2 ⊢
  refine (HA.out W0 z0).mono ?_
  rintro e w1 ⟨rfl, rfl⟩
  have hB := Blk.new w1 125 #[.slice A n c]
  have z1 := below_alloc_ w1 (.cells #[.slice A n c] 125)
  obtain ⟨W1, hW1⟩ : ∃ W1, w1.alloc (.cells #[.slice A n c] 125) = W1 := ⟨_, rfl⟩
  rw [hW1] at hB z1
  have CS := Lib.hid (search_any w1.heap.size w.heap.size n c t A l W1 hB.cell (cell_kept_ z1 f1) ((hr.on z0).on z1) hs hn)
  have hZ := Lib.hid (z0.trans (z1.mono z0.size))
  have f3 := Shp.tn_on f2 z1
  have c1 := hB.cell
  have hr1 := (hr.on z0).on z1
  clear hr h hB z0 z1 f1 f2
  have hcl := D.cnt_le l t
  by_cases hc : D.cnt l t = 0
  · rw [hc] at CS
    have HE := Lib.hid (D.seen_0 hc)
    clear hr1
    go_wp2_with (go_at_call 97; (with_reducible refine CS.out.mono ?_); rintro e w2 ⟨rfl, b2⟩; have f4 := Shp.tn_on f3 b2)
    refine bodyPost_ret (v := .agg (vS.v (D.dd 0))) (by rw [results_cell1 rfl]; simp [asAddr, Result.andThen, lvv_of (Shp.rd_set (S := vS) w2 (w.heap.size + 1) (D.dd 0) f4)]) rfl ⟨by rw [HE.out], ?_⟩
    exact bel_setRow (below_up hZ.out hZ.out.size b2) (by omega) _
  · obtain ⟨v, hv, he, -⟩ := D.seen_mem hc
    have HE := Lib.hid he
    have i0 : ¬ ((D.cnt l t : Int) = 0) := by omega
    have i1 : (0 : Int) ≤ (D.cnt l t : Int) - 1 := by omega
    have i2 : (D.cnt l t : Int) - 1 < (n : Int) := by omega
    have i3 : (((D.cnt l t - 1 : Nat)) : Int) = (D.cnt l t : Int) - 1 := by omega
    obtain ⟨k, hk⟩ : ∃ k, D.cnt l t = k + 1 := ⟨D.cnt l t - 1, by omega⟩
    obtain ⟨ad, rfl, hlt, hrd⟩ := hr1.rd hv
    rw [hk, Nat.add_sub_cancel] at hrd
    have HRD := Lib.hid hrd
    rw [hk] at CS hcl
    have j1 : (k : Int) < (n : Int) := by omega
    clear hr1 hrd i0 i1 i2 i3 he hv
    go_wp2_with (go_at_call 97; (with_reducible refine CS.out.mono ?_); rintro e w2 ⟨rfl, b2⟩; have f4 := Shp.tn_on f3 b2; have c2 := cell_kept_ b2 c1; have r2 : vS.rd w2 (ad.add (k * 11)) = some v := Shp.rd_on HRD.out b2)
    refine bodyPost_ret (v := .agg (vS.v v)) (by rw [results_cell1 rfl]; simp [asAddr, Result.andThen, lvv_of (Shp.rd_set (S := vS) w2 (w.heap.size + 1) v f4)]) rfl ⟨by rw [HE.out], ?_⟩
    exact bel_setRow (below_up hZ.out hZ.out.size b2) (by omega) _
end Go.Proofs.YteiikacgcfidmaaGreatDoor
set_option linter.unusedVariables false
set_option linter.unusedSimpArgs false
set_option maxRecDepth 100000
namespace Go.Proofs.YteiikacgcfidmaaGreatDoor
open Go.RowKit
theorem vv_0 (x : D.Vn) : (vS.v x)[0]? = some (.int .u64 (x.a : Nat)) := rfl
theorem vv_1 (x : D.Vn) : (vS.v x)[1]? = some (.bool x.d) := rfl
theorem wv_0 (x : D.Vn) : (wS.v x)[0]? = some (.int .u64 (x.a : Nat)) := rfl
theorem wv_1 (x : D.Vn) : (wS.v x)[1]? = some (.bool x.d) := rfl
theorem run_fdv0 (w : World) (x : D.Vn) : (Instr.field 133 (.agg (vS.v x)) 0).run Tryz.prog w = .ok (.int .u64 (x.a : Nat)) w := by
  simp [vv_eq, Instr.field, asAgg, go_sem]
theorem run_fdv1 (w : World) (x : D.Vn) : (Instr.field 133 (.agg (vS.v x)) 1).run Tryz.prog w = .ok (.bool x.d) w := by
  simp [vv_eq, Instr.field, asAgg, go_sem]
attribute [local go_sem ↓] Go.wp_at_zero Go.wp_at_succ ld_v lv_v st_v ne_v bd_v bs_v ld_rh ld_d lv_rh lv_d st_r st_d ne_rh eq_rh ne_d bd_rh bd_d
attribute [local go_sem] run_ldv run_lvv run_stv run_nev run_bdv_z run_bdv_d run_bdv_r run_bsv1 run_bsv0 run_ldrh run_ldd run_lvrh run_lvd run_str run_std run_nerh run_eqrh run_ned run_bdr0 run_bdd0 run_bdr1 run_bdd1 run_bdd9 Shp.rd_new Shp.rd_old Shp.rd_drew Shp.rd_drewN Shp.rd_set Shp.tn_new Shp.tn_old Shp.tn_drew Shp.tn_drewN setRow_alloc vv_0 vv_1 wv_0 wv_1 run_fdv0 run_fdv1 Shp.rd_extk cell_ext
def D.liv (l : List D.Vn) : Bool := match l.getLast? with
  | none => false
  | some v => !v.d
theorem D.liv_seen {l : List D.Vn} (h : D.Srt l) {t : Nat} (ht : D.nwt l ≤ t) : (!(D.seen l t).d) = D.liv l := by
  rw [D.seen_late h ht, D.liv]
  cases l.getLast? <;> rfl
theorem D.nwt_top {l : List D.Vn} (h : ∀ v ∈ l, v.wf) : D.nwt l ≤ 18446744073709551615 := by
  rw [D.nwt]
  cases hl : l.getLast? with
  | none => exact Nat.zero_le _
  | some v => have := (h v (List.mem_of_getLast? hl)).a; simp only; omega
section
variable {w : World} {p A : Option Addr} {n c : Nat} {l : List D.Vn}
theorem seen_top (h : Al w p A n c l) : Calls Tryz.prog 62 #[.pointer p, .int .u64 18446744073709551615] w fun e w' => e = .returned (.agg (vS.v (D.seen l 18446744073709551615))) ∧ Below w.heap.size w w' := seen_any h 18446744073709551615
theorem newest_any (h : Al w p A n c l) (hw : ∀ v ∈ l, v.wf) : Calls Tryz.prog 42 #[.pointer p] w fun e w' => e = .returned (.int .u64 (D.nwt l : Nat)) ∧ Below w.heap.size w w' := by
  have CS := Lib.hid (seen_top h)
  have HE := Lib.hid (D.nwt_seen h.srt (D.nwt_top hw))
  clear h
  go_enter Tryz.func42, Tryz.ntmps42
  go_wp2_with (go_at_call 62; (with_reducible refine CS.out.mono ?_); rintro e w1 ⟨rfl, b1⟩)
  go_ret
  exact ⟨by rw [← HE.out]; rfl, b1⟩
theorem live_any (h : Al w p A n c l) (hw : ∀ v ∈ l, v.wf) : Calls Tryz.prog 57 #[.pointer p] w fun e w' => e = .returned (.bool (D.liv l)) ∧ Below w.heap.size w w' := by
  have CS := Lib.hid (seen_top h)
  have HE := Lib.hid (D.liv_seen h.srt (D.nwt_top hw))
  clear h
  go_enter Tryz.func57, Tryz.ntmps57
  go_wp2_with (go_at_call 62; (with_reducible refine CS.out.mono ?_); rintro e w1 ⟨rfl, b1⟩)
  go_ret
  exact ⟨by rw [← HE.out]; rfl, b1⟩
theorem ver_info : (Tryz.prog.info? 133).map (fun i => (i.zero, i.size, i.bytes)) = some (some (.agg (vS.v D.zVn)), 11, 56) := by kernel_rfl
theorem ow_vrow {T : TypeId} {base n c : Nat} {A : Option Addr} {W : World} (h : Ow T 11 base W A n c (vS.rcs l)) : Shp.Row vS W A n l := Shp.Own.to_row (S := vS) (base := base) (e := T) (c := c) ⟨h.row, h.base⟩
end
set_option maxHeartbeats 2000000 in
theorem weigh_any (v : D.Vn) (w : World) (hw : v.wf) : Calls Tryz.prog 96 #[.agg (vS.v v)] w fun e w' => e = .returned (.int .i64 (D.wgh v : Nat)) ∧ Below w.heap.size w w' := by
  have q0 := Shp.rd_new (S := vS) w w.heap.size 133 v rfl
  obtain ⟨q1, q2, q3, -⟩ := vf q0
  have b0 := below_alloc_ w (.cells (vS.v v) 133)
  by_cases hd : v.d = true
  · by_cases hr : v.r = D.zRc
    · have e : D.wgh v = 0 := by simp [D.wgh, hd, hr]
      have hv : v = D.dd v.a := by obtain ⟨a, d, r⟩ := v; simp only at hd hr; subst hd hr; rfl
      have hde : decide (v = D.dd v.a) = true := decide_eq_true hv
      rw [e]
      rw [hd] at q2
      clear hv
      go_enter Tryz.func96, Tryz.ntmps96
      go_wp2
      go_ret
      exact ⟨rfl, b0⟩
    · have e : D.wgh v = 3 := by simp [D.wgh, hd, hr]
      have hde : decide (v = D.dd v.a) = false := decide_eq_false fun h => hr (by rw [h]; rfl)
      rw [e]
      rw [hd] at q2
      go_enter Tryz.func96, Tryz.ntmps96
      go_wp2
      go_ret
      exact ⟨rfl, b0⟩
  · have e : D.wgh v = D.chk v.r := by simp [D.wgh, hd]
    have hd : v.d = false := by simpa using hd
    have CC := Lib.hid (fun W => check_any v.r W hw.r)
    rw [e]
    rw [hd] at q2
    go_enter Tryz.func96, Tryz.ntmps96
    go_wp2_with (go_at_call 51; (with_reducible refine (CC.out _).mono ?_); rintro e w1 ⟨rfl, b1⟩)
    go_ret
    exact ⟨rfl, below_up b0 b0.size b1⟩
set_option maxHeartbeats 2000000 in
theorem at_any {w : World} {p A : Option Addr} {n c : Nat} {l : List D.Vn} (h : Al w p A n c l) (t : Nat) : Calls Tryz.prog 38 #[.pointer p, .int .u64 (t : Nat)] w fun e w' => e = .returned (.tuple #[.agg (rSh.v (D.seen l t).r), .bool (!(D.seen l t).d)]) ∧ Below w.heap.size w w' := by
  have z0 := below_alloc_ w (.cells #[.int .u8 0, .int .u8 0, .int .u8 0, .int .u8 0, .int .u8 0, .bool false, .int .u32 0, .int .u64 0, .string ⟨#[]⟩] 53)
  have f0 : Shp.tn 9 (w.alloc (.cells #[.int .u8 0, .int .u8 0, .int .u8 0, .int .u8 0, .int .u8 0, .bool false, .int .u32 0, .int .u64 0, .string ⟨#[]⟩] 53)) w.heap.size = true := Shp.tn_new _ _ _ _ _ rfl rfl
  have CS := Lib.hid (seen_any (h.on z0) t)
  clear h
  go_enter Tryz.func38, Tryz.ntmps38
  go_wp2_with (go_at_call 62; (with_reducible refine CS.out.mono ?_); rintro e w1 ⟨rfl, b1⟩)
  have f1 := Shp.tn_on f0 b1
  have hne : w.heap.size < w1.heap.size := by have := b1.size; simp at this; omega
  obtain ⟨W2, hW2⟩ : ∃ W2, w1.alloc (.cells (vS.v (D.seen l t)) 133) = W2 := ⟨_, rfl⟩
  have b2 : Below w1.heap.size w1 W2 := by rw [← hW2]; exact below_alloc_ _ _
  have r2 : vS.rd W2 ⟨w1.heap.size, 0, none⟩ = some (D.seen l t) := by rw [← hW2]; exact Shp.rd_new _ _ _ _ rfl
  obtain ⟨-, q1, q2, -⟩ := vf r2
  have f2 := Shp.tn_on f1 b2
  have hZ := Lib.hid (below_up (below_up z0 z0.size b1) (below_up z0 z0.size b1).size b2)
  rw [hW2]
  clear f0 f1 z0 b1 b2 r2 hW2
  have q3 : rSh.rd W2.drew ⟨w1.heap.size, 2, none⟩ = some (D.seen l t).r := (Shp.rd_drew _ _).trans q2
  have q4 : W2.drew.cell? ⟨w1.heap.size, 1, none⟩ = some (.bool (D.seen l t).d) := q1
  have f3 : Shp.tn 9 W2.drew w.heap.size = true := (Shp.tn_drew _ _ _).trans f2
  refine wp_region_noPanic ?_
  refine wp_region_held_drew (S := fun W => rSh.rd W ⟨w1.heap.size, 2, none⟩ = some (D.seen l t).r ∧ W.cell? ⟨w1.heap.size, 1, none⟩ = some (.bool (D.seen l t).d)) (by kernel_rfl) ⟨q3, q4⟩ (fun sd => ?_)
  refine takeS 0 (some 10) ?vq0 (by kernel_rfl) (by kernel_rfl) (by kernel_rfl) (by kernel_rfl) (fun _ _ _ h => h) (by rfl) ?hyq0 sd ?restq0
  case hyq0 => (intro o ho W hW; simp only [List.getElem?_toArray, List.getElem?_cons_succ, List.getElem?_cons_zero, Option.some.injEq] at ho; subst ho; (try dsimp only at hW); obtain ⟨k1, k2⟩ := hW; go_simp; try rfl)
  try simp only [Act.put, List.setIfInBounds_toArray, List.set_cons_zero, List.set_cons_succ]
  refine takeS 1 (some 11) (.agg (rSh.v (D.seen l t).r)) (by kernel_rfl) (by kernel_rfl) (by kernel_rfl) (by kernel_rfl) (fun _ _ _ h => h) (by rfl) ?hyq1 sd ?restq1
  case hyq1 => (intro o ho W hW; simp only [List.getElem?_toArray, List.getElem?_cons_succ, List.getElem?_cons_zero, Option.some.injEq] at ho; subst ho; (try dsimp only at hW); obtain ⟨k1, k2⟩ := hW; go_simp; try rfl)
  try simp only [Act.put, List.setIfInBounds_toArray, List.set_cons_zero, List.set_cons_succ]
  refine takeS 2 (some 12) ?vq2 (by kernel_rfl) (by kernel_rfl) (by kernel_rfl) (by kernel_rfl) (fun _ _ _ h => h) (by rfl) ?hyq2 sd ?restq2
  case hyq2 => (intro o ho W hW; simp only [List.getElem?_toArray, List.getElem?_cons_succ, List.getElem?_cons_zero, Option.some.injEq] at ho; subst ho; (try dsimp only at hW); obtain ⟨k1, k2⟩ := hW; go_simp; try rfl)
  try simp only [Act.put, List.setIfInBounds_toArray, List.set_cons_zero, List.set_cons_succ]
  refine takeS 3 (some 13) (.bool (D.seen l t).d) (by kernel_rfl) (by kernel_rfl) (by kernel_rfl) (by kernel_rfl) (fun _ _ _ h => h) (by rfl) ?hyq3 sd ?restq3
  case hyq3 => (intro o ho W hW; simp only [List.getElem?_toArray, List.getElem?_cons_succ, List.getElem?_cons_zero, Option.some.injEq] at ho; subst ho; (try dsimp only at hW); obtain ⟨k1, k2⟩ := hW; go_simp; try rfl)
  try simp only [Act.put, List.setIfInBounds_toArray, List.set_cons_zero, List.set_cons_succ]
  refine takeS 4 (some 14) (.bool (!(D.seen l t).d)) (by kernel_rfl) (by kernel_rfl) (by kernel_rfl) (by kernel_rfl) (fun _ _ _ h => h) (by rfl) ?hyq4 sd ?restq4
  case hyq4 => (intro o ho W hW; simp only [List.getElem?_toArray, List.getElem?_cons_succ, List.getElem?_cons_zero, Option.some.injEq] at ho; subst ho; (try dsimp only at hW); obtain ⟨k1, k2⟩ := hW; go_simp; try rfl)
  try simp only [Act.put, List.setIfInBounds_toArray, List.set_cons_zero, List.set_cons_succ]
  refine nextS 5 (by kernel_rfl) (by rfl) (fun o ho K hK => ?_)
  simp only [List.getElem?_toArray, List.getElem?_cons_succ, List.getElem?_cons_zero, Option.some.injEq] at ho; subst ho
  go_simp
  refine hK.out _ _ ⟨(Shp.rd_far _ _ _ _ (by simp only; omega)).trans q3, (World.cell?_of_block (heap_setRow _ _ _ _ (by simp only; omega))).trans q4⟩ (fun _ => ?_)
  clear hK K
  try simp only [Act.put, List.setIfInBounds_toArray, List.set_cons_zero, List.set_cons_succ]
  refine takeS 6 (some 5) ?vq6 (by kernel_rfl) (by kernel_rfl) (by kernel_rfl) (by kernel_rfl) (fun _ _ _ h => h) (by rfl) ?hyq6 (by assumption) ?restq6
  case hyq6 => (intro o ho W hW; simp only [List.getElem?_toArray, List.getElem?_cons_succ, List.getElem?_cons_zero, Option.some.injEq] at ho; subst ho; (try dsimp only at hW); skip; go_simp; try rfl)
  try simp only [Act.put, List.setIfInBounds_toArray, List.set_cons_zero, List.set_cons_succ]
  refine wpAnyH_done (by kernel_rfl) ?_ _
  refine NoPanic.normal ?_
  have r9 : rSh.rd (W2.drew.setRow w.heap.size (rSh.v (D.seen l t).r)) ⟨w.heap.size, 0, none⟩ = some (D.seen l t).r := Shp.rd_set (S := rSh) _ _ _ f3
  go_wp2
  refine bodyPost_ret (v := .tuple #[.agg (rSh.v (D.seen l t).r), .bool (!(D.seen l t).d)]) (by rw [results_cell_tmp rfl]; simp [asAddr, Result.andThen, lvr_ofh r9]) rfl ⟨rfl, bel_setRow hZ.out.drew (Nat.le_refl _) _⟩
end Go.Proofs.YteiikacgcfidmaaGreatDoor
