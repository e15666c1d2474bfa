/-
  
-/
import Derived.Test.YtjlaffgbmcpldaaGreatDoorG31
import Derived.Test.YtjlaffgbmcpldaaGreatDoorG29
import Derived.Test.YtjlaffgbmcpldaaGreatDoorG30
import Derived.Deep.MidRow
set_option linter.unusedVariables false
set_option linter.unusedSimpArgs false
set_option maxRecDepth 100000
namespace Go.Proofs.YtjlaffgbmcpldaaGreatDoor
namespace Pn
open Go.RowKit
attribute [local go_sem ↓] Go.wp_at_zero Go.wp_at_succ
theorem Cnt.look {base : Nat} {w : World} {m : Option Nat} {l : D.Ps} (h : Cnt base w m l) {x : Nat} (hx : x < 18446744073709551616) : (Instr.lookup 49 (.map m) (.int .u64 (x : Nat)) false).run Tryz.prog w = .ok (.int .i64 (D.cn l x : Nat)) w := by
 cases m with
 | none =>
  rw [Maps.look_nil false law_w Tryz.underlying49 (zero_int w) (kl_is hx), h.none_ rfl x]
  rfl
 | some b =>
  obtain ⟨_, K, h1, _⟩ := h.some_ b rfl
  exact h1.look hx
end Pn
end Go.Proofs.YtjlaffgbmcpldaaGreatDoor
namespace Go.Proofs.YtjlaffgbmcpldaaGreatDoor
namespace Pn
open Go.RowKit
attribute [local go_sem ↓] Go.wp_at_zero Go.wp_at_succ
def D.put (l : D.Ps) (t : Nat) : D.Ps := if D.fr l < 64 then l.set (D.fr l) (some t) else l
def D.per (l : D.Ps) : Nat := if D.fr l < 64 then 0 else 6
theorem Tab.keys {base g : Nat} {w : World} {m : Option Nat} {l : D.Ps} (h : Tab base w g m l) {K : List Nat} {b : Nat} {w2 : World} {f : Nat → Nat} (hM : MpAt w2 b K f) (hK : ∀ x, x ∈ K ↔ 0 < D.cn l x) : K.length ≤ 64 := by
 have := D.nodup_len (l := l) hM.nodup fun x hx => D.cn_pos.1 ((hK x).1 hx)
 have := h.len
 omega
end Pn
end Go.Proofs.YtjlaffgbmcpldaaGreatDoor
namespace Go.Proofs.YtjlaffgbmcpldaaGreatDoor
namespace Pn
open Go.RowKit Go.Shelf
attribute [local go_sem ↓] Go.wp_at_zero Go.wp_at_succ
attribute [local go_sem] cell_ext
set_option maxHeartbeats 2000000 in
theorem sorted_any (Bm : Nat) (L : List Nat) (w : World) (hK : Ks w Bm L) (hlen : L.length ≤ 1000) (hso : ∀ ss : List Nat, ss.Perm L → SOk ss) :
  Calls Tryz.prog 75 #[.func (.func 113) #[] #[.pointer (some ⟨Bm, 0, none⟩)]] w fun e w' => ∃ (A : Option Addr) (c : Nat) (ys : List Nat), e = .returned (.slice A ys.length c) ∧ Row w' A ys.length (wds ys) ∧ Srtd L ys ∧ Below w.heap.size w w' := by
 have HSO := Lib.hid hso
 have CC := Lib.hid (collect_any Bm L w hK (by omega))
 clear hK
 go_enter Tryz.func75, Tryz.ntmps75
 go_wp2_with (first
  | (go_at_call 111; (with_reducible refine CC.out.mono ?_); rintro e w1 ⟨A, c, ss, hp, rfl, ho, hb1⟩; have CS := Lib.hid (HSO.out _ hp _ _ _ _ ho); have HB1 := Lib.hid hb1; have HP := Lib.hid hp; clear ho hb1 hp)
  | (go_at_call 112; (with_reducible refine CS.out.mono ?_); rintro e w2 ⟨rfl, ys, hr2, hs2, hb2, hq2⟩))
 go_ret
 exact ⟨A, c, ys, by rw [hs2.len]; rfl, by rw [hs2.len]; exact hr2, ⟨by rw [hs2.len, HP.out.length_eq], fun x => (hs2.mem x).trans HP.out.mem_iff, hs2.rise⟩, HB1.out.trans hb2⟩
structure Cm (w : World) (p m : Option Nat) : Prop where
 out : ∀ W, Below w.heap.size w W → Calls Tryz.prog 77 #[.pointer (p.map fun g => ⟨g, 0, none⟩)] W fun e w' => e = .returned (.map m) ∧ W = w'
theorem Cm.some {base g : Nat} {w : World} {m : Option Nat} {l : D.Ps} (h : Tab base w g m l) : Cm w (some g) m := ⟨fun W hW => counts_any (h.on hW)⟩
theorem Cm.nil (w : World) : Cm w none none := ⟨fun W _ => counts_nil W⟩
theorem times_any {w : World} {p m : Option Nat} (h : Cm w p m) {L : List Nat} (hK : ∀ b, m = some b → ∃ f, MpAt w b L f) (hN : m = none → L = []) (hL : L.length ≤ 1000) (hso : ∀ ss : List Nat, ss.Perm L → SOk ss) :
  Calls Tryz.prog 39 #[.pointer (p.map fun g => ⟨g, 0, none⟩)] w fun e w' => ∃ (A : Option Addr) (c : Nat) (ys : List Nat), e = .returned (.slice A ys.length c) ∧ Row w' A ys.length (wds ys) ∧ Srtd L ys ∧ Below w.heap.size w w' := by
 have CC := Lib.hid (h.out w (Below.refl _ _))
 have CK := Lib.hid (mkeys_any m w)
 have b1 := below_alloc_ w (.cells #[.map m] 49)
 have hc := (Blk.new w 49 #[.map m]).cell
 have hKs : Ks (w.alloc (.cells #[.map m] 49)) w.heap.size L := by
  cases m with
  | none => rw [hN rfl]; exact ks_none hc
  | some b =>
   obtain ⟨f, hM⟩ := hK b rfl
   exact ks_some hc (hM.on b1)
 have CS := Lib.hid (sorted_any w.heap.size L _ hKs hL hso)
 have HB := Lib.hid b1
 clear h hK hN b1 hc hKs
 go_enter Tryz.func39, Tryz.ntmps39
 go_wp2_with (first
  | (go_at_call 77; (with_reducible refine CC.out.mono ?_); rintro e w1 ⟨rfl, rfl⟩)
  | (go_at_call 76; (with_reducible refine CK.out.mono ?_); rintro e w2 ⟨rfl, rfl⟩)
  | (go_at_call 75; (with_reducible refine CS.out.mono ?_); rintro e w3 ⟨A, c, ys, rfl, hr, hs, hb⟩))
 go_ret
 exact ⟨A, c, ys, rfl, hr, hs, HB.out.trans (hb.mono HB.out.size)⟩
theorem srtd_uniq {L ys zs : List Nat} (hn : L.Nodup) (h : Srtd L ys) (k : Srtd L zs) : ys = zs := by
 have key : ∀ {L xs : List Nat}, L.Nodup → xs.length = L.length → (∀ x ∈ L, x ∈ xs) → xs.Perm L := by
  intro L
  induction L with
  | nil => intro xs _ hl _; rw [List.eq_nil_of_length_eq_zero hl]
  | cons a t ih =>
   intro xs hn hl hm
   obtain ⟨h1, h2⟩ := List.nodup_cons.1 hn
   have ha := hm a (by simp)
   have hp := List.perm_cons_erase ha
   refine hp.trans (List.Perm.cons a (ih h2 ?_ fun x hx => ?_))
   ·have := hp.length_eq
    simp only [List.length_cons] at this hl
    omega
   ·exact (List.mem_erase_of_ne fun e => h1 (by rw [← e]; exact hx)).2 (hm x (by simp [hx]))
 have up : ∀ {xs : List Nat}, Rise xs xs.length → xs.Pairwise (· ≤ ·) := fun {xs} hr => by
  rw [List.pairwise_iff_getElem]
  intro i j hi hj hij
  have := hr i j hij hj
  simpa [List.getD_eq_getElem?_getD, hi, hj] using this
 exact List.Perm.eq_of_pairwise (fun a b _ _ h1 h2 => Nat.le_antisymm h1 h2) (up h.rise) (up k.rise) ((key hn h.len fun x hx => (h.mem x).2 hx).trans (key hn k.len fun x hx => (k.mem x).2 hx).symm)
structure Tms (l : D.Ps) (ps : List Nat) : Prop where
 rise : ps.Pairwise (· < ·)
 mem : ∀ x, x ∈ ps ↔ 0 < D.cn l x
theorem Tms.srtd {l : D.Ps} {ps K : List Nat} (h : Tms l ps) (hK : K.Nodup) (hm : ∀ x, x ∈ K ↔ 0 < D.cn l x) : Srtd K ps := by
 have hn : ps.Nodup := h.rise.imp fun {a b} hab => by omega
 have hp : ps.Perm K := (List.perm_ext_iff_of_nodup hn hK).2 fun x => (h.mem x).trans (hm x).symm
 refine ⟨hp.length_eq, fun x => hp.mem_iff, fun a b h1 h2 => ?_⟩
 have ha : a < ps.length := by omega
 have := Nat.le_of_lt (List.pairwise_iff_getElem.1 h.rise a b ha h2 h1)
 simpa [List.getD_eq_getElem?_getD, ha, h2] using this
theorem tab_times {base g : Nat} {w : World} {m : Option Nat} {l : D.Ps} (h : Tab base w g m l) {ps : List Nat} (ht : Tms l ps) (hso : ∀ ss : List Nat, ss.Perm ps → SOk ss) :
  Calls Tryz.prog 39 #[.pointer (some ⟨g, 0, none⟩)] w fun e w' => ∃ (A : Option Addr) (c : Nat), e = .returned (.slice A ps.length c) ∧ Row w' A ps.length (wds ps) ∧ Below w.heap.size w w' := by
 obtain ⟨K, hK1, hK2, hK3, hK4, hK5⟩ : ∃ K : List Nat, K.Nodup ∧ (∀ x, x ∈ K ↔ 0 < D.cn l x) ∧ (∀ b, m = some b → ∃ f, MpAt w b K f) ∧ (m = none → K = []) ∧ K.length ≤ 64 := by
  cases hm : m with
  | none => exact ⟨[], List.nodup_nil, (fun x => by have := h.cnt.none_ hm x; simp [this]), (fun b e => by cases e), (fun _ => rfl), by simp⟩
  | some b =>
   obtain ⟨_, K, h1, h2⟩ := h.cnt.some_ b hm
   exact ⟨K, h1.nodup, h2, fun b' e => by injection e with e; subst e; exact ⟨_, h1⟩, (fun e => by cases e), h.keys h1 h2⟩
 have hS := ht.srtd hK1 hK2
 have hp : ps.Perm K := (List.perm_ext_iff_of_nodup (ht.rise.imp fun {a b} hab => by omega) hK1).2 fun x => (ht.mem x).trans (hK2 x).symm
 refine (times_any (p := some g) (Cm.some h) hK3 hK4 (by omega) fun ss hs => hso ss (hs.trans hp.symm)).mono ?_
 rintro e w' ⟨A, c, ys, he, hr, hs, hb⟩
 obtain rfl := srtd_uniq hK1 hs hS
 exact ⟨A, c, he, hr, hb⟩
end Pn
end Go.Proofs.YtjlaffgbmcpldaaGreatDoor
namespace Go.Proofs.YtjlaffgbmcpldaaGreatDoor
open Go.RowKit
attribute [local go_sem ↓] Go.wp_at_zero Go.wp_at_succ ld_k lv_k st_k eq_k ne_k bd_k ld_b lv_b st_b eq_b ne_b bd_25 ld_r lv_r st_rk eq_rk ne_rk bd_r ld_p lv_p st_px bd_p Nm.ld_a Nm.ld_n Nm.st_a Nm.st_n Nm.eq_a Nm.eq_n Nm.ne_a Nm.ne_n Nm.lv_a Nm.lv_n ld_a ld_n st_a st_n eq_a eq_n ne_a ne_n lv_a lv_n ld_l lv_l st_l bd_l bd_n bs_k ld_v lv_v st_v ne_v bd_v bs_v ld_w lv_w st_w ne_w bd_w bs_w ld_rh ld_d lv_rh lv_d st_r st_d ne_rh eq_rh ne_d bd_rh bd_d ld_x lv_x st_x bd_x bs_x ld_e lv_e st_e bd_e bs_e ne_e
attribute [local go_sem] run_ldk run_lvk run_stk run_eqk run_nek run_bdk_z run_ldb run_lvb run_stb run_eqb run_neb run_ldr run_lvr run_strk run_eqrk run_nerk run_bdr_z run_ldp run_lvp run_stpx Nm.run_ld_a Nm.run_ld_n Nm.run_st_n Nm.run_eq_a Nm.run_eq_n Nm.run_ne_a Nm.run_ne_n Nm.run_lv_a Nm.run_lv_n Nm.rd_new Nm.rd_old Nm.rd_drew Nm.rd_drewN run_ld_a run_ld_n run_sw_a run_sw_n run_eq_a run_eq_n run_ne_a run_ne_n run_lv_a run_lv_n st_z ne_z eq_z rd_new rd_old rd_drew rd_drewN Shp.rd_new Shp.rd_old Shp.rd_drew Shp.rd_drewN Shp.rd_set Shp.tn_new Shp.tn_old Shp.tn_drew Shp.tn_drewN tn_new tn_old tn_drew tn_drewN rd_set setRow_alloc run_stn3 run_stt15 run_lvl run_ldl run_stl run_bdl run_bdn run_bdn0 run_bsk Shp.rd_extk cell_ext run_ldv run_lvv run_stv run_nev run_bdv_z run_bdv_d run_bdv_r run_bsv1 run_bsv0 run_ldw run_lvw run_stw run_new run_bdw_3 run_bsw1 run_bsw0 run_ldrh run_ldd run_lvrh run_lvd run_str run_std run_nerh run_eqrh run_ned run_bdr0 run_bdd0 run_bdr1 run_bdd1 run_bdd9 run_ldx run_lvx run_stx run_lde run_lve run_bde run_bse1 run_bdv_3 Shp.rd_extk cell_ext
abbrev wT : TypeId := 131
structure Wc where
 p : Option Addr
 t : Option Addr
 k : D.Ky
 rn : Int
 gn : Int
def wcs (x : Wc) : List Value := .pointer x.p :: .pointer x.t :: (bys x.k.l ++ [.int .i64 x.rn, .int .i64 x.gn])
def wv (x : Wc) : Array Value := (wcs x).toArray
theorem wcs_k (x : Wc) {j : Nat} {u : Value} (h : (bys x.k.l)[j]? = some u) : (wcs x)[2 + j]? = some u := by
 have hj := (List.getElem?_eq_some_iff.1 h).1
 rw [wcs, show 2 + j = j + 1 + 1 by omega, List.getElem?_cons_succ, List.getElem?_cons_succ, List.getElem?_append_left hj, h]
theorem wcs_e (x : Wc) : (wcs x)[27]? = some (.int .i64 x.rn) ∧ (wcs x)[28]? = some (.int .i64 x.gn) := by
 have h : (bys x.k.l).length = 25 := by rw [bys_len, x.k.len]
 constructor
 ·show (bys x.k.l ++ _)[25]? = _
  rw [List.getElem?_append_right (by omega), h]; rfl
 ·show (bys x.k.l ++ _)[26]? = _
  rw [List.getElem?_append_right (by omega), h]; rfl
structure Wb (w : World) (g : Nat) (x : Wc) : Prop where
 blk : Blk w g wT (wv x)
section
variable {w w' : World} {g : Nat} {x : Wc}
theorem Wb.c (h : Wb w g x) {j : Nat} {u : Value} (hu : (wcs x)[j]? = some u) : w.cell? ⟨g, j, none⟩ = some u := by
 rw [h.blk.c]
 simpa [wv] using hu
theorem Wb.p_ (h : Wb w g x) : w.cell? ⟨g, 0, none⟩ = some (.pointer x.p) := h.c rfl
theorem Wb.t_ (h : Wb w g x) : w.cell? ⟨g, 1, none⟩ = some (.pointer x.t) := h.c rfl
theorem Wb.k_ (h : Wb w g x) : kS.rd w ⟨g, 2, none⟩ = some x.k := Shp.rd_of fun j u hu => by
 rw [add_o]
 exact h.c (wcs_k x hu)
theorem Wb.r_ (h : Wb w g x) : w.cell? ⟨g, 27, none⟩ = some (.int .i64 x.rn) := h.c (wcs_e x).1
theorem Wb.g_ (h : Wb w g x) : w.cell? ⟨g, 28, none⟩ = some (.int .i64 x.gn) := h.c (wcs_e x).2
theorem Wb.f_ (h : Wb w g x) (i : Nat) : w.frozen? ⟨g, i, none⟩ = false := h.blk.f i
theorem Wb.on (h : Wb w g x) (hb : Below w.heap.size w w') : Wb w' g x := ⟨h.blk.on hb⟩
theorem Wb.lt (h : Wb w g x) : g < w.heap.size := h.blk.lt
end
theorem blk_sets {g : Nat} {T : TypeId} : ∀ (l a b c : List Value) (w : World), b.length = l.length → Blk w g T (a ++ (b ++ c)).toArray → Blk (w.setCells g a.length l) g T (a ++ (l ++ c)).toArray
 | [], a, [], c, w, _, h => h
 | v :: l, a, u :: b, c, w, hl, h => by
  have h1 := h.put a.length v
  have e : ((a ++ (u :: b ++ c)).toArray.setIfInBounds a.length v) = ((a ++ [v]) ++ (b ++ c)).toArray := by simp
  rw [e] at h1
  have h2 := blk_sets l (a ++ [v]) b c _ (by simpa using hl) h1
  have e2 : (a ++ [v] ++ (l ++ c)) = a ++ (v :: l ++ c) := by simp
  rw [e2, List.length_append] at h2
  exact h2
theorem only_sets {S : Nat → Prop} {g : Nat} (hS : S g) : ∀ (l : List Value) (o : Nat) (w0 w : World), Only S w0 w → Only S w0 (w.setCells g o l)
 | [], _, _, _, h => h
 | v :: l, o, w0, w, h => only_sets hS l (o + 1) w0 _ (Only.set (p := ⟨g, o, none⟩) h (.inl hS) v)
theorem Wb.putk {w : World} {g : Nat} {x : Wc} (h : Wb w g x) (k : D.Ky) : (stk (.pointer (some ⟨g, 2, none⟩)) (.agg (kS.v k))).run Tryz.prog w = .ok () (w.setCells g 2 (bys k.l)) ∧ Wb (w.setCells g 2 (bys k.l)) g { x with k := k } ∧ Only (fun i => i = g) w (w.setCells g 2 (bys k.l)) := by
 have hl : (bys k.l).length = 25 := by rw [bys_len, k.len]
 have hxl : (bys x.k.l).length = 25 := by rw [bys_len, x.k.len]
 have ht : w.there g 2 25 := fun j hj => ⟨by rw [h.c (wcs_k x (List.getElem?_eq_getElem (by rw [hxl]; exact hj)))]; rfl, h.f_ (2 + j)⟩
 refine ⟨?_, ⟨?_⟩, only_sets (S := fun i => i = g) rfl _ _ _ _ (Only.self (fun i => i = g) w)⟩
 ·have hsz : (kS.v k).size = 25 := kS.v_size k
  exact run_storeAt_mid (P := Tryz.prog) w g 2 39 (kS.v k) (by rw [hsz]; exact ht) (by rw [hsz]; kernel_rfl) (kS.v_one k)
 ·exact blk_sets (bys k.l) [.pointer x.p, .pointer x.t] (bys x.k.l) [.int .i64 x.rn, .int .i64 x.gn] w (by rw [hl, hxl]) h.blk
theorem Wb.putr {w : World} {g : Nat} {x : Wc} (h : Wb w g x) (z : Int) : Wb (w.setCell ⟨g, 27, none⟩ (.int .i64 z)) g { x with rn := z } ∧ Only (fun i => i = g) w (w.setCell ⟨g, 27, none⟩ (.int .i64 z)) := by
 have hxl : (bys x.k.l).length = 25 := by rw [bys_len, x.k.len]
 refine ⟨⟨?_⟩, Only.set (p := ⟨g, 27, none⟩) (Only.self (fun i => i = g) w) (.inl rfl) _⟩
 have h1 := h.blk.put 27 (.int .i64 z)
 have e : (wv x).setIfInBounds 27 (.int .i64 z) = wv { x with rn := z } := by
  unfold wv wcs
  rw [List.setIfInBounds_toArray]
  congr 1
  rw [List.set_cons_succ, List.set_cons_succ, List.set_append_right _ _ (by omega), hxl]; rfl
 rwa [e] at h1
theorem Wb.putg {w : World} {g : Nat} {x : Wc} (h : Wb w g x) (z : Int) : Wb (w.setCell ⟨g, 28, none⟩ (.int .i64 z)) g { x with gn := z } ∧ Only (fun i => i = g) w (w.setCell ⟨g, 28, none⟩ (.int .i64 z)) := by
 have hxl : (bys x.k.l).length = 25 := by rw [bys_len, x.k.len]
 refine ⟨⟨?_⟩, Only.set (p := ⟨g, 28, none⟩) (Only.self (fun i => i = g) w) (.inl rfl) _⟩
 have h1 := h.blk.put 28 (.int .i64 z)
 have e : (wv x).setIfInBounds 28 (.int .i64 z) = wv { x with gn := z } := by
  unfold wv wcs
  rw [List.setIfInBounds_toArray]
  congr 1
  rw [List.set_cons_succ, List.set_cons_succ, List.set_append_right _ _ (by omega), hxl]; rfl
 rwa [e] at h1
noncomputable def bdS (ps : Array (Nat × Value)) : Sem Value := Instr.build 131 ps
theorem bd_S (ps : Array (Nat × Value)) : Instr.build 131 ps = bdS ps := rfl
def zW : Wc := ⟨none, none, D.zK, 0, 0⟩
theorem run_bdS0 (w : World) : (bdS #[]).run Tryz.prog w = .ok (.agg (wv zW)) w := by kernel_rfl
theorem run_bdS2 (w : World) (p t : Option Addr) : (bdS #[(0, .pointer p), (1, .pointer t)]).run Tryz.prog w = .ok (.agg (wv ⟨p, t, D.zK, 0, 0⟩)) w := by kernel_rfl
attribute [local go_sem ↓] bd_S
attribute [local go_sem] run_bdS0 run_bdS2
theorem wnew_any (s t : Nat) (w : World) : Calls Tryz.prog 14 #[.pointer (some ⟨s, 0, none⟩), .pointer (some ⟨t, 0, none⟩)] w fun e w' => e = .returned (.tuple #[.pointer (some ⟨w.heap.size, 0, none⟩), .int .i64 0]) ∧ Wb w' w.heap.size ⟨some ⟨s, 0, none⟩, some ⟨t, 0, none⟩, D.zK, 0, 0⟩ ∧ Below w.heap.size w w' := by
 have h := Blk.new w wT (wv ⟨some ⟨s, 0, none⟩, some ⟨t, 0, none⟩, D.zK, 0, 0⟩)
 have b := below_alloc_ w (.cells (wv ⟨some ⟨s, 0, none⟩, some ⟨t, 0, none⟩, D.zK, 0, 0⟩) wT)
 go_enter Tryz.func14, Tryz.ntmps14
 go_wp2
 go_ret2
 exact ⟨rfl, ⟨h⟩, b⟩
theorem wnew_no (p t : Option Addr) (w : World) (h : p = none ∨ t = none) : Calls Tryz.prog 14 #[.pointer p, .pointer t] w fun e w' => e = .returned (.tuple #[.pointer none, .int .i64 1]) ∧ w' = w := by
 by_cases hp : p = none
 ·subst hp
  go_enter Tryz.func14, Tryz.ntmps14
  go_wp2
  go_ret2
  exact ⟨rfl, rfl⟩
 ·obtain ⟨a, rfl⟩ : ∃ a, p = some a := Option.ne_none_iff_exists'.1 hp
  obtain rfl : t = none := h.elim (fun h => by cases h) id
  go_enter Tryz.func14, Tryz.ntmps14
  go_wp2
  go_ret2
  exact ⟨rfl, rfl⟩
theorem orIdle_any (g : Nat) (w : World) : Calls Tryz.prog 61 #[.pointer (some ⟨g, 0, none⟩)] w fun e w' => e = .returned (.pointer (some ⟨g, 0, none⟩)) ∧ w' = w := by
 go_enter Tryz.func61, Tryz.ntmps61
 go_wp2
 go_ret
 exact ⟨rfl, rfl⟩
theorem orIdle_nil (w : World) : Calls Tryz.prog 61 #[.pointer none] w fun e w' => e = .returned (.pointer (some ⟨w.heap.size, 0, none⟩)) ∧ Wb w' w.heap.size zW ∧ Below w.heap.size w w' := by
 have h := Blk.new w wT (wv zW)
 have b := below_alloc_ w (.cells (wv zW) wT)
 go_enter Tryz.func61, Tryz.ntmps61
 go_wp2
 go_ret
 exact ⟨rfl, ⟨h⟩, b⟩
end Go.Proofs.YtjlaffgbmcpldaaGreatDoor
