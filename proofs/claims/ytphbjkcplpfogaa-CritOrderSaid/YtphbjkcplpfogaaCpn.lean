/-
  The nodes past which bits lead, of a nil tree: none; what lies at a path's end.
-/
import Derived.Test.YtphbjkcplpfogaaCps
set_option linter.unusedVariables false
set_option linter.unusedSimpArgs false
set_option maxRecDepth 100000
namespace Go.Proofs.Ytphbjkcplpfogaa
open Go.RowKit Go.Shelf
attribute [local go_sem] Oper.semAt_some
attribute [local go_sem ↓] Go.wp_at_zero Go.wp_at_succ ld_k lv_k st_k eq_k ne_k bd_k ld_b lv_b st_b eq_b ne_b bd_25 ld_r lv_r st_rk eq_rk ne_rk bd_r ld_p lv_p st_px bd_p Nm.ld_a Nm.ld_n Nm.st_a Nm.st_n Nm.eq_a Nm.eq_n Nm.ne_a Nm.ne_n Nm.lv_a Nm.lv_n ld_a ld_n st_a st_n eq_a eq_n ne_a ne_n lv_a lv_n ld_l lv_l st_l bd_l bd_n bs_l bs_k
attribute [local go_sem] run_ldk run_lvk run_stk run_eqk run_nek run_bdk_z run_ldb run_lvb run_stb run_eqb run_neb run_ldr run_lvr run_strk run_eqrk run_nerk run_bdr_z run_ldp run_lvp run_stpx Nm.run_ld_a Nm.run_ld_n Nm.run_st_n Nm.run_eq_a Nm.run_eq_n Nm.run_ne_a Nm.run_ne_n Nm.run_lv_a Nm.run_lv_n Nm.rd_new Nm.rd_old Nm.rd_drew Nm.rd_drewN run_ld_a run_ld_n run_sw_a run_sw_n run_eq_a run_eq_n run_ne_a run_ne_n run_lv_a run_lv_n st_z ne_z eq_z rd_new rd_old rd_drew rd_drewN Shp.rd_new Shp.rd_old Shp.rd_drew Shp.rd_drewN Shp.rd_set Shp.tn_new Shp.tn_old Shp.tn_drew Shp.tn_drewN tn_new tn_old tn_drew tn_drewN rd_set setRow_alloc run_stn3 run_stt15 run_lvl run_ldl run_stl run_bdl run_bdn run_bdn0 run_bsl run_bsk Shp.rd_extk cell_ext

set_option maxHeartbeats 4000000 in
theorem psn_in (n : Nat) (hn : 4 ≤ n) (l Bk Bt Bb : Nat) (k : D.Ky) (d : Nat) (J : List { t : Tk // t ∈ pth k d none } → World → Prop)
    (W : World) (hk : kS.rd W ⟨Bk, 0, none⟩ = some k) (ht : W.cell? ⟨Bt, 0, none⟩ = some (.pointer none)) (hb : W.cell? ⟨Bb, 0, none⟩ = some (.int .i64 (d : Nat)))
    (hA : AbidesFrom W.heap.size J) (h0 : J [] W) :
    CallsIn Fence.wide n Try.prog 60 #[.func (.yield l) #[] #[], .pointer (some ⟨Bk, 0, none⟩), .pointer (some ⟨Bt, 0, none⟩), .pointer (some ⟨Bb, 0, none⟩)] W fun e W' => (∃ v, e = .returned v) ∧ J [] W' := by
  have CB := Lib.hid (fun w => kbytes_any k w)
  have HA := Lib.hid hA
  have lk := Shp.rd_lt hk
  have lt1 := World.block_lt_of_cell? W _ ht
  have lb := World.block_lt_of_cell? W _ hb
  clear hA
  have hn1 : 1 ≤ n - 1 := by omega
  refine callsIn_of_wp Try.func60 rfl trivial ?_ rfl
  simp only [Try.ntmps60, List.size_toArray, List.length_cons, List.length_nil, Nat.reduceAdd, Nat.reduceSub, Array.replicate_succ, Array.replicate_zero, List.push_toArray, List.append_toArray, List.nil_append, List.cons_append]
  gi_wp2
  refine ⟨trivial, fun _ => by omega, ?_⟩
  refine (callsIn_wide.2 (CB.out _)).mono ?_
  rintro e w1 ⟨rfl, b1⟩
  have bF := b1.alloc b1.size (.cells (kS.v k) 104)
  have c2 := cell_kept_ bF ht
  gi_wp2
  refine ⟨trivial, fun _ => by omega, ?_⟩
  refine (callsIn_wide.2 (top_nil _)).mono ?_
  rintro e w2 ⟨rfl, rfl⟩
  have bG := bF.alloc bF.size (.cells #[.pointer none] 77)
  gi_wp2
  have hbb := cell_kept_ bG hb
  have hJ0 := HA.out [] W _ none h0 (grown_none bG) (fun r e => by cases e)
  obtain ⟨Wf, hWf⟩ : ∃ Wf, (w1.alloc (.cells (kS.v k) 104)).alloc (.cells #[.pointer none] 77) = Wf := ⟨_, rfl⟩
  rw [hWf] at hbb hJ0 bG
  try rw [hWf]
  have hle : W.heap.size ≤ Wf.heap.size := bG.size
  clear hWf c2 b1 hb ht hk h0 CB bF
  gi_loopw [6] (fun s wr => s = .pointer none ∧ wr.cell? ⟨Bb, 0, none⟩ = some (.int .i64 (d : Nat)) ∧ J [] wr) (fun s wr => 0)
  case atStart => exact ⟨rfl, hbb, hJ0⟩
  case round =>
    clear hbb hJ0
    obtain ⟨rfl, hbb, hJ⟩ := hrel
    have HJ := Lib.hid (fun q => HA.out [] wr (wr.drewN q) none hJ (grown_none ⟨rfl, rfl, rfl, Nat.le_refl _, fun _ _ => rfl⟩) (fun r e => by cases e))
    clear hJ
    gi_wp2
    refine wpIn_wide.2 ?_
    go_quiet (fail)
    gi_wp2
    go_end0
    exact ⟨⟨_, rfl⟩, HJ.out _⟩
theorem psn_stops (n : Nat) (hn : 4 ≤ n) (Bk Bt Bb : Nat) (k : D.Ky) (d : Nat) (Kq : World → World → Prop)
    (w : World) (hk : kS.rd w ⟨Bk, 0, none⟩ = some k) (ht : w.cell? ⟨Bt, 0, none⟩ = some (.pointer none)) (hb : w.cell? ⟨Bb, 0, none⟩ = some (.int .i64 (d : Nat))) :
    SeqStopsK Fence.wide n Try.prog 60 #[.pointer (some ⟨Bk, 0, none⟩), .pointer (some ⟨Bt, 0, none⟩), .pointer (some ⟨Bb, 0, none⟩)] (fun y : { t : Tk // t ∈ pth k d none } => #[.pointer (some ⟨y.1.ad, 0, none⟩)]) Kq (fun ys => ys.map (·.1) = pth k d none) (fun _ => True) (pth k d none).length w := fun l J Jx W hW hJ _ hY h0 =>
  (psn_in n hn l Bk Bt Bb k d J W (Shp.rd_on hk hW) (cell_kept_ hW ht) (cell_kept_ hW hb) hJ h0).mono fun e W' ⟨h1, h2⟩ => ⟨h1, .inl ⟨[], rfl, h2⟩⟩
/-- Where bits end, beside the nodes that they passed. -/
def stp (k : D.Ky) (p : Addr) (t : Tk) : Addr := ⟨t.ad, 1 + D.sd k t.bit, none⟩
def plc (k : D.Ky) (p : Addr) (l : List Tk) : Addr := l.foldl (stp k) p
theorem plc_app (k : D.Ky) (p : Addr) (l : List Tk) (t : Tk) : plc k p (l ++ [t]) = ⟨t.ad, 1 + D.sd k t.bit, none⟩ := by simp [plc, stp]
/-- What bits lead to, from a root on. -/
def subo (k : D.Ky) (d : Nat) : Option Tk → Option Tk
  | none => none
  | some t => some (t.sub k d)
theorem sub_cell {w : World} {k : D.Ky} {d : Nat} (hd : d ≤ 200) : ∀ {t : Tk} {p : Addr}, Nd w t → t.wf → w.cell? p = some (.pointer (some ⟨t.ad, 0, none⟩)) → w.cell? (plc k p (t.path k d)) = some (.pointer (some ⟨(t.sub k d).ad, 0, none⟩))
  | .lf _ _ _, p, _, _, hp => hp
  | .br a b l r, p, h, hw, hp => by
    simp only [Cr.Tr.path, Cr.Tr.sub]
    by_cases hb : b < d
    · rw [if_pos hb, if_pos hb]
      by_cases hc : Cr.Bits.bt k b = true
      · rw [if_pos hc, if_pos hc]
        refine sub_cell hd (p := ⟨a, 1 + D.sd k b, none⟩) h.2.2 hw.2.2.2.2.2 ?_
        exact kid_cell (t := .br a b l r) h hw.1 (c := true) hc
      · have hc : Cr.Bits.bt k b = false := by simpa using hc
        rw [if_neg (by rw [hc]; decide), if_neg (by rw [hc]; decide)]
        refine sub_cell hd (p := ⟨a, 1 + D.sd k b, none⟩) h.2.1 hw.2.2.2.2.1 ?_
        exact kid_cell (t := .br a b l r) h hw.1 (c := false) hc
    · rw [if_neg hb, if_neg hb]; exact hp
theorem TR.sub_cell {w : World} {g : Nat} {o : Option Tk} (h : TR w g o) {k : D.Ky} {d : Nat} (hd : d ≤ 200) : w.cell? (plc k ⟨g, 0, none⟩ (pth k d o)) = some (.pointer (pt (subo k d o))) := by
  cases o with
  | none => exact h.root
  | some t => exact Go.Proofs.Ytphbjkcplpfogaa.sub_cell hd (h.nd t rfl) (h.wf t rfl) h.root
theorem mem_path {w : World} {k : D.Ky} {d : Nat} : ∀ {t : Tk} {y : Tk}, Nd w t → t.wf → y ∈ t.path k d → Nd w y ∧ y.wf ∧ y.bit < d ∧ ∀ g ∈ y.bl, g ∈ t.bl
  | .lf _ _ _, y, _, _, hy => by simp [Cr.Tr.path] at hy
  | .br a b l r, y, h, hw, hy => by
    simp only [Cr.Tr.path] at hy
    by_cases hb : b < d
    · rw [if_pos hb] at hy
      rcases List.mem_cons.1 hy with rfl | hy
      · exact ⟨h, hw, hb, fun g hg => hg⟩
      · by_cases hc : Cr.Bits.bt k b = true
        · rw [if_pos hc] at hy
          obtain ⟨h1, h2, h3, h4⟩ := mem_path h.2.2 hw.2.2.2.2.2 hy
          exact ⟨h1, h2, h3, fun g hg => by simp [Cr.Tr.bl, h4 g hg]⟩
        · rw [if_neg hc] at hy
          obtain ⟨h1, h2, h3, h4⟩ := mem_path h.2.1 hw.2.2.2.2.1 hy
          exact ⟨h1, h2, h3, fun g hg => by simp [Cr.Tr.bl, h4 g hg]⟩
    · rw [if_neg hb] at hy; cases hy
theorem TR.mem {w : World} {g : Nat} {o : Option Tk} (h : TR w g o) {k : D.Ky} {d : Nat} {y : Tk} (hy : y ∈ pth k d o) : Nd w y ∧ y.wf ∧ y.bit < d ∧ ∃ t, o = some t ∧ ∀ g ∈ y.bl, g ∈ t.bl := by
  cases o with
  | none => cases hy
  | some t =>
    obtain ⟨h1, h2, h3, h4⟩ := mem_path (h.nd t rfl) (h.wf t rfl) hy
    exact ⟨h1, h2, h3, t, rfl, h4⟩
/-- What goes on from a world, but some of its blocks. -/
structure Ov (n0 : Nat) (X : List Nat) (w W : World) : Prop where
  os : W.os = w.os
  tape : W.tape = w.tape
  output : W.output = w.output
  size : w.heap.size ≤ W.heap.size
  block : ∀ q, q < n0 → q ∉ X → W.heap[q]? = w.heap[q]?
theorem Ov.refl (n0 : Nat) (X : List Nat) (w : World) : Ov n0 X w w := ⟨rfl, rfl, rfl, Nat.le_refl _, fun _ _ _ => rfl⟩
theorem Ov.trans {n0 : Nat} {X : List Nat} {w W V : World} (h : Ov n0 X w W) (k : Ov n0 X W V) : Ov n0 X w V :=
  ⟨k.os.trans h.os, k.tape.trans h.tape, k.output.trans h.output, Nat.le_trans h.size k.size, fun q h1 h2 => (k.block q h1 h2).trans (h.block q h1 h2)⟩
theorem Ov.on {n0 : Nat} {X : List Nat} {w W V : World} (h : Ov n0 X w W) (hn : n0 ≤ w.heap.size) (hb : Below W.heap.size W V) : Ov n0 X w V :=
  ⟨hb.os.trans h.os, hb.tape.trans h.tape, hb.output.trans h.output, Nat.le_trans h.size hb.size, fun q h1 h2 => (hb.block q (by have := h.size; omega)).trans (h.block q h1 h2)⟩
theorem Ov.grown {n0 : Nat} {X : List Nat} {w W V : World} {row : Option Nat} (h : Ov n0 X w W) (hn : n0 ≤ w.heap.size) (hg : W.grownBy V row) (hr : ∀ r, row = some r → n0 ≤ r ∨ r ∈ X) : Ov n0 X w V :=
  ⟨hg.os.trans h.os, hg.tape.trans h.tape, hg.output.trans h.output, Nat.le_trans h.size hg.size, fun q h1 h2 => (hg.block q (by have := h.size; omega) (fun e => by rcases hr q e.symm with c | c; omega; exact h2 c)).trans (h.block q h1 h2)⟩
theorem Ov.set {n0 : Nat} {X : List Nat} {w W : World} (h : Ov n0 X w W) {a : Addr} (ha : a.block ∈ X) (v : Value) : Ov n0 X w (W.setCell a v) :=
  ⟨h.os, h.tape, h.output, by have := h.size; simp [World.setCell]; exact this, fun q h1 h2 => (Below.heap_setCell W a v q (fun e => h2 (by rw [e]; exact ha))).trans (h.block q h1 h2)⟩
theorem Ov.put {n0 : Nat} {X : List Nat} {w W : World} (h : Ov n0 X w W) {l : Nat} (hl : n0 ≤ l) (o : Obj) : Ov n0 X w (W.putObj l o) :=
  ⟨h.os, h.tape, h.output, by have := h.size; simp [World.putObj]; exact this, fun q h1 h2 => (World.putObj_heap_other (by omega)).trans (h.block q h1 h2)⟩
theorem Ov.below {n0 b : Nat} {X : List Nat} {w W : World} (h : Ov n0 X w W) (hb : b ≤ n0) (hx : ∀ x ∈ X, b ≤ x) : Below b w W :=
  ⟨h.os, h.tape, h.output, h.size, fun q hq => h.block q (by omega) (fun c => by have := hx q c; omega)⟩
theorem Ov.nd {n0 : Nat} {X : List Nat} {w W : World} (h : Ov n0 X w W) {t : Tk} (ht : Nd w t) (hk : ∀ g ∈ t.bl, g < n0 ∧ g ∉ X) : Nd W t := ht.kept fun g hg => h.block g (hk g hg).1 (hk g hg).2
theorem Ov.own {n0 B : Nat} {X : List Nat} {w : World} (hn : n0 ≤ w.heap.size) (hB : n0 ≤ B) {β : Type} (p : β → Prop) : OwnFrom B (fun (s : β) W => Ov n0 X w W ∧ p s) := fun s W W' row hs hg hr =>
  ⟨hs.1.grown hn hg fun r e => .inl (Nat.le_trans hB (hr r e).1), hs.2⟩
theorem blk_own {B g : Nat} {t : TypeId} {β : Type} (f : β → Array Value) : OwnFrom B (fun (s : β) W => Blk W g t (f s)) := fun s W W' row hs hg hr =>
  hs.grown hg (by intro e'; obtain ⟨_, o, ho, hc⟩ := hr _ e'.symm; rw [hs.out] at ho; injection ho with ho; subst ho; cases hc)
theorem ownFrom_and {β : Type} {B : Nat} {I J : β → World → Prop} (h : OwnFrom B I) (k : OwnFrom B J) : OwnFrom B (fun s W => I s W ∧ J s W) := fun s W W' row hs hg hr => ⟨h s W W' row hs.1 hg hr, k s W W' row hs.2 hg hr⟩
end Go.Proofs.Ytphbjkcplpfogaa
