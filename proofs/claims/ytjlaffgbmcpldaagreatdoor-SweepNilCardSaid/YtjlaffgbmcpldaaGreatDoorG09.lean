/-
  
-/
import Derived.Test.YtjlaffgbmcpldaaGreatDoorG08
import Derived.OpenShut
import Derived.Deep.DrawnRows
import Derived.Laws.CopyOwn
import Derived.Laws.ResultCell
import Derived.Test.YtjlaffgbmcpldaaGreatDoorG07
set_option linter.unusedVariables false
set_option linter.unusedSimpArgs false
namespace Go.Proofs.YtjlaffgbmcpldaaGreatDoor
open Go.RowKit
attribute [local go_sem ↓] Go.wp_at_zero Go.wp_at_succ ld_a ld_n st_a st_n eq_a eq_n ne_a ne_n lv_a lv_n lp_3 lp_4
attribute [local go_sem] run_ld_a run_ld_n run_sw_a run_sw_n run_eq_a run_eq_n run_ne_a run_ne_n run_lv_a run_lv_n st_z ne_z eq_z rd_new rd_old rd_drew rd_drewN rd_set tn_new tn_old tn_drew tn_drewN setRow_alloc run_lp_3 run_lp_4


structure On where
 n : Nat
 os : Array Obj
 deriving Inhabited
def ext (w : World) (p : On) : World := { w with heap := w.heap ++ p.os, drawn := p.n }
theorem ext_heap (w : World) (p : On) {k : Nat} (h : k < w.heap.size) : (ext w p).heap[k]? = w.heap[k]? := by simp [ext, Array.getElem?_append, h]
theorem ext_size (w : World) (p : On) : w.heap.size ≤ (ext w p).heap.size := by simp [ext]
theorem ext_below (w : World) (p : On) : Below w.heap.size w (ext w p) := ⟨rfl, rfl, rfl, ext_size w p, fun k hk => ext_heap w p hk⟩
theorem ext_of {w w' : World} (h : Below w.heap.size w w') : ∃ p, w' = ext w p := by
 obtain ⟨heap, tape, drawn, os, output⟩ := w
 obtain ⟨heap', tape', drawn', os', output'⟩ := w'
 obtain ⟨h1, h2, h3, h4, h5⟩ := h
 simp only at h1 h2 h3 h4 h5
 subst h1 h2 h3
 refine ⟨⟨drawn', heap'.extract heap.size heap'.size⟩, ?_⟩
 simp only [ext]
 congr 1
 apply Array.ext_getElem?
 intro i
 rw [Array.getElem?_append]
 by_cases hi : i < heap.size
 ·rw [if_pos hi]; exact h5 i hi
 ·rw [if_neg hi, Array.getElem?_extract]
  split
  ·congr 1; omega
  ·rw [Array.getElem?_eq_none (by omega)]
theorem ext_to {w w' : World} (h : ∃ p, w' = ext w p) : Below w.heap.size w w' := by
 obtain ⟨p, rfl⟩ := h
 exact ext_below w p
theorem wp_region_ext {P : Program} {id : Nat} {Q : Exit → Act → World → Prop} {a : Act} {w : World} {l : List Oper} (hm : P.follows .mixedOrders = true) (hB : Region.lexB .any l.toArray = true)
  (h : wpQuiet P l.toArray (fun w' => ∃ p : On, w' = ext w p) (fun a' => ∀ w', (∃ p : On, w' = ext w p) → Q .normal a' w') l a) : (Code.region id l.toArray true).wp P Q a w :=
 wp_region_quiet (C := fun w' => ∃ p : On, w' = ext w p) hm hB ⟨⟨w.drawn + 1, #[]⟩, by simp [ext]⟩ (by simpa using h)
theorem calls_ext {P : Program} {f : FuncId} {args : Array Value} {w : World} {p : On} {v : Value}
  (h : Calls P f args (ext w p) fun e w' => e = .returned v ∧ Below (ext w p).heap.size (ext w p) w') : Calls P f args (ext w p) fun e w'' => e = .returned v ∧ ∃ p : On, w'' = ext w p :=
 h.mono fun _ _ ⟨he, hb⟩ => ⟨he, ext_of ((ext_below w p).trans (hb.mono (ext_size w p)))⟩
theorem rd_ext (w : World) (p : On) (a : Addr) (h : a.block < w.heap.size) : rd (ext w p) a = rd w a := rd_to (ext_heap w p h)
theorem cell_ext (w : World) (p : On) (a : Addr) (h : a.block < w.heap.size) : (ext w p).cell? a = w.cell? a := World.cell?_of_block (ext_heap w p h)
structure From (w0 w : World) : Prop where
 below : Below w0.heap.size w0 w
theorem From.alloc {w0 w : World} (h : From w0 w) (o : Obj) : From w0 (w.alloc o) := ⟨h.below.alloc h.below.size o⟩
theorem From.drewN {w0 w : World} (h : From w0 w) (n : Nat) : From w0 (w.drewN n) := ⟨below_drewN h.below n⟩
theorem From.on {w0 w w' : World} (h : From w0 w) (hb : Below w.heap.size w w') : From w0 w' := ⟨h.below.trans (hb.mono h.below.size)⟩
theorem From.rd {w0 w : World} {a : Addr} {x : D.Tg} (h : From w0 w) (hr : rd w0 a = some x) : rd w a = some x := rd_on hr h.below
theorem From.lt {w0 w : World} (h : From w0 w) {n : Nat} (hn : n < w0.heap.size) : n < w.heap.size := Nat.lt_of_lt_of_le hn h.below.size


end Go.Proofs.YtjlaffgbmcpldaaGreatDoor
set_option maxRecDepth 100000
namespace Go.Proofs.YtjlaffgbmcpldaaGreatDoor
open Go.RowKit
attribute [local go_sem ↓] Go.wp_at_zero Go.wp_at_succ ld_k lv_k st_k eq_k ne_k bd_k ld_b lv_b st_b eq_b ne_b bd_25 ld_r lv_r st_rk eq_rk ne_rk bd_r ld_p lv_p st_px bd_p Nm.ld_a Nm.ld_n Nm.st_a Nm.st_n Nm.eq_a Nm.eq_n Nm.ne_a Nm.ne_n Nm.lv_a Nm.lv_n ld_a ld_n st_a st_n eq_a eq_n ne_a ne_n lv_a lv_n
attribute [local go_sem] run_ldk run_lvk run_stk run_eqk run_nek run_bdk_z run_ldb run_lvb run_stb run_eqb run_neb run_ldr run_lvr run_strk run_eqrk run_nerk run_bdr_z run_ldp run_lvp run_stpx Nm.run_ld_a Nm.run_ld_n Nm.run_st_n Nm.run_eq_a Nm.run_eq_n Nm.run_ne_a Nm.run_ne_n Nm.run_lv_a Nm.run_lv_n Nm.rd_new Nm.rd_old Nm.rd_drew Nm.rd_drewN run_ld_a run_ld_n run_sw_a run_sw_n run_eq_a run_eq_n run_ne_a run_ne_n run_lv_a run_lv_n st_z ne_z eq_z rd_new rd_old rd_drew rd_drewN Shp.rd_new Shp.rd_old Shp.rd_drew Shp.rd_drewN Shp.rd_set Shp.tn_new Shp.tn_old Shp.tn_drew Shp.tn_drewN setRow_alloc run_stn3 run_stt15 bdk1 bdk2 bdk3 bdk4


set_option maxHeartbeats 4000000 in
theorem upto_any (x : D.Ky) (d : Int) (w : World) : Calls Tryz.prog 137 #[.agg (kS.v x), .int .i64 d] w fun e w' => e = .returned (.agg (kS.v (D.upto x d))) ∧ Below w.heap.size w w' := by
 obtain ⟨W0, hW0⟩ : ∃ W, (w.alloc (.cells (kS.v x) 39)).alloc (.cells z25 39) = W := ⟨_, rfl⟩
 have f0 : kS.rd W0 ⟨w.heap.size, 0, none⟩ = some x := by rw [← hW0]; exact Shp.rd_on (Shp.rd_new (S := kS) w _ _ x rfl) (below_alloc_ _ _)
 have k0 : Shp.tn 25 W0 (w.heap.size + 1) = true := by rw [← hW0]; exact Shp.tn_new _ _ _ _ _ (by simp) rfl
 have z0 : Below w.heap.size w W0 := by rw [← hW0]; exact (below_alloc_ _ _).alloc (by simp) _
 unfold z25 at hW0
 obtain ⟨c0, c1, c2, c3, c4⟩ := kf0 f0
 by_cases h0 : d = 0
 ·subst h0
  go_enter Tryz.func137, Tryz.ntmps137
  go_wp2
  exact bodyPost_ret (v := .agg (kS.v D.zK)) (by rw [Nm.results_cell1 rfl]; simp [asAddr, Result.andThen, lvk_of (Shp.rd_set (S := kS) W0 (w.heap.size + 1) D.zK k0)]) rfl ⟨by rfl, below_setRow z0 (Nat.le_succ _) _⟩
 by_cases h1 : d = 1
 ·subst h1
  go_enter Tryz.func137, Tryz.ntmps137
  go_wp2
  exact bodyPost_ret (v := .agg (kS.v (D.mkK x.k 0 0 Nm.D.zero D.zero))) (by rw [Nm.results_cell1 rfl]; simp [asAddr, Result.andThen, lvk_of (Shp.rd_set (S := kS) W0 (w.heap.size + 1) (D.mkK x.k 0 0 Nm.D.zero D.zero) k0)]) rfl ⟨by rfl, below_setRow z0 (Nat.le_succ _) _⟩
 by_cases h2 : d = 2
 ·subst h2
  go_enter Tryz.func137, Tryz.ntmps137
  go_wp2
  exact bodyPost_ret (v := .agg (kS.v (D.mkK x.k x.p 0 Nm.D.zero D.zero))) (by rw [Nm.results_cell1 rfl]; simp [asAddr, Result.andThen, lvk_of (Shp.rd_set (S := kS) W0 (w.heap.size + 1) (D.mkK x.k x.p 0 Nm.D.zero D.zero) k0)]) rfl ⟨by rfl, below_setRow z0 (Nat.le_succ _) _⟩
 by_cases h3 : d = 3
 ·subst h3
  go_enter Tryz.func137, Tryz.ntmps137
  go_wp2
  exact bodyPost_ret (v := .agg (kS.v (D.mkK x.k x.p x.a Nm.D.zero D.zero))) (by rw [Nm.results_cell1 rfl]; simp [asAddr, Result.andThen, lvk_of (Shp.rd_set (S := kS) W0 (w.heap.size + 1) (D.mkK x.k x.p x.a Nm.D.zero D.zero) k0)]) rfl ⟨by rfl, below_setRow z0 (Nat.le_succ _) _⟩
 by_cases h4 : d = 4
 ·subst h4
  go_enter Tryz.func137, Tryz.ntmps137
  go_wp2
  exact bodyPost_ret (v := .agg (kS.v (D.mkK x.k x.p x.a x.n D.zero))) (by rw [Nm.results_cell1 rfl]; simp [asAddr, Result.andThen, lvk_of (Shp.rd_set (S := kS) W0 (w.heap.size + 1) (D.mkK x.k x.p x.a x.n D.zero) k0)]) rfl ⟨by rfl, below_setRow z0 (Nat.le_succ _) _⟩
 rw [show D.upto x d = x by unfold D.upto; rw [if_neg h0, if_neg h1, if_neg h2, if_neg h3, if_neg h4]]
 go_enter Tryz.func137, Tryz.ntmps137
 go_wp2
 exact bodyPost_ret (v := .agg (kS.v x)) (by rw [Nm.results_cell1 rfl]; simp [asAddr, Result.andThen, lvk_of (Shp.rd_set (S := kS) W0 (w.heap.size + 1) x k0)]) rfl ⟨by rfl, below_setRow z0 (Nat.le_succ _) _⟩

theorem end_any (d : Int) (w : World) : Calls Tryz.prog 136 #[.int .i64 d] w fun e w' => e = .returned (.int .i64 (D.ends d : Int)) ∧ w = w' := by
 by_cases h1 : d = 1
 ·subst h1
  go_enter Tryz.func136, Tryz.ntmps136
  go_wp2
  go_ret
  exact ⟨by rfl, by rfl⟩
 by_cases h2 : d = 2
 ·subst h2
  go_enter Tryz.func136, Tryz.ntmps136
  go_wp2
  go_ret
  exact ⟨by rfl, by rfl⟩
 by_cases h3 : d = 3
 ·subst h3
  go_enter Tryz.func136, Tryz.ntmps136
  go_wp2
  go_ret
  exact ⟨by rfl, by rfl⟩
 by_cases h4 : d = 4
 ·subst h4
  go_enter Tryz.func136, Tryz.ntmps136
  go_wp2
  go_ret
  exact ⟨by rfl, by rfl⟩
 by_cases h5 : d = 5
 ·subst h5
  go_enter Tryz.func136, Tryz.ntmps136
  go_wp2
  go_ret
  exact ⟨by rfl, by rfl⟩
 rw [show D.ends d = 0 by unfold D.ends; rw [if_neg h1, if_neg h2, if_neg h3, if_neg h4, if_neg h5]]
 go_enter Tryz.func136, Tryz.ntmps136
 go_wp2
 go_ret
 exact ⟨by rfl, by rfl⟩

end Go.Proofs.YtjlaffgbmcpldaaGreatDoor
namespace Go.Proofs.YtjlaffgbmcpldaaGreatDoor
open Go.RowKit
attribute [local go_sem ↓] Go.wp_at_zero Go.wp_at_succ ld_a ld_n st_a st_n eq_a eq_n ne_a ne_n lv_a lv_n lp_3 lp_4
attribute [local go_sem] run_ld_a run_ld_n run_sw_a run_sw_n run_eq_a run_eq_n run_ne_a run_ne_n run_lv_a run_lv_n st_z ne_z rd_new rd_old rd_drew rd_drewN rd_set tn_new tn_old tn_drew tn_drewN setRow_alloc run_lp_3 run_lp_4

theorem cell_keep {w w1 : World} {p : Addr} {v : Value} (hb : Below w.heap.size w w1) (hc : w.cell? p = some v) : w1.cell? p = some v := (hb.cell (World.block_lt_of_cell? w p hc)).trans hc
theorem Own.far {base n c : Nat} {w : World} {A : Option Addr} {l : List Nat} (h : Own base w A n c l) {p : Addr} (hp : p.block < base) (u : Value) : Own base (w.setCell p u) A n c l := by
 refine ⟨⟨h.row.1, ?_⟩, by have := h.base; simpa [World.setCell] using this⟩
 rcases h.row.2 with hz | ⟨g, cap, cur, e, hg, hh, r⟩
 ·exact .inl hz
 ·exact .inr ⟨g, cap, cur, e, hg, (Below.heap_setCell w p u g (by omega)).trans hh, r⟩
theorem below_on {base : Nat} {w0 w w' : World} (h : Below base w0 w) (hle : base ≤ w.heap.size) (hb : Below w.heap.size w w') : Below base w0 w' := h.trans (hb.mono hle)
theorem results_cell1 {fn : Func} {p : Tmp} {ty : TypeId} (h : fn.results = #[.cell p ty]) (tmps : Array Value) (P : Program) (w : World) :
  (results fn tmps).run P w = ((asAddr (tmps.getD p undef)).run P w).andThen fun a w₁ => (loadVar ty a).run P w₁ := by
 simp only [results, h]
 simp [Sem.run_bind, Result.andThen]
theorem lv_of_a {w : World} {a : Addr} {x : D.Tg} (h : rd w a = some x) : (loadVar 61 a).run Tryz.prog w = .ok (.agg (nc x)) w := (run_lv_a w a).trans (by rw [h]; rfl)
theorem pk_nc {x : D.Tg} : pk x.l 10 10 = nc x := by
 rw [pk_end (.inl x.len.symm) (by rw [x.len]; exact Nat.le_refl _), nc]
 congr 2
 unfold D.padn
 rw [List.take_append_of_le_length (by rw [x.len]; exact Nat.le_refl _), List.take_of_length_le (by rw [x.len]; exact Nat.le_refl _)]

theorem lv_of_n {w : World} {a : Addr} {x : D.Tg} (h : rd w a = some x) : (loadVar 37 a).run Tryz.prog w = .ok (.agg (nc x)) w := (run_lv_n w a).trans (by rw [h]; rfl)
end Go.Proofs.YtjlaffgbmcpldaaGreatDoor
