/-
  
-/
import Derived.Test.YtjlaffgbmcpldaaGreatDoorG08
import Derived.OpenShut
import Derived.Test.YtjlaffgbmcpldaaGreatDoorG04
import Derived.Test.YtjlaffgbmcpldaaGreatDoorG09
import Derived.Deep.DrawnRows
import Derived.Laws.CopyOwn
import Derived.Laws.ResultCell
set_option linter.unusedVariables false
namespace Go.Proofs.YtjlaffgbmcpldaaGreatDoor
open Go.RowKit
theorem lvk_of {w : World} {g : Nat} {x : D.Ky} (h : kS.rd w ⟨g, 0, none⟩ = some x) : (loadVar 39 ⟨g, 0, none⟩).run Tryz.prog w = .ok (.agg (kS.v x)) w := (run_lvk w ⟨g, 0, none⟩).trans (by rw [h]; rfl)
theorem Nm.results_cell1 {fn : Func} {p : Tmp} {ty : TypeId} (h : fn.results = #[.cell p ty]) (tmps : Array Value) (P : Program) (w : World) :
  (results fn tmps).run P w = ((asAddr (tmps.getD p undef)).run P w).andThen fun a w₁ => (loadVar ty a).run P w₁ := by
 simp only [results, h]
 simp [Sem.run_bind, Result.andThen]
end Go.Proofs.YtjlaffgbmcpldaaGreatDoor
set_option linter.unusedVariables false
set_option linter.unusedSimpArgs false
namespace Go.Proofs.YtjlaffgbmcpldaaGreatDoor
open Go.RowKit
attribute [local go_sem ↓] Go.wp_at_zero Go.wp_at_succ ld_a ld_n st_a st_n eq_a eq_n ne_a ne_n lv_a lv_n lp_3 lp_4
attribute [local go_sem] run_ld_a run_ld_n run_sw_a run_sw_n run_eq_a run_eq_n run_ne_a run_ne_n run_lv_a run_lv_n st_z ne_z eq_z rd_new rd_old rd_drew rd_drewN rd_set tn_new tn_old tn_drew tn_drewN setRow_alloc run_lp_3 run_lp_4


structure On where
 n : Nat
 os : Array Obj
 deriving Inhabited
def ext (w : World) (p : On) : World := { w with heap := w.heap ++ p.os, drawn := p.n }
theorem ext_heap (w : World) (p : On) {k : Nat} (h : k < w.heap.size) : (ext w p).heap[k]? = w.heap[k]? := by simp [ext, Array.getElem?_append, h]
theorem ext_size (w : World) (p : On) : w.heap.size ≤ (ext w p).heap.size := by simp [ext]
theorem ext_below (w : World) (p : On) : Below w.heap.size w (ext w p) := ⟨rfl, rfl, rfl, ext_size w p, fun k hk => ext_heap w p hk⟩
theorem ext_of {w w' : World} (h : Below w.heap.size w w') : ∃ p, w' = ext w p := by
 obtain ⟨heap, tape, drawn, os, output⟩ := w
 obtain ⟨heap', tape', drawn', os', output'⟩ := w'
 obtain ⟨h1, h2, h3, h4, h5⟩ := h
 simp only at h1 h2 h3 h4 h5
 subst h1 h2 h3
 refine ⟨⟨drawn', heap'.extract heap.size heap'.size⟩, ?_⟩
 simp only [ext]
 congr 1
 apply Array.ext_getElem?
 intro i
 rw [Array.getElem?_append]
 by_cases hi : i < heap.size
 ·rw [if_pos hi]; exact h5 i hi
 ·rw [if_neg hi, Array.getElem?_extract]
  split
  ·congr 1; omega
  ·rw [Array.getElem?_eq_none (by omega)]
theorem ext_to {w w' : World} (h : ∃ p, w' = ext w p) : Below w.heap.size w w' := by
 obtain ⟨p, rfl⟩ := h
 exact ext_below w p
theorem wp_region_ext {P : Program} {id : Nat} {Q : Exit → Act → World → Prop} {a : Act} {w : World} {l : List Oper} (hm : P.follows .mixedOrders = true) (hB : Region.lexB .any l.toArray = true)
  (h : wpQuiet P l.toArray (fun w' => ∃ p : On, w' = ext w p) (fun a' => ∀ w', (∃ p : On, w' = ext w p) → Q .normal a' w') l a) : (Code.region id l.toArray true).wp P Q a w :=
 wp_region_quiet (C := fun w' => ∃ p : On, w' = ext w p) hm hB ⟨⟨w.drawn + 1, #[]⟩, by simp [ext]⟩ (by simpa using h)
theorem calls_ext {P : Program} {f : FuncId} {args : Array Value} {w : World} {p : On} {v : Value}
  (h : Calls P f args (ext w p) fun e w' => e = .returned v ∧ Below (ext w p).heap.size (ext w p) w') : Calls P f args (ext w p) fun e w'' => e = .returned v ∧ ∃ p : On, w'' = ext w p :=
 h.mono fun _ _ ⟨he, hb⟩ => ⟨he, ext_of ((ext_below w p).trans (hb.mono (ext_size w p)))⟩
theorem calls_same {P : Program} {f : FuncId} {args : Array Value} {w : World} {p : On} {v : Value}
  (h : Calls P f args (ext w p) fun e w' => e = .returned v ∧ ext w p = w') : Calls P f args (ext w p) fun e w'' => e = .returned v ∧ ∃ p : On, w'' = ext w p :=
 h.mono fun _ _ ⟨he, hb⟩ => ⟨he, p, hb.symm⟩
theorem rd_ext (w : World) (p : On) (a : Addr) (h : a.block < w.heap.size) : rd (ext w p) a = rd w a := rd_to (ext_heap w p h)
theorem cell_ext (w : World) (p : On) (a : Addr) (h : a.block < w.heap.size) : (ext w p).cell? a = w.cell? a := World.cell?_of_block (ext_heap w p h)
structure From (w0 w : World) : Prop where
 below : Below w0.heap.size w0 w
theorem From.alloc {w0 w : World} (h : From w0 w) (o : Obj) : From w0 (w.alloc o) := ⟨h.below.alloc h.below.size o⟩
theorem From.drewN {w0 w : World} (h : From w0 w) (n : Nat) : From w0 (w.drewN n) := ⟨below_drewN h.below n⟩
theorem From.on {w0 w w' : World} (h : From w0 w) (hb : Below w.heap.size w w') : From w0 w' := ⟨h.below.trans (hb.mono h.below.size)⟩
theorem From.rd {w0 w : World} {a : Addr} {x : D.Tg} (h : From w0 w) (hr : rd w0 a = some x) : rd w a = some x := rd_on hr h.below
theorem From.lt {w0 w : World} (h : From w0 w) {n : Nat} (hn : n < w0.heap.size) : n < w.heap.size := Nat.lt_of_lt_of_le hn h.below.size


end Go.Proofs.YtjlaffgbmcpldaaGreatDoor
set_option linter.unusedVariables false
set_option linter.unusedSimpArgs false
set_option maxRecDepth 100000
namespace Go.Proofs.YtjlaffgbmcpldaaGreatDoor
open Go.RowKit
theorem bd25_3 (w : World) (x : D.Ky) : (bd25 #[(0, .int .u8 (x.k : Int)), (1, .int .u8 (x.p : Int)), (2, .int .u8 (x.a : Int))]).run Tryz.prog w = .ok (.agg (kS.v (D.mkK x.k x.p x.a Nm.D.zero D.zero))) w := by
 rw [kv_mk _ _ x.k_lt x.p_lt x.a_lt]
 simp [bd25, Instr.build, go_sem]
 rfl
theorem lvb_of {w : World} {g : Nat} {x : D.Ky} (h : kS.rd w ⟨g, 0, none⟩ = some x) : (loadVar 201 ⟨g, 0, none⟩).run Tryz.prog w = .ok (.agg (kS.v x)) w := (run_lvb w ⟨g, 0, none⟩).trans (by rw [h]; rfl)
theorem seg_n (k p a : Nat) (n m : Nm.D.Nm) (t : D.Tg) : ((kS.v (D.mkK k p a n t)).toList.take 3 ++ bys m.l ++ (kS.v (D.mkK k p a n t)).toList.drop 15).toArray = kS.v (D.mkK k p a m t) := by
 show ((bys (k % 256 :: p % 256 :: a % 256 :: (n.l ++ t.l))).take 3 ++ bys m.l ++ (bys (k % 256 :: p % 256 :: a % 256 :: (n.l ++ t.l))).drop 15).toArray = (bys (k % 256 :: p % 256 :: a % 256 :: (m.l ++ t.l))).toArray
 rw [bys_drop, show (k % 256 :: p % 256 :: a % 256 :: (n.l ++ t.l)).drop 15 = (n.l ++ t.l).drop 12 from rfl, show 12 = n.l.length from n.len.symm, List.drop_left]
 simp [bys]
theorem seg_t (k p a : Nat) (n : Nm.D.Nm) (t m : D.Tg) : ((kS.v (D.mkK k p a n t)).toList.take 15 ++ bys m.l ++ (kS.v (D.mkK k p a n t)).toList.drop 25).toArray = kS.v (D.mkK k p a n m) := by
 show ((bys (k % 256 :: p % 256 :: a % 256 :: (n.l ++ t.l))).take 15 ++ bys m.l ++ (bys (k % 256 :: p % 256 :: a % 256 :: (n.l ++ t.l))).drop 25).toArray = (bys (k % 256 :: p % 256 :: a % 256 :: (n.l ++ m.l))).toArray
 have h1 : (k % 256 :: p % 256 :: a % 256 :: (n.l ++ t.l)).take 15 = k % 256 :: p % 256 :: a % 256 :: n.l := by
  show k % 256 :: p % 256 :: a % 256 :: (n.l ++ t.l).take 12 = _
  rw [show 12 = n.l.length from n.len.symm, List.take_left]
 rw [bys_take, h1, bys_drop, List.drop_of_length_le (by simp [n.len, t.len])]
 simp [bys]
theorem run_cpn (W : World) (gd : Nat) (td ty : TypeId) (gs os k p a : Nat) (n m : Nm.D.Nm) (t : D.Tg) (dCap sCap : Nat) (hd : Blk W gd td (kS.v (D.mkK k p a n t))) (hs : Nm.rd W ⟨gs, os, none⟩ = some m) :
  (Builtin.copy_ #[210, 210] ty #[.slice (some ⟨gd, 3, none⟩) 12 dCap, .slice (some ⟨gs, os, none⟩) 12 sCap]).run Tryz.prog W = .ok (goInt 12) (W.setRow gd (kS.v (D.mkK k p a m t))) := by
 have hl : (bys m.l).length = 12 := by rw [bys_len, m.len]
 have := run_copy_row (P := Tryz.prog) W 210 210 ty 5 gd 3 12 dCap ⟨gs, os, none⟩ 12 sCap (kS.v (D.mkK k p a n t)) td (bys m.l) Tryz.underlying210 (by kernel_rfl) hd.out (by rw [hl]; rfl) (fun j v hv => Nm.at_of hs j v hv) (by rw [hl, kS.v_size]; decide) (bys_one m.l)
 rw [hl, seg_n] at this
 exact this
theorem run_cpt (W : World) (gd : Nat) (td ty : TypeId) (gs os k p a : Nat) (n : Nm.D.Nm) (t m : D.Tg) (dCap sCap : Nat) (hd : Blk W gd td (kS.v (D.mkK k p a n t))) (hs : rd W ⟨gs, os, none⟩ = some m) :
  (Builtin.copy_ #[210, 210] ty #[.slice (some ⟨gd, 15, none⟩) 10 dCap, .slice (some ⟨gs, os, none⟩) 10 sCap]).run Tryz.prog W = .ok (goInt 10) (W.setRow gd (kS.v (D.mkK k p a n m))) := by
 have hl : (bys m.l).length = 10 := by rw [bys_len, m.len]
 have := run_copy_row (P := Tryz.prog) W 210 210 ty 5 gd 15 10 dCap ⟨gs, os, none⟩ 10 sCap (kS.v (D.mkK k p a n t)) td (bys m.l) Tryz.underlying210 (by kernel_rfl) hd.out (by rw [hl]; rfl) (fun j v hv => at_of hs j v hv) (by rw [hl, kS.v_size]; decide) (bys_one m.l)
 rw [hl, seg_t] at this
 exact this
theorem blk_set_ {w : World} {g : Nat} {t : TypeId} {cs cs' : Array Value} (h : Blk w g t cs) : Blk (w.setRow g cs') g t cs' := ⟨by have := h.out; simp [World.setRow, Array.getElem?_modify, this]⟩
attribute [local go_sem ↓] Go.wp_at_zero Go.wp_at_succ ld_k lv_k st_k eq_k ne_k bd_k ld_b lv_b st_b eq_b ne_b bd_25 ld_r lv_r st_rk eq_rk ne_rk bd_r ld_p lv_p st_px bd_p Nm.ld_a Nm.ld_n Nm.st_a Nm.st_n Nm.eq_a Nm.eq_n Nm.ne_a Nm.ne_n Nm.lv_a Nm.lv_n ld_a ld_n st_a st_n eq_a eq_n ne_a ne_n lv_a lv_n
attribute [local go_sem] run_ldk run_lvk run_stk run_eqk run_nek run_bdk_z run_ldb run_lvb run_stb run_eqb run_neb run_ldr run_lvr run_strk run_eqrk run_nerk run_bdr_z run_ldp run_lvp run_stpx Nm.run_ld_a Nm.run_ld_n Nm.run_st_n Nm.run_eq_a Nm.run_eq_n Nm.run_ne_a Nm.run_ne_n Nm.run_lv_a Nm.run_lv_n Nm.rd_new Nm.rd_old Nm.rd_drew Nm.rd_drewN run_ld_a run_ld_n run_sw_a run_sw_n run_eq_a run_eq_n run_ne_a run_ne_n run_lv_a run_lv_n st_z ne_z eq_z rd_new rd_old rd_drew rd_drewN Shp.rd_new Shp.rd_old Shp.rd_drew Shp.rd_drewN Shp.rd_set Shp.tn_new Shp.tn_old Shp.tn_drew Shp.tn_drewN tn_new tn_old tn_drew tn_drewN rd_set setRow_alloc run_stn3 run_stt15 bd25_3

set_option maxHeartbeats 4000000 in
theorem kbytes_any (x : D.Ky) (w : World) : Calls Tryz.prog 131 #[.agg (kS.v x)] w fun e w' => e = .returned (.agg (kS.v x)) ∧ Below w.heap.size w w' := by
 obtain ⟨W0, hW0⟩ : ∃ W, (w.alloc (.cells (kS.v x) 39)).alloc (.cells z25 201) = W := ⟨_, rfl⟩
 have f0 : kS.rd W0 ⟨w.heap.size, 0, none⟩ = some x := by rw [← hW0]; exact Shp.rd_on (Shp.rd_new (S := kS) w _ _ x rfl) (below_alloc_ _ _)
 have k0 : Shp.tn 25 W0 (w.heap.size + 1) = true := by rw [← hW0]; exact Shp.tn_new _ _ _ _ _ (by simp) rfl
 have z0 : Below w.heap.size w W0 := by rw [← hW0]; exact (below_alloc_ _ _).alloc (by simp) _
 have s0 : w.heap.size + 1 < W0.heap.size := by rw [← hW0]; simp
 unfold z25 at hW0
 obtain ⟨c0, c1, c2, c3, c4⟩ := kf0 f0
 obtain ⟨y, hy⟩ : ∃ y, D.mkK x.k x.p x.a Nm.D.zero D.zero = y := ⟨_, rfl⟩
 have g1 := rd_on c4 (below_alloc_ W0 (.cells (kS.v y) 201))
 have CB := Lib.hid (fun w => bytes_any x.t w)
 have hbd := fun w => bd25_3 w x
 rw [hy] at hbd
 have q0 : w.heap.size < W0.heap.size := by omega
 go_enter Tryz.func131, Tryz.ntmps131
 go_wp2_with fail
 try rw [hW0]
 clear hW0
 go_wp2_with (go_at_call 164; (with_reducible refine (CB.out _).mono ?_); rintro e w2 ⟨rfl, b2⟩)
 obtain ⟨W1, hW1⟩ : ∃ W, w2.alloc (.cells (nc x.t) 61) = W := ⟨_, rfl⟩
 have bA : Below W0.heap.size W0 W1 := by rw [← hW1]; exact (below_up (below_alloc_ _ _) (by simp) b2).alloc (by have := b2.size; simp at this; omega) _
 have D1 : Blk W1 W0.heap.size 201 (kS.v y) := by rw [← hW1]; exact ((Blk.new W0 _ (kS.v y)).on b2).alloc _
 have T1 : rd W1 ⟨w2.heap.size, 0, none⟩ = some x.t := by rw [← hW1]; exact rd_new _ _ _ _ rfl
 have N1 : Nm.rd W1 ⟨w.heap.size, 3, none⟩ = some x.n := Nm.rd_on c3 bA
 have k1 := Shp.tn_on k0 bA
 have z1 := below_up z0 z0.size bA
 have s1 : W0.heap.size ≠ w2.heap.size := by have := b2.size; simp at this; omega
 try rw [hW1]
 clear hW1
 obtain ⟨G, hG⟩ : ∃ G, W0.heap.size = G := ⟨_, rfl⟩
 obtain ⟨T, hT⟩ : ∃ T, w2.heap.size = T := ⟨_, rfl⟩
 rw [hG] at D1 s1 s0 q0
 rw [hT] at T1 s1
 try rw [hG]
 try rw [hT]
 clear hT b2 g1 c0 c1 c2 c3 c4 k0 z0 f0 bA CB hG
 subst hy
 have zd : Below w.heap.size w W1.drew := z1.drew
 refine wp_region_noPanic ?_
 refine wp_region_held_drew (S := fun W => Below w.heap.size w W) (by kernel_rfl) zd (fun _ => ?_)
 refine takeT 0 (some 15) (.slice (some ⟨G, 3, none⟩) 12 22) ?hya0 zd ?resta0
 case hya0 => (intro o ho W hW; simp only [gT, gS, gZ, sI] at ho; subst ho; (try dsimp only at hW); go_simp; try rfl)
 try simp only [Act.put, iT, iZ, iS]
 refine takeT 1 (some 16) ?va1 ?hya1 zd ?resta1
 case hya1 => (intro o ho W hW; simp only [gT, gS, gZ, sI] at ho; subst ho; (try dsimp only at hW); go_simp; try rfl)
 try simp only [Act.put, iT, iZ, iS]
 refine takeT 2 (some 17) (.slice (some ⟨w.heap.size, 3, none⟩) 12 12) ?hya2 zd ?resta2
 case hya2 => (intro o ho W hW; simp only [gT, gS, gZ, sI] at ho; subst ho; (try dsimp only at hW); go_simp; try rfl)
 try simp only [Act.put, iT, iZ, iS]
 refine nextS 3 (by kernel_rfl) (by rfl) (fun o ho K hK => ?_)
 simp only [gT, gS, gZ, sI] at ho; subst ho
 go_simp
 have hrun := run_cpn W1.drew G 201 3 w.heap.size 3 x.k x.p x.a Nm.D.zero x.n D.zero 22 12 ⟨D1.out⟩ ((Nm.rd_drew _ _).trans N1)
 rw [hrun]
 go_simp
 have zA : Below w.heap.size w (W1.drew.setRow G (kS.v (D.mkK x.k x.p x.a x.n D.zero))) := below_setRow zd (by omega) _
 refine hK.out _ _ zA (fun _ => ?_)
 clear hK K
 try simp only [Act.put, iT, iZ, iS]
 refine wpAnyH_done (by kernel_rfl) ?_ _
 refine NoPanic.normal ?_
 obtain ⟨W2, hW2⟩ : ∃ W, W1.drew.setRow G (kS.v (D.mkK x.k x.p x.a x.n D.zero)) = W := ⟨_, rfl⟩
 have D2 : Blk W2 G 201 (kS.v (D.mkK x.k x.p x.a x.n D.zero)) := by rw [← hW2]; exact blk_set_ (w := W1.drew) ⟨D1.out⟩
 have T2 : rd W2 ⟨T, 0, none⟩ = some x.t := by rw [← hW2]; exact (rd_far _ _ _ _ (Ne.symm s1)).trans ((rd_drew _ _).trans T1)
 have k2 : Shp.tn 25 W2 (w.heap.size + 1) = true := by rw [← hW2]; exact (Shp.tn_to (heap_setRow _ _ _ _ (by omega))).trans ((Shp.tn_drew _ _ _).trans k1)
 rw [hW2] at zA
 try rw [hW2]
 clear hW2 D1 T1 N1 k1 z1 zd
 go_wp2_with fail
 have zd : Below w.heap.size w W2.drew := zA.drew
 refine wp_region_noPanic ?_
 refine wp_region_held_drew (S := fun W => Below w.heap.size w W) (by kernel_rfl) zd (fun _ => ?_)
 refine takeT 0 (some 19) (.slice (some ⟨G, 15, none⟩) 10 10) ?hyb0 zd ?restb0
 case hyb0 => (intro o ho W hW; simp only [gT, gS, gZ, sI] at ho; subst ho; (try dsimp only at hW); go_simp; try rfl)
 try simp only [Act.put, iT, iZ, iS]
 refine takeT 1 (some 20) (.slice (some ⟨T, 0, none⟩) 10 10) ?hyb1 zd ?restb1
 case hyb1 => (intro o ho W hW; simp only [gT, gS, gZ, sI] at ho; subst ho; (try dsimp only at hW); go_simp; try rfl)
 try simp only [Act.put, iT, iZ, iS]
 refine nextS 2 (by kernel_rfl) (by rfl) (fun o ho K hK => ?_)
 simp only [gT, gS, gZ, sI] at ho; subst ho
 go_simp
 have hrun := run_cpt W2.drew G 201 3 T 0 x.k x.p x.a x.n D.zero x.t 10 10 ⟨D2.out⟩ ((rd_drew _ _).trans T2)
 rw [hrun]
 go_simp
 have zB : Below w.heap.size w (W2.drew.setRow G (kS.v (D.mkK x.k x.p x.a x.n x.t))) := below_setRow zd (by omega) _
 refine hK.out _ _ zB (fun _ => ?_)
 clear hK K
 try simp only [Act.put, iT, iZ, iS]
 refine wpAnyH_done (by kernel_rfl) ?_ _
 refine NoPanic.normal ?_
 obtain ⟨W3, hW3⟩ : ∃ W, W2.drew.setRow G (kS.v (D.mkK x.k x.p x.a x.n x.t)) = W := ⟨_, rfl⟩
 have D3 : Blk W3 G 201 (kS.v (D.mkK x.k x.p x.a x.n x.t)) := by rw [← hW3]; exact blk_set_ (w := W2.drew) ⟨D2.out⟩
 have k3 : Shp.tn 25 W3 (w.heap.size + 1) = true := by rw [← hW3]; exact (Shp.tn_to (heap_setRow _ _ _ _ (by omega))).trans ((Shp.tn_drew _ _ _).trans k2)
 rw [hW3] at zB
 try rw [hW3]
 clear hW3 D2 T2 k2 zA zd
 rw [D.mkK_eta] at D3
 have r3 := Shp.rd_blk (S := kS) D3
 have hset := Shp.rd_set (S := kS) W3 (w.heap.size + 1) x k3
 have z9 := below_setRow zB (Nat.le_succ _) (kS.v x)
 go_wp2
 exact bodyPost_ret (v := .agg (kS.v x)) (by rw [Nm.results_cell1 rfl]; simp [asAddr, Result.andThen, lvb_of hset]) rfl ⟨rfl, z9⟩
end Go.Proofs.YtjlaffgbmcpldaaGreatDoor
