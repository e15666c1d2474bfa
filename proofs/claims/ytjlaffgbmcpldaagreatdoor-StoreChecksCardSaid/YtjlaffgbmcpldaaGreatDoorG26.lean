/-
  
-/
import Derived.Test.YtjlaffgbmcpldaaGreatDoorG25
import Derived.WideKeyEntry
import Derived.Maps.Own
set_option linter.unusedVariables false
set_option linter.unusedSimpArgs false
set_option maxRecDepth 100000
namespace Go.Proofs.YtjlaffgbmcpldaaGreatDoor.D
def kdist : List Ky → Nat
 | [] => 0
 | x :: l => if x ∈ l then kdist l else kdist l + 1
theorem kdist_perm {l m : List Ky} (h : l.Perm m) : kdist l = kdist m := by
 induction h with
 | nil => rfl
 | cons x h ih => simp only [kdist, h.mem_iff, ih]
 | swap x y l =>
  simp only [kdist, List.mem_cons]
  by_cases e : x = y
  ·subst e; rfl
  ·have e' : ¬ y = x := fun h => e h.symm
   by_cases hx : x ∈ l <;> by_cases hy : y ∈ l <;> simp [e, e', hx, hy]
 | trans _ _ ih1 ih2 => exact ih1.trans ih2
theorem kdist_snoc (l : List Ky) (x : Ky) : kdist (l ++ [x]) = if x ∈ l then kdist l else kdist l + 1 := kdist_perm (List.perm_append_singleton x l)
def kct (l : List Ky) (x : Ky) : Nat := l.countP (fun y => decide (y = x))
theorem kct_le (l : List Ky) (x : Ky) : kct l x ≤ l.length := List.countP_le_length
theorem kct_snoc (l : List Ky) (x y : Ky) : kct (l ++ [x]) y = if x = y then kct l y + 1 else kct l y := by
 simp only [kct, List.countP_append, List.countP_singleton]
 split <;> simp_all
theorem kct_pos {l : List Ky} {x : Ky} : 0 < kct l x ↔ x ∈ l := by
 rw [kct, List.countP_pos_iff]
 constructor
 ·rintro ⟨y, hy, h⟩
  rw [← of_decide_eq_true h]; exact hy
 ·intro h; exact ⟨x, h, by simp⟩
end Go.Proofs.YtjlaffgbmcpldaaGreatDoor.D
namespace Go.Proofs.YtjlaffgbmcpldaaGreatDoor
open Go.RowKit
open Go.Maps (Keyed)
open Go.ChangeMaps (setBlock modify_eq_set)
open Go.WideElems (Fit set_self)

noncomputable def kkl (x : D.Ky) : Lit := Classical.choose (key_k x)
theorem kkl_is (x : D.Ky) : keyOf Tryz.prog 39 (.agg (kS.v x)) = some (kkl x) := Classical.choose_spec (key_k x)
theorem kkl_inj {x y : D.Ky} (h : kkl x = kkl y) : x = y := by
 have := law_k.inj (kkl_is x) ((kkl_is y).trans (congrArg some h.symm))
 injection this with this
 exact kS.v_inj this
theorem kkl_key (x : D.Ky) : WideAt.IsKeyLit (kkl x) := law_k.key (kkl_is x)
theorem law_kk : Go.WideMaps.KeyLaw Tryz.prog 39 := deep_law_laid laid_out (m := 6) (by omega) (of_decide_eq_true (by kernel_rfl)) (by kernel_rfl) (by rw [Tryz.underlying39])
theorem entry_is_update {P : Program} {w w1 : World} {t k e : TypeId} {R : Value → Option (DataW Unit × List MemPlace)} {b : Nat} {es : Array MapEntry} {clock : Nat} (K : Go.WideMaps.KeyLaw P k) (ht : P.underlying t = some (.map k e)) {z : Value} (hz : ∀ u : World, (zeroValue e).run P u = .ok z u)
  (hb : w.heap[b]? = some (.map es clock)) (F : Fit P k R es clock) {key v : Value} {l : Lit} (hkey : keyOf P k key = some l) (h : (Instr.mapEntry t (.map (some b)) key).run P w = .ok v w1) :
  ∃ v0 st, v = .tuple #[v0, st] ∧ (Instr.mapUpdate t (.map (some b)) key v0).run P w = .ok () w1 ∧ (Instr.lookup t (.map (some b)) key false).run P w = .ok v0 w := by
 rcases K.find w hkey es.toList F.keys with ⟨h1, h2⟩ | ⟨j, e0, h1, h2, h3⟩
 ·simp [Instr.mapEntry, run_underlying ht, MapKept.run_getObj_map hb, K.check w false hkey, h1, hz, MapKept.run_setObj_map _ hb, Result.andThen, setBlock] at h
  obtain ⟨rfl, rfl⟩ := h
  refine ⟨z, _, rfl, ?_, ?_⟩
  ·simp [Instr.mapUpdate, run_underlying ht, MapKept.run_getObj_map hb, K.check w false hkey, h1, MapKept.run_setObj_map _ hb, Result.andThen, setBlock]
  ·simp [Instr.lookup, run_underlying ht, MapKept.run_getObj_map hb, K.check w _ hkey, h1, hz, Result.andThen]
 ·have hj : es[j]? = some e0 := by simpa using h2
  have hsame : ∀ f : MapEntry → MapEntry, f e0 = e0 → es.modify j f = es := by
   intro f hf
   apply Array.ext'
   rw [Array.toList_modify, modify_eq_set _ _ _ _ h2, hf]
   exact set_self _ _ _ h2
  have s1 : es.modify j (fun e => { e with key := key }) = es := hsame _ (by rw [← h3])
  have s2 : es.modify j (fun e => { e with key := key, val := e0.val }) = es := hsame _ (by rw [← h3])
  simp [Instr.mapEntry, run_underlying ht, MapKept.run_getObj_map hb, K.check w false hkey, h1, hj, h3, K.stays w hkey, s1, MapKept.run_setObj_map _ hb, Result.andThen] at h
  obtain ⟨rfl, rfl⟩ := h
  refine ⟨e0.val, _, rfl, ?_, ?_⟩
  ·simp [Instr.mapUpdate, run_underlying ht, MapKept.run_getObj_map hb, K.check w false hkey, h1, hj, h3, K.stays w hkey, s2, MapKept.run_setObj_map _ hb, Result.andThen]
  ·simp [Instr.lookup, run_underlying ht, MapKept.run_getObj_map hb, K.check w _ hkey, h1, Result.andThen]
theorem zero_int (u : World) : (zeroValue 3).run Tryz.prog u = .ok (.int .i64 0) u := by kernel_rfl
structure KcAt (w : World) (b : Nat) (L : List D.Ky) : Prop where
 out : ∃ D0 : DataW Unit, w.ownsMap Tryz.prog 39 (plainElem Tryz.prog 3) b L.length D0 ∧ (∀ x, Maps.has D0 (kkl x) = decide (x ∈ L)) ∧
  (∀ x, D0.atKey (kkl x) (.lit (.int .i64 0)) = .lit (.int .i64 (D.kct L x : Nat))) ∧ Maps.size D0 = D.kdist L
section
variable {w w' : World} {b : Nat} {L : List D.Ky}
theorem KcAt.lt (h : KcAt w b L) : b < w.heap.size := by
 obtain ⟨D0, ho, _⟩ := h.out
 exact ho.lt
theorem KcAt.tow (h : KcAt w b L) (hs : w'.heap[b]? = w.heap[b]?) : KcAt w' b L := by
 obtain ⟨D0, ⟨es, clock, hb, r⟩, r'⟩ := h.out
 exact ⟨D0, ⟨es, clock, hs.trans hb, r⟩, r'⟩
theorem KcAt.on (h : KcAt w b L) (hb : Below w.heap.size w w') : KcAt w' b L := h.tow (hb.block _ h.lt)
theorem KcAt.drew (h : KcAt w b L) : KcAt w.drew b L := h.tow rfl
theorem kc_new (w : World) : KcAt (w.alloc (.map #[] 0)) w.heap.size [] :=
 ⟨_, World.ownsMap_made _ _ _ _, fun x => rfl, fun x => rfl, rfl⟩
theorem KcAt.look (h : KcAt w b L) (x : D.Ky) : (Instr.lookup 121 (.map (some b)) (.agg (kS.v x)) false).run Tryz.prog w = .ok (.int .i64 (D.kct L x : Nat)) w := by
 obtain ⟨D0, ho, _, hc, _⟩ := h.out
 obtain ⟨c, hr, ha, _⟩ := ho.lookup_int law_k Tryz.underlying121 Tryz.underlying3 (zero_int w) (kkl_is x)
 rw [hc x] at ha
 injection ha with ha
 injection ha with _ ha
 rw [hr, ha]
theorem KcAt.put (h : KcAt w b L) (hL : L.length ≤ 1000) (x : D.Ky) : ∃ w', (Instr.mapUpdate 121 (.map (some b)) (.agg (kS.v x)) (.int .i64 ((D.kct L x : Nat) + 1 : Int))).run Tryz.prog w = .ok () w' ∧ KcAt w' b (L ++ [x]) ∧ w.grownBy w' (some b) := by
 obtain ⟨D0, ho, hh, hc, hs⟩ := h.out
 have hle := D.kct_le L x
 obtain ⟨w', hr, ho', hg⟩ := ho.update law_k Tryz.underlying121 (by simp only [maxLen]; omega) (kkl_is x) (plainElem_int (H := Unit) Tryz.underlying3 (WalkArith.wf_i64 (n := (D.kct L x : Nat) + 1) (by omega)))
 refine ⟨w', hr, ⟨_, by simpa using ho', fun y => ?_, fun y => ?_, ?_⟩, hg⟩
 ·by_cases e : y = x
  ·subst e
   rw [Maps.has_put_same ho.isMap (kkl_key y)]
   simp
  ·rw [Maps.has_put_other (fun e' => e (kkl_inj e')), hh y, decide_eq_decide]
   simp [e]
 ·rw [D.kct_snoc]
  by_cases e : x = y
  ·subst e
   rw [Maps.atKey_put_same ho.isMap (kkl_key x), if_pos rfl]
   simp
  ·rw [Maps.atKey_put_other (fun e' => e (kkl_inj e').symm), if_neg e, hc y]
 ·rw [Maps.size_put (ho.tidy law_k), hh x, hs, D.kdist_snoc]
  by_cases hx : x ∈ L <;> simp [hx]
theorem KcAt.more (h : KcAt w b L) (hL : L.length ≤ 1000) (x : D.Ky) : ∃ (st : Nat) (w1 w2 : World),
  (Instr.mapEntry 121 (.map (some b)) (.agg (kS.v x))).run Tryz.prog w = .ok (.tuple #[.int .i64 (D.kct L x : Nat), goInt st]) w1 ∧
  (Instr.lookup 121 (.map (some b)) (.agg (kS.v x)) false).run Tryz.prog w1 = .ok (.int .i64 (D.kct L x : Nat)) w1 ∧
  (Instr.entryStore 121 (.map (some b)) (goInt st) (.int .i64 ((D.kct L x : Nat) + 1 : Int))).run Tryz.prog w1 = .ok () w2 ∧ KcAt w2 b (L ++ [x]) ∧ w.grownBy w2 (some b) ∧ w.grownBy w1 (some b) := by
 obtain ⟨D0, ho, _⟩ := h.out
 have hlk := h.look x
 have hle := D.kct_le L x
 obtain ⟨w3, hr3, ho3, hg3⟩ := ho.update law_k Tryz.underlying121 (by simp only [maxLen]; omega) (kkl_is x) (plainElem_int (H := Unit) Tryz.underlying3 (WalkArith.wf_i64 (n := (D.kct L x : Nat)) (by omega)))
 obtain ⟨w2, hr2, hc2, hg2⟩ := h.put hL x
 have hm := ho.isMap
 obtain ⟨es, clock, hb, F, _⟩ := ho
 obtain ⟨v0, st, es1, clock1, hE, _, hS⟩ := Go.WideElems.entry_then_store law_kk Tryz.underlying121 zero_int hb F (kkl_is x)
 obtain ⟨v1, st1, e1, hU, hL1⟩ := entry_is_update law_kk Tryz.underlying121 zero_int hb F (kkl_is x) hE
 injection e1 with e1
 simp only [Array.mk.injEq, List.cons.injEq] at e1
 obtain ⟨rfl, _⟩ := e1
 rw [hlk] at hL1
 injection hL1 with hL1
 subst hL1
 obtain ⟨es', clock', hS1, hS2⟩ := hS (setBlock w b (.map es1 clock1)) (.int .i64 ((D.kct L x : Nat) + 1 : Int)) (Go.ChangeMaps.heap_setBlock_same hb _)
 rw [hr2] at hS2
 injection hS2 with _ hS2
 rw [hr3] at hU
 injection hU with _ hU
 have hw : setBlock (setBlock w b (.map es1 clock1)) b (.map es' clock') = w2 := by
  rw [hS2]
  simp [setBlock]
 rw [hw] at hS1
 refine ⟨st, _, w2, hE, ?_, hS1, hc2, hg2, by rw [← hU]; exact hg3⟩
 rw [← hU]
 obtain ⟨c, hr, ha, _⟩ := ho3.lookup_int law_k Tryz.underlying121 Tryz.underlying3 (zero_int w3) (kkl_is x)
 rw [Maps.atKey_put_same hm (kkl_key x)] at ha
 have e2 : ((D.kct L x : Nat) : Int) = c := (Lit.int.inj (DataW.lit.inj ha)).2
 rw [hr, ← e2]
end
end Go.Proofs.YtjlaffgbmcpldaaGreatDoor
set_option linter.unusedVariables false
set_option linter.unusedSimpArgs false
set_option maxRecDepth 100000
namespace Go.Proofs.YtjlaffgbmcpldaaGreatDoor
open Go.RowKit
attribute [local go_sem ↓] Go.wp_at_zero Go.wp_at_succ ld_k lv_k st_k eq_k ne_k bd_k ld_b lv_b st_b eq_b ne_b bd_25 ld_r lv_r st_rk eq_rk ne_rk bd_r ld_p lv_p st_px bd_p Nm.ld_a Nm.ld_n Nm.st_a Nm.st_n Nm.eq_a Nm.eq_n Nm.ne_a Nm.ne_n Nm.lv_a Nm.lv_n ld_a ld_n st_a st_n eq_a eq_n ne_a ne_n lv_a lv_n ld_l lv_l st_l bd_l bd_n bs_k ld_v lv_v st_v ne_v bd_v bs_v ld_rh ld_d lv_rh lv_d st_r st_d ne_rh eq_rh ne_d bd_rh bd_d ld_x lv_x st_x bd_x bs_x ld_e lv_e st_e bd_e bs_e ne_e
attribute [local go_sem] run_ldk run_lvk run_stk run_eqk run_nek run_bdk_z run_ldb run_lvb run_stb run_eqb run_neb run_ldr run_lvr run_strk run_eqrk run_nerk run_bdr_z run_ldp run_lvp run_stpx Nm.run_ld_a Nm.run_ld_n Nm.run_st_n Nm.run_eq_a Nm.run_eq_n Nm.run_ne_a Nm.run_ne_n Nm.run_lv_a Nm.run_lv_n Nm.rd_new Nm.rd_old Nm.rd_drew Nm.rd_drewN run_ld_a run_ld_n run_sw_a run_sw_n run_eq_a run_eq_n run_ne_a run_ne_n run_lv_a run_lv_n st_z ne_z eq_z rd_new rd_old rd_drew rd_drewN Shp.rd_new Shp.rd_old Shp.rd_drew Shp.rd_drewN Shp.rd_set Shp.tn_new Shp.tn_old Shp.tn_drew Shp.tn_drewN tn_new tn_old tn_drew tn_drewN rd_set setRow_alloc run_stn3 run_stt15 run_lvl run_ldl run_stl run_bdl run_bdn run_bdn0 run_bsk Shp.rd_extk cell_ext run_ldv run_lvv run_stv run_nev run_bdv_z run_bdv_d run_bdv_r run_bsv1 run_bsv0 run_ldrh run_ldd run_lvrh run_lvd run_str run_std run_nerh run_eqrh run_ned run_bdr0 run_bdd0 run_bdr1 run_bdd1 run_bdd9 run_ldx run_lvx run_stx run_lde run_lve run_bde run_bse1 run_bdv_3 Shp.rd_extk cell_ext
theorem ctree_new (w : World) : Calls Tryz.prog 47 #[] w fun e w' => e = .returned (.pointer (some ⟨w.heap.size, 0, none⟩)) ∧ w' = w.alloc (.cells #[.pointer none, .int .i64 0] tT) := by
 go_enter Tryz.func47, Tryz.ntmps47
 go_wp2
 go_ret
 exact ⟨rfl, rfl⟩
theorem tr_new (w : World) : TC (w.alloc (.cells #[.pointer none, .int .i64 0] tT)) w.heap.size none := by
 have h := Blk.new w tT #[.pointer none, .int .i64 0]
 exact TC.of ⟨⟨0, h⟩, by simp, by simp, by simp, by simp [Cr.Tr.lso]⟩ h
theorem snew_any (base : Nat) (w : World) (hb : base ≤ w.heap.size) : Calls Tryz.prog 13 #[] w fun e w' => e = .returned (.pointer (some ⟨w.heap.size + 1, 0, none⟩)) ∧ SM base w' (w.heap.size + 1) .zero ∧ Below w.heap.size w w' := by
 have CN := Lib.hid (ctree_new w)
 have hT := tr_new w
 have b0 := below_alloc_ w (.cells #[.pointer none, .int .i64 0] tT)
 obtain ⟨w1, hw1⟩ : ∃ w1, w.alloc (.cells #[.pointer none, .int .i64 0] tT) = w1 := ⟨_, rfl⟩
 rw [hw1] at hT b0 CN
 have hz : w1.heap.size = w.heap.size + 1 := by rw [← hw1]; simp
 have hB := Blk.new w1 sT #[.pointer (some ⟨w.heap.size, 0, none⟩), .int .u64 0, .int .i64 0]
 have b1 := below_alloc_ w1 (.cells #[.pointer (some ⟨w.heap.size, 0, none⟩), .int .u64 0, .int .i64 0] sT)
 have hZ := Lib.hid hz
 clear hw1 hz
 go_enter Tryz.func13, Tryz.ntmps13
 go_wp2_with (go_at_call 47; (with_reducible refine CN.out.mono ?_); rintro e w2 ⟨rfl, rfl⟩)
 go_ret
 refine ⟨by rw [hZ.out]; rfl, ⟨w.heap.size, none, fun _ => ⟨0, none, 0⟩, ?_⟩, below_up b0 b0.size b1⟩
 rw [hZ.out] at hB
 exact ⟨⟨hB, hT.on b1, rfl, by simp [D.Sm.zero], by simp [D.Sm.zero], by omega, by simp [blo]; omega⟩, D.Sm.zero_wf⟩
theorem orEmpty_any (g : Nat) (w : World) : Calls Tryz.prog 56 #[.pointer (some ⟨g, 0, none⟩)] w fun e w' => e = .returned (.pointer (some ⟨g, 0, none⟩)) ∧ w' = w := by
 go_enter Tryz.func56, Tryz.ntmps56
 go_wp2
 go_ret
 exact ⟨rfl, rfl⟩
theorem orEmpty_nil (base : Nat) (w : World) (hb : base ≤ w.heap.size) : Calls Tryz.prog 56 #[.pointer none] w fun e w' => e = .returned (.pointer (some ⟨w.heap.size + 1, 0, none⟩)) ∧ SM base w' (w.heap.size + 1) .zero ∧ Below w.heap.size w w' := by
 have CN := Lib.hid (snew_any base w hb)
 go_enter Tryz.func56, Tryz.ntmps56
 go_wp2_with (go_at_call 13; (with_reducible refine CN.out.mono ?_); rintro e w2 ⟨rfl, hS, hB⟩)
 go_ret
 exact ⟨rfl, hS, hB⟩
def SO (base : Nat) (w : World) (p : Option Addr) (M : D.Sm) : Prop := ∀ W, Below w.heap.size w W → Calls Tryz.prog 56 #[.pointer p] W fun e w' => ∃ s, e = .returned (.pointer (some ⟨s, 0, none⟩)) ∧ SM base w' s M ∧ Below W.heap.size W w'
theorem SO.of {base s : Nat} {w : World} {M : D.Sm} (h : SM base w s M) : SO base w (some ⟨s, 0, none⟩) M := fun W hW => (orEmpty_any s W).mono fun e w' ⟨h1, h2⟩ => by
 subst h2
 exact ⟨s, h1, h.on hW, Below.refl _ _⟩
theorem SO.nil (base : Nat) (w : World) (hb : base ≤ w.heap.size) : SO base w none .zero := fun W hW => (orEmpty_nil base W (by have := hW.size; omega)).mono fun e w' ⟨h1, h2, h3⟩ => ⟨_, h1, h2, h3⟩
theorem SO.on {base : Nat} {w w' : World} {p : Option Addr} {M : D.Sm} (h : SO base w p M) (hb : Below w.heap.size w w') : SO base w' p M := fun W hW => h W (below_up hb hb.size hW)
set_option maxHeartbeats 1000000 in
theorem of_key {base : Nat} {w : World} {p : Option Addr} {M : D.Sm} (hS : SO base w p M) (hl : M.last ≤ 1000) (k : D.Ky) : Calls Tryz.prog 73 #[.pointer p, .agg (kS.v k)] w fun e w' => ∃ c A n d, e = .returned (.pointer c) ∧ Al w' c A n d (M.f k) ∧ (∀ v ∈ M.f k, v.wf) ∧ Below w.heap.size w w' ∧ (k ∉ M.ks → c = none) := by
 have f0 := Shp.rd_new (S := kS) w w.heap.size 39 k rfl
 have b0 := below_alloc_ w (.cells (kS.v k) 39)
 have HO := Lib.hid hS
 go_enter Tryz.func73, Tryz.ntmps73
 go_wp2_with fail
 obtain ⟨w0, hw0⟩ : ∃ w0, w.alloc (.cells (kS.v k) 39) = w0 := ⟨_, rfl⟩
 rw [hw0] at f0 b0
 rw [hw0]
 clear hw0
 have b1 : Below w0.heap.size w0 w0.drew := (Below.refl _ _).drew
 refine wp_region_noPanic ?_
 refine wp_region_held_drew (S := (fun V => Below w0.heap.size w0 V)) (by kernel_rfl) b1 (fun _ => ?_)
 refine takeT 0 (some 8) ?v2 ?hy2 b1 ?rest2
 case hy2 => (intro o ho W hW; simp only [gT, gS, gZ, sI] at ho; subst ho; (try dsimp only at hW); go_simp; try rfl)
 try simp only [Act.put, iT, iZ, iS]
 refine takeT 5 (some 13) ?v3 ?hy3 b1 ?rest3
 case hy3 => (intro o ho W hW; simp only [gT, gS, gZ, sI] at ho; subst ho; (try dsimp only at hW); have f_ := Shp.rd_on f0 hW; go_simp; try rfl)
 try simp only [Act.put, iT, iZ, iS]
 refine nextS 1 (by kernel_rfl) (by rfl) (fun o ho K hK => ?_)
 simp only [gT, gS, gZ, sI] at ho; subst ho
 go_simp
 go_at_call 56
 refine (HO.out _ (below_up b0 b0.size b1)).mono ?_
 rintro e w2 ⟨s, rfl, ⟨g, o, q, h2⟩, b2⟩
 have b3 := below_up b1 b1.size b2
 refine hK.out _ _ b3 (fun _ => ?_)
 clear hK K
 try simp only [Act.put, iT, iZ, iS]
 have c0 := h2.blk.c 0
 simp only [List.getElem?_toArray, List.getElem?_cons_zero] at c0
 refine takeT 2 (some 10) ?v6 ?hy6 b3 ?rest6
 case hy6 => (intro o ho W hW; simp only [gT, gS, gZ, sI] at ho; subst ho; (try dsimp only at hW); go_simp; try rfl)
 try simp only [Act.put, iT, iZ, iS]
 refine takeT 3 (some 11) ?v7 ?hy7 b3 ?rest7
 case hy7 => (intro o ho W hW; simp only [gT, gS, gZ, sI] at ho; subst ho; (try dsimp only at hW); go_simp; try rfl)
 try simp only [Act.put, iT, iZ, iS]
 have hC := Lib.hid h2
 clear b1 h2
 refine nextS 4 (by kernel_rfl) (by rfl) (fun o ho K hK => ?_)
 simp only [gT, gS, gZ, sI] at ho; subst ho
 go_simp
 refine hK.out _ _ b3 (fun _ => ?_)
 clear hK K
 try simp only [Act.put, iT, iZ, iS]
 refine nextS 6 (by kernel_rfl) (by rfl) (fun o ho K hK => ?_)
 simp only [gT, gS, gZ, sI] at ho; subst ho
 go_simp
 go_at_call 92
 refine (get_any g o k _ hC.out.tc.tr).mono ?_
 rintro e w4 ⟨rfl, b4⟩
 have b5 := below_up b3 b3.size b4
 obtain ⟨A, n, d, hA⟩ := hC.out.al hl k
 have hA4 := Lib.hid (hA.on b4)
 refine hK.out _ _ b5 (fun _ => ?_)
 clear hK K
 try simp only [Act.put, iT, iZ, iS]
 refine takeT 7 (some 7) ?v12 ?hy12 b5 ?rest12
 case hy12 => (intro o ho W hW; simp only [gT, gS, gZ, sI] at ho; subst ho; (try dsimp only at hW); go_simp; try rfl)
 try simp only [Act.put, iT, iZ, iS]
 refine takeT 8 (some 15) ?v13 ?hy13 b5 ?rest13
 case hy13 => (intro o ho W hW; simp only [gT, gS, gZ, sI] at ho; subst ho; (try dsimp only at hW); go_simp; try rfl)
 try simp only [Act.put, iT, iZ, iS]
 refine takeT 9 (some 16) ?v14 ?hy14 b5 ?rest14
 case hy14 => (intro o ho W hW; simp only [gT, gS, gZ, sI] at ho; subst ho; (try dsimp only at hW); go_simp; try rfl)
 try simp only [Act.put, iT, iZ, iS]
 refine takeT 10 (some 5) ?v15 ?hy15 b5 ?rest15
 case hy15 => (intro o ho W hW; simp only [gT, gS, gZ, sI] at ho; subst ho; (try dsimp only at hW); go_simp; try rfl)
 try simp only [Act.put, iT, iZ, iS]
 refine takeT 11 (some 6) ?v16 ?hy16 b5 ?rest16
 case hy16 => (intro o ho W hW; simp only [gT, gS, gZ, sI] at ho; subst ho; (try dsimp only at hW); go_simp; try rfl)
 try simp only [Act.put, iT, iZ, iS]
 refine wpAnyH_done (by kernel_rfl) ?_ _
 refine NoPanic.normal ?_
 go_wp2
 go_ret
 exact ⟨_, A, n, d, rfl, hA4.out, hC.out.vw k, below_up b0 b0.size b5, fun hk => hC.out.got_out hk⟩
set_option maxHeartbeats 1000000 in
theorem sread_any {base : Nat} {w : World} {p : Option Addr} {M : D.Sm} (hS : SO base w p M) (hl : M.last ≤ 1000) (k : D.Ky) (t : Nat) : Calls Tryz.prog 40 #[.pointer p, .agg (kS.v k), .int .u64 (t : Nat)] w fun e w' => e = .returned (.tuple #[.agg (rSh.v (D.seen (M.f k) t).r), .bool (!(D.seen (M.f k) t).d)]) ∧ Below w.heap.size w w' := by
 have f0 := Shp.rd_new (S := kS) w w.heap.size 39 k rfl
 have b0 := below_alloc_ w (.cells (kS.v k) 39)
 obtain ⟨w0, hw0⟩ : ∃ w0, w.alloc (.cells (kS.v k) 39) = w0 := ⟨_, rfl⟩
 rw [hw0] at f0 b0
 have f1 : Shp.tn 9 (w0.alloc (.cells #[.int .u8 0, .int .u8 0, .int .u8 0, .int .u8 0, .int .u8 0, .bool false, .int .u32 0, .int .u64 0, .string ⟨#[]⟩] 75)) w0.heap.size = true := Shp.tn_new _ _ _ _ _ rfl rfl
 have b1 := below_alloc_ w0 (.cells #[.int .u8 0, .int .u8 0, .int .u8 0, .int .u8 0, .int .u8 0, .bool false, .int .u32 0, .int .u64 0, .string ⟨#[]⟩] 75)
 obtain ⟨w1, hw1⟩ : ∃ w1, w0.alloc (.cells #[.int .u8 0, .int .u8 0, .int .u8 0, .int .u8 0, .int .u8 0, .bool false, .int .u32 0, .int .u64 0, .string ⟨#[]⟩] 75) = w1 := ⟨_, rfl⟩
 rw [hw1] at f1 b1
 have f2 := Shp.rd_on f0 b1
 have z1 := below_up b0 b0.size b1
 have CO := Lib.hid (of_key (hS.on z1) hl k)
 have hlt : w.heap.size ≤ w0.heap.size := b0.size
 clear f0 hS
 go_enter Tryz.func40, Tryz.ntmps40
 go_wp2_with fail
 try rw [hw0]
 try rw [hw1]
 clear hw0 hw1
 go_wp2_with (first
  | (go_at_call 73; (refine CO.out.mono ?_); rintro e w2 ⟨c, A, n, d, rfl, hA, hv, b2, -⟩; have CA := Lib.hid (at_any hA t); have f3 := Shp.tn_on f1 b2)
  | (go_at_call 78; (with_reducible refine CA.out.mono ?_); rintro e w3 ⟨rfl, b3⟩; have f4 := Shp.tn_on f3 b3))
 have r9 : rSh.rd (w3.setRow w0.heap.size (rSh.v (D.seen (M.f k) t).r)) ⟨w0.heap.size, 0, none⟩ = some (D.seen (M.f k) t).r := Shp.rd_set (S := rSh) _ _ _ f4
 refine bodyPost_ret (v := .tuple #[.agg (rSh.v (D.seen (M.f k) t).r), .bool (!(D.seen (M.f k) t).d)]) (by rw [results_cell_tmp rfl]; simp [asAddr, Result.andThen, lvr_ofh r9]) rfl ⟨rfl, bel_setRow (below_up (below_up z1 z1.size b2) (below_up z1 z1.size b2).size b3) hlt _⟩
theorem snewest_any {base : Nat} {w : World} {p : Option Addr} {M : D.Sm} (hS : SO base w p M) (hl : M.last ≤ 1000) (k : D.Ky) : Calls Tryz.prog 42 #[.pointer p, .agg (kS.v k)] w fun e w' => e = .returned (.int .u64 (D.nwt (M.f k) : Nat)) ∧ Below w.heap.size w w' := by
 have f0 := Shp.rd_new (S := kS) w w.heap.size 39 k rfl
 have b0 := below_alloc_ w (.cells (kS.v k) 39)
 obtain ⟨w0, hw0⟩ : ∃ w0, w.alloc (.cells (kS.v k) 39) = w0 := ⟨_, rfl⟩
 rw [hw0] at f0 b0
 have CO := Lib.hid (of_key (hS.on b0) hl k)
 clear hS
 go_enter Tryz.func42, Tryz.ntmps42
 go_wp2_with fail
 try rw [hw0]
 clear hw0
 go_wp2_with (first
  | (go_at_call 73; (refine CO.out.mono ?_); rintro e w2 ⟨c, A, n, d, rfl, hA, hv, b2, -⟩; have CA := Lib.hid (newest_any hA hv))
  | (go_at_call 81; (with_reducible refine CA.out.mono ?_); rintro e w3 ⟨rfl, b3⟩))
 go_ret
 exact ⟨rfl, below_up (below_up b0 b0.size b2) (below_up b0 b0.size b2).size b3⟩
theorem slive_any {base : Nat} {w : World} {p : Option Addr} {M : D.Sm} (hS : SO base w p M) : Calls Tryz.prog 36 #[.pointer p] w fun e w' => e = .returned (.int .i64 (M.live : Nat)) ∧ Below w.heap.size w w' := by
 have CO := Lib.hid (hS w (Below.refl _ _))
 clear hS
 go_enter Tryz.func36, Tryz.ntmps36
 go_wp2_with (go_at_call 56; (refine CO.out.mono ?_); rintro e w2 ⟨s, rfl, ⟨g, o, q, h2⟩, b2⟩; have c0 := h2.blk.c 2; simp only [List.getElem?_toArray, List.getElem?_cons_succ, List.getElem?_cons_zero] at c0)
 go_ret
 exact ⟨rfl, b2⟩
end Go.Proofs.YtjlaffgbmcpldaaGreatDoor
set_option linter.unusedVariables false
set_option linter.unusedSimpArgs false
set_option maxRecDepth 100000
namespace Go.Proofs.YtjlaffgbmcpldaaGreatDoor
open Go.RowKit Go.Shelf
attribute [local go_sem] Oper.semAt_some
attribute [local go_sem ↓] Go.wp_at_zero Go.wp_at_succ ld_k lv_k st_k eq_k ne_k bd_k ld_b lv_b st_b eq_b ne_b bd_25 ld_r lv_r st_rk eq_rk ne_rk bd_r ld_p lv_p st_px bd_p Nm.ld_a Nm.ld_n Nm.st_a Nm.st_n Nm.eq_a Nm.eq_n Nm.ne_a Nm.ne_n Nm.lv_a Nm.lv_n ld_a ld_n st_a st_n eq_a eq_n ne_a ne_n lv_a lv_n ld_l lv_l st_l bd_l bd_n bs_k
attribute [local go_sem] run_ldk run_lvk run_stk run_eqk run_nek run_bdk_z run_ldb run_lvb run_stb run_eqb run_neb run_ldr run_lvr run_strk run_eqrk run_nerk run_bdr_z run_ldp run_lvp run_stpx Nm.run_ld_a Nm.run_ld_n Nm.run_st_n Nm.run_eq_a Nm.run_eq_n Nm.run_ne_a Nm.run_ne_n Nm.run_lv_a Nm.run_lv_n Nm.rd_new Nm.rd_old Nm.rd_drew Nm.rd_drewN run_ld_a run_ld_n run_sw_a run_sw_n run_eq_a run_eq_n run_ne_a run_ne_n run_lv_a run_lv_n st_z ne_z eq_z rd_new rd_old rd_drew rd_drewN Shp.rd_new Shp.rd_old Shp.rd_drew Shp.rd_drewN Shp.rd_set Shp.tn_new Shp.tn_old Shp.tn_drew Shp.tn_drewN tn_new tn_old tn_drew tn_drewN rd_set setRow_alloc run_stn3 run_stt15 run_lvl run_ldl run_stl run_bdl run_bdn run_bdn0 run_bsk Shp.rd_extk cell_ext

def fk : Option Tk → D.Ky
 | none => D.zK
 | some t => t.hd.1
end Go.Proofs.YtjlaffgbmcpldaaGreatDoor
