/-
  
-/
import Derived.Test.YtgnjjlgmlokhmaaGreatDoorG30
import Derived.Test.YtgnjjlgmlokhmaaGreatDoorG36
import Derived.Test.YtgnjjlgmlokhmaaGreatDoorG31
import Derived.Test.YtgnjjlgmlokhmaaGreatDoorG32
import Derived.Test.YtgnjjlgmlokhmaaGreatDoorG34
import Derived.Test.YtgnjjlgmlokhmaaGreatDoorG06
set_option linter.unusedVariables false
set_option linter.unusedSimpArgs false
set_option maxRecDepth 100000
namespace Go.Proofs.YtgnjjlgmlokhmaaGreatDoor
open Go.RowKit Go.Sort

instance : Inhabited D.Uv := ⟨zUv⟩
namespace D
def lessU (x y : Uv) : Bool := decide (cfU x y = -1)
theorem lessU_trans {x y z : Uv} (h : lessU x y = true) (k : lessU y z = true) : lessU x z = true := by
 simp only [lessU, decide_eq_true_eq] at h k ⊢
 exact Nm.D.cmp_trans _ _ _ h k
theorem lessU_not {x y : Uv} (h : lessU x y = true) : lessU y x = false := by
 simp only [lessU, decide_eq_true_eq, decide_eq_false_iff_not] at h ⊢
 unfold cfU at h ⊢
 rw [Nm.D.cmp_neg, h]; decide
theorem lessU_tot {x y : Uv} (h : lessU x y = false) (k : lessU y x = false) : x = y := by
 simp only [lessU, decide_eq_false_iff_not] at h k
 refine ue_inj ?_
 rcases Nm.D.cmp_in (ue x) (ue y) with e | e | e
 ·exact absurd e h
 ·exact e
 ·exfalso
  apply k
  unfold cfU
  rw [Nm.D.cmp_neg, e]
theorem lessU_ntrans {x y z : Uv} (h : lessU x y = false) (k : lessU y z = false) : lessU x z = false := by
 cases hxz : lessU x z
 ·rfl
 ·exfalso
  cases hyx : lessU y x
  ·have := lessU_tot h hyx
   subst this
   rw [k] at hxz
   cases hxz
  ·have := lessU_trans hyx hxz
   rw [k] at this
   cases this
end D
theorem ltU (x y : D.Uv) : ltOf D.cfU x y = D.lessU x y := by
 unfold ltOf D.lessU D.cfU
 rcases Nm.D.cmp_in (D.ue x) (D.ue y) with h | h | h <;> rw [h] <;> decide
theorem swoU : SWO (ltOf D.cfU) where
 irrefl x := by rw [ltU]; unfold D.lessU D.cfU; rw [Nm.D.cmp_self]; decide
 trans x y z := by rw [ltU, ltU, ltU]; exact D.lessU_trans
 ntrans x y z := by rw [ltU, ltU, ltU]; exact D.lessU_ntrans
theorem totU (x y : D.Uv) : ltOf D.cfU x y = false -> ltOf D.cfU y x = false -> x = y := by
 rw [ltU, ltU]; exact D.lessU_tot
theorem encU_len (x : D.Uv) : (ucells x).length = 14 := uS.len x
theorem flat_getU (l : List D.Uv) (j : Nat) (h : j < l.length * 14) : (uS.rcs l)[j]? = some ((flatK ucells 14 l.toArray)[j]!) := by
 rw [get_flatK _ _ _ _ (by simpa using h)]
 have hl : j / 14 < l.length := by omega
 have e : (l.toArray)[j / 14]! = l[j / 14] := by
  rw [getElem!_pos _ _ (by simpa using hl)]
  simp
 rw [e]
 have hx : l[j / 14]? = some l[j / 14] := List.getElem?_eq_getElem hl
 obtain ⟨x, hxx⟩ : ∃ x, l[j / 14] = x := ⟨_, rfl⟩
 rw [hxx] at hx ⊢
 have hb : j % 14 < (ucells x).length := by rw [encU_len]; omega
 have := Shp.rcs_at (S := uS) hx (j % 14) _ (List.getElem?_eq_getElem hb)
 rw [show uS.n = 14 from rfl, show j / 14 * 14 + j % 14 = j by omega] at this
 rw [this]
 simp [hb]
theorem holds_uses {w : World} {g : Nat} {cur : Array Value} {e : TypeId} {l : List D.Uv} (hb : w.heap[g]? = some (.cells cur e (0, 0))) (ht : cur.toList.take (l.length * 14) = uS.rcs l) : HoldsK ucells 14 w g 0 l.toArray := by
 intro j hj
 have hj' : j < l.length * 14 := by simpa using hj
 refine ⟨?_, by simp [World.frozen?, hb]⟩
 have h1 := flat_getU l j hj'
 rw [<- ht, List.getElem?_take_of_lt hj'] at h1
 simp only [World.cell?, hb, Nat.zero_add]
 simp only [Option.isSome_none, Bool.false_eq_true, if_false]
 rw [<- Array.getElem?_toList, h1]
 rfl
theorem heap_names {w : World} {g n : Nat} {os : Array Obj} {cur : Array Value} {e : TypeId} {fr : Nat × Nat} (d : Array Value) (hb : w.heap[g]? = some (.cells cur e fr)) :
  (grow (putRow id (Sort.ahead w n) g 0 d) os).heap[g]? = some (.cells (putCells id 0 d cur) e fr) := by
 have hg : g < w.heap.size := (Array.getElem?_eq_some_iff.1 hb).1
 rw [heap_grow_old _ _ (by simpa using hg)]
 simp [putRow, mapBlock, Sort.ahead, Array.getElem?_modify, hb, onCells]
theorem grown_names {w : World} {g n : Nat} {os : Array Obj} (d : Array Value) : w.grownBy (grow (putRow id (Sort.ahead w n) g 0 d) os) (some g) := by
 refine ⟨rfl, rfl, rfl, by simp, fun k hk hne => ?_⟩
 rw [heap_grow_old _ _ (by simpa using hk)]
 have : g ≠ k := fun e => hne (by rw [e])
 simp [putRow, mapBlock, Sort.ahead, Array.getElem?_modify, this]
theorem take_uses (cur : Array Value) (l : List D.Uv) (h : l.length * 14 <= cur.size) : (putCells id 0 (flatK ucells 14 l.toArray) cur).toList.take (l.length * 14) = uS.rcs l := by
 apply List.ext_getElem?
 intro j
 by_cases hj : j < l.length * 14
 ·rw [List.getElem?_take_of_lt hj, Array.getElem?_toList, flat_getU l j hj]
  simp [putCells, hj, show j < cur.size by omega]
 ·rw [List.getElem?_take_eq_none (by omega), List.getElem?_eq_none (by rw [Shp.rcs_len, show uS.n = 14 from rfl]; omega)]
def D.SrtU (l : List D.Uv) : Prop := l.Pairwise fun a b => D.lessU b a = false
theorem sort_srtU (l : List D.Uv) : D.SrtU (l.mergeSort fun x y => !(ltOf D.cfU) y x) := by
 have h := List.pairwise_mergeSort (le := fun x y => !(ltOf D.cfU) y x) (fun a b c h1 h2 => by
  simp only [Bool.not_eq_true', ltU] at h1 h2 ⊢
  exact D.lessU_ntrans h2 h1) (fun a b => by
  simp only [ltU]
  cases h : D.lessU b a
  ·rfl
  ·rw [D.lessU_not h]; rfl) l
 exact h.imp fun {a b} h => by
  simpa [ltU] using h
set_option maxHeartbeats 1000000 in
theorem sortU_any {base n c : Nat} {A : Option Addr} {l : List D.Uv} {w : World} (h : Ow 41 14 base w A n c (uS.rcs l)) (hn : n <= 1000000) :
  Calls Tryz.prog 37 #[.slice A n c, .func (.func 19) #[] #[]] w fun e' w' => e' = .returned (.tuple #[]) ∧ ∃ l', D.SrtU l' ∧ l'.Perm l ∧ Ow 41 14 base w' A n c (uS.rcs l') ∧ w.grownBy w' (Value.slice A n c).ownBlock := by
 have hlen : l.length = n := by
  have := h.len
  rw [Shp.rcs_len, show uS.n = 14 from rfl] at this
  omega
 rcases Nat.eq_zero_or_pos n with rfl | hpos
 ·have hl : l = [] := List.eq_nil_of_length_eq_zero hlen
  subst hl
  have hS := AnyF.slices_SortFunc_none (P := Tryz.prog) (ρ := sortU_ren) { sortU with } A c (.func (.func 19) #[] #[]) w
  change Calls Tryz.prog 37 _ _ _ at hS
  refine hS.mono ?_
  rintro e' w' ⟨rfl, rfl⟩
  exact ⟨rfl, [], List.Pairwise.nil, .refl _, h, World.grownBy.refl _ _⟩
 ·rcases h.row.2 with ⟨_, h0⟩ | ⟨g, cap, cur, hv, hbase, hb, h1, h2, h3, h4⟩
  ·omega
  ·injection hv with hA hn' hc
   subst hA
   subst hc
   have hg : g < w.heap.size := (Array.getElem?_eq_some_iff.1 hb).1
   rw [<- hlen] at h4
   have hH := holds_uses hb h4
   have eg : ∀ args w, (callFunc 19 args).run Tryz.prog w = .ok (.enter 19 args) w := enters_of Tryz.func19 (by kernel_rfl) rfl
   have hcmp : CmpLays Tryz.prog 19 #[] ucells 14 D.cfU g 0 l.toArray.size w := fun _ _ _ _ x y => useCmp_any x y _
   have hcon := AnyQ.slices_SortFunc_total sortU 14 Tryz.isAgg41 Tryz.sizeOf41 ucells encU_len (fun x => uS.one x) D.cfU swoU 19 #[] g 0 c l.toArray w eg hcmp hH hg (by simp; omega) totU
   change Calls Tryz.prog 37 _ _ _ at hcon
   rw [show l.toArray.size = n by simpa using hlen] at hcon
   refine hcon.mono ?_
   rintro e' w' ⟨rfl, m, os, rfl⟩
   obtain ⟨l', hl'⟩ : ∃ l', (l.mergeSort fun x y => !(ltOf D.cfU) y x) = l' := ⟨_, rfl⟩
   have hp : l'.Perm l := by rw [<- hl']; exact List.mergeSort_perm _ _
   have hsz : l'.length = l.length := hp.length_eq
   refine ⟨rfl, l', by rw [<- hl']; exact sort_srtU l, hp, ?_, ?_⟩
   ·change Ow 41 14 base (sortWorldK ucells 14 w g 0 m (l.mergeSort fun x y => !(ltOf D.cfU) y x).toArray os) _ _ _ _
    rw [hl']
    exact ⟨⟨by rw [Shp.rcs_len, hsz, hlen]; rfl, .inr ⟨g, c, _, rfl, hbase, heap_names _ hb, h1, h2, by simp [putCells, h3], by rw [<- hlen, <- hsz]; exact take_uses cur l' (by rw [h3, hsz, hlen]; exact Nat.mul_le_mul_right _ h1)⟩⟩, Nat.le_trans h.base (by simp [sortWorldK, putRowK])⟩
   ·exact grown_names _
end Go.Proofs.YtgnjjlgmlokhmaaGreatDoor
namespace Go.Proofs.YtgnjjlgmlokhmaaGreatDoor
open Go.RowKit
attribute [local go_sem ↓] Go.wp_at_zero Go.wp_at_succ ld_uv lv_uv st_uv bd_uv bs_uv

theorem D.srt_cf {l : List D.Uv} (h : D.SrtU l) : l.Pairwise fun a b => D.cfU b a ≠ -1 := h.imp fun {a b} k => by
 unfold D.lessU at k
 simpa using k
theorem sf_any : SfC := by
 intro Bm b L w hBm hm hu hL hok hlen
 have C := Lib.hid (collect_any Bm b L w hBm hm hu hL hok hlen)
 have HLen := Lib.hid hlen
 clear hm hu hL hok hlen hBm
 go_enter Tryz.func17, Tryz.ntmps17
 go_wp2_with (first
  | (go_at_call 36; (with_reducible refine C.out.mono ?_); rintro e w1 ⟨A1, c1, ss, hp, rfl, ho, hb⟩
     have hl1 : ss.length <= 1000000 := by have := hp.length_eq; have := HLen.out; omega
     have HP := Lib.hid hp
     have HO := Lib.hid ho
     have HB := Lib.hid hb
     have CS := Lib.hid (sortU_any ho hl1)
     clear hp ho hb hl1)
  | (go_at_call 37; (with_reducible refine CS.out.mono ?_); rintro e w2 ⟨rfl, l', hs, hp, ho, hg⟩
     have HS := Lib.hid hs
     have HP2 := Lib.hid hp
     have HO2 := Lib.hid ho
     have HG := Lib.hid hg
     clear hs hp ho hg))
 have e1 : ss.length = l'.length := HP2.out.length_eq.symm
 have ho := HO2.out
 have hb := HB.out.trans (ow_below HO.out HG.out)
 go_ret
 refine ⟨A1, c1, l', D.srt_cf HS.out, HP2.out.trans HP.out, ?_, ?_, hb⟩
 ·rw [<- e1]
  try rfl
 ·rw [<- e1]; exact ho
theorem prog_uses (F : Nat -> Prop) (w : World) (u : Value) (l : List D.Nd) (hP : Pm F w 3 u l) (hR : D.Rt 3 false l) (hsz : (D.prL l).length <= 60) (hG : Gv w) :
  Calls Tryz.prog 8 #[u] w fun e w' => ∃ (A : Option Addr) (c : Nat) (S : List D.Uv), (S.Pairwise fun a b => D.cfU b a ≠ -1) ∧ S.Perm (D.insA [] (D.gth 3 l)) ∧ e = .returned (.slice A (D.foldU [] S).length c) ∧ Rw 14 w' A (D.foldU [] S).length (uS.rcs (D.foldU [] S)) ∧ Below w.heap.size w w' :=
 uses_any F w u l hP hR hsz hG sf_any
end Go.Proofs.YtgnjjlgmlokhmaaGreatDoor
namespace Go.Proofs.YtgnjjlgmlokhmaaGreatDoor
open Go.RowKit
attribute [local go_sem ↓] Go.wp_at_zero Go.wp_at_succ

theorem uses_none (u : Value) (w : World) (c : Int) (hc : c ≠ 0) (hP : Calls Tryz.prog 15 #[u] w fun e w' => e = .returned (.tuple #[.string ⟨#[]⟩, .int .i64 c]) ∧ Below w.heap.size w w') :
  Calls Tryz.prog 8 #[u] w fun e w' => e = .returned (.slice none 0 0) ∧ Below w.heap.size w w' := by
 have CP := Lib.hid hP
 have hb : (c == 0) = false := by simpa using hc
 have hb2 : (c != 0) = true := by simpa using hc
 clear hP
 go_enter Tryz.func8, Tryz.ntmps8
 go_wp2_with (go_at_call 15; (with_reducible refine CP.out.mono ?_); rintro e w1 ⟨rfl, b1⟩; have B1 := Lib.hid b1; clear b1)
 go_ret
 exact ⟨rfl, B1.out⟩

theorem sbp_app (a b : List Nat) : D.sb (a ++ b) = D.sb a ++ D.sb b := by
 apply ByteArray.ext
 simp [D.sb]
def DpC (t : List Nat) (u : Value) (w : World) : Prop := ∀ (W : World), Below w.heap.size w W -> Calls Tryz.prog 6 #[u] W fun e w' => e = .returned (.string (D.sb t)) ∧ Below W.heap.size W w'
structure Dpp (w : World) (x : D.Nd) (a b : Value) : Prop where
 kk : x.k <= 5
 wn : x.ws.length <= 1000
 z : (D.prN x).length <= 1000
 z3 : x.k = 3 ∨ x.k = 4 -> x.ws.length = x.ks.length
 out : ∃ (A1 : Option Addr) (c1 : Nat) (B1 : Option Addr) (e1 : Nat) (k1 : List Value), a = .slice A1 x.ws.length c1 ∧ Rw 1 w A1 x.ws.length (strs x.ws) ∧ b = .slice B1 x.ks.length e1 ∧ Rw 1 w B1 x.ks.length k1 ∧ ∀ (q : Nat) (u : Value) (k : List D.Nd), k1[q]? = some u -> x.ks[q]? = some k -> DpC (D.prL k) u w
theorem prL_take : ∀ {l : List D.Nd} {j : Nat} {x : D.Nd}, l[j]? = some x -> D.prL (l.take (j + 1)) = D.prL (l.take j) ++ D.prN x
 | [], j, x, h => by simp at h
 | y :: l, 0, x, h => by
  simp at h
  subst h
  simp [D.prL]
 | y :: l, j + 1, x, h => by
  simp only [List.take_succ_cons, D.prL]
  rw [prL_take (by simpa using h), List.append_assoc]
theorem prC_take : ∀ {ws : List (List Nat)} {ks : List (List D.Nd)} {j : Nat} {t : List Nat} {k : List D.Nd}, ws[j]? = some t -> ks[j]? = some k -> D.prC (ws.take (j + 1)) (ks.take (j + 1)) = D.prC (ws.take j) (ks.take j) ++ ([32] ++ t ++ [123] ++ D.prL k ++ [125])
 | [], _, j, t, k, h, _ => by simp at h
 | _ :: _, [], j, t, k, _, h => by simp at h
 | a :: ws, b :: ks, 0, t, k, h, h' => by
  simp at h h'
  subst h h'
  simp [D.prC]
 | a :: ws, b :: ks, j + 1, t, k, h, h' => by
  simp only [List.take_succ_cons, D.prC]
  rw [prC_take (by simpa using h) (by simpa using h')]
  simp
theorem prC_take_le : ∀ (ws : List (List Nat)) (ks : List (List D.Nd)) (j : Nat), (D.prC (ws.take j) (ks.take j)).length <= (D.prC ws ks).length
 | [], ks, j => by simp [D.prC]
 | _ :: _, [], j => by cases j <;> simp [D.prC]
 | a :: ws, b :: ks, 0 => by simp [D.prC]
 | a :: ws, b :: ks, j + 1 => by
  have := prC_take_le ws ks j
  simp only [List.take_succ_cons, D.prC, List.length_cons, List.length_append]
  omega
set_option maxHeartbeats 16000000 in
theorem dprint_row (Ar : Option Addr) (n c : Nat) (vs : List (D.Nd × Value × Value)) (w : World) (hr : Rw 5 w Ar n (pcl vs)) (hn : n <= 1000) (hp : ∀ (j : Nat) (x : D.Nd) (a b : Value), vs[j]? = some (x, a, b) -> Dpp w x a b) (hC : (D.prL (vs.map (·.1))).length <= 1000) :
  DpC (D.prL (vs.map (·.1))) (.slice Ar n c) w := by
 intro W hW
 have hlen := hr.len
 rw [cls_len] at hlen
 have hlen : vs.length = n := by omega
 have HR := Lib.hid hr
 have HP := Lib.hid hp
 have HW := Lib.hid hW
 have HLN := Kept.mk hlen
 have HCC := Kept.mk hC
 clear hr hp hW hlen hC
 go_enter Tryz.func6, Tryz.ntmps6
 go_wp2_with fail
 go_loopw [3, 4] (fun s3 s4 wr => ∃ (j : Nat), j <= n ∧ s4 = .int .i64 j ∧ s3 = .string (D.sb (D.prL ((vs.map (·.1)).take j))) ∧ Hid (Below W.heap.size W wr)) (fun _ s4 _ => n - (intOf s4).toNat)
 case atStart => exact ⟨0, Nat.zero_le _, rfl, rfl, Lib.hid (Below.refl _ _)⟩
 case round =>
  obtain ⟨j, hj, rfl, rfl, HZj⟩ := hrel
  obtain ⟨wo, rfl⟩ : ∃ wo : World, wo = wr := ⟨_, rfl⟩
  by_cases hlt : j < n
  ·obtain ⟨⟨x, a, b⟩, ht⟩ : ∃ a, vs[j]? = some a := ⟨_, List.getElem?_eq_getElem (by have := HLN.out; omega)⟩
   have hxl : (vs.map (·.1))[j]? = some x := by simp [ht]
   obtain ⟨hkk, hwn, hz, hz3, A1, c1, B1, e1, k1, rfl, hA1, rfl, hk1, hkk2⟩ := HP.out j x a b ht
   have hWo : Below w.heap.size w wo := HW.out.trans (HZj.out.mono HW.out.size)
   obtain ⟨ad, rfl, hmc⟩ := mpt_at (HR.out.on hWo) ht
   obtain ⟨m0, m1, m2, m3, m4, m5⟩ := hmc
   have hI : (j : Int) < n := by omega
   have htk := prL_take hxl
   have hle : (D.prL ((vs.map (·.1)).take (j + 1))).length <= 1000 := by
    have h1 := HCC.out
    have h2 : D.prL (vs.map (·.1)) = D.prL ((vs.map (·.1)).take (j + 1)) ++ D.prL ((vs.map (·.1)).drop (j + 1)) := by rw [<- D.prL_app, List.take_append_drop]
    rw [h2, List.length_append] at h1
    omega
   obtain ⟨P, hP⟩ : ∃ P, D.prL ((vs.map (·.1)).take j) = P := ⟨_, rfl⟩
   rw [hP] at htk ⊢
   rw [htk, List.length_append] at hle
   have HTK := Kept.mk htk
   have HPZ : Kept (P.length + (D.prN x).length <= 1000) := ⟨hle⟩
   obtain ⟨nw, hnw⟩ : ∃ nw, x.ws.length = nw := ⟨_, rfl⟩
   obtain ⟨nk, hnk⟩ : ∃ nk, x.ks.length = nk := ⟨_, rfl⟩
   rw [hnw] at hA1 m4 hz3 hwn
   rw [hnk] at hk1 m5 hz3
   have HNW := Kept.mk hnw
   have HNK := Kept.mk hnk
   have HA1 := Lib.hid hA1
   have HK1 := Lib.hid hk1
   have HKK := Lib.hid hkk2
   have HWo := Lib.hid hWo
   have HLT := Kept.mk hlt
   have hN1 : Blk (wo.alloc (.cells #[.int .i64 (x.k : Nat), .string (D.sb x.t), .string (D.sb x.n), .slice A1 nw c1, .slice B1 nk e1] 55)) wo.heap.size 55 #[.int .i64 (x.k : Nat), .string (D.sb x.t), .string (D.sb x.n), .slice A1 nw c1, .slice B1 nk e1] := Blk.new _ _ _
   have HBX := Lib.hid hN1
   have x0 : (wo.alloc (.cells #[.int .i64 (x.k : Nat), .string (D.sb x.t), .string (D.sb x.n), .slice A1 nw c1, .slice B1 nk e1] 55)).cell? ⟨wo.heap.size, 0, none⟩ = some (.int .i64 (x.k : Nat)) := by rw [hN1.c_ 0]; rfl
   have x1 : (wo.alloc (.cells #[.int .i64 (x.k : Nat), .string (D.sb x.t), .string (D.sb x.n), .slice A1 nw c1, .slice B1 nk e1] 55)).cell? ⟨wo.heap.size, 1, none⟩ = some (.string (D.sb x.t)) := by rw [hN1.c_ 1]; rfl
   have x2 : (wo.alloc (.cells #[.int .i64 (x.k : Nat), .string (D.sb x.t), .string (D.sb x.n), .slice A1 nw c1, .slice B1 nk e1] 55)).cell? ⟨wo.heap.size, 2, none⟩ = some (.string (D.sb x.n)) := by rw [hN1.c_ 2]; rfl
   have x3 : (wo.alloc (.cells #[.int .i64 (x.k : Nat), .string (D.sb x.t), .string (D.sb x.n), .slice A1 nw c1, .slice B1 nk e1] 55)).cell? ⟨wo.heap.size, 3, none⟩ = some (.slice A1 nw c1) := by rw [hN1.c_ 3]; rfl
   have x5 := hN1.lt
   clear ht hxl hP htk hle hnw hnk hA1 hk1 hkk2 hWo hN1
   obtain hk | hk | hk | hk | hk : x.k = 0 ∨ x.k = 1 ∨ x.k = 2 ∨ x.k = 5 ∨ (x.k = 3 ∨ x.k = 4) := by omega
   ·have i0 : ((x.k : Int) == 0) = true := by simp; omega
    have i1 : ((x.k : Int) == 1) = false := by simp; omega
    have i2 : ((x.k : Int) == 2) = false := by simp; omega
    have i5 : ((x.k : Int) == 5) = false := by simp; omega
    have hpn : D.prN x = x.t := by
     obtain ⟨k', t', n', ws', ks'⟩ := x
     simp only [D.Nd.k] at hk
     subst hk
     simp [D.prN, D.Nd.t, D.Nd.n]
    have hlz : (D.prN x).length <= 1000 := hz
    rw [hpn] at hlz
    try simp only [List.length_cons, List.length_append, List.length_nil] at hlz
    have HRES : Kept (Value.string (D.sb P ++ D.sb x.t) = .string (D.sb (D.prL ((vs.map (·.1)).take (j + 1))))) := ⟨by
     rw [HTK.out, hpn]
     congr 1
     simp only [sbp_app, ByteArray.append_assoc]
     try rfl⟩
    have sz1 : (D.sb P).size <= 2000 := by rw [D.sb_len]; have := HPZ.out; omega
    have sz3 : (D.sb x.t).size <= 2000 := by rw [D.sb_len]; omega
    clear hk hpn hlz hz
    go_wp2_with fail
    go_roundw
    case rel => exact ⟨j + 1, HLT.out, by go_num, HRES.out, Lib.hid (HZj.out.trans ((below_alloc_ wo (.cells #[.int .i64 (x.k : Nat), .string (D.sb x.t), .string (D.sb x.n), .slice A1 nw c1, .slice B1 nk e1] 55)).mono HZj.out.size))⟩
    case measure => have := HLT.out; simp [intOf]; omega
   ·have i0 : ((x.k : Int) == 0) = false := by simp; omega
    have i1 : ((x.k : Int) == 1) = true := by simp; omega
    have i2 : ((x.k : Int) == 2) = false := by simp; omega
    have i5 : ((x.k : Int) == 5) = false := by simp; omega
    have hpn : D.prN x = [123] ++ x.n ++ [125] := by
     obtain ⟨k', t', n', ws', ks'⟩ := x
     simp only [D.Nd.k] at hk
     subst hk
     simp [D.prN, D.Nd.t, D.Nd.n]
    have hlz : (D.prN x).length <= 1000 := hz
    rw [hpn] at hlz
    try simp only [List.length_cons, List.length_append, List.length_nil] at hlz
    have HRES : Kept (Value.string (D.sb P ++ (⟨#[123]⟩ : ByteArray) ++ D.sb x.n ++ ⟨#[125]⟩) = .string (D.sb (D.prL ((vs.map (·.1)).take (j + 1))))) := ⟨by
     rw [HTK.out, hpn]
     congr 1
     simp only [sbp_app, ByteArray.append_assoc]
     try rfl⟩
    have sz1 : (D.sb P).size <= 2000 := by rw [D.sb_len]; have := HPZ.out; omega
    have sz2 : (D.sb x.n).size <= 2000 := by rw [D.sb_len]; omega
    clear hk hpn hlz hz
    go_wp2_with fail
    go_roundw
    case rel => exact ⟨j + 1, HLT.out, by go_num, HRES.out, Lib.hid (HZj.out.trans ((below_alloc_ wo (.cells #[.int .i64 (x.k : Nat), .string (D.sb x.t), .string (D.sb x.n), .slice A1 nw c1, .slice B1 nk e1] 55)).mono HZj.out.size))⟩
    case measure => have := HLT.out; simp [intOf]; omega
   ·have i0 : ((x.k : Int) == 0) = false := by simp; omega
    have i1 : ((x.k : Int) == 1) = false := by simp; omega
    have i2 : ((x.k : Int) == 2) = true := by simp; omega
    have i5 : ((x.k : Int) == 5) = false := by simp; omega
    have hpn : D.prN x = [123] ++ x.n ++ D.numP := by
     obtain ⟨k', t', n', ws', ks'⟩ := x
     simp only [D.Nd.k] at hk
     subst hk
     simp [D.prN, D.Nd.t, D.Nd.n]
    have hlz : (D.prN x).length <= 1000 := hz
    rw [hpn] at hlz
    try simp only [List.length_cons, List.length_append, List.length_nil] at hlz
    have HRES : Kept (Value.string (D.sb P ++ (⟨#[123]⟩ : ByteArray) ++ D.sb x.n ++ ⟨#[44, 32, 110, 117, 109, 98, 101, 114, 125]⟩) = .string (D.sb (D.prL ((vs.map (·.1)).take (j + 1))))) := ⟨by
     rw [HTK.out, hpn]
     congr 1
     simp only [sbp_app, ByteArray.append_assoc]
     try rfl⟩
    have sz1 : (D.sb P).size <= 2000 := by rw [D.sb_len]; have := HPZ.out; omega
    have sz2 : (D.sb x.n).size <= 2000 := by rw [D.sb_len]; omega
    clear hk hpn hlz hz
    go_wp2_with fail
    go_roundw
    case rel => exact ⟨j + 1, HLT.out, by go_num, HRES.out, Lib.hid (HZj.out.trans ((below_alloc_ wo (.cells #[.int .i64 (x.k : Nat), .string (D.sb x.t), .string (D.sb x.n), .slice A1 nw c1, .slice B1 nk e1] 55)).mono HZj.out.size))⟩
    case measure => have := HLT.out; simp [intOf]; omega
   ·have i0 : ((x.k : Int) == 0) = false := by simp; omega
    have i1 : ((x.k : Int) == 1) = false := by simp; omega
    have i2 : ((x.k : Int) == 2) = false := by simp; omega
    have i5 : ((x.k : Int) == 5) = true := by simp; omega
    have hpn : D.prN x = [35] := by
     obtain ⟨k', t', n', ws', ks'⟩ := x
     simp only [D.Nd.k] at hk
     subst hk
     simp [D.prN, D.Nd.t, D.Nd.n]
    have hlz : (D.prN x).length <= 1000 := hz
    rw [hpn] at hlz
    try simp only [List.length_cons, List.length_append, List.length_nil] at hlz
    have HRES : Kept (Value.string (D.sb P ++ (⟨#[35]⟩ : ByteArray)) = .string (D.sb (D.prL ((vs.map (·.1)).take (j + 1))))) := ⟨by
     rw [HTK.out, hpn]
     congr 1
     simp only [sbp_app, ByteArray.append_assoc]
     try rfl⟩
    have sz1 : (D.sb P).size <= 2000 := by rw [D.sb_len]; have := HPZ.out; omega
    clear hk hpn hlz hz
    go_wp2_with fail
    go_roundw
    case rel => exact ⟨j + 1, HLT.out, by go_num, HRES.out, Lib.hid (HZj.out.trans ((below_alloc_ wo (.cells #[.int .i64 (x.k : Nat), .string (D.sb x.t), .string (D.sb x.n), .slice A1 nw c1, .slice B1 nk e1] 55)).mono HZj.out.size))⟩
    case measure => have := HLT.out; simp [intOf]; omega
   ·obtain hk | hk := hk
    ·have i0 : ((x.k : Int) == 0) = false := by simp; omega
     have i1 : ((x.k : Int) == 1) = false := by simp; omega
     have i2 : ((x.k : Int) == 2) = false := by simp; omega
     have i4 : ((x.k : Int) == 4) = false := by simp; omega
     have i5 : ((x.k : Int) == 5) = false := by simp; omega
     have hpn : D.prN x = [123] ++ x.n ++ D.pluP ++ D.prC x.ws x.ks ++ [125] := by
      obtain ⟨k', t', n', ws', ks'⟩ := x
      simp only [D.Nd.k] at hk
      subst hk
      simp [D.prN, D.Nd.t, D.Nd.n, D.Nd.ws, D.Nd.ks]
     have hlz : (D.prN x).length <= 1000 := hz
     rw [hpn] at hlz
     simp only [List.length_cons, List.length_append, List.length_nil] at hlz
     have hnwk : nw = nk := hz3 (by omega)
     subst hnwk
     have HLZ := Kept.mk hlz
     have hHD : D.pluP.length = 9 := rfl
     have HPN := Kept.mk hpn
     have sz1 : (D.sb P).size <= 2000 := by rw [D.sb_len]; have := HPZ.out; omega
     have sz2 : (D.sb x.n).size <= 2000 := by rw [D.sb_len]; omega
     clear hk hpn hlz hz hz3 hHD
     go_wp2_with fail
     go_loopw [6, 7] (fun s6 s7 wr => ∃ (q : Nat), q <= nw ∧ s7 = .int .i64 q ∧ s6 = .string (D.sb (D.pluP ++ D.prC (x.ws.take q) (x.ks.take q))) ∧ Hid (Below ((wo.alloc (.cells #[.int .i64 (x.k : Nat), .string (D.sb x.t), .string (D.sb x.n), .slice A1 nw c1, .slice B1 nw e1] 55))).heap.size ((wo.alloc (.cells #[.int .i64 (x.k : Nat), .string (D.sb x.t), .string (D.sb x.n), .slice A1 nw c1, .slice B1 nw e1] 55))) wr)) (fun _ s7 _ => nw - (intOf s7).toNat)
     case atStart => exact ⟨0, Nat.zero_le _, rfl, by simp [D.prC]; rfl, Lib.hid (Below.refl _ _)⟩
     case round =>
      obtain ⟨q, hq, rfl, rfl, HZ9⟩ := hrel
      obtain ⟨wi, rfl⟩ : ∃ wi : World, wi = wr := ⟨_, rfl⟩
      have HBi := Lib.hid (HBX.out.on HZ9.out)
      have b2 : wi.cell? ⟨wo.heap.size, 2, none⟩ = some (.string (D.sb x.n)) := by rw [HBi.out.c_ 2]; rfl
      have b3 : wi.cell? ⟨wo.heap.size, 3, none⟩ = some (.slice A1 nw c1) := by rw [HBi.out.c_ 3]; rfl
      have b5 := HBi.out.lt
      obtain ⟨P6, hP6⟩ : ∃ P6, D.pluP ++ D.prC (x.ws.take q) (x.ks.take q) = P6 := ⟨_, rfl⟩
      have hp6 : P6.length <= 1000 := by
       rw [<- hP6, List.length_append]
       have h1 := prC_take_le x.ws x.ks q
       have h2 := HLZ.out
       omega
      rw [hP6]
      have HP6 := Kept.mk hP6
      have sz6 : (D.sb P6).size <= 2000 := by rw [D.sb_len]; omega
      clear hP6 hp6
      by_cases hlq : q < nw
      ·obtain ⟨tq, htq⟩ : ∃ tq, x.ws[q]? = some tq := ⟨_, List.getElem?_eq_getElem (by have := HNW.out; omega)⟩
       obtain ⟨kq, hkq⟩ : ∃ kq, x.ks[q]? = some kq := ⟨_, List.getElem?_eq_getElem (by have := HNK.out; omega)⟩
       obtain ⟨vq, hvq⟩ : ∃ vq, k1[q]? = some vq := ⟨_, List.getElem?_eq_getElem (by have := HK1.out.len; omega)⟩
       have hWi : Below w.heap.size w wi := HWo.out.trans (((below_alloc_ wo _).trans (HZ9.out.mono (below_alloc_ wo _).size)).mono HWo.out.size)
       obtain ⟨adk, rfl, hbk, hck⟩ := (HK1.out.on hWi).cell hvq
       obtain ⟨adw, rfl, hbw, hcw⟩ := (HA1.out.on hWi).cell (strs_at htq)
       have hIq : (q : Int) < nw := by omega
       have hpt := prC_take htq hkq
       have hple := prC_take_le x.ws x.ks (q + 1)
       rw [hpt] at hple
       simp only [List.length_append, List.length_cons, List.length_nil] at hple
       have sz7 : (D.sb tq).size <= 2000 := by rw [D.sb_len]; have := HLZ.out; omega
       have sz8 : (D.sb (D.prL kq)).size <= 2000 := by rw [D.sb_len]; have := HLZ.out; omega
       have HRES : Kept (Value.string (D.sb P6 ++ (⟨#[32]⟩ : ByteArray) ++ D.sb tq ++ ⟨#[123]⟩ ++ D.sb (D.prL kq) ++ ⟨#[125]⟩) = .string (D.sb (D.pluP ++ D.prC (x.ws.take (q + 1)) (x.ks.take (q + 1))))) := ⟨by
        rw [hpt, <- List.append_assoc, HP6.out]
        congr 1
        simp only [sbp_app, ByteArray.append_assoc]
        try rfl⟩
       have CU : Hid (∀ W', Below w.heap.size w W' -> Calls Tryz.prog 6 #[vq] W' fun e w' => e = .returned (.string (D.sb (D.prL kq))) ∧ Below W'.heap.size W' w') := Lib.hid (HKK.out q vq kq hvq hkq)
       have HLQ := Kept.mk hlq
       clear hkq hvq htq hpt hple
       go_upto_region 13 with fail
       refine wp_region_noPanic ?_
       refine wp_region_held_drew (S := fun W' => Blk W' wo.heap.size 55 (#[.int .i64 (x.k : Nat), .string (D.sb x.t), .string (D.sb x.n), .slice (some adw) nw c1, .slice (some adk) nw e1]) ∧ W'.cell? (adw.add q) = some (.string (D.sb tq)) ∧ W'.cell? (adk.add q) = some vq) (by kernel_rfl) ⟨HBi.out.on (Below.refl _ _).drew, cell_kept_ (Below.refl _ _).drew hcw, cell_kept_ (Below.refl _ _).drew hck⟩ (fun _ => ?_)
       obtain ⟨wd, hwd⟩ : ∃ wd, wi.drew = wd := ⟨_, rfl⟩
       have bd0 : Below wi.heap.size wi wd := by rw [<- hwd]; exact (Below.refl _ _).drew
       have sd : Blk wd wo.heap.size 55 (#[.int .i64 (x.k : Nat), .string (D.sb x.t), .string (D.sb x.n), .slice (some adw) nw c1, .slice (some adk) nw e1]) ∧ wd.cell? (adw.add q) = some (.string (D.sb tq)) ∧ wd.cell? (adk.add q) = some vq := ⟨HBi.out.on bd0, cell_kept_ bd0 hcw, cell_kept_ bd0 hck⟩
       have HZd := Lib.hid (HZ9.out.trans (bd0.mono HZ9.out.size))
       have HWd := Lib.hid (hWi.trans (bd0.mono hWi.size))
       rw [hwd]
       clear hwd hWi
       refine takeT 0 (some 30) ?vax0 ?hyax0 sd ?restax0
       case hyax0 => (intro o ho W hW; simp only [gT, gS, gZ, sI] at ho; subst ho; (try dsimp only at hW); go_simp; first | rfl | (rw [if_neg (by omega)]) | (rw [if_pos (by omega)]) | skip)
       try simp only [Act.put, iT, iZ, iS]
       refine takeT 1 (some 31) ?vax1 ?hyax1 sd ?restax1
       case hyax1 => (intro o ho W hW; simp only [gT, gS, gZ, sI] at ho; subst ho; (try dsimp only at hW); go_simp; first | rfl | (rw [if_neg (by omega)]) | (rw [if_pos (by omega)]) | skip)
       try simp only [Act.put, iT, iZ, iS]
       refine takeT 2 (some 32) ?vax2 ?hyax2 sd ?restax2
       case hyax2 => (intro o ho W hW; simp only [gT, gS, gZ, sI] at ho; subst ho; (try dsimp only at hW); go_simp; first | rfl | (rw [if_neg (by omega)]) | (rw [if_pos (by omega)]) | skip)
       try simp only [Act.put, iT, iZ, iS]
       refine takeT 3 (some 33) ?vax3 ?hyax3 sd ?restax3
       case hyax3 => (intro o ho W hW; simp only [gT, gS, gZ, sI] at ho; subst ho; (try dsimp only at hW); have g0 := hW.1.c_ 3; have g1 := hW.1.c_ 4; have g2 := hW.1.lt; have g3 := hW.2.1; have g4 := hW.2.2; simp at g0 g1; go_simp; first | rfl | (rw [if_neg (by omega)]) | (rw [if_pos (by omega)]) | skip)
       try simp only [Act.put, iT, iZ, iS]
       refine takeT 4 (some 34) ?vax4 ?hyax4 sd ?restax4
       case hyax4 => (intro o ho W hW; simp only [gT, gS, gZ, sI] at ho; subst ho; (try dsimp only at hW); go_simp; first | rfl | (rw [if_neg (by omega)]) | (rw [if_pos (by omega)]) | skip)
       try simp only [Act.put, iT, iZ, iS]
       refine takeT 5 (some 35) ?vax5 ?hyax5 sd ?restax5
       case hyax5 => (intro o ho W hW; simp only [gT, gS, gZ, sI] at ho; subst ho; (try dsimp only at hW); go_simp; first | rfl | (rw [if_neg (by omega)]) | (rw [if_pos (by omega)]) | skip)
       try simp only [Act.put, iT, iZ, iS]
       refine takeT 6 (some 36) ?vax6 ?hyax6 sd ?restax6
       case hyax6 => (intro o ho W hW; simp only [gT, gS, gZ, sI] at ho; subst ho; (try dsimp only at hW); have g0 := hW.1.c_ 3; have g1 := hW.1.c_ 4; have g2 := hW.1.lt; have g3 := hW.2.1; have g4 := hW.2.2; simp at g0 g1; go_simp; first | rfl | (rw [if_neg (by omega)]) | (rw [if_pos (by omega)]) | skip)
       try simp only [Act.put, iT, iZ, iS]
       refine takeT 7 (some 37) ?vax7 ?hyax7 sd ?restax7
       case hyax7 => (intro o ho W hW; simp only [gT, gS, gZ, sI] at ho; subst ho; (try dsimp only at hW); go_simp; first | rfl | (rw [if_neg (by omega)]) | (rw [if_pos (by omega)]) | skip)
       try simp only [Act.put, iT, iZ, iS]
       refine takeT 8 (some 38) ?vax8 ?hyax8 sd ?restax8
       case hyax8 => (intro o ho W hW; simp only [gT, gS, gZ, sI] at ho; subst ho; (try dsimp only at hW); go_simp; first | rfl | (rw [if_neg (by omega)]) | (rw [if_pos (by omega)]) | skip)
       try simp only [Act.put, iT, iZ, iS]
       refine takeT 9 (some 39) ?vax9 ?hyax9 sd ?restax9
       case hyax9 => (intro o ho W hW; simp only [gT, gS, gZ, sI] at ho; subst ho; (try dsimp only at hW); go_simp; first | rfl | (rw [if_neg (by omega)]) | (rw [if_pos (by omega)]) | skip)
       try simp only [Act.put, iT, iZ, iS]
       refine takeT 10 (some 40) ?vax10 ?hyax10 sd ?restax10
       case hyax10 => (intro o ho W hW; simp only [gT, gS, gZ, sI] at ho; subst ho; (try dsimp only at hW); have g0 := hW.1.c_ 3; have g1 := hW.1.c_ 4; have g2 := hW.1.lt; have g3 := hW.2.1; have g4 := hW.2.2; simp at g0 g1; go_simp; first | rfl | (rw [if_neg (by omega)]) | (rw [if_pos (by omega)]) | skip)
       try simp only [Act.put, iT, iZ, iS]
       refine takeT 11 (some 41) ?vax11 ?hyax11 sd ?restax11
       case hyax11 => (intro o ho W hW; simp only [gT, gS, gZ, sI] at ho; subst ho; (try dsimp only at hW); go_simp; first | rfl | (rw [if_neg (by omega)]) | (rw [if_pos (by omega)]) | skip)
       try simp only [Act.put, iT, iZ, iS]
       refine takeT 12 (some 42) ?vax12 ?hyax12 sd ?restax12
       case hyax12 => (intro o ho W hW; simp only [gT, gS, gZ, sI] at ho; subst ho; (try dsimp only at hW); go_simp; first | rfl | (rw [if_neg (by omega)]) | (rw [if_pos (by omega)]) | skip)
       try simp only [Act.put, iT, iZ, iS]
       refine takeT 13 (some 43) ?vax13 ?hyax13 sd ?restax13
       case hyax13 => (intro o ho W hW; simp only [gT, gS, gZ, sI] at ho; subst ho; (try dsimp only at hW); have g0 := hW.1.c_ 3; have g1 := hW.1.c_ 4; have g2 := hW.1.lt; have g3 := hW.2.1; have g4 := hW.2.2; simp at g0 g1; go_simp; first | rfl | (rw [if_neg (by omega)]) | (rw [if_pos (by omega)]) | skip)
       try simp only [Act.put, iT, iZ, iS]
       refine nextS 14 (by kernel_rfl) (by rfl) (fun o ho K hK => ?_)
       simp only [gT, gS, gZ, sI] at ho; subst ho
       go_simp
       (go_at_call 6; (with_reducible refine (CU.out wd HWd.out).mono ?_); rintro e w6 ⟨rfl, b6⟩)
       have s6 : Blk w6 wo.heap.size 55 (#[.int .i64 (x.k : Nat), .string (D.sb x.t), .string (D.sb x.n), .slice (some adw) nw c1, .slice (some adk) nw e1]) ∧ w6.cell? (adw.add q) = some (.string (D.sb tq)) ∧ w6.cell? (adk.add q) = some vq := ⟨sd.1.on b6, cell_kept_ b6 sd.2.1, cell_kept_ b6 sd.2.2⟩
       refine hK.out _ _ s6 (fun _ => ?_)
       clear hK K
       try simp only [Act.put, iT, iZ, iS]
       refine takeT 15 (some 45) ?vay15 ?hyay15 s6 ?restay15
       case hyay15 => (intro o ho W hW; simp only [gT, gS, gZ, sI] at ho; subst ho; (try dsimp only at hW); go_simp; first | rfl | (rw [if_neg (by omega)]) | (rw [if_pos (by omega)]) | skip)
       try simp only [Act.put, iT, iZ, iS]
       refine takeT 16 (some 46) ?vay16 ?hyay16 s6 ?restay16
       case hyay16 => (intro o ho W hW; simp only [gT, gS, gZ, sI] at ho; subst ho; (try dsimp only at hW); go_simp; first | rfl | (rw [if_neg (by omega)]) | (rw [if_pos (by omega)]) | skip)
       try simp only [Act.put, iT, iZ, iS]
       refine takeT 17 (some 6) ?vay17 ?hyay17 s6 ?restay17
       case hyay17 => (intro o ho W hW; simp only [gT, gS, gZ, sI] at ho; subst ho; (try dsimp only at hW); go_simp; first | rfl | (rw [if_neg (by omega)]) | (rw [if_pos (by omega)]) | skip)
       try simp only [Act.put, iT, iZ, iS]
       refine wpAnyH_done (by kernel_rfl) ?_ _
       refine NoPanic.normal ?_
       have HZ6 := Lib.hid (HZd.out.trans (b6.mono HZd.out.size))
       go_wp2_with fail
       go_roundw
       case rel => exact ⟨q + 1, HLQ.out, by go_num, HRES.out, HZ6⟩
       case measure => have := HLQ.out; simp [intOf]; omega
      ·obtain rfl : q = nw := by omega
       have e1 : x.ws.take q = x.ws := List.take_of_length_le (by have := HNW.out; omega)
       have e2 : x.ks.take q = x.ks := List.take_of_length_le (by have := HNK.out; omega)
       have HRES : Kept (Value.string (D.sb P ++ (⟨#[123]⟩ : ByteArray) ++ D.sb x.n ++ D.sb P6 ++ ⟨#[125]⟩) = .string (D.sb (D.prL ((vs.map (·.1)).take (j + 1))))) := ⟨by
        rw [HTK.out, HPN.out, <- HP6.out, e1, e2]
        congr 1
        simp only [sbp_app, ByteArray.append_assoc]
        try rfl⟩
       clear e1 e2
       go_wp2_with fail
       go_roundw
       case rel => exact ⟨j + 1, HLT.out, by go_num, HRES.out, Lib.hid (HZj.out.trans (((below_alloc_ wo _).trans (HZ9.out.mono (below_alloc_ wo _).size)).mono HZj.out.size))⟩
       case measure => have := HLT.out; simp [intOf]; omega
    ·have i0 : ((x.k : Int) == 0) = false := by simp; omega
     have i1 : ((x.k : Int) == 1) = false := by simp; omega
     have i2 : ((x.k : Int) == 2) = false := by simp; omega
     have i4 : ((x.k : Int) == 4) = true := by simp; omega
     have i5 : ((x.k : Int) == 5) = false := by simp; omega
     have hpn : D.prN x = [123] ++ x.n ++ D.selP ++ D.prC x.ws x.ks ++ [125] := by
      obtain ⟨k', t', n', ws', ks'⟩ := x
      simp only [D.Nd.k] at hk
      subst hk
      simp [D.prN, D.Nd.t, D.Nd.n, D.Nd.ws, D.Nd.ks]
     have hlz : (D.prN x).length <= 1000 := hz
     rw [hpn] at hlz
     simp only [List.length_cons, List.length_append, List.length_nil] at hlz
     have hnwk : nw = nk := hz3 (by omega)
     subst hnwk
     have HLZ := Kept.mk hlz
     have hHD : D.selP.length = 9 := rfl
     have HPN := Kept.mk hpn
     have sz1 : (D.sb P).size <= 2000 := by rw [D.sb_len]; have := HPZ.out; omega
     have sz2 : (D.sb x.n).size <= 2000 := by rw [D.sb_len]; omega
     clear hk hpn hlz hz hz3 hHD
     go_wp2_with fail
     go_loopw [6, 7] (fun s6 s7 wr => ∃ (q : Nat), q <= nw ∧ s7 = .int .i64 q ∧ s6 = .string (D.sb (D.selP ++ D.prC (x.ws.take q) (x.ks.take q))) ∧ Hid (Below ((wo.alloc (.cells #[.int .i64 (x.k : Nat), .string (D.sb x.t), .string (D.sb x.n), .slice A1 nw c1, .slice B1 nw e1] 55))).heap.size ((wo.alloc (.cells #[.int .i64 (x.k : Nat), .string (D.sb x.t), .string (D.sb x.n), .slice A1 nw c1, .slice B1 nw e1] 55))) wr)) (fun _ s7 _ => nw - (intOf s7).toNat)
     case atStart => exact ⟨0, Nat.zero_le _, rfl, by simp [D.prC]; rfl, Lib.hid (Below.refl _ _)⟩
     case round =>
      obtain ⟨q, hq, rfl, rfl, HZ9⟩ := hrel
      obtain ⟨wi, rfl⟩ : ∃ wi : World, wi = wr := ⟨_, rfl⟩
      have HBi := Lib.hid (HBX.out.on HZ9.out)
      have b2 : wi.cell? ⟨wo.heap.size, 2, none⟩ = some (.string (D.sb x.n)) := by rw [HBi.out.c_ 2]; rfl
      have b3 : wi.cell? ⟨wo.heap.size, 3, none⟩ = some (.slice A1 nw c1) := by rw [HBi.out.c_ 3]; rfl
      have b5 := HBi.out.lt
      obtain ⟨P6, hP6⟩ : ∃ P6, D.selP ++ D.prC (x.ws.take q) (x.ks.take q) = P6 := ⟨_, rfl⟩
      have hp6 : P6.length <= 1000 := by
       rw [<- hP6, List.length_append]
       have h1 := prC_take_le x.ws x.ks q
       have h2 := HLZ.out
       omega
      rw [hP6]
      have HP6 := Kept.mk hP6
      have sz6 : (D.sb P6).size <= 2000 := by rw [D.sb_len]; omega
      clear hP6 hp6
      by_cases hlq : q < nw
      ·obtain ⟨tq, htq⟩ : ∃ tq, x.ws[q]? = some tq := ⟨_, List.getElem?_eq_getElem (by have := HNW.out; omega)⟩
       obtain ⟨kq, hkq⟩ : ∃ kq, x.ks[q]? = some kq := ⟨_, List.getElem?_eq_getElem (by have := HNK.out; omega)⟩
       obtain ⟨vq, hvq⟩ : ∃ vq, k1[q]? = some vq := ⟨_, List.getElem?_eq_getElem (by have := HK1.out.len; omega)⟩
       have hWi : Below w.heap.size w wi := HWo.out.trans (((below_alloc_ wo _).trans (HZ9.out.mono (below_alloc_ wo _).size)).mono HWo.out.size)
       obtain ⟨adk, rfl, hbk, hck⟩ := (HK1.out.on hWi).cell hvq
       obtain ⟨adw, rfl, hbw, hcw⟩ := (HA1.out.on hWi).cell (strs_at htq)
       have hIq : (q : Int) < nw := by omega
       have hpt := prC_take htq hkq
       have hple := prC_take_le x.ws x.ks (q + 1)
       rw [hpt] at hple
       simp only [List.length_append, List.length_cons, List.length_nil] at hple
       have sz7 : (D.sb tq).size <= 2000 := by rw [D.sb_len]; have := HLZ.out; omega
       have sz8 : (D.sb (D.prL kq)).size <= 2000 := by rw [D.sb_len]; have := HLZ.out; omega
       have HRES : Kept (Value.string (D.sb P6 ++ (⟨#[32]⟩ : ByteArray) ++ D.sb tq ++ ⟨#[123]⟩ ++ D.sb (D.prL kq) ++ ⟨#[125]⟩) = .string (D.sb (D.selP ++ D.prC (x.ws.take (q + 1)) (x.ks.take (q + 1))))) := ⟨by
        rw [hpt, <- List.append_assoc, HP6.out]
        congr 1
        simp only [sbp_app, ByteArray.append_assoc]
        try rfl⟩
       have CU : Hid (∀ W', Below w.heap.size w W' -> Calls Tryz.prog 6 #[vq] W' fun e w' => e = .returned (.string (D.sb (D.prL kq))) ∧ Below W'.heap.size W' w') := Lib.hid (HKK.out q vq kq hvq hkq)
       have HLQ := Kept.mk hlq
       clear hkq hvq htq hpt hple
       go_upto_region 13 with fail
       refine wp_region_noPanic ?_
       refine wp_region_held_drew (S := fun W' => Blk W' wo.heap.size 55 (#[.int .i64 (x.k : Nat), .string (D.sb x.t), .string (D.sb x.n), .slice (some adw) nw c1, .slice (some adk) nw e1]) ∧ W'.cell? (adw.add q) = some (.string (D.sb tq)) ∧ W'.cell? (adk.add q) = some vq) (by kernel_rfl) ⟨HBi.out.on (Below.refl _ _).drew, cell_kept_ (Below.refl _ _).drew hcw, cell_kept_ (Below.refl _ _).drew hck⟩ (fun _ => ?_)
       obtain ⟨wd, hwd⟩ : ∃ wd, wi.drew = wd := ⟨_, rfl⟩
       have bd0 : Below wi.heap.size wi wd := by rw [<- hwd]; exact (Below.refl _ _).drew
       have sd : Blk wd wo.heap.size 55 (#[.int .i64 (x.k : Nat), .string (D.sb x.t), .string (D.sb x.n), .slice (some adw) nw c1, .slice (some adk) nw e1]) ∧ wd.cell? (adw.add q) = some (.string (D.sb tq)) ∧ wd.cell? (adk.add q) = some vq := ⟨HBi.out.on bd0, cell_kept_ bd0 hcw, cell_kept_ bd0 hck⟩
       have HZd := Lib.hid (HZ9.out.trans (bd0.mono HZ9.out.size))
       have HWd := Lib.hid (hWi.trans (bd0.mono hWi.size))
       rw [hwd]
       clear hwd hWi
       refine takeT 0 (some 30) ?vbx0 ?hybx0 sd ?restbx0
       case hybx0 => (intro o ho W hW; simp only [gT, gS, gZ, sI] at ho; subst ho; (try dsimp only at hW); go_simp; first | rfl | (rw [if_neg (by omega)]) | (rw [if_pos (by omega)]) | skip)
       try simp only [Act.put, iT, iZ, iS]
       refine takeT 1 (some 31) ?vbx1 ?hybx1 sd ?restbx1
       case hybx1 => (intro o ho W hW; simp only [gT, gS, gZ, sI] at ho; subst ho; (try dsimp only at hW); go_simp; first | rfl | (rw [if_neg (by omega)]) | (rw [if_pos (by omega)]) | skip)
       try simp only [Act.put, iT, iZ, iS]
       refine takeT 2 (some 32) ?vbx2 ?hybx2 sd ?restbx2
       case hybx2 => (intro o ho W hW; simp only [gT, gS, gZ, sI] at ho; subst ho; (try dsimp only at hW); go_simp; first | rfl | (rw [if_neg (by omega)]) | (rw [if_pos (by omega)]) | skip)
       try simp only [Act.put, iT, iZ, iS]
       refine takeT 3 (some 33) ?vbx3 ?hybx3 sd ?restbx3
       case hybx3 => (intro o ho W hW; simp only [gT, gS, gZ, sI] at ho; subst ho; (try dsimp only at hW); have g0 := hW.1.c_ 3; have g1 := hW.1.c_ 4; have g2 := hW.1.lt; have g3 := hW.2.1; have g4 := hW.2.2; simp at g0 g1; go_simp; first | rfl | (rw [if_neg (by omega)]) | (rw [if_pos (by omega)]) | skip)
       try simp only [Act.put, iT, iZ, iS]
       refine takeT 4 (some 34) ?vbx4 ?hybx4 sd ?restbx4
       case hybx4 => (intro o ho W hW; simp only [gT, gS, gZ, sI] at ho; subst ho; (try dsimp only at hW); go_simp; first | rfl | (rw [if_neg (by omega)]) | (rw [if_pos (by omega)]) | skip)
       try simp only [Act.put, iT, iZ, iS]
       refine takeT 5 (some 35) ?vbx5 ?hybx5 sd ?restbx5
       case hybx5 => (intro o ho W hW; simp only [gT, gS, gZ, sI] at ho; subst ho; (try dsimp only at hW); go_simp; first | rfl | (rw [if_neg (by omega)]) | (rw [if_pos (by omega)]) | skip)
       try simp only [Act.put, iT, iZ, iS]
       refine takeT 6 (some 36) ?vbx6 ?hybx6 sd ?restbx6
       case hybx6 => (intro o ho W hW; simp only [gT, gS, gZ, sI] at ho; subst ho; (try dsimp only at hW); have g0 := hW.1.c_ 3; have g1 := hW.1.c_ 4; have g2 := hW.1.lt; have g3 := hW.2.1; have g4 := hW.2.2; simp at g0 g1; go_simp; first | rfl | (rw [if_neg (by omega)]) | (rw [if_pos (by omega)]) | skip)
       try simp only [Act.put, iT, iZ, iS]
       refine takeT 7 (some 37) ?vbx7 ?hybx7 sd ?restbx7
       case hybx7 => (intro o ho W hW; simp only [gT, gS, gZ, sI] at ho; subst ho; (try dsimp only at hW); go_simp; first | rfl | (rw [if_neg (by omega)]) | (rw [if_pos (by omega)]) | skip)
       try simp only [Act.put, iT, iZ, iS]
       refine takeT 8 (some 38) ?vbx8 ?hybx8 sd ?restbx8
       case hybx8 => (intro o ho W hW; simp only [gT, gS, gZ, sI] at ho; subst ho; (try dsimp only at hW); go_simp; first | rfl | (rw [if_neg (by omega)]) | (rw [if_pos (by omega)]) | skip)
       try simp only [Act.put, iT, iZ, iS]
       refine takeT 9 (some 39) ?vbx9 ?hybx9 sd ?restbx9
       case hybx9 => (intro o ho W hW; simp only [gT, gS, gZ, sI] at ho; subst ho; (try dsimp only at hW); go_simp; first | rfl | (rw [if_neg (by omega)]) | (rw [if_pos (by omega)]) | skip)
       try simp only [Act.put, iT, iZ, iS]
       refine takeT 10 (some 40) ?vbx10 ?hybx10 sd ?restbx10
       case hybx10 => (intro o ho W hW; simp only [gT, gS, gZ, sI] at ho; subst ho; (try dsimp only at hW); have g0 := hW.1.c_ 3; have g1 := hW.1.c_ 4; have g2 := hW.1.lt; have g3 := hW.2.1; have g4 := hW.2.2; simp at g0 g1; go_simp; first | rfl | (rw [if_neg (by omega)]) | (rw [if_pos (by omega)]) | skip)
       try simp only [Act.put, iT, iZ, iS]
       refine takeT 11 (some 41) ?vbx11 ?hybx11 sd ?restbx11
       case hybx11 => (intro o ho W hW; simp only [gT, gS, gZ, sI] at ho; subst ho; (try dsimp only at hW); go_simp; first | rfl | (rw [if_neg (by omega)]) | (rw [if_pos (by omega)]) | skip)
       try simp only [Act.put, iT, iZ, iS]
       refine takeT 12 (some 42) ?vbx12 ?hybx12 sd ?restbx12
       case hybx12 => (intro o ho W hW; simp only [gT, gS, gZ, sI] at ho; subst ho; (try dsimp only at hW); go_simp; first | rfl | (rw [if_neg (by omega)]) | (rw [if_pos (by omega)]) | skip)
       try simp only [Act.put, iT, iZ, iS]
       refine takeT 13 (some 43) ?vbx13 ?hybx13 sd ?restbx13
       case hybx13 => (intro o ho W hW; simp only [gT, gS, gZ, sI] at ho; subst ho; (try dsimp only at hW); have g0 := hW.1.c_ 3; have g1 := hW.1.c_ 4; have g2 := hW.1.lt; have g3 := hW.2.1; have g4 := hW.2.2; simp at g0 g1; go_simp; first | rfl | (rw [if_neg (by omega)]) | (rw [if_pos (by omega)]) | skip)
       try simp only [Act.put, iT, iZ, iS]
       refine nextS 14 (by kernel_rfl) (by rfl) (fun o ho K hK => ?_)
       simp only [gT, gS, gZ, sI] at ho; subst ho
       go_simp
       (go_at_call 6; (with_reducible refine (CU.out wd HWd.out).mono ?_); rintro e w6 ⟨rfl, b6⟩)
       have s6 : Blk w6 wo.heap.size 55 (#[.int .i64 (x.k : Nat), .string (D.sb x.t), .string (D.sb x.n), .slice (some adw) nw c1, .slice (some adk) nw e1]) ∧ w6.cell? (adw.add q) = some (.string (D.sb tq)) ∧ w6.cell? (adk.add q) = some vq := ⟨sd.1.on b6, cell_kept_ b6 sd.2.1, cell_kept_ b6 sd.2.2⟩
       refine hK.out _ _ s6 (fun _ => ?_)
       clear hK K
       try simp only [Act.put, iT, iZ, iS]
       refine takeT 15 (some 45) ?vby15 ?hyby15 s6 ?restby15
       case hyby15 => (intro o ho W hW; simp only [gT, gS, gZ, sI] at ho; subst ho; (try dsimp only at hW); go_simp; first | rfl | (rw [if_neg (by omega)]) | (rw [if_pos (by omega)]) | skip)
       try simp only [Act.put, iT, iZ, iS]
       refine takeT 16 (some 46) ?vby16 ?hyby16 s6 ?restby16
       case hyby16 => (intro o ho W hW; simp only [gT, gS, gZ, sI] at ho; subst ho; (try dsimp only at hW); go_simp; first | rfl | (rw [if_neg (by omega)]) | (rw [if_pos (by omega)]) | skip)
       try simp only [Act.put, iT, iZ, iS]
       refine takeT 17 (some 6) ?vby17 ?hyby17 s6 ?restby17
       case hyby17 => (intro o ho W hW; simp only [gT, gS, gZ, sI] at ho; subst ho; (try dsimp only at hW); go_simp; first | rfl | (rw [if_neg (by omega)]) | (rw [if_pos (by omega)]) | skip)
       try simp only [Act.put, iT, iZ, iS]
       refine wpAnyH_done (by kernel_rfl) ?_ _
       refine NoPanic.normal ?_
       have HZ6 := Lib.hid (HZd.out.trans (b6.mono HZd.out.size))
       go_wp2_with fail
       go_roundw
       case rel => exact ⟨q + 1, HLQ.out, by go_num, HRES.out, HZ6⟩
       case measure => have := HLQ.out; simp [intOf]; omega
      ·obtain rfl : q = nw := by omega
       have e1 : x.ws.take q = x.ws := List.take_of_length_le (by have := HNW.out; omega)
       have e2 : x.ks.take q = x.ks := List.take_of_length_le (by have := HNK.out; omega)
       have HRES : Kept (Value.string (D.sb P ++ (⟨#[123]⟩ : ByteArray) ++ D.sb x.n ++ D.sb P6 ++ ⟨#[125]⟩) = .string (D.sb (D.prL ((vs.map (·.1)).take (j + 1))))) := ⟨by
        rw [HTK.out, HPN.out, <- HP6.out, e1, e2]
        congr 1
        simp only [sbp_app, ByteArray.append_assoc]
        try rfl⟩
       clear e1 e2
       go_wp2_with fail
       go_roundw
       case rel => exact ⟨j + 1, HLT.out, by go_num, HRES.out, Lib.hid (HZj.out.trans (((below_alloc_ wo _).trans (HZ9.out.mono (below_alloc_ wo _).size)).mono HZj.out.size))⟩
       case measure => have := HLT.out; simp [intOf]; omega
  ·obtain rfl : j = n := by omega
   have e1 : (vs.map (·.1)).take j = vs.map (·.1) := List.take_of_length_le (by simp; have := HLN.out; omega)
   rw [e1]
   clear e1
   go_wp2
   go_ret
   exact ⟨rfl, HZj.out⟩
end Go.Proofs.YtgnjjlgmlokhmaaGreatDoor
