/-
  
-/
import Derived.Test.YtgnjjlgmlokhmaaGreatDoorG10
import Derived.Deep.WholeRow
import Derived.KernelRfl
import Derived.Test.YtgnjjlgmlokhmaaGreatDoorG09
import Derived.Deep.CutRange
import Derived.Test.YtgnjjlgmlokhmaaGreatDoorRow
set_option linter.unusedVariables false
set_option linter.unusedSimpArgs false
set_option maxRecDepth 100000
namespace Go.Proofs.YtgnjjlgmlokhmaaGreatDoor
open Go.RowKit
attribute [local go_sem ↓] Go.wp_at_zero Go.wp_at_succ

noncomputable def stu (p v : Value) : Sem Unit := Instr.storeAt 201 p v
theorem st_u (p v : Value) : Instr.storeAt 201 p v = stu p v := rfl
theorem run_stu (w : World) (n : Nat) (c : Int) (v : Value) (h : n = w.heap.size) (hv : v.oneCell' = true) :
  (stu (.pointer (some ⟨n, 0, none⟩)) (.agg #[.int .i64 c, v])).run Tryz.prog (w.alloc (.cells #[.int .i64 0, .nilFunc] 201)) = .ok () (w.alloc (.cells #[.int .i64 c, v] 201)) := by
 subst h
 exact run_storeAt_new (P := Tryz.prog) w 201 _ #[.int .i64 c, v] (by kernel_rfl) rfl (by simp [hv]; rfl)
noncomputable def bdu (ps : Array (Nat × Value)) : Sem Value := Instr.build 201 ps
theorem bd_u (ps : Array (Nat × Value)) : Instr.build 201 ps = bdu ps := rfl
theorem run_bdu (w : World) (c : Int) (v : Value) (hv : v.oneCell' = true) : (bdu #[(0, .int .i64 c), (1, v)]).run Tryz.prog w = .ok (.agg #[.int .i64 c, v]) w := by
 cases v <;> first
  | (simp [Value.oneCell'] at hv; done)
  | (simp [bdu, Instr.build, go_sem]; done)
structure Fw (w0 w : World) : Prop where
 below : Below w0.heap.size w0 w
theorem Fw.self (w : World) : Fw w w := ⟨Below.refl _ _⟩
theorem Fw.alloc {w0 w : World} (h : Fw w0 w) (o : Obj) : Fw w0 (w.alloc o) := ⟨h.below.alloc h.below.size o⟩
theorem Fw.on {w0 w w' : World} (h : Fw w0 w) (hb : Below w.heap.size w w') : Fw w0 w' := ⟨h.below.trans (hb.mono h.below.size)⟩
structure RR (w : World) (A : Option Addr) (n : Nat) (l : List (Nat × D.Ts)) : Prop where
 len : l.length = n
 at_ : ∀ (i c : Nat) (t : D.Ts), l[i]? = some (c, t) -> ∃ g v, A = some ⟨g, 0, none⟩ ∧ w.cell? ⟨g, i * 2, none⟩ = some (.int .i64 c) ∧ w.cell? ⟨g, i * 2 + 1, none⟩ = some v ∧ FT w v t
theorem RR.on {w w' : World} {A : Option Addr} {n : Nat} {l : List (Nat × D.Ts)} (h : RR w A n l) (hb : Below w.heap.size w w') : RR w' A n l := ⟨h.len, fun i c t hi => by
 obtain ⟨g, v, e, h1, h2, h3⟩ := h.at_ i c t hi
 have hg : g < w.heap.size := World.block_lt_of_cell? w _ h1
 exact ⟨g, v, e, (hb.cell (p := ⟨g, i * 2, none⟩) hg).trans h1, (hb.cell (p := ⟨g, i * 2 + 1, none⟩) hg).trans h2, h3.on hb⟩⟩
theorem RR.nil (w : World) (A : Option Addr) : RR w A 0 [] := ⟨rfl, fun i c t h => by simp at h⟩
def rcl : List (Nat × Value) -> List Value
 | [] => []
 | (c, v) :: r => .int .i64 c :: v :: rcl r
theorem rcl_at : ∀ {l : List (Nat × Value)} {i c : Nat} {v : Value}, l[i]? = some (c, v) -> (rcl l)[i * 2]? = some (.int .i64 c) ∧ (rcl l)[i * 2 + 1]? = some v
 | [], i, c, v, h => by simp at h
 | (c', v') :: r, 0, c, v, h => by
  simp at h
  obtain ⟨rfl, rfl⟩ := h
  exact ⟨rfl, rfl⟩
 | (c', v') :: r, i + 1, c, v, h => by
  have := rcl_at (l := r) (i := i) (c := c) (v := v) (by simpa using h)
  rw [show (i + 1) * 2 = i * 2 + 1 + 1 by omega, rcl, List.getElem?_cons_succ, List.getElem?_cons_succ, List.getElem?_cons_succ, List.getElem?_cons_succ]
  exact this
theorem add_oo (g j : Nat) : (⟨g, 0, none⟩ : Addr).add j = ⟨g, j, none⟩ := by
 by_cases h : j = 0
 ·subst h; rfl
 ·simp [Addr.add, h]
theorem RR.new (w : World) (g : Nat) (T : TypeId) (hg : g = w.heap.size) (l : List (Nat × Value × D.Ts)) (hl : ∀ q ∈ l, FT w q.2.1 q.2.2) (cs : Array Value) (hc : cs.toList = rcl (l.map fun q => (q.1, q.2.1))) (n : Nat) (hn : l.length = n) :
  RR (w.alloc (.cells cs T)) (some ⟨g, 0, none⟩) n (l.map fun q => (q.1, q.2.2)) := by
 subst hg
 refine ⟨by simpa using hn, fun i c t hi => ?_⟩
 rw [List.getElem?_map] at hi
 cases hq : l[i]? with
 | none => rw [hq] at hi; cases hi
 | some q =>
  rw [hq] at hi
  obtain ⟨c', v, t'⟩ := q
  simp only [Option.map_some, Option.some.injEq, Prod.mk.injEq] at hi
  obtain ⟨rfl, rfl⟩ := hi
  obtain ⟨h1, h2⟩ := rcl_at (l := l.map fun q => (q.1, q.2.1)) (i := i) (c := c') (v := v) (by rw [List.getElem?_map, hq]; rfl)
  rw [<- hc] at h1 h2
  have e1 := World.news_of_block (heap_alloc_new w (.cells cs T)) (i * 2) _ h1
  have e2 := World.news_of_block (heap_alloc_new w (.cells cs T)) (i * 2 + 1) _ h2
  rw [add_oo] at e1
  rw [add_oo] at e2
  exact ⟨_, v, rfl, e1, e2, (hl _ (List.mem_of_getElem? hq)).on (below_alloc_ _ _)⟩
theorem txt_test (s : ByteArray) (u : List UInt8) (l : List Nat) (h : u.map (·.toNat) = l) : (s.toList == u) = decide (D.ns s = l) := by
 rw [ByteArray.toList_eq, Bool.eq_iff_iff, beq_iff_eq, decide_eq_true_eq, D.ns, <- h]
 constructor
 ·intro e; rw [e]
 ·intro e
  have : s = ⟨u.toArray⟩ := D.ns_inj (by rw [D.ns, e]; simp [D.ns])
  rw [this]
theorem am_11 (w : World) : Calls Tryz.prog 135 #[.int .u64 1, .int .u64 1] w fun e w' => ∃ v g h, e = .returned v ∧ FA w' v 1 1 g h ∧ v.oneCell' = true ∧ Below w.heap.size w w' := among_any 1 1 w
theorem am_24 (w : World) : Calls Tryz.prog 135 #[.int .u64 2, .int .u64 4] w fun e w' => ∃ v g h, e = .returned v ∧ FA w' v 2 4 g h ∧ v.oneCell' = true ∧ Below w.heap.size w w' := among_any 2 4 w
theorem am_1214 (w : World) : Calls Tryz.prog 135 #[.int .u64 12, .int .u64 14] w fun e w' => ∃ v g h, e = .returned v ∧ FA w' v 12 14 g h ∧ v.oneCell' = true ∧ Below w.heap.size w w' := among_any 12 14 w
theorem am_1119 (w : World) : Calls Tryz.prog 135 #[.int .u64 11, .int .u64 19] w fun e w' => ∃ v g h, e = .returned v ∧ FA w' v 11 19 g h ∧ v.oneCell' = true ∧ Below w.heap.size w w' := among_any 11 19 w
theorem am_01 (w : World) : Calls Tryz.prog 135 #[.int .u64 0, .int .u64 1] w fun e w' => ∃ v g h, e = .returned v ∧ FA w' v 0 1 g h ∧ v.oneCell' = true ∧ Below w.heap.size w w' := among_any 0 1 w
theorem am_1111 (w : World) : Calls Tryz.prog 135 #[.int .u64 11, .int .u64 11] w fun e w' => ∃ v g h, e = .returned v ∧ FA w' v 11 11 g h ∧ v.oneCell' = true ∧ Below w.heap.size w w' := among_any 11 11 w
theorem am_00 (w : World) : Calls Tryz.prog 135 #[.int .u64 0, .int .u64 0] w fun e w' => ∃ v g h, e = .returned v ∧ FA w' v 0 0 g h ∧ v.oneCell' = true ∧ Below w.heap.size w w' := among_any 0 0 w
theorem am_22 (w : World) : Calls Tryz.prog 135 #[.int .u64 2, .int .u64 2] w fun e w' => ∃ v g h, e = .returned v ∧ FA w' v 2 2 g h ∧ v.oneCell' = true ∧ Below w.heap.size w w' := among_any 2 2 w
theorem am_310 (w : World) : Calls Tryz.prog 135 #[.int .u64 3, .int .u64 10] w fun e w' => ∃ v g h, e = .returned v ∧ FA w' v 3 10 g h ∧ v.oneCell' = true ∧ Below w.heap.size w w' := among_any 3 10 w
theorem am_1199 (w : World) : Calls Tryz.prog 135 #[.int .u64 11, .int .u64 99] w fun e w' => ∃ v g h, e = .returned v ∧ FA w' v 11 99 g h ∧ v.oneCell' = true ∧ Below w.heap.size w w' := among_any 11 99 w
theorem am_29 (w : World) : Calls Tryz.prog 135 #[.int .u64 2, .int .u64 9] w fun e w' => ∃ v g h, e = .returned v ∧ FA w' v 2 9 g h ∧ v.oneCell' = true ∧ Below w.heap.size w w' := among_any 2 9 w
theorem re_10 (lo hi g h : Nat) (v : Value) (w : World) (f : FA w v lo hi g h) : Calls Tryz.prog 137 #[.int .u64 10, v] w fun e w' => ∃ v1 g1 h1, e = .returned v1 ∧ FR w' v1 10 lo hi g1 h1 g h ∧ v1.oneCell' = true ∧ Below w.heap.size w w' := rest_any 10 lo hi g h v w f
theorem re_100 (lo hi g h : Nat) (v : Value) (w : World) (f : FA w v lo hi g h) : Calls Tryz.prog 137 #[.int .u64 100, v] w fun e w' => ∃ v1 g1 h1, e = .returned v1 ∧ FR w' v1 100 lo hi g1 h1 g h ∧ v1.oneCell' = true ∧ Below w.heap.size w w' := rest_any 100 lo hi g h v w f
structure Tst (s : ByteArray) (k : Nat -> Bool) : Prop where
 t0 : (s.toList == [106, 97]) = k 0
 t1 : (s.toList == [107, 111]) = k 1
 t2 : (s.toList == [122, 104]) = k 2
 t3 : (s.toList == [118, 105]) = k 3
 t4 : (s.toList == [116, 104]) = k 4
 t5 : (s.toList == [105, 100]) = k 5
 t6 : (s.toList == [102, 114]) = k 6
 t7 : (s.toList == [112, 116]) = k 7
 t8 : (s.toList == [114, 117]) = k 8
 t9 : (s.toList == [117, 107]) = k 9
 t10 : (s.toList == [115, 114]) = k 10
 t11 : (s.toList == [112, 108]) = k 11
 t12 : (s.toList == [99, 115]) = k 12
 t13 : (s.toList == [115, 107]) = k 13
 t14 : (s.toList == [97, 114]) = k 14
 t15 : (s.toList == [108, 116]) = k 15
theorem tst_any (s : ByteArray) : Tst s fun i => decide (D.ns s = (D.langs.getD i ([], 0)).1) := ⟨txt_test s _ _ rfl, txt_test s _ _ rfl, txt_test s _ _ rfl, txt_test s _ _ rfl, txt_test s _ _ rfl, txt_test s _ _ rfl, txt_test s _ _ rfl, txt_test s _ _ rfl, txt_test s _ _ rfl, txt_test s _ _ rfl, txt_test s _ _ rfl, txt_test s _ _ rfl, txt_test s _ _ rfl, txt_test s _ _ rfl, txt_test s _ _ rfl, txt_test s _ _ rfl⟩
theorem tst_cases (s : ByteArray) : (∃ i, i < 16 ∧ (Tst s fun j => decide (j = i ∨ 16 <= j)) ∧ D.grp (D.ns s) = (D.langs.getD i ([], 0)).2) ∨ ((Tst s fun _ => false) ∧ D.grp (D.ns s) = 0) := by
 have h := tst_any s
 by_cases hs : ∃ i, i < 16 ∧ D.ns s = (D.langs.getD i ([], 0)).1
 ·obtain ⟨i, hi, e⟩ := hs
  refine .inl ⟨i, hi, ?_, ?_⟩
  ·rw [e] at h
   have : ∀ i : Fin 16, ∀ j : Fin 16, decide ((D.langs.getD i.1 ([], 0)).1 = (D.langs.getD j.1 ([], 0)).1) = decide (j.1 = i.1 ∨ 16 <= j.1) := by decide +kernel
   have g : ∀ j, j < 16 -> decide ((D.langs.getD i ([], 0)).1 = (D.langs.getD j ([], 0)).1) = decide (j = i ∨ 16 <= j) := fun j hj => this ⟨i, hi⟩ ⟨j, hj⟩
   exact ⟨h.t0.trans (g 0 (by omega)), h.t1.trans (g 1 (by omega)), h.t2.trans (g 2 (by omega)), h.t3.trans (g 3 (by omega)), h.t4.trans (g 4 (by omega)), h.t5.trans (g 5 (by omega)), h.t6.trans (g 6 (by omega)), h.t7.trans (g 7 (by omega)), h.t8.trans (g 8 (by omega)), h.t9.trans (g 9 (by omega)), h.t10.trans (g 10 (by omega)), h.t11.trans (g 11 (by omega)), h.t12.trans (g 12 (by omega)), h.t13.trans (g 13 (by omega)), h.t14.trans (g 14 (by omega)), h.t15.trans (g 15 (by omega))⟩
  ·rw [e]
   have : ∀ i : Fin 16, D.grp (D.langs.getD i.1 ([], 0)).1 = (D.langs.getD i.1 ([], 0)).2 := by decide +kernel
   exact this ⟨i, hi⟩
 ·have hn : ∀ i, i < 16 -> decide (D.ns s = (D.langs.getD i ([], 0)).1) = false := fun i hi => decide_eq_false fun e => hs ⟨i, hi, e⟩
  refine .inr ⟨⟨h.t0.trans (hn 0 (by omega)), h.t1.trans (hn 1 (by omega)), h.t2.trans (hn 2 (by omega)), h.t3.trans (hn 3 (by omega)), h.t4.trans (hn 4 (by omega)), h.t5.trans (hn 5 (by omega)), h.t6.trans (hn 6 (by omega)), h.t7.trans (hn 7 (by omega)), h.t8.trans (hn 8 (by omega)), h.t9.trans (hn 9 (by omega)), h.t10.trans (hn 10 (by omega)), h.t11.trans (hn 11 (by omega)), h.t12.trans (hn 12 (by omega)), h.t13.trans (hn 13 (by omega)), h.t14.trans (hn 14 (by omega)), h.t15.trans (hn 15 (by omega))⟩, D.grp_none fun q hq e => ?_⟩
  obtain ⟨i, hi, rfl⟩ := List.mem_iff_getElem.1 hq
  have hi' : i < 16 := hi
  have := hn i hi'
  rw [List.getD, List.getElem?_eq_getElem hi] at this
  simp at this
  exact this e.symm
theorem rword_any (c : Int) (w : World) : Calls Tryz.prog 107 #[.int .i64 c] w fun e w' => e = .returned (.string (D.sb (D.wrd c))) ∧ Below w.heap.size w w' := by
 have B := Blk.new w 9 #[.string ⟨#[122, 101, 114, 111]⟩, .string ⟨#[111, 110, 101]⟩, .string ⟨#[116, 119, 111]⟩, .string ⟨#[102, 101, 119]⟩, .string ⟨#[109, 97, 110, 121]⟩, .string ⟨#[111, 116, 104, 101, 114]⟩]
 have z := below_alloc_ w (.cells #[.string ⟨#[122, 101, 114, 111]⟩, .string ⟨#[111, 110, 101]⟩, .string ⟨#[116, 119, 111]⟩, .string ⟨#[102, 101, 119]⟩, .string ⟨#[109, 97, 110, 121]⟩, .string ⟨#[111, 116, 104, 101, 114]⟩] 9)
 by_cases h : 0 <= c
 ·by_cases h2 : c <= 5
  ·obtain rfl | rfl | rfl | rfl | rfl | rfl : c = 0 ∨ c = 1 ∨ c = 2 ∨ c = 3 ∨ c = 4 ∨ c = 5 := by omega
   all_goals
    clear B h h2
    go_enter Tryz.func107, Tryz.ntmps107
    go_wp2
    go_ret
    exact ⟨by rfl, z⟩
  ·have hw : D.wrd c = [] := by unfold D.wrd; rw [if_neg (by omega)]
   rw [hw]
   have i1 : 5 < c := by omega
   clear h2 hw B
   go_enter Tryz.func107, Tryz.ntmps107
   go_wp2
   go_ret
   exact ⟨by rfl, z⟩
 ·have hw : D.wrd c = [] := by unfold D.wrd; rw [if_neg (by omega)]
  rw [hw]
  have i1 : c < 0 := by omega
  clear h hw B
  go_enter Tryz.func107, Tryz.ntmps107
  go_wp2
  go_ret
  exact ⟨by rfl, z⟩
abbrev f6 : Array Value := #[.bool false, .bool false, .bool false, .bool false, .bool false, .bool false]
theorem txt_u8 (u : List UInt8) (l : List Nat) (s : ByteArray) (h : u.map (·.toNat) = l) : (u == s.toList) = decide (l = D.ns s) := by
 have e := txt_eq ⟨u.toArray⟩ s
 have e2 : (⟨u.toArray⟩ : ByteArray).toList = u := by rw [ByteArray.toList_eq]
 have e3 : D.ns ⟨u.toArray⟩ = l := by rw [D.ns, <- h]
 rw [e2, e3] at e
 exact e
set_option maxHeartbeats 4000000 in
theorem cat_any (u : ByteArray) (w : World) : Calls Tryz.prog 81 #[.string u] w fun e w' => e = .returned (.int .i64 (D.fnd D.catW (D.ns u))) ∧ Below w.heap.size w w' := by
 have t0 := txt_u8 [122, 101, 114, 111] (D.catW.getD 0 []) u rfl
 have t1 := txt_u8 [111, 110, 101] (D.catW.getD 1 []) u rfl
 have t2 := txt_u8 [116, 119, 111] (D.catW.getD 2 []) u rfl
 have t3 := txt_u8 [102, 101, 119] (D.catW.getD 3 []) u rfl
 have t4 := txt_u8 [109, 97, 110, 121] (D.catW.getD 4 []) u rfl
 have t5 := txt_u8 [111, 116, 104, 101, 114] (D.catW.getD 5 []) u rfl
 obtain ⟨t, ht⟩ : ∃ t, D.ns u = t := ⟨_, rfl⟩
 rw [ht] at t0 t1 t2 t3 t4 t5 ⊢
 clear ht
 go_enter Tryz.func81, Tryz.ntmps81
 go_wp2_with fail
 go_loopw [3] (fun a wr => ∃ k : Nat, k <= 6 ∧ (k = 0 -> a = .int .i64 0) ∧ (k = 1 -> a = .int .i64 1) ∧ (k = 2 -> a = .int .i64 2) ∧ (k = 3 -> a = .int .i64 3) ∧ (k = 4 -> a = .int .i64 4) ∧ (k = 5 -> a = .int .i64 5) ∧ (k = 6 -> a = .int .i64 6) ∧ Kept (∀ j, j < k -> D.catW[j]? ≠ some t) ∧ Below w.heap.size w wr) (fun a _ => 6 - (intOf a).toNat)
 case atStart => exact ⟨0, Nat.zero_le _, fun _ => rfl, fun h => by omega, fun h => by omega, fun h => by omega, fun h => by omega, fun h => by omega, fun h => by omega, ⟨fun j hj => by omega⟩, Below.refl _ _⟩
 case round =>
  obtain ⟨k, hk, e0, e1, e2, e3, e4, e5, e6, HN, z⟩ := hrel
  by_cases hlt : k < 6
  ·have hnx : D.catW[k]? ≠ some t -> Kept (∀ j, j < k + 1 -> D.catW[j]? ≠ some t) := fun h => ⟨fun j hj => by
    obtain h1 | rfl : j < k ∨ j = k := by omega
    ·exact HN.out j h1
    ·exact h⟩
   have hfd : D.catW[k]? = some t -> Kept (D.fnd D.catW t = k) := fun h => ⟨D.fnd_some h HN.out⟩
   clear HN
   obtain rfl | rfl | rfl | rfl | rfl | rfl : k = 0 ∨ k = 1 ∨ k = 2 ∨ k = 3 ∨ k = 4 ∨ k = 5 := by omega
   ·obtain rfl := e0 rfl
    clear e0 e1 e2 e3 e4 e5 e6 hlt hk
    have tt := t0
    clear t0 t1 t2 t3 t4 t5
    have CW := Lib.hid (fun W => (show Calls Tryz.prog 107 #[.int .i64 0] W fun e w' => e = .returned (.string ⟨#[122, 101, 114, 111]⟩) ∧ Below W.heap.size W w' from rword_any 0 W))
    by_cases h : D.catW.getD 0 [] = t
    ·rw [decide_eq_true h] at tt
     have HF := hfd (by rw [<- h]; rfl)
     clear hfd hnx h
     go_wp2_with (go_at_call 107; (with_reducible refine (CW.out _).mono ?_); rintro e w1 ⟨rfl, b1⟩; have z1 := z.trans (b1.mono z.size))
     go_ret
     exact ⟨ret_of (by rw [HF.out]; rfl), z1⟩
    ·rw [decide_eq_false h] at tt
     have HN' := hnx (by intro e; exact h (by have : D.catW[0]? = some (D.catW.getD 0 []) := rfl; rw [this] at e; injection e))
     clear hfd hnx h
     go_wp2_with (go_at_call 107; (with_reducible refine (CW.out _).mono ?_); rintro e w1 ⟨rfl, b1⟩; have z1 := z.trans (b1.mono z.size))
     go_roundw
     case rel => exact ⟨1, by omega, fun h => by omega, fun _ => rfl, fun h => by omega, fun h => by omega, fun h => by omega, fun h => by omega, fun h => by omega, HN', z1⟩
     case measure => simp [intOf]
   ·obtain rfl := e1 rfl
    clear e0 e1 e2 e3 e4 e5 e6 hlt hk
    have tt := t1
    clear t0 t1 t2 t3 t4 t5
    have CW := Lib.hid (fun W => (show Calls Tryz.prog 107 #[.int .i64 1] W fun e w' => e = .returned (.string ⟨#[111, 110, 101]⟩) ∧ Below W.heap.size W w' from rword_any 1 W))
    by_cases h : D.catW.getD 1 [] = t
    ·rw [decide_eq_true h] at tt
     have HF := hfd (by rw [<- h]; rfl)
     clear hfd hnx h
     go_wp2_with (go_at_call 107; (with_reducible refine (CW.out _).mono ?_); rintro e w1 ⟨rfl, b1⟩; have z1 := z.trans (b1.mono z.size))
     go_ret
     exact ⟨ret_of (by rw [HF.out]; rfl), z1⟩
    ·rw [decide_eq_false h] at tt
     have HN' := hnx (by intro e; exact h (by have : D.catW[1]? = some (D.catW.getD 1 []) := rfl; rw [this] at e; injection e))
     clear hfd hnx h
     go_wp2_with (go_at_call 107; (with_reducible refine (CW.out _).mono ?_); rintro e w1 ⟨rfl, b1⟩; have z1 := z.trans (b1.mono z.size))
     go_roundw
     case rel => exact ⟨2, by omega, fun h => by omega, fun h => by omega, fun _ => rfl, fun h => by omega, fun h => by omega, fun h => by omega, fun h => by omega, HN', z1⟩
     case measure => simp [intOf]
   ·obtain rfl := e2 rfl
    clear e0 e1 e2 e3 e4 e5 e6 hlt hk
    have tt := t2
    clear t0 t1 t2 t3 t4 t5
    have CW := Lib.hid (fun W => (show Calls Tryz.prog 107 #[.int .i64 2] W fun e w' => e = .returned (.string ⟨#[116, 119, 111]⟩) ∧ Below W.heap.size W w' from rword_any 2 W))
    by_cases h : D.catW.getD 2 [] = t
    ·rw [decide_eq_true h] at tt
     have HF := hfd (by rw [<- h]; rfl)
     clear hfd hnx h
     go_wp2_with (go_at_call 107; (with_reducible refine (CW.out _).mono ?_); rintro e w1 ⟨rfl, b1⟩; have z1 := z.trans (b1.mono z.size))
     go_ret
     exact ⟨ret_of (by rw [HF.out]; rfl), z1⟩
    ·rw [decide_eq_false h] at tt
     have HN' := hnx (by intro e; exact h (by have : D.catW[2]? = some (D.catW.getD 2 []) := rfl; rw [this] at e; injection e))
     clear hfd hnx h
     go_wp2_with (go_at_call 107; (with_reducible refine (CW.out _).mono ?_); rintro e w1 ⟨rfl, b1⟩; have z1 := z.trans (b1.mono z.size))
     go_roundw
     case rel => exact ⟨3, by omega, fun h => by omega, fun h => by omega, fun h => by omega, fun _ => rfl, fun h => by omega, fun h => by omega, fun h => by omega, HN', z1⟩
     case measure => simp [intOf]
   ·obtain rfl := e3 rfl
    clear e0 e1 e2 e3 e4 e5 e6 hlt hk
    have tt := t3
    clear t0 t1 t2 t3 t4 t5
    have CW := Lib.hid (fun W => (show Calls Tryz.prog 107 #[.int .i64 3] W fun e w' => e = .returned (.string ⟨#[102, 101, 119]⟩) ∧ Below W.heap.size W w' from rword_any 3 W))
    by_cases h : D.catW.getD 3 [] = t
    ·rw [decide_eq_true h] at tt
     have HF := hfd (by rw [<- h]; rfl)
     clear hfd hnx h
     go_wp2_with (go_at_call 107; (with_reducible refine (CW.out _).mono ?_); rintro e w1 ⟨rfl, b1⟩; have z1 := z.trans (b1.mono z.size))
     go_ret
     exact ⟨ret_of (by rw [HF.out]; rfl), z1⟩
    ·rw [decide_eq_false h] at tt
     have HN' := hnx (by intro e; exact h (by have : D.catW[3]? = some (D.catW.getD 3 []) := rfl; rw [this] at e; injection e))
     clear hfd hnx h
     go_wp2_with (go_at_call 107; (with_reducible refine (CW.out _).mono ?_); rintro e w1 ⟨rfl, b1⟩; have z1 := z.trans (b1.mono z.size))
     go_roundw
     case rel => exact ⟨4, by omega, fun h => by omega, fun h => by omega, fun h => by omega, fun h => by omega, fun _ => rfl, fun h => by omega, fun h => by omega, HN', z1⟩
     case measure => simp [intOf]
   ·obtain rfl := e4 rfl
    clear e0 e1 e2 e3 e4 e5 e6 hlt hk
    have tt := t4
    clear t0 t1 t2 t3 t4 t5
    have CW := Lib.hid (fun W => (show Calls Tryz.prog 107 #[.int .i64 4] W fun e w' => e = .returned (.string ⟨#[109, 97, 110, 121]⟩) ∧ Below W.heap.size W w' from rword_any 4 W))
    by_cases h : D.catW.getD 4 [] = t
    ·rw [decide_eq_true h] at tt
     have HF := hfd (by rw [<- h]; rfl)
     clear hfd hnx h
     go_wp2_with (go_at_call 107; (with_reducible refine (CW.out _).mono ?_); rintro e w1 ⟨rfl, b1⟩; have z1 := z.trans (b1.mono z.size))
     go_ret
     exact ⟨ret_of (by rw [HF.out]; rfl), z1⟩
    ·rw [decide_eq_false h] at tt
     have HN' := hnx (by intro e; exact h (by have : D.catW[4]? = some (D.catW.getD 4 []) := rfl; rw [this] at e; injection e))
     clear hfd hnx h
     go_wp2_with (go_at_call 107; (with_reducible refine (CW.out _).mono ?_); rintro e w1 ⟨rfl, b1⟩; have z1 := z.trans (b1.mono z.size))
     go_roundw
     case rel => exact ⟨5, by omega, fun h => by omega, fun h => by omega, fun h => by omega, fun h => by omega, fun h => by omega, fun _ => rfl, fun h => by omega, HN', z1⟩
     case measure => simp [intOf]
   ·obtain rfl := e5 rfl
    clear e0 e1 e2 e3 e4 e5 e6 hlt hk
    have tt := t5
    clear t0 t1 t2 t3 t4 t5
    have CW := Lib.hid (fun W => (show Calls Tryz.prog 107 #[.int .i64 5] W fun e w' => e = .returned (.string ⟨#[111, 116, 104, 101, 114]⟩) ∧ Below W.heap.size W w' from rword_any 5 W))
    by_cases h : D.catW.getD 5 [] = t
    ·rw [decide_eq_true h] at tt
     have HF := hfd (by rw [<- h]; rfl)
     clear hfd hnx h
     go_wp2_with (go_at_call 107; (with_reducible refine (CW.out _).mono ?_); rintro e w1 ⟨rfl, b1⟩; have z1 := z.trans (b1.mono z.size))
     go_ret
     exact ⟨ret_of (by rw [HF.out]; rfl), z1⟩
    ·rw [decide_eq_false h] at tt
     have HN' := hnx (by intro e; exact h (by have : D.catW[5]? = some (D.catW.getD 5 []) := rfl; rw [this] at e; injection e))
     clear hfd hnx h
     go_wp2_with (go_at_call 107; (with_reducible refine (CW.out _).mono ?_); rintro e w1 ⟨rfl, b1⟩; have z1 := z.trans (b1.mono z.size))
     go_roundw
     case rel => exact ⟨6, by omega, fun h => by omega, fun h => by omega, fun h => by omega, fun h => by omega, fun h => by omega, fun h => by omega, fun _ => rfl, HN', z1⟩
     case measure => simp [intOf]
  ·obtain rfl : k = 6 := by omega
   obtain rfl := e6 rfl
   have HF : Kept (D.fnd D.catW t = -1) := ⟨D.fnd_none HN.out⟩
   clear e0 e1 e2 e3 e4 e5 e6 hlt hk HN t0 t1 t2 t3 t4 t5
   go_wp2
   go_ret
   exact ⟨ret_of HF.out.symm, z⟩
theorem legal_any (k : Nat) (u : ByteArray) (A : Option Addr) (n c : Nat) (ws : List (List Nat)) (w : World) (hk : k = 3 ∨ k = 4) (hr : Rw 1 w A n (strs ws)) (hb : D.B8 ws) (hn : n <= 1000000) :
  Calls Tryz.prog 54 #[.int .i64 k, .string u, .slice A n c] w fun e w' => e = .returned (.int .i64 (D.lgl k (D.ns u) ws : Nat)) ∧ Below w.heap.size w w' := by
 have cF := fun W (h : Rw 1 W A n (strs ws)) => find_any A n c ws u W h hb hn
 have cI := fun W => Nm.ref_is u W
 have cC := fun W => cat_any u W
 obtain ⟨t, ht⟩ : ∃ t, D.ns u = t := ⟨_, rfl⟩
 rw [ht] at cF cI cC ⊢
 clear ht
 rcases hk with rfl | rfl
 ·by_cases h : t ∈ D.catW
  ·have hc : 0 <= D.fnd D.catW t := by unfold D.fnd; rw [if_pos h]; omega
   have hl : D.lgl 3 t ws = if t ∈ ws then 8 else 0 := by unfold D.lgl; rw [if_neg (by simp [h])]
   rw [hl]
   obtain ⟨z, hz⟩ : ∃ z, D.fnd D.catW t = z := ⟨_, rfl⟩
   rw [hz] at cC hc
   by_cases hw : t ∈ ws
   ·have hf : 0 <= D.fnd ws t := by unfold D.fnd; rw [if_pos hw]; omega
    obtain ⟨y, hy⟩ : ∃ z, D.fnd ws t = z := ⟨_, rfl⟩
    rw [hy] at cF hf
    rw [if_pos hw]
    have CF := Lib.hid cF
    have CC := Lib.hid cC
    clear cF cC cI hl h hw hy hz
    go_enter Tryz.func54, Tryz.ntmps54
    go_wp2_with (first
     | (go_at_call 81; (with_reducible refine (CC.out _).mono ?_); rintro e w1 ⟨rfl, b1⟩; have r1 := hr.on b1)
     | (go_at_call 55; (with_reducible refine (CF.out _ r1).mono ?_); rintro e w2 ⟨rfl, rfl⟩))
    go_ret
    exact ⟨rfl, b1⟩
   ·have hf : D.fnd ws t < 0 := by unfold D.fnd; rw [if_neg hw]; omega
    obtain ⟨y, hy⟩ : ∃ z, D.fnd ws t = z := ⟨_, rfl⟩
    rw [hy] at cF hf
    rw [if_neg hw]
    have CF := Lib.hid cF
    have CC := Lib.hid cC
    clear cF cC cI hl h hw hy hz
    go_enter Tryz.func54, Tryz.ntmps54
    go_wp2_with (first
     | (go_at_call 81; (with_reducible refine (CC.out _).mono ?_); rintro e w1 ⟨rfl, b1⟩; have r1 := hr.on b1)
     | (go_at_call 55; (with_reducible refine (CF.out _ r1).mono ?_); rintro e w2 ⟨rfl, rfl⟩))
    go_ret
    exact ⟨rfl, b1⟩
  ·have hc : D.fnd D.catW t < 0 := by unfold D.fnd; rw [if_neg h]; omega
   have hl : D.lgl 3 t ws = 15 := by unfold D.lgl; rw [if_pos (.inl ⟨rfl, h⟩)]
   rw [hl]
   obtain ⟨z, hz⟩ : ∃ z, D.fnd D.catW t = z := ⟨_, rfl⟩
   rw [hz] at cC hc
   have CC := Lib.hid cC
   clear cF cC cI hl h hz
   go_enter Tryz.func54, Tryz.ntmps54
   go_wp2_with (go_at_call 81; (with_reducible refine (CC.out _).mono ?_); rintro e w1 ⟨rfl, b1⟩)
   go_ret
   exact ⟨rfl, b1⟩
 ·cases h : Nm.D.isB t with
  | true =>
   rw [h] at cI
   have hl : D.lgl 4 t ws = if t ∈ ws then 8 else 0 := by unfold D.lgl; rw [if_neg (by simp [h])]
   rw [hl]
   by_cases hw : t ∈ ws
   ·have hf : 0 <= D.fnd ws t := by unfold D.fnd; rw [if_pos hw]; omega
    obtain ⟨y, hy⟩ : ∃ z, D.fnd ws t = z := ⟨_, rfl⟩
    rw [hy] at cF hf
    rw [if_pos hw]
    have CF := Lib.hid cF
    have CI := Lib.hid cI
    clear cF cC cI hl h hw hy
    go_enter Tryz.func54, Tryz.ntmps54
    go_wp2_with (first
     | (go_at_call 52; (with_reducible refine (CI.out _).mono ?_); rintro e w1 ⟨rfl, rfl⟩)
     | (go_at_call 55; (with_reducible refine (CF.out _ hr).mono ?_); rintro e w2 ⟨rfl, rfl⟩))
    go_ret
    exact ⟨rfl, Below.refl _ _⟩
   ·have hf : D.fnd ws t < 0 := by unfold D.fnd; rw [if_neg hw]; omega
    obtain ⟨y, hy⟩ : ∃ z, D.fnd ws t = z := ⟨_, rfl⟩
    rw [hy] at cF hf
    rw [if_neg hw]
    have CF := Lib.hid cF
    have CI := Lib.hid cI
    clear cF cC cI hl h hw hy
    go_enter Tryz.func54, Tryz.ntmps54
    go_wp2_with (first
     | (go_at_call 52; (with_reducible refine (CI.out _).mono ?_); rintro e w1 ⟨rfl, rfl⟩)
     | (go_at_call 55; (with_reducible refine (CF.out _ hr).mono ?_); rintro e w2 ⟨rfl, rfl⟩))
    go_ret
    exact ⟨rfl, Below.refl _ _⟩
  | false =>
   rw [h] at cI
   have hl : D.lgl 4 t ws = 15 := by unfold D.lgl; rw [if_pos (.inr ⟨rfl, h⟩)]
   rw [hl]
   have CI := Lib.hid cI
   clear cF cC cI hl h
   go_enter Tryz.func54, Tryz.ntmps54
   go_wp2_with (go_at_call 52; (with_reducible refine (CI.out _).mono ?_); rintro e w1 ⟨rfl, rfl⟩)
   go_ret
   exact ⟨rfl, Below.refl _ _⟩
end Go.Proofs.YtgnjjlgmlokhmaaGreatDoor
namespace Go.Proofs.YtgnjjlgmlokhmaaGreatDoor
open Go.RowKit

theorem ext_sub (s : ByteArray) (i k : Nat) : s.extract i k = D.sb (D.sub (D.ns s) i k) := by
 rw [<- D.sb_ns (s.extract i k)]
 congr 1
 unfold D.ns D.sub
 simp [List.map_drop, List.map_take, List.drop_take]
theorem ns_lt (s : ByteArray) : ∀ c ∈ D.ns s, c < 256 := by
 intro c hc
 obtain ⟨b, _, rfl⟩ := List.mem_map.1 hc
 exact b.toNat_lt
theorem sub_lt {l : List Nat} (h : ∀ c ∈ l, c < 256) (i k : Nat) : ∀ c ∈ D.sub l i k, c < 256 := fun c hc => h c (List.mem_of_mem_take (List.mem_of_mem_drop hc))
theorem prt_under : Tryz.prog.underlying 26 = some (.slice 55) := by kernel_rfl
theorem prt_info : (Tryz.prog.info? 55).map (fun i => (i.zero, i.size, i.bytes)) = some (some (.agg #[.int .i64 0, .string ⟨#[]⟩, .string ⟨#[]⟩, .slice none 0 0, .slice none 0 0]), 5, 88) := by kernel_rfl
theorem add_succ (a : Addr) (j : Nat) : a.add (j + 1) = ⟨a.block, a.off + (j + 1), none⟩ := by unfold Addr.add; simp
theorem rw_part (w : World) (g : Nat) (hg : g = w.heap.size) (x : D.Nd) (a b : Value) (cs : Array Value) (h : cs = (pcl [(x, a, b)]).toArray) : Rw 5 (w.alloc (.cells cs 55)) (some ⟨g, 0, none⟩) 1 (pcl [(x, a, b)]) := by
 subst hg
 have := rw_new w 5 55 1 cs (by rw [h]; simp [pcl])
 rw [h] at this
 rw [h]
 simpa using this
theorem ms_first {F : Nat -> Prop} {w : World} {r : Nat} {v : Value} {y : D.Nd} {q : List D.Nd} (h : Ms F w r v (y :: q)) :
  ∃ (ad : Addr) (n c : Nat) (A1 : Option Addr) (n1 c1 : Nat) (A2 : Option Addr) (n2 c2 : Nat), v = .slice (some ad) (n + 1) c ∧ ad.block < w.heap.size ∧ w.cell? ad = some (.int .i64 (y.k : Nat)) ∧ w.cell? ⟨ad.block, ad.off + 1, none⟩ = some (.string (D.sb y.t)) ∧ w.cell? ⟨ad.block, ad.off + 2, none⟩ = some (.string (D.sb y.n)) ∧
   w.cell? ⟨ad.block, ad.off + 3, none⟩ = some (.slice A1 n1 c1) ∧ w.cell? ⟨ad.block, ad.off + 4, none⟩ = some (.slice A2 n2 c2) ∧ Bel (Kd F w r) F w y (.slice A1 n1 c1) (.slice A2 n2 c2) := by
 obtain ⟨A, n, c, vs, rfl, hc, hr, hl, hb⟩ := (Ms_eq F w r v _).1 h
 rcases vs with _ | ⟨⟨x, a, b⟩, vs⟩
 ·simp at hl
 ·simp at hl
  obtain ⟨rfl, _⟩ := hl
  have hlen := hr.row.len
  rw [cls_len] at hlen
  simp at hlen
  obtain ⟨ad, rfl, hlt, hcell⟩ := hr.row.tow (by omega)
  obtain ⟨m, rfl⟩ : ∃ m, n = m + 1 := ⟨n - 1, by omega⟩
  obtain ⟨c0, c1, c2, c3, c4⟩ := cls_at (l := (x, a, b) :: vs) (i := 0) rfl
  obtain ⟨h1, h2, h3⟩ := hb 0 x a b rfl
  have e := hcell 0 _ c0
  rw [add_zero_] at e
  obtain ⟨A1, n1, d1, rfl, _⟩ := h3.2.1
  obtain ⟨A2, n2, d2, us, rfl, _⟩ := h3.2.2
  refine ⟨ad, m, c, A1, n1, d1, A2, n2, d2, rfl, hlt, e, ?_, ?_, ?_, ?_, h3⟩
  ·rw [<- add_succ ad 0]; exact hcell 1 _ c1
  ·rw [<- add_succ ad 1]; exact hcell 2 _ c2
  ·rw [<- add_succ ad 2]; exact hcell 3 _ c3
  ·rw [<- add_succ ad 3]; exact hcell 4 _ c4
theorem ow_below {T : TypeId} {sz base n c : Nat} {w w' : World} {A : Option Addr} {xs : List Value} (h : Ow T sz base w A n c xs) (hg : w.grownBy w' (Value.slice A n c).ownBlock) : Below base w w' :=
 ⟨hg.os, hg.tape, hg.output, hg.size, fun i hi => hg.block i (Nat.lt_of_lt_of_le hi h.base) fun e => by
  have := (h.lt i e.symm).1
  omega⟩
theorem Ac.own_lt {T : TypeId} {r base n c : Nat} {w : World} {A : Option Addr} {l : List D.Nd} (h : Ac T r base w A n c l) : ∀ k, (Value.slice A n c).ownBlock = some k -> base <= k ∧ k < w.heap.size := by
 obtain ⟨vs, ho, _⟩ := h.out
 exact ho.lt
theorem papp {ops : Array Oper} {rest : List Oper} {o : Oper} {act : Act} {Q : Exit -> Act -> World -> Prop} (hgd : o.guard = none) (s x : Operand)
  (hop : o.op = .call { callee := .builtin .append, args := #[s, x], argTypes := #[26, 26] })
  {r base : Nat} {A B : Option Addr} {n c d : Nat} {l : List D.Nd} {y : D.Nd} {a b : Value} {w : World} (hes : act.eval s = .slice A n c) (h : Ac 55 r base w A n c l) (hx : act.eval x = .slice B 1 d) (hr : Rw 5 w B 1 (pcl [(y, a, b)]))
  (ha : a.oneCell' = true) (hb : b.oneCell' = true) (hB : Bel (Kd (Fo base (Value.slice A n c).ownBlock) w r) (Fo base (Value.slice A n c).ownBlock) w y a b) (hn : n + 1 <= 1000000)
  (k : ∀ A' c' w', Ac 55 r base w' A' (n + 1) c' (l ++ [y]) -> Below base w w' -> w.grownBy w' (Value.slice A n c).ownBlock -> wpList Tryz.prog ops Q rest (act.put o.dst (.slice A' (n + 1) c')) w') : wpList Tryz.prog ops Q (o :: rest) act w := by
 obtain ⟨vs, hov, hl, hv⟩ := h.out
 refine gapp w prt_under prt_info rfl (by decide) (by decide) hgd s x hop hes hov hx hr (cls_one _ fun i z p q hi => ?_) hn fun A' c' w' h1 h2 h3 => k A' c' w' (Ac.snoc hl hv ha hb hB h2 h3 h1) (ow_below hov h2) h2
 rcases i with _ | i
 ·simp at hi
  obtain ⟨rfl, rfl, rfl⟩ := hi
  exact ⟨ha, hb⟩
 ·simp at hi
end Go.Proofs.YtgnjjlgmlokhmaaGreatDoor
