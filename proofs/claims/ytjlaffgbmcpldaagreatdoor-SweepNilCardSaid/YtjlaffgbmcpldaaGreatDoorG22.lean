/-
  
-/
import Derived.Test.YtjlaffgbmcpldaaGreatDoorG13
import Derived.Test.YtjlaffgbmcpldaaGreatDoorG18
import Derived.Test.YtjlaffgbmcpldaaGreatDoorG21
import Derived.WideKeyEntry
import Derived.Maps.Own
set_option linter.unusedVariables false
set_option linter.unusedSimpArgs false
set_option maxRecDepth 100000
namespace Go.Proofs.YtjlaffgbmcpldaaGreatDoor
open Go.RowKit

abbrev sT : TypeId := 129
abbrev tT : TypeId := 177
abbrev cT : TypeId := 189
abbrev vT : TypeId := 194
theorem Ow.low {T : TypeId} {sz b b' n c : Nat} {w : World} {A : Option Addr} {xs : List Value} (h : Ow T sz b w A n c xs) (hb : b' ≤ b) : Ow T sz b' w A n c xs := by
 refine ⟨⟨h.row.1, ?_⟩, Nat.le_trans hb h.base⟩
 rcases h.row.2 with hn | ⟨g, cap, cur, e, hg, r⟩
 ·exact .inl hn
 ·exact .inr ⟨g, cap, cur, e, Nat.le_trans hb hg, r⟩
theorem ow_srow {α : Type} {S : Shp α} {l : List α} {T : TypeId} {base n c : Nat} {A : Option Addr} {W : World} (h : Ow T S.n base W A n c (S.rcs l)) : Shp.Row S W A n l := Shp.Own.to_row (S := S) (base := base) (e := T) (c := c) ⟨h.row, h.base⟩
def sts : List TypeId := [sT, tT, nT, cT, vT]
def Sty (w : World) (i : Nat) : Prop := ∃ cs T f, w.heap[i]? = some (Obj.cells cs T f) ∧ T ∈ sts
def Frm (base : Nat) (w w' : World) : Prop := Only (fun i => base ≤ i ∧ Sty w i) w w'
theorem Frm.self (base : Nat) (w : World) : Frm base w w := Only.self _ _
theorem Frm.on {base : Nat} {w w1 w2 : World} (h : Frm base w w1) (hb : Below w1.heap.size w1 w2) : Frm base w w2 := Only.on h hb
theorem Frm.off {base : Nat} {w w1 w2 : World} (hb : Below w.heap.size w w1) (h : Frm base w1 w2) : Frm base w w2 :=
 (only_below (S := fun i => base ≤ i ∧ Sty w i) hb).trans h fun i ⟨h1, cs, T, f, h2, h3⟩ => by
  by_cases hi : i < w.heap.size
  ·exact .inl ⟨h1, cs, T, f, (hb.block i hi).symm.trans h2, h3⟩
  ·exact .inr (by omega)
theorem Frm.below_ {base : Nat} {w w1 : World} (hb : Below w.heap.size w w1) : Frm base w w1 := only_below hb
theorem Frm.trans {base : Nat} {w w1 w2 : World} (h : Frm base w w1) (k : Frm base w1 w2) : Frm base w w2 :=
 Only.trans (S := fun i => base ≤ i ∧ Sty w i) h k fun i ⟨h1, cs, T, f, h2, h3⟩ => by
  by_cases hi : i < w.heap.size
  ·by_cases hS : base ≤ i ∧ Sty w i
   ·exact .inl hS
   ·exact .inl ⟨h1, cs, T, f, (h.block i hi hS).symm.trans h2, h3⟩
  ·exact .inr (by omega)
theorem Frm.below {base : Nat} {w w' : World} (h : Frm base w w') (hb : base ≤ w.heap.size) : Below base w w' := Only.below h hb fun i hi => hi.1
theorem Frm.size {base : Nat} {w w' : World} (h : Frm base w w') : w.heap.size ≤ w'.heap.size := Only.size h
theorem Frm.blk {base g : Nat} {T : TypeId} {cs : Array Value} {w w' : World} (h : Frm base w w') (hB : Blk w g T cs) (hT : T ∉ sts) : Blk w' g T cs :=
 hB.only h fun ⟨_, cs', T', f, h2, h3⟩ => by
  have := h2.symm.trans hB.out
  injection this with this
  injection this with _ e
  subst e
  exact hT h3
theorem Frm.ow {base b n c sz : Nat} {T : TypeId} {A : Option Addr} {xs : List Value} {w w' : World} (h : Frm base w w') (ho : Ow T sz b w A n c xs) (hT : T ∉ sts) : Ow T sz b w' A n c xs :=
 ho.kept h.size fun q hq => h.block q (ho.lt q hq).2 fun ⟨_, cs', T', f, h2, h3⟩ => by
  obtain ⟨cs, e⟩ := ow_block ho (own_at hq)
  have := h2.symm.trans e
  injection this with this
  injection this with _ e
  subst e
  exact hT h3
structure Qd where
 b : Nat
 A : Option Addr
 c : Nat
structure SK (base : Nat) (w : World) (s g : Nat) (o : Option Tk) (q : D.Ky → Qd) (lv : Int) (last : Nat) (ks : List D.Ky) (f : D.Ky → List D.Vn) : Prop where
 blk : Blk w s sT #[.pointer (some ⟨g, 0, none⟩), .int .u64 (last : Nat), .int .i64 lv]
 tc : TC w g o
 ls : Cr.Tr.lso o = ks.map fun k => (k, some ⟨(q k).b, 0, none⟩)
 cn : ∀ k ∈ ks, Cn base w (q k).b (q k).A (q k).c (f k)
 ap : ∀ k ∈ ks, ∀ x ∈ ks, k ≠ x → (q k).b ≠ (q x).b ∧ ∀ i, at_ (q k).A i → ¬ at_ (q x).A i
 bs : base ≤ s
 bg : ∀ i ∈ g :: blo o, base ≤ i
structure SC (base : Nat) (w : World) (s g : Nat) (o : Option Tk) (q : D.Ky → Qd) (lv : Int) (M : D.Sm) : Prop where
 sk : SK base w s g o q lv M.last M.ks M.f
 wf : M.wf
def SX (base : Nat) (w : World) (s : Nat) (lv : Int) (M : D.Sm) : Prop := ∃ g o q, SC base w s g o q lv M
def SM (base : Nat) (w : World) (s : Nat) (M : D.Sm) : Prop := ∃ g o q, SC base w s g o q (M.live : Nat) M
section
variable {base s g : Nat} {w w' : World} {o : Option Tk} {q : D.Ky → Qd} {lv : Int} {last : Nat} {ks : List D.Ky} {f : D.Ky → List D.Vn} {M : D.Sm}
theorem SK.on (h : SK base w s g o q lv last ks f) (hb : Below w.heap.size w w') : SK base w' s g o q lv last ks f :=
 ⟨h.blk.on hb, h.tc.on hb, h.ls, fun k hk => (h.cn k hk).on hb, h.ap, h.bs, h.bg⟩
theorem SC.on (h : SC base w s g o q lv M) (hb : Below w.heap.size w w') : SC base w' s g o q lv M := ⟨h.sk.on hb, h.wf⟩
theorem SC.blk (h : SC base w s g o q lv M) : Blk w s sT #[.pointer (some ⟨g, 0, none⟩), .int .u64 (M.last : Nat), .int .i64 lv] := h.sk.blk
theorem SC.tc (h : SC base w s g o q lv M) : TC w g o := h.sk.tc
theorem SC.ls (h : SC base w s g o q lv M) : Cr.Tr.lso o = M.ks.map fun k => (k, some ⟨(q k).b, 0, none⟩) := h.sk.ls
theorem SC.cn (h : SC base w s g o q lv M) : ∀ k ∈ M.ks, Cn base w (q k).b (q k).A (q k).c (M.f k) := h.sk.cn
theorem SM.on (h : SM base w s M) (hb : Below w.heap.size w w') : SM base w' s M := let ⟨g, o, q, h⟩ := h; ⟨g, o, q, h.on hb⟩
theorem SM.wf (h : SM base w s M) : M.wf := let ⟨g, o, q, h⟩ := h; SC.wf h
theorem SX.on (h : SX base w s lv M) (hb : Below w.heap.size w w') : SX base w' s lv M := let ⟨g, o, q, h⟩ := h; ⟨g, o, q, h.on hb⟩
theorem SK.bn (h : SK base w s g o q lv last ks f) : base ≤ w.heap.size := Nat.le_of_lt (Nat.lt_of_le_of_lt h.bs h.blk.lt)
theorem SC.has (h : SC base w s g o q lv M) (k : D.Ky) : Cr.has k (Cr.Tr.lso o) = decide (k ∈ M.ks) := by
 rw [h.ls, Cr.has, List.any_map, Bool.eq_iff_iff]
 simp
theorem SC.got_in (h : SC base w s g o q lv M) {k : D.Ky} (hk : k ∈ M.ks) : got k (Cr.Tr.lso o) = some ⟨(q k).b, 0, none⟩ := by
 unfold got
 rw [Cr.get_some (up_of h.tc.tr) (v := some ⟨(q k).b, 0, none⟩) (by rw [h.ls]; exact List.mem_map.2 ⟨k, hk, rfl⟩)]
 rfl
theorem SC.got_out (h : SC base w s g o q lv M) {k : D.Ky} (hk : k ∉ M.ks) : got k (Cr.Tr.lso o) = none := by
 unfold got
 rw [Cr.get_none (by rw [h.has, decide_eq_false hk])]
 rfl
theorem SC.al (h : SC base w s g o q lv M) (hl : M.last ≤ 1000) (k : D.Ky) : ∃ A n c, Al w (got k (Cr.Tr.lso o)) A n c (M.f k) := by
 by_cases hk : k ∈ M.ks
 ·rw [h.got_in hk]
  exact ⟨_, _, _, (h.cn k hk).al⟩
 ·rw [h.got_out hk, h.wf.none hk]
  exact ⟨_, _, _, Al.nil w⟩
theorem SC.vw (h : SC base w s g o q lv M) (k : D.Ky) : ∀ v ∈ M.f k, v.wf := fun v hv => (h.wf.vw k v hv).1
end
theorem ty_ne {w : World} {g i : Nat} {T : TypeId} {cs ds : Array Value} {U : TypeId} {f : Nat × Nat} (h : Blk w g T cs) (k : w.heap[i]? = some (Obj.cells ds U f)) (hne : T ≠ U) : g ≠ i := fun e => by
 subst e
 have := h.out.symm.trans k
 injection this with this
 injection this with _ e2
 exact hne e2
theorem TC.kept {w w' : World} {g : Nat} {o : Option Tk} (h : TC w g o) (hk : ∀ i ∈ g :: blo o, w'.heap[i]? = w.heap[i]?) : TC w' g o := by
 have hB : Blk w' g tT #[.pointer (pt o), .int .i64 ((Cr.Tr.lso o).length : Nat)] := ⟨(hk g (by simp)).trans h.blk.out⟩
 exact TC.of ⟨⟨_, hB⟩, fun t e => (h.tr.nd t e).kept fun i hi => hk i (by subst e; simp [blo, hi]), h.tr.wf, h.tr.ndp, h.tr.sz⟩ hB
theorem TC.ty {w : World} {g : Nat} {o : Option Tk} (h : TC w g o) : ∀ i ∈ g :: blo o, ∃ cs T, Blk w i T cs ∧ (T = tT ∨ T = nT) := by
 intro i hi
 rcases List.mem_cons.1 hi with rfl | hi
 ·exact ⟨_, _, h.blk, .inl rfl⟩
 ·cases o with
  | none => cases hi
  | some t => obtain ⟨cs, hB⟩ := (h.tr.nd t rfl).lt i hi; exact ⟨cs, _, hB, .inr rfl⟩
def xcells (x : D.Wt) : List Value := bys x.k.l ++ .bool x.d :: rcellsh x.r
theorem xcells_inj {x y : D.Wt} (h : xcells x = xcells y) : x = y := by
 obtain ⟨k, d, r⟩ := x
 obtain ⟨k', d', r'⟩ := y
 have := List.append_inj h (by simp [bys_len, D.Ky.len])
 obtain rfl := D.Ky.eq (bys_inj this.1)
 have h2 := this.2
 simp only [List.cons.injEq, Value.bool.injEq] at h2
 obtain ⟨rfl, h2⟩ := h2
 rw [rcells_injh h2]
def xS : Shp D.Wt := ⟨xcells, 35, by decide, fun x => by simp [xcells, bys_len, x.k.len, rcellsh], xcells_inj, fun x u hu => by
 rcases List.mem_append.1 hu with hu | hu
 ·exact bys_one _ u hu
 ·rcases List.mem_cons.1 hu with rfl | hu
  ·rfl
  ·exact rSh.one x.r u hu⟩
abbrev Ent := D.Ky × D.Rc
def ecells (x : Ent) : List Value := bys x.1.l ++ rcellsh x.2
theorem ecells_inj {x y : Ent} (h : ecells x = ecells y) : x = y := by
 obtain ⟨k, r⟩ := x
 obtain ⟨k', r'⟩ := y
 have := List.append_inj h (by simp [bys_len, D.Ky.len])
 obtain rfl := D.Ky.eq (bys_inj this.1)
 exact congrArg _ (rcells_injh this.2)
def eS : Shp Ent := ⟨ecells, 34, by decide, fun x => by simp [ecells, bys_len, x.1.len, rcellsh], ecells_inj, fun x u hu => by
 rcases List.mem_append.1 hu with hu | hu
 ·exact bys_one _ u hu
 ·exact rSh.one x.2 u hu⟩
theorem xf {w : World} {g o : Nat} {x : D.Wt} (h : xS.rd w ⟨g, o, none⟩ = some x) : kS.rd w ⟨g, o, none⟩ = some x.k ∧ w.cell? ⟨g, o + 25, none⟩ = some (.bool x.d) ∧ rSh.rd w ⟨g, o + 26, none⟩ = some x.r := by
 have hc : xS.At w ⟨g, o, none⟩ x := Shp.at_of h
 have hn : (bys x.k.l).length = 25 := by rw [bys_len, x.k.len]
 have c : ∀ j u, (xcells x)[j]? = some u → w.cell? ⟨g, o + j, none⟩ = some u := fun j u hu => by have := hc j u hu; rwa [add_o] at this
 refine ⟨Shp.rd_of fun j u hu => ?_, ?_, Shp.rd_of fun j u hu => ?_⟩
 ·rw [add_o]
  refine c j u ?_
  have hu : (bys x.k.l)[j]? = some u := hu
  rw [xcells, List.getElem?_append_left (List.getElem?_eq_some_iff.1 hu).1, hu]
 ·exact c 25 (.bool x.d) (by rw [xcells, List.getElem?_append_right (by omega), hn]; rfl)
 ·rw [add_o, Nat.add_assoc]
  refine c (26 + j) u ?_
  rw [xcells, List.getElem?_append_right (by omega), hn, show 26 + j - 25 = j + 1 by omega]
  exact hu
theorem ef {w : World} {g o : Nat} {x : Ent} (h : eS.rd w ⟨g, o, none⟩ = some x) : kS.rd w ⟨g, o, none⟩ = some x.1 ∧ rSh.rd w ⟨g, o + 25, none⟩ = some x.2 := by
 have hc : eS.At w ⟨g, o, none⟩ x := Shp.at_of h
 have hn : (bys x.1.l).length = 25 := by rw [bys_len, x.1.len]
 have c : ∀ j u, (ecells x)[j]? = some u → w.cell? ⟨g, o + j, none⟩ = some u := fun j u hu => by have := hc j u hu; rwa [add_o] at this
 refine ⟨Shp.rd_of fun j u hu => ?_, Shp.rd_of fun j u hu => ?_⟩
 ·rw [add_o]
  refine c j u ?_
  have hu : (bys x.1.l)[j]? = some u := hu
  rw [ecells, List.getElem?_append_left (List.getElem?_eq_some_iff.1 hu).1, hu]
 ·rw [add_o, Nat.add_assoc]
  refine c (25 + j) u ?_
  rw [ecells, List.getElem?_append_right (by omega), hn, Nat.add_sub_cancel_left]
  exact hu
noncomputable def ldx (v : Value) : Sem Value := Instr.loadAt 77 v
noncomputable def lvx (a : Addr) : Sem Value := loadVar 77 a
noncomputable def stx (p v : Value) : Sem Unit := Instr.storeAt 77 p v
noncomputable def bdx (ps : Array (Nat × Value)) : Sem Value := Instr.build 77 ps
noncomputable def bsx (n : Nat) (ps : Array (Nat × Value)) : Sem Value := Instr.buildSlice 22 n ps
theorem ld_x (v : Value) : Instr.loadAt 77 v = ldx v := rfl
theorem lv_x (a : Addr) : loadVar 77 a = lvx a := rfl
theorem st_x (p v : Value) : Instr.storeAt 77 p v = stx p v := rfl
theorem bd_x (ps : Array (Nat × Value)) : Instr.build 77 ps = bdx ps := rfl
theorem bs_x (n : Nat) (ps : Array (Nat × Value)) : Instr.buildSlice 22 n ps = bsx n ps := rfl
theorem run_lvx (w : World) (a : Addr) : (lvx a).run Tryz.prog w = (xS.rd w a).elim (bl 77 a w) fun x => .ok (.agg (xS.v x)) w := by
 cases h : xS.rd w a with
 | none => rfl
 | some x => exact Shp.loadVar_of Tryz.isAgg77 Tryz.sizeOf77 (Shp.at_of h)
theorem run_ldx (w : World) (a : Addr) : (ldx (.pointer (some a))).run Tryz.prog w = (xS.rd w a).elim (bl 77 a w) fun x => .ok (.agg (xS.v x)) w := by
 rw [← run_lvx]; simp only [ldx, lvx, Instr.loadAt, Instr.sureAddr, Sem.run_bind, Sem.run_pure, Result.andThen_ok]
theorem run_stx (w : World) (g : Nat) (x : D.Wt) : (stx (.pointer (some ⟨g, 0, none⟩)) (.agg (xS.v x))).run Tryz.prog w = bif Shp.tn 35 w g then .ok () (w.setRow g (xS.v x)) else bs 77 g (xS.v x) w := by
 cases h : Shp.tn 35 w g with
 | false => rfl
 | true => exact Shp.storeVar_of (S := xS) h x fun t' cs hb hs => run_storeVar_row (P := Tryz.prog) w g t' _ cs (xS.v x) hb.out (by rw [xS.v_size]; kernel_rfl) hs (xS.v_one x)
noncomputable def lde (v : Value) : Sem Value := Instr.loadAt 118 v
noncomputable def lve (a : Addr) : Sem Value := loadVar 118 a
noncomputable def ste (p v : Value) : Sem Unit := Instr.storeAt 118 p v
noncomputable def bde (ps : Array (Nat × Value)) : Sem Value := Instr.build 118 ps
noncomputable def bse (n : Nat) (ps : Array (Nat × Value)) : Sem Value := Instr.buildSlice 112 n ps
noncomputable def nee (u v : Value) : Sem Value := binOp .neq 118 u v
theorem ld_e (v : Value) : Instr.loadAt 118 v = lde v := rfl
theorem lv_e (a : Addr) : loadVar 118 a = lve a := rfl
theorem st_e (p v : Value) : Instr.storeAt 118 p v = ste p v := rfl
theorem bd_e (ps : Array (Nat × Value)) : Instr.build 118 ps = bde ps := rfl
theorem bs_e (n : Nat) (ps : Array (Nat × Value)) : Instr.buildSlice 112 n ps = bse n ps := rfl
theorem ne_e (u v : Value) : binOp .neq 118 u v = nee u v := rfl
theorem run_lve (w : World) (a : Addr) : (lve a).run Tryz.prog w = (eS.rd w a).elim (bl 118 a w) fun x => .ok (.agg (eS.v x)) w := by
 cases h : eS.rd w a with
 | none => rfl
 | some x => exact Shp.loadVar_of Tryz.isAgg118 Tryz.sizeOf118 (Shp.at_of h)
theorem run_lde (w : World) (a : Addr) : (lde (.pointer (some a))).run Tryz.prog w = (eS.rd w a).elim (bl 118 a w) fun x => .ok (.agg (eS.v x)) w := by
 rw [← run_lve]; simp only [lde, lve, Instr.loadAt, Instr.sureAddr, Sem.run_bind, Sem.run_pure, Result.andThen_ok]
theorem run_bdv_3 (w : World) (a : Nat) (d : Bool) (r : D.Rc) : (bdv #[(0, .int .u64 (a : Nat)), (1, .bool d), (2, .agg (rSh.v r))]).run Tryz.prog w = .ok (.agg (vS.v ⟨a, d, r⟩)) w := by
 simp [bdv, vv_eq, rv_eq, Instr.build, go_sem]
theorem bde_list (w : World) (r : D.Rc) : ∀ l : List Value, l.length = 25 → (bde #[(0, .agg l.toArray), (1, .agg (rSh.v r))]).run Tryz.prog w = .ok (.agg (l ++ rcellsh r).toArray) w
 | [a0, a1, a2, a3, a4, a5, a6, a7, a8, a9, a10, a11, a12, a13, a14, a15, a16, a17, a18, a19, a20, a21, a22, a23, a24], _ => by
  rw [show rSh.v r = (rcellsh r).toArray from rfl]
  simp [bde, rcellsh, Instr.build, go_sem]
theorem run_bde (w : World) (k : D.Ky) (r : D.Rc) : (bde #[(0, .agg (kS.v k)), (1, .agg (rSh.v r))]).run Tryz.prog w = .ok (.agg (eS.v (k, r))) w := bde_list w r (bys k.l) (by rw [bys_len, k.len])
theorem bse_list (w : World) (r : D.Rc) : ∀ l : List Value, l.length = 25 → (bse 1 #[(0, .agg (l ++ rcellsh r).toArray)]).run Tryz.prog w = .ok (.slice (some ⟨w.heap.size, 0, none⟩) 1 1) (w.alloc (.cells (l ++ rcellsh r).toArray 118))
 | [a0, a1, a2, a3, a4, a5, a6, a7, a8, a9, a10, a11, a12, a13, a14, a15, a16, a17, a18, a19, a20, a21, a22, a23, a24], _ => by
  simp [bse, rcellsh, Instr.buildSlice, go_sem]
theorem run_bse1 (w : World) (x : Ent) : (bse 1 #[(0, .agg (eS.v x))]).run Tryz.prog w = .ok (.slice (some ⟨w.heap.size, 0, none⟩) 1 1) (w.alloc (.cells (eS.v x) 118)) := bse_list w x.2 (bys x.1.l) (by rw [bys_len, x.1.len])
end Go.Proofs.YtjlaffgbmcpldaaGreatDoor
namespace Go.Proofs.YtjlaffgbmcpldaaGreatDoor.D
def kdist : List Ky → Nat
 | [] => 0
 | x :: l => if x ∈ l then kdist l else kdist l + 1
theorem kdist_perm {l m : List Ky} (h : l.Perm m) : kdist l = kdist m := by
 induction h with
 | nil => rfl
 | cons x h ih => simp only [kdist, h.mem_iff, ih]
 | swap x y l =>
  simp only [kdist, List.mem_cons]
  by_cases e : x = y
  ·subst e; rfl
  ·have e' : ¬ y = x := fun h => e h.symm
   by_cases hx : x ∈ l <;> by_cases hy : y ∈ l <;> simp [e, e', hx, hy]
 | trans _ _ ih1 ih2 => exact ih1.trans ih2
theorem kdist_snoc (l : List Ky) (x : Ky) : kdist (l ++ [x]) = if x ∈ l then kdist l else kdist l + 1 := kdist_perm (List.perm_append_singleton x l)
def kct (l : List Ky) (x : Ky) : Nat := l.countP (fun y => decide (y = x))
theorem kct_le (l : List Ky) (x : Ky) : kct l x ≤ l.length := List.countP_le_length
theorem kct_snoc (l : List Ky) (x y : Ky) : kct (l ++ [x]) y = if x = y then kct l y + 1 else kct l y := by
 simp only [kct, List.countP_append, List.countP_singleton]
 split <;> simp_all
theorem kct_pos {l : List Ky} {x : Ky} : 0 < kct l x ↔ x ∈ l := by
 rw [kct, List.countP_pos_iff]
 constructor
 ·rintro ⟨y, hy, h⟩
  rw [← of_decide_eq_true h]; exact hy
 ·intro h; exact ⟨x, h, by simp⟩
end Go.Proofs.YtjlaffgbmcpldaaGreatDoor.D
namespace Go.Proofs.YtjlaffgbmcpldaaGreatDoor
open Go.RowKit
open Go.Maps (Keyed)
open Go.ChangeMaps (setBlock modify_eq_set)
open Go.WideElems (Fit set_self)

noncomputable def kkl (x : D.Ky) : Lit := Classical.choose (key_k x)
theorem kkl_is (x : D.Ky) : keyOf Tryz.prog 39 (.agg (kS.v x)) = some (kkl x) := Classical.choose_spec (key_k x)
theorem kkl_inj {x y : D.Ky} (h : kkl x = kkl y) : x = y := by
 have := law_k.inj (kkl_is x) ((kkl_is y).trans (congrArg some h.symm))
 injection this with this
 exact kS.v_inj this
theorem kkl_key (x : D.Ky) : WideAt.IsKeyLit (kkl x) := law_k.key (kkl_is x)
theorem law_kk : Go.WideMaps.KeyLaw Tryz.prog 39 := deep_law_laid laid_out (m := 6) (by omega) (of_decide_eq_true (by kernel_rfl)) (by kernel_rfl) (by rw [Tryz.underlying39])
theorem entry_is_update {P : Program} {w w1 : World} {t k e : TypeId} {R : Value → Option (DataW Unit × List MemPlace)} {b : Nat} {es : Array MapEntry} {clock : Nat} (K : Go.WideMaps.KeyLaw P k) (ht : P.underlying t = some (.map k e)) {z : Value} (hz : ∀ u : World, (zeroValue e).run P u = .ok z u)
  (hb : w.heap[b]? = some (.map es clock)) (F : Fit P k R es clock) {key v : Value} {l : Lit} (hkey : keyOf P k key = some l) (h : (Instr.mapEntry t (.map (some b)) key).run P w = .ok v w1) :
  ∃ v0 st, v = .tuple #[v0, st] ∧ (Instr.mapUpdate t (.map (some b)) key v0).run P w = .ok () w1 ∧ (Instr.lookup t (.map (some b)) key false).run P w = .ok v0 w := by
 rcases K.find w hkey es.toList F.keys with ⟨h1, h2⟩ | ⟨j, e0, h1, h2, h3⟩
 ·simp [Instr.mapEntry, run_underlying ht, MapKept.run_getObj_map hb, K.check w false hkey, h1, hz, MapKept.run_setObj_map _ hb, Result.andThen, setBlock] at h
  obtain ⟨rfl, rfl⟩ := h
  refine ⟨z, _, rfl, ?_, ?_⟩
  ·simp [Instr.mapUpdate, run_underlying ht, MapKept.run_getObj_map hb, K.check w false hkey, h1, MapKept.run_setObj_map _ hb, Result.andThen, setBlock]
  ·simp [Instr.lookup, run_underlying ht, MapKept.run_getObj_map hb, K.check w _ hkey, h1, hz, Result.andThen]
 ·have hj : es[j]? = some e0 := by simpa using h2
  have hsame : ∀ f : MapEntry → MapEntry, f e0 = e0 → es.modify j f = es := by
   intro f hf
   apply Array.ext'
   rw [Array.toList_modify, modify_eq_set _ _ _ _ h2, hf]
   exact set_self _ _ _ h2
  have s1 : es.modify j (fun e => { e with key := key }) = es := hsame _ (by rw [← h3])
  have s2 : es.modify j (fun e => { e with key := key, val := e0.val }) = es := hsame _ (by rw [← h3])
  simp [Instr.mapEntry, run_underlying ht, MapKept.run_getObj_map hb, K.check w false hkey, h1, hj, h3, K.stays w hkey, s1, MapKept.run_setObj_map _ hb, Result.andThen] at h
  obtain ⟨rfl, rfl⟩ := h
  refine ⟨e0.val, _, rfl, ?_, ?_⟩
  ·simp [Instr.mapUpdate, run_underlying ht, MapKept.run_getObj_map hb, K.check w false hkey, h1, hj, h3, K.stays w hkey, s2, MapKept.run_setObj_map _ hb, Result.andThen]
  ·simp [Instr.lookup, run_underlying ht, MapKept.run_getObj_map hb, K.check w _ hkey, h1, Result.andThen]
theorem zero_int (u : World) : (zeroValue 3).run Tryz.prog u = .ok (.int .i64 0) u := by kernel_rfl
structure KcAt (w : World) (b : Nat) (L : List D.Ky) : Prop where
 out : ∃ D0 : DataW Unit, w.ownsMap Tryz.prog 39 (plainElem Tryz.prog 3) b L.length D0 ∧ (∀ x, Maps.has D0 (kkl x) = decide (x ∈ L)) ∧
  (∀ x, D0.atKey (kkl x) (.lit (.int .i64 0)) = .lit (.int .i64 (D.kct L x : Nat))) ∧ Maps.size D0 = D.kdist L
section
variable {w w' : World} {b : Nat} {L : List D.Ky}
theorem KcAt.lt (h : KcAt w b L) : b < w.heap.size := by
 obtain ⟨D0, ho, _⟩ := h.out
 exact ho.lt
theorem KcAt.tow (h : KcAt w b L) (hs : w'.heap[b]? = w.heap[b]?) : KcAt w' b L := by
 obtain ⟨D0, ⟨es, clock, hb, r⟩, r'⟩ := h.out
 exact ⟨D0, ⟨es, clock, hs.trans hb, r⟩, r'⟩
theorem KcAt.on (h : KcAt w b L) (hb : Below w.heap.size w w') : KcAt w' b L := h.tow (hb.block _ h.lt)
theorem KcAt.drew (h : KcAt w b L) : KcAt w.drew b L := h.tow rfl
theorem kc_new (w : World) : KcAt (w.alloc (.map #[] 0)) w.heap.size [] :=
 ⟨_, World.ownsMap_made _ _ _ _, fun x => rfl, fun x => rfl, rfl⟩
theorem KcAt.look (h : KcAt w b L) (x : D.Ky) : (Instr.lookup 121 (.map (some b)) (.agg (kS.v x)) false).run Tryz.prog w = .ok (.int .i64 (D.kct L x : Nat)) w := by
 obtain ⟨D0, ho, _, hc, _⟩ := h.out
 obtain ⟨c, hr, ha, _⟩ := ho.lookup_int law_k Tryz.underlying121 Tryz.underlying3 (zero_int w) (kkl_is x)
 rw [hc x] at ha
 injection ha with ha
 injection ha with _ ha
 rw [hr, ha]
theorem KcAt.put (h : KcAt w b L) (hL : L.length ≤ 1000) (x : D.Ky) : ∃ w', (Instr.mapUpdate 121 (.map (some b)) (.agg (kS.v x)) (.int .i64 ((D.kct L x : Nat) + 1 : Int))).run Tryz.prog w = .ok () w' ∧ KcAt w' b (L ++ [x]) ∧ w.grownBy w' (some b) := by
 obtain ⟨D0, ho, hh, hc, hs⟩ := h.out
 have hle := D.kct_le L x
 obtain ⟨w', hr, ho', hg⟩ := ho.update law_k Tryz.underlying121 (by simp only [maxLen]; omega) (kkl_is x) (plainElem_int (H := Unit) Tryz.underlying3 (WalkArith.wf_i64 (n := (D.kct L x : Nat) + 1) (by omega)))
 refine ⟨w', hr, ⟨_, by simpa using ho', fun y => ?_, fun y => ?_, ?_⟩, hg⟩
 ·by_cases e : y = x
  ·subst e
   rw [Maps.has_put_same ho.isMap (kkl_key y)]
   simp
  ·rw [Maps.has_put_other (fun e' => e (kkl_inj e')), hh y, decide_eq_decide]
   simp [e]
 ·rw [D.kct_snoc]
  by_cases e : x = y
  ·subst e
   rw [Maps.atKey_put_same ho.isMap (kkl_key x), if_pos rfl]
   simp
  ·rw [Maps.atKey_put_other (fun e' => e (kkl_inj e').symm), if_neg e, hc y]
 ·rw [Maps.size_put (ho.tidy law_k), hh x, hs, D.kdist_snoc]
  by_cases hx : x ∈ L <;> simp [hx]
theorem KcAt.more (h : KcAt w b L) (hL : L.length ≤ 1000) (x : D.Ky) : ∃ (st : Nat) (w1 w2 : World),
  (Instr.mapEntry 121 (.map (some b)) (.agg (kS.v x))).run Tryz.prog w = .ok (.tuple #[.int .i64 (D.kct L x : Nat), goInt st]) w1 ∧
  (Instr.lookup 121 (.map (some b)) (.agg (kS.v x)) false).run Tryz.prog w1 = .ok (.int .i64 (D.kct L x : Nat)) w1 ∧
  (Instr.entryStore 121 (.map (some b)) (goInt st) (.int .i64 ((D.kct L x : Nat) + 1 : Int))).run Tryz.prog w1 = .ok () w2 ∧ KcAt w2 b (L ++ [x]) ∧ w.grownBy w2 (some b) ∧ w.grownBy w1 (some b) := by
 obtain ⟨D0, ho, _⟩ := h.out
 have hlk := h.look x
 have hle := D.kct_le L x
 obtain ⟨w3, hr3, ho3, hg3⟩ := ho.update law_k Tryz.underlying121 (by simp only [maxLen]; omega) (kkl_is x) (plainElem_int (H := Unit) Tryz.underlying3 (WalkArith.wf_i64 (n := (D.kct L x : Nat)) (by omega)))
 obtain ⟨w2, hr2, hc2, hg2⟩ := h.put hL x
 have hm := ho.isMap
 obtain ⟨es, clock, hb, F, _⟩ := ho
 obtain ⟨v0, st, es1, clock1, hE, _, hS⟩ := Go.WideElems.entry_then_store law_kk Tryz.underlying121 zero_int hb F (kkl_is x)
 obtain ⟨v1, st1, e1, hU, hL1⟩ := entry_is_update law_kk Tryz.underlying121 zero_int hb F (kkl_is x) hE
 injection e1 with e1
 simp only [Array.mk.injEq, List.cons.injEq] at e1
 obtain ⟨rfl, _⟩ := e1
 rw [hlk] at hL1
 injection hL1 with hL1
 subst hL1
 obtain ⟨es', clock', hS1, hS2⟩ := hS (setBlock w b (.map es1 clock1)) (.int .i64 ((D.kct L x : Nat) + 1 : Int)) (Go.ChangeMaps.heap_setBlock_same hb _)
 rw [hr2] at hS2
 injection hS2 with _ hS2
 rw [hr3] at hU
 injection hU with _ hU
 have hw : setBlock (setBlock w b (.map es1 clock1)) b (.map es' clock') = w2 := by
  rw [hS2]
  simp [setBlock]
 rw [hw] at hS1
 refine ⟨st, _, w2, hE, ?_, hS1, hc2, hg2, by rw [← hU]; exact hg3⟩
 rw [← hU]
 obtain ⟨c, hr, ha, _⟩ := ho3.lookup_int law_k Tryz.underlying121 Tryz.underlying3 (zero_int w3) (kkl_is x)
 rw [Maps.atKey_put_same hm (kkl_key x)] at ha
 have e2 : ((D.kct L x : Nat) : Int) = c := (Lit.int.inj (DataW.lit.inj ha)).2
 rw [hr, ← e2]
end
end Go.Proofs.YtjlaffgbmcpldaaGreatDoor
namespace Go.Proofs.YtjlaffgbmcpldaaGreatDoor
open Go.RowKit
attribute [local go_sem ↓] Go.wp_at_zero Go.wp_at_succ ld_k lv_k st_k eq_k ne_k bd_k ld_b lv_b st_b eq_b ne_b bd_25 ld_r lv_r st_rk eq_rk ne_rk bd_r ld_p lv_p st_px bd_p Nm.ld_a Nm.ld_n Nm.st_a Nm.st_n Nm.eq_a Nm.eq_n Nm.ne_a Nm.ne_n Nm.lv_a Nm.lv_n ld_a ld_n st_a st_n eq_a eq_n ne_a ne_n lv_a lv_n ld_l lv_l st_l bd_l bd_n bs_k ld_v lv_v st_v ne_v bd_v bs_v ld_rh ld_d lv_rh lv_d st_r st_d ne_rh eq_rh ne_d bd_rh bd_d ld_x lv_x st_x bd_x bs_x ld_e lv_e st_e bd_e bs_e ne_e
attribute [local go_sem] run_ldk run_lvk run_stk run_eqk run_nek run_bdk_z run_ldb run_lvb run_stb run_eqb run_neb run_ldr run_lvr run_strk run_eqrk run_nerk run_bdr_z run_ldp run_lvp run_stpx Nm.run_ld_a Nm.run_ld_n Nm.run_st_n Nm.run_eq_a Nm.run_eq_n Nm.run_ne_a Nm.run_ne_n Nm.run_lv_a Nm.run_lv_n Nm.rd_new Nm.rd_old Nm.rd_drew Nm.rd_drewN run_ld_a run_ld_n run_sw_a run_sw_n run_eq_a run_eq_n run_ne_a run_ne_n run_lv_a run_lv_n st_z ne_z eq_z rd_new rd_old rd_drew rd_drewN Shp.rd_new Shp.rd_old Shp.rd_drew Shp.rd_drewN Shp.rd_set Shp.tn_new Shp.tn_old Shp.tn_drew Shp.tn_drewN tn_new tn_old tn_drew tn_drewN rd_set setRow_alloc run_stn3 run_stt15 run_lvl run_ldl run_stl run_bdl run_bdn run_bdn0 run_bsk Shp.rd_extk cell_ext run_ldv run_lvv run_stv run_nev run_bdv_z run_bdv_d run_bdv_r run_bsv1 run_bsv0 run_ldrh run_ldd run_lvrh run_lvd run_str run_std run_nerh run_eqrh run_ned run_bdr0 run_bdd0 run_bdr1 run_bdd1 run_bdd9 run_ldx run_lvx run_stx run_lde run_lve run_bde run_bse1 run_bdv_3 Shp.rd_extk cell_ext
theorem ctree_new (w : World) : Calls Tryz.prog 47 #[] w fun e w' => e = .returned (.pointer (some ⟨w.heap.size, 0, none⟩)) ∧ w' = w.alloc (.cells #[.pointer none, .int .i64 0] tT) := by
 go_enter Tryz.func47, Tryz.ntmps47
 go_wp2
 go_ret
 exact ⟨rfl, rfl⟩
theorem tr_new (w : World) : TC (w.alloc (.cells #[.pointer none, .int .i64 0] tT)) w.heap.size none := by
 have h := Blk.new w tT #[.pointer none, .int .i64 0]
 exact TC.of ⟨⟨0, h⟩, by simp, by simp, by simp, by simp [Cr.Tr.lso]⟩ h
theorem snew_any (base : Nat) (w : World) (hb : base ≤ w.heap.size) : Calls Tryz.prog 13 #[] w fun e w' => e = .returned (.pointer (some ⟨w.heap.size + 1, 0, none⟩)) ∧ SM base w' (w.heap.size + 1) .zero ∧ Below w.heap.size w w' := by
 have CN := Lib.hid (ctree_new w)
 have hT := tr_new w
 have b0 := below_alloc_ w (.cells #[.pointer none, .int .i64 0] tT)
 obtain ⟨w1, hw1⟩ : ∃ w1, w.alloc (.cells #[.pointer none, .int .i64 0] tT) = w1 := ⟨_, rfl⟩
 rw [hw1] at hT b0 CN
 have hz : w1.heap.size = w.heap.size + 1 := by rw [← hw1]; simp
 have hB := Blk.new w1 sT #[.pointer (some ⟨w.heap.size, 0, none⟩), .int .u64 0, .int .i64 0]
 have b1 := below_alloc_ w1 (.cells #[.pointer (some ⟨w.heap.size, 0, none⟩), .int .u64 0, .int .i64 0] sT)
 have hZ := Lib.hid hz
 clear hw1 hz
 go_enter Tryz.func13, Tryz.ntmps13
 go_wp2_with (go_at_call 47; (with_reducible refine CN.out.mono ?_); rintro e w2 ⟨rfl, rfl⟩)
 go_ret
 refine ⟨by rw [hZ.out]; rfl, ⟨w.heap.size, none, fun _ => ⟨0, none, 0⟩, ?_⟩, below_up b0 b0.size b1⟩
 rw [hZ.out] at hB
 exact ⟨⟨hB, hT.on b1, rfl, by simp [D.Sm.zero], by simp [D.Sm.zero], by omega, by simp [blo]; omega⟩, D.Sm.zero_wf⟩
theorem orEmpty_any (g : Nat) (w : World) : Calls Tryz.prog 56 #[.pointer (some ⟨g, 0, none⟩)] w fun e w' => e = .returned (.pointer (some ⟨g, 0, none⟩)) ∧ w' = w := by
 go_enter Tryz.func56, Tryz.ntmps56
 go_wp2
 go_ret
 exact ⟨rfl, rfl⟩
theorem orEmpty_nil (base : Nat) (w : World) (hb : base ≤ w.heap.size) : Calls Tryz.prog 56 #[.pointer none] w fun e w' => e = .returned (.pointer (some ⟨w.heap.size + 1, 0, none⟩)) ∧ SM base w' (w.heap.size + 1) .zero ∧ Below w.heap.size w w' := by
 have CN := Lib.hid (snew_any base w hb)
 go_enter Tryz.func56, Tryz.ntmps56
 go_wp2_with (go_at_call 13; (with_reducible refine CN.out.mono ?_); rintro e w2 ⟨rfl, hS, hB⟩)
 go_ret
 exact ⟨rfl, hS, hB⟩
def SO (base : Nat) (w : World) (p : Option Addr) (M : D.Sm) : Prop := ∀ W, Below w.heap.size w W → Calls Tryz.prog 56 #[.pointer p] W fun e w' => ∃ s, e = .returned (.pointer (some ⟨s, 0, none⟩)) ∧ SM base w' s M ∧ Below W.heap.size W w'
theorem SO.of {base s : Nat} {w : World} {M : D.Sm} (h : SM base w s M) : SO base w (some ⟨s, 0, none⟩) M := fun W hW => (orEmpty_any s W).mono fun e w' ⟨h1, h2⟩ => by
 subst h2
 exact ⟨s, h1, h.on hW, Below.refl _ _⟩
theorem SO.nil (base : Nat) (w : World) (hb : base ≤ w.heap.size) : SO base w none .zero := fun W hW => (orEmpty_nil base W (by have := hW.size; omega)).mono fun e w' ⟨h1, h2, h3⟩ => ⟨_, h1, h2, h3⟩
theorem SO.on {base : Nat} {w w' : World} {p : Option Addr} {M : D.Sm} (h : SO base w p M) (hb : Below w.heap.size w w') : SO base w' p M := fun W hW => h W (below_up hb hb.size hW)
set_option maxHeartbeats 1000000 in
theorem of_key {base : Nat} {w : World} {p : Option Addr} {M : D.Sm} (hS : SO base w p M) (hl : M.last ≤ 1000) (k : D.Ky) : Calls Tryz.prog 73 #[.pointer p, .agg (kS.v k)] w fun e w' => ∃ c A n d, e = .returned (.pointer c) ∧ Al w' c A n d (M.f k) ∧ (∀ v ∈ M.f k, v.wf) ∧ Below w.heap.size w w' ∧ (k ∉ M.ks → c = none) := by
 have f0 := Shp.rd_new (S := kS) w w.heap.size 39 k rfl
 have b0 := below_alloc_ w (.cells (kS.v k) 39)
 have HO := Lib.hid hS
 go_enter Tryz.func73, Tryz.ntmps73
 go_wp2_with fail
 obtain ⟨w0, hw0⟩ : ∃ w0, w.alloc (.cells (kS.v k) 39) = w0 := ⟨_, rfl⟩
 rw [hw0] at f0 b0
 rw [hw0]
 clear hw0
 have b1 : Below w0.heap.size w0 w0.drew := (Below.refl _ _).drew
 refine wp_region_noPanic ?_
 refine wp_region_held_drew (S := (fun V => Below w0.heap.size w0 V)) (by kernel_rfl) b1 (fun _ => ?_)
 refine takeT 0 (some 8) ?v2 ?hy2 b1 ?rest2
 case hy2 => (intro o ho W hW; simp only [gT, gS, gZ, sI] at ho; subst ho; (try dsimp only at hW); go_simp; try rfl)
 try simp only [Act.put, iT, iZ, iS]
 refine takeT 5 (some 13) ?v3 ?hy3 b1 ?rest3
 case hy3 => (intro o ho W hW; simp only [gT, gS, gZ, sI] at ho; subst ho; (try dsimp only at hW); have f_ := Shp.rd_on f0 hW; go_simp; try rfl)
 try simp only [Act.put, iT, iZ, iS]
 refine nextS 1 (by kernel_rfl) (by rfl) (fun o ho K hK => ?_)
 simp only [gT, gS, gZ, sI] at ho; subst ho
 go_simp
 go_at_call 56
 refine (HO.out _ (below_up b0 b0.size b1)).mono ?_
 rintro e w2 ⟨s, rfl, ⟨g, o, q, h2⟩, b2⟩
 have b3 := below_up b1 b1.size b2
 refine hK.out _ _ b3 (fun _ => ?_)
 clear hK K
 try simp only [Act.put, iT, iZ, iS]
 have c0 := h2.blk.c 0
 simp only [List.getElem?_toArray, List.getElem?_cons_zero] at c0
 refine takeT 2 (some 10) ?v6 ?hy6 b3 ?rest6
 case hy6 => (intro o ho W hW; simp only [gT, gS, gZ, sI] at ho; subst ho; (try dsimp only at hW); go_simp; try rfl)
 try simp only [Act.put, iT, iZ, iS]
 refine takeT 3 (some 11) ?v7 ?hy7 b3 ?rest7
 case hy7 => (intro o ho W hW; simp only [gT, gS, gZ, sI] at ho; subst ho; (try dsimp only at hW); go_simp; try rfl)
 try simp only [Act.put, iT, iZ, iS]
 have hC := Lib.hid h2
 clear b1 h2
 refine nextS 4 (by kernel_rfl) (by rfl) (fun o ho K hK => ?_)
 simp only [gT, gS, gZ, sI] at ho; subst ho
 go_simp
 refine hK.out _ _ b3 (fun _ => ?_)
 clear hK K
 try simp only [Act.put, iT, iZ, iS]
 refine nextS 6 (by kernel_rfl) (by rfl) (fun o ho K hK => ?_)
 simp only [gT, gS, gZ, sI] at ho; subst ho
 go_simp
 go_at_call 92
 refine (get_any g o k _ hC.out.tc.tr).mono ?_
 rintro e w4 ⟨rfl, b4⟩
 have b5 := below_up b3 b3.size b4
 obtain ⟨A, n, d, hA⟩ := hC.out.al hl k
 have hA4 := Lib.hid (hA.on b4)
 refine hK.out _ _ b5 (fun _ => ?_)
 clear hK K
 try simp only [Act.put, iT, iZ, iS]
 refine takeT 7 (some 7) ?v12 ?hy12 b5 ?rest12
 case hy12 => (intro o ho W hW; simp only [gT, gS, gZ, sI] at ho; subst ho; (try dsimp only at hW); go_simp; try rfl)
 try simp only [Act.put, iT, iZ, iS]
 refine takeT 8 (some 15) ?v13 ?hy13 b5 ?rest13
 case hy13 => (intro o ho W hW; simp only [gT, gS, gZ, sI] at ho; subst ho; (try dsimp only at hW); go_simp; try rfl)
 try simp only [Act.put, iT, iZ, iS]
 refine takeT 9 (some 16) ?v14 ?hy14 b5 ?rest14
 case hy14 => (intro o ho W hW; simp only [gT, gS, gZ, sI] at ho; subst ho; (try dsimp only at hW); go_simp; try rfl)
 try simp only [Act.put, iT, iZ, iS]
 refine takeT 10 (some 5) ?v15 ?hy15 b5 ?rest15
 case hy15 => (intro o ho W hW; simp only [gT, gS, gZ, sI] at ho; subst ho; (try dsimp only at hW); go_simp; try rfl)
 try simp only [Act.put, iT, iZ, iS]
 refine takeT 11 (some 6) ?v16 ?hy16 b5 ?rest16
 case hy16 => (intro o ho W hW; simp only [gT, gS, gZ, sI] at ho; subst ho; (try dsimp only at hW); go_simp; try rfl)
 try simp only [Act.put, iT, iZ, iS]
 refine wpAnyH_done (by kernel_rfl) ?_ _
 refine NoPanic.normal ?_
 go_wp2
 go_ret
 exact ⟨_, A, n, d, rfl, hA4.out, hC.out.vw k, below_up b0 b0.size b5, fun hk => hC.out.got_out hk⟩
end Go.Proofs.YtjlaffgbmcpldaaGreatDoor
namespace Go.Proofs.YtjlaffgbmcpldaaGreatDoor
open Go.RowKit Go.Shelf
attribute [local go_sem] Oper.semAt_some
attribute [local go_sem ↓] Go.wp_at_zero Go.wp_at_succ ld_k lv_k st_k eq_k ne_k bd_k ld_b lv_b st_b eq_b ne_b bd_25 ld_r lv_r st_rk eq_rk ne_rk bd_r ld_p lv_p st_px bd_p Nm.ld_a Nm.ld_n Nm.st_a Nm.st_n Nm.eq_a Nm.eq_n Nm.ne_a Nm.ne_n Nm.lv_a Nm.lv_n ld_a ld_n st_a st_n eq_a eq_n ne_a ne_n lv_a lv_n ld_l lv_l st_l bd_l bd_n bs_k
attribute [local go_sem] run_ldk run_lvk run_stk run_eqk run_nek run_bdk_z run_ldb run_lvb run_stb run_eqb run_neb run_ldr run_lvr run_strk run_eqrk run_nerk run_bdr_z run_ldp run_lvp run_stpx Nm.run_ld_a Nm.run_ld_n Nm.run_st_n Nm.run_eq_a Nm.run_eq_n Nm.run_ne_a Nm.run_ne_n Nm.run_lv_a Nm.run_lv_n Nm.rd_new Nm.rd_old Nm.rd_drew Nm.rd_drewN run_ld_a run_ld_n run_sw_a run_sw_n run_eq_a run_eq_n run_ne_a run_ne_n run_lv_a run_lv_n st_z ne_z eq_z rd_new rd_old rd_drew rd_drewN Shp.rd_new Shp.rd_old Shp.rd_drew Shp.rd_drewN Shp.rd_set Shp.tn_new Shp.tn_old Shp.tn_drew Shp.tn_drewN tn_new tn_old tn_drew tn_drewN rd_set setRow_alloc run_stn3 run_stt15 run_lvl run_ldl run_stl run_bdl run_bdn run_bdn0 run_bsk Shp.rd_extk cell_ext

theorem round_any {P : Program} {l : Nat} {fn : FuncId} {tmps : Array Value} {assign body : Code} {W : World} {R : Ending → World → Prop} (m m' : Nat) (h : RoundIn Fence.wide m P l fn tmps assign body W R) : RoundIn Fence.wide m' P l fn tmps assign body W R := by
 exact ⟨h.1, fun c cs _ => h.2 c cs (room_wide _)⟩
theorem callsIn_any {P : Program} {f : FuncId} {args : Array Value} {W : World} {R : Ending → World → Prop} (m m' : Nat) (h : CallsIn Fence.wide m P f args W R) : CallsIn Fence.wide m' P f args W R := callsIn_wide.2 (callsIn_wide.1 h)
abbrev Lf := D.Ky × Vl
def Gv (J Jx : List Lf → World → Prop) (n0 : Nat) (X : List Nat) (pre l : List Lf) (W : World) (bb : Bool) (W' : World) : Prop :=
 if bb = true then J (pre ++ l) W' ∧ Kp n0 X W W' else ∃ p, p <+: pre ++ l ∧ p.length ≠ 0 ∧ Jx p W'
set_option maxHeartbeats 4000000 in
theorem gv_in (l n0 N : Nat) (X : List Nat) (J Jx : List Lf → World → Prop)
  (hY : ∀ pre (y : Lf) W1, J pre W1 → pre.length < N → YieldAt Fence.wide 5 Tryz.prog l #[.agg (lS.v y)] W1 fun e W' =>
   (e = .returned (.bool true) ∧ J (pre ++ [y]) W' ∧ Kp n0 X W1 W') ∨ (e = .returned (.bool false) ∧ Jx (pre ++ [y]) W')) :
  ∀ (t : Tk) (pre : List Lf) (W : World), Nd W t → t.wf → (∀ q ∈ t.bl, q < n0 ∧ q ∉ X) → J pre W → pre.length + t.ls.length ≤ N →
  CallsIn Fence.wide 5 Tryz.prog 139 #[.pointer (some ⟨t.ad, 0, none⟩), .func (.yield l) #[] #[]] W fun e W' => ∃ bb : Bool, e = .returned (.bool bb) ∧ Gv J Jx n0 X pre t.ls W bb W'
 | .lf a k v, pre, W, hN, hw, hbl, hJ, hlen => by
  have hnf := hN.nf
  have c0 := hnf.bit
  have c1 := hnf.leaf
  simp only [Cr.Tr.bit, Cr.Tr.ad, lfe, lop, hip] at c0 c1
  have hL : (Cr.Tr.lf a k v : Tk).ls = [(k, v)] := rfl
  rw [hL] at hlen ⊢
  have had : (Cr.Tr.lf a k v : Tk).ad = a := rfl
  rw [had]
  obtain ⟨fn, tmps, assign, body, hy, hR⟩ := hY pre (k, v) W hJ (by simp at hlen; omega)
  have hR2 := Lib.hid (RoundIn.mono (round_any 5 4 hR) fun e W' hh => show ∃ bb : Bool, e = .returned (.bool bb) ∧ Gv J Jx n0 X pre [(k, v)] W bb W' from by
   rcases hh with ⟨h1, h2⟩ | ⟨h1, h2⟩
   ·exact ⟨true, h1, h2⟩
   ·exact ⟨false, h1, _, List.prefix_rfl, by simp, h2⟩)
  clear hR hY hJ hN hbl hnf hlen hL had
  refine callsIn_of_wp Tryz.func139 rfl trivial ?_ rfl
  simp only [Tryz.ntmps139, List.size_toArray, List.length_cons, List.length_nil, Nat.reduceAdd, Nat.reduceSub, Array.replicate_succ, Array.replicate_zero, List.push_toArray, List.append_toArray, List.nil_append, List.cons_append]
  gi_wp2
  refine hR2.out.mono ?_
  rintro e W3 ⟨bb, rfl, hG⟩
  have HG := Lib.hid hG
  clear hG
  gi_wp2
  go_ret
  exact ⟨bb, rfl, HG.out⟩
 | .br a b x y, pre, W, hN, hw, hbl, hJ, hlen => by
  have hb := hw.1
  have hnf := hN.nf
  have c0 : W.cell? ⟨a, 0, none⟩ = some (.int .i64 (b : Nat)) := hnf.bit
  have c1 : W.cell? ⟨a, 1, none⟩ = some (.pointer (some ⟨x.ad, 0, none⟩)) := hnf.lo
  have c2 : W.cell? ⟨a, 2, none⟩ = some (.pointer (some ⟨y.ad, 0, none⟩)) := hnf.hi
  have hne : ¬ ((b : Int) = 200) := by omega
  have h1 : ∀ q ∈ x.bl, q < n0 ∧ q ∉ X := fun q hq => hbl q (by simp [Cr.Tr.bl, hq])
  have h2 : ∀ q ∈ y.bl, q < n0 ∧ q ∉ X := fun q hq => hbl q (by simp [Cr.Tr.bl, hq])
  have h0 := hbl a (by simp [Cr.Tr.bl])
  have hL : (Cr.Tr.br a b x y : Tk).ls = x.ls ++ y.ls := rfl
  rw [hL, List.length_append] at hlen
  have K1 := callsIn_any 5 4 (gv_in l n0 N X J Jx hY x pre W hN.2.1 hw.2.2.2.2.1 h1 hJ (by omega))
  have K2 := fun W1 (hJ1 : J (pre ++ x.ls) W1) (hK : Kp n0 X W W1) => callsIn_any 5 4 (gv_in l n0 N X J Jx hY y (pre ++ x.ls) W1 (hN.2.2.kept fun q hq => hK.old q (h2 q hq).1 (h2 q hq).2) hw.2.2.2.2.2 h2 hJ1 (by rw [List.length_append]; omega))
  rw [hL]
  have had : (Cr.Tr.br a b x y : Tk).ad = a := rfl
  rw [had]
  clear hL had hJ hN hbl hnf hlen h1 h2 hY hw
  obtain ⟨lx, hlx⟩ : ∃ lx, x.ls = lx := ⟨_, rfl⟩
  obtain ⟨ly, hly⟩ : ∃ ly, y.ls = ly := ⟨_, rfl⟩
  obtain ⟨ax, hax⟩ : ∃ ax, x.ad = ax := ⟨_, rfl⟩
  obtain ⟨ay, hay⟩ : ∃ ay, y.ad = ay := ⟨_, rfl⟩
  rw [hlx] at K1 K2
  rw [hly] at K2
  rw [hax] at K1 c1
  rw [hay] at K2 c2
  rw [hlx, hly]
  clear hlx hly hax hay
  have C1 := Lib.hid K1
  have C2 := Lib.hid K2
  clear K1 K2
  refine callsIn_of_wp Tryz.func139 rfl trivial ?_ rfl
  simp only [Tryz.ntmps139, List.size_toArray, List.length_cons, List.length_nil, Nat.reduceAdd, Nat.reduceSub, Array.replicate_succ, Array.replicate_zero, List.push_toArray, List.append_toArray, List.nil_append, List.cons_append]
  gi_wp2
  refine ⟨trivial, ?_⟩
  refine C1.out.mono ?_
  rintro e W1 ⟨bb, rfl, hG⟩
  cases bb with
  | false =>
   have HG : Kept (Gv J Jx n0 X pre (lx ++ ly) W false W1) := ⟨by
    obtain ⟨p, h1, h2, h3⟩ := hG
    exact ⟨p, h1.trans (by rw [← List.append_assoc]; exact List.prefix_append _ _), h2, h3⟩⟩
   clear hG
   gi_wp2
   refine ⟨trivial, ?_⟩
   gi_wp2
   go_ret
   exact ⟨false, rfl, HG.out⟩
  | true =>
   obtain ⟨hJ1, hK1⟩ := hG
   have c3 := (hK1.cell (a := ⟨a, 2, none⟩) h0.1 h0.2).trans c2
   have HK := Lib.hid hK1
   have C3 := Lib.hid (C2.out W1 hJ1 hK1)
   clear hK1 hJ1
   gi_wp2
   refine ⟨trivial, ?_⟩
   refine C3.out.mono ?_
   rintro e W2 ⟨bb, rfl, hG⟩
   have HG : Kept (Gv J Jx n0 X pre (lx ++ ly) W bb W2) := ⟨by
    unfold Gv at hG ⊢
    rw [List.append_assoc] at hG
    cases bb with
    | true => rw [if_pos rfl] at hG ⊢; exact ⟨hG.1, HK.out.trans hG.2⟩
    | false => exact hG⟩
   clear hG
   gi_wp2
   go_ret
   exact ⟨bb, rfl, HG.out⟩
theorem results_cc {fn : Func} {p q : Tmp} {ty tz : TypeId} (h : fn.results = #[.cell p ty, .cell q tz]) (tmps : Array Value) (P : Program) (w : World) :
  (results fn tmps).run P w = ((asAddr (tmps.getD p undef)).run P w).andThen fun a w1 => ((loadVar ty a).run P w1).andThen fun u w2 => ((asAddr (tmps.getD q undef)).run P w2).andThen fun b w3 => ((loadVar tz b).run P w3).andThen fun v w4 => .ok (.tuple #[u, v]) w4 := by
 simp only [results, h]
 simp [Sem.run_bind, Result.andThen]
theorem results_ct {fn : Func} {p q : Tmp} {ty : TypeId} (h : fn.results = #[.cell p ty, .tmp q]) (tmps : Array Value) (P : Program) (w : World) :
  (results fn tmps).run P w = ((asAddr (tmps.getD p undef)).run P w).andThen fun a w1 => ((loadVar ty a).run P w1).andThen fun u w2 => .ok (.tuple #[u, tmps.getD q undef]) w2 := by
 simp only [results, h]
 simp [Sem.run_bind, Result.andThen]
theorem lv_bool {w : World} {a : Addr} {b : Bool} (h : w.cell? a = some (.bool b)) : (loadVar 4 a).run Tryz.prog w = .ok (.bool b) w := by
 simp [loadVar, go_sem, h]
theorem gv_none (l : Nat) (W : World) : CallsIn Fence.wide 5 Tryz.prog 139 #[.pointer none, .func (.yield l) #[] #[]] W fun e W' => e = .returned (.bool true) ∧ W = W' := by
 refine callsIn_of_wp Tryz.func139 rfl trivial ?_ rfl
 simp only [Tryz.ntmps139, List.size_toArray, List.length_cons, List.length_nil, Nat.reduceAdd, Nat.reduceSub, Array.replicate_succ, Array.replicate_zero, List.push_toArray, List.append_toArray, List.nil_append, List.cons_append]
 gi_wp2
 go_ret
 exact ⟨rfl, rfl⟩
theorem within_any (p : Option Addr) (w : World) : Calls Tryz.prog 109 #[.pointer p] w fun e w' => e = .returned (.func (.func 138) #[] #[.pointer (some ⟨w.heap.size, 0, none⟩)]) ∧ w' = w.alloc (.cells #[.pointer p] 175) := by
 go_enter Tryz.func109, Tryz.ntmps109
 go_wp2
 go_ret
 exact ⟨rfl, rfl⟩
theorem wi_stops (n : Nat) (hn : 4 ≤ n) (B n0 : Nat) (X : List Nat) (o : Option Tk) (w : World) (hb : w.cell? ⟨B, 0, none⟩ = some (.pointer (pt o))) (hT : ∀ t, o = some t → Nd w t ∧ t.wf ∧ ∀ q ∈ t.bl, q < n0 ∧ q ∉ X) :
  SeqStopsK Fence.wide n Tryz.prog 138 #[.pointer (some ⟨B, 0, none⟩)] (fun y : Lf => #[.agg (lS.v y)]) (Kp n0 X) (fun ys => ys = Cr.Tr.lso o) (fun p => p <+: Cr.Tr.lso o ∧ p.length ≠ 0) (Cr.Tr.lso o).length w := fun l J Jx W hW hJ hJx hY h0 => by
 have hbW := cell_kept_ hW hb
 have hY5 : ∀ pre (y : Lf) W1, J pre W1 → pre.length < (Cr.Tr.lso o).length → YieldAt Fence.wide 5 Tryz.prog l #[.agg (lS.v y)] W1 fun e W' => (e = .returned (.bool true) ∧ J (pre ++ [y]) W' ∧ Kp n0 X W1 W') ∨ (e = .returned (.bool false) ∧ Jx (pre ++ [y]) W') := fun pre y W1 h1 h2 => by
  obtain ⟨fn, tmps, assign, body, h3, h4⟩ := hY pre y W1 h1 h2
  exact ⟨fn, tmps, assign, body, h3, round_any _ _ h4⟩
 have C : CallsIn Fence.wide 5 Tryz.prog 139 #[.pointer (pt o), .func (.yield l) #[] #[]] W fun e W' => ∃ bb : Bool, e = .returned (.bool bb) ∧ Gv J Jx n0 X [] (Cr.Tr.lso o) W bb W' := by
  cases o with
  | none =>
   refine (gv_none l W).mono ?_
   rintro e W' ⟨rfl, rfl⟩
   exact ⟨true, rfl, by unfold Gv; rw [if_pos rfl]; exact ⟨h0, Kp.refl _ _ _⟩⟩
  | some t =>
   obtain ⟨h1, h2, h3⟩ := hT t rfl
   exact gv_in l n0 _ X J Jx hY5 t [] W (h1.on hW) h2 h3 h0 (by simp [Cr.Tr.lso])
 have C := Lib.hid (callsIn_wide.1 C)
 clear hY hY5 hT hb hJ hJx h0
 refine callsIn_wide.2 ?_
 show Calls Tryz.prog 138 #[.func (.yield l) #[] #[], .pointer (some ⟨B, 0, none⟩)] W _
 go_enter Tryz.func138, Tryz.ntmps138
 go_wp2_with (go_at_call 139; (with_reducible refine C.out.mono ?_); rintro e w1 ⟨bb, rfl, hG⟩; have HG := Lib.hid hG; clear hG)
 go_end0
 refine ⟨⟨_, rfl⟩, ?_⟩
 have hG := HG.out
 unfold Gv at hG
 cases bb with
 | true => rw [if_pos rfl] at hG; exact .inl ⟨_, rfl, hG.1⟩
 | false =>
  rw [if_neg (by decide)] at hG
  obtain ⟨p, h1, h2, h3⟩ := hG
  exact .inr ⟨p, ⟨h1, h2⟩, h3⟩
def fk : Option Tk → D.Ky
 | none => D.zK
 | some t => t.hd.1
set_option maxHeartbeats 8000000 in
theorem first_any (o : Option Tk) (w : World) (hT : ∀ t, o = some t → Nd w t ∧ t.wf) : Calls Tryz.prog 107 #[.pointer (pt o)] w fun e w' => e = .returned (.tuple #[.agg (kS.v (fk o)), .bool o.isSome]) ∧ Below w.heap.size w w' := by
 have CI := Lib.hid (fun w => within_any (pt o) w)
 obtain ⟨w0, hw0⟩ : ∃ w0, (w.alloc (.cells z25 39)).alloc (.cells #[.bool false] 4) = w0 := ⟨_, rfl⟩
 have b0 : Below w.heap.size w w0 := by rw [← hw0]; exact (below_alloc_ _ _).alloc (by simp) _
 have HZ0 : Kept (w0.heap.size = w.heap.size + 2) := ⟨by rw [← hw0]; simp⟩
 have B2 : Blk w0 w.heap.size 39 (kS.v D.zK) := by rw [← hw0]; exact (Blk.new w _ _).alloc _
 have B3 : Blk w0 (w.heap.size + 1) 4 #[.bool false] := by
  rw [← hw0]
  have := Blk.new (w.alloc (.cells z25 39)) 4 #[.bool false]
  simpa using this
 unfold z25 at hw0
 refine (callsIn_wide (n := 10)).1 ?_
 refine callsIn_of_wp_marks Tryz.func107 rfl trivial ?_ rfl
 simp only [Tryz.ntmps107, List.size_toArray, List.length_cons, List.length_nil, Nat.reduceAdd, Nat.reduceSub, Array.replicate_succ, Array.replicate_zero, List.push_toArray, List.append_toArray, List.nil_append, List.cons_append]
 gi_wp2
 try rw [hw0]
 clear hw0
 refine ⟨trivial, ?_⟩
 refine (callsIn_wide.2 (CI.out _)).mono ?_
 rintro e w3 ⟨rfl, hw3⟩
 have b3 : Below w0.heap.size w0 w3 := by rw [hw3]; exact below_alloc_ _ _
 have hb3 : w3.cell? ⟨w0.heap.size, 0, none⟩ = some (.pointer (pt o)) := by rw [hw3]; exact (Blk.new w0 _ _).cell
 have HZ3 : Kept (w3.heap.size = w0.heap.size + 1) := ⟨by rw [hw3]; simp⟩
 clear hw3
 have hT3 : ∀ t, o = some t → Nd w3 t ∧ t.wf ∧ ∀ q ∈ t.bl, q < w3.heap.size ∧ q ∉ [w.heap.size, w.heap.size + 1] := fun t e => by
  obtain ⟨h1, h2⟩ := hT t e
  refine ⟨(h1.on b0).on b3, h2, fun q hq => ?_⟩
  obtain ⟨cs, hB⟩ := h1.lt q hq
  have := hB.lt
  have hz0 := HZ0.out
  have hz3 := HZ3.out
  refine ⟨by omega, ?_⟩
  simp only [List.mem_cons, List.not_mem_nil, or_false]
  omega
 have B23 := B2.on b3
 have B33 := B3.on b3
 gi_wp2
 refine wpIn_rangeFunc_ownH rfl (by decide) (gf := 138) (lb := #[.pointer (some ⟨w0.heap.size, 0, none⟩)]) rfl trivial (enters_of Tryz.func138 (by kernel_rfl) rfl)
  (wi_stops 9 (by decide) w0.heap.size w3.heap.size [w.heap.size, w.heap.size + 1] o w3 hb3 hT3) (fun h k => h.trans k) (fun W l o o' h1 h2 h3 _ => Kp.put W l o o' h1 h2 h3) (Below.refl _ _) (fun _ => rfl)
  (fun pre W => Ov w3.heap.size [w.heap.size, w.heap.size + 1] w3 W ∧ pre = [] ∧ Blk W w.heap.size 39 (kS.v D.zK) ∧ Blk W (w.heap.size + 1) 4 #[.bool false])
  (fun c pre W => c = .ret ∧ ∃ y, pre = [y] ∧ Ov w3.heap.size [w.heap.size, w.heap.size + 1] w3 W ∧ Blk W w.heap.size 39 (kS.v y.1) ∧ Blk W (w.heap.size + 1) 4 #[.bool true])
  (fun s W W' row hs hg hr => ⟨hs.1.grown (Nat.le_refl _) hg fun r e => .inl (hr r e).1, hs.2.1, (blk_own (fun _ : List Lf => kS.v D.zK)) s W W' row hs.2.2.1 hg hr, (blk_own (fun _ : List Lf => #[.bool false])) s W W' row hs.2.2.2 hg hr⟩)
  (fun c s W W' row hs hg hr => ⟨hs.1, let ⟨y, h1, h2, h3, h4⟩ := hs.2; ⟨y, h1, h2.grown (Nat.le_refl _) hg fun r e => .inl (hr r e).1, (blk_own (fun _ : List Lf => kS.v y.1)) s W W' row h3 hg hr, (blk_own (fun _ : List Lf => #[.bool true])) s W W' row h4 hg hr⟩⟩) ⟨Ov.refl _ _ _, rfl, B23, B33⟩
  (fun y a' W => ∃ gb, w3.heap.size ≤ gb ∧ Blk W gb 217 (lS.v y) ∧ a' = { tmps := #[.pointer (pt o), undef, .pointer (some ⟨w.heap.size, 0, none⟩), .pointer (some ⟨w.heap.size + 1, 0, none⟩), .pointer (some ⟨gb, 0, none⟩), .pointer (pt o), .func (.func 138) #[] #[.pointer (some ⟨w0.heap.size, 0, none⟩)], .agg (lS.v y), undef, undef, undef], defers := [] })
  (fun y a' s W W' row ⟨gb, h1, h2, h3⟩ hg hr => ⟨gb, h1, (blk_own (fun _ : Unit => lS.v y)) s W W' row h2 hg hr, h3⟩) ?assign ?body ?done ?stop
 case assign =>
  rintro l pre y W K ⟨hO, hp, h2, h3⟩ hK
  have hsz := hO.size
  gi_wp2
  exact hK _ _ ((KeepsOthers.alloc _ _).from _) (Kp.below (below_alloc_ _ _) hsz) ⟨hO.on (Nat.le_refl _) (below_alloc_ _ _), hp, h2.alloc _, h3.alloc _⟩ ⟨W.heap.size, hsz, Blk.new _ _ _, rfl⟩
 case body =>
  rintro l pre y a' W hl ⟨r, hr⟩ ⟨hO, rfl, h2, h3⟩ ⟨gb, hgb, hBy, rfl⟩ hlt
  have fl := Shp.rd_blk (S := lS) hBy
  have fk : kS.rd W ⟨gb, 0, none⟩ = some y.1 := (lf_of fl).1
  have tk2 : Shp.tn 25 W w.heap.size = true := Shp.tn_of h2 (by rw [kS.v_size]; rfl)
  have hc := h3.cell
  have hf := h3.free
  have n1 : w.heap.size + 1 ≠ w.heap.size := by omega
  have B4 : Blk (W.setRow w.heap.size (kS.v y.1)) (w.heap.size + 1) 4 #[.bool false] := ⟨(heap_setRow _ _ _ _ n1).trans h3.out⟩
  have hc4 := B4.cell
  have hf4 := B4.free
  gi_wp2
  have hz0 := HZ0.out
  have hz3 := HZ3.out
  have n2 : w.heap.size ≠ w.heap.size + 1 := by omega
  refine ⟨⟨by simp [World.setCell, World.setRow], fun k o hB hk hc => ?_⟩, rfl, y, rfl, ⟨hO.os, hO.tape, hO.output, by have := hO.size; simpa [World.setCell, World.setRow] using this, fun q h1 h2 => ?_⟩, ⟨(Below.heap_setCell _ _ _ _ n2).trans (blk_set_ h2).out⟩, B4.set_ _⟩
  ·exact (Below.heap_setCell _ ⟨w.heap.size + 1, 0, none⟩ _ k (by show k ≠ w.heap.size + 1; omega)).trans ((heap_setRow _ _ _ _ (by omega)).trans hk)
  ·simp only [List.mem_cons, List.not_mem_nil, or_false, not_or] at h2
   exact (Below.heap_setCell _ ⟨w.heap.size + 1, 0, none⟩ _ q h2.2).trans ((heap_setRow _ _ _ _ h2.1).trans (hO.block q h1 (by simp [h2])))
 case done =>
  rintro D0 ys W hD hp ⟨hO, rfl, h2, h3⟩ hK
  have ho : o = none := by
   cases o with
   | none => rfl
   | some t => exact absurd hp.symm t.ls_ne
  have hz0 := HZ0.out
  have hz3 := HZ3.out
  have tk2 : Shp.tn 25 W w.heap.size = true := Shp.tn_of h2 (by rw [kS.v_size]; rfl)
  have hc := h3.cell
  have hf := h3.free
  have n1 : w.heap.size + 1 ≠ w.heap.size := by omega
  have n2 : w.heap.size ≠ w.heap.size + 1 := by omega
  have B4 : Blk (W.setRow w.heap.size (kS.v D.zK)) (w.heap.size + 1) 4 #[.bool false] := ⟨(heap_setRow _ _ _ _ n1).trans h3.out⟩
  have hc4 := B4.cell
  have hf4 := B4.free
  have hK2 : ((W.setRow w.heap.size (kS.v D.zK)).setCell ⟨w.heap.size + 1, 0, none⟩ (.bool false)).heap[D0]? = some (.deferred (some [])) :=
   (Below.heap_setCell _ ⟨w.heap.size + 1, 0, none⟩ _ D0 (by show D0 ≠ w.heap.size + 1; omega)).trans ((heap_setRow _ _ _ _ (by omega)).trans hK)
  obtain ⟨V, hV⟩ : ∃ V, (W.setRow w.heap.size (kS.v D.zK)).setCell ⟨w.heap.size + 1, 0, none⟩ (.bool false) = V := ⟨_, rfl⟩
  have R2 : kS.rd (V.putObj D0 (.deferred none)) ⟨w.heap.size, 0, none⟩ = some D.zK := by
   refine (Shp.rd_to (World.putObj_heap_other (by show w.heap.size ≠ D0; omega))).trans ?_
   rw [← hV]
   exact (Shp.rd_setCell _ _ _ _ n2).trans (Shp.rd_set (S := kS) W w.heap.size D.zK tk2)
  have R3 : (V.putObj D0 (.deferred none)).cell? ⟨w.heap.size + 1, 0, none⟩ = some (.bool false) := by
   refine (World.cell?_of_block (World.putObj_heap_other (by show w.heap.size + 1 ≠ D0; omega))).trans ?_
   rw [← hV]
   exact (B4.set_ _).cell
  have hOV : Ov w3.heap.size [w.heap.size, w.heap.size + 1] w3 V := by
   rw [← hV]
   refine ⟨hO.os, hO.tape, hO.output, by have := hO.size; simpa [World.setCell, World.setRow] using this, fun q h1 h2 => ?_⟩
   simp only [List.mem_cons, List.not_mem_nil, or_false, not_or] at h2
   exact (Below.heap_setCell _ ⟨w.heap.size + 1, 0, none⟩ _ q h2.2).trans ((heap_setRow _ _ _ _ h2.1).trans (hO.block q h1 (by simp [h2])))
  rw [hV] at hK2
  have hfin := ((b0.trans (b3.mono b0.size))).trans ((hOV.put hD (.deferred none)).below (b := w.heap.size) (by omega) (fun x hx => by simp at hx; omega))
  clear hO hp h2 h3 hK hOV
  gi_wp2
  try rw [hV]
  refine ⟨by simp, .inl ⟨_, _, rfl, run_takeDeferred hK2, ?_⟩⟩
  refine ⟨.tuple #[.agg (kS.v D.zK), .bool false], ?_, ?_, hfin⟩
  ·rw [results_cc rfl]; simp [asAddr, Result.andThen, lvk_of R2, lv_bool R3]
  ·rw [ho]; rfl
 case stop =>
  rintro D0 c pre W hD ⟨hp, _⟩ ⟨rfl, y, rfl, hO, h2, h3⟩ hK
  have hz0 := HZ0.out
  have hz3 := HZ3.out
  have ho : fk o = y.1 ∧ o.isSome = true := by
   cases o with
   | none => exact absurd hp.length_le (by simp [Cr.Tr.lso])
   | some t =>
    obtain ⟨r, hr⟩ := hp
    have := t.hd_ls
    simp only [Cr.Tr.lso] at hr
    rw [← hr] at this
    simp only [List.singleton_append, List.head?_cons, Option.some.injEq] at this
    exact ⟨by rw [fk, ← this], rfl⟩
  have R2 : kS.rd (W.putObj D0 (.deferred none)) ⟨w.heap.size, 0, none⟩ = some y.1 :=
   (Shp.rd_to (World.putObj_heap_other (by show w.heap.size ≠ D0; omega))).trans (Shp.rd_blk h2)
  have R3 : (W.putObj D0 (.deferred none)).cell? ⟨w.heap.size + 1, 0, none⟩ = some (.bool true) :=
   (World.cell?_of_block (World.putObj_heap_other (by show w.heap.size + 1 ≠ D0; omega))).trans h3.cell
  have hfin := ((b0.trans (b3.mono b0.size))).trans ((hO.put hD (.deferred none)).below (b := w.heap.size) (by omega) (fun x hx => by simp at hx; omega))
  gi_wp2
  refine ⟨by simp, .inl ⟨_, _, rfl, run_takeDeferred hK, ?_⟩⟩
  refine ⟨.tuple #[.agg (kS.v y.1), .bool true], ?_, ?_, hfin⟩
  ·rw [results_cc rfl]; simp [asAddr, Result.andThen, lvk_of R2, lv_bool R3]
  ·rw [ho.1, ho.2]
end Go.Proofs.YtjlaffgbmcpldaaGreatDoor
