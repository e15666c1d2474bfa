/-
  Leaves, nodes and trees in memory: their cells, loads, stores, what is built.
-/
import Derived.Test.YtkhjnfplcaffnaaKbt
import Derived.Test.YtkhjnfplcaffnaaKsh
import Derived.Test.YtkhjnfplcaffnaaCri
import Derived.Test.YtkhjnfplcaffnaaGow
set_option linter.unusedVariables false
set_option linter.unusedSimpArgs false
set_option maxRecDepth 100000
namespace Go.Proofs.Ytkhjnfplcaffnaa
open Go.RowKit

/-- A key, and a number. -/
def lcells (e : D.Ky × Int) : List Value := bys e.1.l ++ [.int .i64 e.2]
theorem lcells_inj {x y : D.Ky × Int} (h : lcells x = lcells y) : x = y := by
  obtain ⟨x, u⟩ := x
  obtain ⟨y, v⟩ := y
  have := List.append_inj h (by simp [bys_len, D.Ky.len])
  obtain rfl := D.Ky.eq (bys_inj this.1)
  have h2 := this.2
  simp only [List.cons.injEq, Value.int.injEq, true_and, and_true] at h2
  subst h2
  rfl
def lS : Shp (D.Ky × Int) := ⟨lcells, 26, by decide, fun x => by simp [lcells, bys_len, x.1.len], lcells_inj, fun x u hu => by
  rcases List.mem_append.1 hu with hu | hu
  · exact bys_one _ u hu
  · simp only [List.mem_singleton] at hu; subst hu; rfl⟩
/-- A node's cells. -/
def ndl (b : Int) (p q : Option Addr) (e : D.Ky × Int) : List Value := .int .i64 b :: .pointer p :: .pointer q :: lcells e
def ndc (b : Int) (p q : Option Addr) (e : D.Ky × Int) : Array Value := (ndl b p q e).toArray
theorem ndl_len (b : Int) (p q : Option Addr) (e : D.Ky × Int) : (ndl b p q e).length = 29 := by simp [ndl, lcells, bys_len, e.1.len]
theorem ndc_size (b : Int) (p q : Option Addr) (e : D.Ky × Int) : (ndc b p q e).size = 29 := by simp [ndc, ndl_len]

noncomputable def ldl (v : Value) : Sem Value := Instr.loadAt 81 v
noncomputable def lvl (a : Addr) : Sem Value := loadVar 81 a
noncomputable def stl (p v : Value) : Sem Unit := Instr.storeAt 81 p v
noncomputable def bdl (ps : Array (Nat × Value)) : Sem Value := Instr.build 81 ps
noncomputable def bdn (ps : Array (Nat × Value)) : Sem Value := Instr.build 84 ps
noncomputable def bsl (n : Nat) (ps : Array (Nat × Value)) : Sem Value := Instr.buildSlice 114 n ps
noncomputable def bsk (n : Nat) (ps : Array (Nat × Value)) : Sem Value := Instr.buildSlice 55 n ps
theorem ld_l (v : Value) : Instr.loadAt 81 v = ldl v := rfl
theorem lv_l (a : Addr) : loadVar 81 a = lvl a := rfl
theorem st_l (p v : Value) : Instr.storeAt 81 p v = stl p v := rfl
theorem bd_l (ps : Array (Nat × Value)) : Instr.build 81 ps = bdl ps := rfl
theorem bd_n (ps : Array (Nat × Value)) : Instr.build 84 ps = bdn ps := rfl
theorem bs_l (n : Nat) (ps : Array (Nat × Value)) : Instr.buildSlice 114 n ps = bsl n ps := rfl
theorem bs_k (n : Nat) (ps : Array (Nat × Value)) : Instr.buildSlice 55 n ps = bsk n ps := rfl
theorem run_lvl (w : World) (a : Addr) : (lvl a).run Try.prog w = (lS.rd w a).elim (bl 81 a w) fun x => .ok (.agg (lS.v x)) w := by
  cases h : lS.rd w a with
  | none => rfl
  | some x => exact Shp.loadVar_of Try.isAgg81 Try.sizeOf81 (Shp.at_of h)
theorem run_ldl (w : World) (a : Addr) : (ldl (.pointer (some a))).run Try.prog w = (lS.rd w a).elim (bl 81 a w) fun x => .ok (.agg (lS.v x)) w := by
  rw [← run_lvl]; simp only [ldl, lvl, Instr.loadAt, Instr.sureAddr, Sem.run_bind, Sem.run_pure, Result.andThen_ok]
theorem run_stl (w : World) (g : Nat) (x : D.Ky × Int) : (stl (.pointer (some ⟨g, 0, none⟩)) (.agg (lS.v x))).run Try.prog w = bif Shp.tn 26 w g then .ok () (w.setRow g (lS.v x)) else bs 81 g (lS.v x) w := by
  cases h : Shp.tn 26 w g with
  | false => rfl
  | true => exact Shp.storeVar_of (S := lS) h x fun t' cs hb hs => run_storeVar_row (P := Try.prog) w g t' _ cs (lS.v x) hb.out (by rw [lS.v_size]; kernel_rfl) hs (lS.v_one x)
theorem bdl_list (w : World) (d : Int) : ∀ l : List Value, l.length = 25 → (bdl #[(0, .agg l.toArray), (1, .int .i64 d)]).run Try.prog w = .ok (.agg (l ++ [Value.int .i64 d]).toArray) w
  | [a0, a1, a2, a3, a4, a5, a6, a7, a8, a9, a10, a11, a12, a13, a14, a15, a16, a17, a18, a19, a20, a21, a22, a23, a24], _ => by
    simp [bdl, Instr.build, go_sem]
theorem run_bdl (w : World) (x : D.Ky) (d : Int) : (bdl #[(0, .agg (kS.v x)), (1, .int .i64 d)]).run Try.prog w = .ok (.agg (lS.v (x, d))) w := bdl_list w d (bys x.l) (by rw [bys_len, x.len])
theorem bdn_list (w : World) : ∀ l : List Value, l.length = 26 → (bdn #[(0, .int .i64 200), (2, .agg l.toArray)]).run Try.prog w = .ok (.agg (.int .i64 200 :: .pointer none :: .pointer none :: l).toArray) w
  | [a0, a1, a2, a3, a4, a5, a6, a7, a8, a9, a10, a11, a12, a13, a14, a15, a16, a17, a18, a19, a20, a21, a22, a23, a24, a25], _ => by
    simp [bdn, Instr.build, go_sem]
theorem run_bdn (w : World) (e : D.Ky × Int) : (bdn #[(0, .int .i64 200), (2, .agg (lS.v e))]).run Try.prog w = .ok (.agg (ndc 200 none none e)) w := bdn_list w (lcells e) (lS.len e)
theorem run_bdn0 (w : World) (b : Int) : (bdn #[(0, .int .i64 b)]).run Try.prog w = .ok (.agg (ndc b none none (D.zK, 0))) w := by
  simp [bdn, Instr.build, go_sem]
  rfl
theorem bsl_list (w : World) : ∀ l : List Value, l.length = 26 → (bsl 1 #[(0, .agg l.toArray)]).run Try.prog w = .ok (.slice (some ⟨w.heap.size, 0, none⟩) 1 1) (w.alloc (.cells l.toArray 81))
  | [a0, a1, a2, a3, a4, a5, a6, a7, a8, a9, a10, a11, a12, a13, a14, a15, a16, a17, a18, a19, a20, a21, a22, a23, a24, a25], _ => by
    simp [bsl, Instr.buildSlice, go_sem]
theorem run_bsl (w : World) (e : D.Ky × Int) : (bsl 1 #[(0, .agg (lS.v e))]).run Try.prog w = .ok (.slice (some ⟨w.heap.size, 0, none⟩) 1 1) (w.alloc (.cells (lS.v e) 81)) := bsl_list w (lcells e) (lS.len e)
theorem bsk_list (w : World) : ∀ l : List Value, l.length = 25 → (bsk 1 #[(0, .agg l.toArray)]).run Try.prog w = .ok (.slice (some ⟨w.heap.size, 0, none⟩) 1 1) (w.alloc (.cells l.toArray 30))
  | [a0, a1, a2, a3, a4, a5, a6, a7, a8, a9, a10, a11, a12, a13, a14, a15, a16, a17, a18, a19, a20, a21, a22, a23, a24], _ => by
    simp [bsk, Instr.buildSlice, go_sem]
theorem run_bsk (w : World) (x : D.Ky) : (bsk 1 #[(0, .agg (kS.v x))]).run Try.prog w = .ok (.slice (some ⟨w.heap.size, 0, none⟩) 1 1) (w.alloc (.cells (kS.v x) 30)) := bsk_list w (bys x.l) (by rw [bys_len, x.len])
/-- The parts of a leaf, and of a node. -/
theorem lf_of {w : World} {g o : Nat} {e : D.Ky × Int} (h : lS.rd w ⟨g, o, none⟩ = some e) : kS.rd w ⟨g, o, none⟩ = some e.1 ∧ w.cell? ⟨g, o + 25, none⟩ = some (.int .i64 e.2) := by
  have hc : lS.At w ⟨g, o, none⟩ e := Shp.at_of h
  have hn : (bys e.1.l).length = 25 := by rw [bys_len, e.1.len]
  have c : ∀ j u, (lcells e)[j]? = some u → w.cell? ((⟨g, o, none⟩ : Addr).add j) = some u := hc
  refine ⟨Shp.rd_of fun j u hu => c j u ?_, ?_⟩
  · have hu : (bys e.1.l)[j]? = some u := hu
    have hj := (List.getElem?_eq_some_iff.1 hu).1
    rw [lcells, List.getElem?_append_left hj, hu]
  · have := c 25 (.int .i64 e.2) (by rw [lcells, List.getElem?_append_right (by omega), hn]; rfl)
    rwa [add_o] at this
structure NF (w : World) (g : Nat) (b : Int) (p q : Option Addr) (e : D.Ky × Int) : Prop where
  bit : w.cell? ⟨g, 0, none⟩ = some (.int .i64 b)
  lo : w.cell? ⟨g, 1, none⟩ = some (.pointer p)
  hi : w.cell? ⟨g, 2, none⟩ = some (.pointer q)
  leaf : lS.rd w ⟨g, 3, none⟩ = some e
  key : kS.rd w ⟨g, 3, none⟩ = some e.1
  thing : w.cell? ⟨g, 28, none⟩ = some (.int .i64 e.2)
  lt : g < w.heap.size
theorem nf_of {w : World} {g : Nat} {b : Int} {p q : Option Addr} {e : D.Ky × Int} (h : Blk w g 84 (ndc b p q e)) : NF w g b p q e := by
  have hc : ∀ j u, (ndl b p q e)[j]? = some u → w.cell? ⟨g, j, none⟩ = some u := fun j u hu => by
    have := World.news_of_block h.out j u (by simpa [ndc] using hu)
    rwa [add_o, Nat.zero_add] at this
  have hl : lS.rd w ⟨g, 3, none⟩ = some e := Shp.rd_of fun j u hu => by
    rw [add_o]
    exact hc (3 + j) u (by rw [Nat.add_comm]; exact hu)
  obtain ⟨h1, h2⟩ := lf_of hl
  exact ⟨hc 0 _ rfl, hc 1 _ rfl, hc 2 _ rfl, hl, h1, h2, h.lt⟩
/-- A tree's nodes in memory. -/
abbrev Tk := Cr.Tr D.Ky
def pt (o : Option Tk) : Option Addr := o.map fun t => ⟨t.ad, 0, none⟩
def Nd (w : World) : Tk → Prop
  | .lf a k v => Blk w a 84 (ndc 200 none none (k, v))
  | .br a b l r => Blk w a 84 (ndc b (some ⟨l.ad, 0, none⟩) (some ⟨r.ad, 0, none⟩) (D.zK, 0)) ∧ Nd w l ∧ Nd w r
theorem Nd.kept {w w' : World} : ∀ {t : Tk}, Nd w t → (∀ g ∈ t.bl, w'.heap[g]? = w.heap[g]?) → Nd w' t
  | .lf a k v, h, hk => ⟨(hk a (by simp [Cr.Tr.bl])).trans h.out⟩
  | .br a b l r, h, hk => ⟨⟨(hk a (by simp [Cr.Tr.bl])).trans h.1.out⟩, h.2.1.kept fun g hg => hk g (by simp [Cr.Tr.bl, hg]), h.2.2.kept fun g hg => hk g (by simp [Cr.Tr.bl, hg])⟩
theorem Nd.lt {w : World} : ∀ {t : Tk}, Nd w t → ∀ g ∈ t.bl, ∃ cs, Blk w g 84 cs
  | .lf a k v, h, g, hg => by
    have hg : g = a := by simpa [Cr.Tr.bl] using hg
    subst hg; exact ⟨_, h⟩
  | .br a b l r, h, g, hg => by
    simp only [Cr.Tr.bl, List.mem_cons, List.mem_append] at hg
    rcases hg with rfl | hg | hg
    · exact ⟨_, h.1⟩
    · exact h.2.1.lt g hg
    · exact h.2.2.lt g hg
theorem Nd.on {w w' : World} {t : Tk} (h : Nd w t) (hb : Below w.heap.size w w') : Nd w' t := h.kept fun g hg => hb.block g (let ⟨_, hc⟩ := h.lt g hg; hc.lt)
/-- The fields of a tree's top node. -/
def lfe : Tk → D.Ky × Int
  | .lf _ k v => (k, v)
  | .br _ _ _ _ => (D.zK, 0)
def lop : Tk → Option Addr
  | .lf _ _ _ => none
  | .br _ _ l _ => some ⟨l.ad, 0, none⟩
def hip : Tk → Option Addr
  | .lf _ _ _ => none
  | .br _ _ _ r => some ⟨r.ad, 0, none⟩
theorem Nd.nf {w : World} : ∀ {t : Tk}, Nd w t → NF w t.ad (t.bit : Int) (lop t) (hip t) (lfe t)
  | .lf _ _ _, h => nf_of h
  | .br _ _ _ _, h => nf_of h.1
/-- A tree: its variable, its nodes. -/
structure TR (w : World) (g : Nat) (o : Option Tk) : Prop where
  blk : ∃ n : Int, Blk w g 75 #[.pointer (pt o), .int .i64 n]
  nd : ∀ t, o = some t → Nd w t
  wf : ∀ t, o = some t → t.wf
  ndp : ∀ t, o = some t → t.bl.Nodup
  sz : (Cr.Tr.lso o).length ≤ 1000
theorem TR.on {w w' : World} {g : Nat} {o : Option Tk} (h : TR w g o) (hb : Below w.heap.size w w') : TR w' g o := ⟨let ⟨n, hB⟩ := h.blk; ⟨n, hB.on hb⟩, fun t e => (h.nd t e).on hb, h.wf, h.ndp, h.sz⟩
theorem TR.lt {w : World} {g : Nat} {o : Option Tk} (h : TR w g o) : g < w.heap.size := let ⟨_, hB⟩ := h.blk; hB.lt
theorem TR.root {w : World} {g : Nat} {o : Option Tk} (h : TR w g o) : w.cell? ⟨g, 0, none⟩ = some (.pointer (pt o)) := by
  obtain ⟨n, hB⟩ := h.blk
  have := World.news_of_block hB.out 0 _ rfl
  rwa [add_o] at this
/-- A tree with its count. -/
structure TC (w : World) (g : Nat) (o : Option Tk) : Prop where
  tr : TR w g o
  cnt : w.cell? ⟨g, 1, none⟩ = some (.int .i64 ((Cr.Tr.lso o).length : Nat))
theorem TC.on {w w' : World} {g : Nat} {o : Option Tk} (h : TC w g o) (hb : Below w.heap.size w w') : TC w' g o := ⟨h.tr.on hb, cell_kept_ hb h.cnt⟩
theorem TC.blk {w : World} {g : Nat} {o : Option Tk} (h : TC w g o) : Blk w g 75 #[.pointer (pt o), .int .i64 ((Cr.Tr.lso o).length : Nat)] := by
  obtain ⟨n, hB⟩ := h.tr.blk
  have h1 := World.news_of_block hB.out 1 (.int .i64 n) rfl
  rw [add_o] at h1
  have := h1.symm.trans h.cnt
  simp only [Option.some.injEq, Value.int.injEq, true_and] at this
  rw [this] at hB
  exact hB
theorem TC.of {w : World} {g : Nat} {o : Option Tk} (h : TR w g o) (hb : Blk w g 75 #[.pointer (pt o), .int .i64 ((Cr.Tr.lso o).length : Nat)]) : TC w g o := ⟨h, by
  have := World.news_of_block hb.out 1 _ rfl
  rwa [add_o] at this⟩
/-- Blocks of trees and of nodes are unlike ones. -/
theorem blk_ne {w : World} {g h : Nat} {s t : TypeId} {cs ds : Array Value} (hg : Blk w g s cs) (hh : Blk w h t ds) (hne : s ≠ t) : g ≠ h := by
  intro e
  subst e
  have := hg.out.symm.trans hh.out
  injection this with this
  injection this with _ e2
  exact hne e2
theorem TR.out {w : World} {g : Nat} {o : Option Tk} (h : TR w g o) : ∀ t, o = some t → g ∉ t.bl := fun t e hg => by
  obtain ⟨cs, hb⟩ := (h.nd t e).lt g hg
  obtain ⟨n, hB⟩ := h.blk
  exact blk_ne hB hb (by decide) rfl
end Go.Proofs.Ytkhjnfplcaffnaa
