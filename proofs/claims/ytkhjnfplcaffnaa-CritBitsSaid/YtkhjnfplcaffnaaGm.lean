/-
  The document's Bytes.
  The law's To and raw: a tag's ten bytes, one by one.
  The document's Text.
-/
import Derived.Test.YtkhjnfplcaffnaaGl
import Derived.Test.YtkhjnfplcaffnaaGf
import Derived.Laws.CopyOwn
set_option linter.unusedVariables false
set_option linter.unusedSimpArgs false
namespace Go.Proofs.Ytkhjnfplcaffnaa
open Go.RowKit
attribute [local go_sem ↓] Go.wp_at_zero Go.wp_at_succ ld_a ld_n st_a st_n eq_a eq_n ne_a ne_n lv_a lv_n lp_3 lp_4
attribute [local go_sem] run_ld_a run_ld_n run_sw_a run_sw_n run_eq_a run_eq_n run_ne_a run_ne_n run_lv_a run_lv_n st_z ne_z rd_new rd_old rd_drew rd_drewN rd_set tn_new tn_old tn_drew tn_drewN setRow_alloc run_lp_3 run_lp_4

theorem wp_app (w : World) {o : Oper} {a : Act} {K : Act → World → Prop} {Q : Exit → Act → World → Prop} (s x : Operand)
    (hop : o.op = .call { callee := .builtin .append, args := #[s, x], argTypes := #[94, 94] })
    {base : Nat} {A B : Option Addr} {n c m d : Nat} {l k : List Nat} (hs : a.eval s = .slice A n c) (ho : Own base w A n c l) (hx : a.eval x = .slice B m d) (hr : Row w B m (bys k)) (h63 : n + m ≤ 1000000)
    (h : ∀ A' c' w', Own base w' A' (n + m) c' (l ++ k) → w.grownBy w' (Value.slice A n c).ownBlock → K (a.put o.dst (.slice A' (n + m) c')) w') : o.wp Try.prog a w K Q := by
  obtain ⟨A', c', w', hrun, h2, h3, h4⟩ := run_app w o.type ho hr h63 (d := d)
  unfold Oper.wp execOp
  simp only [hop, resolve, invoke, builtin, Sem.run_bind, Sem.run_pure, Result.andThen_ok, List.map_toArray, List.map_cons, List.map_nil, hs, hx, hrun]
  exact h A' c' w' h2 h3
theorem cell_keep {w w1 : World} {p : Addr} {v : Value} (hb : Below w.heap.size w w1) (hc : w.cell? p = some v) : w1.cell? p = some v := (hb.cell (World.block_lt_of_cell? w p hc)).trans hc
theorem own_base {b1 b2 n c : Nat} {w : World} {A : Option Addr} {l : List Nat} (h : Own b1 w A n c l) (hb : b2 ≤ b1) : Own b2 w A n c l := by
  refine ⟨⟨h.row.1, ?_⟩, Nat.le_trans hb h.base⟩
  rcases h.row.2 with hz | ⟨g, cap, cur, e, hg, r⟩
  · exact .inl hz
  · exact .inr ⟨g, cap, cur, e, Nat.le_trans hb hg, r⟩
theorem Own.far {base n c : Nat} {w : World} {A : Option Addr} {l : List Nat} (h : Own base w A n c l) {p : Addr} (hp : p.block < base) (u : Value) : Own base (w.setCell p u) A n c l := by
  refine ⟨⟨h.row.1, ?_⟩, by have := h.base; simpa [World.setCell] using this⟩
  rcases h.row.2 with hz | ⟨g, cap, cur, e, hg, hh, r⟩
  · exact .inl hz
  · exact .inr ⟨g, cap, cur, e, hg, (Below.heap_setCell w p u g (by omega)).trans hh, r⟩
theorem below_app {base b n c : Nat} {w0 w w' : World} {A : Option Addr} {l : List Nat} (h : Below base w0 w) (hle : base ≤ w.heap.size) (ho : Own b w A n c l) (hb : base ≤ b) (hg : w.grownBy w' (Value.slice A n c).ownBlock) : Below base w0 w' :=
  h.grown hg hle fun k hk => Nat.le_trans hb (ho.block_le k hk)
theorem below_on {base : Nat} {w0 w w' : World} (h : Below base w0 w) (hle : base ≤ w.heap.size) (hb : Below w.heap.size w w') : Below base w0 w' := h.trans (hb.mono hle)
theorem results_cell1 {fn : Func} {p : Tmp} {ty : TypeId} (h : fn.results = #[.cell p ty]) (tmps : Array Value) (P : Program) (w : World) :
    (results fn tmps).run P w = ((asAddr (tmps.getD p undef)).run P w).andThen fun a w₁ => (loadVar ty a).run P w₁ := by
  simp only [results, h]
  simp [Sem.run_bind, Result.andThen]
theorem lv_of_a {w : World} {a : Addr} {x : D.Tg} (h : rd w a = some x) : (loadVar 38 a).run Try.prog w = .ok (.agg (nc x)) w := (run_lv_a w a).trans (by rw [h]; rfl)
theorem tbl_tb (a b c : ByteArray) : (D.tb ⟨D.ns a, D.ns b, D.ns c⟩).l = D.padn (D.ns a) 3 ++ D.padn (D.ns b) 4 ++ D.padn (D.ns c) 3 := by
  rw [D.tb_l (D.ns_lt a) (D.ns_lt b) (D.ns_lt c), D.tbl, List.append_assoc]
theorem pk_nc {x : D.Tg} : pk x.l 10 10 = nc x := by
  rw [pk_end (.inl x.len.symm) (by rw [x.len]; exact Nat.le_refl _), nc]
  congr 2
  unfold D.padn
  rw [List.take_append_of_le_length (by rw [x.len]; exact Nat.le_refl _), List.take_of_length_le (by rw [x.len]; exact Nat.le_refl _)]
end Go.Proofs.Ytkhjnfplcaffnaa
set_option linter.unusedVariables false
set_option linter.unusedSimpArgs false
namespace Go.Proofs.Ytkhjnfplcaffnaa
open Go.RowKit
attribute [local go_sem ↓] Go.wp_at_zero Go.wp_at_succ ld_a ld_n st_a st_n eq_a eq_n ne_a ne_n lv_a lv_n lp_3 lp_4
attribute [local go_sem] run_ld_a run_ld_n run_sw_a run_sw_n run_eq_a run_eq_n run_ne_a run_ne_n run_lv_a run_lv_n st_z ne_z rd_new rd_old rd_drew rd_drewN rd_set tn_new tn_old tn_drew tn_drewN setRow_alloc run_lp_3 run_lp_4

theorem tg_at (x : D.Tg) {k : Nat} (h : k < 10) : ∃ b, x.l[k]? = some b := ⟨x.l[k]'(by rw [x.len]; exact h), List.getElem?_eq_getElem _⟩
theorem blk_at {w : World} {g : Nat} {t : TypeId} {x : D.Tg} {j b : Nat} (h : Blk w g t (nc x)) (hb : x.l[j]? = some b) : w.cell? ⟨g, j, none⟩ = some (.int .u8 b) := by
  rw [h.c j]
  simp [nc, bys, hb]
/-- One byte more. -/
theorem put_one {w : World} {g : Nat} {t : TypeId} {x : D.Tg} {k b : Nat} (h : Blk w g t (pk x.l k 10)) (hb : x.l[k]? = some b) (hk : k < 10) :
    (∃ v, w.cell? ⟨g, k, none⟩ = some v) ∧ w.frozen? ⟨g, k, none⟩ = false ∧ Blk (w.setCell ⟨g, k, none⟩ (.int .u8 b)) g t (pk x.l (k + 1) 10) := by
  refine ⟨?_, h.f k, ?_⟩
  · rw [h.c]
    exact ⟨_, Array.getElem?_eq_getElem (by rw [pk_size]; omega)⟩
  · have := h.put k (.int .u8 b)
    rwa [pk_next hb hk] at this
theorem lv_of_n {w : World} {a : Addr} {x : D.Tg} (h : rd w a = some x) : (loadVar 28 a).run Try.prog w = .ok (.agg (nc x)) w := (run_lv_n w a).trans (by rw [h]; rfl)
theorem ten_first (x : D.Tg) : pk x.l 0 10 = z10 := rfl
end Go.Proofs.Ytkhjnfplcaffnaa
set_option linter.unusedVariables false
set_option linter.unusedSimpArgs false
namespace Go.Proofs.Ytkhjnfplcaffnaa
open Go.RowKit
attribute [local go_sem ↓] Go.wp_at_zero Go.wp_at_succ

theorem sb_app (l k : List Nat) : D.sb (l ++ k) = D.sb l ++ D.sb k := by
  refine ByteArray.ext ?_
  rw [ByteArray.data_append]
  simp [D.sb]
set_option maxRecDepth 100000 in
set_option maxHeartbeats 1000000 in
theorem ref_text (a b c : ByteArray) (w : World) (ha : a.size ≤ 100) (hb : b.size ≤ 100) (hc : c.size ≤ 100) :
    Calls Try.prog 60 #[.agg #[.string a, .string b, .string c]] w fun e w' => e = .returned (.string (D.sb (D.txt ⟨D.ns a, D.ns b, D.ns c⟩))) ∧ Below w.heap.size w w' := by
  have n0 : ∀ s : ByteArray, D.ns s = [] ↔ s.size = 0 := fun s => by rw [← D.ns_len, List.length_eq_zero_iff]
  have nt : ∀ s : ByteArray, s.size ≠ 0 → s.toList.isEmpty = false := fun s h => by
    rw [ByteArray.toList_eq]
    cases e : s.data.toList with
    | nil => exact absurd (by have := congrArg List.length e; simpa using this) h
    | cons => rfl
  by_cases h1 : a.size = 0
  · have e : D.txt ⟨D.ns a, D.ns b, D.ns c⟩ = D.rootT := by unfold D.txt; rw [if_pos ((n0 a).2 h1)]
    obtain rfl : a = ByteArray.empty := D.ns_inj ((n0 a).2 h1)
    rw [e]
    clear e h1 n0 nt
    go_enter Try.func60, Try.ntmps60
    go_wp2
    go_ret
    exact ⟨rfl, below_alloc_ _ _⟩
  · have e1 : ¬ D.ns a = [] := fun h => h1 ((n0 a).1 h)
    have f1 := nt a h1
    by_cases h2 : b.size = 0 <;> by_cases h3 : c.size = 0
    · obtain rfl : b = ByteArray.empty := D.ns_inj ((n0 b).2 h2)
      obtain rfl : c = ByteArray.empty := D.ns_inj ((n0 c).2 h3)
      have e : D.sb (D.txt ⟨D.ns a, D.ns ByteArray.empty, D.ns ByteArray.empty⟩) = a := by
        unfold D.txt
        simp only [if_neg e1, show D.ns ByteArray.empty = [] from rfl, if_true, List.append_nil]
        rw [D.sb_ns]
      have E := Lib.hid e
      clear e h1 h2 h3 e1 n0 nt
      go_enter Try.func60, Try.ntmps60
      go_wp2
      go_ret
      exact ⟨by rw [E.out]; rfl, below_alloc_ _ _⟩
    · obtain rfl : b = ByteArray.empty := D.ns_inj ((n0 b).2 h2)
      have f3 := nt c h3
      have g3 : (!c.toList.isEmpty) = true := by rw [f3]; rfl
      have e : D.sb (D.txt ⟨D.ns a, D.ns ByteArray.empty, D.ns c⟩) = a ++ ⟨#[45]⟩ ++ c := by
        unfold D.txt
        simp only [if_neg e1, show D.ns ByteArray.empty = [] from rfl, if_true, List.nil_append, if_neg (fun h => h3 ((n0 c).1 h))]
        rw [show (45 : Nat) :: D.ns c = [45] ++ D.ns c from rfl, sb_app, sb_app, D.sb_ns, D.sb_ns, ← ByteArray.append_assoc]
        rfl
      have E := Lib.hid e
      clear e h1 h2 h3 e1 n0 nt
      go_enter Try.func60, Try.ntmps60
      go_wp2
      go_ret
      exact ⟨by rw [E.out]; rfl, below_alloc_ _ _⟩
    · obtain rfl : c = ByteArray.empty := D.ns_inj ((n0 c).2 h3)
      have f2 := nt b h2
      have g2 : (!b.toList.isEmpty) = true := by rw [f2]; rfl
      have e : D.sb (D.txt ⟨D.ns a, D.ns b, D.ns ByteArray.empty⟩) = a ++ ⟨#[45]⟩ ++ b := by
        unfold D.txt
        simp only [if_neg e1, show D.ns ByteArray.empty = [] from rfl, if_true, List.append_nil, if_neg (fun h => h2 ((n0 b).1 h))]
        rw [show (45 : Nat) :: D.ns b = [45] ++ D.ns b from rfl, sb_app, sb_app, D.sb_ns, D.sb_ns, ← ByteArray.append_assoc]
        rfl
      have E := Lib.hid e
      clear e h1 h2 h3 e1 n0 nt
      go_enter Try.func60, Try.ntmps60
      go_wp2
      go_ret
      exact ⟨by rw [E.out]; rfl, below_alloc_ _ _⟩
    · have f2 := nt b h2
      have g2 : (!b.toList.isEmpty) = true := by rw [f2]; rfl
      have f3 := nt c h3
      have g3 : (!c.toList.isEmpty) = true := by rw [f3]; rfl
      have e : D.sb (D.txt ⟨D.ns a, D.ns b, D.ns c⟩) = a ++ ⟨#[45]⟩ ++ b ++ ⟨#[45]⟩ ++ c := by
        unfold D.txt
        simp only [if_neg e1, if_neg (fun h => h2 ((n0 b).1 h)), if_neg (fun h => h3 ((n0 c).1 h))]
        rw [show (45 : Nat) :: D.ns c = [45] ++ D.ns c from rfl, show (45 : Nat) :: D.ns b = [45] ++ D.ns b from rfl, sb_app, sb_app, sb_app, sb_app, D.sb_ns, D.sb_ns, D.sb_ns]
        simp only [ByteArray.append_assoc]
        rfl
      have E := Lib.hid e
      clear e h1 h2 h3 e1 n0 nt
      go_enter Try.func60, Try.ntmps60
      go_wp2
      go_ret
      exact ⟨by rw [E.out]; rfl, below_alloc_ _ _⟩
end Go.Proofs.Ytkhjnfplcaffnaa
