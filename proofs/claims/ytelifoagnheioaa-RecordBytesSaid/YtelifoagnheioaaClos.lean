/-
  What the closures of the writer's calls bring: bytes, or an error.
-/
import Derived.Test.YtelifoagnheioaaHigh
import Derived.Lib.AppendStr
set_option linter.unusedVariables false
set_option maxRecDepth 100000
set_option linter.unusedSimpArgs false
namespace Go.Proofs.Ytelifoagnheioaa
open Go.RowKit
attribute [local go_sem ↓] Go.wp_at_zero Go.wp_at_succ

/-- A closure brings these bytes, or this error. -/
def Brought (k : List Nat) (r : Nat) (w : World) (e : Ending) (w' : World) : Prop := ∃ B m d, e = .returned (.tuple #[.slice B m d, .int .i64 r]) ∧ Row w' B m (bys k) ∧ Below w.heap.size w w'
theorem brought {k : List Nat} {r : Nat} {w w' : World} {B : Option Addr} {m d : Nat} (hr : Row w' B m (bys k)) (hb : Below w.heap.size w w') : Brought k r w (.returned (.tuple #[.slice B m d, .int .i64 r])) w' := ⟨B, m, d, rfl, hr, hb⟩

theorem byte_cl (x g : Nat) (w : World) (hc : w.cell? ⟨g, 0, none⟩ = some (.int .u8 x)) :
    Calls Try.prog 47 #[.pointer (some ⟨g, 0, none⟩)] w (Brought [x] 0 w) := by
  have HR := (Own.lit (base := w.heap.size) (w := w) (z := x) (b := x) (Nat.le_refl _) rfl).to_row
  go_enter Try.func47, Try.ntmps47
  go_wp2
  go_ret2
  exact brought HR ((Below.refl _ _).alloc (Nat.le_refl _) _)

theorem rowS_one (x : Nat) : D.rowS [x] = D.sm x := by rw [D.rowS_cons, D.rowS_nil, List.append_nil]
theorem lit_row' (w : World) (x H : Nat) (z : Int) (hz : z = x) (hH : w.heap.size = H) : Row (w.alloc (.cells #[.int .u64 z] 26)) (some ⟨H, 0, none⟩) 1 (wds [x]) := by
  subst hz hH
  exact ⟨rfl, fun _ => ⟨_, rfl, by simp, World.news_of_block (heap_alloc_new w _)⟩⟩
theorem number_cl (x g : Nat) (w : World) (hx : x < 18446744073709551616) (hc : w.cell? ⟨g, 0, none⟩ = some (.int .u64 x)) :
    Calls Try.prog 55 #[.pointer (some ⟨g, 0, none⟩)] w (Brought (D.sm x) 0 w) := by
  have cH := Lib.hid (fun A c W h => small_any A 1 c [x] W h ⟨by intro y hy; have := List.mem_singleton.1 hy; omega⟩ (by omega))
  rw [rowS_one] at cH
  go_enter Try.func55, Try.ntmps55
  go_wp2_with (go_at_call 56; (with_reducible refine (cH.out _ _ _ (lit_row' _ _ _ _ rfl rfl)).mono ?_); rintro e w1 ⟨A1, c1, rfl, ho1, hb1⟩)
  go_ret2
  exact brought ho1.to_row (((Below.refl _ _).alloc (Nat.le_refl _) _).trans (hb1.mono (by simp)))

/-- append of a text's bytes. -/
theorem strCells_ns (s : ByteArray) : Lib.strCells s = bys (D.ns s) := by simp [Lib.strCells, bys, D.ns]
theorem run_app_str (w : World) {base : Nat} {A : Option Addr} {n c : Nat} {l : List Nat} (ty : TypeId) (s : ByteArray) (ho : Own base w A n c l) (h63 : n + s.size ≤ 1000000) :
    ∃ A' c' w', (Builtin.append_ #[23, 9] ty #[.slice A n c, .string s]).run Try.prog w = .ok (.slice A' (n + s.size) c') w' ∧
      Own base w' A' (n + s.size) c' (l ++ D.ns s) ∧ w.grownBy w' (Value.slice A n c).ownBlock := by
  obtain ⟨i, hi, hz0, hz1, hz2⟩ := info_parts u8_info
  obtain ⟨v', w', hrun, h2, h3, _⟩ := Lib.run_append_own_string (P := Try.prog) w base 23 9 ty 5 i Try.underlying23 Try.underlying9 hi hz0 hz1 hz2 _ n (bys l) ho.row s (by simp only [maxLen]; omega) (by omega) ho.base
  have hs : ∃ A' c', v' = .slice A' (n + s.size) c' := by
    rcases h2.2 with ⟨rfl, h0⟩ | ⟨g, cap, _, rfl, _⟩
    · exact ⟨none, 0, by rw [h0]⟩
    · exact ⟨_, _, rfl⟩
  obtain ⟨A', c', rfl⟩ := hs
  exact ⟨A', c', w', hrun, ⟨by rw [bys_app, ← strCells_ns]; exact h2, Nat.le_trans ho.base h3.size⟩, h3⟩

theorem wp_app_str (w : World) {o : Oper} {a : Act} {K : Act → World → Prop} {Q : Exit → Act → World → Prop} (s x : Operand)
    (hop : o.op = .call { callee := .builtin .append, args := #[s, x], argTypes := #[23, 9] })
    {base : Nat} {A : Option Addr} {n c : Nat} {l : List Nat} {t : ByteArray} (hs : a.eval s = .slice A n c) (ho : Own base w A n c l) (hx : a.eval x = .string t) (h63 : n + t.size ≤ 1000000)
    (h : ∀ A' c' w', Own base w' A' (n + t.size) c' (l ++ D.ns t) → w.grownBy w' (Value.slice A n c).ownBlock → K (a.put o.dst (.slice A' (n + t.size) c')) w') : o.wp Try.prog a w K Q := by
  obtain ⟨A', c', w', hrun, h2, h3⟩ := run_app_str w o.type t ho h63
  unfold Oper.wp execOp
  simp only [hop, resolve, invoke, builtin, Sem.run_bind, Sem.run_pure, Result.andThen_ok, List.map_toArray, List.map_cons, List.map_nil, hs, hx, hrun]
  exact h A' c' w' h2 h3
theorem cell_keep {w w1 : World} {p : Addr} {v : Value} (hb : Below w.heap.size w w1) (hc : w.cell? p = some v) : w1.cell? p = some v := (hb.cell (World.block_lt_of_cell? w p hc)).trans hc
theorem text_len {s : ByteArray} (h : s.size ≤ 1000) : (D.sm s.size).length ≤ 10 := D.sm_len10 (by omega)
theorem after_alloc {w w1 : World} {o : Obj} {p : Addr} {v : Value} (hc : w.cell? p = some v) (hb : Below (w.alloc o).drew.heap.size (w.alloc o).drew w1) : w1.cell? p = some v :=
  cell_keep hb ((World.cell?_alloc_lt w o p (World.block_lt_of_cell? w p hc)).trans hc)
theorem grown_keep {w0 w w' : World} {o : Obj} {n c : Nat} {A : Option Addr} {l : List Nat} {p : Addr} {v u : Value} (ho : Own (w0.alloc o).drew.heap.size w A n c l) (hg : w.grownBy w' (Value.slice A n c).ownBlock) (hc0 : w0.cell? p = some u) (hc : w.cell? p = some v) : w'.cell? p = some v := by
  have h1 := World.block_lt_of_cell? w0 p hc0
  have h2 := ho.base
  refine (hg.cell_far p (World.block_lt_of_cell? w p hc) fun e => ?_).trans hc
  have := ho.block_le _ e.symm
  simp at this
  omega
theorem below_alloc_grown {w w1 w2 : World} {o : Obj} {A : Option Addr} {n c : Nat} {l : List Nat} (hb : Below (w.alloc o).drew.heap.size (w.alloc o).drew w1) (ho : Own (w.alloc o).drew.heap.size w1 A n c l) (hg : w1.grownBy w2 (Value.slice A n c).ownBlock) : Below w.heap.size w w2 :=
  (((Below.refl _ _).alloc (Nat.le_refl _) o).drew.trans (hb.mono (by simp))).grown hg (by have := hb.size; simp at this; omega) fun k hk => by have := ho.block_le k hk; simp at this; omega
set_option maxHeartbeats 1000000 in
theorem text_cl (s : ByteArray) (g : Nat) (w : World) (hs : s.size ≤ 1000) (hc : w.cell? ⟨g, 0, none⟩ = some (.string s)) :
    Calls Try.prog 57 #[.pointer (some ⟨g, 0, none⟩)] w (Brought (D.sm s.size ++ D.ns s) 0 w) := by
  have cH := Lib.hid (fun A c W h => small_any A 1 c [s.size] W h ⟨by intro y hy; have := List.mem_singleton.1 hy; omega⟩ (by omega))
  rw [rowS_one] at cH
  have hl := text_len hs
  have hw : IntKind.u64.wrap (s.size : Int) = s.size := by rw [IntKind.wrap_u64]; omega
  go_enter Try.func57, Try.ntmps57
  go_wp2_with fail
  go_region_held3 (fun W => W.cell? ⟨g, 0, none⟩ = some (.string s)) (go_keep) (first
    | (go_at_call 56; (with_reducible refine (cH.out _ _ _ ((lit_row' _ _ _ _ rfl rfl).drew)).mono ?_); rintro e w1 ⟨A1, c1, rfl, ho1, hb1⟩; have hc1 := after_alloc hc hb1)
    | (refine wp_app_str _ (.tmp 7) (.tmp 8) (by rfl) (by rfl) ho1 (by rfl) (by omega) ?_; intro A2 c2 w2 ho2 hg2; have hc2 := grown_keep ho1 hg2 hc hc1))
  all_goals
    go_wp2
    go_ret2
    exact brought ho2.to_row (below_alloc_grown hb1 ho1 hg2)
end Go.Proofs.Ytelifoagnheioaa
