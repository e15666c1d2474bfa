/-
  Regions that draw their order and only read, whose calls may lay blocks; the chapter's example.
-/
import Derived.Test.YtgbnaammphilhaaDoorChn
import Derived.OpenShut
set_option linter.unusedVariables false
set_option linter.unusedSimpArgs false
namespace Go.Proofs.YtgbnaammphilhaaDoor
open Go.RowKit
attribute [local go_sem ↓] Go.wp_at_zero Go.wp_at_succ ld_a ld_n st_a st_n eq_a eq_n ne_a ne_n bsl_n lv_a lv_n lp_3 lp_4
attribute [local go_sem] run_ld_a run_ld_n run_sw_a run_sw_n run_eq_a run_eq_n run_ne_a run_ne_n run_bsl1_n run_lv_a run_lv_n st_z ne_z eq_z rd_new rd_old rd_drew rd_drewN rd_set tn_new tn_old tn_drew tn_drewN setRow_alloc run_lp_3 run_lp_4


/-- How far on a world is: its draws, and its new blocks. -/
structure On where
  n : Nat
  os : Array Obj
  deriving Inhabited
def ext (w : World) (p : On) : World := { w with heap := w.heap ++ p.os, drawn := p.n }
theorem ext_heap (w : World) (p : On) {k : Nat} (h : k < w.heap.size) : (ext w p).heap[k]? = w.heap[k]? := by simp [ext, Array.getElem?_append, h]
theorem ext_size (w : World) (p : On) : w.heap.size ≤ (ext w p).heap.size := by simp [ext]
theorem ext_below (w : World) (p : On) : Below w.heap.size w (ext w p) := ⟨rfl, rfl, rfl, ext_size w p, fun k hk => ext_heap w p hk⟩
theorem ext_of {w w' : World} (h : Below w.heap.size w w') : ∃ p, w' = ext w p := by
  obtain ⟨heap, tape, drawn, os, output⟩ := w
  obtain ⟨heap', tape', drawn', os', output'⟩ := w'
  obtain ⟨h1, h2, h3, h4, h5⟩ := h
  simp only at h1 h2 h3 h4 h5
  subst h1 h2 h3
  refine ⟨⟨drawn', heap'.extract heap.size heap'.size⟩, ?_⟩
  simp only [ext]
  congr 1
  apply Array.ext_getElem?
  intro i
  rw [Array.getElem?_append]
  by_cases hi : i < heap.size
  · rw [if_pos hi]; exact h5 i hi
  · rw [if_neg hi, Array.getElem?_extract]
    split
    · congr 1; omega
    · rw [Array.getElem?_eq_none (by omega)]
theorem ext_to {w w' : World} (h : ∃ p, w' = ext w p) : Below w.heap.size w w' := by
  obtain ⟨p, rfl⟩ := h
  exact ext_below w p
theorem wp_region_ext {P : Program} {id : Nat} {Q : Exit → Act → World → Prop} {a : Act} {w : World} {l : List Oper} (hm : P.follows .mixedOrders = true) (hB : Region.lexB .any l.toArray = true)
    (h : wpQuiet P l.toArray (fun w' => ∃ p : On, w' = ext w p) (fun a' => ∀ w', (∃ p : On, w' = ext w p) → Q .normal a' w') l a) : (Code.region id l.toArray true).wp P Q a w :=
  wp_region_quiet (C := fun w' => ∃ p : On, w' = ext w p) hm hB ⟨⟨w.drawn + 1, #[]⟩, by simp [ext]⟩ (by simpa using h)
theorem calls_ext {P : Program} {f : FuncId} {args : Array Value} {w : World} {p : On} {v : Value}
    (h : Calls P f args (ext w p) fun e w' => e = .returned v ∧ Below (ext w p).heap.size (ext w p) w') : Calls P f args (ext w p) fun e w'' => e = .returned v ∧ ∃ p : On, w'' = ext w p :=
  h.mono fun _ _ ⟨he, hb⟩ => ⟨he, ext_of ((ext_below w p).trans (hb.mono (ext_size w p)))⟩
theorem calls_same {P : Program} {f : FuncId} {args : Array Value} {w : World} {p : On} {v : Value}
    (h : Calls P f args (ext w p) fun e w' => e = .returned v ∧ ext w p = w') : Calls P f args (ext w p) fun e w'' => e = .returned v ∧ ∃ p : On, w'' = ext w p :=
  h.mono fun _ _ ⟨he, hb⟩ => ⟨he, p, hb.symm⟩
theorem rd_ext (w : World) (p : On) (a : Addr) (h : a.block < w.heap.size) : rd (ext w p) a = rd w a := rd_to (ext_heap w p h)
theorem cell_ext (w : World) (p : On) (a : Addr) (h : a.block < w.heap.size) : (ext w p).cell? a = w.cell? a := World.cell?_of_block (ext_heap w p h)
theorem nrow_ext {w : World} {A : Option Addr} {n : Nat} {l : List D.Tg} (h : NRow w A n l) (p : On) : NRow (ext w p) A n l := h.on (ext_below w p)

/-- Of what was there at the beginning nothing has turned. -/
structure From (w0 w : World) : Prop where
  below : Below w0.heap.size w0 w
theorem from_self (w : World) : From w w := ⟨Below.refl _ _⟩
theorem From.alloc {w0 w : World} (h : From w0 w) (o : Obj) : From w0 (w.alloc o) := ⟨h.below.alloc h.below.size o⟩
theorem From.drewN {w0 w : World} (h : From w0 w) (n : Nat) : From w0 (w.drewN n) := ⟨below_drewN h.below n⟩
theorem From.on {w0 w w' : World} (h : From w0 w) (hb : Below w.heap.size w w') : From w0 w' := ⟨h.below.trans (hb.mono h.below.size)⟩
theorem From.rd {w0 w : World} {a : Addr} {x : D.Tg} (h : From w0 w) (hr : rd w0 a = some x) : rd w a = some x := rd_on hr h.below
theorem From.lt {w0 w : World} (h : From w0 w) {n : Nat} (hn : n < w0.heap.size) : n < w.heap.size := Nat.lt_of_lt_of_le hn h.below.size


abbrev zhl : ByteArray := ⟨#[90, 72, 45, 104, 97, 110, 116, 45, 116, 119]⟩
abbrev deb : ByteArray := ⟨#[100, 101, 45, 49, 57, 57, 54]⟩
abbrev zhk : ByteArray := ⟨#[122, 104, 45, 72, 97, 110, 116, 45, 84, 87]⟩
def zhp : D.Pt := ⟨[122, 104], [72, 97, 110, 116], [84, 87]⟩
theorem k_parse : D.parse (D.ns zhl) = some zhp := by kernel_rfl
theorem k_no : D.parse (D.ns deb) = none := by kernel_rfl
theorem k_text : D.sb (D.tx (D.tb zhp)) = zhk := by kernel_rfl
theorem k_chain : (D.cht (D.tb zhp)).length = 4 := by kernel_rfl
set_option maxRecDepth 100000 in
set_option maxHeartbeats 1000000 in
theorem known_any (w : World) : Calls Tryd.prog 9 #[] w fun e w' => e = .returned (.bool true) ∧ Below w.heap.size w w' := by
  have cA := fun w => tag_parse zhl w (by decide)
  have cB := fun w => tag_parse deb w (by decide)
  have cT := text_any (D.tb zhp)
  have cC := chain_any (D.tb zhp)
  rw [k_text] at cT
  simp only [k_chain] at cC
  simp only [k_parse, Option.getD_some] at cA
  simp only [k_no, Option.getD_none] at cB
  have cA := fun w : World => (show Calls Tryd.prog 8 #[.string zhl] w fun e w' => e = .returned (.tuple #[.agg (nc (D.tb zhp)), .int .i64 0]) ∧ Below w.heap.size w w' from cA w)
  have cB := fun w : World => (show Calls Tryd.prog 8 #[.string deb] w fun e w' => e = .returned (.tuple #[.agg (nc D.zero), .int .i64 14]) ∧ Below w.heap.size w w' from cB w)
  obtain ⟨x, hx⟩ : ∃ x, D.tb zhp = x := ⟨_, rfl⟩
  rw [hx] at cA cT cC
  have CA := Lib.hid cA
  have CB := Lib.hid cB
  have CT := Lib.hid cT
  have CC := Lib.hid cC
  clear hx cA cB cT cC
  have z0 := from_self w
  go_enter Tryd.func9, Tryd.ntmps9
  go_wp2_with (first
    | (go_at_call 8; (with_reducible refine (CA.out _).mono ?_); rintro e w1 ⟨rfl, b1⟩; have z1 := z0.on b1; have f1 := rd_new w1 _ 29 x rfl)
    | (go_at_call 8; (with_reducible refine (CB.out _).mono ?_); rintro e w2 ⟨rfl, b2⟩; have z2 := (z1.alloc _).on b2; have f2 := rd_on f1 b2; have s2 := (From.mk b2).lt (show w1.heap.size < _ by simp))
    | (go_at_call 11; (with_reducible refine (CT.out _).mono ?_); rintro e w4 ⟨rfl, b4⟩; have z4 := (z2.alloc _).on b4; have f4 := rd_on f2 ((below_alloc_ _ _).trans (b4.mono (by simp))); have s4 := (((from_self w2).alloc _).on b4).lt s2)
    | (go_at_call 19; (with_reducible refine (CC.out _).mono ?_); rintro e w5 ⟨A, c, rfl, ho, b5⟩; have z5 := z4.on b5))
  go_ret
  exact ⟨rfl, z5.below⟩
end Go.Proofs.YtgbnaammphilhaaDoor
