/-
  What every law of digits leans on: a world that has only grown since a beginning, the contracts in these words, and the chapter's examples.
-/
import Derived.Test.YtkjnaflifepncaaReadS
import Derived.Test.YtkjnaflifepncaaPut
import Derived.Test.YtkjnaflifepncaaRefMake
import Derived.OpenShut
set_option linter.unusedVariables false
set_option linter.unusedSimpArgs false
namespace Go.Proofs.Ytkjnaflifepncaa
open Go.RowKit

/-- Of what was there at the beginning nothing has turned. -/
structure From (w0 w : World) : Prop where
  below : Below w0.heap.size w0 w
theorem from_self (w : World) : From w w := ⟨Below.refl _ _⟩
theorem From.alloc {w0 w : World} (h : From w0 w) (o : Obj) : From w0 (w.alloc o) := ⟨h.below.alloc h.below.size o⟩
theorem From.drewN {w0 w : World} (h : From w0 w) (n : Nat) : From w0 (w.drewN n) := ⟨below_drewN h.below n⟩
theorem From.on {w0 w w' : World} (h : From w0 w) (hb : Below w.heap.size w w') : From w0 w' := ⟨h.below.trans (hb.mono h.below.size)⟩
theorem Row.since {w0 w : World} {A : Option Addr} {n : Nat} {xs : List Value} (h : Row w0 A n xs) (hf : From w0 w) : Row w A n xs := h.on hf.below

/-- The answer of a call that makes a slice: the bytes l. -/
def Gave (w0 w : World) (l : List Nat) (n : Nat) (e : Ending) (w' : World) : Prop := ∃ A c, e = .returned (.slice A n c) ∧ n ≤ c ∧ c ≤ maxLen ∧ Row w' A n (bys l) ∧ From w0 w' ∧ Below w.heap.size w w'
theorem on_made {P : Program} {f : FuncId} {args : Array Value} {w0 w : World} {l : List Nat} {n : Nat} (hn : Kept (l.length = n)) (h : From w0 w) (c : Calls P f args w (Made w l)) : Calls P f args w (Gave w0 w l n) := by
  rw [← hn.out]
  exact c.mono fun _ _ ⟨A, c, he, ho, hb⟩ => ⟨A, c, he, ho.cap.1, ho.cap.2, ho.to_row, h.on hb, hb⟩
theorem on {P : Program} {f : FuncId} {args : Array Value} {w0 w : World} {v : Value} (h : From w0 w) (c : Calls P f args w fun e w' => e = .returned v ∧ Below w.heap.size w w') :
    Calls P f args w fun e w' => e = .returned v ∧ From w0 w' := c.mono fun _ _ ⟨he, hb⟩ => ⟨he, h.on hb⟩

theorem lit_row (w : World) (cs : Array Value) (t : TypeId) (n H : Nat) (xs : List Value) (h : cs.toList = xs) (hn : xs.length = n) (hH : w.heap.size = H) : Row (w.alloc (.cells cs t)) (some ⟨H, 0, none⟩) n xs := by
  subst h hH
  exact ⟨hn, fun _ => ⟨_, rfl, by simp, World.news_of_block (heap_alloc_new w _)⟩⟩

section
variable (A : Option Addr) (n c : Nat) (l : List Nat) (x k e : Nat) (w : World)
theorem read_small_is (ha : Row w A n (bys l)) (hl : Kept (∀ b ∈ l, b < 256)) (hn : n ≤ 1000000) (hr : Kept (D.readS l = (x, k, e))) :
    Calls Try.prog 19 #[.slice A n c] w fun e' w' => e' = .returned (.tuple #[.int .u64 x, .int .i64 k, .int .i64 e]) ∧ w = w' := read_small A n c l x k e w ha hl hn hr
theorem ref_read_small_is (ha : Row w A n (bys l)) (hl : Kept (∀ b ∈ l, b < 256)) (hn : n ≤ 1000000) (hr : Kept (D.readS l = (x, k, e))) :
    Calls Try.prog 20 #[.slice A n c] w fun e' w' => e' = .returned (.tuple #[.int .u64 x, .int .i64 k, .int .i64 e]) ∧ w = w' := ref_read_small A n c l x k e w ha hl hn hr
theorem read_ordered_is (ha : Row w A n (bys l)) (hl : Kept (∀ b ∈ l, b < 256)) (hnc : n ≤ c) (hc : c ≤ maxLen) (hr : Kept (D.readO l = (x, k, e))) :
    Calls Try.prog 17 #[.slice A n c] w fun e' w' => e' = .returned (.tuple #[.int .u64 x, .int .i64 k, .int .i64 e]) ∧ ∃ q, w' = w.drewN q := read_ordered A n c l x k e w ha hl hnc hc hr
theorem ref_read_ordered_is (ha : Row w A n (bys l)) (hl : Kept (∀ b ∈ l, b < 256)) (hnc : n ≤ c) (hc : c ≤ maxLen) (hr : Kept (D.readO l = (x, k, e))) :
    Calls Try.prog 18 #[.slice A n c] w fun e' w' => e' = .returned (.tuple #[.int .u64 x, .int .i64 k, .int .i64 e]) ∧ w = w' := ref_read_ordered A n c l x k e w ha hl hnc hc hr
end

theorem od_small {b : Nat} (h0 : b ≠ 0) (h : b < 256) : D.od b = [b] := by rw [D.od_pos h0, Nat.div_eq_of_lt h, D.od_zero, Nat.mod_eq_of_lt h]; rfl
theorem kn1 : D.rowO [0, 256] = [0, 2, 1, 0] := by
  rw [D.rowO_cons, D.rowO_cons, D.rowO_nil, D.ordd, D.ordd, D.od_zero, D.od_pos (n := 256) (by decide), show 256 / 256 = 1 by rfl, od_small (by decide) (by decide)]; rfl
theorem kn2 : D.rowS [300] = [172, 2] := by
  rw [D.rowS_cons, D.rowS_nil, D.sm_more (by decide), show 300 / 128 = 2 by rfl, D.sm_last (by decide)]; rfl
theorem small64 : ∀ x ∈ ([0, 256] : List Nat), x < 18446744073709551616 := by decide
theorem small64' : ∀ x ∈ ([300] : List Nat), x < 18446744073709551616 := by decide

set_option maxRecDepth 20000 in
set_option maxHeartbeats 1000000 in
theorem known_any (w : World) : Calls Try.prog 12 #[] w fun e w' => e = .returned (.bool true) ∧ Below w.heap.size w w' := by
  have hz := from_self w
  have cRS := Lib.hid (fun A c W h => read_small_is A 2 c [128, 0] 0 0 3 W h ⟨by decide⟩ (by omega) ⟨by rfl⟩)
  have cRO := Lib.hid (fun A W h => read_ordered_is A 3 3 [2, 0, 1] 0 0 3 W h ⟨by decide⟩ (by omega) (by simp [maxLen]) ⟨by rfl⟩)
  have cO := Lib.hid (fun A c W h => ordered_any A 2 c [0, 256] W h ⟨small64⟩ (by omega))
  have cS := Lib.hid (fun A c W h => small_any A 1 c [300] W h ⟨small64'⟩ (by omega))
  rw [kn1] at cO
  rw [kn2] at cS
  have cE1 := Lib.hid (fun A B c d W h1 h2 => same_any A B 4 c 4 d [0, 2, 1, 0] [0, 2, 1, 0] true W h1 h2 (by omega) (by omega) ⟨D.same_self _⟩)
  have cE2 := Lib.hid (fun A B c d W h1 h2 => same_any A B 2 c 2 d [172, 2] [172, 2] true W h1 h2 (by omega) (by omega) ⟨D.same_self _⟩)
  have cC := Lib.hid (fun A B c d W h1 h2 => compare_any A B 1 c 2 d [1] [1, 0] (-1) W h1 h2 ⟨by decide⟩ ⟨by decide⟩ ⟨by rfl⟩)
  go_enter Try.func12, Try.ntmps12
  go_wp2_with (first
    | (go_at_call 19; (with_reducible refine (cRS.out _ _ _ ?_).mono ?_); (exact lit_row _ _ _ _ _ _ (by rfl) (by rfl) (by simp)); rintro e w1 ⟨rfl, rfl⟩)
    | (go_at_call 17; (with_reducible refine (cRO.out _ _ ?_).mono ?_); (exact lit_row _ _ _ _ _ _ (by rfl) (by rfl) (by simp)); rintro e w2 ⟨rfl, q, rfl⟩)
    | (go_at_call 14; (with_reducible refine (on_made (n := 4) ⟨rfl⟩ ((((hz.alloc _).alloc _).drewN _).alloc _) (cO.out _ _ _ ?_)).mono ?_); (exact lit_row _ _ _ _ _ _ (by rfl) (by rfl) (by simp)); rintro e w3 ⟨A3, c3, rfl, h31, h32, r3, hz3, hb3⟩)
    | (go_at_call 13; (with_reducible refine (cE1.out _ _ _ _ _ (r3.alloc _) ?_).mono ?_); (exact lit_row _ _ _ _ _ _ (by rfl) (by rfl) (by simp)); rintro e w4 ⟨rfl, q4, rfl⟩)
    | (go_at_call 16; (with_reducible refine (on_made (n := 2) ⟨rfl⟩ (((hz3.alloc _).drewN _).alloc _) (cS.out _ _ _ ?_)).mono ?_); (exact lit_row _ _ _ _ _ _ (by rfl) (by rfl) (by simp)); rintro e w5 ⟨A5, c5, rfl, h51, h52, r5, hz5, hb5⟩)
    | (go_at_call 13; (with_reducible refine (cE2.out _ _ _ _ _ (r5.alloc _) ?_).mono ?_); (exact lit_row _ _ _ _ _ _ (by rfl) (by rfl) (by simp)); rintro e w6 ⟨rfl, q6, rfl⟩)
    | (go_at_call 21; (with_reducible refine (cC.out _ _ _ _ _ ?_ ?_).mono ?_); (exact (lit_row _ _ _ _ _ _ (by rfl) (by rfl) (by simp)).alloc _); (exact lit_row _ _ _ _ _ _ (by rfl) (by rfl) (by simp)); rintro e w7 ⟨rfl, rfl⟩))
  go_ret
  exact ⟨rfl, ((((hz5.alloc _).drewN _).alloc _).alloc _).below⟩

/-- A slice of numbers that came in, as the row's own text has it. -/
def IsRow (k : IntKind) (w : World) (a : Option Addr) (len cap : Nat) (zs : List Int) : Prop :=
  (a = none ∧ len = 0 ∧ cap = 0 ∧ zs = []) ∨
  ∃ x, a = some x ∧ len ≤ cap ∧ cap ≤ maxLen ∧ zs.length = cap ∧ (∀ i, i < zs.length → w.cell? (x.add i) = some (.int k (zs.getD i 0))) ∧ ∀ n ∈ zs, (Lit.int k n).wf = true
theorem IsRow.list {k : IntKind} {w : World} {a : Option Addr} {len cap : Nat} {zs : List Int} (h : IsRow k w a len cap zs) (hk : ∀ z, (Lit.int k z).wf = true → 0 ≤ z) :
    ∃ l : List Nat, Row w a len (l.map fun (b : Nat) => .int k (b : Int)) ∧ (∀ b ∈ l, (Lit.int k (b : Int)).wf = true) ∧ len ≤ cap ∧ cap ≤ maxLen := by
  rcases h with ⟨rfl, rfl, rfl, rfl⟩ | ⟨x, rfl, h1, h2, h3, h4, h5⟩
  · exact ⟨[], ⟨rfl, fun h => absurd h (by omega)⟩, by simp, Nat.le_refl _, by simp [maxLen]⟩
  · refine ⟨(zs.take len).map Int.toNat, ⟨by simp; omega, fun hn => ?_⟩, ?_, h1, h2⟩
    · have hc : ∀ j u, ((((zs.take len).map Int.toNat).map fun (b : Nat) => Value.int k (b : Int))[j]? = some u → w.cell? (x.add j) = some u) := by
        intro j u hu
        rw [List.getElem?_map, List.getElem?_map, List.getElem?_take] at hu
        split at hu
        · cases hz : zs[j]? with
          | none => rw [hz] at hu; simp at hu
          | some z =>
            rw [hz] at hu
            simp at hu
            subst hu
            have hj := (List.getElem?_eq_some_iff.1 hz).1
            rw [h4 j hj, List.getD_eq_getElem?_getD, hz]
            have := hk z (h5 z (List.mem_of_getElem? hz))
            simp only [Option.getD_some]
            rw [show max z 0 = z by omega]
        · cases hu
      refine ⟨x, rfl, ?_, hc⟩
      have := World.block_lt_of_cell? w _ (h4 0 (by omega))
      rwa [block_of_add] at this
    · intro b hb
      obtain ⟨z, hz, rfl⟩ := List.mem_map.1 hb
      have hw := h5 z (List.mem_of_mem_take hz)
      rwa [Int.toNat_of_nonneg (hk z hw)]
theorem IsRow.bytes {w : World} {a : Option Addr} {len cap : Nat} {zs : List Int} (h : IsRow .u8 w a len cap zs) : ∃ l : List Nat, Row w a len (bys l) ∧ Kept (∀ b ∈ l, b < 256) ∧ len ≤ cap ∧ cap ≤ maxLen := by
  obtain ⟨l, h1, h2, h3, h4⟩ := h.list fun z hz => (bounds_u8 hz).1
  exact ⟨l, h1, ⟨fun b hb => by have := bounds_u8 (h2 b hb); omega⟩, h3, h4⟩
theorem IsRow.words {w : World} {a : Option Addr} {len cap : Nat} {zs : List Int} (h : IsRow .u64 w a len cap zs) : ∃ l : List Nat, Row w a len (wds l) ∧ Kept (∀ b ∈ l, b < 18446744073709551616) ∧ len ≤ cap ∧ cap ≤ maxLen := by
  obtain ⟨l, h1, h2, h3, h4⟩ := h.list fun z hz => (bounds_u64 hz).1
  exact ⟨l, h1, ⟨fun b hb => by have := bounds_u64 (h2 b hb); omega⟩, h3, h4⟩
end Go.Proofs.Ytkjnaflifepncaa
