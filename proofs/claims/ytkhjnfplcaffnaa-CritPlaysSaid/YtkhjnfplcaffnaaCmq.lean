/-
  bytes.Compare.
-/
import Derived.Test.YtkhjnfplcaffnaaByt
import Derived.Lib.BytesEntry
import Derived.Lib.IndexLaws
import Derived.Laws.BytesString
import Derived.Lib.BufferRead
set_option linter.unusedVariables false
set_option linter.unusedSimpArgs false
set_option maxRecDepth 100000
namespace Go.Proofs.Ytkhjnfplcaffnaa
open Go.RowKit
attribute [local go_sem ↓] Go.wp_at_zero Go.wp_at_succ

def D.cmp : List Nat → List Nat → Int
  | [], [] => 0
  | [], _ :: _ => -1
  | _ :: _, [] => 1
  | x :: a, y :: b => if x = y then D.cmp a b else if x < y then -1 else 1
theorem bytesOf_any (P : Program) (w : World) (A : Option Addr) (n c : Nat) (l : List Nat) (h : Row w A n (bys l)) :
    (Extern.Bytes.bytesOf (.slice A n c)).run P w = .ok ⟨(l.map fun b => UInt8.ofNat b).toArray⟩ w := by
  have hl := h.len
  rw [bys_len] at hl
  rcases A with _ | ad
  · have : l = [] := by
      rcases Nat.eq_zero_or_pos n with h0 | h0
      · exact List.eq_nil_of_length_eq_zero (by omega)
      · obtain ⟨ad, e, _⟩ := h.tow h0
        cases e
    subst this
    rfl
  · have hc : ∀ j x, (l.map fun b : Nat => (b : Int))[j]? = some x → w.cell? (ad.add j) = some (.int .u8 x) := by
      intro j x hj
      rw [List.getElem?_map] at hj
      cases hq : l[j]? with
      | none => rw [hq] at hj; simp at hj
      | some b =>
        rw [hq] at hj
        simp at hj
        subst hj
        obtain ⟨ad', e, hc⟩ := h.cell (bys_at hq)
        injection e with e
        subst e
        exact hc
    have hr := Lib.run_loadBytesX (P := P) w (l.map fun b : Nat => (b : Int)) ad .empty hc
    rw [List.length_map, hl] at hr
    change (Extern.Bytes.loadBytes ad n .empty).run P w = _
    rw [hr]
    congr 1
    apply ByteArray.ext
    simp [Lib.bytesOf]
theorem compareBytes_any : ∀ l k : List Nat, (∀ b ∈ l, b < 256) → (∀ b ∈ k, b < 256) → Lib.compareBytes (l.map fun b => UInt8.ofNat b) (k.map fun b => UInt8.ofNat b) = D.cmp l k
  | [], [], _, _ => rfl
  | [], _ :: _, _, _ => rfl
  | _ :: _, [], _, _ => rfl
  | x :: l, y :: k, hl, hk => by
    have hx := hl x (List.mem_cons_self ..)
    have hy := hk y (List.mem_cons_self ..)
    have ih := compareBytes_any l k (fun b hb => hl b (List.mem_cons_of_mem _ hb)) (fun b hb => hk b (List.mem_cons_of_mem _ hb))
    have lt : ∀ a b : Nat, a < 256 → b < 256 → (UInt8.ofNat a < UInt8.ofNat b ↔ a < b) := fun a b h1 h2 => by
      rw [UInt8.lt_iff_toNat_lt]; simp; omega
    rw [List.map_cons, List.map_cons, Lib.compareBytes, D.cmp, ih]
    by_cases e : x = y
    · subst e; simp
    · rw [if_neg e]
      by_cases e2 : x < y
      · rw [if_pos e2, if_pos ((lt x y hx hy).2 e2)]
      · rw [if_neg e2, if_neg (fun h => e2 ((lt x y hx hy).1 h)), if_pos ((lt y x hy hx).2 (by omega))]
theorem run_compare (P : Program) (w : World) (A B : Option Addr) (n c m d : Nat) (l k : List Nat) (ha : Row w A n (bys l)) (hb : Row w B m (bys k)) (hl : ∀ b ∈ l, b < 256) (hk : ∀ b ∈ k, b < 256) :
    (Extern.BytealgCompare.compare #[.slice A n c, .slice B m d]).run P w = .ok (.int .i64 (D.cmp l k)) w := by
  change Sem.run P (do pure (goInt (Extern.BytealgCompare.cmp (← Extern.Bytes.bytesOf (.slice A n c)) (← Extern.Bytes.bytesOf (.slice B m d))))) w = _
  simp only [Sem.run_bind, Sem.run_pure, bytesOf_any P w A n c l ha, bytesOf_any P w B m d k hb, Result.andThen]
  rw [Lib.cmp_eq]
  have := compareBytes_any l k hl hk
  simp only
  rw [this]
  rfl

end Go.Proofs.Ytkhjnfplcaffnaa
