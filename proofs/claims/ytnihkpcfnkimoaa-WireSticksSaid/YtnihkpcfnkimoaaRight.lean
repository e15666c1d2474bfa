/-
  The law's Right: fields of the five kinds, whose texts have at most 200 bytes.
-/
import Derived.Test.YtnihkpcfnkimoaaFrow
set_option linter.unusedVariables false
set_option linter.unusedSimpArgs false
namespace Go.Proofs.Ytnihkpcfnkimoaa
open Go.RowKit
attribute [local go_sem ↓] Go.wp_at_zero Go.wp_at_succ

/-- A field that came in. -/
structure Raw (f : D.Fd) : Prop where
  k1 : -9223372036854775808 ≤ f.k
  k2 : f.k ≤ 9223372036854775807
  n : f.n < 18446744073709551616
  s : f.s.size ≤ 9223372036854775807
def fcs (l : List D.Fd) : List Value := l.flatMap fun f => [.int .i64 f.k, .int .u64 f.n, .string f.s]
theorem fcs_cons (f : D.Fd) (l : List D.Fd) : fcs (f :: l) = .int .i64 f.k :: .int .u64 f.n :: .string f.s :: fcs l := rfl
theorem fcs_app (l k : List D.Fd) : fcs (l ++ k) = fcs l ++ fcs k := by simp [fcs]
theorem fcs_len (l : List D.Fd) : (fcs l).length = l.length * 3 := by
  induction l with
  | nil => rfl
  | cons f l ih => rw [fcs_cons]; simp [ih]; omega
theorem fcs_at : ∀ {l : List D.Fd} {i : Nat} {f : D.Fd}, l[i]? = some f → (fcs l)[i * 3]? = some (.int .i64 f.k) ∧ (fcs l)[i * 3 + 1]? = some (.int .u64 f.n) ∧ (fcs l)[i * 3 + 2]? = some (.string f.s)
  | [], i, f, h => by simp at h
  | g :: l, 0, f, h => by
    simp at h
    subst h
    exact ⟨rfl, rfl, rfl⟩
  | g :: l, i + 1, f, h => by
    have ih := fcs_at (l := l) (i := i) (f := f) (by simpa using h)
    rw [fcs_cons, show (i + 1) * 3 = i * 3 + 3 by omega]
    exact ih
theorem fcs_one (l : List D.Fd) : ∀ u ∈ fcs l, u.oneCell' = true := by
  intro u hu
  obtain ⟨f, _, hf⟩ := List.mem_flatMap.1 hu
  simp at hf
  rcases hf with rfl | rfl | rfl <;> rfl
/-- A slice of fields of the call's own. -/
structure FOwn (base : Nat) (w : World) (A : Option Addr) (n c : Nat) (l : List D.Fd) : Prop where
  row : w.ownsRow base 29 3 (.slice A n c) n (fcs l)
  base : base ≤ w.heap.size
theorem FOwn.len {base n c : Nat} {w : World} {A : Option Addr} {l : List D.Fd} (h : FOwn base w A n c l) : l.length = n := by have := h.row.1; rw [fcs_len] at this; omega
theorem FOwn.to_row {base n c : Nat} {w : World} {A : Option Addr} {l : List D.Fd} (h : FOwn base w A n c l) : FRow w A n l :=
  ⟨h.len, fun hn => by
    obtain ⟨g, cap, e, _, hlt⟩ := h.row.form hn
    have hA : A = some ⟨g, 0, none⟩ := by injection e
    subst hA
    exact ⟨_, rfl, hlt, fun i f hf => by
      obtain ⟨h0, h1, h2⟩ := fcs_at hf
      exact ⟨h.row.cells (g := g) rfl _ _ h0, h.row.cells (g := g) rfl _ _ h1, h.row.cells (g := g) rfl _ _ h2⟩⟩⟩
theorem FOwn.cap {base n c : Nat} {w : World} {A : Option Addr} {l : List D.Fd} (h : FOwn base w A n c l) : n ≤ c ∧ c ≤ maxLen := by
  rcases h.row.2 with ⟨e, h0⟩ | ⟨g, cap, cur, e, _, _, h1, h2, _⟩
  · injection e with _ _ e2
    exact ⟨by omega, by rw [e2]; exact Nat.zero_le _⟩
  · injection e with _ _ e2
    subst e2
    exact ⟨h1, h2⟩
theorem FOwn.nil {base : Nat} {w : World} (h : base ≤ w.heap.size) : FOwn base w none 0 0 [] := ⟨World.ownsRow_nil _ _ _ _, h⟩
theorem FOwn.more {base n c : Nat} {w w' : World} {A : Option Addr} {l : List D.Fd} (h : FOwn base w A n c l) (hb : Below w.heap.size w w') : FOwn base w' A n c l := by
  refine ⟨⟨h.row.1, ?_⟩, Nat.le_trans h.base hb.size⟩
  rcases h.row.2 with hn | ⟨g, cap, cur, e, hg, hh, r⟩
  · exact .inl hn
  · refine .inr ⟨g, cap, cur, e, hg, ?_, r⟩
    rw [hb.block g (Array.getElem?_eq_some_iff.1 hh).1]
    exact hh
theorem FOwn.block_le {base n c : Nat} {w : World} {A : Option Addr} {l : List D.Fd} (h : FOwn base w A n c l) : ∀ k, (Value.slice A n c).ownBlock = some k → base ≤ k := fun k hk => (h.row.lt k hk).1
theorem fld_info : (Try.prog.info? 29).map (fun i => (i.zero, i.size, i.bytes)) = some (some (.agg #[.int .i64 0, .int .u64 0, .string ⟨#[]⟩]), 3, 32) := by kernel_rfl

section
variable (w : World)
theorem run_fapp {base : Nat} {A : Option Addr} {n c : Nat} {l : List D.Fd} (ty : TypeId) (f : D.Fd) (g : Nat) (ho : FOwn base w A n c l) (hg : w.heap[g]? = some (.cells #[.int .i64 f.k, .int .u64 f.n, .string f.s] 29 (0, 0))) (h63 : n ≤ 1000) :
    ∃ A' c' w', (Builtin.append_ #[22, 22] ty #[.slice A n c, .slice (some ⟨g, 0, none⟩) 1 1]).run Try.prog w = .ok (.slice A' (n + 1) c') w' ∧
      FOwn base w' A' (n + 1) c' (l ++ [f]) ∧ w.grownBy w' (Value.slice A n c).ownBlock := by
  obtain ⟨i, hi, hz0, hz1, hz2⟩ := info_parts fld_info
  obtain ⟨v', w', hrun, h2, h3, _, _⟩ := run_append_own_at (P := Try.prog) w base 22 ty 29 i _ 3 32 Try.underlying22 hi hz0 hz1 hz2 (by kernel_rfl) (by omega) _ n (fcs l) ho.row ⟨g, 0, none⟩ 1 1 (fcs [f]) (by rw [fcs_len]; rfl) (World.news_of_block hg) (fcs_one _) (by simp only [maxLen]; omega) (by omega) ho.base
  have hs : ∃ A' c', v' = .slice A' (n + 1) c' := by
    rcases h2.2 with ⟨rfl, h0⟩ | ⟨g, cap, _, rfl, _⟩
    · omega
    · exact ⟨_, _, rfl⟩
  obtain ⟨A', c', rfl⟩ := hs
  exact ⟨A', c', w', hrun, ⟨by rw [fcs_app]; exact h2, Nat.le_trans ho.base h3.size⟩, h3⟩
theorem fapp {ops : Array Oper} {rest : List Oper} {o : Oper} {a : Act} {Q : Exit → Act → World → Prop} (hgd : o.guard = none) (s x : Operand)
    (hop : o.op = .call { callee := .builtin .append, args := #[s, x], argTypes := #[22, 22] })
    {base g : Nat} {A : Option Addr} {n c : Nat} {l : List D.Fd} {f : D.Fd} (hs : a.eval s = .slice A n c) (ho : FOwn base w A n c l) (hx : a.eval x = .slice (some ⟨g, 0, none⟩) 1 1)
    (hg : w.heap[g]? = some (.cells #[.int .i64 f.k, .int .u64 f.n, .string f.s] 29 (0, 0))) (h63 : n ≤ 1000)
    (h : ∀ A' c' w', FOwn base w' A' (n + 1) c' (l ++ [f]) → w.grownBy w' (Value.slice A n c).ownBlock → wpList Try.prog ops Q rest (a.put o.dst (.slice A' (n + 1) c')) w') : wpList Try.prog ops Q (o :: rest) a w := by
  obtain ⟨A', c', w', hrun, h2, h3⟩ := run_fapp w o.type f g ho hg h63
  refine wpList_plain hgd fun K hK => ?_
  unfold Oper.wp execOp
  simp only [hop, resolve, invoke, builtin, Sem.run_bind, Sem.run_pure, Result.andThen_ok, List.map_toArray, List.map_cons, List.map_nil, hs, hx, hrun]
  exact hK _ _ (h A' c' w' h2 h3)
end

/-- What Right tells. -/
def Righted (most : Nat) (w : World) (e : Ending) (w' : World) : Prop := ∃ A n c l, e = .returned (.slice A n c) ∧ FRow w' A n l ∧ (∀ f ∈ l, f.ok) ∧ n ≤ most ∧ n ≤ c ∧ c ≤ maxLen ∧ Below w.heap.size w w'
set_option maxRecDepth 20000 in
set_option maxHeartbeats 1000000 in
theorem right_any (A : Option Addr) (n c most : Nat) (l : List D.Fd) (w : World) (ha : FRow w A n l) (hl : Kept (∀ f ∈ l, Raw f)) (hm : most ≤ 20) (hn : n ≤ 9223372036854775807) :
    Calls Try.prog 9 #[.slice A n c, .int .i64 most] w (Righted most w) := by
  go_enter Try.func9, Try.ntmps9
  go_wp2
  go_loopw [5, 6] (fun o i wr => ∃ (k d : Nat) (B : Option Addr) (l' : List D.Fd), k ≤ n ∧ k ≤ most ∧ i = .int .i64 k ∧ o = .slice B k d ∧ FOwn w.heap.size wr B k d l' ∧ Kept (∀ f ∈ l', f.ok) ∧ Below w.heap.size w wr) (fun _ i _ => n - (intOf i).toNat)
  case atStart => exact ⟨0, 0, none, [], Nat.zero_le _, Nat.zero_le _, rfl, rfl, FOwn.nil (Nat.le_refl _), ⟨by simp⟩, Below.refl _ _⟩
  case round =>
    obtain ⟨k, d, B, l', hk, hk2, rfl, rfl, HO, HK, hbel⟩ := hrel
    have hlen := ha.len
    by_cases hlt : k < n
    · by_cases hlm : k < most
      · obtain ⟨f, hf, hfm⟩ := fat_lt (l := l) (i := k) (by omega)
        have hfo := hl.out f hfm
        obtain ⟨ad, rfl, c0, c1, c2⟩ := (ha.on hbel).at_ hf
        have hk1 := hfo.k1
        have hk2' := hfo.k2
        have hx := hfo.n
        have hs := hfo.s
        obtain ⟨m, hm1, hm2, hmin⟩ := min_run f.s.size 200 200 rfl
        obtain ⟨z, hz⟩ : ∃ z : Nat, IntKind.u64.wrap f.k = z := ⟨(IntKind.u64.wrap f.k).toNat, by rw [IntKind.wrap_u64]; omega⟩
        have hz64 : z < 18446744073709551616 := by rw [IntKind.wrap_u64] at hz; omega
        obtain ⟨y, hy⟩ : ∃ y : Nat, z % 5 = y := ⟨_, rfl⟩
        have e2 : (z : Int) % 5 = (y : Int) := by omega
        have hy4 : y ≤ 4 := by omega
        obtain ⟨s', hs'⟩ : ∃ s', f.s.extract 0 m = s' := ⟨_, rfl⟩
        have hss : s'.size ≤ 200 := by rw [← hs', ByteArray.size_extract]; omega
        have HF : Kept (∀ g ∈ l' ++ [(⟨(y : Int), f.n, s'⟩ : D.Fd)], g.ok) := ⟨by
          intro g hg
          rcases List.mem_append.1 hg with hg | hg
          · exact HK.out g hg
          · rw [List.mem_singleton.1 hg]
            exact ⟨by simp, by simp; omega, hx, hss⟩⟩
        clear hlen hf hy
        have hbn : Below wr.heap.size wr ((wr.alloc (.cells #[.int .i64 (y : Int), .int .u64 (f.n : Int), .string s'] 29)).alloc (.cells #[.int .i64 (y : Int), .int .u64 (f.n : Int), .string s'] 29)) :=
          ((Below.refl _ _).alloc (Nat.le_refl _) _).alloc (by simp) _
        have q2 := HO.more hbn
        have q3 : ((wr.alloc (.cells #[.int .i64 (y : Int), .int .u64 (f.n : Int), .string s'] 29)).alloc (.cells #[.int .i64 (y : Int), .int .u64 (f.n : Int), .string s'] 29)).heap[wr.heap.size + 1]? = some (.cells #[.int .i64 (y : Int), .int .u64 (f.n : Int), .string s'] 29 (0, 0)) := by
          have := heap_alloc_new (wr.alloc (.cells #[.int .i64 (y : Int), .int .u64 (f.n : Int), .string s'] 29)) (.cells #[.int .i64 (y : Int), .int .u64 (f.n : Int), .string s'] 29)
          simpa using this
        have Q3 := Lib.hid q3
        clear q3
        have q1 : k ≤ 1000 := by omega
        go_wp2_with (at_builtin; refine fapp _ rfl (.tmp 37) (.tmp 39) (by rfl) (f := ⟨(y : Int), f.n, s'⟩) (by rfl) q2 (by rfl) Q3.out q1 ?_; intro A2 c2' w2 ho2 hg2)
        go_roundw
        case rel => exact ⟨k + 1, c2', A2, _, by omega, by omega, by go_num, rfl, ho2, HF, (hbel.trans (hbn.mono hbel.size)).grown hg2 (by simp; have := hbel.size; omega) HO.block_le⟩
        case measure => simp [intOf]; omega
      · clear hlen
        go_wp2
        go_ret
        exact ⟨B, k, d, l', rfl, HO.to_row, HK.out, by omega, HO.cap.1, HO.cap.2, hbel⟩
    · clear hlen
      go_wp2
      go_ret
      exact ⟨B, k, d, l', rfl, HO.to_row, HK.out, by omega, HO.cap.1, HO.cap.2, hbel⟩
end Go.Proofs.Ytnihkpcfnkimoaa
