/-
  Keys, the document's keys, prefixes in memory.
-/
import Derived.Test.YtgobbdfgjgjigaaDoorShp
import Derived.Test.YtgobbdfgjgjigaaDoorKmx
set_option linter.unusedVariables false
set_option linter.unusedSimpArgs false
set_option maxRecDepth 100000
namespace Go.Proofs.YtgobbdfgjgjigaaDoor
open Go.RowKit

theorem Shp.key_of {α : Type} {S : Shp α} {t : TypeId} {x : α} (hu : (∃ n e, Tryd.prog.underlying t = some (.array n e)) ∨ (∃ fs, Tryd.prog.underlying t = some (.struct fs))) (hkt : Tryd.prog.keyType t = true) (hc : Tryd.prog.cellsOf t = S.n) (hl : ∃ l, Tryd.prog.keyLits (Tryd.prog.types.size + 1) t (S.cs x) = some l) : ∃ l, keyOf Tryd.prog t (.agg (S.v x)) = some l := by
  obtain ⟨l, hl⟩ := hl
  refine ⟨.string (keyBytes l), ?_⟩
  have hs : ((S.v x).size == Tryd.prog.cellsOf t) = true := by rw [S.v_size, hc]; simp
  have e : (S.v x).toList = S.cs x := by simp [Shp.v]
  unfold keyOf
  rcases hu with ⟨n, q, hu⟩ | ⟨fs, hu⟩
  · rw [hu]
    simp only [hkt, Value.formed, hu, Value.cells, Bool.true_and, hs, if_true, e, hl, Option.map_some]
  · rw [hu]
    simp only [hkt, Value.formed, hu, Value.cells, Bool.true_and, hs, if_true, e, hl, Option.map_some]
theorem Shp.run_equal {α : Type} {S : Shp α} {t : TypeId} (hu : (∃ n e, Tryd.prog.underlying t = some (.array n e)) ∨ (∃ fs, Tryd.prog.underlying t = some (.struct fs))) {m : Nat} (hm : m ≤ 10000) (hk : Tryd.prog.keyTypeAt m t = true) (K : Maps.Keyed Tryd.prog t)
    (hX : ∀ x : α, ∃ l, keyOf Tryd.prog t (.agg (S.v x)) = some l) (x y : α) (w : World) : (Op.equal t (.agg (S.v x)) (.agg (S.v y))).run Tryd.prog w = .ok (S.sm x y) w := by
  obtain ⟨lx, hx⟩ := hX x
  obtain ⟨ly, hy⟩ := hX y
  have hw : (match Tryd.prog.underlying t with | some (.array _ _) | some (.struct _) => true | _ => false) = true := by
    rcases hu with ⟨n, q, hu⟩ | ⟨fs, hu⟩ <;> rw [hu]
  obtain ⟨r, hr, hiff⟩ := run_equal_deep (P := Tryd.prog) w hm hk hw hx hy
  rw [hr]
  congr 1
  have : (r = true) ↔ x = y := by
    rw [hiff]
    constructor
    · intro e
      subst e
      have := K.inj hx hy
      injection this with this
      exact S.v_inj this
    · intro e
      subst e
      rw [hx] at hy
      injection hy
  unfold Shp.sm
  cases r
  · symm; simpa using this
  · symm; simpa using this

/-- Keys. -/
def kS : Shp D.Ky := ⟨fun x => bys x.l, 25, by decide, fun x => by rw [bys_len, x.len], fun h => D.Ky.eq (bys_inj h), fun x => bys_one x.l⟩
/-- The document's keys. -/
structure D.Rk where
  k : Int
  p : Int
  a : Int
  n : Nm.D.Nm
  t : D.Tg
  hk : -9223372036854775808 ≤ k ∧ k ≤ 9223372036854775807
  hp : -9223372036854775808 ≤ p ∧ p ≤ 9223372036854775807
  ha : -9223372036854775808 ≤ a ∧ a ≤ 9223372036854775807
theorem one_lits {l : List Nat} (hl : ∀ b ∈ l, b < 256) {i : Nat} (hi : i < l.length) (d : Nat) : Tryd.prog.keyLits (d + 1) 5 (((bys l).drop i).take 1) = some [Lit.int .u8 ((l.getD i 0 : Nat) : Int)] := by
  rw [one_bys hi]
  have hb : l.getD i 0 < 256 := by
    rw [List.getD, List.getElem?_eq_getElem hi]
    exact hl _ (List.getElem_mem _)
  obtain ⟨b, hq⟩ : ∃ b, l.getD i 0 = b := ⟨_, rfl⟩
  rw [hq] at hb ⊢
  have hw : (Lit.int .u8 ((b : Nat) : Int)).wf = true := by
    simp [Lit.wf, IntKind.min, IntKind.max, IntKind.bits, IntKind.signed]
    omega
  unfold Program.keyLits
  rw [Tryd.underlying5]
  simp [hw]
theorem c_key : Tryd.prog.cellsOf 30 = 25 := by kernel_rfl
theorem c_name : Tryd.prog.cellsOf 24 = 12 := by kernel_rfl
theorem c_tag : Tryd.prog.cellsOf 28 = 10 := by kernel_rfl
theorem k_lits_k (x : D.Ky) (d : Nat) : ∃ l, Tryd.prog.keyLits (d + 4) 30 (bys x.l) = some l := by
  have hl := x.len
  have h0 := one_lits x.lt (i := 0) (by omega) (d + 2)
  have h1 := one_lits x.lt (i := 1) (by omega) (d + 2)
  have h2 := one_lits x.lt (i := 2) (by omega) (d + 2)
  obtain ⟨ln, hn⟩ := Nm.key_lits x.n 24 (d + 1) Tryd.underlying24 c_name
  obtain ⟨lt, ht⟩ := key_lits_n x.t d
  have en : bys x.n.l = ((bys x.l).drop 3).take 12 := by rw [bys_drop, bys_take]; rfl
  have et : bys x.t.l = ((bys x.l).drop 15).take 10 := by
    rw [List.take_of_length_le (by rw [List.length_drop, bys_len, hl]; omega), bys_drop]; rfl
  rw [en] at hn
  rw [et] at ht
  rw [List.drop_zero] at h0
  unfold Program.keyLits
  rw [Tryd.underlying30]
  simp only [bys_len, hl, c_key, c_name, c_tag, cells_u8]
  simp [-List.drop_one, h0, h1, h2, hn, ht, c_name, c_tag, cells_u8]
theorem u_key : ∃ fs, Tryd.prog.underlying 30 = some (.struct fs) := ⟨_, Tryd.underlying30⟩
theorem key_k (x : D.Ky) : ∃ l, keyOf Tryd.prog 30 (.agg (kS.v x)) = some l := Shp.key_of (.inr u_key) (by kernel_rfl) c_key (by rw [show Tryd.prog.types.size + 1 = Tryd.prog.types.size - 3 + 4 by kernel_rfl]; exact k_lits_k x _)
theorem law_k : Maps.Keyed Tryd.prog 30 := Maps.Keyed.of_law (deep_law_laid laid_out (m := 6) (by omega) (of_decide_eq_true (by kernel_rfl)) (by kernel_rfl) (by rw [Tryd.underlying30]))
noncomputable def ldk (v : Value) : Sem Value := Instr.loadAt 30 v
noncomputable def lvk (a : Addr) : Sem Value := loadVar 30 a
noncomputable def stk (p v : Value) : Sem Unit := Instr.storeAt 30 p v
noncomputable def eqk (u v : Value) : Sem Value := binOp .eql 30 u v
noncomputable def nek (u v : Value) : Sem Value := binOp .neq 30 u v
theorem ld_k (v : Value) : Instr.loadAt 30 v = ldk v := rfl
theorem lv_k (a : Addr) : loadVar 30 a = lvk a := rfl
theorem st_k (p v : Value) : Instr.storeAt 30 p v = stk p v := rfl
theorem eq_k (u v : Value) : binOp .eql 30 u v = eqk u v := rfl
theorem ne_k (u v : Value) : binOp .neq 30 u v = nek u v := rfl
noncomputable def bl (t : TypeId) (a : Addr) (w : World) : Result Value := (loadVar t a).run Tryd.prog w
theorem run_lvk (w : World) (a : Addr) : (lvk a).run Tryd.prog w = (kS.rd w a).elim (bl 30 a w) fun x => .ok (.agg (kS.v x)) w := by
  cases h : kS.rd w a with
  | none => rfl
  | some x => exact Shp.loadVar_of Tryd.isAgg30 Tryd.sizeOf30 (Shp.at_of h)
theorem run_ldk (w : World) (a : Addr) : (ldk (.pointer (some a))).run Tryd.prog w = (kS.rd w a).elim (bl 30 a w) fun x => .ok (.agg (kS.v x)) w := by
  rw [← run_lvk]; simp only [ldk, lvk, Instr.loadAt, Instr.sureAddr, Sem.run_bind, Sem.run_pure, Result.andThen_ok]
noncomputable def bs (t : TypeId) (g : Nat) (v : Array Value) (w : World) : Result Unit := (Instr.storeAt t (.pointer (some ⟨g, 0, none⟩)) (.agg v)).run Tryd.prog w
theorem run_stk (w : World) (g : Nat) (x : D.Ky) : (stk (.pointer (some ⟨g, 0, none⟩)) (.agg (kS.v x))).run Tryd.prog w = bif Shp.tn 25 w g then .ok () (w.setRow g (kS.v x)) else bs 30 g (kS.v x) w := by
  cases h : Shp.tn 25 w g with
  | false => rfl
  | true => exact Shp.storeVar_of (S := kS) h x fun t' cs hb hs => run_storeVar_row (P := Tryd.prog) w g t' _ cs (kS.v x) hb.out (by rw [kS.v_size]; kernel_rfl) hs (kS.v_one x)
theorem run_eqk (w : World) (x y : D.Ky) : (eqk (.agg (kS.v x)) (.agg (kS.v y))).run Tryd.prog w = .ok (.bool (kS.sm x y)) w := by
  simp only [eqk, binOp]
  rw [Sem.run_bind, Shp.run_equal (.inr u_key) (m := 6) (by omega) (by kernel_rfl) law_k key_k]
  rfl
theorem run_nek (w : World) (x y : D.Ky) : (nek (.agg (kS.v x)) (.agg (kS.v y))).run Tryd.prog w = .ok (.bool (!kS.sm x y)) w := by
  simp only [nek, binOp]
  rw [Sem.run_bind, Shp.run_equal (.inr u_key) (m := 6) (by omega) (by kernel_rfl) law_k key_k]
  rfl
end Go.Proofs.YtgobbdfgjgjigaaDoor
