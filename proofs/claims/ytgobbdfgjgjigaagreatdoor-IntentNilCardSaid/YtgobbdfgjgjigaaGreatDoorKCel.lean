/-
  Keys, the document's keys, prefixes in memory.
-/
import Derived.Test.YtgobbdfgjgjigaaGreatDoorShp
import Derived.Test.YtgobbdfgjgjigaaGreatDoorKmx
set_option linter.unusedVariables false
set_option linter.unusedSimpArgs false
set_option maxRecDepth 100000
namespace Go.Proofs.YtgobbdfgjgjigaaGreatDoor
open Go.RowKit

theorem Shp.key_of {α : Type} {S : Shp α} {t : TypeId} {x : α} (hu : (∃ n e, Tryz.prog.underlying t = some (.array n e)) ∨ (∃ fs, Tryz.prog.underlying t = some (.struct fs))) (hkt : Tryz.prog.keyType t = true) (hc : Tryz.prog.cellsOf t = S.n) (hl : ∃ l, Tryz.prog.keyLits (Tryz.prog.types.size + 1) t (S.cs x) = some l) : ∃ l, keyOf Tryz.prog t (.agg (S.v x)) = some l := by
  obtain ⟨l, hl⟩ := hl
  refine ⟨.string (keyBytes l), ?_⟩
  have hs : ((S.v x).size == Tryz.prog.cellsOf t) = true := by rw [S.v_size, hc]; simp
  have e : (S.v x).toList = S.cs x := by simp [Shp.v]
  unfold keyOf
  rcases hu with ⟨n, q, hu⟩ | ⟨fs, hu⟩
  · rw [hu]
    simp only [hkt, Value.formed, hu, Value.cells, Bool.true_and, hs, if_true, e, hl, Option.map_some]
  · rw [hu]
    simp only [hkt, Value.formed, hu, Value.cells, Bool.true_and, hs, if_true, e, hl, Option.map_some]
theorem Shp.run_equal {α : Type} {S : Shp α} {t : TypeId} (hu : (∃ n e, Tryz.prog.underlying t = some (.array n e)) ∨ (∃ fs, Tryz.prog.underlying t = some (.struct fs))) {m : Nat} (hm : m ≤ 10000) (hk : Tryz.prog.keyTypeAt m t = true) (K : Maps.Keyed Tryz.prog t)
    (hX : ∀ x : α, ∃ l, keyOf Tryz.prog t (.agg (S.v x)) = some l) (x y : α) (w : World) : (Op.equal t (.agg (S.v x)) (.agg (S.v y))).run Tryz.prog w = .ok (S.sm x y) w := by
  obtain ⟨lx, hx⟩ := hX x
  obtain ⟨ly, hy⟩ := hX y
  have hw : (match Tryz.prog.underlying t with | some (.array _ _) | some (.struct _) => true | _ => false) = true := by
    rcases hu with ⟨n, q, hu⟩ | ⟨fs, hu⟩ <;> rw [hu]
  obtain ⟨r, hr, hiff⟩ := run_equal_deep (P := Tryz.prog) w hm hk hw hx hy
  rw [hr]
  congr 1
  have : (r = true) ↔ x = y := by
    rw [hiff]
    constructor
    · intro e
      subst e
      have := K.inj hx hy
      injection this with this
      exact S.v_inj this
    · intro e
      subst e
      rw [hx] at hy
      injection hy
  unfold Shp.sm
  cases r
  · symm; simpa using this
  · symm; simpa using this

/-- Keys. -/
def kS : Shp D.Ky := ⟨fun x => bys x.l, 25, by decide, fun x => by rw [bys_len, x.len], fun h => D.Ky.eq (bys_inj h), fun x => bys_one x.l⟩
/-- The document's keys. -/
structure D.Rk where
  k : Int
  p : Int
  a : Int
  n : Nm.D.Nm
  t : D.Tg
  hk : -9223372036854775808 ≤ k ∧ k ≤ 9223372036854775807
  hp : -9223372036854775808 ≤ p ∧ p ≤ 9223372036854775807
  ha : -9223372036854775808 ≤ a ∧ a ≤ 9223372036854775807
def rcells (x : D.Rk) : List Value := .int .i64 x.k :: .int .i64 x.p :: .int .i64 x.a :: (bys x.n.l ++ bys x.t.l)
theorem rcells_inj {x y : D.Rk} (h : rcells x = rcells y) : x = y := by
  obtain ⟨k, p, a, n, t, _, _, _⟩ := x
  obtain ⟨k', p', a', n', t', _, _, _⟩ := y
  simp only [rcells, List.cons.injEq, Value.int.injEq, true_and] at h
  obtain ⟨rfl, rfl, rfl, h⟩ := h
  have := List.append_inj h (by simp [bys_len, Nm.D.Nm.len])
  obtain rfl := Nm.D.Nm.eq (bys_inj this.1)
  obtain rfl := D.Tg.eq (bys_inj this.2)
  rfl
def rS : Shp D.Rk := ⟨rcells, 25, by decide, fun x => by simp [rcells, bys_len, x.n.len, x.t.len], rcells_inj, fun x u hu => by
  simp only [rcells, List.mem_cons, List.mem_append] at hu
  rcases hu with rfl | rfl | rfl | hu | hu
  · rfl
  · rfl
  · rfl
  · exact bys_one _ u hu
  · exact bys_one _ u hu⟩
theorem one_lits {l : List Nat} (hl : ∀ b ∈ l, b < 256) {i : Nat} (hi : i < l.length) (d : Nat) : Tryz.prog.keyLits (d + 1) 5 (((bys l).drop i).take 1) = some [Lit.int .u8 ((l.getD i 0 : Nat) : Int)] := by
  rw [one_bys hi]
  have hb : l.getD i 0 < 256 := by
    rw [List.getD, List.getElem?_eq_getElem hi]
    exact hl _ (List.getElem_mem _)
  obtain ⟨b, hq⟩ : ∃ b, l.getD i 0 = b := ⟨_, rfl⟩
  rw [hq] at hb ⊢
  have hw : (Lit.int .u8 ((b : Nat) : Int)).wf = true := by
    simp [Lit.wf, IntKind.min, IntKind.max, IntKind.bits, IntKind.signed]
    omega
  unfold Program.keyLits
  rw [Tryz.underlying5]
  simp [hw]
theorem int_lits {n : Int} (h : -9223372036854775808 ≤ n ∧ n ≤ 9223372036854775807) (d : Nat) : Tryz.prog.keyLits (d + 1) 3 [.int .i64 n] = some [Lit.int .i64 n] := by
  have hw : (Lit.int .i64 n).wf = true := by
    simp [Lit.wf, IntKind.min, IntKind.max, IntKind.bits, IntKind.signed]
    omega
  unfold Program.keyLits
  rw [Tryz.underlying3]
  simp [hw]
theorem k_lits_a (x : D.Ky) (d : Nat) : ∃ l, Tryz.prog.keyLits (d + 3) 83 (bys x.l) = some l :=
  ⟨_, lits_arr x.l x.lt 25 x.len 83 (d + 1) Tryz.underlying83 (by kernel_rfl)⟩
theorem c_key : Tryz.prog.cellsOf 30 = 25 := by kernel_rfl
theorem c_name : Tryz.prog.cellsOf 24 = 12 := by kernel_rfl
theorem c_tag : Tryz.prog.cellsOf 28 = 10 := by kernel_rfl
theorem c_12 : Tryz.prog.cellsOf 23 = 12 := by kernel_rfl
theorem c_10 : Tryz.prog.cellsOf 40 = 10 := by kernel_rfl
theorem c_int : Tryz.prog.cellsOf 3 = 1 := by kernel_rfl
theorem c_rk : Tryz.prog.cellsOf 42 = 25 := by kernel_rfl
theorem k_lits_k (x : D.Ky) (d : Nat) : ∃ l, Tryz.prog.keyLits (d + 4) 30 (bys x.l) = some l := by
  have hl := x.len
  have h0 := one_lits x.lt (i := 0) (by omega) (d + 2)
  have h1 := one_lits x.lt (i := 1) (by omega) (d + 2)
  have h2 := one_lits x.lt (i := 2) (by omega) (d + 2)
  obtain ⟨ln, hn⟩ := Nm.key_lits x.n 24 (d + 1) Tryz.underlying24 c_name
  obtain ⟨lt, ht⟩ := key_lits_n x.t d
  have en : bys x.n.l = ((bys x.l).drop 3).take 12 := by rw [bys_drop, bys_take]; rfl
  have et : bys x.t.l = ((bys x.l).drop 15).take 10 := by
    rw [List.take_of_length_le (by rw [List.length_drop, bys_len, hl]; omega), bys_drop]; rfl
  rw [en] at hn
  rw [et] at ht
  rw [List.drop_zero] at h0
  unfold Program.keyLits
  rw [Tryz.underlying30]
  simp only [bys_len, hl, c_key, c_name, c_tag, cells_u8]
  simp [-List.drop_one, h0, h1, h2, hn, ht, c_name, c_tag, cells_u8]
theorem r_lits (x : D.Rk) (d : Nat) : ∃ l, Tryz.prog.keyLits (d + 4) 42 (rcells x) = some l := by
  have hl : (rcells x).length = 25 := rS.len x
  have h0 := int_lits x.hk (d + 2)
  have h1 := int_lits x.hp (d + 2)
  have h2 := int_lits x.ha (d + 2)
  obtain ⟨ln, hn⟩ := Nm.key_lits x.n 23 (d + 1) Tryz.underlying23 c_12
  obtain ⟨lt, ht⟩ := key_lits_a x.t d
  have en : ((rcells x).drop 3).take 12 = bys x.n.l := by
    show (bys x.n.l ++ bys x.t.l).take 12 = _
    rw [List.take_append_of_le_length (by rw [bys_len, x.n.len]; omega), List.take_of_length_le (by rw [bys_len, x.n.len]; omega)]
  have et : ((rcells x).drop 15).take 10 = bys x.t.l := by
    show ((bys x.n.l ++ bys x.t.l).drop 12).take 10 = _
    have : 12 = (bys x.n.l).length := by rw [bys_len, x.n.len]
    rw [this, List.drop_left, List.take_of_length_le (by rw [bys_len, x.t.len]; omega)]
  have e0 : (rcells x).take 1 = [.int .i64 x.k] := rfl
  have e1 : ((rcells x).drop 1).take 1 = [.int .i64 x.p] := rfl
  have e2 : ((rcells x).drop 2).take 1 = [.int .i64 x.a] := rfl
  unfold Program.keyLits
  rw [Tryz.underlying42]
  simp only [hl, c_rk, c_12, c_10, c_int]
  simp only [true_and]
  simp [-List.drop_one, e0, e1, e2, en, et, h0, h1, h2, hn, ht, c_12, c_10, c_int, hl]
theorem u_key : ∃ fs, Tryz.prog.underlying 30 = some (.struct fs) := ⟨_, Tryz.underlying30⟩
theorem u_25 : ∃ n e, Tryz.prog.underlying 83 = some (.array n e) := ⟨_, _, Tryz.underlying83⟩
theorem u_rk : ∃ fs, Tryz.prog.underlying 42 = some (.struct fs) := ⟨_, Tryz.underlying42⟩
theorem key_k (x : D.Ky) : ∃ l, keyOf Tryz.prog 30 (.agg (kS.v x)) = some l := Shp.key_of (.inr u_key) (by kernel_rfl) c_key (by rw [show Tryz.prog.types.size + 1 = Tryz.prog.types.size - 3 + 4 by kernel_rfl]; exact k_lits_k x _)
theorem key_25 (x : D.Ky) : ∃ l, keyOf Tryz.prog 83 (.agg (kS.v x)) = some l := Shp.key_of (.inl u_25) (by kernel_rfl) (by kernel_rfl) (by rw [show Tryz.prog.types.size + 1 = Tryz.prog.types.size - 2 + 3 by kernel_rfl]; exact k_lits_a x _)
theorem key_r (x : D.Rk) : ∃ l, keyOf Tryz.prog 42 (.agg (rS.v x)) = some l := Shp.key_of (.inr u_rk) (by kernel_rfl) c_rk (by rw [show Tryz.prog.types.size + 1 = Tryz.prog.types.size - 3 + 4 by kernel_rfl]; exact r_lits x _)
theorem law_k : Maps.Keyed Tryz.prog 30 := Maps.Keyed.of_law (deep_law_laid laid_out (m := 6) (by omega) (of_decide_eq_true (by kernel_rfl)) (by kernel_rfl) (by rw [Tryz.underlying30]))
theorem law_25 : Maps.Keyed Tryz.prog 83 := Maps.Keyed.of_law (deep_law_laid laid_out (m := 6) (by omega) (of_decide_eq_true (by kernel_rfl)) (by kernel_rfl) (by rw [Tryz.underlying83]))
theorem law_rk : Maps.Keyed Tryz.prog 42 := Maps.Keyed.of_law (deep_law_laid laid_out (m := 6) (by omega) (of_decide_eq_true (by kernel_rfl)) (by kernel_rfl) (by rw [Tryz.underlying42]))
noncomputable def ldk (v : Value) : Sem Value := Instr.loadAt 30 v
noncomputable def ldb (v : Value) : Sem Value := Instr.loadAt 83 v
noncomputable def ldr (v : Value) : Sem Value := Instr.loadAt 42 v
noncomputable def lvk (a : Addr) : Sem Value := loadVar 30 a
noncomputable def lvb (a : Addr) : Sem Value := loadVar 83 a
noncomputable def lvr (a : Addr) : Sem Value := loadVar 42 a
noncomputable def stk (p v : Value) : Sem Unit := Instr.storeAt 30 p v
noncomputable def stb (p v : Value) : Sem Unit := Instr.storeAt 83 p v
noncomputable def strk (p v : Value) : Sem Unit := Instr.storeAt 42 p v
noncomputable def eqk (u v : Value) : Sem Value := binOp .eql 30 u v
noncomputable def nek (u v : Value) : Sem Value := binOp .neq 30 u v
noncomputable def eqb (u v : Value) : Sem Value := binOp .eql 83 u v
noncomputable def neb (u v : Value) : Sem Value := binOp .neq 83 u v
noncomputable def eqrk (u v : Value) : Sem Value := binOp .eql 42 u v
noncomputable def nerk (u v : Value) : Sem Value := binOp .neq 42 u v
theorem ld_k (v : Value) : Instr.loadAt 30 v = ldk v := rfl
theorem ld_b (v : Value) : Instr.loadAt 83 v = ldb v := rfl
theorem ld_r (v : Value) : Instr.loadAt 42 v = ldr v := rfl
theorem lv_k (a : Addr) : loadVar 30 a = lvk a := rfl
theorem lv_b (a : Addr) : loadVar 83 a = lvb a := rfl
theorem lv_r (a : Addr) : loadVar 42 a = lvr a := rfl
theorem st_k (p v : Value) : Instr.storeAt 30 p v = stk p v := rfl
theorem st_b (p v : Value) : Instr.storeAt 83 p v = stb p v := rfl
theorem st_rk (p v : Value) : Instr.storeAt 42 p v = strk p v := rfl
theorem eq_k (u v : Value) : binOp .eql 30 u v = eqk u v := rfl
theorem ne_k (u v : Value) : binOp .neq 30 u v = nek u v := rfl
theorem eq_b (u v : Value) : binOp .eql 83 u v = eqb u v := rfl
theorem ne_b (u v : Value) : binOp .neq 83 u v = neb u v := rfl
theorem eq_rk (u v : Value) : binOp .eql 42 u v = eqrk u v := rfl
theorem ne_rk (u v : Value) : binOp .neq 42 u v = nerk u v := rfl
noncomputable def bl (t : TypeId) (a : Addr) (w : World) : Result Value := (loadVar t a).run Tryz.prog w
theorem run_lvk (w : World) (a : Addr) : (lvk a).run Tryz.prog w = (kS.rd w a).elim (bl 30 a w) fun x => .ok (.agg (kS.v x)) w := by
  cases h : kS.rd w a with
  | none => rfl
  | some x => exact Shp.loadVar_of Tryz.isAgg30 Tryz.sizeOf30 (Shp.at_of h)
theorem run_lvb (w : World) (a : Addr) : (lvb a).run Tryz.prog w = (kS.rd w a).elim (bl 83 a w) fun x => .ok (.agg (kS.v x)) w := by
  cases h : kS.rd w a with
  | none => rfl
  | some x => exact Shp.loadVar_of Tryz.isAgg83 Tryz.sizeOf83 (Shp.at_of h)
theorem run_lvr (w : World) (a : Addr) : (lvr a).run Tryz.prog w = (rS.rd w a).elim (bl 42 a w) fun x => .ok (.agg (rS.v x)) w := by
  cases h : rS.rd w a with
  | none => rfl
  | some x => exact Shp.loadVar_of Tryz.isAgg42 Tryz.sizeOf42 (Shp.at_of h)
theorem run_ldk (w : World) (a : Addr) : (ldk (.pointer (some a))).run Tryz.prog w = (kS.rd w a).elim (bl 30 a w) fun x => .ok (.agg (kS.v x)) w := by
  rw [← run_lvk]; simp only [ldk, lvk, Instr.loadAt, Instr.sureAddr, Sem.run_bind, Sem.run_pure, Result.andThen_ok]
theorem run_ldb (w : World) (a : Addr) : (ldb (.pointer (some a))).run Tryz.prog w = (kS.rd w a).elim (bl 83 a w) fun x => .ok (.agg (kS.v x)) w := by
  rw [← run_lvb]; simp only [ldb, lvb, Instr.loadAt, Instr.sureAddr, Sem.run_bind, Sem.run_pure, Result.andThen_ok]
theorem run_ldr (w : World) (a : Addr) : (ldr (.pointer (some a))).run Tryz.prog w = (rS.rd w a).elim (bl 42 a w) fun x => .ok (.agg (rS.v x)) w := by
  rw [← run_lvr]; simp only [ldr, lvr, Instr.loadAt, Instr.sureAddr, Sem.run_bind, Sem.run_pure, Result.andThen_ok]
noncomputable def bs (t : TypeId) (g : Nat) (v : Array Value) (w : World) : Result Unit := (Instr.storeAt t (.pointer (some ⟨g, 0, none⟩)) (.agg v)).run Tryz.prog w
theorem run_stk (w : World) (g : Nat) (x : D.Ky) : (stk (.pointer (some ⟨g, 0, none⟩)) (.agg (kS.v x))).run Tryz.prog w = bif Shp.tn 25 w g then .ok () (w.setRow g (kS.v x)) else bs 30 g (kS.v x) w := by
  cases h : Shp.tn 25 w g with
  | false => rfl
  | true => exact Shp.storeVar_of (S := kS) h x fun t' cs hb hs => run_storeVar_row (P := Tryz.prog) w g t' _ cs (kS.v x) hb.out (by rw [kS.v_size]; kernel_rfl) hs (kS.v_one x)
theorem run_stb (w : World) (g : Nat) (x : D.Ky) : (stb (.pointer (some ⟨g, 0, none⟩)) (.agg (kS.v x))).run Tryz.prog w = bif Shp.tn 25 w g then .ok () (w.setRow g (kS.v x)) else bs 83 g (kS.v x) w := by
  cases h : Shp.tn 25 w g with
  | false => rfl
  | true => exact Shp.storeVar_of (S := kS) h x fun t' cs hb hs => run_storeVar_row (P := Tryz.prog) w g t' _ cs (kS.v x) hb.out (by rw [kS.v_size]; kernel_rfl) hs (kS.v_one x)
theorem run_strk (w : World) (g : Nat) (x : D.Rk) : (strk (.pointer (some ⟨g, 0, none⟩)) (.agg (rS.v x))).run Tryz.prog w = bif Shp.tn 25 w g then .ok () (w.setRow g (rS.v x)) else bs 42 g (rS.v x) w := by
  cases h : Shp.tn 25 w g with
  | false => rfl
  | true => exact Shp.storeVar_of (S := rS) h x fun t' cs hb hs => run_storeVar_row (P := Tryz.prog) w g t' _ cs (rS.v x) hb.out (by rw [rS.v_size]; kernel_rfl) hs (rS.v_one x)
theorem run_eqk (w : World) (x y : D.Ky) : (eqk (.agg (kS.v x)) (.agg (kS.v y))).run Tryz.prog w = .ok (.bool (kS.sm x y)) w := by
  simp only [eqk, binOp]
  rw [Sem.run_bind, Shp.run_equal (.inr u_key) (m := 6) (by omega) (by kernel_rfl) law_k key_k]
  rfl
theorem run_nek (w : World) (x y : D.Ky) : (nek (.agg (kS.v x)) (.agg (kS.v y))).run Tryz.prog w = .ok (.bool (!kS.sm x y)) w := by
  simp only [nek, binOp]
  rw [Sem.run_bind, Shp.run_equal (.inr u_key) (m := 6) (by omega) (by kernel_rfl) law_k key_k]
  rfl
theorem run_eqb (w : World) (x y : D.Ky) : (eqb (.agg (kS.v x)) (.agg (kS.v y))).run Tryz.prog w = .ok (.bool (kS.sm x y)) w := by
  simp only [eqb, binOp]
  rw [Sem.run_bind, Shp.run_equal (.inl u_25) (m := 6) (by omega) (by kernel_rfl) law_25 key_25]
  rfl
theorem run_neb (w : World) (x y : D.Ky) : (neb (.agg (kS.v x)) (.agg (kS.v y))).run Tryz.prog w = .ok (.bool (!kS.sm x y)) w := by
  simp only [neb, binOp]
  rw [Sem.run_bind, Shp.run_equal (.inl u_25) (m := 6) (by omega) (by kernel_rfl) law_25 key_25]
  rfl
theorem run_eqrk (w : World) (x y : D.Rk) : (eqrk (.agg (rS.v x)) (.agg (rS.v y))).run Tryz.prog w = .ok (.bool (rS.sm x y)) w := by
  simp only [eqrk, binOp]
  rw [Sem.run_bind, Shp.run_equal (.inr u_rk) (m := 6) (by omega) (by kernel_rfl) law_rk key_r]
  rfl
theorem run_nerk (w : World) (x y : D.Rk) : (nerk (.agg (rS.v x)) (.agg (rS.v y))).run Tryz.prog w = .ok (.bool (!rS.sm x y)) w := by
  simp only [nerk, binOp]
  rw [Sem.run_bind, Shp.run_equal (.inr u_rk) (m := 6) (by omega) (by kernel_rfl) law_rk key_r]
  rfl
end Go.Proofs.YtgobbdfgjgjigaaGreatDoor
