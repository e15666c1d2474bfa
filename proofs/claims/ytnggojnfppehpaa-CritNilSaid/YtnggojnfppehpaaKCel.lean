/-
  Keys, the document's keys, prefixes in memory.
-/
import Derived.Test.YtnggojnfppehpaaShp
import Derived.Test.YtnggojnfppehpaaKmx
set_option linter.unusedVariables false
set_option linter.unusedSimpArgs false
set_option maxRecDepth 100000
namespace Go.Proofs.Ytnggojnfppehpaa
open Go.RowKit

theorem Shp.key_of {α : Type} {S : Shp α} {t : TypeId} {x : α} (hu : (∃ n e, Try.prog.underlying t = some (.array n e)) ∨ (∃ fs, Try.prog.underlying t = some (.struct fs))) (hkt : Try.prog.keyType t = true) (hc : Try.prog.cellsOf t = S.n) (hl : ∃ l, Try.prog.keyLits (Try.prog.types.size + 1) t (S.cs x) = some l) : ∃ l, keyOf Try.prog t (.agg (S.v x)) = some l := by
  obtain ⟨l, hl⟩ := hl
  refine ⟨.string (keyBytes l), ?_⟩
  have hs : ((S.v x).size == Try.prog.cellsOf t) = true := by rw [S.v_size, hc]; simp
  have e : (S.v x).toList = S.cs x := by simp [Shp.v]
  unfold keyOf
  rcases hu with ⟨n, q, hu⟩ | ⟨fs, hu⟩
  · rw [hu]
    simp only [hkt, Value.formed, hu, Value.cells, Bool.true_and, hs, if_true, e, hl, Option.map_some]
  · rw [hu]
    simp only [hkt, Value.formed, hu, Value.cells, Bool.true_and, hs, if_true, e, hl, Option.map_some]
theorem Shp.run_equal {α : Type} {S : Shp α} {t : TypeId} (hu : (∃ n e, Try.prog.underlying t = some (.array n e)) ∨ (∃ fs, Try.prog.underlying t = some (.struct fs))) {m : Nat} (hm : m ≤ 10000) (hk : Try.prog.keyTypeAt m t = true) (K : Maps.Keyed Try.prog t)
    (hX : ∀ x : α, ∃ l, keyOf Try.prog t (.agg (S.v x)) = some l) (x y : α) (w : World) : (Op.equal t (.agg (S.v x)) (.agg (S.v y))).run Try.prog w = .ok (S.sm x y) w := by
  obtain ⟨lx, hx⟩ := hX x
  obtain ⟨ly, hy⟩ := hX y
  have hw : (match Try.prog.underlying t with | some (.array _ _) | some (.struct _) => true | _ => false) = true := by
    rcases hu with ⟨n, q, hu⟩ | ⟨fs, hu⟩ <;> rw [hu]
  obtain ⟨r, hr, hiff⟩ := run_equal_deep (P := Try.prog) w hm hk hw hx hy
  rw [hr]
  congr 1
  have : (r = true) ↔ x = y := by
    rw [hiff]
    constructor
    · intro e
      subst e
      have := K.inj hx hy
      injection this with this
      exact S.v_inj this
    · intro e
      subst e
      rw [hx] at hy
      injection hy
  unfold Shp.sm
  cases r
  · symm; simpa using this
  · symm; simpa using this

/-- Keys. -/
def kS : Shp D.Ky := ⟨fun x => bys x.l, 25, by decide, fun x => by rw [bys_len, x.len], fun h => D.Ky.eq (bys_inj h), fun x => bys_one x.l⟩
/-- The document's keys. -/
structure D.Rk where
  k : Int
  p : Int
  a : Int
  n : Nm.D.Nm
  t : D.Tg
  hk : -9223372036854775808 ≤ k ∧ k ≤ 9223372036854775807
  hp : -9223372036854775808 ≤ p ∧ p ≤ 9223372036854775807
  ha : -9223372036854775808 ≤ a ∧ a ≤ 9223372036854775807
def rcells (x : D.Rk) : List Value := .int .i64 x.k :: .int .i64 x.p :: .int .i64 x.a :: (bys x.n.l ++ bys x.t.l)
theorem rcells_inj {x y : D.Rk} (h : rcells x = rcells y) : x = y := by
  obtain ⟨k, p, a, n, t, _, _, _⟩ := x
  obtain ⟨k', p', a', n', t', _, _, _⟩ := y
  simp only [rcells, List.cons.injEq, Value.int.injEq, true_and] at h
  obtain ⟨rfl, rfl, rfl, h⟩ := h
  have := List.append_inj h (by simp [bys_len, Nm.D.Nm.len])
  obtain rfl := Nm.D.Nm.eq (bys_inj this.1)
  obtain rfl := D.Tg.eq (bys_inj this.2)
  rfl
def rS : Shp D.Rk := ⟨rcells, 25, by decide, fun x => by simp [rcells, bys_len, x.n.len, x.t.len], rcells_inj, fun x u hu => by
  simp only [rcells, List.mem_cons, List.mem_append] at hu
  rcases hu with rfl | rfl | rfl | hu | hu
  · rfl
  · rfl
  · rfl
  · exact bys_one _ u hu
  · exact bys_one _ u hu⟩
/-- Prefixes. -/
structure D.Px where
  x : D.Ky
  d : Int
  hd : -9223372036854775808 ≤ d ∧ d ≤ 9223372036854775807
def pcells (q : D.Px) : List Value := bys q.x.l ++ [.int .i64 q.d]
theorem pcells_inj {x y : D.Px} (h : pcells x = pcells y) : x = y := by
  obtain ⟨x, d, _⟩ := x
  obtain ⟨x', d', _⟩ := y
  have := List.append_inj h (by simp [bys_len, D.Ky.len])
  obtain rfl := D.Ky.eq (bys_inj this.1)
  have h2 := this.2
  simp only [List.cons.injEq, Value.int.injEq, true_and, and_true] at h2
  subst h2
  rfl
def pS : Shp D.Px := ⟨pcells, 26, by decide, fun x => by simp [pcells, bys_len, x.x.len], pcells_inj, fun x u hu => by
  rcases List.mem_append.1 hu with hu | hu
  · exact bys_one _ u hu
  · simp only [List.mem_singleton] at hu; subst hu; rfl⟩

theorem one_lits {l : List Nat} (hl : ∀ b ∈ l, b < 256) {i : Nat} (hi : i < l.length) (d : Nat) : Try.prog.keyLits (d + 1) 5 (((bys l).drop i).take 1) = some [Lit.int .u8 ((l.getD i 0 : Nat) : Int)] := by
  rw [one_bys hi]
  have hb : l.getD i 0 < 256 := by
    rw [List.getD, List.getElem?_eq_getElem hi]
    exact hl _ (List.getElem_mem _)
  obtain ⟨b, hq⟩ : ∃ b, l.getD i 0 = b := ⟨_, rfl⟩
  rw [hq] at hb ⊢
  have hw : (Lit.int .u8 ((b : Nat) : Int)).wf = true := by
    simp [Lit.wf, IntKind.min, IntKind.max, IntKind.bits, IntKind.signed]
    omega
  unfold Program.keyLits
  rw [Try.underlying5]
  simp [hw]
theorem int_lits {n : Int} (h : -9223372036854775808 ≤ n ∧ n ≤ 9223372036854775807) (d : Nat) : Try.prog.keyLits (d + 1) 3 [.int .i64 n] = some [Lit.int .i64 n] := by
  have hw : (Lit.int .i64 n).wf = true := by
    simp [Lit.wf, IntKind.min, IntKind.max, IntKind.bits, IntKind.signed]
    omega
  unfold Program.keyLits
  rw [Try.underlying3]
  simp [hw]
theorem k_lits_a (x : D.Ky) (d : Nat) : ∃ l, Try.prog.keyLits (d + 3) 107 (bys x.l) = some l :=
  ⟨_, lits_arr x.l x.lt 25 x.len 107 (d + 1) Try.underlying107 (by kernel_rfl)⟩
theorem c_key : Try.prog.cellsOf 30 = 25 := by kernel_rfl
theorem c_name : Try.prog.cellsOf 24 = 12 := by kernel_rfl
theorem c_tag : Try.prog.cellsOf 28 = 10 := by kernel_rfl
theorem c_12 : Try.prog.cellsOf 23 = 12 := by kernel_rfl
theorem c_10 : Try.prog.cellsOf 38 = 10 := by kernel_rfl
theorem c_int : Try.prog.cellsOf 3 = 1 := by kernel_rfl
theorem c_rk : Try.prog.cellsOf 40 = 25 := by kernel_rfl
theorem c_px : Try.prog.cellsOf 52 = 26 := by kernel_rfl
theorem k_lits_k (x : D.Ky) (d : Nat) : ∃ l, Try.prog.keyLits (d + 4) 30 (bys x.l) = some l := by
  have hl := x.len
  have h0 := one_lits x.lt (i := 0) (by omega) (d + 2)
  have h1 := one_lits x.lt (i := 1) (by omega) (d + 2)
  have h2 := one_lits x.lt (i := 2) (by omega) (d + 2)
  obtain ⟨ln, hn⟩ := Nm.key_lits x.n 24 (d + 1) Try.underlying24 c_name
  obtain ⟨lt, ht⟩ := key_lits_n x.t d
  have en : bys x.n.l = ((bys x.l).drop 3).take 12 := by rw [bys_drop, bys_take]; rfl
  have et : bys x.t.l = ((bys x.l).drop 15).take 10 := by
    rw [List.take_of_length_le (by rw [List.length_drop, bys_len, hl]; omega), bys_drop]; rfl
  rw [en] at hn
  rw [et] at ht
  rw [List.drop_zero] at h0
  unfold Program.keyLits
  rw [Try.underlying30]
  simp only [bys_len, hl, c_key, c_name, c_tag, cells_u8]
  simp [-List.drop_one, h0, h1, h2, hn, ht, c_name, c_tag, cells_u8]
theorem r_lits (x : D.Rk) (d : Nat) : ∃ l, Try.prog.keyLits (d + 4) 40 (rcells x) = some l := by
  have hl : (rcells x).length = 25 := rS.len x
  have h0 := int_lits x.hk (d + 2)
  have h1 := int_lits x.hp (d + 2)
  have h2 := int_lits x.ha (d + 2)
  obtain ⟨ln, hn⟩ := Nm.key_lits x.n 23 (d + 1) Try.underlying23 c_12
  obtain ⟨lt, ht⟩ := key_lits_a x.t d
  have en : ((rcells x).drop 3).take 12 = bys x.n.l := by
    show (bys x.n.l ++ bys x.t.l).take 12 = _
    rw [List.take_append_of_le_length (by rw [bys_len, x.n.len]; omega), List.take_of_length_le (by rw [bys_len, x.n.len]; omega)]
  have et : ((rcells x).drop 15).take 10 = bys x.t.l := by
    show ((bys x.n.l ++ bys x.t.l).drop 12).take 10 = _
    have : 12 = (bys x.n.l).length := by rw [bys_len, x.n.len]
    rw [this, List.drop_left, List.take_of_length_le (by rw [bys_len, x.t.len]; omega)]
  have e0 : (rcells x).take 1 = [.int .i64 x.k] := rfl
  have e1 : ((rcells x).drop 1).take 1 = [.int .i64 x.p] := rfl
  have e2 : ((rcells x).drop 2).take 1 = [.int .i64 x.a] := rfl
  unfold Program.keyLits
  rw [Try.underlying40]
  simp only [hl, c_rk, c_12, c_10, c_int]
  simp only [true_and]
  simp [-List.drop_one, e0, e1, e2, en, et, h0, h1, h2, hn, ht, c_12, c_10, c_int, hl]
theorem p_lits (x : D.Px) (d : Nat) : ∃ l, Try.prog.keyLits (d + 5) 52 (pcells x) = some l := by
  have hl : (pcells x).length = 26 := pS.len x
  obtain ⟨lk, hk⟩ := k_lits_k x.x d
  have h1 := int_lits x.hd (d + 3)
  have ek : (pcells x).take 25 = bys x.x.l := by
    show (bys x.x.l ++ _).take 25 = _
    rw [List.take_append_of_le_length (by rw [bys_len, x.x.len]; omega), List.take_of_length_le (by rw [bys_len, x.x.len]; omega)]
  have ed : ((pcells x).drop 25).take 1 = [.int .i64 x.d] := by
    have : 25 = (bys x.x.l).length := by rw [bys_len, x.x.len]
    rw [pcells, this, List.drop_left]
    rfl
  unfold Program.keyLits
  rw [Try.underlying52]
  simp only [hl, c_px, c_key, c_int]
  simp [ek, ed, hk, h1, c_key, c_int, hl]
theorem u_key : ∃ fs, Try.prog.underlying 30 = some (.struct fs) := ⟨_, Try.underlying30⟩
theorem u_25 : ∃ n e, Try.prog.underlying 107 = some (.array n e) := ⟨_, _, Try.underlying107⟩
theorem u_rk : ∃ fs, Try.prog.underlying 40 = some (.struct fs) := ⟨_, Try.underlying40⟩
theorem u_px : ∃ fs, Try.prog.underlying 52 = some (.struct fs) := ⟨_, Try.underlying52⟩
theorem key_k (x : D.Ky) : ∃ l, keyOf Try.prog 30 (.agg (kS.v x)) = some l := Shp.key_of (.inr u_key) (by kernel_rfl) c_key (by rw [show Try.prog.types.size + 1 = Try.prog.types.size - 3 + 4 by kernel_rfl]; exact k_lits_k x _)
theorem key_25 (x : D.Ky) : ∃ l, keyOf Try.prog 107 (.agg (kS.v x)) = some l := Shp.key_of (.inl u_25) (by kernel_rfl) (by kernel_rfl) (by rw [show Try.prog.types.size + 1 = Try.prog.types.size - 2 + 3 by kernel_rfl]; exact k_lits_a x _)
theorem key_r (x : D.Rk) : ∃ l, keyOf Try.prog 40 (.agg (rS.v x)) = some l := Shp.key_of (.inr u_rk) (by kernel_rfl) c_rk (by rw [show Try.prog.types.size + 1 = Try.prog.types.size - 3 + 4 by kernel_rfl]; exact r_lits x _)
theorem key_p (x : D.Px) : ∃ l, keyOf Try.prog 52 (.agg (pS.v x)) = some l := Shp.key_of (.inr u_px) (by kernel_rfl) c_px (by rw [show Try.prog.types.size + 1 = Try.prog.types.size - 4 + 5 by kernel_rfl]; exact p_lits x _)
theorem law_k : Maps.Keyed Try.prog 30 := Maps.Keyed.of_law (deep_law_laid laid_out (m := 6) (by omega) (of_decide_eq_true (by kernel_rfl)) (by kernel_rfl) (by rw [Try.underlying30]))
theorem law_25 : Maps.Keyed Try.prog 107 := Maps.Keyed.of_law (deep_law_laid laid_out (m := 6) (by omega) (of_decide_eq_true (by kernel_rfl)) (by kernel_rfl) (by rw [Try.underlying107]))
theorem law_rk : Maps.Keyed Try.prog 40 := Maps.Keyed.of_law (deep_law_laid laid_out (m := 6) (by omega) (of_decide_eq_true (by kernel_rfl)) (by kernel_rfl) (by rw [Try.underlying40]))
theorem law_px : Maps.Keyed Try.prog 52 := Maps.Keyed.of_law (deep_law_laid laid_out (m := 6) (by omega) (of_decide_eq_true (by kernel_rfl)) (by kernel_rfl) (by rw [Try.underlying52]))

noncomputable def ldk (v : Value) : Sem Value := Instr.loadAt 30 v
noncomputable def ldb (v : Value) : Sem Value := Instr.loadAt 107 v
noncomputable def ldr (v : Value) : Sem Value := Instr.loadAt 40 v
noncomputable def ldp (v : Value) : Sem Value := Instr.loadAt 52 v
noncomputable def lvk (a : Addr) : Sem Value := loadVar 30 a
noncomputable def lvb (a : Addr) : Sem Value := loadVar 107 a
noncomputable def lvr (a : Addr) : Sem Value := loadVar 40 a
noncomputable def lvp (a : Addr) : Sem Value := loadVar 52 a
noncomputable def stk (p v : Value) : Sem Unit := Instr.storeAt 30 p v
noncomputable def stb (p v : Value) : Sem Unit := Instr.storeAt 107 p v
noncomputable def strk (p v : Value) : Sem Unit := Instr.storeAt 40 p v
noncomputable def stpx (p v : Value) : Sem Unit := Instr.storeAt 52 p v
noncomputable def eqk (u v : Value) : Sem Value := binOp .eql 30 u v
noncomputable def nek (u v : Value) : Sem Value := binOp .neq 30 u v
noncomputable def eqb (u v : Value) : Sem Value := binOp .eql 107 u v
noncomputable def neb (u v : Value) : Sem Value := binOp .neq 107 u v
noncomputable def eqrk (u v : Value) : Sem Value := binOp .eql 40 u v
noncomputable def nerk (u v : Value) : Sem Value := binOp .neq 40 u v
theorem ld_k (v : Value) : Instr.loadAt 30 v = ldk v := rfl
theorem ld_b (v : Value) : Instr.loadAt 107 v = ldb v := rfl
theorem ld_r (v : Value) : Instr.loadAt 40 v = ldr v := rfl
theorem ld_p (v : Value) : Instr.loadAt 52 v = ldp v := rfl
theorem lv_k (a : Addr) : loadVar 30 a = lvk a := rfl
theorem lv_b (a : Addr) : loadVar 107 a = lvb a := rfl
theorem lv_r (a : Addr) : loadVar 40 a = lvr a := rfl
theorem lv_p (a : Addr) : loadVar 52 a = lvp a := rfl
theorem st_k (p v : Value) : Instr.storeAt 30 p v = stk p v := rfl
theorem st_b (p v : Value) : Instr.storeAt 107 p v = stb p v := rfl
theorem st_rk (p v : Value) : Instr.storeAt 40 p v = strk p v := rfl
theorem st_px (p v : Value) : Instr.storeAt 52 p v = stpx p v := rfl
theorem eq_k (u v : Value) : binOp .eql 30 u v = eqk u v := rfl
theorem ne_k (u v : Value) : binOp .neq 30 u v = nek u v := rfl
theorem eq_b (u v : Value) : binOp .eql 107 u v = eqb u v := rfl
theorem ne_b (u v : Value) : binOp .neq 107 u v = neb u v := rfl
theorem eq_rk (u v : Value) : binOp .eql 40 u v = eqrk u v := rfl
theorem ne_rk (u v : Value) : binOp .neq 40 u v = nerk u v := rfl
noncomputable def bl (t : TypeId) (a : Addr) (w : World) : Result Value := (loadVar t a).run Try.prog w
theorem run_lvk (w : World) (a : Addr) : (lvk a).run Try.prog w = (kS.rd w a).elim (bl 30 a w) fun x => .ok (.agg (kS.v x)) w := by
  cases h : kS.rd w a with
  | none => rfl
  | some x => exact Shp.loadVar_of Try.isAgg30 Try.sizeOf30 (Shp.at_of h)
theorem run_lvb (w : World) (a : Addr) : (lvb a).run Try.prog w = (kS.rd w a).elim (bl 107 a w) fun x => .ok (.agg (kS.v x)) w := by
  cases h : kS.rd w a with
  | none => rfl
  | some x => exact Shp.loadVar_of Try.isAgg107 Try.sizeOf107 (Shp.at_of h)
theorem run_lvr (w : World) (a : Addr) : (lvr a).run Try.prog w = (rS.rd w a).elim (bl 40 a w) fun x => .ok (.agg (rS.v x)) w := by
  cases h : rS.rd w a with
  | none => rfl
  | some x => exact Shp.loadVar_of Try.isAgg40 Try.sizeOf40 (Shp.at_of h)
theorem run_lvp (w : World) (a : Addr) : (lvp a).run Try.prog w = (pS.rd w a).elim (bl 52 a w) fun x => .ok (.agg (pS.v x)) w := by
  cases h : pS.rd w a with
  | none => rfl
  | some x => exact Shp.loadVar_of Try.isAgg52 Try.sizeOf52 (Shp.at_of h)
theorem run_ldk (w : World) (a : Addr) : (ldk (.pointer (some a))).run Try.prog w = (kS.rd w a).elim (bl 30 a w) fun x => .ok (.agg (kS.v x)) w := by
  rw [← run_lvk]; simp only [ldk, lvk, Instr.loadAt, Instr.sureAddr, Sem.run_bind, Sem.run_pure, Result.andThen_ok]
theorem run_ldb (w : World) (a : Addr) : (ldb (.pointer (some a))).run Try.prog w = (kS.rd w a).elim (bl 107 a w) fun x => .ok (.agg (kS.v x)) w := by
  rw [← run_lvb]; simp only [ldb, lvb, Instr.loadAt, Instr.sureAddr, Sem.run_bind, Sem.run_pure, Result.andThen_ok]
theorem run_ldr (w : World) (a : Addr) : (ldr (.pointer (some a))).run Try.prog w = (rS.rd w a).elim (bl 40 a w) fun x => .ok (.agg (rS.v x)) w := by
  rw [← run_lvr]; simp only [ldr, lvr, Instr.loadAt, Instr.sureAddr, Sem.run_bind, Sem.run_pure, Result.andThen_ok]
theorem run_ldp (w : World) (a : Addr) : (ldp (.pointer (some a))).run Try.prog w = (pS.rd w a).elim (bl 52 a w) fun x => .ok (.agg (pS.v x)) w := by
  rw [← run_lvp]; simp only [ldp, lvp, Instr.loadAt, Instr.sureAddr, Sem.run_bind, Sem.run_pure, Result.andThen_ok]
noncomputable def bs (t : TypeId) (g : Nat) (v : Array Value) (w : World) : Result Unit := (Instr.storeAt t (.pointer (some ⟨g, 0, none⟩)) (.agg v)).run Try.prog w
theorem run_stk (w : World) (g : Nat) (x : D.Ky) : (stk (.pointer (some ⟨g, 0, none⟩)) (.agg (kS.v x))).run Try.prog w = bif Shp.tn 25 w g then .ok () (w.setRow g (kS.v x)) else bs 30 g (kS.v x) w := by
  cases h : Shp.tn 25 w g with
  | false => rfl
  | true => exact Shp.storeVar_of (S := kS) h x fun t' cs hb hs => run_storeVar_row (P := Try.prog) w g t' _ cs (kS.v x) hb.out (by rw [kS.v_size]; kernel_rfl) hs (kS.v_one x)
theorem run_stb (w : World) (g : Nat) (x : D.Ky) : (stb (.pointer (some ⟨g, 0, none⟩)) (.agg (kS.v x))).run Try.prog w = bif Shp.tn 25 w g then .ok () (w.setRow g (kS.v x)) else bs 107 g (kS.v x) w := by
  cases h : Shp.tn 25 w g with
  | false => rfl
  | true => exact Shp.storeVar_of (S := kS) h x fun t' cs hb hs => run_storeVar_row (P := Try.prog) w g t' _ cs (kS.v x) hb.out (by rw [kS.v_size]; kernel_rfl) hs (kS.v_one x)
theorem run_strk (w : World) (g : Nat) (x : D.Rk) : (strk (.pointer (some ⟨g, 0, none⟩)) (.agg (rS.v x))).run Try.prog w = bif Shp.tn 25 w g then .ok () (w.setRow g (rS.v x)) else bs 40 g (rS.v x) w := by
  cases h : Shp.tn 25 w g with
  | false => rfl
  | true => exact Shp.storeVar_of (S := rS) h x fun t' cs hb hs => run_storeVar_row (P := Try.prog) w g t' _ cs (rS.v x) hb.out (by rw [rS.v_size]; kernel_rfl) hs (rS.v_one x)
theorem run_stpx (w : World) (g : Nat) (x : D.Px) : (stpx (.pointer (some ⟨g, 0, none⟩)) (.agg (pS.v x))).run Try.prog w = bif Shp.tn 26 w g then .ok () (w.setRow g (pS.v x)) else bs 52 g (pS.v x) w := by
  cases h : Shp.tn 26 w g with
  | false => rfl
  | true => exact Shp.storeVar_of (S := pS) h x fun t' cs hb hs => run_storeVar_row (P := Try.prog) w g t' _ cs (pS.v x) hb.out (by rw [pS.v_size]; kernel_rfl) hs (pS.v_one x)
theorem run_eqk (w : World) (x y : D.Ky) : (eqk (.agg (kS.v x)) (.agg (kS.v y))).run Try.prog w = .ok (.bool (kS.sm x y)) w := by
  simp only [eqk, binOp]
  rw [Sem.run_bind, Shp.run_equal (.inr u_key) (m := 6) (by omega) (by kernel_rfl) law_k key_k]
  rfl
theorem run_nek (w : World) (x y : D.Ky) : (nek (.agg (kS.v x)) (.agg (kS.v y))).run Try.prog w = .ok (.bool (!kS.sm x y)) w := by
  simp only [nek, binOp]
  rw [Sem.run_bind, Shp.run_equal (.inr u_key) (m := 6) (by omega) (by kernel_rfl) law_k key_k]
  rfl
theorem run_eqb (w : World) (x y : D.Ky) : (eqb (.agg (kS.v x)) (.agg (kS.v y))).run Try.prog w = .ok (.bool (kS.sm x y)) w := by
  simp only [eqb, binOp]
  rw [Sem.run_bind, Shp.run_equal (.inl u_25) (m := 6) (by omega) (by kernel_rfl) law_25 key_25]
  rfl
theorem run_neb (w : World) (x y : D.Ky) : (neb (.agg (kS.v x)) (.agg (kS.v y))).run Try.prog w = .ok (.bool (!kS.sm x y)) w := by
  simp only [neb, binOp]
  rw [Sem.run_bind, Shp.run_equal (.inl u_25) (m := 6) (by omega) (by kernel_rfl) law_25 key_25]
  rfl
theorem run_eqrk (w : World) (x y : D.Rk) : (eqrk (.agg (rS.v x)) (.agg (rS.v y))).run Try.prog w = .ok (.bool (rS.sm x y)) w := by
  simp only [eqrk, binOp]
  rw [Sem.run_bind, Shp.run_equal (.inr u_rk) (m := 6) (by omega) (by kernel_rfl) law_rk key_r]
  rfl
theorem run_nerk (w : World) (x y : D.Rk) : (nerk (.agg (rS.v x)) (.agg (rS.v y))).run Try.prog w = .ok (.bool (!rS.sm x y)) w := by
  simp only [nerk, binOp]
  rw [Sem.run_bind, Shp.run_equal (.inr u_rk) (m := 6) (by omega) (by kernel_rfl) law_rk key_r]
  rfl
end Go.Proofs.Ytnggojnfppehpaa
