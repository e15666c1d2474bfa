/-
  
-/
import Derived.Test.YtjlaffgbmcpldaaGreatDoorG00
import Derived.Test.YtjlaffgbmcpldaaGreatDoorG04
import Derived.Lib.AtoiAll
import Derived.Lib.ItoaNum
import Derived.Lib.Index
import Derived.Test.YtjlaffgbmcpldaaGreatDoorShp
set_option linter.unusedVariables false
set_option linter.unusedSimpArgs false
set_option maxRecDepth 100000
namespace Go.Proofs.YtjlaffgbmcpldaaGreatDoor
namespace D

structure Ky where
 l : List Nat
 len : l.length = 25
 lt : ∀ b ∈ l, b < 256
theorem Ky.eq {x y : Ky} (h : x.l = y.l) : x = y := by cases x; cases y; simp at h; subst h; rfl
theorem Ky.eq_iff {x y : Ky} : x = y ↔ x.l = y.l := ⟨fun h => by rw [h], Ky.eq⟩
instance : DecidableEq Ky := fun x y => decidable_of_iff (x.l = y.l) Ky.eq_iff.symm
def zK : Ky := ⟨List.replicate 25 0, by simp, by intro b hb; have := (List.mem_replicate.1 hb).2; omega⟩
instance : Inhabited Ky := ⟨zK⟩
def Ky.k (x : Ky) : Nat := x.l.getD 0 0
def Ky.p (x : Ky) : Nat := x.l.getD 1 0
def Ky.a (x : Ky) : Nat := x.l.getD 2 0
def Ky.n (x : Ky) : Nm.D.Nm := ⟨(x.l.drop 3).take 12, by simp [x.len], fun b hb => x.lt b (List.mem_of_mem_drop (List.mem_of_mem_take hb))⟩
def Ky.t (x : Ky) : Tg := ⟨x.l.drop 15, by simp [x.len], fun b hb => x.lt b (List.mem_of_mem_drop hb)⟩
def mkK (k p a : Nat) (n : Nm.D.Nm) (t : Tg) : Ky := ⟨k % 256 :: p % 256 :: a % 256 :: (n.l ++ t.l), by simp [n.len, t.len], by
 intro b hb
 simp only [List.mem_cons, List.mem_append] at hb
 rcases hb with rfl | rfl | rfl | hb | hb
 ·omega
 ·omega
 ·omega
 ·exact n.lt b hb
 ·exact t.lt b hb⟩
theorem get_lt {l : List Nat} (h : ∀ b ∈ l, b < 256) (i : Nat) : l.getD i 0 < 256 := by
 rw [List.getD]
 cases e : l[i]? with
 | none => simp
 | some b => simpa using h b (List.mem_of_getElem? e)
theorem Ky.k_lt (x : Ky) : x.k < 256 := get_lt x.lt 0
theorem Ky.p_lt (x : Ky) : x.p < 256 := get_lt x.lt 1
theorem Ky.a_lt (x : Ky) : x.a < 256 := get_lt x.lt 2
theorem mkK_k {k p a : Nat} {n : Nm.D.Nm} {t : Tg} (h : k < 256) : (mkK k p a n t).k = k := by simp [Ky.k, mkK]; omega
theorem mkK_p {k p a : Nat} {n : Nm.D.Nm} {t : Tg} (h : p < 256) : (mkK k p a n t).p = p := by simp [Ky.p, mkK]; omega
theorem mkK_a {k p a : Nat} {n : Nm.D.Nm} {t : Tg} (h : a < 256) : (mkK k p a n t).a = a := by simp [Ky.a, mkK]; omega
theorem mkK_n {k p a : Nat} {n : Nm.D.Nm} {t : Tg} : (mkK k p a n t).n = n := Nm.D.Nm.eq (by simp [Ky.n, mkK, n.len])
theorem mkK_t {k p a : Nat} {n : Nm.D.Nm} {t : Tg} : (mkK k p a n t).t = t := Tg.eq (by
 have := n.len
 simp only [Ky.t, mkK, show (15 : Nat) = n.l.length + 3 by omega, List.drop_succ_cons, List.drop_left])
theorem list3 {l : List Nat} (h : 3 ≤ l.length) : l = l.getD 0 0 :: l.getD 1 0 :: l.getD 2 0 :: l.drop 3 := by
 match l, h with
 | a :: b :: c :: r, _ => rfl
theorem mkK_eta (x : Ky) : mkK x.k x.p x.a x.n x.t = x := Ky.eq (by
 have h1 := x.k_lt; have h2 := x.p_lt; have h3 := x.a_lt
 have e : x.n.l ++ x.t.l = x.l.drop 3 := by
  simp only [Ky.n, Ky.t]
  rw [show x.l.drop 15 = (x.l.drop 3).drop 12 by rw [List.drop_drop], List.take_append_drop]
 show x.k % 256 :: x.p % 256 :: x.a % 256 :: (x.n.l ++ x.t.l) = x.l
 rw [Nat.mod_eq_of_lt h1, Nat.mod_eq_of_lt h2, Nat.mod_eq_of_lt h3, e]
 exact (list3 (by rw [x.len]; decide)).symm)
theorem Ky.ext {x y : Ky} (h1 : x.k = y.k) (h2 : x.p = y.p) (h3 : x.a = y.a) (h4 : x.n = y.n) (h5 : x.t = y.t) : x = y := by
 rw [← mkK_eta x, ← mkK_eta y, h1, h2, h3, h4, h5]
theorem Ky.l_eq (x : Ky) : x.l = x.k :: x.p :: x.a :: (x.n.l ++ x.t.l) := by
 have := congrArg Ky.l (mkK_eta x)
 have h1 := x.k_lt; have h2 := x.p_lt; have h3 := x.a_lt
 rw [← this]
 show x.k % 256 :: x.p % 256 :: x.a % 256 :: (x.n.l ++ x.t.l) = _
 rw [Nat.mod_eq_of_lt h1, Nat.mod_eq_of_lt h2, Nat.mod_eq_of_lt h3]

def ats (k : Int) : Nat := if k = 2 then 16 else if k = 4 ∨ k = 5 ∨ k = 6 then 4 else 0
def nmd (k : Int) : Bool := decide (k = 5 ∨ k = 6)
def tgd (k : Int) : Bool := decide (k = 3 ∨ k = 6)
def err (k p a : Int) (n : Nm.D.Nm) (t : Tg) : Int :=
 if k < 1 ∨ 6 < k then 16
 else if (p < 0 ∨ 3 < p) ∨ (0 < ats k ∧ (a < 0 ∨ (ats k : Int) ≤ a)) then 5
 else if nmd k = true ∧ Nm.D.right n = false then 15
 else if tgd k = true ∧ (t = zero ∨ right t = false) then 14 else 0
def mkI (k p a : Int) (n : Nm.D.Nm) (t : Tg) : Ky := mkK k.toNat p.toNat (if 0 < ats k then a.toNat else 0) (if nmd k then n else Nm.D.zero) (if tgd k then t else zero)
def kof (k p a : Int) (n : Nm.D.Nm) (t : Tg) : Ky × Int := if err k p a n t = 0 then (mkI k p a n t, 0) else (zK, err k p a n t)
def kright (x : Ky) : Bool := decide (err x.k x.p x.a x.n x.t = 0 ∧ mkI x.k x.p x.a x.n x.t = x)
theorem err_ok {k p a : Int} {n : Nm.D.Nm} {t : Tg} (h : err k p a n t = 0) : (1 ≤ k ∧ k ≤ 6) ∧ (0 ≤ p ∧ p ≤ 3) ∧ (0 < ats k → 0 ≤ a ∧ a < ats k) ∧ (nmd k = true → Nm.D.right n = true) ∧ (tgd k = true → t ≠ zero ∧ right t = true) := by
 unfold err at h
 split at h
 ·cases h
 ·split at h
  ·cases h
  ·split at h
   ·cases h
   ·split at h
    ·cases h
    ·rename_i h1 h2 h3 h4
     refine ⟨by omega, by omega, fun h0 => by omega, fun h0 => ?_, fun h0 => ⟨fun e => h4 ⟨h0, .inl e⟩, ?_⟩⟩
     ·cases hr : Nm.D.right n
      ·exact absurd ⟨h0, hr⟩ h3
      ·rfl
     ·cases hr : right t
      ·exact absurd ⟨h0, .inr hr⟩ h4
      ·rfl
theorem err_of {k p a : Int} {n : Nm.D.Nm} {t : Tg} (h1 : 1 ≤ k ∧ k ≤ 6) (h2 : 0 ≤ p ∧ p ≤ 3) (h3 : 0 < ats k → 0 ≤ a ∧ a < ats k) (h4 : nmd k = true → Nm.D.right n = true) (h5 : tgd k = true → t ≠ zero ∧ right t = true) : err k p a n t = 0 := by
 unfold err
 rw [if_neg (by omega), if_neg (by intro h; rcases h with h | ⟨h, h'⟩; omega; have := h3 h; omega), if_neg (by rintro ⟨h, h'⟩; rw [h4 h] at h'; cases h'), if_neg (by rintro ⟨h, h'⟩; have := h5 h; rcases h' with h' | h'; exact this.1 h'; rw [this.2] at h'; cases h')]
def nx : Bool → List ByteArray → ByteArray × List ByteArray
 | true, x :: r => (x, r)
 | _, l => (⟨#[]⟩, l)
end D
end Go.Proofs.YtjlaffgbmcpldaaGreatDoor
namespace Go.Proofs.YtjlaffgbmcpldaaGreatDoor
open Go.RowKit

theorem Shp.key_of {α : Type} {S : Shp α} {t : TypeId} {x : α} (hu : (∃ n e, Tryz.prog.underlying t = some (.array n e)) ∨ (∃ fs, Tryz.prog.underlying t = some (.struct fs))) (hkt : Tryz.prog.keyType t = true) (hc : Tryz.prog.cellsOf t = S.n) (hl : ∃ l, Tryz.prog.keyLits (Tryz.prog.types.size + 1) t (S.cs x) = some l) : ∃ l, keyOf Tryz.prog t (.agg (S.v x)) = some l := by
 obtain ⟨l, hl⟩ := hl
 refine ⟨.string (keyBytes l), ?_⟩
 have hs : ((S.v x).size == Tryz.prog.cellsOf t) = true := by rw [S.v_size, hc]; simp
 have e : (S.v x).toList = S.cs x := by simp [Shp.v]
 unfold keyOf
 rcases hu with ⟨n, q, hu⟩ | ⟨fs, hu⟩
 ·rw [hu]
  simp only [hkt, Value.formed, hu, Value.cells, Bool.true_and, hs, if_true, e, hl, Option.map_some]
 ·rw [hu]
  simp only [hkt, Value.formed, hu, Value.cells, Bool.true_and, hs, if_true, e, hl, Option.map_some]
theorem Shp.run_equal {α : Type} {S : Shp α} {t : TypeId} (hu : (∃ n e, Tryz.prog.underlying t = some (.array n e)) ∨ (∃ fs, Tryz.prog.underlying t = some (.struct fs))) {m : Nat} (hm : m ≤ 10000) (hk : Tryz.prog.keyTypeAt m t = true) (K : Maps.Keyed Tryz.prog t)
  (hX : ∀ x : α, ∃ l, keyOf Tryz.prog t (.agg (S.v x)) = some l) (x y : α) (w : World) : (Op.equal t (.agg (S.v x)) (.agg (S.v y))).run Tryz.prog w = .ok (S.sm x y) w := by
 obtain ⟨lx, hx⟩ := hX x
 obtain ⟨ly, hy⟩ := hX y
 have hw : (match Tryz.prog.underlying t with | some (.array _ _) | some (.struct _) => true | _ => false) = true := by
  rcases hu with ⟨n, q, hu⟩ | ⟨fs, hu⟩ <;> rw [hu]
 obtain ⟨r, hr, hiff⟩ := run_equal_deep (P := Tryz.prog) w hm hk hw hx hy
 rw [hr]
 congr 1
 have : (r = true) ↔ x = y := by
  rw [hiff]
  constructor
  ·intro e
   subst e
   have := K.inj hx hy
   injection this with this
   exact S.v_inj this
  ·intro e
   subst e
   rw [hx] at hy
   injection hy
 unfold Shp.sm
 cases r
 ·symm; simpa using this
 ·symm; simpa using this

def kS : Shp D.Ky := ⟨fun x => bys x.l, 25, by decide, fun x => by rw [bys_len, x.len], fun h => D.Ky.eq (bys_inj h), fun x => bys_one x.l⟩
structure D.Rk where
 k : Int
 p : Int
 a : Int
 n : Nm.D.Nm
 t : D.Tg
 hk : -9223372036854775808 ≤ k ∧ k ≤ 9223372036854775807
 hp : -9223372036854775808 ≤ p ∧ p ≤ 9223372036854775807
 ha : -9223372036854775808 ≤ a ∧ a ≤ 9223372036854775807
def rcells (x : D.Rk) : List Value := .int .i64 x.k :: .int .i64 x.p :: .int .i64 x.a :: (bys x.n.l ++ bys x.t.l)
theorem rcells_inj {x y : D.Rk} (h : rcells x = rcells y) : x = y := by
 obtain ⟨k, p, a, n, t, _, _, _⟩ := x
 obtain ⟨k', p', a', n', t', _, _, _⟩ := y
 simp only [rcells, List.cons.injEq, Value.int.injEq, true_and] at h
 obtain ⟨rfl, rfl, rfl, h⟩ := h
 have := List.append_inj h (by simp [bys_len, Nm.D.Nm.len])
 obtain rfl := Nm.D.Nm.eq (bys_inj this.1)
 obtain rfl := D.Tg.eq (bys_inj this.2)
 rfl
def rS : Shp D.Rk := ⟨rcells, 25, by decide, fun x => by simp [rcells, bys_len, x.n.len, x.t.len], rcells_inj, fun x u hu => by
 simp only [rcells, List.mem_cons, List.mem_append] at hu
 rcases hu with rfl | rfl | rfl | hu | hu
 ·rfl
 ·rfl
 ·rfl
 ·exact bys_one _ u hu
 ·exact bys_one _ u hu⟩
structure D.Px where
 x : D.Ky
 d : Int
 hd : -9223372036854775808 ≤ d ∧ d ≤ 9223372036854775807
def pcells (q : D.Px) : List Value := bys q.x.l ++ [.int .i64 q.d]
theorem pcells_inj {x y : D.Px} (h : pcells x = pcells y) : x = y := by
 obtain ⟨x, d, _⟩ := x
 obtain ⟨x', d', _⟩ := y
 have := List.append_inj h (by simp [bys_len, D.Ky.len])
 obtain rfl := D.Ky.eq (bys_inj this.1)
 have h2 := this.2
 simp only [List.cons.injEq, Value.int.injEq, true_and, and_true] at h2
 subst h2
 rfl
def pS : Shp D.Px := ⟨pcells, 26, by decide, fun x => by simp [pcells, bys_len, x.x.len], pcells_inj, fun x u hu => by
 rcases List.mem_append.1 hu with hu | hu
 ·exact bys_one _ u hu
 ·simp only [List.mem_singleton] at hu; subst hu; rfl⟩

theorem one_lits {l : List Nat} (hl : ∀ b ∈ l, b < 256) {i : Nat} (hi : i < l.length) (d : Nat) : Tryz.prog.keyLits (d + 1) 5 (((bys l).drop i).take 1) = some [Lit.int .u8 ((l.getD i 0 : Nat) : Int)] := by
 rw [one_bys hi]
 have hb : l.getD i 0 < 256 := by
  rw [List.getD, List.getElem?_eq_getElem hi]
  exact hl _ (List.getElem_mem _)
 obtain ⟨b, hq⟩ : ∃ b, l.getD i 0 = b := ⟨_, rfl⟩
 rw [hq] at hb ⊢
 have hw : (Lit.int .u8 ((b : Nat) : Int)).wf = true := by
  simp [Lit.wf, IntKind.min, IntKind.max, IntKind.bits, IntKind.signed]
  omega
 unfold Program.keyLits
 rw [Tryz.underlying5]
 simp [hw]
theorem int_lits {n : Int} (h : -9223372036854775808 ≤ n ∧ n ≤ 9223372036854775807) (d : Nat) : Tryz.prog.keyLits (d + 1) 3 [.int .i64 n] = some [Lit.int .i64 n] := by
 have hw : (Lit.int .i64 n).wf = true := by
  simp [Lit.wf, IntKind.min, IntKind.max, IntKind.bits, IntKind.signed]
  omega
 unfold Program.keyLits
 rw [Tryz.underlying3]
 simp [hw]
theorem k_lits_a (x : D.Ky) (d : Nat) : ∃ l, Tryz.prog.keyLits (d + 3) 201 (bys x.l) = some l :=
 ⟨_, lits_arr x.l x.lt 25 x.len 201 (d + 1) Tryz.underlying201 (by kernel_rfl)⟩
theorem c_key : Tryz.prog.cellsOf 39 = 25 := by kernel_rfl
theorem c_name : Tryz.prog.cellsOf 33 = 12 := by kernel_rfl
theorem c_tag : Tryz.prog.cellsOf 37 = 10 := by kernel_rfl
theorem c_12 : Tryz.prog.cellsOf 32 = 12 := by kernel_rfl
theorem c_10 : Tryz.prog.cellsOf 61 = 10 := by kernel_rfl
theorem c_int : Tryz.prog.cellsOf 3 = 1 := by kernel_rfl
theorem c_rk : Tryz.prog.cellsOf 63 = 25 := by kernel_rfl
theorem k_lits_k (x : D.Ky) (d : Nat) : ∃ l, Tryz.prog.keyLits (d + 4) 39 (bys x.l) = some l := by
 have hl := x.len
 have h0 := one_lits x.lt (i := 0) (by omega) (d + 2)
 have h1 := one_lits x.lt (i := 1) (by omega) (d + 2)
 have h2 := one_lits x.lt (i := 2) (by omega) (d + 2)
 obtain ⟨ln, hn⟩ := Nm.key_lits x.n 33 (d + 1) Tryz.underlying33 c_name
 obtain ⟨lt, ht⟩ := key_lits_n x.t d
 have en : bys x.n.l = ((bys x.l).drop 3).take 12 := by rw [bys_drop, bys_take]; rfl
 have et : bys x.t.l = ((bys x.l).drop 15).take 10 := by
  rw [List.take_of_length_le (by rw [List.length_drop, bys_len, hl]; omega), bys_drop]; rfl
 rw [en] at hn
 rw [et] at ht
 rw [List.drop_zero] at h0
 unfold Program.keyLits
 rw [Tryz.underlying39]
 simp only [bys_len, hl, c_key, c_name, c_tag, cells_u8]
 simp [-List.drop_one, h0, h1, h2, hn, ht, c_name, c_tag, cells_u8]
theorem r_lits (x : D.Rk) (d : Nat) : ∃ l, Tryz.prog.keyLits (d + 4) 63 (rcells x) = some l := by
 have hl : (rcells x).length = 25 := rS.len x
 have h0 := int_lits x.hk (d + 2)
 have h1 := int_lits x.hp (d + 2)
 have h2 := int_lits x.ha (d + 2)
 obtain ⟨ln, hn⟩ := Nm.key_lits x.n 32 (d + 1) Tryz.underlying32 c_12
 obtain ⟨lt, ht⟩ := key_lits_a x.t d
 have en : ((rcells x).drop 3).take 12 = bys x.n.l := by
  show (bys x.n.l ++ bys x.t.l).take 12 = _
  rw [List.take_append_of_le_length (by rw [bys_len, x.n.len]; omega), List.take_of_length_le (by rw [bys_len, x.n.len]; omega)]
 have et : ((rcells x).drop 15).take 10 = bys x.t.l := by
  show ((bys x.n.l ++ bys x.t.l).drop 12).take 10 = _
  have : 12 = (bys x.n.l).length := by rw [bys_len, x.n.len]
  rw [this, List.drop_left, List.take_of_length_le (by rw [bys_len, x.t.len]; omega)]
 have e0 : (rcells x).take 1 = [.int .i64 x.k] := rfl
 have e1 : ((rcells x).drop 1).take 1 = [.int .i64 x.p] := rfl
 have e2 : ((rcells x).drop 2).take 1 = [.int .i64 x.a] := rfl
 unfold Program.keyLits
 rw [Tryz.underlying63]
 simp only [hl, c_rk, c_12, c_10, c_int]
 simp only [true_and]
 simp [-List.drop_one, e0, e1, e2, en, et, h0, h1, h2, hn, ht, c_12, c_10, c_int, hl]
theorem u_key : ∃ fs, Tryz.prog.underlying 39 = some (.struct fs) := ⟨_, Tryz.underlying39⟩
theorem u_25 : ∃ n e, Tryz.prog.underlying 201 = some (.array n e) := ⟨_, _, Tryz.underlying201⟩
theorem u_rk : ∃ fs, Tryz.prog.underlying 63 = some (.struct fs) := ⟨_, Tryz.underlying63⟩
theorem key_k (x : D.Ky) : ∃ l, keyOf Tryz.prog 39 (.agg (kS.v x)) = some l := Shp.key_of (.inr u_key) (by kernel_rfl) c_key (by rw [show Tryz.prog.types.size + 1 = Tryz.prog.types.size - 3 + 4 by kernel_rfl]; exact k_lits_k x _)
theorem key_25 (x : D.Ky) : ∃ l, keyOf Tryz.prog 201 (.agg (kS.v x)) = some l := Shp.key_of (.inl u_25) (by kernel_rfl) (by kernel_rfl) (by rw [show Tryz.prog.types.size + 1 = Tryz.prog.types.size - 2 + 3 by kernel_rfl]; exact k_lits_a x _)
theorem key_r (x : D.Rk) : ∃ l, keyOf Tryz.prog 63 (.agg (rS.v x)) = some l := Shp.key_of (.inr u_rk) (by kernel_rfl) c_rk (by rw [show Tryz.prog.types.size + 1 = Tryz.prog.types.size - 3 + 4 by kernel_rfl]; exact r_lits x _)
theorem law_k : Maps.Keyed Tryz.prog 39 := Maps.Keyed.of_law (deep_law_laid laid_out (m := 6) (by omega) (of_decide_eq_true (by kernel_rfl)) (by kernel_rfl) (by rw [Tryz.underlying39]))
theorem law_25 : Maps.Keyed Tryz.prog 201 := Maps.Keyed.of_law (deep_law_laid laid_out (m := 6) (by omega) (of_decide_eq_true (by kernel_rfl)) (by kernel_rfl) (by rw [Tryz.underlying201]))
theorem law_rk : Maps.Keyed Tryz.prog 63 := Maps.Keyed.of_law (deep_law_laid laid_out (m := 6) (by omega) (of_decide_eq_true (by kernel_rfl)) (by kernel_rfl) (by rw [Tryz.underlying63]))
noncomputable def ldk (v : Value) : Sem Value := Instr.loadAt 39 v
noncomputable def ldb (v : Value) : Sem Value := Instr.loadAt 201 v
noncomputable def ldr (v : Value) : Sem Value := Instr.loadAt 63 v
noncomputable def ldp (v : Value) : Sem Value := Instr.loadAt 41 v
noncomputable def lvk (a : Addr) : Sem Value := loadVar 39 a
noncomputable def lvb (a : Addr) : Sem Value := loadVar 201 a
noncomputable def lvr (a : Addr) : Sem Value := loadVar 63 a
noncomputable def lvp (a : Addr) : Sem Value := loadVar 41 a
noncomputable def stk (p v : Value) : Sem Unit := Instr.storeAt 39 p v
noncomputable def stb (p v : Value) : Sem Unit := Instr.storeAt 201 p v
noncomputable def strk (p v : Value) : Sem Unit := Instr.storeAt 63 p v
noncomputable def stpx (p v : Value) : Sem Unit := Instr.storeAt 41 p v
noncomputable def eqk (u v : Value) : Sem Value := binOp .eql 39 u v
noncomputable def nek (u v : Value) : Sem Value := binOp .neq 39 u v
noncomputable def eqb (u v : Value) : Sem Value := binOp .eql 201 u v
noncomputable def neb (u v : Value) : Sem Value := binOp .neq 201 u v
noncomputable def eqrk (u v : Value) : Sem Value := binOp .eql 63 u v
noncomputable def nerk (u v : Value) : Sem Value := binOp .neq 63 u v
theorem ld_k (v : Value) : Instr.loadAt 39 v = ldk v := rfl
theorem ld_b (v : Value) : Instr.loadAt 201 v = ldb v := rfl
theorem ld_r (v : Value) : Instr.loadAt 63 v = ldr v := rfl
theorem ld_p (v : Value) : Instr.loadAt 41 v = ldp v := rfl
theorem lv_k (a : Addr) : loadVar 39 a = lvk a := rfl
theorem lv_b (a : Addr) : loadVar 201 a = lvb a := rfl
theorem lv_r (a : Addr) : loadVar 63 a = lvr a := rfl
theorem lv_p (a : Addr) : loadVar 41 a = lvp a := rfl
theorem st_k (p v : Value) : Instr.storeAt 39 p v = stk p v := rfl
theorem st_b (p v : Value) : Instr.storeAt 201 p v = stb p v := rfl
theorem st_rk (p v : Value) : Instr.storeAt 63 p v = strk p v := rfl
theorem st_px (p v : Value) : Instr.storeAt 41 p v = stpx p v := rfl
theorem eq_k (u v : Value) : binOp .eql 39 u v = eqk u v := rfl
theorem ne_k (u v : Value) : binOp .neq 39 u v = nek u v := rfl
theorem eq_b (u v : Value) : binOp .eql 201 u v = eqb u v := rfl
theorem ne_b (u v : Value) : binOp .neq 201 u v = neb u v := rfl
theorem eq_rk (u v : Value) : binOp .eql 63 u v = eqrk u v := rfl
theorem ne_rk (u v : Value) : binOp .neq 63 u v = nerk u v := rfl
noncomputable def bl (t : TypeId) (a : Addr) (w : World) : Result Value := (loadVar t a).run Tryz.prog w
theorem run_lvk (w : World) (a : Addr) : (lvk a).run Tryz.prog w = (kS.rd w a).elim (bl 39 a w) fun x => .ok (.agg (kS.v x)) w := by
 cases h : kS.rd w a with
 | none => rfl
 | some x => exact Shp.loadVar_of Tryz.isAgg39 Tryz.sizeOf39 (Shp.at_of h)
theorem run_lvb (w : World) (a : Addr) : (lvb a).run Tryz.prog w = (kS.rd w a).elim (bl 201 a w) fun x => .ok (.agg (kS.v x)) w := by
 cases h : kS.rd w a with
 | none => rfl
 | some x => exact Shp.loadVar_of Tryz.isAgg201 Tryz.sizeOf201 (Shp.at_of h)
theorem run_lvr (w : World) (a : Addr) : (lvr a).run Tryz.prog w = (rS.rd w a).elim (bl 63 a w) fun x => .ok (.agg (rS.v x)) w := by
 cases h : rS.rd w a with
 | none => rfl
 | some x => exact Shp.loadVar_of Tryz.isAgg63 Tryz.sizeOf63 (Shp.at_of h)
theorem run_lvp (w : World) (a : Addr) : (lvp a).run Tryz.prog w = (pS.rd w a).elim (bl 41 a w) fun x => .ok (.agg (pS.v x)) w := by
 cases h : pS.rd w a with
 | none => rfl
 | some x => exact Shp.loadVar_of Tryz.isAgg41 Tryz.sizeOf41 (Shp.at_of h)
theorem run_ldk (w : World) (a : Addr) : (ldk (.pointer (some a))).run Tryz.prog w = (kS.rd w a).elim (bl 39 a w) fun x => .ok (.agg (kS.v x)) w := by
 rw [← run_lvk]; simp only [ldk, lvk, Instr.loadAt, Instr.sureAddr, Sem.run_bind, Sem.run_pure, Result.andThen_ok]
theorem run_ldb (w : World) (a : Addr) : (ldb (.pointer (some a))).run Tryz.prog w = (kS.rd w a).elim (bl 201 a w) fun x => .ok (.agg (kS.v x)) w := by
 rw [← run_lvb]; simp only [ldb, lvb, Instr.loadAt, Instr.sureAddr, Sem.run_bind, Sem.run_pure, Result.andThen_ok]
theorem run_ldr (w : World) (a : Addr) : (ldr (.pointer (some a))).run Tryz.prog w = (rS.rd w a).elim (bl 63 a w) fun x => .ok (.agg (rS.v x)) w := by
 rw [← run_lvr]; simp only [ldr, lvr, Instr.loadAt, Instr.sureAddr, Sem.run_bind, Sem.run_pure, Result.andThen_ok]
theorem run_ldp (w : World) (a : Addr) : (ldp (.pointer (some a))).run Tryz.prog w = (pS.rd w a).elim (bl 41 a w) fun x => .ok (.agg (pS.v x)) w := by
 rw [← run_lvp]; simp only [ldp, lvp, Instr.loadAt, Instr.sureAddr, Sem.run_bind, Sem.run_pure, Result.andThen_ok]
noncomputable def bs (t : TypeId) (g : Nat) (v : Array Value) (w : World) : Result Unit := (Instr.storeAt t (.pointer (some ⟨g, 0, none⟩)) (.agg v)).run Tryz.prog w
theorem run_stk (w : World) (g : Nat) (x : D.Ky) : (stk (.pointer (some ⟨g, 0, none⟩)) (.agg (kS.v x))).run Tryz.prog w = bif Shp.tn 25 w g then .ok () (w.setRow g (kS.v x)) else bs 39 g (kS.v x) w := by
 cases h : Shp.tn 25 w g with
 | false => rfl
 | true => exact Shp.storeVar_of (S := kS) h x fun t' cs hb hs => run_storeVar_row (P := Tryz.prog) w g t' _ cs (kS.v x) hb.out (by rw [kS.v_size]; kernel_rfl) hs (kS.v_one x)
theorem run_stb (w : World) (g : Nat) (x : D.Ky) : (stb (.pointer (some ⟨g, 0, none⟩)) (.agg (kS.v x))).run Tryz.prog w = bif Shp.tn 25 w g then .ok () (w.setRow g (kS.v x)) else bs 201 g (kS.v x) w := by
 cases h : Shp.tn 25 w g with
 | false => rfl
 | true => exact Shp.storeVar_of (S := kS) h x fun t' cs hb hs => run_storeVar_row (P := Tryz.prog) w g t' _ cs (kS.v x) hb.out (by rw [kS.v_size]; kernel_rfl) hs (kS.v_one x)
theorem run_strk (w : World) (g : Nat) (x : D.Rk) : (strk (.pointer (some ⟨g, 0, none⟩)) (.agg (rS.v x))).run Tryz.prog w = bif Shp.tn 25 w g then .ok () (w.setRow g (rS.v x)) else bs 63 g (rS.v x) w := by
 cases h : Shp.tn 25 w g with
 | false => rfl
 | true => exact Shp.storeVar_of (S := rS) h x fun t' cs hb hs => run_storeVar_row (P := Tryz.prog) w g t' _ cs (rS.v x) hb.out (by rw [rS.v_size]; kernel_rfl) hs (rS.v_one x)
theorem run_stpx (w : World) (g : Nat) (x : D.Px) : (stpx (.pointer (some ⟨g, 0, none⟩)) (.agg (pS.v x))).run Tryz.prog w = bif Shp.tn 26 w g then .ok () (w.setRow g (pS.v x)) else bs 41 g (pS.v x) w := by
 cases h : Shp.tn 26 w g with
 | false => rfl
 | true => exact Shp.storeVar_of (S := pS) h x fun t' cs hb hs => run_storeVar_row (P := Tryz.prog) w g t' _ cs (pS.v x) hb.out (by rw [pS.v_size]; kernel_rfl) hs (pS.v_one x)
theorem run_eqk (w : World) (x y : D.Ky) : (eqk (.agg (kS.v x)) (.agg (kS.v y))).run Tryz.prog w = .ok (.bool (kS.sm x y)) w := by
 simp only [eqk, binOp]
 rw [Sem.run_bind, Shp.run_equal (.inr u_key) (m := 6) (by omega) (by kernel_rfl) law_k key_k]
 rfl
theorem run_nek (w : World) (x y : D.Ky) : (nek (.agg (kS.v x)) (.agg (kS.v y))).run Tryz.prog w = .ok (.bool (!kS.sm x y)) w := by
 simp only [nek, binOp]
 rw [Sem.run_bind, Shp.run_equal (.inr u_key) (m := 6) (by omega) (by kernel_rfl) law_k key_k]
 rfl
theorem run_eqb (w : World) (x y : D.Ky) : (eqb (.agg (kS.v x)) (.agg (kS.v y))).run Tryz.prog w = .ok (.bool (kS.sm x y)) w := by
 simp only [eqb, binOp]
 rw [Sem.run_bind, Shp.run_equal (.inl u_25) (m := 6) (by omega) (by kernel_rfl) law_25 key_25]
 rfl
theorem run_neb (w : World) (x y : D.Ky) : (neb (.agg (kS.v x)) (.agg (kS.v y))).run Tryz.prog w = .ok (.bool (!kS.sm x y)) w := by
 simp only [neb, binOp]
 rw [Sem.run_bind, Shp.run_equal (.inl u_25) (m := 6) (by omega) (by kernel_rfl) law_25 key_25]
 rfl
theorem run_eqrk (w : World) (x y : D.Rk) : (eqrk (.agg (rS.v x)) (.agg (rS.v y))).run Tryz.prog w = .ok (.bool (rS.sm x y)) w := by
 simp only [eqrk, binOp]
 rw [Sem.run_bind, Shp.run_equal (.inr u_rk) (m := 6) (by omega) (by kernel_rfl) law_rk key_r]
 rfl
theorem run_nerk (w : World) (x y : D.Rk) : (nerk (.agg (rS.v x)) (.agg (rS.v y))).run Tryz.prog w = .ok (.bool (!rS.sm x y)) w := by
 simp only [nerk, binOp]
 rw [Sem.run_bind, Shp.run_equal (.inr u_rk) (m := 6) (by omega) (by kernel_rfl) law_rk key_r]
 rfl
end Go.Proofs.YtjlaffgbmcpldaaGreatDoor
namespace Go.Proofs.YtjlaffgbmcpldaaGreatDoor
namespace D
theorem Rk.eq {x y : Rk} (h1 : x.k = y.k) (h2 : x.p = y.p) (h3 : x.a = y.a) (h4 : x.n = y.n) (h5 : x.t = y.t) : x = y := by
 cases x; cases y; simp only at h1 h2 h3 h4 h5; subst h1; subst h2; subst h3; subst h4; subst h5; rfl
instance : DecidableEq Rk := fun x y => decidable_of_iff (x.k = y.k ∧ x.p = y.p ∧ x.a = y.a ∧ x.n = y.n ∧ x.t = y.t) ⟨fun ⟨h1, h2, h3, h4, h5⟩ => Rk.eq h1 h2 h3 h4 h5, fun h => by subst h; exact ⟨rfl, rfl, rfl, rfl, rfl⟩⟩
def zR : Rk := ⟨0, 0, 0, Nm.D.zero, zero, by decide, by decide, by decide⟩
def upto (x : Ky) (d : Int) : Ky :=
 if d = 0 then zK else if d = 1 then mkK x.k 0 0 Nm.D.zero zero else if d = 2 then mkK x.k x.p 0 Nm.D.zero zero else if d = 3 then mkK x.k x.p x.a Nm.D.zero zero else if d = 4 then mkK x.k x.p x.a x.n zero else x
def has (p : Ky) (d : Int) (x : Ky) : Bool := decide (0 ≤ d ∧ d ≤ 5 ∧ upto p d = upto x d)
def ends (d : Int) : Nat := if d = 1 then 1 else if d = 2 then 2 else if d = 3 then 3 else if d = 4 then 15 else if d = 5 then 25 else 0
theorem mkK_inj {k p a k' p' a' : Nat} {n n' : Nm.D.Nm} {t t' : Tg} (hk : k < 256) (hp : p < 256) (ha : a < 256) (hk' : k' < 256) (hp' : p' < 256) (ha' : a' < 256) : mkK k p a n t = mkK k' p' a' n' t' ↔ k = k' ∧ p = p' ∧ a = a' ∧ n = n' ∧ t = t' := by
 constructor
 ·intro h
  have h1 := congrArg Ky.k h
  have h2 := congrArg Ky.p h
  have h3 := congrArg Ky.a h
  have h4 := congrArg Ky.n h
  have h5 := congrArg Ky.t h
  rw [mkK_k hk, mkK_k hk'] at h1
  rw [mkK_p hp, mkK_p hp'] at h2
  rw [mkK_a ha, mkK_a ha'] at h3
  rw [mkK_n, mkK_n] at h4
  rw [mkK_t, mkK_t] at h5
  exact ⟨h1, h2, h3, h4, h5⟩
 ·rintro ⟨rfl, rfl, rfl, rfl, rfl⟩; rfl
theorem has_iff (p : Ky) (d : Int) (x : Ky) : has p d x = decide (0 ≤ d ∧ d ≤ 5 ∧ (d < 1 ∨ p.k = x.k) ∧ (d < 2 ∨ p.p = x.p) ∧ (d < 3 ∨ p.a = x.a) ∧ (d < 4 ∨ p.n = x.n) ∧ (d < 5 ∨ p.t = x.t)) := by
 unfold has
 rw [decide_eq_decide]
 refine and_congr_right fun h0 => and_congr_right fun h5 => ?_
 have a1 := p.k_lt; have a2 := p.p_lt; have a3 := p.a_lt
 have b1 := x.k_lt; have b2 := x.p_lt; have b3 := x.a_lt
 obtain rfl | rfl | rfl | rfl | rfl | rfl : d = 0 ∨ d = 1 ∨ d = 2 ∨ d = 3 ∨ d = 4 ∨ d = 5 := by omega
 ·simp [upto]
 ·simp [upto, mkK_inj a1 (show 0 < 256 by omega) (show 0 < 256 by omega) b1 (show 0 < 256 by omega) (show 0 < 256 by omega)]
 ·simp [upto, mkK_inj a1 a2 (show 0 < 256 by omega) b1 b2 (show 0 < 256 by omega)]
 ·simp [upto, mkK_inj a1 a2 a3 b1 b2 b3]
 ·simp [upto, mkK_inj a1 a2 a3 b1 b2 b3]
 ·simp only [upto]
  constructor
  ·intro h
   have h : p = x := h
   subst h; simp
  ·intro h
   have h : p.k = x.k ∧ p.p = x.p ∧ p.a = x.a ∧ p.n = x.n ∧ p.t = x.t := by simpa using h
   exact Ky.ext h.1 h.2.1 h.2.2.1 h.2.2.2.1 h.2.2.2.2
theorem has_take {p x : Ky} {d : Int} (h0 : 0 ≤ d) (h5 : d ≤ 5) : has p d x = decide (p.l.take (ends d) = x.l.take (ends d)) := by
 rw [has_iff, decide_eq_decide]
 have hn : ∀ y : Ky, y.l = y.k :: y.p :: y.a :: (y.n.l ++ y.t.l) := Ky.l_eq
 have e12 : ∀ y : Ky, (y.n.l ++ y.t.l).take 12 = y.n.l := fun y => by
  rw [List.take_append_of_le_length (by rw [y.n.len]; omega), List.take_of_length_le (by rw [y.n.len]; omega)]
 obtain rfl | rfl | rfl | rfl | rfl | rfl : d = 0 ∨ d = 1 ∨ d = 2 ∨ d = 3 ∨ d = 4 ∨ d = 5 := by omega
 ·simp [ends]
 ·rw [hn p, hn x]; simp [ends]
 ·rw [hn p, hn x]; simp [ends]
 ·rw [hn p, hn x]; simp [ends]
 ·rw [hn p, hn x]
  show _ ↔ (p.k :: p.p :: p.a :: (p.n.l ++ p.t.l).take 12) = (x.k :: x.p :: x.a :: (x.n.l ++ x.t.l).take 12)
  rw [e12, e12]
  simp [Nm.D.Nm.eq_iff]
 ·show _ ↔ p.l.take 25 = x.l.take 25
  rw [List.take_of_length_le (by rw [p.len]; omega), List.take_of_length_le (by rw [x.len]; omega)]
  constructor
  ·intro h
   have h : p.k = x.k ∧ p.p = x.p ∧ p.a = x.a ∧ p.n = x.n ∧ p.t = x.t := by simpa using h
   rw [Ky.ext h.1 h.2.1 h.2.2.1 h.2.2.2.1 h.2.2.2.2]
  ·intro h
   have := Ky.eq h
   subst this; simp
theorem ends_le (d : Int) : ends d ≤ 25 := by
 unfold ends
 split
 ·omega
 ·split
  ·omega
  ·split
   ·omega
   ·split
    ·omega
    ·split <;> omega
end D
theorem kS_sm (x y : D.Ky) : kS.sm x y = decide (x = y) := by unfold Shp.sm; congr
end Go.Proofs.YtjlaffgbmcpldaaGreatDoor
namespace Go.Proofs.YtjlaffgbmcpldaaGreatDoor
open Go.RowKit

theorem add_o (g o j : Nat) : (⟨g, o, none⟩ : Addr).add j = ⟨g, o + j, none⟩ := by simp [Addr.add]
structure KF (w : World) (g o : Nat) (x : D.Ky) : Prop where
 k : w.cell? ⟨g, o, none⟩ = some (.int .u8 x.k)
 p : w.cell? ⟨g, o + 1, none⟩ = some (.int .u8 x.p)
 a : w.cell? ⟨g, o + 2, none⟩ = some (.int .u8 x.a)
 n : Nm.rd w ⟨g, o + 3, none⟩ = some x.n
 t : rd w ⟨g, o + 15, none⟩ = some x.t
theorem bys_get {l : List Nat} {i : Nat} (h : i < l.length) : (bys l)[i]? = some (.int .u8 ((l.getD i 0 : Nat) : Int)) := by
 simp [bys, List.getElem?_eq_getElem h, List.getD]
theorem kf_of {w : World} {g o : Nat} {x : D.Ky} (h : kS.rd w ⟨g, o, none⟩ = some x) : KF w g o x := by
 have hc : kS.At w ⟨g, o, none⟩ x := Shp.at_of h
 have hx := x.len
 have c : ∀ j u, (bys x.l)[j]? = some u → w.cell? ⟨g, o + j, none⟩ = some u := fun j u hu => by have := hc j u hu; rwa [add_o] at this
 refine ⟨c 0 _ (bys_get (by omega)), c 1 _ (bys_get (by omega)), c 2 _ (bys_get (by omega)), Nm.rd_of fun j u hu => ?_, rd_of fun j u hu => ?_⟩
 ·rw [add_o, Nat.add_assoc]
  refine c (3 + j) u ?_
  have hj : j < 12 := by have := (List.getElem?_eq_some_iff.1 hu).1; rwa [bys_len, x.n.len] at this
  rw [show x.n.l = (x.l.drop 3).take 12 from rfl, ← bys_take, ← bys_drop, List.getElem?_take_of_lt hj, List.getElem?_drop] at hu
  exact hu
 ·rw [add_o, Nat.add_assoc]
  refine c (15 + j) u ?_
  rw [show x.t.l = x.l.drop 15 from rfl, ← bys_drop, List.getElem?_drop] at hu
  exact hu
theorem kf0 {w : World} {g : Nat} {x : D.Ky} (h : kS.rd w ⟨g, 0, none⟩ = some x) : w.cell? ⟨g, 0, none⟩ = some (.int .u8 x.k) ∧ w.cell? ⟨g, 1, none⟩ = some (.int .u8 x.p) ∧ w.cell? ⟨g, 2, none⟩ = some (.int .u8 x.a) ∧ Nm.rd w ⟨g, 3, none⟩ = some x.n ∧ rd w ⟨g, 15, none⟩ = some x.t := by
 obtain ⟨h1, h2, h3, h4, h5⟩ := kf_of h
 simp only [Nat.zero_add] at h2 h3 h4 h5
 exact ⟨h1, h2, h3, h4, h5⟩
theorem pf0 {w : World} {g : Nat} {q : D.Px} (h : pS.rd w ⟨g, 0, none⟩ = some q) : kS.rd w ⟨g, 0, none⟩ = some q.x ∧ w.cell? ⟨g, 25, none⟩ = some (.int .i64 q.d) := by
 have hc : pS.At w ⟨g, 0, none⟩ q := Shp.at_of h
 have hn : (bys q.x.l).length = 25 := by rw [bys_len, q.x.len]
 have c : ∀ j u, (pcells q)[j]? = some u → w.cell? ((⟨g, 0, none⟩ : Addr).add j) = some u := hc
 refine ⟨Shp.rd_of fun j u hu => c j u ?_, ?_⟩
 ·have hu : (bys q.x.l)[j]? = some u := hu
  have hj := (List.getElem?_eq_some_iff.1 hu).1
  rw [pcells, List.getElem?_append_left hj, hu]
 ·have := c 25 (.int .i64 q.d) (by rw [pcells, List.getElem?_append_right (by omega), hn]; rfl)
  rwa [add_o, Nat.zero_add] at this

noncomputable def bdk (ps : Array (Nat × Value)) : Sem Value := Instr.build 39 ps
noncomputable def bdr (ps : Array (Nat × Value)) : Sem Value := Instr.build 63 ps
noncomputable def bdp (ps : Array (Nat × Value)) : Sem Value := Instr.build 41 ps
noncomputable def bd25 (ps : Array (Nat × Value)) : Sem Value := Instr.build 201 ps
theorem bd_k (ps : Array (Nat × Value)) : Instr.build 39 ps = bdk ps := rfl
theorem bd_r (ps : Array (Nat × Value)) : Instr.build 63 ps = bdr ps := rfl
theorem bd_p (ps : Array (Nat × Value)) : Instr.build 41 ps = bdp ps := rfl
theorem bd_25 (ps : Array (Nat × Value)) : Instr.build 201 ps = bd25 ps := rfl
theorem kv_mk {k p a : Nat} (n : Nm.D.Nm) (t : D.Tg) (hk : k < 256) (hp : p < 256) (ha : a < 256) : kS.v (D.mkK k p a n t) = ((Value.int .u8 k) :: (Value.int .u8 p) :: (Value.int .u8 a) :: (bys n.l ++ bys t.l)).toArray := by
 show (bys (k % 256 :: p % 256 :: a % 256 :: (n.l ++ t.l))).toArray = _
 rw [Nat.mod_eq_of_lt hk, Nat.mod_eq_of_lt hp, Nat.mod_eq_of_lt ha]
 simp [bys]
theorem run_bdk_z (w : World) : (bdk #[]).run Tryz.prog w = .ok (.agg (kS.v D.zK)) w := by
 simp [bdk, Instr.build, go_sem]
 rfl
theorem run_bdk_1 (w : World) (k : Nat) (hk : k < 256) : (bdk #[(0, .int .u8 (k : Int))]).run Tryz.prog w = .ok (.agg (kS.v (D.mkK k 0 0 Nm.D.zero D.zero))) w := by
 rw [kv_mk _ _ hk (by decide) (by decide)]
 simp [bdk, Instr.build, go_sem]
 rfl
theorem run_bdk_2 (w : World) (k p : Nat) (hk : k < 256) (hp : p < 256) : (bdk #[(0, .int .u8 (k : Int)), (1, .int .u8 (p : Int))]).run Tryz.prog w = .ok (.agg (kS.v (D.mkK k p 0 Nm.D.zero D.zero))) w := by
 rw [kv_mk _ _ hk hp (by decide)]
 simp [bdk, Instr.build, go_sem]
 rfl
theorem run_bdk_3 (w : World) (k p a : Nat) (hk : k < 256) (hp : p < 256) (ha : a < 256) : (bdk #[(0, .int .u8 (k : Int)), (1, .int .u8 (p : Int)), (2, .int .u8 (a : Int))]).run Tryz.prog w = .ok (.agg (kS.v (D.mkK k p a Nm.D.zero D.zero))) w := by
 rw [kv_mk _ _ hk hp ha]
 simp [bdk, Instr.build, go_sem]
 rfl
theorem run_bdk_4 (w : World) (k p a : Nat) (n : Nm.D.Nm) (hk : k < 256) (hp : p < 256) (ha : a < 256) : (bdk #[(0, .int .u8 (k : Int)), (1, .int .u8 (p : Int)), (2, .int .u8 (a : Int)), (3, .agg (Nm.nc n))]).run Tryz.prog w = .ok (.agg (kS.v (D.mkK k p a n D.zero))) w := by
 rw [kv_mk _ _ hk hp ha]
 obtain ⟨b0, b1, b2, b3, b4, b5, b6, b7, b8, b9, b10, b11, hn⟩ := Nm.twelve n
 have : bys n.l = [b0, b1, b2, b3, b4, b5, b6, b7, b8, b9, b10, b11] := by simpa [Nm.nc] using congrArg Array.toList hn
 rw [hn, this]
 simp [bdk, Instr.build, go_sem]
 rfl
theorem bdk1 (w : World) (x : D.Ky) : (bdk #[(0, .int .u8 (x.k : Int))]).run Tryz.prog w = .ok (.agg (kS.v (D.mkK x.k 0 0 Nm.D.zero D.zero))) w := run_bdk_1 w _ x.k_lt
theorem bdk2 (w : World) (x : D.Ky) : (bdk #[(0, .int .u8 (x.k : Int)), (1, .int .u8 (x.p : Int))]).run Tryz.prog w = .ok (.agg (kS.v (D.mkK x.k x.p 0 Nm.D.zero D.zero))) w := run_bdk_2 w _ _ x.k_lt x.p_lt
theorem bdk3 (w : World) (x : D.Ky) : (bdk #[(0, .int .u8 (x.k : Int)), (1, .int .u8 (x.p : Int)), (2, .int .u8 (x.a : Int))]).run Tryz.prog w = .ok (.agg (kS.v (D.mkK x.k x.p x.a Nm.D.zero D.zero))) w := run_bdk_3 w _ _ _ x.k_lt x.p_lt x.a_lt
theorem bdk4 (w : World) (x : D.Ky) : (bdk #[(0, .int .u8 (x.k : Int)), (1, .int .u8 (x.p : Int)), (2, .int .u8 (x.a : Int)), (3, .agg (Nm.nc x.n))]).run Tryz.prog w = .ok (.agg (kS.v (D.mkK x.k x.p x.a x.n D.zero))) w := run_bdk_4 w _ _ _ _ x.k_lt x.p_lt x.a_lt
theorem run_bdr_z (w : World) : (bdr #[]).run Tryz.prog w = .ok (.agg (rS.v D.zR)) w := by
 simp [bdr, Instr.build, go_sem]
 rfl
theorem kset_a (k p a : Nat) (n : Nm.D.Nm) (t : D.Tg) (b : Nat) (hb : b < 256) : (kS.v (D.mkK k p a n t)).setIfInBounds 2 (.int .u8 (b : Int)) = kS.v (D.mkK k p b n t) := by
 show Array.setIfInBounds (bys (k % 256 :: p % 256 :: a % 256 :: (n.l ++ t.l))).toArray 2 (Value.int .u8 (b : Int)) = (bys (k % 256 :: p % 256 :: b % 256 :: (n.l ++ t.l))).toArray
 rw [Nat.mod_eq_of_lt hb]
 simp [bys]
theorem run_stn3 (w : World) (g k p a : Nat) (n m : Nm.D.Nm) (t : D.Tg) (ty : TypeId) (h : g = w.heap.size) :
  (Nm.st 33 (.pointer (some ⟨g, 3, none⟩)) (.agg (Nm.nc m))).run Tryz.prog (w.alloc (.cells (kS.v (D.mkK k p a n t)) ty)) = .ok () (w.alloc (.cells (kS.v (D.mkK k p a m t)) ty)) := by
 subst h
 have hs := run_storeCells_at (P := Tryz.prog) w.heap.size 3 ty (bys m.l) 0 (kS.v (D.mkK k p a n t)) (w.alloc (.cells (kS.v (D.mkK k p a n t)) ty)) (heap_alloc_new w _) (by rw [kS.v_size, bys_len, m.len]; decide) (bys_one m.l)
 have e : ((kS.v (D.mkK k p a n t)).toList.take (3 + 0) ++ bys m.l ++ (kS.v (D.mkK k p a n t)).toList.drop (3 + 0 + (bys m.l).length)).toArray = kS.v (D.mkK k p a m t) := by
  rw [bys_len, m.len]
  show ((bys (k % 256 :: p % 256 :: a % 256 :: (n.l ++ t.l))).take 3 ++ bys m.l ++ (bys (k % 256 :: p % 256 :: a % 256 :: (n.l ++ t.l))).drop 15).toArray = (bys (k % 256 :: p % 256 :: a % 256 :: (m.l ++ t.l))).toArray
  rw [bys_drop, show (k % 256 :: p % 256 :: a % 256 :: (n.l ++ t.l)).drop 15 = (n.l ++ t.l).drop 12 from rfl, show 12 = n.l.length from n.len.symm, List.drop_left]
  simp [bys]
 rw [e, setRow_alloc _ _ _ _ _ rfl] at hs
 simp only [Nm.st, Instr.storeAt, Instr.sureAddr, Sem.run_bind, Sem.run_pure, Result.andThen_ok]
 have hi : (Tryz.prog.info? 33).map (·.size) = some 12 := by kernel_rfl
 cases hq : Tryz.prog.info? 33 with
 | none => simp [hq] at hi
 | some i =>
  have hsz : i.size = 12 := by simpa [hq] using hi
  simp [storeVar, sizeOf, typeInfo, hq, Value.cells, Nm.nc_size, hsz]
  exact hs
theorem run_stt15 (w : World) (g k p a : Nat) (n : Nm.D.Nm) (t m : D.Tg) (ty : TypeId) (h : g = w.heap.size) :
  (st 37 (.pointer (some ⟨g, 15, none⟩)) (.agg (nc m))).run Tryz.prog (w.alloc (.cells (kS.v (D.mkK k p a n t)) ty)) = .ok () (w.alloc (.cells (kS.v (D.mkK k p a n m)) ty)) := by
 subst h
 have hs := run_storeCells_at (P := Tryz.prog) w.heap.size 15 ty (bys m.l) 0 (kS.v (D.mkK k p a n t)) (w.alloc (.cells (kS.v (D.mkK k p a n t)) ty)) (heap_alloc_new w _) (by rw [kS.v_size, bys_len, m.len]; decide) (bys_one m.l)
 have e : ((kS.v (D.mkK k p a n t)).toList.take (15 + 0) ++ bys m.l ++ (kS.v (D.mkK k p a n t)).toList.drop (15 + 0 + (bys m.l).length)).toArray = kS.v (D.mkK k p a n m) := by
  rw [bys_len, m.len]
  show ((bys (k % 256 :: p % 256 :: a % 256 :: (n.l ++ t.l))).take 15 ++ bys m.l ++ (bys (k % 256 :: p % 256 :: a % 256 :: (n.l ++ t.l))).drop 25).toArray = (bys (k % 256 :: p % 256 :: a % 256 :: (n.l ++ m.l))).toArray
  have h1 : (k % 256 :: p % 256 :: a % 256 :: (n.l ++ t.l)).take 15 = k % 256 :: p % 256 :: a % 256 :: n.l := by
   show k % 256 :: p % 256 :: a % 256 :: (n.l ++ t.l).take 12 = _
   rw [show 12 = n.l.length from n.len.symm, List.take_left]
  rw [bys_take, h1, bys_drop, List.drop_of_length_le (by simp [n.len, t.len])]
  simp [bys]
 rw [e, setRow_alloc _ _ _ _ _ rfl] at hs
 simp only [st, Instr.storeAt, Instr.sureAddr, Sem.run_bind, Sem.run_pure, Result.andThen_ok]
 have hi : (Tryz.prog.info? 37).map (·.size) = some 10 := by kernel_rfl
 cases hq : Tryz.prog.info? 37 with
 | none => simp [hq] at hi
 | some i =>
  have hsz : i.size = 10 := by simpa [hq] using hi
  simp [storeVar, sizeOf, typeInfo, hq, Value.cells, nc_size, hsz]
  exact hs
theorem below_up {B : Nat} {w0 w w' : World} (h : Below B w0 w) (hs : B ≤ w.heap.size) (hb : Below w.heap.size w w') : Below B w0 w' := h.trans (hb.mono hs)
abbrev z25 : Array Value := #[.int .u8 0, .int .u8 0, .int .u8 0, .int .u8 0, .int .u8 0, .int .u8 0, .int .u8 0, .int .u8 0, .int .u8 0, .int .u8 0, .int .u8 0, .int .u8 0, .int .u8 0, .int .u8 0, .int .u8 0, .int .u8 0, .int .u8 0, .int .u8 0, .int .u8 0, .int .u8 0, .int .u8 0, .int .u8 0, .int .u8 0, .int .u8 0, .int .u8 0]
theorem kz : kS.v D.zK = z25 := rfl
end Go.Proofs.YtjlaffgbmcpldaaGreatDoor
