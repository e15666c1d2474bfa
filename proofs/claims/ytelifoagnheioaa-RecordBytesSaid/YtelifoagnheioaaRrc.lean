/-
  The closures that read a record's fields.
-/
import Derived.Test.YtelifoagnheioaaRck
set_option linter.unusedVariables false
set_option linter.unusedSimpArgs false
set_option maxRecDepth 100000
namespace Go.Proofs.Ytelifoagnheioaa
open Go.RowKit
attribute [local go_sem ↓] Go.wp_at_zero Go.wp_at_succ

section
variable {q n c : Nat} {B : Option Addr} {l : List Nat} {w : World} {z : D.Rz}
theorem zn_eq (l : List Nat) (z : D.Rz) (k : Int) (m : Nat) : (D.zn l z k m).n = pl z.e z.n (D.rd k m (l.drop z.n)) ∧ (D.zn l z k m).e = er z.e (D.rd k m (l.drop z.n)) ∧ D.zx l z k m = xx z.e (D.rd k m (l.drop z.n)) ∧ D.zs l z k m = ss z.e (D.rd k m (l.drop z.n)) := by
  unfold D.zn D.zx D.zs pl er xx ss
  by_cases h : z.e = 0
  · simp [h]
  · simp [h]
/-- A reader's call: the value, and the reader is so. -/
def Rw_ (q : Nat) (B : Option Addr) (n c : Nat) (l : List Nat) (v : Value) (z : D.Rz) (w : World) (en : Ending) (w' : World) : Prop := en = .returned v ∧ Rd w' q B n c l z.n z.e ∧ Only (fun i => i = q) w w'
theorem rz_byte (v : Nat) (hv : D.zx l z 0 0 = v) (h : Rd w q B n c l z.n z.e) : Calls Try.prog 51 #[.pointer (some ⟨q, 0, none⟩)] w (Rw_ q B n c l (.int .u8 (v : Nat)) (D.zn l z 0 0) w) := by
  obtain ⟨e1, e2, e3, e4⟩ := zn_eq l z 0 0
  rw [e3, D.rd0] at hv
  refine (r_byte q n c z.n z.e B l w v h ⟨hv⟩).mono fun en w' hR => ?_
  unfold Read at hR
  unfold Rw_
  rw [e1, e2, D.rd0]
  exact hR
theorem rz_number (m v : Nat) (hm : m < 18446744073709551616) (hv : D.zx l z 3 m = v) (h : Rd w q B n c l z.n z.e) : Calls Try.prog 62 #[.pointer (some ⟨q, 0, none⟩), .int .u64 (m : Nat)] w (Rw_ q B n c l (.int .u64 (v : Nat)) (D.zn l z 3 m) w) := by
  obtain ⟨e1, e2, e3, e4⟩ := zn_eq l z 3 m
  subst hv
  refine (r_number q n c z.n z.e B l w m hm h).mono fun en w' hR => ?_
  unfold Read at hR
  unfold Rw_
  rw [e1, e2, e3, D.rd3]
  exact hR
theorem rz_text (m : Nat) (hm : m ≤ 1000000) (h : Rd w q B n c l z.n z.e) : Calls Try.prog 65 #[.pointer (some ⟨q, 0, none⟩), .int .i64 (m : Nat)] w (Rw_ q B n c l (.string (D.sb (D.zs l z 4 m))) (D.zn l z 4 m) w) := by
  obtain ⟨e1, e2, e3, e4⟩ := zn_eq l z 4 m
  have hR := r_text q n c z.n z.e B l w (m : Int) (by omega) (by omega) h
  rw [Int.toNat_natCast] at hR
  refine hR.mono fun en w' hR => ?_
  unfold Read at hR
  unfold Rw_
  rw [e1, e2, e4, D.rd4]
  exact hR
end
theorem D.num_le (m : Nat) (r : List Nat) : (D.num m r).x ≤ m := by
  unfold D.num
  split
  · exact Nat.zero_le _
  · split
    · exact Nat.zero_le _
    · simp only; omega
theorem D.zx_le (l : List Nat) (z : D.Rz) (m : Nat) : D.zx l z 3 m ≤ m := by
  unfold D.zx
  split
  · exact D.num_le m _
  · exact Nat.zero_le _
theorem D.zx_256 {l : List Nat} (hl : ∀ b ∈ l, b < 256) (z : D.Rz) : D.zx l z 0 0 < 256 := by
  unfold D.zx
  split
  · exact fix_lt (z := 1) fun b hb => hl b (List.mem_of_mem_drop hb)
  · decide
/-- The variables of the closures that read. -/
structure Rg (w : World) (rb lb q g : Nat) : Prop where
  b1 : Blk w rb 77 #[.pointer (some ⟨q, 0, none⟩)]
  b2 : Blk w lb 64 #[.pointer (some ⟨g, 0, none⟩)]
/-- All that reading turns. -/
structure Rst (w : World) (rb lb q p g : Nat) (B : Option Addr) (n c : Nat) (l : List Nat) (z : D.Rz) (x : D.Rc) (le : Nat) : Prop where
  rd : Rd w q B n c l z.n z.e
  hp : RB w p x
  hg : EB w g le
  hv : Rg w rb lb q g
  off : ∀ ad, B = some ad → ad.block ≠ p ∧ ad.block ≠ g
def Rq (q p g : Nat) (i : Nat) : Prop := i = q ∨ i = p ∨ i = g
section
variable {rb lb q p g n c le : Nat} {B : Option Addr} {l : List Nat} {z : D.Rz} {x : D.Rc} {w w' : World}
theorem Rst.on (h : Rst w rb lb q p g B n c l z x le) (b : Below w.heap.size w w') : Rst w' rb lb q p g B n c l z x le := ⟨h.rd.on b, h.hp.on b, h.hg.on b, ⟨h.hv.b1.on b, h.hv.b2.on b⟩, h.off⟩
theorem Rst.ne (h : Rst w rb lb q p g B n c l z x le) : q ≠ p ∧ q ≠ g ∧ p ≠ g := ⟨h.rd.blk.ne_ h.hp (by decide), h.rd.blk.ne_ h.hg (by decide), Blk.ne_ h.hp h.hg (by decide)⟩
theorem Rst.vars (h : Rst w rb lb q p g B n c l z x le) (k : Only (Rq q p g) w w') : Rg w' rb lb q g := by
  refine ⟨h.hv.b1.only k ?_, h.hv.b2.only k ?_⟩
  · rintro (e | e | e)
    · exact h.hv.b1.ne_ h.rd.blk (by decide) e
    · exact h.hv.b1.ne_ h.hp (by decide) e
    · exact h.hv.b1.ne_ h.hg (by decide) e
  · rintro (e | e | e)
    · exact h.hv.b2.ne_ h.rd.blk (by decide) e
    · exact h.hv.b2.ne_ h.hp (by decide) e
    · exact h.hv.b2.ne_ h.hg (by decide) e
/-- Behind a reader's call. -/
theorem Rst.read {z' : D.Rz} {w1 : World} (h : Rst w rb lb q p g B n c l z x le) (h1 : Rd w1 q B n c l z'.n z'.e) (k : Only (fun i => i = q) w w1) : Rst w1 rb lb q p g B n c l z' x le ∧ Only (Rq q p g) w w1 := by
  obtain ⟨n1, n2, n3⟩ := h.ne
  have k' : Only (Rq q p g) w w1 := k.more fun i e => .inl e
  exact ⟨⟨h1, RB.only h.hp k (fun e => n1 e.symm), Blk.only h.hg k (fun e => n2 e.symm), h.vars k', h.off⟩, k'⟩
/-- Behind a store into the record. -/
theorem Rst.put {y : D.Rc} (h : Rst w rb lb q p g B n c l z x le) (i : Nat) (u : Value) (hy : (rS.v x).setIfInBounds i u = rS.v y) : Rst (w.setCell ⟨p, i, none⟩ u) rb lb q p g B n c l z y le ∧ Only (Rq q p g) w (w.setCell ⟨p, i, none⟩ u) := by
  obtain ⟨n1, n2, n3⟩ := h.ne
  have k : Only (fun i => i = p) w (w.setCell ⟨p, i, none⟩ u) := (Only.self (fun i => i = p) w).set (p := ⟨p, i, none⟩) (.inl rfl) _
  have k' : Only (Rq q p g) w (w.setCell ⟨p, i, none⟩ u) := k.more fun i e => .inr (.inl e)
  exact ⟨⟨h.rd.only k n1 (fun ad e => (h.off ad e).1), h.hp.put i u hy, Blk.only h.hg k (fun e => n3 e.symm), h.vars k', h.off⟩, k'⟩
/-- Behind a store into the error. -/
theorem Rst.late (h : Rst w rb lb q p g B n c l z x le) (e : Nat) : Rst (w.setCell ⟨g, 0, none⟩ (.int .i64 (e : Nat))) rb lb q p g B n c l z x e ∧ Only (Rq q p g) w (w.setCell ⟨g, 0, none⟩ (.int .i64 (e : Nat))) := by
  obtain ⟨n1, n2, n3⟩ := h.ne
  have k : Only (fun i => i = g) w (w.setCell ⟨g, 0, none⟩ (.int .i64 (e : Nat))) := (Only.self (fun i => i = g) w).set (p := ⟨g, 0, none⟩) (.inl rfl) _
  have k' : Only (Rq q p g) w (w.setCell ⟨g, 0, none⟩ (.int .i64 (e : Nat))) := k.more fun i e => .inr (.inr e)
  exact ⟨⟨h.rd.only k n2 (fun ad e => (h.off ad e).2), RB.only h.hp k n3, h.hg.set e, h.vars k', h.off⟩, k'⟩
end
/-- What a closure that reads leaves. -/
def Rr (rb lb q p g : Nat) (B : Option Addr) (n c : Nat) (l : List Nat) (z' : D.Rz) (y : D.Rc) (le' : Nat) (w : World) (en : Ending) (w' : World) : Prop := en = .returned (.tuple #[]) ∧ Rst w' rb lb q p g B n c l z' y le' ∧ Only (Rq q p g) w w'
section
variable (rb lb q p g n c le : Nat) (B : Option Addr) (l : List Nat) (z : D.Rz) (x y : D.Rc) (w : World)
theorem rr_of {z' : D.Rz} {w1 : World} {i : Nat} {u : Value} (h : Rst w rb lb q p g B n c l z x le) (h1 : Rd w1 q B n c l z'.n z'.e) (k : Only (fun i => i = q) w w1) (hy : (rS.v x).setIfInBounds i u = rS.v y) : Rr rb lb q p g B n c l z' y le w (.returned (.tuple #[])) (w1.setCell ⟨p, i, none⟩ u) := by
  obtain ⟨h2, k2⟩ := h.read h1 k
  obtain ⟨h3, k3⟩ := h2.put i u hy
  exact ⟨rfl, h3, k2.trans k3 fun i h => .inl h⟩
theorem rread_small (i v : Nat) (lo hi : Int) (hv : D.zx l z 0 0 = v) (hi9 : ∃ u, (rS.v x)[i]? = some u) (hy : (rS.v x).setIfInBounds i (.int .u8 (v : Nat)) = rS.v y) (h : Rst w rb lb q p g B n c l z x le) :
    Calls Try.prog 59 #[.pointer (some ⟨p, i, none⟩), .int .u8 lo, .int .u8 hi, .pointer (some ⟨rb, 0, none⟩)] w (Rr rb lb q p g B n c l (D.zn l z 0 0) y le w) := by
  have c1 := h.hv.b1.cell
  have CB := Lib.hid (rz_byte v hv h.rd)
  have HH := Lib.hid h
  have HY := Lib.hid hy
  obtain ⟨u, hu⟩ := hi9
  have fin : Hid (∀ w1, Rd w1 q B n c l (D.zn l z 0 0).n (D.zn l z 0 0).e → Only (fun i => i = q) w w1 → w1.cell? ⟨p, i, none⟩ = some u ∧ w1.frozen? ⟨p, i, none⟩ = false) := Lib.hid (fun w1 h1 k => by
    have h2 := (h.read h1 k).1.hp
    exact ⟨(Blk.c h2 i).trans hu, Blk.f h2 i⟩)
  clear hv h hy hu
  go_enter Try.func59, Try.ntmps59
  go_wp2_with (go_at_call 51; (with_reducible refine CB.out.mono ?_); rintro en w1 ⟨rfl, h1, k1⟩; obtain ⟨cc, ff⟩ := fin.out w1 h1 k1)
  go_end0
  exact rr_of rb lb q p g n c le B l z x y w HH.out h1 k1 HY.out
theorem rread_time (v : Nat) (hv : D.zx l z 3 18446744073709551615 = v) (hy : (rS.v x).setIfInBounds 7 (.int .u64 (v : Nat)) = rS.v y) (h : Rst w rb lb q p g B n c l z x le) :
    Calls Try.prog 63 #[.pointer (some ⟨p, 7, none⟩), .pointer (some ⟨rb, 0, none⟩)] w (Rr rb lb q p g B n c l (D.zn l z 3 18446744073709551615) y le w) := by
  have c1 := h.hv.b1.cell
  have CB : Hid (Calls Try.prog 62 #[.pointer (some ⟨q, 0, none⟩), .int .u64 18446744073709551615] w (Rw_ q B n c l (.int .u64 (v : Nat)) (D.zn l z 3 18446744073709551615) w)) := Lib.hid (rz_number 18446744073709551615 v (by decide) hv h.rd)
  have HH := Lib.hid h
  have HY := Lib.hid hy
  have fin : Hid (∀ w1, Rd w1 q B n c l (D.zn l z 3 18446744073709551615).n (D.zn l z 3 18446744073709551615).e → Only (fun i => i = q) w w1 → w1.cell? ⟨p, 7, none⟩ = some (.int .u64 (x.a : Nat)) ∧ w1.frozen? ⟨p, 7, none⟩ = false) := Lib.hid (fun w1 h1 k => by
    have h2 := (h.read h1 k).1.hp
    exact ⟨(Blk.c h2 7).trans rfl, Blk.f h2 7⟩)
  clear hv h hy
  go_enter Try.func63, Try.ntmps63
  go_wp2_with (go_at_call 62; (with_reducible refine CB.out.mono ?_); rintro en w1 ⟨rfl, h1, k1⟩; obtain ⟨cc, ff⟩ := fin.out w1 h1 k1)
  go_end0
  exact rr_of rb lb q p g n c le B l z x y w HH.out h1 k1 HY.out
theorem rread_rev (v : Nat) (hv : D.zx l z 3 4294967295 = v) (hy : (rS.v x).setIfInBounds 6 (.int .u32 (v : Nat)) = rS.v y) (h : Rst w rb lb q p g B n c l z x le) :
    Calls Try.prog 61 #[.pointer (some ⟨p, 6, none⟩), .pointer (some ⟨rb, 0, none⟩)] w (Rr rb lb q p g B n c l (D.zn l z 3 4294967295) y le w) := by
  have hb : v ≤ 4294967295 := by rw [← hv]; exact D.zx_le _ _ _
  have c1 := h.hv.b1.cell
  have CB : Hid (Calls Try.prog 62 #[.pointer (some ⟨q, 0, none⟩), .int .u64 4294967295] w (Rw_ q B n c l (.int .u64 (v : Nat)) (D.zn l z 3 4294967295) w)) := Lib.hid (rz_number 4294967295 v (by decide) hv h.rd)
  have HH := Lib.hid h
  have HY := Lib.hid hy
  have e1 : IntKind.u32.wrap (v : Int) = (v : Int) := by rw [IntKind.wrap_u32]; omega
  have fin : Hid (∀ w1, Rd w1 q B n c l (D.zn l z 3 4294967295).n (D.zn l z 3 4294967295).e → Only (fun i => i = q) w w1 → w1.cell? ⟨p, 6, none⟩ = some (.int .u32 (x.v : Nat)) ∧ w1.frozen? ⟨p, 6, none⟩ = false) := Lib.hid (fun w1 h1 k => by
    have h2 := (h.read h1 k).1.hp
    exact ⟨(Blk.c h2 6).trans rfl, Blk.f h2 6⟩)
  clear hv h hy
  go_enter Try.func61, Try.ntmps61
  go_wp2_with (go_at_call 62; (with_reducible refine CB.out.mono ?_); rintro en w1 ⟨rfl, h1, k1⟩; obtain ⟨cc, ff⟩ := fin.out w1 h1 k1)
  go_end0
  have e2 : (v : Int) % 4294967296 = v := by omega
  first | exact rr_of rb lb q p g n c le B l z x y w HH.out h1 k1 HY.out | (rw [e2]; exact rr_of rb lb q p g n c le B l z x y w HH.out h1 k1 HY.out)
theorem rread_text (hy : (rS.v x).setIfInBounds 8 (.string (D.sb (D.zs l z 4 60))) = rS.v y) (h : Rst w rb lb q p g B n c l z x le) :
    Calls Try.prog 64 #[.pointer (some ⟨p, 8, none⟩), .pointer (some ⟨rb, 0, none⟩)] w (Rr rb lb q p g B n c l (D.zn l z 4 60) y le w) := by
  have c1 := h.hv.b1.cell
  obtain ⟨t, ht⟩ : ∃ t, D.sb (D.zs l z 4 60) = t := ⟨_, rfl⟩
  have CB : Hid (Calls Try.prog 65 #[.pointer (some ⟨q, 0, none⟩), .int .i64 60] w (Rw_ q B n c l (.string t) (D.zn l z 4 60) w)) := Lib.hid (ht ▸ rz_text 60 (by decide) h.rd)
  rw [ht] at hy
  have HH := Lib.hid h
  have HY := Lib.hid hy
  have fin : Hid (∀ w1, Rd w1 q B n c l (D.zn l z 4 60).n (D.zn l z 4 60).e → Only (fun i => i = q) w w1 → w1.cell? ⟨p, 8, none⟩ = some (.string x.t) ∧ w1.frozen? ⟨p, 8, none⟩ = false) := Lib.hid (fun w1 h1 k => by
    have h2 := (h.read h1 k).1.hp
    exact ⟨(Blk.c h2 8).trans rfl, Blk.f h2 8⟩)
  clear h hy ht
  go_enter Try.func64, Try.ntmps64
  go_wp2_with (go_at_call 65; (with_reducible refine CB.out.mono ?_); rintro en w1 ⟨rfl, h1, k1⟩; obtain ⟨cc, ff⟩ := fin.out w1 h1 k1)
  go_end0
  exact rr_of rb lb q p g n c le B l z x y w HH.out h1 k1 HY.out
theorem rread_gone (v le' : Nat) (hv : D.zx l z 0 0 = v) (hy : (rS.v x).setIfInBounds 5 (.bool (decide (v = 1))) = rS.v y) (hle : (if 1 < v then 5 else le) = le') (h : Rst w rb lb q p g B n c l z x le) :
    Calls Try.prog 60 #[.pointer (some ⟨p, 5, none⟩), .pointer (some ⟨rb, 0, none⟩), .pointer (some ⟨lb, 0, none⟩)] w (Rr rb lb q p g B n c l (D.zn l z 0 0) y le' w) := by
  have c1 := h.hv.b1.cell
  have CB := Lib.hid (rz_byte v hv h.rd)
  have HH := Lib.hid h
  have HY := Lib.hid hy
  have fin : Hid (∀ w1, Rd w1 q B n c l (D.zn l z 0 0).n (D.zn l z 0 0).e → Only (fun i => i = q) w w1 → w1.cell? ⟨p, 5, none⟩ = some (.bool x.g) ∧ w1.frozen? ⟨p, 5, none⟩ = false ∧ w1.cell? ⟨lb, 0, none⟩ = some (.pointer (some ⟨g, 0, none⟩)) ∧ w1.cell? ⟨g, 0, none⟩ = some (.int .i64 (le : Nat)) ∧ w1.frozen? ⟨g, 0, none⟩ = false ∧ p ≠ g ∧ p < w1.heap.size ∧ g < w1.heap.size) := Lib.hid (fun w1 h1 k => by
    have h3 := (h.read h1 k).1
    exact ⟨(Blk.c h3.hp 5).trans rfl, Blk.f h3.hp 5, h3.hv.b2.cell, h3.hg.cell, Blk.free h3.hg, h3.ne.2.2, Blk.lt h3.hp, Blk.lt h3.hg⟩)
  clear hv h hy
  by_cases h1v : 1 < v
  · rw [if_pos h1v] at hle
    subst hle
    have hd : ((v : Int) == 1) = false := by simp; omega
    have hv1 : decide (v = 1) = false := by simp; omega
    have i1 : (1 : Int) < (v : Int) := by omega
    rw [hv1] at HY
    go_enter Try.func60, Try.ntmps60
    go_wp2_with (go_at_call 51; (with_reducible refine CB.out.mono ?_); rintro en w1 ⟨rfl, h1, k1⟩; obtain ⟨cc, ff, c2, c3, f3, npg, lp, lg⟩ := fin.out w1 h1 k1)
    go_end0
    obtain ⟨h2, k2⟩ := HH.out.read h1 k1
    obtain ⟨h3, k3⟩ := h2.late 5
    obtain ⟨h4, k4⟩ := h3.put 5 _ HY.out
    exact ⟨rfl, h4, (k2.trans k3 fun i h => .inl h).trans k4 fun i h => .inl h⟩
  · rw [if_neg h1v] at hle
    subst hle
    have i1 : ¬ (1 : Int) < (v : Int) := by omega
    have hd : ((v : Int) == 1) = decide (v = 1) := by
      rw [Bool.eq_iff_iff]; simp; omega
    go_enter Try.func60, Try.ntmps60
    go_wp2_with (go_at_call 51; (with_reducible refine CB.out.mono ?_); rintro en w1 ⟨rfl, h1, k1⟩; obtain ⟨cc, ff, c2, c3, f3, npg, lp, lg⟩ := fin.out w1 h1 k1)
    go_end0
    exact rr_of rb lb q p g n c le B l z x y w HH.out h1 k1 HY.out
end
end Go.Proofs.Ytelifoagnheioaa
