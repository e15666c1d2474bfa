/-
  
-/
import Derived.Test.YtgnjjlgmlokhmaaGreatDoorG07
import Derived.Test.YtgnjjlgmlokhmaaGreatDoorG06
import Derived.Test.YtgnjjlgmlokhmaaGreatDoorG00
import Derived.Lib.BufferWrite
import Derived.Deep.CutRange
set_option linter.unusedVariables false
set_option linter.unusedSimpArgs false
namespace Go.Proofs.YtgnjjlgmlokhmaaGreatDoor
open Go.RowKit
attribute [local go_sem ↓] Go.wp_at_zero Go.wp_at_succ

theorem root_test (s : ByteArray) : (s.toList == [114, 111, 111, 116]) = decide (D.ns s = D.rootT) := by
 rw [ByteArray.toList_eq, Bool.eq_iff_iff, beq_iff_eq, decide_eq_true_eq]
 constructor
 ·intro h; rw [D.ns, h]; rfl
 ·intro h
  have e : s = ⟨#[114, 111, 111, 116]⟩ := D.ns_inj (h.trans rfl)
  rw [e]
inductive Pc (P : List Nat) : Prop where
 | s (h : D.isS P = true) (k : kind P = 1) (n : P.length = 4)
 | r2 (h : D.isR P = true) (k : kind P = 1) (n : P.length = 2)
 | r3 (h : D.isR P = true) (k : kind P = 2) (n : P.length = 3)
 | n1 (h : D.isS P = false) (h' : D.isR P = false) (k : kind P = 1) (n : P.length ≠ 4) (n' : P.length ≠ 2)
 | n2 (h : D.isS P = false) (h' : D.isR P = false) (k : kind P = 2) (n : P.length ≠ 3)
 | n0 (h : D.isS P = false) (h' : D.isR P = false) (k : kind P = 0)
theorem pc (P : List Nat) : Pc P := by
 by_cases hL : D.allL P = true
 ·have k1 : kind P = 1 := by unfold kind; rw [if_pos hL]
  by_cases h4 : P.length = 4
  ·exact .s (D.isS_iff.2 ⟨h4, hL⟩) k1 h4
  ·by_cases h2 : P.length = 2
   ·exact .r2 (D.isR_iff.2 (.inl ⟨h2, hL⟩)) k1 h2
   ·refine .n1 ?_ ?_ k1 h4 h2
    ·simp [D.isS, h4]
    ·by_cases h3 : P.length = 3
     ·have : D.allD P = false := by
       cases e : D.allD P
       ·rfl
       ·obtain ⟨b, hb⟩ : ∃ b, b ∈ P := by
         cases P with
         | nil => simp at h3
         | cons b t => exact ⟨b, by simp⟩
        have h1 := List.all_eq_true.1 hL b hb
        have h2 := List.all_eq_true.1 e b hb
        simp [D.letB] at h1
        simp [D.digB] at h2
        omega
      simp [D.isR, h2, this]
     ·simp [D.isR, h2, h3]
 ·have hS : D.isS P = false := by simp [D.isS]; intro _; simpa using hL
  by_cases hD : D.allD P = true
  ·have k2 : kind P = 2 := by unfold kind; rw [if_neg hL, if_pos hD]
   by_cases h3 : P.length = 3
   ·exact .r3 (D.isR_iff.2 (.inr ⟨h3, hD⟩)) k2 h3
   ·exact .n2 hS (by simp [D.isR, h3, hL]) k2 h3
  ·exact .n0 hS (by simp [D.isR, hL, hD]) (by unfold kind; rw [if_neg hL, if_neg hD])
theorem parse_no {s : List Nat} (h : s ≠ D.rootT) (hl : D.isL (D.cutP s) = false) : D.parse s = none := by unfold D.parse; rw [if_neg h, if_neg (by rw [hl]; decide)]
end Go.Proofs.YtgnjjlgmlokhmaaGreatDoor
namespace Go.Proofs.YtgnjjlgmlokhmaaGreatDoor
namespace D

def tail3 (l : List Nat) : List (List Nat) -> Option Pt
 | [] => some ⟨l, [], []⟩
 | [a] => if isS a then some ⟨l, cap a, []⟩ else if isR a then some ⟨l, [], up a⟩ else none
 | [a, b] => if isS a then (if isR b then some ⟨l, cap a, up b⟩ else none) else none
 | _ => none
theorem up_ne {l : List Nat} (h : isR l = true) : up l ≠ [] := by
 intro e
 have e : l.length = 0 := by rw [<- up_len, e]; rfl
 rcases isR_iff.1 h with ⟨h, _⟩ | ⟨h, _⟩ <;> omega
theorem cap_ne {l : List Nat} (h : isS l = true) : cap l ≠ [] := by
 intro e
 have e : l.length = 0 := by rw [<- cap_len, e]; rfl
 have := (isS_iff.1 h).1
 omega
theorem step_full {t : Pt} (h : t.r ≠ []) (p : List Nat) : step t p = none := by unfold step; simp [h]
theorem step_first (l a : List Nat) : step ⟨l, [], []⟩ a = if isS a then some ⟨l, cap a, []⟩ else if isR a then some ⟨l, [], up a⟩ else none := by unfold step; simp
theorem step_second {s : List Nat} (hs : s ≠ []) (l a : List Nat) : step ⟨l, s, []⟩ a = if isR a then some ⟨l, s, up a⟩ else none := by unfold step; simp [hs]
theorem fold_tail (l : List Nat) : ∀ q : List (List Nat), q.length <= 2 -> foldP ⟨l, [], []⟩ q = tail3 l q
 | [], _ => rfl
 | [a], _ => by
  rw [foldP, step_first, tail3]
  by_cases h : isS a = true
  ·simp [h, foldP]
  ·by_cases h' : isR a = true
   ·simp [h, h', foldP]
   ·simp [h, h']
 | [a, b], _ => by
  rw [foldP, step_first, tail3]
  by_cases h : isS a = true
  ·rw [if_pos h, if_pos h]
   simp only
   rw [foldP, step_second (cap_ne h)]
   by_cases h' : isR b = true
   ·simp [h', foldP]
   ·simp [h']
  ·rw [if_neg h, if_neg h]
   by_cases h' : isR a = true
   ·rw [if_pos h']
    simp only
    rw [foldP, step_full (up_ne h')]
   ·rw [if_neg h']
 | a :: b :: c :: r, h => by simp at h
theorem fold_long (l a b c : List Nat) (r : List (List Nat)) : foldP ⟨l, [], []⟩ (a :: b :: c :: r) = none := by
 rw [foldP, step_first]
 by_cases h : isS a = true
 ·rw [if_pos h]
  simp only
  rw [foldP, step_second (cap_ne h)]
  by_cases h' : isR b = true
  ·rw [if_pos h']
   simp only
   rw [foldP, step_full (up_ne h')]
  ·rw [if_neg h']
 ·rw [if_neg h]
  by_cases h' : isR a = true
  ·rw [if_pos h']
   simp only
   rw [foldP, step_full (up_ne h')]
  ·rw [if_neg h']
theorem spl_ne (t : List Nat) : ∃ p ps, spl t = p :: ps := ⟨_, _, spl_cut t⟩
theorem parse_spn {s : List Nat} (h : s ≠ rootT) : ∃ p q, spn 3 s = p :: q ∧ q.length <= 3 ∧ parse s = if isL p then tail3 (low p) q else none := by
 unfold parse
 rw [if_neg h]
 rw [spn]
 cases h1 : cutM s
 ·refine ⟨s, [], by simp, by simp, ?_⟩
  rw [(cut_none s h1).1]
  simp [tail3]
 ·rw [if_pos rfl, if_pos rfl, spl_cut, spn]
  cases h2 : cutM (cutR s)
  ·refine ⟨_, _, rfl, by simp, ?_⟩
   rw [(cut_none _ h2).1, <- fold_tail _ _ (by simp)]
   simp
  ·rw [if_pos rfl, if_pos rfl, spl_cut, spn]
   cases h3 : cutM (cutR (cutR s))
   ·refine ⟨_, _, rfl, by simp, ?_⟩
    rw [(cut_none _ h3).1, <- fold_tail _ _ (by simp)]
    simp
   ·rw [if_pos rfl, if_pos rfl]
    obtain ⟨p, ps, e⟩ := spl_ne (cutR (cutR (cutR s)))
    refine ⟨_, _, rfl, by simp [spn], ?_⟩
    rw [e, fold_long]
    simp [spn, tail3]
end D
end Go.Proofs.YtgnjjlgmlokhmaaGreatDoor
namespace Go.Proofs.YtgnjjlgmlokhmaaGreatDoor
open Go.RowKit
attribute [local go_sem ↓] Go.wp_at_zero Go.wp_at_succ ld_a ld_n st_a st_n eq_a eq_n ne_a ne_n lv_a lv_n lp_3 lp_4
attribute [local go_sem] run_ld_a run_ld_n run_sw_a run_sw_n run_eq_a run_eq_n run_ne_a run_ne_n run_lv_a run_lv_n st_z ne_z rd_new rd_old rd_drew rd_drewN rd_set tn_new tn_old tn_drew tn_drewN setRow_alloc run_lp_3 run_lp_4

theorem wp_copy_str (w : World) {o : Oper} {a : Act} {K : Act -> World -> Prop} {Q : Exit -> Act -> World -> Prop} (d s : Operand)
  (hop : o.op = .call { callee := .builtin .copy, args := #[d, s], argTypes := #[90, 9] })
  {g off dl dc : Nat} {t : TypeId} {cur : Array Value} {l : List Nat} (hd : a.eval d = .slice (some ⟨g, off, none⟩) dl dc) (hs : a.eval s = .string (D.sb l)) (hl : ∀ b ∈ l, b < 256) (hB : Blk w g t cur) (hle : l.length <= dl) (hfit : off + l.length <= cur.size)
  (h : K (a.put o.dst (goInt l.length)) (w.setRow g (cur.toList.take off ++ bys l ++ cur.toList.drop (off + l.length)).toArray)) : o.wp Tryz.prog a w K Q := by
 have hi : (Tryz.prog.info? 5).map (·.size) = some 1 := by kernel_rfl
 have hrun := Lib.run_copy_row_string (P := Tryz.prog) w 90 9 o.type 5 g off dl dc (D.sb l) cur t Tryz.underlying90 hi hB.out (by rw [D.sb_len]; exact hle) (by rw [D.sb_len]; exact hfit)
 have hc : Lib.byteCells (D.sb l).data.toList = bys l := by
  have := D.ns_sb hl
  unfold D.ns at this
  rw [Lib.byteCells, bys]
  conv => rhs; rw [<- this]
  rw [List.map_map]
  rfl
 rw [hc, D.sb_len] at hrun
 unfold Oper.wp execOp
 simp only [hop, resolve, invoke, builtin, Sem.run_bind, Sem.run_pure, Result.andThen_ok, List.map_toArray, List.map_cons, List.map_nil, hd, hs, hrun]
 exact h
theorem bys_rep (n : Nat) : bys (List.replicate n 0) = List.replicate n (.int .u8 0) := by simp [bys]
theorem put_lang {l : List Nat} (hl : l.length <= 3) (hc : ∀ c ∈ l, D.Ch c) : (z10.toList.take 0 ++ bys l ++ z10.toList.drop (0 + l.length)).toArray = nc (D.tb ⟨l, [], []⟩) := by
 have hz : z10.toList = bys (List.replicate 10 0) := by rw [bys_rep]; rfl
 have ht := D.tb_l (p := ⟨l, [], []⟩) (D.ch_lt hc) (fun c h => by cases h) (fun c h => by cases h)
 rw [nc, ht, hz, bys_drop, List.take_zero, List.nil_append, <- bys_app, List.drop_replicate, D.tbl]
 congr 2
 simp only
 rw [D.padn_eq hl, Nat.zero_add]
 have e1 : D.padn [] 4 = List.replicate 4 0 := rfl
 have e2 : D.padn [] 3 = List.replicate 3 0 := rfl
 rw [e1, e2, List.append_assoc, List.replicate_append_replicate, List.replicate_append_replicate, show 3 - l.length + (4 + 3) = 10 - l.length by omega]
theorem put_script {l s : List Nat} (hl : l.length <= 3) (hc : ∀ c ∈ l, D.Ch c) (hs : s.length = 4) (hsc : ∀ c ∈ s, D.Ch c) : ((nc (D.tb ⟨l, [], []⟩)).toList.take 3 ++ bys s ++ (nc (D.tb ⟨l, [], []⟩)).toList.drop (3 + s.length)).toArray = nc (D.tb ⟨l, s, []⟩) := by
 have ht := D.tb_l (p := ⟨l, [], []⟩) (D.ch_lt hc) (fun c h => by cases h) (fun c h => by cases h)
 have ht2 := D.tb_l (p := ⟨l, s, []⟩) (D.ch_lt hc) (D.ch_lt hsc) (fun c h => by cases h)
 rw [nc, nc, ht, ht2, D.tbl, D.tbl]
 simp only
 rw [bys_take, bys_drop, <- bys_app, <- bys_app]
 congr 2
 rw [hs, List.take_append_of_le_length (by rw [D.padn_len]; exact Nat.le_refl _), List.take_of_length_le (by rw [D.padn_len]; exact Nat.le_refl _), <- List.append_assoc (D.padn l 3), List.drop_append_of_le_length (by simp [D.padn_len]), List.drop_of_length_le (by simp [D.padn_len]), List.nil_append, List.append_assoc]
 congr 2
 rw [D.padn_eq (by omega), hs]
 simp
theorem put_region {l s r : List Nat} (hl : l.length <= 3) (hc : ∀ c ∈ l, D.Ch c) (hs : s.length <= 4) (hsc : ∀ c ∈ s, D.Ch c) (hr : r.length <= 3) (hrc : ∀ c ∈ r, D.Ch c) : ((nc (D.tb ⟨l, s, []⟩)).toList.take 7 ++ bys r ++ (nc (D.tb ⟨l, s, []⟩)).toList.drop (7 + r.length)).toArray = nc (D.tb ⟨l, s, r⟩) := by
 have ht := D.tb_l (p := ⟨l, s, []⟩) (D.ch_lt hc) (D.ch_lt hsc) (fun c h => by cases h)
 have ht2 := D.tb_l (p := ⟨l, s, r⟩) (D.ch_lt hc) (D.ch_lt hsc) (D.ch_lt hrc)
 rw [nc, nc, ht, ht2, D.tbl, D.tbl]
 simp only
 rw [bys_take, bys_drop, <- bys_app, <- bys_app]
 congr 2
 have e2 : D.padn [] 3 = List.replicate 3 0 := rfl
 have h1 := D.padn_len l 3
 have h2 := D.padn_len s 4
 rw [<- List.append_assoc (D.padn l 3), <- List.append_assoc (D.padn l 3), List.take_append_of_le_length (by simp; omega), List.take_of_length_le (by simp; omega), List.drop_append, List.drop_of_length_le (by simp; omega), List.nil_append, e2, List.drop_replicate, D.padn_eq hr]
 simp only [List.length_append, h1, h2, List.append_assoc]
 congr 5
 omega

theorem from1_s (A : Option Addr) (m c : Nat) (h : m <= c) : ∃ A1, (∀ W, (Instr.slice 35 (.slice A (m + 1) (c + 1)) (some (.int .i64 1)) none none).run Tryz.prog W = .ok (.slice A1 m c) W) ∧ (∀ W x xs, Row W A (m + 1) (x :: xs) -> Row W A1 m xs) ∧ ∀ b, (∀ ad, A = some ad -> ad.block ≠ b) -> ∀ ad, A1 = some ad -> ad.block ≠ b := by
 refine ⟨if c + 1 = 1 then A else A.map (·.add 1), fun W => ?_, fun W x xs hr => ?_, fun b hA ad e => ?_⟩
 ·have := run_slice_l (P := Tryz.prog) W 35 A (m + 1) (c + 1) (by kernel_rfl) .i64 1 (by omega) (by omega)
  rw [this]
  simp [Result.andThen, sliced, go_sem]
 ·have := hr.cut (k := 1) (cap := c + 1) (by omega) (by omega)
  simpa using this
 ·split at e
  ·exact hA ad e
  ·cases A with
   | none => cases e
   | some a =>
    injection e with e
    rw [<- e, block_of_add]
    exact hA a rfl
theorem piece_len : ∀ (k : Nat) (t : List Nat), ∀ p ∈ D.spn k t, p.length <= t.length
 | 0, t, p, h => by simp [D.spn] at h; subst h; exact Nat.le_refl _
 | k + 1, t, p, h => by
  rw [D.spn] at h
  split at h
  ·rename_i hm
   rcases List.mem_cons.1 h with rfl | h
   ·exact D.cutP_len t
   ·exact Nat.le_trans (piece_len k _ p h) (Nat.le_of_lt (D.cutR_lt hm))
  ·simp at h; subst h; exact Nat.le_refl _
theorem cells_row (w : World) (xs : List ByteArray) (N : Nat) (h : xs.length <= N) (t : TypeId) : Row (w.alloc (.cells (Lib.cellsOf xs N) t)) (some ⟨w.heap.size, 0, none⟩) xs.length (xs.map Value.string) :=
 ⟨by simp, fun _ => ⟨_, rfl, by simp, fun j u hu => by
  rw [World.news_of_block (heap_alloc_new w _) j u]
  have hj := (List.getElem?_eq_some_iff.1 hu).1
  rw [Lib.cellsOf]
  simp only [List.append_eq]
  rw [List.getElem?_append_left hj]
  exact hu⟩⟩
theorem split_tag (s : ByteArray) (w : World) (hs : s.size <= 100) (h : D.ns s ≠ D.rootT) :
  Calls Tryz.prog 154 #[.string s, .string dash, .int .i64 4] w fun e w' => ∃ (x0 : ByteArray) (q : List ByteArray) (N : Nat), e = .returned (.slice (some ⟨w.heap.size, 0, none⟩) (q.length + 1) (N + 1)) ∧ q.length <= N ∧ q.length <= 3 ∧ Below w.heap.size w w' ∧ Row w' (some ⟨w.heap.size, 0, none⟩) (q.length + 1) (.string x0 :: q.map Value.string) ∧ Kept (D.parse (D.ns s) = if D.isL (D.ns x0) then D.tail3 (D.low (D.ns x0)) (q.map D.ns) else none) ∧ x0.size <= 100 ∧ ∀ x ∈ q, x.size <= 100 := by
 refine (split_any s w hs).mono fun e w' ⟨xs, N, h1, h2, h3, he, hw⟩ => ?_
 obtain ⟨p, q, e1, e2, e3⟩ := D.parse_spn h
 have hpl : ∀ x ∈ xs, x.size <= 100 := fun x hx => by
  have := piece_len 3 (D.ns s) (D.ns x) (by rw [<- h1]; exact List.mem_map_of_mem hx)
  rw [D.ns_len, D.ns_len] at this
  omega
 cases xs with
 | nil => rw [e1] at h1; cases h1
 | cons x0 xs =>
  rw [e1] at h1
  injection h1 with h1 h1'
  have hr := cells_row w (x0 :: xs) N h2 9
  simp only [List.length_cons] at h2
  refine ⟨x0, xs, N - 1, ?_, by omega, ?_, ?_, ?_, ⟨?_⟩, hpl x0 (by simp), fun x hx => hpl x (by simp [hx])⟩
  ·rw [he, show N - 1 + 1 = N by omega]; rfl
  ·rw [<- h1'] at e2; simpa using e2
  ·rw [hw]; exact below_alloc_ _ _
  ·rw [hw]; exact hr
  ·rw [e3, <- h1, <- h1']
def er : Option D.Pt -> Int
 | some _ => 0
 | none => 14

structure Ps (w0 w : World) (A : Option Addr) (m : Nat) (q : List ByteArray) (u : D.Pt) : Prop where
 tR : tn w w0.heap.size = true
 bT : Blk w (w0.heap.size + 1) 61 (nc (D.tb u))
 row : Row w A m (q.map Value.string)
 far : ∀ ad, A = some ad -> ad.block ≠ w0.heap.size + 1
 bel : Below w0.heap.size w0 w
theorem Ps.on {w0 w w' : World} {A : Option Addr} {m : Nat} {q : List ByteArray} {u : D.Pt} (h : Ps w0 w A m q u) (hb : Below w.heap.size w w') : Ps w0 w' A m q u :=
 ⟨tn_on h.tR hb, h.bT.on hb, h.row.on hb, h.far, below_on h.bel h.bel.size hb⟩
theorem Row.keep {w w' : World} {A : Option Addr} {n : Nat} {xs : List Value} (h : Row w A n xs) (hs : w.heap.size <= w'.heap.size) (hk : ∀ ad, A = some ad -> w'.heap[ad.block]? = w.heap[ad.block]?) : Row w' A n xs := ⟨h.len, fun hn => by
 obtain ⟨ad, e, hl, hc⟩ := h.tow hn
 exact ⟨ad, e, Nat.lt_of_lt_of_le hl hs, fun j u hu => (World.cell?_of_block (w := w) (by rw [block_of_add]; exact hk ad e)).trans (hc j u hu)⟩⟩
theorem blk_set {w : World} {g : Nat} {t : TypeId} {cs cs' : Array Value} (h : Blk w g t cs) : Blk (w.setRow g cs') g t cs' := ⟨by have := h.out; simp [World.setRow, Array.getElem?_modify, this]⟩
theorem Ps.set {w0 w : World} {A : Option Addr} {m : Nat} {q : List ByteArray} {u v : D.Pt} (h : Ps w0 w A m q u) {cs : Array Value} (hc : cs = nc (D.tb v)) : Ps w0 (w.setRow (w0.heap.size + 1) cs) A m q v := by
 subst hc
 refine ⟨(tn_to (heap_setRow _ _ _ _ (by omega))).trans h.tR, blk_set h.bT, h.row.keep (by simp [World.setRow]) (fun ad e => heap_setRow _ _ _ _ (h.far ad e)), h.far, below_setRow h.bel (Nat.le_succ _) _⟩
theorem Ps.head {w0 w : World} {A : Option Addr} {m : Nat} {x : ByteArray} {q : List ByteArray} {u : D.Pt} (h : Ps w0 w A m (x :: q) u) : ∃ ad, A = some ad ∧ w.cell? ad = some (.string x) := by
 obtain ⟨ad, e, hc⟩ := h.row.cell (k := 0) (u := .string x) rfl
 exact ⟨ad, e, by rwa [add_zero_] at hc⟩
theorem Ps.low_ {w0 w : World} {A A1 : Option Addr} {m : Nat} {x : ByteArray} {q : List ByteArray} {u : D.Pt} (h : Ps w0 w A (m + 1) (x :: q) u) (hr : Row w A1 m (q.map Value.string)) (hA : ∀ ad, A1 = some ad -> ad.block ≠ w0.heap.size + 1) : Ps w0 w A1 m q u := ⟨h.tR, h.bT, hr, hA, h.bel⟩

theorem ascii_ch {s : ByteArray} (h : ∀ c ∈ D.ns s, D.Ch c) : ∀ b ∈ D.ns s, b < 128 := fun b hb => by have := h b hb; unfold D.Ch at this; omega
theorem upper_one (x : ByteArray) (hx : x.size <= 100) (h : ∀ c ∈ D.ns x, D.Ch c) (w : World) : Calls Tryz.prog 158 #[.string (x.extract 0 1)] w fun e w' => e = .returned (.string (D.sb (D.up ((D.ns x).take 1)))) ∧ Below w.heap.size w w' := by
 have := upper_any (x.extract 0 1) w (by rw [<- D.ns_len, ns_take]; simp; omega) (by rw [ns_take]; exact fun b hb => ascii_ch h b (List.mem_of_mem_take hb))
 rwa [ns_take] at this
theorem lower_rest (x : ByteArray) (hx : x.size <= 100) (h : ∀ c ∈ D.ns x, D.Ch c) (w : World) : Calls Tryz.prog 156 #[.string (x.extract 1 x.size)] w fun e w' => e = .returned (.string (D.sb (D.low (D.ns x).tail))) ∧ Below w.heap.size w w' := by
 have := lower_any (x.extract 1 x.size) w (by rw [<- D.ns_len, ns_drop]; simp [D.ns_len]; omega) (by rw [ns_drop]; exact fun b hb => ascii_ch h b (List.mem_of_mem_drop hb))
 rwa [ns_drop, List.drop_one] at this
theorem cap_cat (l : List Nat) : D.sb (D.up (l.take 1)) ++ D.sb (D.low l.tail) = D.sb (D.cap l) := by rw [<- sb_app, <- List.drop_one]; rfl
theorem cap_sum (x : ByteArray) (hx : x.size <= 100) : ¬ 9223372036854775807 < (D.sb (D.up ((D.ns x).take 1))).size + (D.sb (D.low (D.ns x).tail)).size := by rw [D.sb_len, D.sb_len, D.up_len, D.low_len]; simp [D.ns_len]; omega
theorem cell_row_ {w : World} {a : Addr} {v : Value} {g : Nat} {cs : Array Value} (h : w.cell? a = some v) (hg : a.block ≠ g) : (w.setRow g cs).cell? a = some v := (World.cell?_of_block (heap_setRow w g _ cs hg)).trans h
set_option maxRecDepth 100000 in
set_option maxHeartbeats 8000000 in
theorem tag_parse (s : ByteArray) (w : World) (hs : s.size <= 100) :
  Calls Tryz.prog 150 #[.string s] w fun e w' => e = .returned (.tuple #[.agg (nc (D.tb ((D.parse (D.ns s)).getD D.rt))), .int .i64 (er (D.parse (D.ns s)))]) ∧ Below w.heap.size w w' := by
 have hrt := root_test s
 by_cases hroot : D.ns s = D.rootT
 ·have hp : D.parse (D.ns s) = some D.rt := by unfold D.parse; rw [if_pos hroot]
  rw [decide_eq_true hroot] at hrt
  have HP := Lib.hid hp
  have hset := rd_new w _ 61 D.zero rfl
  have b9 := below_alloc_ w (.cells (nc D.zero) 61)
  clear hp hroot
  go_enter Tryz.func150, Tryz.ntmps150
  go_wp2
  refine bodyPost_ret (v := .tuple #[.agg (nc D.zero), .int .i64 0]) (by rw [results_cell_tmp rfl]; simp [asAddr, Result.andThen, lv_of_n hset]) rfl ⟨?_, b9⟩
  rw [HP.out]; rfl
 ·rw [decide_eq_false hroot] at hrt
  have cS := Lib.hid (fun w => split_tag s w hs hroot)
  go_enter Tryz.func150, Tryz.ntmps150
  go_wp2_with fail
  (with_reducible refine (cS.out _).mono ?_)
  rintro e w1 ⟨x0, q, N, rfl, hqN, hq3, b1, hrow, HP, hx0, hqs⟩
  have P0 : Ps w w1 (some ⟨w.heap.size + 1 + 1, 0, none⟩) (q.length + 1) (x0 :: q) D.rt := by
   have h1 := (Blk.new w 61 z10).alloc (.cells z10 61)
   have h2 := Blk.new (w.alloc (.cells z10 61)) 61 z10
   rw [World.size_alloc] at h2
   exact ⟨tn_on (tn_of h1 rfl) b1, h2.on b1, by simpa [World.size_alloc] using hrow, fun ad e => by injection e with e; subst e; simp, (((Below.refl _ _).alloc (Nat.le_refl _) _).alloc (by simp) _).trans (b1.mono (by simp; omega))⟩
  obtain ⟨m, hm⟩ : ∃ m, q.length = m := ⟨_, rfl⟩
  rw [hm] at P0 hqN hq3 ⊢
  clear hrow b1 cS hrt hroot
  have hz := P0.bel.size
  obtain ⟨ad0, e0, c0⟩ := P0.head
  injection e0 with e0
  subst e0
  have cI := Lib.hid (fun w => isLang_any x0 w hx0)
  cases hL : D.isL (D.ns x0) with
  | false =>
   have hpf : D.parse (D.ns s) = none := by rw [HP.out, hL]; rfl
   have HPF := Lib.hid hpf
   rw [hL] at cI
   have hset := rd_set w1 w.heap.size D.zero P0.tR
   have hT := P0.tR
   have b9 := below_setRow P0.bel (Nat.le_refl _) (nc D.zero)
   clear hpf HP hqs P0 hL
   go_wp2_with (go_at_call 155; (with_reducible refine (cI.out _).mono ?_); rintro e wk ⟨rfl, rfl⟩)
   refine bodyPost_ret (v := .tuple #[.agg (nc D.zero), .int .i64 14]) (by rw [results_cell_tmp rfl]; simp [asAddr, Result.andThen, lv_of_n hset]) rfl ⟨?_, b9⟩
   rw [HPF.out]; rfl
  | true =>
   rw [hL] at cI
   have hch := D.ch_L (D.isL_iff.1 hL).2
   have hln : (D.low (D.ns x0)).length <= 3 := by rw [D.low_len]; have := (D.isL_iff.1 hL).1; omega
   have hlc : ∀ c ∈ D.low (D.ns x0), D.Ch c := D.okL_ch (D.ok_low hL)
   have cLo := Lib.hid (fun w => lower_any x0 w hx0 (ascii_ch hch))
   have HP' : Kept (D.parse (D.ns s) = D.tail3 (D.low (D.ns x0)) (q.map D.ns)) := ⟨by rw [HP.out, hL]; rfl⟩
   clear HP hch hL
   go_wp2_with (go_at_call 155; (with_reducible refine (cI.out _).mono ?_); rintro e wk ⟨rfl, rfl⟩)
   refine wp_region_noPanic ?_
   refine wp_region_held_drew (S := fun W => W.cell? ⟨w.heap.size + 1 + 1, 0, none⟩ = some (.string x0)) (by kernel_rfl) c0 (fun _ => ?_)
   refine takeT 0 (some 17) ?va0 ?hya0 c0 ?resta0
   case hya0 => (intro o ho W hW; simp only [gT, gS, gZ, sI] at ho; subst ho; (try dsimp only at hW); go_simp; try rfl)
   try simp only [Act.put, iT, iZ, iS]
   refine takeT 1 (some 18) ?va1 ?hya1 c0 ?resta1
   case hya1 => (intro o ho W hW; simp only [gT, gS, gZ, sI] at ho; subst ho; (try dsimp only at hW); go_simp; try rfl)
   try simp only [Act.put, iT, iZ, iS]
   refine takeT 2 (some 19) ?va2 ?hya2 c0 ?resta2
   case hya2 => (intro o ho W hW; simp only [gT, gS, gZ, sI] at ho; subst ho; (try dsimp only at hW); go_simp; try rfl)
   try simp only [Act.put, iT, iZ, iS]
   refine takeT 3 (some 20) ?va3 ?hya3 c0 ?resta3
   case hya3 => (intro o ho W hW; simp only [gT, gS, gZ, sI] at ho; subst ho; (try dsimp only at hW); go_simp; try rfl)
   try simp only [Act.put, iT, iZ, iS]
   refine takeT 4 (some 21) ?va4 ?hya4 c0 ?resta4
   case hya4 => (intro o ho W hW; simp only [gT, gS, gZ, sI] at ho; subst ho; (try dsimp only at hW); go_simp; try rfl)
   try simp only [Act.put, iT, iZ, iS]
   refine nextS 5 (by kernel_rfl) (by rfl) (fun o ho K hK => ?_)
   simp only [gT, gS, gZ, sI] at ho; subst ho
   go_simp
   (go_at_call 156; (with_reducible refine (cLo.out _).mono ?_); rintro e w2 ⟨rfl, b2⟩)
   have c2 := cell_keep b2 (show w1.drew.cell? _ = _ from c0)
   have P2 := (P0.on (Below.refl _ _).drew).on b2
   refine hK.out _ _ c2 (fun _ => ?_)
   clear hK K
   try simp only [Act.put, iT, iZ, iS]
   refine nextS 6 (by kernel_rfl) (by rfl) (fun o ho K hK => ?_)
   simp only [gT, gS, gZ, sI] at ho; subst ho
   refine wp_copy_str _ (.tmp 18) (.tmp 22) (by rfl) (by rfl) (by rfl) (D.ch_lt hlc) P2.bT hln (by rw [nc_size]; omega) ?_
   have P3 := P2.set (put_lang hln hlc)
   have c3 := cell_row_ (g := w.heap.size + 1) (cs := ((nc (D.tb D.rt)).toList.take 0 ++ bys (D.low (D.ns x0)) ++ (nc (D.tb D.rt)).toList.drop (0 + (D.low (D.ns x0)).length)).toArray) c2 (by simp)
   refine hK.out _ _ c3 (fun _ => ?_)
   clear hK K
   try simp only [Act.put, iT, iZ, iS]
   refine wpAnyH_done (by kernel_rfl) ?_ _
   refine NoPanic.normal ?_
   have P3' : Ps w (w2.setRow (w.heap.size + 1) ((nc (D.tb D.rt)).toList.take 0 ++ bys (D.low (D.ns x0)) ++ (nc (D.tb D.rt)).toList.drop (0 + (D.low (D.ns x0)).length)).toArray) (some ⟨w.heap.size + 1 + 1, 0, none⟩) (m + 1) (x0 :: q) ⟨D.low (D.ns x0), [], []⟩ := P3
   obtain ⟨w3, hw3⟩ : ∃ w3, w2.setRow (w.heap.size + 1) ((nc (D.tb D.rt)).toList.take 0 ++ bys (D.low (D.ns x0)) ++ (nc (D.tb D.rt)).toList.drop (0 + (D.low (D.ns x0)).length)).toArray = w3 := ⟨_, rfl⟩
   rw [hw3] at P3'
   try rw [hw3]
   clear P3 hw3 c2 c3 P2 b2 cLo cI c0 P0
   obtain ⟨A1, hr1, hr2, hf⟩ := from1_s (some ⟨w.heap.size + 1 + 1, 0, none⟩) m N hqN
   have P4 := P3'.low_ (hr2 _ _ _ P3'.row) (hf _ P3'.far)
   clear hr2 hf P3'
   go_upto_region 9 with fail
   clear hr1 hz
   obtain ⟨l0, hl0⟩ : ∃ l0, D.low (D.ns x0) = l0 := ⟨_, rfl⟩
   rw [hl0] at P4 hln hlc HP'
   clear hl0
   cases q with
   | nil =>
    have j1 : ¬ (0 : Int) < (m : Int) := by simp at hm; omega
    have j2 : (m : Int) <= 0 := by omega
    have HMM := Lib.hid hm
    clear hm hqN hq3 hqs
    have hpf : D.parse (D.ns s) = some ⟨l0, [], []⟩ := by rw [HP'.out]; rfl
    obtain ⟨y9, hy⟩ : ∃ y, D.tb ⟨l0, [], []⟩ = y := ⟨_, rfl⟩
    have HPF := Lib.hid hpf
    have HY := Lib.hid hy
    have hb9 := P4.bT
    rw [hy] at hb9
    have hx9 := rd_blk hb9
    have hT := P4.tR
    have hset := rd_set w3 w.heap.size y9 hT
    have b9 := below_setRow P4.bel (Nat.le_refl _) (nc y9)
    clear hpf hy hb9 P4 HP' hln hlc
    go_wp2
    refine bodyPost_ret (v := .tuple #[.agg (nc y9), .int .i64 0]) (by rw [results_cell_tmp rfl]; simp [asAddr, Result.andThen, lv_of_n hset]) rfl ⟨?_, b9⟩
    rw [HPF.out, <- HY.out]; rfl
   | cons x1 q1 =>
    have j1 : (0 : Int) < (m : Int) := by simp at hm; omega
    have cSc := Lib.hid (fun w => isScript_any x1 w (hqs x1 (by simp)))
    cases hS : D.isS (D.ns x1) with
    | false =>
     rw [hS] at cSc
     have hscB : ([] : List Nat).length <= 4 ∧ ∀ c ∈ ([] : List Nat), D.Ch c := ⟨by simp, fun c h => by cases h⟩
     have HMM := Lib.hid hm
     clear hm
     obtain ⟨adB, rfl, cB⟩ := P4.head
     have cRB := Lib.hid (fun w => isRegion_any x1 w (hqs x1 (by simp)))
     cases hRB : D.isR (D.ns x1) with
     | false =>
      rw [hRB] at cRB
      have hpf : D.parse (D.ns s) = none := by rw [HP'.out]; cases q1 with | nil => simp [D.tail3, hS, hRB] | cons a b => cases b <;> simp [D.tail3, hS]
      have HPF := Lib.hid hpf
      have hT := P4.tR
      have hset := rd_set w3 w.heap.size D.zero hT
      have b9 := below_setRow P4.bel (Nat.le_refl _) (nc D.zero)
      clear hpf P4 HP' hln hlc
      clear hqs hRB
      go_wp2_with (first | (go_at_call 159; (with_reducible refine (cRB.out _).mono ?_); rintro e wk ⟨rfl, rfl⟩) | (go_at_call 157; (with_reducible refine (cSc.out _).mono ?_); rintro e wk ⟨rfl, rfl⟩))
      refine bodyPost_ret (v := .tuple #[.agg (nc D.zero), .int .i64 14]) (by rw [results_cell_tmp rfl]; simp [asAddr, Result.andThen, lv_of_n hset]) rfl ⟨?_, b9⟩
      rw [HPF.out]; rfl
     | true =>
      rw [hRB] at cRB
      have hyc := D.ch_R hRB
      have hyn : (D.up (D.ns x1)).length <= 3 := by rw [D.up_len]; rcases D.isR_iff.1 hRB with ⟨h, _⟩ | ⟨h, _⟩ <;> omega
      have hyu : ∀ c ∈ D.up (D.ns x1), D.Ch c := D.okR_ch (D.ok_up hRB)
      have cUB := Lib.hid (fun w => upper_any x1 w (hqs x1 (by simp)) (ascii_ch hyc))
      clear hyc
      have hsn : ([]).length <= 4 ∧ ∀ c ∈ [], D.Ch c := hscB
      go_wp2_with (first | (go_at_call 159; (with_reducible refine (cRB.out _).mono ?_); rintro e wk ⟨rfl, rfl⟩) | (go_at_call 157; (with_reducible refine (cSc.out _).mono ?_); rintro e wk ⟨rfl, rfl⟩))
      refine wp_region_noPanic ?_
      refine wp_region_held_drew (S := fun W => W.cell? adB = some (.string x1)) (by kernel_rfl) cB (fun _ => ?_)
      refine takeT 0 (some 60) ?vrB0 ?hyrB0 cB ?restrB0
      case hyrB0 => (intro o ho W hW; simp only [gT, gS, gZ, sI] at ho; subst ho; (try dsimp only at hW); go_simp; try rfl)
      try simp only [Act.put, iT, iZ, iS]
      refine takeT 1 (some 61) ?vrB1 ?hyrB1 cB ?restrB1
      case hyrB1 => (intro o ho W hW; simp only [gT, gS, gZ, sI] at ho; subst ho; (try dsimp only at hW); go_simp; try rfl)
      try simp only [Act.put, iT, iZ, iS]
      refine takeT 2 (some 62) ?vrB2 ?hyrB2 cB ?restrB2
      case hyrB2 => (intro o ho W hW; simp only [gT, gS, gZ, sI] at ho; subst ho; (try dsimp only at hW); go_simp; try rfl)
      try simp only [Act.put, iT, iZ, iS]
      refine takeT 3 (some 63) ?vrB3 ?hyrB3 cB ?restrB3
      case hyrB3 => (intro o ho W hW; simp only [gT, gS, gZ, sI] at ho; subst ho; (try dsimp only at hW); go_simp; try rfl)
      try simp only [Act.put, iT, iZ, iS]
      refine takeT 4 (some 64) ?vrB4 ?hyrB4 cB ?restrB4
      case hyrB4 => (intro o ho W hW; simp only [gT, gS, gZ, sI] at ho; subst ho; (try dsimp only at hW); go_simp; try rfl)
      try simp only [Act.put, iT, iZ, iS]
      refine nextS 5 (by kernel_rfl) (by rfl) (fun o ho K hK => ?_)
      simp only [gT, gS, gZ, sI] at ho; subst ho
      go_simp
      (go_at_call 158; (with_reducible refine (cUB.out _).mono ?_); rintro e w6 ⟨rfl, b6⟩)
      have c6 := cell_keep b6 (show w3.drew.cell? _ = _ from cB)
      have P6 := (P4.on (Below.refl _ _).drew).on b6
      refine hK.out _ _ c6 (fun _ => ?_)
      clear hK K
      try simp only [Act.put, iT, iZ, iS]
      refine nextS 6 (by kernel_rfl) (by rfl) (fun o ho K hK => ?_)
      simp only [gT, gS, gZ, sI] at ho; subst ho
      refine wp_copy_str _ (.tmp 61) (.tmp 65) (by rfl) (by rfl) (by rfl) (D.ch_lt hyu) P6.bT hyn (by rw [nc_size]; omega) ?_
      have P7 := P6.set (put_region hln hlc hsn.1 hsn.2 hyn hyu)
      have c7 := cell_row_ (g := w.heap.size + 1) (cs := ((nc (D.tb ⟨l0, [], []⟩)).toList.take 7 ++ bys (D.up (D.ns x1)) ++ (nc (D.tb ⟨l0, [], []⟩)).toList.drop (7 + (D.up (D.ns x1)).length)).toArray) c6 (P4.far _ rfl)
      refine hK.out _ _ c7 (fun _ => ?_)
      clear hK K
      try simp only [Act.put, iT, iZ, iS]
      refine wpAnyH_done (by kernel_rfl) ?_ _
      refine NoPanic.normal ?_
      have P7' : Ps w (w6.setRow (w.heap.size + 1) ((nc (D.tb ⟨l0, [], []⟩)).toList.take 7 ++ bys (D.up (D.ns x1)) ++ (nc (D.tb ⟨l0, [], []⟩)).toList.drop (7 + (D.up (D.ns x1)).length)).toArray) (some adB) m (x1 :: q1) ⟨l0, [], D.up (D.ns x1)⟩ := P7
      obtain ⟨w7, hw7⟩ : ∃ w7, w6.setRow (w.heap.size + 1) ((nc (D.tb ⟨l0, [], []⟩)).toList.take 7 ++ bys (D.up (D.ns x1)) ++ (nc (D.tb ⟨l0, [], []⟩)).toList.drop (7 + (D.up (D.ns x1)).length)).toArray = w7 := ⟨_, rfl⟩
      rw [hw7] at P7'
      try rw [hw7]
      clear P7 hw7 c6 c7 P6 b6 cUB cRB cB P4
      obtain ⟨m7, hm7⟩ : ∃ m7, m = m7 + 1 := ⟨q1.length, by have := P7'.row.len; simp at this; omega⟩
      obtain ⟨N7, hN7⟩ : ∃ N7, N = N7 + 1 := ⟨N - 1, by omega⟩
      have hlq : q1.length = m7 := by have := P7'.row.len; simp at this; omega
      obtain ⟨A7, hr7, hr8, hf7⟩ := from1_s (some adB) m7 N7 (by omega)
      rw [<- hm7, <- hN7] at hr7
      rw [hm7] at P7'
      have P8 := P7'.low_ (hr8 _ _ _ P7'.row) (hf7 _ P7'.far)
      clear hr8 hf7 P7'
      have HM7 := Lib.hid hm7
      have HN7 := Lib.hid hN7
      clear hm7 hN7
      cases hq7 : q1 with
      | nil =>
       rw [hq7] at hlq HP' hqs P8
       have j1 : ¬ (0 : Int) < (m7 : Int) := by simp at hlq; omega
       have j2 : (m7 : Int) <= 0 := by omega
       have HLQ := Lib.hid hlq
       have HQ7 := Lib.hid hq7
       clear hlq hq7 hqs
       have hpf : D.parse (D.ns s) = some ⟨l0, [], D.up (D.ns x1)⟩ := by rw [HP'.out]; simp [D.tail3, hS, hRB]
       obtain ⟨y9, hy⟩ : ∃ y, D.tb ⟨l0, [], D.up (D.ns x1)⟩ = y := ⟨_, rfl⟩
       have HPF := Lib.hid hpf
       have HY := Lib.hid hy
       have hb9 := P8.bT
       rw [hy] at hb9
       have hx9 := rd_blk hb9
       have hT := P8.tR
       have hset := rd_set w7 w.heap.size y9 hT
       have b9 := below_setRow P8.bel (Nat.le_refl _) (nc y9)
       clear hpf hy hb9 P8 HP' hln hlc
       go_wp2
       refine bodyPost_ret (v := .tuple #[.agg (nc y9), .int .i64 0]) (by rw [results_cell_tmp rfl]; simp [asAddr, Result.andThen, lv_of_n hset]) rfl ⟨?_, b9⟩
       rw [HPF.out, <- HY.out]; rfl
      | cons z9 r9 =>
       rw [hq7] at hlq HP' hqs P8
       have j1 : (0 : Int) < (m7 : Int) := by simp at hlq; omega
       have HLQ := Lib.hid hlq
       have HQ7 := Lib.hid hq7
       clear hlq hq7 hqs
       have hpf : D.parse (D.ns s) = none := by rw [HP'.out]; cases r9 <;> simp [D.tail3, hS]
       have HPF := Lib.hid hpf
       have hT := P8.tR
       have hset := rd_set w7 w.heap.size D.zero hT
       have b9 := below_setRow P8.bel (Nat.le_refl _) (nc D.zero)
       clear hpf P8 HP' hln hlc
       go_wp2
       refine bodyPost_ret (v := .tuple #[.agg (nc D.zero), .int .i64 14]) (by rw [results_cell_tmp rfl]; simp [asAddr, Result.andThen, lv_of_n hset]) rfl ⟨?_, b9⟩
       rw [HPF.out]; rfl
    | true =>
     rw [hS] at cSc
     have hn4 := (D.isS_iff.1 hS).1
     have hxc := D.ch_L (D.isS_iff.1 hS).2
     have hxs := hqs x1 (by simp)
     have hcn : (D.cap (D.ns x1)).length = 4 := by rw [D.cap_len]; exact hn4
     have hcc : ∀ c ∈ D.cap (D.ns x1), D.Ch c := D.okS_ch (D.ok_cap hS)
     have cU1 := Lib.hid (fun w => upper_one x1 hxs hxc w)
     have cL1 := Lib.hid (fun w => lower_rest x1 hxs hxc w)
     have HC := Lib.hid (cap_cat (D.ns x1))
     have hsum := cap_sum x1 hxs
     have p2 : (1 : Int) <= (x1.size : Int) := by rw [D.ns_len] at hn4; omega
     clear hn4 hxc hxs
     obtain ⟨ad1, rfl, c1⟩ := P4.head
     have hsum1 := Lib.hid hsum
     clear hsum
     have HMM := Lib.hid hm
     clear hm
     go_wp2_with ((go_at_call 157; (with_reducible refine (cSc.out _).mono ?_); rintro e wk ⟨rfl, rfl⟩))
     refine wp_region_noPanic ?_
     refine wp_region_held_drew (S := fun W => W.cell? ad1 = some (.string x1)) (by kernel_rfl) c1 (fun _ => ?_)
     refine takeT 0 (some 35) ?vs0 ?hys0 c1 ?rests0
     case hys0 => (intro o ho W hW; simp only [gT, gS, gZ, sI] at ho; subst ho; (try dsimp only at hW); go_simp; try rfl)
     try simp only [Act.put, iT, iZ, iS]
     refine takeT 1 (some 36) ?vs1 ?hys1 c1 ?rests1
     case hys1 => (intro o ho W hW; simp only [gT, gS, gZ, sI] at ho; subst ho; (try dsimp only at hW); go_simp; try rfl)
     try simp only [Act.put, iT, iZ, iS]
     refine takeT 2 (some 37) ?vs2 ?hys2 c1 ?rests2
     case hys2 => (intro o ho W hW; simp only [gT, gS, gZ, sI] at ho; subst ho; (try dsimp only at hW); go_simp; try rfl)
     try simp only [Act.put, iT, iZ, iS]
     refine takeT 3 (some 38) ?vs3 ?hys3 c1 ?rests3
     case hys3 => (intro o ho W hW; simp only [gT, gS, gZ, sI] at ho; subst ho; (try dsimp only at hW); go_simp; try rfl)
     try simp only [Act.put, iT, iZ, iS]
     refine takeT 4 (some 39) ?vs4 ?hys4 c1 ?rests4
     case hys4 => (intro o ho W hW; simp only [gT, gS, gZ, sI] at ho; subst ho; (try dsimp only at hW); go_simp; try rfl)
     try simp only [Act.put, iT, iZ, iS]
     refine takeT 5 (some 40) ?vs5 ?hys5 c1 ?rests5
     case hys5 => (intro o ho W hW; simp only [gT, gS, gZ, sI] at ho; subst ho; (try dsimp only at hW); go_simp; try rfl)
     try simp only [Act.put, iT, iZ, iS]
     refine takeT 7 (some 42) ?vs7 ?hys7 c1 ?rests7
     case hys7 => (intro o ho W hW; simp only [gT, gS, gZ, sI] at ho; subst ho; (try dsimp only at hW); go_simp; try rfl)
     try simp only [Act.put, iT, iZ, iS]
     refine takeT 8 (some 43) ?vs8 ?hys8 c1 ?rests8
     case hys8 => (intro o ho W hW; simp only [gT, gS, gZ, sI] at ho; subst ho; (try dsimp only at hW); go_simp; try rfl)
     try simp only [Act.put, iT, iZ, iS]
     refine takeT 9 (some 44) ?vs9 ?hys9 c1 ?rests9
     case hys9 => (intro o ho W hW; simp only [gT, gS, gZ, sI] at ho; subst ho; (try dsimp only at hW); go_simp; try rfl)
     try simp only [Act.put, iT, iZ, iS]
     refine takeT 10 (some 45) ?vs10 ?hys10 c1 ?rests10
     case hys10 => (intro o ho W hW; simp only [gT, gS, gZ, sI] at ho; subst ho; (try dsimp only at hW); go_simp; try rfl)
     try simp only [Act.put, iT, iZ, iS]
     refine nextS 6 (by kernel_rfl) (by rfl) (fun o ho K hK => ?_)
     simp only [gT, gS, gZ, sI] at ho; subst ho
     go_simp
     (go_at_call 158; (with_reducible refine (cU1.out _).mono ?_); rintro e w4 ⟨rfl, b4⟩)
     have c4 := cell_keep b4 (show w3.drew.cell? _ = _ from c1)
     have P5 := (P4.on (Below.refl _ _).drew).on b4
     refine hK.out _ _ c4 (fun _ => ?_)
     clear hK K
     try simp only [Act.put, iT, iZ, iS]
     refine nextS 11 (by kernel_rfl) (by rfl) (fun o ho K hK => ?_)
     simp only [gT, gS, gZ, sI] at ho; subst ho
     go_simp
     (go_at_call 156; (with_reducible refine (cL1.out _).mono ?_); rintro e w5 ⟨rfl, b5⟩)
     have c5 := cell_keep b5 c4
     have P5' := P5.on b5
     refine hK.out _ _ c5 (fun _ => ?_)
     clear hK K
     try simp only [Act.put, iT, iZ, iS]
     refine takeT 12 (some 47) ?vs212 ?hys212 c5 ?rests212
     case hys212 => (intro o ho W hW; simp only [gT, gS, gZ, sI] at ho; subst ho; (try dsimp only at hW); have hsum2 := hsum1.out; go_simp; try rfl)
     try simp only [Act.put, iT, iZ, iS]
     refine nextS 13 (by kernel_rfl) (by rfl) (fun o ho K hK => ?_)
     simp only [gT, gS, gZ, sI] at ho; subst ho
     refine wp_copy_str _ (.tmp 36) (.tmp 47) (by rfl) (by rfl) (congrArg Value.string HC.out) (D.ch_lt hcc) P5'.bT (by omega) (by rw [nc_size]; omega) ?_
     have Q3 := P5'.set (put_script hln hlc hcn hcc)
     have c6 := cell_row_ (g := w.heap.size + 1) (cs := ((nc (D.tb ⟨l0, [], []⟩)).toList.take 3 ++ bys (D.cap (D.ns x1)) ++ (nc (D.tb ⟨l0, [], []⟩)).toList.drop (3 + (D.cap (D.ns x1)).length)).toArray) c5 (P4.far _ rfl)
     refine hK.out _ _ c6 (fun _ => ?_)
     clear hK K
     try simp only [Act.put, iT, iZ, iS]
     refine wpAnyH_done (by kernel_rfl) ?_ _
     refine NoPanic.normal ?_
     have Q3' : Ps w (w5.setRow (w.heap.size + 1) ((nc (D.tb ⟨l0, [], []⟩)).toList.take 3 ++ bys (D.cap (D.ns x1)) ++ (nc (D.tb ⟨l0, [], []⟩)).toList.drop (3 + (D.cap (D.ns x1)).length)).toArray) (some ad1) m (x1 :: q1) ⟨l0, D.cap (D.ns x1), []⟩ := Q3
     obtain ⟨wS, hwS⟩ : ∃ wS, w5.setRow (w.heap.size + 1) ((nc (D.tb ⟨l0, [], []⟩)).toList.take 3 ++ bys (D.cap (D.ns x1)) ++ (nc (D.tb ⟨l0, [], []⟩)).toList.drop (3 + (D.cap (D.ns x1)).length)).toArray = wS := ⟨_, rfl⟩
     rw [hwS] at Q3'
     try rw [hwS]
     clear Q3 hwS c6 c5 c4 P5 P5' b4 b5 cU1 cL1 cSc c1 P4 HC hsum1 p2
     have hm := HMM.out
     obtain ⟨mS, hmS⟩ : ∃ mS, m = mS + 1 := ⟨q1.length, by simp at hm; omega⟩
     obtain ⟨NS, hNS⟩ : ∃ NS, N = NS + 1 := ⟨N - 1, by omega⟩
     have hlS : q1.length = mS := by simp at hm; omega
     have hmNS : mS <= NS := by omega
     obtain ⟨AS, hrS, hrS2, hfS⟩ := from1_s (some ad1) mS NS hmNS
     rw [<- hmS, <- hNS] at hrS
     rw [hmS] at Q3'
     have Q4 := Q3'.low_ (hrS2 _ _ _ Q3'.row) (hfS _ Q3'.far)
     clear hrS2 hfS Q3' hm
     have HMS := Lib.hid hmS
     have HNS := Lib.hid hNS
     clear hmS hNS HMM
     go_upto_region 12 with fail
     clear hrS
     cases q1 with
     | nil =>
      have j3 : ¬ (0 : Int) < (mS : Int) := by simp at hlS; omega
      have j2 : (mS : Int) <= 0 := by omega
      have HLS := Lib.hid hlS
      clear hlS hqs
      have hpf : D.parse (D.ns s) = some ⟨l0, D.cap (D.ns x1), []⟩ := by rw [HP'.out]; simp [D.tail3, hS]
      obtain ⟨y9, hy⟩ : ∃ y, D.tb ⟨l0, D.cap (D.ns x1), []⟩ = y := ⟨_, rfl⟩
      have HPF := Lib.hid hpf
      have HY := Lib.hid hy
      have hb9 := Q4.bT
      rw [hy] at hb9
      have hx9 := rd_blk hb9
      have hT := Q4.tR
      have hset := rd_set wS w.heap.size y9 hT
      have b9 := below_setRow Q4.bel (Nat.le_refl _) (nc y9)
      clear hpf hy hb9 Q4 HP' hln hlc
      go_wp2
      refine bodyPost_ret (v := .tuple #[.agg (nc y9), .int .i64 0]) (by rw [results_cell_tmp rfl]; simp [asAddr, Result.andThen, lv_of_n hset]) rfl ⟨?_, b9⟩
      rw [HPF.out, <- HY.out]; rfl
     | cons y1 q2 =>
      have j3 : (0 : Int) < (mS : Int) := by simp at hlS; omega
      have HLS := Lib.hid hlS
      clear hlS
      have hscS : (D.cap (D.ns x1)).length <= 4 ∧ ∀ c ∈ D.cap (D.ns x1), D.Ch c := ⟨by omega, hcc⟩
      have hqs : ∀ x ∈ y1 :: q2, x.size <= 100 := fun x hx => hqs x (List.mem_cons_of_mem _ hx)
      obtain ⟨adS, rfl, cS⟩ := Q4.head
      have cRS := Lib.hid (fun w => isRegion_any y1 w (hqs y1 (by simp)))
      cases hRS : D.isR (D.ns y1) with
      | false =>
       rw [hRS] at cRS
       have hpf : D.parse (D.ns s) = none := by rw [HP'.out]; cases q2 with | nil => simp [D.tail3, hS, hRS] | cons a b => rfl
       have HPF := Lib.hid hpf
       have hT := Q4.tR
       have hset := rd_set wS w.heap.size D.zero hT
       have b9 := below_setRow Q4.bel (Nat.le_refl _) (nc D.zero)
       clear hpf Q4 HP' hln hlc
       clear hqs hRS
       go_wp2_with (first | (go_at_call 159; (with_reducible refine (cRS.out _).mono ?_); rintro e wk ⟨rfl, rfl⟩))
       refine bodyPost_ret (v := .tuple #[.agg (nc D.zero), .int .i64 14]) (by rw [results_cell_tmp rfl]; simp [asAddr, Result.andThen, lv_of_n hset]) rfl ⟨?_, b9⟩
       rw [HPF.out]; rfl
      | true =>
       rw [hRS] at cRS
       have hyc := D.ch_R hRS
       have hyn : (D.up (D.ns y1)).length <= 3 := by rw [D.up_len]; rcases D.isR_iff.1 hRS with ⟨h, _⟩ | ⟨h, _⟩ <;> omega
       have hyu : ∀ c ∈ D.up (D.ns y1), D.Ch c := D.okR_ch (D.ok_up hRS)
       have cUS := Lib.hid (fun w => upper_any y1 w (hqs y1 (by simp)) (ascii_ch hyc))
       clear hyc
       have hsn : ((D.cap (D.ns x1))).length <= 4 ∧ ∀ c ∈ (D.cap (D.ns x1)), D.Ch c := hscS
       go_wp2_with (first | (go_at_call 159; (with_reducible refine (cRS.out _).mono ?_); rintro e wk ⟨rfl, rfl⟩))
       refine wp_region_noPanic ?_
       refine wp_region_held_drew (S := fun W => W.cell? adS = some (.string y1)) (by kernel_rfl) cS (fun _ => ?_)
       refine takeT 0 (some 60) ?vrS0 ?hyrS0 cS ?restrS0
       case hyrS0 => (intro o ho W hW; simp only [gT, gS, gZ, sI] at ho; subst ho; (try dsimp only at hW); go_simp; try rfl)
       try simp only [Act.put, iT, iZ, iS]
       refine takeT 1 (some 61) ?vrS1 ?hyrS1 cS ?restrS1
       case hyrS1 => (intro o ho W hW; simp only [gT, gS, gZ, sI] at ho; subst ho; (try dsimp only at hW); go_simp; try rfl)
       try simp only [Act.put, iT, iZ, iS]
       refine takeT 2 (some 62) ?vrS2 ?hyrS2 cS ?restrS2
       case hyrS2 => (intro o ho W hW; simp only [gT, gS, gZ, sI] at ho; subst ho; (try dsimp only at hW); go_simp; try rfl)
       try simp only [Act.put, iT, iZ, iS]
       refine takeT 3 (some 63) ?vrS3 ?hyrS3 cS ?restrS3
       case hyrS3 => (intro o ho W hW; simp only [gT, gS, gZ, sI] at ho; subst ho; (try dsimp only at hW); go_simp; try rfl)
       try simp only [Act.put, iT, iZ, iS]
       refine takeT 4 (some 64) ?vrS4 ?hyrS4 cS ?restrS4
       case hyrS4 => (intro o ho W hW; simp only [gT, gS, gZ, sI] at ho; subst ho; (try dsimp only at hW); go_simp; try rfl)
       try simp only [Act.put, iT, iZ, iS]
       refine nextS 5 (by kernel_rfl) (by rfl) (fun o ho K hK => ?_)
       simp only [gT, gS, gZ, sI] at ho; subst ho
       go_simp
       (go_at_call 158; (with_reducible refine (cUS.out _).mono ?_); rintro e w6 ⟨rfl, b6⟩)
       have c6 := cell_keep b6 (show wS.drew.cell? _ = _ from cS)
       have P6 := (Q4.on (Below.refl _ _).drew).on b6
       refine hK.out _ _ c6 (fun _ => ?_)
       clear hK K
       try simp only [Act.put, iT, iZ, iS]
       refine nextS 6 (by kernel_rfl) (by rfl) (fun o ho K hK => ?_)
       simp only [gT, gS, gZ, sI] at ho; subst ho
       refine wp_copy_str _ (.tmp 61) (.tmp 65) (by rfl) (by rfl) (by rfl) (D.ch_lt hyu) P6.bT hyn (by rw [nc_size]; omega) ?_
       have P7 := P6.set (put_region hln hlc hsn.1 hsn.2 hyn hyu)
       have c7 := cell_row_ (g := w.heap.size + 1) (cs := ((nc (D.tb ⟨l0, (D.cap (D.ns x1)), []⟩)).toList.take 7 ++ bys (D.up (D.ns y1)) ++ (nc (D.tb ⟨l0, (D.cap (D.ns x1)), []⟩)).toList.drop (7 + (D.up (D.ns y1)).length)).toArray) c6 (Q4.far _ rfl)
       refine hK.out _ _ c7 (fun _ => ?_)
       clear hK K
       try simp only [Act.put, iT, iZ, iS]
       refine wpAnyH_done (by kernel_rfl) ?_ _
       refine NoPanic.normal ?_
       have P7' : Ps w (w6.setRow (w.heap.size + 1) ((nc (D.tb ⟨l0, (D.cap (D.ns x1)), []⟩)).toList.take 7 ++ bys (D.up (D.ns y1)) ++ (nc (D.tb ⟨l0, (D.cap (D.ns x1)), []⟩)).toList.drop (7 + (D.up (D.ns y1)).length)).toArray) (some adS) mS (y1 :: q2) ⟨l0, (D.cap (D.ns x1)), D.up (D.ns y1)⟩ := P7
       obtain ⟨w7, hw7⟩ : ∃ w7, w6.setRow (w.heap.size + 1) ((nc (D.tb ⟨l0, (D.cap (D.ns x1)), []⟩)).toList.take 7 ++ bys (D.up (D.ns y1)) ++ (nc (D.tb ⟨l0, (D.cap (D.ns x1)), []⟩)).toList.drop (7 + (D.up (D.ns y1)).length)).toArray = w7 := ⟨_, rfl⟩
       rw [hw7] at P7'
       try rw [hw7]
       clear P7 hw7 c6 c7 P6 b6 cUS cRS cS Q4
       obtain ⟨m7, hm7⟩ : ∃ m7, mS = m7 + 1 := ⟨q2.length, by have := P7'.row.len; simp at this; omega⟩
       obtain ⟨N7, hN7⟩ : ∃ N7, NS = N7 + 1 := ⟨NS - 1, by omega⟩
       have hlq : q2.length = m7 := by have := P7'.row.len; simp at this; omega
       obtain ⟨A7, hr7, hr8, hf7⟩ := from1_s (some adS) m7 N7 (by omega)
       rw [<- hm7, <- hN7] at hr7
       rw [hm7] at P7'
       have P8 := P7'.low_ (hr8 _ _ _ P7'.row) (hf7 _ P7'.far)
       clear hr8 hf7 P7'
       have HM7 := Lib.hid hm7
       have HN7 := Lib.hid hN7
       clear hm7 hN7
       cases hq7 : q2 with
       | nil =>
        rw [hq7] at hlq HP' hqs P8
        have j1 : ¬ (0 : Int) < (m7 : Int) := by simp at hlq; omega
        have j2 : (m7 : Int) <= 0 := by omega
        have HLQ := Lib.hid hlq
        have HQ7 := Lib.hid hq7
        clear hlq hq7 hqs
        have hpf : D.parse (D.ns s) = some ⟨l0, (D.cap (D.ns x1)), D.up (D.ns y1)⟩ := by rw [HP'.out]; simp [D.tail3, hS, hRS]
        obtain ⟨y9, hy⟩ : ∃ y, D.tb ⟨l0, (D.cap (D.ns x1)), D.up (D.ns y1)⟩ = y := ⟨_, rfl⟩
        have HPF := Lib.hid hpf
        have HY := Lib.hid hy
        have hb9 := P8.bT
        rw [hy] at hb9
        have hx9 := rd_blk hb9
        have hT := P8.tR
        have hset := rd_set w7 w.heap.size y9 hT
        have b9 := below_setRow P8.bel (Nat.le_refl _) (nc y9)
        clear hpf hy hb9 P8 HP' hln hlc
        go_wp2
        refine bodyPost_ret (v := .tuple #[.agg (nc y9), .int .i64 0]) (by rw [results_cell_tmp rfl]; simp [asAddr, Result.andThen, lv_of_n hset]) rfl ⟨?_, b9⟩
        rw [HPF.out, <- HY.out]; rfl
       | cons z9 r9 =>
        rw [hq7] at hlq HP' hqs P8
        have j1 : (0 : Int) < (m7 : Int) := by simp at hlq; omega
        have HLQ := Lib.hid hlq
        have HQ7 := Lib.hid hq7
        clear hlq hq7 hqs
        have hpf : D.parse (D.ns s) = none := by rw [HP'.out]; rfl
        have HPF := Lib.hid hpf
        have hT := P8.tR
        have hset := rd_set w7 w.heap.size D.zero hT
        have b9 := below_setRow P8.bel (Nat.le_refl _) (nc D.zero)
        clear hpf P8 HP' hln hlc
        go_wp2
        refine bodyPost_ret (v := .tuple #[.agg (nc D.zero), .int .i64 14]) (by rw [results_cell_tmp rfl]; simp [asAddr, Result.andThen, lv_of_n hset]) rfl ⟨?_, b9⟩
        rw [HPF.out]; rfl
end Go.Proofs.YtgnjjlgmlokhmaaGreatDoor
