/-
  The program's Parse.
-/
import Derived.Test.YtgobbdfgjgjigaaGreatDoorRefa
import Derived.Test.YtgobbdfgjgjigaaGreatDoorTo
import Derived.Test.YtgobbdfgjgjigaaGreatDoorRpa
import Derived.Test.YtgobbdfgjgjigaaGreatDoorPpm
import Derived.Lib.BufferWrite
import Derived.Deep.Light
import Derived.Sort.Grow
import Derived.Test.YtgobbdfgjgjigaaGreatDoorACut
set_option linter.unusedVariables false
set_option linter.unusedSimpArgs false
namespace Go.Proofs.YtgobbdfgjgjigaaGreatDoor
open Go.RowKit
attribute [local go_sem ↓] Go.wp_at_zero Go.wp_at_succ ld_a ld_n st_a st_n eq_a eq_n ne_a ne_n lv_a lv_n lp_3 lp_4
attribute [local go_sem] run_ld_a run_ld_n run_sw_a run_sw_n run_eq_a run_eq_n run_ne_a run_ne_n run_lv_a run_lv_n st_z ne_z rd_new rd_old rd_drew rd_drewN rd_set tn_new tn_old tn_drew tn_drewN setRow_alloc run_lp_3 run_lp_4

/-- A text copied into a tag's variable. -/
theorem wp_copy_str (w : World) {o : Oper} {a : Act} {K : Act → World → Prop} {Q : Exit → Act → World → Prop} (d s : Operand)
    (hop : o.op = .call { callee := .builtin .copy, args := #[d, s], argTypes := #[88, 9] })
    {g off dl dc : Nat} {t : TypeId} {cur : Array Value} {l : List Nat} (hd : a.eval d = .slice (some ⟨g, off, none⟩) dl dc) (hs : a.eval s = .string (D.sb l)) (hl : ∀ b ∈ l, b < 256) (hB : Blk w g t cur) (hle : l.length ≤ dl) (hfit : off + l.length ≤ cur.size)
    (h : K (a.put o.dst (goInt l.length)) (w.setRow g (cur.toList.take off ++ bys l ++ cur.toList.drop (off + l.length)).toArray)) : o.wp Tryz.prog a w K Q := by
  have hi : (Tryz.prog.info? 5).map (·.size) = some 1 := by kernel_rfl
  have hrun := Lib.run_copy_row_string (P := Tryz.prog) w 88 9 o.type 5 g off dl dc (D.sb l) cur t Tryz.underlying88 hi hB.out (by rw [D.sb_len]; exact hle) (by rw [D.sb_len]; exact hfit)
  have hc : Lib.byteCells (D.sb l).data.toList = bys l := by
    have := D.ns_sb hl
    unfold D.ns at this
    rw [Lib.byteCells, bys]
    conv => rhs; rw [← this]
    rw [List.map_map]
    rfl
  rw [hc, D.sb_len] at hrun
  unfold Oper.wp execOp
  simp only [hop, resolve, invoke, builtin, Sem.run_bind, Sem.run_pure, Result.andThen_ok, List.map_toArray, List.map_cons, List.map_nil, hd, hs, hrun]
  exact h
theorem bys_rep (n : Nat) : bys (List.replicate n 0) = List.replicate n (.int .u8 0) := by simp [bys]
theorem put_lang {l : List Nat} (hl : l.length ≤ 3) (hc : ∀ c ∈ l, D.Ch c) : (z10.toList.take 0 ++ bys l ++ z10.toList.drop (0 + l.length)).toArray = nc (D.tb ⟨l, [], []⟩) := by
  have hz : z10.toList = bys (List.replicate 10 0) := by rw [bys_rep]; rfl
  have ht := D.tb_l (p := ⟨l, [], []⟩) (D.ch_lt hc) (fun c h => by cases h) (fun c h => by cases h)
  rw [nc, ht, hz, bys_drop, List.take_zero, List.nil_append, ← bys_app, List.drop_replicate, D.tbl]
  congr 2
  simp only
  rw [D.padn_eq hl, Nat.zero_add]
  have e1 : D.padn [] 4 = List.replicate 4 0 := rfl
  have e2 : D.padn [] 3 = List.replicate 3 0 := rfl
  rw [e1, e2, List.append_assoc, List.replicate_append_replicate, List.replicate_append_replicate, show 3 - l.length + (4 + 3) = 10 - l.length by omega]
theorem put_script {l s : List Nat} (hl : l.length ≤ 3) (hc : ∀ c ∈ l, D.Ch c) (hs : s.length = 4) (hsc : ∀ c ∈ s, D.Ch c) : ((nc (D.tb ⟨l, [], []⟩)).toList.take 3 ++ bys s ++ (nc (D.tb ⟨l, [], []⟩)).toList.drop (3 + s.length)).toArray = nc (D.tb ⟨l, s, []⟩) := by
  have ht := D.tb_l (p := ⟨l, [], []⟩) (D.ch_lt hc) (fun c h => by cases h) (fun c h => by cases h)
  have ht2 := D.tb_l (p := ⟨l, s, []⟩) (D.ch_lt hc) (D.ch_lt hsc) (fun c h => by cases h)
  rw [nc, nc, ht, ht2, D.tbl, D.tbl]
  simp only
  rw [bys_take, bys_drop, ← bys_app, ← bys_app]
  congr 2
  rw [hs, List.take_append_of_le_length (by rw [D.padn_len]; exact Nat.le_refl _), List.take_of_length_le (by rw [D.padn_len]; exact Nat.le_refl _), ← List.append_assoc (D.padn l 3), List.drop_append_of_le_length (by simp [D.padn_len]), List.drop_of_length_le (by simp [D.padn_len]), List.nil_append, List.append_assoc]
  congr 2
  rw [D.padn_eq (by omega), hs]
  simp
theorem put_region {l s r : List Nat} (hl : l.length ≤ 3) (hc : ∀ c ∈ l, D.Ch c) (hs : s.length ≤ 4) (hsc : ∀ c ∈ s, D.Ch c) (hr : r.length ≤ 3) (hrc : ∀ c ∈ r, D.Ch c) : ((nc (D.tb ⟨l, s, []⟩)).toList.take 7 ++ bys r ++ (nc (D.tb ⟨l, s, []⟩)).toList.drop (7 + r.length)).toArray = nc (D.tb ⟨l, s, r⟩) := by
  have ht := D.tb_l (p := ⟨l, s, []⟩) (D.ch_lt hc) (D.ch_lt hsc) (fun c h => by cases h)
  have ht2 := D.tb_l (p := ⟨l, s, r⟩) (D.ch_lt hc) (D.ch_lt hsc) (D.ch_lt hrc)
  rw [nc, nc, ht, ht2, D.tbl, D.tbl]
  simp only
  rw [bys_take, bys_drop, ← bys_app, ← bys_app]
  congr 2
  have e2 : D.padn [] 3 = List.replicate 3 0 := rfl
  have h1 := D.padn_len l 3
  have h2 := D.padn_len s 4
  rw [← List.append_assoc (D.padn l 3), ← List.append_assoc (D.padn l 3), List.take_append_of_le_length (by simp; omega), List.take_of_length_le (by simp; omega), List.drop_append, List.drop_of_length_le (by simp; omega), List.nil_append, e2, List.drop_replicate, D.padn_eq hr]
  simp only [List.length_append, h1, h2, List.append_assoc]
  congr 5
  omega

/-- A row of texts, cut by one. -/
theorem from1_s (A : Option Addr) (m c : Nat) (h : m ≤ c) : ∃ A1, (∀ W, (Instr.slice 172 (.slice A (m + 1) (c + 1)) (some (.int .i64 1)) none none).run Tryz.prog W = .ok (.slice A1 m c) W) ∧ (∀ W x xs, Row W A (m + 1) (x :: xs) → Row W A1 m xs) ∧ ∀ b, (∀ ad, A = some ad → ad.block ≠ b) → ∀ ad, A1 = some ad → ad.block ≠ b := by
  refine ⟨if c + 1 = 1 then A else A.map (·.add 1), fun W => ?_, fun W x xs hr => ?_, fun b hA ad e => ?_⟩
  · have := run_slice_l (P := Tryz.prog) W 172 A (m + 1) (c + 1) (by kernel_rfl) .i64 1 (by omega) (by omega)
    rw [this]
    simp [Result.andThen, sliced, go_sem]
  · have := hr.cut (k := 1) (cap := c + 1) (by omega) (by omega)
    simpa using this
  · split at e
    · exact hA ad e
    · cases A with
      | none => cases e
      | some a =>
        injection e with e
        rw [← e, block_of_add]
        exact hA a rfl
theorem piece_len : ∀ (k : Nat) (t : List Nat), ∀ p ∈ D.spn k t, p.length ≤ t.length
  | 0, t, p, h => by simp [D.spn] at h; subst h; exact Nat.le_refl _
  | k + 1, t, p, h => by
    rw [D.spn] at h
    split at h
    · rename_i hm
      rcases List.mem_cons.1 h with rfl | h
      · exact D.cutP_len t
      · exact Nat.le_trans (piece_len k _ p h) (Nat.le_of_lt (D.cutR_lt hm))
    · simp at h; subst h; exact Nat.le_refl _
theorem cells_row (w : World) (xs : List ByteArray) (N : Nat) (h : xs.length ≤ N) (t : TypeId) : Row (w.alloc (.cells (Lib.cellsOf xs N) t)) (some ⟨w.heap.size, 0, none⟩) xs.length (xs.map Value.string) :=
  ⟨by simp, fun _ => ⟨_, rfl, by simp, fun j u hu => by
    rw [World.news_of_block (heap_alloc_new w _) j u]
    have hj := (List.getElem?_eq_some_iff.1 hu).1
    rw [Lib.cellsOf]
    simp only [List.append_eq]
    rw [List.getElem?_append_left hj]
    exact hu⟩⟩
theorem split_tag (s : ByteArray) (w : World) (hs : s.size ≤ 100) (h : D.ns s ≠ D.rootT) :
    Calls Tryz.prog 109 #[.string s, .string dash, .int .i64 4] w fun e w' => ∃ (x0 : ByteArray) (q : List ByteArray) (N : Nat), e = .returned (.slice (some ⟨w.heap.size, 0, none⟩) (q.length + 1) (N + 1)) ∧ q.length ≤ N ∧ q.length ≤ 3 ∧ Below w.heap.size w w' ∧ Row w' (some ⟨w.heap.size, 0, none⟩) (q.length + 1) (.string x0 :: q.map Value.string) ∧ Kept (D.parse (D.ns s) = if D.isL (D.ns x0) then D.tail3 (D.low (D.ns x0)) (q.map D.ns) else none) ∧ x0.size ≤ 100 ∧ ∀ x ∈ q, x.size ≤ 100 := by
  refine (split_any s w hs).mono fun e w' ⟨xs, N, h1, h2, h3, he, hw⟩ => ?_
  obtain ⟨p, q, e1, e2, e3⟩ := D.parse_spn h
  have hpl : ∀ x ∈ xs, x.size ≤ 100 := fun x hx => by
    have := piece_len 3 (D.ns s) (D.ns x) (by rw [← h1]; exact List.mem_map_of_mem hx)
    rw [D.ns_len, D.ns_len] at this
    omega
  cases xs with
  | nil => rw [e1] at h1; cases h1
  | cons x0 xs =>
    rw [e1] at h1
    injection h1 with h1 h1'
    have hr := cells_row w (x0 :: xs) N h2 9
    simp only [List.length_cons] at h2
    refine ⟨x0, xs, N - 1, ?_, by omega, ?_, ?_, ?_, ⟨?_⟩, hpl x0 (by simp), fun x hx => hpl x (by simp [hx])⟩
    · rw [he, show N - 1 + 1 = N by omega]; rfl
    · rw [← h1'] at e2; simpa using e2
    · rw [hw]; exact below_alloc_ _ _
    · rw [hw]; exact hr
    · rw [e3, ← h1, ← h1']
def er : Option D.Pt → Int
  | some _ => 0
  | none => 14

/-- How far the program's Parse has come. -/
structure Ps (w0 w : World) (A : Option Addr) (m : Nat) (q : List ByteArray) (u : D.Pt) : Prop where
  tR : tn w w0.heap.size = true
  bT : Blk w (w0.heap.size + 1) 28 (nc (D.tb u))
  row : Row w A m (q.map Value.string)
  far : ∀ ad, A = some ad → ad.block ≠ w0.heap.size + 1
  bel : Below w0.heap.size w0 w
theorem Ps.on {w0 w w' : World} {A : Option Addr} {m : Nat} {q : List ByteArray} {u : D.Pt} (h : Ps w0 w A m q u) (hb : Below w.heap.size w w') : Ps w0 w' A m q u :=
  ⟨tn_on h.tR hb, h.bT.on hb, h.row.on hb, h.far, below_on h.bel h.bel.size hb⟩
theorem Row.keep {w w' : World} {A : Option Addr} {n : Nat} {xs : List Value} (h : Row w A n xs) (hs : w.heap.size ≤ w'.heap.size) (hk : ∀ ad, A = some ad → w'.heap[ad.block]? = w.heap[ad.block]?) : Row w' A n xs := ⟨h.len, fun hn => by
  obtain ⟨ad, e, hl, hc⟩ := h.tow hn
  exact ⟨ad, e, Nat.lt_of_lt_of_le hl hs, fun j u hu => (World.cell?_of_block (w := w) (by rw [block_of_add]; exact hk ad e)).trans (hc j u hu)⟩⟩
theorem blk_set {w : World} {g : Nat} {t : TypeId} {cs cs' : Array Value} (h : Blk w g t cs) : Blk (w.setRow g cs') g t cs' := ⟨by have := h.out; simp [World.setRow, Array.getElem?_modify, this]⟩
theorem Ps.set {w0 w : World} {A : Option Addr} {m : Nat} {q : List ByteArray} {u v : D.Pt} (h : Ps w0 w A m q u) {cs : Array Value} (hc : cs = nc (D.tb v)) : Ps w0 (w.setRow (w0.heap.size + 1) cs) A m q v := by
  subst hc
  refine ⟨(tn_to (heap_setRow _ _ _ _ (by omega))).trans h.tR, blk_set h.bT, h.row.keep (by simp [World.setRow]) (fun ad e => heap_setRow _ _ _ _ (h.far ad e)), h.far, below_setRow h.bel (Nat.le_succ _) _⟩
/-- The first text of a row. -/
theorem Ps.head {w0 w : World} {A : Option Addr} {m : Nat} {x : ByteArray} {q : List ByteArray} {u : D.Pt} (h : Ps w0 w A m (x :: q) u) : ∃ ad, A = some ad ∧ w.cell? ad = some (.string x) := by
  obtain ⟨ad, e, hc⟩ := h.row.cell (k := 0) (u := .string x) rfl
  exact ⟨ad, e, by rwa [add_zero_] at hc⟩
theorem Ps.low_ {w0 w : World} {A A1 : Option Addr} {m : Nat} {x : ByteArray} {q : List ByteArray} {u : D.Pt} (h : Ps w0 w A (m + 1) (x :: q) u) (hr : Row w A1 m (q.map Value.string)) (hA : ∀ ad, A1 = some ad → ad.block ≠ w0.heap.size + 1) : Ps w0 w A1 m q u := ⟨h.tR, h.bT, hr, hA, h.bel⟩
end Go.Proofs.YtgobbdfgjgjigaaGreatDoor
