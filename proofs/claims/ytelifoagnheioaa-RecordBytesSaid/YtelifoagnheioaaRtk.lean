/-
  The program's take: the record at a reader's place.
-/
import Derived.Test.YtelifoagnheioaaRre
import Derived.Test.YtelifoagnheioaaRefW
set_option linter.unusedVariables false
set_option linter.unusedSimpArgs false
set_option maxRecDepth 100000
namespace Go.Proofs.Ytelifoagnheioaa
open Go.RowKit
attribute [local go_sem ↓] Go.wp_at_zero Go.wp_at_succ ld_r st_r bd_r ne_r
attribute [local go_sem] run_ldr run_str run_bdr1 run_bdr0 run_ner Shp.rd_new Shp.rd_old Shp.tn_new Shp.tn_old setRow_alloc setRow_alloc2

def ers (l : List Nat) : List Value := l.map fun (e : Nat) => .int .i64 (e : Int)
theorem ers_at {l : List Nat} {i e : Nat} (h : l[i]? = some e) : (ers l)[i]? = some (.int .i64 e) := by simp [ers, h]
/-- cmp.Or: the first that isn't 0. -/
theorem or_any (es : List Nat) (A : Option Addr) (n c : Nat) (w : World) (hr : Row w A n (ers es)) (hn : n ≤ 1000) :
    Calls Try.prog 54 #[.slice A n c] w fun en w' => en = .returned (.int .i64 (es.foldl D.fst2 0 : Nat)) ∧ w = w' := by
  have hl : es.length = n := by have := hr.len; simpa [ers] using this
  have HL := Lib.hid hl
  have HR := Lib.hid hr
  clear hl hr
  have key : ∀ k : Nat, k < es.length → (∀ e ∈ es.take k, e = 0) → ∀ e, es[k]? = some e → e ≠ 0 → es.foldl D.fst2 0 = e := fun k hk h0 e he hne => by
    have h1 : ∀ (l : List Nat), (∀ x ∈ l, x = 0) → l.foldl D.fst2 0 = 0 := fun l => by
      induction l with
      | nil => intro _; rfl
      | cons x l ih =>
        intro h
        have := h x (by simp)
        subst this
        exact ih fun y hy => h y (by simp [hy])
    have h2 : ∀ (l : List Nat) (e : Nat), e ≠ 0 → l.foldl D.fst2 e = e := fun l => by
      induction l with
      | nil => intro e _; rfl
      | cons x l ih => intro e h; rw [List.foldl_cons, D.fst2_some h]; exact ih e h
    have h3 : es = es.take k ++ e :: es.drop (k + 1) := by
      have h4 := List.drop_eq_getElem_cons hk
      have h5 : es[k] = e := (List.getElem?_eq_some_iff.1 he).2
      rw [h5] at h4
      rw [← h4, List.take_append_drop]
    rw [h3, List.foldl_append, h1 _ h0, List.foldl_cons]
    exact h2 _ e hne
  have kz : (∀ e ∈ es, e = 0) → es.foldl D.fst2 0 = 0 := fun h => by
    have h1 : ∀ (l : List Nat), (∀ x ∈ l, x = 0) → l.foldl D.fst2 0 = 0 := fun l => by
      induction l with
      | nil => intro _; rfl
      | cons x l ih =>
        intro h
        have := h x (by simp)
        subst this
        exact ih fun y hy => h y (by simp [hy])
    exact h1 es h
  have KEY := Lib.hid key
  have KZ := Lib.hid kz
  obtain ⟨r, hrr⟩ : ∃ r, es.foldl D.fst2 0 = r := ⟨_, rfl⟩
  rw [hrr]
  have HRR := Lib.hid hrr
  clear key kz hrr
  go_enter Try.func54, Try.ntmps54
  go_wp2_with fail
  go_loop [8] (fun i => ∃ k : Nat, k ≤ n ∧ i = .int .i64 k ∧ Kept (∀ e ∈ es.take k, e = 0)) (fun i => n - (intOf i).toNat)
  case atStart => exact ⟨0, Nat.zero_le _, rfl, ⟨fun e he => by simp at he⟩⟩
  case round =>
    obtain ⟨k, hk, rfl, HZ⟩ := hrel
    by_cases hlt : k < n
    · obtain ⟨e, he⟩ : ∃ e, es[k]? = some e := ⟨es[k]'(by rw [HL.out]; exact hlt), List.getElem?_eq_getElem _⟩
      obtain ⟨ad, rfl, hc⟩ := HR.out.cell (ers_at he)
      by_cases h0 : e = 0
      · subst h0
        have hc : w.cell? (ad.add k) = some (.int .i64 0) := hc
        have HN : Kept (∀ e ∈ es.take (k + 1), e = 0) := ⟨fun x hx => by
          rw [List.take_add_one, he] at hx
          rcases List.mem_append.1 hx with hx | hx
          · exact HZ.out x hx
          · simpa using hx⟩
        clear he
        go_wp2
        go_round
        case rel => exact ⟨k + 1, by omega, by go_num, HN⟩
        case measure => simp [intOf]; omega
      · have hb : ((e : Int) != 0) = true := by simp; exact h0
        have HE : Kept (e = r) := ⟨by rw [← HRR.out]; exact (KEY.out k (by rw [HL.out]; exact hlt) HZ.out e he h0).symm⟩
        clear he
        go_wp2
        go_ret
        exact ⟨by rw [← HE.out]; rfl, rfl⟩
    · have HE : Kept (0 = r) := ⟨by
        rw [← HRR.out]
        have h1 := HZ.out
        rw [List.take_of_length_le (by rw [HL.out]; omega)] at h1
        exact (KZ.out h1).symm⟩
      go_wp2
      go_ret
      exact ⟨by rw [← HE.out]; rfl, rfl⟩
theorem D.rfs_wf {l : List Nat} (hl : ∀ b ∈ l, b < 256) {k : Nat} (hk : k < 256) (z : D.Rz) : (D.rfs l z k).r.wf := by
  have h0 := fun z => D.zx_256 hl z
  have h1 : ∀ z, D.zx l z 3 D.mxR < 4294967296 := fun z => by have := D.zx_le l z D.mxR; unfold D.mxR at *; omega
  have h2 : ∀ z, D.zx l z 3 D.mxA < 18446744073709551616 := fun z => by have := D.zx_le l z D.mxA; unfold D.mxA at *; omega
  unfold D.rfs
  split
  · constructor <;> first | exact h0 _ | (show (_ : Nat) < _; simp)
  · constructor <;> first | exact h0 _ | (show (_ : Nat) < _; simp)
  · constructor <;> first | exact h0 _ | exact h2 _ | (show (_ : Nat) < _; simp)
  · constructor <;> first | exact h0 _ | exact h1 _ | (show (_ : Nat) < _; simp)
  · constructor <;> first | exact h0 _ | exact h1 _ | (show (_ : Nat) < _; simp)
  · constructor <;> first | exact hk | (show (0 : Nat) < _; simp)
/-- What take answers. -/
def Tk (q : Nat) (B : Option Addr) (n c : Nat) (l : List Nat) (o : D.Ro) (w : World) (en : Ending) (w' : World) : Prop := en = .returned (.tuple #[.agg (rS.v o.r), .int .i64 (o.e : Nat)]) ∧ (o.e = 0 → Rd w' q B n c l o.n 0) ∧ Only (fun i => i = q) w w'
theorem results_ct {fn : Func} {p u : Tmp} {ty : TypeId} (h : fn.results = #[.cell p ty, .tmp u]) {tmps : Array Value} {w : World} {H : Nat} {x : D.Rc} {y : Value} (hT : ty = 28) (hp : tmps.getD p undef = .pointer (some ⟨H, 0, none⟩)) (hu : tmps.getD u undef = y) (hr : rS.rd w ⟨H, 0, none⟩ = some x) :
    (results fn tmps).run Try.prog w = .ok (.tuple #[.agg (rS.v x), y]) w := by
  subst hT
  rw [results_cell_tmp h, hp, hu]
  simp [asAddr, Result.andThen, lvr_of hr]
section
variable (q n c place : Nat) (B : Option Addr) (l : List Nat) (w : World)
theorem zn0_none (h : l[place]? = none) : D.zn l ⟨place, 0⟩ 0 0 = ⟨place, 4⟩ ∧ D.zx l ⟨place, 0⟩ 0 0 = 0 := by
  have : l.drop place = [] := List.drop_eq_nil_of_le (by simpa using h)
  simp [D.zn, D.zx, this, D.rd0, D.fix]
theorem zn0_some {k : Nat} (h : l[place]? = some k) (hk : k < 256) : D.zn l ⟨place, 0⟩ 0 0 = ⟨place + 1, 0⟩ ∧ D.zx l ⟨place, 0⟩ 0 0 = k := by
  obtain ⟨hlt, e⟩ := List.getElem?_eq_some_iff.1 h
  have hd : l.drop place = k :: l.drop (place + 1) := by rw [List.drop_eq_getElem_cons hlt, e]
  simp [D.zn, D.zx, hd, D.rd_byte hk]
/-- The world behind take's beginning: the result's block. -/
theorem rb_zero (w : World) : RB (w.alloc (.cells #[.int .u8 0, .int .u8 0, .int .u8 0, .int .u8 0, .int .u8 0, .bool false, .int .u32 0, .int .u64 0, .string ⟨#[]⟩] 28)) w.heap.size D.zRc := Blk.new w _ (rS.v D.zRc)
set_option maxHeartbeats 4000000 in
theorem take_end (h : Rd w q B n c l place 0) (hn : l[place]? = none) :
    Calls Try.prog 31 #[.pointer (some ⟨q, 0, none⟩)] w (Tk q B n c l ⟨D.zRc, 0, 4⟩ w) := by
  obtain ⟨e1, e2⟩ := zn0_none place l hn
  have hq := h.blk.lt
  have CB := fun W (k : Rd W q B n c l place 0) => rz_byte (z := ⟨place, 0⟩) 0 e2 k
  unfold Rw_ at CB
  rw [e1] at CB
  have CB' : Hid (∀ W, Rd W q B n c l place 0 → Calls Try.prog 51 #[.pointer (some ⟨q, 0, none⟩)] W fun en w' => en = .returned (.int .u8 0) ∧ Rd w' q B n c l place 4 ∧ Only (fun i => i = q) W w') := Lib.hid CB
  have CE : Hid (∀ W, Rd W q B n c l place 4 → Calls Try.prog 52 #[.pointer (some ⟨q, 0, none⟩)] W fun en w' => en = .returned (.int .i64 4) ∧ W = w') := Lib.hid (fun W k => err_any q n c place 4 B W k.blk)
  have HH := Lib.hid h
  have kz : ∀ W, (bdr #[(0, .int .u8 0)]).run Try.prog W = .ok (.agg (rS.v (D.bare 0))) W := fun W => run_bdr1 W 0
  clear CB h hn e1 e2
  go_enter Try.func31, Try.ntmps31
  go_wp2_with fail
  have Z0 := Lib.hid (rb_zero w)
  have B0 := Lib.hid (below_alloc w (.cells #[.int .u8 0, .int .u8 0, .int .u8 0, .int .u8 0, .int .u8 0, .bool false, .int .u32 0, .int .u64 0, .string ⟨#[]⟩] 28))
  generalize w.alloc (.cells #[.int .u8 0, .int .u8 0, .int .u8 0, .int .u8 0, .int .u8 0, .bool false, .int .u32 0, .int .u64 0, .string ⟨#[]⟩] 28) = W0 at Z0 B0 ⊢
  have nq : w.heap.size ≠ q := by omega
  have NQ := Lib.hid nq
  clear nq
  go_wp2_with (first
    | (go_at_call 51; (with_reducible refine (CB'.out _ (HH.out.on B0.out)).mono ?_); rintro en w1 ⟨rfl, h1, k1⟩
       have H1 := Lib.hid (h1.on (below_alloc w1 (.cells (rS.v (D.bare 0)) 28)))
       have K1 := Lib.hid ((Only.off B0.out k1).on (below_alloc w1 (.cells (rS.v (D.bare 0)) 28)))
       have Z1 := Lib.hid ((Z0.out.only k1 NQ.out).on (below_alloc w1 (.cells (rS.v (D.bare 0)) 28)))
       have t1 := Z1.out.tn
       clear h1 k1)
    | (go_at_call 52; (with_reducible refine (CE.out _ H1.out).mono ?_); rintro en w2 ⟨rfl, rfl⟩))
  refine bodyPost_ret (v := .tuple #[.agg (rS.v D.zRc), .int .i64 4]) (results_ct rfl rfl rfl rfl (Shp.rd_set (S := rS) _ _ _ t1)) rfl ⟨rfl, (fun h => by cases h), ?_⟩
  exact ⟨K1.out.os, K1.out.tape, K1.out.output, by simpa [World.setRow] using K1.out.size, fun i hi hs => (heap_setRow _ _ _ _ (by have := hi; omega)).trans (K1.out.block i hi hs)⟩
theorem only_setRow {S : Nat → Prop} {w w' : World} (k : Only S w w') (g : Nat) (cs : Array Value) (hg : w.heap.size ≤ g) : Only S w (w'.setRow g cs) :=
  ⟨k.os, k.tape, k.output, by simpa [World.setRow] using k.size, fun i hi hs => (heap_setRow _ _ _ _ (by omega)).trans (k.block i hi hs)⟩
/-- What take has laid ahead of reading: the result, the record, the error; and the reader stands behind the kind. -/
structure Tq (w W : World) (q : Nat) (B : Option Addr) (n c : Nat) (l : List Nat) (place k p g : Nat) : Prop where
  only : Only (fun i => i = q) w W
  z : RB W w.heap.size D.zRc
  rd : Rd W q B n c l (place + 1) 0
  hp : RB W p (D.bare k)
  hg : EB W g 0
  lp : w.heap.size < p
  lg : w.heap.size < g
  lq : q < w.heap.size
set_option maxHeartbeats 4000000 in
theorem take_bad (k : Nat) (hl : ∀ b ∈ l, b < 256) (h : Rd w q B n c l place 0) (hn : l[place]? = some k) (hk : k = 0 ∨ 6 < k) :
    Calls Try.prog 31 #[.pointer (some ⟨q, 0, none⟩)] w (Tk q B n c l ⟨D.zRc, 0, 16⟩ w) := by
  obtain ⟨e1, e2⟩ := zn0_some place l hn (hl _ (List.mem_of_getElem? hn))
  have hq := h.blk.lt
  have CB := fun W (kk : Rd W q B n c l place 0) => rz_byte (z := ⟨place, 0⟩) k e2 kk
  unfold Rw_ at CB
  rw [e1] at CB
  have CB' : Hid (∀ W, Rd W q B n c l place 0 → Calls Try.prog 51 #[.pointer (some ⟨q, 0, none⟩)] W fun en w' => en = .returned (.int .u8 (k : Nat)) ∧ Rd w' q B n c l (place + 1) 0 ∧ Only (fun i => i = q) W w') := Lib.hid CB
  have CE : Hid (∀ W, Rd W q B n c l (place + 1) 0 → Calls Try.prog 52 #[.pointer (some ⟨q, 0, none⟩)] W fun en w' => en = .returned (.int .i64 0) ∧ W = w') := Lib.hid (fun W kk => err_any q n c (place + 1) 0 B W kk.blk)
  have HH := Lib.hid h
  have HK := Lib.hid hk
  clear CB h hn e1 e2 hk hl
  go_enter Try.func31, Try.ntmps31
  go_wp2_with fail
  have Z0 := Lib.hid (rb_zero w)
  have B0 := Lib.hid (below_alloc w (.cells #[.int .u8 0, .int .u8 0, .int .u8 0, .int .u8 0, .int .u8 0, .bool false, .int .u32 0, .int .u64 0, .string ⟨#[]⟩] 28))
  generalize w.alloc (.cells #[.int .u8 0, .int .u8 0, .int .u8 0, .int .u8 0, .int .u8 0, .bool false, .int .u32 0, .int .u64 0, .string ⟨#[]⟩] 28) = W0 at Z0 B0 ⊢
  have nq : w.heap.size ≠ q := by omega
  have NQ := Lib.hid nq
  clear nq
  go_wp2_with (first
    | (go_at_call 51; (with_reducible refine (CB'.out _ (HH.out.on B0.out)).mono ?_); rintro en w1 ⟨rfl, h1, k1⟩
       have H1 := Lib.hid (h1.on (below_alloc w1 (.cells (rS.v (D.bare k)) 28)))
       have K1 := Lib.hid ((Only.off B0.out k1).on (below_alloc w1 (.cells (rS.v (D.bare k)) 28)))
       have Z1 := Lib.hid ((Z0.out.only k1 NQ.out).on (below_alloc w1 (.cells (rS.v (D.bare k)) 28)))
       have P1 := Lib.hid (RB.new w1 w1.heap.size (D.bare k) rfl)
       clear h1 k1)
    | (go_at_call 52; (with_reducible refine (CE.out _ H1.out).mono ?_); rintro en w2 ⟨rfl, rfl⟩)
    | (go_at_call 53; (with_reducible refine (reading_any q (w1.heap.size + 1) _).mono ?_); rintro en w3 ⟨rfl, v3, v4, b3⟩
       have B3 := Lib.hid ((below_alloc (w1.alloc (.cells (rS.v (D.bare k)) 28)) (.cells #[.int .i64 0] 34)).trans (b3.mono (by simp)))
       have c3 : w3.cell? ⟨w1.heap.size, 0, none⟩ = some (.int .u8 (k : Nat)) := (rf_of (P1.out.on B3.out).rd).1
       clear v3 v4 b3)
    | (go_at_call 21; (with_reducible refine (each_none _ w1.heap.size k w3 c3 HK.out).mono ?_); rintro en w4 ⟨rfl, b4⟩
       have B4 := Lib.hid (B3.out.trans (b4.mono B3.out.size))
       have t4 := (Z1.out.on B4.out).tn
       clear b4))
  refine bodyPost_ret (v := .tuple #[.agg (rS.v D.zRc), .int .i64 16]) (results_ct rfl rfl rfl rfl (Shp.rd_set (S := rS) _ _ _ t4)) rfl ⟨rfl, (fun h => by cases h), ?_⟩
  exact only_setRow (K1.out.on B4.out) _ _ (Nat.le_refl _)
/-- What is fixed while an error is chosen: the late error, the record, the reader's error. -/
def Sq (q g p : Nat) (B : Option Addr) (n c le : Nat) (z : D.Rz) (r : D.Rc) (W : World) : Prop := W.cell? ⟨g, 0, none⟩ = some (.int .i64 (le : Nat)) ∧ rS.rd W ⟨p, 0, none⟩ = some r ∧ Blk W q 102 #[.slice B n c, .int .i64 (z.e : Nat), .int .i64 (z.n : Nat)]
theorem Sq.on {q g p n c le : Nat} {B : Option Addr} {z : D.Rz} {r : D.Rc} {W W' : World} (h : Sq q g p B n c le z r W) (b : Below W.heap.size W W') : Sq q g p B n c le z r W' :=
  ⟨cell_keep b h.1, Shp.rd_on h.2.1 b, h.2.2.on b⟩
theorem three_row (w : World) (H a b d : Nat) (hH : w.heap.size = H) : Row ((w.alloc (.cells #[.int .i64 (a : Nat), .int .i64 (b : Nat), .int .i64 (d : Nat)] 34))) (some ⟨H, 0, none⟩) 3 (ers [a, b, d]) := by
  subst hH
  exact ⟨rfl, fun _ => ⟨_, rfl, by simp, World.news_of_block (heap_alloc_new w _)⟩⟩
set_option maxHeartbeats 8000000 in
theorem take_good (k : Nat) (hl : ∀ b ∈ l, b < 256) (hB : ∀ ad, B = some ad → ad.block < w.heap.size) (h : Rd w q B n c l place 0) (hn : l[place]? = some k) (hk : ¬ (k = 0 ∨ 6 < k)) :
    Calls Try.prog 31 #[.pointer (some ⟨q, 0, none⟩)] w (Tk q B n c l (D.rdr l place) w) := by
  obtain ⟨e1, e2⟩ := zn0_some place l hn (hl _ (List.mem_of_getElem? hn))
  have hq := h.blk.lt
  have hk256 := hl _ (List.mem_of_getElem? hn)
  have CB := fun W (kk : Rd W q B n c l place 0) => rz_byte (z := ⟨place, 0⟩) k e2 kk
  unfold Rw_ at CB
  rw [e1] at CB
  have CB' : Hid (∀ W, Rd W q B n c l place 0 → Calls Try.prog 51 #[.pointer (some ⟨q, 0, none⟩)] W fun en w' => en = .returned (.int .u8 (k : Nat)) ∧ Rd w' q B n c l (place + 1) 0 ∧ Only (fun i => i = q) W w') := Lib.hid CB
  have CE : Hid (∀ W, Rd W q B n c l (place + 1) 0 → Calls Try.prog 52 #[.pointer (some ⟨q, 0, none⟩)] W fun en w' => en = .returned (.int .i64 0) ∧ W = w') := Lib.hid (fun W kk => err_any q n c (place + 1) 0 B W kk.blk)
  have hR : D.rdr l place = (if D.fst2 (D.fst2 (D.rfs l ⟨place + 1, 0⟩ k).z.e (if (D.rfs l ⟨place + 1, 0⟩ k).odd = true then 5 else 0)) (D.chk (D.rfs l ⟨place + 1, 0⟩ k).r) = 0 then ⟨(D.rfs l ⟨place + 1, 0⟩ k).r, (D.rfs l ⟨place + 1, 0⟩ k).z.n, 0⟩ else ⟨D.zRc, 0, D.fst2 (D.fst2 (D.rfs l ⟨place + 1, 0⟩ k).z.e (if (D.rfs l ⟨place + 1, 0⟩ k).odd = true then 5 else 0)) (D.chk (D.rfs l ⟨place + 1, 0⟩ k).r)⟩) := by
    unfold D.rdr
    rw [hn]
    simp only [if_neg hk]
  have hwf := D.rfs_wf hl hk256 ⟨place + 1, 0⟩
  have hER := fun (rb lb p g : Nat) W (kk : Rst W rb lb q p g B n c l ⟨place + 1, 0⟩ (D.bare k) 0) => each_read rb lb q p g n c k B l ⟨place + 1, 0⟩ W hk kk
  obtain ⟨f, hf⟩ : ∃ f, D.rfs l ⟨place + 1, 0⟩ k = f := ⟨_, rfl⟩
  rw [hf] at hwf hR
  simp only [hf] at hER
  obtain ⟨r, z, od⟩ := f
  simp only at hER hR hwf
  obtain ⟨le, hle⟩ : ∃ le, (if od = true then 5 else 0) = le := ⟨_, rfl⟩
  simp only [hle] at hER
  rw [hle] at hR
  obtain ⟨ch, hch⟩ : ∃ e, D.chk r = e := ⟨_, rfl⟩
  rw [hch] at hR
  have CC := Lib.hid (fun W => hch ▸ check_any r W hwf)
  have CR := Lib.hid hER
  obtain ⟨e, he⟩ : ∃ e, D.fst2 (D.fst2 z.e le) ch = e := ⟨_, rfl⟩
  have CO : Hid (∀ W A, Row W A 3 (ers [z.e, le, ch]) → Calls Try.prog 54 #[.slice A 3 3] W fun en w' => en = .returned (.int .i64 (e : Nat)) ∧ W = w') := Lib.hid (fun W A kk => by
    have := or_any [z.e, le, ch] A 3 3 W kk (by omega)
    simp only [List.foldl_cons, List.foldl_nil, D.fst2_none] at this
    rw [he] at this
    exact this)
  rw [he] at hR
  obtain ⟨o, ho⟩ : ∃ o, D.rdr l place = o := ⟨_, rfl⟩
  rw [ho] at hR ⊢
  have HO := Lib.hid hR
  have CQ := Lib.hid (fun W (kk : Blk W q 102 #[.slice B n c, .int .i64 (z.e : Nat), .int .i64 (z.n : Nat)]) => err_any q n c z.n z.e B W kk)
  have HH := Lib.hid h
  have HE := Lib.hid he
  have HB := Lib.hid hB
  clear CB h hn e1 e2 hk hl hf hB hle hch he hR hER hwf ho
  go_enter Try.func31, Try.ntmps31
  go_wp2_with fail
  have Z0 := Lib.hid (rb_zero w)
  have B0 := Lib.hid (below_alloc w (.cells #[.int .u8 0, .int .u8 0, .int .u8 0, .int .u8 0, .int .u8 0, .bool false, .int .u32 0, .int .u64 0, .string ⟨#[]⟩] 28))
  generalize w.alloc (.cells #[.int .u8 0, .int .u8 0, .int .u8 0, .int .u8 0, .int .u8 0, .bool false, .int .u32 0, .int .u64 0, .string ⟨#[]⟩] 28) = W0 at Z0 B0 ⊢
  have nq : w.heap.size ≠ q := by omega
  have NQ := Lib.hid nq
  clear nq
  go_wp2_with (first
    | (go_at_call 51; (with_reducible refine (CB'.out _ (HH.out.on B0.out)).mono ?_); rintro en w1 ⟨rfl, h1, k1⟩
       have H1 := Lib.hid (h1.on (below_alloc w1 (.cells (rS.v (D.bare k)) 28)))
       have K1 := Lib.hid ((Only.off B0.out k1).on (below_alloc w1 (.cells (rS.v (D.bare k)) 28)))
       have Z1 := Lib.hid ((Z0.out.only k1 NQ.out).on (below_alloc w1 (.cells (rS.v (D.bare k)) 28)))
       have P1 := Lib.hid (RB.new w1 w1.heap.size (D.bare k) rfl)
       have L1 := Lib.hid (show w.heap.size < w1.heap.size from Nat.lt_of_lt_of_le (Blk.lt Z0.out) k1.size)
       clear h1 k1)
    | (go_at_call 52; (with_reducible refine (CE.out _ H1.out).mono ?_); rintro en w2 ⟨rfl, rfl⟩)
    | (go_at_call 53; (with_reducible refine (reading_any q (w1.heap.size + 1) _).mono ?_); rintro en w3 ⟨rfl, v3, v4, b3⟩
       have G2 : Blk ((w1.alloc (.cells (rS.v (D.bare k)) 28)).alloc (.cells #[.int .i64 0] 34)) (w1.heap.size + 1) 34 #[.int .i64 ((0 : Nat) : Int)] := by
         have := Blk.new (w1.alloc (.cells (rS.v (D.bare k)) 28)) 34 #[.int .i64 0]
         simpa using this
       have B3 := Lib.hid ((below_alloc (w1.alloc (.cells (rS.v (D.bare k)) 28)) (.cells #[.int .i64 0] 34)).trans (b3.mono (by simp)))
       have e3 : ((w1.alloc (.cells (rS.v (D.bare k)) 28)).alloc (.cells #[.int .i64 0] 34)).heap.size = w1.heap.size + 1 + 1 := by simp
       rw [e3] at v3 v4
       have S3 : Hid (Rst w3 (w1.heap.size + 1 + 1) (w1.heap.size + 1 + 1 + 1) q w1.heap.size (w1.heap.size + 1) B n c l ⟨place + 1, 0⟩ (D.bare k) 0) := Lib.hid ⟨H1.out.on B3.out, P1.out.on B3.out, G2.on b3, ⟨v3, v4⟩, fun ad e => by
         have h1 := HB.out ad e
         have h2 := L1.out
         exact ⟨by omega, by omega⟩⟩
       clear e3
       clear v3 v4 b3 G2)
    | (go_at_call 21; (with_reducible refine (CR.out _ _ _ _ _ S3.out).mono ?_); rintro en w4 ⟨rfl, s4, k4⟩
       have S4 := Lib.hid s4
       have K4 := Lib.hid k4
       clear s4 k4))
  have hS : Sq q (w1.heap.size + 1) w1.heap.size B n c le z r w4 := ⟨S4.out.hg.cell, S4.out.hp.rd, S4.out.rd.blk⟩
  refine wp_region_noPanic ?_
  refine wp_region_held_drew (S := Sq q (w1.heap.size + 1) w1.heap.size B n c le z r) (by kernel_rfl) (hS.on (below_dr _)) (fun _ => ?_)
  have hS1 : Sq q (w1.heap.size + 1) w1.heap.size B n c le z r w4.drew := hS.on (below_dr _)
  have hQ1 := Blk.drew S4.out.rd.blk
  refine takeS 0 (some 22) ?v0 (by kernel_rfl) (by kernel_rfl) (by kernel_rfl) (by kernel_rfl) (fun _ _ _ h => h) (by rfl) ?hy0 hS1 ?rest0
  case hy0 => (intro o ho W hW; simp only [List.getElem?_toArray, List.getElem?_cons_succ, List.getElem?_cons_zero, Option.some.injEq] at ho; subst ho; obtain ⟨hW1, hW2, hW3⟩ := hW; go_simp; try rfl)
  try simp only [Act.put, List.setIfInBounds_toArray, List.set_cons_zero, List.set_cons_succ]
  refine takeS 2 (some 24) ?v2 (by kernel_rfl) (by kernel_rfl) (by kernel_rfl) (by kernel_rfl) (fun _ _ _ h => h) (by rfl) ?hy2 hS1 ?rest2
  case hy2 => (intro o ho W hW; simp only [List.getElem?_toArray, List.getElem?_cons_succ, List.getElem?_cons_zero, Option.some.injEq] at ho; subst ho; obtain ⟨hW1, hW2, hW3⟩ := hW; go_simp; try rfl)
  try simp only [Act.put, List.setIfInBounds_toArray, List.set_cons_zero, List.set_cons_succ]
  refine takeS 3 (some 25) ?v3 (by kernel_rfl) (by kernel_rfl) (by kernel_rfl) (by kernel_rfl) (fun _ _ _ h => h) (by rfl) ?hy3 hS1 ?rest3
  case hy3 => (intro o ho W hW; simp only [List.getElem?_toArray, List.getElem?_cons_succ, List.getElem?_cons_zero, Option.some.injEq] at ho; subst ho; obtain ⟨hW1, hW2, hW3⟩ := hW; go_simp; try rfl)
  try simp only [Act.put, List.setIfInBounds_toArray, List.set_cons_zero, List.set_cons_succ]
  refine nextS 1 (by kernel_rfl) (by rfl) (fun o ho K hK => ?_)
  simp only [List.getElem?_toArray, List.getElem?_cons_succ, List.getElem?_cons_zero, Option.some.injEq] at ho; subst ho
  go_simp
  (go_at_call 52; (with_reducible refine (CQ.out _ hQ1).mono ?_); rintro en w5 ⟨rfl, rfl⟩)
  refine hK.out _ _ hS1 (fun _ => ?_)
  clear hK K
  try simp only [Act.put, List.setIfInBounds_toArray, List.set_cons_zero, List.set_cons_succ]
  refine nextS 4 (by kernel_rfl) (by rfl) (fun o ho K hK => ?_)
  simp only [List.getElem?_toArray, List.getElem?_cons_succ, List.getElem?_cons_zero, Option.some.injEq] at ho; subst ho
  go_simp
  (go_at_call 10; (with_reducible refine (CC.out _).mono ?_); rintro en w6 ⟨rfl, b6⟩)
  have hS6 := hS1.on b6
  have B6 := Lib.hid ((below_dr w4).trans (b6.mono (by simp)))
  refine hK.out _ _ hS6 (fun _ => ?_)
  clear hK K
  try simp only [Act.put, List.setIfInBounds_toArray, List.set_cons_zero, List.set_cons_succ]
  refine nextS 5 (by kernel_rfl) (by rfl) (fun o ho K hK => ?_)
  simp only [List.getElem?_toArray, List.getElem?_cons_succ, List.getElem?_cons_zero, Option.some.injEq] at ho; subst ho
  go_simp
  have R7 := three_row w6 w6.heap.size z.e le ch rfl
  have B7 := Lib.hid (B6.out.trans ((below_alloc w6 (.cells #[.int .i64 (z.e : Nat), .int .i64 (le : Nat), .int .i64 (ch : Nat)] 34)).mono B6.out.size))
  have hS7 := hS6.on (below_alloc w6 (.cells #[.int .i64 (z.e : Nat), .int .i64 (le : Nat), .int .i64 (ch : Nat)] 34))
  refine hK.out _ _ hS7 (fun _ => ?_)
  clear hK K
  try simp only [Act.put, List.setIfInBounds_toArray, List.set_cons_zero, List.set_cons_succ]
  refine nextS 6 (by kernel_rfl) (by rfl) (fun o ho K hK => ?_)
  simp only [List.getElem?_toArray, List.getElem?_cons_succ, List.getElem?_cons_zero, Option.some.injEq] at ho; subst ho
  go_simp
  (go_at_call 54; (with_reducible refine (CO.out _ _ R7).mono ?_); rintro en w8 ⟨rfl, rfl⟩)
  refine hK.out _ _ hS7 (fun _ => ?_)
  clear hK K
  try simp only [Act.put, List.setIfInBounds_toArray, List.set_cons_zero, List.set_cons_succ]
  refine takeS 7 (some 7) ?v7 (by kernel_rfl) (by kernel_rfl) (by kernel_rfl) (by kernel_rfl) (fun _ _ _ h => h) (by rfl) ?hy7 hS7 ?rest7
  case hy7 => (intro o ho W hW; simp only [List.getElem?_toArray, List.getElem?_cons_succ, List.getElem?_cons_zero, Option.some.injEq] at ho; subst ho; obtain ⟨hW1, hW2, hW3⟩ := hW; go_simp; try rfl)
  try simp only [Act.put, List.setIfInBounds_toArray, List.set_cons_zero, List.set_cons_succ]
  refine wpAnyH_done (by kernel_rfl) ?_ _
  refine NoPanic.normal ?_
  have S9 := Lib.hid (S4.out.on B7.out)
  have K9 := Lib.hid ((K1.out.on B3.out).trans (K4.out.on B7.out) (fun i hi => by
    have h1 := L1.out
    rcases hi with e | e | e
    · exact .inl e
    · exact .inr (by omega)
    · exact .inr (by omega)))
  have Z9 := Lib.hid (((Z1.out.on B3.out).only K4.out (by
    have h1 := L1.out
    rintro (e | e | e)
    · exact NQ.out e
    · omega
    · omega)).on B7.out)
  generalize w6.alloc (.cells #[.int .i64 (z.e : Nat), .int .i64 (le : Nat), .int .i64 (ch : Nat)] 34) = w9 at B7 S9 K9 Z9 ⊢
  have t9 := Z9.out.tn
  have f9 := S9.out.hp.rd
  by_cases h0 : e = 0
  · subst h0
    go_wp2
    have HO1 : o = ⟨r, z.n, 0⟩ := by
      have := HO.out
      simpa using this
    refine bodyPost_ret (v := .tuple #[.agg (rS.v r), .int .i64 0]) (results_ct rfl rfl rfl rfl (Shp.rd_set (S := rS) _ _ _ t9)) rfl ?_
    rw [HO1]
    refine ⟨rfl, fun _ => ?_, only_setRow K9.out _ _ (Nat.le_refl _)⟩
    have hz := D.fst2_0 HE.out
    have hz1 := (D.fst2_0 hz.1).1
    have h8 := S9.out.rd
    rw [hz1] at h8
    have kk : Only (fun i => i = w.heap.size) w9 (w9.setRow w.heap.size (rS.v r)) := ⟨rfl, rfl, rfl, by simp [World.setRow], fun i hi hs => heap_setRow _ _ _ _ hs⟩
    exact h8.only kk (fun e => by omega) (fun ad e h => by have := HB.out ad e; omega)
  · have hb : ((e : Int) != 0) = true := by simp; exact h0
    go_wp2
    have HO1 : o = ⟨D.zRc, 0, e⟩ := by
      have := HO.out
      simpa [h0] using this
    refine bodyPost_ret (v := .tuple #[.agg (rS.v D.zRc), .int .i64 (e : Nat)]) (results_ct rfl rfl rfl rfl (Shp.rd_set (S := rS) _ _ _ t9)) rfl ?_
    rw [HO1]
    exact ⟨rfl, (fun h => absurd h h0), only_setRow K9.out _ _ (Nat.le_refl _)⟩
/-- Any reader without an error. -/
theorem take_any (hl : ∀ b ∈ l, b < 256) (hB : ∀ ad, B = some ad → ad.block < w.heap.size) (h : Rd w q B n c l place 0) :
    Calls Try.prog 31 #[.pointer (some ⟨q, 0, none⟩)] w (Tk q B n c l (D.rdr l place) w) := by
  cases hn : l[place]? with
  | none =>
    have := take_end q n c place B l w h hn
    unfold D.rdr
    rw [hn]
    exact this
  | some k =>
    by_cases hk : k = 0 ∨ 6 < k
    · have := take_bad q n c place B l w k hl h hn hk
      unfold D.rdr
      rw [hn]
      simp only [if_pos hk]
      exact this
    · exact take_good q n c place B l w k hl hB h hn hk
end
end Go.Proofs.Ytelifoagnheioaa
