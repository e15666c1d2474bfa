/-
  How many records there are of each kind: the program's Kinds.
-/
import Derived.Test.YtelifoagnheioaaRkn
import Derived.Maps.Own
set_option linter.unusedVariables false
set_option linter.unusedSimpArgs false
set_option maxRecDepth 100000
namespace Go.Proofs.Ytelifoagnheioaa.D
/-- How many different ones. -/
def dist : List Nat → Nat
  | [] => 0
  | x :: l => if x ∈ l then dist l else dist l + 1
theorem dist_perm {l m : List Nat} (h : l.Perm m) : dist l = dist m := by
  induction h with
  | nil => rfl
  | cons x h ih => simp only [dist, h.mem_iff, ih]
  | swap x y l =>
    simp only [dist, List.mem_cons]
    by_cases e : x = y
    · subst e; rfl
    · by_cases hx : x ∈ l <;> by_cases hy : y ∈ l <;> simp [hx, hy, e, Ne.symm e]
  | trans _ _ h1 h2 => exact h1.trans h2
theorem dist_snoc (l : List Nat) (x : Nat) : dist (l ++ [x]) = if x ∈ l then dist l else dist l + 1 := dist_perm (List.perm_append_singleton x l)
def cnt (l : List Nat) (y : Nat) : Nat := l.countP (· == y)
theorem cnt_le (l : List Nat) (y : Nat) : cnt l y ≤ l.length := List.countP_le_length
theorem cnt_snoc (l : List Nat) (x y : Nat) : cnt (l ++ [x]) y = if x = y then cnt l y + 1 else cnt l y := by
  simp only [cnt, List.countP_append, List.countP_singleton]
  split <;> simp_all
/-- The kinds of the right ones. -/
def kds (l : List Rc) : List Nat := (l.filter fun r => chk r == 0).map (·.k)
theorem kds_next {l : List Rc} {k : Nat} {x : Rc} (h : l[k]? = some x) : kds (l.take (k + 1)) = if chk x = 0 then kds (l.take k) ++ [x.k] else kds (l.take k) := by
  unfold kds
  rw [List.take_add_one, h, List.filter_append, List.map_append]
  by_cases hc : chk x = 0
  · simp [hc]
  · simp [hc]
theorem kds_len (l : List Rc) : (kds l).length ≤ l.length := by
  unfold kds
  rw [List.length_map]
  exact List.length_filter_le _ _
end Go.Proofs.Ytelifoagnheioaa.D
namespace Go.Proofs.Ytelifoagnheioaa
open Go.RowKit
attribute [local go_sem ↓] Go.wp_at_zero Go.wp_at_succ ld_r st_r bd_r ne_r bs_r
attribute [local go_sem] run_ldr run_str run_bdr1 run_bdr0 run_bsr1 run_ner Shp.rd_new Shp.rd_old Shp.tn_new Shp.tn_old setRow_alloc setRow_alloc2

theorem law_k : Maps.Keyed Try.prog 5 := Maps.int_keyed Try.underlying5
def kl (k : Nat) : Lit := .int .u8 (k : Nat)
theorem kl_is {k : Nat} (hk : k < 256) : keyOf Try.prog 5 (.int .u8 (k : Nat)) = some (kl k) := by
  have h1 : IntKind.u8.min = 0 := by rfl
  have h2 : IntKind.u8.max = 255 := by rfl
  have : (Lit.int .u8 (k : Nat)).wf = true := by simp [Lit.wf, h1, h2]; omega
  simp [keyOf, mapKey, Try.underlying5, kl, this]
theorem kl_inj {x y : Nat} (h : kl x = kl y) : x = y := by
  unfold kl at h
  injection h with _ h
  omega
theorem kl_key {x : Nat} (hx : x < 256) : WideAt.IsKeyLit (kl x) := law_k.key (kl_is hx)
theorem zero_int (u : World) : (zeroValue 3).run Try.prog u = .ok (.int .i64 0) u := by kernel_rfl
/-- A map that says how often each kind stands in a list. -/
structure CntAt (w : World) (b : Nat) (L : List Nat) : Prop where
  out : ∃ D0 : DataW Unit, w.ownsMap Try.prog 5 (plainElem Try.prog 3) b L.length D0 ∧ (∀ x, x < 256 → Maps.has D0 (kl x) = decide (x ∈ L)) ∧
    (∀ x, x < 256 → D0.atKey (kl x) (.lit (.int .i64 0)) = .lit (.int .i64 (D.cnt L x : Nat))) ∧ Maps.size D0 = D.dist L
section
variable {w w' : World} {b : Nat} {L : List Nat}
theorem CntAt.lt (h : CntAt w b L) : b < w.heap.size := by
  obtain ⟨D0, ho, _⟩ := h.out
  exact ho.lt
theorem CntAt.to (h : CntAt w b L) (hs : w'.heap[b]? = w.heap[b]?) : CntAt w' b L := by
  obtain ⟨D0, ⟨es, clock, hb, r⟩, r'⟩ := h.out
  exact ⟨D0, ⟨es, clock, hs.trans hb, r⟩, r'⟩
theorem CntAt.on (h : CntAt w b L) (hb : Below w.heap.size w w') : CntAt w' b L := h.to (hb.block _ h.lt)
theorem CntAt.alloc (h : CntAt w b L) (o : Obj) : CntAt (w.alloc o) b L := h.on (below_alloc _ _)
theorem CntAt.drew (h : CntAt w b L) : CntAt w.drew b L := h.to rfl
theorem cnt_new (w : World) : CntAt (w.alloc (.map #[] 0)) w.heap.size [] :=
  ⟨_, World.ownsMap_made _ _ _ _, fun x _ => rfl, fun x _ => rfl, rfl⟩
theorem CntAt.len (h : CntAt w b L) (ty : TypeId) : (Builtin.len_ #[39] ty #[.map (some b)]).run Try.prog w = .ok (.int .i64 (D.dist L : Nat)) w := by
  obtain ⟨D0, ho, _, _, hs⟩ := h.out
  rw [ho.len Try.underlying39 ty, hs]
theorem CntAt.look (h : CntAt w b L) {x : Nat} (hx : x < 256) : (Instr.lookup 39 (.map (some b)) (.int .u8 (x : Nat)) false).run Try.prog w = .ok (.int .i64 (D.cnt L x : Nat)) w := by
  obtain ⟨D0, ho, _, hc, _⟩ := h.out
  obtain ⟨c, hr, ha, _⟩ := ho.lookup_int law_k Try.underlying39 Try.underlying3 (zero_int w) (kl_is hx)
  rw [hc x hx] at ha
  injection ha with ha
  injection ha with _ ha
  rw [hr, ha]
theorem CntAt.put (h : CntAt w b L) (hL : L.length ≤ 1000) {x : Nat} (hx : x < 256) : ∃ w', (Instr.mapUpdate 39 (.map (some b)) (.int .u8 (x : Nat)) (.int .i64 ((D.cnt L x : Nat) + 1 : Int))).run Try.prog w = .ok () w' ∧ CntAt w' b (L ++ [x]) ∧ w.grownBy w' (some b) := by
  obtain ⟨D0, ho, hh, hc, hs⟩ := h.out
  have hle := D.cnt_le L x
  obtain ⟨w', hr, ho', hg⟩ := ho.update law_k Try.underlying39 (by simp only [maxLen]; omega) (kl_is hx) (plainElem_int (H := Unit) Try.underlying3 (WalkArith.wf_i64 (n := (D.cnt L x : Nat) + 1) (by omega)))
  refine ⟨w', hr, ⟨_, by simpa using ho', fun y hy => ?_, fun y hy => ?_, ?_⟩, hg⟩
  · by_cases e : y = x
    · subst e
      rw [Maps.has_put_same ho.isMap (kl_key hy)]
      simp
    · rw [Maps.has_put_other (fun e' => e (kl_inj e')), hh y hy, decide_eq_decide]
      simp [e]
  · rw [D.cnt_snoc]
    by_cases e : x = y
    · subst e
      rw [Maps.atKey_put_same ho.isMap (kl_key hx), if_pos rfl]
      simp
    · rw [Maps.atKey_put_other (fun e' => e (kl_inj e').symm), if_neg e, hc y hy]
  · rw [Maps.size_put (ho.tidy law_k), hh x hx, hs, D.dist_snoc]
    by_cases hxl : x ∈ L <;> simp [hxl]
end
set_option maxHeartbeats 4000000 in
theorem kinds_any (l : List D.Rc) (A : Option Addr) (n c : Nat) (w : World) (hw : ∀ r ∈ l, r.wf) (hr : Rw 9 w A n (rS.rcs l)) (hn : n ≤ 1000) :
    Calls Try.prog 13 #[.slice A n c] w fun en w' => ∃ b, en = .returned (.map (some b)) ∧ w.heap.size ≤ b ∧ CntAt w' b (D.kds l) ∧ Below w.heap.size w w' := by
  have hlen := rw_len hr
  have HL := Lib.hid hlen
  have HR := Lib.hid hr
  have HW := Lib.hid hw
  have hmm := @run_makeMap Try.prog
  have hC0 := Lib.hid (cnt_new w)
  clear hlen hr hw
  go_enter Try.func13, Try.ntmps13
  go_wp2
  clear hmm
  go_loopw [9] (fun i wr => ∃ k : Nat, k ≤ n ∧ i = .int .i64 k ∧ CntAt wr w.heap.size (D.kds (l.take k)) ∧ Below w.heap.size w wr) (fun i _ => n - (intOf i).toNat)
  case atStart => exact ⟨0, Nat.zero_le _, rfl, hC0.out, below_alloc _ _⟩
  case round =>
    obtain ⟨k, hk, rfl, hc, hb⟩ := hrel
    have HC := Lib.hid hc
    have HB := Lib.hid hb
    clear hc hb hC0
    by_cases hlt : k < n
    · obtain ⟨x, hx⟩ : ∃ x, l[k]? = some x := ⟨l[k]'(by rw [HL.out]; exact hlt), List.getElem?_eq_getElem _⟩
      obtain ⟨ad, rfl, ha1, ha2⟩ := rw_rd (HR.out.on HB.out) hx
      have HNX := Lib.hid (D.kds_next hx)
      have hwx := HW.out x (List.mem_of_getElem? hx)
      have HKl : (D.kds (l.take k)).length ≤ 1000 := Nat.le_trans (D.kds_len _) (by simp; omega)
      have XC := Lib.hid (fun W => check_any x W hwx)
      obtain ⟨K, hK⟩ : ∃ K, D.kds (l.take k) = K := ⟨_, rfl⟩
      rw [hK] at HC HNX HKl
      have i1 : (k : Int) < (n : Int) := by omega
      have i0 : (0 : Int) ≤ (k : Int) := by omega
      have P1 := Lib.hid (RB.new wr _ x rfl)
      obtain ⟨ch, hch⟩ : ∃ ch, D.chk x = ch := ⟨_, rfl⟩
      rw [hch] at XC HNX
      clear hx hK hch
      by_cases h0 : ch = 0
      · subst h0
        rw [if_pos rfl] at HNX
        have XC : Hid (∀ W, Calls Try.prog 10 #[.agg (rS.v x)] W fun en w' => en = .returned (.int .i64 0) ∧ Below W.heap.size W w') := XC
        go_wp2_with (go_at_call 10; (with_reducible refine (XC.out _).mono ?_); rintro en w2 ⟨rfl, b2⟩; have P2 := Lib.hid (P1.out.on b2); have p3 := (rf_of P2.out.rd).1; have C2 := Lib.hid ((HC.out.alloc (.cells (rS.v x) 28)).on b2); have B2 := Lib.hid ((HB.out.alloc HB.out.size (.cells (rS.v x) 28)).trans (b2.mono (by have := HB.out.size; simp; omega))); have hlk := C2.out.look hwx.k; obtain ⟨w4, hS, hC4, hg4⟩ := C2.out.put HKl hwx.k; have C4 := Lib.hid hC4; have G4 := Lib.hid hg4; clear hC4 hg4; have hq := D.cnt_le K x.k; generalize D.cnt K x.k = q at *)
        go_roundw
        case rel => exact ⟨k + 1, by omega, by go_num, by rw [HNX.out]; exact C4.out, B2.out.trans ⟨G4.out.os, G4.out.tape, G4.out.output, G4.out.size, fun i hi => G4.out.block i (Nat.lt_of_lt_of_le hi B2.out.size) (by intro e; injection e with e; omega)⟩⟩
        case measure => simp [intOf]; omega
      · have hb0 : ((ch : Int) == 0) = false := by simp; exact h0
        rw [if_neg h0] at HNX
        go_wp2_with (go_at_call 10; (with_reducible refine (XC.out _).mono ?_); rintro en w2 ⟨rfl, b2⟩; have C2 := Lib.hid ((HC.out.alloc (.cells (rS.v x) 28)).on b2); have B2 := Lib.hid ((HB.out.alloc HB.out.size (.cells (rS.v x) 28)).trans (b2.mono (by have := HB.out.size; simp; omega))))
        go_roundw
        case rel => exact ⟨k + 1, by omega, by go_num, by rw [HNX.out]; exact C2.out, B2.out⟩
        case measure => simp [intOf]; omega
    · have e : l.take k = l := List.take_of_length_le (by rw [HL.out]; omega)
      rw [e] at HC
      have i1 : (n : Int) ≤ (k : Int) := by omega
      clear e
      go_wp2
      go_ret
      exact ⟨_, rfl, Nat.le_refl _, HC.out, HB.out⟩
end Go.Proofs.Ytelifoagnheioaa
