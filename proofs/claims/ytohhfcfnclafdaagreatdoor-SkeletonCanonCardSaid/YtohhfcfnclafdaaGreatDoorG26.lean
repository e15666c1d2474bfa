/-
  The program's Parse: the parts of a text, or the first place that is wrong.
  The program tells whether a text could tell of a text.
  Sets in memory, of any kind of keys: maps without values. A kind of keys: how they lie, what they read as.
-/
import Derived.Test.YtohhfcfnclafdaaGreatDoorG25
import Derived.Maps.RangeWalk
import Derived.Maps.OwnSet
set_option linter.unusedVariables false
set_option linter.unusedSimpArgs false
set_option maxRecDepth 100000
namespace Go.Proofs.YtohhfcfnclafdaaGreatDoor
open Go.RowKit
attribute [local go_sem ↓] Go.wp_at_zero Go.wp_at_succ

theorem pmsg_any (s : ByteArray) (hs : s.size ≤ 60) (g : Nat) : ∀ (r d : Nat), d + r = 3 → ∀ (v : Bool) (i : Nat) (w : World), i ≤ s.size → Rdr w g s i 0 → Glb w g →
    Calls Tryz.prog 38 #[vr g, .agg #[.int .i64 (d : Nat), .bool v]] w (Mq s g r (D.msg (D.ns s) r v i) w)
  | 0, d, hd, v, i, w, hi, h, hG => by
    have hlen := D.ns_len s
    refine message_p s g d 0 i v (D.plc (D.ns s) (fun _ i => D.er_ i 19) true v) _ w hs hi h hG (by rw [D.msg, hlen]) (fun q W' hq hR hGW => ?_) (fun q hq => ?_)
    · exact place_p s g d 0 q v true (fun _ i => D.er_ i 19) _ W' hs hq hR hGW rfl (fun _ => by omega) (fun h => by cases h)
    · refine ⟨?_, fun he => ?_⟩
      · rw [← hlen]; exact D.plc_le (fun h => by cases h) (by rw [hlen]; exact hq)
      · obtain ⟨x, e1, _, _, e4, e5⟩ := D.plc_good (l := D.ns s) (m := fun _ i => D.er_ i 19) (deep := true) (w := v) (P := fun _ _ => False) (fun h => by cases h) q (by rw [hlen]; exact hq) he
        exact e4
  | r + 1, d, hd, v, i, w, hi, h, hG => by
    have hlen := D.ns_len s
    refine message_p s g d (r + 1) i v (D.plc (D.ns s) (D.msg (D.ns s) r) false v) _ w hs hi h hG (by rw [D.msg, hlen]) (fun q W' hq hR hGW => ?_) (fun q hq => ?_)
    · refine place_p s g d (r + 1) q v false (D.msg (D.ns s) r) _ W' hs hq hR hGW rfl (fun h => by cases h) (fun _ => ⟨by omega, r, rfl, fun vv q' W'' hq' hR' hG' => ?_, fun vv q' hq' => ⟨?_, fun he => ?_⟩⟩)
      · have := pmsg_any s hs g r (d + 1) (by omega) vv q' W'' hq' hR' hG'
        rw [show ((d + 1 : Nat) : Int) = (d : Int) + 1 by omega] at this
        exact this
      · have := D.msg_le (D.ns s) r vv q' (by rw [hlen]; exact hq')
        rwa [hlen] at this
      · obtain ⟨_, e1, e2⟩ := D.msg_good (D.ns s) r vv q' (by rw [hlen]; exact hq') he
        exact e1
    · refine ⟨?_, fun he => ?_⟩
      · have := D.plc_le (l := D.ns s) (m := D.msg (D.ns s) r) (dp := false) (w := v) (fun _ v' q' hq' => D.msg_le (D.ns s) r v' q' hq') (i := q) (by rw [hlen]; exact hq)
        rwa [hlen] at this
      · obtain ⟨x, e1, _, _, e4, e5⟩ := D.plc_good (l := D.ns s) (m := D.msg (D.ns s) r) (deep := false) (w := v) (P := D.Rt r) (fun _ v' i' hi' => D.msg_good (D.ns s) r v' i' hi') q (by rw [hlen]; exact hq) he
        exact e4
theorem bel_dn {B : Nat} {w w' : World} (h : Below B w w') (n : Nat) : Below B w (w'.drewN n) := h.trans ⟨rfl, rfl, rfl, Nat.le_refl _, fun _ _ => rfl⟩
/-- What the variables of words hold. -/
structure Gv (w : World) : Prop where
  e : Env w
  k : Knd w
theorem Gv.on {w w' : World} (h : Gv w) (b : Below w.heap.size w w') : Gv w' := ⟨h.e.on b, h.k.on b⟩
theorem Gv.lt {w : World} (h : Gv w) : 3 < w.heap.size ∧ 0 < w.heap.size := ⟨World.block_lt_of_cell? w _ h.e.c0, World.block_lt_of_cell? w _ h.k.c0⟩
/-- What Parse leaves. -/
def Ptq (o : D.Ot) (w : World) (x : Ending) (w' : World) : Prop :=
  Below w.heap.size w w' ∧ ∃ (A : Option Addr) (n c : Nat), x = .returned (.tuple #[.slice A n c, .int .i64 (o.a : Nat), .int .i64 (o.e : Nat)]) ∧ Pm (fun b => w.heap.size ≤ b) w' 3 (.slice A n c) o.l
set_option maxHeartbeats 4000000 in
theorem parse_any (s : ByteArray) (w : World) (hG : Gv w) (hm : s.size ≤ 1000) : Calls Tryz.prog 13 #[.string s] w (Ptq (D.rdM (D.ns s)) w) := by
  have hlen := D.ns_len s
  by_cases hs : s.size ≤ 60
  · have hgt := hG.lt
    have cM : Hid (Calls Tryz.prog 38 #[vr w.heap.size, .agg #[.int .i64 0, .bool false]] (w.alloc (.cells #[.string s, .int .i64 0, .int .i64 0] 96)) (Mq s w.heap.size 3 (D.msg (D.ns s) 3 false 0) (w.alloc (.cells #[.string s, .int .i64 0, .int .i64 0] 96)))) := Lib.hid (pmsg_any s hs w.heap.size 3 0 (by omega) false 0 (w.alloc (.cells #[.string s, .int .i64 0, .int .i64 0] 96)) (Nat.zero_le _) (blk_new_ rfl) ⟨(hG.on (below_alloc_ _ _)).e, (hG.on (below_alloc_ _ _)).k, by omega, by omega⟩)
    have cF := Lib.hid (fun a e W (hW : Rdr W w.heap.size s a e) => fail_any s w.heap.size a e a 3 W hW 3 rfl)
    have hle := D.msg_le (D.ns s) 3 false 0 (Nat.zero_le _)
    have hI : ¬ (60 : Int) < s.size := by omega
    have hI' : (s.size : Int) ≤ 60 := by omega
    obtain ⟨O, hO⟩ : ∃ O, D.rdM (D.ns s) = O := ⟨_, rfl⟩
    rw [hO]
    unfold D.rdM at hO
    rw [if_neg (by omega)] at hO
    dsimp only at hO
    rw [hlen] at hO hle
    obtain ⟨o, ho⟩ : ∃ o, D.msg (D.ns s) 3 false 0 = o := ⟨_, rfl⟩
    rw [ho] at cM hle hO
    clear ho hlen hG hgt
    by_cases hlt : o.a < s.size
    · have iL : (o.a : Int) < s.size := by omega
      by_cases he : o.e = 0
      · rw [if_neg (by simpa using he), if_pos hlt] at hO
        have HO := Kept.mk hO
        have HE := Lib.hid he
        clear hO he
        go_enter Tryz.func13, Tryz.ntmps13
        go_wp2_with (first
          | (go_at_call 38; (with_reducible refine cM.out.mono ?_); rintro x w1 ⟨A, n, c, rfl, r1_, f1_, p1_⟩
             have R1 := Lib.hid r1_
             have F1 := Lib.hid f1_
             have c1 := r1_.c1
             have l1 := r1_.lt
             clear r1_ f1_ p1_)
          | (go_at_call 39; (with_reducible refine (cF.out _ _ _ R1.out).mono ?_); rintro x w2 ⟨rfl, r2_, f2_⟩
             have r2 : Rdr w2 w.heap.size s o.a 3 := by have := r2_; rw [HE.out] at this; exact this
             have F2 := Lib.hid f2_
             have d1 := r2.c1
             have d2 := r2.c2
             have d3 := r2.lt
             clear r2_ f2_ r2))
        go_quiet (fail)
        go_wp2_with fail
        refine bodyPost_ret (v := .tuple #[.slice none 0 0, .int .i64 (o.a : Nat), .int .i64 3]) (by simp [results, Tryz.results13, go_sem]) rfl ?_
        have hb := ((Fr.refl (· = w.heap.size) w).alloc (.cells #[.string s, .int .i64 0, .int .i64 0] 96)).step (F1.out.step F2.out)
        exact ⟨bel_dn (hb.below (Nat.le_refl _) (fun i hi e => by omega)) _, none, 0, 0, by rw [← HO.out]; rfl, by rw [← HO.out]; exact Pm.nil _ _ _ _ _⟩
      · rw [if_pos he] at hO
        have HO := Kept.mk hO
        have HE := Lib.hid he
        have iE : ((o.e : Int) != 0) = true := by simp; exact he
        clear hO he
        go_enter Tryz.func13, Tryz.ntmps13
        go_wp2_with (first
          | (go_at_call 38; (with_reducible refine cM.out.mono ?_); rintro x w1 ⟨A, n, c, rfl, r1_, f1_, p1_⟩
             have R1 := Lib.hid r1_
             have F1 := Lib.hid f1_
             have c1 := r1_.c1
             have l1 := r1_.lt
             clear r1_ f1_ p1_)
          | (go_at_call 39; (with_reducible refine (cF.out _ _ _ R1.out).mono ?_); rintro x w2 ⟨rfl, r2_, f2_⟩
             have r2 : Rdr w2 w.heap.size s o.a o.e := by have := r2_; unfold D.fl at this; rw [if_neg HE.out] at this; exact this
             have F2 := Lib.hid f2_
             have d1 := r2.c1
             have d2 := r2.c2
             have d3 := r2.lt
             clear r2_ f2_ r2))
        go_quiet (fail)
        go_wp2_with fail
        refine bodyPost_ret (v := .tuple #[.slice none 0 0, .int .i64 (o.a : Nat), .int .i64 (o.e : Nat)]) (by simp [results, Tryz.results13, go_sem]) rfl ?_
        have hb := ((Fr.refl (· = w.heap.size) w).alloc (.cells #[.string s, .int .i64 0, .int .i64 0] 96)).step (F1.out.step F2.out)
        exact ⟨bel_dn (hb.below (Nat.le_refl _) (fun i hi e => by omega)) _, none, 0, 0, by rw [← HO.out]; rfl, by rw [← HO.out]; exact Pm.nil _ _ _ _ _⟩
    · have iL : ¬ (o.a : Int) < s.size := by omega
      have iL' : (s.size : Int) ≤ o.a := by omega
      by_cases he : o.e = 0
      · rw [if_neg (by simpa using he), if_neg hlt] at hO
        have HO := Kept.mk hO
        have HE := Lib.hid he
        have iE : ((o.e : Int) != 0) = false := by simp; exact he
        clear hO he
        go_enter Tryz.func13, Tryz.ntmps13
        go_wp2_with (go_at_call 38; (with_reducible refine cM.out.mono ?_); rintro x w1 ⟨A, n, c, rfl, r1_, f1_, p1_⟩; have F1 := Lib.hid f1_; have P1 := Lib.hid p1_; have c1 := r1_.c1; have c2 := r1_.c2; have l1 := r1_.lt; clear r1_ f1_ p1_)
        refine bodyPost_ret (v := .tuple #[.slice A n c, .int .i64 0, .int .i64 0]) (by simp [results, Tryz.results13, go_sem]) rfl ?_
        have hb := ((Fr.refl (· = w.heap.size) w).alloc (.cells #[.string s, .int .i64 0, .int .i64 0] 96)).step F1.out
        exact ⟨(hb.below (Nat.le_refl _) (fun i hi e => by omega)), A, n, c, by rw [← HO.out]; rfl, by rw [← HO.out]; exact (P1.out HE.out).weaken fun b _ hb => by have hb' : _ ≤ b := hb; simp at hb'; omega⟩
      · rw [if_pos he] at hO
        have HO := Kept.mk hO
        have iE : ((o.e : Int) != 0) = true := by simp; exact he
        clear hO he
        go_enter Tryz.func13, Tryz.ntmps13
        go_wp2_with (go_at_call 38; (with_reducible refine cM.out.mono ?_); rintro x w1 ⟨A, n, c, rfl, r1_, f1_, p1_⟩; have F1 := Lib.hid f1_; have c1 := r1_.c1; have c2 := r1_.c2; have l1 := r1_.lt; clear r1_ f1_ p1_)
        go_quiet (fail)
        go_wp2_with fail
        refine bodyPost_ret (v := .tuple #[.slice none 0 0, .int .i64 (o.a : Nat), .int .i64 (o.e : Nat)]) (by simp [results, Tryz.results13, go_sem]) rfl ?_
        have hb := ((Fr.refl (· = w.heap.size) w).alloc (.cells #[.string s, .int .i64 0, .int .i64 0] 96)).step F1.out
        exact ⟨bel_dn (hb.below (Nat.le_refl _) (fun i hi e => by omega)) _, none, 0, 0, by rw [← HO.out]; rfl, by rw [← HO.out]; exact Pm.nil _ _ _ _ _⟩
  · have hI : (60 : Int) < s.size := by omega
    have hO : D.rdM (D.ns s) = D.er_ 0 2 := by unfold D.rdM; rw [if_pos (by omega)]
    rw [hO]
    clear hO hG
    go_enter Tryz.func13, Tryz.ntmps13
    go_wp2
    refine bodyPost_ret (v := .tuple #[.slice none 0 0, .int .i64 0, .int .i64 2]) (by simp [results, Tryz.results13, go_sem]) rfl ?_
    exact ⟨Below.refl _ _, none, 0, 0, rfl, Pm.nil _ _ _ _ _⟩
end Go.Proofs.YtohhfcfnclafdaaGreatDoor
set_option linter.unusedVariables false
set_option linter.unusedSimpArgs false
set_option maxRecDepth 100000
namespace Go.Proofs.YtohhfcfnclafdaaGreatDoor
open Go.RowKit
attribute [local go_sem ↓] Go.wp_at_zero Go.wp_at_succ

theorem ns_at_lt {s : ByteArray} {k : Nat} (h : k < s.size) : ∃ b, (D.ns s)[k]? = some b ∧ b ∈ D.ns s := by
  have hl : k < (D.ns s).length := by rw [D.ns_len]; exact h
  exact ⟨_, List.getElem?_eq_getElem hl, List.getElem_mem hl⟩
theorem tellText_yes (s : ByteArray) (d : Nat) (v : Bool) (w : World) (hs : s.size ≤ 1000) (h0 : D.ns s ≠ []) (hp : ∀ c ∈ D.ns s, D.plB v c = true) :
    Calls Tryz.prog 132 #[.agg #[.int .i64 (d : Nat), .bool v], .string s] w fun e w' => e = .returned (.bool true) ∧ Below w.heap.size w w' := by
  have h256 := ns_lt s
  have H := Lib.hid (fun x W (hx : x < 256) => textByte_any d v x hx W)
  have tt := txt_eq s ⟨#[]⟩
  rw [show D.ns ⟨#[]⟩ = [] from rfl, decide_eq_false h0] at tt
  have tl : (⟨#[]⟩ : ByteArray).toList = [] := by rw [ByteArray.toList_eq]
  rw [tl] at tt
  have HP := Lib.hid hp
  have H2 := Lib.hid h256
  have hcv := fun W => run_bytes_of_string (P := Tryz.prog) W 9 103 5 s Tryz.underlying9 Tryz.underlying103 Tryz.underlying5
  clear h256 hp h0 tl
  go_enter Tryz.func132, Tryz.ntmps132
  go_wp2_with fail
  clear hcv
  go_loopw [10] (fun i wr => ∃ k : Nat, k ≤ s.size ∧ i = .int .i64 k ∧ Hid (Blk wr w.heap.size 99 #[.int .i64 (d : Nat), .bool v]) ∧ Hid (Row wr (some ⟨w.heap.size + 1, 0, none⟩) s.size (bys (D.ns s))) ∧ Hid (Below w.heap.size w wr)) (fun i _ => s.size - (intOf i).toNat)
  case atStart =>
    refine ⟨0, Nat.zero_le _, rfl, Lib.hid ((((Blk.new w _ _)).drew).alloc _), Lib.hid ?_, Lib.hid ((((Below.refl _ _).alloc (Nat.le_refl _) _).drew).alloc (by simp) _)⟩
    have := Nm.row_of_text (w.alloc (.cells #[.int .i64 (d : Nat), .bool v] 99)).drew s
    simp only [World.size_drew, World.size_alloc] at this
    exact this _ _ _
  case round =>
    obtain ⟨k, hk, rfl, HB, HR, HZ⟩ := hrel
    obtain ⟨wo, rfl⟩ : ∃ wo : World, wo = wr := ⟨_, rfl⟩
    have c0 := HB.out.c_ 0
    have c1 := HB.out.c_ 1
    have c2 := HB.out.lt
    by_cases hlt : k < s.size
    · obtain ⟨b, hb, hbm⟩ := ns_at_lt hlt
      have hm := HP.out b hbm
      have HM := Lib.hid (fun W => H.out b W (H2.out b hbm))
      rw [hm] at HM
      obtain ⟨ad, e, cx⟩ := HR.out.cell (bys_at hb)
      injection e with e
      subst e
      simp only [Addr.add_lit, Nat.zero_add] at cx
      have i1 : (k : Int) < (s.size : Int) := by omega
      clear hb hm hbm
      go_wp2_with (go_at_call 83; (with_reducible refine (HM.out _).mono ?_); rintro e w1 ⟨rfl, b1⟩; have B1 := Lib.hid b1; clear b1)
      go_roundw
      case rel => exact ⟨k + 1, by omega, by go_num, Lib.hid (HB.out.on B1.out), Lib.hid (HR.out.on B1.out), Lib.hid (HZ.out.trans (B1.out.mono HZ.out.size))⟩
      case measure => simp [intOf]; omega
    · obtain rfl : k = s.size := by omega
      go_wp2
      go_ret
      exact ⟨rfl, HZ.out⟩
end Go.Proofs.YtohhfcfnclafdaaGreatDoor
set_option linter.unusedVariables false
set_option linter.unusedSimpArgs false
set_option maxRecDepth 100000
namespace Go.Proofs.YtohhfcfnclafdaaGreatDoor
open Go.RowKit
open Go.Maps (Keyed)

/-- A kind of keys. -/
structure Ks (α : Type) where
  K : TypeId
  v : α → Value
  kl : α → Lit
  ok : α → Prop
  is_ : ∀ x, ok x → keyOf Tryz.prog K (v x) = some (kl x)
  inj : ∀ {x y}, kl x = kl y → x = y
  law : Maps.Keyed Tryz.prog K
theorem Ks.key {α : Type} (S : Ks α) (x : α) (h : S.ok x) : WideAt.IsKeyLit (S.kl x) := S.law.key (S.is_ x h)
/-- A map that holds just these keys, and no values. -/
structure SetAt {α : Type} [DecidableEq α] (S : Ks α) (w : World) (b : Nat) (L : List α) : Prop where
  out : ∃ D : DataW Unit, w.ownsMap Tryz.prog S.K unitElem b L.length D ∧ (∀ x, S.ok x → Maps.has D (S.kl x) = decide (x ∈ L)) ∧ Maps.size D = L.length
section
variable {α : Type} [DecidableEq α] {S : Ks α} {w w' : World} {b n : Nat} {L : List α} {T : TypeId}
theorem own_tight_ {K : TypeId} {D0 : DataW Unit} (h : w.ownsMap Tryz.prog K unitElem b n D0) : w.ownsMap Tryz.prog K unitElem b (Maps.size D0) D0 := by
  obtain ⟨es, clock, hb, F, hs, hD⟩ := h
  exact ⟨es, clock, hb, F, by rw [hD]; simp [Maps.size, length_sorted], hD⟩
theorem SetAt.lt (h : SetAt S w b L) : b < w.heap.size := by
  obtain ⟨D, ho, _⟩ := h.out
  exact ho.lt
theorem SetAt.to (h : SetAt S w b L) (hs : w'.heap[b]? = w.heap[b]?) : SetAt S w' b L := by
  obtain ⟨D, ⟨es, clock, hb, r⟩, r'⟩ := h.out
  exact ⟨D, ⟨es, clock, hs.trans hb, r⟩, r'⟩
theorem SetAt.on (h : SetAt S w b L) (hb : Below w.heap.size w w') : SetAt S w' b L := h.to (hb.block _ h.lt)
theorem SetAt.fr {F : Nat → Prop} (h : SetAt S w b L) (k : Fr F w w') (hn : ¬ F b) : SetAt S w' b L := h.to (k.same b h.lt hn)
theorem SetAt.alloc (h : SetAt S w b L) (o : Obj) : SetAt S (w.alloc o) b L := h.on (below_alloc_ _ _)
theorem set_new (S : Ks α) (w : World) (g : Nat) (hg : g = w.heap.size) : SetAt S (w.alloc (.map #[] 0)) g [] := by
  subst hg
  exact ⟨_, World.ownsMap_made _ _ _ _, fun x _ => rfl, rfl⟩
theorem SetAt.len {E : TypeId} (h : SetAt S w b L) (hT : Tryz.prog.underlying T = some (.map S.K E)) (ty : TypeId) : (Builtin.len_ #[T] ty #[.map (some b)]).run Tryz.prog w = .ok (.int .i64 (L.length : Nat)) w := by
  obtain ⟨D, ho, _, hs⟩ := h.out
  rw [ho.len hT ty, hs]
theorem SetAt.look {E : TypeId} (h : SetAt S w b L) (hT : Tryz.prog.underlying T = some (.map S.K E)) (hz : ∀ w : World, (zeroValue E).run Tryz.prog w = .ok (.agg #[]) w) (x : α) (hx : S.ok x) : (Instr.lookup T (.map (some b)) (S.v x) true).run Tryz.prog w = .ok (.tuple #[.agg #[], .bool (decide (x ∈ L))]) w := by
  obtain ⟨D, ho, hh, _⟩ := h.out
  obtain ⟨v, ps, hr, hv⟩ := ho.look_ok S.law hT (z := .agg #[]) (hz w) unitElem_mk (S.is_ x hx)
  obtain ⟨rfl, _⟩ := unitElem_inv hv
  rw [hr, hh x hx]
theorem SetAt.look_in {E : TypeId} (h : SetAt S w b L) (hT : Tryz.prog.underlying T = some (.map S.K E)) (hz : ∀ w : World, (zeroValue E).run Tryz.prog w = .ok (.agg #[]) w) {x : α} (hx : S.ok x) (hm : x ∈ L) : (Instr.lookup T (.map (some b)) (S.v x) true).run Tryz.prog w = .ok (.tuple #[.agg #[], .bool true]) w := by
  rw [h.look hT hz x hx, decide_eq_true hm]
theorem SetAt.put {E : TypeId} (h : SetAt S w b L) (hT : Tryz.prog.underlying T = some (.map S.K E)) (hL : L.length ≤ 100000) (x : α) (hx : S.ok x) (L' : List α) (hm : ∀ y, y ∈ L' ↔ y = x ∨ y ∈ L) (hl : L'.length = if x ∈ L then L.length else L.length + 1) :
    ∃ w', (Instr.mapUpdate T (.map (some b)) (S.v x) (.agg #[])).run Tryz.prog w = .ok () w' ∧ SetAt S w' b L' ∧ w.grownBy w' (some b) := by
  obtain ⟨D, ho, hh, hs⟩ := h.out
  obtain ⟨w', hr, ho', hg⟩ := ho.update S.law hT (by simp only [maxLen]; omega) (S.is_ x hx) (unitElem_mk (H := Unit))
  have hs' : Maps.size (D.put (S.kl x) (.agg [])) = L'.length := by
    rw [Maps.size_put (ho.tidy S.law), hh x hx, hs, hl]
    simp
  refine ⟨w', hr, ⟨_, by rw [← hs']; exact own_tight_ ho', fun y hy => ?_, hs'⟩, hg⟩
  by_cases e : y = x
  · subst e
    rw [Maps.has_put_same ho.isMap (S.key y hy)]
    have := (hm y).2 (.inl rfl)
    simp [this]
  · rw [Maps.has_put_other (fun e' => e (S.inj e')), hh y hy, decide_eq_decide, hm y]
    simp [e]
end
/-- Texts as keys. -/
def sS : Ks ByteArray where
  K := 9
  v s := .string s
  kl s := .string s.data.toList
  ok s := s.size ≤ 100000
  is_ s h := by
    unfold keyOf
    rw [Tryz.underlying9]
    simp [mapKey, Tryz.underlying9]
    simp only [maxLen]; omega
  inj {x y} h := by
    injection h with h
    exact ByteArray.ext (Array.ext' h)
  law := Maps.string_keyed Tryz.underlying9
theorem map_set_str : Tryz.prog.underlying 256 = some (.map sS.K 118) := Tryz.underlying256
theorem zero_unit (w : World) : (zeroValue 118).run Tryz.prog w = .ok (.agg #[]) w := by rw [Tryz.zeroValue118]
end Go.Proofs.YtohhfcfnclafdaaGreatDoor
