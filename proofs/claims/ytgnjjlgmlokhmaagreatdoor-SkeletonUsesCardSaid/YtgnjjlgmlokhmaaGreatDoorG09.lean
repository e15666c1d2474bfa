/-
  
-/
import Derived.Test.YtgnjjlgmlokhmaaGreatDoorG07
import Derived.Test.YtgnjjlgmlokhmaaGreatDoorG08
import Derived.OpenShut
import Derived.Test.YtgnjjlgmlokhmaaGreatDoorG04
set_option linter.unusedVariables false
set_option linter.unusedSimpArgs false
namespace Go.Proofs.YtgnjjlgmlokhmaaGreatDoor
open Go.RowKit
attribute [local go_sem ↓] Go.wp_at_zero Go.wp_at_succ ld_a ld_n st_a st_n eq_a eq_n ne_a ne_n lv_a lv_n lp_3 lp_4
attribute [local go_sem] run_ld_a run_ld_n run_sw_a run_sw_n run_eq_a run_eq_n run_ne_a run_ne_n run_lv_a run_lv_n st_z ne_z eq_z rd_new rd_old rd_drew rd_drewN rd_set tn_new tn_old tn_drew tn_drewN setRow_alloc run_lp_3 run_lp_4

theorem join_lt : ∀ L : List (List Nat), (∀ l ∈ L, ∀ b ∈ l, b < 256) -> ∀ b ∈ D.join L, b < 256
 | [], _, b, hb => by cases hb
 | [x], h, b, hb => h x (by simp) b hb
 | x :: y :: r, h, b, hb => by
  rw [D.join] at hb
  rcases List.mem_append.1 hb with hb | hb
  ·exact h x (by simp) b hb
  ·rcases List.mem_cons.1 hb with rfl | hb
   ·decide
   ·exact join_lt (y :: r) (fun l hl => h l (List.mem_cons_of_mem _ hl)) b hb
theorem mem_opt {l a : List Nat} (h : l ∈ (if a = [] then [] else [a])) : l = a := by
 by_cases e : a = []
 ·rw [if_pos e] at h; cases h
 ·rw [if_neg e] at h; simpa using h
theorem spell_lt (x : D.Tg) : ∀ b ∈ D.spell x, b < 256 := by
 intro b hb
 unfold D.spell at hb
 split at hb
 ·revert b; decide
 ·refine join_lt _ (fun l hl => ?_) b hb
  have : l = D.hd0 (D.pl x) ∨ l = D.hd0 (D.ps x) ∨ l = D.hd0 (D.pr x) := by
   simp only [D.some3, D.hds, List.mem_append] at hl
   rcases hl with hl | hl | hl
   ·exact .inl (mem_opt hl)
   ·exact .inr (.inl (mem_opt hl))
   ·exact .inr (.inr (mem_opt hl))
  rcases this with rfl | rfl | rfl
  ·exact hd0_lt fun b hb => x.lt b (List.mem_of_mem_take hb)
  ·exact hd0_lt fun b hb => x.lt b (List.mem_of_mem_drop (List.mem_of_mem_take hb))
  ·exact hd0_lt fun b hb => x.lt b (List.mem_of_mem_drop hb)
theorem spell_len2 (x : D.Tg) : (D.spell x).length <= 20 := by
 unfold D.spell
 split
 ·decide
 ·rw [<- accs_end]; exact spell_len x
theorem right_eq (x : D.Tg) : D.right x = match D.parse (D.spell x) with
  | none => false
  | some p => sm (D.tb p) x := by
 unfold D.right D.pt sm
 cases D.parse (D.spell x) with
 | none => rfl
 | some p => by_cases h : D.tb p = x <;> simp [h]
theorem parse_spell (x : D.Tg) (w : World) : Calls Tryz.prog 150 #[.string (D.sb (D.spell x))] w fun e w' => e = .returned (.tuple #[.agg (nc (D.tb ((D.parse (D.spell x)).getD D.rt))), .int .i64 (er (D.parse (D.spell x)))]) ∧ Below w.heap.size w w' := by
 have := tag_parse (D.sb (D.spell x)) w (by rw [D.sb_len]; have := spell_len2 x; omega)
 rwa [D.ns_sb (spell_lt x)] at this
set_option maxRecDepth 100000 in
set_option maxHeartbeats 1000000 in
theorem right_any (x : D.Tg) (w : World) : Calls Tryz.prog 139 #[.agg (nc x)] w fun e w' => e = .returned (.bool (D.right x)) ∧ Below w.heap.size w w' := by
 have cS := Lib.hid (fun w => spelled_any x w)
 have cP := fun w => parse_spell x w
 have hr := right_eq x
 have f0 := rd_new w _ 61 x rfl
 obtain ⟨p, hp⟩ : ∃ p, D.parse (D.spell x) = p := ⟨_, rfl⟩
 obtain ⟨l, hl⟩ : ∃ l, D.spell x = l := ⟨_, rfl⟩
 rw [hp] at cP hr
 rw [hl] at cP cS
 clear hp hl
 have HR := Lib.hid hr
 clear hr
 cases p with
 | none =>
  have cP' := Lib.hid (fun w => (show Calls Tryz.prog 150 #[.string (D.sb l)] w fun e w' => e = .returned (.tuple #[.agg (nc D.zero), .int .i64 14]) ∧ Below w.heap.size w w' from cP w))
  clear cP
  go_enter Tryz.func139, Tryz.ntmps139
  go_wp2_with (first
   | (go_at_call 151; (with_reducible refine (cS.out _).mono ?_); rintro e w1 ⟨rfl, b1⟩)
   | (go_at_call 150; (with_reducible refine (cP'.out _).mono ?_); rintro e w2 ⟨rfl, b2⟩))
  go_ret
  exact ⟨by rw [HR.out]; rfl, below_on (below_on (below_alloc_ _ _) (by simp) b1) (by have := b1.size; simp at this; omega) b2 |>.alloc (by have := b1.size; have := b2.size; simp at *; omega) _⟩
 | some q =>
  have cP' := Lib.hid (fun w => (show Calls Tryz.prog 150 #[.string (D.sb l)] w fun e w' => e = .returned (.tuple #[.agg (nc (D.tb q)), .int .i64 0]) ∧ Below w.heap.size w w' from cP w))
  clear cP
  go_enter Tryz.func139, Tryz.ntmps139
  go_wp2_with (first
   | (go_at_call 151; (with_reducible refine (cS.out _).mono ?_); rintro e w1 ⟨rfl, b1⟩; have f1 := rd_on f0 b1)
   | (go_at_call 150; (with_reducible refine (cP'.out _).mono ?_); rintro e w2 ⟨rfl, b2⟩; have f2 := rd_on f1 b2; have s2 : w.heap.size < w2.heap.size := by have := b1.size; have := b2.size; simp at *; omega))
  go_ret
  exact ⟨by rw [HR.out]; rfl, below_on (below_on (below_alloc_ _ _) (by simp) b1) (by have := b1.size; simp at this; omega) b2 |>.alloc (by have := b1.size; have := b2.size; simp at *; omega) _⟩
def D.tx (x : D.Tg) : List Nat := if D.right x then D.spell x else []
theorem D.tx_tb {p : D.Pt} (h : D.Can p) : D.tx (D.tb p) = D.txt p := by
 unfold D.tx D.right
 rw [D.pt_tb h, D.spell_tb h]
 rfl
set_option maxRecDepth 100000 in
set_option maxHeartbeats 1000000 in
theorem text_any (x : D.Tg) (w : World) : Calls Tryz.prog 140 #[.agg (nc x)] w fun e w' => e = .returned (.string (D.sb (D.tx x))) ∧ Below w.heap.size w w' := by
 have cS := Lib.hid (fun w => spelled_any x w)
 have cR := Lib.hid (fun w => right_any x w)
 have ht : D.tx x = if D.right x then D.spell x else [] := rfl
 have f0 := rd_new w _ 61 x rfl
 obtain ⟨r, hr⟩ : ∃ r, D.right x = r := ⟨_, rfl⟩
 obtain ⟨l, hl⟩ : ∃ l, D.spell x = l := ⟨_, rfl⟩
 rw [hr] at cR ht
 rw [hl] at cS ht
 rw [ht]
 clear ht hr hl
 cases r
 all_goals
  go_enter Tryz.func140, Tryz.ntmps140
  go_wp2_with (first
   | (go_at_call 139; (with_reducible refine (cR.out _).mono ?_); rintro e w1 ⟨rfl, b1⟩; have f1 := rd_on f0 b1)
   | (go_at_call 151; (with_reducible refine (cS.out _).mono ?_); rintro e w2 ⟨rfl, b2⟩))
  go_ret
 ·exact ⟨rfl, below_on (below_alloc_ _ _) (by simp) b1⟩
 ·exact ⟨rfl, below_on (below_on (below_alloc_ _ _) (by simp) b1) (by have := b1.size; simp at this; omega) b2⟩


structure On where
 n : Nat
 os : Array Obj
 deriving Inhabited
def ext (w : World) (p : On) : World := { w with heap := w.heap ++ p.os, drawn := p.n }
theorem ext_heap (w : World) (p : On) {k : Nat} (h : k < w.heap.size) : (ext w p).heap[k]? = w.heap[k]? := by simp [ext, Array.getElem?_append, h]
theorem ext_size (w : World) (p : On) : w.heap.size <= (ext w p).heap.size := by simp [ext]
theorem ext_below (w : World) (p : On) : Below w.heap.size w (ext w p) := ⟨rfl, rfl, rfl, ext_size w p, fun k hk => ext_heap w p hk⟩
theorem ext_of {w w' : World} (h : Below w.heap.size w w') : ∃ p, w' = ext w p := by
 obtain ⟨heap, tape, drawn, os, output⟩ := w
 obtain ⟨heap', tape', drawn', os', output'⟩ := w'
 obtain ⟨h1, h2, h3, h4, h5⟩ := h
 simp only at h1 h2 h3 h4 h5
 subst h1 h2 h3
 refine ⟨⟨drawn', heap'.extract heap.size heap'.size⟩, ?_⟩
 simp only [ext]
 congr 1
 apply Array.ext_getElem?
 intro i
 rw [Array.getElem?_append]
 by_cases hi : i < heap.size
 ·rw [if_pos hi]; exact h5 i hi
 ·rw [if_neg hi, Array.getElem?_extract]
  split
  ·congr 1; omega
  ·rw [Array.getElem?_eq_none (by omega)]
theorem ext_to {w w' : World} (h : ∃ p, w' = ext w p) : Below w.heap.size w w' := by
 obtain ⟨p, rfl⟩ := h
 exact ext_below w p
theorem wp_region_ext {P : Program} {id : Nat} {Q : Exit -> Act -> World -> Prop} {a : Act} {w : World} {l : List Oper} (hm : P.follows .mixedOrders = true) (hB : Region.lexB .any l.toArray = true)
  (h : wpQuiet P l.toArray (fun w' => ∃ p : On, w' = ext w p) (fun a' => ∀ w', (∃ p : On, w' = ext w p) -> Q .normal a' w') l a) : (Code.region id l.toArray true).wp P Q a w :=
 wp_region_quiet (C := fun w' => ∃ p : On, w' = ext w p) hm hB ⟨⟨w.drawn + 1, #[]⟩, by simp [ext]⟩ (by simpa using h)
theorem calls_ext {P : Program} {f : FuncId} {args : Array Value} {w : World} {p : On} {v : Value}
  (h : Calls P f args (ext w p) fun e w' => e = .returned v ∧ Below (ext w p).heap.size (ext w p) w') : Calls P f args (ext w p) fun e w'' => e = .returned v ∧ ∃ p : On, w'' = ext w p :=
 h.mono fun _ _ ⟨he, hb⟩ => ⟨he, ext_of ((ext_below w p).trans (hb.mono (ext_size w p)))⟩
theorem rd_ext (w : World) (p : On) (a : Addr) (h : a.block < w.heap.size) : rd (ext w p) a = rd w a := rd_to (ext_heap w p h)
theorem cell_ext (w : World) (p : On) (a : Addr) (h : a.block < w.heap.size) : (ext w p).cell? a = w.cell? a := World.cell?_of_block (ext_heap w p h)
structure From (w0 w : World) : Prop where
 below : Below w0.heap.size w0 w
theorem From.alloc {w0 w : World} (h : From w0 w) (o : Obj) : From w0 (w.alloc o) := ⟨h.below.alloc h.below.size o⟩
theorem From.drewN {w0 w : World} (h : From w0 w) (n : Nat) : From w0 (w.drewN n) := ⟨below_drewN h.below n⟩
theorem From.on {w0 w w' : World} (h : From w0 w) (hb : Below w.heap.size w w') : From w0 w' := ⟨h.below.trans (hb.mono h.below.size)⟩
theorem From.rd {w0 w : World} {a : Addr} {x : D.Tg} (h : From w0 w) (hr : rd w0 a = some x) : rd w a = some x := rd_on hr h.below
theorem From.lt {w0 w : World} (h : From w0 w) {n : Nat} (hn : n < w0.heap.size) : n < w.heap.size := Nat.lt_of_lt_of_le hn h.below.size


end Go.Proofs.YtgnjjlgmlokhmaaGreatDoor
set_option maxRecDepth 100000
namespace Go.Proofs.YtgnjjlgmlokhmaaGreatDoor
open Go.RowKit
attribute [local go_sem ↓] Go.wp_at_zero Go.wp_at_succ

def strs (l : List (List Nat)) : List Value := l.map fun t => .string (D.sb t)
theorem strs_len (l : List (List Nat)) : (strs l).length = l.length := by simp [strs]
theorem strs_app (l k : List (List Nat)) : strs (l ++ k) = strs l ++ strs k := by simp [strs]
theorem strs_at {l : List (List Nat)} {i : Nat} {t : List Nat} (h : l[i]? = some t) : (strs l)[i]? = some (.string (D.sb t)) := by simp [strs, h]
theorem strs_one (l : List (List Nat)) : ∀ u ∈ strs l, u.oneCell' = true := by
 intro u hu
 obtain ⟨b, _, rfl⟩ := List.mem_map.1 hu
 rfl
theorem txt_eq (a b : ByteArray) : (a.toList == b.toList) = decide (D.ns a = D.ns b) := by
 rw [ByteArray.toList_eq, ByteArray.toList_eq, Bool.eq_iff_iff, beq_iff_eq, decide_eq_true_eq]
 constructor
 ·intro h; rw [D.ns, D.ns, h]
 ·intro h
  have := D.ns_inj h
  rw [this]
def D.B8 (l : List (List Nat)) : Prop := ∀ w ∈ l, ∀ c ∈ w, c < 256
def D.fnd (l : List (List Nat)) (t : List Nat) : Int := if t ∈ l then (l.idxOf t : Nat) else -1
theorem D.fnd_some {l : List (List Nat)} {t : List Nat} {k : Nat} (h : l[k]? = some t) (hn : ∀ j, j < k -> l[j]? ≠ some t) : D.fnd l t = k := by
 unfold D.fnd
 rw [if_pos (List.mem_of_getElem? h)]
 have hk := (List.getElem?_eq_some_iff.1 h).1
 have hi : l.idxOf t < l.length := List.idxOf_lt_length_iff.2 (List.mem_of_getElem? h)
 have hg : l[l.idxOf t]? = some t := by rw [List.getElem?_eq_getElem hi, List.getElem_idxOf]
 have h1 : ¬ l.idxOf t < k := fun hlt => hn _ hlt hg
 have h2 : ¬ k < l.idxOf t := fun hlt => by
  have := List.not_of_lt_findIdx (p := (· == t)) (show k < l.findIdx (· == t) from hlt)
  rw [(List.getElem?_eq_some_iff.1 h).2] at this
  simp at this
 omega
theorem D.fnd_none {l : List (List Nat)} {t : List Nat} (hn : ∀ j, j < l.length -> l[j]? ≠ some t) : D.fnd l t = -1 := by
 unfold D.fnd
 rw [if_neg]
 intro h
 obtain ⟨j, hj, e⟩ := List.mem_iff_getElem.1 h
 exact hn j hj (by rw [List.getElem?_eq_getElem hj, e])
set_option maxHeartbeats 2000000 in
theorem find_any (A : Option Addr) (n c : Nat) (ws : List (List Nat)) (u : ByteArray) (w : World) (hr : Rw 1 w A n (strs ws)) (hb : D.B8 ws) (hn : n <= 1000000) :
  Calls Tryz.prog 55 #[.slice A n c, .string u] w fun e w' => e = .returned (.int .i64 (D.fnd ws (D.ns u))) ∧ w = w' := by
 have hlen := hr.len
 rw [strs_len, Nat.mul_one] at hlen
 have ht := fun a : List Nat => txt_eq (D.sb a) u
 obtain ⟨t, htt⟩ : ∃ t, D.ns u = t := ⟨_, rfl⟩
 rw [htt] at ht ⊢
 have HT := Lib.hid ht
 clear ht htt
 go_enter Tryz.func55, Tryz.ntmps55
 go_wp2_with fail
 go_loopw [5] (fun a wr => ∃ k : Nat, k <= n ∧ a = .int .i64 k ∧ Kept (∀ j, j < k -> ws[j]? ≠ some t) ∧ wr = w) (fun a _ => n - (intOf a).toNat)
 case atStart => exact ⟨0, Nat.zero_le _, rfl, ⟨fun j hj => by omega⟩, rfl⟩
 case round =>
  obtain ⟨k, hk, rfl, HN, rfl⟩ := hrel
  by_cases hlt : k < n
  ·obtain ⟨a, ha⟩ : ∃ a, ws[k]? = some a := ⟨_, List.getElem?_eq_getElem (by omega)⟩
   obtain ⟨ad, rfl, _, hc⟩ := hr.cell (strs_at ha)
   have hI : (k : Int) < n := by omega
   have tt := HT.out a
   rw [D.ns_sb (hb a (List.mem_of_getElem? ha))] at tt
   by_cases e : a = t
   ·subst e
    rw [decide_eq_true rfl] at tt
    have HA := Lib.hid (D.fnd_some ha HN.out)
    clear HN ha hr hlen HT hb
    go_wp2
    go_ret
    exact ⟨ret_of HA.out.symm, rfl⟩
   ·rw [decide_eq_false e] at tt
    have HN' : Kept (∀ j, j < k + 1 -> ws[j]? ≠ some t) := ⟨fun j hj => by
     obtain h | rfl : j < k ∨ j = k := by omega
     ·exact HN.out j h
     ·rw [ha]; intro h; injection h with h; exact e h⟩
    clear HN ha hr hlen HT hb
    go_wp2
    go_roundw
    case rel => exact ⟨k + 1, by omega, by go_num, HN', trivial⟩
    case measure => simp [intOf]; omega
  ·obtain rfl : k = n := by omega
   have HA := Lib.hid (D.fnd_none (t := t) (l := ws) (fun j hj => HN.out j (by omega)))
   clear HN hr HT hb
   go_wp2
   go_ret
   exact ⟨ret_of HA.out.symm, rfl⟩
end Go.Proofs.YtgnjjlgmlokhmaaGreatDoor
namespace Go.Proofs.YtgnjjlgmlokhmaaGreatDoor
open Go.RowKit

structure Keeps (F : Nat -> Prop) (w w' : World) : Prop where
 size : w.heap.size <= w'.heap.size
 same : ∀ b, F b -> b < w.heap.size -> w'.heap[b]? = w.heap[b]?
theorem keeps_below {F : Nat -> Prop} {w w' : World} (h : Below w.heap.size w w') : Keeps F w w' := ⟨h.size, fun b _ hb => h.block b hb⟩
theorem keeps_grown {F : Nat -> Prop} {w w' : World} {row : Option Nat} (h : w.grownBy w' row) (hF : ∀ b, F b -> row ≠ some b) : Keeps F w w' := ⟨h.size, fun b hb hlt => h.block b hlt (fun e => hF b hb e.symm)⟩
theorem keeps_setCell {F : Nat -> Prop} (w : World) (p : Addr) (u : Value) (hF : ∀ b, F b -> b ≠ p.block) : Keeps F w (w.setCell p u) := ⟨by simp, fun b hb _ => Below.heap_setCell w p u b (hF b hb)⟩
structure RF (sz : Nat) (F : Nat -> Prop) (w : World) (A : Option Addr) (n : Nat) (xs : List Value) : Prop where
 row : Rw sz w A n xs
 on_ : 0 < n -> ∀ ad, A = some ad -> F ad.block
 pl : 0 < n -> ∀ ad, A = some ad -> ∃ cs T, w.heap[ad.block]? = some (.cells cs T (0, 0))
section
variable {sz n : Nat} {F F' : Nat -> Prop} {w w' : World} {A : Option Addr} {xs : List Value}
theorem RF.keep (h : RF sz F w A n xs) (k : Keeps F w w') : RF sz F w' A n xs := by
 refine ⟨⟨h.row.len, fun hn => ?_⟩, h.on_, fun hn ad e => ?_⟩
 rotate_left
 ·obtain ⟨ad', e', hl, _⟩ := h.row.tow hn
  rw [e] at e'
  injection e' with e'
  subst e'
  rw [k.same _ (h.on_ hn ad e) hl]
  exact h.pl hn ad e
 obtain ⟨ad, e, hl, hc⟩ := h.row.tow hn
 exact ⟨ad, e, Nat.lt_of_lt_of_le hl k.size, fun j u hu => (World.cell?_of_block (w := w) (by rw [block_of_add]; exact k.same _ (h.on_ hn ad e) hl)).trans (hc j u hu)⟩
theorem RF.weaken (h : RF sz F w A n xs) (k : ∀ b, b < w.heap.size -> F b -> F' b) : RF sz F' w A n xs := by
 refine ⟨h.row, fun hn ad e => ?_, h.pl⟩
 obtain ⟨ad', e', hl, _⟩ := h.row.tow hn
 rw [e] at e'
 injection e' with e'
 subst e'
 exact k _ hl (h.on_ hn ad e)
theorem RF.nil (sz : Nat) (F : Nat -> Prop) (w : World) (A : Option Addr) : RF sz F w A 0 [] := ⟨Rw.nil sz w A, fun h => absurd h (by omega), fun h => absurd h (by omega)⟩
theorem Ow.rf {T : TypeId} {base c : Nat} (h : Ow T sz base w A n c xs) (hF : ∀ g, (Value.slice A n c).ownBlock = some g -> F g) : RF sz F w A n xs := by
 refine ⟨h.to_row, fun hn ad e => hF _ (by rw [e]; rfl), fun hn ad e => ?_⟩
 rcases h.row.2 with ⟨_, h0⟩ | ⟨g, cap, cur, e1, _, hh, _⟩
 ·omega
 ·injection e1 with e1
  rw [e] at e1
  injection e1 with e1
  subst e1
  exact ⟨_, _, hh⟩
end
def pcl : List (D.Nd × Value × Value) -> List Value
 | [] => []
 | (x, a, b) :: r => .int .i64 (D.Nd.k x : Nat) :: .string (D.sb (D.Nd.t x)) :: .string (D.sb (D.Nd.n x)) :: a :: b :: pcl r
theorem cls_app : ∀ (l k : List (D.Nd × Value × Value)), pcl (l ++ k) = pcl l ++ pcl k
 | [], k => rfl
 | (x, a, b) :: l, k => by simp [pcl, cls_app l k]
theorem cls_len : ∀ l : List (D.Nd × Value × Value), (pcl l).length = l.length * 5
 | [] => rfl
 | (x, a, b) :: l => by simp [pcl, cls_len l]; omega
theorem cls_at : ∀ {l : List (D.Nd × Value × Value)} {i : Nat} {x : D.Nd} {a b : Value}, l[i]? = some (x, a, b) ->
  (pcl l)[i * 5]? = some (.int .i64 (x.k : Nat)) ∧ (pcl l)[i * 5 + 1]? = some (.string (D.sb x.t)) ∧ (pcl l)[i * 5 + 2]? = some (.string (D.sb x.n)) ∧ (pcl l)[i * 5 + 3]? = some a ∧ (pcl l)[i * 5 + 4]? = some b
 | [], i, x, a, b, h => by simp at h
 | (y, c, d) :: l, 0, x, a, b, h => by
  simp at h
  obtain ⟨rfl, rfl, rfl⟩ := h
  exact ⟨rfl, rfl, rfl, rfl, rfl⟩
 | (y, c, d) :: l, i + 1, x, a, b, h => by
  have := cls_at (l := l) (i := i) (by simpa using h)
  rw [show (i + 1) * 5 = i * 5 + 5 by omega]
  exact this
def D.Bt (x : D.Nd) : Prop := (∀ c ∈ x.t, c < 256) ∧ (∀ c ∈ x.n, c < 256) ∧ D.B8 x.ws
def Bel (K : Value -> List D.Nd -> Prop) (F : Nat -> Prop) (w : World) (x : D.Nd) (a b : Value) : Prop :=
 D.Bt x ∧ (∃ A n c, a = .slice A n c ∧ n <= c ∧ RF 1 F w A n (strs x.ws)) ∧
 ∃ (A : Option Addr) (n c : Nat) (us : List Value), b = .slice A n c ∧ n <= c ∧ RF 1 F w A n us ∧ us.length = x.ks.length ∧ (∀ u ∈ us, u.oneCell' = true) ∧ ∀ (j : Nat) (u : Value) (q : List D.Nd), us[j]? = some u -> x.ks[j]? = some q -> K u q
def Ms (F : Nat -> Prop) (w : World) : Nat -> Value -> List D.Nd -> Prop
 | 0, v, l => ∃ (A : Option Addr) (n c : Nat) (vs : List (D.Nd × Value × Value)), v = .slice A n c ∧ n <= c ∧ RF 5 F w A n (pcl vs) ∧ vs.map (·.1) = l ∧ ∀ (i : Nat) (x : D.Nd) (a b : Value), vs[i]? = some (x, a, b) -> a.oneCell' = true ∧ b.oneCell' = true ∧ Bel (fun _ _ => False) F w x a b
 | r + 1, v, l => ∃ (A : Option Addr) (n c : Nat) (vs : List (D.Nd × Value × Value)), v = .slice A n c ∧ n <= c ∧ RF 5 F w A n (pcl vs) ∧ vs.map (·.1) = l ∧ ∀ (i : Nat) (x : D.Nd) (a b : Value), vs[i]? = some (x, a, b) -> a.oneCell' = true ∧ b.oneCell' = true ∧ Bel (Ms F w r) F w x a b
def Kd (F : Nat -> Prop) (w : World) : Nat -> Value -> List D.Nd -> Prop
 | 0 => fun _ _ => False
 | r + 1 => Ms F w r
theorem Ms_eq (F : Nat -> Prop) (w : World) (r : Nat) (v : Value) (l : List D.Nd) : Ms F w r v l ↔ ∃ (A : Option Addr) (n c : Nat) (vs : List (D.Nd × Value × Value)), v = .slice A n c ∧ n <= c ∧ RF 5 F w A n (pcl vs) ∧ vs.map (·.1) = l ∧ ∀ (i : Nat) (x : D.Nd) (a b : Value), vs[i]? = some (x, a, b) -> a.oneCell' = true ∧ b.oneCell' = true ∧ Bel (Kd F w r) F w x a b := by
 cases r <;> exact Iff.rfl
section
variable {F F' : Nat -> Prop} {w w' : World}
theorem Bel.tow {K K' : Value -> List D.Nd -> Prop} {x : D.Nd} {a b : Value} (h : Bel K F w x a b) (h1 : ∀ sz A n xs, RF sz F w A n xs -> RF sz F' w' A n xs) (h2 : ∀ u q, K u q -> K' u q) : Bel K' F' w' x a b := by
 obtain ⟨hb, ⟨A, n, c, e, hc, hr⟩, A', n', c', us, e', hc', hr', hl, h1c, hk⟩ := h
 exact ⟨hb, ⟨A, n, c, e, hc, h1 _ _ _ _ hr⟩, A', n', c', us, e', hc', h1 _ _ _ _ hr', hl, h1c, fun j u q hu hq => h2 u q (hk j u q hu hq)⟩
theorem Ms.tow (h1 : ∀ sz A n xs, RF sz F w A n xs -> RF sz F' w' A n xs) : ∀ (r : Nat) {v : Value} {l : List D.Nd}, Ms F w r v l -> Ms F' w' r v l
 | 0, v, l, h => by
  obtain ⟨A, n, c, vs, e, hc, hr, hl, hb⟩ := h
  exact ⟨A, n, c, vs, e, hc, h1 _ _ _ _ hr, hl, fun i x a b hx => ⟨(hb i x a b hx).1, (hb i x a b hx).2.1, (hb i x a b hx).2.2.tow h1 (fun _ _ h => h)⟩⟩
 | r + 1, v, l, h => by
  obtain ⟨A, n, c, vs, e, hc, hr, hl, hb⟩ := h
  exact ⟨A, n, c, vs, e, hc, h1 _ _ _ _ hr, hl, fun i x a b hx => ⟨(hb i x a b hx).1, (hb i x a b hx).2.1, (hb i x a b hx).2.2.tow h1 (fun _ _ h => Ms.tow h1 r h)⟩⟩
theorem Ms.keep {r : Nat} {v : Value} {l : List D.Nd} (h : Ms F w r v l) (k : Keeps F w w') : Ms F w' r v l := Ms.tow (fun _ _ _ _ h => h.keep k) r h
theorem Ms.weaken {r : Nat} {v : Value} {l : List D.Nd} (h : Ms F w r v l) (k : ∀ b, b < w.heap.size -> F b -> F' b) : Ms F' w r v l := Ms.tow (fun _ _ _ _ h => h.weaken k) r h
theorem Kd.tow (h1 : ∀ sz A n xs, RF sz F w A n xs -> RF sz F' w' A n xs) (r : Nat) {v : Value} {l : List D.Nd} (h : Kd F w r v l) : Kd F' w' r v l := by
 cases r with
 | zero => exact h
 | succ r => exact Ms.tow h1 r h
theorem Bel.keep {r : Nat} {x : D.Nd} {a b : Value} (h : Bel (Kd F w r) F w x a b) (k : Keeps F w w') : Bel (Kd F w' r) F w' x a b := h.tow (fun _ _ _ _ h => h.keep k) (fun _ _ h => Kd.tow (fun _ _ _ _ h => h.keep k) r h)
theorem Bel.weaken {r : Nat} {x : D.Nd} {a b : Value} (h : Bel (Kd F w r) F w x a b) (k : ∀ b, b < w.heap.size -> F b -> F' b) : Bel (Kd F' w r) F' w x a b := h.tow (fun _ _ _ _ h => h.weaken k) (fun _ _ h => Kd.tow (fun _ _ _ _ h => h.weaken k) r h)
end
theorem Ms.nil (F : Nat -> Prop) (w : World) (r : Nat) (A : Option Addr) (c : Nat) : Ms F w r (.slice A 0 c) [] := (Ms_eq F w r _ _).2 ⟨A, 0, c, [], rfl, Nat.zero_le _, RF.nil _ _ _ _, rfl, fun i x a b h => by simp at h⟩
theorem bel_leaf {r : Nat} {F : Nat -> Prop} {w : World} {k : Nat} {t n : List Nat} (ht : ∀ c ∈ t, c < 256) (hn : ∀ c ∈ n, c < 256) : Bel (Kd F w r) F w (.mk k t n [] []) (.slice none 0 0) (.slice none 0 0) :=
 ⟨⟨ht, hn, fun w h => by cases h⟩, ⟨none, 0, 0, rfl, Nat.le_refl _, RF.nil _ _ _ _⟩, none, 0, 0, [], rfl, Nat.le_refl _, RF.nil _ _ _ _, rfl, (fun u h => by cases h), fun j u q h => by simp at h⟩
def Fo (base : Nat) (g : Option Nat) (b : Nat) : Prop := base <= b ∧ g ≠ some b
structure Ac (T : TypeId) (r base : Nat) (w : World) (A : Option Addr) (n c : Nat) (l : List D.Nd) : Prop where
 out : ∃ vs : List (D.Nd × Value × Value), Ow T 5 base w A n c (pcl vs) ∧ vs.map (·.1) = l ∧ ∀ (i : Nat) (x : D.Nd) (a b : Value), vs[i]? = some (x, a, b) -> a.oneCell' = true ∧ b.oneCell' = true ∧ Bel (Kd (Fo base (Value.slice A n c).ownBlock) w r) (Fo base (Value.slice A n c).ownBlock) w x a b
section
variable {T : TypeId} {r base n c : Nat} {w w' : World} {A : Option Addr} {l : List D.Nd}
theorem Ac.nil (T : TypeId) (r : Nat) (h : base <= w.heap.size) : Ac T r base w none 0 0 [] := ⟨[], Ow.nil T 5 h, rfl, fun i x a b h => by simp at h⟩
theorem Ac.len (h : Ac T r base w A n c l) : l.length = n := by
 obtain ⟨vs, ho, hl, _⟩ := h.out
 have := ho.len
 rw [cls_len] at this
 rw [<- hl, List.length_map]; omega
theorem Ac.on (h : Ac T r base w A n c l) (hb : Below w.heap.size w w') : Ac T r base w' A n c l := by
 obtain ⟨vs, ho, hl, hx⟩ := h.out
 exact ⟨vs, ho.on hb, hl, fun i x a b hi => ⟨(hx i x a b hi).1, (hx i x a b hi).2.1, (hx i x a b hi).2.2.keep (keeps_below hb)⟩⟩
theorem Ac.done (h : Ac T r base w A n c l) : Ms (fun b => base <= b) w r (.slice A n c) l := by
 obtain ⟨vs, ho, hl, hx⟩ := h.out
 refine (Ms_eq _ w r _ _).2 ⟨A, n, c, vs, rfl, ho.cap.1, ho.rf fun g hg => ?_, hl, fun i x a b hi => ⟨(hx i x a b hi).1, (hx i x a b hi).2.1, (hx i x a b hi).2.2.weaken fun b _ hb => hb.1⟩⟩
 exact ho.block_le _ hg
theorem cls_one : ∀ (vs : List (D.Nd × Value × Value)), (∀ (i : Nat) (x : D.Nd) (a b : Value), vs[i]? = some (x, a, b) -> a.oneCell' = true ∧ b.oneCell' = true) -> ∀ u ∈ pcl vs, u.oneCell' = true
 | [], _, u, h => by cases h
 | (x, a, b) :: r, hv, u, h => by
  have h0 := hv 0 x a b rfl
  simp only [pcl, List.mem_cons] at h
  rcases h with rfl | rfl | rfl | rfl | rfl | h
  ·rfl
  ·rfl
  ·rfl
  ·exact h0.1
  ·exact h0.2
  ·exact cls_one r (fun i x a b hi => hv (i + 1) x a b (by simpa using hi)) u h
theorem Ac.snoc {A' : Option Addr} {c' : Nat} {x : D.Nd} {a b : Value} {vs : List (D.Nd × Value × Value)} (hl : vs.map (·.1) = l)
  (hv : ∀ (i : Nat) (x : D.Nd) (a b : Value), vs[i]? = some (x, a, b) -> a.oneCell' = true ∧ b.oneCell' = true ∧ Bel (Kd (Fo base (Value.slice A n c).ownBlock) w r) (Fo base (Value.slice A n c).ownBlock) w x a b)
  (ha : a.oneCell' = true) (hb : b.oneCell' = true)
  (hx : Bel (Kd (Fo base (Value.slice A n c).ownBlock) w r) (Fo base (Value.slice A n c).ownBlock) w x a b)
  (hg : w.grownBy w' (Value.slice A n c).ownBlock) (hor : (Value.slice A' (n + 1) c').ownBlock = (Value.slice A n c).ownBlock ∨ (Value.slice A' (n + 1) c').ownBlock = some w.heap.size)
  (hon : Ow T 5 base w' A' (n + 1) c' (pcl vs ++ pcl [(x, a, b)])) : Ac T r base w' A' (n + 1) c' (l ++ [x]) := by
 rw [<- cls_app] at hon
 have move : ∀ {x a b}, Bel (Kd (Fo base (Value.slice A n c).ownBlock) w r) (Fo base (Value.slice A n c).ownBlock) w x a b -> Bel (Kd (Fo base (Value.slice A' (n + 1) c').ownBlock) w' r) (Fo base (Value.slice A' (n + 1) c').ownBlock) w' x a b := by
  intro x a b hB
  have h1 := hB.weaken (F' := fun q => base <= q ∧ (Value.slice A n c).ownBlock ≠ some q ∧ (Value.slice A' (n + 1) c').ownBlock ≠ some q) fun q hq hF => ⟨hF.1, hF.2, by
   rcases hor with e | e
   ·rw [e]; exact hF.2
   ·rw [e]; intro h; injection h with h; omega⟩
  have h2 := h1.keep (keeps_grown hg fun q hq => hq.2.1)
  exact h2.weaken fun q _ hF => ⟨hF.1, hF.2.2⟩
 refine ⟨vs ++ [(x, a, b)], hon, by simp [hl], fun i y c' d hi => ?_⟩
 rw [List.getElem?_append] at hi
 split at hi
 ·exact ⟨(hv i y c' d hi).1, (hv i y c' d hi).2.1, move (hv i y c' d hi).2.2⟩
 ·have hi0 : i - vs.length = 0 := by
   have := (List.getElem?_eq_some_iff.1 hi).1
   simp at this; omega
  rw [hi0] at hi
  simp at hi
  obtain ⟨rfl, rfl, rfl⟩ := hi
  exact ⟨ha, hb, move hx⟩
end
end Go.Proofs.YtgnjjlgmlokhmaaGreatDoor
