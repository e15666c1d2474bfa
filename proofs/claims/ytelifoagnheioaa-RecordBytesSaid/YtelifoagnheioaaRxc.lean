/-
  The closures that write a record's fields.
-/
import Derived.Test.YtelifoagnheioaaRck
import Derived.Test.YtelifoagnheioaaRefW
set_option linter.unusedVariables false
set_option linter.unusedSimpArgs false
set_option maxRecDepth 100000
namespace Go.Proofs.Ytelifoagnheioaa
open Go.RowKit
attribute [local go_sem ↓] Go.wp_at_zero Go.wp_at_succ

/-- What was there below the base stays, and so does any block that is no writer's and no bytes. -/
structure Wk (base : Nat) (w w' : World) : Prop where
  below : Below base w w'
  keep : ∀ (g : Nat) (t : TypeId) (cs : Array Value), Blk w g t cs → t ≠ 92 → t ≠ 5 → Blk w' g t cs
theorem Wk.trans {base : Nat} {a b c : World} (h : Wk base a b) (k : Wk base b c) : Wk base a c := ⟨h.below.trans k.below, fun g t cs hb h1 h2 => k.keep g t cs (h.keep g t cs hb h1 h2) h1 h2⟩
theorem Wk.bel {base : Nat} {a b : World} (h : Below a.heap.size a b) (hb : base ≤ a.heap.size) : Wk base a b := ⟨h.mono hb, fun g t cs k _ _ => k.on h⟩
theorem wk_of {base p n c room : Nat} {A : Option Addr} {s : D.St} {w w' : World} (h : Wr base w p A n c s room) (k : Only (Wf p A) w w') : Wk base w w' := by
  refine ⟨k.below h.own.base h.at_le, fun g t cs hb h1 h2 => hb.only k ?_⟩
  rintro (e | e)
  · subst e
    exact h.blk.ne_ hb (fun e => h1 e.symm) rfl
  · exact h.own.ne hb h2 (at_own e)
/-- What a closure that writes leaves. -/
def Writ (base q room : Nat) (s' : D.St) (w : World) (en : Ending) (w' : World) : Prop := en = .returned (.tuple #[]) ∧ (∃ (A' : Option Addr) (n' c' : Nat), Wr base w' q A' n' c' s' room) ∧ Wk base w w'
theorem writ_of {base q room n c : Nat} {A : Option Addr} {s s' : D.St} {w w1 w2 : World} {e : Ending} (h : Wr base w q A n c s room) (b1 : Below w.heap.size w w1) (k : Wrote base q room A s' w1 e w2) : Writ base q room s' w (.returned (.tuple #[])) w2 := by
  obtain ⟨_, A', n', c', h1, h2, h3⟩ := k
  exact ⟨rfl, ⟨A', n', c', h1⟩, (Wk.bel b1 h.own.base).trans (wk_of (h.on b1) h2)⟩
theorem lit_byte (w : World) (x H : Nat) (z : Int) (hz : z = x) (hH : w.heap.size = H) : Row (w.alloc (.cells #[.int .u8 z] 5)) (some ⟨H, 0, none⟩) 1 (bys [x]) := by
  subst hz hH
  exact ⟨rfl, fun _ => ⟨_, rfl, by simp, World.news_of_block (heap_alloc_new w _)⟩⟩
theorem lit_byte' (w : World) (x H : Nat) (hH : w.heap.size = H) : Row (w.alloc (.cells #[.int .u8 (x : Nat)] 5)).drew (some ⟨H, 0, none⟩) 1 (bys [x]) := by
  subst hH
  exact ⟨rfl, fun _ => ⟨_, rfl, by simp, World.news_of_block (heap_alloc_new w _)⟩⟩
section
variable (base q room n c : Nat) (A : Option Addr) (s : D.St) (w : World)
set_option maxHeartbeats 1000000 in
theorem writ_small (wb p i v : Nat) (lo hi : Int) (hb : Blk w wb 66 #[.pointer (some ⟨q, 0, none⟩)]) (x : D.Rc) (hp : RB w p x) (hx : (rS.v x)[i]? = some (.int .u8 (v : Nat))) (hv : v < 256) (h : Wr base w q A n c s room) (hn : n ≤ 500000) (hroom : room ≤ 9223372036854775807) :
    Calls Try.prog 39 #[.pointer (some ⟨p, i, none⟩), .int .u8 lo, .int .u8 hi, .pointer (some ⟨wb, 0, none⟩)] w (Writ base q room (D.wput room s [v] 0) w) := by
  have c1 := hb.cell
  have hc := (Blk.c hp i).trans hx
  have HW := Lib.hid h
  have HP := Lib.hid hp
  have HB := Lib.hid hb
  have HX := Lib.hid hx
  have CB := Lib.hid (fun W B (k : Wr base W q A n c s room) (r : Row W B 1 (bys [v])) => w_byte base q room n c A s W v 1 B hv k r hn hroom)
  have hS : w.cell? ⟨wb, 0, none⟩ = some (.pointer (some ⟨q, 0, none⟩)) ∧ w.cell? ⟨p, i, none⟩ = some (.int .u8 (v : Nat)) := ⟨c1, hc⟩
  clear h hp hb hx
  go_enter Try.func39, Try.ntmps39
  go_wp2_with fail
  refine wp_region_noPanic ?_
  refine wp_region_held_drew (S := fun W => W.cell? ⟨wb, 0, none⟩ = some (.pointer (some ⟨q, 0, none⟩)) ∧ W.cell? ⟨p, i, none⟩ = some (.int .u8 (v : Nat))) (by kernel_rfl) hS (fun _ => ?_)
  refine takeS 0 (some 7) ?va0 (by kernel_rfl) (by kernel_rfl) (by kernel_rfl) (by kernel_rfl) (fun _ _ _ h => h) (by rfl) ?hya0 hS ?resta0
  case hya0 => (intro o ho W hW; simp only [List.getElem?_toArray, List.getElem?_cons_succ, List.getElem?_cons_zero, Option.some.injEq] at ho; subst ho; obtain ⟨hW1, hW2⟩ := hW; go_simp; try rfl)
  try simp only [Act.put, List.setIfInBounds_toArray, List.set_cons_zero, List.set_cons_succ]
  refine takeS 1 (some 8) ?va1 (by kernel_rfl) (by kernel_rfl) (by kernel_rfl) (by kernel_rfl) (fun _ _ _ h => h) (by rfl) ?hya1 hS ?resta1
  case hya1 => (intro o ho W hW; simp only [List.getElem?_toArray, List.getElem?_cons_succ, List.getElem?_cons_zero, Option.some.injEq] at ho; subst ho; obtain ⟨hW1, hW2⟩ := hW; go_simp; try rfl)
  try simp only [Act.put, List.setIfInBounds_toArray, List.set_cons_zero, List.set_cons_succ]
  refine takeS 2 (some 9) ?va2 (by kernel_rfl) (by kernel_rfl) (by kernel_rfl) (by kernel_rfl) (fun _ _ _ h => h) (by rfl) ?hya2 hS ?resta2
  case hya2 => (intro o ho W hW; simp only [List.getElem?_toArray, List.getElem?_cons_succ, List.getElem?_cons_zero, Option.some.injEq] at ho; subst ho; obtain ⟨hW1, hW2⟩ := hW; go_simp; try rfl)
  try simp only [Act.put, List.setIfInBounds_toArray, List.set_cons_zero, List.set_cons_succ]
  refine takeS 3 (some 10) ?va3 (by kernel_rfl) (by kernel_rfl) (by kernel_rfl) (by kernel_rfl) (fun _ _ _ h => h) (by rfl) ?hya3 hS ?resta3
  case hya3 => (intro o ho W hW; simp only [List.getElem?_toArray, List.getElem?_cons_succ, List.getElem?_cons_zero, Option.some.injEq] at ho; subst ho; obtain ⟨hW1, hW2⟩ := hW; go_simp; try rfl)
  try simp only [Act.put, List.setIfInBounds_toArray, List.set_cons_zero, List.set_cons_succ]
  refine nextS 4 (by kernel_rfl) (by rfl) (fun o ho K hK => ?_)
  simp only [List.getElem?_toArray, List.getElem?_cons_succ, List.getElem?_cons_zero, Option.some.injEq] at ho; subst ho
  go_simp
  have hS2 : (w.drew.alloc (.cells #[.int .u8 (v : Nat)] 5)).cell? ⟨wb, 0, none⟩ = some (.pointer (some ⟨q, 0, none⟩)) ∧ (w.drew.alloc (.cells #[.int .u8 (v : Nat)] 5)).cell? ⟨p, i, none⟩ = some (.int .u8 (v : Nat)) := ⟨(World.cell?_alloc_lt w.drew _ _ (World.block_lt_of_cell? w.drew _ c1)).trans c1, (World.cell?_alloc_lt w.drew _ _ (World.block_lt_of_cell? w.drew _ hc)).trans hc⟩
  refine hK.out _ _ hS2 (fun _ => ?_)
  clear hK K
  try simp only [Act.put, List.setIfInBounds_toArray, List.set_cons_zero, List.set_cons_succ]
  refine nextS 5 (by kernel_rfl) (by rfl) (fun o ho K hK => ?_)
  simp only [List.getElem?_toArray, List.getElem?_cons_succ, List.getElem?_cons_zero, Option.some.injEq] at ho; subst ho
  go_simp
  (go_at_call 26; (with_reducible refine (CB.out _ _ ((HW.out.on (below_alloc w (.cells #[.int .u8 (v : Nat)] 5))).on (below_dr _)) (lit_byte' w v _ rfl)).mono ?_); rintro e w2 HT; have HE := HT.1; subst HE)
  have HF := Lib.hid (writ_of HW.out ((below_alloc w (.cells #[.int .u8 (v : Nat)] 5)).trans ((below_dr _).mono (by simp))) HT)
  have hS3 : w2.cell? ⟨wb, 0, none⟩ = some (.pointer (some ⟨q, 0, none⟩)) ∧ w2.cell? ⟨p, i, none⟩ = some (.int .u8 (v : Nat)) := ⟨(HF.out.2.2.keep _ _ _ HB.out (by decide) (by decide)).cell, (Blk.c (HF.out.2.2.keep _ _ _ HP.out (by decide) (by decide)) i).trans HX.out⟩
  refine hK.out _ _ hS3 (fun _ => ?_)
  clear hK K
  try simp only [Act.put, List.setIfInBounds_toArray, List.set_cons_zero, List.set_cons_succ]
  refine wpAnyH_done (by kernel_rfl) ?_ _
  refine NoPanic.normal ?_
  go_wp2
  go_end0
  exact HF.out
set_option maxHeartbeats 1000000 in
theorem writ_gone (wb p : Nat) (b : Bool) (hb : Blk w wb 66 #[.pointer (some ⟨q, 0, none⟩)]) (hc : w.cell? ⟨p, 5, none⟩ = some (.bool b)) (h : Wr base w q A n c s room) (hn : n ≤ 500000) (hroom : room ≤ 9223372036854775807) :
    Calls Try.prog 40 #[.pointer (some ⟨p, 5, none⟩), .pointer (some ⟨wb, 0, none⟩)] w (Writ base q room (D.wput room s [if b then 1 else 0] 0) w) := by
  have c1 := hb.cell
  have HW := Lib.hid h
  cases b
  · have CB : Hid (∀ W B, Wr base W q A n c s room → Row W B 1 (bys [0]) → Calls Try.prog 26 #[.pointer (some ⟨q, 0, none⟩), .slice B 1 1] W (Wrote base q room A (D.wput room s [0] 0) W)) := Lib.hid (fun W B k r => w_byte base q room n c A s W 0 1 B (by decide) k r hn hroom)
    have R0 := Lib.hid (lit_byte w 0 _ 0 rfl rfl)
    clear h
    go_enter Try.func40, Try.ntmps40
    go_wp2_with (go_at_call 26; (with_reducible refine (CB.out _ _ (HW.out.on (below_alloc w _)) R0.out).mono ?_); rintro e w2 HT; have HE := HT.1; subst HE; have HF := Lib.hid (writ_of HW.out (below_alloc w _) HT))
    go_end0
    exact HF.out
  · have CB : Hid (∀ W B, Wr base W q A n c s room → Row W B 1 (bys [1]) → Calls Try.prog 26 #[.pointer (some ⟨q, 0, none⟩), .slice B 1 1] W (Wrote base q room A (D.wput room s [1] 0) W)) := Lib.hid (fun W B k r => w_byte base q room n c A s W 1 1 B (by decide) k r hn hroom)
    have R1 := Lib.hid (lit_byte w 1 _ 1 rfl rfl)
    clear h
    go_enter Try.func40, Try.ntmps40
    go_wp2_with (go_at_call 26; (with_reducible refine (CB.out _ _ (HW.out.on (below_alloc w _)) R1.out).mono ?_); rintro e w2 HT; have HE := HT.1; subst HE; have HF := Lib.hid (writ_of HW.out (below_alloc w _) HT))
    go_end0
    exact HF.out
set_option maxHeartbeats 1000000 in
theorem writ_rev (wb p v : Nat) (hb : Blk w wb 66 #[.pointer (some ⟨q, 0, none⟩)]) (hc : w.cell? ⟨p, 6, none⟩ = some (.int .u32 (v : Nat))) (hv : v < 4294967296) (h : Wr base w q A n c s room) (hn : n ≤ 500000) (hroom : room ≤ 9223372036854775807) :
    Calls Try.prog 41 #[.pointer (some ⟨p, 6, none⟩), .pointer (some ⟨wb, 0, none⟩)] w (Writ base q room (D.wput room s (D.sm v) 0) w) := by
  have c1 := hb.cell
  have HW := Lib.hid h
  have CB := Lib.hid (fun W (k : Wr base W q A n c s room) => w_number base q room n c A s W v (by omega) k hn hroom)
  clear h
  go_enter Try.func41, Try.ntmps41
  go_wp2_with fail
  go_still_tail 5, (by kernel_rfl)
  change wpList _ _ _ _ _ w.drew
  go_wp2_with (go_at_call 42; (with_reducible refine (CB.out _ (HW.out.on (below_dr w))).mono ?_); rintro e w2 HT; have HE := HT.1; subst HE; have HF := Lib.hid (writ_of HW.out (below_dr w) HT))
  go_end0
  exact HF.out
set_option maxHeartbeats 1000000 in
theorem writ_time (wb p v : Nat) (hb : Blk w wb 66 #[.pointer (some ⟨q, 0, none⟩)]) (hc : w.cell? ⟨p, 7, none⟩ = some (.int .u64 (v : Nat))) (hv : v < 18446744073709551616) (h : Wr base w q A n c s room) (hn : n ≤ 500000) (hroom : room ≤ 9223372036854775807) :
    Calls Try.prog 43 #[.pointer (some ⟨p, 7, none⟩), .pointer (some ⟨wb, 0, none⟩)] w (Writ base q room (D.wput room s (D.sm v) 0) w) := by
  have c1 := hb.cell
  have HW := Lib.hid h
  have CB := Lib.hid (fun W (k : Wr base W q A n c s room) => w_number base q room n c A s W v hv k hn hroom)
  clear h hv
  go_enter Try.func43, Try.ntmps43
  go_wp2_with fail
  go_still_tail 4, (by kernel_rfl)
  change wpList _ _ _ _ _ w.drew
  go_wp2_with (go_at_call 42; (with_reducible refine (CB.out _ (HW.out.on (below_dr w))).mono ?_); rintro e w2 HT; have HE := HT.1; subst HE; have HF := Lib.hid (writ_of HW.out (below_dr w) HT))
  go_end0
  exact HF.out
set_option maxHeartbeats 1000000 in
theorem writ_text (wb p : Nat) (t : ByteArray) (hb : Blk w wb 66 #[.pointer (some ⟨q, 0, none⟩)]) (hc : w.cell? ⟨p, 8, none⟩ = some (.string t)) (ht : t.size ≤ 500) (h : Wr base w q A n c s room) (hn : n ≤ 500000) (hroom : room ≤ 9223372036854775807) :
    Calls Try.prog 44 #[.pointer (some ⟨p, 8, none⟩), .pointer (some ⟨wb, 0, none⟩)] w (Writ base q room (D.wput room s (D.rtxt_ t) 0) w) := by
  have c1 := hb.cell
  have HW := Lib.hid h
  have CB := Lib.hid (fun W (k : Wr base W q A n c s room) => w_text base q room n c A s W t ht k hn hroom)
  clear h
  go_enter Try.func44, Try.ntmps44
  go_wp2_with fail
  go_still_tail 4, (by kernel_rfl)
  change wpList _ _ _ _ _ w.drew
  go_wp2_with (go_at_call 45; (with_reducible refine (CB.out _ (HW.out.on (below_dr w))).mono ?_); rintro e w2 HT; have HE := HT.1; subst HE; have HF := Lib.hid (writ_of HW.out (below_dr w) HT))
  go_end0
  exact HF.out
end
end Go.Proofs.Ytelifoagnheioaa
