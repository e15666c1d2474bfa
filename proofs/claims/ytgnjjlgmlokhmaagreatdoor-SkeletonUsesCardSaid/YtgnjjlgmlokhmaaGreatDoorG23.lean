/-
  
-/
import Derived.Test.YtgnjjlgmlokhmaaGreatDoorG22
import Derived.Lib.Builder
import Derived.Shelf.Strings.Builder1
set_option linter.unusedVariables false
set_option linter.unusedSimpArgs false
set_option maxRecDepth 100000
namespace Go.Proofs.YtgnjjlgmlokhmaaGreatDoor
open Go.RowKit
attribute [local go_sem ↓] Go.wp_at_zero Go.wp_at_succ

structure Nu (b : Nat) (w w' : World) : Prop where
 os : w'.os = w.os
 tape : w'.tape = w.tape
 output : w'.output = w.output
 size : w.heap.size <= w'.heap.size
 low : ∀ i, i < b -> i < w.heap.size -> w'.heap[i]? = w.heap[i]?
 keep : ∀ (g : Nat) (T : TypeId) (cs : Array Value), g ≠ b -> T ≠ 5 -> Blk w g T cs -> Blk w' g T cs
theorem Nu.refl (b : Nat) (w : World) : Nu b w w := ⟨rfl, rfl, rfl, Nat.le_refl _, fun _ _ _ => rfl, fun _ _ _ _ _ h => h⟩
theorem Nu.trans {b : Nat} {w w1 w2 : World} (h : Nu b w w1) (k : Nu b w1 w2) : Nu b w w2 :=
 ⟨k.os.trans h.os, k.tape.trans h.tape, k.output.trans h.output, Nat.le_trans h.size k.size, fun i hi hl => (k.low i hi (Nat.lt_of_lt_of_le hl h.size)).trans (h.low i hi hl), fun g T cs hg hT hb => k.keep g T cs hg hT (h.keep g T cs hg hT hb)⟩
theorem Nu.of_below {b : Nat} {w w' : World} (h : Below w.heap.size w w') : Nu b w w' := ⟨h.os, h.tape, h.output, h.size, fun i _ hl => h.block i hl, fun g T cs _ _ hb => hb.on h⟩
theorem Nu.below {b : Nat} {w w' : World} (h : Nu b w w') (hb : b <= w.heap.size) : Below b w w' := ⟨h.os, h.tape, h.output, h.size, fun i hi => h.low i hi (Nat.lt_of_lt_of_le hi hb)⟩
theorem Nu.keeps {b : Nat} {w w' : World} (h : Nu b w w') : Keeps (fun i => i < b) w w' := ⟨h.size, fun i hi hl => h.low i hi hl⟩
structure Bt (T : TypeId) (n : Nat) : Prop where
 lies : liesAt Tryz.prog Tryz.prog.depth T (n / Tryz.prog.cellsOf T) 0 92 1 = true
 ne : T ≠ 5
theorem bt_self : Bt 92 2 := ⟨by kernel_rfl, by decide⟩
theorem bt_rend : Bt 94 13 := ⟨by kernel_rfl, by decide⟩
structure Bd (T : TypeId) (rest : List Value) (b : Nat) (w : World) (l : List Nat) : Prop where
 out : ∃ (p : Value) (A : Option Addr) (n c : Nat), (p = .pointer none ∨ p = .pointer (some ⟨b, 0, none⟩)) ∧ Blk w b T (p :: .slice A n c :: rest).toArray ∧ Ow 5 1 (b + 1) w A n c (bys l) ∧ (l = [] -> A = none ∧ n = 0 ∧ c = 0)
theorem Bd.lt {T : TypeId} {rest : List Value} {b : Nat} {w : World} {l : List Nat} (h : Bd T rest b w l) : b < w.heap.size := by
 obtain ⟨p, A, n, c, _, hb, _, _⟩ := h.out
 exact hb.lt
theorem Bd.on {T : TypeId} {rest : List Value} {b : Nat} {w w' : World} {l : List Nat} (h : Bd T rest b w l) (k : Below w.heap.size w w') : Bd T rest b w' l := by
 obtain ⟨p, A, n, c, hp, hb, ho, hz⟩ := h.out
 exact ⟨p, A, n, c, hp, hb.on k, ho.on k, hz⟩
theorem bd_new (w : World) (g : Nat) (hg : g = w.heap.size) : Bd 92 [] g (w.alloc (.cells #[.pointer none, .slice none 0 0] 92)) [] :=
 ⟨_, none, 0, 0, .inl rfl, blk_new_ hg, Ow.nil _ _ (by subst hg; simp), fun _ => ⟨rfl, rfl, rfl⟩⟩
theorem Ow.not_blk {T T' : TypeId} {sz base n c : Nat} {w : World} {A : Option Addr} {xs : List Value} {g : Nat} {cs : Array Value} (h : Ow T sz base w A n c xs) (hb : Blk w g T' cs) (hne : T' ≠ T) : (Value.slice A n c).ownBlock ≠ some g := by
 intro e
 rcases h.row.2 with ⟨e1, _⟩ | ⟨q, cap, cur, e1, _, hh, _⟩
 ·rw [e1] at e; simp [Value.ownBlock] at e
 ·rw [e1] at e
  have : q = g := by simpa [Value.ownBlock] using e
  subst this
  rw [hb.out] at hh
  injection hh with hh
  injection hh with _ ht
  exact hne ht
theorem blk_shape {w : World} {g : Nat} {t : TypeId} {cs : Array Value} (h : Blk w g t cs) : w.shape? g = some (t, cs.size) := by
 have := h.out
 simp [World.shape?, this]
theorem bld_info : (Tryz.prog.info? 92).map (·.size) = some 2 := by kernel_rfl
set_option maxHeartbeats 1000000 in
theorem copyCheck_any {T : TypeId} {rest : List Value} {b : Nat} {w : World} (hT : Bt T (rest.length + 2)) (p : Value) (A : Option Addr) (n c : Nat) (hp : p = .pointer none ∨ p = .pointer (some ⟨b, 0, none⟩)) (hb : Blk w b T (p :: .slice A n c :: rest).toArray) :
  Calls Tryz.prog 82 #[vr b] w fun x w' => x = .returned (.tuple #[]) ∧ Blk w' b T (.pointer (some ⟨b, 0, none⟩) :: .slice A n c :: rest).toArray ∧ Fr (· = b) w w' := by
 obtain ⟨j, hj, hjs⟩ := Option.map_eq_some_iff.1 bld_info
 have h0 : w.cell? ⟨b, 0, none⟩ = some p := by rw [hb.c_ 0]; simp
 have hfz := hb.f_ 0
 have hlt := hb.lt
 have hsh : w.shape? (⟨b, 0, none⟩ : Addr).block = some (T, rest.length + 2) := by rw [blk_shape hb]; simp
 have HB := Lib.hid hb
 rcases hp with rfl | rfl
 ·have hput := hb.put_ 0 (.pointer (some ⟨b, 0, none⟩))
  simp at hput
  have HP := Lib.hid hput
  clear hput hb
  go_enter Tryz.func82, Tryz.ntmps82
  go_wp2
  rw [Lib.run_to_unsafe w ⟨b, 0, none⟩ Tryz.underlying89 Tryz.underlying165 hj (by rw [hjs]; decide) hsh (by show 0 < rest.length + 2; omega)]
  simp only [Result.andThen]
  rw [Oper.upon_value]
  go_wp2
  rw [run_callFunc_extern Tryz.func108 (by kernel_rfl) (by kernel_rfl) (by kernel_rfl) (e := Extern.AbiNoEscape.same) (by kernel_rfl)]
  rw [Lib.run_noEscape]
  simp only [Result.andThen]
  rw [Oper.upon_value]
  go_wp2
  rw [Lib.run_from_unsafe w ⟨b, 0, none⟩ Tryz.underlying165 Tryz.underlying89 hj hsh hT.lies]
  simp only [Result.andThen]
  rw [Oper.upon_value]
  go_wp2
  go_end0
  exact ⟨rfl, HP.out, (Fr.refl _ _).setCell _ _ fun _ => rfl⟩
 ·clear hb
  go_enter Tryz.func82, Tryz.ntmps82
  go_wp2
  rw [Lib.run_neq_ptr_same w _ Tryz.underlying89 hj]
  go_wp2
  go_end0
  exact ⟨rfl, HB.out, Fr.refl _ _⟩
theorem strCells_bys (s : ByteArray) : Lib.strCells s = bys (D.ns s) := by simp [Lib.strCells, bys, D.ns]
theorem u8_infob : (Tryz.prog.info? 5).map (fun i => (i.zero, i.size, i.bytes)) = some (some (.int .u8 0), 1, 1) := by kernel_rfl
theorem u8_cells : Tryz.prog.cellsOf 5 = 1 := by kernel_rfl
theorem nu_write {b n c : Nat} {w w' : World} {A : Option Addr} {xs : List Value} (ho : Ow 5 1 (b + 1) w A n c xs) (hg : w.grownBy w' (Value.slice A n c).ownBlock) : Nu b w w' :=
 ⟨hg.os, hg.tape, hg.output, hg.size, fun i hi hl => hg.block i hl fun e => by have := (ho.lt i e.symm).1; omega, fun g T cs _ hT hb => ⟨(hg.block g hb.lt fun e => ho.not_blk hb hT e.symm).trans hb.out⟩⟩
theorem Nu.fr {b : Nat} {w w' : World} (h : Fr (· = b) w w') : Nu b w w' := ⟨h.os, h.tape, h.output, h.size, fun i hi hl => h.same i hl (by omega), fun g T cs hg _ hb => h.blk hb hg⟩
set_option maxHeartbeats 2000000 in
theorem writeS_any {T : TypeId} {rest : List Value} {b : Nat} {w : World} {l : List Nat} (hT : Bt T (rest.length + 2)) (s : ByteArray) (h : Bd T rest b w l) (h0 : D.ns s ≠ []) (hsz : l.length + s.size <= 1000000) :
  Calls Tryz.prog 56 #[vr b, .string s] w fun x w' => x = .returned (.tuple #[.int .i64 (s.size : Nat), .nilIface]) ∧ Bd T rest b w' (l ++ D.ns s) ∧ Nu b w w' := by
 obtain ⟨p, A, n, c, hp, hb, ho, hz⟩ := h.out
 have hln := ho.len
 rw [bys_len, Nat.mul_one] at hln
 have cC := Lib.hid (copyCheck_any hT p A n c hp hb)
 have HO := Lib.hid ho
 obtain ⟨i0, hi, hz0, hz1, hz2⟩ := info_parts u8_infob
 have HT := Lib.hid hT
 have H0 := Lib.hid h0
 have hn : D.ns s = D.ns s := rfl
 clear hp hb ho hz h h0 hn
 go_enter Tryz.func56, Tryz.ntmps56
 go_wp2_with (first
  | (go_at_call 82; (with_reducible refine cC.out.mono ?_); rintro e w1 ⟨rfl, hb1, f1⟩
     have ho1 := HO.out.fr f1 (fun i h1 h2 e => by have e' : i = b := e; omega)
     have HB1 := Lib.hid hb1
     have HO1 := Lib.hid ho1
     have F1 := Lib.hid f1
     have c1 : w1.cell? ⟨b, 1, none⟩ = some (.slice A n c) := by rw [hb1.c_ 1]; simp
     have c2 := hb1.lt
     clear f1 ho1 hb1)
  | (at_builtin; refine Lib.wpList_append_own_string _ rfl _ _ 90 9 rfl (b + 1) 5 i0 Tryz.underlying90 Tryz.underlying9 hi hz0 hz1 hz2 _ _ _ rfl HO1.out.row s rfl ?c3 ?c4 ?c5 ?_))
 case c3 => simp only [maxLen]; omega
 case c4 => omega
 case c5 => exact HO1.out.base
 intro v' w2 hown' hgrow _
 have hlt := HB1.out.lt
 have hb2 : Blk w2 b T (.pointer (some ⟨b, 0, none⟩) :: .slice A n c :: rest).toArray := ⟨(hgrow.block b hlt (fun e => by have := (HO1.out.lt b e.symm).1; omega)).trans HB1.out.out⟩
 have d1 : w2.cell? ⟨b, 1, none⟩ = some (.slice A n c) := by rw [hb2.c_ 1]; simp
 have f1 := hb2.f_ 1
 have d2 := hb2.lt
 obtain ⟨A', c', rfl⟩ : ∃ A' c', v' = .slice A' (n + s.size) c' := by
  rcases hown'.2 with ⟨hv, hz⟩ | ⟨g, cap, cur, hv, _⟩
  ·exact ⟨none, 0, by rw [hv, hz]⟩
  ·exact ⟨_, _, hv⟩
 have hput := hb2.put_ 1 (.slice A' (n + s.size) c')
 simp at hput
 have HP := Lib.hid hput
 have ho2 : Ow 5 1 (b + 1) w2 A' (n + s.size) c' (bys (l ++ D.ns s)) := ⟨by rw [show bys (l ++ D.ns s) = bys l ++ Lib.strCells s by rw [strCells_bys]; simp [bys]]; exact hown', Nat.le_trans HO1.out.base hgrow.size⟩
 have HO2 := Lib.hid ho2
 have HG := Lib.hid hgrow
 clear hput ho2 hgrow hown' hb2
 go_wp2
 refine bodyPost_ret (v := .tuple #[.int .i64 (s.size : Nat), .nilIface]) (by simp [results, Tryz.results56, go_sem]) rfl ?_
 have fs : Fr (· = b) w2 (w2.setCell ⟨b, 1, none⟩ (.slice A' (n + s.size) c')) := (Fr.refl _ _).setCell _ _ fun _ => rfl
 exact ⟨rfl, ⟨_, A', _, c', .inr rfl, HP.out, HO2.out.fr fs (fun i h1 h2 e => by have e' : i = b := e; omega), fun e => absurd (List.append_eq_nil_iff.1 e).2 H0.out⟩, ((Nu.fr F1.out).trans (nu_write HO1.out HG.out)).trans (Nu.fr fs)⟩
set_option maxHeartbeats 2000000 in
theorem writeB_any {T : TypeId} {rest : List Value} {b : Nat} {w : World} {l : List Nat} (hT : Bt T (rest.length + 2)) (x : Nat) (h : Bd T rest b w l) (hsz : l.length <= 999999) (z : Int) (hz : z = x) :
  Calls Tryz.prog 60 #[vr b, .int .u8 z] w fun e w' => e = .returned .nilIface ∧ Bd T rest b w' (l ++ [x]) ∧ Nu b w w' := by
 subst hz
 obtain ⟨p, A, n, c, hp, hb, ho, hz⟩ := h.out
 have hln := ho.len
 rw [bys_len, Nat.mul_one] at hln
 have cC := Lib.hid (copyCheck_any hT p A n c hp hb)
 have HO := Lib.hid ho
 have HT := Lib.hid hT
 clear hp hb ho hz h
 go_enter Tryz.func60, Tryz.ntmps60
 go_wp2_with (first
  | (go_at_call 82; (with_reducible refine cC.out.mono ?_); rintro e w1 ⟨rfl, hb1, f1⟩
     have ho1 := HO.out.fr f1 (fun i h1 h2 e => by have e' : i = b := e; omega)
     have HB1 := Lib.hid hb1
     have HO1 := Lib.hid ho1
     have F1 := Lib.hid f1
     have c1 : w1.cell? ⟨b, 1, none⟩ = some (.slice A n c) := by rw [hb1.c_ 1]; simp
     have c2 := hb1.lt
     clear f1 ho1 hb1)
  | (at_builtin; refine gapp _ Tryz.underlying90 u8_infob rfl (by decide) (by decide) rfl (.tmp 11) (.tmp 13) rfl rfl (HO1.out.alloc _) rfl (rw_one w1 _ rfl 5 (.int .u8 (x : Nat))) (fun u h => by simp at h; rw [h]; rfl) (by omega) ?_; intro A' c' w2 h5 hg5 hor5
     have hlt := HB1.out.lt
     have hb2 : Blk w2 b T (.pointer (some ⟨b, 0, none⟩) :: .slice A n c :: rest).toArray := (HB1.out.alloc _).grown hg5 (fun e => by have := (HO1.out.lt b e.symm).1; omega)
     have d1 : w2.cell? ⟨b, 1, none⟩ = some (.slice A n c) := by rw [hb2.c_ 1]; simp
     have d3 := hb2.f_ 1
     have d2 := hb2.lt
     have hput := hb2.put_ 1 (.slice A' (n + 1) c')
     simp at hput
     have HP := Lib.hid hput
     have H5 := Lib.hid h5
     have HG5 := Lib.hid hg5
     clear hput h5 hg5 hor5 hb2))
 go_ret
 have fs : Fr (· = b) w2 (w2.setCell ⟨b, 1, none⟩ (.slice A' (n + 1) c')) := (Fr.refl _ _).setCell _ _ fun _ => rfl
 refine ⟨rfl, ⟨_, A', _, c', .inr rfl, HP.out, ?_, fun e => absurd (List.append_eq_nil_iff.1 e).2 (by simp)⟩, (((Nu.fr F1.out).trans (Nu.of_below (below_alloc_ _ _))).trans (nu_write (HO1.out.alloc _) HG5.out)).trans (Nu.fr fs)⟩
 have h6 := H5.out
 rw [show bys l ++ [Value.int .u8 (x : Nat)] = bys (l ++ [x]) by simp [bys]] at h6
 exact h6.fr fs (fun i h1 h2 e => by have e' : i = b := e; omega)
theorem lenB_any {T : TypeId} {rest : List Value} {b : Nat} {w : World} {l : List Nat} (h : Bd T rest b w l) : Calls Tryz.prog 34 #[vr b] w fun e w' => e = .returned (.int .i64 (l.length : Nat)) ∧ w = w' := by
 obtain ⟨p, A, n, c, hp, hb, ho, hz⟩ := h.out
 have hln := ho.len
 rw [bys_len, Nat.mul_one] at hln
 have c1 : w.cell? ⟨b, 1, none⟩ = some (.slice A n c) := by rw [hb.c_ 1]; simp
 have c2 := hb.lt
 rw [hln]
 clear hp hb ho hz h
 go_enter Tryz.func34, Tryz.ntmps34
 go_wp2
 go_ret
 exact ⟨rfl, rfl⟩
set_option maxHeartbeats 2000000 in
theorem textB_any {T : TypeId} {rest : List Value} {b : Nat} {w : World} {l : List Nat} (h : Bd T rest b w l) (h256 : ∀ x ∈ l, x < 256) : Calls Tryz.prog 31 #[vr b] w fun e w' => e = .returned (.string (D.sb l)) ∧ Below (b + 1) w w' := by
 obtain ⟨p, A, n, c, hp, hb, ho, hz⟩ := h.out
 have hln := ho.len
 rw [bys_len, Nat.mul_one] at hln
 have c1 : w.drew.cell? ⟨b, 1, none⟩ = some (.slice A n c) := by have : w.cell? ⟨b, 1, none⟩ = some (.slice A n c) := (by rw [hb.c_ 1]; simp); exact this
 have c2 := hb.lt
 by_cases h0 : l = []
 ·obtain ⟨rfl, rfl, rfl⟩ := hz h0
  subst h0
  have hUS : ∀ W q, (Builtin.unsafeString_ #[126, 3] 9 #[.pointer q, .int .i64 0]).run Tryz.prog W = .ok (.string .empty) W := fun W q => Lib.run_unsafeString_none W _ _ _ q
  have hSD : (Builtin.unsafeSliceData_ #[90] 126 #[.slice none 0 0]).run Tryz.prog w.drew = .ok (.pointer none) w.drew := rfl
  have mixed : Tryz.prog.follows .mixedOrders = true := by kernel_rfl
  clear hp hb ho hz h h256
  go_enter Tryz.func31, Tryz.ntmps31
  go_wp2
  go_region_o
  all_goals (go_wp2; go_ret; exact ⟨rfl, Below.drew (Below.refl _ w)⟩)
 ·have hn0 : n ≠ 0 := fun e => h0 (List.eq_nil_of_length_eq_zero (by omega))
  obtain ⟨g, cap, cur, e, hbg, hg, hnc, hcm, hcs, htake⟩ : ∃ g cap cur, Value.slice A n c = .slice (some ⟨g, 0, none⟩) n cap ∧ b + 1 <= g ∧ w.heap[g]? = some (.cells cur 5 (0, 0)) ∧ n <= cap ∧ cap <= maxLen ∧ cur.size = cap * 1 ∧ cur.toList.take (n * 1) = bys l := by
   rcases ho.row.2 with ⟨_, hz⟩ | ⟨g, cap, cur, hv, r⟩
   ·exact absurd hz hn0
   ·exact ⟨g, cap, cur, hv, r⟩
  injection e with e1 _ e2
  subst e1 e2
  have hll : (l.map UInt8.ofNat).length = n := by simp [hln]
  have hSD : (Builtin.unsafeSliceData_ #[90] 126 #[.slice (some ⟨g, 0, none⟩) n c]).run Tryz.prog w.drew = .ok (.pointer (some ⟨g, 0, none⟩)) w.drew :=
   Lib.run_unsafeSliceData_row _ _ _ _ _ _ (by omega)
  have hUS : (Builtin.unsafeString_ #[126, 3] 9 #[.pointer (some ⟨g, 0, none⟩), .int .i64 (n : Nat)]).run Tryz.prog w.drew = .ok (.string ⟨(l.map UInt8.ofNat).toArray⟩) (w.drew.freeze ⟨g, 0, none⟩ n) := by
   have := Lib.run_unsafeString_row (P := Tryz.prog) w.drew 126 3 9 5 Tryz.underlying126 u8_cells g cur.size (by have hg' : w.drew.heap[g]? = some (.cells cur 5 (0, 0)) := hg; simp [World.shape?, hg']) (l.map UInt8.ofNat) (by simpa using h0) (by rw [hll]; omega) (by rw [hll]; simp only [maxLen] at hcm ⊢; omega) (by
    intro j x hx
    obtain ⟨y, hy, rfl⟩ : ∃ y, l[j]? = some y ∧ UInt8.ofNat y = x := by
     rw [List.getElem?_map] at hx
     cases hq : l[j]? with
     | none => rw [hq] at hx; cases hx
     | some y => rw [hq] at hx; injection hx with hx; exact ⟨y, rfl, hx⟩
    have hy8 := h256 y (List.mem_of_getElem? hy)
    have := ho.row.cells (g := g) rfl j (.int .u8 (y : Nat)) (by simp [bys, hy])
    have e : ((UInt8.ofNat y).toNat : Int) = (y : Int) := by simp; omega
    rw [e]
    exact this)
   rw [hll] at this
   exact this
  have hsb : (⟨(l.map UInt8.ofNat).toArray⟩ : ByteArray) = D.sb l := rfl
  rw [hsb] at hUS
  have mixed : Tryz.prog.follows .mixedOrders = true := by kernel_rfl
  clear hp hb ho hz h h256 hg htake hcs hln hll hsb
  go_enter Tryz.func31, Tryz.ntmps31
  go_wp2
  go_region_o
  all_goals (go_wp2; go_ret; exact ⟨rfl, Lib.below_freeze (Below.drew (Below.refl _ w)) (p := ⟨g, 0, none⟩) hbg _⟩)
end Go.Proofs.YtgnjjlgmlokhmaaGreatDoor
namespace Go.Proofs.YtgnjjlgmlokhmaaGreatDoor
open Go.RowKit
attribute [local go_sem ↓] Go.wp_at_zero Go.wp_at_succ Nm.ld_a Nm.ld_n Nm.st_a Nm.st_n Nm.lv_a Nm.lv_n ld_nd lv_nd st_nd bd_nd bs_nd
attribute [local go_sem] Nm.run_ld_a Nm.run_ld_n Nm.run_lv_a Nm.run_lv_n Nm.rd_new Nm.rd_old Nm.rd_drew Nm.rd_drewN Nm.st_z run_lvnd run_ldnd run_stnd_new run_bsnd run_bdnd_1 run_bdnd_5 run_bdnd_0 Shp.rd_new Shp.rd_old Shp.rd_drew Shp.rd_drewN

theorem ns_app_ (a b : ByteArray) : D.ns (a ++ b) = D.ns a ++ D.ns b := by
 have e : a ++ b = D.sb (D.ns a ++ D.ns b) := by rw [sb_app, D.sb_ns, D.sb_ns]
 rw [e, D.ns_sb]
 intro c hc
 rcases List.mem_append.1 hc with h | h
 ·exact ns_lt a c h
 ·exact ns_lt b c h
theorem size_ns (s : ByteArray) : s.size = (D.ns s).length := (D.ns_len s).symm
abbrev Bs (b : Nat) (w : World) (l : List Nat) : Prop := Bd 92 [] b w l
theorem Nu.row {b n sz : Nat} {w w' : World} {A : Option Addr} {xs : List Value} (h : RF sz (fun i => i < b) w A n xs) (k : Nu b w w') : RF sz (fun i => i < b) w' A n xs := h.keep k.keeps
theorem Nu.knd {b : Nat} {w w' : World} (h : Knd w) (k : Nu b w w') (hb : 0 < b) (hl : b <= w.heap.size) : Knd w' := by
 have hk := (k.below hl)
 exact ⟨(hk.cell (p := ⟨0, 0, none⟩) hb).trans h.c0, (hk.cell (p := ⟨0, 1, none⟩) hb).trans h.c1, (hk.cell (p := ⟨0, 2, none⟩) hb).trans h.c2, (hk.cell (p := ⟨0, 3, none⟩) hb).trans h.c3, (hk.cell (p := ⟨0, 4, none⟩) hb).trans h.c4⟩
def WrC (f : FuncId) (b : Nat) (v : Value) (w : World) (s : List Nat) : Prop := ∀ W L, Nu b w W -> Bs b W L -> L.length + s.length <= 100000 -> Calls Tryz.prog f #[vr b, v] W fun x w' => x = .returned (.tuple #[]) ∧ Bs b w' (L ++ s) ∧ Nu b W w'
set_option maxHeartbeats 4000000 in
theorem write_row (b n c : Nat) (A : Option Addr) (vs : List (D.Nd × D.Sl)) (w : World) (hr : RF 15 (fun i => i < b) w A n (nS.rcs (nvs vs))) (hn : n <= 1000) (hbl : b <= w.heap.size)
  (h8 : ∀ (j : Nat) (x : D.Nd) (p : D.Sl), vs[j]? = some (x, p) -> x.k = 0 -> x.t ≠ [] ∧ ∀ c ∈ x.t, c < 256) (h5 : ∀ (j : Nat) (x : D.Nd) (p : D.Sl), vs[j]? = some (x, p) -> x.k = 5 -> D.prN x = [35])
  (hp : ∀ (j : Nat) (x : D.Nd) (p : D.Sl), vs[j]? = some (x, p) -> x.k ≠ 0 -> x.k ≠ 5 -> WrC 61 b (.agg (nS.v (nv x p.A p.m p.c))) w (D.prN x)) :
  WrC 33 b (.slice A n c) w (D.prL (vs.map (·.1))) := by
 intro W L hNu hB hsz
 have hlen := hr.row.len
 rw [Shp.rcs_len, nvs_len, show nS.n = 15 from rfl] at hlen
 have hlen : vs.length = n := by omega
 have HR := Lib.hid hr
 have H8 := Lib.hid h8
 have H5 := Lib.hid h5
 have HP := Lib.hid hp
 have HB := Lib.hid hB
 have HN := Lib.hid hNu
 have HWS := Lib.hid (fun W' L' t (hW : Bs b W' L') (h0 : t ≠ []) (h256 : ∀ c ∈ t, c < 256) (hz : L'.length + t.length <= 1000000) => (by have := writeS_any bt_self (D.sb t) hW (by rw [D.ns_sb h256]; exact h0) (by rw [D.sb_len]; exact hz); rw [D.ns_sb h256] at this; exact this : Calls Tryz.prog 56 #[vr b, .string (D.sb t)] W' fun x w' => x = .returned (.tuple #[.int .i64 ((D.sb t).size : Nat), .nilIface]) ∧ Bs b w' (L' ++ t) ∧ Nu b W' w'))
 have HWB := Lib.hid (fun W' L' (hW : Bs b W' L') (hz : L'.length <= 999999) => writeB_any bt_self 35 hW hz 35 rfl)
 clear hr h8 h5 hp hB hNu
 have HBL := Lib.hid hbl
 go_enter Tryz.func33, Tryz.ntmps33
 go_wp2_with fail
 go_loopw [8] (fun i wr => ∃ j : Nat, j <= n ∧ i = .int .i64 j ∧ Hid (Bs b wr (L ++ D.prL ((vs.map (·.1)).take j))) ∧ Hid (Nu b W wr)) (fun i _ => n - (intOf i).toNat)
 case atStart => exact ⟨0, Nat.zero_le _, rfl, Lib.hid (by simpa [D.prL] using HB.out), Lib.hid (Nu.refl _ _)⟩
 case round =>
  obtain ⟨j, hj, rfl, HBj, HNj⟩ := hrel
  obtain ⟨wo, rfl⟩ : ∃ wo : World, wo = wr := ⟨_, rfl⟩
  by_cases hlt : j < n
  ·obtain ⟨⟨x, p⟩, ht⟩ : ∃ a, vs[j]? = some a := ⟨_, List.getElem?_eq_getElem (by omega)⟩
   have hx : (vs.map (·.1))[j]? = some x := by simp [ht]
   obtain ⟨ad, rfl, hbk, hrd, hck⟩ := rw_at ((Nu.row (Nu.row HR.out HN.out) HNj.out).row) (nvs_at ht)
   obtain ⟨Y, hY⟩ : ∃ Y, nv x p.A p.m p.c = Y := ⟨_, rfl⟩
   have hYk : Y.k = x.k := by rw [<- hY]; rfl
   have hYt : Y.t = D.sb x.t := by rw [<- hY]; rfl
   rw [hY] at hrd hck
   have hI : (j : Int) < n := by omega
   have hpx : D.prL ((vs.map (·.1)).take (j + 1)) = D.prL ((vs.map (·.1)).take j) ++ D.prN x := by rw [List.take_add_one, hx, D.prL_app]; simp [D.prL]
   have htot : (D.prL ((vs.map (·.1)).take (j + 1))).length <= (D.prL (vs.map (·.1))).length := by
    have := congrArg (fun l => (D.prL l).length) (List.take_append_drop (j + 1) (vs.map (·.1)))
    simp only [D.prL_app, List.length_append] at this
    omega
   rw [hpx, List.length_append] at htot
   have HPX := Kept.mk hpx
   have hN : Blk (wo.alloc (.cells (nS.v Y) 80)) wo.heap.size 80 (nS.v Y) := Blk.new _ _ _
   have n0 : (wo.alloc (.cells (nS.v Y) 80)).cell? ⟨wo.heap.size, 0, none⟩ = some (.int .i64 (Y.k : Nat)) := nd_c0 hN
   have n1 : (wo.alloc (.cells (nS.v Y) 80)).cell? ⟨wo.heap.size, 1, none⟩ = some (.string Y.t) := by have := (nf_blk hN).t; simpa using this
   have n2 := nd_rd hN
   have n3 := hN.lt
   obtain ⟨W1, hW1⟩ : ∃ W1, wo.alloc (.cells (nS.v Y) 80) = W1 := ⟨_, rfl⟩
   have hB1 : Bs b W1 (L ++ D.prL ((vs.map (·.1)).take j)) := by rw [<- hW1]; exact HBj.out.on (below_alloc_ _ _)
   have hN1 : Nu b W W1 := by rw [<- hW1]; exact HNj.out.trans (Nu.of_below (below_alloc_ _ _))
   have HB1 := Lib.hid hB1
   have HN1 := Lib.hid hN1
   have hll : (L ++ D.prL ((vs.map (·.1)).take j)).length + (D.prN x).length <= 100000 := by rw [List.length_append]; omega
   clear hN hB1 hN1 hpx htot hx
   by_cases hk0 : x.k = 0
   ·have i0 : ((Y.k : Int) == 0) = true := by simp; omega
    obtain ⟨ht0, ht8⟩ := H8.out j x p ht hk0
    rw [D.prN_txt hk0] at HPX hll
    have CW := Lib.hid (HWS.out W1 _ x.t HB1.out ht0 ht8 (by omega))
    rw [<- hYt] at CW
    subst hW1
    clear hk0 hYk ht ht0 ht8 HP H8 H5 hY hYt
    go_wp2_with (go_at_call 56; (with_reducible refine CW.out.mono ?_); rintro e w2 ⟨rfl, hb2, hn2⟩; have B2 := Lib.hid hb2; have N2 := Lib.hid hn2; clear hb2 hn2)
    go_roundw
    case rel => exact ⟨j + 1, by omega, by go_num, Lib.hid (by rw [HPX.out, <- List.append_assoc]; exact B2.out), Lib.hid (HN1.out.trans N2.out)⟩
    case measure => simp [intOf]; omega
   ·have i0 : ((Y.k : Int) == 0) = false := by simp; omega
    by_cases hk5 : x.k = 5
    ·have i5 : ((Y.k : Int) == 5) = true := by simp; omega
     have h35 := H5.out j x p ht hk5
     rw [h35] at HPX hll
     have CW := Lib.hid (HWB.out W1 _ HB1.out (by have : [35].length = 1 := rfl; omega))
     subst hW1
     clear hk0 hk5 hYk ht HP H8 H5 hY h35
     go_wp2_with (go_at_call 60; (with_reducible refine CW.out.mono ?_); rintro e w2 ⟨rfl, hb2, hn2⟩; have B2 := Lib.hid hb2; have N2 := Lib.hid hn2; clear hb2 hn2)
     go_roundw
     case rel => exact ⟨j + 1, by omega, by go_num, Lib.hid (by rw [HPX.out, <- List.append_assoc]; exact B2.out), Lib.hid (HN1.out.trans N2.out)⟩
     case measure => simp [intOf]; omega
    ·have i5 : ((Y.k : Int) == 5) = false := by simp; omega
     have hpp := HP.out j x p ht hk0 hk5
     rw [hY] at hpp
     have CW := Lib.hid (hpp W1 _ (HN.out.trans HN1.out) HB1.out hll)
     subst hW1
     clear hk0 hk5 hYk ht HP H8 H5 hY hpp
     go_wp2_with (go_at_call 61; (with_reducible refine CW.out.mono ?_); rintro e w2 ⟨rfl, hb2, hn2⟩; have B2 := Lib.hid hb2; have N2 := Lib.hid hn2; clear hb2 hn2)
     go_roundw
     case rel => exact ⟨j + 1, by omega, by go_num, Lib.hid (by rw [HPX.out, <- List.append_assoc]; exact B2.out), Lib.hid (HN1.out.trans N2.out)⟩
     case measure => simp [intOf]; omega
  ·obtain rfl : j = n := by omega
   have hall : (vs.map (·.1)).take j = vs.map (·.1) := List.take_of_length_le (by simp [hlen])
   have HA := Kept.mk hall
   clear hall
   go_wp2
   go_end0
   refine ⟨rfl, ?_, HNj.out⟩
   have := HBj.out
   rw [HA.out] at this
   exact this

theorem ts_pad {n : List Nat} (h : Nm.D.isB n = true) (hn : ∀ c ∈ n, c < 256) : Nm.ts (Nm.D.pad (D.sb n)) = D.sb n := by
 have h1 := Nm.D.pad_txt h hn
 have e : Nm.D.pad (D.sb n) = Nm.D.padN n hn := Nm.D.Nm.eq (by show Nm.D.padl (D.ns (D.sb n)) 12 = Nm.D.padl n 12; rw [D.ns_sb hn])
 rw [Nm.ts, e, h1]
theorem D.prC_snoc : ∀ (ws : List (List Nat)) (ks : List (List D.Nd)) (j : Nat) (t : List Nat) (q : List D.Nd), ws[j]? = some t -> ks[j]? = some q -> ws.length = ks.length -> D.prC (ws.take (j + 1)) (ks.take (j + 1)) = D.prC (ws.take j) (ks.take j) ++ (32 :: (t ++ 123 :: (D.prL q ++ [125])))
 | [], ks, j, t, q, h, _, _ => by simp at h
 | w :: ws, [], j, t, q, _, h, _ => by simp at h
 | w :: ws, k :: ks, 0, t, q, h1, h2, _ => by
  simp at h1 h2
  subst h1 h2
  simp [D.prC]
 | w :: ws, k :: ks, j + 1, t, q, h1, h2, hl => by
  have := D.prC_snoc ws ks j t q (by simpa using h1) (by simpa using h2) (by simpa using hl)
  simp [D.prC] at this ⊢
  exact this
theorem D.prC_part (ws : List (List Nat)) (ks : List (List D.Nd)) (j : Nat) (hl : ws.length = ks.length) : (D.prC (ws.take j) (ks.take j)).length <= (D.prC ws ks).length := by
 induction ws generalizing ks j with
 | nil => simp [D.prC]
 | cons w ws ih =>
  cases ks with
  | nil => simp at hl
  | cons k ks =>
   cases j with
   | zero => simp [D.prC]
   | succ j =>
    have := ih ks j (by simpa using hl)
    simp [D.prC]; omega
theorem hws (b : Nat) (W : World) (L : List Nat) (s : ByteArray) (hW : Bs b W L) (h0 : D.ns s ≠ []) (hz : L.length + (D.ns s).length <= 1000000) : Calls Tryz.prog 56 #[vr b, .string s] W fun x w' => x = .returned (.tuple #[.int .i64 (s.size : Nat), .nilIface]) ∧ Bs b w' (L ++ D.ns s) ∧ Nu b W w' :=
 writeS_any bt_self s hW h0 (by rw [size_ns]; exact hz)
theorem hwl (b : Nat) (W : World) (L l : List Nat) (s : ByteArray) (hs : D.ns s = l) (h0 : l ≠ []) (hz : L.length + l.length <= 1000000) (hW : Bs b W L) : Calls Tryz.prog 56 #[vr b, .string s] W fun x w' => x = .returned (.tuple #[.int .i64 (s.size : Nat), .nilIface]) ∧ Bs b w' (L ++ l) ∧ Nu b W w' := by
 subst hs
 exact hws b W L s hW h0 hz
theorem hwb (b : Nat) (W : World) (L : List Nat) (x : Nat) (z : Int) (hz : z = x) (hW : Bs b W L) (hl : L.length <= 999999) : Calls Tryz.prog 60 #[vr b, .int .u8 z] W fun e w' => e = .returned .nilIface ∧ Bs b w' (L ++ [x]) ∧ Nu b W w' := writeB_any bt_self x hW hl z hz
set_option maxHeartbeats 8000000 in
theorem writePlace_arg (b k c : Nat) (A : Option Addr) (n : List Nat) (w : World) (hk : k = 1) (hn : Nm.D.isB n = true) (hn8 : ∀ c ∈ n, c < 256) (hbl : b <= w.heap.size) (hkb : 0 < b) (hKn : Knd w) : WrC 61 b (.agg (nS.v ⟨k, ⟨#[]⟩, Nm.D.pad (D.sb n), A, 0, c⟩)) w (D.prN (.mk 1 [] n [] [])) := by
 intro W L hNu hB hsz
 have hts := ts_pad hn hn8
 have hnl : n ≠ [] := fun e => by rw [e] at hn; exact absurd hn (by decide)
 have hns := D.ns_sb hn8
 have HTX := Lib.hid (fun W' => Nm.text_any (Nm.D.pad (D.sb n)) W')
 rw [hts] at HTX
 obtain ⟨M, hM⟩ : ∃ M, Nm.D.pad (D.sb n) = M := ⟨_, rfl⟩
 rw [hM] at HTX ⊢
 have hlt := hB.lt
 have i1 : ((k : Int) != 1) = false := by simp; omega
 have HWS := Lib.hid (hws b)
 have HWB := Lib.hid (hwb b)
 have hkW := Nu.knd hKn hNu hkb hbl
 have hblW : b <= W.heap.size := Nat.le_trans hbl hNu.size
 obtain ⟨Y, hY⟩ : ∃ Y : D.Nv, ⟨k, ⟨#[]⟩, M, A, 0, c⟩ = Y := ⟨_, rfl⟩
 have hY1 : Y.k = k := by rw [<- hY]
 have hY2 : Y.n = M := by rw [<- hY]
 have hY3 : Value.slice Y.A Y.m Y.c = .slice A 0 c := by rw [<- hY]
 rw [hY]
 clear hM hts hY
 obtain ⟨W1, hW1⟩ : ∃ W1, W.alloc (.cells (nS.v Y) 80) = W1 := ⟨_, rfl⟩
 have hG1 : Blk W1 W.heap.size 80 (nS.v Y) := by rw [<- hW1]; exact Blk.new _ _ _
 have hB1 : Bs b W1 L := by rw [<- hW1]; exact hB.on (below_alloc_ _ _)
 have hN1 : Nu b W W1 := by rw [<- hW1]; exact Nu.of_below (below_alloc_ _ _)
 have fG : ∀ W', Nu b W1 W' -> W'.cell? ⟨W.heap.size, 0, none⟩ = some (.int .i64 (k : Nat)) ∧ Nm.rd W' ⟨W.heap.size, 2, none⟩ = some M ∧ W'.cell? ⟨W.heap.size, 14, none⟩ = some (.slice A 0 c) ∧ W.heap.size < W'.heap.size := by
  intro W' h
  have hb := h.keep _ _ _ (by omega) (by decide) hG1
  have f := nf_blk hb
  have f1 := f.k; have f2 := f.n; have f3 := f.c
  simp only [Nat.zero_add] at f1 f2 f3
  rw [hY1] at f1; rw [hY2] at f2; rw [hY3] at f3
  exact ⟨f1, f2, f3, hb.lt⟩
 have FG := Lib.hid fG
 obtain ⟨g0, g1, g2, g3⟩ := fG W1 (Nu.refl _ _)
 subst hW1
 have HB1 := Lib.hid hB1
 have HN1 := Lib.hid hN1
 have HNS := Lib.hid hns
 have HNL := Lib.hid hnl
 have HKW := Lib.hid hkW
 have hlW : b <= (W.alloc (.cells (nS.v Y) 80)).heap.size := by simp; omega
 have HLW := Lib.hid hblW
 have HKB := Lib.hid hkb
 have e_ : (D.prN (.mk 1 [] n [] [])).length = n.length + 2 := by simp [D.prN]
 have hsz' : L.length + (n.length + 2) <= 100000 := by omega
 clear e_
 have hc1 : ¬ 9223372036854775807 < 1 + (D.sb n).size := by rw [D.sb_len]; omega
 have hc2 : 1 + (D.sb n).size <= 9223372036854775807 := by rw [D.sb_len]; omega
 have HKE := Kept.mk hk
 have HA1 := Lib.hid (fun W' hW => hwl b W' L (123 :: n) (⟨#[123]⟩ ++ D.sb n) (by rw [ns_app_, hns]; rfl) (List.cons_ne_nil _ _) (by simp; omega) hW)
 clear hB hNu hB1 hN1 fG hG1 hns hnl hkW hblW hlW hY1 hY2 hY3 hn hn8 hsz hKn hbl hkb hk
 go_enter Tryz.func61, Tryz.ntmps61
 go_wp2_with (first
  | (go_at_call 89; (with_reducible refine (HTX.out _).mono ?_); rintro e w2 ⟨rfl, b2⟩
     have N2 := Lib.hid (Nu.of_below (b := b) b2)
     have B2 := Lib.hid (HB1.out.on b2)
     clear b2)
  | (go_at_call 56; (with_reducible refine (HA1.out _ B2.out).mono ?_); rintro e w3 ⟨rfl, b3, n3⟩
     have N3 := Lib.hid (N2.out.trans n3)
     have B3 := Lib.hid b3
     obtain ⟨h0_, h1_, h2_, h3_⟩ := FG.out w3 (N2.out.trans n3)
     have hk3 := Nu.knd HKW.out (HN1.out.trans (N2.out.trans n3)) HKB.out HLW.out
     skip
     clear b3 n3 h1_ hk3))
 go_loopw [25] (fun i wr => i = .int .i64 0 ∧ Hid (Bs b wr (L ++ 123 :: n)) ∧ Hid (Nu b (W.alloc (.cells (nS.v Y) 80)) wr)) (fun _ _ => 0)
 case atStart => exact ⟨rfl, B3, N3⟩
 case round =>
  obtain ⟨rfl, HBj, HNj⟩ := hrel
  obtain ⟨wo, rfl⟩ : ∃ wo : World, wo = wr := ⟨_, rfl⟩
  have HE1 := Lib.hid (hwb b wo _ 125 125 rfl HBj.out (by simp; omega))
  go_wp2_with (go_at_call 60; (with_reducible refine HE1.out.mono ?_); rintro e w9 ⟨rfl, b9, n9⟩)
  go_end0
  refine ⟨rfl, ?_, (HN1.out.trans HNj.out).trans n9⟩
  have e : L ++ D.prN (.mk 1 [] n [] []) = (L ++ 123 :: n) ++ [125] := by simp [D.prN]
  rw [e]
  exact b9
set_option maxHeartbeats 8000000 in
theorem writePlace_num (b k c : Nat) (A : Option Addr) (n : List Nat) (w : World) (hk : k = 2) (hn : Nm.D.isB n = true) (hn8 : ∀ c ∈ n, c < 256) (hbl : b <= w.heap.size) (hkb : 0 < b) (hKn : Knd w) : WrC 61 b (.agg (nS.v ⟨k, ⟨#[]⟩, Nm.D.pad (D.sb n), A, 0, c⟩)) w (D.prN (.mk 2 [] n [] [])) := by
 intro W L hNu hB hsz
 have hts := ts_pad hn hn8
 have hnl : n ≠ [] := fun e => by rw [e] at hn; exact absurd hn (by decide)
 have hns := D.ns_sb hn8
 have HTX := Lib.hid (fun W' => Nm.text_any (Nm.D.pad (D.sb n)) W')
 rw [hts] at HTX
 obtain ⟨M, hM⟩ : ∃ M, Nm.D.pad (D.sb n) = M := ⟨_, rfl⟩
 rw [hM] at HTX ⊢
 have hlt := hB.lt
 have i1 : ((k : Int) != 1) = true := by simp; omega
 have HWS := Lib.hid (hws b)
 have HWB := Lib.hid (hwb b)
 have hkW := Nu.knd hKn hNu hkb hbl
 have hblW : b <= W.heap.size := Nat.le_trans hbl hNu.size
 obtain ⟨Y, hY⟩ : ∃ Y : D.Nv, ⟨k, ⟨#[]⟩, M, A, 0, c⟩ = Y := ⟨_, rfl⟩
 have hY1 : Y.k = k := by rw [<- hY]
 have hY2 : Y.n = M := by rw [<- hY]
 have hY3 : Value.slice Y.A Y.m Y.c = .slice A 0 c := by rw [<- hY]
 rw [hY]
 clear hM hts hY
 obtain ⟨W1, hW1⟩ : ∃ W1, W.alloc (.cells (nS.v Y) 80) = W1 := ⟨_, rfl⟩
 have hG1 : Blk W1 W.heap.size 80 (nS.v Y) := by rw [<- hW1]; exact Blk.new _ _ _
 have hB1 : Bs b W1 L := by rw [<- hW1]; exact hB.on (below_alloc_ _ _)
 have hN1 : Nu b W W1 := by rw [<- hW1]; exact Nu.of_below (below_alloc_ _ _)
 have fG : ∀ W', Nu b W1 W' -> W'.cell? ⟨W.heap.size, 0, none⟩ = some (.int .i64 (k : Nat)) ∧ Nm.rd W' ⟨W.heap.size, 2, none⟩ = some M ∧ W'.cell? ⟨W.heap.size, 14, none⟩ = some (.slice A 0 c) ∧ W.heap.size < W'.heap.size := by
  intro W' h
  have hb := h.keep _ _ _ (by omega) (by decide) hG1
  have f := nf_blk hb
  have f1 := f.k; have f2 := f.n; have f3 := f.c
  simp only [Nat.zero_add] at f1 f2 f3
  rw [hY1] at f1; rw [hY2] at f2; rw [hY3] at f3
  exact ⟨f1, f2, f3, hb.lt⟩
 have FG := Lib.hid fG
 obtain ⟨g0, g1, g2, g3⟩ := fG W1 (Nu.refl _ _)
 subst hW1
 have HB1 := Lib.hid hB1
 have HN1 := Lib.hid hN1
 have HNS := Lib.hid hns
 have HNL := Lib.hid hnl
 have HKW := Lib.hid hkW
 have hlW : b <= (W.alloc (.cells (nS.v Y) 80)).heap.size := by simp; omega
 have HLW := Lib.hid hblW
 have HKB := Lib.hid hkb
 have e_ : (D.prN (.mk 2 [] n [] [])).length = n.length + 10 := by simp [D.prN, D.numP]
 have hsz' : L.length + (n.length + 10) <= 100000 := by omega
 clear e_
 have hc1 : ¬ 9223372036854775807 < 1 + (D.sb n).size := by rw [D.sb_len]; omega
 have hc2 : 1 + (D.sb n).size <= 9223372036854775807 := by rw [D.sb_len]; omega
 have ik : (k : Int) < 5 := by omega
 have ik' : k < 5 := by omega
 have HKE := Kept.mk hk
 have HA1 := Lib.hid (fun W' hW => hwl b W' L (123 :: n) (⟨#[123]⟩ ++ D.sb n) (by rw [ns_app_, hns]; rfl) (List.cons_ne_nil _ _) (by simp; omega) hW)
 have HA2 := Lib.hid (fun W' hW => hwl b W' (L ++ 123 :: n) [44, 32, 110, 117, 109, 98, 101, 114] (⟨#[44, 32]⟩ ++ ⟨#[110, 117, 109, 98, 101, 114]⟩) (by rw [ns_app_]; rfl) (List.cons_ne_nil _ _) (by simp; omega) hW)
 clear hB hNu hB1 hN1 fG hG1 hns hnl hkW hblW hlW hY1 hY2 hY3 hn hn8 hsz hKn hbl hkb hk
 go_enter Tryz.func61, Tryz.ntmps61
 go_wp2_with (first
  | (go_at_call 89; (with_reducible refine (HTX.out _).mono ?_); rintro e w2 ⟨rfl, b2⟩
     have N2 := Lib.hid (Nu.of_below (b := b) b2)
     have B2 := Lib.hid (HB1.out.on b2)
     clear b2)
  | (go_at_call 56; (with_reducible refine (HA1.out _ B2.out).mono ?_); rintro e w3 ⟨rfl, b3, n3⟩
     have N3 := Lib.hid (N2.out.trans n3)
     have B3 := Lib.hid b3
     obtain ⟨h0_, h1_, h2_, h3_⟩ := FG.out w3 (N2.out.trans n3)
     have hk3 := Nu.knd HKW.out (HN1.out.trans (N2.out.trans n3)) HKB.out HLW.out
     have kc : w3.cell? ⟨0, k, none⟩ = some (.string ⟨#[110, 117, 109, 98, 101, 114]⟩) := by rw [HKE.out]; exact hk3.c2
     clear b3 n3 h1_ hk3)
  | (go_at_call 56; (with_reducible refine (HA2.out _ B3.out).mono ?_); rintro e w4 ⟨rfl, b4, n4⟩
     have N4 := Lib.hid (N3.out.trans n4)
     have B4 := Lib.hid b4
     obtain ⟨j0_, j1_, j2_, j3_⟩ := FG.out w4 (N3.out.trans n4)
     clear b4 n4 j1_))
 go_loopw [25] (fun i wr => i = .int .i64 0 ∧ Hid (Bs b wr (L ++ 123 :: n ++ [44, 32, 110, 117, 109, 98, 101, 114])) ∧ Hid (Nu b (W.alloc (.cells (nS.v Y) 80)) wr)) (fun _ _ => 0)
 case atStart => exact ⟨rfl, B4, N4⟩
 case round =>
  obtain ⟨rfl, HBj, HNj⟩ := hrel
  obtain ⟨wo, rfl⟩ : ∃ wo : World, wo = wr := ⟨_, rfl⟩
  have HE1 := Lib.hid (hwb b wo _ 125 125 rfl HBj.out (by simp; omega))
  go_wp2_with (go_at_call 60; (with_reducible refine HE1.out.mono ?_); rintro e w9 ⟨rfl, b9, n9⟩)
  go_end0
  refine ⟨rfl, ?_, (HN1.out.trans HNj.out).trans n9⟩
  have e : L ++ D.prN (.mk 2 [] n [] []) = (L ++ 123 :: n ++ [44, 32, 110, 117, 109, 98, 101, 114]) ++ [125] := by simp [D.prN, D.numP]
  rw [e]
  exact b9
set_option maxHeartbeats 8000000 in
theorem writePlace_plu (b k m c : Nat) (A : Option Addr) (n : List Nat) (ws : List (List Nat)) (ks : List (List D.Nd)) (cs : List (List Nat × Value)) (w : World) (hk : k = 3) (hn : Nm.D.isB n = true) (hn8 : ∀ c ∈ n, c < 256) (hbl : b <= w.heap.size) (hkb : 0 < b) (hKn : Knd w)
  (hr : RF 2 (fun i => i < b) w A m (ccs cs)) (hmn : m <= 1000) (hcw : cs.map (·.1) = ws) (hB8 : D.B8 ws) (hl : ws.length = ks.length) (h0 : ws ≠ []) (h1 : ∀ x ∈ cs, ∃ (A : Option Addr) (n c : Nat), x.2 = .slice A n c)
  (hK : ∀ (j : Nat) (t : List Nat) (u : Value) (q : List D.Nd), cs[j]? = some (t, u) -> ks[j]? = some q -> WrC 33 b u w (D.prL q)) : WrC 61 b (.agg (nS.v ⟨k, ⟨#[]⟩, Nm.D.pad (D.sb n), A, m, c⟩)) w (D.prN (.mk 3 [] n ws ks)) := by
 intro W L hNu hB hsz
 have hts := ts_pad hn hn8
 have hnl : n ≠ [] := fun e => by rw [e] at hn; exact absurd hn (by decide)
 have hns := D.ns_sb hn8
 have HTX := Lib.hid (fun W' => Nm.text_any (Nm.D.pad (D.sb n)) W')
 rw [hts] at HTX
 obtain ⟨M, hM⟩ : ∃ M, Nm.D.pad (D.sb n) = M := ⟨_, rfl⟩
 rw [hM] at HTX ⊢
 have hlt := hB.lt
 have i1 : ((k : Int) != 1) = true := by simp; omega
 have HWS := Lib.hid (hws b)
 have HWB := Lib.hid (hwb b)
 have hkW := Nu.knd hKn hNu hkb hbl
 have hblW : b <= W.heap.size := Nat.le_trans hbl hNu.size
 obtain ⟨Y, hY⟩ : ∃ Y : D.Nv, ⟨k, ⟨#[]⟩, M, A, m, c⟩ = Y := ⟨_, rfl⟩
 have hY1 : Y.k = k := by rw [<- hY]
 have hY2 : Y.n = M := by rw [<- hY]
 have hY3 : Value.slice Y.A Y.m Y.c = .slice A m c := by rw [<- hY]
 rw [hY]
 clear hM hts hY
 obtain ⟨W1, hW1⟩ : ∃ W1, W.alloc (.cells (nS.v Y) 80) = W1 := ⟨_, rfl⟩
 have hG1 : Blk W1 W.heap.size 80 (nS.v Y) := by rw [<- hW1]; exact Blk.new _ _ _
 have hB1 : Bs b W1 L := by rw [<- hW1]; exact hB.on (below_alloc_ _ _)
 have hN1 : Nu b W W1 := by rw [<- hW1]; exact Nu.of_below (below_alloc_ _ _)
 have fG : ∀ W', Nu b W1 W' -> W'.cell? ⟨W.heap.size, 0, none⟩ = some (.int .i64 (k : Nat)) ∧ Nm.rd W' ⟨W.heap.size, 2, none⟩ = some M ∧ W'.cell? ⟨W.heap.size, 14, none⟩ = some (.slice A m c) ∧ W.heap.size < W'.heap.size := by
  intro W' h
  have hb := h.keep _ _ _ (by omega) (by decide) hG1
  have f := nf_blk hb
  have f1 := f.k; have f2 := f.n; have f3 := f.c
  simp only [Nat.zero_add] at f1 f2 f3
  rw [hY1] at f1; rw [hY2] at f2; rw [hY3] at f3
  exact ⟨f1, f2, f3, hb.lt⟩
 have FG := Lib.hid fG
 obtain ⟨g0, g1, g2, g3⟩ := fG W1 (Nu.refl _ _)
 subst hW1
 have HB1 := Lib.hid hB1
 have HN1 := Lib.hid hN1
 have HNS := Lib.hid hns
 have HNL := Lib.hid hnl
 have HKW := Lib.hid hkW
 have hlW : b <= (W.alloc (.cells (nS.v Y) 80)).heap.size := by simp; omega
 have HLW := Lib.hid hblW
 have HKB := Lib.hid hkb
 have HR := Lib.hid hr
 have HK := Lib.hid hK
 have HNW := Lib.hid hNu
 have H1 := Lib.hid h1
 have HB8 := Lib.hid hB8
 have HCW := Kept.mk hcw
 have HL := Lib.hid hl
 have H0 := Lib.hid h0
 have e_ : (D.prN (.mk 3 [] n ws ks)).length = n.length + 11 + (D.prC ws ks).length := by (simp [D.prN, D.pluP]; omega)
 have hsz' : L.length + (n.length + 11 + (D.prC ws ks).length) <= 100000 := by omega
 clear e_
 clear hr hK h1 hB8 hcw hl h0
 have hc1 : ¬ 9223372036854775807 < 1 + (D.sb n).size := by rw [D.sb_len]; omega
 have hc2 : 1 + (D.sb n).size <= 9223372036854775807 := by rw [D.sb_len]; omega
 have ik : (k : Int) < 5 := by omega
 have ik' : k < 5 := by omega
 have HKE := Kept.mk hk
 have HA1 := Lib.hid (fun W' hW => hwl b W' L (123 :: n) (⟨#[123]⟩ ++ D.sb n) (by rw [ns_app_, hns]; rfl) (List.cons_ne_nil _ _) (by simp; omega) hW)
 have HA2 := Lib.hid (fun W' hW => hwl b W' (L ++ 123 :: n) [44, 32, 112, 108, 117, 114, 97, 108] (⟨#[44, 32]⟩ ++ ⟨#[112, 108, 117, 114, 97, 108]⟩) (by rw [ns_app_]; rfl) (List.cons_ne_nil _ _) (by simp; omega) hW)
 clear hB hNu hB1 hN1 fG hG1 hns hnl hkW hblW hlW hY1 hY2 hY3 hn hn8 hsz hKn hbl hkb hk
 go_enter Tryz.func61, Tryz.ntmps61
 go_wp2_with (first
  | (go_at_call 89; (with_reducible refine (HTX.out _).mono ?_); rintro e w2 ⟨rfl, b2⟩
     have N2 := Lib.hid (Nu.of_below (b := b) b2)
     have B2 := Lib.hid (HB1.out.on b2)
     clear b2)
  | (go_at_call 56; (with_reducible refine (HA1.out _ B2.out).mono ?_); rintro e w3 ⟨rfl, b3, n3⟩
     have N3 := Lib.hid (N2.out.trans n3)
     have B3 := Lib.hid b3
     obtain ⟨h0_, h1_, h2_, h3_⟩ := FG.out w3 (N2.out.trans n3)
     have hk3 := Nu.knd HKW.out (HN1.out.trans (N2.out.trans n3)) HKB.out HLW.out
     have kc : w3.cell? ⟨0, k, none⟩ = some (.string ⟨#[112, 108, 117, 114, 97, 108]⟩) := by rw [HKE.out]; exact hk3.c3
     clear b3 n3 h1_ hk3)
  | (go_at_call 56; (with_reducible refine (HA2.out _ B3.out).mono ?_); rintro e w4 ⟨rfl, b4, n4⟩
     have N4 := Lib.hid (N3.out.trans n4)
     have B4 := Lib.hid b4
     obtain ⟨j0_, j1_, j2_, j3_⟩ := FG.out w4 (N3.out.trans n4)
     clear b4 n4 j1_))
 have hcl : cs.length = m := by have := HR.out.row.len; rw [ccs_len] at this; omega
 have hwl_ : ws.length = m := by rw [<- HCW.out, List.length_map]; exact hcl
 go_loopw [25] (fun i wr => ∃ j : Nat, j <= m ∧ i = .int .i64 j ∧ Hid (Bs b wr ((L ++ 123 :: n ++ [44, 32, 112, 108, 117, 114, 97, 108]) ++ (if j = 0 then [] else 44 :: D.prC (ws.take (j)) (ks.take (j))))) ∧ Hid (Nu b (W.alloc (.cells (nS.v Y) 80)) wr)) (fun i _ => m - (intOf i).toNat)
 case atStart => exact ⟨0, Nat.zero_le _, rfl, Lib.hid (by simpa using B4.out), N4⟩
 case round =>
  obtain ⟨j, hj, rfl, HBj, HNj⟩ := hrel
  obtain ⟨wo, rfl⟩ : ∃ wo : World, wo = wr := ⟨_, rfl⟩
  have hNw := (HNW.out.trans HN1.out).trans HNj.out
  by_cases hlt2 : j < m
  ·obtain ⟨⟨t, u⟩, ht⟩ : ∃ a, cs[j]? = some a := ⟨_, List.getElem?_eq_getElem (by omega)⟩
   have hlk := HL.out
   obtain ⟨q, hq⟩ : ∃ q, ks[j]? = some q := ⟨_, List.getElem?_eq_getElem (by omega)⟩
   have hm : ws[j]? = some t := by rw [<- HCW.out]; simp [ht]
   have ht8 := HB8.out t (List.mem_of_getElem? hm)
   obtain ⟨Au, nu, cu, hu⟩ := H1.out _ (List.mem_of_getElem? ht)
   have hu : u = .slice Au nu cu := hu
   subst hu
   obtain ⟨e0, e1⟩ := ccs_at ht
   have HR' := (Nu.row HR.out hNw).row
   obtain ⟨ad, rfl, hbk, hc0⟩ := HR'.cell e0
   obtain ⟨ad', ead, _, hc1⟩ := HR'.cell e1
   cases ead
   have hI : (j : Int) < m := by omega
   have hc1' : wo.cell? ⟨(ad.add (j * 2)).block, (ad.add (j * 2)).off + 1, none⟩ = some (.slice Au nu cu) := by
    rw [<- hc1]
    unfold Addr.add
    by_cases h0 : j * 2 = 0
    ·simp [h0]
    ·simp [h0, Nat.add_assoc]
   have hsn := D.prC_snoc ws ks j t q hm hq hlk
   have hpart := D.prC_part ws ks (j + 1) hlk
   rw [hsn] at hpart
   simp only [List.length_append, List.length_cons, List.length_nil] at hpart
   have hd1 : ¬ 9223372036854775807 < 1 + (D.sb t).size := by rw [D.sb_len]; omega
   have hd2 : 1 + (D.sb t).size <= 9223372036854775807 := by rw [D.sb_len]; omega
   have hd3 : ¬ 9223372036854775807 < 1 + (D.sb t).size + 1 := by rw [D.sb_len]; omega
   have hd4 : 1 + (D.sb t).size + 1 <= 9223372036854775807 := by rw [D.sb_len]; omega
   have hC2 : Blk (wo.alloc (.cells #[.string (D.sb t), .slice Au nu cu] 101)) wo.heap.size 101 #[.string (D.sb t), .slice Au nu cu] := Blk.new _ _ _
   have hwo : b < wo.heap.size := HBj.out.lt
   have fC : ∀ W', Nu b (wo.alloc (.cells #[.string (D.sb t), .slice Au nu cu] 101)) W' -> W'.cell? ⟨wo.heap.size, 0, none⟩ = some (.string (D.sb t)) ∧ W'.cell? ⟨wo.heap.size, 1, none⟩ = some (.slice Au nu cu) ∧ wo.heap.size < W'.heap.size := fun W' h => by
    have hb := h.keep _ _ _ (by omega) (by decide) hC2
    exact ⟨hb.c_ 0, hb.c_ 1, hb.lt⟩
   have FC := Lib.hid fC
   obtain ⟨q0, q1, q2⟩ := fC _ (Nu.refl _ _)
   have hB2 := HBj.out.on (below_alloc_ wo (.cells #[.string (D.sb t), .slice Au nu cu] 101))
   have hN2 : Nu b wo (wo.alloc (.cells #[.string (D.sb t), .slice Au nu cu] 101)) := Nu.of_below (below_alloc_ _ _)
   have HB2 := Lib.hid hB2
   have HN2 := Lib.hid hN2
   have HNw := Lib.hid (hNw.trans hN2)
   have hll : (L ++ 123 :: n ++ [44, 32, 112, 108, 117, 114, 97, 108]).length = L.length + n.length + 9 := by simp; omega
   have HWA := Lib.hid (fun W' hW => hwl b W' ((L ++ 123 :: n ++ [44, 32, 112, 108, 117, 114, 97, 108]) ++ 44 :: D.prC (ws.take j) (ks.take j)) (32 :: (t ++ [123])) (⟨#[32]⟩ ++ D.sb t ++ ⟨#[123]⟩) (by rw [ns_app_, ns_app_, D.ns_sb ht8]; rfl) (List.cons_ne_nil _ _) (by rw [List.length_append, hll]; simp; omega) hW)
   have HWK := Lib.hid (fun W' hn hW => HK.out j t _ q ht hq W' ((L ++ 123 :: n ++ [44, 32, 112, 108, 117, 114, 97, 108]) ++ 44 :: D.prC (ws.take j) (ks.take j) ++ 32 :: (t ++ [123])) hn hW (by rw [List.length_append, List.length_append, hll]; simp; omega))
   have HWE := Lib.hid (fun W' hW => hwb b W' ((L ++ 123 :: n ++ [44, 32, 112, 108, 117, 114, 97, 108]) ++ 44 :: D.prC (ws.take j) (ks.take j) ++ 32 :: (t ++ [123]) ++ D.prL q) 125 125 rfl hW (by rw [List.length_append, List.length_append, List.length_append, hll]; simp; omega))
   have hfin : (L ++ 123 :: n ++ [44, 32, 112, 108, 117, 114, 97, 108]) ++ (if j + 1 = 0 then [] else 44 :: D.prC (ws.take (j + 1)) (ks.take (j + 1))) = (L ++ 123 :: n ++ [44, 32, 112, 108, 117, 114, 97, 108]) ++ 44 :: D.prC (ws.take j) (ks.take j) ++ 32 :: (t ++ [123]) ++ D.prL q ++ [125] := by
    rw [if_neg (by omega), hsn]
    simp
   have HFIN := Kept.mk hfin
   clear HR' e0 e1 hc1 hm ht8 ht hq hsn hpart hC2 fC hB2 hN2 hfin hlk hNw
   by_cases hj0 : j = 0
   ·have i0 : ((j : Int) == 0) = true := by simp; omega
    have hx0 : (L ++ 123 :: n ++ [44, 32, 112, 108, 117, 114, 97, 108]) ++ (if j = 0 then [] else 44 :: D.prC (ws.take (j)) (ks.take (j))) ++ [44] = (L ++ 123 :: n ++ [44, 32, 112, 108, 117, 114, 97, 108]) ++ 44 :: D.prC (ws.take j) (ks.take j) := by
     rw [if_pos hj0, hj0]
     simp [D.prC]
    have HX0 := Kept.mk hx0
    have HW4 := Lib.hid (hwb b _ _ 44 44 rfl HB2.out (by rw [List.length_append, hll, if_pos hj0]; simp; omega))
    clear hj0 hx0
    go_wp2_with (first
     | (go_at_call 60; (with_reducible refine HW4.out.mono ?_); rintro e w5 ⟨rfl, b5, n5⟩
        have N5 := Lib.hid n5
        have B5 := Lib.hid (show Bs b w5 ((L ++ 123 :: n ++ [44, 32, 112, 108, 117, 114, 97, 108]) ++ 44 :: D.prC (ws.take j) (ks.take j)) by rw [<- HX0.out]; exact b5)
        obtain ⟨r0, r1, r2⟩ := FC.out w5 n5
        clear b5 n5)
     | (go_at_call 56; (with_reducible refine (HWA.out _ B5.out).mono ?_); rintro e w6 ⟨rfl, b6, n6⟩
        have N6 := Lib.hid (N5.out.trans n6)
        have B6 := Lib.hid b6
        obtain ⟨s0, s1, s2⟩ := FC.out w6 (N5.out.trans n6)
        clear b6 n6)
     | (go_at_call 33; (with_reducible refine (HWK.out _ (HNw.out.trans N6.out) B6.out).mono ?_); rintro e w7 ⟨rfl, b7, n7⟩
        have N7 := Lib.hid (N6.out.trans n7)
        have B7 := Lib.hid b7
        clear b7 n7)
     | (go_at_call 60; (with_reducible refine (HWE.out _ B7.out).mono ?_); rintro e w8 ⟨rfl, b8, n8⟩
        have N8 := Lib.hid (N7.out.trans n8)
        have B8 := Lib.hid b8
        clear b8 n8))
    go_roundw
    case rel => exact ⟨j + 1, by omega, by go_num, Lib.hid (by rw [HFIN.out]; exact B8.out), Lib.hid (HNj.out.trans (HN2.out.trans N8.out))⟩
    case measure => simp [intOf]; omega
   ·have i0 : ((j : Int) == 0) = false := by simp; omega
    have hx0 : (L ++ 123 :: n ++ [44, 32, 112, 108, 117, 114, 97, 108]) ++ (if j = 0 then [] else 44 :: D.prC (ws.take (j)) (ks.take (j))) = (L ++ 123 :: n ++ [44, 32, 112, 108, 117, 114, 97, 108]) ++ 44 :: D.prC (ws.take j) (ks.take j) := by rw [if_neg hj0]
    rw [hx0] at HB2
    have B5 := HB2
    have N5 : Hid (Nu b (wo.alloc (.cells #[.string (D.sb t), .slice Au nu cu] 101)) (wo.alloc (.cells #[.string (D.sb t), .slice Au nu cu] 101))) := Lib.hid (Nu.refl _ _)
    clear hj0 hx0
    go_wp2_with (first
     | (go_at_call 56; (with_reducible refine (HWA.out _ B5.out).mono ?_); rintro e w6 ⟨rfl, b6, n6⟩
        have N6 := Lib.hid (N5.out.trans n6)
        have B6 := Lib.hid b6
        obtain ⟨s0, s1, s2⟩ := FC.out w6 (N5.out.trans n6)
        clear b6 n6)
     | (go_at_call 33; (with_reducible refine (HWK.out _ (HNw.out.trans N6.out) B6.out).mono ?_); rintro e w7 ⟨rfl, b7, n7⟩
        have N7 := Lib.hid (N6.out.trans n7)
        have B7 := Lib.hid b7
        clear b7 n7)
     | (go_at_call 60; (with_reducible refine (HWE.out _ B7.out).mono ?_); rintro e w8 ⟨rfl, b8, n8⟩
        have N8 := Lib.hid (N7.out.trans n8)
        have B8 := Lib.hid b8
        clear b8 n8))
    go_roundw
    case rel => exact ⟨j + 1, by omega, by go_num, Lib.hid (by rw [HFIN.out]; exact B8.out), Lib.hid (HNj.out.trans (HN2.out.trans N8.out))⟩
    case measure => simp [intOf]; omega
  ·obtain rfl : j = m := by omega
   have h0m : ¬ j = 0 := fun e => H0.out (List.eq_nil_of_length_eq_zero (by omega))
   have hwall : ws.take j = ws := List.take_of_length_le (by omega)
   have hkall : ks.take j = ks := List.take_of_length_le (by have := HL.out; omega)
   have hb1 := HBj.out
   rw [if_neg h0m, hwall, hkall] at hb1
   have HE1 := Lib.hid (hwb b wo _ 125 125 rfl hb1 (by simp; omega))
   clear hb1 hwall hkall h0m
   go_wp2_with (go_at_call 60; (with_reducible refine HE1.out.mono ?_); rintro e w9 ⟨rfl, b9, n9⟩)
   go_end0
   refine ⟨rfl, ?_, (HN1.out.trans HNj.out).trans n9⟩
   have e : L ++ D.prN (.mk 3 [] n ws ks) = (L ++ 123 :: n ++ [44, 32, 112, 108, 117, 114, 97, 108]) ++ 44 :: D.prC ws ks ++ [125] := by simp [D.prN, D.pluP]
   rw [e]
   exact b9
set_option maxHeartbeats 8000000 in
theorem writePlace_sel (b k m c : Nat) (A : Option Addr) (n : List Nat) (ws : List (List Nat)) (ks : List (List D.Nd)) (cs : List (List Nat × Value)) (w : World) (hk : k = 4) (hn : Nm.D.isB n = true) (hn8 : ∀ c ∈ n, c < 256) (hbl : b <= w.heap.size) (hkb : 0 < b) (hKn : Knd w)
  (hr : RF 2 (fun i => i < b) w A m (ccs cs)) (hmn : m <= 1000) (hcw : cs.map (·.1) = ws) (hB8 : D.B8 ws) (hl : ws.length = ks.length) (h0 : ws ≠ []) (h1 : ∀ x ∈ cs, ∃ (A : Option Addr) (n c : Nat), x.2 = .slice A n c)
  (hK : ∀ (j : Nat) (t : List Nat) (u : Value) (q : List D.Nd), cs[j]? = some (t, u) -> ks[j]? = some q -> WrC 33 b u w (D.prL q)) : WrC 61 b (.agg (nS.v ⟨k, ⟨#[]⟩, Nm.D.pad (D.sb n), A, m, c⟩)) w (D.prN (.mk 4 [] n ws ks)) := by
 intro W L hNu hB hsz
 have hts := ts_pad hn hn8
 have hnl : n ≠ [] := fun e => by rw [e] at hn; exact absurd hn (by decide)
 have hns := D.ns_sb hn8
 have HTX := Lib.hid (fun W' => Nm.text_any (Nm.D.pad (D.sb n)) W')
 rw [hts] at HTX
 obtain ⟨M, hM⟩ : ∃ M, Nm.D.pad (D.sb n) = M := ⟨_, rfl⟩
 rw [hM] at HTX ⊢
 have hlt := hB.lt
 have i1 : ((k : Int) != 1) = true := by simp; omega
 have HWS := Lib.hid (hws b)
 have HWB := Lib.hid (hwb b)
 have hkW := Nu.knd hKn hNu hkb hbl
 have hblW : b <= W.heap.size := Nat.le_trans hbl hNu.size
 obtain ⟨Y, hY⟩ : ∃ Y : D.Nv, ⟨k, ⟨#[]⟩, M, A, m, c⟩ = Y := ⟨_, rfl⟩
 have hY1 : Y.k = k := by rw [<- hY]
 have hY2 : Y.n = M := by rw [<- hY]
 have hY3 : Value.slice Y.A Y.m Y.c = .slice A m c := by rw [<- hY]
 rw [hY]
 clear hM hts hY
 obtain ⟨W1, hW1⟩ : ∃ W1, W.alloc (.cells (nS.v Y) 80) = W1 := ⟨_, rfl⟩
 have hG1 : Blk W1 W.heap.size 80 (nS.v Y) := by rw [<- hW1]; exact Blk.new _ _ _
 have hB1 : Bs b W1 L := by rw [<- hW1]; exact hB.on (below_alloc_ _ _)
 have hN1 : Nu b W W1 := by rw [<- hW1]; exact Nu.of_below (below_alloc_ _ _)
 have fG : ∀ W', Nu b W1 W' -> W'.cell? ⟨W.heap.size, 0, none⟩ = some (.int .i64 (k : Nat)) ∧ Nm.rd W' ⟨W.heap.size, 2, none⟩ = some M ∧ W'.cell? ⟨W.heap.size, 14, none⟩ = some (.slice A m c) ∧ W.heap.size < W'.heap.size := by
  intro W' h
  have hb := h.keep _ _ _ (by omega) (by decide) hG1
  have f := nf_blk hb
  have f1 := f.k; have f2 := f.n; have f3 := f.c
  simp only [Nat.zero_add] at f1 f2 f3
  rw [hY1] at f1; rw [hY2] at f2; rw [hY3] at f3
  exact ⟨f1, f2, f3, hb.lt⟩
 have FG := Lib.hid fG
 obtain ⟨g0, g1, g2, g3⟩ := fG W1 (Nu.refl _ _)
 subst hW1
 have HB1 := Lib.hid hB1
 have HN1 := Lib.hid hN1
 have HNS := Lib.hid hns
 have HNL := Lib.hid hnl
 have HKW := Lib.hid hkW
 have hlW : b <= (W.alloc (.cells (nS.v Y) 80)).heap.size := by simp; omega
 have HLW := Lib.hid hblW
 have HKB := Lib.hid hkb
 have HR := Lib.hid hr
 have HK := Lib.hid hK
 have HNW := Lib.hid hNu
 have H1 := Lib.hid h1
 have HB8 := Lib.hid hB8
 have HCW := Kept.mk hcw
 have HL := Lib.hid hl
 have H0 := Lib.hid h0
 have e_ : (D.prN (.mk 4 [] n ws ks)).length = n.length + 11 + (D.prC ws ks).length := by (simp [D.prN, D.selP]; omega)
 have hsz' : L.length + (n.length + 11 + (D.prC ws ks).length) <= 100000 := by omega
 clear e_
 clear hr hK h1 hB8 hcw hl h0
 have hc1 : ¬ 9223372036854775807 < 1 + (D.sb n).size := by rw [D.sb_len]; omega
 have hc2 : 1 + (D.sb n).size <= 9223372036854775807 := by rw [D.sb_len]; omega
 have ik : (k : Int) < 5 := by omega
 have ik' : k < 5 := by omega
 have HKE := Kept.mk hk
 have HA1 := Lib.hid (fun W' hW => hwl b W' L (123 :: n) (⟨#[123]⟩ ++ D.sb n) (by rw [ns_app_, hns]; rfl) (List.cons_ne_nil _ _) (by simp; omega) hW)
 have HA2 := Lib.hid (fun W' hW => hwl b W' (L ++ 123 :: n) [44, 32, 115, 101, 108, 101, 99, 116] (⟨#[44, 32]⟩ ++ ⟨#[115, 101, 108, 101, 99, 116]⟩) (by rw [ns_app_]; rfl) (List.cons_ne_nil _ _) (by simp; omega) hW)
 clear hB hNu hB1 hN1 fG hG1 hns hnl hkW hblW hlW hY1 hY2 hY3 hn hn8 hsz hKn hbl hkb hk
 go_enter Tryz.func61, Tryz.ntmps61
 go_wp2_with (first
  | (go_at_call 89; (with_reducible refine (HTX.out _).mono ?_); rintro e w2 ⟨rfl, b2⟩
     have N2 := Lib.hid (Nu.of_below (b := b) b2)
     have B2 := Lib.hid (HB1.out.on b2)
     clear b2)
  | (go_at_call 56; (with_reducible refine (HA1.out _ B2.out).mono ?_); rintro e w3 ⟨rfl, b3, n3⟩
     have N3 := Lib.hid (N2.out.trans n3)
     have B3 := Lib.hid b3
     obtain ⟨h0_, h1_, h2_, h3_⟩ := FG.out w3 (N2.out.trans n3)
     have hk3 := Nu.knd HKW.out (HN1.out.trans (N2.out.trans n3)) HKB.out HLW.out
     have kc : w3.cell? ⟨0, k, none⟩ = some (.string ⟨#[115, 101, 108, 101, 99, 116]⟩) := by rw [HKE.out]; exact hk3.c4
     clear b3 n3 h1_ hk3)
  | (go_at_call 56; (with_reducible refine (HA2.out _ B3.out).mono ?_); rintro e w4 ⟨rfl, b4, n4⟩
     have N4 := Lib.hid (N3.out.trans n4)
     have B4 := Lib.hid b4
     obtain ⟨j0_, j1_, j2_, j3_⟩ := FG.out w4 (N3.out.trans n4)
     clear b4 n4 j1_))
 have hcl : cs.length = m := by have := HR.out.row.len; rw [ccs_len] at this; omega
 have hwl_ : ws.length = m := by rw [<- HCW.out, List.length_map]; exact hcl
 go_loopw [25] (fun i wr => ∃ j : Nat, j <= m ∧ i = .int .i64 j ∧ Hid (Bs b wr ((L ++ 123 :: n ++ [44, 32, 115, 101, 108, 101, 99, 116]) ++ (if j = 0 then [] else 44 :: D.prC (ws.take (j)) (ks.take (j))))) ∧ Hid (Nu b (W.alloc (.cells (nS.v Y) 80)) wr)) (fun i _ => m - (intOf i).toNat)
 case atStart => exact ⟨0, Nat.zero_le _, rfl, Lib.hid (by simpa using B4.out), N4⟩
 case round =>
  obtain ⟨j, hj, rfl, HBj, HNj⟩ := hrel
  obtain ⟨wo, rfl⟩ : ∃ wo : World, wo = wr := ⟨_, rfl⟩
  have hNw := (HNW.out.trans HN1.out).trans HNj.out
  by_cases hlt2 : j < m
  ·obtain ⟨⟨t, u⟩, ht⟩ : ∃ a, cs[j]? = some a := ⟨_, List.getElem?_eq_getElem (by omega)⟩
   have hlk := HL.out
   obtain ⟨q, hq⟩ : ∃ q, ks[j]? = some q := ⟨_, List.getElem?_eq_getElem (by omega)⟩
   have hm : ws[j]? = some t := by rw [<- HCW.out]; simp [ht]
   have ht8 := HB8.out t (List.mem_of_getElem? hm)
   obtain ⟨Au, nu, cu, hu⟩ := H1.out _ (List.mem_of_getElem? ht)
   have hu : u = .slice Au nu cu := hu
   subst hu
   obtain ⟨e0, e1⟩ := ccs_at ht
   have HR' := (Nu.row HR.out hNw).row
   obtain ⟨ad, rfl, hbk, hc0⟩ := HR'.cell e0
   obtain ⟨ad', ead, _, hc1⟩ := HR'.cell e1
   cases ead
   have hI : (j : Int) < m := by omega
   have hc1' : wo.cell? ⟨(ad.add (j * 2)).block, (ad.add (j * 2)).off + 1, none⟩ = some (.slice Au nu cu) := by
    rw [<- hc1]
    unfold Addr.add
    by_cases h0 : j * 2 = 0
    ·simp [h0]
    ·simp [h0, Nat.add_assoc]
   have hsn := D.prC_snoc ws ks j t q hm hq hlk
   have hpart := D.prC_part ws ks (j + 1) hlk
   rw [hsn] at hpart
   simp only [List.length_append, List.length_cons, List.length_nil] at hpart
   have hd1 : ¬ 9223372036854775807 < 1 + (D.sb t).size := by rw [D.sb_len]; omega
   have hd2 : 1 + (D.sb t).size <= 9223372036854775807 := by rw [D.sb_len]; omega
   have hd3 : ¬ 9223372036854775807 < 1 + (D.sb t).size + 1 := by rw [D.sb_len]; omega
   have hd4 : 1 + (D.sb t).size + 1 <= 9223372036854775807 := by rw [D.sb_len]; omega
   have hC2 : Blk (wo.alloc (.cells #[.string (D.sb t), .slice Au nu cu] 101)) wo.heap.size 101 #[.string (D.sb t), .slice Au nu cu] := Blk.new _ _ _
   have hwo : b < wo.heap.size := HBj.out.lt
   have fC : ∀ W', Nu b (wo.alloc (.cells #[.string (D.sb t), .slice Au nu cu] 101)) W' -> W'.cell? ⟨wo.heap.size, 0, none⟩ = some (.string (D.sb t)) ∧ W'.cell? ⟨wo.heap.size, 1, none⟩ = some (.slice Au nu cu) ∧ wo.heap.size < W'.heap.size := fun W' h => by
    have hb := h.keep _ _ _ (by omega) (by decide) hC2
    exact ⟨hb.c_ 0, hb.c_ 1, hb.lt⟩
   have FC := Lib.hid fC
   obtain ⟨q0, q1, q2⟩ := fC _ (Nu.refl _ _)
   have hB2 := HBj.out.on (below_alloc_ wo (.cells #[.string (D.sb t), .slice Au nu cu] 101))
   have hN2 : Nu b wo (wo.alloc (.cells #[.string (D.sb t), .slice Au nu cu] 101)) := Nu.of_below (below_alloc_ _ _)
   have HB2 := Lib.hid hB2
   have HN2 := Lib.hid hN2
   have HNw := Lib.hid (hNw.trans hN2)
   have hll : (L ++ 123 :: n ++ [44, 32, 115, 101, 108, 101, 99, 116]).length = L.length + n.length + 9 := by simp; omega
   have HWA := Lib.hid (fun W' hW => hwl b W' ((L ++ 123 :: n ++ [44, 32, 115, 101, 108, 101, 99, 116]) ++ 44 :: D.prC (ws.take j) (ks.take j)) (32 :: (t ++ [123])) (⟨#[32]⟩ ++ D.sb t ++ ⟨#[123]⟩) (by rw [ns_app_, ns_app_, D.ns_sb ht8]; rfl) (List.cons_ne_nil _ _) (by rw [List.length_append, hll]; simp; omega) hW)
   have HWK := Lib.hid (fun W' hn hW => HK.out j t _ q ht hq W' ((L ++ 123 :: n ++ [44, 32, 115, 101, 108, 101, 99, 116]) ++ 44 :: D.prC (ws.take j) (ks.take j) ++ 32 :: (t ++ [123])) hn hW (by rw [List.length_append, List.length_append, hll]; simp; omega))
   have HWE := Lib.hid (fun W' hW => hwb b W' ((L ++ 123 :: n ++ [44, 32, 115, 101, 108, 101, 99, 116]) ++ 44 :: D.prC (ws.take j) (ks.take j) ++ 32 :: (t ++ [123]) ++ D.prL q) 125 125 rfl hW (by rw [List.length_append, List.length_append, List.length_append, hll]; simp; omega))
   have hfin : (L ++ 123 :: n ++ [44, 32, 115, 101, 108, 101, 99, 116]) ++ (if j + 1 = 0 then [] else 44 :: D.prC (ws.take (j + 1)) (ks.take (j + 1))) = (L ++ 123 :: n ++ [44, 32, 115, 101, 108, 101, 99, 116]) ++ 44 :: D.prC (ws.take j) (ks.take j) ++ 32 :: (t ++ [123]) ++ D.prL q ++ [125] := by
    rw [if_neg (by omega), hsn]
    simp
   have HFIN := Kept.mk hfin
   clear HR' e0 e1 hc1 hm ht8 ht hq hsn hpart hC2 fC hB2 hN2 hfin hlk hNw
   by_cases hj0 : j = 0
   ·have i0 : ((j : Int) == 0) = true := by simp; omega
    have hx0 : (L ++ 123 :: n ++ [44, 32, 115, 101, 108, 101, 99, 116]) ++ (if j = 0 then [] else 44 :: D.prC (ws.take (j)) (ks.take (j))) ++ [44] = (L ++ 123 :: n ++ [44, 32, 115, 101, 108, 101, 99, 116]) ++ 44 :: D.prC (ws.take j) (ks.take j) := by
     rw [if_pos hj0, hj0]
     simp [D.prC]
    have HX0 := Kept.mk hx0
    have HW4 := Lib.hid (hwb b _ _ 44 44 rfl HB2.out (by rw [List.length_append, hll, if_pos hj0]; simp; omega))
    clear hj0 hx0
    go_wp2_with (first
     | (go_at_call 60; (with_reducible refine HW4.out.mono ?_); rintro e w5 ⟨rfl, b5, n5⟩
        have N5 := Lib.hid n5
        have B5 := Lib.hid (show Bs b w5 ((L ++ 123 :: n ++ [44, 32, 115, 101, 108, 101, 99, 116]) ++ 44 :: D.prC (ws.take j) (ks.take j)) by rw [<- HX0.out]; exact b5)
        obtain ⟨r0, r1, r2⟩ := FC.out w5 n5
        clear b5 n5)
     | (go_at_call 56; (with_reducible refine (HWA.out _ B5.out).mono ?_); rintro e w6 ⟨rfl, b6, n6⟩
        have N6 := Lib.hid (N5.out.trans n6)
        have B6 := Lib.hid b6
        obtain ⟨s0, s1, s2⟩ := FC.out w6 (N5.out.trans n6)
        clear b6 n6)
     | (go_at_call 33; (with_reducible refine (HWK.out _ (HNw.out.trans N6.out) B6.out).mono ?_); rintro e w7 ⟨rfl, b7, n7⟩
        have N7 := Lib.hid (N6.out.trans n7)
        have B7 := Lib.hid b7
        clear b7 n7)
     | (go_at_call 60; (with_reducible refine (HWE.out _ B7.out).mono ?_); rintro e w8 ⟨rfl, b8, n8⟩
        have N8 := Lib.hid (N7.out.trans n8)
        have B8 := Lib.hid b8
        clear b8 n8))
    go_roundw
    case rel => exact ⟨j + 1, by omega, by go_num, Lib.hid (by rw [HFIN.out]; exact B8.out), Lib.hid (HNj.out.trans (HN2.out.trans N8.out))⟩
    case measure => simp [intOf]; omega
   ·have i0 : ((j : Int) == 0) = false := by simp; omega
    have hx0 : (L ++ 123 :: n ++ [44, 32, 115, 101, 108, 101, 99, 116]) ++ (if j = 0 then [] else 44 :: D.prC (ws.take (j)) (ks.take (j))) = (L ++ 123 :: n ++ [44, 32, 115, 101, 108, 101, 99, 116]) ++ 44 :: D.prC (ws.take j) (ks.take j) := by rw [if_neg hj0]
    rw [hx0] at HB2
    have B5 := HB2
    have N5 : Hid (Nu b (wo.alloc (.cells #[.string (D.sb t), .slice Au nu cu] 101)) (wo.alloc (.cells #[.string (D.sb t), .slice Au nu cu] 101))) := Lib.hid (Nu.refl _ _)
    clear hj0 hx0
    go_wp2_with (first
     | (go_at_call 56; (with_reducible refine (HWA.out _ B5.out).mono ?_); rintro e w6 ⟨rfl, b6, n6⟩
        have N6 := Lib.hid (N5.out.trans n6)
        have B6 := Lib.hid b6
        obtain ⟨s0, s1, s2⟩ := FC.out w6 (N5.out.trans n6)
        clear b6 n6)
     | (go_at_call 33; (with_reducible refine (HWK.out _ (HNw.out.trans N6.out) B6.out).mono ?_); rintro e w7 ⟨rfl, b7, n7⟩
        have N7 := Lib.hid (N6.out.trans n7)
        have B7 := Lib.hid b7
        clear b7 n7)
     | (go_at_call 60; (with_reducible refine (HWE.out _ B7.out).mono ?_); rintro e w8 ⟨rfl, b8, n8⟩
        have N8 := Lib.hid (N7.out.trans n8)
        have B8 := Lib.hid b8
        clear b8 n8))
    go_roundw
    case rel => exact ⟨j + 1, by omega, by go_num, Lib.hid (by rw [HFIN.out]; exact B8.out), Lib.hid (HNj.out.trans (HN2.out.trans N8.out))⟩
    case measure => simp [intOf]; omega
  ·obtain rfl : j = m := by omega
   have h0m : ¬ j = 0 := fun e => H0.out (List.eq_nil_of_length_eq_zero (by omega))
   have hwall : ws.take j = ws := List.take_of_length_le (by omega)
   have hkall : ks.take j = ks := List.take_of_length_le (by have := HL.out; omega)
   have hb1 := HBj.out
   rw [if_neg h0m, hwall, hkall] at hb1
   have HE1 := Lib.hid (hwb b wo _ 125 125 rfl hb1 (by simp; omega))
   clear hb1 hwall hkall h0m
   go_wp2_with (go_at_call 60; (with_reducible refine HE1.out.mono ?_); rintro e w9 ⟨rfl, b9, n9⟩)
   go_end0
   refine ⟨rfl, ?_, (HN1.out.trans HNj.out).trans n9⟩
   have e : L ++ D.prN (.mk 4 [] n ws ks) = (L ++ 123 :: n ++ [44, 32, 115, 101, 108, 101, 99, 116]) ++ 44 :: D.prC ws ks ++ [125] := by simp [D.prN, D.selP]
   rw [e]
   exact b9
end Go.Proofs.YtgnjjlgmlokhmaaGreatDoor
namespace Go.Proofs.YtgnjjlgmlokhmaaGreatDoor
open Go.RowKit
attribute [local go_sem ↓] Go.wp_at_zero Go.wp_at_succ

theorem prC_256 : ∀ {ws : List (List Nat)} {ks : List (List D.Nd)}, D.B8 ws -> (∀ q ∈ ks, ∀ c ∈ D.prL q, c < 256) -> ∀ c ∈ D.prC ws ks, c < 256
 | [], _, _, _, c, h => by simp [D.prC] at h
 | w :: ws, [], _, _, c, h => by simp [D.prC] at h
 | w :: ws, k :: ks, hw, hk, c, h => by
  simp [D.prC] at h
  rcases h with rfl | h | rfl | h | rfl | h
  ·decide
  ·exact hw w (by simp) c h
  ·decide
  ·exact hk k (by simp) c h
  ·decide
  ·exact prC_256 (fun x hx => hw x (by simp [hx])) (fun q hq => hk q (by simp [hq])) c h
theorem prN_256 {ch : Bool} {kids : Bool -> List D.Nd -> Prop} {v : Bool} {x : D.Nd} (hx : D.okNd ch kids v x) (hb : D.Bt x) (hk : ∀ q ∈ x.ks, ∀ c ∈ D.prL q, c < 256) : ∀ c ∈ D.prN x, c < 256 := by
 obtain ⟨k, t, n, ws, ks⟩ := x
 obtain ⟨h1, h2, h3⟩ := hb
 simp only [D.Nd.t, D.Nd.n, D.Nd.ws, D.Nd.ks] at h1 h2 h3 hk
 intro c hc
 have hcc := prC_256 h3 hk c
 rcases hx with ⟨e, _⟩ | ⟨e, _⟩ | ⟨e, _⟩ | ⟨e, _⟩
 ·simp only [D.Nd.k] at e
  subst e
  simp [D.prN] at hc
  exact h1 c hc
 ·injection e with e1 e2 e3 e4 e5
  subst e1
  simp [D.prN] at hc
  omega
 ·simp only [D.Nd.k] at e
  rcases e with rfl | rfl
  ·simp [D.prN] at hc
   rcases hc with rfl | hc | rfl
   ·decide
   ·exact h2 c hc
   ·decide
  ·simp [D.prN, D.numP] at hc
   rcases hc with rfl | hc | hc
   ·decide
   ·exact h2 c hc
   ·omega
 ·simp only [D.Nd.k] at e
  rcases e with rfl | rfl
  ·simp [D.prN, D.pluP] at hc
   rcases hc with rfl | hc | hc
   ·decide
   ·exact h2 c hc
   ·rcases hc with hc | hc | hc | hc | hc | hc | hc | hc | hc | hc | hc <;> first | omega | exact hcc hc
  ·simp [D.prN, D.selP] at hc
   rcases hc with rfl | hc | hc
   ·decide
   ·exact h2 c hc
   ·rcases hc with hc | hc | hc | hc | hc | hc | hc | hc | hc | hc | hc <;> first | omega | exact hcc hc
theorem prL_256l : ∀ {l : List D.Nd}, (∀ x ∈ l, ∀ c ∈ D.prN x, c < 256) -> ∀ c ∈ D.prL l, c < 256
 | [], _, c, h => by simp [D.prL] at h
 | x :: l, hl, c, h => by
  rw [D.prL, List.mem_append] at h
  rcases h with h | h
  ·exact hl x (by simp) c h
  ·exact prL_256l (fun y hy => hl y (by simp [hy])) c h
theorem prL_256 {F : Nat -> Prop} {w : World} : ∀ (r : Nat) {v : Bool} {u : Value} {l : List D.Nd}, Pm F w r u l -> D.Rt r v l -> ∀ c ∈ D.prL l, c < 256
 | 0, v, u, l, hP, hR => by
  obtain ⟨A, n, c, vs, rfl, hc, hr, hl, hb⟩ := (Pm_eq F w 0 _ _).1 hP
  refine prL_256l fun x hx => ?_
  obtain ⟨j, hj, e⟩ := List.mem_iff_getElem.1 hx
  have hj' : l[j]? = some x := by rw [List.getElem?_eq_getElem hj, e]
  obtain ⟨p, hp⟩ : ∃ p, vs[j]? = some (x, p) := by
   rw [<- hl] at hj'
   simp at hj'
   obtain ⟨a, ha⟩ := hj'
   exact ⟨_, ha⟩
  have h1 := (D.okLs_at hR hj').1
  have h2 := hb j x p hp
  refine prN_256 h1 h2.1 fun q hq => ?_
  rcases h1 with ⟨_, _, _, h, _⟩ | ⟨h, _⟩ | ⟨_, _, _, h, _⟩ | ⟨_, h, _⟩
  ·rw [h] at hq; cases hq
  ·rw [h] at hq; cases hq
  ·rw [h] at hq; cases hq
  ·cases h
 | r + 1, v, u, l, hP, hR => by
  obtain ⟨A, n, c, vs, rfl, hc, hr, hl, hb⟩ := (Pm_eq F w (r + 1) _ _).1 hP
  refine prL_256l fun x hx => ?_
  obtain ⟨j, hj, e⟩ := List.mem_iff_getElem.1 hx
  have hj' : l[j]? = some x := by rw [List.getElem?_eq_getElem hj, e]
  obtain ⟨p, hp⟩ : ∃ p, vs[j]? = some (x, p) := by
   rw [<- hl] at hj'
   simp at hj'
   obtain ⟨a, ha⟩ := hj'
   exact ⟨_, ha⟩
  have h1 := (D.okLs_at hR hj').1
  have h2 := hb j x p hp
  refine prN_256 h1 h2.1 fun q hq => ?_
  rcases h1 with ⟨_, _, _, h, _⟩ | ⟨h, _⟩ | ⟨_, _, _, h, _⟩ | ⟨_, _, _, _, _, _, _, h⟩
  ·rw [h] at hq; cases hq
  ·rw [h] at hq; cases hq
  ·rw [h] at hq; cases hq
  ·obtain ⟨i, hi, e⟩ := List.mem_iff_getElem.1 hq
   obtain ⟨_, _, cs, _, _, _, hcl, hkk⟩ := h2
   have hi' : x.ks[i]? = some q := by rw [List.getElem?_eq_getElem hi, e]
   have hci : cs[i]? = some (cs[i]'(by omega)) := List.getElem?_eq_getElem _
   exact prL_256 r (hkk i _ _ q hci hi') (h q hq)
theorem write_any (b : Nat) : ∀ (r : Nat) (v : Bool) (w : World) (u : Value) (l : List D.Nd), Pm (fun i => i < b) w r u l -> D.Rt r v l -> (D.prL l).length <= 1000 -> b <= w.heap.size -> 0 < b -> Knd w -> WrC 33 b u w (D.prL l)
 | 0, v, w, u, l, hP, hR, hsz, hbl, hkb, hKn => by
  obtain ⟨A, n, c, vs, rfl, hc, hr, hl, hb⟩ := (Pm_eq _ w 0 _ _).1 hP
  have hn : n <= 1000 := by
   have h1 := hr.row.len
   rw [Shp.rcs_len, nvs_len, show nS.n = 15 from rfl] at h1
   have h2 := D.len_le hR
   have h3 : l.length = vs.length := by rw [<- hl]; simp
   omega
  rw [<- hl]
  refine write_row b n c A vs w hr hn hbl (fun j x p hj hk => ?_) (fun j x p hj hk => ?_) (fun j x p hj h0 h5 => ?_)
  ·have h1 := (D.okLs_at hR (vs_list hl hj)).1
   rcases h1 with ⟨_, _, _, _, h, _⟩ | ⟨h, _⟩ | ⟨h, _⟩ | ⟨h, _⟩
   ·exact ⟨h, (hb j x p hj).1.1⟩
   ·rw [h] at hk; cases hk
   ·omega
   ·omega
  ·have h1 := (D.okLs_at hR (vs_list hl hj)).1
   rcases h1 with ⟨h, _⟩ | ⟨h, _⟩ | ⟨h, _⟩ | ⟨h, _⟩
   ·omega
   ·rw [h]; exact D.prN_sign
   ·omega
   ·omega
  ·have h1 := (D.okLs_at hR (vs_list hl hj)).1
   have h2 := hb j x p hj
   obtain ⟨k, t, nm, ws, ks⟩ := x
   obtain ⟨A', m, c'⟩ := p
   rcases h1 with ⟨h, _⟩ | ⟨h, _⟩ | ⟨hk, ht, hws, hks, hnb⟩ | ⟨_, h, _⟩
   ·exact absurd h h0
   ·rw [h] at h5; exact absurd rfl h5
   ·simp only [D.Nd.k, D.Nd.t, D.Nd.n, D.Nd.ws, D.Nd.ks] at hk ht hws hks hnb
    subst ht hws hks
    have hm := leaf_m h2 rfl
    simp only at hm
    subst hm
    rcases hk with rfl | rfl
    ·exact writePlace_arg b 1 c' A' nm w rfl hnb h2.1.2.1 hbl hkb hKn
    ·exact writePlace_num b 2 c' A' nm w rfl hnb h2.1.2.1 hbl hkb hKn
   ·cases h
 | r + 1, v, w, u, l, hP, hR, hsz, hbl, hkb, hKn => by
  obtain ⟨A, n, c, vs, rfl, hc, hr, hl, hb⟩ := (Pm_eq _ w (r + 1) _ _).1 hP
  have hn : n <= 1000 := by
   have h1 := hr.row.len
   rw [Shp.rcs_len, nvs_len, show nS.n = 15 from rfl] at h1
   have h2 := D.len_le hR
   have h3 : l.length = vs.length := by rw [<- hl]; simp
   omega
  have hl' := hl
  rw [<- hl]
  refine write_row b n c A vs w hr hn hbl (fun j x p hj hk => ?_) (fun j x p hj hk => ?_) (fun j x p hj h0 h5 => ?_)
  ·have h1 := (D.okLs_at hR (vs_list hl hj)).1
   rcases h1 with ⟨_, _, _, _, h, _⟩ | ⟨h, _⟩ | ⟨h, _⟩ | ⟨h, _⟩
   ·exact ⟨h, (hb j x p hj).1.1⟩
   ·rw [h] at hk; cases hk
   ·omega
   ·omega
  ·have h1 := (D.okLs_at hR (vs_list hl hj)).1
   rcases h1 with ⟨h, _⟩ | ⟨h, _⟩ | ⟨h, _⟩ | ⟨h, _⟩
   ·omega
   ·rw [h]; exact D.prN_sign
   ·omega
   ·omega
  ·have hx := vs_list hl hj
   have h1 := (D.okLs_at hR hx).1
   have h2 := hb j x p hj
   have hxs := D.prL_mem (List.mem_of_getElem? hx)
   obtain ⟨k, t, nm, ws, ks⟩ := x
   obtain ⟨A', m, c'⟩ := p
   rcases h1 with ⟨h, _⟩ | ⟨h, _⟩ | ⟨hk, ht, hws, hks, hnb⟩ | ⟨hk, _, ht, hnb, hll, ho, hwd, hkd⟩
   ·exact absurd h h0
   ·rw [h] at h5; exact absurd rfl h5
   ·simp only [D.Nd.k, D.Nd.t, D.Nd.n, D.Nd.ws, D.Nd.ks] at hk ht hws hks hnb
    subst ht hws hks
    have hm := leaf_m h2 rfl
    simp only at hm
    subst hm
    rcases hk with rfl | rfl
    ·exact writePlace_arg b 1 c' A' nm w rfl hnb h2.1.2.1 hbl hkb hKn
    ·exact writePlace_num b 2 c' A' nm w rfl hnb h2.1.2.1 hbl hkb hKn
   ·simp only [D.Nd.k, D.Nd.t, D.Nd.n, D.Nd.ws, D.Nd.ks] at hk ht hnb hll ho hwd hkd
    subst ht
    obtain ⟨hbt, hcap, cs, hrc, hcw, h1c, hcl, hkk⟩ := h2
    simp only [D.Nd.ks, D.Nd.ws] at hcw hcl hkk hrc hcap
    have hcz : (D.prC ws ks).length <= 1000 := by
     have := D.prN_cas (x := .mk k [] nm ws ks) hk
     simp only [D.Nd.ks, D.Nd.ws] at this
     omega
    have hmn : m <= 1000 := by
     have h1 := hrc.row.len
     simp only [ccs_len] at h1
     have h2 := D.prC_lenw hll
     omega
    have hK : ∀ (j : Nat) (t : List Nat) (u : Value) (q : List D.Nd), cs[j]? = some (t, u) -> ks[j]? = some q -> WrC 33 b u w (D.prL q) := fun j t u q hc hq =>
     write_any b r (v || k == 3) w u q (hkk j t u q hc hq) (hkd q (List.mem_of_getElem? hq)) (by have := D.prC_at hll hq; omega) hbl hkb hKn
    have hne : ws ≠ [] := fun e => by rw [e] at ho; cases ho
    rcases hk with rfl | rfl
    ·exact writePlace_plu b 3 m c' A' nm ws ks cs w rfl hnb hbt.2.1 hbl hkb hKn hrc hmn hcw hbt.2.2 hll hne (ccs_kids hcl hkk) hK
    ·exact writePlace_sel b 4 m c' A' nm ws ks cs w rfl hnb hbt.2.1 hbl hkb hKn hrc hmn hcw hbt.2.2 hll hne (ccs_kids hcl hkk) hK
def D.prT (l : List D.Nd) : List Nat × Nat := if 60 < (D.prL l).length then ([], 2) else (D.prL l, 0)
set_option maxHeartbeats 4000000 in
theorem print_any (F : Nat -> Prop) (w : World) (u : Value) (l : List D.Nd) (hP : Pm F w 3 u l) (hR : D.Rt 3 false l) (hsz : (D.prL l).length <= 1000) (hG : Gv w) :
  Calls Tryz.prog 15 #[u] w fun e w' => e = .returned (.tuple #[.string (D.sb (D.prT l).1), .int .i64 ((D.prT l).2 : Nat)]) ∧ Below w.heap.size w w' := by
 have hT : Calls Tryz.prog 32 #[.agg #[.int .i64 0, .bool false], u] w fun e w' => e = .returned (.bool true) ∧ Below w.heap.size w w' := tell_any 3 0 (by omega) false F w u l hP hR hsz hG.e
 have h256 := prL_256 3 hP hR
 have hW := fun W (hb : Below w.heap.size w W) => write_any W.heap.size 3 false (W.alloc (.cells #[.pointer none, .slice none 0 0] 92)) u l (((hP.keep (keeps_below hb)).weaken (fun i hi _ => hi)).keep (keeps_below (below_alloc_ _ _))) hR hsz (by simp) (by have := (hG.on hb).lt; exact this.2) ((hG.on hb).on (below_alloc_ _ _)).k _ [] (Nu.refl _ _) (bd_new _ _ rfl) (by simp; omega)
 obtain ⟨L, hL⟩ : ∃ L, D.prL l = L := ⟨_, rfl⟩
 unfold D.prT
 rw [hL] at hW h256 hsz ⊢
 have HT := Lib.hid hT
 have HW := Lib.hid hW
 have H2 := Lib.hid h256
 clear hT hW h256 hP hR hG hL
 by_cases h60 : 60 < L.length
 ·rw [if_pos h60]
  have i60 : (60 : Int) < L.length := by omega
  clear h60
  go_enter Tryz.func15, Tryz.ntmps15
  go_wp2_with (first
   | (go_at_call 32; (with_reducible refine HT.out.mono ?_); rintro e w1 ⟨rfl, b1⟩; have B1 := Lib.hid b1; clear b1)
   | (go_at_call 33; (with_reducible refine (HW.out _ B1.out).mono ?_); rintro e w2 ⟨rfl, b2, n2⟩
      have B2 := Lib.hid (show Bs w1.heap.size w2 L from b2)
      have N2 := Lib.hid n2
      clear b2 n2)
   | (go_at_call 34; (with_reducible refine (lenB_any B2.out).mono ?_); rintro e w3 ⟨rfl, rfl⟩))
  refine bodyPost_ret (v := .tuple #[.string ⟨#[]⟩, .int .i64 2]) (by simp [results, Tryz.results15, go_sem]) rfl ⟨rfl, ?_⟩
  exact B1.out.trans (((below_alloc_ w1 _).trans (N2.out.below (by simp))).mono B1.out.size)
 ·rw [if_neg h60]
  have i60 : ¬ (60 : Int) < L.length := by omega
  have i60' : (L.length : Int) <= 60 := by omega
  clear h60
  go_enter Tryz.func15, Tryz.ntmps15
  go_wp2_with (first
   | (go_at_call 32; (with_reducible refine HT.out.mono ?_); rintro e w1 ⟨rfl, b1⟩; have B1 := Lib.hid b1; clear b1)
   | (go_at_call 33; (with_reducible refine (HW.out _ B1.out).mono ?_); rintro e w2 ⟨rfl, b2, n2⟩
      have B2 := Lib.hid (show Bs w1.heap.size w2 L from b2)
      have N2 := Lib.hid n2
      clear b2 n2)
   | (go_at_call 34; (with_reducible refine (lenB_any B2.out).mono ?_); rintro e w3 ⟨rfl, rfl⟩)
   | (go_at_call 31; (with_reducible refine (textB_any B2.out H2.out).mono ?_); rintro e w3 ⟨rfl, b3⟩))
  refine bodyPost_ret (v := .tuple #[.string (D.sb L), .int .i64 0]) (by simp [results, Tryz.results15, go_sem]) rfl ⟨rfl, ?_⟩
  have hs := N2.out.size
  simp at hs
  exact B1.out.trans (((below_alloc_ w1 _).trans ((N2.out.below (by simp)).trans (b3.mono (Nat.le_succ _)))).mono B1.out.size)
end Go.Proofs.YtgnjjlgmlokhmaaGreatDoor
