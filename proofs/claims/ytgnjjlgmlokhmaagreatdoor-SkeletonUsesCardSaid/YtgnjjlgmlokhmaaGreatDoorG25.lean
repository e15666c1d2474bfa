/-
  
-/
import Derived.Test.YtgnjjlgmlokhmaaGreatDoorG13
import Derived.Test.YtgnjjlgmlokhmaaGreatDoorG24
import Derived.Test.YtgnjjlgmlokhmaaGreatDoorG06
set_option linter.unusedVariables false
set_option linter.unusedSimpArgs false
set_option maxRecDepth 100000
namespace Go.Proofs.YtgnjjlgmlokhmaaGreatDoor
open Go.RowKit
attribute [local go_sem ↓] Go.wp_at_zero Go.wp_at_succ ld_a ld_n st_a st_n eq_a eq_n ne_a ne_n lv_a lv_n lp_3 lp_4
attribute [local go_sem] run_ld_a run_ld_n run_sw_a run_sw_n run_eq_a run_eq_n run_ne_a run_ne_n run_lv_a run_lv_n st_z ne_z eq_z rd_new rd_old rd_drew rd_drewN rd_set tn_new tn_old tn_drew tn_drewN setRow_alloc run_lp_3 run_lp_4

def zs (l : List Int) : List Value := l.map fun b => .int .i64 b
theorem zs_len (l : List Int) : (zs l).length = l.length := by simp [zs]
theorem zs_at {l : List Int} {i : Nat} {b : Int} (h : l[i]? = some b) : (zs l)[i]? = some (.int .i64 b) := by simp [zs, h]
set_option maxHeartbeats 2000000 in
theorem index_any (A : Option Addr) (n c : Nat) (l : List Int) (z : Int) (w : World) (hr : Row w A n (zs l)) (hn : n <= 1000000) :
  Calls Tryz.prog 111 #[.slice A n c, .int .i64 z] w fun e w' => (∃ r : Int, e = .returned (.int .i64 r) ∧ Kept (decide (0 <= r) = decide (z ∈ l))) ∧ w = w' := by
 have hlen := hr.len
 rw [zs_len] at hlen
 go_enter Tryz.func111, Tryz.ntmps111
 go_wp2
 go_loopw [8] (fun i wr => ∃ k : Nat, k <= n ∧ i = .int .i64 k ∧ Kept (∀ j, j < k -> l[j]? ≠ some z) ∧ wr = w) (fun i _ => n - (intOf i).toNat)
 case atStart => exact ⟨0, Nat.zero_le _, rfl, ⟨fun j hj => by omega⟩, rfl⟩
 case round =>
  obtain ⟨k, hk, rfl, HN, rfl⟩ := hrel
  by_cases hlt : k < n
  ·have hkl : k < l.length := by omega
   obtain ⟨b, hb⟩ : ∃ b, l[k]? = some b := ⟨_, List.getElem?_eq_getElem hkl⟩
   obtain ⟨ad, rfl, hc⟩ := hr.cell (zs_at hb)
   have hI : (k : Int) < n := by omega
   by_cases e : z = b
   ·have HA : Kept (decide (0 <= (k : Int)) = decide (z ∈ l)) := ⟨by rw [decide_eq_true (show 0 <= (k : Int) by omega), decide_eq_true (show z ∈ l from List.mem_of_getElem? (e ▸ hb))]⟩
    subst e
    clear HN hb hr hlen hkl
    go_wp2
    go_ret
    exact ⟨⟨_, rfl, HA⟩, rfl⟩
   ·have HN' : Kept (∀ j, j < k + 1 -> l[j]? ≠ some z) := ⟨fun j hj => by
     obtain h | rfl : j < k ∨ j = k := by omega
     ·exact HN.out j h
     ·rw [hb]; intro h; injection h with h; exact e h.symm⟩
    have e' : (z == b) = false := by simpa using e
    clear HN hb hr hlen hkl
    go_wp2
    go_roundw
    case rel => exact ⟨k + 1, by omega, by go_num, HN', trivial⟩
    case measure => simp [intOf]; omega
  ·obtain rfl : k = n := by omega
   have HA : Kept (decide (0 <= (-1 : Int)) = decide (z ∈ l)) := ⟨by
    rw [decide_eq_false (show ¬ 0 <= (-1 : Int) by omega), eq_comm, decide_eq_false_iff_not]
    intro h
    obtain ⟨j, hj, e⟩ := List.mem_iff_getElem.1 h
    exact HN.out j (by omega) (by rw [List.getElem?_eq_getElem hj, e])⟩
   clear HN hr
   go_wp2
   go_ret
   exact ⟨⟨_, rfl, HA⟩, rfl⟩
theorem contains_any (A : Option Addr) (n c : Nat) (l : List Int) (z : Int) (w : World) (hr : Row w A n (zs l)) (hn : n <= 1000000) :
  Calls Tryz.prog 123 #[.slice A n c, .int .i64 z] w fun e w' => e = .returned (.bool (decide (z ∈ l))) ∧ w = w' := by
 have C := Lib.hid (index_any A n c l z w hr hn)
 clear hr
 go_enter Tryz.func123, Tryz.ntmps123
 go_wp2_with (go_at_call 111; (with_reducible refine C.out.mono ?_); rintro e w1 ⟨⟨r, rfl, HA⟩, rfl⟩)
 go_ret
 exact ⟨bool_of HA.out, rfl⟩
noncomputable def ixa (v i : Value) : Sem Value := Instr.index 184 v i
theorem ix_a (v i : Value) : Instr.index 184 v i = ixa v i := rfl
theorem run_ixa0 (a b : Int) (w : World) : (ixa (.agg #[.int .i64 a, .int .i64 b]) (.int .i64 0)).run Tryz.prog w = .ok (.int .i64 a) w := by kernel_rfl
theorem run_ixa1 (a b : Int) (w : World) : (ixa (.agg #[.int .i64 a, .int .i64 b]) (.int .i64 1)).run Tryz.prog w = .ok (.int .i64 b) w := by kernel_rfl
attribute [local go_sem ↓] ix_a
attribute [local go_sem] run_ixa0 run_ixa1
def D.pick (c : Int) (l : List Int) : Int × Bool := if c ∈ l then (c, true) else if 5 ∈ l then (5, true) else (0, false)
set_option maxHeartbeats 4000000 in
theorem pick_any (x : D.Tg) (n : Nat) (A : Option Addr) (m c : Nat) (l : List Int) (w : World) (hr : Row w A m (zs l)) (hm : m <= 1000000) :
  Calls Tryz.prog 110 #[.agg (nc x), .int .u64 n, .slice A m c] w fun e w' => e = .returned (.tuple #[.int .i64 (D.pick (D.pof (D.gr x) n : Nat) l).1, .bool (D.pick (D.pof (D.gr x) n : Nat) l).2]) ∧ Below w.heap.size w w' := by
 have f0 := rd_new w w.heap.size 61 x rfl
 have cO := fun W => of_any x n W
 obtain ⟨q, hq⟩ : ∃ q, D.pof (D.gr x) n = q := ⟨_, rfl⟩
 rw [hq] at cO ⊢
 have CO := Lib.hid cO
 clear cO hq
 go_enter Tryz.func110, Tryz.ntmps110
 go_wp2_with (go_at_call 122; (with_reducible refine (CO.out _).mono ?_); rintro e w1 ⟨rfl, b1⟩; have z1 := (Fw.self w).alloc (.cells (nc x) 61) |>.on b1)
 have r1 := (hr.alloc (.cells (nc x) 61)).on b1
 clear CO f0 hr b1
 have C := fun z => contains_any A m c l z w1 r1 hm
 go_loopw [14] (fun i wr => ∃ k : Nat, k <= 2 ∧ (k = 0 -> i = .int .i64 0) ∧ (k = 1 -> i = .int .i64 1) ∧ (k = 2 -> i = .int .i64 2) ∧ Kept (1 <= k -> (q : Int) ∉ l) ∧ Kept (2 <= k -> (5 : Int) ∉ l) ∧ wr = w1) (fun i _ => 2 - (intOf i).toNat)
 case atStart => exact ⟨0, Nat.zero_le _, fun _ => rfl, fun h => by omega, fun h => by omega, ⟨fun h => by omega⟩, ⟨fun h => by omega⟩, rfl⟩
 case round =>
  obtain ⟨k, hk, h0, h1, h2, K1, K2, rfl⟩ := hrel
  obtain rfl | rfl | rfl : k = 0 ∨ k = 1 ∨ k = 2 := by omega
  ·obtain rfl := h0 rfl
   clear h0 h1 h2 K1 K2
   have cq := C q
   obtain ⟨b, hb⟩ : ∃ b, decide ((q : Int) ∈ l) = b := ⟨_, rfl⟩
   rw [hb] at cq
   have CQ := Lib.hid cq
   clear cq C
   cases b
   ·have hn : Kept ((q : Int) ∉ l) := ⟨of_decide_eq_false hb⟩
    clear hb
    go_wp2_with (go_at_call 123; (with_reducible refine CQ.out.mono ?_); rintro e w2 ⟨rfl, rfl⟩)
    go_roundw
    case rel => exact ⟨1, by omega, fun h => by omega, fun _ => rfl, fun h => by omega, ⟨fun _ => hn.out⟩, ⟨fun h => by omega⟩, trivial⟩
    case measure => simp [intOf]
   ·have hp : Kept (D.pick q l = ((q : Int), true)) := ⟨by unfold D.pick; rw [if_pos (of_decide_eq_true hb)]⟩
    clear hb
    go_wp2_with (go_at_call 123; (with_reducible refine CQ.out.mono ?_); rintro e w2 ⟨rfl, rfl⟩)
    go_ret2
    exact ⟨by rw [hp.out]; rfl, z1.below⟩
  ·obtain rfl := h1 rfl
   have hn : Kept ((q : Int) ∉ l) := ⟨K1.out (by omega)⟩
   clear h0 h1 h2 K1 K2
   have cq := C 5
   obtain ⟨b, hb⟩ : ∃ b, decide ((5 : Int) ∈ l) = b := ⟨_, rfl⟩
   rw [hb] at cq
   have CQ := Lib.hid cq
   clear cq C
   cases b
   ·have hn5 : Kept ((5 : Int) ∉ l) := ⟨of_decide_eq_false hb⟩
    clear hb
    go_wp2_with (go_at_call 123; (with_reducible refine CQ.out.mono ?_); rintro e w2 ⟨rfl, rfl⟩)
    go_roundw
    case rel => exact ⟨2, by omega, fun h => by omega, fun h => by omega, fun _ => rfl, ⟨fun _ => hn.out⟩, ⟨fun _ => hn5.out⟩, trivial⟩
    case measure => simp [intOf]
   ·have hp : Kept (D.pick q l = (5, true)) := ⟨by unfold D.pick; rw [if_neg hn.out, if_pos (of_decide_eq_true hb)]⟩
    clear hb
    go_wp2_with (go_at_call 123; (with_reducible refine CQ.out.mono ?_); rintro e w2 ⟨rfl, rfl⟩)
    go_ret2
    exact ⟨by rw [hp.out]; rfl, z1.below⟩
  ·obtain rfl := h2 rfl
   have hp : Kept (D.pick q l = (0, false)) := ⟨by unfold D.pick; rw [if_neg (K1.out (by omega)), if_neg (K2.out (by omega))]⟩
   clear h0 h1 h2 K1 K2 C
   go_wp2
   go_ret2
   exact ⟨by rw [hp.out]; rfl, z1.below⟩
end Go.Proofs.YtgnjjlgmlokhmaaGreatDoor
namespace Go.Proofs.YtgnjjlgmlokhmaaGreatDoor
open Go.RowKit
attribute [local go_sem ↓] Go.wp_at_zero Go.wp_at_succ
namespace D
def kid (ws : List (List Nat)) (ks : List (List Nd)) (t : List Nat) : List Nd := ks.getD (if t ∈ ws then ws.idxOf t else ws.idxOf othT) []
def rnN (g : Nat) (vf : List Nat -> Option (Nat × List Nat)) (K : Nat -> List Nd -> Option (List Nat)) (s : Nat) (x : Nd) : Option (List Nat) :=
 if x.k = 0 then some x.t else if x.k = 5 then some (dg s) else match vf x.n with
 | none => none
 | some (n, t) => if x.k = 3 then K n (kid x.ws x.ks (catW.getD (pof g n) [])) else if x.k = 4 then K s (kid x.ws x.ks t) else if x.k = 1 ∧ t ≠ [] then some t else some (dg n)
def rnL (N : Nd -> Option (List Nat)) : List Nd -> Option (List Nat)
 | [] => some []
 | x :: l => (N x).bind fun a => (rnL N l).map fun b => a ++ b
def rnd (g : Nat) (vf : List Nat -> Option (Nat × List Nat)) : Nat -> Nat -> List Nd -> Option (List Nat)
 | 0, s, l => rnL (rnN g vf (fun _ _ => none) s) l
 | r + 1, s, l => rnL (rnN g vf (rnd g vf r) s) l
theorem rnL_app (N : Nd -> Option (List Nat)) : ∀ (l k : List Nd), rnL N (l ++ k) = (rnL N l).bind fun a => (rnL N k).map fun b => a ++ b
 | [], k => by simp [rnL]
 | x :: l, k => by
  simp only [List.cons_append, rnL, rnL_app N l k]
  cases N x with
  | none => rfl
  | some a =>
   cases rnL N l with
   | none => rfl
   | some b =>
    cases rnL N k with
    | none => rfl
    | some c => simp
theorem rnL_next {N : Nd -> Option (List Nat)} {l : List Nd} {j : Nat} {x : Nd} {t : List Nat} (hx : l[j]? = some x) (ht : rnL N (l.take j) = some t) {a : List Nat} (ha : N x = some a) : rnL N (l.take (j + 1)) = some (t ++ a) := by
 rw [List.take_add_one, hx, rnL_app, ht]
 simp [rnL, ha]
theorem rnL_stop {N : Nd -> Option (List Nat)} {l : List Nd} {j : Nat} {x : Nd} {t : List Nat} (hx : l[j]? = some x) (ht : rnL N (l.take j) = some t) (ha : N x = none) : rnL N l = none := by
 have e : l = l.take j ++ x :: l.drop (j + 1) := by
  have h := (List.getElem?_eq_some_iff.1 hx)
  rw [<- h.2, List.getElem_cons_drop, List.take_append_drop]
 rw [e, rnL_app, ht]
 simp [rnL, ha]
theorem rnL_le {N : Nd -> Option (List Nat)} : ∀ {l : List Nd}, (∀ x ∈ l, ∀ a, N x = some a -> a.length <= 20 * (prN x).length) -> ∀ t, rnL N l = some t -> t.length <= 20 * (prL l).length
 | [], _, t, h => by simp [rnL] at h; subst h; simp
 | x :: l, hN, t, h => by
  simp only [rnL] at h
  cases ha : N x with
  | none => rw [ha] at h; cases h
  | some a =>
   rw [ha] at h
   cases hb : rnL N l with
   | none => rw [hb] at h; cases h
   | some b =>
    rw [hb] at h
    simp at h
    subst h
    have h1 := hN x (by simp) a ha
    have h2 := rnL_le (fun y hy => hN y (by simp [hy])) b hb
    simp only [prL, List.length_append]
    omega
theorem dg_len (n : Nat) (hn : n < 18446744073709551616) : (dg n).length <= 20 ∧ dg n ≠ [] := by
 unfold dg
 rw [List.length_map, Lib.decDigits_length]
 have h1 := Lib.nDigits_pos n
 have h2 : Lib.nDigits n <= 20 := by
  rcases Nat.eq_zero_or_pos n with rfl | h
  ·rw [Lib.nDigits_small (by omega)]; omega
  ·have := Lib.numDigits_eq n h hn
   split at this <;> omega
 refine ⟨h2, fun e => ?_⟩
 have h3 := congrArg List.length e
 rw [List.length_map, Lib.decDigits_length] at h3
 simp at h3
 omega
end D
abbrev Rr (x : D.Tg) (g : Nat) : List Value := bys x.l ++ [.map (some g)]
abbrev Rn (x : D.Tg) (g b : Nat) (w : World) (l : List Nat) : Prop := Bd 94 (Rr x g) b w l
theorem rr_len (x : D.Tg) (g : Nat) : (Rr x g).length = 11 := by simp [Rr, bys_len, x.len]
theorem rr_bt (x : D.Tg) (g : Nat) : Bt 94 ((Rr x g).length + 2) := by rw [rr_len]; exact bt_rend
structure Rg (b g k : Nat) (f : Nm.D.Nm -> Option D.Vl) (w : World) : Prop where
 out : ∀ W, Nu b w W -> Env W ∧ Tp W ∧ VmAt W g k f
theorem Rg.tow {b g k : Nat} {f : Nm.D.Nm -> Option D.Vl} {w w' : World} (h : Rg b g k f w) (n : Nu b w w') : Rg b g k f w' := ⟨fun W hW => h.out W (n.trans hW)⟩
set_option maxHeartbeats 4000000 in
theorem number_any (x : D.Tg) (g b n : Nat) (w : World) (l : List Nat) (hn : n < 18446744073709551616) (h : Rn x g b w l) (hT : Tp w) (hl : l.length <= 900000) :
  Calls Tryz.prog 57 #[vr b, .int .u64 (n : Nat)] w fun e w' => e = .returned (.tuple #[]) ∧ Rn x g b w' (l ++ D.dg n) ∧ Nu b w w' := by
 have hlt := h.lt
 obtain ⟨hd1, hd2⟩ := D.dg_len n hn
 have HD2 := Lib.hid hd2
 have cF := Lib.hid (fun W (hb : Below w.heap.size w W) => fmt_any n hn W (hT.on hb))
 have HB := Lib.hid h
 have hsz : (⟨(Lib.decDigits n).toArray⟩ : ByteArray).size = (D.dg n).length := by rw [size_ns, D.dg_ns]
 have cW := Lib.hid (fun W (hW : Rn x g b W l) => (by have := writeS_any (rr_bt x g) ⟨(Lib.decDigits n).toArray⟩ hW (by rw [D.dg_ns]; exact hd2) (by rw [hsz]; omega); rw [D.dg_ns] at this; exact this : Calls Tryz.prog 56 #[vr b, .string ⟨(Lib.decDigits n).toArray⟩] W fun y w' => y = .returned (.tuple #[.int .i64 ((⟨(Lib.decDigits n).toArray⟩ : ByteArray).size : Nat), .nilIface]) ∧ Rn x g b w' (l ++ D.dg n) ∧ Nu b W w'))
 clear h hd1 hd2 hsz hn hT
 go_enter Tryz.func57, Tryz.ntmps57
 refine wp_region_noPanic ?_
 refine wp_region_held_drew (S := fun W' => Nu b w W' ∧ b < W'.heap.size) (by kernel_rfl) ⟨Nu.of_below ((Below.refl _ _).drew), hlt⟩ (fun _ => ?_)
 obtain ⟨wd, hwd⟩ : ∃ wd, w.drew = wd := ⟨_, rfl⟩
 have bd : Below w.heap.size w wd := by rw [<- hwd]; exact (Below.refl _ _).drew
 have sd : Nu b w wd ∧ b < wd.heap.size := ⟨Nu.of_below bd, Nat.lt_of_lt_of_le hlt bd.size⟩
 rw [hwd]
 clear hwd
 refine takeT 0 (some 4) ?vn0 ?hyn0 sd ?restn0
 case hyn0 => (intro o ho W hW; simp only [gT, gS, gZ, sI] at ho; subst ho; (try dsimp only at hW); have q0 := hW.2; go_simp; try rfl)
 try simp only [Act.put, iT, iZ, iS]
 refine takeT 1 (some 5) ?vn1 ?hyn1 sd ?restn1
 case hyn1 => (intro o ho W hW; simp only [gT, gS, gZ, sI] at ho; subst ho; (try dsimp only at hW); have q0 := hW.2; go_simp; try rfl)
 try simp only [Act.put, iT, iZ, iS]
 refine takeT 2 (some 6) ?vn2 ?hyn2 sd ?restn2
 case hyn2 => (intro o ho W hW; simp only [gT, gS, gZ, sI] at ho; subst ho; (try dsimp only at hW); have q0 := hW.2; go_simp; try rfl)
 try simp only [Act.put, iT, iZ, iS]
 refine takeT 3 (some 7) ?vn3 ?hyn3 sd ?restn3
 case hyn3 => (intro o ho W hW; simp only [gT, gS, gZ, sI] at ho; subst ho; (try dsimp only at hW); have q0 := hW.2; go_simp; try rfl)
 try simp only [Act.put, iT, iZ, iS]
 refine nextS 4 (by kernel_rfl) (by rfl) (fun o ho K hK => ?_)
 simp only [gT, gS, gZ, sI] at ho; subst ho
 go_simp
 (go_at_call 83; (with_reducible refine (cF.out _ bd).mono ?_); rintro e wi ⟨rfl, bi⟩)
 have bw : Below w.heap.size w wi := bd.trans (bi.mono bd.size)
 have si : Nu b w wi ∧ b < wi.heap.size := ⟨Nu.of_below bw, Nat.lt_of_lt_of_le hlt bw.size⟩
 have HBi := Lib.hid (HB.out.on bw)
 refine hK.out _ _ si (fun _ => ?_)
 clear hK K
 try simp only [Act.put, iT, iZ, iS]
 refine nextS 5 (by kernel_rfl) (by rfl) (fun o ho K hK => ?_)
 simp only [gT, gS, gZ, sI] at ho; subst ho
 go_simp
 (go_at_call 56; (with_reducible refine (cW.out _ HBi.out).mono ?_); rintro e wj ⟨rfl, bj, nj⟩)
 have sj : Nu b w wj ∧ b < wj.heap.size := ⟨si.1.trans nj, bj.lt⟩
 have HBj := Lib.hid bj
 clear bj nj
 refine hK.out _ _ sj (fun _ => ?_)
 clear hK K
 try simp only [Act.put, iT, iZ, iS]
 refine wpAnyH_done (by kernel_rfl) ?_ _
 refine NoPanic.normal ?_
 go_wp2_with fail
 go_end0
 exact ⟨rfl, HBj.out, sj.1⟩

def D.kix (ws : List (List Nat)) (t : List Nat) : Nat := if t ∈ ws then ws.idxOf t else ws.idxOf D.othT
theorem D.idx_at {l : List (List Nat)} {t : List Nat} (h : t ∈ l) : l[l.idxOf t]? = some t ∧ ∀ i, i < l.idxOf t -> l[i]? ≠ some t := by
 have hi : l.idxOf t < l.length := List.idxOf_lt_length_iff.2 h
 refine ⟨by rw [List.getElem?_eq_getElem hi, List.getElem_idxOf], fun i hlt he => ?_⟩
 have hil : i < l.length := by omega
 have := List.not_of_lt_findIdx (p := (· == t)) (show i < l.findIdx (· == t) from hlt)
 rw [(List.getElem?_eq_some_iff.1 he).2] at this
 simp at this
theorem D.kix_lt {ws : List (List Nat)} (t : List Nat) (ho : D.othT ∈ ws) : D.kix ws t < ws.length := by
 unfold D.kix
 split
 ·rename_i h; exact List.idxOf_lt_length_iff.2 h
 ·exact List.idxOf_lt_length_iff.2 ho
theorem D.fnd_in {ws : List (List Nat)} {t : List Nat} (h : t ∈ ws) : D.fnd ws t = (ws.idxOf t : Nat) := by unfold D.fnd; rw [if_pos h]
theorem D.fnd_out {ws : List (List Nat)} {t : List Nat} (h : t ∉ ws) : D.fnd ws t = -1 := by unfold D.fnd; rw [if_neg h]
theorem case_cells {w : World} {A : Option Addr} {n : Nat} {cs : List (List Nat × Value)} (hr : Rw 2 w A n (ccs cs)) {j : Nat} {t : List Nat} {u : Value} (hj : cs[j]? = some (t, u)) :
  ∃ ad, A = some ad ∧ ad.block < w.heap.size ∧ w.cell? (ad.add (j * 2)) = some (.string (D.sb t)) ∧ w.cell? ⟨(ad.add (j * 2)).block, (ad.add (j * 2)).off + 1, none⟩ = some u := by
 obtain ⟨e0, e1⟩ := ccs_at hj
 obtain ⟨ad, rfl, hbk, hc0⟩ := hr.cell e0
 obtain ⟨ad', ead, _, hc1⟩ := hr.cell e1
 cases ead
 refine ⟨ad, rfl, hbk, hc0, ?_⟩
 rw [<- hc1]
 unfold Addr.add
 by_cases h0 : j * 2 = 0
 ·simp [h0]
 ·simp [h0, Nat.add_assoc]
set_option maxHeartbeats 2000000 in
theorem chosen_any (A : Option Addr) (n c : Nat) (cs : List (List Nat × Value)) (u : ByteArray) (w : World) (hr : Rw 2 w A n (ccs cs)) (hb : D.B8 (cs.map (·.1))) (h1 : ∀ x ∈ cs, ∃ (A : Option Addr) (n c : Nat), x.2 = .slice A n c) (hn : n <= 1000000) (ho : D.othT ∈ cs.map (·.1)) :
  Calls Tryz.prog 85 #[.slice A n c, .string u] w fun e w' => (∃ t v, cs[D.kix (cs.map (·.1)) (D.ns u)]? = some (t, v) ∧ e = .returned v) ∧ Below w.heap.size w w' := by
 have hlen := hr.len
 rw [ccs_len] at hlen
 have hlen : cs.length = n := by omega
 have h1c : ∀ x ∈ cs, x.2.oneCell' = true := fun x hx => by obtain ⟨A, n, c, e⟩ := h1 x hx; rw [e]; rfl
 have cF := Lib.hid (fun s W (hW : Below w.heap.size w W) => cfind_any A n c cs s W (hr.on hW) hb h1c hn)
 have hlt := D.kix_lt (D.ns u) ho
 rw [List.length_map, hlen] at hlt
 obtain ⟨J, hJ⟩ : ∃ J, D.kix (cs.map (·.1)) (D.ns u) = J := ⟨_, rfl⟩
 rw [hJ] at hlt ⊢
 obtain ⟨⟨t, v⟩, hj⟩ : ∃ x, cs[J]? = some x := ⟨_, List.getElem?_eq_getElem (by omega)⟩
 obtain ⟨Av, nv_, cv, hv⟩ := h1 _ (List.mem_of_getElem? hj)
 have hv : v = .slice Av nv_ cv := hv
 subst hv
 have HR := Lib.hid hr
 have hJ' : ¬ (J : Int) < 0 := by omega
 have hJn : (J : Int) < n := by omega
 have HJ := Kept.mk hj
 have hBR := Lib.hid (Below.refl w.heap.size w)
 by_cases hm : D.ns u ∈ cs.map (·.1)
 ·have hf : D.fnd (cs.map (·.1)) (D.ns u) = (J : Nat) := by rw [D.fnd_in hm, <- hJ]; unfold D.kix; rw [if_pos hm]
  have C1 : Hid (∀ W, Below w.heap.size w W -> Calls Tryz.prog 77 #[.slice A n c, .string u] W fun e w' => e = .returned (.int .i64 (J : Nat)) ∧ Below W.heap.size W w') := Lib.hid (fun W hW => by have := cF.out u W hW; rw [hf] at this; exact this)
  clear hf hm hJ hr hb h1 h1c cF hj ho
  go_enter Tryz.func85, Tryz.ntmps85
  go_wp2_with (go_at_call 77; (with_reducible refine (C1.out _ hBR.out).mono ?_); rintro e w1 ⟨rfl, b1⟩
               have B1 := Lib.hid b1
               obtain ⟨ad, rfl, k1, k2, k3⟩ := case_cells (HR.out.on b1) HJ.out
               clear b1)
  go_ret
  exact ⟨⟨t, _, HJ.out, rfl⟩, B1.out⟩
 ·have hf : D.fnd (cs.map (·.1)) (D.ns u) = -1 := D.fnd_out hm
  have hf2 : D.fnd (cs.map (·.1)) (D.ns ⟨#[111, 116, 104, 101, 114]⟩) = (J : Nat) := by rw [show D.ns ⟨#[111, 116, 104, 101, 114]⟩ = D.othT from rfl, D.fnd_in ho, <- hJ]; unfold D.kix; rw [if_neg hm]
  have C1 : Hid (∀ W, Below w.heap.size w W -> Calls Tryz.prog 77 #[.slice A n c, .string u] W fun e w' => e = .returned (.int .i64 (-1)) ∧ Below W.heap.size W w') := Lib.hid (fun W hW => by have := cF.out u W hW; rw [hf] at this; exact this)
  have C2 : Hid (∀ W, Below w.heap.size w W -> Calls Tryz.prog 77 #[.slice A n c, .string ⟨#[111, 116, 104, 101, 114]⟩] W fun e w' => e = .returned (.int .i64 (J : Nat)) ∧ Below W.heap.size W w') := Lib.hid (fun W hW => by have := cF.out ⟨#[111, 116, 104, 101, 114]⟩ W hW; rw [hf2] at this; exact this)
  clear hf hf2 hm hJ hr hb h1 h1c cF hj ho
  go_enter Tryz.func85, Tryz.ntmps85
  go_wp2_with (first
   | (go_at_call 77; (with_reducible refine (C1.out _ hBR.out).mono ?_); rintro e w1 ⟨rfl, b1⟩
      have B1 := Lib.hid b1
      clear b1)
   | (go_at_call 77; (with_reducible refine (C2.out _ B1.out).mono ?_); rintro e w2 ⟨rfl, b2⟩
      have B2 := Lib.hid (B1.out.trans (b2.mono B1.out.size))
      obtain ⟨ad, rfl, k1, k2, k3⟩ := case_cells (HR.out.on (B1.out.trans (b2.mono B1.out.size))) HJ.out
      clear b2))
  go_ret
  exact ⟨⟨t, _, HJ.out, rfl⟩, B2.out⟩
set_option maxHeartbeats 2000000 in
theorem index_at (A : Option Addr) (n c : Nat) (l : List Int) (z : Int) (w : World) (hr : Row w A n (zs l)) (hn : n <= 1000000) (q : Nat) (hq : l[q]? = some z) (hf : ∀ i, i < q -> l[i]? ≠ some z) :
  Calls Tryz.prog 111 #[.slice A n c, .int .i64 z] w fun e w' => e = .returned (.int .i64 (q : Nat)) ∧ w = w' := by
 have hlen := hr.len
 rw [zs_len] at hlen
 have HQ := Kept.mk hq
 have HF := Kept.mk hf
 clear hq hf
 go_enter Tryz.func111, Tryz.ntmps111
 go_wp2
 go_loopw [8] (fun i wr => ∃ k : Nat, k <= q ∧ i = .int .i64 k ∧ wr = w) (fun i _ => n - (intOf i).toNat)
 case atStart => exact ⟨0, Nat.zero_le _, rfl, rfl⟩
 case round =>
  obtain ⟨k, hk, rfl, rfl⟩ := hrel
  have hql := (List.getElem?_eq_some_iff.1 HQ.out).1
  have hkl : k < l.length := by omega
  obtain ⟨b, hb⟩ : ∃ b, l[k]? = some b := ⟨_, List.getElem?_eq_getElem hkl⟩
  obtain ⟨ad, rfl, hc⟩ := hr.cell (zs_at hb)
  have hI : (k : Int) < n := by omega
  by_cases e : k = q
  ·have eb : b = z := by have := HQ.out; rw [<- e, hb] at this; injection this
   have HE := Kept.mk e
   subst eb
   clear hb hr hlen hkl e
   go_wp2
   go_ret
   exact ⟨by rw [HE.out]; rfl, rfl⟩
  ·have e' : (z == b) = false := by
    simp only [beq_eq_false_iff_ne]
    rintro rfl
    exact HF.out k (by omega) hb
   clear hb hr hlen hkl
   go_wp2
   go_roundw
   case rel => exact ⟨k + 1, by omega, by go_num, trivial⟩
   case measure => simp [intOf]; omega
def D.cts (ws : List (List Nat)) : List Int := ws.map fun t => ((D.rda t).1 : Int)
theorem D.rda_cat (k : Fin 6) : D.rda (D.catW.getD k.1 []) = (k.1, 0) := by revert k; decide
theorem D.cat_of {t : List Nat} (h : t ∈ D.catW) : ∃ k, k < 6 ∧ t = D.catW.getD k [] ∧ (D.rda t).1 = k := by
 obtain ⟨k, hk, e⟩ := List.mem_iff_getElem.1 h
 have hk6 : k < 6 := hk
 have e2 : t = D.catW.getD k [] := by rw [List.getD_eq_getElem?_getD, List.getElem?_eq_getElem hk]; exact e.symm
 exact ⟨k, hk6, e2, by rw [e2]; exact congrArg Prod.fst (D.rda_cat ⟨k, hk6⟩)⟩
theorem D.cts_at {ws : List (List Nat)} (hl : ∀ t ∈ ws, t ∈ D.catW) {c : Nat} (hc : c < 6) (i : Nat) : (D.cts ws)[i]? = some (c : Int) ↔ ws[i]? = some (D.catW.getD c []) := by
 unfold D.cts
 rw [List.getElem?_map]
 cases hi : ws[i]? with
 | none => simp
 | some t =>
  obtain ⟨k, hk, e1, e2⟩ := D.cat_of (hl t (List.mem_of_getElem? hi))
  simp only [Option.map_some, Option.some.injEq, e2]
  constructor
  ·intro h
   have : k = c := by omega
   rw [e1, this]
  ·intro h
   have h2 := congrArg D.rda h
   rw [D.rda_cat ⟨c, hc⟩] at h2
   have h3 := congrArg Prod.fst h2
   rw [e2] at h3
   simp at h3
   rw [h3]
theorem D.cts_mem {ws : List (List Nat)} (hl : ∀ t ∈ ws, t ∈ D.catW) {c : Nat} (hc : c < 6) : (c : Int) ∈ D.cts ws ↔ D.catW.getD c [] ∈ ws := by
 constructor
 ·intro h
  obtain ⟨i, hi, e⟩ := List.mem_iff_getElem.1 h
  exact List.mem_of_getElem? ((D.cts_at hl hc i).1 (by rw [List.getElem?_eq_getElem hi, e]))
 ·intro h
  obtain ⟨i, hi, e⟩ := List.mem_iff_getElem.1 h
  exact List.mem_of_getElem? ((D.cts_at hl hc i).2 (by rw [List.getElem?_eq_getElem hi, e]))
theorem D.pick_at {ws : List (List Nat)} (hl : ∀ t ∈ ws, t ∈ D.catW) (ho : D.othT ∈ ws) {c : Nat} (hc : c <= 5) : ∃ z, (D.pick (c : Nat) (D.cts ws)).1 = z ∧ (D.cts ws)[D.kix ws (D.catW.getD c [])]? = some z ∧ ∀ i, i < D.kix ws (D.catW.getD c []) -> (D.cts ws)[i]? ≠ some z := by
 unfold D.pick D.kix
 by_cases h : (c : Int) ∈ D.cts ws
 ·have hm := (D.cts_mem hl (by omega)).1 h
  rw [if_pos h, if_pos hm]
  obtain ⟨h1, h2⟩ := D.idx_at hm
  exact ⟨_, rfl, (D.cts_at hl (by omega) _).2 h1, fun i hi e => h2 i hi ((D.cts_at hl (by omega) _).1 e)⟩
 ·have hm : D.catW.getD c [] ∉ ws := fun e => h ((D.cts_mem hl (by omega)).2 e)
  have ho5 : D.catW.getD 5 [] ∈ ws := ho
  have h5 : ((5 : Nat) : Int) ∈ D.cts ws := (D.cts_mem hl (by omega)).2 ho5
  rw [if_neg h, if_pos (show (5 : Int) ∈ D.cts ws from h5), if_neg hm]
  obtain ⟨h1, h2⟩ := D.idx_at ho
  refine ⟨5, rfl, (D.cts_at hl (c := 5) (by omega) _).2 h1, fun i hi e => h2 i hi ((D.cts_at hl (c := 5) (by omega) _).1 e)⟩
end Go.Proofs.YtgnjjlgmlokhmaaGreatDoor
namespace Go.Proofs.YtgnjjlgmlokhmaaGreatDoor
open Go.RowKit
attribute [local go_sem ↓] Go.wp_at_zero Go.wp_at_succ ld_a lv_a
attribute [local go_sem] run_ld_a run_lv_a rd_new rd_old rd_drew rd_drewN

theorem int_info : (Tryz.prog.info? 3).map (fun i => (i.zero, i.size, i.bytes)) = some (some (.int .i64 0), 1, 8) := by kernel_rfl
theorem rn_tag {x : D.Tg} {g b : Nat} {w : World} {l : List Nat} (h : Rn x g b w l) : rd w ⟨b, 2, none⟩ = some x ∧ w.cell? ⟨b, 12, none⟩ = some (.map (some g)) := by
 obtain ⟨p, A, n, c, hp, hb, ho, hz⟩ := h.out
 refine ⟨rd_of fun j u hu => ?_, ?_⟩
 ·have hj : j < 10 := by have := (List.getElem?_eq_some_iff.1 hu).1; rw [bys_len, x.len] at this; exact this
  rw [Lib.add_plain, hb.c_ (2 + j)]
  rw [List.getElem?_toArray, show 2 + j = j + 1 + 1 by omega, List.getElem?_cons_succ, List.getElem?_cons_succ, List.getElem?_append_left (by rw [bys_len, x.len]; exact hj)]
  exact hu
 ·rw [hb.c_ 12]
  rw [List.getElem?_toArray, List.getElem?_cons_succ, List.getElem?_cons_succ, List.getElem?_append_right (by rw [bys_len, x.len]; omega), bys_len, x.len]
  rfl
theorem Rw.row_ {w : World} {A : Option Addr} {n : Nat} {xs : List Value} (h : Rw 1 w A n xs) : Row w A n xs := ⟨by have := h.len; omega, h.tow⟩
theorem zs_app (l k : List Int) : zs (l ++ k) = zs l ++ zs k := by simp [zs]
theorem cts_snoc {ws : List (List Nat)} {j : Nat} {t : List Nat} (h : ws[j]? = some t) : D.cts (ws.take (j + 1)) = D.cts (ws.take j) ++ [((D.rda t).1 : Int)] := by
 rw [List.take_add_one, h]
 simp [D.cts]
set_option maxHeartbeats 4000000 in
theorem asked_any (x : D.Tg) (g b n m c : Nat) (A : Option Addr) (cs : List (List Nat × Value)) (w : World) (l : List Nat) (h : Rn x g b w l) (hE : Env w) (hr : Rw 2 w A m (ccs cs)) (hb : D.B8 (cs.map (·.1))) (h1 : ∀ x ∈ cs, ∃ (A : Option Addr) (n c : Nat), x.2 = .slice A n c) (hm : m <= 1000000) (hc : ∀ t ∈ cs.map (·.1), t ∈ D.catW) (ho : D.othT ∈ cs.map (·.1)) :
  Calls Tryz.prog 84 #[vr b, .slice A m c, .int .u64 (n : Nat)] w fun e w' => (∃ t v, cs[D.kix (cs.map (·.1)) (D.catW.getD (D.pof (D.gr x) n) [])]? = some (t, v) ∧ e = .returned v) ∧ Below w.heap.size w w' := by
 have hlen := hr.len
 rw [ccs_len] at hlen
 have hlen : cs.length = m := by omega
 obtain ⟨z, hz1, hz2, hz3⟩ := D.pick_at hc ho (D.pof_le (D.gr x) n)
 have cP := fun (A' : Option Addr) (c' : Nat) (W : World) (hR : Row W A' m (zs (D.cts (cs.map (·.1))))) => pick_any x n A' m c' (D.cts (cs.map (·.1))) W hR hm
 rw [hz1] at cP
 have hlt := D.kix_lt (D.catW.getD (D.pof (D.gr x) n) []) ho
 rw [List.length_map, hlen] at hlt
 obtain ⟨J, hJ⟩ : ∃ J, D.kix (cs.map (·.1)) (D.catW.getD (D.pof (D.gr x) n) []) = J := ⟨_, rfl⟩
 obtain ⟨pb, hpb⟩ : ∃ pb, (D.pick (D.pof (D.gr x) n : Nat) (D.cts (cs.map (·.1)))).2 = pb := ⟨_, rfl⟩
 rw [hJ] at hlt hz2 hz3 ⊢
 rw [hpb] at cP
 have CP := Lib.hid cP
 have CI := Lib.hid (fun (A' : Option Addr) (c' : Nat) (W : World) (hR : Row W A' m (zs (D.cts (cs.map (·.1))))) => index_at A' m c' (D.cts (cs.map (·.1))) z W hR hm J hz2 hz3)
 obtain ⟨⟨t, v⟩, hj⟩ : ∃ x, cs[J]? = some x := ⟨_, List.getElem?_eq_getElem (by omega)⟩
 obtain ⟨Av, nv_, cv, hv⟩ := h1 _ (List.mem_of_getElem? hj)
 have hv : v = .slice Av nv_ cv := hv
 subst hv
 have HR := Lib.hid hr
 have HE := Lib.hid hE
 have HB := Lib.hid h
 have HJ := Kept.mk hj
 have H8 := Lib.hid hb
 have H1 := Lib.hid h1
 have hJn : (J : Int) < m := by omega
 have cR := Lib.hid (fun s W hW => read_any s W hW)
 clear hJ hpb hz1 hz2 hz3 cP hr hE h hj hb h1 hc ho
 go_enter Tryz.func84, Tryz.ntmps84
 go_wp2
 go_loopw [7, 16] (fun s i wr => ∃ (k : Nat) (A' : Option Addr) (c' : Nat), k <= m ∧ i = .int .i64 k ∧ s = .slice A' k c' ∧ Hid (Ow 3 1 w.heap.size wr A' k c' (zs (D.cts ((cs.map (·.1)).take k)))) ∧ Hid (Below w.heap.size w wr)) (fun _ i _ => m - (intOf i).toNat)
 case atStart => exact ⟨0, none, 0, Nat.zero_le _, rfl, rfl, Lib.hid (Ow.nil _ _ (Nat.le_refl _)), Lib.hid (Below.refl _ _)⟩
 case round =>
  obtain ⟨k, A', c', hk, rfl, rfl, HO, HZ⟩ := hrel
  obtain ⟨wo, rfl⟩ : ∃ wo : World, wo = wr := ⟨_, rfl⟩
  by_cases hlt2 : k < m
  ·obtain ⟨⟨tk, vk⟩, hka⟩ : ∃ a, cs[k]? = some a := ⟨_, List.getElem?_eq_getElem (by omega)⟩
   obtain ⟨Ak, nk, ck, hvk⟩ := H1.out _ (List.mem_of_getElem? hka)
   have hvk : vk = .slice Ak nk ck := hvk
   subst hvk
   have hmk : (cs.map (·.1))[k]? = some tk := by simp [hka]
   have ht8 := H8.out tk (List.mem_of_getElem? hmk)
   obtain ⟨ad, rfl, k1, k2, k3⟩ := case_cells (HR.out.on HZ.out) hka
   have hI : (k : Int) < m := by omega
   have hsn := cts_snoc hmk
   have bA : Below wo.heap.size wo (wo.alloc (.cells #[.string (D.sb tk), .slice Ak nk ck] 101)) := below_alloc_ _ _
   have CR : Hid (Calls Tryz.prog 104 #[.string (D.sb tk)] (wo.alloc (.cells #[.string (D.sb tk), .slice Ak nk ck] 101)) fun e w' => e = .returned (.tuple #[.int .i64 ((D.rda tk).1 : Nat), .int .i64 ((D.rda tk).2 : Nat)]) ∧ wo.alloc (.cells #[.string (D.sb tk), .slice Ak nk ck] 101) = w') := Lib.hid (by have := cR.out (D.sb tk) _ ((HE.out.on HZ.out).on bA); rw [D.ns_sb ht8] at this; exact this)
   obtain ⟨q, hq⟩ : ∃ q, (D.rda tk).1 = q := ⟨_, rfl⟩
   obtain ⟨q2, hq2⟩ : ∃ q, (D.rda tk).2 = q := ⟨_, rfl⟩
   rw [hq, hq2] at CR
   rw [hq] at hsn
   have HSN := Kept.mk hsn
   have HO1 := Lib.hid (HO.out.on bA)
   have HZ1 := Lib.hid (HZ.out.trans (bA.mono HZ.out.size))
   have hw0 : w.heap.size <= wo.heap.size := HZ.out.size
   clear hq hq2 hsn hka hmk ht8 bA
   go_wp2_with (first
    | (go_at_call 104; (with_reducible refine CR.out.mono ?_); rintro e w1 ⟨rfl, rfl⟩)
    | (at_builtin; refine gapp _ Tryz.underlying134 int_info rfl (by decide) (by decide) rfl (.tmp 26) (.tmp 28) rfl rfl (HO1.out.alloc _) rfl (rw_one (wo.alloc (.cells #[.string (D.sb tk), .slice Ak nk ck] 101)) _ (by simp) 3 (.int .i64 (q : Nat))) (fun u h => by simp at h; rw [h]; rfl) (by omega) ?_; intro A5 c5 w5 h5 hg5 hor5
       have b5 := ow_below (HO1.out.alloc _) hg5
       have H5 := Lib.hid h5
       have B5 := Lib.hid ((HZ1.out.trans (((Below.refl _ _).alloc (Nat.le_refl _) (.cells #[.int .i64 (q : Nat)] 3)).mono HZ1.out.size)).trans b5)
       clear h5 hg5 hor5 b5))
   go_roundw
   case rel => exact ⟨k + 1, A5, c5, by omega, by go_num, rfl, Lib.hid (by rw [HSN.out, zs_app]; exact H5.out), B5⟩
   case measure => simp [intOf]; omega
  ·obtain rfl : k = m := by omega
   have hall : (cs.map (·.1)).take k = cs.map (·.1) := List.take_of_length_le (by simp [hlen])
   have hO := HO.out
   rw [hall] at hO
   obtain ⟨r1, r2⟩ := rn_tag (HB.out.on HZ.out)
   have hbl := (HB.out.on HZ.out).lt
   have hRow := hO.to_row.row_
   have HRow := Lib.hid hRow
   have HB0 := Lib.hid (Below.refl wo.heap.size wo)
   clear hall hO hRow r2 cR HO
   go_wp2_with (first
    | (go_at_call 110; (with_reducible refine (CP.out _ _ _ HRow.out).mono ?_); rintro e w1 ⟨rfl, b1⟩
       have B1 := Lib.hid b1
       clear b1)
    | (go_at_call 111; (with_reducible refine (CI.out _ _ _ (HRow.out.on B1.out)).mono ?_); rintro e w2 ⟨rfl, rfl⟩
       obtain ⟨ad, rfl, k1, k2, k3⟩ := case_cells ((HR.out.on HZ.out).on B1.out) HJ.out))
   go_ret
   exact ⟨⟨t, _, HJ.out, rfl⟩, HZ.out.trans (B1.out.mono HZ.out.size)⟩
end Go.Proofs.YtgnjjlgmlokhmaaGreatDoor
