/-
  
-/
import Derived.Test.YtgnjjlgmlokhmaaGreatDoorG29
import Derived.Shelf.Strings.Builder1
import Derived.Shelf.Strings.Builder2
import Derived.Shelf.Strings.OnBuilder
import Derived.Shelf.Small.Utf8
import Derived.Shelf.Small.Bits
import Derived.Shelf.Small.Strs
import Derived.Shelf.Utf8.RuneCount
import Derived.Shelf.Strconv.Itoa0
import Derived.Shelf.Strconv.Itoa1
import Derived.Shelf.LaysM
import Derived.Shelf.Strconv.Itoa2
import Derived.Shelf.Strconv.Clone
import Derived.Shelf.Strings.Search1
import Derived.Shelf.Strings.Search2
import Derived.Shelf.Strings.Search3
import Derived.Shelf.Strings.Count
import Derived.Shelf.Strings.Shaped
import Derived.Shelf.Strings.Split
import Derived.Shelf.Strings.SplitShaped
import Derived.Shelf.Unicode.Latin
import Derived.Shelf.Unicode.Decode
import Derived.Shelf.Strings.RuneCount
import Derived.Shelf.Strings.Explode
import Derived.Shelf.Unicode.DecodeSlow
import Derived.Shelf.Unicode.DecodeAny
import Derived.Shelf.Unicode.CaseLookup
import Derived.Shelf.Unicode.CaseConvert
import Derived.Shelf.Unicode.CaseTo
import Derived.Shelf.Unicode.CaseLaid
import Derived.Shelf.Bytes.SlIndexSmall
import Derived.Shelf.Bytes.SlIndexAt
import Derived.Shelf.Bytes.SlSearch0
import Derived.Shelf.Bytes.SlSearch1
import Derived.Shelf.Bytes.SlSearch2
import Derived.Shelf.Bytes.SlIndexWhole
import Derived.Shelf.Bytes.SlCut
import Derived.Shelf.Bytes.Small
import Derived.Shelf.Bytes.IndexByte
import Derived.Test.YtgnjjlgmlokhmaaGreatDoorProg
import Derived.Test.YtgnjjlgmlokhmaaGreatDoorG24
import Derived.Test.YtgnjjlgmlokhmaaGreatDoorG06
import Derived.Lib.BytesEntry
import Derived.Sort.Grow
set_option linter.unusedVariables false
set_option linter.unusedSimpArgs false
set_option maxRecDepth 100000
namespace Go.Proofs.YtgnjjlgmlokhmaaGreatDoor
namespace D
def Usm (m : Nat) (l : List Uv) : Prop := ∀ y ∈ l, y.h < 8 ∧ y.t.size <= m
theorem usm_app {m : Nat} {a b : List Uv} (ha : Usm m a) (hb : Usm m b) : Usm m (a ++ b) := fun y hy => by
 rcases List.mem_append.1 hy with h | h
 ·exact ha y h
 ·exact hb y h
theorem usm_nil {m : Nat} : Usm m [] := fun y h => by cases h
theorem usm_one {m : Nat} {x : Uv} (h : x.h < 8) (h2 : x.t.size <= m) : Usm m [x] := fun y hy => by
 obtain rfl : y = x := by simpa using hy
 exact ⟨h, h2⟩
theorem usm_up {m k : Nat} {l : List Uv} (h : Usm m l) (hk : m <= k) : Usm k l := fun y hy => ⟨(h y hy).1, Nat.le_trans (h y hy).2 hk⟩
theorem gtC_sm {M k : Nat} {m : Nm.D.Nm} {G : List Nd -> List Uv} : ∀ {ws : List (List Nat)} {ks : List (List Nd)}, (∀ w ∈ ws, w.length <= M) -> (∀ q ∈ ks, Usm M (G q)) -> Usm M (gtC k m G ws ks)
 | [], ks, _, _ => by simp only [gtC]; exact usm_nil
 | _ :: _, [], _, _ => by simp only [gtC]; exact usm_nil
 | w :: ws, q :: ks, hw, h => by
  have h1 := gtC_sm (k := k) (m := m) (ws := ws) (ks := ks) (fun w hw' => hw w (by simp [hw'])) fun q hq => h q (by simp [hq])
  have h2 := h q (by simp)
  have h3 := hw w (by simp)
  simp only [gtC]
  refine usm_app ?_ (usm_app h2 h1)
  split
  ·exact usm_one (by show 4 < 8; omega) (by rw [sb_len]; exact h3)
  ·exact usm_nil
theorem gtO_sm {M k : Nat} {m : Nm.D.Nm} : Usm M (gtO k m) := by
 unfold gtO
 split
 ·exact usm_one (by show 1 < 8; omega) (Nat.zero_le _)
 ·split
  ·exact usm_one (by show 2 < 8; omega) (Nat.zero_le _)
  ·exact usm_nil
theorem gtP_sm {M : Nat} {ch v : Bool} {kids : Bool -> List Nd -> Prop} {x : Nd} {G : List Nd -> List Uv} (ho : okNd ch kids v x) (hz : (prN x).length <= M) (h : ∀ q ∈ x.ks, Usm M (G q)) : Usm M (gtP G x) := by
 unfold gtP
 refine usm_app gtO_sm (gtC_sm (fun w hw => ?_) h)
 rcases ho with ⟨_, _, h, _⟩ | ⟨h, _⟩ | ⟨_, _, h, _⟩ | ⟨hk', _, _, _, hll, _⟩
 ·rw [h] at hw; cases hw
 ·rw [h] at hw; cases hw
 ·rw [h] at hw; cases hw
 ·have h1 := prC_word hll hw
  have h2 := prN_cas hk'
  omega
theorem gtL_sm {M : Nat} {ch v : Bool} {kids : Bool -> List Nd -> Prop} {G : List Nd -> List Uv} : ∀ {pt : Bool} {l : List Nd}, okLs (okNd ch kids v) pt l -> (prL l).length <= M -> (∀ x ∈ l, ∀ q ∈ x.ks, Usm M (G q)) -> Usm M (gtL G l)
 | _, [], _, _, _ => by simp only [gtL]; exact usm_nil
 | _, x :: l, ho, hz, h => by
  simp only [prL, List.length_append] at hz
  simp only [gtL]
  exact usm_app (gtP_sm ho.1 (by omega) (h x (by simp))) (gtL_sm ho.2.2 (by omega) fun y hy => h y (by simp [hy]))
theorem kid_len {r : Nat} {ch v : Bool} {kids : Bool -> List Nd -> Prop} {x : Nd} (ho : okNd ch kids v x) {q : List Nd} (hq : q ∈ x.ks) : (prL q).length <= (prN x).length := by
 obtain ⟨i, hi⟩ := List.mem_iff_getElem?.1 hq
 rcases ho with ⟨_, _, _, h, _⟩ | ⟨h, _⟩ | ⟨_, _, _, h, _⟩ | ⟨hk', _, _, _, hll, _⟩
 ·rw [h] at hq; cases hq
 ·rw [h] at hq; cases hq
 ·rw [h] at hq; cases hq
 ·exact Nat.le_trans (prC_at hll hi) (prN_cas hk')
theorem gth_sm {M : Nat} : ∀ (r : Nat) {v : Bool} {l : List Nd}, Rt r v l -> (prL l).length <= M -> Usm M (gth r l)
 | 0, v, l, h, hz => gtL_sm (pt := false) (ch := false) (v := v) (kids := fun _ _ => False) h hz fun x _ q _ => usm_nil
 | r + 1, v, l, h, hz => by
  refine gtL_sm (pt := false) (ch := true) (v := v) (kids := Rt r) h hz fun x hx q hq => ?_
  have ho := okLs_mem h x hx
  have h1 := kid_len (r := 0) ho hq
  have h2 := prL_mem hx
  rcases ho with ⟨_, _, _, e, _⟩ | ⟨e, _⟩ | ⟨_, _, _, e, _⟩ | ⟨_, _, _, _, _, _, _, e⟩
  ·rw [e] at hq; cases hq
  ·rw [e] at hq; cases hq
  ·rw [e] at hq; cases hq
  ·exact gth_sm r (e q hq) (by omega)
theorem insA_sm {M : Nat} {L a : List Uv} (hL : Usm M L) (ha : Usm M a) : Usm M (insA L a) := fun y hy => by
 rcases insA_mem.1 hy with h | h
 ·exact hL y h
 ·exact ha y h
end D
end Go.Proofs.YtgnjjlgmlokhmaaGreatDoor
namespace Go.Proofs.YtgnjjlgmlokhmaaGreatDoor
open Go.Shelf Go.RowKit
def lays213_ren : Go.Shelf.Ren := ⟨fun | 213 => 67 | 265 => 100 | n => n, fun | 9 => 9 | 3 => 3 | n => n, fun | n => n⟩
theorem lays213 : Go.Proofs.Lays.n213 Tryz.prog lays213_ren := {
 mixed := by kernel_rfl
 f213 := Tryz.func67.trans (congrArg some (by kernel_rfl))
 f265 := Tryz.func100.trans (congrArg some (by kernel_rfl))
 t3 := Tryz.underlying3
 a3 := Tryz.isAgg3
 z3 := Tryz.sizeOf3
 v3 := Tryz.zeroValue3
 t9 := Tryz.underlying9
 a9 := Tryz.isAgg9
 z9 := Tryz.sizeOf9
 v9 := Tryz.zeroValue9 }
end Go.Proofs.YtgnjjlgmlokhmaaGreatDoor
namespace Go.Proofs.YtgnjjlgmlokhmaaGreatDoor
open Go.RowKit Go.Sort
attribute [local go_sem ↓] Go.wp_at_zero Go.wp_at_succ Nm.ld_a Nm.ld_n Nm.st_a Nm.st_n Nm.lv_a Nm.lv_n

namespace D
theorem cmp_two {a a' b b' : List Nat} (h : a.length = a'.length) : Nm.D.cmp (a ++ b) (a' ++ b') = if Nm.D.cmp a a' = 0 then Nm.D.cmp b b' else Nm.D.cmp a a' := by
 induction a generalizing a' with
 | nil =>
  cases a' with
  | nil => simp [Nm.D.cmp]
  | cons y a' => simp at h
 | cons x a ih =>
  cases a' with
  | nil => simp at h
  | cons y a' =>
   have := ih (a' := a') (by simpa using h)
   simp only [List.cons_append, Nm.D.cmp, this]
   by_cases e : x = y
   ·subst e; simp
   ·simp only [if_neg e]
    split <;> simp
theorem cmp_end {t t' r r' : List Nat} : Nm.D.cmp (t.map (· + 1) ++ 0 :: r) (t'.map (· + 1) ++ 0 :: r') = if Nm.D.cmp t t' = 0 then Nm.D.cmp r r' else Nm.D.cmp t t' := by
 induction t generalizing t' with
 | nil =>
  cases t' with
  | nil => simp [Nm.D.cmp]
  | cons y t' => simp [Nm.D.cmp]
 | cons x t ih =>
  cases t' with
  | nil => simp [Nm.D.cmp]
  | cons y t' =>
   simp only [List.map_cons, List.cons_append, Nm.D.cmp, ih]
   by_cases e : x = y
   ·subst e; simp
   ·have e1 : ¬ x + 1 = y + 1 := by omega
    have e2 : (x + 1 < y + 1) = (x < y) := by simp
    simp only [if_neg e, if_neg e1, e2]
    split <;> simp
def ue (x : Uv) : List Nat := x.n.l ++ ((ns x.t).map (· + 1) ++ 0 :: [x.h])
def cfU (x y : Uv) : Int := Nm.D.cmp (ue x) (ue y)
theorem cfU_is (x y : Uv) : cfU x y = if Nm.D.cmp x.n.l y.n.l = 0 then (if Nm.D.cmp (ns x.t) (ns y.t) = 0 then Nm.D.cmp [x.h] [y.h] else Nm.D.cmp (ns x.t) (ns y.t)) else Nm.D.cmp x.n.l y.n.l := by
 unfold cfU ue
 rw [cmp_two (by rw [x.n.len, y.n.len]), cmp_end]
theorem ue_inj {x y : Uv} (h : cfU x y = 0) : x = y := by
 rw [cfU_is] at h
 split at h
 ·rename_i h1
  split at h
  ·rename_i h2
   have e1 := Nm.D.Nm.eq ((Nm.D.cmp_zero _ _).1 h1)
   have e2 := (Nm.D.cmp_zero _ _).1 h2
   have e3 := (Nm.D.cmp_zero _ _).1 h
   obtain ⟨n, k, t⟩ := x
   obtain ⟨n', k', t'⟩ := y
   simp only [List.cons.injEq, and_true] at e1 e2 e3
   subst e1 e3
   rw [<- sb_ns t, e2, sb_ns]
  ·exact absurd h (by assumption)
 ·exact absurd h (by assumption)
end D
theorem bytesOf_any (P : Program) (w : World) (A : Option Addr) (n c : Nat) (l : List Nat) (h : Row w A n (bys l)) :
  (Extern.Bytes.bytesOf (.slice A n c)).run P w = .ok ⟨(l.map fun b => UInt8.ofNat b).toArray⟩ w := by
 have hl := h.len
 rw [bys_len] at hl
 rcases A with _ | ad
 ·have : l = [] := by
   rcases Nat.eq_zero_or_pos n with h0 | h0
   ·exact List.eq_nil_of_length_eq_zero (by omega)
   ·obtain ⟨ad, e, _⟩ := h.tow h0
    cases e
  subst this
  rfl
 ·have hc : ∀ j x, (l.map fun b : Nat => (b : Int))[j]? = some x -> w.cell? (ad.add j) = some (.int .u8 x) := by
   intro j x hj
   rw [List.getElem?_map] at hj
   cases hq : l[j]? with
   | none => rw [hq] at hj; simp at hj
   | some b =>
    rw [hq] at hj
    simp at hj
    subst hj
    obtain ⟨ad', e, hc⟩ := h.cell (bys_at hq)
    injection e with e
    subst e
    exact hc
  have hr := Lib.run_loadBytesX (P := P) w (l.map fun b : Nat => (b : Int)) ad .empty hc
  rw [List.length_map, hl] at hr
  change (Extern.Bytes.loadBytes ad n .empty).run P w = _
  rw [hr]
  congr 1
  apply ByteArray.ext
  simp [Lib.bytesOf]
theorem compareBytes_any : ∀ l k : List Nat, (∀ b ∈ l, b < 256) -> (∀ b ∈ k, b < 256) -> Lib.compareBytes (l.map fun b => UInt8.ofNat b) (k.map fun b => UInt8.ofNat b) = Nm.D.cmp l k
 | [], [], _, _ => rfl
 | [], _ :: _, _, _ => rfl
 | _ :: _, [], _, _ => rfl
 | x :: l, y :: k, hl, hk => by
  have hx := hl x (List.mem_cons_self ..)
  have hy := hk y (List.mem_cons_self ..)
  have ih := compareBytes_any l k (fun b hb => hl b (List.mem_cons_of_mem _ hb)) (fun b hb => hk b (List.mem_cons_of_mem _ hb))
  have lt : ∀ a b : Nat, a < 256 -> b < 256 -> (UInt8.ofNat a < UInt8.ofNat b ↔ a < b) := fun a b h1 h2 => by
   rw [UInt8.lt_iff_toNat_lt]; simp; omega
  rw [List.map_cons, List.map_cons, Lib.compareBytes, Nm.D.cmp, ih]
  by_cases e : x = y
  ·subst e; simp
  ·rw [if_neg e]
   by_cases e2 : x < y
   ·rw [if_pos e2, if_pos ((lt x y hx hy).2 e2)]
   ·rw [if_neg e2, if_neg (fun h => e2 ((lt x y hx hy).1 h)), if_pos ((lt y x hy hx).2 (by omega))]
theorem run_compare (P : Program) (w : World) (A B : Option Addr) (n c m d : Nat) (l k : List Nat) (ha : Row w A n (bys l)) (hb : Row w B m (bys k)) (hl : ∀ b ∈ l, b < 256) (hk : ∀ b ∈ k, b < 256) :
  (Extern.BytealgCompare.compare #[.slice A n c, .slice B m d]).run P w = .ok (.int .i64 (Nm.D.cmp l k)) w := by
 change Sem.run P (do pure (goInt (Extern.BytealgCompare.cmp (<- Extern.Bytes.bytesOf (.slice A n c)) (<- Extern.Bytes.bytesOf (.slice B m d))))) w = _
 simp only [Sem.run_bind, Sem.run_pure, bytesOf_any P w A n c l ha, bytesOf_any P w B m d k hb, Result.andThen]
 rw [Lib.cmp_eq]
 have := compareBytes_any l k hl hk
 simp only
 rw [this]
 rfl
theorem bytes_compare (A B : Option Addr) (n c m d : Nat) (l k : List Nat) (r : Int) (w : World) (ha : Row w A n (bys l)) (hb : Row w B m (bys k)) (hl : Kept (∀ b ∈ l, b < 256)) (hk : Kept (∀ b ∈ k, b < 256)) (hr : Kept (Nm.D.cmp l k = r)) :
  Calls Tryz.prog 40 #[.slice A n c, .slice B m d] w fun e w' => e = .returned (.int .i64 r) ∧ w = w' := by
 have hrun := Lib.hid (run_compare Tryz.prog w A B n c m d l k ha hb hl.out hk.out)
 go_enter Tryz.func40, Tryz.ntmps40
 go_wp2
 rw [run_callFunc_extern Tryz.func66 (by kernel_rfl) (by kernel_rfl) (by kernel_rfl) (e := Extern.BytealgCompare.compare) (by kernel_rfl), hrun.out]
 simp only [Result.andThen]
 rw [Oper.upon_value]
 go_wp2
 go_ret
 exact ⟨ret_of hr.out, rfl⟩
theorem bstring_cmp (a b : ByteArray) : Lib.compareBytes a.data.toList b.data.toList = Nm.D.cmp (D.ns a) (D.ns b) := by
 rw [<- compareBytes_any _ _ (ns_lt a) (ns_lt b)]
 have e : ((fun b : Nat => UInt8.ofNat b) ∘ fun x : UInt8 => x.toNat) = id := by funext x; simp
 simp [D.ns, e]
theorem strCmp_any (a b : ByteArray) (r : Int) (w : World) (hr : Kept (Nm.D.cmp (D.ns a) (D.ns b) = r)) : Calls Tryz.prog 41 #[.string a, .string b] w fun e w' => e = .returned (.int .i64 r) ∧ w = w' := by
 have h : Calls Tryz.prog 67 #[.string a, .string b] w fun e w' => e = .returned (.int .i64 (Lib.compareBytes a.data.toList b.data.toList)) ∧ w' = w := Any.bytealg_CompareString lays213 a b w
 rw [bstring_cmp, hr.out] at h
 have H := Lib.hid h
 clear h
 go_enter Tryz.func41, Tryz.ntmps41
 go_wp2_with (go_at_call 67; (with_reducible refine H.out.mono ?_); rintro e w1 ⟨rfl, rfl⟩)
 go_ret
 exact ⟨rfl, rfl⟩
theorem isNaN_any (a : Nat) (w : World) : Calls Tryz.prog 68 #[.int .u8 (a : Nat)] w fun e w' => e = .returned (.bool false) ∧ w = w' := by
 go_enter Tryz.func68, Tryz.ntmps68
 go_wp2
 go_ret
 exact ⟨by simp, rfl⟩
theorem u8Cmp_any (a b : Nat) (r : Int) (w : World) (hr : Kept (Nm.D.cmp [a] [b] = r)) : Calls Tryz.prog 42 #[.int .u8 (a : Nat), .int .u8 (b : Nat)] w fun e w' => e = .returned (.int .i64 r) ∧ w = w' := by
 have H := Lib.hid (fun a => isNaN_any a w)
 have e0 : Nm.D.cmp [a] [b] = if a = b then 0 else if a < b then -1 else 1 := by simp [Nm.D.cmp]
 have HR := hr.out
 rw [e0] at HR
 rcases Nat.lt_trichotomy a b with h | h | h
 ·rw [if_neg (by omega), if_pos h] at HR
  subst HR
  have i1 : (a : Int) < b := by omega
  clear e0 hr h
  go_enter Tryz.func42, Tryz.ntmps42
  go_wp2_with (go_at_call 68; (with_reducible refine (H.out _).mono ?_); rintro e w1 ⟨rfl, rfl⟩)
  go_ret
  exact ⟨rfl, rfl⟩
 ·subst h
  rw [if_pos rfl] at HR
  subst HR
  have i1 : ¬ (a : Int) < a := by omega
  clear e0 hr
  go_enter Tryz.func42, Tryz.ntmps42
  go_wp2_with (go_at_call 68; (with_reducible refine (H.out _).mono ?_); rintro e w1 ⟨rfl, rfl⟩)
  go_ret
  exact ⟨rfl, rfl⟩
 ·rw [if_neg (by omega), if_neg (by omega)] at HR
  subst HR
  have i1 : ¬ (a : Int) < b := by omega
  have i2 : (b : Int) <= a := by omega
  have i3 : (b : Int) < a := by omega
  clear e0 hr h
  go_enter Tryz.func42, Tryz.ntmps42
  go_wp2_with (go_at_call 68; (with_reducible refine (H.out _).mono ?_); rintro e w1 ⟨rfl, rfl⟩)
  go_ret
  exact ⟨rfl, rfl⟩
theorem or_any (g : Nat) (a b c r : Int) (w : World) (hb : Blk w g 3 #[.int .i64 a, .int .i64 b, .int .i64 c]) (hr : Kept ((if a = 0 then (if b = 0 then c else b) else a) = r)) :
  Calls Tryz.prog 39 #[.slice (some ⟨g, 0, none⟩) 3 3] w fun e w' => e = .returned (.int .i64 r) ∧ w = w' := by
 have c0 := hb.c_ 0
 have c1 := hb.c_ 1
 have c2 := hb.c_ 2
 have lt := hb.lt
 have HR := hr
 clear hr
 go_enter Tryz.func39, Tryz.ntmps39
 go_wp2_with fail
 go_loopw [8] (fun s wr => ∃ k : Nat, k <= 3 ∧ (k = 0 -> s = .int .i64 0) ∧ (k = 1 -> s = .int .i64 1) ∧ (k = 2 -> s = .int .i64 2) ∧ (k = 3 -> s = .int .i64 3) ∧ Kept (1 <= k -> a = 0) ∧ Kept (2 <= k -> b = 0) ∧ Kept (3 <= k -> c = 0) ∧ wr = w) (fun s _ => 3 - (intOf s).toNat)
 case atStart => exact ⟨0, by omega, fun _ => rfl, fun h => by omega, fun h => by omega, fun h => by omega, ⟨fun h => by omega⟩, ⟨fun h => by omega⟩, ⟨fun h => by omega⟩, rfl⟩
 case round =>
  obtain ⟨k, hk, e0, e1, e2, e3, N1, N2, N3, rfl⟩ := hrel
  obtain rfl | rfl | rfl | rfl : k = 0 ∨ k = 1 ∨ k = 2 ∨ k = 3 := by omega
  ·obtain rfl := e0 rfl
   clear e0 e1 e2 e3
   by_cases h : a = 0
   ·have ih : ((a : Int) != 0) = false := by simp [h]
    have H := Kept.mk h
    clear h
    go_wp2
    go_roundw
    case rel => exact ⟨1, by omega, fun h => by omega, fun _ => rfl, fun h => by omega, fun h => by omega, ⟨fun h => by exact H.out⟩, ⟨fun h => by omega⟩, ⟨fun h => by omega⟩, trivial⟩
    case measure => simp [intOf]
   ·have ih : ((a : Int) != 0) = true := by simp [h]
    have HE : Kept (a = r) := ⟨by have := HR.out; rw [if_neg h] at this; exact this⟩
    clear h
    go_wp2
    go_ret
    exact ⟨ret_of HE.out, rfl⟩
  ·obtain rfl := e1 rfl
   clear e0 e1 e2 e3
   by_cases h : b = 0
   ·have ih : ((b : Int) != 0) = false := by simp [h]
    have H := Kept.mk h
    clear h
    go_wp2
    go_roundw
    case rel => exact ⟨2, by omega, fun h => by omega, fun h => by omega, fun _ => rfl, fun h => by omega, ⟨fun h => by exact N1.out (by omega)⟩, ⟨fun h => by exact H.out⟩, ⟨fun h => by omega⟩, trivial⟩
    case measure => simp [intOf]
   ·have ih : ((b : Int) != 0) = true := by simp [h]
    have HE : Kept (b = r) := ⟨by have := HR.out; rw [if_pos (N1.out (by omega)), if_neg h] at this; exact this⟩
    clear h
    go_wp2
    go_ret
    exact ⟨ret_of HE.out, rfl⟩
  ·obtain rfl := e2 rfl
   clear e0 e1 e2 e3
   by_cases h : c = 0
   ·have ih : ((c : Int) != 0) = false := by simp [h]
    have H := Kept.mk h
    clear h
    go_wp2
    go_roundw
    case rel => exact ⟨3, by omega, fun h => by omega, fun h => by omega, fun h => by omega, fun _ => rfl, ⟨fun h => by exact N1.out (by omega)⟩, ⟨fun h => by exact N2.out (by omega)⟩, ⟨fun h => by exact H.out⟩, trivial⟩
    case measure => simp [intOf]
   ·have ih : ((c : Int) != 0) = true := by simp [h]
    have HE : Kept (c = r) := ⟨by have := HR.out; rw [if_pos (N1.out (by omega)), if_pos (N2.out (by omega))] at this; exact this⟩
    clear h
    go_wp2
    go_ret
    exact ⟨ret_of HE.out, rfl⟩
  ·obtain rfl := e3 rfl
   clear e0 e1 e2 e3
   have HE : Kept (0 = r) := ⟨by have := HR.out; rw [if_pos (N1.out (by omega)), if_pos (N2.out (by omega)), N3.out (by omega)] at this; exact this⟩
   go_wp2
   go_ret
   exact ⟨ret_of HE.out, rfl⟩
theorem row_use {w : World} {g : Nat} {x : D.Uv} {T : TypeId} (h : Blk w g T (uS.v x)) : Row w (some ⟨g, 0, none⟩) 12 (bys x.n.l) := by
 refine ⟨by rw [bys_len, x.n.len], fun _ => ⟨_, rfl, h.lt, fun j u hu => ?_⟩⟩
 have hj := (List.getElem?_eq_some_iff.1 hu).1
 have e : (ucells x)[j]? = some u := by unfold ucells; rw [List.getElem?_append_left hj]; exact hu
 exact World.news_of_block h.out j u (by simpa [Shp.v, uS] using e)
theorem use_c12 {w : World} {g : Nat} {x : D.Uv} {T : TypeId} (h : Blk w g T (uS.v x)) : w.cell? ⟨g, 12, none⟩ = some (.int .u8 (x.h : Nat)) ∧ w.cell? ⟨g, 13, none⟩ = some (.string x.t) := by
 have hl : (bys x.n.l).length = 12 := by rw [bys_len, x.n.len]
 have c : ∀ j u, (ucells x)[j]? = some u -> w.cell? ⟨g, j, none⟩ = some u := fun j u hu => by
  have := World.news_of_block h.out j u (by simpa [Shp.v, uS] using hu)
  have e : (⟨g, 0, none⟩ : Addr).add j = ⟨g, j, none⟩ := by unfold Addr.add; split <;> simp_all
  rwa [e] at this
 refine ⟨c 12 _ ?_, c 13 _ ?_⟩
 ·unfold ucells; rw [List.getElem?_append_right (by omega), hl]; rfl
 ·unfold ucells; rw [List.getElem?_append_right (by omega), hl]; rfl
theorem grw_two (w : World) (a b c : Obj) : (((w.alloc a).alloc b).drew).alloc c = grow (w.drewN 1) #[a, b, c] := by
 have e : ((w.alloc a).alloc b).drew = (w.drew.alloc a).alloc b := rfl
 rw [e, alloc_eq_grow, alloc_eq_grow, alloc_eq_grow, grow_grow, grow_grow]
 rfl
set_option maxHeartbeats 16000000 in
theorem useCmp_any (x y : D.Uv) (w : World) :
  Calls Tryz.prog 19 #[.agg (uS.v x), .agg (uS.v y)] w fun e w' => e = .returned (.int .i64 (D.cfU x y)) ∧ ∃ q os, w' = grow (w.drewN q) os := by
 have B0 : Blk ((w.alloc (.cells (uS.v x) 41)).alloc (.cells (uS.v y) 41)) w.heap.size 41 (uS.v x) := (Blk.new w _ (uS.v x)).alloc _
 have B1 := Blk.new (w.alloc (.cells (uS.v x) 41)) 41 (uS.v y)
 simp only [World.size_alloc] at B1
 rw [D.cfU_is]
 obtain ⟨r1, h1⟩ : ∃ r, Nm.D.cmp x.n.l y.n.l = r := ⟨_, rfl⟩
 obtain ⟨r2, h2⟩ : ∃ r, Nm.D.cmp (D.ns x.t) (D.ns y.t) = r := ⟨_, rfl⟩
 obtain ⟨r3, h3⟩ : ∃ r, Nm.D.cmp [x.h] [y.h] = r := ⟨_, rfl⟩
 rw [h1, h2, h3]
 obtain ⟨r, hr⟩ : ∃ r, (if r1 = 0 then (if r2 = 0 then r3 else r2) else r1) = r := ⟨_, rfl⟩
 rw [hr]
 obtain ⟨W2, hW2⟩ : ∃ W, (w.alloc (.cells (uS.v x) 41)).alloc (.cells (uS.v y) 41) = W := ⟨_, rfl⟩
 rw [hW2] at B0 B1
 obtain ⟨a12, a13⟩ := use_c12 B0
 obtain ⟨b12, b13⟩ := use_c12 B1
 have H1 := Lib.hid (fun W (h : Below W2.heap.size W2 W) => bytes_compare (some ⟨w.heap.size, 0, none⟩) (some ⟨w.heap.size + 1, 0, none⟩) 12 12 12 12 x.n.l y.n.l r1 W ((row_use B0).on h) ((row_use B1).on h) ⟨x.n.lt⟩ ⟨y.n.lt⟩ ⟨h1⟩)
 have H2 := Lib.hid (fun W (h : Below W2.heap.size W2 W) => strCmp_any x.t y.t r2 W ⟨h2⟩)
 have H3 := Lib.hid (fun W (h : Below W2.heap.size W2 W) => u8Cmp_any x.h y.h r3 W ⟨h3⟩)
 have KR := Kept.mk hr
 have KW := Kept.mk hW2
 have lt := B1.lt
 have lt0 := B0.lt
 clear hr h1 h2 h3 hW2 B0 B1
 go_enter Tryz.func19, Tryz.ntmps19
 go_upto_region 1 with fail
 rw [KW.out]
 refine wp_region_noPanic ?_
 refine wp_region_held_drew (S := fun W' => Below W2.heap.size W2 W') (by kernel_rfl) ((Below.refl _ _).drew) (fun _ => ?_)
 obtain ⟨wd, hwd⟩ : ∃ wd, W2.drew = wd := ⟨_, rfl⟩
 have sd : Below W2.heap.size W2 wd := by rw [<- hwd]; exact (Below.refl _ _).drew
 have HWD : Hid (∃ q os, (wd.alloc (.cells #[.int .i64 r1, .int .i64 r2, .int .i64 r3] 3)) = grow (w.drewN q) os) := Lib.hid (by rw [<- hwd, <- KW.out]; exact ⟨1, #[.cells (uS.v x) 41, .cells (uS.v y) 41, .cells #[.int .i64 r1, .int .i64 r2, .int .i64 r3] 3], grw_two _ _ _ _⟩)
 rw [hwd]
 clear hwd
 refine takeT 0 (some 5) ?va0 ?hya0 sd ?resta0
 case hya0 => (intro o ho W hW; simp only [gT, gS, gZ, sI] at ho; subst ho; (try dsimp only at hW); have x12 := cell_kept_ hW a12; have x13 := cell_kept_ hW a13; have y12 := cell_kept_ hW b12; have y13 := cell_kept_ hW b13; have l1 := Nat.lt_of_lt_of_le lt hW.size; have l0 := Nat.lt_of_lt_of_le lt0 hW.size; go_simp; try rfl)
 try simp only [Act.put, iT, iZ, iS]
 refine takeT 1 (some 6) ?va1 ?hya1 sd ?resta1
 case hya1 => (intro o ho W hW; simp only [gT, gS, gZ, sI] at ho; subst ho; (try dsimp only at hW); have x12 := cell_kept_ hW a12; have x13 := cell_kept_ hW a13; have y12 := cell_kept_ hW b12; have y13 := cell_kept_ hW b13; have l1 := Nat.lt_of_lt_of_le lt hW.size; have l0 := Nat.lt_of_lt_of_le lt0 hW.size; go_simp; try rfl)
 try simp only [Act.put, iT, iZ, iS]
 refine takeT 2 (some 7) ?va2 ?hya2 sd ?resta2
 case hya2 => (intro o ho W hW; simp only [gT, gS, gZ, sI] at ho; subst ho; (try dsimp only at hW); have x12 := cell_kept_ hW a12; have x13 := cell_kept_ hW a13; have y12 := cell_kept_ hW b12; have y13 := cell_kept_ hW b13; have l1 := Nat.lt_of_lt_of_le lt hW.size; have l0 := Nat.lt_of_lt_of_le lt0 hW.size; go_simp; try rfl)
 try simp only [Act.put, iT, iZ, iS]
 refine takeT 3 (some 8) ?va3 ?hya3 sd ?resta3
 case hya3 => (intro o ho W hW; simp only [gT, gS, gZ, sI] at ho; subst ho; (try dsimp only at hW); have x12 := cell_kept_ hW a12; have x13 := cell_kept_ hW a13; have y12 := cell_kept_ hW b12; have y13 := cell_kept_ hW b13; have l1 := Nat.lt_of_lt_of_le lt hW.size; have l0 := Nat.lt_of_lt_of_le lt0 hW.size; go_simp; try rfl)
 try simp only [Act.put, iT, iZ, iS]
 refine takeT 5 (some 10) ?va5 ?hya5 sd ?resta5
 case hya5 => (intro o ho W hW; simp only [gT, gS, gZ, sI] at ho; subst ho; (try dsimp only at hW); have x12 := cell_kept_ hW a12; have x13 := cell_kept_ hW a13; have y12 := cell_kept_ hW b12; have y13 := cell_kept_ hW b13; have l1 := Nat.lt_of_lt_of_le lt hW.size; have l0 := Nat.lt_of_lt_of_le lt0 hW.size; go_simp; try rfl)
 try simp only [Act.put, iT, iZ, iS]
 refine takeT 6 (some 11) ?va6 ?hya6 sd ?resta6
 case hya6 => (intro o ho W hW; simp only [gT, gS, gZ, sI] at ho; subst ho; (try dsimp only at hW); have x12 := cell_kept_ hW a12; have x13 := cell_kept_ hW a13; have y12 := cell_kept_ hW b12; have y13 := cell_kept_ hW b13; have l1 := Nat.lt_of_lt_of_le lt hW.size; have l0 := Nat.lt_of_lt_of_le lt0 hW.size; go_simp; try rfl)
 try simp only [Act.put, iT, iZ, iS]
 refine takeT 7 (some 12) ?va7 ?hya7 sd ?resta7
 case hya7 => (intro o ho W hW; simp only [gT, gS, gZ, sI] at ho; subst ho; (try dsimp only at hW); have x12 := cell_kept_ hW a12; have x13 := cell_kept_ hW a13; have y12 := cell_kept_ hW b12; have y13 := cell_kept_ hW b13; have l1 := Nat.lt_of_lt_of_le lt hW.size; have l0 := Nat.lt_of_lt_of_le lt0 hW.size; go_simp; try rfl)
 try simp only [Act.put, iT, iZ, iS]
 refine takeT 8 (some 13) ?va8 ?hya8 sd ?resta8
 case hya8 => (intro o ho W hW; simp only [gT, gS, gZ, sI] at ho; subst ho; (try dsimp only at hW); have x12 := cell_kept_ hW a12; have x13 := cell_kept_ hW a13; have y12 := cell_kept_ hW b12; have y13 := cell_kept_ hW b13; have l1 := Nat.lt_of_lt_of_le lt hW.size; have l0 := Nat.lt_of_lt_of_le lt0 hW.size; go_simp; try rfl)
 try simp only [Act.put, iT, iZ, iS]
 refine takeT 10 (some 15) ?va10 ?hya10 sd ?resta10
 case hya10 => (intro o ho W hW; simp only [gT, gS, gZ, sI] at ho; subst ho; (try dsimp only at hW); have x12 := cell_kept_ hW a12; have x13 := cell_kept_ hW a13; have y12 := cell_kept_ hW b12; have y13 := cell_kept_ hW b13; have l1 := Nat.lt_of_lt_of_le lt hW.size; have l0 := Nat.lt_of_lt_of_le lt0 hW.size; go_simp; try rfl)
 try simp only [Act.put, iT, iZ, iS]
 refine takeT 11 (some 16) ?va11 ?hya11 sd ?resta11
 case hya11 => (intro o ho W hW; simp only [gT, gS, gZ, sI] at ho; subst ho; (try dsimp only at hW); have x12 := cell_kept_ hW a12; have x13 := cell_kept_ hW a13; have y12 := cell_kept_ hW b12; have y13 := cell_kept_ hW b13; have l1 := Nat.lt_of_lt_of_le lt hW.size; have l0 := Nat.lt_of_lt_of_le lt0 hW.size; go_simp; try rfl)
 try simp only [Act.put, iT, iZ, iS]
 refine takeT 12 (some 17) ?va12 ?hya12 sd ?resta12
 case hya12 => (intro o ho W hW; simp only [gT, gS, gZ, sI] at ho; subst ho; (try dsimp only at hW); have x12 := cell_kept_ hW a12; have x13 := cell_kept_ hW a13; have y12 := cell_kept_ hW b12; have y13 := cell_kept_ hW b13; have l1 := Nat.lt_of_lt_of_le lt hW.size; have l0 := Nat.lt_of_lt_of_le lt0 hW.size; go_simp; try rfl)
 try simp only [Act.put, iT, iZ, iS]
 refine takeT 13 (some 18) ?va13 ?hya13 sd ?resta13
 case hya13 => (intro o ho W hW; simp only [gT, gS, gZ, sI] at ho; subst ho; (try dsimp only at hW); have x12 := cell_kept_ hW a12; have x13 := cell_kept_ hW a13; have y12 := cell_kept_ hW b12; have y13 := cell_kept_ hW b13; have l1 := Nat.lt_of_lt_of_le lt hW.size; have l0 := Nat.lt_of_lt_of_le lt0 hW.size; go_simp; try rfl)
 try simp only [Act.put, iT, iZ, iS]
 refine nextS 4 (by kernel_rfl) (by rfl) (fun o ho K hK => ?_)
 simp only [gT, gS, gZ, sI] at ho; subst ho
 go_simp
 (go_at_call 40; (with_reducible refine (H1.out _ sd).mono ?_); rintro e w4 ⟨rfl, rfl⟩)
 refine hK.out _ _ sd (fun _ => ?_)
 clear hK K
 try simp only [Act.put, iT, iZ, iS]
 refine nextS 9 (by kernel_rfl) (by rfl) (fun o ho K hK => ?_)
 simp only [gT, gS, gZ, sI] at ho; subst ho
 go_simp
 (go_at_call 41; (with_reducible refine (H2.out _ sd).mono ?_); rintro e w4 ⟨rfl, rfl⟩)
 refine hK.out _ _ sd (fun _ => ?_)
 clear hK K
 try simp only [Act.put, iT, iZ, iS]
 refine nextS 14 (by kernel_rfl) (by rfl) (fun o ho K hK => ?_)
 simp only [gT, gS, gZ, sI] at ho; subst ho
 go_simp
 (go_at_call 42; (with_reducible refine (H3.out _ sd).mono ?_); rintro e w4 ⟨rfl, rfl⟩)
 refine hK.out _ _ sd (fun _ => ?_)
 clear hK K
 try simp only [Act.put, iT, iZ, iS]
 refine nextS 15 (by kernel_rfl) (by rfl) (fun o ho K hK => ?_)
 simp only [gT, gS, gZ, sI] at ho; subst ho
 go_simp
 have sa : Below W2.heap.size W2 (wd.alloc (.cells #[.int .i64 r1, .int .i64 r2, .int .i64 r3] 3)) := sd.trans ((below_alloc_ wd _).mono sd.size)
 refine hK.out _ _ sa (fun _ => ?_)
 clear hK K
 try simp only [Act.put, iT, iZ, iS]
 refine nextS 16 (by kernel_rfl) (by rfl) (fun o ho K hK => ?_)
 simp only [gT, gS, gZ, sI] at ho; subst ho
 go_simp
 (go_at_call 39; (with_reducible refine (or_any wd.heap.size r1 r2 r3 r _ (Blk.new wd _ _) KR).mono ?_); rintro e w4 ⟨rfl, rfl⟩)
 refine hK.out _ _ sa (fun _ => ?_)
 clear hK K
 try simp only [Act.put, iT, iZ, iS]
 refine takeT 17 (some 4) ?vz17 ?hyz17 sa ?restz17
 case hyz17 => (intro o ho W hW; simp only [gT, gS, gZ, sI] at ho; subst ho; (try dsimp only at hW); go_simp; try rfl)
 try simp only [Act.put, iT, iZ, iS]
 refine wpAnyH_done (by kernel_rfl) ?_ _
 refine NoPanic.normal ?_
 go_wp2_with fail
 go_ret
 exact ⟨rfl, HWD.out⟩
end Go.Proofs.YtgnjjlgmlokhmaaGreatDoor
namespace Go.Proofs.YtgnjjlgmlokhmaaGreatDoor
open Go.RowKit
attribute [local go_sem ↓] Go.wp_at_zero Go.wp_at_succ ld_uv lv_uv st_uv bd_uv bs_uv
attribute [local go_sem] run_lvuv run_lduv run_stuv_new run_bsuv Shp.rd_new Shp.rd_old Shp.rd_drew Shp.rd_drewN

theorem bits_or8 {a b : Nat} (ha : a < 8) (hb : b < 8) : bits BinOp.or .u8 (a : Int) (b : Int) = ((a ||| b : Nat) : Int) := by
 have h : ∀ a b : Fin 8, bits BinOp.or .u8 ((a.1 : Nat) : Int) ((b.1 : Nat) : Int) = ((a.1 ||| b.1 : Nat) : Int) := by decide
 exact h ⟨a, ha⟩ ⟨b, hb⟩
theorem uv_set12 (x : D.Uv) (r : Nat) : (uS.v x).setIfInBounds 12 (.int .u8 (r : Nat)) = uS.v ⟨x.n, r, x.t⟩ := by
 obtain ⟨b0, b1, b2, b3, b4, b5, b6, b7, b8, b9, b10, b11, h, e⟩ := uv_cells x
 obtain ⟨c0, c1, c2, c3, c4, c5, c6, c7, c8, c9, c10, c11, h', e'⟩ := uv_cells ⟨x.n, r, x.t⟩
 simp only at h'
 rw [h] at h'
 injection h' with q0 h'; injection h' with q1 h'; injection h' with q2 h'; injection h' with q3 h'; injection h' with q4 h'; injection h' with q5 h'; injection h' with q6 h'; injection h' with q7 h'; injection h' with q8 h'; injection h' with q9 h'; injection h' with q10 h'; injection h' with q11 h'
 subst q0 q1 q2 q3 q4 q5 q6 q7 q8 q9 q10 q11
 rw [e, e']
 rfl
theorem uv_set13 (x : D.Uv) (u : ByteArray) : (uS.v x).setIfInBounds 13 (.string u) = uS.v ⟨x.n, x.h, u⟩ := by
 obtain ⟨b0, b1, b2, b3, b4, b5, b6, b7, b8, b9, b10, b11, h, e⟩ := uv_cells x
 obtain ⟨c0, c1, c2, c3, c4, c5, c6, c7, c8, c9, c10, c11, h', e'⟩ := uv_cells ⟨x.n, x.h, u⟩
 simp only at h'
 rw [h] at h'
 injection h' with q0 h'; injection h' with q1 h'; injection h' with q2 h'; injection h' with q3 h'; injection h' with q4 h'; injection h' with q5 h'; injection h' with q6 h'; injection h' with q7 h'; injection h' with q8 h'; injection h' with q9 h'; injection h' with q10 h'; injection h' with q11 h'
 subst q0 q1 q2 q3 q4 q5 q6 q7 q8 q9 q10 q11
 rw [e, e']
 rfl
attribute [local go_sem] uv_set12 uv_set13
theorem uv_lv {w : World} {a : Addr} {x : D.Uv} (h : uS.rd w a = some x) : (loadVar 41 a).run Tryz.prog w = .ok (.agg (uS.v x)) w := (run_lvuv w a).trans (by rw [h]; rfl)
theorem uv_lv3 (w : World) (X y Z : D.Uv) : (loadVar 41 ⟨w.heap.size + 1 + 1, 0, none⟩).run Tryz.prog (((w.alloc (.cells (uS.v X) 41)).alloc (.cells (uS.v y) 41)).alloc (.cells (uS.v Z) 41)) = .ok (.agg (uS.v Z)) (((w.alloc (.cells (uS.v X) 41)).alloc (.cells (uS.v y) 41)).alloc (.cells (uS.v Z) 41)) :=
 uv_lv (Shp.rd_new _ _ _ _ (by simp))
def D.wth (x y : D.Uv) : D.Uv := ⟨x.n, x.h ||| y.h, (if x.t.size = 0 then x.t else x.t ++ ⟨#[44]⟩) ++ y.t⟩
structure W3f (w W : World) (X y : D.Uv) : Prop where
 a12 : W.cell? ⟨w.heap.size, 12, none⟩ = some (.int .u8 (X.h : Nat))
 a13 : W.cell? ⟨w.heap.size, 13, none⟩ = some (.string X.t)
 b12 : W.cell? ⟨w.heap.size + 1, 12, none⟩ = some (.int .u8 (y.h : Nat))
 b13 : W.cell? ⟨w.heap.size + 1, 13, none⟩ = some (.string y.t)
 rd : uS.rd W ⟨w.heap.size, 0, none⟩ = some X
theorem w3f (w : World) (X y : D.Uv) : W3f w (((w.alloc (.cells (uS.v X) 41)).alloc (.cells (uS.v y) 41)).alloc (.cells #[.int .u8 0, .int .u8 0, .int .u8 0, .int .u8 0, .int .u8 0, .int .u8 0, .int .u8 0, .int .u8 0, .int .u8 0, .int .u8 0, .int .u8 0, .int .u8 0, .int .u8 0, .string ⟨#[]⟩] 41)) X y := by
 have B0 : Blk (((w.alloc (.cells (uS.v X) 41)).alloc (.cells (uS.v y) 41)).alloc (.cells #[.int .u8 0, .int .u8 0, .int .u8 0, .int .u8 0, .int .u8 0, .int .u8 0, .int .u8 0, .int .u8 0, .int .u8 0, .int .u8 0, .int .u8 0, .int .u8 0, .int .u8 0, .string ⟨#[]⟩] 41)) w.heap.size 41 (uS.v X) := ((Blk.new w _ (uS.v X)).alloc _).alloc _
 have B1 := (Blk.new (w.alloc (.cells (uS.v X) 41)) 41 (uS.v y)).alloc (.cells #[.int .u8 0, .int .u8 0, .int .u8 0, .int .u8 0, .int .u8 0, .int .u8 0, .int .u8 0, .int .u8 0, .int .u8 0, .int .u8 0, .int .u8 0, .int .u8 0, .int .u8 0, .string ⟨#[]⟩] 41)
 simp only [World.size_alloc] at B1
 exact ⟨(use_c12 B0).1, (use_c12 B0).2, (use_c12 B1).1, (use_c12 B1).2, Shp.rd_blk B0⟩
set_option maxHeartbeats 4000000 in
theorem with_any (x y : D.Uv) (w : World) (hx : x.h < 8) (hy : y.h < 8) (hxt : x.t.size <= 100000) (hyt : y.t.size <= 100000) :
  Calls Tryz.prog 20 #[.agg (uS.v x), .agg (uS.v y)] w fun e w' => e = .returned (.agg (uS.v (D.wth x y))) ∧ Below w.heap.size w w' := by
 have hor := bits_or8 hx hy
 obtain ⟨r, hr⟩ : ∃ r, x.h ||| y.h = r := ⟨_, rfl⟩
 rw [hr] at hor
 obtain ⟨a12, a13, b12, b13, rd0⟩ := w3f w x y
 obtain ⟨c12, c13, d12, d13, rd1⟩ := w3f w ⟨x.n, r, x.t⟩ y
 obtain ⟨e12, e13, f12, f13, rd2⟩ := w3f w ⟨x.n, r, x.t ++ ⟨#[44]⟩⟩ y
 obtain ⟨g12, g13, h12, h13, rd3⟩ := w3f w ⟨x.n, r, (x.t ++ ⟨#[44]⟩) ++ y.t⟩ y
 obtain ⟨k12, k13, l12, l13, rd4⟩ := w3f w ⟨x.n, r, x.t ++ y.t⟩ y
 unfold D.wth
 rw [hr]
 clear hr hx hy
 by_cases h0 : x.t.size = 0
 ·rw [if_pos h0]
  have ht : (!x.t.toList.isEmpty) = false := by
   rw [ByteArray.toList_eq]
   have : x.t.data = #[] := Array.eq_empty_of_size_eq_zero h0
   simp [this]
  have z1 : x.t.size + y.t.size <= 9223372036854775807 := by omega
  clear h0 hxt hyt
  go_enter Tryz.func20, Tryz.ntmps20
  go_wp2_with fail
  refine bodyPost_ret (v := .agg (uS.v ⟨x.n, r, x.t ++ y.t⟩)) (by simp only [results, Tryz.results20]; simp [Sem.run_bind, Result.andThen, asAddr, uv_lv3]) rfl ⟨rfl, ?_⟩
  exact ((below_alloc_ w _).alloc (by simp) _).alloc (by simp; omega) _
 ·rw [if_neg h0]
  have ht : (!x.t.toList.isEmpty) = true := by
   rw [ByteArray.toList_eq]
   have : x.t.data ≠ #[] := fun e => h0 (by show x.t.data.size = 0; rw [e]; rfl)
   simp [this]
  have z0 : x.t.size + 1 <= 9223372036854775807 := by omega
  have z1 : x.t.size + 1 + y.t.size <= 9223372036854775807 := by omega
  have z2 : (x.t ++ ⟨#[44]⟩).size = x.t.size + 1 := by simp; rfl
  have z3 : (x.t ++ ⟨#[44]⟩).size + y.t.size <= 9223372036854775807 := by omega
  clear h0 hxt hyt z2
  go_enter Tryz.func20, Tryz.ntmps20
  go_wp2_with fail
  refine bodyPost_ret (v := .agg (uS.v ⟨x.n, r, x.t ++ ⟨#[44]⟩ ++ y.t⟩)) (by simp only [results, Tryz.results20]; simp [Sem.run_bind, Result.andThen, asAddr, uv_lv3]) rfl ⟨rfl, ?_⟩
  exact ((below_alloc_ w _).alloc (by simp) _).alloc (by simp; omega) _
end Go.Proofs.YtgnjjlgmlokhmaaGreatDoor
