/-
  
-/
import Derived.Shelf.Strings.Builder1
import Derived.Shelf.Strings.Builder2
import Derived.Shelf.Strings.OnBuilder
import Derived.Shelf.Small.Utf8
import Derived.Shelf.Small.Bits
import Derived.Shelf.Small.Strs
import Derived.Shelf.Utf8.RuneCount
import Derived.Shelf.Strconv.Itoa0
import Derived.Shelf.Strconv.Itoa1
import Derived.Shelf.LaysM
import Derived.Shelf.Strconv.Itoa2
import Derived.Shelf.Strconv.Clone
import Derived.Shelf.Strings.Search1
import Derived.Shelf.Strings.Search2
import Derived.Shelf.Strings.Search3
import Derived.Shelf.Strings.Count
import Derived.Shelf.Strings.Shaped
import Derived.Shelf.Strings.Split
import Derived.Shelf.Strings.SplitShaped
import Derived.Shelf.Unicode.Latin
import Derived.Shelf.Unicode.Decode
import Derived.Shelf.Strings.RuneCount
import Derived.Shelf.Strings.Explode
import Derived.Shelf.Unicode.DecodeSlow
import Derived.Shelf.Unicode.DecodeAny
import Derived.Shelf.Unicode.CaseLookup
import Derived.Shelf.Unicode.CaseConvert
import Derived.Shelf.Unicode.CaseTo
import Derived.Shelf.Unicode.CaseLaid
import Derived.Shelf.Bytes.SlIndexSmall
import Derived.Shelf.Bytes.SlIndexAt
import Derived.Shelf.Bytes.SlSearch0
import Derived.Shelf.Bytes.SlSearch1
import Derived.Shelf.Bytes.SlSearch2
import Derived.Shelf.Bytes.SlIndexWhole
import Derived.Shelf.Bytes.SlCut
import Derived.Shelf.Bytes.Small
import Derived.Shelf.Bytes.IndexByte
import Derived.Test.YtgnjjlgmlokhmaaGreatDoorProg
import Derived.Test.YtgnjjlgmlokhmaaGreatDoorG23
import Derived.Lib.ItoaMem
import Derived.Maps.OwnSet
import Derived.Test.YtgnjjlgmlokhmaaGreatDoorG21
namespace Go.Proofs.YtgnjjlgmlokhmaaGreatDoor
open Go.Shelf Go.RowKit
def lays283_ren : Go.Shelf.Ren := ⟨fun | 283 => 118 | n => n, fun | 3 => 3 | 9 => 9 | 4 => 4 | n => n, fun | n => n⟩
theorem lays283 : Go.Proofs.Lays.n283 Tryz.prog lays283_ren := {
 mixed := by kernel_rfl
 f283 := Tryz.func118.trans (congrArg some (by kernel_rfl))
 t3 := Tryz.underlying3
 a3 := Tryz.isAgg3
 z3 := Tryz.sizeOf3
 v3 := Tryz.zeroValue3
 t4 := Tryz.underlying4
 a4 := Tryz.isAgg4
 z4 := Tryz.sizeOf4
 v4 := Tryz.zeroValue4
 t9 := Tryz.underlying9
 a9 := Tryz.isAgg9
 z9 := Tryz.sizeOf9
 v9 := Tryz.zeroValue9 }
def laysM284_ren : Go.Shelf.Ren := ⟨fun | 284 => 119 | 129 => 99 | 317 => 126 | 318 => 127 | n => n, fun | 53 => 62 | 3 => 3 | 212 => 193 | 0 => 0 | 4 => 4 | 46 => 133 | 5 => 5 | 9 => 9 | n => n, fun | 17 => 3 | n => n⟩
theorem laysM284 : Go.Proofs.LaysM.n284 Tryz.prog laysM284_ren := {
 mixed := by kernel_rfl
 f129 := Tryz.func99.trans (congrArg some (by kernel_rfl))
 f284 := Tryz.func119.trans (congrArg some (by kernel_rfl))
 f317 := Tryz.func126.trans (congrArg some (by kernel_rfl))
 f318 := Tryz.func127.trans (congrArg some (by kernel_rfl))
 t0 := Tryz.underlying0
 a0 := Tryz.isAgg0
 z0 := Tryz.sizeOf0
 v0 := Tryz.zeroValue0
 t3 := Tryz.underlying3
 a3 := Tryz.isAgg3
 z3 := Tryz.sizeOf3
 v3 := Tryz.zeroValue3
 t4 := Tryz.underlying4
 a4 := Tryz.isAgg4
 z4 := Tryz.sizeOf4
 v4 := Tryz.zeroValue4
 t5 := Tryz.underlying5
 a5 := Tryz.isAgg5
 z5 := Tryz.sizeOf5
 v5 := Tryz.zeroValue5
 t9 := Tryz.underlying9
 a9 := Tryz.isAgg9
 z9 := Tryz.sizeOf9
 v9 := Tryz.zeroValue9
 t46 := Tryz.underlying133
 a46 := Tryz.isAgg133
 z46 := Tryz.sizeOf133
 v46 := Tryz.zeroValue133
 t53 := Tryz.underlying62
 a53 := Tryz.isAgg62
 z53 := Tryz.sizeOf62
 v53 := Tryz.zeroValue62
 t212 := Tryz.underlying193
 a212 := Tryz.isAgg193
 z212 := Tryz.sizeOf193
 v212 := Tryz.zeroValue193
 g17 := by kernel_rfl
 i0 := by kernel_rfl
 i3 := by kernel_rfl
 i4 := by kernel_rfl
 i5 := by kernel_rfl
 i9 := by kernel_rfl
 i46 := by kernel_rfl
 i53 := by kernel_rfl
 i212 := by kernel_rfl
 m17 := by kernel_rfl }
def lays285_ren : Go.Shelf.Ren := ⟨fun | 285 => 120 | n => n, fun | 37 => 90 | 53 => 62 | 3 => 3 | 4 => 4 | 51 => 158 | 9 => 9 | 5 => 5 | 0 => 0 | n => n, fun | n => n⟩
theorem lays285 : Go.Proofs.Lays.n285 Tryz.prog lays285_ren := {
 mixed := by kernel_rfl
 f285 := Tryz.func120.trans (congrArg some (by kernel_rfl))
 t0 := Tryz.underlying0
 a0 := Tryz.isAgg0
 z0 := Tryz.sizeOf0
 v0 := Tryz.zeroValue0
 t3 := Tryz.underlying3
 a3 := Tryz.isAgg3
 z3 := Tryz.sizeOf3
 v3 := Tryz.zeroValue3
 t4 := Tryz.underlying4
 a4 := Tryz.isAgg4
 z4 := Tryz.sizeOf4
 v4 := Tryz.zeroValue4
 t5 := Tryz.underlying5
 a5 := Tryz.isAgg5
 z5 := Tryz.sizeOf5
 v5 := Tryz.zeroValue5
 t9 := Tryz.underlying9
 a9 := Tryz.isAgg9
 z9 := Tryz.sizeOf9
 v9 := Tryz.zeroValue9
 t37 := Tryz.underlying90
 a37 := Tryz.isAgg90
 z37 := Tryz.sizeOf90
 v37 := Tryz.zeroValue90
 t51 := Tryz.underlying158
 a51 := Tryz.isAgg158
 z51 := Tryz.sizeOf158
 v51 := Tryz.zeroValue158
 t53 := Tryz.underlying62
 a53 := Tryz.isAgg62
 z53 := Tryz.sizeOf62
 v53 := Tryz.zeroValue62 }
end Go.Proofs.YtgnjjlgmlokhmaaGreatDoor
set_option linter.unusedVariables false
set_option linter.unusedSimpArgs false
set_option maxRecDepth 100000
namespace Go.Proofs.YtgnjjlgmlokhmaaGreatDoor
open Go.RowKit Go.Sort
attribute [local go_sem ↓] Go.wp_at_zero Go.wp_at_succ

theorem holds_zero0 (w : World) (T : TypeId) (nd : Nat) (hs : nd <= 24) : Holds (fun (b : UInt8) => Value.int .u8 (b.toNat : Int)) (w.alloc (.cells Lib.zeros24 T)) w.heap.size 0 (Array.replicate nd (0 : UInt8)) := fun j hj => by
 have hj' : j < nd := by simpa using hj
 refine ⟨?_, World.frozen?_alloc_new _ _ _ _⟩
 rw [World.cell?_alloc_new, Lib.zeros24_at _ (by omega), getElem!_pos _ j hj]
 simp
theorem fin_pos0 (w : World) (o : Obj) (dk : Array UInt8) (k : Nat) : Below w.heap.size w ((putRow (fun (b : UInt8) => Value.int .u8 (b.toNat : Int)) (w.alloc o) w.heap.size 0 dk).drewN k) := by
 rw [alloc_eq_grow]
 obtain ⟨os', _, e⟩ := putRow_grow_new (fun (b : UInt8) => Value.int .u8 (b.toNat : Int)) w #[o] w.heap.size 0 dk (Nat.le_refl _)
 rw [e]
 exact ⟨rfl, rfl, rfl, by simp [grow], fun i hi => by show (w.heap ++ os')[i]? = w.heap[i]?; rw [Array.getElem?_append_left hi]⟩
def Tp (w : World) : Prop := Lib.TabIs Tryz.prog w "internal/strconv.uint64pow10" .u64 Lib.pow10Tab
theorem Tp.alloc {w : World} (h : Tp w) (o : Obj) : Tp (w.alloc o) := Lib.tabIs_alloc h o
set_option maxHeartbeats 6400000 in
theorem fmtIn_any (u : Nat) (h1 : u < 18446744073709551616) (w : World) (htab : Tp w) :
  Calls Tryz.prog 109 #[.int .u64 u, .int .i64 10] w fun e w' => e = .returned (.string ⟨(Lib.decDigits u).toArray⟩) ∧ Below w.heap.size w w' := by
 by_cases hs : u < 100
 ·have i1 : (u : Int) < 100 := by omega
  have i2 : IntKind.i64.wrap (u : Int) = u := by rw [IntKind.wrap_i64]; omega
  have cS : Hid (∀ W, Calls Tryz.prog 118 #[.int .i64 u] W fun e w' => e = .returned (.string ⟨(Lib.decDigits u).toArray⟩) ∧ w' = W) := Lib.hid (fun W => Any.internal_strconv_small lays283 u hs W)
  go_enter Tryz.func109, Tryz.ntmps109
  go_wp2_with (go_at_call 118; (with_reducible refine (cS.out _).mono ?_); rintro e w' ⟨rfl, rfl⟩)
  go_ret
  exact ⟨rfl, Below.refl _ _⟩
 ·have hu1 : 1 <= u := by omega
  have i1 : ¬ (u : Int) < 100 := by omega
  have hnd20 : Lib.nDigits u <= 20 := by have := Lib.numDigits_eq u hu1 h1; split at this <;> omega
  have hb3 : Lib.nDigits u <= 24 := by omega
  have hsl1 : ∀ W, (Instr.sliceAt 179 (.pointer (some ⟨w.heap.size, 0, none⟩)) none (some (.int .i64 (Lib.nDigits u : Int))) none).run Tryz.prog W = .ok (.slice (some ⟨w.heap.size, 0, none⟩) (Lib.nDigits u) 24) W := fun W => by
   have hal : Tryz.prog.arrayLen 179 = 24 := by kernel_rfl
   rw [run_sliceAt_array_h W 179 ⟨w.heap.size, 0, none⟩ Tryz.underlying179 .i64 (Lib.nDigits u : Int) (by omega) (by rw [hal]; omega)]
   go_simp
  have hH0 := holds_zero0 w 179 (Lib.nDigits u) (by omega)
  have hfmt : Calls Tryz.prog 120 #[.slice (some ⟨w.heap.size, 0, none⟩) (Array.replicate (Lib.nDigits u) (0 : UInt8)).size 24, .int .u64 u] (w.alloc (.cells Lib.zeros24 179)) fun e w' => e = .returned (.tuple #[]) ∧ ∃ (n v' : Nat) (dk : Array UInt8), w' = (putRow (fun (b : UInt8) => Value.int .u8 (b.toNat : Int)) (w.alloc (.cells Lib.zeros24 179)) w.heap.size 0 dk).drewN n ∧ Lib.FmtInv (Array.replicate (Lib.nDigits u) (0 : UInt8)).size u 0 v' dk := Any.internal_strconv_formatBase10 lays285 w.heap.size 0 24 u (Array.replicate (Lib.nDigits u) 0) (w.alloc (.cells Lib.zeros24 179)) hH0 (by rw [Array.size_replicate]; exact Lib.lt_pow_nDigits u) h1 (by rw [Array.size_replicate]; omega)
  rw [Array.size_replicate] at hfmt
  have HH0 := Lib.hid hH0
  have HF := Lib.hid hfmt
  have cN : Hid (∀ W, Tp W -> Calls Tryz.prog 119 #[.int .u64 u] W fun e w' => e = .returned (.int .i64 (Lib.nDigits u)) ∧ w' = W) := Lib.hid (fun W hW => Any.internal_strconv_numDigits laysM284 u hu1 h1 W hW)
  have HT := Lib.hid htab
  clear hH0 hfmt htab
  go_enter Tryz.func109, Tryz.ntmps109
  go_wp2_with (first
   | (go_at_call 119; (with_reducible refine (cN.out _ (HT.out.alloc _)).mono ?_); rintro e w' ⟨rfl, rfl⟩)
   | (go_at_call 120; refine HF.out.mono ?_
      rintro e w' ⟨rfl, k, v', dk, rfl, hF⟩
      have hcv : (convert 90 9 (.slice (some ⟨w.heap.size, 0, none⟩) (Lib.nDigits u) 24)).run Tryz.prog ((putRow (fun (b : UInt8) => Value.int .u8 (b.toNat : Int)) (w.alloc (.cells Lib.zeros24 179)) w.heap.size 0 dk).drewN k) = .ok (.string ⟨(Lib.decDigits u).toArray⟩) ((putRow (fun (b : UInt8) => Value.int .u8 (b.toNat : Int)) (w.alloc (.cells Lib.zeros24 179)) w.heap.size 0 dk).drewN k) := by
       have h := run_convert_bytes_back (P := Tryz.prog) ((putRow (fun (b : UInt8) => Value.int .u8 (b.toNat : Int)) (w.alloc (.cells Lib.zeros24 179)) w.heap.size 0 dk).drewN k) 90 9 5 ⟨w.heap.size, 0, none⟩ 24 (Lib.decDigits u) Tryz.underlying90 Tryz.underlying5 Tryz.underlying9 (fun j hj => by
        rw [Lib.row_is_numeral hF j hj, Lib.add_plain, World.cell?_drewN]
        exact cell?_putRow (fun (b : UInt8) => Value.int .u8 (b.toNat : Int)) _ w.heap.size 0 _ dk HH0.out (by rw [hF.size, Array.size_replicate]) j (by rw [hF.size]; rw [Lib.decDigits_length] at hj; exact hj))
       rw [Lib.decDigits_length] at h
       exact h))
  go_ret
  exact ⟨rfl, fin_pos0 _ _ _ _⟩
theorem fmt_any (u : Nat) (h1 : u < 18446744073709551616) (w : World) (htab : Tp w) :
  Calls Tryz.prog 83 #[.int .u64 u, .int .i64 10] w fun e w' => e = .returned (.string ⟨(Lib.decDigits u).toArray⟩) ∧ Below w.heap.size w w' := by
 have cI := Lib.hid (fmtIn_any u h1 w htab)
 clear htab
 go_enter Tryz.func83, Tryz.ntmps83
 go_wp2_with (go_at_call 109; (with_reducible refine cI.out.mono ?_); rintro y w1 ⟨rfl, b1⟩)
 go_ret
 exact ⟨rfl, b1⟩
def D.dg (n : Nat) : List Nat := (Lib.decDigits n).map UInt8.toNat
theorem D.dg_ns (n : Nat) : D.ns ⟨(Lib.decDigits n).toArray⟩ = D.dg n := by simp [D.ns, D.dg]
end Go.Proofs.YtgnjjlgmlokhmaaGreatDoor
namespace Go.Proofs.YtgnjjlgmlokhmaaGreatDoor
open Go.RowKit

structure D.Vl where
 n : Nm.D.Nm
 N : Nat
 t : ByteArray
def vcells (x : D.Vl) : List Value := bys x.n.l ++ [.int .u64 (x.N : Nat), .string x.t]
theorem vcells_inj {x y : D.Vl} (h : vcells x = vcells y) : x = y := by
 obtain ⟨n, N, t⟩ := x
 obtain ⟨n', N', t'⟩ := y
 simp only [vcells] at h
 have := List.append_inj h (by simp [bys_len, Nm.D.Nm.len])
 obtain rfl := Nm.D.Nm.eq (bys_inj this.1)
 have h2 := this.2
 simp only [List.cons.injEq, Value.int.injEq, Value.string.injEq, true_and, and_true] at h2
 obtain ⟨h3, rfl⟩ := h2
 obtain rfl : N = N' := by omega
 rfl
def vS : Shp D.Vl := ⟨vcells, 14, by decide, fun x => by simp [vcells, bys_len, x.n.len], vcells_inj, fun x u hu => by
 simp only [vcells, List.mem_cons, List.mem_append, List.not_mem_nil, or_false] at hu
 rcases hu with hu | rfl | rfl
 ·exact bys_one _ u hu
 ·rfl
 ·rfl⟩
def zVl : D.Vl := ⟨Nm.D.zero, 0, ⟨#[]⟩⟩
open Classical in
noncomputable def vElem (v : Value) : Option (DataW D.Vl × List MemPlace) := if h : ∃ x, v = .agg (vS.v x) then some (.held (Classical.choose h), []) else none
theorem vElem_mk (x : D.Vl) : vElem (.agg (vS.v x)) = some (.held x, []) := by
 have h : ∃ y, Value.agg (vS.v x) = .agg (vS.v y) := ⟨x, rfl⟩
 unfold vElem
 rw [dif_pos h]
 have := Classical.choose_spec h
 injection this with this
 rw [<- vS.v_inj this]
theorem vElem_inv {v : Value} {z : DataW D.Vl × List MemPlace} (h : vElem v = some z) : ∃ x, v = .agg (vS.v x) ∧ z = (.held x, []) := by
 unfold vElem at h
 split at h
 ·rename_i hx
  obtain ⟨x, rfl⟩ := hx
  have := vElem_mk x
  unfold vElem at this
  rw [dif_pos ⟨x, rfl⟩] at this
  exact ⟨x, rfl, by injection h with h; injection this with this; rw [<- h, this]⟩
 ·cases h
theorem name_key (x : Nm.D.Nm) : ∃ l, keyOf Tryz.prog 39 (.agg (Nm.nc x)) = some l := Nm.key_of x _ (.inr rfl)
structure VmAt (w : World) (g k : Nat) (f : Nm.D.Nm -> Option D.Vl) : Prop where
 out : ∃ D : DataW D.Vl, w.ownsMap Tryz.prog 39 vElem g k D ∧ ∀ (x : Nm.D.Nm) (l : Lit), keyOf Tryz.prog 39 (.agg (Nm.nc x)) = some l -> Maps.has D l = (f x).isSome ∧ (∀ y, f x = some y -> ∀ z, D.atKey l z = .held y) ∧ (f x = none -> ∀ z, D.atKey l z = z)
section
variable {w w' : World} {g k : Nat} {f : Nm.D.Nm -> Option D.Vl}
theorem VmAt.lt (h : VmAt w g k f) : g < w.heap.size := by
 obtain ⟨D, ho, _⟩ := h.out
 exact ho.lt
theorem VmAt.tow (h : VmAt w g k f) (hs : w'.heap[g]? = w.heap[g]?) : VmAt w' g k f := by
 obtain ⟨D, ⟨es, clock, hb, r⟩, r'⟩ := h.out
 exact ⟨D, ⟨es, clock, hs.trans hb, r⟩, r'⟩
theorem VmAt.on (h : VmAt w g k f) (hb : Below w.heap.size w w') : VmAt w' g k f := h.tow (hb.block _ h.lt)
theorem vm_new (w : World) (g : Nat) (hg : g = w.heap.size) : VmAt (w.alloc (.map #[] 0)) g 0 (fun _ => none) := by
 subst hg
 exact ⟨_, World.ownsMap_made _ _ _ _, fun x l _ => ⟨rfl, (fun y h => by cases h), fun _ z => rfl⟩⟩
theorem map_vm : Tryz.prog.underlying 88 = some (.map 39 64) := Tryz.underlying88
theorem zero_vl (w : World) : (zeroValue 64).run Tryz.prog w = .ok (.agg (vS.v zVl)) w := by kernel_rfl
theorem VmAt.look (h : VmAt w g k f) (x : Nm.D.Nm) : (Instr.lookup 88 (.map (some g)) (.agg (Nm.nc x)) true).run Tryz.prog w = .ok (.tuple #[.agg (vS.v ((f x).getD zVl)), .bool (f x).isSome]) w := by
 obtain ⟨D, ho, hf⟩ := h.out
 obtain ⟨l, hl⟩ := name_key x
 obtain ⟨h1, h2, h3⟩ := hf x l hl
 obtain ⟨v, ps, hr, hv⟩ := ho.look_ok Nm.law_n map_vm (zero_vl w) (vElem_mk zVl) hl
 obtain ⟨y, rfl, hz⟩ := vElem_inv hv
 rw [hr, h1]
 cases hfx : f x with
 | none =>
  rw [h3 hfx] at hz
  injection hz with hz
  injection hz with hz
  rw [<- hz]; rfl
 | some q =>
  rw [h2 q hfx] at hz
  injection hz with hz
  injection hz with hz
  rw [<- hz]; rfl
theorem VmAt.put (h : VmAt w g k f) (hk : k <= 100000) (y : D.Vl) : ∃ w', (Instr.mapUpdate 88 (.map (some g)) (.agg (Nm.nc y.n)) (.agg (vS.v y))).run Tryz.prog w = .ok () w' ∧ VmAt w' g (k + 1) (fun x => if x = y.n then some y else f x) ∧ w.grownBy w' (some g) := by
 obtain ⟨D, ho, hf⟩ := h.out
 obtain ⟨l, hl⟩ := name_key y.n
 obtain ⟨w', hr, ho', hg⟩ := ho.update Nm.law_n map_vm (by simp only [maxLen]; omega) hl (vElem_mk y)
 refine ⟨w', hr, ⟨_, ho', fun x m hm => ?_⟩, hg⟩
 have hkl := Nm.law_n.key hl
 by_cases e : x = y.n
 ·subst e
  rw [hl] at hm
  injection hm with hm
  subst hm
  rw [if_pos rfl]
  refine ⟨by rw [Maps.has_put_same ho.isMap hkl]; rfl, fun z hz q => ?_, fun hz => by cases hz⟩
  injection hz with hz
  subst hz
  exact Maps.atKey_put_same ho.isMap hkl _ _
 ·have hne : m ≠ l := by
   rintro rfl
   have := Nm.law_n.inj hm hl
   injection this with this
   exact e (Nm.nc_inj this)
  rw [if_neg e]
  obtain ⟨h1, h2, h3⟩ := hf x m hm
  exact ⟨by rw [Maps.has_put_other hne, h1], (fun z hz q => by rw [Maps.atKey_put_other hne]; exact h2 z hz q), fun hz q => by rw [Maps.atKey_put_other hne]; exact h3 hz q⟩
end
theorem Tp.on {w w' : World} (h : Tp w) (hb : Below w.heap.size w w') : Tp w' := by
 unfold Tp Lib.TabIs World.var? at *
 cases hg : Tryz.prog.globalNamed "internal/strconv.uint64pow10" with
 | none => simp [hg] at h
 | some g =>
  simp only [hg, Option.bind_some] at h ⊢
  have hlt : g < w.heap.size := by
   rcases Nat.lt_or_ge g w.heap.size with h' | h'
   ·exact h'
   ·rw [Array.getElem?_eq_none h'] at h; simp at h
  rw [hb.block g hlt]
  exact h
noncomputable def ldvl (v : Value) : Sem Value := Instr.loadAt 64 v
noncomputable def lvvl (a : Addr) : Sem Value := loadVar 64 a
noncomputable def stvl (p v : Value) : Sem Unit := Instr.storeAt 64 p v
theorem ld_vl (v : Value) : Instr.loadAt 64 v = ldvl v := rfl
theorem lv_vl (a : Addr) : loadVar 64 a = lvvl a := rfl
theorem st_vl (p v : Value) : Instr.storeAt 64 p v = stvl p v := rfl
noncomputable def blvl (a : Addr) (w : World) : Result Value := (loadVar 64 a).run Tryz.prog w
theorem run_lvvl (w : World) (a : Addr) : (lvvl a).run Tryz.prog w = (vS.rd w a).elim (blvl a w) fun x => .ok (.agg (vS.v x)) w := by
 cases h : vS.rd w a with
 | none => rfl
 | some x => exact Shp.loadVar_of Tryz.isAgg64 Tryz.sizeOf64 (Shp.at_of h)
theorem run_ldvl (w : World) (a : Addr) : (ldvl (.pointer (some a))).run Tryz.prog w = (vS.rd w a).elim (blvl a w) fun x => .ok (.agg (vS.v x)) w := by
 rw [<- run_lvvl]; simp only [ldvl, lvvl, Instr.loadAt, Instr.sureAddr, Sem.run_bind, Sem.run_pure, Result.andThen_ok]
theorem run_stvl_new (w : World) (n : Nat) (x : D.Vl) (h : n = w.heap.size) :
  (stvl (.pointer (some ⟨n, 0, none⟩)) (.agg (vS.v x))).run Tryz.prog (w.alloc (.cells #[.int .u8 0, .int .u8 0, .int .u8 0, .int .u8 0, .int .u8 0, .int .u8 0, .int .u8 0, .int .u8 0, .int .u8 0, .int .u8 0, .int .u8 0, .int .u8 0, .int .u64 0, .string ⟨#[]⟩] 64)) = .ok () (w.alloc (.cells (vS.v x) 64)) := by
 subst h
 exact run_storeAt_new (P := Tryz.prog) w 64 _ (vS.v x) (by rw [vS.v_size]; kernel_rfl) (by rw [vS.v_size]; rfl) (vS.v_one x)
structure VF (w : World) (g : Nat) (y : D.Vl) : Prop where
 n : Nm.rd w ⟨g, 0, none⟩ = some y.n
 N : w.cell? ⟨g, 12, none⟩ = some (.int .u64 (y.N : Nat))
 t : w.cell? ⟨g, 13, none⟩ = some (.string y.t)
 l : g < w.heap.size
theorem vf_blk {w : World} {g : Nat} {y : D.Vl} (h : Blk w g 64 (vS.v y)) : VF w g y := by
 have hl : (bys y.n.l).length = 12 := by rw [bys_len, y.n.len]
 refine ⟨Nm.rd_of fun j u hu => ?_, ?_, ?_, h.lt⟩
 ·have hj : j < 12 := by have := (List.getElem?_eq_some_iff.1 hu).1; omega
  rw [Lib.add_plain, h.c_ (0 + j), Nat.zero_add]
  show (vcells y).toArray[j]? = some u
  rw [List.getElem?_toArray, vcells, List.getElem?_append_left (by omega)]
  exact hu
 ·rw [h.c_ 12]
  show (vcells y).toArray[12]? = _
  rw [List.getElem?_toArray, vcells, List.getElem?_append_right (by omega), hl]
  rfl
 ·rw [h.c_ 13]
  show (vcells y).toArray[13]? = _
  rw [List.getElem?_toArray, vcells, List.getElem?_append_right (by omega), hl]
  rfl
end Go.Proofs.YtgnjjlgmlokhmaaGreatDoor
namespace Go.Proofs.YtgnjjlgmlokhmaaGreatDoor
open Go.RowKit

structure D.Uv where
 n : Nm.D.Nm
 h : Nat
 t : ByteArray
deriving DecidableEq
def ucells (x : D.Uv) : List Value := bys x.n.l ++ [.int .u8 (x.h : Nat), .string x.t]
theorem ucells_inj {x y : D.Uv} (h : ucells x = ucells y) : x = y := by
 obtain ⟨n, N, t⟩ := x
 obtain ⟨n', N', t'⟩ := y
 simp only [ucells] at h
 have := List.append_inj h (by simp [bys_len, Nm.D.Nm.len])
 obtain rfl := Nm.D.Nm.eq (bys_inj this.1)
 have h2 := this.2
 simp only [List.cons.injEq, Value.int.injEq, Value.string.injEq, true_and, and_true] at h2
 obtain ⟨h3, rfl⟩ := h2
 obtain rfl : N = N' := by omega
 rfl
def uS : Shp D.Uv := ⟨ucells, 14, by decide, fun x => by simp [ucells, bys_len, x.n.len], ucells_inj, fun x u hu => by
 simp only [ucells, List.mem_cons, List.mem_append, List.not_mem_nil, or_false] at hu
 rcases hu with hu | rfl | rfl
 ·exact bys_one _ u hu
 ·rfl
 ·rfl⟩
def zUv : D.Uv := ⟨Nm.D.zero, 0, ⟨#[]⟩⟩
theorem use_under : Tryz.prog.underlying 31 = some (.slice 41) := by kernel_rfl
theorem use_info : (Tryz.prog.info? 41).map (fun i => (i.zero, i.size, i.bytes)) = some (some (.agg (uS.v zUv)), 14, 32) := by kernel_rfl
def Uok (x : D.Uv) : Prop := x.h < 256 ∧ x.t.size <= 100000
theorem use_lits (x : D.Uv) (hx : Uok x) (d : Nat) : ∃ l, Tryz.prog.keyLits (d + 3) 41 (ucells x) = some l := by
 obtain ⟨l0, h0⟩ := Nm.key_lits x.n 39 d Tryz.underlying39 (by kernel_rfl)
 have c0 : Tryz.prog.cellsOf 39 = 12 := by kernel_rfl
 have c1 : Tryz.prog.cellsOf 5 = 1 := by kernel_rfl
 have c2 : Tryz.prog.cellsOf 9 = 1 := by kernel_rfl
 have c3 : Tryz.prog.cellsOf 41 = 14 := by kernel_rfl
 have hl : (bys x.n.l).length = 12 := by rw [bys_len, x.n.len]
 have s0 : ((ucells x).drop 0).take 12 = bys x.n.l := by
  rw [List.drop_zero, <- hl]; exact List.take_left ..
 have s1 : (ucells x).drop 12 = [.int .u8 (x.h : Nat), .string x.t] := by
  rw [<- hl]; exact List.drop_left ..
 have s2 : (ucells x).drop 13 = [.string x.t] := by
  rw [show 13 = 12 + 1 from rfl, <- List.drop_drop, s1]; rfl
 have hw : (Lit.int .u8 ((x.h : Nat) : Int)).wf = true := by
  have := hx.1
  simp [Lit.wf, IntKind.min, IntKind.max, IntKind.bits, IntKind.signed]
  omega
 have k1 : Tryz.prog.keyLits (d + 2) 5 [.int .u8 (x.h : Nat)] = some [Lit.int .u8 (x.h : Nat)] := by
  unfold Program.keyLits
  rw [Tryz.underlying5]
  simp [hw]
 have k2 : Tryz.prog.keyLits (d + 2) 9 [.string x.t] = some [Lit.string x.t.data.toList] := by
  unfold Program.keyLits
  rw [Tryz.underlying9]
  have := hx.2
  simp
  simp only [maxLen]
  omega
 refine ⟨[l0, [Lit.int .u8 (x.h : Nat)], [Lit.string x.t.data.toList]].flatten, ?_⟩
 have hlen : (ucells x).length = 14 := by simp [ucells, hl]
 rw [show d + 3 = (d + 2) + 1 from rfl]
 unfold Program.keyLits
 rw [Tryz.underlying41]
 simp [hlen, c0, c1, c2, c3, s1, s2, h0, k1, k2, List.mapM_cons]
 have s0' : List.take 12 (ucells x) = bys x.n.l := by rw [<- s0]; rfl
 simp [s0', h0]
theorem use_key (x : D.Uv) (hx : Uok x) : ∃ l, keyOf Tryz.prog 41 (.agg (uS.v x)) = some l := by
 obtain ⟨l, hl⟩ := use_lits x hx (Tryz.prog.types.size - 2)
 refine ⟨.string (keyBytes l), ?_⟩
 have hkt : Tryz.prog.keyType 41 = true := by kernel_rfl
 unfold keyOf
 rw [Tryz.underlying41]
 have hs : ((uS.v x).size == Tryz.prog.cellsOf 41) = true := by
  rw [show (uS.v x).size = 14 from uS.v_size x, show Tryz.prog.cellsOf 41 = 14 by kernel_rfl]; rfl
 simp only [hkt, Value.formed, Tryz.underlying41, Value.cells, Bool.true_and, hs, if_true]
 rw [show Tryz.prog.types.size + 1 = Tryz.prog.types.size - 2 + 3 by kernel_rfl]
 show (Tryz.prog.keyLits _ _ (ucells x)).map _ = _
 rw [hl]
 rfl
theorem law_u : Maps.Keyed Tryz.prog 41 := Maps.Keyed.of_law (deep_law_laid Nm.laid_out (m := 4) (by omega) (of_decide_eq_true (by kernel_rfl)) (by kernel_rfl) (by rw [Tryz.underlying41]))
structure UsAt (w : World) (b : Nat) (L : List D.Uv) : Prop where
 out : ∃ Dm : DataW Unit, w.ownsMap Tryz.prog 41 unitElem b L.length Dm ∧ (∀ (x : D.Uv) (l : Lit), keyOf Tryz.prog 41 (.agg (uS.v x)) = some l -> Maps.has Dm l = decide (x ∈ L)) ∧ Maps.size Dm = L.length
section
variable {w w' : World} {b n : Nat} {L : List D.Uv}
theorem UsAt.lt (h : UsAt w b L) : b < w.heap.size := by
 obtain ⟨Dm, ho, _⟩ := h.out
 exact ho.lt
theorem UsAt.tow (h : UsAt w b L) (hs : w'.heap[b]? = w.heap[b]?) : UsAt w' b L := by
 obtain ⟨Dm, ⟨es, clock, hb, r⟩, r'⟩ := h.out
 exact ⟨Dm, ⟨es, clock, hs.trans hb, r⟩, r'⟩
theorem UsAt.on (h : UsAt w b L) (hb : Below w.heap.size w w') : UsAt w' b L := h.tow (hb.block _ h.lt)
theorem us_new (w : World) (g : Nat) (hg : g = w.heap.size) : UsAt (w.alloc (.map #[] 0)) g [] := by
 subst hg
 exact ⟨_, World.ownsMap_made _ _ _ _, fun x l _ => rfl, rfl⟩
theorem map_us : Tryz.prog.underlying 66 = some (.map 41 72) := Tryz.underlying66
def D.ins (L : List D.Uv) (x : D.Uv) : List D.Uv := if x ∈ L then L else L ++ [x]
theorem D.ins_mem {L : List D.Uv} {x y : D.Uv} : y ∈ D.ins L x ↔ y = x ∨ y ∈ L := by
 unfold D.ins
 split
 ·constructor
  ·exact .inr
  ·rintro (rfl | h)
   ·assumption
   ·exact h
 ·simp [or_comm]
theorem D.ins_nodup {L : List D.Uv} (x : D.Uv) (h : L.Nodup) : (D.ins L x).Nodup := by
 unfold D.ins
 split
 ·exact h
 ·rename_i hx
  rw [List.nodup_append]
  exact ⟨h, by simp, fun a ha b hb => by simp at hb; subst hb; rintro rfl; exact hx ha⟩
theorem D.ins_len (L : List D.Uv) (x : D.Uv) : (D.ins L x).length <= L.length + 1 := by
 unfold D.ins
 split <;> simp
theorem UsAt.put (h : UsAt w b L) (hL : L.length <= 100000) (x : D.Uv) (hx : Uok x) :
  ∃ w', (Instr.mapUpdate 66 (.map (some b)) (.agg (uS.v x)) (.agg #[])).run Tryz.prog w = .ok () w' ∧ UsAt w' b (D.ins L x) ∧ w.grownBy w' (some b) := by
 obtain ⟨Dm, ho, hh, hs⟩ := h.out
 obtain ⟨l, hl⟩ := use_key x hx
 obtain ⟨w', hr, ho', hg⟩ := ho.update law_u map_us (by simp only [maxLen]; omega) hl (unitElem_mk (H := Unit))
 have hs' : Maps.size (Dm.put l (.agg [])) = (D.ins L x).length := by
  rw [Maps.size_put (ho.tidy law_u), hh x l hl, hs]
  unfold D.ins
  split <;> simp_all
 refine ⟨w', hr, ⟨_, by rw [<- hs']; exact own_tight_ ho', fun y k hy => ?_, hs'⟩, hg⟩
 by_cases e : k = l
 ·subst e
  have e2 := law_u.inj hy hl
  injection e2 with e2
  obtain rfl := uS.v_inj e2
  rw [Maps.has_put_same ho.isMap (law_u.key hl)]
  have := D.ins_mem (L := L) (x := y) (y := y)
  simp [this]
 ·have hne : y ≠ x := fun e' => e (by rw [e', hl] at hy; injection hy with hy; exact hy.symm)
  rw [Maps.has_put_other e, hh y k hy, decide_eq_decide, D.ins_mem]
  simp [hne]
end
theorem rw_use (w : World) (g : Nat) (hg : g = w.heap.size) (x : D.Uv) (T : TypeId) : Rw 14 (w.alloc (.cells (uS.v x) T)) (some ⟨g, 0, none⟩) 1 (uS.rcs [x]) := by
 subst hg
 have := rw_new w 14 T 1 (uS.v x) (by rw [Shp.v_size]; rfl)
 simpa [Shp.v, Shp.rcs] using this
noncomputable def lduv (v : Value) : Sem Value := Instr.loadAt 41 v
noncomputable def lvuv (a : Addr) : Sem Value := loadVar 41 a
noncomputable def stuv (p v : Value) : Sem Unit := Instr.storeAt 41 p v
noncomputable def bduv (ps : Array (Nat × Value)) : Sem Value := Instr.build 41 ps
noncomputable def bsuv (n : Nat) (ps : Array (Nat × Value)) : Sem Value := Instr.buildSlice 31 n ps
theorem ld_uv (v : Value) : Instr.loadAt 41 v = lduv v := rfl
theorem lv_uv (a : Addr) : loadVar 41 a = lvuv a := rfl
theorem st_uv (p v : Value) : Instr.storeAt 41 p v = stuv p v := rfl
theorem bd_uv (ps : Array (Nat × Value)) : Instr.build 41 ps = bduv ps := rfl
theorem bs_uv (n : Nat) (ps : Array (Nat × Value)) : Instr.buildSlice 31 n ps = bsuv n ps := rfl
noncomputable def bluv (a : Addr) (w : World) : Result Value := (loadVar 41 a).run Tryz.prog w
theorem run_lvuv (w : World) (a : Addr) : (lvuv a).run Tryz.prog w = (uS.rd w a).elim (bluv a w) fun x => .ok (.agg (uS.v x)) w := by
 cases h : uS.rd w a with
 | none => rfl
 | some x => exact Shp.loadVar_of Tryz.isAgg41 Tryz.sizeOf41 (Shp.at_of h)
theorem run_lduv (w : World) (a : Addr) : (lduv (.pointer (some a))).run Tryz.prog w = (uS.rd w a).elim (bluv a w) fun x => .ok (.agg (uS.v x)) w := by
 rw [<- run_lvuv]; simp only [lduv, lvuv, Instr.loadAt, Instr.sureAddr, Sem.run_bind, Sem.run_pure, Result.andThen_ok]
theorem uv_cells (y : D.Uv) : ∃ b0 b1 b2 b3 b4 b5 b6 b7 b8 b9 b10 b11 : Value, bys y.n.l = [b0, b1, b2, b3, b4, b5, b6, b7, b8, b9, b10, b11] ∧ uS.v y = #[b0, b1, b2, b3, b4, b5, b6, b7, b8, b9, b10, b11, .int .u8 (y.h : Nat), .string y.t] := by
 obtain ⟨b0, b1, b2, b3, b4, b5, b6, b7, b8, b9, b10, b11, hn⟩ := Nm.twelve y.n
 have : bys y.n.l = [b0, b1, b2, b3, b4, b5, b6, b7, b8, b9, b10, b11] := by simpa [Nm.nc] using congrArg Array.toList hn
 exact ⟨b0, b1, b2, b3, b4, b5, b6, b7, b8, b9, b10, b11, this, by simp [Shp.v, uS, ucells, this]⟩
theorem run_stuv_new (w : World) (n : Nat) (x : D.Uv) (h : n = w.heap.size) :
  (stuv (.pointer (some ⟨n, 0, none⟩)) (.agg (uS.v x))).run Tryz.prog (w.alloc (.cells #[.int .u8 0, .int .u8 0, .int .u8 0, .int .u8 0, .int .u8 0, .int .u8 0, .int .u8 0, .int .u8 0, .int .u8 0, .int .u8 0, .int .u8 0, .int .u8 0, .int .u8 0, .string ⟨#[]⟩] 41)) = .ok () (w.alloc (.cells (uS.v x) 41)) := by
 subst h
 exact run_storeAt_new (P := Tryz.prog) w 41 _ (uS.v x) (by rw [uS.v_size]; kernel_rfl) (by rw [uS.v_size]; rfl) (uS.v_one x)
theorem run_bsuv (w : World) (y : D.Uv) : (bsuv 1 #[(0, .agg (uS.v y))]).run Tryz.prog w = .ok (.slice (some ⟨w.heap.size, 0, none⟩) 1 1) (w.alloc (.cells (uS.v y) 41)) := by
 obtain ⟨b0, b1, b2, b3, b4, b5, b6, b7, b8, b9, b10, b11, _, e⟩ := uv_cells y
 rw [e]
 simp [bsuv, Instr.buildSlice, go_sem]
theorem run_bduv_2 (w : World) (m : Nm.D.Nm) (h : Nat) : (bduv #[(0, .agg (Nm.nc m)), (1, .int .u8 (h : Nat))]).run Tryz.prog w = .ok (.agg (uS.v ⟨m, h, ⟨#[]⟩⟩)) w := by
 obtain ⟨b0, b1, b2, b3, b4, b5, b6, b7, b8, b9, b10, b11, e, e'⟩ := uv_cells ⟨m, h, ⟨#[]⟩⟩
 have : Nm.nc m = #[b0, b1, b2, b3, b4, b5, b6, b7, b8, b9, b10, b11] := by simp [Nm.nc, e]
 rw [e', this]
 simp [bduv, Instr.build, go_sem]
theorem run_bduv_3 (w : World) (m : Nm.D.Nm) (h : Nat) (u : ByteArray) : (bduv #[(0, .agg (Nm.nc m)), (1, .int .u8 (h : Nat)), (2, .string u)]).run Tryz.prog w = .ok (.agg (uS.v ⟨m, h, u⟩)) w := by
 obtain ⟨b0, b1, b2, b3, b4, b5, b6, b7, b8, b9, b10, b11, e, e'⟩ := uv_cells ⟨m, h, u⟩
 have : Nm.nc m = #[b0, b1, b2, b3, b4, b5, b6, b7, b8, b9, b10, b11] := by simp [Nm.nc, e]
 rw [e', this]
 simp [bduv, Instr.build, go_sem]
end Go.Proofs.YtgnjjlgmlokhmaaGreatDoor
