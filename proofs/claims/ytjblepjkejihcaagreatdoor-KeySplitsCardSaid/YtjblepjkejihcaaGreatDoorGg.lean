/-
  The library's texts in this program are those that the library's contracts were proved of.
  What the library's calls answer with / bytes and with numbers: pieces, pieces joined, digits, the number that a text spells, a place in a text.
-/
import Derived.Shelf.Strings.Builder1
import Derived.Shelf.Strings.Builder2
import Derived.Shelf.Strings.OnBuilder
import Derived.Shelf.Small.Utf8
import Derived.Shelf.Strconv.Atoi
import Derived.Shelf.Strconv.Itoa0
import Derived.Shelf.Strconv.Itoa1
import Derived.Shelf.LaysM
import Derived.Shelf.Strconv.Itoa2
import Derived.Shelf.Strconv.Itoa3
import Derived.Shelf.Strconv.AtoiErrFast
import Derived.Shelf.Strconv.ParseIntEmpty
import Derived.Shelf.Strconv.AtoiFail
import Derived.Shelf.Strconv.Clone
import Derived.Shelf.Strconv.SyntaxError
import Derived.Shelf.LaysC
import Derived.Shelf.Strconv.ToError
import Derived.Shelf.Strconv.Lower
import Derived.Shelf.Strconv.ParseUint10
import Derived.Shelf.Strconv.ParseUint10Empty
import Derived.Shelf.Strconv.ParseUint10Any
import Derived.Shelf.Strconv.ParseInt10
import Derived.Shelf.Strconv.AtoiLong
import Derived.Shelf.Strconv.AtoiInnerAll
import Derived.Shelf.Strconv.RangeError
import Derived.Shelf.Strconv.ToErrorRange
import Derived.Shelf.Strconv.AtoiAll
import Derived.Shelf.Strings.Search1
import Derived.Shelf.Strings.Search2
import Derived.Shelf.Strings.Search3
import Derived.Shelf.Strings.Count
import Derived.Shelf.Strings.Shaped
import Derived.Shelf.Strings.Split
import Derived.Shelf.Unicode.Latin
import Derived.Shelf.Unicode.DecodeSlow
import Derived.Shelf.Unicode.CaseLookup
import Derived.Shelf.Unicode.CaseConvert
import Derived.Shelf.Unicode.CaseTo
import Derived.Shelf.Bytes.SlIndexSmall
import Derived.Shelf.Bytes.SlIndexAt
import Derived.Shelf.Bytes.SlSearch0
import Derived.Shelf.Bytes.SlSearch1
import Derived.Shelf.Bytes.SlSearch2
import Derived.Shelf.Bytes.SlIndexWhole
import Derived.Shelf.Bytes.SlCut
import Derived.Shelf.Bytes.Small
import Derived.Shelf.Bytes.IndexByte
import Derived.Test.YtjblepjkejihcaaGreatDoorProg
import Derived.Test.YtjblepjkejihcaaGreatDoorGk
import Derived.Test.YtjblepjkejihcaaGreatDoorKmx
import Derived.Lib.AtoiOr
import Derived.Lib.AtoiErrMem
namespace Go.Proofs.YtjblepjkejihcaaGreatDoor
open Go.Shelf Go.RowKit
def laysC172_ren : Go.Shelf.Ren := ⟨fun | 172 => 85 | 244 => 107 | 245 => 108 | 247 => 125 | 279 => 126 | 280 => 127 | 281 => 128 | 282 => 129 | 287 => 136 | 316 => 137 | 171 => 40 | 205 => 138 | 321 => 142 | 322 => 143 | 243 => 59 | 246 => 79 | 283 => 94 | 284 => 95 | 285 => 96 | 286 => 97 | 129 => 118 | 317 => 117 | 318 => 119 | 319 => 120 | 320 => 121 | 337 => 134 | 338 => 135 | n => n, fun | 9 => 9 | 3 => 3 | 75 => 107 | 76 => 108 | 4 => 4 | 5 => 5 | 167 => 156 | 37 => 56 | 0 => 0 | 85 => 157 | 2 => 2 | 168 => 159 | 53 => 130 | 175 => 172 | 46 => 141 | 210 => 175 | 127 => 123 | 145 => 185 | 143 => 183 | 21 => 21 | 171 => 129 | 173 => 133 | 212 => 149 | 51 => 150 | 20 => 20 | 213 => 151 | 232 => 180 | 233 => 181 | 80 => 47 | n => n, fun | 15 => 5 | 16 => 6 | 17 => 1 | 18 => 7 | 19 => 8 | n => n⟩
theorem laysC172 : Go.Proofs.LaysC.n172 Tryz.prog laysC172_ren := {
  mixed := by kernel_rfl
  f129 := Tryz.func118.trans (congrArg some (by kernel_rfl))
  f171 := Tryz.func40.trans (congrArg some (by kernel_rfl))
  f172 := Tryz.func85.trans (congrArg some (by kernel_rfl))
  f205 := Tryz.func138.trans (congrArg some (by kernel_rfl))
  f243 := Tryz.func59.trans (congrArg some (by kernel_rfl))
  f244 := Tryz.func107.trans (congrArg some (by kernel_rfl))
  f245 := Tryz.func108.trans (congrArg some (by kernel_rfl))
  f246 := Tryz.func79.trans (congrArg some (by kernel_rfl))
  f247 := Tryz.func125.trans (congrArg some (by kernel_rfl))
  f279 := Tryz.func126.trans (congrArg some (by kernel_rfl))
  f280 := Tryz.func127.trans (congrArg some (by kernel_rfl))
  f281 := Tryz.func128.trans (congrArg some (by kernel_rfl))
  f282 := Tryz.func129.trans (congrArg some (by kernel_rfl))
  f283 := Tryz.func94.trans (congrArg some (by kernel_rfl))
  f284 := Tryz.func95.trans (congrArg some (by kernel_rfl))
  f285 := Tryz.func96.trans (congrArg some (by kernel_rfl))
  f286 := Tryz.func97.trans (congrArg some (by kernel_rfl))
  f287 := Tryz.func136.trans (congrArg some (by kernel_rfl))
  f316 := Tryz.func137.trans (congrArg some (by kernel_rfl))
  f317 := Tryz.func117.trans (congrArg some (by kernel_rfl))
  f318 := Tryz.func119.trans (congrArg some (by kernel_rfl))
  f319 := Tryz.func120.trans (congrArg some (by kernel_rfl))
  f320 := Tryz.func121.trans (congrArg some (by kernel_rfl))
  f321 := Tryz.func142.trans (congrArg some (by kernel_rfl))
  f322 := Tryz.func143.trans (congrArg some (by kernel_rfl))
  f337 := Tryz.func134.trans (congrArg some (by kernel_rfl))
  f338 := Tryz.func135.trans (congrArg some (by kernel_rfl))
  t0 := Tryz.underlying0
  a0 := Tryz.isAgg0
  z0 := Tryz.sizeOf0
  v0 := Tryz.zeroValue0
  t2 := Tryz.underlying2
  a2 := Tryz.isAgg2
  z2 := Tryz.sizeOf2
  v2 := Tryz.zeroValue2
  t3 := Tryz.underlying3
  a3 := Tryz.isAgg3
  z3 := Tryz.sizeOf3
  v3 := Tryz.zeroValue3
  t4 := Tryz.underlying4
  a4 := Tryz.isAgg4
  z4 := Tryz.sizeOf4
  v4 := Tryz.zeroValue4
  t5 := Tryz.underlying5
  a5 := Tryz.isAgg5
  z5 := Tryz.sizeOf5
  v5 := Tryz.zeroValue5
  t9 := Tryz.underlying9
  a9 := Tryz.isAgg9
  z9 := Tryz.sizeOf9
  v9 := Tryz.zeroValue9
  t20 := Tryz.underlying20
  a20 := Tryz.isAgg20
  z20 := Tryz.sizeOf20
  v20 := Tryz.zeroValue20
  t21 := Tryz.underlying21
  a21 := Tryz.isAgg21
  z21 := Tryz.sizeOf21
  v21 := Tryz.zeroValue21
  t37 := Tryz.underlying56
  a37 := Tryz.isAgg56
  z37 := Tryz.sizeOf56
  v37 := Tryz.zeroValue56
  t46 := Tryz.underlying141
  a46 := Tryz.isAgg141
  z46 := Tryz.sizeOf141
  v46 := Tryz.zeroValue141
  t51 := Tryz.underlying150
  a51 := Tryz.isAgg150
  z51 := Tryz.sizeOf150
  v51 := Tryz.zeroValue150
  t53 := Tryz.underlying130
  a53 := Tryz.isAgg130
  z53 := Tryz.sizeOf130
  v53 := Tryz.zeroValue130
  t75 := Tryz.underlying107
  a75 := Tryz.isAgg107
  z75 := Tryz.sizeOf107
  v75 := Tryz.zeroValue107
  t76 := Tryz.underlying108
  a76 := Tryz.isAgg108
  z76 := Tryz.sizeOf108
  v76 := Tryz.zeroValue108
  t85 := Tryz.underlying157
  a85 := Tryz.isAgg157
  z85 := Tryz.sizeOf157
  v85 := Tryz.zeroValue157
  t127 := Tryz.underlying123
  a127 := Tryz.isAgg123
  z127 := Tryz.sizeOf123
  v127 := Tryz.zeroValue123
  t143 := Tryz.underlying183
  a143 := Tryz.isAgg183
  z143 := Tryz.sizeOf183
  v143 := Tryz.zeroValue183
  t145 := Tryz.underlying185
  a145 := Tryz.isAgg185
  z145 := Tryz.sizeOf185
  v145 := Tryz.zeroValue185
  t167 := Tryz.underlying156
  a167 := Tryz.isAgg156
  z167 := Tryz.sizeOf156
  v167 := Tryz.zeroValue156
  t168 := Tryz.underlying159
  a168 := Tryz.isAgg159
  z168 := Tryz.sizeOf159
  v168 := Tryz.zeroValue159
  t171 := Tryz.underlying129
  a171 := Tryz.isAgg129
  z171 := Tryz.sizeOf129
  v171 := Tryz.zeroValue129
  t173 := Tryz.underlying133
  a173 := Tryz.isAgg133
  z173 := Tryz.sizeOf133
  v173 := Tryz.zeroValue133
  t175 := Tryz.underlying172
  a175 := Tryz.isAgg172
  z175 := Tryz.sizeOf172
  v175 := Tryz.zeroValue172
  t210 := Tryz.underlying175
  a210 := Tryz.isAgg175
  z210 := Tryz.sizeOf175
  v210 := Tryz.zeroValue175
  t212 := Tryz.underlying149
  a212 := Tryz.isAgg149
  z212 := Tryz.sizeOf149
  v212 := Tryz.zeroValue149
  t213 := Tryz.underlying151
  a213 := Tryz.isAgg151
  z213 := Tryz.sizeOf151
  t232 := Tryz.underlying180
  a232 := Tryz.isAgg180
  z232 := Tryz.sizeOf180
  v232 := Tryz.zeroValue180
  t233 := Tryz.underlying181
  a233 := Tryz.isAgg181
  z233 := Tryz.sizeOf181
  v233 := Tryz.zeroValue181
  g15 := by kernel_rfl
  g16 := by kernel_rfl
  g17 := by kernel_rfl
  g18 := by kernel_rfl
  g19 := by kernel_rfl
  t80 := Tryz.underlying47
  a80 := Tryz.isAgg47
  z80 := Tryz.sizeOf47
  v80 := Tryz.zeroValue47
  i0 := by kernel_rfl
  i2 := by kernel_rfl
  i3 := by kernel_rfl
  i4 := by kernel_rfl
  i5 := by kernel_rfl
  i9 := by kernel_rfl
  i20 := by kernel_rfl
  i21 := by kernel_rfl
  i37 := by kernel_rfl
  i46 := by kernel_rfl
  i51 := by kernel_rfl
  i53 := by kernel_rfl
  i75 := by kernel_rfl
  i76 := by kernel_rfl
  i80 := by kernel_rfl
  i85 := by kernel_rfl
  i127 := by kernel_rfl
  i143 := by kernel_rfl
  i145 := by kernel_rfl
  i167 := by kernel_rfl
  i168 := by kernel_rfl
  i171 := by kernel_rfl
  i173 := by kernel_rfl
  i175 := by kernel_rfl
  i210 := by kernel_rfl
  i212 := by kernel_rfl
  i232 := by kernel_rfl
  i233 := by kernel_rfl
  m15 := by kernel_rfl
  m16 := by kernel_rfl
  m17 := by kernel_rfl
  m18 := by kernel_rfl
  m19 := by kernel_rfl
  c0 := by kernel_rfl
  c2 := by kernel_rfl
  c3 := by kernel_rfl
  c4 := by kernel_rfl
  c5 := by kernel_rfl
  c9 := by kernel_rfl
  c20 := by kernel_rfl
  c21 := by kernel_rfl
  c37 := by kernel_rfl
  c46 := by kernel_rfl
  c51 := by kernel_rfl
  c53 := by kernel_rfl
  c75 := by kernel_rfl
  c76 := by kernel_rfl
  c80 := by kernel_rfl
  c85 := by kernel_rfl
  c127 := by kernel_rfl
  c143 := by kernel_rfl
  c145 := by kernel_rfl
  c167 := by kernel_rfl
  c168 := by kernel_rfl
  c171 := by kernel_rfl
  c173 := by kernel_rfl
  c175 := by kernel_rfl
  c210 := by kernel_rfl
  c212 := by kernel_rfl
  c213 := by kernel_rfl
  c232 := by kernel_rfl
  c233 := by kernel_rfl }
end Go.Proofs.YtjblepjkejihcaaGreatDoor
set_option linter.unusedVariables false
set_option linter.unusedSimpArgs false
namespace Go.Proofs.YtjblepjkejihcaaGreatDoor
open Go.RowKit Go.Shelf

abbrev slash : ByteArray := ⟨#[47]⟩
theorem kjoin_list : ∀ xs : List (List UInt8), (Lib.join xs [47]).map (·.toNat) = D.jn (xs.map fun l => l.map (·.toNat))
  | [] => rfl
  | [x] => by rw [Lib.join_one]; rfl
  | x :: y :: r => by
    have h := kjoin_list (y :: r)
    have e : Lib.join (x :: y :: r) [47] = x ++ 47 :: Lib.join (y :: r) [47] := by
      rw [Lib.join_cons, Lib.join_cons]
      simp [Lib.joinTail]
    rw [e, List.map_append, List.map_cons, h]
    rfl
theorem kjoin_any (bk c : Nat) (xs : List ByteArray) (w : World) (hcells : ∀ (j : Nat) x, xs[j]? = some x → w.cell? ⟨bk, 0 + j, none⟩ = some (.string x)) (hbk : bk < w.heap.size) (hN : xs.length ≤ 100) (hcap : xs.length ≤ c) (hlen : (D.jn (xs.map D.ns)).length ≤ 100) :
    Calls Tryz.prog 43 #[.slice (some ⟨bk, 0, none⟩) xs.length c, .string slash] w fun e w' => e = .returned (.string (D.sb (D.jn (xs.map D.ns)))) ∧ Below w.heap.size w w' := by
  have hj : (Lib.join (xs.map (·.data.toList)) [47]).map (·.toNat) = D.jn (xs.map D.ns) := by
    rw [kjoin_list, List.map_map]; rfl
  have hl : (Lib.join (xs.map (·.data.toList)) [47]).length ≤ 140737488355328 := by
    have := congrArg List.length hj
    rw [List.length_map] at this
    omega
  refine Calls.mono (Any.strings_Join lays156 Builder_Extra_156 bk 0 c xs slash w hcells hbk (by omega) hcap hl) fun e w' ⟨he, hw⟩ => ⟨?_, hw⟩
  rw [he, ← sb_of hj]
theorem kjoin_none (A : Option Addr) (c : Nat) (w : World) :
    Calls Tryz.prog 43 #[.slice A 0 c, .string slash] w fun e w' => e = .returned (.string (D.sb [])) ∧ Below w.heap.size w w' :=
  Calls.mono (Any.strings_Join_none lays156 Builder_Extra_156 A c slash w) fun e w' ⟨he, hw⟩ => ⟨he, hw ▸ Below.refl _ _⟩

/-- The first - byte. -/
theorem kidx_cut (s : ByteArray) : (Lib.indexB s slash = -1 ∧ D.kM (D.ns s) = false) ∨ ∃ i : Nat, Lib.indexB s slash = i ∧ i < s.size ∧ D.kM (D.ns s) = true ∧ D.kP (D.ns s) = (D.ns s).take i ∧ D.kR (D.ns s) = (D.ns s).drop (i + 1) := by
  have e : Lib.indexB s slash = Lib.indexByte s.data.toList 47 := by
    exact Lib.one s slash rfl
  have hns : ∀ k : Nat, (D.ns s)[k]? = some 47 ↔ s.data.toList[k]? = some 47 := by
    intro k
    simp only [D.ns, List.getElem?_map]
    cases h : s.data.toList[k]? with
    | none => simp
    | some b =>
      simp only [Option.map_some, Option.some.injEq]
      constructor
      · intro h; exact UInt8.toNat_inj.1 h
      · rintro rfl; rfl
  rw [e]
  have hge := Lib.indexByte_ge s.data.toList 47
  by_cases h : Lib.indexByte s.data.toList 47 = -1
  · refine .inl ⟨h, D.kM_no fun i hi hc => Lib.indexByte_none h i ((hns i).1 hc)⟩
  · obtain ⟨i, hi⟩ : ∃ i : Nat, Lib.indexByte s.data.toList 47 = i := ⟨(Lib.indexByte s.data.toList 47).toNat, by omega⟩
    obtain ⟨h1, h2⟩ := Lib.indexByte_some hi
    obtain ⟨c1, c2, c3⟩ := D.k_at (t := D.ns s) (k := i) ((hns i).2 h1) (fun (j : Nat) hj hc => h2 j hj ((hns j).1 hc))
    refine .inr ⟨i, hi, ?_, c3, c1, c2⟩
    have := (List.getElem?_eq_some_iff.1 h1).1
    simpa using this
theorem kspn_split : ∀ (k : Nat) (s : ByteArray), (Lib.splitB slash 0 k s).map D.ns = D.spk k (D.ns s)
  | 0, s => rfl
  | k + 1, s => by
    rcases kidx_cut s with ⟨h, hm⟩ | ⟨i, h, hi, hm, hp, hr⟩
    · rw [Lib.splitB_miss _ _ _ _ h, D.spk, hm]; rfl
    · rw [Lib.splitB_hit _ _ _ _ i h, D.spk, hm, if_pos rfl, hp, hr, List.map_cons, kspn_split k, Nat.add_zero, ns_take]
      have : slash.size = 1 := rfl
      rw [this, ns_drop]
/-- What SplitN makes: so many pieces. -/
theorem ksplit_any (s : ByteArray) (w : World) (hs : s.size ≤ 100) :
    Calls Tryz.prog 45 #[.string s, .string slash, .int .i64 6] w fun e w' => ∃ (xs : List ByteArray) (N : Nat), xs.map D.ns = D.spk 5 (D.ns s) ∧ xs.length ≤ N ∧ N ≤ 6 ∧ e = .returned (.slice (some ⟨w.heap.size, 0, none⟩) xs.length N) ∧ w' = w.alloc (.cells (Lib.cellsOf xs N) 9) := by
  have hi9 : (Tryz.prog.info? 9).map (fun i => (i.zero, i.size, i.bytes)) = some (some (.string ByteArray.empty), 1, 16) := by kernel_rfl
  have hC : Calls Tryz.prog 83 #[.string s, .string slash] w fun e w' => e = .returned (.int .i64 (Lib.countB s slash)) ∧ w' = w := by
    refine Calls.mono (Any.strings_Count_one { lays147 with } s 47 w) fun e w' ⟨he, hw⟩ => ⟨?_, hw⟩
    rw [he]
    show _ = Ending.returned (Value.int .i64 ((Lib.count s.data.toList [47] : Nat) : Int))
    rw [Lib.count_one]
    rfl
  have hI : ∀ (x : ByteArray) (c : Array Value), x.size ≤ s.size → Calls Tryz.prog 64 #[.string x, .string slash] (w.alloc (.cells c 9)) fun e w' => e = .returned (.int .i64 (Lib.indexB x slash)) ∧ w' = w.alloc (.cells c 9) := by
    intro x c _
    refine Calls.mono (Any.strings_Index_one { lays147 with } x 47 _) fun e w' ⟨he, hw⟩ => ⟨?_, hw⟩
    rw [he]
    have := Lib.one x slash rfl
    rw [this]
    rfl
  have c := Any.strings_genSplit_core { lays147 with } hi9 s slash 0 (6 : Int) (min 6 (s.size + 1)) w (by omega) (by decide) (Nat.zero_le _) hI hC (by decide) (by decide) (by rw [if_neg (by decide)]; omega)
  have hlen : (Lib.splitB slash 0 (min 6 (s.size + 1) - 1) s).length ≤ min 6 (s.size + 1) := by
    have := Lib.splitB_length_le slash 0 (min 6 (s.size + 1) - 1) s
    omega
  have hsp : (Lib.splitB slash 0 (min 6 (s.size + 1) - 1) s).map D.ns = D.spk 5 (D.ns s) := by
    rw [kspn_split]
    by_cases h : 5 ≤ s.size
    · rw [show min 6 (s.size + 1) - 1 = 5 by omega]
    · have := D.spk_more s.size (D.ns s) (by rw [D.ns_len]; exact Nat.le_refl _) (5 - s.size)
      rw [show s.size + (5 - s.size) = 5 by omega] at this
      rw [show min 6 (s.size + 1) - 1 = s.size by omega, this]
  have c' : Calls Tryz.prog 63 #[.string s, .string slash, .int .i64 0, .int .i64 6] w fun e w' => e = .returned (.slice (some ⟨w.heap.size, 0, none⟩) (Lib.splitB slash 0 (min 6 (s.size + 1) - 1) s).length (min 6 (s.size + 1))) ∧ w' = w.alloc (.cells (Lib.cellsOf (Lib.splitB slash 0 (min 6 (s.size + 1) - 1) s) (min 6 (s.size + 1))) 9) := c
  clear c hI hC
  go_enter Tryz.func45, Tryz.ntmps45
  go_wp2_with (go_at_call 63; (with_reducible refine Calls.mono c' ?_); rintro e w' ⟨rfl, rfl⟩)
  go_ret
  exact ⟨_, _, hsp, hlen, by omega, rfl, rfl⟩


theorem itoa_any (i : Nat) (hi : i < 100) (w : World) : Calls Tryz.prog 40 #[.int .i64 (i : Int)] w fun e w' => e = .returned (.string (D.sb (D.dig i))) ∧ w = w' := by
  refine (Any.strconv_Itoa_small lays171 i hi w).mono fun e w' ⟨he, hw⟩ => ⟨?_, hw.symm⟩
  rw [he, sb_of (D.dig_dec hi)]
/-- What the library's variables hold. -/
structure Env (w : World) : Prop where
  max : ∃ m, w.cell? ⟨0, 0, none⟩ = some (.int .i64 m)
  syn : ∃ v, w.cell? ⟨5, 0, none⟩ = some v ∧ (v = .nilIface ∨ ∃ te pe, v = .iface te pe)
  rng : ∃ v, w.cell? ⟨6, 0, none⟩ = some v ∧ (v = .nilIface ∨ ∃ te pe, v = .iface te pe)
theorem cell_kept_ {w w' : World} (hb : Below w.heap.size w w') {a : Addr} {v : Value} (h : w.cell? a = some v) : w'.cell? a = some v := (World.cell?_of_block (hb.block _ (World.block_lt_of_cell? w _ h))).trans h
theorem Env.on {w w' : World} (h : Env w) (hb : Below w.heap.size w w') : Env w' := by
  obtain ⟨⟨m, h1⟩, ⟨v, h2, h3⟩, ⟨u, h4, h5⟩⟩ := h
  exact ⟨⟨m, cell_kept_ hb h1⟩, ⟨v, cell_kept_ hb h2, h3⟩, ⟨u, cell_kept_ hb h4, h5⟩⟩
theorem Env.drewN {w : World} (h : Env w) (n : Nat) : Env (w.drewN n) := ⟨h.max, h.syn, h.rng⟩
theorem Env.alloc {w : World} (h : Env w) (o : Obj) : Env (w.alloc o) := h.on (below_alloc_ w o)
theorem index_any (s sub : ByteArray) (w : World) (hs : s.size ≤ 100) (hE : Env w) : Calls Tryz.prog 64 #[.string s, .string sub] w fun e w' => e = .returned (.int .i64 (Lib.index s.data.toList sub.data.toList)) ∧ w = w' := by
  obtain ⟨m, hm⟩ := hE.max
  exact (Any.strings_Index lays143 s sub m w (by omega) hm).mono fun e w' ⟨he, hw⟩ => ⟨he, hw.symm⟩
theorem atoi_ok (s : ByteArray) (w : World) (hs : s.size ≤ 100) (v : Int) (h : Lib.atoiAll s.data.toList = .ok v) : Calls Tryz.prog 85 #[.string s] w fun e w' => e = .returned (.tuple #[.int .i64 v, .nilIface]) ∧ Below w.heap.size w w' := by
  refine (Any.strconv_Atoi_ok laysC172 s (by omega) v h w).mono fun e w' ⟨he, hw⟩ => ⟨he, ?_⟩
  rcases hw with rfl | ⟨t, rfl⟩
  · exact Below.refl _ _
  · exact Lib.bytesWorld_below _ _ _
theorem atoi_bad (s : ByteArray) (w : World) (hs : s.size ≤ 100) (h : ∀ v, Lib.atoiAll s.data.toList ≠ .ok v) (hE : Env w) : Calls Tryz.prog 85 #[.string s] w fun e w' => ∃ (v : Int) (t : TypeId) (p : Value), e = .returned (.tuple #[.int .i64 v, .iface t p]) ∧ Below w.heap.size w w' := by
  obtain ⟨ev0, hv0, he0⟩ := hE.syn
  obtain ⟨ev1, hv1, he1⟩ := hE.rng
  cases hq : Lib.atoiAll s.data.toList
  · exact absurd hq (h _)
  · exact (Any.strconv_Atoi_syntax laysC172 s (by omega) hq ev0 w hv0 he0).mono fun e w' ⟨N, he, _, _, hw⟩ => ⟨_, _, _, he, hw⟩
  · exact (Any.strconv_Atoi_range laysC172 s (by omega) hq ev1 w hv1 he1).mono fun e w' ⟨N, he, _, _, hw⟩ => ⟨_, _, _, he, hw⟩
theorem num_bad {s : ByteArray} (h : ∀ v, Lib.atoiAll s.data.toList ≠ .ok v) : D.num s = -1 := by
  unfold D.num
  split
  · rename_i v hv; exact absurd hv (h v)
  · rfl
set_option maxRecDepth 100000 in
theorem number_any (s : ByteArray) (w : World) (hs : s.size ≤ 100) (hE : Env w) : Calls Tryz.prog 66 #[.string s] w fun e w' => e = .returned (.int .i64 (D.num s)) ∧ Below w.heap.size w w' := by
  by_cases h : ∃ v, Lib.atoiAll s.data.toList = .ok v
  · obtain ⟨v, h⟩ := h
    have hr : D.num s = v := by simp only [D.num, h]
    rw [hr]
    have C := atoi_ok s w hs v h
    clear h hr
    go_enter Tryz.func66, Tryz.ntmps66
    go_wp2_with (go_at_call 85; (with_reducible refine C.mono ?_); rintro e w' ⟨rfl, hw⟩)
    go_ret
    exact ⟨rfl, hw⟩
  · have h' : ∀ v, Lib.atoiAll s.data.toList ≠ .ok v := fun v hv => h ⟨v, hv⟩
    rw [num_bad h']
    have C := atoi_bad s w hs h' hE
    clear h h' hE
    go_enter Tryz.func66, Tryz.ntmps66
    go_wp2_with (go_at_call 85; (with_reducible refine C.mono ?_); rintro e w' ⟨v, t, p, rfl, hw⟩)
    go_ret
    exact ⟨rfl, hw⟩
end Go.Proofs.YtjblepjkejihcaaGreatDoor
