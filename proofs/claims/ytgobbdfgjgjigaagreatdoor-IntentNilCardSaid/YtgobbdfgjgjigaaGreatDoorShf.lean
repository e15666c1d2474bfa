/-
  What the library's calls answer, in plain numbers: small and great letters, pieces between - bytes, pieces joined, a slice cut at a byte 0.
-/
import Derived.Test.YtgobbdfgjgjigaaGreatDoorLay
import Derived.Test.YtgobbdfgjgjigaaGreatDoorLeaf
import Derived.Lib.IndexBytes
import Derived.Lib.IndexLaws
set_option linter.unusedVariables false
set_option linter.unusedSimpArgs false
namespace Go.Proofs.YtgobbdfgjgjigaaGreatDoor
open Go.RowKit Go.Shelf

theorem low_list (l : List UInt8) : ((Lib.toLowerA l).map (·.toNat)) = D.low (l.map (·.toNat)) := by
  simp only [Lib.toLowerA, D.low, List.map_map]
  refine List.map_congr_left fun b _ => ?_
  show (Lib.lowerB b).toNat = D.lowB b.toNat
  have hi := Lib.isUpperB_int b
  unfold D.lowB
  cases h : Lib.isUpperB b with
  | false =>
    rw [h] at hi
    simp only [eq_comm (a := false), Bool.and_eq_false_iff, decide_eq_false_iff_not] at hi
    rw [Lib.lowerB_of_not b h, if_neg (by omega)]
  | true =>
    have h2 := Lib.lowerB_int b h
    rw [h] at hi
    simp only [eq_comm (a := true), Bool.and_eq_true, decide_eq_true_eq] at hi
    rw [if_pos (by omega)]
    omega
theorem up_list (l : List UInt8) : ((Lib.toUpperA l).map (·.toNat)) = D.up (l.map (·.toNat)) := by
  simp only [Lib.toUpperA, D.up, List.map_map]
  refine List.map_congr_left fun b _ => ?_
  show (Lib.upperB b).toNat = D.upB b.toNat
  have hi := Lib.isLowerB_int b
  unfold D.upB
  cases h : Lib.isLowerB b with
  | false =>
    rw [h] at hi
    simp only [eq_comm (a := false), Bool.and_eq_false_iff, decide_eq_false_iff_not] at hi
    rw [Lib.upperB_of_not b h, if_neg (by omega)]
  | true =>
    have h2 := Lib.upperB_int b h
    rw [h] at hi
    simp only [eq_comm (a := true), Bool.and_eq_true, decide_eq_true_eq] at hi
    rw [if_pos (by omega)]
    omega
theorem sb_of {l : List UInt8} {k : List Nat} (h : l.map (·.toNat) = k) : (⟨l.toArray⟩ : ByteArray) = D.sb k := by
  refine D.ns_inj ?_
  rw [D.ns_sb]
  · exact h
  · subst h
    intro b hb
    obtain ⟨u, _, rfl⟩ := List.mem_map.1 hb
    exact u.toNat_lt
theorem ascii_of {s : ByteArray} (h : ∀ b ∈ D.ns s, b < 128) : ∀ (j : Nat) (b : UInt8), s.data.toList[j]? = some b → b.toNat < 128 := fun j b hb => h _ (List.mem_map.2 ⟨b, List.mem_of_getElem? hb, rfl⟩)
theorem lower_any (s : ByteArray) (w : World) (hs : s.size ≤ 100) (h : ∀ b ∈ D.ns s, b < 128) : Calls Tryz.prog 111 #[.string s] w fun e w' => e = .returned (.string (D.sb (D.low (D.ns s)))) ∧ Below w.heap.size w w' := by
  refine Calls.mono (Any.strings_ToLower_ascii lays159 Builder_Extra_159 s w (by omega) (ascii_of h)) fun e w' ⟨he, hw⟩ => ⟨?_, hw⟩
  rw [he, sb_of (low_list s.data.toList)]
  rfl
theorem upper_any (s : ByteArray) (w : World) (hs : s.size ≤ 100) (h : ∀ b ∈ D.ns s, b < 128) : Calls Tryz.prog 113 #[.string s] w fun e w' => e = .returned (.string (D.sb (D.up (D.ns s)))) ∧ Below w.heap.size w w' := by
  refine Calls.mono (Any.strings_ToUpper_ascii lays158 Builder_Extra_158 s w (by omega) (ascii_of h)) fun e w' ⟨he, hw⟩ => ⟨?_, hw⟩
  rw [he, sb_of (up_list s.data.toList)]
  rfl
abbrev dash : ByteArray := ⟨#[45]⟩
theorem join_list : ∀ xs : List (List UInt8), (Lib.join xs [45]).map (·.toNat) = D.join (xs.map fun l => l.map (·.toNat))
  | [] => rfl
  | [x] => by rw [Lib.join_one]; rfl
  | x :: y :: r => by
    have h := join_list (y :: r)
    have e : Lib.join (x :: y :: r) [45] = x ++ 45 :: Lib.join (y :: r) [45] := by
      rw [Lib.join_cons, Lib.join_cons]
      simp [Lib.joinTail]
    rw [e, List.map_append, List.map_cons, h]
    rfl
theorem join_any (bk c : Nat) (xs : List ByteArray) (w : World) (hcells : ∀ (j : Nat) x, xs[j]? = some x → w.cell? ⟨bk, 0 + j, none⟩ = some (.string x)) (hbk : bk < w.heap.size) (hN : xs.length ≤ 100) (hcap : xs.length ≤ c) (hlen : (D.join (xs.map D.ns)).length ≤ 100) :
    Calls Tryz.prog 115 #[.slice (some ⟨bk, 0, none⟩) xs.length c, .string dash] w fun e w' => e = .returned (.string (D.sb (D.join (xs.map D.ns)))) ∧ Below w.heap.size w w' := by
  have hj : (Lib.join (xs.map (·.data.toList)) [45]).map (·.toNat) = D.join (xs.map D.ns) := by
    rw [join_list, List.map_map]; rfl
  have hl : (Lib.join (xs.map (·.data.toList)) [45]).length ≤ 140737488355328 := by
    have := congrArg List.length hj
    rw [List.length_map] at this
    omega
  refine Calls.mono (Any.strings_Join lays156 Builder_Extra_156 bk 0 c xs dash w hcells hbk (by omega) hcap hl) fun e w' ⟨he, hw⟩ => ⟨?_, hw⟩
  rw [he, ← sb_of hj]
theorem join_none (A : Option Addr) (c : Nat) (w : World) :
    Calls Tryz.prog 115 #[.slice A 0 c, .string dash] w fun e w' => e = .returned (.string (D.sb [])) ∧ Below w.heap.size w w' :=
  Calls.mono (Any.strings_Join_none lays156 Builder_Extra_156 A c dash w) fun e w' ⟨he, hw⟩ => ⟨he, hw ▸ Below.refl _ _⟩

/-- The first - byte. -/
theorem idx_cut (s : ByteArray) : (Lib.indexB s dash = -1 ∧ D.cutM (D.ns s) = false) ∨ ∃ i : Nat, Lib.indexB s dash = i ∧ i < s.size ∧ D.cutM (D.ns s) = true ∧ D.cutP (D.ns s) = (D.ns s).take i ∧ D.cutR (D.ns s) = (D.ns s).drop (i + 1) := by
  have e : Lib.indexB s dash = Lib.indexByte s.data.toList 45 := by
    exact Lib.one s dash rfl
  have hns : ∀ k : Nat, (D.ns s)[k]? = some 45 ↔ s.data.toList[k]? = some 45 := by
    intro k
    simp only [D.ns, List.getElem?_map]
    cases h : s.data.toList[k]? with
    | none => simp
    | some b =>
      simp only [Option.map_some, Option.some.injEq]
      constructor
      · intro h; exact UInt8.toNat_inj.1 h
      · rintro rfl; rfl
  rw [e]
  have hge := Lib.indexByte_ge s.data.toList 45
  by_cases h : Lib.indexByte s.data.toList 45 = -1
  · refine .inl ⟨h, D.cutM_no fun i hi hc => Lib.indexByte_none h i ((hns i).1 hc)⟩
  · obtain ⟨i, hi⟩ : ∃ i : Nat, Lib.indexByte s.data.toList 45 = i := ⟨(Lib.indexByte s.data.toList 45).toNat, by omega⟩
    obtain ⟨h1, h2⟩ := Lib.indexByte_some hi
    obtain ⟨c1, c2, c3⟩ := D.cut_at (t := D.ns s) (k := i) ((hns i).2 h1) (fun (j : Nat) hj hc => h2 j hj ((hns j).1 hc))
    refine .inr ⟨i, hi, ?_, c3, c1, c2⟩
    have := (List.getElem?_eq_some_iff.1 h1).1
    simpa using this
theorem ns_take (s : ByteArray) (k : Nat) : D.ns (s.extract 0 k) = (D.ns s).take k := by
  simp only [D.ns]
  rw [Lib.extract_from_zero, List.map_take]
theorem ns_drop (s : ByteArray) (k : Nat) : D.ns (s.extract k s.size) = (D.ns s).drop k := by
  simp only [D.ns]
  rw [Lib.extract_to_end, List.map_drop]
theorem spn_split : ∀ (k : Nat) (s : ByteArray), (Lib.splitB dash 0 k s).map D.ns = D.spn k (D.ns s)
  | 0, s => rfl
  | k + 1, s => by
    rcases idx_cut s with ⟨h, hm⟩ | ⟨i, h, hi, hm, hp, hr⟩
    · rw [Lib.splitB_miss _ _ _ _ h, D.spn, hm]; rfl
    · rw [Lib.splitB_hit _ _ _ _ i h, D.spn, hm, if_pos rfl, hp, hr, List.map_cons, spn_split k, Nat.add_zero, ns_take]
      have : dash.size = 1 := rfl
      rw [this, ns_drop]
/-- What SplitN makes: so many pieces. -/
theorem split_any (s : ByteArray) (w : World) (hs : s.size ≤ 100) :
    Calls Tryz.prog 109 #[.string s, .string dash, .int .i64 4] w fun e w' => ∃ (xs : List ByteArray) (N : Nat), xs.map D.ns = D.spn 3 (D.ns s) ∧ xs.length ≤ N ∧ N ≤ 4 ∧ e = .returned (.slice (some ⟨w.heap.size, 0, none⟩) xs.length N) ∧ w' = w.alloc (.cells (Lib.cellsOf xs N) 9) := by
  have hi9 : (Tryz.prog.info? 9).map (fun i => (i.zero, i.size, i.bytes)) = some (some (.string ByteArray.empty), 1, 16) := by kernel_rfl
  have hC : Calls Tryz.prog 135 #[.string s, .string dash] w fun e w' => e = .returned (.int .i64 (Lib.countB s dash)) ∧ w' = w := by
    refine Calls.mono (Any.strings_Count_one { lays147 with } s 45 w) fun e w' ⟨he, hw⟩ => ⟨?_, hw⟩
    rw [he]
    show _ = Ending.returned (Value.int .i64 ((Lib.count s.data.toList [45] : Nat) : Int))
    rw [Lib.count_one]
    rfl
  have hI : ∀ (x : ByteArray) (c : Array Value), x.size ≤ s.size → Calls Tryz.prog 136 #[.string x, .string dash] (w.alloc (.cells c 9)) fun e w' => e = .returned (.int .i64 (Lib.indexB x dash)) ∧ w' = w.alloc (.cells c 9) := by
    intro x c _
    refine Calls.mono (Any.strings_Index_one { lays147 with } x 45 _) fun e w' ⟨he, hw⟩ => ⟨?_, hw⟩
    rw [he]
    have := Lib.one x dash rfl
    rw [this]
    rfl
  have c := Any.strings_genSplit_core { lays147 with } hi9 s dash 0 (4 : Int) (min 4 (s.size + 1)) w (by omega) (by decide) (Nat.zero_le _) hI hC (by decide) (by decide) (by rw [if_neg (by decide)]; omega)
  have hlen : (Lib.splitB dash 0 (min 4 (s.size + 1) - 1) s).length ≤ min 4 (s.size + 1) := by
    have := Lib.splitB_length_le dash 0 (min 4 (s.size + 1) - 1) s
    omega
  have hsp : (Lib.splitB dash 0 (min 4 (s.size + 1) - 1) s).map D.ns = D.spn 3 (D.ns s) := by
    rw [spn_split]
    by_cases h : 3 ≤ s.size
    · rw [show min 4 (s.size + 1) - 1 = 3 by omega]
    · have := D.spn_more s.size (D.ns s) (by rw [D.ns_len]; exact Nat.le_refl _) (3 - s.size)
      rw [show s.size + (3 - s.size) = 3 by omega] at this
      rw [show min 4 (s.size + 1) - 1 = s.size by omega, this]
  have c' : Calls Tryz.prog 118 #[.string s, .string dash, .int .i64 0, .int .i64 4] w fun e w' => e = .returned (.slice (some ⟨w.heap.size, 0, none⟩) (Lib.splitB dash 0 (min 4 (s.size + 1) - 1) s).length (min 4 (s.size + 1))) ∧ w' = w.alloc (.cells (Lib.cellsOf (Lib.splitB dash 0 (min 4 (s.size + 1) - 1) s) (min 4 (s.size + 1))) 9) := c
  clear c hI hC
  go_enter Tryz.func109, Tryz.ntmps109
  go_wp2_with (go_at_call 118; (with_reducible refine Calls.mono c' ?_); rintro e w' ⟨rfl, rfl⟩)
  go_ret
  exact ⟨_, _, hsp, hlen, by omega, rfl, rfl⟩

theorem hd0_at : ∀ {l : List Nat} {k : Nat}, l[k]? = some 0 → (∀ i : Nat, i < k → l[i]? ≠ some 0) → D.hd0 l = l.take k ∧ k < l.length
  | [], k, h, _ => by simp at h
  | c :: t, 0, h, _ => by
    simp at h
    subst h
    simp [D.hd0]
  | c :: t, k + 1, h, hn => by
    have hc : c ≠ 0 := fun e => hn 0 (by omega) (by simp [e])
    obtain ⟨h1, h2⟩ := hd0_at (l := t) (k := k) (by simpa using h) (fun i hi => by have := hn (i + 1) (by omega); simpa using this)
    refine ⟨?_, by simp; omega⟩
    rw [List.take_succ_cons, ← h1]
    simp [D.hd0, hc]
theorem hd0_no {l : List Nat} (h : ∀ i : Nat, l[i]? ≠ some 0) : D.hd0 l = l := by
  induction l with
  | nil => rfl
  | cons c t ih =>
    have hc : c ≠ 0 := fun e => h 0 (by simp [e])
    have := ih (fun i => by have := h (i + 1); simpa using this)
    simp only [D.hd0] at this ⊢
    rw [List.takeWhile_cons_of_pos (by simpa using hc), this]
set_option maxRecDepth 100000 in
/-- bytes.Cut at a byte 0: the bytes ahead of the first one. -/
theorem cut0_any (a : Addr) (n c b2 d : Nat) (l : List Nat) (w : World) (hn : l.length = n) (hl : ∀ b ∈ l, b < 256) (hc : ∀ j u, (bys l)[j]? = some u → w.cell? (a.add j) = some u) (hcap : n ≤ c) (hs : n ≤ 100) (h2 : w.cell? ⟨b2, 0, none⟩ = some (.int .u8 0)) :
    Calls Tryz.prog 108 #[.slice (some a) n c, .slice (some ⟨b2, 0, none⟩) 1 d] w fun e w' => ∃ v2 v3, e = .returned (.tuple #[.slice (some a) (D.hd0 l).length c, v2, v3]) ∧ ∃ q, w' = w.drewN q := by
  have hx : (l.map fun b : Nat => (b : Int)).length = n := by simpa using hn
  have hcx : ∀ i, i < n → w.cell? (a.add i) = some (.int .u8 ((l.map fun b : Nat => (b : Int)).getD i 0)) := fun i hi => by
    refine hc i _ ?_
    simp [bys, List.getD, List.getElem?_eq_getElem (show i < l.length by omega)]
  have hidx := Any.bytes_Index_one_at lays185 a n c b2 0 d (l.map fun b : Nat => (b : Int)) 0 w hx hcx h2
  have hz : (0 : Int).toNat.toUInt8 = 0 := rfl
  rw [hz] at hidx
  have hb : Lib.bytesOf (l.map fun b : Nat => (b : Int)) = l.map UInt8.ofNat := by simp [Lib.bytesOf]
  rw [hb] at hidx
  have hat : ∀ k : Nat, (l.map UInt8.ofNat)[k]? = some 0 ↔ l[k]? = some 0 := by
    intro k
    rw [List.getElem?_map]
    cases h : l[k]? with
    | none => simp
    | some b =>
      have hb := hl b (List.mem_of_getElem? h)
      simp only [Option.map_some, Option.some.injEq]
      constructor
      · intro h
        have := congrArg UInt8.toNat h
        simpa [Nat.mod_eq_of_lt hb] using this
      · rintro rfl; rfl
  obtain ⟨i, hi⟩ : ∃ i, Lib.indexByte (l.map UInt8.ofNat) 0 = i := ⟨_, rfl⟩
  have hge := Lib.indexByte_ge (l.map UInt8.ofNat) 0
  rw [hi] at hidx hge
  have key : (i = -1 ∧ D.hd0 l = l) ∨ ∃ k : Nat, i = k ∧ D.hd0 l = l.take k ∧ k < l.length := by
    by_cases h : i = -1
    · subst h
      exact .inl ⟨rfl, hd0_no fun k hk => Lib.indexByte_none hi k ((hat k).2 hk)⟩
    · obtain ⟨k, rfl⟩ : ∃ k : Nat, i = k := ⟨i.toNat, by omega⟩
      obtain ⟨h1, h2⟩ := Lib.indexByte_some hi
      exact .inr ⟨k, rfl, hd0_at ((hat k).1 h1) (fun (j : Nat) hj hc => h2 j hj ((hat j).2 hc))⟩
  refine Calls.mono (Any.bytes_Cut_of laysSlT4 (some a) (some ⟨b2, 0, none⟩) n c 1 d i w hcap (by omega) ?_ (by omega) (Calls.mono hidx fun e w' ⟨he, hw⟩ => ⟨he, 0, hw⟩)) fun e w' ⟨he, hw⟩ => ?_
  · intro h0
    rcases key with ⟨rfl, _⟩ | ⟨k, rfl, _, hk⟩ <;> omega
  · rcases key with ⟨rfl, e1⟩ | ⟨k, rfl, e1, hk⟩
    · refine ⟨.slice none 0 0, .bool false, ?_, hw⟩
      rw [he, Lib.cutV, if_neg (by decide), e1, hn]
    · refine ⟨Lib.fromV (some a) n c (k + 1), .bool true, ?_, hw⟩
      rw [he, Lib.cutV, if_pos (by omega), e1, List.length_take, Nat.min_eq_left (by omega)]
      rfl
end Go.Proofs.YtgobbdfgjgjigaaGreatDoor
