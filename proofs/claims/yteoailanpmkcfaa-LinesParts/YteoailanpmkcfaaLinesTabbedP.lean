/-
  The program's own Tabbed (package lines): a contract.
-/
import Derived.Test.YteoailanpmkcfaaLinesJoin
import Derived.Test.YteoailanpmkcfaaLinesAnyP
import Derived.Shelf.Strings.OnBuilder
namespace Go.Proofs.Yteoailanpmkcfaa
open Go.RowKit Go.Shelf
set_option linter.unusedVariables false

def numb156 : Go.Shelf.Ren := ⟨fun | 156 => 38 | 165 => 53 | 166 => 33 | 169 => 35 | 240 => 51 | 241 => 66 | 276 => 61 | 277 => 72 | n => n, fun | 31 => 23 | 9 => 9 | 3 => 3 | 4 => 4 | 0 => 0 | 20 => 20 | 72 => 41 | 76 => 44 | 70 => 38 | 37 => 39 | 75 => 43 | 127 => 61 | 164 => 64 | 5 => 5 | 80 => 47 | n => n, fun | n => n⟩
theorem lays156 : Go.Proofs.Lays.n156 Try.prog numb156 := {
  mixed := by kernel_rfl
  f156 := Try.func38.trans (congrArg some (by kernel_rfl))
  f165 := Try.func53.trans (congrArg some (by kernel_rfl))
  f166 := Try.func33.trans (congrArg some (by kernel_rfl))
  f169 := Try.func35.trans (congrArg some (by kernel_rfl))
  f240 := Try.func51.trans (congrArg some (by kernel_rfl))
  f241 := Try.func66.trans (congrArg some (by kernel_rfl))
  f276 := Try.func61.trans (congrArg some (by kernel_rfl))
  f277 := Try.func72.trans (congrArg some (by kernel_rfl))
  t0 := Try.underlying0
  a0 := Try.isAgg0
  z0 := Try.sizeOf0
  v0 := Try.zeroValue0
  t3 := Try.underlying3
  a3 := Try.isAgg3
  z3 := Try.sizeOf3
  v3 := Try.zeroValue3
  t4 := Try.underlying4
  a4 := Try.isAgg4
  z4 := Try.sizeOf4
  v4 := Try.zeroValue4
  t9 := Try.underlying9
  a9 := Try.isAgg9
  z9 := Try.sizeOf9
  v9 := Try.zeroValue9
  t20 := Try.underlying20
  a20 := Try.isAgg20
  z20 := Try.sizeOf20
  v20 := Try.zeroValue20
  t31 := Try.underlying23
  a31 := Try.isAgg23
  z31 := Try.sizeOf23
  v31 := Try.zeroValue23
  t37 := Try.underlying39
  a37 := Try.isAgg39
  z37 := Try.sizeOf39
  v37 := Try.zeroValue39
  t70 := Try.underlying38
  a70 := Try.isAgg38
  z70 := Try.sizeOf38
  v70 := Try.zeroValue38
  t72 := Try.underlying41
  a72 := Try.isAgg41
  z72 := Try.sizeOf41
  v72 := Try.zeroValue41
  t75 := Try.underlying43
  a75 := Try.isAgg43
  z75 := Try.sizeOf43
  v75 := Try.zeroValue43
  t76 := Try.underlying44
  a76 := Try.isAgg44
  z76 := Try.sizeOf44
  v76 := Try.zeroValue44
  t127 := Try.underlying61
  a127 := Try.isAgg61
  z127 := Try.sizeOf61
  v127 := Try.zeroValue61
  t164 := Try.underlying64
  a164 := Try.isAgg64
  z164 := Try.sizeOf64
  v164 := Try.zeroValue64 }
theorem Builder_Extra_156 : Builder.Extra Try.prog numb156 := {
  sizeBuilder := by kernel_rfl
  liesBuilder := by kernel_rfl
  t5 := Try.underlying5
  a5 := Try.isAgg5
  z5 := Try.sizeOf5
  v5 := Try.zeroValue5
  infoByte := by kernel_rfl
  cellsByte := by kernel_rfl
  sizeByte := by kernel_rfl
  neB5 := by decide }

theorem join_tabbed : ∀ ls : List (List UInt8), Lib.join ls [9] = tabbedL ls
  | [] => rfl
  | [x] => Lib.join_one x [9]
  | x :: y :: t => by
    have ih := join_tabbed (y :: t)
    rw [Lib.join_cons] at ih ⊢
    show _ = x ++ 9 :: tabbedL (y :: t)
    rw [← ih]
    simp [Lib.joinTail]

theorem tabbedL_size (l : List ByteArray) (h : ∀ s ∈ l, s.size ≤ 1000000) : (tabbedL (toLs l)).length ≤ l.length * 1000001 := by
  have h1 := joinL_len 1000000 (toLs l) (toLs_le _ l h)
  have hl : (toLs l).length = l.length := List.length_map _
  have h2 := tabbedL_le (toLs l)
  rw [hl] at h1
  omega

/-- An address at which a cell lies is a plain one. -/
theorem plain_addr {w : World} {ad : Addr} {v : Value} (h : w.cell? ad = some v) : ∃ b o, ad = ⟨b, o, none⟩ := by
  obtain ⟨b, o, sp⟩ := ad
  cases sp with
  | none => exact ⟨b, o, rfl⟩
  | some k =>
    exfalso
    unfold World.cell? at h
    split at h
    · simp at h
    · cases h

/-- strings.Join with a byte 9 between two. -/
theorem tabjoin_any (v : Value) (l : List ByteArray) (w w0 : World) (hv : StrsAt w0 v l) (hb0 : Below w0.heap.size w0 w) (hl : l.length ≤ 10000) (hs : ∀ s ∈ l, s.size ≤ 1000000) :
    Calls Try.prog 38 #[v, .string ⟨#[9]⟩] w fun e w' => e = .returned (.string (tabbedB l)) ∧ Below w.heap.size w w' := by
  rcases hv.keep hb0 with ⟨rfl, rfl⟩ | ⟨ad, cap, rfl, hle, hc⟩
  · have k : Calls Try.prog 38 #[.slice none 0 0, .string ⟨#[9]⟩] w _ := Any.strings_Join_none lays156 Builder_Extra_156 none 0 ⟨#[9]⟩ w
    exact k.mono fun e w' ⟨h1, h2⟩ => ⟨h1, by rw [h2]; exact Below.refl _ _⟩
  · cases l with
    | nil =>
      have k : Calls Try.prog 38 #[.slice (some ad) 0 cap, .string ⟨#[9]⟩] w _ := Any.strings_Join_none lays156 Builder_Extra_156 (some ad) cap ⟨#[9]⟩ w
      exact k.mono fun e w' ⟨h1, h2⟩ => ⟨h1, by rw [h2]; exact Below.refl _ _⟩
    | cons x t =>
      have h0 := hc 0 (by simp)
      obtain ⟨b, o, rfl⟩ := plain_addr (ad := ad) h0
      have hlt : b < w.heap.size := World.block_lt_of_cell? w _ h0
      have hcells : ∀ (j : Nat) y, (x :: t)[j]? = some y → w.cell? ⟨b, o + j, none⟩ = some (.string y) := by
        intro j y hj
        obtain ⟨h1, h2⟩ := List.getElem?_eq_some_iff.1 hj
        have := hc j h1
        rw [h2] at this
        rw [← this]
        cases j <;> rfl
      have hlen : (Lib.join ((x :: t).map (·.data.toList)) (⟨#[9]⟩ : ByteArray).data.toList).length ≤ 140737488355328 := by
        show (Lib.join (toLs (x :: t)) [9]).length ≤ _
        rw [join_tabbed]
        have := tabbedL_size (x :: t) hs
        omega
      have k : Calls Try.prog 38 #[.slice (some ⟨b, o, none⟩) (x :: t).length cap, .string ⟨#[9]⟩] w _ := Any.strings_Join lays156 Builder_Extra_156 b o cap (x :: t) ⟨#[9]⟩ w hcells hlt (by omega) hle hlen
      refine k.mono fun e w' ⟨h1, h2⟩ => ⟨?_, h2⟩
      rw [h1]
      refine ret_str ?_
      show (⟨(Lib.join (toLs (x :: t)) [9]).toArray⟩ : ByteArray) = _
      rw [join_tabbed]
      rfl

/-- What Tabbed holds at place k. -/
def PTabbedAt (l : List ByteArray) (g : Nat) (w0 : World) (i : Value) (wr : World) : Prop :=
  ∃ k : Nat, k ≤ l.length ∧ i = .int .i64 (k : Int) ∧ okFields (l.take k) = true ∧ Below g w0 wr

theorem tabbedV_bad (l : List ByteArray) (k : Nat) (hk : k < l.length) (h : okField l[k].data.toList = false) : tabbedV l = .tuple #[.string ByteArray.empty, .bool false] := by
  unfold tabbedV okFields
  rw [all_not okField l k hk h]
  rfl
theorem tabbedV_good (l : List ByteArray) (h : okFields l = true) : tabbedV l = .tuple #[.string (tabbedB l), .bool (decide (0 < l.length))] := by
  unfold tabbedV
  rw [if_pos h]

theorem cuts_at (s : ByteArray) (b : Bool) (w : World) (hs : s.size ≤ 1000000) (h : okField s.data.toList = !b) :
    Calls Try.prog 37 #[.string s, .string ⟨#[9, 10, 13]⟩] w fun e w' => e = .returned (.bool b) ∧ Below w.heap.size w w' := by
  have k := cuts_any s w hs
  rw [h, Bool.not_not] at k
  exact k

set_option maxRecDepth 100000 in
set_option maxHeartbeats 1600000 in
theorem tabbed_any (v : Value) (l : List ByteArray) (w : World) (hv : StrsAt w v l) (hl : l.length ≤ 10000) (hs : ∀ s ∈ l, s.size ≤ 1000000) :
    Calls Try.prog 18 #[v] w fun e w' => e = .returned (tabbedV l) ∧ Below w.heap.size w w' := by
  have HV := Lib.hid hv
  obtain ⟨ao, n, cap, rfl, hn, hcell⟩ := hv.shape
  have HC := Lib.hid hcell
  have HSZ := Lib.hid hs
  have n1 : n ≤ l.length := by omega
  have n2 : l.length ≤ n := by omega
  clear hcell hv hn hs
  go_enter Try.func18, Try.ntmps18
  go_wp2
  go_loopw [8] (fun i wr => PTabbedAt l w.heap.size w i wr) (fun i _ => n - (intOf i).toNat)
  case atStart => exact ⟨0, by omega, rfl, rfl, Below.refl _ _⟩
  case round =>
    obtain ⟨k, hk, rfl, ha, hbe⟩ := hrel
    have HA := Lib.hid ha
    clear ha
    by_cases hlt : k < l.length
    · obtain ⟨ad, rfl, hcl0⟩ := HC.out k hlt
      have hblk := World.block_lt_of_cell? w _ hcl0
      have hcl : wr.cell? (ad.add k) = some (.string l[k]) := by
        rw [hbe.cell hblk]
        exact hcl0
      have htz := HSZ.out l[k] (List.getElem_mem hlt)
      have HBAD := Lib.hid (tabbedV_bad l k hlt)
      have HGOOD : Hid (okField l[k].data.toList = true → okFields (l.take (k + 1)) = true) := fun h => all_take okField l k hlt h HA.out
      obtain ⟨t, ht⟩ : ∃ t, t = l[k] := ⟨_, rfl⟩
      rw [← ht] at hcl htz HBAD HGOOD
      have k0 : (k : Int) < (n : Int) := by omega
      clear ht hcl0 hblk
      cases hok : okField t.data.toList with
      | false =>
        have HO := Lib.hid hok
        have HE := Lib.hid (HBAD.out hok)
        clear hok HBAD HGOOD
        go_wp2_with fail
        refine (cuts_at t true _ htz HO.out).mono ?_
        rintro _ w1 ⟨rfl, hb1⟩
        have hbe1 := hbe.trans (hb1.mono hbe.size)
        go_wp2
        go_ret2
        rw [HE.out]
        exact ⟨rfl, hbe1⟩
      | true =>
        have HO := Lib.hid hok
        have HE := Lib.hid (HGOOD.out hok)
        clear hok HBAD HGOOD
        go_wp2_with fail
        refine (cuts_at t false _ htz HO.out).mono ?_
        rintro _ w1 ⟨rfl, hb1⟩
        have hbe1 := hbe.trans (hb1.mono hbe.size)
        clear hb1 hbe
        go_wp2
        go_roundw
        case rel => exact ⟨k + 1, by omega, by go_num, HE.out, hbe1⟩
        case measure => simp [intOf]; omega
    · have e : l.take k = l := List.take_of_length_le (by omega)
      have HE := Lib.hid (tabbedV_good l (by rw [← e]; exact HA.out))
      have k0 : ¬ (k : Int) < (n : Int) := by omega
      clear e HA
      go_wp2_with fail
      refine (tabjoin_any _ l _ w HV.out hbe hl HSZ.out).mono ?_
      rintro _ w1 ⟨rfl, hb1⟩
      have hbe1 := hbe.trans (hb1.mono hbe.size)
      have en : n = l.length := by omega
      have HEN := Lib.hid en
      clear hb1 hbe en
      go_wp2
      go_ret2
      refine ⟨?_, hbe1⟩
      rw [HE.out, HEN.out]
      simp
end Go.Proofs.Yteoailanpmkcfaa
