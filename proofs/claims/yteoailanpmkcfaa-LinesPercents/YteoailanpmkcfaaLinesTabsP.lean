/-
  The program's own Tabs (package lines): a contract.
-/
import Derived.Test.YteoailanpmkcfaaLinesPieces
namespace Go.Proofs.Yteoailanpmkcfaa
open Go.RowKit Go.Shelf
attribute [local go_sem] Oper.semAt_some
set_option linter.unusedVariables false

set_option maxRecDepth 100000 in
theorem pieces_any (s : ByteArray) (P : Int) (w : World) :
    Calls Try.prog 29 #[.string s, .int .u8 P] w fun e w' => e = .returned (.func (.func 47) #[] #[.pointer (some ⟨w.heap.size, 0, none⟩), .pointer (some ⟨w.heap.size + 1, 0, none⟩)]) ∧ w' = (w.alloc (.cells #[.string s] 9)).alloc (.cells #[.int .u8 P] 5) := by
  go_enter Try.func29, Try.ntmps29
  go_wp2
  go_ret
  exact ⟨rfl, rfl⟩

/-- What the range gives, to a loop that keeps the two boxes. -/
theorem pieces_stops (n : Nat) (hn : 1 ≤ n) (bs bp : Nat) (s : ByteArray) (part : UInt8) (w : World) (hs : s.size ≤ 1000000000000) (h1 : bs < w.heap.size) (h2 : bp < w.heap.size) (hbs : w.cell? ⟨bs, 0, none⟩ = some (.string s)) (hbp : w.cell? ⟨bp, 0, none⟩ = some (.int .u8 (part.toNat : Int))) :
    SeqStopsK Fence.wide n Try.prog 47 #[.pointer (some ⟨bs, 0, none⟩), .pointer (some ⟨bp, 0, none⟩)] pieceV (KeepTwo bs bp) (fun ys => plainP ys = piecesL part [] s.data.toList) (fun _ => True) (s.size + 1) w := fun l J Jx W hW hJ _ hY h0 =>
  pieces1_in n l bs bp s part hs J Jx _ hJ hn hY W ((hW.cell (p := ⟨bs, 0, none⟩) h1).trans hbs) ((hW.cell (p := ⟨bp, 0, none⟩) h2).trans hbp) h0

theorem keepTwo_t {bs bp : Nat} {A B C : World} (h : KeepTwo bs bp A B) (k : KeepTwo bs bp B C) : KeepTwo bs bp A C := ⟨k.1.trans h.1, k.2.trans h.2⟩
theorem keepTwo_refl (bs bp : Nat) (A : World) : KeepTwo bs bp A A := ⟨rfl, rfl⟩
theorem keepTwo_block {bs bp : Nat} {A B : World} (h1 : B.heap[bs]? = A.heap[bs]?) (h2 : B.heap[bp]? = A.heap[bp]?) : KeepTwo bs bp A B := by
  constructor
  · unfold World.cell?
    rw [show B.heap[(⟨bs, 0, none⟩ : Addr).block]? = A.heap[bs]? from h1]
  · unfold World.cell?
    rw [show B.heap[(⟨bp, 0, none⟩ : Addr).block]? = A.heap[bp]? from h2]
theorem keepTwo_b {bs bp : Nat} {w : World} (h1 : bs < w.heap.size) (h2 : bp < w.heap.size) (W : World) (l : Nat) (o o' : Obj) (hl : w.heap.size ≤ l) (_ : W.heap[l]? = some o) (_ : o.isCells = false) (_ : o.isWalk = false) : KeepTwo bs bp W (W.putObj l o') :=
  keepTwo_block (World.putObj_heap_other (by omega)) (World.putObj_heap_other (by omega))

/-- l = append(l, x), l in the box g: all that the walk owes behind it. -/
theorem box_more {W w1 : World} {n₁ g bs bp : Nat} {v v' : Value} {l l' : List ByteArray} {m : Nat} {tmp : Obj} (hv : Boxed W g 23 v) (hrow : RowS W n₁ v l) (hn : n₁ ≤ W.heap.size) (hg : g < n₁) (h1 : bs < n₁) (h2 : bp < n₁) (g1 : bs ≠ g) (g2 : bp ≠ g)
    (hown' : w1.ownsRow n₁ 9 1 v' m (strV l')) (hm : m = l'.length) (hgrow : (W.alloc tmp).grownBy w1 v.ownBlock) :
    Boxed w1 g 23 v ∧ Boxed (w1.setCell ⟨g, 0, none⟩ v') g 23 v' ∧ RowS (w1.setCell ⟨g, 0, none⟩ v') n₁ v' l' ∧ KeepsOthers W (w1.setCell ⟨g, 0, none⟩ v') ∧ KeepTwo bs bp W (w1.setCell ⟨g, 0, none⟩ v') ∧ n₁ ≤ (w1.setCell ⟨g, 0, none⟩ v').heap.size ∧ (∀ B0 a0, Below B0 a0 W → B0 ≤ g → Below B0 a0 (w1.setCell ⟨g, 0, none⟩ v')) := by
  subst hm
  have hv1 : Boxed w1 g 23 v := (hv.alloc tmp).kept hgrow (hv.not_row (by decide) hrow)
  have old : ∀ k, k < n₁ → w1.heap[k]? = W.heap[k]? := by
    intro k hk
    rw [hgrow.block k (by simp; omega) (fun e => ?_), Below.heap_alloc W tmp k (by omega)]
    have := hrow.block k e.symm
    omega
  have hz := hgrow.size
  simp only [World.size_alloc] at hz
  refine ⟨hv1, hv1.set v', ?_, ?_, ?_, ?_, ?_⟩
  · exact World.ownsRow.kept hown' (grownBy_setCell' w1 g v') (.inr (hv1.not_row (by decide) hown').symm)
  · refine ((KeepsOthers.alloc W tmp).trans (KeepsOthers.of_grownBy hgrow fun j o ej hj => ?_)).trans (KeepsOthers.setCell _ _ _)
    rcases (hrow.alloc tmp).2 with ⟨rfl, _⟩ | ⟨b, cap, cur, rfl, _, hgb, _⟩
    · simp [Value.ownBlock] at ej
    · obtain rfl : b = j := by simpa [Value.ownBlock] using ej
      rw [hgb] at hj; cases hj; rfl
  · refine keepTwo_block ?_ ?_
    · rw [Below.heap_setCell _ _ _ bs (fun e => g1 e), old bs h1]
    · rw [Below.heap_setCell _ _ _ bp (fun e => g2 e), old bp h2]
  · have := (KeepsWalks.setCell w1 ⟨g, 0, none⟩ v').size
    omega
  · intro B0 a0 hB hle
    have hs0 := hB.size
    refine ((hB.alloc (by omega) tmp).grown hgrow (by simp; omega) (fun k hk => ?_)).setCell (p := ⟨g, 0, none⟩) hle v'
    have := hrow.block k hk
    omega

/-- What a loop over the pieces holds: l in the box g. -/
def LoopIn (f : List Piece → List ByteArray) (g n₁ : Nat) (w : World) (pre : List Piece) (W : World) : Prop := (∃ v, Boxed W g 23 v ∧ W.ownsRow n₁ 9 1 v (f pre).length (strV (f pre)) ∧ True) ∧ n₁ ≤ W.heap.size ∧ Below g w W

theorem loopIn_own (f : List Piece → List ByteArray) (g n₁ : Nat) (w : World) (hg : g ≤ w.heap.size) (B : Nat) (hB : g ≤ B) : OwnFrom B (LoopIn f g n₁ w) := by
  have h1 : OwnFrom B (fun pre W => ∃ v, Boxed W g 23 v ∧ W.ownsRow n₁ 9 1 v (f pre).length (strV (f pre)) ∧ True) := Own.from (holdsRow_own n₁ g 23 9 1 (fun pre => (f pre).length) (fun pre => strV (f pre)) (fun _ _ => True)) B
  have h2 : OwnFrom B (fun (_ : List Piece) W => n₁ ≤ W.heap.size) := fun s W W' row hs hgr _ => Nat.le_trans hs hgr.size
  have h3 : OwnFrom B (fun (_ : List Piece) W => Below g w W) := ownFrom_below hg hB
  exact fun s W W' row hs hgr hr => ⟨h1 s W W' row hs.1 hgr hr, h2 s W W' row hs.2.1 hgr hr, h3 s W W' row hs.2.2 hgr hr⟩

theorem tabsL_pieces : ∀ (l cur : List UInt8), tabsL cur l = (piecesL 9 cur l).map Prod.fst
  | [], cur => rfl
  | c :: t, cur => by
    show (if c = 9 then cur :: tabsL [] t else tabsL (cur ++ [c]) t) = (if c = 9 then (cur, true) :: piecesL 9 [] t else piecesL 9 (cur ++ [c]) t).map Prod.fst
    split
    · rw [tabsL_pieces t []]; rfl
    · exact tabsL_pieces t (cur ++ [c])

def fieldsOf (pre : List Piece) : List ByteArray := pre.map (·.1.1)

theorem fieldsOf_all (ys : List Piece) (l : List UInt8) (h : plainP ys = piecesL 9 [] l) : fieldsOf ys = ofLs (tabsL [] l) := by
  rw [tabsL_pieces, ← h]
  unfold fieldsOf plainP ofLs
  rw [List.map_map, List.map_map]
  apply List.map_congr_left
  intro x _
  exact (ofL_list x.1.1).symm

theorem fieldsOf_snoc (pre : List Piece) (x : Piece) : fieldsOf (pre ++ [x]) = fieldsOf pre ++ [x.1.1] := by
  unfold fieldsOf
  rw [List.map_append]
  rfl

theorem strV_snoc (l : List ByteArray) (s : ByteArray) : strV l ++ [.string s] = strV (l ++ [s]) := by simp [strV]

/-- The world where the loop begins: the box of l, and the two boxes of the range. -/
theorem loop_world (w : World) (s : ByteArray) (P : Int) (W0 : World) (h : ((w.alloc (.cells #[.slice none 0 0] 23)).alloc (.cells #[.string s] 9)).alloc (.cells #[.int .u8 P] 5) = W0) :
    W0.heap.size = w.heap.size + 3 ∧ Boxed W0 w.heap.size 23 (.slice none 0 0) ∧ W0.cell? ⟨w.heap.size + 1, 0, none⟩ = some (.string s) ∧ W0.cell? ⟨w.heap.size + 1 + 1, 0, none⟩ = some (.int .u8 P) ∧ Below w.heap.size w W0 := by
  subst h
  have b1 := Boxed.new (w.alloc (.cells #[.slice none 0 0] 23)) 9 (.string s)
  have b2 := Boxed.new ((w.alloc (.cells #[.slice none 0 0] 23)).alloc (.cells #[.string s] 9)) 5 (.int .u8 P)
  simp only [World.size_alloc] at b1 b2
  exact ⟨by simp, ((Boxed.new w 23 _).alloc _).alloc _, (b1.alloc _).cell, b2.cell, (((Below.refl _ w).alloc (Nat.le_refl _) _).alloc (by simp) _).alloc (by simp; omega) _⟩

set_option maxRecDepth 100000 in
set_option maxHeartbeats 2000000 in
theorem tabs_any (s : ByteArray) (w : World) (hs : s.size ≤ 1000000000000) :
    Calls Try.prog 17 #[.string s] w fun e w' => (∃ v, e = .returned v ∧ StrsAt w' v (ofLs (tabsL [] s.data.toList))) ∧ Below w.heap.size w w' := by
  refine (callsIn_wide (n := 3)).1 ?_
  have hro : Fence.wide.round = none := rfl
  obtain ⟨i0, hi, hz0, hz1, hz2⟩ := info_parts Try.infoStr
  refine callsIn_of_wp_marks Try.func17 rfl trivial ?_ hro
  simp only [Try.ntmps17, List.size_toArray, List.length_cons, List.length_nil, Nat.reduceAdd, Nat.reduceSub, Array.replicate_succ, Array.replicate_zero, List.push_toArray, List.append_toArray, List.nil_append, List.cons_append]
  gi_wp2_with fail
  refine ⟨trivial, ?_⟩
  refine (callsIn_wide.2 (pieces_any s 9 _)).mono ?_
  rintro e w' ⟨rfl, rfl⟩
  gi_wp2
  obtain ⟨W0, hW0⟩ : ∃ W0, ((w.alloc (.cells #[.slice none 0 0] 23)).alloc (.cells #[.string s] 9)).alloc (.cells #[.int .u8 9] 5) = W0 := ⟨_, rfl⟩
  rw [hW0]
  obtain ⟨hsz, hbox, hc1, hc2, hB0⟩ := loop_world w s 9 W0 hW0
  clear hW0
  refine wpIn_rangeFunc_ownG hro (by decide) (gf := 47) (lb := #[.pointer (some ⟨w.heap.size + 1, 0, none⟩), .pointer (some ⟨w.heap.size + 1 + 1, 0, none⟩)]) rfl trivial (enters_of Try.func47 (by kernel_rfl) rfl)
    (pieces_stops 2 (by decide) (w.heap.size + 1) (w.heap.size + 1 + 1) s 9 W0 hs (by omega) (by omega) hc1 hc2) keepTwo_t (keepTwo_b (by omega) (by omega)) (Below.refl _ _) (fun _ => rfl)
    (LoopIn fieldsOf w.heap.size (w.heap.size + 3) w) (fun _ _ _ => False)
    (loopIn_own fieldsOf w.heap.size (w.heap.size + 3) w (Nat.le_refl _) _ (by omega))
    (fun _ _ _ _ _ hs _ _ => hs)
    ⟨⟨_, hbox, World.ownsRow_nil _ _ _ _, trivial⟩, by omega, hB0⟩
    (fun x => { tmps := #[.string s, undef, .slice none 0 0, .pointer (some ⟨w.heap.size, 0, none⟩), .string x.1.1, .string s, .func (.func 47) #[] #[.pointer (some ⟨w.heap.size + 1, 0, none⟩), .pointer (some ⟨w.heap.size + 1 + 1, 0, none⟩)], .string x.1.1, .bool x.1.2, undef, undef, undef, undef, undef], defers := [] }) ?assign ?body ?done ?stop
  case assign =>
    intro l x W K hK
    unfold pieceV
    gi_wp2
    exact hK
  case body =>
    rintro l pre x W ⟨⟨v, hv, hrow, _⟩, hn1, hB⟩ hlt
    have hc := hv.cell
    have hfl : (fieldsOf pre).length ≤ pre.length := Nat.le_of_eq (List.length_map _)
    gi_wp2_with (gi_at_builtin; refine wpListIn_append_own _ rfl _ _ 23 rfl (w.heap.size + 3) 9 i0 (.string ByteArray.empty) 1 16 Try.underlying23 hi hz0 hz1 hz2 rfl (by decide) _ _ _ rfl (hrow.alloc _) ⟨W.heap.size, 0, none⟩ 1 1 [.string x.1.1] rfl rfl (cell_one_new _ _ _) (by simp [Value.oneCell']) (by unfold maxLen; omega) (by omega) (by simp; omega) ?_; intro v' w1 hown' hgrow _; obtain ⟨g', cap', rfl⟩ := ownsRow_succ hown'; rw [strV_snoc] at hown'; obtain ⟨hv1, hv2, hr2, hk2, ht2, hn2, hb2⟩ := box_more hv hrow hn1 (by omega) (show w.heap.size + 1 < w.heap.size + 3 by omega) (show w.heap.size + 1 + 1 < w.heap.size + 3 by omega) (by omega) (by omega) hown' (by simp) hgrow; have hc1 := hv1.cell; have hf1 := hv1.frozen)
    rw [← fieldsOf_snoc] at hr2
    exact ⟨hk2.from _, ht2, ⟨⟨_, hv2, hr2, trivial⟩, hn2, hb2 _ _ hB (Nat.le_refl _)⟩⟩
  case done =>
    rintro D ys W hD hys ⟨⟨v, hv, hrow, _⟩, hn1, hB⟩ hK
    have hc := hv.cell
    gi_wp2
    refine ⟨by simp, .inl ⟨_, _, rfl, run_takeDeferred hK, ?_⟩⟩
    refine ⟨_, results_tmp rfl _ _ _, ⟨v, rfl, ?_⟩, hB.trans (belowK_b (w := w) (Nat.le_refl _) W D _ _ (by omega) hK rfl rfl)⟩
    rw [← fieldsOf_all ys _ hys]
    exact RowS.strs (base := w.heap.size + 3) (ownsRow_putObj hrow _ hK rfl)
  case stop =>
    rintro D c pre W _ _ h _
    exact h.elim
end Go.Proofs.Yteoailanpmkcfaa
