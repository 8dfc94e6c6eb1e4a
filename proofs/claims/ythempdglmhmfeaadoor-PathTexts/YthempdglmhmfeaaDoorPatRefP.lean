/-
  The document's own answers (package cracknelref12): Parse: a contract.
-/
import Derived.Test.YthempdglmhmfeaaDoorPatUrl
import Derived.Laws.ResultCell
import Derived.Deep.LoopGhost
import Derived.Deep.CutRange
import Derived.Deep.CutBlock
namespace Go.Proofs.YthempdglmhmfeaaDoor
open Go.RowKit
set_option linter.unusedVariables false

set_option maxRecDepth 100000 in
set_option maxHeartbeats 3200000 in
theorem rparse_any (s : ByteArray) (w : World) (hs : s.size ≤ 1000000) :
    Calls Tryd.prog 17 #[.string s] w fun e w' => e = .returned (adV (parseA s.data.toList)) ∧ Below w.heap.size w w' := by
  have H1 := Lib.hid (rhead_any s ⟨#[104, 116, 116, 112, 115, 58, 47, 47]⟩ · (by omega) (by decide))
  have H2 := Lib.hid (rhead_any s ⟨#[104, 116, 116, 112, 58, 47, 47]⟩ · (by omega) (by decide))
  have HP : Hid (parseA s.data.toList = if httpsL.isPrefixOf s.data.toList = true then restA true (s.data.toList.drop 8) else if httpL.isPrefixOf s.data.toList = true then restA false (s.data.toList.drop 7) else adNo 120) := rfl
  obtain ⟨b1, hb1⟩ : ∃ b, b = httpsL.isPrefixOf s.data.toList := ⟨_, rfl⟩
  obtain ⟨b2, hb2⟩ : ∃ b, b = httpL.isPrefixOf s.data.toList := ⟨_, rfl⟩
  rw [show (⟨#[104, 116, 116, 112, 115, 58, 47, 47]⟩ : ByteArray).data.toList.isPrefixOf s.data.toList = b1 from hb1.symm] at H1
  rw [show (⟨#[104, 116, 116, 112, 58, 47, 47]⟩ : ByteArray).data.toList.isPrefixOf s.data.toList = b2 from hb2.symm] at H2
  rw [← hb1, ← hb2] at HP
  have HB1 := Lib.hid hb1
  have HB2 := Lib.hid hb2
  clear hb1 hb2
  go_enter Tryd.func17, Tryd.ntmps17
  go_wp2_with fail
  refine (H1.out _).mono ?_
  rintro _ w1 ⟨rfl, rfl⟩
  cases b1
  · go_wp2_with fail
    refine (H2.out _).mono ?_
    rintro _ w1 ⟨rfl, rfl⟩
    cases b2
    · go_wp2
      (try simp only [Exit.inBlock, Exit.then])
      refine bodyPost_ret (v := .tuple #[urlV false ⟨#[]⟩ ⟨#[]⟩, .int .i64 120]) (by rw [results_cell_tmp rfl]; go_simp) rfl ?_
      exact ⟨congrArg Ending.returned (by rw [HP.out]; rfl), ((Below.refl w.heap.size w).alloc (Nat.le_refl _) _).alloc (by simp) _⟩
    · have hsz : 7 ≤ s.size := by have := prefix_len _ _ HB2.out.symm; rw [list_len] at this; exact this
      have HPV : Hid (parseA s.data.toList = restA false (s.data.toList.drop 7)) := HP.out
      have hu := UrlAt.new (w.alloc (.cells #[.bool false, .string ⟨#[]⟩, .string ⟨#[]⟩] 32)) false ⟨#[]⟩ ⟨#[]⟩ 32
      have hz := (UrlAt.new w false ⟨#[]⟩ ⟨#[]⟩ 32).keep ((Below.refl _ _).alloc (Nat.le_refl _) (.cells #[.bool false, .string ⟨#[]⟩, .string ⟨#[]⟩] 32))
      have hbW := ((Below.refl w.heap.size w).alloc (Nat.le_refl _) (.cells #[.bool false, .string ⟨#[]⟩, .string ⟨#[]⟩] 32)).alloc (by simp) (.cells #[.bool false, .string ⟨#[]⟩, .string ⟨#[]⟩] 32)
      rw [show ∀ o : Obj, (w.alloc o).heap.size = w.heap.size + 1 from fun o => by simp] at hu
      clear HP H1 H2 HB1 HB2
      go_upto_block 0 with (fail)
      obtain ⟨g, hg⟩ : ∃ g, g = w.heap.size := ⟨_, rfl⟩
      obtain ⟨r, hr⟩ : ∃ r, r = w.heap.size + 1 := ⟨_, rfl⟩
      rw [← hr] at hu
      rw [← hg] at hz
      rw [← hr, ← hg]
      have hgr : ¬ g = r := by omega
      have hrg : ¬ r = g := by omega
      have hwg : w.heap.size ≤ g := by omega
      have hwr : w.heap.size ≤ r := by omega
      generalize (w.alloc (.cells #[.bool false, .string ⟨#[]⟩, .string ⟨#[]⟩] 32)).alloc (.cells #[.bool false, .string ⟨#[]⟩, .string ⟨#[]⟩] 32) = W at hu hz hbW ⊢
      have HU := Lib.hid hu
      have HZ := Lib.hid hz
      clear hg hr hu hz
      go_cut [6] from 25 to 43 (fun v wx => ∃ k : Nat, v = .int .i64 (k : Int) ∧ 7 ≤ k ∧ k ≤ s.size ∧ untilL endsC (s.data.toList.drop 7) = (s.extract 7 k).data.toList ∧ wx = W)
      case first =>
        go_wp2_with fail
        go_loopg [6] (s.size + 1 - 7) (fun gk i wr => FarAt endsC s 7 W gk i wr)
        case atStart => exact ⟨7, by first | rfl | go_num, by omega, by omega, Nat.le_refl _, by simp, rfl⟩
        case round =>
          obtain ⟨k, rfl, hk, hg1, hf, hno, rfl⟩ := hrel
          have HNO := Lib.hid hno
          clear hno
          by_cases hlt : k < s.size
          · have hki : (k : Int) < (s.size : Int) := by omega
            by_cases h9 : s[k] = 47
            · have hi := u8_is h9 47 rfl
              have HE := Lib.hid (far_done endsC s 7 k hf HNO.out (.inr ⟨hlt, ends_slash _ h9⟩))
              clear h9
              go_wp2_with fail
              go_meet
              exact ⟨k, rfl, hf, by omega, HE.out, rfl⟩
            have hi := u8_isnt h9 47 rfl
            have HK := Lib.hid (rasks_any s[k])
            obtain ⟨q, hq⟩ : ∃ q, asksC s[k] = q := ⟨_, rfl⟩
            rw [hq] at HK
            have HE := Lib.hid (ends_asks s[k] h9 q hq)
            clear h9 hq
            cases q
            · have HS := Lib.hid (far_step endsC s 7 k hf hlt HNO.out HE.out)
              go_wp2_with fail
              refine (HK.out _).mono ?_
              rintro _ wz ⟨rfl, rfl⟩
              go_wp2
              go_roundg (gk - 1)
              case measure => omega
              case rel => exact ⟨k + 1, by go_num, by omega, by omega, by omega, HS.out, rfl⟩
            · have HS := Lib.hid (far_done endsC s 7 k hf HNO.out (.inr ⟨hlt, HE.out⟩))
              go_wp2_with fail
              refine (HK.out _).mono ?_
              rintro _ wz ⟨rfl, rfl⟩
              go_wp2_with fail
              go_meet
              exact ⟨k, rfl, hf, by omega, HS.out, rfl⟩
          · have hki : ¬ (k : Int) < (s.size : Int) := by omega
            have HS := Lib.hid (far_done endsC s 7 k hf HNO.out (.inl (by omega)))
            go_wp2_with fail
            go_meet
            exact ⟨k, rfl, hf, by omega, HS.out, rfl⟩
      case rest =>
        obtain ⟨k, rfl, hf, hk, hE, rfl⟩ := hcut
        obtain ⟨x, hx⟩ : ∃ x, x = s.extract 7 k := ⟨_, rfl⟩
        rw [← hx] at hE
        have HDP : Hid ((s.data.toList.drop 7).drop x.data.toList.length = s.data.toList.drop k) := by show _ = _; rw [hx]; exact drop_part s 7 k hf hk
        have hxs : x.size ≤ 281474976710656 := by rw [hx, ByteArray.size_extract]; omega
        have HX := Lib.hid hx
        have HE := Lib.hid hE
        clear hE hx
        have HCN := Lib.hid (rcanon_any x · hxs)
        by_cases hh : hostB (lowB x).data.toList = true
        · have HV := Lib.hid (canV_yes _ hh)
          have HH := Lib.hid hh
          rw [HV.out] at HCN
          obtain ⟨T, hT⟩ : ∃ T, T = lowB x := ⟨_, rfl⟩
          rw [← hT] at HCN
          have HT := Lib.hid hT
          clear HV hh hT
          go_wp2_with fail
          rw [← HX.out]
          refine (HCN.out _).mono ?_
          rintro _ w2 ⟨rfl, hb⟩
          have hb2 := chain hbW hb
          have HU2 := Lib.hid (HU.out.keep hb)
          have HZ2 := Lib.hid (HZ.out.keep hb)
          clear hb hbW HU HZ HCN
          go_upto_block 2 with (fail)
          go_cut [9] from 56 to 68 (fun v wx => ∃ m : Nat, v = .int .i64 (m : Int) ∧ k ≤ m ∧ m ≤ s.size ∧ untilL asksC (s.data.toList.drop k) = (s.extract k m).data.toList ∧ wx = w2)
          case first =>
            go_wp2_with fail
            go_loopg [9] (s.size + 1 - k) (fun gk i wr => FarAt asksC s k w2 gk i wr)
            case atStart => exact ⟨k, by first | rfl | go_num, by omega, by omega, Nat.le_refl _, by simp, rfl⟩
            case round =>
              obtain ⟨m, rfl, hkm, hg1, hfm, hno, rfl⟩ := hrel
              have HNO := Lib.hid hno
              clear hno
              by_cases hlt : m < s.size
              · have hki : (m : Int) < (s.size : Int) := by omega
                have HK := Lib.hid (rasks_any s[m])
                obtain ⟨q, hq⟩ : ∃ q, asksC s[m] = q := ⟨_, rfl⟩
                rw [hq] at HK
                have HE := Lib.hid hq
                clear hq
                cases q
                · have HS := Lib.hid (far_step asksC s k m hfm hlt HNO.out HE.out)
                  go_wp2_with fail
                  refine (HK.out _).mono ?_
                  rintro _ wz ⟨rfl, rfl⟩
                  go_wp2
                  go_roundg (gk - 1)
                  case measure => omega
                  case rel => exact ⟨m + 1, by go_num, by omega, by omega, by omega, HS.out, rfl⟩
                · have HS := Lib.hid (far_done asksC s k m hfm HNO.out (.inr ⟨hlt, HE.out⟩))
                  go_wp2_with fail
                  refine (HK.out _).mono ?_
                  rintro _ wz ⟨rfl, rfl⟩
                  go_wp2_with fail
                  go_meet
                  exact ⟨m, rfl, hfm, by omega, HS.out, rfl⟩
              · have hki : ¬ (m : Int) < (s.size : Int) := by omega
                have HS := Lib.hid (far_done asksC s k m hfm HNO.out (.inl (by omega)))
                go_wp2_with fail
                go_meet
                exact ⟨m, rfl, hfm, by omega, HS.out, rfl⟩
          case rest =>
            obtain ⟨m, rfl, hkm, hm, hE2, rfl⟩ := hcut
            have hys : (s.extract k m).size ≤ 1000000 := by rw [ByteArray.size_extract]; omega
            have HD2 : Hid (untilL asksC ((s.data.toList.drop 7).drop x.data.toList.length) = (s.extract k m).data.toList) := by show _ = _; rw [HDP.out]; exact hE2
            clear hE2
            obtain ⟨⟨c0, c1, c2⟩, f0, f1, f2⟩ := id HU2.out
            obtain ⟨⟨z0, z1, z2⟩, q0, q1, q2⟩ := id HZ2.out
            by_cases hy0 : (s.extract k m).size = 0
            · have hye : (s.extract k m).toList = [] := by rw [ByteArray.toList_eq]; exact List.eq_nil_of_length_eq_zero (by rw [list_len]; exact hy0)
              have hye2 : (s.extract k m).toList.isEmpty = true := by rw [hye]; rfl
              have HR := Lib.hid (rest_path false _ x (s.extract k m) ⟨#[47]⟩ HE.out HH.out HD2.out (by rw [if_pos (List.eq_nil_of_length_eq_zero (by rw [list_len]; exact hy0))]))
              have HUF := Lib.hid ((HU2.out.set12 T (s.extract k m)).set2 ⟨#[47]⟩)
              have HZF := Lib.hid (((HZ2.out.other (j := 1) (v := .string T) hrg).other (j := 2) (v := .string (s.extract k m)) hrg).other (j := 2) (v := .string ⟨#[47]⟩) hrg)
              have hbF := ((hb2.setCell (p := ⟨r, 1, none⟩) hwr (.string T)).setCell (p := ⟨r, 2, none⟩) hwr (.string (s.extract k m))).setCell (p := ⟨r, 2, none⟩) hwr (.string ⟨#[47]⟩)
              have HQ := Lib.hid (rright_any ⟨#[47]⟩ · (by decide))
              obtain ⟨b, hb⟩ : ∃ b, rightB (⟨#[47]⟩ : ByteArray).data.toList = b := ⟨_, rfl⟩
              rw [hb] at HQ
              have HB := Lib.hid hb
              rw [← HT.out] at HR
              clear hb hy0
              obtain ⟨⟨d0, d1, d2⟩, _⟩ := id HUF.out
              go_wp2_with fail
              refine (HQ.out _).mono ?_
              rintro _ w3 ⟨rfl, hb⟩
              have hb3 := chain hbF hb
              obtain ⟨⟨c0, c1, c2⟩, f0, f1, f2⟩ := HUF.out.keep hb
              obtain ⟨⟨z0, z1, z2⟩, q0, q1, q2⟩ := HZF.out.keep hb
              clear hb hbF HUF HZF HU2 HZ2 d0 d1 d2
              cases b
              · have HV : Hid (adV (parseA s.data.toList) = .tuple #[urlV false ⟨#[]⟩ ⟨#[]⟩, .int .i64 122]) := by show _ = _; rw [HPV.out]; exact HR.out.2 HB.out
                clear HR
                go_wp2
                (try simp only [Exit.inBlock, Exit.then])
                refine bodyPost_ret (v := .tuple #[urlV false ⟨#[]⟩ ⟨#[]⟩, .int .i64 122]) (by rw [results_cell_tmp rfl]; go_simp) rfl ?_
                exact ⟨congrArg Ending.returned HV.out.symm, by first | exact hb3 | (refine Below.setCell ?_ hwg _; refine Below.setCell ?_ hwg _; refine Below.setCell ?_ hwg _; exact hb3)⟩
              · have HV : Hid (adV (parseA s.data.toList) = .tuple #[urlV false T (⟨#[47]⟩ : ByteArray), .int .i64 0]) := by show _ = _; rw [HPV.out]; exact HR.out.1 HB.out
                clear HR
                go_wp2
                (try simp only [Exit.inBlock, Exit.then])
                refine bodyPost_ret (v := .tuple #[urlV false T (⟨#[47]⟩ : ByteArray), .int .i64 0]) (by rw [results_cell_tmp rfl]; go_simp) rfl ?_
                exact ⟨congrArg Ending.returned HV.out.symm, by first | exact hb3 | (refine Below.setCell ?_ hwg _; refine Below.setCell ?_ hwg _; refine Below.setCell ?_ hwg _; exact hb3)⟩
            · have hye : ¬ (s.extract k m).toList = [] := by
                intro e
                rw [ByteArray.toList_eq] at e
                have := congrArg List.length e
                rw [list_len] at this
                exact hy0 this
              have hye2 : (s.extract k m).toList.isEmpty = false := by cases h : (s.extract k m).toList with | nil => exact absurd h hye | cons x t => rfl
              have HR := Lib.hid (rest_path false _ x (s.extract k m) (s.extract k m) HE.out HH.out HD2.out (by rw [if_neg (fun e => by have := congrArg List.length e; rw [list_len] at this; exact hy0 this)]))
              have HUF := Lib.hid (HU2.out.set12 T (s.extract k m))
              have HZF := Lib.hid ((HZ2.out.other (j := 1) (v := .string T) hrg).other (j := 2) (v := .string (s.extract k m)) hrg)
              have hbF := (hb2.setCell (p := ⟨r, 1, none⟩) hwr (.string T)).setCell (p := ⟨r, 2, none⟩) hwr (.string (s.extract k m))
              have HQ := Lib.hid (rright_any (s.extract k m) · (by unfold maxLen; omega))
              obtain ⟨b, hb⟩ : ∃ b, rightB (s.extract k m).data.toList = b := ⟨_, rfl⟩
              rw [hb] at HQ
              have HB := Lib.hid hb
              rw [← HT.out] at HR
              clear hb hy0
              go_wp2_with fail
              refine (HQ.out _).mono ?_
              rintro _ w3 ⟨rfl, hb⟩
              have hb3 := chain hbF hb
              obtain ⟨⟨c0, c1, c2⟩, f0, f1, f2⟩ := HUF.out.keep hb
              obtain ⟨⟨z0, z1, z2⟩, q0, q1, q2⟩ := HZF.out.keep hb
              clear hb hbF HUF HZF HU2 HZ2
              cases b
              · have HV : Hid (adV (parseA s.data.toList) = .tuple #[urlV false ⟨#[]⟩ ⟨#[]⟩, .int .i64 122]) := by show _ = _; rw [HPV.out]; exact HR.out.2 HB.out
                clear HR
                go_wp2
                (try simp only [Exit.inBlock, Exit.then])
                refine bodyPost_ret (v := .tuple #[urlV false ⟨#[]⟩ ⟨#[]⟩, .int .i64 122]) (by rw [results_cell_tmp rfl]; go_simp) rfl ?_
                exact ⟨congrArg Ending.returned HV.out.symm, by first | exact hb3 | (refine Below.setCell ?_ hwg _; refine Below.setCell ?_ hwg _; refine Below.setCell ?_ hwg _; exact hb3)⟩
              · have HV : Hid (adV (parseA s.data.toList) = .tuple #[urlV false T (s.extract k m), .int .i64 0]) := by show _ = _; rw [HPV.out]; exact HR.out.1 HB.out
                clear HR
                go_wp2
                (try simp only [Exit.inBlock, Exit.then])
                refine bodyPost_ret (v := .tuple #[urlV false T (s.extract k m), .int .i64 0]) (by rw [results_cell_tmp rfl]; go_simp) rfl ?_
                exact ⟨congrArg Ending.returned HV.out.symm, by first | exact hb3 | (refine Below.setCell ?_ hwg _; refine Below.setCell ?_ hwg _; refine Below.setCell ?_ hwg _; exact hb3)⟩
        · have HV := Lib.hid (canV_no (lowB x) (by simpa using hh))
          have HN : Hid (adV (parseA s.data.toList) = .tuple #[urlV false ⟨#[]⟩ ⟨#[]⟩, .int .i64 121]) := by show _ = _; rw [HPV.out]; exact rest_no false _ x HE.out hh
          rw [HV.out] at HCN
          clear HV hh
          go_wp2_with fail
          rw [← HX.out]
          refine (HCN.out _).mono ?_
          rintro _ w2 ⟨rfl, hb⟩
          have hb2 := chain hbW hb
          obtain ⟨⟨z0, z1, z2⟩, q0, q1, q2⟩ := HZ.out.keep hb
          clear hb hbW HU HZ HCN
          go_wp2
          (try simp only [Exit.inBlock, Exit.then])
          refine bodyPost_ret (v := .tuple #[urlV false ⟨#[]⟩ ⟨#[]⟩, .int .i64 121]) (by rw [results_cell_tmp rfl]; go_simp) rfl ?_
          exact ⟨congrArg Ending.returned HN.out.symm, by first | exact hb2 | (refine Below.setCell ?_ hwg _; refine Below.setCell ?_ hwg _; refine Below.setCell ?_ hwg _; exact hb2)⟩
  · have hsz : 8 ≤ s.size := by have := prefix_len _ _ HB1.out.symm; rw [list_len] at this; exact this
    have HPV : Hid (parseA s.data.toList = restA true (s.data.toList.drop 8)) := HP.out
    have hu := UrlAt.new (w.alloc (.cells #[.bool false, .string ⟨#[]⟩, .string ⟨#[]⟩] 32)) true ⟨#[]⟩ ⟨#[]⟩ 32
    have hz := (UrlAt.new w false ⟨#[]⟩ ⟨#[]⟩ 32).keep ((Below.refl _ _).alloc (Nat.le_refl _) (.cells #[.bool true, .string ⟨#[]⟩, .string ⟨#[]⟩] 32))
    have hbW := ((Below.refl w.heap.size w).alloc (Nat.le_refl _) (.cells #[.bool false, .string ⟨#[]⟩, .string ⟨#[]⟩] 32)).alloc (by simp) (.cells #[.bool true, .string ⟨#[]⟩, .string ⟨#[]⟩] 32)
    rw [show ∀ o : Obj, (w.alloc o).heap.size = w.heap.size + 1 from fun o => by simp] at hu
    clear HP H1 H2 HB1 HB2
    go_upto_block 0 with (fail)
    obtain ⟨g, hg⟩ : ∃ g, g = w.heap.size := ⟨_, rfl⟩
    obtain ⟨r, hr⟩ : ∃ r, r = w.heap.size + 1 := ⟨_, rfl⟩
    rw [← hr] at hu
    rw [← hg] at hz
    rw [← hr, ← hg]
    have hgr : ¬ g = r := by omega
    have hrg : ¬ r = g := by omega
    have hwg : w.heap.size ≤ g := by omega
    have hwr : w.heap.size ≤ r := by omega
    generalize (w.alloc (.cells #[.bool false, .string ⟨#[]⟩, .string ⟨#[]⟩] 32)).alloc (.cells #[.bool true, .string ⟨#[]⟩, .string ⟨#[]⟩] 32) = W at hu hz hbW ⊢
    have HU := Lib.hid hu
    have HZ := Lib.hid hz
    clear hg hr hu hz
    go_cut [6] from 25 to 43 (fun v wx => ∃ k : Nat, v = .int .i64 (k : Int) ∧ 8 ≤ k ∧ k ≤ s.size ∧ untilL endsC (s.data.toList.drop 8) = (s.extract 8 k).data.toList ∧ wx = W)
    case first =>
      go_wp2_with fail
      go_loopg [6] (s.size + 1 - 8) (fun gk i wr => FarAt endsC s 8 W gk i wr)
      case atStart => exact ⟨8, by first | rfl | go_num, by omega, by omega, Nat.le_refl _, by simp, rfl⟩
      case round =>
        obtain ⟨k, rfl, hk, hg1, hf, hno, rfl⟩ := hrel
        have HNO := Lib.hid hno
        clear hno
        by_cases hlt : k < s.size
        · have hki : (k : Int) < (s.size : Int) := by omega
          by_cases h9 : s[k] = 47
          · have hi := u8_is h9 47 rfl
            have HE := Lib.hid (far_done endsC s 8 k hf HNO.out (.inr ⟨hlt, ends_slash _ h9⟩))
            clear h9
            go_wp2_with fail
            go_meet
            exact ⟨k, rfl, hf, by omega, HE.out, rfl⟩
          have hi := u8_isnt h9 47 rfl
          have HK := Lib.hid (rasks_any s[k])
          obtain ⟨q, hq⟩ : ∃ q, asksC s[k] = q := ⟨_, rfl⟩
          rw [hq] at HK
          have HE := Lib.hid (ends_asks s[k] h9 q hq)
          clear h9 hq
          cases q
          · have HS := Lib.hid (far_step endsC s 8 k hf hlt HNO.out HE.out)
            go_wp2_with fail
            refine (HK.out _).mono ?_
            rintro _ wz ⟨rfl, rfl⟩
            go_wp2
            go_roundg (gk - 1)
            case measure => omega
            case rel => exact ⟨k + 1, by go_num, by omega, by omega, by omega, HS.out, rfl⟩
          · have HS := Lib.hid (far_done endsC s 8 k hf HNO.out (.inr ⟨hlt, HE.out⟩))
            go_wp2_with fail
            refine (HK.out _).mono ?_
            rintro _ wz ⟨rfl, rfl⟩
            go_wp2_with fail
            go_meet
            exact ⟨k, rfl, hf, by omega, HS.out, rfl⟩
        · have hki : ¬ (k : Int) < (s.size : Int) := by omega
          have HS := Lib.hid (far_done endsC s 8 k hf HNO.out (.inl (by omega)))
          go_wp2_with fail
          go_meet
          exact ⟨k, rfl, hf, by omega, HS.out, rfl⟩
    case rest =>
      obtain ⟨k, rfl, hf, hk, hE, rfl⟩ := hcut
      obtain ⟨x, hx⟩ : ∃ x, x = s.extract 8 k := ⟨_, rfl⟩
      rw [← hx] at hE
      have HDP : Hid ((s.data.toList.drop 8).drop x.data.toList.length = s.data.toList.drop k) := by show _ = _; rw [hx]; exact drop_part s 8 k hf hk
      have hxs : x.size ≤ 281474976710656 := by rw [hx, ByteArray.size_extract]; omega
      have HX := Lib.hid hx
      have HE := Lib.hid hE
      clear hE hx
      have HCN := Lib.hid (rcanon_any x · hxs)
      by_cases hh : hostB (lowB x).data.toList = true
      · have HV := Lib.hid (canV_yes _ hh)
        have HH := Lib.hid hh
        rw [HV.out] at HCN
        obtain ⟨T, hT⟩ : ∃ T, T = lowB x := ⟨_, rfl⟩
        rw [← hT] at HCN
        have HT := Lib.hid hT
        clear HV hh hT
        go_wp2_with fail
        rw [← HX.out]
        refine (HCN.out _).mono ?_
        rintro _ w2 ⟨rfl, hb⟩
        have hb2 := chain hbW hb
        have HU2 := Lib.hid (HU.out.keep hb)
        have HZ2 := Lib.hid (HZ.out.keep hb)
        clear hb hbW HU HZ HCN
        go_upto_block 2 with (fail)
        go_cut [9] from 56 to 68 (fun v wx => ∃ m : Nat, v = .int .i64 (m : Int) ∧ k ≤ m ∧ m ≤ s.size ∧ untilL asksC (s.data.toList.drop k) = (s.extract k m).data.toList ∧ wx = w2)
        case first =>
          go_wp2_with fail
          go_loopg [9] (s.size + 1 - k) (fun gk i wr => FarAt asksC s k w2 gk i wr)
          case atStart => exact ⟨k, by first | rfl | go_num, by omega, by omega, Nat.le_refl _, by simp, rfl⟩
          case round =>
            obtain ⟨m, rfl, hkm, hg1, hfm, hno, rfl⟩ := hrel
            have HNO := Lib.hid hno
            clear hno
            by_cases hlt : m < s.size
            · have hki : (m : Int) < (s.size : Int) := by omega
              have HK := Lib.hid (rasks_any s[m])
              obtain ⟨q, hq⟩ : ∃ q, asksC s[m] = q := ⟨_, rfl⟩
              rw [hq] at HK
              have HE := Lib.hid hq
              clear hq
              cases q
              · have HS := Lib.hid (far_step asksC s k m hfm hlt HNO.out HE.out)
                go_wp2_with fail
                refine (HK.out _).mono ?_
                rintro _ wz ⟨rfl, rfl⟩
                go_wp2
                go_roundg (gk - 1)
                case measure => omega
                case rel => exact ⟨m + 1, by go_num, by omega, by omega, by omega, HS.out, rfl⟩
              · have HS := Lib.hid (far_done asksC s k m hfm HNO.out (.inr ⟨hlt, HE.out⟩))
                go_wp2_with fail
                refine (HK.out _).mono ?_
                rintro _ wz ⟨rfl, rfl⟩
                go_wp2_with fail
                go_meet
                exact ⟨m, rfl, hfm, by omega, HS.out, rfl⟩
            · have hki : ¬ (m : Int) < (s.size : Int) := by omega
              have HS := Lib.hid (far_done asksC s k m hfm HNO.out (.inl (by omega)))
              go_wp2_with fail
              go_meet
              exact ⟨m, rfl, hfm, by omega, HS.out, rfl⟩
        case rest =>
          obtain ⟨m, rfl, hkm, hm, hE2, rfl⟩ := hcut
          have hys : (s.extract k m).size ≤ 1000000 := by rw [ByteArray.size_extract]; omega
          have HD2 : Hid (untilL asksC ((s.data.toList.drop 8).drop x.data.toList.length) = (s.extract k m).data.toList) := by show _ = _; rw [HDP.out]; exact hE2
          clear hE2
          obtain ⟨⟨c0, c1, c2⟩, f0, f1, f2⟩ := id HU2.out
          obtain ⟨⟨z0, z1, z2⟩, q0, q1, q2⟩ := id HZ2.out
          by_cases hy0 : (s.extract k m).size = 0
          · have hye : (s.extract k m).toList = [] := by rw [ByteArray.toList_eq]; exact List.eq_nil_of_length_eq_zero (by rw [list_len]; exact hy0)
            have hye2 : (s.extract k m).toList.isEmpty = true := by rw [hye]; rfl
            have HR := Lib.hid (rest_path true _ x (s.extract k m) ⟨#[47]⟩ HE.out HH.out HD2.out (by rw [if_pos (List.eq_nil_of_length_eq_zero (by rw [list_len]; exact hy0))]))
            have HUF := Lib.hid ((HU2.out.set12 T (s.extract k m)).set2 ⟨#[47]⟩)
            have HZF := Lib.hid (((HZ2.out.other (j := 1) (v := .string T) hrg).other (j := 2) (v := .string (s.extract k m)) hrg).other (j := 2) (v := .string ⟨#[47]⟩) hrg)
            have hbF := ((hb2.setCell (p := ⟨r, 1, none⟩) hwr (.string T)).setCell (p := ⟨r, 2, none⟩) hwr (.string (s.extract k m))).setCell (p := ⟨r, 2, none⟩) hwr (.string ⟨#[47]⟩)
            have HQ := Lib.hid (rright_any ⟨#[47]⟩ · (by decide))
            obtain ⟨b, hb⟩ : ∃ b, rightB (⟨#[47]⟩ : ByteArray).data.toList = b := ⟨_, rfl⟩
            rw [hb] at HQ
            have HB := Lib.hid hb
            rw [← HT.out] at HR
            clear hb hy0
            obtain ⟨⟨d0, d1, d2⟩, _⟩ := id HUF.out
            go_wp2_with fail
            refine (HQ.out _).mono ?_
            rintro _ w3 ⟨rfl, hb⟩
            have hb3 := chain hbF hb
            obtain ⟨⟨c0, c1, c2⟩, f0, f1, f2⟩ := HUF.out.keep hb
            obtain ⟨⟨z0, z1, z2⟩, q0, q1, q2⟩ := HZF.out.keep hb
            clear hb hbF HUF HZF HU2 HZ2 d0 d1 d2
            cases b
            · have HV : Hid (adV (parseA s.data.toList) = .tuple #[urlV false ⟨#[]⟩ ⟨#[]⟩, .int .i64 122]) := by show _ = _; rw [HPV.out]; exact HR.out.2 HB.out
              clear HR
              go_wp2
              (try simp only [Exit.inBlock, Exit.then])
              refine bodyPost_ret (v := .tuple #[urlV false ⟨#[]⟩ ⟨#[]⟩, .int .i64 122]) (by rw [results_cell_tmp rfl]; go_simp) rfl ?_
              exact ⟨congrArg Ending.returned HV.out.symm, by first | exact hb3 | (refine Below.setCell ?_ hwg _; refine Below.setCell ?_ hwg _; refine Below.setCell ?_ hwg _; exact hb3)⟩
            · have HV : Hid (adV (parseA s.data.toList) = .tuple #[urlV true T (⟨#[47]⟩ : ByteArray), .int .i64 0]) := by show _ = _; rw [HPV.out]; exact HR.out.1 HB.out
              clear HR
              go_wp2
              (try simp only [Exit.inBlock, Exit.then])
              refine bodyPost_ret (v := .tuple #[urlV true T (⟨#[47]⟩ : ByteArray), .int .i64 0]) (by rw [results_cell_tmp rfl]; go_simp) rfl ?_
              exact ⟨congrArg Ending.returned HV.out.symm, by first | exact hb3 | (refine Below.setCell ?_ hwg _; refine Below.setCell ?_ hwg _; refine Below.setCell ?_ hwg _; exact hb3)⟩
          · have hye : ¬ (s.extract k m).toList = [] := by
              intro e
              rw [ByteArray.toList_eq] at e
              have := congrArg List.length e
              rw [list_len] at this
              exact hy0 this
            have hye2 : (s.extract k m).toList.isEmpty = false := by cases h : (s.extract k m).toList with | nil => exact absurd h hye | cons x t => rfl
            have HR := Lib.hid (rest_path true _ x (s.extract k m) (s.extract k m) HE.out HH.out HD2.out (by rw [if_neg (fun e => by have := congrArg List.length e; rw [list_len] at this; exact hy0 this)]))
            have HUF := Lib.hid (HU2.out.set12 T (s.extract k m))
            have HZF := Lib.hid ((HZ2.out.other (j := 1) (v := .string T) hrg).other (j := 2) (v := .string (s.extract k m)) hrg)
            have hbF := (hb2.setCell (p := ⟨r, 1, none⟩) hwr (.string T)).setCell (p := ⟨r, 2, none⟩) hwr (.string (s.extract k m))
            have HQ := Lib.hid (rright_any (s.extract k m) · (by unfold maxLen; omega))
            obtain ⟨b, hb⟩ : ∃ b, rightB (s.extract k m).data.toList = b := ⟨_, rfl⟩
            rw [hb] at HQ
            have HB := Lib.hid hb
            rw [← HT.out] at HR
            clear hb hy0
            go_wp2_with fail
            refine (HQ.out _).mono ?_
            rintro _ w3 ⟨rfl, hb⟩
            have hb3 := chain hbF hb
            obtain ⟨⟨c0, c1, c2⟩, f0, f1, f2⟩ := HUF.out.keep hb
            obtain ⟨⟨z0, z1, z2⟩, q0, q1, q2⟩ := HZF.out.keep hb
            clear hb hbF HUF HZF HU2 HZ2
            cases b
            · have HV : Hid (adV (parseA s.data.toList) = .tuple #[urlV false ⟨#[]⟩ ⟨#[]⟩, .int .i64 122]) := by show _ = _; rw [HPV.out]; exact HR.out.2 HB.out
              clear HR
              go_wp2
              (try simp only [Exit.inBlock, Exit.then])
              refine bodyPost_ret (v := .tuple #[urlV false ⟨#[]⟩ ⟨#[]⟩, .int .i64 122]) (by rw [results_cell_tmp rfl]; go_simp) rfl ?_
              exact ⟨congrArg Ending.returned HV.out.symm, by first | exact hb3 | (refine Below.setCell ?_ hwg _; refine Below.setCell ?_ hwg _; refine Below.setCell ?_ hwg _; exact hb3)⟩
            · have HV : Hid (adV (parseA s.data.toList) = .tuple #[urlV true T (s.extract k m), .int .i64 0]) := by show _ = _; rw [HPV.out]; exact HR.out.1 HB.out
              clear HR
              go_wp2
              (try simp only [Exit.inBlock, Exit.then])
              refine bodyPost_ret (v := .tuple #[urlV true T (s.extract k m), .int .i64 0]) (by rw [results_cell_tmp rfl]; go_simp) rfl ?_
              exact ⟨congrArg Ending.returned HV.out.symm, by first | exact hb3 | (refine Below.setCell ?_ hwg _; refine Below.setCell ?_ hwg _; refine Below.setCell ?_ hwg _; exact hb3)⟩
      · have HV := Lib.hid (canV_no (lowB x) (by simpa using hh))
        have HN : Hid (adV (parseA s.data.toList) = .tuple #[urlV false ⟨#[]⟩ ⟨#[]⟩, .int .i64 121]) := by show _ = _; rw [HPV.out]; exact rest_no true _ x HE.out hh
        rw [HV.out] at HCN
        clear HV hh
        go_wp2_with fail
        rw [← HX.out]
        refine (HCN.out _).mono ?_
        rintro _ w2 ⟨rfl, hb⟩
        have hb2 := chain hbW hb
        obtain ⟨⟨z0, z1, z2⟩, q0, q1, q2⟩ := HZ.out.keep hb
        clear hb hbW HU HZ HCN
        go_wp2
        (try simp only [Exit.inBlock, Exit.then])
        refine bodyPost_ret (v := .tuple #[urlV false ⟨#[]⟩ ⟨#[]⟩, .int .i64 121]) (by rw [results_cell_tmp rfl]; go_simp) rfl ?_
        exact ⟨congrArg Ending.returned HN.out.symm, by first | exact hb2 | (refine Below.setCell ?_ hwg _; refine Below.setCell ?_ hwg _; refine Below.setCell ?_ hwg _; exact hb2)⟩
end Go.Proofs.YthempdglmhmfeaaDoor
