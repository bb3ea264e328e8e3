/-
  The law FnExactTrcOf, walked, by kinds.
-/
import Derived.Test.YtgjlkmhbaimjpaaRows
import Derived.Test.YtgjlkmhbaimjpaaKndX
import Derived.Test.YtgjlkmhbaimjpaaTrcO
namespace Go.Proofs.Ytgjlkmhbaimjpaa
open Go.RowKit
set_option linter.unusedSimpArgs false
set_option linter.unusedVariables false

namespace fnExactTrcOf
theorem kb1 : KBlk (gPair yTlmEventS yTlmEventS) := yTlmEventS_law.blk.pair yTlmEventS_law.blk

set_option maxRecDepth 100000 in
set_option maxHeartbeats 4000000 in
theorem walk (hI : True) (a : (Lst (Int × Int × Int))) (who : Int) (w : World) (hr : yTlmEventS.rd w a) :
    Calls Try.prog 8 #[yTlmEventS.val a, .int .i64 who] w fun e w' => e = .returned (.bool true) ∧ Below w.heap.size w w' := by
  have HR := Hid.intro hr
  clear hr hI
  show Calls Try.prog 8 #[.slice a.p a.l.length a.c, .int .i64 who] w _
  go_enter Try.func8, Try.ntmps8
  go_wp2_with fail
  refine (yTlmEventS_sz a 1048576 w HR.out (by decide) (by decide)).mono ?_
  rintro e w1 ⟨⟨z0, rfl, hz⟩, hb⟩
  rcases hz with rfl | ⟨g0, q0⟩
  · go_wp2
    go_ret
    exact ⟨rfl, hb⟩
  have n0 : ¬ (z0 < 0) := by omega
  have HL : Hid (yTlmEventS.size a ≤ 1048576) := Hid.intro (by omega)
  have HB1 := Hid.intro hb
  clear q0 hb
  obtain ⟨z, hz⟩ : ∃ z, z = trcP (yTlmEventS.pl a) who := ⟨_, rfl⟩
  have HZ := Hid.intro hz
  clear hz
  go_wp2_with fail
  refine (yTlmEventS_to a w1 (yTlmEventS_law.rd_blw HR.out HB1.out) HL.out).mono ?_
  rintro e w2 ⟨t, he, hp, hs, hf, hb⟩
  replace he : e = .returned (.slice t.p t.l.length t.c) := he
  subst he
  have HSP : Hid (Calls Try.prog 29 #[.slice t.p t.l.length t.c, .int .i64 who] w2 fun e w' => ∃ a', e = .returned (yTlmEventS.val a') ∧ yTlmEventS.pl a' = z ∧ yTlmEventS.ow w' a' ∧ Below w2.heap.size w2 w') := Hid.intro (by
    have h := spec_TrcOf t who w2 (yTlmEventS_law.ow_rd hf.ow) (by rw [hs]; exact HL.out)
    rw [hp, ← HZ.out] at h
    exact h)
  have HB2 := Hid.intro (HB1.out.trans (hb.mono HB1.out.size))
  clear hp hs hf hb HB1
  go_wp2_with fail
  refine HSP.out.mono ?_
  rintro e w3 ⟨m, he, hpm, hom, hb⟩
  replace he : e = .returned (.slice m.p m.l.length m.c) := he
  subst he
  have HB3 := HB2.out.trans (hb.mono HB2.out.size)
  have HOLD : Hid (∀ W, Below w3.heap.size w3 W → yTlmEventS.rd W a ∧ yTlmEventS.ow W m ∧ Below w.heap.size w W) := Hid.intro (fun W hW => ⟨yTlmEventS_law.rd_blw HR.out (HB3.trans (hW.mono HB3.size)), yTlmEventS_law.ow_blw hom hW, HB3.trans (hW.mono HB3.size)⟩)
  have HPM := Hid.intro hpm
  clear hpm hom hb HB3 HB2 HSP
  go_wp2_with fail
  refine (yTlmEventS_to a w3 (HOLD.out w3 (Below.refl _ _)).1 HL.out).mono ?_
  rintro e w4 ⟨x, he, hp, hs, hf, hb⟩
  replace he : e = .returned (.slice x.p x.l.length x.c) := he
  subst he
  have HSI : Hid (Calls Try.prog 31 #[.slice x.p x.l.length x.c, .int .i64 who] w4 fun e w' => ∃ a', e = .returned (yTlmEventS.val a') ∧ yTlmEventS.pl a' = z ∧ yTlmEventS.size a' ≤ 1048576 ∧ Fresh yTlmEventS w4.heap.size w' a' ∧ Below w4.heap.size w4 w') := Hid.intro (by
    have h := impl_TrcOf x who w4 (yTlmEventS_law.ow_rd hf.ow) (by rw [hs]; exact HL.out)
    rw [hp, ← HZ.out] at h
    exact h)
  have HX4 := Hid.intro (And.intro hp (And.intro hs (And.intro hf hb)))
  clear hp hs hf hb
  go_wp2_with fail
  refine HSI.out.mono ?_
  rintro e w5 ⟨g, he, hpg, hsg, hfg, hb⟩
  replace he : e = .returned (.slice g.p g.l.length g.c) := he
  subst he
  have HX5 : Hid (Fresh (gPair yTlmEventS yTlmEventS) w3.heap.size w5 (x, g)) := Hid.intro ((HX4.out.2.2.1.below yTlmEventS_law hb).join HX4.out.2.2.2.size (fun b hb => yTlmEventS_law.ow_lt HX4.out.2.2.1.ow b hb) hfg)
  have HN5 : Hid (Below w3.heap.size w3 w5) := Hid.intro (HX4.out.2.2.2.trans (hb.mono HX4.out.2.2.2.size))
  have HPL : Hid (yTlmEventS.pl x = yTlmEventS.pl a ∧ yTlmEventS.pl g = z) := Hid.intro ⟨HX4.out.1, hpg⟩
  have HV : Hid (yTlmEventS.vcnt x ≤ 7 * 1048576 ∧ yTlmEventS.vcnt g ≤ 7 * 1048576) := Hid.intro (by
    have h0 := yTlmEventS_law.vcnt_le x
    have h1 := yTlmEventS_law.vcnt_le g
    have h2 := HX4.out.2.1
    have h3 := HL.out
    omega)
  clear hpg hsg hfg hb HX4 HSI
  go_wp2_with fail
  refine (yTlmEventS_eq g m w5 (yTlmEventS_law.ow_rd HX5.out.ow.2) (yTlmEventS_law.ow_rd (HOLD.out w5 HN5.out).2.1) (HPL.out.2.trans HPM.out.symm)).mono ?_
  rintro e w6 ⟨rfl, hb⟩
  have HX6 := Hid.intro (HX5.out.blwB kb1 hb)
  have HN6 := Hid.intro (HN5.out.trans (hb.mono HN5.out.size))
  clear hb HX5 HN5
  go_wp2_with fail
  refine (yTlmEventS_to a w6 (HOLD.out w6 HN6.out).1 HL.out).mono ?_
  rintro e w7 ⟨u, he, hp, hs, hf, hb⟩
  replace he : e = .returned (.slice u.p u.l.length u.c) := he
  subst he
  have HX7 := Hid.intro (HX6.out.blwB kb1 hb)
  have HN7 := Hid.intro (HN6.out.trans (hb.mono HN6.out.size))
  have HY := Hid.intro (And.intro hp hf.ow)
  clear hp hs hf hb HX6 HN6
  go_wp2_with fail
  refine (yTlmEventS_eq x u w7 (yTlmEventS_law.ow_rd HX7.out.ow.1) (yTlmEventS_law.ow_rd HY.out.2) (HPL.out.1.trans HY.out.1.symm)).mono ?_
  rintro e w8 ⟨rfl, hb⟩
  have HX8 := Hid.intro (HX7.out.blwB kb1 hb)
  have HN8 := Hid.intro (HN7.out.trans (hb.mono HN7.out.size))
  clear hb HX7 HN7 HY
  go_wp2_with fail
  refine (yTlmEventS_mark x _ w8 HX8.out.ow.1 HX8.out.fst.nd (by decide) (by have := HV.out; omega)).mono ?_
  rintro e w9 ⟨rfl, hk, t0, hv0, hc0, hf0, hn0, hw0, hm0⟩
  have HX9 : Hid (Fresh yTlmEventS w3.heap.size w9 g) := Hid.intro (HX8.out.updL yTlmEventS_law.blk hk (fun _ h => h) (fresh_mark HX8.out.fst hw0 hf0) hf0).snd
  have HN9 : Hid (Below w3.heap.size w3 w9) := Hid.intro (old_kept HN8.out hk (fun b hb => HX8.out.fst.ge b hb) HN8.out.size)
  clear hk hv0 hc0 hf0 hn0 hw0 hm0 HX8 HN8
  have hK0 : ¬ (1 + ((yTlmEventS.vcnt x : Nat) : Int) < 0) := by omega
  go_wp2_with fail
  refine (yTlmEventS_eq g m w9 (yTlmEventS_law.ow_rd HX9.out.ow) (yTlmEventS_law.ow_rd (HOLD.out w9 HN9.out).2.1) (HPL.out.2.trans HPM.out.symm)).mono ?_
  rintro e w10 ⟨rfl, hb⟩
  have HX10 := Hid.intro (HX9.out.below yTlmEventS_law hb)
  have HN10 := Hid.intro (HN9.out.trans (hb.mono HN9.out.size))
  clear hb HX9 HN9 hK0
  go_wp2_with fail
  refine (yTlmEventS_mark g _ w10 HX10.out.ow HX10.out.nd (by decide) (by have := HV.out; omega)).mono ?_
  rintro e w11 ⟨rfl, hk, r, hv0, hc0, hf0, hn0, hw0, hm0⟩
  have HN11 : Hid (Below w3.heap.size w3 w11) := Hid.intro (old_kept HN10.out hk (fun b hb => HX10.out.ge b hb) HN10.out.size)
  have HVR : Hid ((.slice r.p r.l.length r.c : Value) = .slice g.p g.l.length g.c) := Hid.intro hv0
  have HM11 : Hid (yTlmEventS.rd w11 r ∧ yTlmEventS.vcnt r = yTlmEventS.vcnt g ∧ yTlmEventS.vmkd r 1) := Hid.intro ⟨yTlmEventS_law.ow_rd hw0, hn0, hm0⟩
  clear hk hv0 hc0 hf0 hn0 hw0 hm0 HX10 HN10
  have hK1 : ¬ (1 + ((yTlmEventS.vcnt g : Nat) : Int) < 0) := by omega
  go_wp2_with fail
  rw [← HVR.out]
  refine (yTlmEventS_held r _ w11 HM11.out.1 HM11.out.2.2 (by decide) (by have := HV.out; have := HM11.out.2.1; omega)).mono ?_
  rintro e w12 ⟨he, hb⟩
  rw [HM11.out.2.1] at he
  subst he
  have HM12 : Hid (yTlmEventS.rd w12 r) := Hid.intro (yTlmEventS_law.rd_blw HM11.out.1 hb)
  have HN12 := Hid.intro (HN11.out.trans (hb.mono HN11.out.size))
  clear hb HN11
  go_wp2_with fail
  refine (yTlmEventS_to a w12 (HOLD.out w12 HN12.out).1 HL.out).mono ?_
  rintro e w13 ⟨s, he, hp, hs, hf, hb⟩
  replace he : e = .returned (.slice s.p s.l.length s.c) := he
  subst he
  have HSJ : Hid (Calls Try.prog 31 #[.slice s.p s.l.length s.c, .int .i64 who] w13 fun e w' => ∃ a', e = .returned (yTlmEventS.val a') ∧ yTlmEventS.pl a' = z ∧ yTlmEventS.size a' ≤ 1048576 ∧ Fresh yTlmEventS w13.heap.size w' a' ∧ Below w13.heap.size w13 w') := Hid.intro (by
    have h := impl_TrcOf s who w13 (yTlmEventS_law.ow_rd hf.ow) (by rw [hs]; exact HL.out)
    rw [hp, ← HZ.out] at h
    exact h)
  have HM13 : Hid (yTlmEventS.rd w13 r) := Hid.intro (yTlmEventS_law.rd_blw HM12.out hb)
  have HN13 := Hid.intro (HN12.out.trans (hb.mono HN12.out.size))
  clear hp hs hf hb HM12 HN12
  go_wp2_with fail
  refine HSJ.out.mono ?_
  rintro e w14 ⟨h, he, hph, hsh, hfh, hb⟩
  replace he : e = .returned (.slice h.p h.l.length h.c) := he
  subst he
  have HM14 : Hid (yTlmEventS.rd w14 r) := Hid.intro (yTlmEventS_law.rd_blw HM13.out hb)
  have HN14 := Hid.intro (HN13.out.trans (hb.mono HN13.out.size))
  have HH := Hid.intro (And.intro hph hfh.ow)
  clear hph hsh hfh hb HM13 HN13 HSJ
  go_wp2_with fail
  refine (yTlmEventS_eq h m w14 (yTlmEventS_law.ow_rd HH.out.2) (yTlmEventS_law.ow_rd (HOLD.out w14 HN14.out).2.1) (HH.out.1.trans HPM.out.symm)).mono ?_
  rintro e w15 ⟨rfl, hb⟩
  have HM15 : Hid (yTlmEventS.rd w15 r) := Hid.intro (yTlmEventS_law.rd_blw HM14.out hb)
  have HN15 := Hid.intro (HN14.out.trans (hb.mono HN14.out.size))
  clear hb HM14 HN14 HH
  go_wp2_with fail
  refine (yTlmEventS_held r _ w15 HM15.out HM11.out.2.2 (by decide) (by have := HV.out; have := HM11.out.2.1; omega)).mono ?_
  rintro e w16 ⟨he, hb⟩
  rw [HM11.out.2.1] at he
  subst he
  have hend := (HOLD.out w16 (HN15.out.trans (hb.mono HN15.out.size))).2.2
  clear hb HM15 HN15
  go_wp2
  go_ret
  exact ⟨rfl, hend⟩

end fnExactTrcOf

end Go.Proofs.Ytgjlkmhbaimjpaa
