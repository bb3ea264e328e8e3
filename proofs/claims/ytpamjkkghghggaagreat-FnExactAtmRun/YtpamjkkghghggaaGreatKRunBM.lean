/-
  AtmRun, by kinds: the call.
-/
import Derived.Test.YtpamjkkghghggaaGreatKndX
import Derived.Test.YtpamjkkghghggaaGreatKMapRange
import Derived.Test.YtpamjkkghghggaaGreatKReqReq
import Derived.Test.YtpamjkkghghggaaGreatKRspRsp
import Derived.Test.YtpamjkkghghggaaGreatKAtmStateM
import Derived.Test.YtpamjkkghghggaaGreatRunIM
import Derived.Test.YtpamjkkghghggaaGreatSpcH
/-
  AtmRun, by kinds.
-/
namespace Go.Proofs.YtpamjkkghghggaaGreat
open Go.RowKit
set_option linter.unusedSimpArgs false
set_option linter.unusedVariables false

def rngOf (x : Int × Int × Int × Bool) : Rng := ⟨x.1, x.2.1, x.2.2.1, x.2.2.2⟩
def reqOf (x : Int × Int × Int × Int × Bool × List Int × List Int) : Req := ⟨x.1, x.2.1, x.2.2.1, x.2.2.2.1, x.2.2.2.2.1, x.2.2.2.2.2.1, x.2.2.2.2.2.2⟩
def rqOf (x : Int × Int × Int × Int × Bool × Lst Int × Lst Int) : Rq := ⟨⟨x.1, x.2.1, x.2.2.1, x.2.2.2.1, x.2.2.2.2.1, x.2.2.2.2.2.1.l, x.2.2.2.2.2.2.l⟩, x.2.2.2.2.2.1.p, x.2.2.2.2.2.1.c, x.2.2.2.2.2.2.p, x.2.2.2.2.2.2.c⟩
def rspPl (x : Rsp) : Int × Int × List Int := (x.id, x.code, x.data)
theorem yI_pl (a : Lst Int) : yI.pl a = a.l := List.map_id _

theorem rngs_rd {w : World} {a : Lst (Int × Int × Int × Bool)} (h : yMapRangeS.rd w a) : RowOf w a.p (a.l.map rngOf) := by
  obtain ⟨_, _, h3, _⟩ := h
  rcases h3 with h3 | ⟨b, off, e, hlt, hc⟩
  · left; rw [h3]; rfl
  · refine .inr ⟨b, off, e, hlt, fun k hk => ?_⟩
    have hk' : k < a.l.length := by simpa using hk
    simp only [List.getElem_map]
    exact ⟨hc k hk' 0 _ rfl, hc k hk' 1 _ rfl, hc k hk' 2 _ rfl, hc k hk' 3 _ rfl⟩
theorem st_rd {w : World} {s : Lst Int × Lst Int} (h : yAtmState.rd w s) : StAt w ⟨s.1.l, s.2.l⟩ s.1.p s.1.c s.2.p s.2.c := by
  obtain ⟨h1, h2⟩ := h
  obtain ⟨a1, a2, a3⟩ := yI_rd.1 (show yI.rd w s.1 from h1)
  obtain ⟨b1, b2, b3⟩ := yI_rd.1 (show yI.rd w s.2 from h2)
  exact ⟨a3, b3, a1, a2, b1, b2⟩
theorem rqs_rd {w : World} {a : Lst (Int × Int × Int × Int × Bool × Lst Int × Lst Int)} (h : yReqReqS.rd w a) : RqsAt w a.p (a.l.map rqOf) := by
  obtain ⟨_, _, h3, h4⟩ := h
  refine ⟨?_, fun q hq => ?_⟩
  · rcases h3 with h3 | ⟨b, off, e, hlt, hc⟩
    · left; rw [h3]; rfl
    · refine .inr ⟨b, off, e, hlt, fun k hk => ?_⟩
      have hk' : k < a.l.length := by simpa using hk
      simp only [List.getElem_map]
      exact ⟨hc k hk' 0 _ rfl, hc k hk' 1 _ rfl, hc k hk' 2 _ rfl, hc k hk' 3 _ rfl, hc k hk' 4 _ rfl, hc k hk' 5 _ rfl, hc k hk' 6 _ rfl⟩
  · obtain ⟨x, hx, rfl⟩ := List.mem_map.1 hq
    obtain ⟨_, _, _, _, _, g1, g2⟩ := h4 x hx
    obtain ⟨a1, a2, a3⟩ := yI_rd.1 g1
    obtain ⟨b1, b2, b3⟩ := yI_rd.1 g2
    exact ⟨a3, b3, a1, a2, b1, b2⟩
theorem reqs_pl (a : Lst (Int × Int × Int × Int × Bool × Lst Int × Lst Int)) : reqs (a.l.map rqOf) = (yReqReqS.pl a).map reqOf := by
  show (a.l.map rqOf).map Rq.r = (a.l.map yReqReq.pl).map reqOf
  rw [List.map_map, List.map_map]
  refine List.map_congr_left (fun x _ => ?_)
  show (rqOf x).r = reqOf (yReqReq.pl x)
  have e : yReqReq.pl x = (x.1, x.2.1, x.2.2.1, x.2.2.2.1, x.2.2.2.2.1, yI.pl x.2.2.2.2.2.1, yI.pl x.2.2.2.2.2.2) := rfl
  rw [e, yI_pl, yI_pl]
  rfl

theorem ownN_foot {M : Nat} {w : World} {a : Lst Int} (h : OwnN M w a.p a.c a.l) : ∀ b ∈ yI.foot a, M ≤ b ∧ a.l ≠ [] ∧ a.p = some ⟨b, 0, none⟩ := fun b hb => by
  rw [yI_foot] at hb
  obtain ⟨h0, x, e, e'⟩ := blk_mem hb
  rcases h with h | ⟨g, hg, hM, _⟩
  · exact absurd h h0
  · rw [hg] at e; cases e
    simp only at e'
    subst e'
    exact ⟨hM, h0, hg⟩
theorem apart_foot {M : Nat} {w : World} {a b : Lst Int} (h1 : OwnN M w a.p a.c a.l) (h2 : OwnN M w b.p b.c b.l) (h : Apart a.p a.l b.p b.l) : ∀ x ∈ yI.foot a, x ∉ yI.foot b := fun x hx hy => by
  obtain ⟨_, n1, e1⟩ := ownN_foot h1 x hx
  obtain ⟨_, n2, e2⟩ := ownN_foot h2 x hy
  rcases h with h | h | h
  · exact n1 h
  · exact n2 h
  · exact h (e1.trans e2.symm)
theorem yI_nd (a : Lst Int) : (yI.foot a).Nodup := by rw [yI_foot]; exact blk_nodup a

/-- what came of something, with its place -/
def rsOf (y : Rs) : Int × Int × Lst Int := (y.x.id, y.x.code, ⟨y.p, y.c, y.x.data⟩)
theorem rs_cells (ys : List Rs) : rsCells ys = (ys.map rsOf).flatMap yRspRsp.cells := by
  unfold rsCells
  rw [List.flatMap_map]
  rfl
theorem rs_foot (ys : List Rs) : (ys.map rsOf).flatMap yRspRsp.foot = ys.flatMap (fun y => yI.foot ⟨y.p, y.c, y.x.data⟩) := by rw [List.flatMap_map]; rfl

theorem run_fresh {M : Nat} {w : World} {s : Stt} {ys : List Rs} {pw ph g : Option Addr} {cw ch gc : Nat} (h : RunOut M w s ys pw cw ph ch g gc) :
    Fresh (gPair yAtmState yRspRspS) M w ((⟨pw, cw, s.words⟩, ⟨ph, ch, s.holds⟩), ⟨g, gc, ys.map rsOf⟩) := by
  have hW : OwnN M w (⟨pw, cw, s.words⟩ : Lst Int).p (⟨pw, cw, s.words⟩ : Lst Int).c (⟨pw, cw, s.words⟩ : Lst Int).l := h.words
  have hH : OwnN M w (⟨ph, ch, s.holds⟩ : Lst Int).p (⟨ph, ch, s.holds⟩ : Lst Int).c (⟨ph, ch, s.holds⟩ : Lst Int).l := h.holds
  have hd : ∀ y ∈ ys, OwnN M w (⟨y.p, y.c, y.x.data⟩ : Lst Int).p (⟨y.p, y.c, y.x.data⟩ : Lst Int).c (⟨y.p, y.c, y.x.data⟩ : Lst Int).l := fun y hy => (h.data.own y hy).1
  have hrow : ∀ b ∈ blk (⟨g, gc, ys.map rsOf⟩ : Lst (Int × Int × Lst Int)), M ≤ b ∧ ys ≠ [] ∧ ORow 63 3 w b gc ys.length (rsCells ys) := fun b hb => by
    obtain ⟨h0, x, e, e'⟩ := blk_mem hb
    have h0' : ys ≠ [] := fun e => h0 (by simp [e])
    rcases h.row with hr | ⟨b', eg, hM, hO⟩
    · exact absurd hr h0'
    · simp only at e
      rw [eg] at e; cases e
      simp only at e'
      subst e'
      exact ⟨hM, h0', hO⟩
  have hint : ∀ {a : Lst Int}, OwnN M w a.p a.c a.l → ∀ b ∈ yI.foot a, ∃ n cs, ORow 3 1 w b a.c n cs := fun {a} ha b hb => by
    obtain ⟨_, h0, e⟩ := ownN_foot ha b hb
    rcases ha with ha | ⟨g', e', _, hO⟩
    · exact absurd ha h0
    · rw [e] at e'; cases e'
      exact ⟨_, _, hO⟩
  have hrd : ∀ {a : Lst Int}, OwnN M w a.p a.c a.l → ∀ b ∈ yI.foot a, b ∉ blk (⟨g, gc, ys.map rsOf⟩ : Lst (Int × Int × Lst Int)) := fun {a} ha b hb hb' => by
    obtain ⟨_, _, hO⟩ := hrow b hb'
    obtain ⟨n, cs, hI⟩ := hint ha b hb
    exact ORow.ne hO hI (by decide) rfl
  have hfl : ∀ b ∈ (ys.map rsOf).flatMap yRspRsp.foot, ∃ y ∈ ys, b ∈ yI.foot ⟨y.p, y.c, y.x.data⟩ := fun b hb => by
    rw [rs_foot] at hb
    obtain ⟨y, hy, hm⟩ := List.mem_flatMap.1 hb
    exact ⟨y, hy, hm⟩
  refine ⟨⟨⟨yI_ow.2 ⟨h.cw1, h.cw2, h.words.own⟩, yI_ow.2 ⟨h.ch1, h.ch2, h.holds.own⟩⟩, ⟨by simp only [List.length_map]; exact h.gc1, h.gc2, ?_, fun x hx => ?_⟩⟩, ?_, ?_⟩
  · rcases h.row with hr | ⟨b, eg, _, hO⟩
    · left; simp [hr]
    · refine .inr ⟨b, eg, ?_⟩
      simp only [List.length_map]
      rw [← rs_cells]
      exact hO
  · obtain ⟨y, hy, rfl⟩ := List.mem_map.1 hx
    obtain ⟨g1, g2, g3⟩ := h.data.own y hy
    exact ⟨trivial, trivial, yI_ow.2 ⟨g2, g3, g1.own⟩⟩
  · show ((yI.foot _ ++ yI.foot _) ++ (blk _ ++ (ys.map rsOf).flatMap yRspRsp.foot)).Nodup
    refine List.nodup_append.2 ⟨List.nodup_append.2 ⟨yI_nd _, yI_nd _, fun x hx y hy e => apart_foot hW hH h.wh x hx (e ▸ hy)⟩, List.nodup_append.2 ⟨blk_nodup _, ?_, fun x hx y hy e => ?_⟩, fun x hx y hy e => ?_⟩
    · rw [rs_foot]
      refine List.pairwise_flatMap.2 ⟨fun y hy => yI_nd _, ?_⟩
      refine h.data.apart.imp_of_mem (fun {y z} hy hz hap x hx u hu e => ?_)
      exact apart_foot (hd y hy) (hd z hz) hap x hx (e ▸ hu)
    · subst e
      obtain ⟨z, hz, hm⟩ := hfl x hy
      exact hrd (hd z hz) x hm hx
    · subst e
      rcases List.mem_append.1 hy with hy | hy
      · rcases List.mem_append.1 hx with hx | hx
        · exact hrd hW x hx hy
        · exact hrd hH x hx hy
      · obtain ⟨z, hz, hm⟩ := hfl x hy
        rcases List.mem_append.1 hx with hx | hx
        · exact apart_foot hW (hd z hz) (h.wd z hz) x hx hm
        · exact apart_foot hH (hd z hz) (h.hd z hz) x hx hm
  · intro x hx
    rcases List.mem_append.1 hx with hx | hx
    · rcases List.mem_append.1 hx with hx | hx
      · exact (ownN_foot hW x hx).1
      · exact (ownN_foot hH x hx).1
    · rcases List.mem_append.1 hx with hx | hx
      · exact (hrow x hx).1
      · obtain ⟨z, hz, hm⟩ := hfl x hx
        exact (ownN_foot (hd z hz) x hm).1

end Go.Proofs.YtpamjkkghghggaaGreat

namespace Go.Proofs.YtpamjkkghghggaaGreat
open Go.RowKit
set_option linter.unusedSimpArgs false
set_option linter.unusedVariables false

def runPl (m : List (Int × Int × Int × Bool)) (s : List Int × List Int) (who : Int) (q : List (Int × Int × Int × Int × Bool × List Int × List Int)) : (List Int × List Int) × List (Int × Int × List Int) :=
  (((runZ (m.map rngOf) ⟨s.1, s.2⟩ who (q.map reqOf)).1.words, (runZ (m.map rngOf) ⟨s.1, s.2⟩ who (q.map reqOf)).1.holds), (runZ (m.map rngOf) ⟨s.1, s.2⟩ who (q.map reqOf)).2.map rspPl)
theorem runRs_data (ms : List Rng) (who : Int) (hm : mapOkB ms = true) (hw : inB who 0 2 = true) : ∀ (rs : List Req) (s : Stt), stOkB s = true → progOkB rs = true → ∀ x ∈ runRs ms who s rs, x.data.length ≤ 4
  | [], _, _, _, x, hx => by simp [runRs] at hx
  | r :: rs, s, hs, hp, x, hx => by
    simp only [progOkB, List.all_cons, Bool.and_eq_true] at hp
    have hk : atmOkB ms s who r = true := by simp [atmOkB, hm, hs, hw, hp.1]
    simp only [runRs] at hx
    rcases List.mem_cons.1 hx with rfl | hx
    · exact (atmDo_len hk).2.2
    · exact runRs_data ms who hm hw rs _ (atmDo_ok hk) hp.2 x hx
theorem runZ_len (ms : List Rng) (s : Stt) (who : Int) (rs : List Req) : (runZ ms s who rs).1.words.length ≤ 64 ∧ (runZ ms s who rs).1.holds.length ≤ 6 ∧ (runZ ms s who rs).2.length ≤ 12 ∧ ∀ x ∈ (runZ ms s who rs).2, x.data.length ≤ 4 := by
  unfold runZ
  by_cases h : runOkB ms s who rs = true
  · rw [if_pos h]
    obtain ⟨h1, h2, h3, h4, h5⟩ := run_parts h
    have hk := run_ok h1 h3 h2 h5
    simp only [stOkB, Bool.and_eq_true, decide_eq_true_eq] at hk
    have := memOk_len hk.1
    refine ⟨by simp only; omega, by simp only; omega, by simp only [runRs_len]; exact h4, runRs_data ms who h1 h3 rs s h2 h5⟩
  · rw [if_neg h]; simp
theorem sum_le {α : Type} {f : α → Nat} {c : Nat} : ∀ {l : List α}, (∀ x ∈ l, f x ≤ c) → (l.map f).sum ≤ c * l.length
  | [], _ => by simp
  | x :: l, h => by
    have h1 := h x (List.mem_cons_self ..)
    have h2 := sum_le (l := l) (fun y hy => h y (List.mem_cons_of_mem _ hy))
    simp only [List.map_cons, List.sum_cons, List.length_cons, Nat.mul_add, Nat.mul_one]
    omega
theorem run_kinds {F : Nat} (hF : AtmRunF F) (a : Lst (Int × Int × Int × Bool)) (s : Lst Int × Lst Int) (who : Int) (q : Lst (Int × Int × Int × Int × Bool × Lst Int × Lst Int)) (w : World) (h1 : yMapRangeS.rd w a) (h2 : yAtmState.rd w s) (h3 : yReqReqS.rd w q) :
    Calls Tryz.prog F #[yMapRangeS.val a, yAtmState.val s, .int .i64 who, yReqReqS.val q] w fun e w' => (∃ v, e = .returned v ∧ Ans2 yAtmState yRspRspS (runPl (yMapRangeS.pl a) (yAtmState.pl s) who (yReqReqS.pl q)).1 (runPl (yMapRangeS.pl a) (yAtmState.pl s) who (yReqReqS.pl q)).2 w.heap.size w' v) ∧ Below w.heap.size w w' := by
  have hc := hF a.p a.c (a.l.map rngOf) ⟨s.1.l, s.2.l⟩ s.1.p s.2.p s.1.c s.2.c who q.p q.c (q.l.map rqOf) w (rngs_rd h1) (by simpa using h1.1) h1.2.1 (st_rd h2) (rqs_rd h3) (by simpa using h3.1) h3.2.1
  rw [reqs_pl] at hc
  simp only [List.length_map] at hc
  refine hc.mono ?_
  rintro e w' ⟨qw, dw, qh, dh, g, gc, ys, rfl, hy, hO, hb⟩
  have ep : (yMapRangeS.pl a).map rngOf = a.l.map rngOf := by
    show (a.l.map yMapRange.pl).map rngOf = _
    rw [List.map_map]; exact List.map_congr_left (fun x _ => rfl)
  have es : yAtmState.pl s = (s.1.l, s.2.l) := by
    show (yI.pl s.1, yI.pl s.2) = _
    rw [yI_pl, yI_pl]
  have hz := runZ_len (a.l.map rngOf) ⟨s.1.l, s.2.l⟩ who ((yReqReqS.pl q).map reqOf)
  refine ⟨⟨_, rfl, _, _, ?_, ?_, ?_, ?_, run_fresh hO⟩, hb⟩
  · show _ = Value.tuple #[.agg #[.slice qw _ dw, .slice qh _ dh], .slice g (ys.map rsOf).length gc]
    rw [List.length_map]; rfl
  · show (yI.pl _, yI.pl _) = _
    rw [yI_pl, yI_pl]
    unfold runPl
    rw [ep, es]
  · show (ys.map rsOf).map yRspRsp.pl = _
    unfold runPl
    rw [ep, es]
    simp only
    rw [← hy]
    unfold rsps
    rw [List.map_map, List.map_map]
    refine List.map_congr_left (fun y _ => ?_)
    show (y.x.id, y.x.code, yI.pl ⟨y.p, y.c, y.x.data⟩) = _
    rw [yI_pl]; rfl
  · have hyl : ys.length ≤ 12 := by have := congrArg List.length hy; simp only [rsps, List.length_map] at this; omega
    have hys : ((ys.map rsOf).map yRspRsp.size).sum ≤ 4 * (ys.map rsOf).length := sum_le (fun x hx => by
      obtain ⟨y, hy', rfl⟩ := List.mem_map.1 hx
      show 0 + (0 + yI.size ⟨y.p, y.c, y.x.data⟩) ≤ 4
      rw [yI_size]
      have := hz.2.2.2 y.x (by rw [← hy]; exact List.mem_map.2 ⟨y, hy', rfl⟩)
      simp only
      omega)
    show (yI.size _ + yI.size _) + ((ys.map rsOf).length + ((ys.map rsOf).map yRspRsp.size).sum) ≤ 1000000000
    rw [yI_size, yI_size]
    simp only [List.length_map] at hys ⊢
    omega

end Go.Proofs.YtpamjkkghghggaaGreat
