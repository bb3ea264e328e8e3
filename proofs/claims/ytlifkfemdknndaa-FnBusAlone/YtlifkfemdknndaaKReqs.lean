/-
  What is asked, and ranges, by kinds.
-/
import Derived.Test.YtlifkfemdknndaaKBusCfgM
import Derived.Test.YtlifkfemdknndaaRunA
import Derived.Test.YtlifkfemdknndaaMapCM
namespace Go.Proofs.Ytlifkfemdknndaa
open Go.RowKit
set_option linter.unusedSimpArgs false
set_option linter.unusedVariables false

def rngOf (x : Int × Int × Int × Bool) : Rng := ⟨x.1, x.2.1, x.2.2.1, x.2.2.2⟩
def reqOf (x : Int × Int × Int × Int × Bool × List Int × List Int) : Req := ⟨x.1, x.2.1, x.2.2.1, x.2.2.2.1, x.2.2.2.2.1, x.2.2.2.2.2.1, x.2.2.2.2.2.2⟩
def rqOf (x : Int × Int × Int × Int × Bool × Lst Int × Lst Int) : Rq := ⟨⟨x.1, x.2.1, x.2.2.1, x.2.2.2.1, x.2.2.2.2.1, x.2.2.2.2.2.1.l, x.2.2.2.2.2.2.l⟩, x.2.2.2.2.2.1.p, x.2.2.2.2.2.1.c, x.2.2.2.2.2.2.p, x.2.2.2.2.2.2.c⟩
theorem yI_pl (a : Lst Int) : yI.pl a = a.l := List.map_id _

theorem rngs_rd {w : World} {a : Lst (Int × Int × Int × Bool)} (h : yMapRangeS.rd w a) : RowOf w a.p (a.l.map rngOf) := by
  obtain ⟨_, _, h3, _⟩ := h
  rcases h3 with h3 | ⟨b, off, e, hlt, hc⟩
  · left; rw [h3]; rfl
  · refine .inr ⟨b, off, e, hlt, fun k hk => ?_⟩
    have hk' : k < a.l.length := by simpa using hk
    simp only [List.getElem_map]
    exact ⟨hc k hk' 0 _ rfl, hc k hk' 1 _ rfl, hc k hk' 2 _ rfl, hc k hk' 3 _ rfl⟩
theorem rqs_rd {w : World} {a : Lst (Int × Int × Int × Int × Bool × Lst Int × Lst Int)} (h : yReqReqS.rd w a) : RqsAt w a.p (a.l.map rqOf) := by
  obtain ⟨_, _, h3, h4⟩ := h
  refine ⟨?_, fun q hq => ?_⟩
  · rcases h3 with h3 | ⟨b, off, e, hlt, hc⟩
    · left; rw [h3]; rfl
    · refine .inr ⟨b, off, e, hlt, fun k hk => ?_⟩
      have hk' : k < a.l.length := by simpa using hk
      simp only [List.getElem_map]
      exact ⟨hc k hk' 0 _ rfl, hc k hk' 1 _ rfl, hc k hk' 2 _ rfl, hc k hk' 3 _ rfl, hc k hk' 4 _ rfl, hc k hk' 5 _ rfl, hc k hk' 6 _ rfl⟩
  · obtain ⟨x, hx, rfl⟩ := List.mem_map.1 hq
    obtain ⟨_, _, _, _, _, g1, g2⟩ := h4 x hx
    obtain ⟨a1, a2, a3⟩ := yI_rd.1 g1
    obtain ⟨b1, b2, b3⟩ := yI_rd.1 g2
    exact ⟨a3, b3, a1, a2, b1, b2⟩
theorem reqs_pl (a : Lst (Int × Int × Int × Int × Bool × Lst Int × Lst Int)) : reqs (a.l.map rqOf) = (yReqReqS.pl a).map reqOf := by
  show (a.l.map rqOf).map Rq.r = (a.l.map yReqReq.pl).map reqOf
  rw [List.map_map, List.map_map]
  refine List.map_congr_left (fun x _ => ?_)
  show (rqOf x).r = reqOf (yReqReq.pl x)
  have e : yReqReq.pl x = (x.1, x.2.1, x.2.2.1, x.2.2.2.1, x.2.2.2.2.1, yI.pl x.2.2.2.2.2.1, yI.pl x.2.2.2.2.2.2) := rfl
  rw [e, yI_pl, yI_pl]
  rfl

end Go.Proofs.Ytlifkfemdknndaa
