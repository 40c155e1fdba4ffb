/-
  Layer whole: the document's panes of events are told alike the program's.
-/
import Derived.Test.YtbimfopbilcdgaaZqmR
import Derived.Test.YtbimfopbilcdgaaZmaR
set_option linter.unusedSimpArgs false
set_option linter.unusedVariables false
set_option maxRecDepth 8000
namespace Go.Proofs.Ytbimfopbilcdgaa
open Go.RowKit Go.Sort Sm

theorem ses_there {c : Cf} (h : c.Ok) (l : List Ev) (hk : c.kind = 2) : ∀ x ∈ l, SesP c.size l x (wS c.size l x) := fun x hx => by
  obtain ⟨g, hg, e1, e2, e3⟩ := ses_cover h hk l x hx
  exact (wS_is h.size1 (p := g.p) ⟨tight_grps h hk l g hg, shut_grps h hk l g hg, e1, e2, e3⟩).1
/-- The document's panes of events are told alike the program's. -/
theorem doc_is {c : Cf} (h : c.Ok) {l : List Ev} (hl : EvFit l) {ps : List Pz} (hd : DocP (addA (dIts c l l)) ps) : Alk (panesL c l) ps := by
  refine doc_alike h hl (ses_there h l) hd (fun y hy v hv => ?_)
  obtain ⟨e1, e2⟩ := doc_groups h l (ses_there h l)
  obtain ⟨g, hg, eg⟩ := map_mem e1.symm y hy
  have hp := e2 g hg y hy eg
  exact ((grps_ok h hl).ok g hg).1 v (hp.mem_iff.2 hv)
end Go.Proofs.Ytbimfopbilcdgaa
