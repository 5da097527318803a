/- The program's disk keeps the contracts that the laws ask. -/
import Derived.Test.YthknlimhenbhfaaDpl
namespace Go.Proofs.Ythknlimhenbhfaa
open Go.RowKit Dig
set_option linter.unusedVariables false

theorem prog6 : Prog6 PDsk fpP where
  ok := fun h => h.1
  fpLt := fun h hb => h.fpLt hb
  keep := fun h hs hk => h.keep hs hk
  new := pnew_c
  newBad := pnewBad_c
  size := fun h => by
    obtain ⟨_, bd, bv, ve, c, es, hm, _, _, hn⟩ := h
    exact psize_c hm hn
  online := fun h => by
    obtain ⟨_, bd, bv, ve, c, es, hm, _, _, hn⟩ := h
    exact ponline_c hm
  pending := fun h => by
    obtain ⟨_, bd, bv, ve, c, es, hm, he, _, hn⟩ := h
    rw [← ents_len he]
    exact ppending_c hm
  read := fun h _ at' => pread_c h at'
  write := fun h hf at' v b hv hb hap => pwrite_c h hf at' hv hb hap
  flush := fun h hf => pflush_c h hf
  failAfter := fun h n h1 h2 => pfailAfter_s h n h1 h2
  crash := fun h hf keep torn hk => pcrash_c h hf keep torn hk
  power := fun h => ppower_s h
end Go.Proofs.Ythknlimhenbhfaa
