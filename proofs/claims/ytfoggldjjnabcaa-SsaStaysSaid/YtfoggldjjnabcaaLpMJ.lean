/- Loops, in mathematics: a head dominates what is in its loop; two loops are apart, or one in the other. No condition. -/
import Derived.Test.YtfoggldjjnabcaaGrMJ
namespace Go.Proofs.Ytfoggldjjnabcaa
set_option linter.unusedVariables false
variable {bs:List BlkD} {ord:Nat→Nat}
theorem Reach.first {nx:Nat→List Nat} {a b:Nat} (h:Reach nx a b):a=b∨∃ c,c∈nx a∧Reach nx c b:=by
  induction h with
  | refl=>exact .inl rfl
  | @step x y _ hy ih =>
    rcases ih with rfl | ⟨c,h1,h2⟩
    · exact .inr ⟨y,hy,.refl⟩
    · exact .inr ⟨c,h1,.step h2 hy⟩
theorem orderF_mem {x:Nat}:x∈qK bs↔qE bs x=true:=by unfold qK qE reachB;rw [decide_eq_true_iff]
theorem orderF_dm {i x:Nat} (hi:(qK bs)[i]?=some x):∀ a,dmB bs a x=true→a∈(qK bs).take (i+1):=by
  induction i using Nat.strongRecOn generalizing x with
  | _ i ih =>
    intro a ha
    by_cases e:a=x
    · subst e;exact List.mem_iff_getElem?.2 ⟨i,by rw [List.getElem?_take_of_lt (by omega)];exact hi⟩
    · have hn:bs.length≠0:=fun h0=>by
        have hx:x∈qK bs:=List.mem_iff_getElem?.2 ⟨i,hi⟩;have:=reachF_lt (orderF_mem.1 hx);omega
      by_cases h0:i=0
      · subst h0;have h1:=orderL_first (qe bs) hn;unfold qK at hi;rw [h1] at hi;cases hi
        -- nothing else dominates the first one
        exfalso;unfold dmB at ha;rw [Bool.and_eq_true,Bool.or_eq_true,decide_eq_true_iff] at ha;rcases ha.2 with h2 | h2
        · exact e h2
        · by_cases ea:a=0
          · exact e ea
          · rw [(qy (by omega) ea 0).2 .refl] at h2;cases h2
      · obtain ⟨j,y,hj,hy,hxy⟩:=orderL_led (qe bs) hi (by omega);have hry:qE bs y=true:=orderF_mem.1 (List.mem_iff_getElem?.2 ⟨j,hy⟩);have:=ih j hj hy a (near_pred (by omega) ha e hry hxy);exact List.take_subset_take_left _ (by omega) this
theorem orderF_nodup (bs:List BlkD):(qK bs).Nodup:=orderL_nodup (qe bs)
end Go.Proofs.Ytfoggldjjnabcaa
