/- A map whose keys are 0 .. n-1, at each of them any value: how it is made, and what is looked up in it. -/
import Derived.Test.YtcogckjpmmjmbaaGreatQCMMap
import Derived.Test.YtcogckjpmmjmbaaGreatQCWkSo
import Derived.Test.YtcogckjpmmjmbaaGreatQCGPlP
import Derived.Test.YtcogckjpmmjmbaaGreatQCMScene
import Derived.Test.YtcogckjpmmjmbaaGreatQCLaid
import Derived.Test.YtcogckjpmmjmbaaGreatQCMWorld
import Derived.Test.YtcogckjpmmjmbaaGreatQCMSound
import Derived.Test.YtcogckjpmmjmbaaGreatQCInsO
namespace Go.Proofs.YtcogckjpmmjmbaaGreat
open Go.ChangeShapes Go.WideShapes Go.ChangeAt Go.RowKit Go.ChangeMaps
set_option maxRecDepth 100000
set_option linter.unusedVariables false
def entF:Nat → List Value → List MapEntry
 | _,[] => []
 | i,v :: r => { key:=.int .i64 i,val:=v,born:=i } :: entF (i + 1) r
def MapF (w:World) (mb:Nat) (vs:List Value):Prop:=w.heap[mb]? = some (.map (entF 0 vs).toArray vs.length)
theorem MapF.lt {w:World} {mb:Nat} {vs:List Value} (h:MapF w mb vs):mb < w.heap.size:=(Array.getElem?_eq_some_iff.1 h).1
theorem MapF.but {S:Nat → Prop} {w w':World} {mb:Nat} {vs:List Value} (h:MapF w mb vs) (g:But S w w') (hs:¬ S mb):MapF w' mb vs:=by
 have e:w'.heap[mb]? = w.heap[mb]?:=g.1.block h.lt (fun p hp hpi => by subst hpi;exact hs hp)
 exact e.trans h
theorem MapF.grown {w w':World} {mb:Nat} {vs:List Value} (h:MapF w mb vs) (g:Grown w w'):MapF w' mb vs:=h.but (S:=fun _ => False) g (fun f => f)
theorem MapF.made (w:World):MapF (w.alloc (.map #[] 0)) w.heap.size []:=(MapKept.heap_alloc w _).1
section
variable {P:Program} {t k e:TypeId} {w:World} {mb:Nat} {vs:List Value}
end
end Go.Proofs.YtcogckjpmmjmbaaGreat
namespace Go.Proofs.YtcogckjpmmjmbaaGreat
set_option maxRecDepth 100000
set_option linter.unusedVariables false
theorem UOk.run {c:Cf} (hc:c.Ok) {y:Ku} {m:Int} {q:Nat} (h:UOk c y m q):∀ k:Nat,UOk c (runU c y k) (m + k) (q + k)
 | 0 => by simpa [runU] using h
 | k + 1 => by
  have:=(UOk.run hc h k).step hc
  rw [show m + (((k + 1:Nat)):Int) = m + k + 1 by omega,show q + (k + 1) = q + k + 1 by omega]
  exact this
end Go.Proofs.YtcogckjpmmjmbaaGreat
namespace Go.Proofs.YtcogckjpmmjmbaaGreat
open Go.ChangeShapes Go.WideShapes Go.ChangeAt Go.RowKit
set_option maxRecDepth 100000
set_option linter.unusedVariables false
theorem PlAt.new {w w':World} {c:Cf} {d:Wd} {s:St} {ws:List Int} {n:Int} {x:Put} {T:Nat} (h:WdAt w c d ws n s) (g:Grown w w') (hB:Box w' T x.l) (hT:w.heap.size ≤ T):PlAt w' c d T ⟨ws,n,s,x⟩ :=
 ⟨h.grown g,hB,h.ow_lt hT,fun e => by have:=h.xlt;omega,by have:=h.book.o6;omega⟩
end Go.Proofs.YtcogckjpmmjmbaaGreat
namespace Go.Proofs.YtcogckjpmmjmbaaGreat
set_option maxRecDepth 100000
set_option linter.unusedVariables false
def kyN (s:St) (a:Int):Int:=(calAt s (opAt s a)).key
def overV (c:Cf) (ws:List Int) (op:Int):Bool:=decide (2 ≤ wrdOf c ws op)
def firV (s:St) (op:Int) (l:List Int):Bool:=l.all fun y => !(opAt s y == op)
def opnV (c:Cf) (ws:List Int) (s:St) (key:Int) (l:List Int):Bool:=l.any fun y => (kyN s y == key) && !overV c ws (opAt s y)
def leV (s:St) (key:Int) (l:List Int):Bool:=l.all fun y => decide (kyN s y ≤ key)
def fitD (c:Cf) (ws:List Int) (s:St) (b:Int) (pre:List Int) (x:Int):Bool :=
  (decide ((calAt s (opAt s x)).kind = 1) && decide (zBucket (kyN s x) c.b = b) && !decide (x ∈ pre)) && (leV s (kyN s x) pre &&
    !(firV s (opAt s x) pre && ((refOf c ws x % 2 == 1 && !overV c ws (opAt s x)) || (opnV c ws s (kyN s x) pre && insV c ws s (opAt s x)))))
def sndD (c:Cf) (ws:List Int) (s:St) (b:Int):List Int → List Int → Bool
  | _,[] => true
  | pre,x :: r => if fitD c ws s b pre x = true then sndD c ws s b (pre ++ [x]) r else false
structure PsFor (c:Cf) (ws:List Int) (s:St) (p:Ps) (pre:List Int):Prop where
  nodes:∀ x,x ∈ p.nodes ↔ x ∈ pre
  ops:∀ o,o ∈ p.ops ↔ ∃ y ∈ pre,opAt s y = o
  opens:∀ k,k ∈ p.opens ↔ ∃ y ∈ pre,kyN s y = k ∧ ¬ 2 ≤ wrdOf c ws (opAt s y)
  key:∀ k,0 ≤ k → (k < p.key ↔ ∃ y ∈ pre,k < kyN s y)
theorem PsFor.fit {c:Cf} {ws:List Int} {s:St} {p:Ps} {pre:List Int} (h:PsFor c ws s p pre) (b x:Int) (hk:0 ≤ kyN s x):fitV c b p (ndOf c ws s x) = fitD c ws s b pre x:=by
  have e1:decide (x ∈ p.nodes) = decide (x ∈ pre):=decide_eq_decide.2 (h.nodes x)
  have e2:decide (kyN s x < p.key) = !leV s (kyN s x) pre:=by
    rw [Bool.eq_iff_iff,decide_eq_true_iff,h.key _ hk]
    simp [leV]
  have e3:decide (opAt s x ∈ p.ops) = !firV s (opAt s x) pre:=by
    rw [Bool.eq_iff_iff,decide_eq_true_iff,h.ops]
    simp [firV]
  have e4:decide (kyN s x ∈ p.opens) = opnV c ws s (kyN s x) pre:=by
    rw [Bool.eq_iff_iff,decide_eq_true_iff,h.opens]
    simp [opnV,overV]
  show (decide ((calAt s (opAt s x)).kind = 1) && decide (zBucket (kyN s x) c.b = b) && (if x ∈ p.nodes ∨ kyN s x < p.key then false else if opAt s x ∈ p.ops ∨ 2 ≤ wrdOf c ws (opAt s x) then true else !(refOf c ws x % 2 == 1) && !(decide (wrdOf c ws (opAt s x) = 1) && decide (kyN s x ∈ p.opens)))) =
    ((decide ((calAt s (opAt s x)).kind = 1) && decide (zBucket (kyN s x) c.b = b) && !decide (x ∈ pre)) && (leV s (kyN s x) pre &&
    !(firV s (opAt s x) pre && ((refOf c ws x % 2 == 1 && !decide (2 ≤ wrdOf c ws (opAt s x))) || (opnV c ws s (kyN s x) pre && decide ((calAt s (opAt s x)).kind = 1 ∧ wrdOf c ws (opAt s x) = 1))))))
  have e2':leV s (kyN s x) pre = !decide (kyN s x < p.key):=by rw [e2];simp
  have e3':firV s (opAt s x) pre = !decide (opAt s x ∈ p.ops):=by rw [e3];simp
  rw [e2',e3',← e1,← e4]
  generalize (calAt s (opAt s x)).kind = kd at *
  generalize decide (zBucket (kyN s x) c.b = b) = B
  generalize wrdOf c ws (opAt s x) = wv
  generalize (refOf c ws x % 2 == 1) = mk
  by_cases h1:x ∈ p.nodes
  · simp [h1]
  · by_cases h2:kyN s x < p.key
    · simp [h1,h2]
    · by_cases h3:opAt s x ∈ p.ops
      · simp [h1,h2,h3]
      · by_cases h4:2 ≤ wv
        · have h5:¬ wv = 1:=by omega
          simp [h1,h2,h3,h4,h5]
        · by_cases h5:kd = 1
          · simp [h1,h2,h3,h4,h5,Bool.and_comm]
          · simp [h5]
theorem PsFor.pass {c:Cf} {ws:List Int} {s:St} {p:Ps} {pre:List Int} (h:PsFor c ws s p pre) {b x:Int} (hf:fitD c ws s b pre x = true):PsFor c ws s (passV p (ndOf c ws s x)) (pre ++ [x]):=by
  have hle:∀ y ∈ pre,kyN s y ≤ kyN s x:=by
    unfold fitD at hf
    simp only [Bool.and_eq_true] at hf
    have:=hf.2.1
    unfold leV at this
    intro y hy
    exact of_decide_eq_true (List.all_eq_true.1 this y hy)
  refine ⟨fun y => ?_,fun o => ?_,fun k => ?_,fun k hk => ?_⟩
  · simp only [passV,ndOf,mem_addK,h.nodes,List.mem_append,List.mem_singleton]
  · simp only [passV,ndOf,mem_addK,h.ops,List.mem_append,List.mem_singleton]
    constructor
    · rintro (⟨y,hy,e⟩ | e)
      · exact ⟨y,.inl hy,e⟩
      · exact ⟨x,.inr rfl,e.symm⟩
    · rintro ⟨y,hy | hy,e⟩
      · exact .inl ⟨y,hy,e⟩
      · exact .inr (by rw [← e,hy])
  · show (k ∈ if 2 ≤ wrdOf c ws (opAt s x) then p.opens else addK p.opens (kyN s x)) ↔ _
    by_cases h2:2 ≤ wrdOf c ws (opAt s x)
    · rw [if_pos h2,h.opens]
      constructor
      · rintro ⟨y,hy,e⟩
        exact ⟨y,List.mem_append.2 (.inl hy),e⟩
      · rintro ⟨y,hy,e,e2⟩
        rcases List.mem_append.1 hy with hy | hy
        · exact ⟨y,hy,e,e2⟩
        · rw [List.mem_singleton] at hy
          subst hy
          exact absurd h2 e2
    · rw [if_neg h2,mem_addK,h.opens]
      constructor
      · rintro (⟨y,hy,e⟩ | e)
        · exact ⟨y,List.mem_append.2 (.inl hy),e⟩
        · exact ⟨x,List.mem_append.2 (.inr (List.mem_singleton.2 rfl)),e.symm,h2⟩
      · rintro ⟨y,hy,e,e2⟩
        rcases List.mem_append.1 hy with hy | hy
        · exact .inl ⟨y,hy,e,e2⟩
        · rw [List.mem_singleton] at hy
          subst hy
          exact .inr e.symm
  · simp only [passV,ndOf]
    constructor
    · intro q
      exact ⟨x,List.mem_append.2 (.inr (List.mem_singleton.2 rfl)),q⟩
    · rintro ⟨y,hy,q⟩
      rcases List.mem_append.1 hy with hy | hy
      · exact Int.lt_of_lt_of_le q (hle y hy)
      · rw [List.mem_singleton] at hy
        subst hy
        exact q
theorem PsFor.snd {c:Cf} {ws:List Int} {s:St} {b:Int} (hk:∀ a,0 ≤ kyN s a):∀ {l:List Int} {p:Ps} {pre:List Int},PsFor c ws s p pre → sndL c ws s b p l = sndD c ws s b pre l
  | [],_,_,_ => rfl
  | x :: r,p,pre,h => by
    unfold sndL sndD
    rw [h.fit b x (hk x)]
    by_cases hf:fitD c ws s b pre x = true
    · rw [if_pos hf,if_pos hf]
      exact PsFor.snd hk (h.pass hf)
    · rw [if_neg hf,if_neg hf]
theorem sndB_D {c:Cf} {ws:List Int} {s:St} {b:Int} (hk:∀ a,0 ≤ kyN s a):sndB c ws s b = sndD c ws s b [] (chainI c ws b) :=
  PsFor.snd hk ⟨fun x => by simp [ps0],fun o => by simp [ps0],fun k => by simp [ps0],fun k q => by simp [ps0];omega⟩
def KeyOk (s:St):Prop:=∀ x ∈ s.ops,0 ≤ x.2.key
theorem KeyOk.cal {s:St} (h:KeyOk s) (o:Int):0 ≤ (calAt s o).key:=by
  unfold calAt
  rcases hl:lookI s.ops o with _ | x
  · exact Int.le_refl _
  · unfold lookI at hl
    split at hl
    · cases hl
    · exact h _ (look_mem hl)
theorem KeyOk.ky {s:St} (h:KeyOk s) (a:Int):0 ≤ kyN s a:=h.cal _
theorem KeyOk.begin_ {c:Cf} {s:St} (h:KeyOk s) (th:Int) {x:Cal} (hx:0 ≤ x.key):KeyOk (beginI c s th x).1:=by
  unfold beginI
  split
  · exact h
  · unfold beginS
    repeat' split
    all_goals first
      | exact h
      | (intro y hy
         simp only [List.mem_append,List.mem_singleton] at hy
         rcases hy with hy | hy
         · exact h y hy
         · subst hy
           exact hx)
theorem KeyOk.make {c:Cf} {s:St} (h:KeyOk s) (th op:Int):KeyOk (makeI c s th op).1:=by
  unfold makeI
  split
  · exact h
  · unfold makeS
    split <;> exact h
theorem lyC_key {c:Cf}:∀ (cs:List Cal) {s:St},KeyOk s → (∀ x ∈ cs,0 ≤ x.key) → KeyOk (lyC c s cs)
  | [],_,h,_ => h
  | x :: r,s,h,hx => by
    unfold lyC
    rw [List.foldl_cons]
    exact lyC_key r (h.begin_ 2 (hx x (List.mem_cons_self ..))) (fun y hy => hx y (List.mem_cons_of_mem _ hy))
theorem lyI_key {c:Cf} {L:Ly} {x:It} (h:KeyOk L.s) (hx:0 ≤ x.key):KeyOk (lyI c L x).s:=by
  unfold lyI lyB lyA
  split
  · exact h.make _ _
  · exact (h.begin_ 0 hx).make _ _
theorem layL_key {c:Cf} (xs:List It) (hx:∀ x ∈ xs,0 ≤ x.key):KeyOk (layL c xs).s:=by
  have hall:∀ (xs:List It) (L:Ly),KeyOk L.s → (∀ x ∈ xs,0 ≤ x.key) → KeyOk (xs.foldl (lyI c) L).s:=by
    intro xs
    induction xs with
    | nil => intro L h _;exact h
    | cons x r ih =>
      intro L h hx
      rw [List.foldl_cons]
      exact ih _ (lyI_key h (hx x (List.mem_cons_self ..))) (fun y hy => hx y (List.mem_cons_of_mem _ hy))
  exact hall xs _ (fun x hx => by cases hx) hx
end Go.Proofs.YtcogckjpmmjmbaaGreat
