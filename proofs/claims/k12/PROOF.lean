import PyProof.Rows.All
import Wide.All
import OpenK.AllK
import Wide.FinOn
import HandS.ForMost
import HandS.ForExc
import HandS.Wide
import HandS.Conv
import HandS.Zip
import HandS.IsInst
import HandS.ExcOwn
import HandS.WordsExc
import HandS.Comp
import HandS.EndBits
import HandS.ExcCtx
import HandS.TupMul
import HandS.TupAny
import HandS.Deep
import HandS.SortInts
import HandS.Dict
import HandS.More
import KE.DatumIndex
import PyProof.CallFns
import PyProof.ReprRoads
import KE.GoesEnumKw
import HandS.DictComp
import HandS.Star
import HandS.SetKeys
import HandS.Style
import HandS.SortKw
import KE.OsGo
import HandS.ExcField
import HandS.Iter
import HandS.HotCalls
import HandS.Hot
import HandS.TupSets
import PySem.Challenge.RW_leavefirst_k12_names_that_plans_lack
set_option Elab.async false
set_option linter.all false
set_option maxRecDepth 100000
/-! ## DCore -/
set_option maxHeartbeats 1000000
/-! A data layer over the hand layer: what an expression, a statement, a def does as a plain function of data and a store of lists and dicts. -/
namespace DL
open PySem PySem.Spec L2

/-! ### data -/
/-- a value: tuples are data, lists and dicts stand in the store -/
inductive D where
  | non | bl (b : Bool) | int (i : Int) | str (x : Str) | tup (ds : List D) | kl (ds : List D) | loc (n : Nat) | exc (a d : Nat) (ns : List Str) (ds : List D)
/-- what an expression gives: a value, or a new list that nobody holds yet -/
inductive F where
  | v (d : D) | l (ds : List D)
inductive O where
  | lst (ds : List D) | dct (kvs : List (D × D)) | dtt (kvs : List (D × D)) | fzd (kvs : List (D × D)) | fzt (kvs : List (D × D))
abbrev Sto := List O
abbrev Env := List (Option D)
structure Exn where
  cls : Str
  fs : List (Str × D)
inductive R (α : Type) where
  | ok (a : α) (S : Sto) | err (x : Exn) (S : Sto) | bad
inductive RS where
  | nx (ρ : Env) (S : Sto) | rt (d : F) (S : Sto) | bk (ρ : Env) (S : Sto) | ct (ρ : Env) (S : Sto) | err (x : Exn) (ρ : Env) (S : Sto) | bad
def R.bind {α β : Type} (r : R α) (f : α → Sto → R β) : R β := match r with
  | .ok a S => f a S
  | .err x S => .err x S
  | .bad => .bad
@[simp] theorem R.bind_ok {α β : Type} (a : α) (S : Sto) (f : α → Sto → R β) : (R.ok a S).bind f = f a S := rfl
@[simp] theorem R.bind_err {α β : Type} (x : Exn) (S : Sto) (f : α → Sto → R β) : (R.err x S).bind f = .err x S := rfl
@[simp] theorem R.bind_bad {α β : Type} (f : α → Sto → R β) : (R.bad : R α).bind f = .bad := rfl

/-! ### how data lie in the heap -/
/-- a list that never changes: the script, a list of the module's top -/
def SqF (K : PySem.W.Frag) (H : Hp) (a : Addr) (xs : List V) : Prop := (∃ o, H a = some (.frz o (.lst xs))) ∨
  ∃ (o : Obj) (its : Array Value) (n : Nat), K.lookup a = some o ∧ o.cls = .type "list" ∧ o.dict = none ∧ o.data = .seq its n ∧ its.size ≤ sizeLine ∧ Vals xs its.toList
theorem SqF.l {K : PySem.W.Frag} {H : Hp} {a : Addr} {xs : List V} (h : SqF K H a xs) : SqL K H a xs := by
  rcases h with ⟨o, h⟩ | h
  · exact .inl (.inr ⟨o, h⟩)
  · exact .inr h
mutual
inductive RV (K : PySem.W.Frag) (μ : List Addr) (H : Hp) : D → V → Prop
  | non : RV K μ H .non .non
  | bl {b} : RV K μ H (.bl b) (.bl b)
  | int {i} : RV K μ H (.int i) (.int i)
  | str {x} : RV K μ H (.str x) (.str x)
  | tup {a vs ds} : SqT K H a vs → RVs K μ H ds vs → RV K μ H (.tup ds) (.ref a)
  | kl {a vs ds} : SqF K H a vs → RVs K μ H ds vs → RV K μ H (.kl ds) (.ref a)
  | loc {n a} : μ[n]? = some a → RV K μ H (.loc n) (.ref a)
  | exc {a d gs ns ds vs} : H d = some (.xd gs) → gs.map (·.1) = ns → gs.map (·.2) = vs → RVs K μ H ds vs → RV K μ H (.exc a d ns ds) (.ref a)
inductive RVs (K : PySem.W.Frag) (μ : List Addr) (H : Hp) : List D → List V → Prop
  | nil : RVs K μ H [] []
  | cons {d v ds vs} : RV K μ H d v → RVs K μ H ds vs → RVs K μ H (d :: ds) (v :: vs)
end
/-- from one state to a later one -/
structure Kp (K : PySem.W.Frag) (μ : List Addr) (H : Hp) (μ' : List Addr) (H' : Hp) : Prop where
  pre : ∃ t, μ' = μ ++ t
  tup : ∀ a xs, SqT K H a xs → SqT K H' a xs
  kls : ∀ a xs, SqF K H a xs → SqF K H' a xs
  frm : ∀ a o, H a = some o → a ∉ μ → H' a = some o
  fr : ∀ a, a ∈ μ' → a ∈ μ ∨ H a = none
  liv : ∀ a, H' a = none → H a = none
  xds : ∀ a gs, H a = some (.xd gs) → H' a = some (.xd gs)
  fzs : ∀ a od u, H a = some (.frz od u) → H' a = some (.frz od u)
theorem Kp.refl {K : PySem.W.Frag} {μ : List Addr} {H : Hp} : Kp K μ H μ H := ⟨⟨[], by simp⟩, fun _ _ h => h, fun _ _ h => h, fun _ _ h _ => h, fun _ h => .inl h, fun _ h => h, fun _ _ h => h, fun _ _ _ h => h⟩
theorem Kp.trans {K : PySem.W.Frag} {μ μ1 μ2 : List Addr} {H H1 H2 : Hp} (a : Kp K μ H μ1 H1) (b : Kp K μ1 H1 μ2 H2) : Kp K μ H μ2 H2 := by
  obtain ⟨t, rfl⟩ := a.pre
  obtain ⟨u, rfl⟩ := b.pre
  refine ⟨⟨t ++ u, by simp⟩, fun x xs h => b.tup x xs (a.tup x xs h), fun x xs h => b.kls x xs (a.kls x xs h), fun x o h hx => ?_, fun x hx => ?_, fun x h => a.liv x (b.liv x h), fun x gs h => b.xds x gs (a.xds x gs h), fun x od u h => b.fzs x od u (a.fzs x od u h)⟩
  · refine b.frm x o (a.frm x o h hx) fun hm => ?_
    rcases a.fr x hm with z | z
    · exact hx z
    · rw [z] at h; cases h
  · rcases b.fr x hx with z | z
    · exact a.fr x z
    · by_cases hm : x ∈ μ
      · exact .inl hm
      · right
        cases e : H x with
        | none => rfl
        | some o =>
          have := a.frm x o e hm
          rw [z] at this; cases this
theorem Kp.get {K : PySem.W.Frag} {μ μ1 : List Addr} {H H1 : Hp} (a : Kp K μ H μ1 H1) {n : Nat} {x : Addr} (h : μ[n]? = some x) : μ1[n]? = some x := by
  obtain ⟨t, rfl⟩ := a.pre
  have : n < μ.length := by
    rcases Nat.lt_or_ge n μ.length with q | q
    · exact q
    · rw [List.getElem?_eq_none q] at h; cases h
  rw [List.getElem?_append_left this]
  exact h
mutual
theorem RV.mono {K : PySem.W.Frag} {μ μ' : List Addr} {H H' : Hp} (k : Kp K μ H μ' H') : ∀ {d v}, RV K μ H d v → RV K μ' H' d v
  | _, _, .non => .non
  | _, _, .bl => .bl
  | _, _, .int => .int
  | _, _, .str => .str
  | _, _, .tup h hs => .tup (k.tup _ _ h) (RVs.mono k hs)
  | _, _, .kl h hs => .kl (k.kls _ _ h) (RVs.mono k hs)
  | _, _, .loc h => .loc (k.get h)
  | _, _, .exc h h1 h2 hs => .exc (k.xds _ _ h) h1 h2 (RVs.mono k hs)
theorem RVs.mono {K : PySem.W.Frag} {μ μ' : List Addr} {H H' : Hp} (k : Kp K μ H μ' H') : ∀ {d v}, RVs K μ H d v → RVs K μ' H' d v
  | _, _, .nil => .nil
  | _, _, .cons h hs => .cons (RV.mono k h) (RVs.mono k hs)
end
section
variable {K : PySem.W.Frag} {μ μ' : List Addr} {H H' : Hp}
theorem RVs.length : ∀ {ds vs}, RVs K μ H ds vs → ds.length = vs.length
  | _, _, .nil => rfl
  | _, _, .cons _ hs => by simp [RVs.length hs]
theorem RVs.append : ∀ {ds vs es us}, RVs K μ H ds vs → RVs K μ H es us → RVs K μ H (ds ++ es) (vs ++ us)
  | _, _, _, _, .nil, h => h
  | _, _, _, _, .cons a b, h => .cons a (RVs.append b h)
theorem RVs.get : ∀ {ds : List D} {vs : List V} {i : Nat} {d : D}, RVs K μ H ds vs → ds[i]? = some d → ∃ v, vs[i]? = some v ∧ RV K μ H d v
  | _, _, _, _, .nil, h => by simp at h
  | _, _, 0, _, .cons a _, h => by simp at h; subst h; exact ⟨_, rfl, a⟩
  | _, _, i + 1, _, .cons _ b, h => by
    obtain ⟨v, h1, h2⟩ := RVs.get (i := i) b (by simpa using h)
    exact ⟨v, by simpa using h1, h2⟩
theorem RVs.set : ∀ {ds vs d v} (i : Nat), RVs K μ H ds vs → RV K μ H d v → RVs K μ H (ds.set i d) (vs.set i v)
  | _, _, _, _, _, .nil, _ => .nil
  | _, _, _, _, 0, .cons _ b, h => .cons h b
  | _, _, _, _, i + 1, .cons a b, h => .cons a (RVs.set i b h)
theorem RVs.take : ∀ {ds vs} (n : Nat), RVs K μ H ds vs → RVs K μ H (ds.take n) (vs.take n)
  | _, _, 0, _ => .nil
  | _, _, _ + 1, .nil => .nil
  | _, _, n + 1, .cons a b => .cons a (RVs.take n b)
theorem RVs.drop : ∀ {ds vs} (n : Nat), RVs K μ H ds vs → RVs K μ H (ds.drop n) (vs.drop n)
  | _, _, 0, h => h
  | _, _, _ + 1, .nil => .nil
  | _, _, n + 1, .cons _ b => RVs.drop n b
theorem RVs.insertAt {ds vs d v} (i : Nat) (h : RVs K μ H ds vs) (hd : RV K μ H d v) : RVs K μ H (ds.take i ++ d :: ds.drop i) (vs.take i ++ v :: vs.drop i) :=
  (h.take i).append (.cons hd (h.drop i))
end
/-- a key of a dict -/
def dKey : D → Option Key
  | .int i => some (.inl i)
  | .str x => some (.inr x)
  | _ => none
def dKeys : List D → Option (List Key)
  | [] => some []
  | d :: ds => match dKey d, dKeys ds with
    | some k, some ks => some (k :: ks)
    | _, _ => none
/-- the entries of a dict whose keys are ints and texts; tuples of these -/
inductive RKs (K : PySem.W.Frag) (μ : List Addr) (H : Hp) : List (D × D) → List (Key × V) → Prop
  | nil : RKs K μ H [] []
  | cons {k key d v kvs r} : dKey k = some key → RV K μ H d v → RKs K μ H kvs r → RKs K μ H ((k, d) :: kvs) ((key, v) :: r)
inductive RTs (K : PySem.W.Frag) (μ : List Addr) (H : Hp) : List (D × D) → List (List Key × V) → Prop
  | nil : RTs K μ H [] []
  | cons {ks keys d v kvs r} : dKeys ks = some keys → RV K μ H d v → RTs K μ H kvs r → RTs K μ H ((.tup ks, d) :: kvs) ((keys, v) :: r)
theorem RKs.mono {K : PySem.W.Frag} {μ μ' : List Addr} {H H' : Hp} (k : Kp K μ H μ' H') : ∀ {a b}, RKs K μ H a b → RKs K μ' H' a b
  | _, _, .nil => .nil
  | _, _, .cons h r t => .cons h (r.mono k) (t.mono k)
theorem RTs.mono {K : PySem.W.Frag} {μ μ' : List Addr} {H H' : Hp} (k : Kp K μ H μ' H') : ∀ {a b}, RTs K μ H a b → RTs K μ' H' a b
  | _, _, .nil => .nil
  | _, _, .cons h r t => .cons h (r.mono k) (t.mono k)
inductive RO (K : PySem.W.Frag) (μ : List Addr) (H : Hp) : O → Addr → Prop
  | lst {a vs ds} : H a = some (.lst vs) → RVs K μ H ds vs → RO K μ H (.lst ds) a
  | dK {a kvs r} : H a = some (.dK r) → RKs K μ H kvs r → RO K μ H (.dct kvs) a
  | dT {a kvs r} : H a = some (.dT r) → RTs K μ H kvs r → RO K μ H (.dtt kvs) a
  | fK {a kvs r od} : H a = some (.frz od (.dK r)) → RKs K μ H kvs r → RO K μ H (.fzd kvs) a
  | fT {a kvs r od} : H a = some (.frz od (.dT r)) → RTs K μ H kvs r → RO K μ H (.fzt kvs) a
structure Rep (K : PySem.W.Frag) (μ : List Addr) (S : Sto) (H : Hp) : Prop where
  len : μ.length = S.length
  nd : μ.Nodup
  obj : ∀ (i : Nat) (o : O) (a : Addr), S[i]? = some o → μ[i]? = some a → RO K μ H o a
structure RE (K : PySem.W.Frag) (μ : List Addr) (H : Hp) (ρ : Env) (σ : St) : Prop where
  len : ρ.length = σ.length
  at' : ∀ (i : Nat) (d : D), ρ[i]? = some (some d) → ∃ v, σ[i]? = some (some v) ∧ RV K μ H d v
theorem RE.mono {K : PySem.W.Frag} {μ μ' : List Addr} {H H' : Hp} {ρ : Env} {σ : St} (r : RE K μ H ρ σ) (k : Kp K μ H μ' H') : RE K μ' H' ρ σ :=
  ⟨r.len, fun i d h => by obtain ⟨v, h1, h2⟩ := r.at' i d h; exact ⟨v, h1, h2.mono k⟩⟩
theorem RE.set {K : PySem.W.Frag} {μ : List Addr} {H : Hp} {ρ : Env} {σ : St} {d : D} {v : V} (r : RE K μ H ρ σ) (i : Nat) (h : RV K μ H d v) : RE K μ H (ρ.set i (some d)) (σ.set i (some v)) := by
  refine ⟨by rw [List.length_set, List.length_set, r.len], fun j e q => ?_⟩
  by_cases hj : i = j
  · subst hj
    have hl : i < ρ.length := by
      rcases Nat.lt_or_ge i ρ.length with z | z
      · exact z
      · rw [List.getElem?_eq_none (by rw [List.length_set]; exact z)] at q; cases q
    rw [List.getElem?_set_self hl] at q
    cases q
    exact ⟨v, by rw [List.getElem?_set_self (by rw [← r.len]; exact hl)], h⟩
  · rw [List.getElem?_set_ne hj] at q
    rw [List.getElem?_set_ne hj]
    exact r.at' j e q
/-- H0: the heap ahead of it (a new list was not there) -/
inductive RF (K : PySem.W.Frag) (H0 : Hp) (μ : List Addr) (H : Hp) : F → V → Prop
  | v {d v} : RV K μ H d v → RF K H0 μ H (.v d) v
  | l {a vs ds} : H a = some (.lst vs) → a ∉ μ → H0 a = none → RVs K μ H ds vs → RF K H0 μ H (.l ds) (.ref a)
theorem RF.mono {K : PySem.W.Frag} {μ μ' : List Addr} {H0 H H' : Hp} (k : Kp K μ H μ' H') {f : F} {v : V} : RF K H0 μ H f v → RF K H0 μ' H' f v
  | .v h => .v (h.mono k)
  | .l h n n0 r => .l (k.frm _ _ h n) (fun hm => by
      rcases k.fr _ hm with z | z
      · exact n z
      · rw [z] at h; cases h) n0 (r.mono k)
theorem RF.back {K : PySem.W.Frag} {μ : List Addr} {H0 H1 H : Hp} (l : ∀ a, H1 a = none → H0 a = none) {f : F} {v : V} : RF K H1 μ H f v → RF K H0 μ H f v
  | .v h => .v h
  | .l h n n0 r => .l h n (l _ n0) r
/-- an exception: its class by name, its fields -/
def RX (K : PySem.W.Frag) (mg : Str → Option Value) (μ : List Addr) (H : Hp) (x : Exn) (cls : Value) (dx : Option Addr) : Prop :=
  ∃ C, mg x.cls = some (.ref C) ∧ cls = .ref C ∧ (x.fs = [] ∨ ∃ d gs, dx = some d ∧ H d = some (.xd gs) ∧ gs.map (·.1) = x.fs.map (·.1) ∧ RVs K μ H (x.fs.map (·.2)) (gs.map (·.2)))

/-! ### what is wanted of an end -/
def Post {α β : Type} (K : PySem.W.Frag) (mg : Str → Option Value) (W : WX) (RR : Hp → List Addr → Hp → α → β → Prop) (σ : St) (μ : List Addr) (H : Hp) (Q : β → Hp → Prop) : R α → Prop
  | .ok a S' => ∀ μ' H' b, Kp K μ H μ' H' → Rep K μ' S' H' → RR H μ' H' a b → Q b H'
  | .err x S' => ∀ μ' H' cls dx, Kp K μ H μ' H' → Rep K μ' S' H' → RX K mg μ' H' x cls dx → W cls dx σ H'
  | .bad => False
def Bk {α β : Type} (RR : Hp → List Addr → Hp → α → β → Prop) : Prop := ∀ (H0 H1 : Hp) (μ : List Addr) (H : Hp) (a : α) (b : β), (∀ x, H1 x = none → H0 x = none) → RR H1 μ H a b → RR H0 μ H a b
theorem Post.step {α β : Type} {K : PySem.W.Frag} {mg : Str → Option Value} {W : WX} {RR : Hp → List Addr → Hp → α → β → Prop} {σ : St} {μ μ1 : List Addr} {H H1 : Hp} {Q : β → Hp → Prop} {r : R α} (bk : Bk RR) (k : Kp K μ H μ1 H1) (p : Post K mg W RR σ μ H Q r) : Post K mg W RR σ μ1 H1 Q r := by
  cases r with
  | ok a S => exact fun μ' H' b k' rp rr => p μ' H' b (k.trans k') rp (bk _ _ _ _ _ _ k.liv rr)
  | err x S => exact fun μ' H' cls dx k' => p μ' H' cls dx (k.trans k')
  | bad => exact p
theorem Post.imp {α β : Type} {K : PySem.W.Frag} {mg : Str → Option Value} {W : WX} {RR : Hp → List Addr → Hp → α → β → Prop} {σ : St} {μ : List Addr} {H : Hp} {Q Q' : β → Hp → Prop} {r : R α} (p : Post K mg W RR σ μ H Q r) (h : ∀ b H', Q b H' → Q' b H') : Post K mg W RR σ μ H Q' r := by
  cases r with
  | ok a S => exact fun μ' H' b k' rp rr => h _ _ (p μ' H' b k' rp rr)
  | err x S => exact p
  | bad => exact p
/-- a bind -/
theorem Post.bind {α β γ δ : Type} {K : PySem.W.Frag} {mg : Str → Option Value} {W : WX} {RA : Hp → List Addr → Hp → α → γ → Prop} {RB : Hp → List Addr → Hp → β → δ → Prop} {σ : St} {μ : List Addr} {H : Hp} {Q : δ → Hp → Prop} {r : R α} {f : α → Sto → R β} (bk : Bk RB) (p : Post K mg W RB σ μ H Q (r.bind f))
    {T : γ → Hp → Prop} (h : ∀ a S1 μ1 H1 c, r = .ok a S1 → Kp K μ H μ1 H1 → Rep K μ1 S1 H1 → RA H μ1 H1 a c → Post K mg W RB σ μ1 H1 Q (f a S1) → T c H1) : Post K mg W RA σ μ H T r := by
  cases r with
  | ok a S => exact fun μ' H' c k rp ra => h a S μ' H' c rfl k rp ra (Post.step bk k p)
  | err x S => exact p
  | bad => exact p
/-- a reading by a function of data -/
def lift {α β : Type} (K : PySem.W.Frag) (mg : Str → Option Value) (W : WX) (RR : Hp → List Addr → Hp → α → β → Prop) (ee : Env → Sto → R α) : St → Hp → (β → Hp → Prop) → Prop := fun σ H Q =>
  ∃ μ S ρ, Rep K μ S H ∧ RE K μ H ρ σ ∧ Post K mg W RR σ μ H Q (ee ρ S)
def PostS (K : PySem.W.Frag) (mg : Str → Option Value) (W : WX) (μ : List Addr) (H : Hp) (E : Ends) : RS → Prop
  | .nx ρ' S' => ∀ μ' H' σ', Kp K μ H μ' H' → Rep K μ' S' H' → RE K μ' H' ρ' σ' → E.nx σ' H'
  | .bk ρ' S' => ∀ μ' H' σ', Kp K μ H μ' H' → Rep K μ' S' H' → RE K μ' H' ρ' σ' → E.bk σ' H'
  | .ct ρ' S' => ∀ μ' H' σ', Kp K μ H μ' H' → Rep K μ' S' H' → RE K μ' H' ρ' σ' → E.ct σ' H'
  | .rt f S' => ∀ μ' H' v, Kp K μ H μ' H' → Rep K μ' S' H' → RF K H μ' H' f v → E.rt v H'
  | .err x ρ' S' => ∀ μ' H' σ' cls dx, Kp K μ H μ' H' → Rep K μ' S' H' → RE K μ' H' ρ' σ' → RX K mg μ' H' x cls dx → W cls dx σ' H'
  | .bad => False
theorem PostS.step {K : PySem.W.Frag} {mg : Str → Option Value} {W : WX} {μ μ1 : List Addr} {H H1 : Hp} {E : Ends} {r : RS} (k : Kp K μ H μ1 H1) (p : PostS K mg W μ H E r) : PostS K mg W μ1 H1 E r := by
  cases r with
  | nx ρ S => exact fun μ' H' b k' => p μ' H' b (k.trans k')
  | bk ρ S => exact fun μ' H' b k' => p μ' H' b (k.trans k')
  | ct ρ S => exact fun μ' H' b k' => p μ' H' b (k.trans k')
  | rt f S => exact fun μ' H' b k' rp rf => p μ' H' b (k.trans k') rp (rf.back k.liv)
  | err x ρ S => exact fun μ' H' σ' cls dx k' => p μ' H' σ' cls dx (k.trans k')
  | bad => exact p
def liftS (K : PySem.W.Frag) (mg : Str → Option Value) (W : WX) (se : Env → Sto → RS) : TS := fun E σ H =>
  ∃ μ S ρ, Rep K μ S H ∧ RE K μ H ρ σ ∧ PostS K mg W μ H E (se ρ S)

theorem bk_f {K : PySem.W.Frag} : Bk (RF K) := fun _ _ _ _ _ _ l h => h.back l
theorem bk_vs {K : PySem.W.Frag} : Bk (fun (_ : Hp) => RVs K) := fun _ _ _ _ _ _ _ h => h
theorem bk_v {K : PySem.W.Frag} : Bk (fun (_ : Hp) => RV K) := fun _ _ _ _ _ _ _ h => h
theorem bk_e {α : Type} : Bk (fun (_ : Hp) (_ : List Addr) (_ : Hp) (a b : α) => a = b) := fun _ _ _ _ _ _ _ h => h
/-! ### the judgements -/
def PD (X : Cx) (W : WX) (e : Expr) (ee : Env → Sto → R F) : Prop := PE X e (lift X.K X.mg W (RF X.K) ee)
def PDA (X : Cx) (W : WX) (es : List Expr) (ea : Env → Sto → R (List D)) : Prop := PA X es (lift X.K X.mg W (fun _ => RVs X.K) ea)
def PDT (X : Cx) (W : WX) (e : Expr) (et : Env → Sto → R Bool) : Prop := PT X e (lift X.K X.mg W (fun _ _ _ a b => a = b) et)
def PDS (X : Cx) (W : WX) (st : Stmt) (se : Env → Sto → RS) : Prop := PS X st (liftS X.K X.mg W se)
def PDSs (X : Cx) (W : WX) (st : List Stmt) (se : Env → Sto → RS) : Prop := PSs X st (liftS X.K X.mg W se)
section
variable {X : Cx} {W : WX}
theorem PE.imp {e : Expr} {t t' : TE} (h : PE X e t) (i : ∀ σ H Q, t' σ H Q → t σ H Q) : PE X e t' := ⟨fun pins s σ H Q I q => h.run pins s σ H Q I (i _ _ _ q)⟩
theorem PA.imp {e : List Expr} {t t' : TA} (h : PA X e t) (i : ∀ σ H Q, t' σ H Q → t σ H Q) : PA X e t' := ⟨fun pos pins s σ H Q I q => h.run pos pins s σ H Q I (i _ _ _ q)⟩
theorem PT.imp {e : Expr} {t t' : TT} (h : PT X e t) (i : ∀ σ H Q, t' σ H Q → t σ H Q) : PT X e t' := ⟨fun pins s σ H Q I q => h.run pins s σ H Q I (i _ _ _ q)⟩
theorem PS.imp {e : Stmt} {t t' : TS} (h : PS X e t) (i : ∀ D σ H, t' D σ H → t D σ H) : PS X e t' := ⟨fun pins s σ H D I q => h.run pins s σ H D I (i _ _ _ q)⟩
theorem PSs.imp {e : List Stmt} {t t' : TS} (h : PSs X e t) (i : ∀ D σ H, t' D σ H → t D σ H) : PSs X e t' := ⟨fun pins s σ H D I q => h.run pins s σ H D I (i _ _ _ q)⟩
end
end DL
/-! ## DRep -/
set_option maxHeartbeats 1000000
namespace DL
open PySem PySem.Spec L2
section
variable {K : PySem.W.Frag} {μ μ' : List Addr} {H H' : Hp} {S : Sto} {p a : Addr} {o : HO}
/-- what may be overwritten without touching tuples -/
def Free (H : Hp) (p : Addr) : Prop := H p = none ∨ (∃ ys, H p = some (.lst ys)) ∨ (∃ z, H p = some (.dK z)) ∨ (∃ z, H p = some (.dT z))
theorem Free.rd {u : HO} {x : Addr} (f : Free H p) (h : Rd H x u) (hu : ∃ xs, u = .tup xs) : x ≠ p := by
  obtain ⟨xs, rfl⟩ := hu
  rintro rfl
  rcases h with h | ⟨o, h⟩ <;> rcases f with z | ⟨_, z⟩ | ⟨_, z⟩ | ⟨_, z⟩ <;> (rw [z] at h; cases h)
theorem rd_upd {u : HO} {x : Addr} (h : Rd H x u) (n : x ≠ p) : Rd (upd H p o) x u := by
  rcases h with h | ⟨q, h⟩
  · left; rw [upd_ne n]; exact h
  · right; exact ⟨q, by rw [upd_ne n]; exact h⟩
theorem sqT_upd {x : Addr} {xs : List V} (f : Free H p) (h : SqT K H x xs) : SqT K (upd H p o) x xs := by
  rcases h with h | h
  · exact .inl (rd_upd h (f.rd h ⟨_, rfl⟩))
  · exact .inr h
theorem sqL_upd {x : Addr} {xs : List V} (n : x ≠ p) (h : SqL K H x xs) : SqL K (upd H p o) x xs := by
  rcases h with h | h
  · exact .inl (rd_upd h n)
  · exact .inr h
theorem live_upd {x : Addr} (h : upd H p o x = none) : H x = none := by
  by_cases e : x = p
  · subst e; rw [upd_same] at h; cases h
  · rw [upd_ne e] at h; exact h
theorem sqF_upd {x : Addr} {xs : List V} (f : Free H p) (h : SqF K H x xs) : SqF K (upd H p o) x xs := by
  rcases h with ⟨q, h⟩ | h
  · refine .inl ⟨q, ?_⟩
    rw [upd_ne (fun e => by subst e; rcases f with z | ⟨_, z⟩ | ⟨_, z⟩ | ⟨_, z⟩ <;> (rw [z] at h; cases h))]
    exact h
  · exact .inr h
theorem xd_upd {x : Addr} {gs : List (Str × V)} (f : Free H p) (h : H x = some (.xd gs)) : upd H p o x = some (.xd gs) := by
  rw [upd_ne (fun e => by
    subst e
    rcases f with f | ⟨_, f⟩ | ⟨_, f⟩ | ⟨_, f⟩ <;> (rw [f] at h; cases h))]
  exact h
theorem fz_upd {x : Addr} {od : Obj} {u : HO} (f : Free H p) (h : H x = some (.frz od u)) : upd H p o x = some (.frz od u) := by
  rw [upd_ne (fun e => by
    subst e
    rcases f with f | ⟨_, f⟩ | ⟨_, f⟩ | ⟨_, f⟩ <;> (rw [f] at h; cases h))]
  exact h
/-- a new object that the store does not hold -/
theorem Kp.new (hp : H p = none) : Kp K μ H μ (upd H p o) :=
  ⟨⟨[], by simp⟩, fun _ _ h => sqT_upd (.inl hp) h, fun _ _ h => sqF_upd (.inl hp) h, fun x u h _ => by
    rw [upd_ne (ne_of_none h hp)]; exact h, fun _ h => .inl h, fun _ h => live_upd h, fun _ _ h => xd_upd (.inl hp) h, fun _ _ _ h => fz_upd (.inl hp) h⟩
/-- an object of the store is changed -/
theorem Kp.put (hf : Free H p) (hm : p ∈ μ) : Kp K μ H μ (upd H p o) :=
  ⟨⟨[], by simp⟩, fun _ _ h => sqT_upd hf h, fun _ _ h => sqF_upd hf h, fun x u h hx => by
    rw [upd_ne (fun e => hx (by rw [e]; exact hm))]; exact h, fun _ h => .inl h, fun _ h => live_upd h, fun _ _ h => xd_upd hf h, fun _ _ _ h => fz_upd hf h⟩
/-- a new list is taken into the store -/
theorem RO.mono {ob : O} (k : Kp K μ H μ' H') (hs : H' a = H a) : RO K μ H ob a → RO K μ' H' ob a
  | .lst h r => .lst (by rw [hs]; exact h) (r.mono k)
  | .dK h r => .dK (by rw [hs]; exact h) (r.mono k)
  | .dT h r => .dT (by rw [hs]; exact h) (r.mono k)
  | .fK h r => .fK (by rw [hs]; exact h) (r.mono k)
  | .fT h r => .fT (by rw [hs]; exact h) (r.mono k)
theorem RO.some {ob : O} : RO K μ H ob a → ∃ u, H a = some u
  | .lst h _ => ⟨_, h⟩
  | .dK h _ => ⟨_, h⟩
  | .dT h _ => ⟨_, h⟩
  | .fK h _ => ⟨_, h⟩
  | .fT h _ => ⟨_, h⟩
theorem Rep.in {i : Nat} {ob : O} (r : Rep K μ S H) (h : S[i]? = some ob) : ∃ a, μ[i]? = some a ∧ RO K μ H ob a := by
  have hl : i < S.length := by
    rcases Nat.lt_or_ge i S.length with q | q
    · exact q
    · rw [List.getElem?_eq_none q] at h; cases h
  have : i < μ.length := by rw [r.len]; exact hl
  exact ⟨μ[i], List.getElem?_eq_getElem this, r.obj i ob _ h (List.getElem?_eq_getElem this)⟩
theorem Rep.mem {x : Addr} (r : Rep K μ S H) (h : x ∈ μ) : ∃ u, H x = some u := by
  obtain ⟨i, hi⟩ := List.mem_iff_getElem?.mp h
  have : i < μ.length := by
    rcases Nat.lt_or_ge i μ.length with q | q
    · exact q
    · rw [List.getElem?_eq_none q] at hi; cases hi
  have hs : i < S.length := by rw [← r.len]; exact this
  exact (r.obj i S[i] x (List.getElem?_eq_getElem hs) hi).some
theorem Rep.new (r : Rep K μ S H) (hp : H p = none) : Rep K μ S (upd H p o) :=
  ⟨r.len, r.nd, fun i ob a h1 h2 => (r.obj i ob a h1 h2).mono (Kp.new hp) (by
    obtain ⟨u, hu⟩ := (r.obj i ob a h1 h2).some
    exact upd_ne (ne_of_none hu hp))⟩
theorem nth_inj {l : List Addr} (h : l.Nodup) {i j : Nat} {x : Addr} (h1 : l[i]? = some x) (h2 : l[j]? = some x) : i = j := by
  have hi : i < l.length := by
    rcases Nat.lt_or_ge i l.length with q | q
    · exact q
    · rw [List.getElem?_eq_none q] at h1; cases h1
  exact (List.getElem?_inj hi h).mp (h1.trans h2.symm)
theorem Rep.put {n : Nat} {ob : O} (r : Rep K μ S H) (hn : μ[n]? = some p) (hf : Free H p) (h : RO K μ (upd H p o) ob p) : Rep K μ (S.set n ob) (upd H p o) := by
  refine ⟨by rw [List.length_set]; exact r.len, r.nd, fun i ob' x h1 h2 => ?_⟩
  by_cases e : n = i
  · subst e
    rw [hn] at h2; cases h2
    have hl : n < S.length := by
      have := (List.getElem?_eq_some_iff.mp hn).1
      rw [← r.len]; exact this
    rw [List.getElem?_set_self hl] at h1
    cases h1
    exact h
  · rw [List.getElem?_set_ne e] at h1
    have ne : x ≠ p := fun z => e (nth_inj r.nd hn (z ▸ h2))
    have hm : p ∈ μ := List.mem_of_getElem? hn
    exact (r.obj i ob' x h1 h2).mono (Kp.put hf hm) (upd_ne ne)
/-- a list that is in the heap but not in the store is taken in -/
theorem Rep.box {ob : O} (r : Rep K μ S H) (hm : p ∉ μ) (h : RO K (μ ++ [p]) H ob p) (hxs : ∀ o a, a ∈ μ → RO K μ H o a → RO K (μ ++ [p]) H o a) : Rep K (μ ++ [p]) (S ++ [ob]) H := by
  refine ⟨by simp [r.len], List.nodup_append.mpr ⟨r.nd, by simp, fun x hx y hy => by
    simp only [List.mem_singleton] at hy; subst hy; intro e; subst e; exact hm hx⟩, fun i ob' x h1 h2 => ?_⟩
  rcases Nat.lt_or_ge i μ.length with q | q
  · rw [List.getElem?_append_left (by rw [← r.len]; exact q)] at h1
    rw [List.getElem?_append_left q] at h2
    exact hxs _ _ (List.mem_of_getElem? h2) (r.obj i ob' x h1 h2)
  · rw [List.getElem?_append_right (by rw [← r.len]; exact q)] at h1
    rw [List.getElem?_append_right q] at h2
    have e : i - S.length = i - μ.length := by rw [r.len]
    rw [e] at h1
    cases z : i - μ.length with
    | zero =>
      rw [z] at h1 h2
      simp at h1 h2
      subst h1; subst h2
      exact h
    | succ m =>
      rw [z] at h1
      simp at h1
end
/-- weakening along the places alone -/
theorem get_more {μ t : List Addr} {n : Nat} {x : Addr} (h : μ[n]? = some x) : (μ ++ t)[n]? = some x := by
  rw [List.getElem?_append_left (List.getElem?_eq_some_iff.mp h).1]; exact h
mutual
theorem RV.more {K : PySem.W.Frag} {μ t : List Addr} {H : Hp} : ∀ {d v}, RV K μ H d v → RV K (μ ++ t) H d v
  | _, _, .non => .non
  | _, _, .bl => .bl
  | _, _, .int => .int
  | _, _, .str => .str
  | _, _, .tup h hs => .tup h (RVs.more hs)
  | _, _, .kl h hs => .kl h (RVs.more hs)
  | _, _, .loc h => .loc (get_more h)
  | _, _, .exc h h1 h2 hs => .exc h h1 h2 (RVs.more hs)
theorem RVs.more {K : PySem.W.Frag} {μ t : List Addr} {H : Hp} : ∀ {d v}, RVs K μ H d v → RVs K (μ ++ t) H d v
  | _, _, .nil => .nil
  | _, _, .cons h hs => .cons (RV.more h) (RVs.more hs)
end
theorem RKs.more {K : PySem.W.Frag} {μ t : List Addr} {H : Hp} : ∀ {a b}, RKs K μ H a b → RKs K (μ ++ t) H a b
  | _, _, .nil => .nil
  | _, _, .cons h r q => .cons h r.more q.more
theorem RTs.more {K : PySem.W.Frag} {μ t : List Addr} {H : Hp} : ∀ {a b}, RTs K μ H a b → RTs K (μ ++ t) H a b
  | _, _, .nil => .nil
  | _, _, .cons h r q => .cons h r.more q.more
theorem RO.more {K : PySem.W.Frag} {μ t : List Addr} {H : Hp} {ob : O} {a : Addr} : RO K μ H ob a → RO K (μ ++ t) H ob a
  | .lst h r => .lst h r.more
  | .dK h r => .dK h r.more
  | .dT h r => .dT h r.more
  | .fK h r => .fK h r.more
  | .fT h r => .fT h r.more
/-! weakening along the tuples alone -/
structure Tl (K : PySem.W.Frag) (H H' : Hp) : Prop where
  t : ∀ a xs, SqT K H a xs → SqT K H' a xs
  l : ∀ a xs, SqF K H a xs → SqF K H' a xs
  x : ∀ a gs, H a = some (.xd gs) → H' a = some (.xd gs)
theorem Tl.upd {K : PySem.W.Frag} {H : Hp} {p : Addr} {o : HO} (f : Free H p) : Tl K H (L2.upd H p o) := ⟨fun _ _ h => sqT_upd f h, fun _ _ h => sqF_upd f h, fun _ _ h => xd_upd f h⟩
mutual
theorem RV.up {K : PySem.W.Frag} {μ : List Addr} {H H' : Hp} (ht : Tl K H H') : ∀ {d v}, RV K μ H d v → RV K μ H' d v
  | _, _, .non => .non
  | _, _, .bl => .bl
  | _, _, .int => .int
  | _, _, .str => .str
  | _, _, .tup h hs => .tup (ht.t _ _ h) (RVs.up ht hs)
  | _, _, .kl h hs => .kl (ht.l _ _ h) (RVs.up ht hs)
  | _, _, .loc h => .loc h
  | _, _, .exc h h1 h2 hs => .exc (ht.x _ _ h) h1 h2 (RVs.up ht hs)
theorem RVs.up {K : PySem.W.Frag} {μ : List Addr} {H H' : Hp} (ht : Tl K H H') : ∀ {d v}, RVs K μ H d v → RVs K μ H' d v
  | _, _, .nil => .nil
  | _, _, .cons h hs => .cons (RV.up ht h) (RVs.up ht hs)
end
theorem RKs.up {K : PySem.W.Frag} {μ : List Addr} {H H' : Hp} (ht : Tl K H H') : ∀ {a b}, RKs K μ H a b → RKs K μ H' a b
  | _, _, .nil => .nil
  | _, _, .cons h r q => .cons h (r.up ht) (q.up ht)
theorem RTs.up {K : PySem.W.Frag} {μ : List Addr} {H H' : Hp} (ht : Tl K H H') : ∀ {a b}, RTs K μ H a b → RTs K μ H' a b
  | _, _, .nil => .nil
  | _, _, .cons h r q => .cons h (r.up ht) (q.up ht)
theorem RO.up {K : PySem.W.Frag} {μ : List Addr} {H H' : Hp} {ob : O} {a : Addr} (ht : Tl K H H') (hs : H' a = H a) : RO K μ H ob a → RO K μ H' ob a
  | .lst h r => .lst (by rw [hs]; exact h) (r.up ht)
  | .dK h r => .dK (by rw [hs]; exact h) (r.up ht)
  | .dT h r => .dT (by rw [hs]; exact h) (r.up ht)
  | .fK h r => .fK (by rw [hs]; exact h) (r.up ht)
  | .fT h r => .fT (by rw [hs]; exact h) (r.up ht)
/-- an object that the store does not hold is changed -/
theorem Rep.other {K : PySem.W.Frag} {μ : List Addr} {H : Hp} {S : Sto} {p : Addr} {o : HO} (r : Rep K μ S H) (hp : p ∉ μ) (f : Free H p) : Rep K μ S (upd H p o) :=
  ⟨r.len, r.nd, fun i ob a h1 h2 => (r.obj i ob a h1 h2).up (.upd f) (upd_ne fun e => hp (e ▸ List.mem_of_getElem? h2))⟩
theorem Kp.other {K : PySem.W.Frag} {μ μ1 : List Addr} {H H1 : Hp} {p : Addr} {o : HO} (k : Kp K μ H μ1 H1) (hp : H p = none) (f : Free H1 p) : Kp K μ H μ1 (upd H1 p o) :=
  ⟨k.pre, fun _ _ h => sqT_upd f (k.tup _ _ h), fun _ _ h => sqF_upd f (k.kls _ _ h), fun x u h hx => by
    rw [upd_ne (ne_of_none h hp)]; exact k.frm x u h hx, k.fr, fun x h => k.liv x (live_upd h), fun _ _ h => xd_upd f (k.xds _ _ h), fun _ _ _ h => fz_upd f (k.fzs _ _ _ h)⟩
/-- a value for keeps: a new list gets a place in the store -/
def box : F → Sto → D × Sto
  | .v d, S => (d, S)
  | .l ds, S => (.loc S.length, S ++ [.lst ds])
@[simp] theorem box_v (d : D) (S : Sto) : box (.v d) S = (d, S) := rfl
@[simp] theorem box_l (ds : List D) (S : Sto) : box (.l ds) S = (.loc S.length, S ++ [.lst ds]) := rfl
theorem box_ok {K : PySem.W.Frag} {μ μ1 : List Addr} {H H1 : Hp} {S : Sto} {f : F} {v : V} (k : Kp K μ H μ1 H1) (r : Rep K μ1 S H1) (h : RF K H μ1 H1 f v) : ∃ μ2, Kp K μ H μ2 H1 ∧ Rep K μ2 (box f S).2 H1 ∧ RV K μ2 H1 (box f S).1 v := by
  cases h with
  | v h => exact ⟨μ1, k, r, h⟩
  | @l a vs ds h n n0 rs =>
    refine ⟨μ1 ++ [a], ?_, r.box n (.lst h rs.more) (fun _ _ _ h => h.more), .loc ?_⟩
    · obtain ⟨t, e⟩ := k.pre
      refine ⟨⟨t ++ [a], by rw [e, List.append_assoc]⟩, k.tup, k.kls, k.frm, fun x hx => ?_, k.liv, k.xds, k.fzs⟩
      rcases List.mem_append.mp hx with z | z
      · exact k.fr x z
      · simp only [List.mem_singleton] at z; subst z; exact .inr n0
    · rw [List.getElem?_append_right (by rw [r.len]; exact Nat.le_refl _), r.len]; simp
end DL
/-! ## DExpr -/
set_option maxHeartbeats 1000000
namespace DL
open PySem PySem.Spec L2
/-! ### expressions as functions -/
def eVar (i : Nat) : Env → Sto → R F := fun ρ S => match ρ[i]? with
  | some (some d) => .ok (.v d) S
  | _ => .bad
def eC (d : D) : Env → Sto → R F := fun _ S => .ok (.v d) S
def eBox (ee : Env → Sto → R F) : Env → Sto → R D := fun ρ S => (ee ρ S).bind fun f S1 => .ok (box f S1).1 (box f S1).2
def eOp (f : F → F → Sto → Option F) (ea eb : Env → Sto → R F) : Env → Sto → R F := fun ρ S => (ea ρ S).bind fun x S1 => (eb ρ S1).bind fun y S2 => match f x y S2 with
  | some z => .ok z S2
  | none => .bad
def eUn (f : F → Sto → Option F) (ea : Env → Sto → R F) : Env → Sto → R F := fun ρ S => (ea ρ S).bind fun x S1 => match f x S1 with
  | some z => .ok z S1
  | none => .bad
def eNil : Env → Sto → R (List D) := fun _ S => .ok [] S
def eCons (ee : Env → Sto → R F) (ea : Env → Sto → R (List D)) : Env → Sto → R (List D) := fun ρ S => (eBox ee ρ S).bind fun d S1 => (ea ρ S1).bind fun ds S2 => .ok (d :: ds) S2
def eTup (ea : Env → Sto → R (List D)) : Env → Sto → R F := fun ρ S => (ea ρ S).bind fun ds S1 => if ds.length ≤ 10000 then .ok (.v (.tup ds)) S1 else .bad
def eLst (ea : Env → Sto → R (List D)) : Env → Sto → R F := fun ρ S => (ea ρ S).bind fun ds S1 => if ds.length ≤ 10000 then .ok (.l ds) S1 else .bad
def fNil : Env → Sto → R (List F) := fun _ S => .ok [] S
def fCons (ee : Env → Sto → R F) (ea : Env → Sto → R (List F)) : Env → Sto → R (List F) := fun ρ S => (ee ρ S).bind fun d S1 => (ea ρ S1).bind fun ds S2 => .ok (d :: ds) S2
def eB (c : List F → Sto → Option F) (ea : Env → Sto → R (List F)) : Env → Sto → R F := fun ρ S => (ea ρ S).bind fun fs S1 => match c fs S1 with
  | some z => .ok z S1
  | none => .bad
def eCall (n : Nat) (df : List D → Sto → R F) (ea : Env → Sto → R (List D)) : Env → Sto → R F := fun ρ S => (ea ρ S).bind fun ds S1 => if ds.length = n then df ds S1 else .bad
def ofB (f : F) : Option Bool := match f with
  | .v (.bl b) => some b
  | _ => none
def eAnd (ea eb : Env → Sto → R F) : Env → Sto → R F := fun ρ S => (ea ρ S).bind fun x S1 => match ofB x with
  | some true => eb ρ S1
  | some false => .ok (.v (.bl false)) S1
  | none => .bad
def eOr (ea eb : Env → Sto → R F) : Env → Sto → R F := fun ρ S => (ea ρ S).bind fun x S1 => match ofB x with
  | some false => eb ρ S1
  | some true => .ok (.v (.bl true)) S1
  | none => .bad
def eNot (ea : Env → Sto → R F) : Env → Sto → R F := fun ρ S => (ea ρ S).bind fun x S1 => match ofB x with
  | some b => .ok (.v (.bl (!b))) S1
  | none => .bad
def tAnd' (ea eb : Env → Sto → R Bool) : Env → Sto → R Bool := fun ρ S => (ea ρ S).bind fun b S1 => if b then eb ρ S1 else .ok false S1
def tOr' (ea eb : Env → Sto → R Bool) : Env → Sto → R Bool := fun ρ S => (ea ρ S).bind fun b S1 => if b then .ok true S1 else eb ρ S1
def tNot' (ea : Env → Sto → R Bool) : Env → Sto → R Bool := fun ρ S => (ea ρ S).bind fun b S1 => .ok (!b) S1
def tOfB (ee : Env → Sto → R F) : Env → Sto → R Bool := fun ρ S => (ee ρ S).bind fun x S1 => match ofB x with
  | some b => .ok b S1
  | none => .bad
def eIf (et : Env → Sto → R Bool) (ea eb : Env → Sto → R F) : Env → Sto → R F := fun ρ S => (et ρ S).bind fun b S1 => if b then ea ρ S1 else eb ρ S1

/-- what a list holds: of the store, or new -/
def getL (f : F) (S : Sto) : Option (List D) := match f with
  | .l ds => some ds
  | .v (.kl ds) => some ds
  | .v (.loc n) => match S[n]? with
    | some (.lst ds) => some ds
    | _ => none
  | _ => none
def getTL (f : F) (S : Sto) : Option (List D) := match f with
  | .v (.tup ds) => some ds
  | f => getL f S

section
variable {X : Cx} {W : WX} {e a b c : Expr} {es : List Expr} {ee ea eb : Env → Sto → R F} {pos : Pos}
theorem getL_ok {K : PySem.W.Frag} {μ : List Addr} {S : Sto} {H H0 : Hp} {f : F} {v : V} {ds : List D} (r : Rep K μ S H) (rf : RF K H0 μ H f v) (h : getL f S = some ds) : ∃ a vs, v = .ref a ∧ SqL K H a vs ∧ RVs K μ H ds vs := by
  cases rf with
  | l h1 h2 h3 h4 => cases h; exact ⟨_, _, rfl, .inl (.inl h1), h4⟩
  | v rv =>
    cases rv with
    | kl h1 h2 => cases h; exact ⟨_, _, rfl, h1.l, h2⟩
    | @loc n a hn =>
      unfold getL at h
      cases hs : S[n]? with
      | none => simp [hs] at h
      | some o =>
        have ro := r.obj n o a hs hn
        cases ro with
        | lst h1 h2 => simp [hs] at h; subst h; exact ⟨_, _, rfl, .inl (.inl h1), h2⟩
        | dK h1 h2 => simp [hs] at h
        | dT h1 h2 => simp [hs] at h
        | fK h1 h2 => simp [hs] at h
        | fT h1 h2 => simp [hs] at h
    | _ => simp [getL] at h
theorem getTL_ok {K : PySem.W.Frag} {μ : List Addr} {S : Sto} {H H0 : Hp} {f : F} {v : V} {ds : List D} (r : Rep K μ S H) (rf : RF K H0 μ H f v) (h : getTL f S = some ds) : ∃ a vs, v = .ref a ∧ (SqL K H a vs ∨ SqT K H a vs) ∧ RVs K μ H ds vs := by
  cases rf with
  | l h1 h2 h3 h4 => cases h; exact ⟨_, _, rfl, .inl (.inl (.inl h1)), h4⟩
  | v rv =>
    cases rv with
    | tup h1 h2 => cases h; exact ⟨_, _, rfl, .inr h1, h2⟩
    | kl h1 h2 => cases h; exact ⟨_, _, rfl, .inl h1.l, h2⟩
    | loc hn =>
      obtain ⟨a, vs, h1, h2, h3⟩ := getL_ok r (.v (.loc hn) : RF K H0 μ H (.v (.loc _)) _) h
      exact ⟨a, vs, h1, .inl h2, h3⟩
    | _ => simp [getTL, getL] at h
/-! names and constants -/
theorem pd_var {i : Nat} {x : Str} (hN : X.N[i]? = some x) (hv : Vis X.env.scope x) (hd : (x == ("__debug__" : Str)) = false := by decide) (hcd : (x == ("__classdict__" : Str)) = false := by decide) : PD X W (.Name x pos) (eVar i) :=
  PE.imp (pe_var hN hv hd hcd) fun σ H Q ⟨μ, S, ρ, r, re, p⟩ => by
    unfold eVar at p
    cases h : ρ[i]? with
    | none => simp [h] at p; exact p.elim
    | some o =>
      cases o with
      | none => simp [h] at p; exact p.elim
      | some d =>
        simp [h] at p
        obtain ⟨v, h1, h2⟩ := re.at' i d h
        exact ⟨v, h1, p μ H v .refl r (.v h2)⟩
theorem pd_c {d : D} {v : V} (he : PE X e (tC v)) (h : ∀ K μ H, RV K μ H d v) : PD X W e (eC d) :=
  PE.imp he fun σ H Q ⟨μ, S, ρ, r, re, p⟩ => p μ H v .refl r (.v (h _ _ _))
theorem pd_int {i j pos} : PD X W (.Constant (.int i) j pos) (eC (.int i)) := pd_c pe_int fun _ _ _ => .int
theorem pd_bl {i j pos} : PD X W (.Constant (.bool i) j pos) (eC (.bl i)) := pd_c pe_bl fun _ _ _ => .bl
theorem pd_non {j pos} : PD X W (.Constant .none j pos) (eC .non) := pd_c pe_non fun _ _ _ => .non
theorem pd_str {x j pos} : PD X W (.Constant (.str x) j pos) (eC (.str x)) := pd_c pe_str fun _ _ _ => .str
theorem pd_globI {x : Str} {i : Int} {t : Tok} (hg : Gl X x) (hm : X.mg x = some (.int i t)) (hd : (x == ("__debug__" : Str)) = false := by decide) : PD X W (.Name x pos) (eC (.int i)) := pd_c (v := .int i) (pe_glob hg hm ⟨_, rfl⟩ hd) fun _ _ _ => .int
/-- a module's tuple -/
theorem pd_globT {x : Str} {a : Addr} {vs : List V} {ds : List D} (hg : Gl X x) (hm : X.mg x = some (.ref a)) (ha : ∀ H, SqT X.K H a vs) (hds : ∀ μ H, RVs X.K μ H ds vs) (hd : (x == ("__debug__" : Str)) = false := by decide) : PD X W (.Name x pos) (eC (.tup ds)) :=
  PE.imp (pe_glob (v := .ref a) hg hm rfl hd) fun σ H Q ⟨μ, S, ρ, r, re, p⟩ => p μ H (.ref a) .refl r (.v (.tup (ha H) (hds μ H)))
theorem ofB_some {x : F} {q : Bool} (hb : ofB x = some q) : x = .v (.bl q) := by
  unfold ofB at hb
  split at hb
  · cases hb; rfl
  · cases hb
theorem RF.isB {K : PySem.W.Frag} {H0 : Hp} {μ : List Addr} {H : Hp} {q : Bool} {v : V} (h : RF K H0 μ H (.v (.bl q)) v) : v = .bl q := by
  cases h with
  | v h => cases h; rfl
theorem liftB_of {σ : L2.St} {H : Hp} {Q : Bool → Hp → Prop} (h : lift X.K X.mg W (fun _ _ _ a b => a = b) (tOfB ee) σ H Q) : lift X.K X.mg W (RF X.K) ee σ H (fun x H' => ∃ k, x = .bl k ∧ Q k H') := by
  obtain ⟨μ, S, ρ, r, re, p⟩ := h
  refine ⟨μ, S, ρ, r, re, Post.bind bk_e p fun x S1 μ1 H1 u _ k r1 rx p1 => ?_⟩
  cases hb : ofB x with
  | none => rw [hb] at p1; exact p1.elim
  | some q =>
    rw [hb] at p1
    have := ofB_some hb
    subst this
    exact ⟨q, rx.isB, p1 μ1 H1 q .refl r1 rfl⟩
/-! operations by values -/
def rOp (K : PySem.W.Frag) (f : F → F → Sto → Option F) : R2 := fun x y H Q => ∃ μ S a b z H0 H0', Rep K μ S H ∧ RF K H0 μ H a x ∧ RF K H0' μ H b y ∧ f a b S = some z ∧ ∀ H' v, Kp K μ H μ H' → Rep K μ S H' → RF K H μ H' z v → Q v H'
theorem tOp_of {f : F → F → Sto → Option F} {σ : L2.St} {H : Hp} {Q : VK} (h : lift X.K X.mg W (RF X.K) (eOp f ea eb) σ H Q) : tOp (rOp X.K f) (lift X.K X.mg W (RF X.K) ea) (lift X.K X.mg W (RF X.K) eb) σ H Q := by
  obtain ⟨μ, S, ρ, r, re, p⟩ := h
  refine ⟨μ, S, ρ, r, re, Post.bind bk_f p fun x S1 μ1 H1 u _ k r1 rx p1 => ?_⟩
  refine ⟨μ1, S1, ρ, r1, re.mono k, Post.bind bk_f p1 fun y S2 μ2 H2 w _ k2 r2 ry p2 => ?_⟩
  cases hz : f x y S2 with
  | none => rw [hz] at p2; exact p2.elim
  | some z =>
    rw [hz] at p2
    exact ⟨μ2, S2, x, y, z, H, H1, r2, rx.mono k2, ry, hz, fun H' v k3 r3 rz => p2 μ2 H' v k3 r3 rz⟩
theorem pd_bin {op : Operator} {f : F → F → Sto → Option F} (ho : OpR X (binaryOp op) (rOp X.K f)) (ha : PD X W a ea) (hb : PD X W b eb) : PD X W (.BinOp a op b pos) (eOp f ea eb) :=
  PE.imp (pe_op ho ha hb) fun σ H Q h => tOp_of h
theorem pd_cmp {op : CmpOp} {f : F → F → Sto → Option F} (ho : OpR X (compareOp op) (rOp X.K f)) (ha : PD X W a ea) (hb : PD X W b eb) (hm : behindInMarks op b = false := by first | exact nomark _ | rfl) : PD X W (.Compare a [op] [b] pos) (eOp f ea eb) :=
  PE.imp (pe_cmpR ho ha hb hm) fun σ H Q h => tOp_of h
theorem pdt_cmp {op : CmpOp} {f : F → F → Sto → Option F} (ho : OpR X (compareOp op) (rOp X.K f)) (ha : PD X W a ea) (hb : PD X W b eb) (hm : behindInMarks op b = false := by first | exact nomark _ | rfl) : PDT X W (.Compare a [op] [b] pos) (tOfB (eOp f ea eb)) :=
  PT.imp (pt_cmpR ho ha hb hm) fun σ H Q h => by
    exact tOp_of (liftB_of h)
theorem pd_un {op : UnaryOp} {f : F → Sto → Option F} (ho : UnR X (unaryOp op) (fun x H Q => ∃ μ S a z H0, Rep X.K μ S H ∧ RF X.K H0 μ H a x ∧ f a S = some z ∧ ∀ H' v, Kp X.K μ H μ H' → Rep X.K μ S H' → RF X.K H μ H' z v → Q v H')) (ha : PD X W a ea) : PD X W (.UnaryOp op a pos) (eUn f ea) :=
  PE.imp (pe_un ho ha) fun σ H Q h => by
    obtain ⟨μ, S, ρ, r, re, p⟩ := h
    refine ⟨μ, S, ρ, r, re, Post.bind bk_f p fun x S1 μ1 H1 u _ k r1 rx p1 => ?_⟩
    cases hz : f x S1 with
    | none => rw [hz] at p1; exact p1.elim
    | some z =>
      rw [hz] at p1
      exact ⟨μ1, S1, x, z, H, r1, rx, hz, fun H' v k3 r3 rz => p1 μ1 H' v k3 r3 rz⟩
theorem pd_ix {f : F → F → Sto → Option F} (ho : IxR X (rOp X.K f)) (ha : PD X W a ea) (hb : PD X W b eb) (hs : PlainIx b := by exact fun _ _ => rfl) : PD X W (.Subscript a b pos) (eOp f ea eb) :=
  PE.imp (pe_ix ho ha hb hs) fun σ H Q h => tOp_of h
/-! chains -/
def eChain (f g : F → F → Sto → Option F) (ea eb ec : Env → Sto → R F) : Env → Sto → R F := fun ρ S => (ea ρ S).bind fun x S1 => (eb ρ S1).bind fun y S2 => match (f x y S2).bind ofB with
  | some true => (ec ρ S2).bind fun z S3 => match g y z S3 with
    | some w => .ok w S3
    | none => .bad
  | some false => .ok (.v (.bl false)) S2
  | none => .bad
theorem tChain_of {f g : F → F → Sto → Option F} {ec : Env → Sto → R F} {σ : L2.St} {H : Hp} {Q : VK} (h : lift X.K X.mg W (RF X.K) (eChain f g ea eb ec) σ H Q) :
    tChain (rOp X.K f) (rOp X.K g) (lift X.K X.mg W (RF X.K) ea) (lift X.K X.mg W (RF X.K) eb) (lift X.K X.mg W (RF X.K) ec) σ H Q := by
    obtain ⟨μ, S, ρ, r, re, p⟩ := h
    refine ⟨μ, S, ρ, r, re, Post.bind bk_f p fun x S1 μ1 H1 u _ k r1 rx p1 => ?_⟩
    refine ⟨μ1, S1, ρ, r1, re.mono k, Post.bind bk_f p1 fun y S2 μ2 H2 w _ k2 r2 ry p2 => ?_⟩
    have re2 := (re.mono k).mono k2
    cases hz : f x y S2 with
    | none => rw [hz] at p2; exact p2.elim
    | some z =>
      rw [hz] at p2
      simp only [Option.bind_some] at p2
      cases hq : ofB z with
      | none => rw [hq] at p2; exact p2.elim
      | some q =>
        rw [hq] at p2
        have := ofB_some hq
        subst this
        refine ⟨μ2, S2, x, y, _, H, H1, r2, rx.mono k2, ry, hz, fun H3 v k3 r3 rz => ?_⟩
        have ev := rz.isB
        subst ev
        cases q with
        | false => exact ⟨false, rfl, by rw [if_neg (by decide)]; exact p2 μ2 H3 _ k3 r3 (.v .bl)⟩
        | true =>
          refine ⟨true, rfl, ?_⟩
          rw [if_pos rfl]
          refine ⟨μ2, S2, ρ, r3, re2.mono k3, Post.bind bk_f (Post.step bk_f k3 p2) fun t S4 μ4 H4 w4 _ k4 r4 rt p4 => ?_⟩
          cases hg : g y t S4 with
          | none => rw [hg] at p4; exact p4.elim
          | some z4 =>
            rw [hg] at p4
            exact ⟨μ4, S4, y, t, z4, H1, H3, r4, (ry.mono k3).mono k4, rt, hg, fun H' v k5 r5 rz => p4 μ4 H' v k5 r5 rz⟩
theorem pd_chain {op op' : CmpOp} {f g : F → F → Sto → Option F} {ec : Env → Sto → R F} (ho : OpR X (compareOp op) (rOp X.K f)) (ho' : OpR X (compareOp op') (rOp X.K g)) (ha : PD X W a ea) (hb : PD X W b eb) (hc : PD X W c ec)
    (hm : lastMarks [op, op'] [b, c] = false := by with_unfolding_all rfl) : PD X W (.Compare a [op, op'] [b, c] pos) (eChain f g ea eb ec) :=
  PE.imp (pe_chain ho ho' ha hb hc hm) fun σ H Q h => tChain_of h
theorem pdt_chain {op op' : CmpOp} {f g : F → F → Sto → Option F} {ec : Env → Sto → R F} (ho : OpR X (compareOp op) (rOp X.K f)) (ho' : OpR X (compareOp op') (rOp X.K g)) (ha : PD X W a ea) (hb : PD X W b eb) (hc : PD X W c ec)
    (hm : lastMarks [op, op'] [b, c] = false := by with_unfolding_all rfl) : PDT X W (.Compare a [op, op'] [b, c] pos) (tOfB (eChain f g ea eb ec)) :=
  PT.imp (pt_chain ho ho' ha hb hc hm) fun σ H Q h => tChain_of (liftB_of h)
/-! tests -/
/-- an expression that gives a bool, as a test -/
theorem pdt_val (he : PD X W e ee) (hi : ∀ whole, isTrue e X.env whole = (do let v ← whole; standAt e.pos; holding [v] (truthy v)) := by intro _; rfl) : PDT X W e (tOfB ee) :=
  PT.imp (pt_val he hi) fun σ H Q h => liftB_of h
def tru (f : F) (S : Sto) : Option Bool := match f with
  | .v .non => some false
  | .v (.bl b) => some b
  | .v (.int i) => some (i != 0)
  | .v (.str y) => if y.length ≤ sizeLine then some ((y.length : Int) != 0) else none
  | .v (.tup ds) => some (!ds.isEmpty)
  | f => (getL f S).map fun ds => !ds.isEmpty
def tTru (ee : Env → Sto → R F) : Env → Sto → R Bool := fun ρ S => (ee ρ S).bind fun x S1 => match tru x S1 with
  | some b => .ok b S1
  | none => .bad
theorem RVs.isEmpty {K : PySem.W.Frag} {μ : List Addr} {H : Hp} {ds : List D} {vs : List V} (h : RVs K μ H ds vs) : ds.isEmpty = vs.isEmpty := by
  cases h <;> rfl
theorem pdt_tru (he : PD X W e ee) (hi : ∀ whole, isTrue e X.env whole = (do let v ← whole; standAt e.pos; holding [v] (truthy v)) := by intro _; rfl) : PDT X W e (tTru ee) :=
  PT.imp (pt_truth he hi) fun σ H Q h => by
    obtain ⟨μ, S, ρ, r, re, p⟩ := h
    refine ⟨μ, S, ρ, r, re, Post.bind bk_e p fun x S1 μ1 H1 u _ k r1 rx p1 => ?_⟩
    cases hb : tru x S1 with
    | none => rw [hb] at p1; exact p1.elim
    | some q =>
      rw [hb] at p1
      refine ⟨q, ?_, p1 μ1 H1 q .refl r1 rfl⟩
      have list : ∀ {f}, RF X.K H μ1 H1 f u → (getL f S1).map (fun ds => !ds.isEmpty) = some q → TruV X.K u H1 q := fun {f} rf hh => by
        cases hl : getL f S1 with
        | none => rw [hl] at hh; cases hh
        | some ds =>
          rw [hl] at hh
          cases hh
          obtain ⟨a, vs, rfl, h1, h2⟩ := getL_ok r1 rf hl
          exact .inl ⟨vs, h1, by show (!ds.isEmpty) = _; rw [h2.isEmpty]⟩
      cases rx with
      | l h1 h2 h3 h4 => exact list (.l h1 h2 h3 h4) hb
      | v rv =>
        cases rv with
        | non => cases hb; exact rfl
        | bl => cases hb; exact rfl
        | int => cases hb; exact rfl
        | str =>
          rename_i y _
          have hb' : (if y.length ≤ sizeLine then some ((y.length : Int) != 0) else none) = some q := hb
          simp only [Option.ite_none_right_eq_some] at hb'
          exact ⟨hb'.1, (Option.some.inj hb'.2).symm⟩
        | tup h1 h2 => cases hb; exact .inr (.inl ⟨_, h1, by rw [h2.isEmpty]⟩)
        | kl h1 h2 => exact list (.v (.kl h1 h2)) hb
        | loc hn => exact list (.v (.loc hn)) hb
        | exc _ _ _ _ => cases hb
def PDW (X : Cx) (W : WX) (e : Expr) (et : Env → Sto → R Bool) : Prop := PW X e (lift X.K X.mg W (fun _ _ _ a b => a = b) et)
theorem PW.imp {e : Expr} {t t' : TT} (h : PW X e t) (i : ∀ σ H Q, t' σ H Q → t σ H Q) : PW X e t' := ⟨fun wh pins s σ H Q I q => h.run wh pins s σ H Q I (i _ _ _ q)⟩
theorem pdw_pt {et : Env → Sto → R Bool} (h : PDW X W e et) : PDT X W e et := PW.pt h
theorem pdw_and1 {et : Env → Sto → R Bool} (h : PDT X W e et) : PDW X W (.BoolOp .And [e] pos) et := pw_and1 h
theorem pdw_or1 {et : Env → Sto → R Bool} (h : PDT X W e et) : PDW X W (.BoolOp .Or [e] pos) et := pw_or1 h
theorem pdw_and {rest : List Expr} {et eu : Env → Sto → R Bool} (h : PDT X W a et) (h2 : PDW X W (.BoolOp .And (b :: rest) pos) eu) : PDW X W (.BoolOp .And (a :: b :: rest) pos) (tAnd' et eu) :=
  PW.imp (pw_and h h2) fun σ H Q ⟨μ, S, ρ, r, re, p⟩ => ⟨μ, S, ρ, r, re, Post.bind bk_e p fun x S1 μ1 H1 u _ k r1 rx p1 => by
    subst rx
    cases x with
    | true => rw [if_pos rfl]; exact ⟨μ1, S1, ρ, r1, re.mono k, p1⟩
    | false => rw [if_neg (by decide)]; exact p1 μ1 H1 _ .refl r1 rfl⟩
theorem pdw_or {rest : List Expr} {et eu : Env → Sto → R Bool} (h : PDT X W a et) (h2 : PDW X W (.BoolOp .Or (b :: rest) pos) eu) : PDW X W (.BoolOp .Or (a :: b :: rest) pos) (tOr' et eu) :=
  PW.imp (pw_or h h2) fun σ H Q ⟨μ, S, ρ, r, re, p⟩ => ⟨μ, S, ρ, r, re, Post.bind bk_e p fun x S1 μ1 H1 u _ k r1 rx p1 => by
    subst rx
    cases x with
    | true => rw [if_pos rfl]; exact p1 μ1 H1 _ .refl r1 rfl
    | false => rw [if_neg (by decide)]; exact ⟨μ1, S1, ρ, r1, re.mono k, p1⟩⟩
theorem pdt_not {et : Env → Sto → R Bool} (h : PDT X W a et) : PDT X W (.UnaryOp .Not a pos) (tNot' et) :=
  PT.imp (pt_not h) fun σ H Q ⟨μ, S, ρ, r, re, p⟩ => ⟨μ, S, ρ, r, re, Post.bind bk_e p fun x S1 μ1 H1 u _ k r1 rx p1 => by
    subst rx; exact p1 μ1 H1 _ .refl r1 rfl⟩
theorem pd_one {op} (h : PD X W a ea) : PD X W (.BoolOp op [a] pos) ea := pe_one h
theorem pd_and {rest : List Expr} (h : PD X W a ea) (h2 : PD X W (.BoolOp .And (b :: rest) pos) eb) : PD X W (.BoolOp .And (a :: b :: rest) pos) (eAnd ea eb) :=
  PE.imp (pe_and h h2) fun σ H Q ⟨μ, S, ρ, r, re, p⟩ => ⟨μ, S, ρ, r, re, Post.bind bk_f p fun x S1 μ1 H1 u _ k r1 rx p1 => by
    cases hb : ofB x with
    | none => rw [hb] at p1; exact p1.elim
    | some q =>
      rw [hb] at p1
      have := ofB_some hb
      subst this
      refine ⟨q, rx.isB, ?_⟩
      cases q with
      | true => rw [if_pos rfl]; exact ⟨μ1, S1, ρ, r1, re.mono k, p1⟩
      | false => rw [if_neg (by decide)]; exact p1 μ1 H1 _ .refl r1 (.v .bl)⟩
theorem pd_or {rest : List Expr} (h : PD X W a ea) (h2 : PD X W (.BoolOp .Or (b :: rest) pos) eb) : PD X W (.BoolOp .Or (a :: b :: rest) pos) (eOr ea eb) :=
  PE.imp (pe_or h h2) fun σ H Q ⟨μ, S, ρ, r, re, p⟩ => ⟨μ, S, ρ, r, re, Post.bind bk_f p fun x S1 μ1 H1 u _ k r1 rx p1 => by
    cases hb : ofB x with
    | none => rw [hb] at p1; exact p1.elim
    | some q =>
      rw [hb] at p1
      have := ofB_some hb
      subst this
      refine ⟨q, rx.isB, ?_⟩
      cases q with
      | false => rw [if_neg (by decide)]; exact ⟨μ1, S1, ρ, r1, re.mono k, p1⟩
      | true => rw [if_pos rfl]; exact p1 μ1 H1 _ .refl r1 (.v .bl)⟩
theorem pd_not (h : PD X W a ea) : PD X W (.UnaryOp .Not a pos) (eNot ea) :=
  PE.imp (pe_not h) fun σ H Q ⟨μ, S, ρ, r, re, p⟩ => ⟨μ, S, ρ, r, re, Post.bind bk_f p fun x S1 μ1 H1 u _ k r1 rx p1 => by
    cases hb : ofB x with
    | none => rw [hb] at p1; exact p1.elim
    | some q =>
      rw [hb] at p1
      have := ofB_some hb
      subst this
      exact ⟨q, rx.isB, p1 μ1 H1 _ .refl r1 (.v .bl)⟩⟩
theorem pd_if {et : Env → Sto → R Bool} (hc : PDT X W c et) (ha : PD X W a ea) (hb : PD X W b eb) : PD X W (.IfExp c a b pos) (eIf et ea eb) :=
  PE.imp (pe_ifExp hc ha hb) fun σ H Q ⟨μ, S, ρ, r, re, p⟩ => ⟨μ, S, ρ, r, re, Post.bind bk_f p fun x S1 μ1 H1 u _ k r1 rx p1 => by
    subst rx
    cases x with
    | true => rw [if_pos rfl]; exact ⟨μ1, S1, ρ, r1, re.mono k, p1⟩
    | false => rw [if_neg (by decide)]; exact ⟨μ1, S1, ρ, r1, re.mono k, p1⟩⟩
/-! arguments and displays -/
theorem pd_box (h : PD X W e ee) : PE X e (lift X.K X.mg W (fun _ => RV X.K) (eBox ee)) :=
  PE.imp h fun σ H Q ⟨μ, S, ρ, r, re, p⟩ => ⟨μ, S, ρ, r, re, by
    unfold eBox at p
    cases hr : ee ρ S with
    | bad => rw [hr] at p; exact p.elim
    | err x S1 => rw [hr] at p; exact p
    | ok f S1 =>
      rw [hr] at p
      intro μ1 H1 v k r1 rf
      obtain ⟨μ2, k2, r2, rv⟩ := box_ok k r1 rf
      exact p μ2 H1 v k2 r2 rv⟩
theorem pda_nil : PDA X W [] eNil := PA.imp pa_nil fun σ H Q ⟨μ, S, ρ, r, re, p⟩ => p μ H [] .refl r .nil
theorem pda_cons {ea : Env → Sto → R (List D)} (h : PD X W e ee) (h2 : PDA X W es ea) (hs : starEach (e :: es) X.env = (false, eval e X.env) :: starEach es X.env := by rfl) : PDA X W (e :: es) (eCons ee ea) :=
  PA.imp (pa_cons (pd_box h) h2 hs) fun σ H Q ⟨μ, S, ρ, r, re, p⟩ => ⟨μ, S, ρ, r, re, Post.bind bk_vs p fun d S1 μ1 H1 v _ k r1 rv p1 =>
    ⟨μ1, S1, ρ, r1, re.mono k, Post.bind bk_vs p1 fun ds S2 μ2 H2 vs _ k2 r2 rvs p2 => p2 μ2 H2 _ .refl r2 (.cons (rv.mono k2) rvs)⟩⟩
theorem sz_ok {n : Nat} (h : n ≤ 10000) : n ≤ sizeLine := Nat.le_trans h (by decide)
theorem pd_tup {ea : Env → Sto → R (List D)} {x1} (h : PDA X W es ea) : PD X W (.Tuple es x1 pos) (eTup ea) :=
  PE.imp (pe_tup h) fun σ H Q ⟨μ, S, ρ, r, re, p⟩ => ⟨μ, S, ρ, r, re, Post.bind bk_f p fun ds S1 μ1 H1 vs _ k r1 rv p1 => by
    by_cases hl : ds.length ≤ 10000
    · rw [if_pos hl] at p1
      refine ⟨by rw [← rv.length]; exact sz_ok hl, fun q hq => ?_⟩
      have kk : Kp X.K μ1 H1 μ1 (upd H1 q (.tup vs)) := Kp.new hq
      exact p1 μ1 _ _ kk (r1.new hq) (.v (.tup (.inl (.inl upd_same)) (rv.mono kk)))
    · rw [if_neg hl] at p1; exact p1.elim⟩
theorem Rep.notin {K : PySem.W.Frag} {μ : List Addr} {S : Sto} {H : Hp} {q : Addr} (r : Rep K μ S H) (hq : H q = none) : q ∉ μ := fun hm => by
  obtain ⟨u, hu⟩ := r.mem hm
  rw [hq] at hu; cases hu
theorem pd_lst {ea : Env → Sto → R (List D)} (h : PDA X W es ea) : PD X W (.List es pos) (eLst ea) :=
  PE.imp (pe_lst h) fun σ H Q ⟨μ, S, ρ, r, re, p⟩ => ⟨μ, S, ρ, r, re, Post.bind bk_f p fun ds S1 μ1 H1 vs _ k r1 rv p1 => by
    by_cases hl : ds.length ≤ 10000
    · rw [if_pos hl] at p1
      refine ⟨by rw [← rv.length]; exact sz_ok hl, fun q hq => ?_⟩
      have kk : Kp X.K μ1 H1 μ1 (upd H1 q (.lst vs)) := Kp.new hq
      exact p1 μ1 _ _ kk (r1.new hq) (.l upd_same (r1.notin hq) hq (rv.mono kk))
    · rw [if_neg hl] at p1; exact p1.elim⟩
/-! arguments of built-ins: new lists are not taken in -/
inductive RFs (K : PySem.W.Frag) (μ : List Addr) (H : Hp) : List F → List V → Prop
  | nil : RFs K μ H [] []
  | cons {f v fs vs H0} : RF K H0 μ H f v → RFs K μ H fs vs → RFs K μ H (f :: fs) (v :: vs)
theorem RFs.mono {K : PySem.W.Frag} {μ μ' : List Addr} {H H' : Hp} (k : Kp K μ H μ' H') : ∀ {fs vs}, RFs K μ H fs vs → RFs K μ' H' fs vs
  | _, _, .nil => .nil
  | _, _, .cons h t => .cons (h.mono k) (t.mono k)
theorem bk_fs {K : PySem.W.Frag} : Bk (fun (_ : Hp) => RFs K) := fun _ _ _ _ _ _ _ h => h
def PDF (X : Cx) (W : WX) (es : List Expr) (ea : Env → Sto → R (List F)) : Prop := PA X es (lift X.K X.mg W (fun _ => RFs X.K) ea)
theorem pdf_nil : PDF X W [] fNil := PA.imp pa_nil fun σ H Q ⟨μ, S, ρ, r, re, p⟩ => p μ H [] .refl r .nil
theorem pdf_cons {ea : Env → Sto → R (List F)} (h : PD X W e ee) (h2 : PDF X W es ea) (hs : starEach (e :: es) X.env = (false, eval e X.env) :: starEach es X.env := by rfl) : PDF X W (e :: es) (fCons ee ea) :=
  PA.imp (pa_cons h h2 hs) fun σ H Q ⟨μ, S, ρ, r, re, p⟩ => ⟨μ, S, ρ, r, re, Post.bind bk_fs p fun d S1 μ1 H1 v _ k r1 rv p1 =>
    ⟨μ1, S1, ρ, r1, re.mono k, Post.bind bk_fs p1 fun ds S2 μ2 H2 vs _ k2 r2 rvs p2 => p2 μ2 H2 _ .refl r2 (.cons (rv.mono k2) rvs)⟩⟩
/-- what a built-in does with values -/
def rCB (K : PySem.W.Frag) (c : List F → Sto → Option F) : List V → Hp → VK → Prop := fun vs H Q => ∃ μ S fs z, Rep K μ S H ∧ RFs K μ H fs vs ∧ c fs S = some z ∧ ∀ H' v, Kp K μ H μ H' → Rep K μ S H' → RF K H μ H' z v → Q v H'
theorem tCB_of {c : List F → Sto → Option F} {ea : Env → Sto → R (List F)} {σ : L2.St} {H : Hp} {Q : VK} (h : lift X.K X.mg W (RF X.K) (eB c ea) σ H Q) : tCB (rCB X.K c) (lift X.K X.mg W (fun _ => RFs X.K) ea) σ H Q := by
  obtain ⟨μ, S, ρ, r, re, p⟩ := h
  refine ⟨μ, S, ρ, r, re, Post.bind bk_f p fun fs S1 μ1 H1 vs _ k r1 rv p1 => ?_⟩
  cases hz : c fs S1 with
  | none => rw [hz] at p1; exact p1.elim
  | some z =>
    rw [hz] at p1
    exact ⟨μ1, S1, fs, z, r1, rv, hz, fun H' v k2 r2 rf => p1 μ1 H' v k2 r2 rf⟩
theorem pd_callB {x : Str} {id : String} {p : Pos} {cf : List F → Sto → Option F} {ea : Env → Sto → R (List F)} (hc : CallR X (.builtin id) (rCB X.K cf)) (hg : Gl X x) (hm : X.mg x = none) (hv : bootBuiltins x = some (.builtin id)) (ha : PDF X W (e :: es) ea) (hn : x ≠ "__name__" := by decide) (hdb : (x == ("__debug__" : Str)) = false := by decide)
    (he : starEach (e :: es) X.env = (false, eval e X.env) :: starEach es X.env := by rfl) (hpl : (backTo pos (starEach es X.env)).any (·.1) = false := by rfl) : PD X W (.Call (.Name x p) (e :: es) [] pos) (eB cf ea) :=
  PE.imp (pe_callB hc hg hm hv ha hn hdb he hpl) fun σ H Q h => tCB_of h
theorem pd_callTy {x : Str} {T : String} {p : Pos} {cf : List F → Sto → Option F} {ea : Env → Sto → R (List F)} (hc : CallR X (.type T) (rCB X.K cf)) (hg : Gl X x) (hm : X.mg x = none) (hv : bootBuiltins x = some (.type T)) (ha : PDF X W (e :: es) ea) (hn : x ≠ "__name__" := by decide) (hdb : (x == ("__debug__" : Str)) = false := by decide)
    (he : starEach (e :: es) X.env = (false, eval e X.env) :: starEach es X.env := by rfl) (hpl : (backTo pos (starEach es X.env)).any (·.1) = false := by rfl) : PD X W (.Call (.Name x p) (e :: es) [] pos) (eB cf ea) :=
  PE.imp (pe_callTy hc hg hm hv ha hn hdb he hpl) fun σ H Q h => tCB_of h
end
end DL
/-! ## DStmt -/
set_option maxHeartbeats 1000000
namespace DL
open PySem PySem.Spec L2
/-! ### equal data -/
mutual
def D.beq : D → D → Bool
  | .non, .non => true
  | .bl a, .bl b => a == b
  | .int a, .int b => a == b
  | .str a, .str b => decide (a = b)
  | .tup a, .tup b => D.beqs a b
  | .kl a, .kl b => D.beqs a b
  | .loc a, .loc b => a == b
  | .exc a d n x, .exc b e m y => a == b && (d == e && (decide (n = m) && D.beqs x y))
  | _, _ => false
def D.beqs : List D → List D → Bool
  | [], [] => true
  | a :: as, b :: bs => D.beq a b && D.beqs as bs
  | _, _ => false
end
mutual
theorem D.beq_eq : ∀ (a b : D), D.beq a b = true → a = b
  | .non, b, h => by cases b <;> simp [D.beq] at h; rfl
  | .bl a, b, h => by cases b <;> simp [D.beq] at h; subst h; rfl
  | .int a, b, h => by cases b <;> simp [D.beq] at h; subst h; rfl
  | .str a, b, h => by cases b <;> simp [D.beq] at h; subst h; rfl
  | .loc a, b, h => by cases b <;> simp [D.beq] at h; subst h; rfl
  | .tup a, .tup b, h => by rw [D.beqs_eq a b (by simpa [D.beq] using h)]
  | .tup a, .non, h => by simp [D.beq] at h
  | .tup a, .bl _, h => by simp [D.beq] at h
  | .tup a, .int _, h => by simp [D.beq] at h
  | .tup a, .str _, h => by simp [D.beq] at h
  | .tup a, .loc _, h => by simp [D.beq] at h
  | .tup a, .kl _, h => by simp [D.beq] at h
  | .kl a, .kl b, h => by rw [D.beqs_eq a b (by simpa [D.beq] using h)]
  | .kl a, .non, h => by simp [D.beq] at h
  | .kl a, .bl _, h => by simp [D.beq] at h
  | .kl a, .int _, h => by simp [D.beq] at h
  | .kl a, .str _, h => by simp [D.beq] at h
  | .kl a, .loc _, h => by simp [D.beq] at h
  | .kl a, .tup _, h => by simp [D.beq] at h
  | .tup a, .exc _ _ _ _, h => by simp [D.beq] at h
  | .kl a, .exc _ _ _ _, h => by simp [D.beq] at h
  | .exc a d n x, .exc b e m y, h => by
    simp only [D.beq, Bool.and_eq_true, beq_iff_eq, decide_eq_true_eq] at h
    rw [h.1, h.2.1, h.2.2.1, D.beqs_eq x y h.2.2.2]
  | .exc a d n x, .non, h => by simp [D.beq] at h
  | .exc a d n x, .bl _, h => by simp [D.beq] at h
  | .exc a d n x, .int _, h => by simp [D.beq] at h
  | .exc a d n x, .str _, h => by simp [D.beq] at h
  | .exc a d n x, .loc _, h => by simp [D.beq] at h
  | .exc a d n x, .tup _, h => by simp [D.beq] at h
  | .exc a d n x, .kl _, h => by simp [D.beq] at h
theorem D.beqs_eq : ∀ (a b : List D), D.beqs a b = true → a = b
  | [], [], _ => rfl
  | [], _ :: _, h => by simp [D.beqs] at h
  | _ :: _, [], h => by simp [D.beqs] at h
  | a :: as, b :: bs, h => by
    simp only [D.beqs, Bool.and_eq_true] at h
    rw [D.beq_eq a b h.1, D.beqs_eq as bs h.2]
end
mutual
theorem D.beq_refl : ∀ (a : D), D.beq a a = true
  | .non => rfl
  | .bl a => by simp [D.beq]
  | .int a => by simp [D.beq]
  | .str a => by simp [D.beq]
  | .loc a => by simp [D.beq]
  | .tup a => by simp [D.beq, D.beqs_refl a]
  | .kl a => by simp [D.beq, D.beqs_refl a]
  | .exc a d n x => by simp [D.beq, D.beqs_refl x]
theorem D.beqs_refl : ∀ (a : List D), D.beqs a a = true
  | [] => rfl
  | a :: as => by simp [D.beqs, D.beq_refl a, D.beqs_refl as]
end
instance : DecidableEq D := fun a b => if h : D.beq a b = true then isTrue (D.beq_eq a b h) else isFalse fun e => h (e ▸ D.beq_refl a)
instance : DecidableEq O := fun a b => match a, b with
  | .lst x, .lst y => if h : x = y then .isTrue (by rw [h]) else .isFalse fun e => h (by cases e; rfl)
  | .dct x, .dct y => if h : x = y then .isTrue (by rw [h]) else .isFalse fun e => h (by cases e; rfl)
  | .dtt x, .dtt y => if h : x = y then .isTrue (by rw [h]) else .isFalse fun e => h (by cases e; rfl)
  | .fzd x, .fzd y => if h : x = y then .isTrue (by rw [h]) else .isFalse fun e => h (by cases e; rfl)
  | .fzt x, .fzt y => if h : x = y then .isTrue (by rw [h]) else .isFalse fun e => h (by cases e; rfl)
  | .lst _, .dct _ => .isFalse nofun
  | .lst _, .dtt _ => .isFalse nofun
  | .lst _, .fzd _ => .isFalse nofun
  | .lst _, .fzt _ => .isFalse nofun
  | .dct _, .lst _ => .isFalse nofun
  | .dct _, .dtt _ => .isFalse nofun
  | .dct _, .fzd _ => .isFalse nofun
  | .dct _, .fzt _ => .isFalse nofun
  | .dtt _, .lst _ => .isFalse nofun
  | .dtt _, .dct _ => .isFalse nofun
  | .dtt _, .fzd _ => .isFalse nofun
  | .dtt _, .fzt _ => .isFalse nofun
  | .fzd _, .lst _ => .isFalse nofun
  | .fzd _, .dct _ => .isFalse nofun
  | .fzd _, .dtt _ => .isFalse nofun
  | .fzd _, .fzt _ => .isFalse nofun
  | .fzt _, .lst _ => .isFalse nofun
  | .fzt _, .dct _ => .isFalse nofun
  | .fzt _, .dtt _ => .isFalse nofun
  | .fzt _, .fzd _ => .isFalse nofun
/-! ### what a loop walks -/
structure DIt where
  items : List D
  dep : List (Nat × O)
def DIt.ok (it : DIt) (S : Sto) : Prop := ∀ p ∈ it.dep, S[p.1]? = some p.2
instance (it : DIt) (S : Sto) : Decidable (it.ok S) := by unfold DIt.ok; exact inferInstance
@[simp] theorem DIt.ok_nil (xs : List D) (S : Sto) : DIt.ok ⟨xs, []⟩ S := fun _ h => nomatch h
def JOk (K : PySem.W.Frag) (μ0 : List Addr) (H0 : Hp) (it : DIt) (J : It) : Prop := ∀ (i : Nat) (μ : List Addr) (S : Sto) (H : Hp), Kp K μ0 H0 μ H → Rep K μ S H → it.ok S →
  (∀ d, it.items[i]? = some d → J.go i H ∧ ∀ x H', J.yld i H x H' → Kp K μ H μ H' ∧ Rep K μ S H' ∧ RV K μ H' d x) ∧ (it.items.length = i → J.stop i H)
theorem bk_j {K : PySem.W.Frag} : Bk (fun (_ : Hp) => JOk K) := fun _ _ _ _ _ _ _ h => h
def PDI (X : Cx) (W : WX) (tg iter : Expr) (ei : Env → Sto → R DIt) : Prop := PI X tg iter (lift X.K X.mg W (fun _ => JOk X.K) ei)
/-! ### targets -/
def Agr (is : List Nat) (σ σ' : L2.St) : Prop := σ'.length = σ.length ∧ ∀ j, j ∉ is → σ'[j]? = σ[j]?
def liftT (K : PySem.W.Frag) (g : D → Env → Option Env) (is : List Nat) : TG := fun v σ H Q => ∃ μ d ρ ρ', RV K μ H d v ∧ RE K μ H ρ σ ∧ g d ρ = some ρ' ∧ ∀ σ', RE K μ H ρ' σ' → Agr is σ σ' → Q σ' H
def PDG (X : Cx) (tg : Expr) (g : D → Env → Option Env) (is : List Nat) : Prop := PG X tg (liftT X.K g is)
def PDGs (X : Cx) (ts : List Expr) (g : List D → Env → Option Env) (is : List Nat) : Prop := PGs X ts (fun vs σ H Q => ∃ μ ds ρ ρ', RVs X.K μ H ds vs ∧ RE X.K μ H ρ σ ∧ g ds ρ = some ρ' ∧ ∀ σ', RE X.K μ H ρ' σ' → Agr is σ σ' → Q σ' H)
def gNm (i : Nat) : D → Env → Option Env := fun d ρ => some (ρ.set i (some d))
def gTp (g : List D → Env → Option Env) : D → Env → Option Env := fun d ρ => match d with
  | .tup ds => g ds ρ
  | _ => none
def gsNil : List D → Env → Option Env := fun ds ρ => match ds with
  | [] => some ρ
  | _ => none
def gsCons (g : D → Env → Option Env) (gs : List D → Env → Option Env) : List D → Env → Option Env := fun ds ρ => match ds with
  | d :: ds => (g d ρ).bind (gs ds)
  | _ => none
section
variable {X : Cx} {W : WX} {e a b c : Expr} {es : List Expr} {ee ea eb : Env → Sto → R F} {pos : Pos}
theorem PG.imp {e : Expr} {t t' : TG} (h : PG X e t) (i : ∀ v σ H Q, t' v σ H Q → t v σ H Q) : PG X e t' := ⟨fun pins s σ H v u Q I r q => h.run pins s σ H v u Q I r (i _ _ _ _ q)⟩
theorem PGs.imp {e : List Expr} {t t' : TGs} (h : PGs X e t) (i : ∀ v σ H Q, t' v σ H Q → t v σ H Q) : PGs X e t' := ⟨fun pins s σ H v u Q I r q => h.run pins s σ H v u Q I r (i _ _ _ _ q)⟩
theorem pdg_name {i : Nat} {x : Str} (hN : X.N.Nodup) (hi : X.N[i]? = some x) (hx : Loc X.env.scope x) (hf : X.fn x = true ∨ X.env.scope.names.lookup x = some .local := by first | exact .inl rfl | exact .inr rfl | assumption) : PDG X (.Name x pos) (gNm i) [i] :=
  PG.imp (pg_name hN hi hx hf) fun v σ H Q ⟨μ, d, ρ, ρ', rv, re, hg, q⟩ => by
    cases hg
    exact q _ (re.set i rv) ⟨List.length_set, fun j hj => List.getElem?_set_ne (fun e => hj (by simp [e]))⟩
theorem pdgs_nil : PDGs X [] gsNil [] := PGs.imp pgs_nil fun v σ H Q ⟨μ, d, ρ, ρ', rv, re, hg, q⟩ => by
  cases rv with
  | nil => cases hg; exact ⟨rfl, q _ re ⟨rfl, fun _ _ => rfl⟩⟩
  | cons _ _ => cases hg
theorem pdgs_cons {g : D → Env → Option Env} {gs : List D → Env → Option Env} {is js : List Nat} (h1 : PDG X e g is) (h2 : PDGs X es gs js)
    (hs : (assignEach (e :: es) X.env).map (·.2) = assign e X.env :: (assignEach es X.env).map (·.2) := by rfl) : PDGs X (e :: es) (gsCons g gs) (is ++ js) :=
  PGs.imp (pgs_cons h1 h2 hs) fun v σ H Q ⟨μ, d, ρ, ρ', rv, re, hg, q⟩ => by
    cases rv with
    | nil => cases hg
    | @cons d v ds vs r1 r2 =>
      have hg : (g d ρ).bind (gs ds) = some ρ' := hg
      cases h : g d ρ with
      | none => rw [h] at hg; cases hg
      | some ρ1 =>
        rw [h] at hg
        exact ⟨v, vs, rfl, μ, d, ρ, ρ1, r1, re, h, fun σ1 re1 k1 => ⟨μ, ds, ρ1, ρ', r2, re1, hg, fun σ2 re2 k2 => q σ2 re2 ⟨k2.1.trans k1.1, fun j hj => by
          rw [List.mem_append, not_or] at hj
          rw [k2.2 j hj.2, k1.2 j hj.1]⟩⟩⟩
theorem gs_len {g : List D → Env → Option Env} {n : Nat} : True := trivial
/-- a tuple of targets -/
def gTpN (n : Nat) (g : List D → Env → Option Env) : D → Env → Option Env := fun d ρ => match d with
  | .tup ds => if ds.length = n then g ds ρ else none
  | _ => none
theorem pdg_tup {k : Nat} {g : List D → Env → Option Env} {is : List Nat} {n : Nat} (hc : X.calm = true) (h : PDGs X es g is)
    (hn : (assignEach es X.env).length = n := by rfl) (hst : (assignEach es X.env).findIdx? (·.1) = none := by rfl) : PDG X (.Tuple es k pos) (gTpN n g) is :=
  PG.imp (pg_tup hc h hn hst) fun v σ H Q ⟨μ, d, ρ, ρ', rv, re, hg, q⟩ => by
    cases rv with
    | @tup a vs ds h1 h2 =>
      have hg : (if ds.length = n then g ds ρ else none) = some ρ' := hg
      simp only [Option.ite_none_right_eq_some] at hg
      exact ⟨a, vs, rfl, h1, by rw [← h2.length]; exact hg.1, μ, ds, ρ, ρ', h2, re, hg.2, q⟩
    | _ => cases hg
/-! ### statements -/
def onE {α : Type} (r : R α) (ρ : Env) (f : α → Sto → RS) : RS := match r with
  | .ok a S => f a S
  | .err x S => .err x ρ S
  | .bad => .bad
theorem PostS.onE {α γ : Type} {K : PySem.W.Frag} {mg : Str → Option Value} {RA : Hp → List Addr → Hp → α → γ → Prop} {σ : L2.St} {μ : List Addr} {H : Hp} {E : Ends} {r : R α} {ρ : Env} {f : α → Sto → RS} (p : PostS K mg W μ H E (onE r ρ f)) (re : RE K μ H ρ σ)
    {T : γ → Hp → Prop} (h : ∀ a S1 μ1 H1 c, r = .ok a S1 → Kp K μ H μ1 H1 → Rep K μ1 S1 H1 → RA H μ1 H1 a c → PostS K mg W μ1 H1 E (f a S1) → T c H1) : Post K mg W RA σ μ H T r := by
  cases r with
  | ok a S => exact fun μ' H' c k rp ra => h a S μ' H' c rfl k rp ra (PostS.step k p)
  | err x S => exact fun μ' H' cls dx k rp rx => p μ' H' σ cls dx k rp (re.mono k) rx
  | bad => exact p
def sNil : Env → Sto → RS := fun ρ S => .nx ρ S
def sSeq (s t : Env → Sto → RS) : Env → Sto → RS := fun ρ S => match s ρ S with
  | .nx ρ1 S1 => t ρ1 S1
  | r => r
def sAsg (g : D → Env → Option Env) (ee : Env → Sto → R F) : Env → Sto → RS := fun ρ S => onE (eBox ee ρ S) ρ fun d S1 => match g d ρ with
  | some ρ' => .nx ρ' S1
  | none => .bad
def sDrop (ee : Env → Sto → R F) : Env → Sto → RS := fun ρ S => onE (ee ρ S) ρ fun _ S1 => .nx ρ S1
def sRet (ee : Env → Sto → R F) : Env → Sto → RS := fun ρ S => onE (ee ρ S) ρ fun f S1 => .rt f S1
def sRetN : Env → Sto → RS := fun _ S => .rt (.v .non) S
def sIf (et : Env → Sto → R Bool) (s t : Env → Sto → RS) : Env → Sto → RS := fun ρ S => onE (et ρ S) ρ fun b S1 => if b then s ρ S1 else t ρ S1
def sBrk : Env → Sto → RS := fun ρ S => .bk ρ S
def sCont : Env → Sto → RS := fun ρ S => .ct ρ S
variable {st : Stmt} {rest : List Stmt} {s t : Env → Sto → RS}
theorem pds_nil : PDSs X W [] sNil := PSs.imp pss_nil fun D σ H ⟨μ, S, ρ, r, re, p⟩ => p μ H σ .refl r re
theorem pds_cons (h1 : PDS X W st s) (h2 : PDSs X W rest t) : PDSs X W (st :: rest) (sSeq s t) :=
  PSs.imp (pss_cons h1 h2) fun D σ H ⟨μ, S, ρ, r, re, p⟩ => ⟨μ, S, ρ, r, re, by
    unfold sSeq at p
    cases h : s ρ S with
    | nx ρ1 S1 => rw [h] at p; exact fun μ' H' σ' k r' re' => ⟨μ', S1, ρ1, r', re', PostS.step k p⟩
    | rt f S1 => rw [h] at p; exact p
    | bk ρ1 S1 => rw [h] at p; exact p
    | ct ρ1 S1 => rw [h] at p; exact p
    | err x ρ1 S1 => rw [h] at p; exact p
    | bad => rw [h] at p; exact p⟩
theorem pds_one (h1 : PDS X W st s) : PDSs X W [st] s := pss_one h1
theorem sAsg_of {g : D → Env → Option Env} {is : List Nat} {D : Ends} {σ : L2.St} {H : Hp} (h : liftS X.K X.mg W (sAsg g ee) D σ H) :
    lift X.K X.mg W (fun _ => RV X.K) (eBox ee) σ H (fun v H1 => ∃ μ d ρ ρ', RV X.K μ H1 d v ∧ RE X.K μ H1 ρ σ ∧ g d ρ = some ρ' ∧ ∀ σ', RE X.K μ H1 ρ' σ' → Agr is σ σ' → D.nx σ' H1) := by
  obtain ⟨μ, S, ρ, r, re, p⟩ := h
  refine ⟨μ, S, ρ, r, re, PostS.onE p re fun d S1 μ1 H1 v _ k r1 rv p1 => ?_⟩
  cases hg : g d ρ with
  | none => rw [hg] at p1; exact p1.elim
  | some ρ' =>
    rw [hg] at p1
    exact ⟨μ1, d, ρ, ρ', rv, re.mono k, hg, fun σ' re' _ => p1 μ1 H1 σ' .refl r1 re'⟩
theorem pds_asg {tg : Expr} {g : D → Env → Option Env} {is : List Nat} (he : PD X W e ee) (hg : PDG X tg g is) (hs : swapsWithSole [tg] e pos.line X.env = pure false := by rfl) (hw : swappedStores [tg] e X.env = pure none := by rfl)
    (h1 : (assignEach [tg] X.env).map (·.2) = [assign tg X.env] := by rfl) : PDS X W (.Assign [tg] e pos) (sAsg g ee) :=
  PS.imp (ps_asg (pd_box he) hg hs hw h1) fun D σ H h => sAsg_of h
theorem pds_set {i : Nat} {x : Str} {pos' : Pos} (hN : X.N.Nodup) (hi : X.N[i]? = some x) (hx : Loc X.env.scope x) (he : PD X W e ee) (hs : swapsWith e (some (.Name x pos')) pos.line X.env = pure false := by rfl) (hf : X.fn x = true ∨ X.env.scope.names.lookup x = some .local := by first | exact .inl rfl | exact .inr rfl | assumption) :
    PDS X W (.Assign [.Name x pos'] e pos) (sAsg (gNm i) ee) :=
  PS.imp (ps_set hN hi hx (pd_box he) hs hf) fun D σ H h => by
    obtain ⟨μ, S, ρ, r, re, p⟩ := sAsg_of (is := [i]) h
    refine ⟨μ, S, ρ, r, re, Post.imp p fun v H1 ⟨μ', d, ρ1, ρ', rv, re1, hg, q⟩ => ?_⟩
    cases hg
    exact q _ (re1.set i rv) ⟨List.length_set, fun j hj => List.getElem?_set_ne (fun e => hj (by simp [e]))⟩
theorem pds_drop (he : PD X W e ee) (hs : swapsWith e none pos.line X.env = pure false := by rfl) : PDS X W (.Expr e pos) (sDrop ee) :=
  PS.imp (ps_expr he hs) fun D σ H ⟨μ, S, ρ, r, re, p⟩ => ⟨μ, S, ρ, r, re, PostS.onE p re fun d S1 μ1 H1 v _ k r1 rv p1 => p1 μ1 H1 σ .refl r1 (re.mono k)⟩
theorem pds_ret (he : PD X W e ee) : PDS X W (.Return (some e) pos) (sRet ee) :=
  PS.imp (ps_ret he) fun D σ H ⟨μ, S, ρ, r, re, p⟩ => ⟨μ, S, ρ, r, re, by
    unfold sRet DL.onE at p
    cases h : ee ρ S with
    | ok f S1 => rw [h] at p; exact p
    | err x S1 => rw [h] at p; exact fun μ' H' cls dx k rp rx => p μ' H' σ cls dx k rp (re.mono k) rx
    | bad => rw [h] at p; exact p⟩
theorem pds_retN : PDS X W (.Return none pos) sRetN := PS.imp ps_retN fun D σ H ⟨μ, S, ρ, r, re, p⟩ => p μ H _ .refl r (.v .non)
theorem pds_if {c : Expr} {et : Env → Sto → R Bool} {A B : List Stmt} (hc : PDT X W c et) (ha : PDSs X W A s) (hb : PDSs X W B t) : PDS X W (.If c A B pos) (sIf et s t) :=
  PS.imp (ps_if hc ha hb) fun D σ H ⟨μ, S, ρ, r, re, p⟩ => ⟨μ, S, ρ, r, re, PostS.onE p re fun d S1 μ1 H1 v _ k r1 rv p1 => by
    subst rv
    cases d with
    | true => rw [if_pos rfl] at p1 ⊢; exact ⟨μ1, S1, ρ, r1, re.mono k, p1⟩
    | false => rw [if_neg (by decide)] at p1 ⊢; exact ⟨μ1, S1, ρ, r1, re.mono k, p1⟩⟩
theorem pds_brk : PDS X W (.Break pos) sBrk := PS.imp ps_break fun D σ H ⟨μ, S, ρ, r, re, p⟩ => p μ H σ .refl r re
theorem pds_cont : PDS X W (.Continue pos) sCont := PS.imp ps_continue fun D σ H ⟨μ, S, ρ, r, re, p⟩ => p μ H σ .refl r re
theorem pds_pass : PDS X W (.Pass pos) sNil := PS.imp ps_pass fun D σ H ⟨μ, S, ρ, r, re, p⟩ => p μ H σ .refl r re
/-! ### for -/
def forL (it : DIt) (g : D → Env → Option Env) (se : Env → Sto → RS) : List D → Env → Sto → RS
  | [], ρ, S => if it.ok S then .nx ρ S else .bad
  | d :: ds, ρ, S => if it.ok S then (match g d ρ with
      | none => .bad
      | some ρ1 => match se ρ1 S with
        | .nx ρ2 S2 => forL it g se ds ρ2 S2
        | .ct ρ2 S2 => forL it g se ds ρ2 S2
        | .bk ρ2 S2 => .nx ρ2 S2
        | .rt f S2 => .rt f S2
        | .err x ρ2 S2 => .err x ρ2 S2
        | .bad => .bad) else .bad
def sFor (ei : Env → Sto → R DIt) (g : D → Env → Option Env) (se : Env → Sto → RS) : Env → Sto → RS := fun ρ S => onE (ei ρ S) ρ fun it S1 => forL it g se it.items ρ S1
theorem pds_for {tg iter : Expr} {body : List Stmt} {ei : Env → Sto → R DIt} {g : D → Env → Option Env} {is : List Nat} {se : Env → Sto → RS} (hp : PassesOwn (model X.prog X.w) X.A X.env X.xe) (hc : X.calm = true) (hi : PDI X W tg iter ei) (hg : PDG X tg g is) (hb : PDSs X W body se)
    (hs : ∀ x, foldedSetIterable iter X.env x = pure x := by intro _; rfl) : PDS X W (.For tg iter body [] pos) (sFor ei g se) :=
  PS.imp (ps_for hp hc hi hg hb hs) fun E σ H ⟨μ, S, ρ, r, re, p⟩ => by
    refine ⟨μ, S, ρ, r, re, PostS.onE p re fun it S1 μ1 H1 J _ k r1 jo p1 => ?_⟩
    refine ⟨fun i m σ H => ∃ μ S ρ ds, Kp X.K μ1 H1 μ H ∧ Rep X.K μ S H ∧ RE X.K μ H ρ σ ∧ it.items.drop i = ds ∧ i ≤ it.items.length ∧ m = ds.length ∧ PostS X.K X.mg W μ H E (forL it g se ds ρ S),
      ⟨it.items.length, μ1, S1, ρ, it.items, .refl, r1, re.mono k, rfl, Nat.zero_le _, rfl, p1⟩, ?_⟩
    rintro i m σ2 H2 ⟨μ2, S2, ρ2, ds, k2, r2, re2, hd, hle, rfl, p2⟩
    cases ds with
    | nil =>
      unfold forL at p2
      by_cases ho : it.ok S2
      · rw [if_pos ho] at p2
        exact .inl ⟨(jo i μ2 S2 H2 k2 r2 ho).2 (Nat.le_antisymm (List.drop_eq_nil_iff.mp hd) hle), p2 μ2 H2 σ2 .refl r2 re2⟩
      · rw [if_neg ho] at p2; exact p2.elim
    | cons d ds =>
      unfold forL at p2
      by_cases ho : it.ok S2
      · rw [if_pos ho] at p2
        have hget : it.items[i]? = some d := by
          have := congrArg (·[0]?) hd
          simpa using this
        have hnext : it.items.drop (i + 1) = ds := by
          rw [← List.drop_drop, hd]; rfl
        obtain ⟨go, yl⟩ := (jo i μ2 S2 H2 k2 r2 ho).1 d hget
        cases hgg : g d ρ2 with
        | none => rw [hgg] at p2; exact p2.elim
        | some ρ3 =>
          rw [hgg] at p2
          refine .inr ⟨go, fun σ' H' => ∃ μ S ρ, Kp X.K μ1 H1 μ H' ∧ Rep X.K μ S H' ∧ RE X.K μ H' ρ σ' ∧ PostS X.K X.mg W μ H' E (forL it g se ds ρ S), ?_, ?_⟩
          · rintro σ' H' ⟨μ', S', ρ', k', r', re', p'⟩
            exact ⟨ds.length, by simp, μ', S', ρ', ds, k', r', re', hnext, (List.getElem?_eq_some_iff.mp hget).1, rfl, p'⟩
          · intro x H' hy
            obtain ⟨k3, r3, rv⟩ := yl x H' hy
            refine ⟨μ2, d, ρ2, ρ3, rv, re2.mono k3, hgg, fun σ4 re4 _ => ?_⟩
            refine ⟨μ2, S2, ρ3, r3, re4, ?_⟩
            have p3 := PostS.step k3 p2
            dsimp only at p3
            cases hse : se ρ3 S2 with
            | nx ρ4 S4 => rw [hse] at p3; exact fun μ' H'' σ' k' r' re' => ⟨μ', S4, ρ4, (k2.trans k3).trans k', r', re', PostS.step k' p3⟩
            | ct ρ4 S4 => rw [hse] at p3; exact fun μ' H'' σ' k' r' re' => ⟨μ', S4, ρ4, (k2.trans k3).trans k', r', re', PostS.step k' p3⟩
            | bk ρ4 S4 => rw [hse] at p3; exact p3
            | rt f S4 => rw [hse] at p3; exact p3
            | err x ρ4 S4 => rw [hse] at p3; exact p3
            | bad => rw [hse] at p3; exact p3
      · rw [if_neg ho] at p2; exact p2.elim
end
end DL
/-! ## DFor -/
set_option maxHeartbeats 1000000
namespace DL
open PySem PySem.Spec L2
/-! ### what is walked: lists, tuples, ranges -/
def eSeq (ee : Env → Sto → R F) : Env → Sto → R DIt := fun ρ S => (ee ρ S).bind fun f S1 => match f with
  | .l ds => .ok ⟨ds, []⟩ S1
  | .v (.tup ds) => .ok ⟨ds, []⟩ S1
  | .v (.kl ds) => .ok ⟨ds, []⟩ S1
  | .v (.loc n) => (match S1[n]? with
    | some (.lst ds) => .ok ⟨ds, [(n, .lst ds)]⟩ S1
    | _ => .bad)
  | _ => .bad
def rngD (lo : Int) (n : Nat) : List D := (List.range n).map fun (i : Nat) => D.int (lo + (i : Int))
def oneI (fs : List F) : Option Int := match fs with
  | [.v (.int n)] => some n
  | _ => none
def twoI (fs : List F) : Option (Int × Int) := match fs with
  | [.v (.int n), .v (.int m)] => some (n, m)
  | _ => none
theorem oneI_some {fs : List F} {n : Int} (h : oneI fs = some n) : fs = [.v (.int n)] := by
  unfold oneI at h
  split at h <;> cases h
  rfl
theorem twoI_some {fs : List F} {n : Int × Int} (h : twoI fs = some n) : fs = [.v (.int n.1), .v (.int n.2)] := by
  unfold twoI at h
  split at h <;> cases h
  rfl
def eRng1 (ea : Env → Sto → R (List F)) : Env → Sto → R DIt := fun ρ S => (ea ρ S).bind fun fs S1 => match oneI fs with
  | some n => if n ≤ 1000000000 ∧ -1000000000 ≤ n then .ok ⟨rngD 0 n.toNat, []⟩ S1 else .bad
  | _ => .bad
def eRng2 (ea : Env → Sto → R (List F)) : Env → Sto → R DIt := fun ρ S => (ea ρ S).bind fun fs S1 => match twoI fs with
  | some n => if (n.1 ≤ 1000000000 ∧ -1000000000 ≤ n.1) ∧ n.2 ≤ 1000000000 ∧ -1000000000 ≤ n.2 then .ok ⟨rngD n.1 (n.2 - n.1).toNat, []⟩ S1 else .bad
  | _ => .bad
theorem jok_list {K : PySem.W.Frag} {μ0 : List Addr} {H0 : Hp} {it : DIt} {a : Addr} (h : ∀ μ S H, Kp K μ0 H0 μ H → Rep K μ S H → it.ok S → ∃ vs, SqL K H a vs ∧ RVs K μ H it.items vs) : JOk K μ0 H0 it (Itl K a) := fun i μ S H k r o => by
  obtain ⟨vs, hq, rv⟩ := h μ S H k r o
  refine ⟨fun d hd => ?_, fun hi => ⟨vs, hq, by rw [← rv.length]; exact Nat.le_of_eq hi⟩⟩
  obtain ⟨v, h1, h2⟩ := rv.get hd
  refine ⟨⟨vs, v, hq, h1⟩, fun x H' ⟨e, hx⟩ => ?_⟩
  subst e
  have := (hx vs hq).symm.trans h1
  cases this
  exact ⟨.refl, r, h2⟩
theorem jok_tup {K : PySem.W.Frag} {μ0 : List Addr} {H0 : Hp} {it : DIt} {a : Addr} (h : ∀ μ S H, Kp K μ0 H0 μ H → Rep K μ S H → it.ok S → ∃ vs, SqT K H a vs ∧ RVs K μ H it.items vs) : JOk K μ0 H0 it (Itt K a) := fun i μ S H k r o => by
  obtain ⟨vs, hq, rv⟩ := h μ S H k r o
  refine ⟨fun d hd => ?_, fun hi => ⟨vs, hq, by rw [← rv.length]; exact Nat.le_of_eq hi⟩⟩
  obtain ⟨v, h1, h2⟩ := rv.get hd
  refine ⟨⟨vs, v, hq, h1⟩, fun x H' ⟨e, hx⟩ => ?_⟩
  subst e
  have := (hx vs hq).symm.trans h1
  cases this
  exact ⟨.refl, r, h2⟩
theorem rngD_get {lo : Int} {n i : Nat} {d : D} (h : (rngD lo n)[i]? = some d) : i < n ∧ d = .int (lo + (i : Int)) := by
  unfold rngD at h
  rw [List.getElem?_map] at h
  cases hr : (List.range n)[i]? with
  | none => rw [hr] at h; cases h
  | some j =>
    rw [hr] at h
    rw [List.getElem?_eq_some_iff] at hr
    obtain ⟨h1, h2⟩ := hr
    rw [List.getElem_range] at h2
    rw [List.length_range] at h1
    subst h2
    exact ⟨h1, (Option.some.inj h).symm⟩
theorem jok_rng {K : PySem.W.Frag} {μ0 : List Addr} {H0 : Hp} {lo : Int} {n : Nat} : JOk K μ0 H0 ⟨rngD lo n, []⟩ (Itr lo n) := fun i μ S H k r o => by
  refine ⟨fun d hd => ?_, fun hi => by
    have : n = i := by simpa [rngD] using hi
    exact Nat.le_of_eq this⟩
  obtain ⟨h1, rfl⟩ := rngD_get hd
  refine ⟨h1, fun x H' ⟨e1, e2⟩ => ?_⟩
  subst e1; subst e2
  exact ⟨.refl, r, .int⟩
section
variable {X : Cx} {W : WX} {e a b c tg : Expr} {es : List Expr} {ee ea eb : Env → Sto → R F} {pos : Pos}
theorem pi_or {w1 w2 : TI} (h1 : PI X tg e w1) (h2 : PI X tg e w2) : PI X tg e (fun σ H R => w1 σ H R ∨ w2 σ H R) := ⟨fun pins s σ H R I h => by
  rcases h with h | h
  · exact h1.run pins s σ H R I h
  · exact h2.run pins s σ H R I h⟩
theorem PI.imp {w1 w2 : TI} (h1 : PI X tg e w1) (h : ∀ σ H R, w2 σ H R → w1 σ H R) : PI X tg e w2 := ⟨fun pins s σ H R I q => h1.run pins s σ H R I (h _ _ _ q)⟩
theorem pdi_seq (h : PD X W e ee) : PDI X W tg e (eSeq ee) :=
  PI.imp (pi_or (pi_list h) (pi_tup h)) fun σ H RR ⟨μ, S, ρ, r, re, p⟩ => by
    cases hr : ee ρ S with
    | bad => unfold eSeq at p; rw [hr] at p; exact p.elim
    | err x S1 =>
      unfold eSeq at p; rw [hr] at p
      exact .inl ⟨μ, S, ρ, r, re, by rw [hr]; exact p⟩
    | ok f S1 =>
      unfold eSeq at p; rw [hr, DL.R.bind_ok] at p
      cases f with
      | l ds =>
        refine .inl ⟨μ, S, ρ, r, re, ?_⟩
        rw [hr]
        intro μ1 H1 v k r1 rf
        cases rf with
        | @l a vs ds h1 h2 h3 h4 =>
          refine ⟨a, rfl, ⟨vs, .inl (.inl h1)⟩, p μ1 H1 _ k r1 (jok_list fun μ' S' H' k' r' o => ⟨vs, .inl (.inl (k'.frm _ _ h1 h2)), h4.mono k'⟩)⟩
      | v d =>
        cases d with
        | tup ds =>
          refine .inr ⟨μ, S, ρ, r, re, ?_⟩
          rw [hr]
          intro μ1 H1 v k r1 rf
          cases rf with
          | v rv =>
            cases rv with
            | @tup a vs ds h1 h2 =>
              exact ⟨a, rfl, ⟨vs, h1⟩, p μ1 H1 _ k r1 (jok_tup fun μ' S' H' k' r' o => ⟨vs, k'.tup _ _ h1, h2.mono k'⟩)⟩
        | kl ds =>
          refine .inl ⟨μ, S, ρ, r, re, ?_⟩
          rw [hr]
          intro μ1 H1 v k r1 rf
          cases rf with
          | v rv =>
            cases rv with
            | @kl a vs ds h1 h2 =>
              exact ⟨a, rfl, ⟨vs, h1.l⟩, p μ1 H1 _ k r1 (jok_list fun μ' S' H' k' r' o => ⟨vs, (k'.kls _ _ h1).l, h2.mono k'⟩)⟩
        | loc n =>
          refine .inl ⟨μ, S, ρ, r, re, ?_⟩
          rw [hr]
          intro μ1 H1 v k r1 rf
          cases rf with
          | v rv =>
            cases rv with
            | @loc n a hn =>
              dsimp only at p
              cases hs : S1[n]? with
              | none => rw [hs] at p; exact p.elim
              | some o =>
                rw [hs] at p
                have ro := r1.obj n o a hs hn
                cases o with
                | lst ds =>
                  cases ro with
                  | lst h1 h2 =>
                    refine ⟨a, rfl, ⟨_, .inl (.inl h1)⟩, p μ1 H1 _ k r1 (jok_list fun μ' S' H' k' r' o => ?_)⟩
                    cases r'.obj n _ a (o (n, .lst ds) (by simp)) (k'.get hn) with
                    | lst h1 h2 => exact ⟨_, .inl (.inl h1), h2⟩
                | dct _ => exact p.elim
                | dtt _ => exact p.elim
                | fzd _ => exact p.elim
                | fzt _ => exact p.elim
        | _ => exact p.elim
theorem pdi_rng1 {p : Pos} {ea : Env → Sto → R (List F)} (hg : Gl X "range") (hm : X.mg "range" = none) (ha : PDF X W [a] ea) (hs : starEach [a] X.env = [(false, eval a X.env)] := by rfl) : PDI X W tg (.Call (.Name "range" p) [a] [] pos) (eRng1 ea) :=
  PI.imp (pi_range1 hg hm ha hs) fun σ H RR ⟨μ, S, ρ, r, re, p⟩ => ⟨μ, S, ρ, r, re, Post.bind bk_j p fun fs S1 μ1 H1 vs _ k r1 rv p1 => by
    cases hn : oneI fs with
    | none => rw [hn] at p1; exact p1.elim
    | some n =>
      rw [hn] at p1
      have e := oneI_some hn
      subst e
      cases rv with
      | cons rf rn =>
        cases rn
        cases rf with
        | v rv =>
          cases rv
          dsimp only at p1
          by_cases hb : n ≤ 1000000000 ∧ -1000000000 ≤ n
          · rw [if_pos hb] at p1
            exact ⟨n, rfl, by omega, by omega, p1 μ1 H1 _ .refl r1 jok_rng⟩
          · rw [if_neg hb] at p1; exact p1.elim⟩
theorem pdi_rng2 {p : Pos} {ea : Env → Sto → R (List F)} (hg : Gl X "range") (hm : X.mg "range" = none) (ha : PDF X W [a, b] ea) (hs : starEach [a, b] X.env = [(false, eval a X.env), (false, eval b X.env)] := by rfl) (hs2 : starEach [b] X.env = [(false, eval b X.env)] := by rfl) : PDI X W tg (.Call (.Name "range" p) [a, b] [] pos) (eRng2 ea) :=
  PI.imp (pi_range2 hg hm ha hs hs2) fun σ H RR ⟨μ, S, ρ, r, re, p⟩ => ⟨μ, S, ρ, r, re, Post.bind bk_j p fun fs S1 μ1 H1 vs _ k r1 rv p1 => by
    cases hn : twoI fs with
    | none => rw [hn] at p1; exact p1.elim
    | some n =>
      rw [hn] at p1
      obtain ⟨lo, hi⟩ := n
      have e := twoI_some hn
      subst e
      cases rv with
      | cons rf rn =>
        cases rn with
        | cons rf2 rn =>
          cases rn
          cases rf with
          | v rv =>
            cases rv
            cases rf2 with
            | v rv =>
              cases rv
              dsimp only at p1
              by_cases hb : (lo ≤ 1000000000 ∧ -1000000000 ≤ lo) ∧ hi ≤ 1000000000 ∧ -1000000000 ≤ hi
              · rw [if_pos hb] at p1
                exact ⟨lo, hi, rfl, ⟨by omega, by omega, by omega, by omega⟩, p1 μ1 H1 _ .refl r1 jok_rng⟩
              · rw [if_neg hb] at p1; exact p1.elim⟩
/-! ### comprehensions -/
def wipeE (ρ : Env) : List Nat → Env
  | [] => ρ
  | v :: vs => (wipeE ρ vs).set v none
def okOr {α β : Type} (r : R α) (f : α → Sto → R β) : R β := match r with
  | .ok a S => f a S
  | _ => .bad
def lcL (it : DIt) (g : D → Env → Option Env) (et : Env → Sto → R Bool) (ee : Env → Sto → R F) (ρ : Env) : List D → Sto → R (List D)
  | [], S => if it.ok S then .ok [] S else .bad
  | d :: ds, S => if it.ok S then (match g d ρ with
      | none => .bad
      | some ρ1 => okOr (et ρ1 S) fun b S1 => if b then okOr (eBox ee ρ1 S1) fun y S2 => okOr (lcL it g et ee ρ ds S2) fun ys S3 => .ok (y :: ys) S3 else lcL it g et ee ρ ds S1) else .bad
def eLc (ei : Env → Sto → R DIt) (g : D → Env → Option Env) (et : Env → Sto → R Bool) (ee : Env → Sto → R F) (vs : List Nat) : Env → Sto → R F := fun ρ S => (ei ρ S).bind fun it S1 =>
  if it.items.length ≤ 1000000 then okOr (lcL it g et ee (wipeE ρ vs) it.items S1) fun ys S2 => .ok (.l ys) S2 else .bad
def tYes' : Env → Sto → R Bool := fun _ S => .ok true S
theorem RE.wipe {K : PySem.W.Frag} {μ : List Addr} {H : Hp} {ρ : Env} {σ : L2.St} (r : RE K μ H ρ σ) : ∀ vs, RE K μ H (wipeE ρ vs) (wipe σ vs)
  | [] => r
  | v :: vs => by
    have ih := r.wipe vs
    refine ⟨by show ((wipeE ρ vs).set v none).length = ((L2.wipe σ vs).set v none).length; rw [List.length_set, List.length_set, ih.len], fun j d q => ?_⟩
    have q : ((wipeE ρ vs).set v none)[j]? = some (some d) := q
    show ∃ x, ((L2.wipe σ vs).set v none)[j]? = some (some x) ∧ _
    by_cases e : v = j
    · subst e
      rcases Nat.lt_or_ge v (wipeE ρ vs).length with hl | hl
      · rw [List.getElem?_set_self hl] at q; cases q
      · rw [List.getElem?_eq_none (by rw [List.length_set]; exact hl)] at q; cases q
    · rw [List.getElem?_set_ne e] at q
      obtain ⟨x, h1, h2⟩ := ih.at' j d q
      exact ⟨x, by rw [List.getElem?_set_ne e]; exact h1, h2⟩
theorem wipe_get {σ : L2.St} {vs : List Nat} {j : Nat} : (L2.wipe σ vs)[j]? = if j ∈ vs then (σ[j]?).map fun _ => none else σ[j]? := by
  induction vs with
  | nil => simp [L2.wipe]
  | cons v vs ih =>
    show ((L2.wipe σ vs).set v none)[j]? = _
    by_cases e : v = j
    · subst e
      rw [if_pos (by simp)]
      rcases Nat.lt_or_ge v σ.length with hl | hl
      · rw [List.getElem?_set_self (by rw [wipe_length]; exact hl), List.getElem?_eq_getElem hl]; rfl
      · rw [List.getElem?_eq_none (by rw [List.length_set, wipe_length]; exact hl), List.getElem?_eq_none hl]; rfl
    · rw [List.getElem?_set_ne e, ih]
      have : (j ∈ v :: vs) ↔ j ∈ vs := by simp [Ne.symm e]
      simp only [this]
theorem wipe_same {σ σ' : L2.St} {vs is : List Nat} (hs : is ⊆ vs) (hl : σ'.length = σ.length) (h : ∀ j, j ∉ is → σ'[j]? = σ[j]?) : L2.wipe σ' vs = L2.wipe σ vs := by
  apply List.ext_getElem?
  intro j
  rw [wipe_get, wipe_get]
  by_cases hj : j ∈ vs
  · rw [if_pos hj, if_pos hj]
    rcases Nat.lt_or_ge j σ.length with q | q
    · rw [List.getElem?_eq_getElem q, List.getElem?_eq_getElem (by rw [hl]; exact q)]; rfl
    · rw [List.getElem?_eq_none q, List.getElem?_eq_none (by rw [hl]; exact q)]
  · rw [if_neg hj, if_neg hj]
    exact h j fun e => hj (hs e)
theorem wipe_wipe {σ : L2.St} {vs : List Nat} : L2.wipe (L2.wipe σ vs) vs = L2.wipe σ vs := by
  apply List.ext_getElem?
  intro j
  rw [wipe_get, wipe_get]
  by_cases hj : j ∈ vs
  · rw [if_pos hj, if_pos hj]; cases σ[j]? <;> rfl
  · rw [if_neg hj, if_neg hj]
abbrev W0 : WX := fun _ _ _ _ => False
theorem tLc_of {ei : Env → Sto → R DIt} {g : D → Env → Option Env} {et : Env → Sto → R Bool} {is vs : List Nat} {σ : L2.St} {H : Hp} {Q : VK} (hs : is ⊆ vs) (h : lift X.K X.mg W (RF X.K) (eLc ei g et ee vs) σ H Q) :
    tLc (lift X.K X.mg W (fun _ => JOk X.K) ei) (liftT X.K g is)
      (lift X.K X.mg W0 (fun _ _ _ a b => a = b) et) (lift X.K X.mg W0 (fun _ => RV X.K) (eBox ee)) vs σ H Q := by
  obtain ⟨μ, S, ρ, r, re, p⟩ := h
  refine ⟨μ, S, ρ, r, re, Post.bind bk_f p fun it S1 μ1 H1 J _ k r1 jo p1 => fun Dl hDl => ?_⟩
  by_cases hlen : it.items.length ≤ 1000000
  rotate_left
  · rw [if_neg hlen] at p1; exact p1.elim
  rw [if_pos hlen] at p1
  have kn : Kp X.K μ1 H1 μ1 (upd H1 Dl (.lst [])) := Kp.new hDl
  refine ⟨fun i m H => ∃ μ S ds acc vacc, Kp X.K μ1 H1 μ H ∧ Rep X.K μ S H ∧ Dl ∉ μ ∧ H Dl = some (.lst vacc) ∧ RVs X.K μ H acc vacc ∧ acc.length ≤ i ∧ it.items.drop i = ds ∧ i ≤ it.items.length ∧ m = ds.length ∧ Post X.K X.mg W (RF X.K) σ μ1 H1 Q (okOr (lcL it g et ee (wipeE ρ vs) ds S) fun ys S2 => .ok (.l (acc ++ ys)) S2),
    ⟨it.items.length, μ1, S1, it.items, [], [], kn, r1.new hDl, r1.notin hDl, upd_same, .nil, Nat.le_refl _, rfl, Nat.zero_le _, rfl, p1⟩, ?_⟩
  rintro i m H2 ⟨μ2, S2, ds, acc, vacc, k2, r2, hn2, hD2, ra, hla, hd, hle, rfl, p2⟩
  cases ds with
  | nil =>
    unfold lcL at p2
    by_cases ho : it.ok S2
    · rw [if_pos ho] at p2
      refine .inl ⟨(jo i μ2 S2 H2 k2 r2 ho).2 (Nat.le_antisymm (List.drop_eq_nil_iff.mp hd) hle), ?_⟩
      refine p2 μ2 H2 _ k2 r2 (.l hD2 hn2 hDl ?_)
      rw [List.append_nil]; exact ra
    · rw [if_neg ho] at p2; exact p2.elim
  | cons d ds =>
    unfold lcL at p2
    by_cases ho : it.ok S2
    · rw [if_pos ho] at p2
      have hget : it.items[i]? = some d := by
        have := congrArg (·[0]?) hd
        simpa using this
      have hlt : i < it.items.length := (List.getElem?_eq_some_iff.mp hget).1
      have hnext : it.items.drop (i + 1) = ds := by
        rw [← List.drop_drop, hd]; rfl
      obtain ⟨go, yl⟩ := (jo i μ2 S2 H2 k2 r2 ho).1 d hget
      cases hgg : g d (wipeE ρ vs) with
      | none => rw [hgg] at p2; exact p2.elim
      | some ρ3 =>
        rw [hgg] at p2
        dsimp only at p2
        refine .inr ⟨go, fun H' => ∃ μ S acc vacc, Kp X.K μ1 H1 μ H' ∧ Rep X.K μ S H' ∧ Dl ∉ μ ∧ H' Dl = some (.lst vacc) ∧ RVs X.K μ H' acc vacc ∧ acc.length ≤ i + 1 ∧ Post X.K X.mg W (RF X.K) σ μ1 H1 Q (okOr (lcL it g et ee (wipeE ρ vs) ds S) fun ys S2 => .ok (.l (acc ++ ys)) S2), ?_, ?_⟩
        · rintro H' ⟨μ', S', acc', vacc', k', r', n', h', ra', hl', p'⟩
          exact ⟨ds.length, by simp, μ', S', ds, acc', vacc', k', r', n', h', ra', hl', hnext, hlt, rfl, p'⟩
        · intro x H' hy
          obtain ⟨k3, r3, rv⟩ := yl x H' hy
          have rew : RE X.K μ2 H' (wipeE ρ vs) (L2.wipe σ vs) := (((re.mono k).mono k2).mono k3).wipe vs
          refine ⟨μ2, d, _, ρ3, rv, rew, hgg, fun σ4 re4 hσ4 => ?_⟩
          refine ⟨?_, μ2, S2, ρ3, r3, re4, ?_⟩
          · rw [wipe_same hs hσ4.1 hσ4.2, wipe_wipe]
          · -- the test
            cases het : et ρ3 S2 with
            | bad => rw [het] at p2; exact p2.elim
            | err x S' => rw [het] at p2; exact p2.elim
            | ok b S5 =>
              rw [het] at p2
              intro μ5 H5 b' k5 r5 eb
              subst eb
              have k25 := (k2.trans k3).trans k5
              have hn5 : Dl ∉ μ5 := fun hm => by
                rcases (k3.trans k5).fr _ hm with z | z
                · exact hn2 z
                · rw [hD2] at z; cases z
              have hD5 : H5 Dl = some (.lst vacc) := (k3.trans k5).frm _ _ hD2 hn2
              cases b with
              | false =>
                rw [if_neg (by decide)]
                have p3 : Post X.K X.mg W (RF X.K) σ μ1 H1 Q (okOr (lcL it g et ee (wipeE ρ vs) ds S5) fun ys S2 => .ok (.l (acc ++ ys)) S2) := p2
                exact ⟨μ5, S5, acc, vacc, k25, r5, hn5, hD5, (ra.mono k3).mono k5, Nat.le_succ_of_le hla, p3⟩
              | true =>
                rw [if_pos rfl]
                refine ⟨μ5, S5, ρ3, r5, re4.mono k5, ?_⟩
                cases hee : eBox ee ρ3 S5 with
                | bad =>
                  have p3 : Post X.K X.mg W (RF X.K) σ μ1 H1 Q (okOr (okOr (eBox ee ρ3 S5) fun y S2 => okOr (lcL it g et ee (wipeE ρ vs) ds S2) fun ys S3 => .ok (y :: ys) S3) fun ys S2 => .ok (.l (acc ++ ys)) S2) := p2
                  rw [hee] at p3; exact p3.elim
                | err x S' =>
                  have p3 : Post X.K X.mg W (RF X.K) σ μ1 H1 Q (okOr (okOr (eBox ee ρ3 S5) fun y S2 => okOr (lcL it g et ee (wipeE ρ vs) ds S2) fun ys S3 => .ok (y :: ys) S3) fun ys S2 => .ok (.l (acc ++ ys)) S2) := p2
                  rw [hee] at p3; exact p3.elim
                | ok y S6 =>
                  have p3 : Post X.K X.mg W (RF X.K) σ μ1 H1 Q (okOr (okOr (eBox ee ρ3 S5) fun y S2 => okOr (lcL it g et ee (wipeE ρ vs) ds S2) fun ys S3 => .ok (y :: ys) S3) fun ys S2 => .ok (.l (acc ++ ys)) S2) := p2
                  rw [hee] at p3
                  intro μ6 H6 yv k6 r6 ry
                  have hn6 : Dl ∉ μ6 := fun hm => by
                    rcases k6.fr _ hm with z | z
                    · exact hn5 z
                    · rw [hD5] at z; cases z
                  have hD6 : H6 Dl = some (.lst vacc) := k6.frm _ _ hD5 hn5
                  have ra6 := ((ra.mono k3).mono k5).mono k6
                  have hv : vacc.length < sizeLine := by
                    rw [← ra.length]
                    have : sizeLine = 16777216 := by decide
                    omega
                  refine ⟨vacc, hD6, hv, ?_⟩
                  -- the new list is no object of the store
                  have fr : Free H6 Dl := .inr (.inl ⟨_, hD6⟩)
                  refine ⟨μ6, S6, acc ++ [y], vacc ++ [yv], (k25.trans k6).other hDl fr, r6.other hn6 fr, hn6, upd_same, (ra6.append (.cons ry .nil)).up (.upd fr), by simp; omega, ?_⟩
                  have e : (fun (ys : List D) (S2 : Sto) => (R.ok (F.l (acc ++ [y] ++ ys)) S2)) = fun ys S2 => R.ok (F.l (acc ++ y :: ys)) S2 := by
                    funext ys S2; simp
                  rw [e]
                  revert p3
                  show Post X.K X.mg W (RF X.K) σ μ1 H1 Q (okOr (okOr (lcL it g et ee (wipeE ρ vs) ds S6) fun ys S3 => .ok (y :: ys) S3) fun ys S2 => .ok (.l (acc ++ ys)) S2) → _
                  cases lcL it g et ee (wipeE ρ vs) ds S6 <;> exact id
    · rw [if_neg ho] at p2; exact p2.elim
/-- [e for tg in iter if ..] -/
theorem pd_lc {elt iter : Expr} {ifs : List Expr} {scope : Scope} {own : List (Str × Nat)} {ei : Env → Sto → R DIt} {g : D → Env → Option Env} {is : List Nat} {et : Env → Sto → R Bool} (hc : X.calm = true) (hN : X.N.Nodup) (hi : PDI X W tg iter ei) (ok : blkC X.N X.env.scope scope own = true)
    (hg : ∀ (s : Shared) (H : Hp) (C : Addr) (cl : List (Str × Addr)) (fp : List Addr), PDG (X.blk s H scope (compEnvC scope cl C X.env) fp) tg g is)
    (ht : ∀ (s : Shared) (H : Hp) (C : Addr) (cl : List (Str × Addr)) (fp : List Addr), PTs (X.blk s H scope (compEnvC scope cl C X.env) fp) ifs (lift X.K X.mg W0 (fun _ _ _ a b => a = b) et))
    (he : ∀ (s : Shared) (H : Hp) (C : Addr) (cl : List (Str × Addr)) (fp : List Addr), PD (X.blk s H scope (compEnvC scope cl C X.env) fp) W0 elt ee) (hsub : is ⊆ own.map (·.2)) (hs : ∀ x, foldedSetIterable iter X.env x = pure x := by intro _; rfl) :
    PD X W (.ListComp elt [⟨tg, iter, ifs, 0⟩] scope pos) (eLc ei g et ee (own.map (·.2))) :=
  PE.imp (pe_lc (g := liftT X.K g is) hc hN hi (blkOk_by ok) hg ht (fun s H C cl fp => pd_box (he s H C cl fp)) hs) fun σ H Q h => tLc_of hsub h
theorem pds_setLc {i : Nat} {y : Str} {py spos : Pos} {elt iter : Expr} {ifs : List Expr} {scope : Scope} {own : List (Str × Nat)} {ei : Env → Sto → R DIt} {g : D → Env → Option Env} {is : List Nat} {et : Env → Sto → R Bool} (hc : X.calm = true) (hN : X.N.Nodup) (hy : X.N[i]? = some y) (hyl : X.env.scope.names.lookup y = some .local)
    (hsw : swapsWith (.ListComp elt [⟨tg, iter, ifs, 0⟩] scope pos) (some (.Name y py)) spos.line X.env = pure true) (hi : PDI X W tg iter ei) (ok : blkC X.N X.env.scope scope own = true)
    (hg : ∀ (s : Shared) (H : Hp) (C : Addr) (cl : List (Str × Addr)) (fp : List Addr), PDG (X.blk s H scope (compEnvC scope cl C X.env) fp) tg g is)
    (ht : ∀ (s : Shared) (H : Hp) (C : Addr) (cl : List (Str × Addr)) (fp : List Addr), PTs (X.blk s H scope (compEnvC scope cl C X.env) fp) ifs (lift X.K X.mg W0 (fun _ _ _ a b => a = b) et))
    (he : ∀ (s : Shared) (H : Hp) (C : Addr) (cl : List (Str × Addr)) (fp : List Addr), PD (X.blk s H scope (compEnvC scope cl C X.env) fp) W0 elt ee) (hsub : is ⊆ own.map (·.2)) (hs : ∀ x, foldedSetIterable iter X.env x = pure x := by intro _; rfl) :
    PDS X W (.Assign [.Name y py] (.ListComp elt [⟨tg, iter, ifs, 0⟩] scope pos) spos) (sAsg (gNm i) (eLc ei g et ee (own.map (·.2)))) :=
  PS.imp (ps_setLc (g := liftT X.K g is) (te := lift X.K X.mg W0 (fun _ => RV X.K) (eBox ee)) hc hN hy hyl hsw hi (blkOk_by ok) hg ht (fun s H C cl fp => pd_box (he s H C cl fp)) hs) fun D σ H h => by
    obtain ⟨μ, S, ρ, r, re, p⟩ := sAsg_of (is := [i]) h
    show tLc _ _ _ _ _ σ H (fun x H1 => gName i x σ H1 D.nx)
    refine tLc_of (ee := ee) (W := W) hsub ?_
    refine ⟨μ, S, ρ, r, re, ?_⟩
    unfold eBox at p
    cases hr : eLc ei g et ee (own.map (·.2)) ρ S with
    | bad => rw [hr] at p; exact p.elim
    | err x S1 => rw [hr] at p; exact p
    | ok f S1 =>
      rw [hr] at p
      intro μ1 H1 v k r1 rf
      obtain ⟨μ2, k2, r2, rv⟩ := box_ok k r1 rf
      obtain ⟨μ', d, ρ1, ρ', rv', re1, hg', q⟩ := p μ2 H1 v k2 r2 rv
      cases hg'
      exact q _ (re1.set i rv') ⟨List.length_set, fun j hj => List.getElem?_set_ne (fun e => hj (by simp [e]))⟩
theorem pts_nil' {X : Cx} : PTs X [] (lift X.K X.mg W0 (fun _ _ _ a b => a = b) tYes') := ⟨fun pins s σ H Q I ⟨μ, S, ρ, r, re, p⟩ => pts_nil.run pins s σ H Q I (p μ H true .refl r rfl)⟩
end
end DL
/-! ## DFn -/
set_option maxHeartbeats 1000000
namespace DL
open PySem PySem.Spec L2
/-! ### a def: its promise by a function of data; no guard of a repr is running -/
def spD (K : PySem.W.Frag) (mg : Str → Option Value) (n : Nat) (df : List D → Sto → R F) : Sp := fun vs H Q E =>
  vs.length = n ∧ ∃ μ S ds, Rep K μ S H ∧ RVs K μ H ds vs ∧ Post K mg (fun cls dx _ H' => E cls dx H') (RF K) [] μ H Q (df ds S)
structure FnG (P : Program) (w : World) (K : PySem.W.Frag) (mg : Str → Option Value) (base : Heap) (k : Nat) (f : Addr) (fd : FuncData) (ps : List Str) (sp : Sp) : Prop where
  run : ∀ (A : Around) (outer : List PySem.Env) (s : Shared) (H : Hp) (args : Args) (us : List Value) (vs : List V) (Q : VK) (E : XK), A.guards = some [] → Room k A →
    Env0 P w K mg base A outer s H → BindsTo s fd args (ps.zip us) → Vals vs us → sp vs H Q E → codeAny (model P w) A (.call (.ref f) args) (CR (L2N.CX P w) outer P w H s Q E) s
structure FnT (P : Program) (w : World) (K : PySem.W.Frag) (mg : Str → Option Value) (base : Heap) (k : Nat) (x : Str) (ps : List Str) (df : List D → Sto → R F) : Prop where
  ex : ∃ f fd, mg x = some (.ref f) ∧ PySem.W.keepIn K (.ref f) = true ∧ Binds K fd ps [] ∧ FnG P w K mg base k f fd ps (spD K mg ps.length df)
section
variable {P : Program} {w : World} {K : PySem.W.Frag} {mg : Str → Option Value} {base : Heap} {k : Nat} {x qual : Str} {ps N : List Str}
theorem FnG.mono {j : Nat} {f : Addr} {fd : FuncData} {sp : Sp} (F : FnG P w K mg base j f fd ps sp) (h : j ≤ k) : FnG P w K mg base k f fd ps sp :=
  ⟨fun A outer s H args us vs Q E g hr => F.run A outer s H args us vs Q E g (hr.mono h)⟩
theorem FnT.mono {j : Nat} {df : List D → Sto → R F} (T : FnT P w K mg base j x ps df) (h : j ≤ k) : FnT P w K mg base k x ps df := by
  obtain ⟨f, fd, h1, h2, h3, h4⟩ := T.ex
  exact ⟨f, fd, h1, h2, h3, h4.mono h⟩
/-- a body run from its parameters -/
def runF (n : Nat) (sb : Env → Sto → RS) : List D → Sto → R F := fun ds S => match sb (ds.map some ++ List.replicate n none) S with
  | .rt f S' => .ok f S'
  | .nx _ S' => .ok (.v .non) S'
  | .err x _ S' => .err x S'
  | _ => .bad
theorem RE.start {μ : List Addr} {H : Hp} : ∀ {ds : List D} {vs : List V} (n : Nat), RVs K μ H ds vs → RE K μ H (ds.map some ++ List.replicate n none) (vs.map some ++ List.replicate n none)
  | _, _, n, .nil => ⟨by simp, fun i d h => by
      have h : (List.replicate n (none : Option D))[i]? = some (some d) := h
      rw [List.getElem?_replicate] at h
      split at h <;> cases h⟩
  | _, _, n, .cons (d := d) (v := v) r rs => by
    have ih := RE.start n rs
    refine ⟨by simpa using ih.len, fun i e h => ?_⟩
    cases i with
    | zero =>
      have h : some (some d) = some (some e) := h
      cases h
      exact ⟨v, rfl, r⟩
    | succ i => exact ih.at' i e h
/-- the context of a def's body -/
abbrev bX (P : Program) (w : World) (K : PySem.W.Frag) (mg : Str → Option Value) (base : Heap) (N : List Str) (qual : Str) (st : Stmt) (f : Addr) (cdv : Value) (A : Around) (outer : List PySem.Env) (s : Shared) (H : Hp) (E : XK) : Cx :=
  cxOf (L2N.CX P w) P w K mg base N qual (defScope st) f cdv A outer s H E
/-- what a body may lean on -/
structure Good (X : Cx) (W : WX) (k : Nat) : Prop where
  tk : L2N.Takes X W
  po : PassesOwn (model X.prog X.w) X.A X.env X.xe
  gd : X.A.guards = some []
  rm : Room k X.A
theorem fnG {st : Stmt} {f : Addr} {fd : FuncData} {sb : Env → Sto → RS} (F : Fun K x qual st f fd) (S : FnScope N ps (defScope st))
    (hb : ∀ (cdv : Value) (A : Around) (outer : List PySem.Env) (s : Shared) (H : Hp) (E : XK), Good (bX P w K mg base N qual st f cdv A outer s H E) (fun cls d _ H => E cls d H) k →
      PDSs (bX P w K mg base N qual st f cdv A outer s H E) (fun cls d _ H => E cls d H) (defBody st) sb) :
    FnG P w K mg base (k + 1) f fd ps (spD K mg ps.length (runF (N.length - ps.length) sb)) := by
  obtain ⟨oc, od, kV, doc, pm, an, cdv, ct, osl, rfl, lk, hcd⟩ := F.ex
  refine ⟨fun A outer s H args us vs Q E hg hr e0 hbd r ⟨hl, μ, S0, ds, rep, rv, p⟩ => ?_⟩
  have kin : ∀ b o, base.get? b = some o → s.heap.get? b = some o := fun b o e => (e0.bs b o e).1
  have KX := e0.mod.kin.keeps kin
  have kinds : ∀ y ∈ ps.zip us, (defScope st).names.lookup y.1 = some .local ∨
      ((defScope st).names.lookup y.1 = some .cell ∧ ((cellsFrom (s.heap.objs.size + 1) (defScope st).names []).lookup y.1).isSome = true) := by
    rintro ⟨n, v⟩ hy
    exact (S.par n (List.of_mem_zip hy).1).imp id fun q => ⟨q, PySem.W.cellsFrom_some _ _ _ (.inl q)⟩
  refine codeAny_call_function hr.depth (KX _ _ lk) rfl S.co S.gen rfl
    (PySem.W.codeRec_of KX hcd) (hbd _ _ _ _ (wpAny_newFunctionEnv_cells S.kind kinds fun env he s1 xc => ?_))
  subst he
  refine ⟨(e0.mod.nolimit.keeps kin).keeps xc.toInCall.keep, codeAny_func ?_⟩
  have I := inv_start (CX := L2N.CX P w) (P := P) (w := w) (K := K) (mg := mg) (base := base) (N := N) (qual := qual) (f := f) (cd := cdv) (E := E) S hr.hd e0 hl r xc
  have gd : Good (bX P w K mg base N qual st f cdv A outer s H E) (fun cls d _ H => E cls d H) k := ⟨L2N.takes_of rfl rfl rfl rfl, passes_of rfl, hg, hr.deeper _⟩
  have body := hb cdv A outer s H E gd
  have len : N.length - vs.length = N.length - ps.length := by rw [hl]
  have wish : liftS K mg (fun cls d _ H => E cls d H) sb { nx := fun _ H' => Q .non H', rt := Q } (L2.start N vs) H := by
    refine ⟨μ, S0, ds.map some ++ List.replicate (N.length - ps.length) none, rep, ?_, ?_⟩
    · unfold L2.start
      rw [len]
      exact RE.start _ rv
    · unfold runF at p
      cases q : sb (ds.map some ++ List.replicate (N.length - ps.length) none) S0 with
      | nx ρ S' => rw [q] at p; exact fun μ' H' σ' k' r' _ => p μ' H' .non k' r' (.v .non)
      | rt f S' => rw [q] at p; exact p
      | err x ρ S' => rw [q] at p; exact fun μ' H' σ' cls dx k' r' _ rx => p μ' H' cls dx k' r' rx
      | bk ρ S' => rw [q] at p; exact p.elim
      | ct ρ S' => rw [q] at p; exact p.elim
      | bad => rw [q] at p; exact p.elim
  refine wpAny_mono (body.run [] s1 (L2.start N vs) H _ I wish) (fun fl s' hs => ?_) fun e s' hs => hs
  cases fl with
  | ret u =>
    obtain ⟨v, σ', H', J, rv, q⟩ := hs
    show CE outer P w H s Q u s'
    exact ⟨v, H', J.os, J.bare, J.base, J.hok, rv, q⟩
  | next =>
    obtain ⟨σ', H', J, q⟩ := hs
    show CE outer P w H s Q .none s'
    exact ⟨.non, H', J.os, J.bare, J.base, J.hok, rfl, q⟩
  | brk => obtain ⟨_, _, _, q⟩ := hs; exact q.elim
  | cont => obtain ⟨_, _, _, q⟩ := hs; exact q.elim
/-- a def of the text, as its callers use it -/
theorem fnT {st : Stmt} {f : Addr} {fd : FuncData} {sb : Env → Sto → RS} (n : Nat) (F : Fun K x qual st f fd) (hm : mg x = some (.ref f)) (hbi : Binds K fd ps []) (S : FnScope N ps (defScope st))
    (hb : ∀ (cdv : Value) (A : Around) (outer : List PySem.Env) (s : Shared) (H : Hp) (E : XK), Good (bX P w K mg base N qual st f cdv A outer s H E) (fun cls d _ H => E cls d H) k →
      PDSs (bX P w K mg base N qual st f cdv A outer s H E) (fun cls d _ H => E cls d H) (defBody st) sb) (hn : N.length - ps.length = n := by rfl) :
    FnT P w K mg base (k + 1) x ps (runF n sb) := ⟨f, fd, hm, F.kp, hbi, hn ▸ fnG F S hb⟩
end
section
variable {X : Cx} {W : WX} {e : Expr} {es : List Expr} {pos : Pos}
/-- f(..), f a def of the text -/
theorem pd_call {x : Str} {p : Pos} {k : Nat} {ps : List Str} {df : List D → Sto → R F} {ea : Env → Sto → R (List D)} (T : FnT X.prog X.w X.K X.mg X.base k x ps df) (gd : X.A.guards = some []) (hr : Room k X.A) (tk : L2N.Takes X W) (hg : Gl X x) (ha : PDA X W (e :: es) ea)
    (hdb : (x == ("__debug__" : Str)) = false := by decide) (he : starEach (e :: es) X.env = (false, eval e X.env) :: starEach es X.env := by rfl) (hpl : (backTo pos (starEach es X.env)).any (·.1) = false := by rfl) :
    PD X W (.Call (.Name x p) (e :: es) [] pos) (eCall ps.length df ea) := by
  obtain ⟨f, fd, h1, h2, h3, h4⟩ := T.ex
  refine ⟨fun pins s σ H Q I ⟨μ, S, ρ, r, re, p⟩ => wpAny_Call_Name_kw (ld_glob I hg h1 (PySem.W.callWith_K (h₀ := X.base) I.ok.mod.kin h2 (thn
    (ha.run pos pins s σ H (fun vs H1 => spD X.K X.mg ps.length df vs H1 Q (WE W σ)) I ⟨μ, S, ρ, r, re, Post.bind bk_f p fun ds S1 μ1 H1 vs _ k r1 rv p1 => ?_⟩)
    fun us s1 ⟨vs, H1, I1, r1, q⟩ => ⟨I1.kIn, ?_⟩) he hpl) hdb)⟩
  · by_cases hl : ds.length = ps.length
    · rw [if_pos hl] at p1
      refine ⟨by rw [← rv.length]; exact hl, μ1, S1, ds, r1, rv, ?_⟩
      cases hd : df ds S1 with
      | ok a S2 => rw [hd] at p1; exact p1
      | err x S2 => rw [hd] at p1; exact p1
      | bad => rw [hd] at p1; exact p1
    · rw [if_neg hl] at p1; exact p1.elim
  · have b := h3 s1 us I1.kIn (by rw [List.append_nil, ← r1.length]; exact q.1)
    rw [List.append_nil] at b
    refine wpAny_call (codeAny_mono (h4.run X.A X.stack s1 H1 ⟨us, []⟩ us vs Q (WE W σ) gd hr I1.env0 b r1 q) fun r s' hq => ?_)
    cases r with
    | error e => exact L2N.passAt tk σ pins H1 s1 e s' I1 hq
    | ok fl =>
      cases fl with
      | ret u => exact I1.after hq
      | next => exact hq.elim
      | brk => exact hq.elim
      | cont => exact hq.elim
end
end DL
/-! ## DMul -/
set_option maxHeartbeats 4000000
namespace DL
open PySem PySem.Spec L2 PyProof.Rows
/-! ### a tuple, or a list, times an int -/
theorem tm_same (l : Addr) (its : Array Value) (m : Nat) (dd : Option Addr) (sl : Array (Option Value)) (k : Int) (u : Tok)
    (c0 : (decide (k < -(2 ^ 63)) || decide (k ≥ 2 ^ 63)) = false) (c1 : (its.isEmpty || k == 1) = true) :
    Meets (Builtin.«tuple.__mul__» ⟨[.ref l, .int k u], []⟩) fun _ R s =>
      s.heap.get? l = some ⟨.type "tuple", dd, .seq its m, sl⟩ ∧ R (.ok (.ret (.ref l))) s := .of_wp fun prog w A R s h => by
  obtain ⟨hp, g, d, tk, os⟩ := s
  obtain ⟨hl, h⟩ := h
  have f1 := AutoSeq1.idx_int
  wp_walk using wpAny_loadPart' hl
  repeat (first
    | (refine wpAny_ite_false (decide_eq_false (by rw [c0]; exact Bool.false_ne_true)) ?_; wp_walk using wpAny_loadPart' hl)
    | (refine wpAny_ite_true (decide_eq_true (by rw [c1])) ?_; wp_walk using wpAny_loadPart' hl))
  all_goals try exact ⟨_, rfl, h⟩
theorem tm_nil (l : Addr) (its : Array Value) (m : Nat) (dd : Option Addr) (sl : Array (Option Value)) (k : Int) (u : Tok)
    (c0 : (decide (k < -(2 ^ 63)) || decide (k ≥ 2 ^ 63)) = false) (c1 : (its.isEmpty || k == 1) = false) (c2 : (decide (k ≤ 0) || its.isEmpty) = true) :
    Meets (Builtin.«tuple.__mul__» ⟨[.ref l, .int k u], []⟩) fun _ R s =>
      s.heap.get? l = some ⟨.type "tuple", dd, .seq its m, sl⟩ ∧ R (.ok (.ret (.ref s.heap.objs.size))) { s with heap := s.heap.push { cls := .type "tuple", data := .seq #[] }, toks := s.toks } := .of_wp fun prog w A R s h => by
  obtain ⟨hp, g, d, tk, os⟩ := s
  obtain ⟨hl, h⟩ := h
  have f1 := AutoSeq1.idx_int
  wp_walk using wpAny_loadPart' hl
  repeat (first
    | (refine wpAny_ite_false (decide_eq_false (by rw [c0]; exact Bool.false_ne_true)) ?_; wp_walk using wpAny_loadPart' hl)
    | (refine wpAny_ite_false (decide_eq_false (by rw [c1]; exact Bool.false_ne_true)) ?_; wp_walk using wpAny_loadPart' hl)
    | (refine wpAny_ite_true (decide_eq_true (by rw [c2])) ?_; wp_walk using wpAny_loadPart' hl))
  all_goals try exact ⟨_, rfl, h⟩
def rMulA (K : PySem.W.Frag) : R2 := fun x y H Q => ∃ l k xs, x = .ref l ∧ y = .int k ∧ SqT K H l xs ∧ -1000 ≤ k ∧ k ≤ 1000 ∧ xs.length ≤ 1000 ∧ ((xs = [] ∨ k = 1) → Q (.ref l) H) ∧
  (xs ≠ [] → k ≠ 1 → ∀ p, H p = none → Q (.ref p) (upd H p (.tup (List.replicate k.toNat xs).flatten)))
section
variable {X : Cx}
theorem op_mulA : OpR X (binaryOp .Mult) (rMulA X.K) := by
  intro pins s σ H x y v u Q I rx ry h
  obtain ⟨l, k, xs, rfl, rfl, hT, h0, h1, hz, q1, q2⟩ := h
  by_cases big : xs ≠ [] ∧ 2 ≤ k
  · exact op_repT pins s σ H _ _ v u Q I rx ry ⟨l, k, xs, rfl, rfl, hT, big.1, big.2, h1, hz, q2 big.1 (by omega)⟩
  cases rx
  obtain ⟨t, rfl⟩ := ry
  obtain ⟨its, r, ⟨⟨cls, dd, data, sl⟩, ho, hc, n, hd⟩, hs⟩ := I.tuple hT
  simp only at hc hd
  subst hc hd
  have hle : its.length = xs.length := r.length.symm
  have c0 : (decide (k < -(2 ^ 63)) || decide (k ≥ 2 ^ 63)) = false := by
    rw [decide_eq_false (by omega), decide_eq_false (by omega)] <;> rfl
  by_cases same : xs = [] ∨ k = 1
  · have c1 : (its.toArray.isEmpty || k == 1) = true := by
      rcases same with e | e
      · subst e
        have : its = [] := List.eq_nil_of_length_eq_zero hle
        subst this
        rfl
      · subst e
        simp
    refine wpAny_binaryOp_repeat_ref (T := "tuple") (U := "int") (by decide) ⟨_, ho, rfl⟩ (fun s' => typeIs_int s' k t) noFill_tuple_mul F.fills_int_mul F.slot_int_rmul repeat_tuple F.slot_int_index.lookup
      (call_meets F.slot_int_rmul (typeIs_int s k t) F.entry_int_rmul (F.args_int_rmul_2 _ _) (int_rmul_tuple k t l its.toArray n dd sl)
        ⟨ho, rfl, ⟨_, ho, rfl⟩, call_meets F.slot_tuple_mul ⟨_, ho, rfl⟩ F.entry_tuple_mul (F.args_tuple_mul_2 _ _) (tm_same l its.toArray n dd sl k t c0 c1) ⟨ho, ?_⟩⟩)
    exact ⟨.ref l, H, I, rfl, q1 same⟩
  · have hne : xs ≠ [] := fun e => same (.inl e)
    have hk : k ≠ 1 := fun e => same (.inr e)
    have hk0 : k ≤ 0 := by
      rcases Classical.not_and_iff_not_or_not.mp big with z | z
      · exact absurd hne z
      · omega
    have hi : its.toArray.isEmpty = false := by
      cases its with
      | nil => exact absurd (List.eq_nil_of_length_eq_zero hle.symm) hne
      | cons a b => rfl
    have c1 : (its.toArray.isEmpty || k == 1) = false := by
      rw [hi, Bool.false_or]
      exact beq_eq_false_iff_ne.mpr hk
    have c2 : (decide (k ≤ 0) || its.toArray.isEmpty) = true := by
      rw [decide_eq_true hk0]; rfl
    refine wpAny_binaryOp_repeat_ref (T := "tuple") (U := "int") (by decide) ⟨_, ho, rfl⟩ (fun s' => typeIs_int s' k t) noFill_tuple_mul F.fills_int_mul F.slot_int_rmul repeat_tuple F.slot_int_index.lookup
      (call_meets F.slot_int_rmul (typeIs_int s k t) F.entry_int_rmul (F.args_int_rmul_2 _ _) (int_rmul_tuple k t l its.toArray n dd sl)
        ⟨ho, rfl, ⟨_, ho, rfl⟩, call_meets F.slot_tuple_mul ⟨_, ho, rfl⟩ F.entry_tuple_mul (F.args_tuple_mul_2 _ _) (tm_nil l its.toArray n dd sl k t c0 c1 c2) ⟨ho, ?_⟩⟩)
    have e0 : k.toNat = 0 := by omega
    have q3 := q2 hne hk
    rw [e0] at q3
    refine ⟨.ref s.heap.objs.size, _, I.laid (t' := s.toks) (o := .tup []) (fun b ob q => Heap.get?_push_of_some _ q) (Nat.le_refl _) ?_, rfl, q3 _ (I.hok.fresh (Nat.le_refl _))⟩
    exact ⟨by decide, [], .nil, IsTup.new _ _⟩
end
end DL
/-! ## DOps -/
set_option maxHeartbeats 1000000
namespace DL
open PySem PySem.Spec L2
/-! ### inversion -/
section
variable {K : PySem.W.Frag} {H0 H : Hp} {μ : List Addr} {S : Sto} {x : V}
theorem RF.int {i : Int} (h : RF K H0 μ H (.v (.int i)) x) : x = .int i := by cases h with | v h => cases h; rfl
theorem RF.str {i : Str} (h : RF K H0 μ H (.v (.str i)) x) : x = .str i := by cases h with | v h => cases h; rfl
theorem RF.non (h : RF K H0 μ H (.v .non) x) : x = .non := by cases h with | v h => cases h; rfl
theorem RF.tup {ds : List D} (h : RF K H0 μ H (.v (.tup ds)) x) : ∃ a vs, x = .ref a ∧ SqT K H a vs ∧ RVs K μ H ds vs := by
  cases h with | v h => cases h with | tup h1 h2 => exact ⟨_, _, rfl, h1, h2⟩
def getM (f : F) (S : Sto) : Option (List D) := match f with
  | .l ds => some ds
  | .v (.loc n) => match S[n]? with
    | some (.lst ds) => some ds
    | _ => none
  | _ => none
theorem getM_ok {f : F} {ds : List D} (r : Rep K μ S H) (rf : RF K H0 μ H f x) (h : getM f S = some ds) : ∃ a vs, x = .ref a ∧ H a = some (.lst vs) ∧ RVs K μ H ds vs := by
  cases rf with
  | l h1 h2 h3 h4 => cases h; exact ⟨_, _, rfl, h1, h4⟩
  | v rv =>
    cases rv with
    | @loc n a hn =>
      unfold getM at h
      cases hs : S[n]? with
      | none => simp [hs] at h
      | some o =>
        have ro := r.obj n o a hs hn
        cases ro with
        | lst h1 h2 => simp [hs] at h; subst h; exact ⟨_, _, rfl, h1, h2⟩
        | dK h1 h2 => simp [hs] at h
        | dT h1 h2 => simp [hs] at h
        | fK h1 h2 => simp [hs] at h
        | fT h1 h2 => simp [hs] at h
    | _ => simp [getM] at h
/-- a new list, a new tuple -/
theorem new_l {μ' : List Addr} {Q : VK} {ds : List D} {vs : List V} {p : Addr} (r : Rep K μ S H) (rv : RVs K μ H ds vs) (hp : H p = none) (q : ∀ H' v, Kp K μ H μ H' → Rep K μ S H' → RF K H μ H' (.l ds) v → Q v H') : Q (.ref p) (upd H p (.lst vs)) :=
  q _ _ (Kp.new hp) (r.new hp) (.l upd_same (r.notin hp) hp (rv.mono (Kp.new hp)))
theorem new_t {Q : VK} {ds : List D} {vs : List V} {p : Addr} (r : Rep K μ S H) (rv : RVs K μ H ds vs) (hp : H p = none) (q : ∀ H' v, Kp K μ H μ H' → Rep K μ S H' → RF K H μ H' (.v (.tup ds)) v → Q v H') : Q (.ref p) (upd H p (.tup vs)) :=
  q _ _ (Kp.new hp) (r.new hp) (.v (.tup (.inl (.inl upd_same)) (rv.mono (Kp.new hp))))
end
section
variable {X : Cx}
theorem opr_or {f : Value → Value → Sem Value} {r r' : R2} (h : OpR X f r) (h' : OpR X f r') : OpR X f (fun x y H Q => r x y H Q ∨ r' x y H Q) := fun pins s σ H x y v u Q I rx ry q => q.elim (h pins s σ H x y v u Q I rx ry) (h' pins s σ H x y v u Q I rx ry)
theorem opr_of {f : Value → Value → Sem Value} {r : R2} {op : F → F → Sto → Option F} (h : OpR X f r)
    (i : ∀ (μ : List Addr) (S : Sto) (H : Hp) (a b z : F) (x y : V) (H0 H0' : Hp) (Q : VK), Rep X.K μ S H → RF X.K H0 μ H a x → RF X.K H0' μ H b y → op a b S = some z → (∀ H' v, Kp X.K μ H μ H' → Rep X.K μ S H' → RF X.K H μ H' z v → Q v H') → r x y H Q) :
    OpR X f (rOp X.K op) := fun pins s σ H x y v u Q I rx ry ⟨μ, S, a, b, z, H0, H0', rep, ra, rb, hz, q⟩ => h pins s σ H x y v u Q I rx ry (i μ S H a b z x y H0 H0' Q rep ra rb hz q)
/-! ### arithmetic -/
def int2 (a b : F) : Option (Int × Int) := match a, b with
  | .v (.int i), .v (.int j) => some (i, j)
  | _, _ => none
theorem int2_some {a b : F} {p : Int × Int} (h : int2 a b = some p) : a = .v (.int p.1) ∧ b = .v (.int p.2) := by
  unfold int2 at h
  split at h <;> cases h
  exact ⟨rfl, rfl⟩
theorem opr_int {f : Value → Value → Sem Value} {C : Int → Int → Prop} {g : Int → Int → V} {c : Int → Int → Bool} {G : Int → Int → D} (h : OpR X f (rI C g)) (hc : ∀ i j, c i j = true → C i j) (hg : ∀ K μ H i j, RV K μ H (G i j) (g i j)) :
    OpR X f (rOp X.K fun a b _ => (int2 a b).bind fun p => if c p.1 p.2 then some (.v (G p.1 p.2)) else none) :=
  opr_of h fun μ S H a b z x y H0 H0' Q r ra rb hz q => by
    cases hp : int2 a b with
    | none => rw [hp] at hz; cases hz
    | some p =>
      rw [hp] at hz
      obtain ⟨i, j⟩ := p
      obtain ⟨rfl, rfl⟩ := int2_some hp
      have hz : (if c i j = true then some (F.v (G i j)) else none) = some z := hz
      simp only [Option.ite_none_right_eq_some] at hz
      obtain ⟨h1, h2⟩ := hz
      cases h2
      exact ⟨i, j, ra.int, rb.int, hc i j h1, q H _ .refl r (.v (hg _ _ _ i j))⟩
def intF (c : Int → Int → Bool) (G : Int → Int → D) (a b : F) : Option F := (int2 a b).bind fun p => if c p.1 p.2 then some (.v (G p.1 p.2)) else none
@[simp] theorem intF_int (c : Int → Int → Bool) (G : Int → Int → D) (i j : Int) : intF c G (.v (.int i)) (.v (.int j)) = if c i j then some (.v (G i j)) else none := rfl
def yes2 : Int → Int → Bool := fun _ _ => true
def subF (a b : F) (_ : Sto) : Option F := intF yes2 (fun i j => .int (i - j)) a b
def mulI (a b : F) (_ : Sto) : Option F := intF (fun i j => decide (i.natAbs.log2 + j.natAbs.log2 < 100000000)) (fun i j => .int (i * j)) a b
def repN {α : Type} : Nat → List α → List α
  | 0, _ => []
  | n + 1, xs => xs ++ repN n xs
theorem repN_eq {α : Type} (xs : List α) : ∀ n, repN n xs = (List.replicate n xs).flatten
  | 0 => rfl
  | n + 1 => by rw [repN, repN_eq xs n, List.replicate_succ, List.flatten_cons]
def mulF (a b : F) (S : Sto) : Option F := match a, b with
  | .v (.tup xs), .v (.int k) => if xs.length ≤ 1000 ∧ -1000 ≤ k ∧ k ≤ 1000 then some (.v (.tup (repN k.toNat xs))) else none
  | .v (.int i), .v (.int j) => mulI (.v (.int i)) (.v (.int j)) S
  | a, .v (.int k) => (getM a S).bind fun xs => if xs.length ≤ 1000 ∧ -1000 ≤ k ∧ k ≤ 1000 then some (.l (repN k.toNat xs)) else none
  | _, _ => none
def modF (a b : F) (_ : Sto) : Option F := intF (fun _ j => decide (0 < j)) (fun i j => .int (i % j)) a b
def fdivF (a b : F) (_ : Sto) : Option F := intF (fun _ j => decide (0 < j ∧ j < 1073741824)) (fun i j => .int (i / j)) a b
def powF (a b : F) (_ : Sto) : Option F := intF (fun i j => decide (0 ≤ j ∧ j ≤ 1000000 ∧ i.natAbs < 2 ^ 64)) (fun i j => .int (i ^ j.toNat)) a b
theorem rI0_I {f : Value → Value → Sem Value} {g : Int → Int → V} (h : OpR X f (rI0 g)) : OpR X f (rI (fun _ _ => True) g) := fun pins s σ H x y v u Q I rx ry ⟨i, j, e1, e2, _, q⟩ => h pins s σ H x y v u Q I rx ry ⟨i, j, e1, e2, q⟩
theorem d_sub : OpR X (binaryOp .Sub) (rOp X.K subF) := opr_int (rI0_I op_sub) (fun _ _ _ => trivial) fun _ _ _ _ _ => .int
def CMulB (i j : Int) : Prop := i.natAbs.log2 + j.natAbs.log2 < 100000000
theorem CMulB.fits {i j : Int} (h : CMulB i j) : IntMulOk i j := by
  unfold IntMulOk
  intro z
  have z2 := (Bool.and_eq_true _ _ ▸ z : _ ∧ _).2
  unfold Builtin.Int.intTooBig at z2
  have z3 := of_decide_eq_true z2
  have e : bitsLine = 134217728 := by decide
  have h1 : Builtin.Int.intBits i ≤ i.natAbs.log2 + 1 := by unfold Builtin.Int.intBits; split <;> omega
  have h2 : Builtin.Int.intBits j ≤ j.natAbs.log2 + 1 := by unfold Builtin.Int.intBits; split <;> omega
  have h3 : i.natAbs.log2 + j.natAbs.log2 < 100000000 := h
  rw [e] at z3
  omega
theorem op_mulB : OpR X (binaryOp .Mult) (rI CMulB fun i j => .int (i * j)) := opI fun _ _ _ _ _ _ _ hc q => PyProof.Rows.mul_int q hc.fits
theorem d_mulI : OpR X (binaryOp .Mult) (rOp X.K mulI) := opr_int op_mulB (fun i j h => (of_decide_eq_true h : i.natAbs.log2 + j.natAbs.log2 < 100000000)) fun _ _ _ _ _ => .int
theorem RVs.repN {K : PySem.W.Frag} {μ : List Addr} {H : Hp} {ds : List D} {vs : List V} (h : RVs K μ H ds vs) : ∀ n, RVs K μ H (DL.repN n ds) (DL.repN n vs)
  | 0 => .nil
  | n + 1 => h.append (h.repN n)
theorem sz16 {n : Nat} (h : n ≤ 16000000) : n ≤ sizeLine := Nat.le_trans h (by decide)
theorem d_mul : OpR X (binaryOp .Mult) (rOp X.K mulF) := fun pins s σ H x y v u Q I rx ry ⟨μ, S, a, b, z, H0, H0', r, ra, rb, hz, q⟩ => by
  unfold mulF at hz
  split at hz
  · simp only [Option.ite_none_right_eq_some] at hz
    obtain ⟨⟨h1, h2, h3⟩, h4⟩ := hz
    cases h4
    obtain ⟨p, us, rfl, t1, v1⟩ := ra.tup
    have e := rb.int
    subst e
    refine op_mulA pins s σ H _ _ v u Q I rx ry ⟨p, _, us, rfl, rfl, t1, h2, h3, by rw [← v1.length]; exact h1, fun e => ?_, fun _ _ np hp => ?_⟩
    · refine q H _ .refl r (.v (.tup t1 ?_))
      rcases e with e | e
      · subst e
        cases v1
        rw [repN_eq]
        have : ∀ n, (List.replicate n ([] : List D)).flatten = [] := fun n => by induction n with
          | zero => rfl
          | succ n ih => rw [List.replicate_succ, List.flatten_cons, ih]; rfl
        rw [this]; exact .nil
      · subst e
        have e2 : DL.repN (1 : Int).toNat ‹List D› = ‹List D› := by show _ ++ [] = _; exact List.append_nil _
        rw [e2]; exact v1
    · refine new_t r ?_ hp q
      rw [← repN_eq]
      exact v1.repN _
  · exact d_mulI pins s σ H x y v u Q I rx ry ⟨μ, S, _, _, z, H0, H0', r, ra, rb, hz, q⟩
  · rename_i a _ _ k _ _
    cases h1 : getM a S with
    | none => rw [h1] at hz; cases hz
    | some xs =>
      rw [h1] at hz
      have hz : (if xs.length ≤ 1000 ∧ -1000 ≤ k ∧ k ≤ 1000 then some (F.l (repN k.toNat xs)) else none) = some z := hz
      simp only [Option.ite_none_right_eq_some] at hz
      obtain ⟨⟨h2, h3, h4⟩, h5⟩ := hz
      cases h5
      obtain ⟨p, us, rfl, l1, v1⟩ := getM_ok r ra h1
      have e := rb.int
      subst e
      refine op_rep pins s σ H _ _ v u Q I rx ry ⟨p, k, us, rfl, rfl, l1, by omega, by omega, ?_, fun np hp => new_l (μ' := μ) r ?_ hp q⟩
      · have a1 : us.length * k.toNat ≤ 1000 * 1000 := Nat.mul_le_mul (by rw [← v1.length]; exact h2) (by omega)
        exact sz16 (by omega)
      · rw [← repN_eq]
        exact v1.repN _
  · cases hz
theorem d_mod : OpR X (binaryOp .Mod) (rOp X.K modF) := opr_int op_mod (fun _ _ h => of_decide_eq_true h) fun _ _ _ _ _ => .int
theorem d_fdiv : OpR X (binaryOp .FloorDiv) (rOp X.K fdivF) := opr_int op_fdiv (fun i j h => (of_decide_eq_true h : 0 < j ∧ j < 1073741824)) fun _ _ _ _ _ => .int
theorem d_pow : OpR X (binaryOp .Pow) (rOp X.K powF) := opr_int op_pow (fun i j h => (of_decide_eq_true h : 0 ≤ j ∧ j ≤ 1000000 ∧ i.natAbs < 2 ^ 64)) fun _ _ _ _ _ => .int
def addF (a b : F) (S : Sto) : Option F := match a, b with
  | .v (.int i), .v (.int j) => some (.v (.int (i + j)))
  | .v (.str i), .v (.str j) => if i.length + j.length ≤ 16000000 then some (.v (.str (i ++ j))) else none
  | .v (.tup xs), .v (.tup ys) => if xs.length + ys.length ≤ 1000000 then some (.v (.tup (xs ++ ys))) else none
  | a, b => (getM a S).bind fun xs => (getM b S).bind fun ys => if xs.length + ys.length ≤ 1000000 then some (.l (xs ++ ys)) else none
theorem d_add : OpR X (binaryOp .Add) (rOp X.K addF) :=
  opr_of (opr_or op_add (opr_or op_add_str (opr_or op_catA op_cat))) fun μ S H a b z x y H0 H0' Q r ra rb hz q => by
    unfold addF at hz
    split at hz
    · cases hz
      exact .inl ⟨_, _, ra.int, rb.int, q H _ .refl r (.v .int)⟩
    · simp only [Option.ite_none_right_eq_some] at hz
      obtain ⟨h1, h2⟩ := hz
      cases h2
      exact .inr (.inl ⟨_, _, ra.str, rb.str, sz16 h1, q H _ .refl r (.v .str)⟩)
    · simp only [Option.ite_none_right_eq_some] at hz
      obtain ⟨h1, h2⟩ := hz
      cases h2
      obtain ⟨p, us, rfl, t1, v1⟩ := ra.tup
      obtain ⟨p', ws, rfl, t2, v2⟩ := rb.tup
      refine .inr (.inr (.inl ⟨p, p', us, ws, rfl, rfl, t1, t2, sz16 (by rw [← v1.length, ← v2.length]; omega), fun e => ?_, fun _ e => ?_, fun _ _ np hp => new_t r (v1.append v2) hp q⟩))
      · subst e
        cases v1
        exact q H _ .refl r (.v (.tup t2 v2))
      · subst e
        cases v2
        exact q H _ .refl r (.v (.tup t1 (by rw [List.append_nil]; exact v1)))
    · cases h1 : getM a S with
      | none => rw [h1] at hz; cases hz
      | some xs =>
        rw [h1] at hz
        cases h2 : getM b S with
        | none => rw [h2] at hz; cases hz
        | some ys =>
          rw [h2] at hz
          have hz : (if xs.length + ys.length ≤ 1000000 then some (F.l (xs ++ ys)) else none) = some z := hz
          simp only [Option.ite_none_right_eq_some] at hz
          obtain ⟨h3, h4⟩ := hz
          cases h4
          obtain ⟨p, us, rfl, l1, v1⟩ := getM_ok r ra h1
          obtain ⟨p', ws, rfl, l2, v2⟩ := getM_ok r rb h2
          exact .inr (.inr (.inr ⟨p, p', us, ws, rfl, rfl, l1, l2, sz16 (by rw [← v1.length, ← v2.length]; omega), fun np hp => new_l (μ' := μ) r (v1.append v2) hp q⟩))
/-! ### comparisons -/
def ltF (a b : F) (_ : Sto) : Option F := intF yes2 (fun i j => .bl (decide (i < j))) a b
def leF (a b : F) (_ : Sto) : Option F := intF yes2 (fun i j => .bl (decide (i ≤ j))) a b
def gtF (a b : F) (_ : Sto) : Option F := intF yes2 (fun i j => .bl (decide (j < i))) a b
def geF (a b : F) (_ : Sto) : Option F := intF yes2 (fun i j => .bl (decide (j ≤ i))) a b
theorem d_lt : OpR X (compareOp .Lt) (rOp X.K ltF) := opr_int (rI0_I op_lt) (fun _ _ _ => trivial) fun _ _ _ _ _ => .bl
theorem d_le : OpR X (compareOp .LtE) (rOp X.K leF) := opr_int (rI0_I op_le) (fun _ _ _ => trivial) fun _ _ _ _ _ => .bl
theorem d_gt : OpR X (compareOp .Gt) (rOp X.K gtF) := opr_int (rI0_I op_gt) (fun _ _ _ => trivial) fun _ _ _ _ _ => .bl
theorem d_ge : OpR X (compareOp .GtE) (rOp X.K geF) := opr_int (rI0_I op_ge) (fun _ _ _ => trivial) fun _ _ _ _ _ => .bl
def isNon (f : F) : Bool := match f with
  | .v .non => true
  | _ => false
def isF (a b : F) (_ : Sto) : Option F := if isNon b then some (.v (.bl (isNon a))) else none
def isntF (a b : F) (_ : Sto) : Option F := if isNon b then some (.v (.bl (!isNon a))) else none
theorem isNon_iff {K : PySem.W.Frag} {H0 H : Hp} {μ : List Addr} {a : F} {x : V} (h : RF K H0 μ H a x) : decide (x = .non) = isNon a := by
  cases h with
  | l => rfl
  | v h => cases h <;> rfl
theorem isNon_some {b : F} (h : isNon b = true) : b = .v .non := by
  unfold isNon at h
  split at h
  · rfl
  · cases h
theorem d_is : OpR X (compareOp .Is) (rOp X.K isF) := opr_of op_isN fun μ S H a b z x y H0 H0' Q r ra rb hz q => by
  unfold isF at hz
  simp only [Option.ite_none_right_eq_some] at hz
  obtain ⟨h1, h2⟩ := hz
  cases h2
  have := isNon_some h1
  subst this
  exact ⟨rb.non, q H _ .refl r (by rw [isNon_iff ra]; exact .v .bl)⟩
theorem d_isnt : OpR X (compareOp .IsNot) (rOp X.K isntF) := opr_of op_notN fun μ S H a b z x y H0 H0' Q r ra rb hz q => by
  unfold isntF at hz
  simp only [Option.ite_none_right_eq_some] at hz
  obtain ⟨h1, h2⟩ := hz
  cases h2
  have := isNon_some h1
  subst this
  exact ⟨rb.non, q H _ .refl r (by rw [isNon_iff ra]; exact .v .bl)⟩
/-! data as the library's data -/
mutual
def D.py : D → Option PyData
  | .non => some .none
  | .bl b => some (.bool b)
  | .int i => some (.int i)
  | .str x => some (.str x)
  | .tup ds => (D.pys ds).map .tuple
  | .kl ds => (D.pys ds).map .list
  | .loc _ => none
  | .exc _ _ _ _ => none
def D.pys : List D → Option (List PyData)
  | [] => some []
  | d :: ds => match D.py d, D.pys ds with
    | some p, some ps => some (p :: ps)
    | _, _ => none
end
def F.py (f : F) (S : Sto) : Option PyData := match f with
  | .l ds => (D.pys ds).map .list
  | .v (.loc n) => (match S[n]? with
    | some (.lst ds) => (D.pys ds).map .list
    | _ => none)
  | .v d => d.py
mutual
theorem RV.py {K : PySem.W.Frag} {μ : List Addr} {H : Hp} : ∀ {d v p}, RV K μ H d v → D.py d = some p → Dp K H v p
  | _, _, _, .non, e => by cases e; exact .non
  | _, _, _, .bl, e => by cases e; exact .bl _
  | _, _, _, .int, e => by cases e; exact .int _
  | _, _, _, .str, e => by cases e; exact .str _
  | _, _, _, .tup (ds := ds) h hs, e => by
    have e : (D.pys ds).map PyData.tuple = some _ := e
    cases q : D.pys ds with
    | none => rw [q] at e; cases e
    | some ps => rw [q] at e; cases e; exact .tup h (RVs.py hs q)
  | _, _, _, .kl (ds := ds) h hs, e => by
    have e : (D.pys ds).map PyData.list = some _ := e
    cases q : D.pys ds with
    | none => rw [q] at e; cases e
    | some ps => rw [q] at e; cases e; exact .lst h.l (RVs.py hs q)
  | _, _, _, .loc _, e => by cases e
  | _, _, _, .exc _ _ _ _, e => by cases e
theorem RVs.py {K : PySem.W.Frag} {μ : List Addr} {H : Hp} : ∀ {ds vs ps}, RVs K μ H ds vs → D.pys ds = some ps → DpAll K H vs ps
  | _, _, _, .nil, e => by cases e; exact .nil
  | _, _, _, .cons (d := d) (ds := ds) h hs, e => by
    unfold D.pys at e
    cases q : D.py d with
    | none => rw [q] at e; cases e
    | some p =>
      cases q2 : D.pys ds with
      | none => rw [q, q2] at e; cases e
      | some ps => rw [q, q2] at e; cases e; exact .cons (RV.py h q) (RVs.py hs q2)
end
theorem RF.py {K : PySem.W.Frag} {μ : List Addr} {H0 H : Hp} {S : Sto} {f : F} {v : V} {p : PyData} (r : Rep K μ S H) (h : RF K H0 μ H f v) (e : f.py S = some p) : Dp K H v p := by
  cases h with
  | @l a vs ds h1 h2 h3 h4 =>
    have e : (D.pys ds).map PyData.list = some _ := e
    cases q : D.pys ds with
    | none => rw [q] at e; cases e
    | some ps => rw [q] at e; cases e; exact .lst (.inl (.inl h1)) (h4.py q)
  | @v d v h =>
    cases h with
    | @loc n a hn =>
      have e : (match S[n]? with
        | some (.lst ds) => (D.pys ds).map PyData.list
        | _ => none) = some p := e
      cases hs : S[n]? with
      | none => rw [hs] at e; cases e
      | some o =>
        rw [hs] at e
        have ro := r.obj n o a hs hn
        cases ro with
        | @lst _ vs ds h1 h2 =>
          have e : (D.pys ds).map PyData.list = some _ := e
          cases q : D.pys ds with
          | none => rw [q] at e; cases e
          | some ps => rw [q] at e; cases e; exact .lst (.inl (.inl h1)) (h2.py q)
        | _ => cases e
    | non => exact RV.py (μ := μ) .non e
    | bl => exact RV.py (μ := μ) .bl e
    | int => exact RV.py (μ := μ) .int e
    | str => exact RV.py (μ := μ) .str e
    | tup h1 h2 => exact RV.py (.tup h1 h2) e
    | kl h1 h2 => exact RV.py (.kl h1 h2) e
    | exc _ _ _ _ => cases e
def eqB (a b : F) (S : Sto) : Option Bool := (a.py S).bind fun p => (b.py S).bind fun q => if SeqAt.shaped p && SeqAt.shaped q then some (PyData.eqv p q) else none
def eqF (a b : F) (S : Sto) : Option F := (eqB a b S).map fun k => .v (.bl k)
def neF (a b : F) (S : Sto) : Option F := (eqB a b S).map fun k => .v (.bl (!k))
theorem eqB_ok {K : PySem.W.Frag} {μ : List Addr} {H0 H0' H : Hp} {S : Sto} {a b : F} {x y : V} {k : Bool} (r : Rep K μ S H) (ra : RF K H0 μ H a x) (rb : RF K H0' μ H b y) (e : eqB a b S = some k) : ∃ p q, Dp K H x p ∧ Dp K H y q ∧ SeqAt.shaped p = true ∧ SeqAt.shaped q = true ∧ k = PyData.eqv p q := by
  unfold eqB at e
  cases ha : a.py S with
  | none => rw [ha] at e; cases e
  | some p =>
    rw [ha] at e
    cases hb : b.py S with
    | none => rw [hb] at e; cases e
    | some q =>
      rw [hb] at e
      have e : (if (SeqAt.shaped p && SeqAt.shaped q) = true then some (PyData.eqv p q) else none) = some k := e
      simp only [Option.ite_none_right_eq_some, Bool.and_eq_true] at e
      exact ⟨p, q, ra.py r ha, rb.py r hb, e.1.1, e.1.2, (Option.some.inj e.2).symm⟩
theorem d_eq (hu : X.A.units + 64 < cLine) : OpR X (compareOp .Eq) (rOp X.K eqF) := opr_of (op_eqD hu) fun μ S H a b z x y H0 H0' Q r ra rb hz q => by
  unfold eqF at hz
  cases he : eqB a b S with
  | none => rw [he] at hz; cases hz
  | some k =>
    rw [he] at hz; cases hz
    obtain ⟨p, p', h1, h2, h3, h4, rfl⟩ := eqB_ok r ra rb he
    exact ⟨p, p', h1, h2, h3, h4, q H _ .refl r (.v .bl)⟩
theorem d_ne (hu : X.A.units + 64 < cLine) : OpR X (compareOp .NotEq) (rOp X.K neF) := opr_of (op_neD hu) fun μ S H a b z x y H0 H0' Q r ra rb hz q => by
  unfold neF at hz
  cases he : eqB a b S with
  | none => rw [he] at hz; cases hz
  | some k =>
    rw [he] at hz; cases hz
    obtain ⟨p, p', h1, h2, h3, h4, rfl⟩ := eqB_ok r ra rb he
    exact ⟨p, p', h1, h2, h3, h4, q H _ .refl r (.v .bl)⟩
end
end DL
/-! ## DBlt -/
set_option maxHeartbeats 1000000
namespace DL
open PySem PySem.Spec L2
section
variable {X : Cx} {W : WX} {e a b : Expr} {ee ea eb : Env → Sto → R F} {pos : Pos}
theorem RFs.one {K : PySem.W.Frag} {μ : List Addr} {H : Hp} {f : F} {vs : List V} (h : RFs K μ H [f] vs) : ∃ v H0, vs = [v] ∧ RF K H0 μ H f v := by
  cases h with
  | cons h t => cases t; exact ⟨_, _, rfl, h⟩
theorem RFs.two {K : PySem.W.Frag} {μ : List Addr} {H : Hp} {f g : F} {vs : List V} (h : RFs K μ H [f, g] vs) : ∃ v u H0 H0', vs = [v, u] ∧ RF K H0 μ H f v ∧ RF K H0' μ H g u := by
  cases h with
  | cons h t =>
    cases t with
    | cons h2 t => cases t; exact ⟨_, _, _, _, rfl, h, h2⟩
/-- a built-in of one argument -/
def f1 (c : F → Sto → Option F) (fs : List F) (S : Sto) : Option F := match fs with
  | [f] => c f S
  | _ => none
def f2 (c : F → F → Sto → Option F) (fs : List F) (S : Sto) : Option F := match fs with
  | [f, g] => c f g S
  | _ => none
theorem cb_1 {f : Value} {r : List V → Hp → VK → Prop} {c : F → Sto → Option F} (h : CallR X f r)
    (i : ∀ (μ : List Addr) (S : Sto) (H : Hp) (a z : F) (x : V) (H0 : Hp) (Q : VK), Rep X.K μ S H → RF X.K H0 μ H a x → c a S = some z → (∀ H' v, Kp X.K μ H μ H' → Rep X.K μ S H' → RF X.K H μ H' z v → Q v H') → r [x] H Q) : CallR X f (rCB X.K (f1 c)) :=
  fun pins s σ H xs us Q I rx ⟨μ, S, fs, z, rep, rf, hz, q⟩ => by
    unfold f1 at hz
    split at hz
    · obtain ⟨v, H0, rfl, r1⟩ := rf.one
      exact h pins s σ H _ us Q I rx (i μ S H _ z v H0 Q rep r1 hz q)
    · cases hz
theorem cb_2 {f : Value} {r : List V → Hp → VK → Prop} {c : F → F → Sto → Option F} (h : CallR X f r)
    (i : ∀ (μ : List Addr) (S : Sto) (H : Hp) (a b z : F) (x y : V) (H0 H0' : Hp) (Q : VK), Rep X.K μ S H → RF X.K H0 μ H a x → RF X.K H0' μ H b y → c a b S = some z → (∀ H' v, Kp X.K μ H μ H' → Rep X.K μ S H' → RF X.K H μ H' z v → Q v H') → r [x, y] H Q) : CallR X f (rCB X.K (f2 c)) :=
  fun pins s σ H xs us Q I rx ⟨μ, S, fs, z, rep, rf, hz, q⟩ => by
    unfold f2 at hz
    split at hz
    · obtain ⟨v, u, H0, H0', rfl, r1, r2⟩ := rf.two
      exact h pins s σ H _ us Q I rx (i μ S H _ _ z v u H0 H0' Q rep r1 r2 hz q)
    · cases hz
/-! list, tuple, len, int, min, all, any -/
def listF (f : F) (S : Sto) : Option F := (getTL f S).map .l
def tupleF (f : F) (S : Sto) : Option F := match f with
  | .v (.tup ds) => some (.v (.tup ds))
  | f => (getL f S).map fun ds => .v (.tup ds)
def lenF (f : F) (S : Sto) : Option F := match f with
  | .v (.loc n) => (match S[n]? with
    | some (.lst ds) => some (.v (.int ds.length))
    | _ => none)
  | f => (getTL f S).map fun ds => .v (.int ds.length)
def intC (f : F) (_ : Sto) : Option F := match f with
  | .v (.int i) => some (.v (.int i))
  | _ => none
def minF (a b : F) (_ : Sto) : Option F := (int2 a b).map fun p => .v (.int (if p.2 < p.1 then p.2 else p.1))
def maxF (a b : F) (_ : Sto) : Option F := (int2 a b).map fun p => .v (.int (if p.2 > p.1 then p.2 else p.1))
theorem d_list : CallR X (.type "list") (rCB X.K (f1 listF)) := cb_1 call_list_of fun μ S H a z x H0 Q r ra hz q => by
  unfold listF at hz
  cases hl : getTL a S with
  | none => rw [hl] at hz; cases hz
  | some ds =>
    rw [hl] at hz; cases hz
    obtain ⟨p, vs, rfl, h1, h2⟩ := getTL_ok r ra hl
    exact ⟨p, vs, rfl, h1, fun np hp => new_l (μ' := μ) r h2 hp q⟩
theorem d_tuple : CallR X (.type "tuple") (rCB X.K (f1 tupleF)) := cb_1 call_tuple_of fun μ S H a z x H0 Q r ra hz q => by
  unfold tupleF at hz
  split at hz
  · cases hz
    obtain ⟨p, vs, rfl, h1, h2⟩ := ra.tup
    exact ⟨p, vs, rfl, .inr ⟨h1, q H _ .refl r (.v (.tup h1 h2))⟩⟩
  · cases hl : getL a S with
    | none => rw [hl] at hz; cases hz
    | some ds =>
      rw [hl] at hz; cases hz
      obtain ⟨p, vs, rfl, h1, h2⟩ := getL_ok r ra hl
      exact ⟨p, vs, rfl, .inl ⟨h1, fun np hp => new_t r h2 hp q⟩⟩
theorem d_len : CallR X (.builtin "len") (rCB X.K (f1 lenF)) := cb_1 call_len_seq fun μ S H a z x H0 Q r ra hz q => by
  have go : ∀ {ds : List D}, getTL a S = some ds → z = .v (.int ds.length) → ∃ p ys, [x] = [V.ref p] ∧ (SqL X.K H p ys ∨ SqT X.K H p ys) ∧ Q (.int ys.length) H := fun {ds} hl e => by
    subst e
    obtain ⟨p, vs, rfl, h1, h2⟩ := getTL_ok r ra hl
    exact ⟨p, vs, rfl, h1, q H _ .refl r (.v (by rw [h2.length]; exact .int))⟩
  unfold lenF at hz
  split at hz
  · split at hz
    · cases hz
      exact go (by simp only [getTL, getL]; rename_i h; rw [h]) rfl
    · cases hz
  · cases hl : getTL a S with
    | none => rw [hl] at hz; cases hz
    | some ds =>
      rw [hl] at hz; cases hz
      exact go hl rfl
theorem d_int : CallR X (.type "int") (rCB X.K (f1 intC)) := cb_1 call_int1 fun μ S H a z x H0 Q r ra hz q => by
  unfold intC at hz
  split at hz
  · cases hz
    exact .inl ⟨_, by rw [ra.int], q H _ .refl r (.v .int)⟩
  · cases hz
theorem d_min (hc : X.calm = true) : CallR X (.builtin "min") (rCB X.K (f2 minF)) := cb_2 (call_min2 hc) fun μ S H a b z x y H0 H0' Q r ra rb hz q => by
  unfold minF at hz
  cases hp : int2 a b with
  | none => rw [hp] at hz; cases hz
  | some p =>
    rw [hp] at hz; cases hz
    obtain ⟨rfl, rfl⟩ := int2_some hp
    exact ⟨p.1, p.2, by rw [ra.int, rb.int], q H _ .refl r (.v .int)⟩
theorem d_max (hc : X.calm = true) : CallR X (.builtin "max") (rCB X.K (f2 maxF)) := cb_2 (call_max2 hc) fun μ S H a b z x y H0 H0' Q r ra rb hz q => by
  unfold maxF at hz
  cases hp : int2 a b with
  | none => rw [hp] at hz; cases hz
  | some p =>
    rw [hp] at hz; cases hz
    obtain ⟨rfl, rfl⟩ := int2_some hp
    exact ⟨p.1, p.2, by rw [ra.int, rb.int], q H _ .refl r (.v .int)⟩
def bools : List D → Option (List Bool)
  | [] => some []
  | .bl b :: ds => (bools ds).map (b :: ·)
  | _ => none
theorem bools_some : ∀ {ds : List D} {bs : List Bool}, bools ds = some bs → ds = bs.map .bl
  | [], bs, h => by cases h; rfl
  | .bl b :: ds, bs, h => by
    have h : (bools ds).map (b :: ·) = some bs := h
    cases q : bools ds with
    | none => rw [q] at h; cases h
    | some cs => rw [q] at h; cases h; rw [bools_some q]; rfl
  | .non :: _, _, h => by cases h
  | .int _ :: _, _, h => by cases h
  | .str _ :: _, _, h => by cases h
  | .tup _ :: _, _, h => by cases h
  | .kl _ :: _, _, h => by cases h
  | .loc _ :: _, _, h => by cases h
  | .exc _ _ _ _ :: _, _, h => by cases h
theorem RVs.bls {K : PySem.W.Frag} {μ : List Addr} {H : Hp} : ∀ {bs : List Bool} {vs : List V}, RVs K μ H (bs.map .bl) vs → vs = bs.map V.bl
  | [], _, h => by cases h; rfl
  | b :: bs, _, h => by
    cases h with
    | cons h t => cases h; rw [RVs.bls t]; rfl
theorem RVs.ints {K : PySem.W.Frag} {μ : List Addr} {H : Hp} : ∀ {bs : List Int} {vs : List V}, RVs K μ H (bs.map .int) vs → vs = bs.map V.int
  | [], _, h => by cases h; rfl
  | b :: bs, _, h => by
    cases h with
    | cons h t => cases h; rw [RVs.ints t]; rfl
theorem RVs.of_ints {K : PySem.W.Frag} {μ : List Addr} {H : Hp} : ∀ (bs : List Int), RVs K μ H (bs.map .int) (bs.map V.int)
  | [] => .nil
  | b :: bs => .cons .int (RVs.of_ints bs)
def allF (f : F) (S : Sto) : Option F := (getL f S).bind fun ds => (bools ds).map fun bs => .v (.bl (bs.all id))
def anyF (f : F) (S : Sto) : Option F := (getL f S).bind fun ds => (bools ds).map fun bs => .v (.bl (bs.any id))
theorem d_all (hc : X.calm = true) : CallR X (.builtin "all") (rCB X.K (f1 allF)) := cb_1 (cr_all hc) fun μ S H a z x H0 Q r ra hz q => by
  unfold allF at hz
  cases hl : getL a S with
  | none => rw [hl] at hz; cases hz
  | some ds =>
    rw [hl] at hz
    have hz : (bools ds).map (fun bs => F.v (.bl (bs.all id))) = some z := hz
    cases hb : bools ds with
    | none => rw [hb] at hz; cases hz
    | some bs =>
      rw [hb] at hz; cases hz
      have e := bools_some hb
      subst e
      obtain ⟨p, vs, rfl, h1, h2⟩ := getL_ok r ra hl
      exact ⟨p, bs, rfl, by rw [← h2.bls]; exact h1, q H _ .refl r (.v .bl)⟩
theorem d_any (hc : X.calm = true) : CallR X (.builtin "any") (rCB X.K (f1 anyF)) := cb_1 (cr_any hc) fun μ S H a z x H0 Q r ra hz q => by
  unfold anyF at hz
  cases hl : getL a S with
  | none => rw [hl] at hz; cases hz
  | some ds =>
    rw [hl] at hz
    have hz : (bools ds).map (fun bs => F.v (.bl (bs.any id))) = some z := hz
    cases hb : bools ds with
    | none => rw [hb] at hz; cases hz
    | some bs =>
      rw [hb] at hz; cases hz
      have e := bools_some hb
      subst e
      obtain ⟨p, vs, rfl, h1, h2⟩ := getL_ok r ra hl
      exact ⟨p, bs, rfl, by rw [← h2.bls]; exact h1, q H _ .refl r (.v .bl)⟩
/-! isinstance of a built-in type -/
def tyN (f : F) (S : Sto) : Option String := match f with
  | .v .non => some "NoneType"
  | .v (.bl _) => some "bool"
  | .v (.int _) => some "int"
  | .v (.str _) => some "str"
  | .v (.tup _) => some "tuple"
  | .v (.kl _) => some "list"
  | .l _ => some "list"
  | .v (.loc n) => match S[n]? with
    | some (.lst _) => some "list"
    | some (.dct _) => some "dict"
    | some (.dtt _) => some "dict"
    | some (.fzd _) => none
    | some (.fzt _) => none
    | none => none
  | .v (.exc _ _ _ _) => none
theorem tyN_ok {K : PySem.W.Frag} {μ : List Addr} {S : Sto} {H H0 : Hp} {f : F} {v : V} {t : String} (r : Rep K μ S H) (rf : RF K H0 μ H f v) (h : tyN f S = some t) : TyX K H v (.type t) := by
  cases rf with
  | l h1 => cases h; exact .base (.lst h1)
  | v rv =>
    cases rv with
    | non => cases h; exact .base .non
    | bl => cases h; exact .base (.bl _)
    | int => cases h; exact .base (.int _)
    | str => cases h; exact .base (.str _)
    | tup h1 _ =>
      cases h
      rcases h1 with (h1 | ⟨o, h1⟩) | ⟨o, its, n, h1, h2, _⟩
      · exact .base (.tup h1)
      · exact .fTuple h1
      · exact .kTuple h1 h2
    | kl h1 _ =>
      cases h
      rcases h1 with ⟨o, h1⟩ | ⟨o, its, n, h1, h2, _⟩
      · exact .base (.frz h1)
      · exact .kList h1 h2
    | exc _ _ _ _ => cases h
    | @loc n a hn =>
      have h : (match S[n]? with
        | some (.lst _) => some "list"
        | some (.dct _) => some "dict"
        | some (.dtt _) => some "dict"
        | some (.fzd _) => none
        | some (.fzt _) => none
        | none => none) = some t := h
      cases hs : S[n]? with
      | none => rw [hs] at h; cases h
      | some o =>
        rw [hs] at h
        cases r.obj n o a hs hn with
        | lst h1 _ => cases h; exact .base (.lst h1)
        | dK h1 _ => cases h; exact .base (.dK h1)
        | dT h1 _ => cases h; exact .base (.dT h1)
        | fK h1 _ => cases h
        | fT h1 _ => cases h
def isSub (t c : String) : Bool := t == c || (t == "bool" && c == "int")
def isiF (c : String) (f : F) (S : Sto) : Option F := (tyN f S).map fun t => .v (.bl (isSub t c))
theorem tyN_of {f : F} {S : Sto} {t : String} (h : tyN f S = some t) : t ∈ ["NoneType", "bool", "int", "str", "tuple", "list", "dict"] := by
  unfold tyN at h
  split at h <;> first | (cases h; decide) | (cases h; done) | (split at h <;> cases h <;> decide)
def eIsi (c : String) (ee : Env → Sto → R F) := eUn (isiF c) ee
theorem pd_isi {c : String} {x : Str} {p p2 : Pos} (hk : ∀ t ∈ ["NoneType", "bool", "int", "str", "tuple", "list", "dict"], kitB t c = some (isSub t c)) (hg : Gl X "isinstance") (hm : X.mg "isinstance" = none) (hg2 : Gl X x) (hm2 : X.mg x = none) (hv2 : bootBuiltins x = some (.type c)) (he : PD X W e ee)
    (hn : x ≠ "__name__" := by decide) (hd : (x == ("__debug__" : Str)) = false := by decide)
    (hs : starEach [e, .Name x p2] X.env = (false, eval e X.env) :: starEach [.Name x p2] X.env := by rfl) (hs2 : starEach [.Name x p2] X.env = (false, eval (.Name x p2) X.env) :: starEach [] X.env := by rfl)
    (hpl : (backTo pos (starEach [.Name x p2] X.env)).any (·.1) = false := by rfl) : PD X W (.Call (.Name "isinstance" p) [e, .Name x p2] [] pos) (eIsi c ee) :=
  PE.imp (pe_callB call_isi hg hm PyProof.Rows.boot_isinstance (pa_cons he (pa_cons (pe_bltn (v := .ty c) hg2 hm2 hv2 rfl hn hd) pa_nil hs2) hs) (by decide) (by decide) hs hpl) fun σ H Q ⟨μ, S, ρ, r, re, p⟩ =>
    ⟨μ, S, ρ, r, re, Post.bind bk_f p fun x S1 μ1 H1 u _ k r1 rx p1 => by
      cases ht : tyN x S1 with
      | none => unfold isiF at p1; rw [ht] at p1; exact p1.elim
      | some t =>
        unfold isiF at p1; rw [ht] at p1
        exact ⟨u, .ty c, .type t, .type c, isSub t c, rfl, .ty c, tyN_ok r1 rx ht, kit_ty (hk t (tyN_of ht)), p1 μ1 H1 _ .refl r1 (.v .bl)⟩⟩
theorem kit_int : ∀ t ∈ ["NoneType", "bool", "int", "str", "tuple", "list", "dict"], kitB t "int" = some (isSub t "int") := by decide +kernel
theorem kit_bool : ∀ t ∈ ["NoneType", "bool", "int", "str", "tuple", "list", "dict"], kitB t "bool" = some (isSub t "bool") := by decide +kernel
theorem kit_tuple : ∀ t ∈ ["NoneType", "bool", "int", "str", "tuple", "list", "dict"], kitB t "tuple" = some (isSub t "tuple") := by decide +kernel
theorem kit_str : ∀ t ∈ ["NoneType", "bool", "int", "str", "tuple", "list", "dict"], kitB t "str" = some (isSub t "str") := by decide +kernel
theorem kit_list : ∀ t ∈ ["NoneType", "bool", "int", "str", "tuple", "list", "dict"], kitB t "list" = some (isSub t "list") := by decide +kernel
theorem kit_dict : ∀ t ∈ ["NoneType", "bool", "int", "str", "tuple", "list", "dict"], kitB t "dict" = some (isSub t "dict") := by decide +kernel
/-! repr -/
def showOk (p : PyData) : Bool := p.showable && !p.hasDict && decide (p.shown.length ≤ 16000000) && decide (p.depth ≤ 50)
def reprF (f : F) (S : Sto) : Option F := (f.py S).bind fun p => if showOk p then some (.v (.str p.shown)) else none
theorem d_repr (gd : X.A.guards = some []) (hu : X.A.units + 64 < cLine) : CallR X (.builtin "repr") (rCB X.K (f1 reprF)) :=
  fun pins s σ H xs us Q I rx ⟨μ, S, fs, z, rep, rf, hz, q⟩ => by
    unfold f1 at hz
    split at hz
    rotate_left
    · cases hz
    rename_i f
    obtain ⟨v, H0, rfl, r1⟩ := rf.one
    unfold reprF at hz
    cases hp : f.py S with
    | none => rw [hp] at hz; cases hz
    | some p =>
      rw [hp] at hz
      have hz : (if showOk p = true then some (F.v (.str p.shown)) else none) = some z := hz
      simp only [Option.ite_none_right_eq_some] at hz
      obtain ⟨h1, h2⟩ := hz
      cases h2
      unfold showOk at h1
      simp only [Bool.and_eq_true, decide_eq_true_eq, Bool.not_eq_true'] at h1
      obtain ⟨⟨⟨h1, h2⟩, h3⟩, h4⟩ := h1
      cases rx with
      | cons ru rn =>
        rename_i u us'
        cases rn
        obtain ⟨as, hr⟩ := Dp.reads I p v u (r1.py rep hp) ru
        have fin : ∀ h' w tk, (∀ b o, s.heap.get? b = some o → h'.get? b = some o) → EP X pins σ Q (.str p.shown w) { s with heap := h', toks := tk } := fun h' w tk hk =>
          ⟨.str p.shown, H, I.kept (t' := tk) hk, ⟨_, rfl⟩, q H _ .refl rep (.v .str)⟩
        have fin1 : ∀ w tk, EP X pins σ Q (.str p.shown w) { s with toks := tk } := fun w tk => fin s.heap w tk fun _ _ e => e
        have sz : p.shown.length ≤ sizeLine := sz16 h3
        cases hr with
        | none => exact PySem.P.repr_of_none (by have := fin1 s.toks (s.toks + 1); simpa only [PyData.shown] using this)
        | bool b => exact PySem.P.repr_of_bool (by have := fin1 s.toks (s.toks + 1); simpa only [PyData.shown] using this)
        | int i t => exact PySem.P.repr_of_int (by simpa only [PyData.showable, decide_eq_true_eq] using h1) (by have := fin1 s.toks (s.toks + 1); simpa only [PyData.shown] using this)
        | str x t => exact PySem.P.repr_of_str (by have := fin1 s.toks (s.toks + 1); simpa only [PyData.shown] using this) (by simpa only [PyData.shown] using sz)
        | list e1 e2 e3 e4 => exact PySem.repr_of_reads' (.list e1 e2 e3 e4) h1 (fun e => by rw [h2] at e; cases e) gd (by omega) (fun _ _ e => e) fin sz
        | tuple e1 e2 e3 e4 => exact PySem.repr_of_reads' (.tuple e1 e2 e3 e4) h1 (fun e => by rw [h2] at e; cases e) gd (by omega) (fun _ _ e => e) fin sz
        | dict e1 e2 e3 e4 e5 => exact PySem.repr_of_reads' (.dict e1 e2 e3 e4 e5) h1 (fun e => by rw [h2] at e; cases e) gd (by omega) (fun _ _ e => e) fin sz
/-! sorted ints -/
def intsOf : List D → Option (List Int)
  | [] => some []
  | .int b :: ds => (intsOf ds).map (b :: ·)
  | _ => none
theorem intsOf_some : ∀ {ds : List D} {bs : List Int}, intsOf ds = some bs → ds = bs.map .int
  | [], bs, h => by cases h; rfl
  | .int b :: ds, bs, h => by
    have h : (intsOf ds).map (b :: ·) = some bs := h
    cases q : intsOf ds with
    | none => rw [q] at h; cases h
    | some cs => rw [q] at h; cases h; rw [intsOf_some q]; rfl
  | .non :: _, _, h => by cases h
  | .bl _ :: _, _, h => by cases h
  | .str _ :: _, _, h => by cases h
  | .tup _ :: _, _, h => by cases h
  | .kl _ :: _, _, h => by cases h
  | .loc _ :: _, _, h => by cases h
  | .exc _ _ _ _ :: _, _, h => by cases h
@[simp] theorem intsOf_map (ns : List Int) : intsOf (ns.map .int) = some ns := by
  induction ns with
  | nil => rfl
  | cons n ns ih => show (intsOf (ns.map D.int)).map (n :: ·) = _; rw [ih]; rfl
def srt (ns : List Int) : List Int := ns.mergeSort (fun a b => decide (a ≤ b))
theorem srt_of {ns ms : List Int} (hp : ms.Perm ns) (hs : ms.Pairwise (· ≤ ·)) : ms = srt ns := by
  unfold srt
  refine List.Perm.eq_of_pairwise (le := (· ≤ ·)) (fun a b _ _ h1 h2 => Int.le_antisymm h1 h2) hs ?_ (hp.trans (List.mergeSort_perm ns _).symm)
  have := List.pairwise_mergeSort (le := fun a b : Int => decide (a ≤ b)) (fun a b c h1 h2 => by simp only [decide_eq_true_eq] at *; omega) (fun a b => by simp only [Bool.or_eq_true, decide_eq_true_eq]; omega) ns
  exact this.imp (fun h => by simpa using h)
def sortF (f : F) (S : Sto) : Option F := match f with
  | .v (.loc n) => (match S[n]? with
    | some (.lst ds) => (intsOf ds).map fun ns => .l ((srt ns).map .int)
    | some (.dct kvs) => (intsOf (kvs.map (·.1))).bind fun ns => if ns.length < 64 then some (.l ((srt ns).map .int)) else none
    | _ => none)
  | f => (getL f S).bind fun ds => (intsOf ds).map fun ns => .l ((srt ns).map .int)
theorem RKs.ints {K : PySem.W.Frag} {μ : List Addr} {H : Hp} : ∀ {kvs : List (D × D)} {r : List (Key × V)} {ns : List Int}, RKs K μ H kvs r → kvs.map (·.1) = ns.map D.int → r.map (·.1) = ns.map Sum.inl
  | _, _, ns, .nil, e => by cases ns with
    | nil => rfl
    | cons _ _ => cases e
  | _, _, ns, .cons h1 h2 t, e => by
    cases ns with
    | nil => cases e
    | cons n ns =>
      injection e with e1 e2
      simp only at e1
      subst e1
      cases h1
      simp only [List.map_cons]
      rw [RKs.ints t e2]
theorem cb_or {f : Value} {r r' : List V → Hp → VK → Prop} (h : CallR X f r) (h' : CallR X f r') : CallR X f (fun xs H Q => r xs H Q ∨ r' xs H Q) := fun pins s σ H xs us Q I rx q => q.elim (h pins s σ H xs us Q I rx) (h' pins s σ H xs us Q I rx)
theorem d_sorted (hc : X.calm = true) : CallR X (.builtin "sorted") (rCB X.K (f1 sortF)) := cb_1 (cb_or cr_sortedI (call_sortedDI hc)) fun μ S H a z x H0 Q r ra hz q => by
  have go : ∀ {ds : List D}, getL a S = some ds → (intsOf ds).map (fun ns => F.l ((srt ns).map .int)) = some z → rSortedI X.K [x] H Q := fun {ds} hl hz => by
    cases hb : intsOf ds with
    | none => rw [hb] at hz; cases hz
    | some ns =>
      rw [hb] at hz; cases hz
      have e := intsOf_some hb
      subst e
      obtain ⟨p, vs, rfl, h1, h2⟩ := getL_ok r ra hl
      refine ⟨p, ns, rfl, by rw [← h2.ints]; exact h1, fun ms np hp hs hn => ?_⟩
      have := srt_of hp hs
      subst this
      exact new_l (μ' := μ) r (RVs.of_ints _) hn q
  unfold sortF at hz
  split at hz
  · rename_i n
    split at hz
    · rename_i h
      exact .inl (go (by simp only [getL]; rw [h]) hz)
    · rename_i kvs h
      right
      cases ra with
      | v rv =>
        cases rv with
        | @loc _ p hn =>
          cases hb : intsOf (kvs.map (·.1)) with
          | none => rw [hb] at hz; cases hz
          | some ns =>
            rw [hb] at hz
            have hz : (if ns.length < 64 then some (F.l ((srt ns).map .int)) else none) = some z := hz
            simp only [Option.ite_none_right_eq_some] at hz
            obtain ⟨hl, hz⟩ := hz
            cases hz
            have e := intsOf_some hb
            cases r.obj n _ p h hn with
            | dK h1 h2 =>
              refine ⟨p, _, ns, rfl, .inl h1, h2.ints e, hl, fun ms np hp hs hnn => ?_⟩
              have := srt_of hp hs
              subst this
              exact new_l (μ' := μ) r (RVs.of_ints _) hnn q
    · cases hz
  · cases hl : getL a S with
    | none => rw [hl] at hz; cases hz
    | some ds =>
      rw [hl] at hz
      exact .inl (go hl hz)
end
end DL
/-! ## DSub -/
set_option maxHeartbeats 1000000
namespace DL
open PySem PySem.Spec L2
section
variable {X : Cx} {W : WX} {e a b : Expr} {ee ea eb : Env → Sto → R F} {pos : Pos}
/-! ### subscripts -/
def ixF (a b : F) (S : Sto) : Option F := match b with
  | .v (.int i) => (getTL a S).bind fun ds => (atI ds i).map .v
  | _ => none
theorem atI_rv {K : PySem.W.Frag} {μ : List Addr} {H : Hp} {ds : List D} {vs : List V} {i : Int} {d : D} (rv : RVs K μ H ds vs) (h : atI ds i = some d) : ∃ v, atI vs i = some v ∧ RV K μ H d v := by
  unfold atI at h ⊢
  rw [← rv.length]
  cases hx : ixN ds.length i with
  | none => rw [hx] at h; cases h
  | some j => rw [hx] at h; exact rv.get h
theorem d_ix : IxR X (rOp X.K ixF) := fun value slice pins s σ H x y v u Q I rx ry ⟨μ, S, a, b, z, H0, H0', r, ra, rb, hz, q⟩ hs => by
  unfold ixF at hz
  split at hz
  rotate_left
  · cases hz
  rename_i i
  cases hl : getTL a S with
  | none => rw [hl] at hz; cases hz
  | some ds =>
    rw [hl] at hz
    have hz : (atI ds i).map F.v = some z := hz
    cases hd : atI ds i with
    | none => rw [hd] at hz; cases hz
    | some d =>
      rw [hd] at hz; cases hz
      obtain ⟨p, vs, rfl, h1, h2⟩ := getTL_ok r ra hl
      have := rb.int
      subst this
      obtain ⟨w, h3, h4⟩ := atI_rv h2 hd
      refine IxR.or ix_list ix_tup value slice pins s σ H _ _ v u Q I rx ry ?_ hs
      rcases h1 with h1 | h1
      · exact .inl ⟨p, vs, i, w, rfl, rfl, h1, h3, q H _ .refl r (.v h4)⟩
      · exact .inr ⟨p, vs, i, w, rfl, rfl, h1, h3, q H _ .refl r (.v h4)⟩
/-- the entry of a dict at a key -/
def oGet (o : O) (k : D) : Option (Option D) := match o with
  | .dct kvs => if (dKey k).isSome then some (kvs.lookup k) else none
  | .fzd kvs => if (dKey k).isSome then some (kvs.lookup k) else none
  | _ => none
def dGet (f : F) (k : D) (S : Sto) : Option (Option D) := match f with
  | .v (.loc n) => (match S[n]? with
    | some o => oGet o k
    | none => none)
  | _ => none
theorem oGet_ok {K : PySem.W.Frag} {μ : List Addr} {H : Hp} {ob : O} {ad : Addr} {k : D} {o : Option D} (ro : RO K μ H ob ad) (h : oGet ob k = some o) : ∃ kvs r key, kvs.lookup k = o ∧ dKey k = some key ∧ Rd H ad (.dK r) ∧ RKs K μ H kvs r := by
  cases ro with
  | dK g1 g2 =>
    simp only [oGet, Option.ite_none_right_eq_some, Option.some.injEq] at h
    obtain ⟨key, hkey⟩ := Option.isSome_iff_exists.mp h.1
    exact ⟨_, _, key, h.2, hkey, .inl g1, g2⟩
  | fK g1 g2 =>
    simp only [oGet, Option.ite_none_right_eq_some, Option.some.injEq] at h
    obtain ⟨key, hkey⟩ := Option.isSome_iff_exists.mp h.1
    exact ⟨_, _, key, h.2, hkey, .inr ⟨_, g1⟩, g2⟩
  | lst _ _ => cases h
  | dT _ _ => cases h
  | fT _ _ => cases h
theorem RKs.get {K : PySem.W.Frag} {μ : List Addr} {H : Hp} {k : D} {key : Key} (hk : dKey k = some key) : ∀ {kvs : List (D × D)} {r : List (Key × V)}, RKs K μ H kvs r →
    (∀ d, kvs.lookup k = some d → ∃ v, valV r key = some v ∧ RV K μ H d v) ∧ (kvs.lookup k = none → valV r key = none)
  | _, _, .nil => ⟨fun d h => (by cases h), fun _ => rfl⟩
  | _, _, .cons (k := k') (key := key') (d := d') (v := v') (kvs := kvs) (r := r) h1 h2 t => by
    have ih := RKs.get hk t
    by_cases e : k = k'
    · subst e
      have ek : key' = key := Option.some.inj (h1.symm.trans hk)
      subst ek
      have l : ((k, d') :: kvs).lookup k = some d' := by simp [List.lookup]
      rw [l, valV_pos rfl]
      exact ⟨fun d q => by cases q; exact ⟨v', rfl, h2⟩, fun q => (by cases q)⟩
    · have l : ((k', d') :: kvs).lookup k = kvs.lookup k := by
        simp only [List.lookup]
        have : (k == k') = false := by simp [e]
        rw [this]
      have nk : ¬ key' = key := fun q => e (by
        subst q
        cases k <;> cases k' <;> simp [dKey] at hk h1 <;> (first | (subst hk; cases h1; rfl) | (subst h1; cases hk; rfl) | skip)
        all_goals first | (cases (hk.trans h1.symm); rfl) | (have := hk.trans h1.symm; cases this) | skip)
      rw [l, valV_neg nk]
      exact ih
def dkV : D → V
  | .int i => .int i
  | .str x => .str x
  | _ => .non
theorem dKey_v {K : PySem.W.Frag} {μ : List Addr} {H : Hp} {k : D} {key : Key} {v : V} (hk : dKey k = some key) (h : RV K μ H k v) : v = kV key := by
  cases h <;> simp [dKey] at hk <;> subst hk <;> rfl
/-- a[b], a a list, a tuple or a dict -/
def eSub (ea eb : Env → Sto → R F) : Env → Sto → R F := fun ρ S => (ea ρ S).bind fun x S1 => (eb ρ S1).bind fun y S2 => match ixF x y S2 with
  | some z => .ok z S2
  | none => match y with
    | .v k => (match dGet x k S2 with
      | some (some d) => .ok (.v d) S2
      | _ => .bad)
    | _ => .bad
theorem pd_sub (hu : X.A.units + 64 < cLine) (ha : PD X W a ea) (hb : PD X W b eb) (hs : PlainIx b := by exact fun _ _ => rfl) : PD X W (.Subscript a b pos) (eSub ea eb) := by
  have h1 := pe_ix (pos := pos) (d_ix (X := X)) ha hb hs
  have h2 := pe_dget (pos := pos) (show X.A.units + 1 < cLine by omega) ha hb hs
  refine ⟨fun pins s σ H Q I ⟨μ, S, ρ, r, re, p⟩ => ?_⟩
  -- which of the two
  by_cases hd : ∃ x y S1 S2 k d, ea ρ S = .ok x S1 ∧ eb ρ S1 = .ok y S2 ∧ ixF x y S2 = none ∧ y = .v k ∧ dGet x k S2 = some (some d)
  · refine h2.run pins s σ H Q I ⟨μ, S, ρ, r, re, Post.bind bk_f p fun x S1 μ1 H1 u ex k r1 rx p1 => ⟨μ1, S1, ρ, r1, re.mono k, Post.bind bk_f p1 fun y S2 μ2 H2 w ey k2 r2 ry p2 => ?_⟩⟩
    obtain ⟨x', y', S1', S2', kk, d, e1, e2, e3, e4, e5⟩ := hd
    rw [ex] at e1; cases e1
    rw [ey] at e2; cases e2
    subst e4
    rw [e3] at p2
    dsimp only at p2
    rw [e5] at p2
    unfold dGet at e5
    split at e5
    rotate_left
    · cases e5
    rename_i n
    split at e5
    rotate_left
    · cases e5
    rename_i o' hS
    cases (rx.mono k2) with
    | v rv =>
      cases rv with
      | @loc _ ad hn =>
        cases ry with
        | v ry =>
          obtain ⟨kvs, r', key, hl, hkey, g1, g2⟩ := oGet_ok (r2.obj n _ ad hS hn) e5
          obtain ⟨v, g3, g4⟩ := (g2.get hkey).1 d hl
          exact ⟨ad, v, rfl, .inl ⟨_, key, g1, dKey_v hkey ry, g3.symm⟩, p2 μ2 H2 _ .refl r2 (.v g4)⟩
  · refine h1.run pins s σ H Q I (tOp_of (W := W) ⟨μ, S, ρ, r, re, ?_⟩)
    unfold eOp
    unfold eSub at p
    cases e1 : ea ρ S with
    | bad => rw [e1] at p; exact p
    | err x S1 => rw [e1] at p; exact p
    | ok x S1 =>
      rw [e1] at p
      rw [DL.R.bind_ok] at p ⊢
      cases e2 : eb ρ S1 with
      | bad => rw [e2] at p; exact p
      | err x S1 => rw [e2] at p; exact p
      | ok y S2 =>
        rw [e2] at p
        rw [DL.R.bind_ok] at p ⊢
        cases e3 : ixF x y S2 with
        | some z => rw [e3] at p; exact p
        | none =>
          rw [e3] at p
          dsimp only at p
          split at p
          · rename_i k
            split at p
            · rename_i d e5
              exact absurd ⟨x, _, S1, S2, k, d, e1, e2, e3, rfl, e5⟩ hd
            · exact p
          · exact p
/-! ### slices -/
def ePart (ee : Env → Sto → R F) : Env → Sto → R (Option Int) := fun ρ S => (ee ρ S).bind fun x S1 => match x with
  | .v (.int i) => .ok (some i) S1
  | _ => .bad
def eNoPart : Env → Sto → R (Option Int) := fun _ S => .ok none S
def PDP (X : Cx) (W : WX) (e : Option Expr) (ep : Env → Sto → R (Option Int)) : Prop := PO X e (lift X.K X.mg W (fun _ _ _ a b => a = b) ep)
theorem PO.imp {e : Option Expr} {t t' : TO} (h : PO X e t) (i : ∀ σ H Q, t' σ H Q → t σ H Q) : PO X e t' := ⟨fun pins s σ H Q I q => h.run pins s σ H Q I (i _ _ _ q)⟩
theorem pdp_none : PDP X W none eNoPart := PO.imp po_none fun σ H Q ⟨μ, S, ρ, r, re, p⟩ => p μ H none .refl r rfl
theorem pdp_some (h : PD X W e ee) : PDP X W (some e) (ePart ee) := PO.imp (po_some h) fun σ H Q ⟨μ, S, ρ, r, re, p⟩ => ⟨μ, S, ρ, r, re, Post.bind bk_e p fun x S1 μ1 H1 u _ k r1 rx p1 => by
  split at p1
  · exact ⟨_, rx.int, p1 μ1 H1 _ .refl r1 rfl⟩
  · exact p1.elim⟩
def cutD (xs : List D) (lo hi : Option Int) : List D := (xs.drop (HT.sIx xs.length 0 lo)).take (HT.sIx xs.length xs.length hi - HT.sIx xs.length 0 lo)
theorem RVs.cut {K : PySem.W.Frag} {μ : List Addr} {H : Hp} {ds : List D} {vs : List V} (h : RVs K μ H ds vs) (lo hi : Option Int) : RVs K μ H (cutD ds lo hi) (cutV vs lo hi) := by
  unfold cutD cutV
  rw [h.length]
  exact (h.drop _).take _
def eSl (ee : Env → Sto → R F) (el eh : Env → Sto → R (Option Int)) : Env → Sto → R F := fun ρ S => (ee ρ S).bind fun x S1 => (el ρ S1).bind fun lo S2 => (eh ρ S2).bind fun hi S3 => match x with
  | .v (.tup ds) => .ok (.v (.tup (cutD ds lo hi))) S3
  | x => (match getL x S3 with
    | some ds => .ok (.l (cutD ds lo hi)) S3
    | none => .bad)
theorem cut_whole {ds : List D} {lo hi : Option Int} (h : HT.sIx ds.length 0 lo = 0 ∧ HT.sIx ds.length ds.length hi = ds.length) : cutD ds lo hi = ds := by
  unfold cutD
  rw [h.1, h.2]
  simp
theorem pd_sl {lo hi : Option Expr} {p2 : Pos} {el eh : Env → Sto → R (Option Int)} (ha : PD X W e ee) (hl : PDP X W lo el) (hh : PDP X W hi eh) : PD X W (.Subscript e (.Slice lo hi none p2) pos) (eSl ee el eh) :=
  PE.imp (pe_slice (SlR.or sl_list sl_tupA) ha hl hh) fun σ H Q ⟨μ, S, ρ, r, re, p⟩ => ⟨μ, S, ρ, r, re, Post.bind bk_f p fun x S1 μ1 H1 u _ k r1 rx p1 =>
    ⟨μ1, S1, ρ, r1, re.mono k, Post.bind bk_f p1 fun l S2 μ2 H2 l' _ k2 r2 el p2 =>
      ⟨μ2, S2, ρ, r2, (re.mono k).mono k2, Post.bind bk_f p2 fun h S3 μ3 H3 h' _ k3 r3 eh p3 => by
        subst el; subst eh
        have rx3 := (rx.mono k2).mono k3
        split at p3
        · obtain ⟨pp, vs, rfl, t1, t2⟩ := rx3.tup
          refine .inr ⟨pp, vs, rfl, t1, fun hw => ?_, fun _ np hp => ?_⟩
          · refine p3 μ3 H3 _ .refl r3 (.v ?_)
            rw [cut_whole (by rw [t2.length]; exact hw)]
            exact .tup t1 t2
          · exact new_t r3 (t2.cut l h) hp (p3 μ3)
        · cases hl : getL x S3 with
          | none => rw [hl] at p3; exact p3.elim
          | some ds =>
            rw [hl] at p3
            obtain ⟨pp, vs, rfl, t1, t2⟩ := getL_ok r3 rx3 hl
            exact .inl ⟨pp, vs, rfl, t1, fun np hp => new_l (μ' := μ3) r3 (t2.cut l h) hp (p3 μ3)⟩⟩⟩⟩
/-! ### stores into lists and dicts -/
def setO (x : F) (i : D) (d : D) (S : Sto) : Option Sto := match x with
  | .v (.loc n) => (match S[n]? with
    | some (.lst ds) => (match i with
      | .int j => (ixN ds.length j).map fun k => S.set n (.lst (ds.set k d))
      | _ => none)
    | _ => none)
  | _ => none
def sSet (eo ei ee : Env → Sto → R F) : Env → Sto → RS := fun ρ S => onE (eBox ee ρ S) ρ fun d S1 => onE (eo ρ S1) ρ fun x S2 => onE (ei ρ S2) ρ fun i S3 => match i with
  | .v k => (match setO x k d S3 with
    | some S4 => .nx ρ S4
    | none => .bad)
  | _ => .bad
end
end DL
/-! ## DMut -/
set_option maxHeartbeats 1000000
namespace DL
open PySem PySem.Spec L2
section
variable {X : Cx} {W : WX} {e o i : Expr} {es : List Expr} {ee eo ei : Env → Sto → R F} {pos : Pos}
theorem RF.loc {K : PySem.W.Frag} {H0 H : Hp} {μ : List Addr} {n : Nat} {x : V} (h : RF K H0 μ H (.v (.loc n)) x) : ∃ a, x = .ref a ∧ μ[n]? = some a := by
  cases h with | v h => cases h with | loc h => exact ⟨_, rfl, h⟩
/-- a list of the store is changed -/
theorem put_l {K : PySem.W.Frag} {μ : List Addr} {S : Sto} {H : Hp} {n : Nat} {a : Addr} {ds es : List D} {vs us : List V} (r : Rep K μ S H) (hS : S[n]? = some (.lst ds)) (hn : μ[n]? = some a) (hv : H a = some (.lst vs)) (ru : RVs K μ H es us) :
    Kp K μ H μ (upd H a (.lst us)) ∧ Rep K μ (S.set n (.lst es)) (upd H a (.lst us)) := by
  have fr : Free H a := .inr (.inl ⟨_, hv⟩)
  have k : Kp K μ H μ (upd H a (.lst us)) := Kp.put fr (List.mem_of_getElem? hn)
  exact ⟨k, r.put hn fr (.lst upd_same (ru.mono k))⟩
theorem lst_at {K : PySem.W.Frag} {μ : List Addr} {S : Sto} {H : Hp} {n : Nat} {a : Addr} {ds : List D} (r : Rep K μ S H) (hS : S[n]? = some (.lst ds)) (hn : μ[n]? = some a) : ∃ vs, H a = some (.lst vs) ∧ RVs K μ H ds vs := by
  cases r.obj n _ a hS hn with
  | lst h1 h2 => exact ⟨_, h1, h2⟩
/-- x[i] = e, x a list -/
theorem pds_setL {tpos : Pos} (ho : PD X W o eo) (hi : PD X W i ei) (he : PD X W e ee) (hs : swapsWithSole [.Subscript o i tpos] e pos.line X.env = pure false := by rfl) (hw : swappedStores [.Subscript o i tpos] e X.env = pure none := by rfl)
    (h1 : (assignEach [.Subscript o i tpos] X.env).map (·.2) = [assign (.Subscript o i tpos) X.env] := by rfl)
    (ha : ∀ v, assign (.Subscript o i tpos) X.env v = (do
      let ov ← holding [v] (eval o X.env)
      let iv ← holding [v, ov] (eval i X.env)
      standAt tpos
      holding [v, ov, iv] (setItem ov iv v)
      release [v, ov, iv] []) := by intro _; rfl) : PDS X W (.Assign [.Subscript o i tpos] e pos) (sSet eo ei ee) :=
  PS.imp (ps_asg (pd_box he) (pg_sub ho hi set_list ha) hs hw h1) fun E σ H ⟨μ, S, ρ, r, re, p⟩ => ⟨μ, S, ρ, r, re, PostS.onE p re fun d S1 μ1 H1 v _ k r1 rv p1 =>
    ⟨μ1, S1, ρ, r1, re.mono k, PostS.onE p1 (re.mono k) fun x S2 μ2 H2 u _ k2 r2 rx p2 =>
      ⟨μ2, S2, ρ, r2, (re.mono k).mono k2, PostS.onE p2 ((re.mono k).mono k2) fun y S3 μ3 H3 w _ k3 r3 ry p3 => by
        split at p3
        rotate_left
        · exact p3.elim
        rename_i kk _
        cases hz : setO x kk d S3 with
        | none => rw [hz] at p3; exact p3.elim
        | some S4 =>
          rw [hz] at p3
          unfold setO at hz
          split at hz
          rotate_left
          · cases hz
          rename_i n
          split at hz
          rotate_left
          · cases hz
          rename_i ds hS
          split at hz
          rotate_left
          · cases hz
          rename_i j _
          cases hx : ixN ds.length j with
          | none => rw [hx] at hz; cases hz
          | some m =>
            rw [hx] at hz; cases hz
            obtain ⟨a, rfl, hn⟩ := (rx.mono k3).loc
            obtain ⟨vs, hv, rvs⟩ := lst_at r3 hS hn
            obtain ⟨k4, r4⟩ := put_l r3 hS hn hv (rvs.set m ((rv.mono k2).mono k3))
            exact ⟨a, vs, j, m, rfl, ry.int, hv, by rw [← rvs.length]; exact hx, p3 μ3 _ σ k4 r4 ((((re.mono k).mono k2).mono k3).mono k4)⟩⟩⟩⟩
/-- x.append(e), x.insert(i, e) as statements -/
def appO (x : F) (ds : List D) (S : Sto) : Option Sto := match x, ds with
  | .v (.loc n), [d] => (match S[n]? with
    | some (.lst xs) => if xs.length ≤ 1000000 then some (S.set n (.lst (xs ++ [d]))) else none
    | _ => none)
  | _, _ => none
def insO (x : F) (ds : List D) (S : Sto) : Option Sto := match x, ds with
  | .v (.loc n), [.int j, d] => (match S[n]? with
    | some (.lst xs) => if xs.length ≤ 1000000 ∧ 0 ≤ j ∧ j ≤ 1000000 then some (S.set n (.lst (xs.take j.toNat ++ [d] ++ xs.drop j.toNat))) else none
    | _ => none)
  | _, _ => none
def sMt (f : F → List D → Sto → Option Sto) (eo : Env → Sto → R F) (ea : Env → Sto → R (List D)) : Env → Sto → RS := fun ρ S => onE (eo ρ S) ρ fun x S1 => onE (ea ρ S1) ρ fun ds S2 => match f x ds S2 with
  | some S3 => .nx ρ S3
  | none => .bad
theorem ty_l {K : PySem.W.Frag} {μ : List Addr} {S : Sto} {H H0 : Hp} {n : Nat} {a : Addr} {o : O} {S' : Sto} (h : ∃ ds, S[n]? = some (.lst ds)) (r : Rep K μ S H) (hn : μ[n]? = some a) : tyV K "list" (.ref a) H := by
  obtain ⟨ds, h⟩ := h
  obtain ⟨vs, hv, _⟩ := lst_at r h hn
  exact .inl ⟨rfl, vs, .inl (.inl hv)⟩
/-- at the store ahead of the arguments x must be a list already -/
def isL (x : F) (S : Sto) : Bool := match x with
  | .v (.loc n) => (match S[n]? with
    | some (.lst _) => true
    | _ => false)
  | _ => false
def sMtL (f : F → List D → Sto → Option Sto) (eo : Env → Sto → R F) (ea : Env → Sto → R (List D)) : Env → Sto → RS := fun ρ S => onE (eo ρ S) ρ fun x S1 => if isL x S1 then (onE (ea ρ S1) ρ fun ds S2 => match f x ds S2 with
  | some S3 => .nx ρ S3
  | none => .bad) else .bad
theorem isL_ok {K : PySem.W.Frag} {μ : List Addr} {S : Sto} {H H0 : Hp} {x : F} {v : V} (h : isL x S = true) (r : Rep K μ S H) (rx : RF K H0 μ H x v) : tyV K "list" v H := by
  unfold isL at h
  split at h
  rotate_left
  · cases h
  split at h
  rotate_left
  · cases h
  rename_i hS
  obtain ⟨a, rfl, hn⟩ := rx.loc
  obtain ⟨vs, hv, _⟩ := lst_at r hS hn
  exact .inl ⟨rfl, vs, .inl (.inl hv)⟩
theorem pds_mt {f : F → List D → Sto → Option Sto} {rr : V → List V → Hp → VK → Prop} {name : Str} {id : String} {apos cpos : Pos} {ea : Env → Sto → R (List D)} (hm : MtR X id rr)
    (hf : ∀ (μ : List Addr) (S S' : Sto) (H H0 : Hp) (x : F) (v : V) (ds : List D) (vs : List V) (Q : VK), Rep X.K μ S H → RF X.K H0 μ H x v → RVs X.K μ H ds vs → f x ds S = some S' → (∀ H', Kp X.K μ H μ H' → Rep X.K μ S' H' → Q .non H') → rr v vs H Q)
    (slot : Slot "list" name id) (hty : typeOf (.builtin id) = pure (.type "method_descriptor")) (ho : PD X W o eo) (ha : PDA X W (e :: es) ea)
    (hbase : attributeBase o name X.env (eval o X.env) = eval o X.env := by rfl)
    (hfew : ((backTo cpos (starEach (e :: es) X.env)).all (fun x => !x.1) && (backToKw cpos (keywordEach [] X.env)).all (fun x => x.1.isSome)
      && decide ((e :: es).length + ([] : List Keyword).length + (if ([] : List Keyword).isEmpty then 0 else 1) < 30)) = true := by rfl)
    (hline : (apos.endLine == cpos.line) = true := by rfl) (hs : starEach (e :: es) X.env = (false, eval e X.env) :: starEach es X.env := by rfl) (hplain : (backTo cpos (starEach es X.env)).any (·.1) = false := by rfl)
    (hsw : swapsWith (.Call (.Attribute o name apos) (e :: es) [] cpos) none pos.line X.env = pure false := by rfl) :
    PDS X W (.Expr (.Call (.Attribute o name apos) (e :: es) [] cpos) pos) (sMtL f eo ea) :=
  PS.imp (ps_expr (pe_bm PySem.F.plainAttrs_list slot hty hm ho ha hbase hfew hline hs hplain) hsw) fun E σ H ⟨μ, S, ρ, r, re, p⟩ => ⟨μ, S, ρ, r, re, PostS.onE p re fun x S1 μ1 H1 v _ k r1 rx p1 => by
    cases hl : isL x S1 with
    | false => rw [hl] at p1; exact p1.elim
    | true =>
      rw [hl] at p1
      refine ⟨isL_ok hl r1 rx, μ1, S1, ρ, r1, re.mono k, PostS.onE p1 (re.mono k) fun ds S2 μ2 H2 vs _ k2 r2 rv p2 => ?_⟩
      cases hz : f x ds S2 with
      | none => rw [hz] at p2; exact p2.elim
      | some S3 =>
        rw [hz] at p2
        exact hf μ2 S2 S3 H2 _ x v ds vs _ r2 (rx.mono k2) rv hz fun H' k3 r3 => p2 μ2 H' σ k3 r3 (((re.mono k).mono k2).mono k3)⟩
theorem m_app : ∀ (μ : List Addr) (S S' : Sto) (H H0 : Hp) (x : F) (v : V) (ds : List D) (vs : List V) (Q : VK), Rep X.K μ S H → RF X.K H0 μ H x v → RVs X.K μ H ds vs → appO x ds S = some S' → (∀ H', Kp X.K μ H μ H' → Rep X.K μ S' H' → Q .non H') → rAppend v vs H Q :=
  fun μ S S' H H0 x v ds vs Q r rx rv hz q => by
    unfold appO at hz
    split at hz
    rotate_left
    · cases hz
    rename_i n d
    split at hz
    rotate_left
    · cases hz
    rename_i xs hS
    simp only [Option.ite_none_right_eq_some, Option.some.injEq] at hz
    obtain ⟨hl, hz⟩ := hz
    subst hz
    obtain ⟨a, rfl, hn⟩ := rx.loc
    obtain ⟨us, hv, ru⟩ := lst_at r hS hn
    cases rv with
    | cons r1 rn =>
      cases rn
      obtain ⟨k4, r4⟩ := put_l r hS hn hv (ru.append (.cons r1 .nil))
      exact ⟨a, us, _, rfl, rfl, hv, by rw [← ru.length]; exact Nat.lt_of_le_of_lt hl (by decide), q _ k4 r4⟩
def rIns : V → List V → Hp → VK → Prop := fun x vs H Q => ∃ (l : Addr) (xs : List V) (i : Int) (y : V), x = .ref l ∧ vs = [.int i, y] ∧ H l = some (.lst xs) ∧ xs.length < sizeLine ∧ 0 ≤ i ∧ i < 2 ^ 63 ∧ Q .non (upd H l (.lst (xs.take i.toNat ++ [y] ++ xs.drop i.toNat)))
theorem m_ins : ∀ (μ : List Addr) (S S' : Sto) (H H0 : Hp) (x : F) (v : V) (ds : List D) (vs : List V) (Q : VK), Rep X.K μ S H → RF X.K H0 μ H x v → RVs X.K μ H ds vs → insO x ds S = some S' → (∀ H', Kp X.K μ H μ H' → Rep X.K μ S' H' → Q .non H') → rIns v vs H Q :=
  fun μ S S' H H0 x v ds vs Q r rx rv hz q => by
    unfold insO at hz
    split at hz
    rotate_left
    · cases hz
    rename_i n j d
    split at hz
    rotate_left
    · cases hz
    rename_i xs hS
    simp only [Option.ite_none_right_eq_some, Option.some.injEq] at hz
    obtain ⟨⟨hl, h0, h1⟩, hz⟩ := hz
    subst hz
    obtain ⟨a, rfl, hn⟩ := rx.loc
    obtain ⟨us, hv, ru⟩ := lst_at r hS hn
    cases rv with
    | cons r1 rn =>
      cases r1
      cases rn with
      | cons r2 rn =>
        cases rn
        obtain ⟨k4, r4⟩ := put_l r hS hn hv (((ru.take j.toNat).append (.cons r2 .nil)).append (ru.drop j.toNat))
        exact ⟨a, us, j, _, rfl, rfl, hv, by rw [← ru.length]; exact Nat.lt_of_le_of_lt hl (by decide), h0, by omega, q _ k4 r4⟩
theorem pds_app {apos cpos : Pos} {ea : Env → Sto → R (List D)} (ho : PD X W o eo) (ha : PDA X W (e :: es) ea)
    (hbase : attributeBase o "append" X.env (eval o X.env) = eval o X.env := by rfl)
    (hfew : ((backTo cpos (starEach (e :: es) X.env)).all (fun x => !x.1) && (backToKw cpos (keywordEach [] X.env)).all (fun x => x.1.isSome)
      && decide ((e :: es).length + ([] : List Keyword).length + (if ([] : List Keyword).isEmpty then 0 else 1) < 30)) = true := by rfl)
    (hline : (apos.endLine == cpos.line) = true := by rfl) (hs : starEach (e :: es) X.env = (false, eval e X.env) :: starEach es X.env := by rfl) (hplain : (backTo cpos (starEach es X.env)).any (·.1) = false := by rfl)
    (hsw : swapsWith (.Call (.Attribute o "append" apos) (e :: es) [] cpos) none pos.line X.env = pure false := by rfl) :
    PDS X W (.Expr (.Call (.Attribute o "append" apos) (e :: es) [] cpos) pos) (sMtL appO eo ea) := pds_mt mt_append m_app PySem.F.slot_list_append PySem.F.type_list_append ho ha hbase hfew hline hs hplain hsw
theorem pds_ins {apos cpos : Pos} {ea : Env → Sto → R (List D)} (ho : PD X W o eo) (ha : PDA X W (e :: es) ea)
    (hbase : attributeBase o "insert" X.env (eval o X.env) = eval o X.env := by rfl)
    (hfew : ((backTo cpos (starEach (e :: es) X.env)).all (fun x => !x.1) && (backToKw cpos (keywordEach [] X.env)).all (fun x => x.1.isSome)
      && decide ((e :: es).length + ([] : List Keyword).length + (if ([] : List Keyword).isEmpty then 0 else 1) < 30)) = true := by rfl)
    (hline : (apos.endLine == cpos.line) = true := by rfl) (hs : starEach (e :: es) X.env = (false, eval e X.env) :: starEach es X.env := by rfl) (hplain : (backTo cpos (starEach es X.env)).any (·.1) = false := by rfl)
    (hsw : swapsWith (.Call (.Attribute o "insert" apos) (e :: es) [] cpos) none pos.line X.env = pure false := by rfl) :
    PDS X W (.Expr (.Call (.Attribute o "insert" apos) (e :: es) [] cpos) pos) (sMtL insO eo ea) := pds_mt (rr := rIns) mt_insert m_ins PySem.F.slot_list_insert PySem.F.type_list_insert ho ha hbase hfew hline hs hplain hsw
/-! ### dicts whose keys are ints and texts -/
def eDict : Env → Sto → R D := fun _ S => .ok (.loc S.length) (S ++ [.dct []])
theorem pe_dict0 : PE X (.Dict [] [] pos) (lift X.K X.mg W (fun _ => RV X.K) eDict) := PE.imp pe_dnewK fun σ H Q ⟨μ, S, ρ, r, re, p⟩ => fun q hq => by
  have k : Kp X.K μ H (μ ++ [q]) (upd H q (.dK [])) := by
    have kn : Kp X.K μ H μ (upd H q (.dK [])) := Kp.new hq
    refine ⟨⟨[q], rfl⟩, kn.tup, kn.kls, kn.frm, fun x hx => ?_, kn.liv, kn.xds, kn.fzs⟩
    rcases List.mem_append.mp hx with z | z
    · exact .inl z
    · simp only [List.mem_singleton] at z; subst z; exact .inr hq
  have rn : Rep X.K μ S (upd H q (.dK [])) := r.new hq
  refine p (μ ++ [q]) _ (.ref q) k (rn.box (r.notin hq) (.dK upd_same .nil) fun _ _ _ h => h.more) (.loc ?_)
  rw [List.getElem?_append_right (by rw [r.len]; exact Nat.le_refl _), r.len]; simp
theorem pds_newD {j : Nat} {x : Str} {pos' dpos : Pos} (hN : X.N.Nodup) (hi : X.N[j]? = some x) (hx : Loc X.env.scope x) (hs : swapsWith (.Dict [] [] dpos) (some (.Name x pos')) pos.line X.env = pure false := by rfl) (hf : X.fn x = true ∨ X.env.scope.names.lookup x = some .local := by first | exact .inl rfl | exact .inr rfl | assumption) :
    PDS X W (.Assign [.Name x pos'] (.Dict [] [] dpos) pos) (fun ρ S => onE (eDict ρ S) ρ fun d S1 => .nx (ρ.set j (some d)) S1) :=
  PS.imp (ps_set hN hi hx (pe_dict0 (W := W)) hs hf) fun E σ H ⟨μ, S, ρ, r, re, p⟩ => ⟨μ, S, ρ, r, re, PostS.onE p re fun d S1 μ1 H1 v _ k r1 rv p1 => p1 μ1 H1 _ .refl r1 ((re.mono k).set j rv)⟩
/-- a dict's entry stored -/
def putD (kvs : List (D × D)) (k d : D) : List (D × D) := if (kvs.any fun kv => decide (kv.1 = k)) = true then kvs.map (fun kv => if kv.1 = k then (kv.1, d) else kv) else kvs ++ [(k, d)]
def putO (x : F) (k d : D) (S : Sto) : Option Sto := match x with
  | .v (.loc n) => (match S[n]? with
    | some (.dct kvs) => if (dKey k).isSome ∧ kvs.length ≤ 1000000 then some (S.set n (.dct (putD kvs k d))) else none
    | _ => none)
  | _ => none
theorem dKey_inj {a b : D} {k : Key} (ha : dKey a = some k) (hb : dKey b = some k) : a = b := by
  cases a <;> simp [dKey] at ha <;> subst ha <;> cases b <;> simp [dKey] at hb <;> subst hb <;> rfl
theorem RKs.put {K : PySem.W.Frag} {μ : List Addr} {H : Hp} {k d : D} {key : Key} {v : V} (hk : dKey k = some key) (rv : RV K μ H d v) {kvs : List (D × D)} {r : List (Key × V)} (h : RKs K μ H kvs r) : RKs K μ H (putD kvs k d) (putK r key v) := by
  have any : ∀ {kvs : List (D × D)} {r : List (Key × V)}, RKs K μ H kvs r → (kvs.any fun kv => decide (kv.1 = k)) = (r.any fun kv => decide (kv.1 = key)) := by
    intro kvs r h
    induction h with
    | nil => rfl
    | @cons k' key' d' v' kvs r h1 h2 t ih =>
      simp only [List.any_cons, ih]
      congr 1
      by_cases e : k' = k
      · subst e
        rw [h1] at hk; cases hk
        simp
      · have ne : ¬ key' = key := fun q => e (dKey_inj h1 (q ▸ hk))
        simp [e, ne]
  have mp : ∀ {kvs : List (D × D)} {r : List (Key × V)}, RKs K μ H kvs r → RKs K μ H (kvs.map fun kv => if kv.1 = k then (kv.1, d) else kv) (r.map fun kv => if kv.1 = key then (kv.1, v) else kv) := by
    intro kvs r h
    induction h with
    | nil => exact .nil
    | @cons k' key' d' v' kvs r h1 h2 t ih =>
      simp only [List.map_cons]
      by_cases e : k' = k
      · subst e
        rw [h1] at hk; cases hk
        rw [if_pos rfl, if_pos rfl]
        exact .cons h1 rv ih
      · have ne : ¬ key' = key := fun q => e (dKey_inj h1 (q ▸ hk))
        rw [if_neg e, if_neg ne]
        exact .cons h1 h2 ih
  have app : ∀ {kvs : List (D × D)} {r : List (Key × V)}, RKs K μ H kvs r → RKs K μ H (kvs ++ [(k, d)]) (r ++ [(key, v)]) := by
    intro kvs r h
    induction h with
    | nil => exact .cons hk rv .nil
    | cons h1 h2 t ih => exact .cons h1 h2 ih
  unfold putD putK
  rw [any h]
  split
  · exact mp h
  · exact app h
theorem RKs.length {K : PySem.W.Frag} {μ : List Addr} {H : Hp} {kvs : List (D × D)} {r : List (Key × V)} (h : RKs K μ H kvs r) : kvs.length = r.length := by
  induction h with
  | nil => rfl
  | cons _ _ _ ih => simp [ih]
def sPut (eo ei ee : Env → Sto → R F) : Env → Sto → RS := fun ρ S => onE (eBox ee ρ S) ρ fun d S1 => onE (eo ρ S1) ρ fun x S2 => onE (ei ρ S2) ρ fun i S3 => match i with
  | .v k => (match putO x k d S3 with
    | some S4 => .nx ρ S4
    | none => .bad)
  | _ => .bad
theorem pds_put {tpos : Pos} (hu : X.A.units + 64 < cLine) (ho : PD X W o eo) (hi : PD X W i ei) (he : PD X W e ee) (hs : swapsWith e (some (.Subscript o i tpos)) pos.line X.env = pure false := by rfl) : PDS X W (.Assign [.Subscript o i tpos] e pos) (sPut eo ei ee) :=
  PS.imp (ps_dput (by omega) ho hi (pd_box he) hs) fun E σ H ⟨μ, S, ρ, r, re, p⟩ => ⟨μ, S, ρ, r, re, PostS.onE p re fun d S1 μ1 H1 v _ k r1 rv p1 =>
    ⟨μ1, S1, ρ, r1, re.mono k, PostS.onE p1 (re.mono k) fun x S2 μ2 H2 u _ k2 r2 rx p2 =>
      ⟨μ2, S2, ρ, r2, (re.mono k).mono k2, PostS.onE p2 ((re.mono k).mono k2) fun y S3 μ3 H3 w _ k3 r3 ry p3 => by
        split at p3
        rotate_left
        · exact p3.elim
        rename_i kk _
        cases hz : putO x kk d S3 with
        | none => rw [hz] at p3; exact p3.elim
        | some S4 =>
          rw [hz] at p3
          unfold putO at hz
          split at hz
          rotate_left
          · cases hz
          rename_i n _
          split at hz
          rotate_left
          · cases hz
          rename_i kvs hS
          simp only [Option.ite_none_right_eq_some, Option.some.injEq] at hz
          obtain ⟨⟨hk, hl⟩, hz⟩ := hz
          subst hz
          obtain ⟨key, hkey⟩ := Option.isSome_iff_exists.mp hk
          obtain ⟨a, rfl, hn⟩ := (rx.mono k3).loc
          cases r3.obj n _ a hS hn with
          | @dK _ _ rr g1 g2 =>
            have fr : Free H3 a := .inr (.inr (.inl ⟨_, g1⟩))
            have k4 : Kp X.K μ3 H3 μ3 (upd H3 a (.dK (putK rr key v))) := Kp.put fr (List.mem_of_getElem? hn)
            cases ry with
            | v ry =>
              refine ⟨a, _, rfl, .inl ⟨rr, key, g1, dKey_v hkey ry, by rw [← g2.length]; exact Nat.lt_of_le_of_lt hl (by decide), rfl⟩, p3 μ3 _ σ k4 (r3.put hn fr (.dK upd_same ((g2.put hkey ((rv.mono k2).mono k3)).mono k4))) ((((re.mono k).mono k2).mono k3).mono k4)⟩⟩⟩⟩
end
end DL
/-! ## DGen -/
set_option maxHeartbeats 1000000
namespace DL
open PySem PySem.Spec L2
section
variable {X : Cx} {W : WX} {e a b c tg iter elt : Expr} {es : List Expr} {ee ea eb : Env → Sto → R F} {pos : Pos} {x : Str}
/-! short words for printed derivations -/
theorem gv (i : Nat) (hN : X.N[i]? = some x := by rfl) (hv : Vis X.env.scope x := by first | exact Or.inl rfl | exact Or.inr (Or.inl rfl) | exact Or.inr (Or.inr rfl)) (hd : (x == ("__debug__" : Str)) = false := by decide)
    (hcd : (x == ("__classdict__" : Str)) = false := by decide) : PD X W (.Name x pos) (eVar i) := pd_var hN hv hd hcd
theorem gset (i : Nat) {pos' : Pos} (hN : X.N.Nodup) (he : PD X W e ee) (hi : X.N[i]? = some x := by rfl) (hx : Loc X.env.scope x := by first | exact Or.inl rfl | exact Or.inr rfl) (hs : swapsWith e (some (.Name x pos')) pos.line X.env = pure false := by rfl)
    (hf : X.fn x = true ∨ X.env.scope.names.lookup x = some .local := by first | exact .inl rfl | exact .inr rfl) : PDS X W (.Assign [.Name x pos'] e pos) (sAsg (gNm i) ee) := pds_set hN hi hx he hs hf
theorem gnm (i : Nat) (hN : X.N.Nodup) (hi : X.N[i]? = some x := by rfl) (hx : Loc X.env.scope x := by first | exact Or.inl rfl | exact Or.inr rfl)
    (hf : X.fn x = true ∨ X.env.scope.names.lookup x = some .local := by first | exact .inl rfl | exact .inr rfl) : PDG X (.Name x pos) (gNm i) [i] := pdg_name hN hi hx hf
theorem gnewD (i : Nat) {pos' dpos : Pos} (hN : X.N.Nodup) (hi : X.N[i]? = some x := by rfl) (hx : Loc X.env.scope x := by first | exact Or.inl rfl | exact Or.inr rfl) (hs : swapsWith (.Dict [] [] dpos) (some (.Name x pos')) pos.line X.env = pure false := by rfl)
    (hf : X.fn x = true ∨ X.env.scope.names.lookup x = some .local := by first | exact .inl rfl | exact .inr rfl) : PDS X W (.Assign [.Name x pos'] (.Dict [] [] dpos) pos) (fun ρ S => onE (eDict ρ S) ρ fun d S1 => .nx (ρ.set i (some d)) S1) := pds_newD hN hi hx hs hf
/-- a, b = e1, e2 (both written): stored one after another -/
def sPar (i j : Nat) (ea eb : Env → Sto → R F) : Env → Sto → RS := fun ρ S => onE (eBox ea ρ S) ρ fun d S1 => onE (eBox eb ρ S1) ρ fun d' S2 => .nx ((ρ.set i (some d)).set j (some d')) S2
theorem gpar (i j : Nat) {y : Str} {px py pt : Pos} {kt k2 : Nat} {pt2 : Pos} (hc : X.calm = true) (hN : X.N.Nodup) (ha : PD X W a ea) (hb : PD X W b eb) (hi : X.N[i]? = some x := by rfl) (hj : X.N[j]? = some y := by rfl) (hij : i ≠ j := by decide)
    (hx : X.env.scope.names.lookup x = some .local := by rfl) (hy : X.env.scope.names.lookup y = some .local := by rfl)
    (hs1 : starEach [a, b] X.env = (false, eval a X.env) :: starEach [b] X.env := by rfl) (hs2 : starEach [b] X.env = (false, eval b X.env) :: starEach [] X.env := by rfl)
    (hw : swappedStores [.Tuple [.Name x px, .Name y py] kt pt] (.Tuple [a, b] k2 pt2) X.env = pure (some [x, y]) := by rfl)
    (hs : swapsWithSole [.Tuple [.Name x px, .Name y py] kt pt] (.Tuple [a, b] k2 pt2) pos.line X.env = pure false := by rfl) :
    PDS X W (.Assign [.Tuple [.Name x px, .Name y py] kt pt] (.Tuple [a, b] k2 pt2) pos) (sPar i j ea eb) :=
  PS.imp (ps_par hc hN hi hj hij hx hy (pa_cons (pd_box ha) (pa_cons (pd_box hb) pa_nil hs2) hs1) hw hs) fun E σ H ⟨μ, S, ρ, r, re, p⟩ =>
    ⟨μ, S, ρ, r, re, PostS.onE p re fun d S1 μ1 H1 v _ k r1 rv p1 => ⟨μ1, S1, ρ, r1, re.mono k, PostS.onE p1 (re.mono k) fun d' S2 μ2 H2 v' _ k2 r2 rv' p2 =>
      ⟨v, v', rfl, p2 μ2 H2 _ .refl r2 ((((re.mono k).mono k2).set i (rv.mono k2)).set j rv')⟩⟩⟩
/-- f(..), f a def of the text -/
theorem gcall {P : Program} {w : World} {K : PySem.W.Frag} {mg : Str → Option Value} {base : Heap} {p : Pos} {k : Nat} {ps : List Str} {df : List D → Sto → R F} {ea : DL.Env → Sto → R (List D)} (T : FnT P w K mg base k x ps df) (gd : X.A.guards = some []) (hr : Room k X.A) (tk : L2N.Takes X W) (ha : PDA X W (e :: es) ea)
    (hX : X.prog = P ∧ X.w = w ∧ X.K = K ∧ X.mg = mg ∧ X.base = base := by exact ⟨rfl, rfl, rfl, rfl, rfl⟩) (hg : Gl X x := by rfl)
    (hdb : (x == ("__debug__" : Str)) = false := by decide) (he : starEach (e :: es) X.env = (false, eval e X.env) :: starEach es X.env := by rfl) (hpl : (backTo pos (starEach es X.env)).any (·.1) = false := by rfl) :
    PD X W (.Call (.Name x p) (e :: es) [] pos) (eCall ps.length df ea) := by
  obtain ⟨rfl, rfl, rfl, rfl, rfl⟩ := hX
  exact pd_call T gd hr tk hg ha hdb he hpl
end
end DL
/-! ## DEnum -/
set_option maxHeartbeats 1000000
namespace DL
open PySem PySem.Spec L2
section
open Sem (wp)
open AutoSeq1 (wpAny_loadPart')
/-- enumerate(v) makes two cells: v's iterator, and its own -/
theorem new_enum {v : Value} {o : Obj} {J : Heap → Prop} (B : Begins v o J) :
    Meets (Builtin.«enumerate.__new__» ⟨[.type "enumerate", v], []⟩)
      (fun _ R s => J s.heap ∧ R (.ok (.ret (.ref (s.heap.push o).objs.size)))
        { s with heap := (s.heap.push o).push { cls := .type "enumerate", data := .fields #[.none, .bool false, .ref s.heap.objs.size, rawInt 0, .none, .none] } }) :=
  .of_wp fun prog w A R s h => by
    obtain ⟨hp, g, d, tk, os⟩ := s
    obtain ⟨h1, h⟩ := h
    have sub := sub_enumerate
    have it : ∀ {A' : Around} {E : Value → Shared → Prop} {Q : Value → Shared → Prop}, Q (.ref hp.objs.size) ⟨hp.push o, g, d, tk, os⟩ →
        wpAny (model prog w) A' (pyIter v) Q E ⟨hp, g, d, tk, os⟩ := fun q => B.iter prog w _ _ _ _ h1 q
    wp_walk using it
    refine wpAny_stack_any fun st => wpAny_pure ?_
    split
    · rename_i c _ _ _ _ _
      cases (c == Value.type "enumerate") <;>
        (wp_walk using it
         exact ⟨_, rfl, h⟩)
    · wp_walk using it
      exact ⟨_, rfl, h⟩
variable {prog : Program} {w : World} {A : Around} {E : Value → Shared → Prop} {s : Shared}
theorem enum_of {v : Value} {o : Obj} {J : Heap → Prop} {Q : Value → Shared → Prop} (B : Begins v o J) (h1 : J s.heap)
    (h : ∀ h', IsEnum h' (s.heap.objs.size + 1) s.heap.objs.size 0 .none → h'.get? s.heap.objs.size = some o → (∀ b o, s.heap.get? b = some o → h'.get? b = some o) →
      Q (.ref (s.heap.objs.size + 1)) { s with heap := h' }) : wpAny (model prog w) A (call (.type "enumerate") [v]) Q E s := by
  have z : (s.heap.push o).objs.size = s.heap.objs.size + 1 := Heap.size_push ..
  refine callType_new F.called_enumerate (by decide) (F.typeCall_enumerate_1 _) (F.newCall_enumerate_1 _) (fun obj => F.args_object_init_2 obj _)
    F.entry_enumerate_new (new_enum B) ⟨h1, ?_⟩
  show _ ∧ _
  rw [z]
  have he : IsEnum ((s.heap.push o).push { cls := .type "enumerate", data := .fields #[.none, .bool false, .ref s.heap.objs.size, rawInt 0, .none, .none] })
      (s.heap.objs.size + 1) s.heap.objs.size 0 .none := by
    have := Heap.get?_push_size (s.heap.push o) (o := { cls := .type "enumerate", data := .fields #[.none, .bool false, .ref s.heap.objs.size, rawInt 0, .none, .none] }) rfl
    rw [z] at this
    exact this
  exact ⟨⟨_, he, rfl⟩, h _ he (Heap.get?_push_of_some _ (Heap.get?_push_size _ B.free)) fun b o x => Heap.get?_push_of_some _ (Heap.get?_push_of_some _ x)⟩
/-- a built-in class called with keywords -/
theorem callWith_tyK {M : Model} {env : PySem.Env} {pos : Pos} {T : String} {e : Expr} {rest : List Expr} {kws : List Keyword} {Q : Value → Shared → Prop}
    (h : wpAny M A (spliced (backTo pos (starEach (e :: rest) env))) (fun vs s1 => wpAny M A (evalAll ((backToKw pos (keywordEach kws env)).map (·.2)))
      (fun ks s2 => wpAny M A (call (.type T) vs (((backToKw pos (keywordEach kws env)).filterMap (·.1)).zip ks)) Q E s2) E s1) E s)
    (he : starEach (e :: rest) env = (false, eval e env) :: starEach rest env) (hpl : (backTo pos (starEach (e :: rest) env)).any (·.1) = false)
    (hall : (backToKw pos (keywordEach kws env)).all (·.1.isSome) = true) (hkw : (backToKw pos (keywordEach kws env)).any (·.1.isNone) = false) :
    wpAny M A (callWith pos (.type T) [] (backTo pos (starEach (e :: rest) env)) (backToKw pos (keywordEach kws env))) Q E s := by
  have g := PyProof.Rows.evalArgs_kw2 (f := .type T) (Q := fun a s1 => wpAny M A (call (.type T) a.pos a.kw) Q E s1) hall h he
  unfold callWith
  refine wpAny_bind (wpAny_holding (wpAny_mono g (fun a s1 h1 => wpAny_bind (wpAny_standAt ?_)) fun _ _ x => x))
  simp only [hpl, hkw, Bool.or_false]
  refine wpAny_bind (wpAny_pure (wpAny_bind (wpAny_mono h1 (fun r s2 hr => ?_) fun _ _ x => x)))
  exact wpAny_bind (wpAny_holding (wpAny_point (wpAny_pure hr)))
end
/-! ### enumerate(v), enumerate(v, start=k): v a list or a tuple -/
/-- a sequence, and its iterator at it -/
structure SqK (K : PySem.W.Frag) (Sq : Hp → List V → Prop) (it : Addr) (IT : Nat → Heap → Prop) : Prop where
  keep : ∀ (i : Nat) (h h' : Heap), IT i h → (∀ o, h.get? it = some o → h'.get? it = some o) → IT i h'
  obj : ∀ (i : Nat) (h : Heap), IT i h → ∃ o, h.get? it = some o ∧ ∀ v, o.data ≠ .cell v
  inj : ∀ (X : Cx) (pins : List (Addr × Obj)) (σ : L2.St) (H : Hp) (s : Shared) (xs ys : List V), X.K = K → Inv X pins σ H s → Sq H xs → Sq H ys → xs = ys
  draw : ∀ (X : Cx) (pins : List (Addr × Obj)) (σ : L2.St) (H : Hp) (s : Shared) (xs : List V) (i : Nat), X.K = K → Inv X pins σ H s → Sq H xs → IT i s.heap → ∃ its : List Value, Vals xs its ∧
    ∃ (fp : List Addr) (Stt : Nat → Heap → Prop), (∀ A : Around, A.handled = none → Draws X.prog X.w A it fp its.length (fun i x => its[i]? = some x) Stt) ∧
      Stt i s.heap ∧ (∀ i h', Stt i h' → IT i h') ∧ (∀ e o, s.heap.get? e = some o → o.cls = .type "enumerate" → e ∉ fp)
theorem sqk_list {K : PySem.W.Frag} {a it : Addr} : SqK K (fun H xs => SqL K H a xs) it (fun i h => h.IsListIter it a i) where
  keep := fun i h h' st k => st.at fun o e => k o e
  obj := fun i h ⟨o, ho, hc, hd⟩ => ⟨o, ho, fun v q => by rw [hd] at q; cases q⟩
  inj := fun X pins σ H s xs ys hK I h1 h2 => by subst hK; exact I.list_inj h1 h2
  draw := by
    intro X pins σ H s xs i hK I hq hit
    subst hK
    obtain ⟨its, rv, p, hz⟩ := I.list hq
    obtain ⟨o, e1, e2, n, e4⟩ := id p.isList
    obtain ⟨oi, f1, f2, f3⟩ := id hit
    have hne : a ≠ it := fun z => by
      subst z
      rw [e1] at f1; cases f1
      rw [e2] at f2; exact absurd f2 (by decide)
    refine ⟨its, rv, [it, a], fun i h => h.IsListIter it a i ∧ h.IsList a its.toArray, fun A hh => ?_, ⟨hit, p.isList⟩, fun i h' st => st.1, fun e oe he hc hm => ?_⟩
    · have D := Draws.list (prog := X.prog) (w := X.w) (A := A) hh it a hne its.toArray
      simpa using D
    · rcases List.mem_cons.mp hm with z | z
      · subst z; rw [f1] at he; cases he; rw [f2] at hc; exact absurd hc (by decide)
      · simp only [List.mem_singleton] at z; subst z; rw [e1] at he; cases he; rw [e2] at hc; exact absurd hc (by decide)
theorem sqk_tup {K : PySem.W.Frag} {a it : Addr} : SqK K (fun H xs => SqT K H a xs) it (fun i h => h.IsTupleIter it a i) where
  keep := fun i h h' ⟨o, ho, r⟩ k => ⟨o, k o ho, r⟩
  obj := fun i h ⟨o, ho, hc, hd⟩ => ⟨o, ho, fun v q => by rw [hd] at q; cases q⟩
  inj := fun X pins σ H s xs ys hK I h1 h2 => by subst hK; exact I.tuple_inj h1 h2
  draw := by
    intro X pins σ H s xs i hK I hq hit
    subst hK
    obtain ⟨its, rv, p, hz⟩ := I.tuple hq
    obtain ⟨o, e1, e2, n, e4⟩ := id p
    obtain ⟨oi, f1, f2, f3⟩ := id hit
    have hne : a ≠ it := fun z => by
      subst z
      rw [e1] at f1; cases f1
      rw [e2] at f2; exact absurd f2 (by decide)
    refine ⟨its, rv, [it, a], fun i h => h.IsTupleIter it a i ∧ h.IsTuple a its.toArray, fun A hh => ?_, ⟨hit, show s.heap.IsTuple a its.toArray from p⟩, fun i h' st => st.1, fun e oe he hc hm => ?_⟩
    · have D := Draws.tuple (prog := X.prog) (w := X.w) (A := A) hh it a hne its.toArray
      simpa using D
    · rcases List.mem_cons.mp hm with z | z
      · subst z; rw [f1] at he; cases he; rw [f2] at hc; exact absurd hc (by decide)
      · simp only [List.mem_singleton] at z; subst z; rw [e1] at he; cases he; rw [e2] at hc; exact absurd hc (by decide)
/-- the turns: a new pair each -/
def ItE (k₀ : Int) (Sq : Hp → List V → Prop) : It :=
  ⟨fun i H => ∃ (xs : List V) (x : V), Sq H xs ∧ xs[i]? = some x, fun i H v H' => ∃ T x, v = .ref T ∧ H T = none ∧ H' = upd H T (.tup [.int (k₀ + (i : Nat)), x]) ∧ ∀ xs, Sq H xs → xs[i]? = some x, fun i H => ∃ xs : List V, Sq H xs ∧ xs.length = i⟩
theorem turn_E {P : Program} {w : World} {K : PySem.W.Frag} {elts : List Expr} {kk : Nat} {tpos : Pos} {Sq : Hp → List V → Prop} {IT : Nat → Heap → Prop} (k₀ : Int) (e it : Addr) (SK : SqK K Sq it IT) :
    Turn P w K (.Tuple elts kk tpos) (ItE k₀ Sq) [e, it] e (fun i h => (∃ old, IsEnum h e it (k₀ + (i : Nat)) old) ∧ IT i h ∧ e ≠ it) where
  mem := by simp
  obj := fun i h st b hb => by
    obtain ⟨⟨old, he⟩, hi, _⟩ := st
    have e' : b = e ∨ b = it := by simpa using hb
    rcases e' with z | z
    · rw [z]; exact ⟨_, he, fun v q => nomatch q⟩
    · rw [z]; exact SK.obj i h hi
  keep := fun i h h' ⟨⟨old, he⟩, hi, hne⟩ k => ⟨⟨old, k e (by simp) _ he⟩, SK.keep i h h' hi fun o q => k it (by simp) o q, hne⟩
  item := by
    intro X hP hw hK hc i pins s σ H E I hf st hg
    subst hP hw
    obtain ⟨⟨old, he⟩, hit, hne⟩ := st
    obtain ⟨xs, x, hq, hx⟩ := hg
    obtain ⟨its, rv, fp, Stt, D, d1, d2, d3⟩ := SK.draw X pins σ H s xs i hK I hq hit
    have hlt : i < its.length := by
      rw [← rv.length]; exact (List.getElem?_eq_some_iff.mp hx).1
    have hel : e < s.heap.objs.size := Heap.lt_size he
    have hil : it < s.heap.objs.size := by obtain ⟨o, q, _⟩ := SK.obj i _ hit; exact Heap.lt_size q
    refine wpAny_pyNext_enum_itemC (D X.A.in1 (I.ok.hd hc)) he d1 hlt hne (d3 e _ he rfl) fun u h' tk hu ho hst' hT hsz hk => ?_
    obtain ⟨u', hu', ru⟩ := rv.get hx
    have eu : u' = u := Option.some.inj (hu'.symm.trans hu)
    subst eu
    refine ⟨_, rfl, wpAny_letOwnedTupleGo_enum (s := { s with heap := h', toks := tk + 1 }) ho fun h'' he' sb => ?_⟩
    have hT2 := (sb.2 _ (Nat.ne_of_gt hel)).trans hT
    have new : ObjOk X.prog X.w (upd H s.heap.objs.size (.tup [.int (k₀ + (i : Nat)), x])) h'' s.heap.objs.size (.tup [.int (k₀ + (i : Nat)), x]) :=
      ⟨by show 2 ≤ sizeLine; decide, [.int (k₀ + (i : Nat)) tk, u'], .cons ⟨_, rfl⟩ (.cons ru .nil), ⟨_, hT2, rfl, _, rfl⟩⟩
    have I1 : Inv X pins σ (upd H s.heap.objs.size (.tup [.int (k₀ + (i : Nat)), x])) { s with heap := h'', toks := tk + 1 } :=
      I.turnedNew (ch := [e, it]) (fun b ob hb q => (sb.2 b (fun z => hb (by simp [z]))).trans (hk b ob (fun z => hb (by simp [z])) (fun z => hb (by simp [z])) q)) hf (Nat.le_refl _) new
    refine ⟨.ref s.heap.objs.size, _, I1, rfl, ⟨_, x, rfl, I.hok.fresh (Nat.le_refl _), rfl, fun ys hy => ?_⟩, ⟨⟨u', ?_⟩, SK.keep (i + 1) h' h'' (d2 _ _ hst') fun o q => (sb.2 it (Ne.symm hne)).trans q, hne⟩, fun b hb => ?_⟩
    · rw [SK.inj X pins σ H s ys xs hK I hy hq]; exact hx
    · have e1 : k₀ + ((i + 1 : Nat) : Int) = k₀ + (i : Int) + 1 := by omega
      rw [e1]; exact he'
    · have hb' : b < s.heap.objs.size := by
        have e' : b = e ∨ b = it := by simpa using hb
        rcases e' with z | z
        · rw [z]; exact hel
        · rw [z]; exact hil
      rw [upd_ne (Nat.ne_of_lt hb')]
      exact (hf b hb).1
  done := by
    intro X hP hw hK hc i pins s σ H E I hf st hg
    subst hP hw
    obtain ⟨⟨old, he⟩, hit, hne⟩ := st
    obtain ⟨xs, hq, hx⟩ := hg
    obtain ⟨its, rv, fp, Stt, D, d1, d2, d3⟩ := SK.draw X pins σ H s xs i hK I hq hit
    obtain ⟨f0, f1, f2, f3, f4, f5⟩ := hf it (by simp)
    have hl : its.length = i := by rw [← rv.length]; exact hx
    rw [← hl] at d1
    exact wpAny_pyNext_enum_endD (D X.A.in1 (I.ok.hd hc)) he d1 fun h' eb => ⟨rfl, I.turned (t' := s.toks) (fun b o hb q => eb b o hb q) f0 f1 f3 f4 f5⟩
  self := fun A i s Q E st h => let ⟨⟨_, he⟩, _⟩ := st; wpAny_pyIter_enum he h
section
variable {X : Cx} {W : WX} {e : Expr} {ee : DL.Env → Sto → R F} {pos p tpos : Pos} {elts : List Expr} {kk : Nat}
/-- an iterator over an enumeration has come -/
theorem enum_it {pins : List (Addr × Obj)} {σ : L2.St} {H : Hp} {s : Shared} {RR : It → Hp → Prop} {E : Value → Shared → Prop} {h' : Heap} {k₀ : Int} {Sq : Hp → List V → Prop} {IT : Nat → Heap → Prop} (I : Inv X pins σ H s)
    (SK : SqK X.K Sq s.heap.objs.size IT) (he : IsEnum h' (s.heap.objs.size + 1) s.heap.objs.size k₀ .none) (hit : IT 0 h') (hk : ∀ b o, s.heap.get? b = some o → h'.get? b = some o) (q : RR (ItE k₀ Sq) H) :
    wpAny (model X.prog X.w) X.A (pyIter (.ref (s.heap.objs.size + 1))) (PIE X pins σ (.Tuple elts kk tpos) RR) E { s with heap := h' } := by
  refine wpAny_pyIter_enum (s := { s with heap := h' }) he ?_
  have I2 : Inv X pins σ H { s with heap := h' } := I.kept (t' := s.toks) hk
  refine ⟨s.heap.objs.size + 1, [s.heap.objs.size + 1, s.heap.objs.size], _, _, H, rfl, I2, turn_E k₀ (s.heap.objs.size + 1) s.heap.objs.size SK, ⟨⟨.none, ?_⟩, hit, Nat.succ_ne_self _⟩, fun b hb => ?_, q⟩
  · have e1 : k₀ + ((0 : Nat) : Int) = k₀ := by omega
    rw [e1]; exact he
  · have hle : s.heap.objs.size ≤ b := by
      have e' : b = s.heap.objs.size + 1 ∨ b = s.heap.objs.size := by simpa using hb
      rcases e' with z | z
      · rw [z]; exact Nat.le_succ _
      · rw [z]; exact Nat.le_refl _
    exact I.fpOk hle (I.hok.fresh hle)
def numD : Int → List D → List D
  | _, [] => []
  | k, d :: ds => .tup [.int k, d] :: numD (k + 1) ds
theorem numD_len : ∀ (k : Int) (ds : List D), (numD k ds).length = ds.length
  | _, [] => rfl
  | k, d :: ds => by simp [numD, numD_len (k + 1) ds]
theorem numD_get : ∀ {k : Int} {ds : List D} {i : Nat} {d : D}, (numD k ds)[i]? = some d → ∃ x, ds[i]? = some x ∧ d = .tup [.int (k + (i : Nat)), x]
  | _, [], i, _, h => by simp [numD] at h
  | k, x :: ds, 0, d, h => by
    simp [numD] at h
    exact ⟨x, rfl, by rw [← h]; simp⟩
  | k, x :: ds, i + 1, d, h => by
    have h : (numD (k + 1) ds)[i]? = some d := by simpa [numD] using h
    obtain ⟨y, h1, h2⟩ := numD_get h
    refine ⟨y, by simpa using h1, ?_⟩
    have : k + 1 + (i : Int) = k + ((i + 1 : Nat) : Int) := by omega
    rw [h2, this]
def eEnum (k : Int) (ee : DL.Env → Sto → R F) : DL.Env → Sto → R DIt := fun ρ S => (eSeq ee ρ S).bind fun it S1 => .ok ⟨numD k it.items, it.dep⟩ S1
theorem jok_E {K : PySem.W.Frag} {μ0 : List Addr} {H0 : Hp} {it : DIt} {k₀ : Int} {Sq : Hp → List V → Prop} (h : ∀ μ S H, Kp K μ0 H0 μ H → Rep K μ S H → it.ok S → ∃ vs, Sq H vs ∧ RVs K μ H it.items vs) : JOk K μ0 H0 ⟨numD k₀ it.items, it.dep⟩ (ItE k₀ Sq) := fun i μ S H k r o => by
  obtain ⟨vs, hq, rv⟩ := h μ S H k r o
  refine ⟨fun d hd => ?_, fun hi => ⟨vs, hq, by rw [← rv.length]; rw [← hi]; exact (numD_len _ _).symm⟩⟩
  obtain ⟨x, h1, rfl⟩ := numD_get hd
  obtain ⟨v, h2, h3⟩ := rv.get h1
  refine ⟨⟨vs, v, hq, h2⟩, fun y H' ⟨T, x', e1, e2, e3, e4⟩ => ?_⟩
  subst e1; subst e3
  have := (e4 vs hq).symm.trans h2
  cases this
  have kn : Kp K μ H μ (upd H T (.tup [.int (k₀ + (i : Nat)), v])) := Kp.new e2
  exact ⟨kn, r.new e2, .tup (.inl (.inl upd_same)) (.cons .int (.cons (h3.mono kn) .nil))⟩
def EnQ (K : PySem.W.Frag) (RR : It → Hp → Prop) (k₀ : Int) (a : Addr) (H1 : Hp) : Prop :=
  ((∃ xs, SqL K H1 a xs) ∧ RR (ItE k₀ (fun H xs => SqL K H a xs)) H1) ∨ ((∃ xs, SqT K H1 a xs) ∧ RR (ItE k₀ (fun H xs => SqT K H a xs)) H1)
/-- what seq's reading gives, by cases: a list (and how it stands later), or a tuple -/
theorem seq_of {σ : L2.St} {H : Hp} {RR : It → Hp → Prop} {k₀ : Int} (h : lift X.K X.mg W (fun _ => JOk X.K) (eEnum k₀ ee) σ H RR) :
    lift X.K X.mg W (RF X.K) ee σ H (fun x H1 => ∃ a, x = .ref a ∧ EnQ X.K RR k₀ a H1) := by
  obtain ⟨μ, S, ρ, r, re, p⟩ := h
  refine ⟨μ, S, ρ, r, re, ?_⟩
  unfold eEnum eSeq at p
  cases hr : ee ρ S with
  | bad => rw [hr] at p; exact p
  | err x S1 => rw [hr] at p; exact p
  | ok f S1 =>
    rw [hr] at p
    intro μ1 H1 v k r1 rf
    rw [DL.R.bind_ok] at p
    cases rf with
    | @l a vs ds h1 h2 h3 h4 =>
      exact ⟨a, rfl, .inl ⟨⟨vs, .inl (.inl h1)⟩, p μ1 H1 _ k r1 (jok_E (it := ⟨ds, []⟩) fun μ' S' H' k' r' o => ⟨vs, .inl (.inl (k'.frm _ _ h1 h2)), h4.mono k'⟩)⟩⟩
    | v rv =>
      cases rv with
      | @tup a vs ds h1 h2 => exact ⟨a, rfl, .inr ⟨⟨vs, h1⟩, p μ1 H1 _ k r1 (jok_E (it := ⟨ds, []⟩) fun μ' S' H' k' r' o => ⟨vs, k'.tup _ _ h1, h2.mono k'⟩)⟩⟩
      | @kl a vs ds h1 h2 => exact ⟨a, rfl, .inl ⟨⟨vs, h1.l⟩, p μ1 H1 _ k r1 (jok_E (it := ⟨ds, []⟩) fun μ' S' H' k' r' o => ⟨vs, (k'.kls _ _ h1).l, h2.mono k'⟩)⟩⟩
      | @loc n a hn =>
        dsimp only at p
        cases hs : S1[n]? with
        | none => rw [hs] at p; exact p.elim
        | some ob =>
          rw [hs] at p
          have ro := r1.obj n ob a hs hn
          cases ob with
          | lst ds =>
            cases ro with
            | lst h1 h2 =>
              refine ⟨a, rfl, .inl ⟨⟨_, .inl (.inl h1)⟩, p μ1 H1 _ k r1 (jok_E (it := ⟨ds, [(n, .lst ds)]⟩) fun μ' S' H' k' r' o => ?_)⟩⟩
              cases r'.obj n _ a (o (n, .lst ds) (by simp)) (k'.get hn) with
              | lst h1 h2 => exact ⟨_, .inl (.inl h1), h2⟩
          | dct _ => exact p.elim
          | dtt _ => exact p.elim
          | fzd _ => exact p.elim
          | fzt _ => exact p.elim
      | _ => exact p.elim
theorem pdi_enum (hg : Gl X "enumerate") (hm : X.mg "enumerate" = none) (he : PD X W e ee) (hs : starEach [e] X.env = [(false, eval e X.env)] := by rfl) : PDI X W (.Tuple elts kk tpos) (.Call (.Name "enumerate" p) [e] [] pos) (eEnum 0 ee) := by
  refine ⟨fun pins s σ H RR I h => ?_⟩
  have ha : PA X [e] (tCons (lift X.K X.mg W (RF X.K) ee) tNil) := pa_cons he pa_nil hs
  refine PyProof.Rows.Call_ (ld_blt I hg hm PyProof.Rows.boot_enumerate (PyProof.Rows.callWith_type1 (thn (ha.run pos pins s σ H (fun vs H1 => ∃ a, vs = [V.ref a] ∧ EnQ X.K RR 0 a H1) I (?_)) fun us s1 ⟨vs, H1, I1, r1, a, ev, q⟩ => ?_) hs rfl))
  · obtain ⟨μ, S, ρ, r, re, p⟩ := seq_of (k₀ := 0) h
    exact ⟨μ, S, ρ, r, re, Post.imp p fun b H' ⟨a, e1, q⟩ => ⟨a, by rw [e1], q⟩⟩
  · subst ev
    cases r1 with
    | cons r rr =>
      cases rr
      cases r
      rcases q with ⟨⟨xs, hq⟩, q⟩ | ⟨⟨xs, hq⟩, q⟩
      · obtain ⟨its, rv, pl, hz⟩ := I1.list hq
        exact enum_of (begins_list a its.toArray) pl.isList fun h' he' hit hk => enum_it I1 sqk_list he' ⟨_, hit, rfl, rfl⟩ hk q
      · obtain ⟨its, rv, pl, hz⟩ := I1.tuple hq
        exact enum_of (begins_tuple a its.toArray) (show s1.heap.IsTuple a its.toArray from pl) fun h' he' hit hk => enum_it I1 sqk_tup he' ⟨_, hit, rfl, rfl⟩ hk q
theorem pdi_enumK {k : Int} {j : Nat} {kp cp : Pos} (hk : -(2 ^ 63) ≤ k ∧ k < 2 ^ 63) (hg : Gl X "enumerate") (hm : X.mg "enumerate" = none) (he : PD X W e ee) (hs : starEach [e] X.env = (false, eval e X.env) :: starEach [] X.env := by rfl)
    (hpl : (backTo pos (starEach [e] X.env)).any (·.1) = false := by rfl) (hall : (backToKw pos (keywordEach [⟨some "start", .Constant (.int k) j cp, kp⟩] X.env)).all (·.1.isSome) = true := by rfl)
    (hnone : (backToKw pos (keywordEach [⟨some "start", .Constant (.int k) j cp, kp⟩] X.env)).any (·.1.isNone) = false := by rfl)
    (hks : (backToKw pos (keywordEach [⟨some "start", .Constant (.int k) j cp, kp⟩] X.env)).filterMap (·.1) = [Str.ofString "start"] := by rfl) :
    PDI X W (.Tuple elts kk tpos) (.Call (.Name "enumerate" p) [e] [⟨some "start", .Constant (.int k) j cp, kp⟩] pos) (eEnum k ee) := by
  refine ⟨fun pins s σ H RR I h => ?_⟩
  have ha : PA X [e] (tCons (lift X.K X.mg W (RF X.K) ee) tNil) := pa_cons he pa_nil hs
  have hkw : PK X [⟨some "start", .Constant (.int k) j cp, kp⟩] (tCons (tC (.int k)) tNil) := pk_cons pe_int pk_nil
  refine wpAny_Call_Name_kw (ld_blt I hg hm PyProof.Rows.boot_enumerate (callWith_tyK (thn (ha.run pos pins s σ H (fun vs H1 => ∃ a, vs = [V.ref a] ∧ EnQ X.K RR k a H1) I (?_)) fun us s1 ⟨vs, H1, I1, r1, a, ev, q⟩ => ?_) hs hpl hall hnone))
  · obtain ⟨μ, S, ρ, r, re, p⟩ := seq_of (k₀ := k) h
    exact ⟨μ, S, ρ, r, re, Post.imp p fun b H' ⟨a, e1, q⟩ => ⟨a, by rw [e1], q⟩⟩
  · subst ev
    rw [hks]
    refine thn (hkw.run pos pins s1 σ H1 (fun zs H2 => zs = [V.int k] ∧ H2 = H1) I1 ⟨rfl, rfl⟩) fun ws s2 ⟨zs, H2, I2, r2, e2, e3⟩ => ?_
    subst e2; subst e3
    cases r1 with
    | cons r rr =>
      cases rr
      cases r
      cases r2 with
      | cons rk rr2 =>
        cases rr2
        obtain ⟨t, rfl⟩ := rk
        rcases q with ⟨⟨xs, hq⟩, q⟩ | ⟨⟨xs, hq⟩, q⟩
        · obtain ⟨its, rv, pl, hz⟩ := I2.list hq
          exact enum_begins_start (begins_list a its.toArray) pl.isList hk.1 hk.2 fun h' he' hit _ hkk => enum_it I2 sqk_list he' ⟨_, hit, rfl, rfl⟩ hkk q
        · obtain ⟨its, rv, pl, hz⟩ := I2.tuple hq
          exact enum_begins_start (begins_tuple a its.toArray) (show s2.heap.IsTuple a its.toArray from pl) hk.1 hk.2 fun h' he' hit _ hkk => enum_it I2 sqk_tup he' ⟨_, hit, rfl, rfl⟩ hkk q
end
end DL
/-! ## DMore -/
set_option maxHeartbeats 1000000
namespace DL
open PySem PySem.Spec L2
section
variable {X : Cx} {W : WX} {e a b : Expr} {ee ea eb : DL.Env → Sto → R F} {pos p p2 : Pos} {x : Str}
/-! -i -/
def negF (f : F) (_ : Sto) : Option F := match f with
  | .v (.int i) => some (.v (.int (-i)))
  | _ => none
theorem d_neg : UnR X (unaryOp .USub) (fun x H Q => ∃ μ S a z H0, Rep X.K μ S H ∧ RF X.K H0 μ H a x ∧ negF a S = some z ∧ ∀ H' v, Kp X.K μ H μ H' → Rep X.K μ S H' → RF X.K H μ H' z v → Q v H') :=
  fun pins s σ H x v Q I rx ⟨μ, S, a, z, H0, r, ra, hz, q⟩ => by
    unfold negF at hz
    split at hz
    · cases hz
      exact un_neg pins s σ H x v Q I rx ⟨_, ra.int, q H _ .refl r (.v .int)⟩
    · cases hz
/-! list(range(n)) -/
def eLr1 (ee : DL.Env → Sto → R F) : DL.Env → Sto → R F := fun ρ S => (ee ρ S).bind fun x S1 => match x with
  | .v (.int n) => if 0 ≤ n ∧ n ≤ 1000000 then .ok (.l (rngD 0 n.toNat)) S1 else .bad
  | _ => .bad
theorem rngD_rv {K : PySem.W.Frag} {μ : List Addr} {H : Hp} (a b : Int) : RVs K μ H (rngD a (b - a).toNat) (rgV a b) := by
  unfold rngD rgV
  have go : ∀ (l : List Nat), RVs K μ H (l.map fun (i : Nat) => D.int (a + (i : Int))) (l.map fun i => V.int (a + (i : Nat))) := by
    intro l
    induction l with
    | nil => exact .nil
    | cons i l ih => exact .cons .int ih
  exact go _
theorem pd_lr1 {q : Pos} (hc : X.calm = true) (hg : Gl X "list") (hm : X.mg "list" = none) (hg2 : Gl X "range") (hm2 : X.mg "range" = none) (he : PD X W e ee)
    (n1 : starEach [e] X.env = (false, eval e X.env) :: starEach [] X.env := by rfl) (n2 : starEach [.Call (.Name "range" q) [e] [] p2] X.env = (false, eval (.Call (.Name "range" q) [e] [] p2) X.env) :: starEach [] X.env := by rfl) :
    PD X W (.Call (.Name "list" p) [.Call (.Name "range" q) [e] [] p2] [] pos) (eLr1 ee) :=
  PE.imp (pe_listRg hc hg hm (prg_1 hg2 hm2 he n1) n2) fun σ H Q ⟨μ, S, ρ, r, re, pp⟩ => ⟨μ, S, ρ, r, re, Post.bind bk_f pp fun x S1 μ1 H1 u _ k r1 rx p1 => by
    split at p1
    · rename_i n _
      by_cases hn : 0 ≤ n ∧ n ≤ 1000000
      · rw [if_pos hn] at p1
        refine ⟨n, rx.int, .of_le (by omega) (by omega) (by omega) (by omega), fun np hp => ?_⟩
        have rv := rngD_rv (K := X.K) (μ := μ1) (H := H1) 0 n
        rw [show (n - 0).toNat = n.toNat by omega] at rv
        exact new_l (μ' := μ1) r1 rv hp (p1 μ1)
      · rw [if_neg hn] at p1; exact p1.elim
    · exact p1.elim⟩
/-! x in xs, x in d -/
def flatD : D → Bool
  | .non => true
  | .bl _ => true
  | .int _ => true
  | .str _ => true
  | _ => false
def vOf : D → V
  | .bl b => .bl b
  | .int i => .int i
  | .str x => .str x
  | _ => .non
theorem RV.flat {K : PySem.W.Frag} {μ : List Addr} {H : Hp} {d : D} {v : V} (h : RV K μ H d v) (hf : flatD d = true) : v = vOf d ∧ flatV v = true := by
  cases h <;> first | exact ⟨rfl, rfl⟩ | cases hf
theorem RVs.flat {K : PySem.W.Frag} {μ : List Addr} {H : Hp} : ∀ {ds : List D} {vs : List V}, RVs K μ H ds vs → ds.all flatD = true → vs = ds.map vOf ∧ vs.all flatV = true
  | _, _, .nil, _ => ⟨rfl, rfl⟩
  | _, _, .cons h t, hf => by
    simp only [List.all_cons, Bool.and_eq_true] at hf
    obtain ⟨e1, e2⟩ := h.flat hf.1
    obtain ⟨e3, e4⟩ := RVs.flat t hf.2
    subst e1; subst e3
    exact ⟨rfl, by simp only [List.all_cons, e2, e4, Bool.and_self]⟩
def inB (a b : F) (S : Sto) : Option Bool := match a with
  | .v d => (getTL b S).bind fun ds => if flatD d && ds.all flatD then some (inV (vOf d) (ds.map vOf)) else none
  | _ => none
def inF (neg : Bool) (a b : F) (S : Sto) : Option F := (inB a b S).map fun k => .v (.bl (if neg then !k else k))
theorem d_in0 {neg : Bool} {op : CmpOp} (ho : OpR X (compareOp op) (rIn X.K neg)) : OpR X (compareOp op) (rOp X.K (inF neg)) := opr_of ho fun μ S H a b z x y H0 H0' Q r ra rb hz q => by
  unfold inF at hz
  cases hk : inB a b S with
  | none => rw [hk] at hz; cases hz
  | some kk =>
  rw [hk] at hz
  unfold inB at hk
  split at hk
  rotate_left
  · cases hk
  rename_i d
  cases hl : getTL b S with
  | none => rw [hl] at hk; cases hk
  | some ds =>
    rw [hl] at hk
    have hk : (if (flatD d && ds.all flatD) = true then some (inV (vOf d) (ds.map vOf)) else none) = some kk := hk
    by_cases hf : (flatD d && ds.all flatD) = true
    · rw [if_pos hf] at hk
      cases hk
      cases hz
      rw [Bool.and_eq_true] at hf
      obtain ⟨p, vs, rfl, h1, h2⟩ := getTL_ok r rb hl
      cases ra with
      | v rv =>
        obtain ⟨e1, e2⟩ := rv.flat hf.1
        obtain ⟨e3, e4⟩ := h2.flat hf.2
        subst e1; subst e3
        exact ⟨p, _, rfl, h1, e2, e4, q H _ .refl r (.v (by cases neg <;> exact .bl))⟩
    · rw [if_neg hf] at hk; cases hk
def eIn (neg : Bool) (ea eb : DL.Env → Sto → R F) : DL.Env → Sto → R F := fun ρ S => (ea ρ S).bind fun x S1 => (eb ρ S1).bind fun y S2 => match inF neg x y S2 with
  | some z => .ok z S2
  | none => match x with
    | .v k => (match dGet y k S2 with
      | some o => .ok (.v (.bl (if neg then !o.isSome else o.isSome))) S2
      | none => .bad)
    | _ => .bad
theorem eIn_of {neg : Bool} {σ : L2.St} {H : Hp} {Q : VK} (h : lift X.K X.mg W (RF X.K) (eIn neg ea eb) σ H Q) :
    (tOp (rOp X.K (inF neg)) (lift X.K X.mg W (RF X.K) ea) (lift X.K X.mg W (RF X.K) eb) σ H Q) ∨
    (lift X.K X.mg W (RF X.K) ea σ H fun y H1 => lift X.K X.mg W (RF X.K) eb σ H1 fun x H2 => ∃ a o, x = .ref a ∧ DGet H2 a y o ∧ Q (.bl (if neg then !o.isSome else o.isSome)) H2) := by
  obtain ⟨μ, S, ρ, r, re, p⟩ := h
  by_cases hd : ∃ x y S1 S2 k o, ea ρ S = .ok x S1 ∧ eb ρ S1 = .ok y S2 ∧ inF neg x y S2 = none ∧ x = .v k ∧ dGet y k S2 = some o
  · refine .inr ⟨μ, S, ρ, r, re, Post.bind bk_f p fun x S1 μ1 H1 u ex k r1 rx p1 => ⟨μ1, S1, ρ, r1, re.mono k, Post.bind bk_f p1 fun y S2 μ2 H2 w ey k2 r2 ry p2 => ?_⟩⟩
    obtain ⟨x', y', S1', S2', kk, d, e1, e2, e3, e4, e5⟩ := hd
    rw [ex] at e1; cases e1
    rw [ey] at e2; cases e2
    subst e4
    rw [e3] at p2
    dsimp only at p2
    rw [e5] at p2
    unfold dGet at e5
    split at e5
    rotate_left
    · cases e5
    rename_i n
    split at e5
    rotate_left
    · cases e5
    rename_i o' hS
    cases ry with
    | v rv =>
      cases rv with
      | @loc _ ad hn =>
        cases (rx.mono k2) with
        | v rx2 =>
            obtain ⟨kvs, rr, key, hl, hkey, g1, g2⟩ := oGet_ok (r2.obj n _ ad hS hn) e5
            refine ⟨ad, valV rr key, rfl, .inl ⟨_, key, g1, dKey_v hkey rx2, rfl⟩, ?_⟩
            have e : (valV rr key).isSome = d.isSome := by
              subst hl
              cases q : List.lookup kk kvs with
              | none => rw [(g2.get hkey).2 q]; rfl
              | some dd => obtain ⟨v, h1, _⟩ := (g2.get hkey).1 dd q; rw [h1]; rfl
            rw [e]
            exact p2 μ2 H2 _ .refl r2 (.v .bl)
  · refine .inl (tOp_of (W := W) ⟨μ, S, ρ, r, re, ?_⟩)
    unfold eOp
    unfold eIn at p
    cases e1 : ea ρ S with
    | bad => rw [e1] at p; exact p
    | err x S1 => rw [e1] at p; exact p
    | ok x S1 =>
      rw [e1] at p
      rw [DL.R.bind_ok] at p ⊢
      cases e2 : eb ρ S1 with
      | bad => rw [e2] at p; exact p
      | err x S1 => rw [e2] at p; exact p
      | ok y S2 =>
        rw [e2] at p
        rw [DL.R.bind_ok] at p ⊢
        cases e3 : inF neg x y S2 with
        | some z => rw [e3] at p; exact p
        | none =>
          rw [e3] at p
          dsimp only at p
          split at p
          · rename_i k
            split at p
            · rename_i d e5
              exact absurd ⟨_, y, S1, S2, k, d, e1, e2, e3, rfl, e5⟩ hd
            · exact p
          · exact p
theorem PE.or {t t' : TE} (h : PE X e t) (h' : PE X e t') : PE X e (fun σ H Q => t σ H Q ∨ t' σ H Q) := ⟨fun pins s σ H Q I q => q.elim (h.run pins s σ H Q I) (h'.run pins s σ H Q I)⟩
theorem PT.or {t t' : TT} (h : PT X e t) (h' : PT X e t') : PT X e (fun σ H Q => t σ H Q ∨ t' σ H Q) := ⟨fun pins s σ H Q I q => q.elim (h.run pins s σ H Q I) (h'.run pins s σ H Q I)⟩
theorem pd_in (hu : X.A.units + 64 < cLine) (ha : PD X W a ea) (hb : PD X W b eb) (hm : behindInMarks .In b = false := by rfl) : PD X W (.Compare a [.In] [b] pos) (eIn false ea eb) :=
  PE.imp (PE.or (pe_cmpR (d_in0 op_in_seq) ha hb hm) (pe_cmp (pc_din (show X.A.units + 1 < cLine by omega) ha hb) hm)) fun σ H Q h => eIn_of h
theorem pd_inN (hu : X.A.units + 64 < cLine) (ha : PD X W a ea) (hb : PD X W b eb) (hm : behindInMarks .NotIn b = false := by rfl) : PD X W (.Compare a [.NotIn] [b] pos) (eIn true ea eb) :=
  PE.imp (PE.or (pe_cmpR (d_in0 op_notIn_seq) ha hb hm) (pe_cmp (pc_dnotin (show X.A.units + 1 < cLine by omega) ha hb) hm)) fun σ H Q h => eIn_of h
theorem pdt_in (hu : X.A.units + 64 < cLine) (ha : PD X W a ea) (hb : PD X W b eb) (hm : behindInMarks .In b = false := by rfl) : PDT X W (.Compare a [.In] [b] pos) (tOfB (eIn false ea eb)) :=
  PT.imp (PT.or (pt_cmpR (d_in0 op_in_seq) ha hb hm) (pt_cmp (pc_din (show X.A.units + 1 < cLine by omega) ha hb) hm)) fun σ H Q h => eIn_of (liftB_of h)
theorem pdt_inN (hu : X.A.units + 64 < cLine) (ha : PD X W a ea) (hb : PD X W b eb) (hm : behindInMarks .NotIn b = false := by rfl) : PDT X W (.Compare a [.NotIn] [b] pos) (tOfB (eIn true ea eb)) :=
  PT.imp (PT.or (pt_cmpR (d_in0 op_notIn_seq) ha hb hm) (pt_cmp (pc_dnotin (show X.A.units + 1 < cLine by omega) ha hb) hm)) fun σ H Q h => eIn_of (liftB_of h)
/-! names of the module -/
theorem pd_globI' {i : Int} (hg : Gl X x) (hm : ∃ t, X.mg x = some (.int i t)) (hd : (x == ("__debug__" : Str)) = false := by decide) : PD X W (.Name x pos) (eC (.int i)) := by
  obtain ⟨t, hm⟩ := hm
  exact pd_globI hg hm hd
def KTup (K : PySem.W.Frag) (mg : Str → Option Value) (x : Str) (ds : List D) : Prop := ∃ a vs, mg x = some (.ref a) ∧ (∀ H, SqT K H a vs) ∧ ∀ μ H, RVs K μ H ds vs
theorem pd_globT' {ds : List D} (hg : Gl X x) (hm : KTup X.K X.mg x ds) (hd : (x == ("__debug__" : Str)) = false := by decide) : PD X W (.Name x pos) (eC (.tup ds)) := by
  obtain ⟨a, vs, h1, h2, h3⟩ := hm
  exact pd_globT hg h1 h2 h3 hd
end
end DL
/-! ## DRng -/
set_option maxHeartbeats 1000000
/-! tuple(range(n)), list(range(a, b)), tuple(range(a, b)) -/
namespace DL
open PySem PySem.Spec L2
section
variable {X : Cx} {W : WX} {e e2 : Expr} {ee eb : DL.Env → Sto → R F} {p p2 pos : Pos}
def eTr1 (ee : DL.Env → Sto → R F) : DL.Env → Sto → R F := fun ρ S => (ee ρ S).bind fun x S1 => match x with
  | .v (.int n) => if 0 ≤ n ∧ n ≤ 1000000 then .ok (.v (.tup (rngD 0 n.toNat))) S1 else .bad
  | _ => .bad
theorem pd_tr1 {q : Pos} (hc : X.calm = true) (hg : Gl X "tuple") (hm : X.mg "tuple" = none) (hg2 : Gl X "range") (hm2 : X.mg "range" = none) (he : PD X W e ee)
    (n1 : starEach [e] X.env = (false, eval e X.env) :: starEach [] X.env := by rfl) (n2 : starEach [.Call (.Name "range" q) [e] [] p2] X.env = (false, eval (.Call (.Name "range" q) [e] [] p2) X.env) :: starEach [] X.env := by rfl) :
    PD X W (.Call (.Name "tuple" p) [.Call (.Name "range" q) [e] [] p2] [] pos) (eTr1 ee) :=
  PE.imp (pe_tupRg hc hg hm (prg_1 hg2 hm2 he n1) n2) fun σ H Q ⟨μ, S, ρ, r, re, pp⟩ => ⟨μ, S, ρ, r, re, Post.bind bk_f pp fun x S1 μ1 H1 u _ k r1 rx p1 => by
    split at p1
    · rename_i n _
      by_cases hn : 0 ≤ n ∧ n ≤ 1000000
      · rw [if_pos hn] at p1
        refine ⟨n, rx.int, .of_le (by omega) (by omega) (by omega) (by omega), fun np hp => ?_⟩
        have rv := rngD_rv (K := X.K) (μ := μ1) (H := H1) 0 n
        rw [show (n - 0).toNat = n.toNat by omega] at rv
        exact new_t r1 rv hp (p1 μ1)
      · rw [if_neg hn] at p1; exact p1.elim
    · exact p1.elim⟩
def eLr2 (ee eb : DL.Env → Sto → R F) : DL.Env → Sto → R F := fun ρ S => (ee ρ S).bind fun x S1 => (eb ρ S1).bind fun y S2 => match x, y with
  | .v (.int n), .v (.int m) => if (0 ≤ n ∧ n ≤ 1000000) ∧ 0 ≤ m ∧ m ≤ 1000000 then .ok (.l (rngD n (m - n).toNat)) S2 else .bad
  | _, _ => .bad
def eTr2 (ee eb : DL.Env → Sto → R F) : DL.Env → Sto → R F := fun ρ S => (ee ρ S).bind fun x S1 => (eb ρ S1).bind fun y S2 => match x, y with
  | .v (.int n), .v (.int m) => if (0 ≤ n ∧ n ≤ 1000000) ∧ 0 ≤ m ∧ m ≤ 1000000 then .ok (.v (.tup (rngD n (m - n).toNat))) S2 else .bad
  | _, _ => .bad
theorem pd_lr2 {q : Pos} (hc : X.calm = true) (hg : Gl X "list") (hm : X.mg "list" = none) (hg2 : Gl X "range") (hm2 : X.mg "range" = none) (he : PD X W e ee) (hb : PD X W e2 eb)
    (n1 : starEach [e, e2] X.env = (false, eval e X.env) :: starEach [e2] X.env := by rfl) (n3 : starEach [e2] X.env = (false, eval e2 X.env) :: starEach [] X.env := by rfl) (hpl : (backTo p2 (starEach [e2] X.env)).any (·.1) = false := by rfl)
    (n2 : starEach [.Call (.Name "range" q) [e, e2] [] p2] X.env = (false, eval (.Call (.Name "range" q) [e, e2] [] p2) X.env) :: starEach [] X.env := by rfl) :
    PD X W (.Call (.Name "list" p) [.Call (.Name "range" q) [e, e2] [] p2] [] pos) (eLr2 ee eb) :=
  PE.imp (pe_listRg hc hg hm (prg_2 hg2 hm2 he hb n1 n3 hpl) n2) fun σ H Q ⟨μ, S, ρ, r, re, pp⟩ => ⟨μ, S, ρ, r, re, Post.bind bk_f pp fun x S1 μ1 H1 u _ k r1 rx p1 => ⟨μ1, S1, ρ, r1, re.mono k, Post.bind bk_f p1 fun y S2 μ2 H2 u2 _ k2 r2 ry p3 => by
    split at p3
    · rename_i n m _ _
      by_cases hn : (0 ≤ n ∧ n ≤ 1000000) ∧ 0 ≤ m ∧ m ≤ 1000000
      · rw [if_pos hn] at p3
        exact ⟨n, m, rx.int, ry.int, .of_le (by omega) (by omega) (by omega) (by omega), fun np hp => new_l (μ' := μ2) r2 (rngD_rv n m) hp (p3 μ2)⟩
      · rw [if_neg hn] at p3; exact p3.elim
    · exact p3.elim⟩⟩
theorem pd_tr2 {q : Pos} (hc : X.calm = true) (hg : Gl X "tuple") (hm : X.mg "tuple" = none) (hg2 : Gl X "range") (hm2 : X.mg "range" = none) (he : PD X W e ee) (hb : PD X W e2 eb)
    (n1 : starEach [e, e2] X.env = (false, eval e X.env) :: starEach [e2] X.env := by rfl) (n3 : starEach [e2] X.env = (false, eval e2 X.env) :: starEach [] X.env := by rfl) (hpl : (backTo p2 (starEach [e2] X.env)).any (·.1) = false := by rfl)
    (n2 : starEach [.Call (.Name "range" q) [e, e2] [] p2] X.env = (false, eval (.Call (.Name "range" q) [e, e2] [] p2) X.env) :: starEach [] X.env := by rfl) :
    PD X W (.Call (.Name "tuple" p) [.Call (.Name "range" q) [e, e2] [] p2] [] pos) (eTr2 ee eb) :=
  PE.imp (pe_tupRg hc hg hm (prg_2 hg2 hm2 he hb n1 n3 hpl) n2) fun σ H Q ⟨μ, S, ρ, r, re, pp⟩ => ⟨μ, S, ρ, r, re, Post.bind bk_f pp fun x S1 μ1 H1 u _ k r1 rx p1 => ⟨μ1, S1, ρ, r1, re.mono k, Post.bind bk_f p1 fun y S2 μ2 H2 u2 _ k2 r2 ry p3 => by
    split at p3
    · rename_i n m _ _
      by_cases hn : (0 ≤ n ∧ n ≤ 1000000) ∧ 0 ≤ m ∧ m ≤ 1000000
      · rw [if_pos hn] at p3
        exact ⟨n, m, rx.int, ry.int, .of_le (by omega) (by omega) (by omega) (by omega), fun np hp => new_t r2 (rngD_rv n m) hp (p3 μ2)⟩
      · rw [if_neg hn] at p3; exact p3.elim
    · exact p3.elim⟩⟩
end
end DL
/-! ## DMeth -/
set_option maxHeartbeats 1000000
/-! list.extend, list.pop, {}, dict.get -/
namespace DL
open PySem PySem.Spec L2
def extO (x : F) (ds : List D) (S : Sto) : Option Sto := match x, ds with
  | .v (.loc n), [.loc m] => (match S[n]?, S[m]? with
    | some (.lst xs), some (.lst zs) => if xs.length ≤ 1000000 ∧ zs.length ≤ 1000000 then some (S.set n (.lst (xs ++ zs))) else none
    | _, _ => none)
  | _, _ => none
section
variable {X : Cx} {W : WX} {o e : Expr} {es : List Expr} {pos : Pos} {eo : DL.Env → Sto → R F}
theorem m_ext : ∀ (μ : List Addr) (S S' : Sto) (H H0 : Hp) (x : F) (v : V) (ds : List D) (vs : List V) (Q : VK), Rep X.K μ S H → RF X.K H0 μ H x v → RVs X.K μ H ds vs → extO x ds S = some S' → (∀ H', Kp X.K μ H μ H' → Rep X.K μ S' H' → Q .non H') → rExtend v vs H Q :=
  fun μ S S' H H0 x v ds vs Q r rx rv hz q => by
    unfold extO at hz
    split at hz
    rotate_left
    · cases hz
    rename_i n m
    split at hz
    rotate_left
    · cases hz
    rename_i xs zs hS hM
    simp only [Option.ite_none_right_eq_some, Option.some.injEq] at hz
    obtain ⟨hl, hz⟩ := hz
    subst hz
    obtain ⟨a, rfl, hn⟩ := rx.loc
    obtain ⟨us, hv, ru⟩ := lst_at r hS hn
    cases rv with
    | cons r1 rn =>
      cases rn
      cases r1 with
      | @loc _ b hm =>
        obtain ⟨ws, hw, rw'⟩ := lst_at r hM hm
        obtain ⟨k4, r4⟩ := put_l r hS hn hv (ru.append rw')
        refine ⟨a, b, us, ws, rfl, rfl, hv, hw, ?_, q _ k4 r4⟩
        rw [← ru.length, ← rw'.length]
        exact sz16 (by omega)
theorem pds_ext {apos cpos : Pos} {ea : DL.Env → Sto → R (List D)} (ho : PD X W o eo) (ha : PDA X W (e :: es) ea)
    (hbase : attributeBase o "extend" X.env (eval o X.env) = eval o X.env := by rfl)
    (hfew : ((backTo cpos (starEach (e :: es) X.env)).all (fun x => !x.1) && (backToKw cpos (keywordEach [] X.env)).all (fun x => x.1.isSome)
      && decide ((e :: es).length + ([] : List Keyword).length + (if ([] : List Keyword).isEmpty then 0 else 1) < 30)) = true := by rfl)
    (hline : (apos.endLine == cpos.line) = true := by rfl) (hs : starEach (e :: es) X.env = (false, eval e X.env) :: starEach es X.env := by rfl) (hplain : (backTo cpos (starEach es X.env)).any (·.1) = false := by rfl)
    (hsw : swapsWith (.Call (.Attribute o "extend" apos) (e :: es) [] cpos) none pos.line X.env = pure false := by rfl) :
    PDS X W (.Expr (.Call (.Attribute o "extend" apos) (e :: es) [] cpos) pos) (sMtL extO eo ea) := pds_mt mt_extend m_ext PySem.F.slot_list_extend PySem.F.type_list_extend ho ha hbase hfew hline hs hplain hsw
/-! pop -/
def ePop (eo : DL.Env → Sto → R F) : DL.Env → Sto → R F := fun ρ S => (eo ρ S).bind fun x S1 => match x with
  | .v (.loc n) => (match S1[n]? with
    | some (.lst xs) => (match xs[xs.length - 1]? with
      | some d => .ok (.v d) (S1.set n (.lst xs.dropLast))
      | none => .bad)
    | _ => .bad)
  | _ => .bad
theorem RVs.dropLast {K : PySem.W.Frag} {μ : List Addr} {H : Hp} {ds : List D} {vs : List V} (h : RVs K μ H ds vs) : RVs K μ H ds.dropLast vs.dropLast := by
  rw [List.dropLast_eq_take, List.dropLast_eq_take, ← h.length]
  exact h.take _
theorem pd_pop {apos cpos : Pos} (ho : PD X W o eo) (hbase : attributeBase o "pop" X.env (eval o X.env) = eval o X.env := by rfl) (hline : (apos.endLine == cpos.line) = true := by rfl) :
    PD X W (.Call (.Attribute o "pop" apos) [] [] cpos) (ePop eo) :=
  PE.imp (pe_bm0 PySem.F.plainAttrs_list PySem.F.slot_list_pop PySem.F.type_list_pop mt_pop ho hbase hline) fun σ H Q ⟨μ, S, ρ, r, re, p⟩ => ⟨μ, S, ρ, r, re, Post.bind bk_f p fun x S1 μ1 H1 v _ k r1 rx p1 => by
    split at p1
    rotate_left
    · exact p1.elim
    rename_i n
    split at p1
    rotate_left
    · exact p1.elim
    rename_i xs hS
    split at p1
    rotate_left
    · exact p1.elim
    rename_i d hd
    obtain ⟨a, rfl, hn⟩ := rx.loc
    obtain ⟨us, hv, ru⟩ := lst_at r1 hS hn
    obtain ⟨y, hy, ry⟩ := ru.get hd
    obtain ⟨k4, r4⟩ := put_l r1 hS hn hv ru.dropLast
    exact ⟨.inl ⟨rfl, us, .inl (.inl hv)⟩, a, us, y, rfl, rfl, hv, by rw [← ru.length]; exact hy, p1 μ1 _ y k4 r4 (.v (ry.mono k4))⟩⟩
/-! {} as a value; d.get(k, x) -/
def eDict0 : DL.Env → Sto → R F := fun _ S => .ok (.v (.loc S.length)) (S ++ [.dct []])
theorem pd_dict0 : PD X W (.Dict [] [] pos) eDict0 := PE.imp (pe_dict0 (W := W)) fun σ H Q ⟨μ, S, ρ, r, re, p⟩ => ⟨μ, S, ρ, r, re, fun μ' H' v k r' rv => p μ' H' v k r' (.v rv)⟩
def isDc (x : F) (S : Sto) : Bool := match x with
  | .v (.loc n) => (match S[n]? with
    | some (.dct _) => true
    | some (.fzd _) => true
    | _ => false)
  | _ => false
theorem isDc_ok {K : PySem.W.Frag} {H0 H : Hp} {μ : List Addr} {S : Sto} {x : F} {v : V} (r : Rep K μ S H) (rx : RF K H0 μ H x v) (h : isDc x S = true) : ∃ n a, x = .v (.loc n) ∧ v = .ref a ∧ μ[n]? = some a ∧ IsD H a := by
  cases rx with
  | l _ _ _ _ => cases h
  | v rv =>
    cases rv with
    | @loc n a hn =>
      refine ⟨n, a, rfl, rfl, hn, ?_⟩
      unfold isDc at h
      dsimp only at h
      split at h
      · rename_i kvs hS
        cases r.obj n _ a hS hn with
        | dK g1 g2 => exact .inl ⟨_, .inl g1⟩
      · rename_i kvs hS
        cases r.obj n _ a hS hn with
        | fK g1 g2 => exact .inl ⟨_, .inr ⟨_, g1⟩⟩
      · cases h
    | _ => cases h
def eGet2 (eo ek ed : DL.Env → Sto → R F) : DL.Env → Sto → R F := fun ρ S => (eo ρ S).bind fun x S1 => if isDc x S1 then (ek ρ S1).bind fun y S2 => (eBox ed ρ S2).bind fun z S3 => match y with
  | .v k => (match dGet x k S3 with
    | some (some d) => .ok (.v d) S3
    | some none => .ok (.v z) S3
    | none => .bad)
  | _ => .bad else .bad
theorem pd_get2 {k d : Expr} {ek ed : DL.Env → Sto → R F} {apos cpos : Pos} (hu : X.A.units + 64 < cLine) (ho : PD X W o eo) (hk : PD X W k ek) (hd : PD X W d ed)
    (base : attributeBase o "get" X.env (eval o X.env) = eval o X.env := by rfl)
    (few : ((backTo cpos (starEach [k, d] X.env)).all (fun x => !x.1) && (backToKw cpos (keywordEach [] X.env)).all (fun x => x.1.isSome) && decide (([k, d] : List Expr).length + ([] : List Keyword).length + (if ([] : List Keyword).isEmpty then 0 else 1) < 30)) = true := by rfl)
    (line : (apos.endLine == cpos.line) = true := by rfl) (trees : backTo cpos (starEach [k, d] X.env) = [(false, eval k X.env), (false, eval d X.env)] := by rfl) :
    PD X W (.Call (.Attribute o "get" apos) [k, d] [] cpos) (eGet2 eo ek ed) :=
  PE.imp (pe_dget2 (by omega) ho hk (pd_box hd) ⟨base, few, line, trees⟩) fun σ H Q ⟨μ, S, ρ, r, re, p⟩ => ⟨μ, S, ρ, r, re, Post.bind bk_f p fun x S1 μ1 H1 v _ k1 r1 rx p1 => by
    cases hc : isDc x S1 with
    | false => rw [hc] at p1; exact p1.elim
    | true =>
      rw [hc] at p1
      obtain ⟨n, a, rfl, rfl, hn, isd⟩ := isDc_ok r1 rx hc
      refine ⟨a, rfl, isd, μ1, S1, ρ, r1, re.mono k1, Post.bind bk_f p1 fun y S2 μ2 H2 w _ k2 r2 ry p2 => ⟨μ2, S2, ρ, r2, (re.mono k1).mono k2, Post.bind bk_f p2 fun z S3 μ3 H3 u _ k3 r3 rz p3 => ?_⟩⟩
      split at p3
      rotate_left
      · exact p3.elim
      rename_i kk _
      have hn3 := k3.get (k2.get hn)
      cases hg : dGet (.v (.loc n)) kk S3 with
      | none => rw [hg] at p3; exact p3.elim
      | some oo =>
        rw [hg] at p3
        unfold dGet at hg
        dsimp only at hg
        split at hg
        rotate_left
        · cases hg
        rename_i o3 hS3
        have ry3 := ry.mono k3
        cases ry3 with
        | v ryv =>
            obtain ⟨kvs3, r', key, hl, hkey, g1, g2⟩ := oGet_ok (r3.obj n _ a hS3 hn3) hg
            cases oo with
            | some dd =>
              obtain ⟨vv, g3, g4⟩ := (g2.get hkey).1 dd hl
              exact ⟨some vv, .inl ⟨_, key, g1, dKey_v hkey ryv, g3.symm⟩, p3 μ3 H3 _ .refl r3 (.v g4)⟩
            | none =>
              have g3 := (g2.get hkey).2 hl
              exact ⟨none, .inl ⟨_, key, g1, dKey_v hkey ryv, g3.symm⟩, p3 μ3 H3 _ .refl r3 (.v rz)⟩⟩
end
end DL
/-! ## DDc -/
set_option maxHeartbeats 1000000
/-! {k: v for t in iter if ..}, keys ints and texts -/
namespace DL
open PySem PySem.Spec L2
def dcL (it : DIt) (g : D → DL.Env → Option DL.Env) (et : DL.Env → Sto → R Bool) (ek ev : DL.Env → Sto → R F) (ρ : DL.Env) (n : Nat) : List D → Sto → R Unit
  | [], S => if it.ok S then .ok () S else .bad
  | d :: ds, S => if it.ok S then (match g d ρ with
      | none => .bad
      | some ρ1 => okOr (et ρ1 S) fun b S1 => if b then okOr (ek ρ1 S1) fun y S2 => okOr (eBox ev ρ1 S2) fun z S3 => (match y with
          | .v k => (match putO (.v (.loc n)) k z S3 with
            | some S4 => dcL it g et ek ev ρ n ds S4
            | none => .bad)
          | _ => .bad) else dcL it g et ek ev ρ n ds S1) else .bad
def eDc (ei : DL.Env → Sto → R DIt) (g : D → DL.Env → Option DL.Env) (et : DL.Env → Sto → R Bool) (ek ev : DL.Env → Sto → R F) (vs : List Nat) : DL.Env → Sto → R F := fun ρ S => (ei ρ S).bind fun it S1 =>
  okOr (dcL it g et ek ev (wipeE ρ vs) S1.length it.items (S1 ++ [.dct []])) fun _ S2 => .ok (.v (.loc S1.length)) S2
section
variable {X : Cx} {W : WX} {tg : Expr} {pos : Pos} {ek ev : DL.Env → Sto → R F}
theorem tDc_of {ei : DL.Env → Sto → R DIt} {g : D → DL.Env → Option DL.Env} {et : DL.Env → Sto → R Bool} {is vs : List Nat} {σ : L2.St} {H : Hp} {Q : VK} (hs : is ⊆ vs) (h : lift X.K X.mg W (RF X.K) (eDc ei g et ek ev vs) σ H Q) :
    tDc (lift X.K X.mg W (fun _ => JOk X.K) ei) (liftT X.K g is)
      (lift X.K X.mg W0 (fun _ _ _ a b => a = b) et) (lift X.K X.mg W0 (RF X.K) ek) (lift X.K X.mg W0 (fun _ => RV X.K) (eBox ev)) vs σ H Q := by
  obtain ⟨μ, S, ρ, r, re, p⟩ := h
  refine ⟨μ, S, ρ, r, re, Post.bind bk_f p fun it S1 μ1 H1 J _ k r1 jo p1 => fun Dl hDl => ?_⟩
  have kn : Kp X.K μ1 H1 (μ1 ++ [Dl]) (upd H1 Dl (.dK [])) := by
    have kn : Kp X.K μ1 H1 μ1 (upd H1 Dl (.dK [])) := Kp.new hDl
    refine ⟨⟨[Dl], rfl⟩, kn.tup, kn.kls, kn.frm, fun x hx => ?_, kn.liv, kn.xds, kn.fzs⟩
    rcases List.mem_append.mp hx with z | z
    · exact .inl z
    · simp only [List.mem_singleton] at z; subst z; exact .inr hDl
  have rn : Rep X.K μ1 S1 (upd H1 Dl (.dK [])) := r1.new hDl
  have rn2 := rn.box (r1.notin hDl) (.dK upd_same .nil) fun _ _ _ h => h.more
  have hμ : (μ1 ++ [Dl])[S1.length]? = some Dl := by
    rw [List.getElem?_append_right (by rw [r1.len]; exact Nat.le_refl _), r1.len]; simp
  refine ⟨fun i m H => ∃ μ S ds, Kp X.K μ1 H1 μ H ∧ Rep X.K μ S H ∧ μ[S1.length]? = some Dl ∧ it.items.drop i = ds ∧ i ≤ it.items.length ∧ m = ds.length ∧ Post X.K X.mg W (RF X.K) σ μ1 H1 Q (okOr (dcL it g et ek ev (wipeE ρ vs) S1.length ds S) fun _ S2 => .ok (.v (.loc S1.length)) S2),
    ⟨it.items.length, μ1 ++ [Dl], S1 ++ [.dct []], it.items, kn, rn2, hμ, rfl, Nat.zero_le _, rfl, p1⟩, ?_⟩
  rintro i m H2 ⟨μ2, S2, ds, k2, r2, hn2, hd, hle, rfl, p2⟩
  cases ds with
  | nil =>
    unfold dcL at p2
    by_cases ho : it.ok S2
    · rw [if_pos ho] at p2
      exact .inl ⟨(jo i μ2 S2 H2 k2 r2 ho).2 (Nat.le_antisymm (List.drop_eq_nil_iff.mp hd) hle), p2 μ2 H2 _ k2 r2 (.v (.loc hn2))⟩
    · rw [if_neg ho] at p2; exact p2.elim
  | cons d ds =>
    unfold dcL at p2
    by_cases ho : it.ok S2
    · rw [if_pos ho] at p2
      have hget : it.items[i]? = some d := by
        have := congrArg (·[0]?) hd
        simpa using this
      have hlt : i < it.items.length := (List.getElem?_eq_some_iff.mp hget).1
      have hnext : it.items.drop (i + 1) = ds := by
        rw [← List.drop_drop, hd]; rfl
      obtain ⟨go, yl⟩ := (jo i μ2 S2 H2 k2 r2 ho).1 d hget
      cases hgg : g d (wipeE ρ vs) with
      | none => rw [hgg] at p2; exact p2.elim
      | some ρ3 =>
        rw [hgg] at p2
        dsimp only at p2
        refine .inr ⟨go, fun H' => ∃ μ S, Kp X.K μ1 H1 μ H' ∧ Rep X.K μ S H' ∧ μ[S1.length]? = some Dl ∧ Post X.K X.mg W (RF X.K) σ μ1 H1 Q (okOr (dcL it g et ek ev (wipeE ρ vs) S1.length ds S) fun _ S2 => .ok (.v (.loc S1.length)) S2), ?_, ?_⟩
        · rintro H' ⟨μ', S', k', r', n', p'⟩
          exact ⟨ds.length, by simp, μ', S', ds, k', r', n', hnext, hlt, rfl, p'⟩
        · intro x H' hy
          obtain ⟨k3, r3, rv⟩ := yl x H' hy
          have rew : RE X.K μ2 H' (wipeE ρ vs) (L2.wipe σ vs) := (((re.mono k).mono k2).mono k3).wipe vs
          refine ⟨μ2, d, _, ρ3, rv, rew, hgg, fun σ4 re4 hσ4 => ?_⟩
          refine ⟨?_, μ2, S2, ρ3, r3, re4, ?_⟩
          · rw [wipe_same hs hσ4.1 hσ4.2, wipe_wipe]
          · cases het : et ρ3 S2 with
            | bad => rw [het] at p2; exact p2.elim
            | err x S' => rw [het] at p2; exact p2.elim
            | ok b S5 =>
              rw [het] at p2
              intro μ5 H5 b' k5 r5 eb
              subst eb
              have k25 := (k2.trans k3).trans k5
              have hn5 := k5.get (k3.get hn2)
              cases b with
              | false =>
                rw [if_neg (by decide)]
                exact ⟨μ5, S5, k25, r5, hn5, p2⟩
              | true =>
                rw [if_pos rfl]
                refine ⟨μ5, S5, ρ3, r5, re4.mono k5, ?_⟩
                have p3 : Post X.K X.mg W (RF X.K) σ μ1 H1 Q (okOr (okOr (ek ρ3 S5) fun y S2 => okOr (eBox ev ρ3 S2) fun z S3 => (match y with
                  | .v k => (match putO (.v (.loc S1.length)) k z S3 with
                    | some S4 => dcL it g et ek ev (wipeE ρ vs) S1.length ds S4
                    | none => .bad)
                  | _ => .bad)) fun _ S2 => .ok (.v (.loc S1.length)) S2) := p2
                cases hek : ek ρ3 S5 with
                | bad => rw [hek] at p3; exact p3.elim
                | err x S' => rw [hek] at p3; exact p3.elim
                | ok y S6 =>
                  rw [hek] at p3
                  intro μ6 H6 yv k6 r6 ry
                  refine ⟨μ6, S6, ρ3, r6, (re4.mono k5).mono k6, ?_⟩
                  have p4 : Post X.K X.mg W (RF X.K) σ μ1 H1 Q (okOr (okOr (eBox ev ρ3 S6) fun z S3 => (match y with
                    | .v k => (match putO (.v (.loc S1.length)) k z S3 with
                      | some S4 => dcL it g et ek ev (wipeE ρ vs) S1.length ds S4
                      | none => .bad)
                    | _ => .bad)) fun _ S2 => .ok (.v (.loc S1.length)) S2) := p3
                  cases hev : eBox ev ρ3 S6 with
                  | bad => rw [hev] at p4; exact p4.elim
                  | err x S' => rw [hev] at p4; exact p4.elim
                  | ok z S7 =>
                    rw [hev] at p4
                    intro μ7 H7 zv k7 r7 rz
                    have hn7 := k7.get (k6.get hn5)
                    have p5 : Post X.K X.mg W (RF X.K) σ μ1 H1 Q (okOr (match y with
                      | .v k => (match putO (.v (.loc S1.length)) k z S7 with
                        | some S4 => dcL it g et ek ev (wipeE ρ vs) S1.length ds S4
                        | none => .bad)
                      | _ => .bad) fun _ S2 => .ok (.v (.loc S1.length)) S2) := p4
                    cases ry with
                    | l _ _ _ _ => exact p5.elim
                    | @v dd _ ryv =>
                      dsimp only at p5
                      cases hz : putO (.v (.loc S1.length)) dd z S7 with
                      | none => rw [hz] at p5; exact p5.elim
                      | some S8 =>
                        rw [hz] at p5
                        unfold putO at hz
                        dsimp only at hz
                        split at hz
                        rotate_left
                        · cases hz
                        rename_i kvs hS
                        simp only [Option.ite_none_right_eq_some, Option.some.injEq] at hz
                        obtain ⟨⟨hk, hl⟩, hz⟩ := hz
                        subst hz
                        obtain ⟨key, hkey⟩ := Option.isSome_iff_exists.mp hk
                        cases r7.obj _ _ Dl hS hn7 with
                        | @dK _ _ rr g1 g2 =>
                          have fr : Free H7 Dl := .inr (.inr (.inl ⟨_, g1⟩))
                          have k8 : Kp X.K μ7 H7 μ7 (upd H7 Dl (.dK (putK rr key zv))) := Kp.put fr (List.mem_of_getElem? hn7)
                          refine ⟨rr, key, dKey_v hkey (ryv.mono k7), g1, by rw [← g2.length]; exact Nat.lt_of_le_of_lt hl (by decide), μ7, _, (((k25.trans k6).trans k7).trans k8), r7.put hn7 fr (.dK upd_same ((g2.put hkey rz).mono k8)), hn7, p5⟩
    · rw [if_neg ho] at p2; exact p2.elim
theorem pd_dc {kx vx iter : Expr} {ifs : List Expr} {scope : Scope} {own : List (Str × Nat)} {ei : DL.Env → Sto → R DIt} {g : D → DL.Env → Option DL.Env} {is : List Nat} {et : DL.Env → Sto → R Bool} (hc : X.calm = true) (hN : X.N.Nodup) (hi : PDI X W tg iter ei) (ok : blkC X.N X.env.scope scope own = true)
    (hg : ∀ (s : Shared) (H : Hp) (C : Addr) (cl : List (Str × Addr)) (fp : List Addr), PDG (X.blk s H scope (compEnvC scope cl C X.env) fp) tg g is)
    (ht : ∀ (s : Shared) (H : Hp) (C : Addr) (cl : List (Str × Addr)) (fp : List Addr), PTs (X.blk s H scope (compEnvC scope cl C X.env) fp) ifs (lift X.K X.mg W0 (fun _ _ _ a b => a = b) et))
    (hk : ∀ (s : Shared) (H : Hp) (C : Addr) (cl : List (Str × Addr)) (fp : List Addr), PD (X.blk s H scope (compEnvC scope cl C X.env) fp) W0 kx ek)
    (he : ∀ (s : Shared) (H : Hp) (C : Addr) (cl : List (Str × Addr)) (fp : List Addr), PD (X.blk s H scope (compEnvC scope cl C X.env) fp) W0 vx ev) (hsub : is ⊆ own.map (·.2)) (hs : ∀ x, foldedSetIterable iter X.env x = pure x := by intro _; rfl) :
    PD X W (.DictComp kx vx [⟨tg, iter, ifs, 0⟩] scope pos) (eDc ei g et ek ev (own.map (·.2))) :=
  PE.imp (pe_dc (g := liftT X.K g is) (tk := lift X.K X.mg W0 (RF X.K) ek) hc hN hi (blkOk_by ok) hg ht (fun s H C cl fp => hk s H C cl fp) (fun s H C cl fp => pd_box (he s H C cl fp)) hs) fun σ H Q h => tDc_of hsub h
end
end DL
/-! ## DStar -/
set_option maxHeartbeats 1000000
/-! [*a, b], (*a, b); dict.setdefault -/
namespace DL
open PySem PySem.Spec L2 StX
def getS (f : F) (S : Sto) : Option (List D) := match f with
  | .v (.tup ds) => some ds
  | x => getM x S
def eStar (ee : DL.Env → Sto → R F) (ea : DL.Env → Sto → R (List D)) : DL.Env → Sto → R (List D) := fun ρ S => (ee ρ S).bind fun f S1 => match getS f S1 with
  | some xs => (ea ρ S1).bind fun ds S2 => .ok (xs ++ ds) S2
  | none => .bad
section
variable {X : Cx} {W : WX} {e : Expr} {es : List Expr} {pos : Pos} {ee : DL.Env → Sto → R F}
theorem getS_ok {K : PySem.W.Frag} {H0 H : Hp} {μ : List Addr} {S : Sto} {x : V} {f : F} {ds : List D} (r : Rep K μ S H) (rf : RF K H0 μ H f x) (h : getS f S = some ds) : ∃ a vs, x = .ref a ∧ (SqT K H a vs ∨ SqL K H a vs) ∧ RVs K μ H ds vs := by
  unfold getS at h
  split at h
  · cases h
    obtain ⟨a, vs, e, s, rv⟩ := rf.tup
    exact ⟨a, vs, e, .inl s, rv⟩
  · obtain ⟨a, vs, e, s, rv⟩ := getM_ok r rf h
    exact ⟨a, vs, e, .inr (SqL.of s), rv⟩
theorem pda_star {ea : DL.Env → Sto → R (List D)} {p : Pos} (h : PD X W e ee) (h2 : PDA X W es ea) (hs : starEach (.Starred e p :: es) X.env = (true, eval e X.env) :: starEach es X.env := by rfl) : PDA X W (.Starred e p :: es) (eStar ee ea) :=
  PA.imp (pa_star h h2 hs) fun σ H Q ⟨μ, S, ρ, r, re, p⟩ => ⟨μ, S, ρ, r, re, Post.bind bk_vs p fun f S1 μ1 H1 v _ k r1 rf p1 => by
    cases hg : getS f S1 with
    | none => rw [hg] at p1; exact p1.elim
    | some xs =>
      rw [hg] at p1
      obtain ⟨a, vs, e, s, rv⟩ := getS_ok r1 rf hg
      exact ⟨a, vs, e, s, μ1, S1, ρ, r1, re.mono k, Post.bind bk_vs p1 fun ds S2 μ2 H2 ws _ k2 r2 rvs p2 => p2 μ2 H2 _ .refl r2 ((rv.mono k2).append rvs)⟩⟩
end
end DL
/-! ## DSetd -/
set_option maxHeartbeats 1000000
/-! dict.setdefault -/
namespace DL
open PySem PySem.Spec L2
def eSetd (eo ek ed : DL.Env → Sto → R F) : DL.Env → Sto → R F := fun ρ S => (eo ρ S).bind fun x S1 => if isDc x S1 then (ek ρ S1).bind fun y S2 => (eBox ed ρ S2).bind fun z S3 => match y with
  | .v k => (match putO x k z S3 with
    | some S4 => (match dGet x k S3 with
      | some (some d) => .ok (.v d) S3
      | some none => .ok (.v z) S4
      | none => .bad)
    | none => .bad)
  | _ => .bad else .bad
section
variable {X : Cx} {W : WX} {o k d : Expr} {eo : DL.Env → Sto → R F}
theorem pd_setd {ek ed : DL.Env → Sto → R F} {apos cpos : Pos} (ho : PD X W o eo) (hk : PD X W k ek) (hd : PD X W d ed)
    (base : attributeBase o "setdefault" X.env (eval o X.env) = eval o X.env := by rfl)
    (few : ((backTo cpos (starEach [k, d] X.env)).all (fun x => !x.1) && (backToKw cpos (keywordEach [] X.env)).all (fun x => x.1.isSome) && decide (([k, d] : List Expr).length + ([] : List Keyword).length + (if ([] : List Keyword).isEmpty then 0 else 1) < 30)) = true := by rfl)
    (line : (apos.endLine == cpos.line) = true := by rfl) (trees : backTo cpos (starEach [k, d] X.env) = [(false, eval k X.env), (false, eval d X.env)] := by rfl) :
    PD X W (.Call (.Attribute o "setdefault" apos) [k, d] [] cpos) (eSetd eo ek ed) :=
  PE.imp (pe_dsetd ho hk (pd_box hd) ⟨base, few, line, trees⟩) fun σ H Q ⟨μ, S, ρ, r, re, p⟩ => ⟨μ, S, ρ, r, re, Post.bind bk_f p fun x S1 μ1 H1 v _ k1 r1 rx p1 => by
    cases hc : isDc x S1 with
    | false => rw [hc] at p1; exact p1.elim
    | true =>
      rw [hc] at p1
      obtain ⟨n, a, rfl, rfl, hn, isd⟩ := isDc_ok r1 rx hc
      refine ⟨a, rfl, isd, μ1, S1, ρ, r1, re.mono k1, Post.bind bk_f p1 fun y S2 μ2 H2 w _ k2 r2 ry p2 => ⟨μ2, S2, ρ, r2, (re.mono k1).mono k2, Post.bind bk_f p2 fun z S3 μ3 H3 u _ k3 r3 rz p3 => ?_⟩⟩
      split at p3
      rotate_left
      · exact p3.elim
      rename_i kk _
      have hn3 := k3.get (k2.get hn)
      cases hz : putO (.v (.loc n)) kk z S3 with
      | none => rw [hz] at p3; exact p3.elim
      | some S4 =>
        rw [hz] at p3
        dsimp only at p3
        cases hg : dGet (.v (.loc n)) kk S3 with
        | none => rw [hg] at p3; exact p3.elim
        | some oo =>
          rw [hg] at p3
          unfold dGet at hg
          unfold putO at hz
          dsimp only at hg hz
          split at hg
          rotate_left
          · cases hg
          rename_i o3 hS3
          rw [hS3] at hz
          split at hz
          rotate_left
          · cases hz
          rename_i kvs3 hS3'
          cases hS3'
          simp only [oGet, Option.ite_none_right_eq_some, Option.some.injEq] at hg hz
          obtain ⟨hkk, hl⟩ := hg
          obtain ⟨⟨_, hle⟩, hz⟩ := hz
          subst hz
          obtain ⟨key, hkey⟩ := Option.isSome_iff_exists.mp hkk
          have ry3 := ry.mono k3
          cases ry3 with
          | v ryv =>
            cases r3.obj n _ a hS3 hn3 with
            | @dK _ _ rr g1 g2 =>
              refine ⟨rr, key, g1, dKey_v hkey ryv, by rw [← g2.length]; exact Nat.lt_of_le_of_lt hle (by decide), ?_, ?_⟩
              · intro v hv
                cases oo with
                | some dd =>
                  obtain ⟨vv, g3, g4⟩ := (g2.get hkey).1 dd hl
                  rw [g3] at hv; cases hv
                  exact p3 μ3 H3 _ .refl r3 (.v g4)
                | none =>
                  rw [(g2.get hkey).2 hl] at hv; cases hv
              · intro hv
                cases oo with
                | some dd =>
                  obtain ⟨vv, g3, g4⟩ := (g2.get hkey).1 dd hl
                  rw [g3] at hv; cases hv
                | none =>
                  have fr : Free H3 a := .inr (.inr (.inl ⟨_, g1⟩))
                  have k4 : Kp X.K μ3 H3 μ3 (upd H3 a (.dK (putK rr key u))) := Kp.put fr (List.mem_of_getElem? hn3)
                  exact p3 μ3 _ _ k4 (r3.put hn3 fr (.dK upd_same ((g2.put hkey rz).mono k4))) (.v (rz.mono k4))⟩
/-! dict([]) -/
theorem pd_dictN {p p2 pos : Pos} (hc : X.calm = true) (hg : Gl X "dict") (hm : X.mg "dict" = none) (n1 : starEach [.List [] p2] X.env = (false, eval (.List [] p2) X.env) :: starEach [] X.env := by rfl) :
    PD X W (.Call (.Name "dict" p) [.List [] p2] [] pos) eDict0 :=
  PE.imp (pe_callTy (call_dictP hc) hg hm (by decide +kernel) (pa_cons (pe_lst pa_nil) pa_nil n1) (by decide) (by decide) n1) fun σ H Q ⟨μ, S, ρ, r, re, pp⟩ =>
    ⟨Nat.zero_le _, fun q hq => ⟨q, [], [], rfl, SqL.of upd_same, .nil, fun a ha => by
      have k1 : Kp X.K μ H μ (upd H q (.lst [])) := Kp.new hq
      have r1 : Rep X.K μ S (upd H q (.lst [])) := r.new hq
      have k : Kp X.K μ (upd H q (.lst [])) (μ ++ [a]) (upd (upd H q (.lst [])) a (.dK [])) := by
        have kn : Kp X.K μ (upd H q (.lst [])) μ (upd (upd H q (.lst [])) a (.dK [])) := Kp.new ha
        refine ⟨⟨[a], rfl⟩, kn.tup, kn.kls, kn.frm, fun x hx => ?_, kn.liv, kn.xds, kn.fzs⟩
        rcases List.mem_append.mp hx with z | z
        · exact .inl z
        · simp only [List.mem_singleton] at z; subst z; exact .inr ha
      have rn : Rep X.K μ S (upd (upd H q (.lst [])) a (.dK [])) := r1.new ha
      refine pp (μ ++ [a]) _ (.ref a) (k1.trans k) (rn.box (r1.notin ha) (.dK upd_same .nil) fun _ _ _ h => h.more) (.v (.loc ?_))
      rw [List.getElem?_append_right (by rw [r.len]; exact Nat.le_refl _), r.len]; simp⟩⟩
end
end DL
/-! ## DLc2 -/
set_option maxHeartbeats 1000000
/-! [e for x in xs if .. for y in ys if ..]: the list is an object of the store from the start -/
namespace DL
open PySem PySem.Spec L2
def addL (n : Nat) (y : D) (S : Sto) : Option Sto := match S[n]? with
  | some (.lst acc) => if acc.length ≤ 1000000 then some (S.set n (.lst (acc ++ [y]))) else none
  | _ => none
def lc2I (n : Nat) (it : DIt) (g : D → DL.Env → Option DL.Env) (et : DL.Env → Sto → R Bool) (ee : DL.Env → Sto → R F) (ρ : DL.Env) : List D → Sto → R Unit
  | [], S => if it.ok S then .ok () S else .bad
  | d :: ds, S => if it.ok S then (match g d ρ with
      | none => .bad
      | some ρ1 => okOr (et ρ1 S) fun b S1 => if b then okOr (eBox ee ρ1 S1) fun y S2 => (match addL n y S2 with
          | some S3 => lc2I n it g et ee ρ ds S3
          | none => .bad) else lc2I n it g et ee ρ ds S1) else .bad
def lc2O (n : Nat) (it : DIt) (g : D → DL.Env → Option DL.Env) (et : DL.Env → Sto → R Bool) (ei1 : DL.Env → Sto → R DIt) (g1 : D → DL.Env → Option DL.Env) (et1 : DL.Env → Sto → R Bool) (ee : DL.Env → Sto → R F) (ρ : DL.Env) (vs1 : List Nat) : List D → Sto → R Unit
  | [], S => if it.ok S then .ok () S else .bad
  | d :: ds, S => if it.ok S then (match g d ρ with
      | none => .bad
      | some ρ1 => okOr (et ρ1 S) fun b S1 => if b then okOr (ei1 ρ1 S1) fun it1 S2 => okOr (lc2I n it1 g1 et1 ee (wipeE ρ1 vs1) it1.items S2) fun _ S3 => lc2O n it g et ei1 g1 et1 ee ρ vs1 ds S3
        else lc2O n it g et ei1 g1 et1 ee ρ vs1 ds S1) else .bad
def eLc2 (ei : DL.Env → Sto → R DIt) (g : D → DL.Env → Option DL.Env) (et : DL.Env → Sto → R Bool) (ei1 : DL.Env → Sto → R DIt) (g1 : D → DL.Env → Option DL.Env) (et1 : DL.Env → Sto → R Bool) (ee : DL.Env → Sto → R F) (vs vs1 : List Nat) : DL.Env → Sto → R F := fun ρ S => (ei ρ S).bind fun it S1 =>
  okOr (lc2O S1.length it g et ei1 g1 et1 ee (wipeE ρ vs) vs1 it.items (S1 ++ [.lst []])) fun _ S2 => .ok (.v (.loc S1.length)) S2
section
variable {X : Cx} {W : WX} {tg tg1 : Expr} {pos : Pos} {ee : DL.Env → Sto → R F}
theorem okOr_assoc {α β γ : Type} {r : R α} {f : α → Sto → R β} {h : β → Sto → R γ} : okOr (okOr r f) h = okOr r fun a S => okOr (f a S) h := by cases r <;> rfl
theorem tLc2_of {ei ei1 : DL.Env → Sto → R DIt} {g g1 : D → DL.Env → Option DL.Env} {et et1 : DL.Env → Sto → R Bool} {is is1 vs vs1 : List Nat} {σ : L2.St} {H : Hp} {Q : VK} (hs : is ⊆ vs) (hs1 : is1 ⊆ vs1) (h : lift X.K X.mg W (RF X.K) (eLc2 ei g et ei1 g1 et1 ee vs vs1) σ H Q) :
    tLc2 (lift X.K X.mg W (fun _ => JOk X.K) ei) (liftT X.K g is) (lift X.K X.mg W0 (fun _ _ _ a b => a = b) et)
      (lift X.K X.mg W0 (fun _ => JOk X.K) ei1) (liftT X.K g1 is1) (lift X.K X.mg W0 (fun _ _ _ a b => a = b) et1)
      (lift X.K X.mg W0 (fun _ => RV X.K) (eBox ee)) vs vs1 σ H Q := by
  obtain ⟨μ, S, ρ, r, re, p⟩ := h
  refine ⟨μ, S, ρ, r, re, Post.bind bk_f p fun it S1 μ1 H1 J _ k r1 jo p1 => fun Dl hDl => ?_⟩
  have kn : Kp X.K μ1 H1 (μ1 ++ [Dl]) (upd H1 Dl (.lst [])) := by
    have kn : Kp X.K μ1 H1 μ1 (upd H1 Dl (.lst [])) := Kp.new hDl
    refine ⟨⟨[Dl], rfl⟩, kn.tup, kn.kls, kn.frm, fun x hx => ?_, kn.liv, kn.xds, kn.fzs⟩
    rcases List.mem_append.mp hx with z | z
    · exact .inl z
    · simp only [List.mem_singleton] at z; subst z; exact .inr hDl
  have rn : Rep X.K (μ1 ++ [Dl]) (S1 ++ [.lst []]) (upd H1 Dl (.lst [])) := (r1.new hDl).box (r1.notin hDl) (.lst upd_same .nil) fun _ _ _ h => h.more
  have hn0 : (μ1 ++ [Dl])[S1.length]? = some Dl := by
    rw [List.getElem?_append_right (by rw [r1.len]; exact Nat.le_refl _), r1.len]; simp
  generalize S1.length = n at p1 hn0
  refine ⟨fun i m H => ∃ μ S ds, Kp X.K (μ1 ++ [Dl]) (upd H1 Dl (.lst [])) μ H ∧ Rep X.K μ S H ∧ it.items.drop i = ds ∧ i ≤ it.items.length ∧ m = ds.length ∧ Post X.K X.mg W (RF X.K) σ μ1 H1 Q (okOr (lc2O n it g et ei1 g1 et1 ee (wipeE ρ vs) vs1 ds S) fun _ S2 => .ok (.v (.loc n)) S2),
    ⟨it.items.length, _, _, it.items, .refl, rn, rfl, Nat.zero_le _, rfl, p1⟩, ?_⟩
  rintro i m H2 ⟨μ2, S2, ds, kb2, r2, hd, hle, rfl, p2⟩
  have k2 := kn.trans kb2
  cases ds with
  | nil =>
    unfold lc2O at p2
    by_cases ho : it.ok S2
    · rw [if_pos ho] at p2
      exact .inl ⟨(jo i μ2 S2 H2 k2 r2 ho).2 (Nat.le_antisymm (List.drop_eq_nil_iff.mp hd) hle), p2 μ2 H2 _ k2 r2 (.v (.loc (kb2.get hn0)))⟩
    · rw [if_neg ho] at p2; exact p2.elim
  | cons d ds =>
    unfold lc2O at p2
    by_cases ho : it.ok S2
    · rw [if_pos ho] at p2
      have hget : it.items[i]? = some d := by
        have := congrArg (·[0]?) hd
        simpa using this
      have hlt : i < it.items.length := (List.getElem?_eq_some_iff.mp hget).1
      have hnext : it.items.drop (i + 1) = ds := by
        rw [← List.drop_drop, hd]; rfl
      obtain ⟨go, yl⟩ := (jo i μ2 S2 H2 k2 r2 ho).1 d hget
      cases hgg : g d (wipeE ρ vs) with
      | none => rw [hgg] at p2; exact p2.elim
      | some ρ3 =>
        rw [hgg] at p2
        dsimp only at p2
        refine .inr ⟨go, fun H' => ∃ μ S, Kp X.K (μ1 ++ [Dl]) (upd H1 Dl (.lst [])) μ H' ∧ Rep X.K μ S H' ∧ Post X.K X.mg W (RF X.K) σ μ1 H1 Q (okOr (lc2O n it g et ei1 g1 et1 ee (wipeE ρ vs) vs1 ds S) fun _ S2 => .ok (.v (.loc n)) S2), ?_, ?_⟩
        · rintro H' ⟨μ', S', k', r', p'⟩
          exact ⟨ds.length, by simp, μ', S', ds, k', r', hnext, hlt, rfl, p'⟩
        · intro x H' hy
          obtain ⟨k3, r3, rv⟩ := yl x H' hy
          have rew : RE X.K μ2 H' (wipeE ρ vs) (L2.wipe σ vs) := (((re.mono k).mono k2).mono k3).wipe vs
          refine ⟨μ2, d, _, ρ3, rv, rew, hgg, fun σ4 re4 hσ4 => ?_⟩
          refine ⟨?_, μ2, S2, ρ3, r3, re4, ?_⟩
          · rw [wipe_same hs hσ4.1 hσ4.2, wipe_wipe]
          · cases het : et ρ3 S2 with
            | bad => rw [het] at p2; exact p2.elim
            | err x S' => rw [het] at p2; exact p2.elim
            | ok b S5 =>
              rw [het] at p2
              intro μ5 H5 b' k5 r5 eb
              subst eb
              have k25 := (kb2.trans k3).trans k5
              cases b with
              | false =>
                rw [if_neg (by decide)]
                exact ⟨μ5, S5, k25, r5, p2⟩
              | true =>
                rw [if_pos rfl]
                refine ⟨μ5, S5, ρ3, r5, re4.mono k5, ?_⟩
                have p3 : Post X.K X.mg W (RF X.K) σ μ1 H1 Q (okOr (okOr (ei1 ρ3 S5) fun it1 S2 => okOr (lc2I n it1 g1 et1 ee (wipeE ρ3 vs1) it1.items S2) fun _ S3 => lc2O n it g et ei1 g1 et1 ee (wipeE ρ vs) vs1 ds S3) fun _ S2 => .ok (.v (.loc n)) S2) := p2
                rw [okOr_assoc] at p3
                cases hei : ei1 ρ3 S5 with
                | bad => rw [hei] at p3; exact p3.elim
                | err x S' => rw [hei] at p3; exact p3.elim
                | ok it1 S6 =>
                  rw [hei] at p3
                  intro μ6 H6 J1 k6 r6 jo1
                  have k26 := k25.trans k6
                  have re6 : RE X.K μ6 H6 (wipeE ρ3 vs1) (L2.wipe σ4 vs1) := ((re4.mono k5).mono k6).wipe vs1
                  refine ⟨fun j m H => ∃ μ S es, Kp X.K μ6 H6 μ H ∧ Rep X.K μ S H ∧ it1.items.drop j = es ∧ j ≤ it1.items.length ∧ m = es.length ∧ Post X.K X.mg W (RF X.K) σ μ1 H1 Q (okOr (okOr (lc2I n it1 g1 et1 ee (wipeE ρ3 vs1) es S) fun _ S3 => lc2O n it g et ei1 g1 et1 ee (wipeE ρ vs) vs1 ds S3) fun _ S2 => .ok (.v (.loc n)) S2),
                    ⟨it1.items.length, μ6, S6, it1.items, .refl, r6, rfl, Nat.zero_le _, rfl, p3⟩, ?_⟩
                  rintro j m H7 ⟨μ7, S7, es, k7, r7, hd7, hle7, rfl, p7⟩
                  cases es with
                  | nil =>
                    unfold lc2I at p7
                    by_cases ho7 : it1.ok S7
                    · rw [if_pos ho7] at p7
                      exact .inl ⟨(jo1 j μ7 S7 H7 k7 r7 ho7).2 (Nat.le_antisymm (List.drop_eq_nil_iff.mp hd7) hle7), μ7, S7, k26.trans k7, r7, p7⟩
                    · rw [if_neg ho7] at p7; exact p7.elim
                  | cons e es =>
                    unfold lc2I at p7
                    by_cases ho7 : it1.ok S7
                    · rw [if_pos ho7] at p7
                      have hget7 : it1.items[j]? = some e := by
                        have := congrArg (·[0]?) hd7
                        simpa using this
                      have hlt7 : j < it1.items.length := (List.getElem?_eq_some_iff.mp hget7).1
                      have hnext7 : it1.items.drop (j + 1) = es := by
                        rw [← List.drop_drop, hd7]; rfl
                      obtain ⟨go7, yl7⟩ := (jo1 j μ7 S7 H7 k7 r7 ho7).1 e hget7
                      cases hgg7 : g1 e (wipeE ρ3 vs1) with
                      | none => rw [hgg7] at p7; exact p7.elim
                      | some ρ8 =>
                        rw [hgg7] at p7
                        dsimp only at p7
                        refine .inr ⟨go7, fun H' => ∃ μ S, Kp X.K μ6 H6 μ H' ∧ Rep X.K μ S H' ∧ Post X.K X.mg W (RF X.K) σ μ1 H1 Q (okOr (okOr (lc2I n it1 g1 et1 ee (wipeE ρ3 vs1) es S) fun _ S3 => lc2O n it g et ei1 g1 et1 ee (wipeE ρ vs) vs1 ds S3) fun _ S2 => .ok (.v (.loc n)) S2), ?_, ?_⟩
                        · rintro H' ⟨μ', S', k', r', p'⟩
                          exact ⟨es.length, by simp, μ', S', es, k', r', hnext7, hlt7, rfl, p'⟩
                        · intro x8 H8 hy8
                          obtain ⟨k8, r8, rv8⟩ := yl7 x8 H8 hy8
                          refine ⟨μ7, e, _, ρ8, rv8, (re6.mono k7).mono k8, hgg7, fun σ9 re9 hσ9 => ?_⟩
                          refine ⟨?_, μ7, S7, ρ8, r8, re9, ?_⟩
                          · rw [wipe_same hs1 hσ9.1 hσ9.2, wipe_wipe]
                          · cases het9 : et1 ρ8 S7 with
                            | bad => rw [het9] at p7; exact p7.elim
                            | err x S' => rw [het9] at p7; exact p7.elim
                            | ok b S9 =>
                              rw [het9] at p7
                              intro μ9 H9 b' k9 r9 eb
                              subst eb
                              have k79 := (k7.trans k8).trans k9
                              cases b with
                              | false =>
                                rw [if_neg (by decide)]
                                exact ⟨μ9, S9, k79, r9, p7⟩
                              | true =>
                                rw [if_pos rfl]
                                refine ⟨μ9, S9, ρ8, r9, re9.mono k9, ?_⟩
                                have p9 : Post X.K X.mg W (RF X.K) σ μ1 H1 Q (okOr (okOr (okOr (eBox ee ρ8 S9) fun y S2 => (match addL n y S2 with
                                    | some S3 => lc2I n it1 g1 et1 ee (wipeE ρ3 vs1) es S3
                                    | none => .bad)) fun _ S3 => lc2O n it g et ei1 g1 et1 ee (wipeE ρ vs) vs1 ds S3) fun _ S2 => .ok (.v (.loc n)) S2) := p7
                                rw [okOr_assoc, okOr_assoc] at p9
                                cases hee : eBox ee ρ8 S9 with
                                | bad => rw [hee] at p9; exact p9.elim
                                | err x S' => rw [hee] at p9; exact p9.elim
                                | ok y SA =>
                                  rw [hee] at p9
                                  intro μA HA yv kA rA ry
                                  have p10 : Post X.K X.mg W (RF X.K) σ μ1 H1 Q (okOr (match addL n y SA with
                                    | some S3 => lc2I n it1 g1 et1 ee (wipeE ρ3 vs1) es S3
                                    | none => .bad) fun a S => okOr (lc2O n it g et ei1 g1 et1 ee (wipeE ρ vs) vs1 ds S) fun _ S2 => .ok (.v (.loc n)) S2) := p9
                                  cases ha : addL n y SA with
                                  | none => rw [ha] at p10; exact p10.elim
                                  | some SB =>
                                    rw [ha] at p10
                                    unfold addL at ha
                                    split at ha
                                    rotate_left
                                    · cases ha
                                    rename_i acc hS
                                    simp only [Option.ite_none_right_eq_some, Option.some.injEq] at ha
                                    obtain ⟨hl, ha⟩ := ha
                                    subst ha
                                    have hnA : μA[n]? = some Dl := kA.get (k79.get (k26.get hn0))
                                    obtain ⟨vacc, hv, ru⟩ := lst_at rA hS hnA
                                    obtain ⟨kB, rB⟩ := put_l rA hS hnA hv (ru.append (.cons ry .nil))
                                    refine ⟨vacc, hv, ?_, μA, _, (k79.trans kA).trans kB, rB, ?_⟩
                                    · rw [← ru.length]; exact Nat.lt_of_le_of_lt hl (by decide)
                                    · rw [okOr_assoc]; exact p10
                    · rw [if_neg ho7] at p7; exact p7.elim
    · rw [if_neg ho] at p2; exact p2.elim
theorem pd_lc2 {elt iter iter1 : Expr} {ifs ifs1 : List Expr} {scope : Scope} {own : List (Str × Nat)} {ei ei1 : DL.Env → Sto → R DIt} {g g1 : D → DL.Env → Option DL.Env} {is is1 vs1 : List Nat} {et et1 : DL.Env → Sto → R Bool} (hc : X.calm = true) (hN : X.N.Nodup) (hi : PDI X W tg iter ei) (ok : blkC X.N X.env.scope scope own = true)
    (hg : ∀ (s : Shared) (H : Hp) (C : Addr) (cl : List (Str × Addr)) (fp : List Addr), PDG (X.blk s H scope (compEnvC scope cl C X.env) fp) tg g is)
    (ht : ∀ (s : Shared) (H : Hp) (C : Addr) (cl : List (Str × Addr)) (fp : List Addr), PTs (X.blk s H scope (compEnvC scope cl C X.env) fp) ifs (lift X.K X.mg W0 (fun _ _ _ a b => a = b) et))
    (hi1 : ∀ (s : Shared) (H : Hp) (C : Addr) (cl : List (Str × Addr)) (fp : List Addr), PDI (X.blk s H scope (compEnvC scope cl C X.env) fp) W0 tg1 iter1 ei1)
    (hg1 : ∀ (s : Shared) (H : Hp) (C : Addr) (cl : List (Str × Addr)) (fp : List Addr), PDG (X.blk s H scope (compEnvC scope cl C X.env) fp) tg1 g1 is1)
    (ht1 : ∀ (s : Shared) (H : Hp) (C : Addr) (cl : List (Str × Addr)) (fp : List Addr), PTs (X.blk s H scope (compEnvC scope cl C X.env) fp) ifs1 (lift X.K X.mg W0 (fun _ _ _ a b => a = b) et1))
    (he : ∀ (s : Shared) (H : Hp) (C : Addr) (cl : List (Str × Addr)) (fp : List Addr), PD (X.blk s H scope (compEnvC scope cl C X.env) fp) W0 elt ee) (hsub : is ⊆ own.map (·.2)) (hsub1 : is1 ⊆ vs1) (hv : ∀ i ∈ vs1, i ∈ own.map (·.2))
    (hs : ∀ x, foldedSetIterable iter X.env x = pure x := by intro _; rfl) (hs1 : ∀ (env : PySem.Env) x, foldedSetIterable iter1 env x = pure x := by intro _ _; rfl) :
    PD X W (.ListComp elt [⟨tg, iter, ifs, 0⟩, ⟨tg1, iter1, ifs1, 0⟩] scope pos) (eLc2 ei g et ei1 g1 et1 ee (own.map (·.2)) vs1) :=
  PE.imp (pe_lc2 (vs1 := vs1) (g := liftT X.K g is) (g1 := liftT X.K g1 is1) (wi1 := lift X.K X.mg W0 (fun _ => JOk X.K) ei1) hc hN hi (blkOk_by ok) hv hg ht (fun s H C cl fp => hi1 s H C cl fp) hg1 ht1 (fun s H C cl fp => pd_box (he s H C cl fp)) hs hs1) fun σ H Q h => tLc2_of hsub hsub1 h
end
end DL
/-! ## DPar3 -/
set_option maxHeartbeats 1000000
/-! a, b, c = x, y, z; abs -/
namespace DL
open PySem PySem.Spec L2
def sPar3 (i j l : Nat) (ea eb ec : DL.Env → Sto → R F) : DL.Env → Sto → RS := fun ρ S => onE (eBox ea ρ S) ρ fun d S1 => onE (eBox eb ρ S1) ρ fun d' S2 => onE (eBox ec ρ S2) ρ fun d2 S3 => .nx (((ρ.set i (some d)).set j (some d')).set l (some d2)) S3
def absF (f : F) (_ : Sto) : Option F := match f with
  | .v (.int i) => some (.v (.int (if i < 0 then -i else i)))
  | _ => none
section
variable {X : Cx} {W : WX} {a b c : Expr} {x : Str} {pos : Pos} {ea eb : DL.Env → Sto → R F}
theorem gpar3 (i j l : Nat) {y z : Str} {px py pz pt : Pos} {kt k2 : Nat} {pt2 : Pos} {ec : DL.Env → Sto → R F} (hc : X.calm = true) (hN : X.N.Nodup) (ha : PD X W a ea) (hb : PD X W b eb) (hd : PD X W c ec) (hi : X.N[i]? = some x := by rfl) (hj : X.N[j]? = some y := by rfl) (hl : X.N[l]? = some z := by rfl)
    (hij : i ≠ j := by decide) (hil : i ≠ l := by decide) (hjl : j ≠ l := by decide)
    (hx : X.env.scope.names.lookup x = some .local := by rfl) (hy : X.env.scope.names.lookup y = some .local := by rfl) (hz : X.env.scope.names.lookup z = some .local := by rfl)
    (hw : swappedStores [.Tuple [.Name x px, .Name y py, .Name z pz] kt pt] (.Tuple [a, b, c] k2 pt2) X.env = pure (some [x, y, z]) := by rfl)
    (s1 : starEach [a, b, c] X.env = (false, eval a X.env) :: starEach [b, c] X.env := by rfl) (s2 : starEach [b, c] X.env = (false, eval b X.env) :: starEach [c] X.env := by rfl) (s3 : starEach [c] X.env = (false, eval c X.env) :: starEach [] X.env := by rfl) :
    PDS X W (.Assign [.Tuple [.Name x px, .Name y py, .Name z pz] kt pt] (.Tuple [a, b, c] k2 pt2) pos) (sPar3 i j l ea eb ec) :=
  PS.imp (ps_par3 hc hN hi hj hl hij hil hjl hx hy hz (pa_cons (pd_box ha) (pa_cons (pd_box hb) (pa_cons (pd_box hd) pa_nil s3) s2) s1) hw) fun E σ H ⟨μ, S, ρ, r, re, p⟩ =>
    ⟨μ, S, ρ, r, re, PostS.onE p re fun d S1 μ1 H1 v _ k r1 rv p1 => ⟨μ1, S1, ρ, r1, re.mono k, PostS.onE p1 (re.mono k) fun d' S2 μ2 H2 w _ k2 r2 rw' p2 =>
      ⟨μ2, S2, ρ, r2, (re.mono k).mono k2, PostS.onE p2 ((re.mono k).mono k2) fun d2 S3 μ3 H3 u _ k3 r3 ru p3 =>
        ⟨v, w, u, rfl, p3 μ3 H3 _ .refl r3 (((((((re.mono k).mono k2).mono k3).set i ((rv.mono k2).mono k3))).set j (rw'.mono k3)).set l ru)⟩⟩⟩⟩
theorem d_abs : CallR X (.builtin "abs") (rCB X.K (f1 absF)) := cb_1 call_abs fun μ S H a z x H0 Q r ra hz q => by
  unfold absF at hz
  split at hz
  · cases hz
    exact ⟨_, by rw [ra.int], q H _ .refl r (.v .int)⟩
  · cases hz
end
end DL
/-! ## DSetDc -/
set_option maxHeartbeats 1000000
/-! x = {k: v for ..}: the store of a displayed dict before the block's names are let go -/
namespace DL
open PySem PySem.Spec L2
section
variable {X : Cx} {W : WX} {tg : Expr} {pos : Pos}
theorem sw_trueD {env : PySem.Env} {kx vx : Expr} {gens : List Comprehension} {scope : Scope} {pos py : Pos} {y : Str} {l : Nat} (h1 : env.scope.kind = .function) (h2 : env.scope.names.lookup y = some .local) (h3 : (py.line == pos.line) = true)
    (h4 : (scope.names.any fun x => match x with | (n, k) => n == y && (k == .local || k == .cell)) = false) : swapsWith (.DictComp kx vx gens scope pos) (some (.Name y py)) l env = pure true :=
  sw_true (elt := kx) (gs := gens) (pos := pos) (l := l) h1 h2 h3 h4
theorem ps_setDc {i : Nat} {y : Str} {py spos : Pos} {kx vx iter : Expr} {ifs : List Expr} {scope : Scope} {own : List (Str × Nat)} {wi : TI} {g : TG} {tt : TT} {tk tv : TE} (hc : X.calm = true) (hN : X.N.Nodup) (hy : X.N[i]? = some y) (hyl : X.env.scope.names.lookup y = some .local)
    (hsw : swapsWith (.DictComp kx vx [⟨tg, iter, ifs, 0⟩] scope pos) (some (.Name y py)) spos.line X.env = pure true) (hi : PI X tg iter wi) (ok : BlkOk X.N X.env.scope scope own)
    (hg : ∀ (s : Shared) (H : Hp) (C : Addr) (cl : List (Str × Addr)) (fp : List Addr), PG (X.blk s H scope (compEnvC scope cl C X.env) fp) tg g)
    (ht : ∀ (s : Shared) (H : Hp) (C : Addr) (cl : List (Str × Addr)) (fp : List Addr), PTs (X.blk s H scope (compEnvC scope cl C X.env) fp) ifs tt)
    (hk : ∀ (s : Shared) (H : Hp) (C : Addr) (cl : List (Str × Addr)) (fp : List Addr), PE (X.blk s H scope (compEnvC scope cl C X.env) fp) kx tk)
    (hv : ∀ (s : Shared) (H : Hp) (C : Addr) (cl : List (Str × Addr)) (fp : List Addr), PE (X.blk s H scope (compEnvC scope cl C X.env) fp) vx tv)
    (hs : ∀ x, foldedSetIterable iter X.env x = pure x) :
    PS X (.Assign [.Name y py] (.DictComp kx vx [⟨tg, iter, ifs, 0⟩] scope pos) spos) (tAsg (tDc wi g tt tk tv (own.map (·.2))) (gName i)) :=
  ⟨fun pins s σ H D I h => by
    rw [exec_Assign_Name_used y py _ spos hsw]
    refine wpAny_bind (wpAny_standAt (wpAny_bind ?_))
    show wpAny _ _ (evalThenUse _ _ _) _ _ _
    unfold evalThenUse
    refine wpAny_bind (thn (dc_core hc hN I hi ok hg ht hk hv hs h fun L C s' m H' I' q hn f => ?_) fun _ _ hq => wpAny_pure (wpAny_pure hq))
    obtain ⟨f0, f1, f2, f3, f4, f5⟩ := f
    refine wpAny_assign_Name (store_ok2 (v := .ref L) I' hN hy (.inl hyl) rfl (fun s2 I2 ⟨a, sb, ha⟩ => ?_) (.inr hyl))
    have haC : C ≠ a := by
      rcases ha with z | z
      · rw [z]; exact f1
      · exact fun e => f4 y a z e.symm
    exact ⟨m, Heap.Ns.sameBut hn sb haC, fun h3 sb3 => ⟨σ.set i (some (.ref L)), H', I2.turned (fun b o hb e => (sb3.2 b hb).trans e) f0 f1 f3 f4 f5, q⟩⟩⟩
theorem pds_setDc {i : Nat} {y : Str} {py spos : Pos} {kx vx iter : Expr} {ifs : List Expr} {scope : Scope} {own : List (Str × Nat)} {ei : DL.Env → Sto → R DIt} {g : D → DL.Env → Option DL.Env} {is : List Nat} {et : DL.Env → Sto → R Bool} {ek ev : DL.Env → Sto → R F} (hc : X.calm = true) (hN : X.N.Nodup) (hy : X.N[i]? = some y) (hyl : X.env.scope.names.lookup y = some .local)
    (hsw : swapsWith (.DictComp kx vx [⟨tg, iter, ifs, 0⟩] scope pos) (some (.Name y py)) spos.line X.env = pure true) (hi : PDI X W tg iter ei) (ok : blkC X.N X.env.scope scope own = true)
    (hg : ∀ (s : Shared) (H : Hp) (C : Addr) (cl : List (Str × Addr)) (fp : List Addr), PDG (X.blk s H scope (compEnvC scope cl C X.env) fp) tg g is)
    (ht : ∀ (s : Shared) (H : Hp) (C : Addr) (cl : List (Str × Addr)) (fp : List Addr), PTs (X.blk s H scope (compEnvC scope cl C X.env) fp) ifs (lift X.K X.mg W0 (fun _ _ _ a b => a = b) et))
    (hk : ∀ (s : Shared) (H : Hp) (C : Addr) (cl : List (Str × Addr)) (fp : List Addr), PD (X.blk s H scope (compEnvC scope cl C X.env) fp) W0 kx ek)
    (he : ∀ (s : Shared) (H : Hp) (C : Addr) (cl : List (Str × Addr)) (fp : List Addr), PD (X.blk s H scope (compEnvC scope cl C X.env) fp) W0 vx ev) (hsub : is ⊆ own.map (·.2)) (hs : ∀ x, foldedSetIterable iter X.env x = pure x := by intro _; rfl) :
    PDS X W (.Assign [.Name y py] (.DictComp kx vx [⟨tg, iter, ifs, 0⟩] scope pos) spos) (sAsg (gNm i) (eDc ei g et ek ev (own.map (·.2)))) :=
  PS.imp (ps_setDc (g := liftT X.K g is) (tk := lift X.K X.mg W0 (RF X.K) ek) (tv := lift X.K X.mg W0 (fun _ => RV X.K) (eBox ev)) hc hN hy hyl hsw hi (blkOk_by ok) hg ht (fun s H C cl fp => hk s H C cl fp) (fun s H C cl fp => pd_box (he s H C cl fp)) hs) fun D σ H h => by
    obtain ⟨μ, S, ρ, r, re, p⟩ := sAsg_of (is := [i]) h
    show tDc _ _ _ _ _ _ σ H (fun x H1 => gName i x σ H1 D.nx)
    refine tDc_of (W := W) hsub ?_
    refine ⟨μ, S, ρ, r, re, ?_⟩
    unfold eBox at p
    cases hr : eDc ei g et ek ev (own.map (·.2)) ρ S with
    | bad => rw [hr] at p; exact p.elim
    | err x S1 => rw [hr] at p; exact p
    | ok f S1 =>
      rw [hr] at p
      intro μ1 H1 v k r1 rf
      obtain ⟨μ2, k2, r2, rv⟩ := box_ok k r1 rf
      obtain ⟨μ', d, ρ1, ρ', rv', re1, hg', q⟩ := p μ2 H1 v k2 r2 rv
      cases hg'
      exact q _ (re1.set i rv') ⟨List.length_set, fun j hj => List.getElem?_set_ne (fun e => hj (by simp [e]))⟩
end
end DL
/-! ## DMin -/
set_option maxHeartbeats 1000000
/-! min(list, default = x) -/
namespace DL
open PySem PySem.Spec L2
theorem min_loopK {prog : Program} {w : World} {A : Around} {R : Result → Shared → Prop} {I : Addr} {fp wr : List Addr} {n : Nat} {P : Nat → Value → Prop} {St : Nat → Heap → Prop} (W : Walks prog w A.in1 I fp wr n P St) (bt : Nat → Nat → Bool) (hcmp : CmpOf prog w A.in1 .Lt P bt) (S : Addr) (hSf : S ∉ fp) (kw : List (Str × Value)) :
    ∀ (k j : Nat) (s : Shared) (vb : Value) (c : Nat), n - (j + 1) = k → j + 1 ≤ n → St (j + 1) s.heap → P (argBest bt j) vb → s.heap.get? S = some { cls := .type "list", data := .seq #[vb, vb] c } →
      (∀ (v : Value) (h' : Heap) (tk : Nat), P (argBest bt (n - 1)) v → (∀ (b : Addr) (o : Obj), b ∉ wr → b ≠ S → s.heap.get? b = some o → h'.get? b = some o) → R (.ok (.ret v)) { heap := h', gens := s.gens, drawn := s.drawn, toks := tk, os := s.os }) →
      codeAny (model prog w) A (.builtin "min.loop" { pos := [.ref I, .none, .ref S], kw := kw }) R s := by
  have hSw : S ∉ wr := fun h => hSf (W.sub S h)
  intro k
  induction k with
  | zero =>
    intro j s vb c hk hj hst hP hS hR
    have hn : n = j + 1 := by omega
    refine codeAny_builtin F.entry_min_loop ?_
    rw [Around.under_plainId F.plain_min_loop]
    refine wpAny_bind (wpAny_seqItems hS rfl ?_)
    refine wpAny_bind (wpAny_tryCatch (W.done s _ _ (hn ▸ hst) fun h' tk hk' => ?_))
    have hS' := hk' S _ hSw hS
    refine wpAny_bind (wpAny_updateSeq hS' rfl ?_ (show (2 : Nat) ≤ sizeLine by decide) (show (0 : Nat) ≤ sizeLine + 1 by decide))
    refine wpAny_bind (wpAny_letGo ?_)
    refine wpAny_pure ?_
    have hP' : P (argBest bt (n - 1)) vb := by rw [hn]; exact hP
    exact hR vb _ tk hP' fun b o hb hbS e => (Heap.get?_update_other h' _ (Ne.symm hbS)).trans (hk' b o hb e)
  | succ k ih =>
    intro j s vb c hk hj hst hP hS hR
    refine codeAny_builtin F.entry_min_loop ?_
    rw [Around.under_plainId F.plain_min_loop]
    refine wpAny_bind (wpAny_seqItems hS rfl ?_)
    refine wpAny_bind (wpAny_tryCatch (W.item (j + 1) s _ _ (by omega) hst fun v h' tk hPv hst' hk' => ?_))
    have hS' := hk' S _ hSw hS
    refine wpAny_bind (wpAny_pure ?_)
    refine wpAny_bind (wpAny_tryCatch (wpAny_holding (wpAny_bind (hcmp (j + 1) (argBest bt j) v vb _ _ _ hPv hP ?_))))
    refine wpAny_bind (wpAny_holding (wpAny_truthy_bool ?_))
    refine wpAny_bind (wpAny_letGo (wpAny_pure ?_))
    have hname : toString "min" ++ toString ".loop" = "min.loop" := by decide
    have hbest : argBest bt (j + 1) = if bt (j + 1) (argBest bt j) = true then j + 1 else argBest bt j := rfl
    cases hb : bt (j + 1) (argBest bt j) with
    | true =>
      rw [if_pos rfl]
      rw [hb, if_pos rfl] at hbest
      refine wpAny_bind (wpAny_updateSeq hS' rfl ?_ (show (2 : Nat) ≤ sizeLine by decide) (show (2 : Nat) ≤ sizeLine + 1 by decide))
      refine wpAny_bind (wpAny_letGo ?_)
      dsimp only
      rw [hname]
      refine wpAny_pure ⟨plainId_quiet F.plain_min_loop _, ih (j + 1) _ v _ (by omega) (by omega) (W.frame (j + 1 + 1) h' _ hst' fun b hbf o e => ?_) (by rw [hbest]; exact hPv) (Heap.get?_update_self _ hS' rfl) fun v' h'' tk'' hP' hk'' => ?_⟩
      · exact (Heap.get?_update_other h' _ fun h => hSf (by rw [h]; exact hbf)).trans e
      · exact hR v' h'' tk'' hP' fun b o hbw hbS e => hk'' b o hbw hbS ((Heap.get?_update_other h' _ (Ne.symm hbS)).trans (hk' b o hbw e))
    | false =>
      rw [if_neg (by decide)]
      rw [hb, if_neg (by decide)] at hbest
      refine wpAny_bind (wpAny_letGo ?_)
      dsimp only
      rw [hname]
      refine wpAny_pure ⟨plainId_quiet F.plain_min_loop _, ih (j + 1) _ vb _ (by omega) (by omega) hst' (by rw [hbest]; exact hP) hS' fun v' h'' tk'' hP' hk'' => ?_⟩
      exact hR v' h'' tk'' hP' fun b o hbw hbS e => hk'' b o hbw hbS (hk' b o hbw e)
/-- the loop from the start: the least, or the default where there is nothing -/
theorem min_firstK {prog : Program} {w : World} {A : Around} {R : Result → Shared → Prop} {I : Addr} {fp wr : List Addr} {n : Nat} {P : Nat → Value → Prop} {St : Nat → Heap → Prop} (W : Walks prog w A.in1 I fp wr n P St) (bt : Nat → Nat → Bool) (hcmp : CmpOf prog w A.in1 .Lt P bt) (S : Addr) (hSf : S ∉ fp) {x : Str} {d : Value} {s : Shared} {c : Nat}
    (hst : St 0 s.heap) (hS : s.heap.get? S = some { cls := .type "list", data := .seq #[] c })
    (hR : ∀ (v : Value) (h' : Heap) (tk : Nat), (n = 0 → v = d) → (n ≠ 0 → P (argBest bt (n - 1)) v) → (∀ (b : Addr) (o : Obj), b ∉ wr → b ≠ S → s.heap.get? b = some o → h'.get? b = some o) → R (.ok (.ret v)) { heap := h', gens := s.gens, drawn := s.drawn, toks := tk, os := s.os }) :
    codeAny (model prog w) A (.builtin "min.loop" { pos := [.ref I, .none, .ref S], kw := [(x, d)] }) R s := by
  have hSw : S ∉ wr := fun h => hSf (W.sub S h)
  refine codeAny_builtin F.entry_min_loop ?_
  rw [Around.under_plainId F.plain_min_loop]
  refine wpAny_bind (wpAny_seqItems hS rfl ?_)
  by_cases hn : n = 0
  · refine wpAny_bind (wpAny_tryCatch (W.done s _ _ (hn ▸ hst) fun h' tk hk' => ?_))
    refine wpAny_bind (wpAny_rule ?_)
    refine wpAny_pure (hR d h' tk (fun _ => rfl) (fun h => absurd hn h) fun b o hb hbS e => hk' b o hb e)
  · refine wpAny_bind (wpAny_tryCatch (W.item 0 s _ _ (by omega) hst fun v h' tk hPv hst' hk' => ?_))
    have hS' := hk' S _ hSw hS
    have hname : toString "min" ++ toString ".loop" = "min.loop" := by decide
    refine wpAny_bind (wpAny_pure ?_)
    refine wpAny_bind (wpAny_updateSeq hS' rfl ?_ (show (0 : Nat) ≤ sizeLine by decide) (show (2 : Nat) ≤ sizeLine + 1 by decide))
    dsimp only
    rw [hname]
    refine wpAny_pure ⟨plainId_quiet F.plain_min_loop _, min_loopK W bt hcmp S hSf _ (n - (0 + 1)) 0 _ v _ rfl (by omega) (W.frame (0 + 1) h' _ hst' fun b hbf o e => ?_) hPv (Heap.get?_update_self _ hS' rfl) fun v' h'' tk'' hP' hk'' => ?_⟩
    · exact (Heap.get?_update_other h' _ fun h => hSf (by rw [h]; exact hbf)).trans e
    · exact hR v' h'' tk'' (fun h => absurd h hn) (fun _ => hP') fun b o hbw hbS e => hk'' b o hbw hbS ((Heap.get?_update_other h' _ (Ne.symm hbS)).trans (hk' b o hbw e))
theorem args_minD (a d : Value) : argsOk "min" { pos := [a], kw := [("default", d)] } := by
  first
  | rfl
  | with_unfolding_all rfl
  | decide +kernel
theorem bind_minD (d : Value) : Builtin.Builtins.bindParams "min" ["key", "default"] 0 { kw := [("default", d)] } = pure [none, some d] := by
  first
  | rfl
  | with_unfolding_all rfl
theorem call_minD {prog : Program} {w : World} {A : Around} {E : Value → Shared → Prop} {s : Shared} {x d : Value} {Q : Value → Shared → Prop} 
   (h : wpAny (model prog w) A.in1 (pyIter x) (fun it s₂ => ∃ I fp wr n P St bt, it = .ref I ∧ Walks prog w A.in1 I fp wr n P St ∧ St 0 s₂.heap ∧ (∀ (b : Addr), b ∈ fp → b < s₂.heap.objs.size) ∧ CmpOf prog w A.in1 .Lt P bt ∧
      ∀ (v : Value) (h' : Heap) (tk : Nat), (n = 0 → v = d) → (n ≠ 0 → P (argBest bt (n - 1)) v) → (∀ (b : Addr) (o : Obj), b ∉ wr → s₂.heap.get? b = some o → h'.get? b = some o) → Q v { heap := h', gens := s₂.gens, drawn := s₂.drawn, toks := tk, os := s₂.os }) E s) 
   : wpAny (model prog w) A (call (Value.builtin "min") [x] [("default", d)]) Q E s := by
  refine wpAny_call (codeAny_call_builtin F.plain_min F.entry_min ?_)
  have hk := F.kind_min
  have e : checkBuiltinCall "min" { pos := [x], kw := [("default", d)] } = pure () := by
    unfold checkBuiltinCall
    simp only [hk]
    exact args_minD x d
  rw [e]
  refine wpAny_pure ?_
  refine wpAny_bind (wpAny_of_eq (bind_minD d) ?_)
  refine wpAny_bind (wpAny_pure ?_)
  refine wpAny_bind (wpAny_mono h ?_ ?_)
  · rintro it s₂ ⟨I, fp, wr, n, P, St, bt, rfl, W, hst, hfp, hcmp, hq⟩
    refine wpAny_bind (wpAny_newObj_type ?_ (show (0 : Nat) ≤ sizeLine by decide))
    have hname : toString "min" ++ toString ".loop" = "min.loop" := by decide
    dsimp only
    rw [hname]
    have hnf : s₂.heap.objs.size ∉ fp := fun hm => Nat.lt_irrefl _ (hfp _ hm)
    refine wpAny_pure ⟨plainId_quiet F.plain_min_loop _, min_firstK W bt hcmp s₂.heap.objs.size hnf (W.frame 0 s₂.heap _ hst fun b hb o e => ?_) (Heap.get?_push_size _ (by rfl)) fun v h' tk h0 h1 hk' => ?_⟩
    · exact Heap.get?_push_of_some _ e
    · exact hq v h' tk h0 h1 fun b o hbw e => hk' b o hbw (Nat.ne_of_lt (Heap.lt_size e)) (Heap.get?_push_of_some _ e)
  · exact fun e s' he => he

theorem cr_minD {X : Cx} (hc : X.calm = true) : CallRK X (.builtin "min") ["default"] (fun xs zs H Q => ∃ (a : Addr) (ns : List Int) (z : V), xs = [.ref a] ∧ zs = [z] ∧ SqL X.K H a (ns.map V.int) ∧ (ns = [] → Q z H) ∧ ∀ m, m ∈ ns → (∀ y ∈ ns, m ≤ y) → Q (.int m) H) := by
  rintro pins s σ H vs zs us ws Q I r rz ⟨a, ns, z, rfl, rfl, hs, q0, q⟩
  obtain ⟨d, rfl, rd⟩ := vals1 rz
  have e := Vals.ref1 r
  subst e
  obtain ⟨its, rv, hl, _⟩ := Inv.list I hs
  have hi := Vals.ints rv
  have hL := PlainL.isList hl
  obtain ⟨xs, e⟩ := AllInts.items (PyProof.Rows.IntsAre.allInts hi)
  rw [e] at hL
  have hn : ns = xs.toList.map (·.1) := by
    have := PyProof.Rows.IntsAre.numsOf hi
    have e2 : its = (intItems xs).toList := by rw [← e]
    rw [e2, nums_intItems] at this
    exact this.symm
  subst hn
  have hh := I.ok.hd hc
  refine call_minD (iter_intList hL fun s₂ e2 hit hb hne => ?_)
  have hW := Walks.list (prog := X.prog) (w := X.w) (A := X.A.in1) hh s.heap.objs.size a hne (intItems xs)
  refine ⟨s.heap.objs.size, [s.heap.objs.size, a], [s.heap.objs.size], (intItems xs).size, _, _, fun i j => decide (numAt xs i < numAt xs j), rfl, hW, hit, hb, CmpOf.ints_lt (numAt xs) fun i v h => intItems_at h, fun v h' tk h0 h1 hk => ?_⟩
  have hsz : (intItems xs).size = xs.size := by simp [intItems]
  have kp : ∀ (b : Addr) (u : Obj), s.heap.get? b = some u → h'.get? b = some u := fun b u hu => hk b u (by
    simp only [List.mem_singleton]
    exact Nat.ne_of_lt (Heap.lt_size hu)) (by subst e2; exact Heap.get?_push_of_some _ hu)
  have hs2 : ({ heap := h', gens := s₂.gens, drawn := s₂.drawn, toks := tk, os := s₂.os } : Shared) = { heap := h', gens := s.gens, drawn := s.drawn, toks := tk, os := s.os } := by subst e2; rfl
  rw [hs2]
  by_cases hz : xs.size = 0
  · have hx : xs = #[] := Array.eq_empty_of_size_eq_zero hz
    have e3 := h0 (by rw [hsz]; exact hz)
    subst e3
    exact ⟨z, H, Inv.kept I kp, rd, q0 (by rw [hx]; rfl)⟩
  · obtain ⟨t, e3⟩ := intItems_at (h1 (by rw [hsz]; exact hz))
    rw [hsz] at e3
    subst e3
    obtain ⟨b1, b2⟩ := argBest_lt (numAt xs) (xs.size - 1)
    refine ⟨.int _, H, Inv.kept I kp, ⟨t, rfl⟩, q _ ?_ fun y hy => ?_⟩
    · rw [numAt_eq]
      refine getD_mem ?_
      rw [List.length_map, Array.length_toList]
      omega
    · obtain ⟨j, hj, e4⟩ := mem_getD hy
      rw [List.length_map, Array.length_toList] at hj
      rw [← e4, ← numAt_eq xs j]
      exact b2 j (by omega)
end DL
/-! ## DMinD -/
set_option maxHeartbeats 1000000
namespace DL
open PySem PySem.Spec L2
/-! min(xs, default=None), xs a list of ints -/
def minD (ns : List Int) : D := match ns with
  | [] => .non
  | n :: ns => .int (ns.foldl (fun a b => if b < a then b else a) n)
def minF0 (f : F) (S : Sto) : Option F := (getL f S).bind fun ds => (intsOf ds).map fun ns => .v (minD ns)
def eMinN (ee : DL.Env → Sto → R F) : DL.Env → Sto → R F := fun ρ S => (ee ρ S).bind fun f S1 => match minF0 f S1 with
  | some z => .ok z S1
  | none => .bad
theorem min_fold : ∀ (ns : List Int) (n m : Int), m ∈ n :: ns → (∀ y ∈ n :: ns, m ≤ y) → ns.foldl (fun a b => if b < a then b else a) n = m
  | [], n, m, h, _ => by simp at h; exact h.symm
  | x :: ns, n, m, h, hl => by
    simp only [List.foldl_cons]
    refine min_fold ns _ m ?_ ?_
    · have h1 := hl n (by simp)
      have h2 := hl x (by simp)
      simp only [List.mem_cons] at h ⊢
      split <;> rcases h with h | h | h <;> first | exact .inr h | (left; omega)
    · intro y hy
      simp only [List.mem_cons] at hy
      rcases hy with hy | hy
      · rw [hy]; split
        · exact hl x (by simp)
        · exact hl n (by simp)
      · exact hl y (by simp [hy])
section
variable {X : Cx} {W : WX} {e : Expr} {pos : Pos} {ee : DL.Env → Sto → R F}
theorem pd_minN {p p2 kpos : Pos} {j : Nat} (hc : X.calm = true) (hg : Gl X "min") (hm : X.mg "min" = none) (he : PD X W e ee)
    (h1 : starEach [e] X.env = (false, eval e X.env) :: starEach [] X.env := by rfl)
    (h3 : backTo pos (starEach [e] X.env) = (false, eval e X.env) :: backTo pos (starEach [] X.env) := by rfl) (h4 : ((backTo pos (starEach [e] X.env)).any fun x => x.1) = false := by rfl)
    (h5 : ((backToKw pos (keywordEach [⟨some "default", .Constant .none j p2, kpos⟩] X.env)).all fun x => x.1.isSome) = true := by rfl) (h6 : ((backToKw pos (keywordEach [⟨some "default", .Constant .none j p2, kpos⟩] X.env)).any fun x => x.1.isNone) = false := by rfl)
    (h7 : (backToKw pos (keywordEach [⟨some "default", .Constant .none j p2, kpos⟩] X.env)).filterMap (fun x => x.1) = [("default" : Str)] := by rfl) :
    PD X W (.Call (.Name "min" p) [e] [⟨some "default", .Constant .none j p2, kpos⟩] pos) (eMinN ee) :=
  PE.imp (pe_callBK (cr_minD hc) hg hm (by decide +kernel) (pa_cons he pa_nil h1) (pk_cons pe_non pk_nil) (by decide) (by decide) h3 h4 h5 h6 h7) fun σ H Q ⟨μ, S, ρ, r, re, p⟩ => ⟨μ, S, ρ, r, re, Post.bind bk_f p fun f S1 μ1 H1 v _ k r1 rf p1 => by
    cases hz : minF0 f S1 with
    | none => rw [hz] at p1; exact p1.elim
    | some z =>
      rw [hz] at p1
      unfold minF0 at hz
      cases hl : getL f S1 with
      | none => rw [hl] at hz; cases hz
      | some ds =>
        rw [hl] at hz
        cases hi : intsOf ds with
        | none => simp only [Option.bind_some, hi] at hz; cases hz
        | some ns =>
          simp only [Option.bind_some, hi, Option.map_some, Option.some.injEq] at hz
          subst hz
          have e := intsOf_some hi
          subst e
          obtain ⟨a, vs, rfl, g1, g2⟩ := getL_ok r1 rf hl
          refine ⟨a, ns, .non, rfl, rfl, by rw [← g2.ints]; exact g1, fun h => ?_, fun m hm hle => ?_⟩
          · subst h
            exact p1 μ1 H1 _ .refl r1 (.v .non)
          · cases ns with
            | nil => cases hm
            | cons n ns =>
              have := min_fold ns n m hm hle
              have p2 : Post X.K X.mg W (RF X.K) σ μ1 H1 Q (.ok (.v (.int (ns.foldl (fun a b => if b < a then b else a) n))) S1) := p1
              rw [this] at p2
              exact p2 μ1 H1 _ .refl r1 (.v .int)⟩
end
end DL
/-! ## DExc -/
set_option maxHeartbeats 1000000
/-! Own exceptions of one field: raise C(e), try: .. except C as x: .. x.f .. -/
namespace PySem
namespace OwnX
open PySem.W PySem.Calls PyProof.Rows PySem.HandSPX
open Builtin Builtin.ObjectAttr
/-- the text of __init__(self, f): self.f = f -/
def iA (f : Str) (p1 p2 : Pos) : Arguments := { posonlyargs := [], args := [{ arg := "self", annotation := none, pos := p1 }, { arg := f, annotation := none, pos := p2 }], vararg := none, kwonlyargs := [], kw_defaults := [], kwarg := none, defaults := [] }
def iB (f : Str) (q1 q2 q3 q4 : Pos) : List Stmt := [.Assign [.Attribute (.Name "self" q1) f q2] (.Name f q3) q4]
def iS (f : Str) : Scope := { kind := .function, names := [(PySem.Str.ofString "self", .local), (f, .local)], isGenerator := false, isCoroutine := false, more := [] }
/-- a built-in class of exception: its line, and that nothing of it minds a store -/
structure Blt (tl : List Value) (newId : String) : Prop where
  facts : ∃ B initId, ExcBaseFacts B newId initId tl
  pass : ∀ self : Value, refuseLoop self "__setattr__" tl = pure ()
  obj : tl.contains (.type "object") = true
theorem blt_Lookup : Blt [.type "LookupError", .type "Exception", .type "BaseException", .type "object"] "LookupError.__new__" := ⟨⟨_, _, F.excBase_LookupError⟩, fun self => by kernel_rfl, by decide +kernel⟩
theorem blt_Value : Blt [.type "ValueError", .type "Exception", .type "BaseException", .type "object"] "ValueError.__new__" := ⟨⟨_, _, F.excBase_ValueError⟩, fun self => by kernel_rfl, by decide +kernel⟩
theorem blt_Runtime : Blt [.type "RuntimeError", .type "Exception", .type "BaseException", .type "object"] "RuntimeError.__new__" := ⟨⟨_, _, F.excBase_RuntimeError⟩, fun self => by kernel_rfl, by decide +kernel⟩
theorem blt_Overflow : Blt [.type "OverflowError", .type "ArithmeticError", .type "Exception", .type "BaseException", .type "object"] "OverflowError.__new__" := ⟨⟨_, _, F.excBase_OverflowError⟩, fun self => by kernel_rfl, by decide +kernel⟩
/-- __init__'s arguments are bound -/
def Bd (f : Str) : Prop := ∀ (nm qual : Str) (doc pm : Value) (an : Option Addr) (cdv ct : Value) (p1 p2 q1 q2 q3 q4 : Pos) (x v : Value),
  bindArgs (fnOf nm qual (iA f p1 p2) (iB f q1 q2 q3 q4) (iS f) .none .none doc pm an cdv ct) ⟨[x, v], []⟩ = pure [(PySem.Str.ofString "self", x), (f, v)]
example : Bd "name" := by
  intro nm qual doc pm an cdv ct p1 p2 q1 q2 q3 q4 x v
  first | rfl | with_unfolding_all rfl
/-- what the written part says of the class nm, at C, and of its __init__, at fI -/
structure OwnC (K : Frag) (mg : Str → Option Value) (nm f : Str) (C fI : Addr) : Prop where
  gC : mg nm = some (.ref C)
  cls : ∃ tl newId nm q N bs sn sub ab col dd k0 k1 k2 k3 k5, Blt tl newId ∧ K.lookup C = some (excClassObj nm q C N bs tl true sn sub ab col dd k0 k1 k2 k3 k5 newId)
  sa : findIn K (.ref C) "__setattr__" = some (some (.builtin "object.__setattr__"))
  noN : findIn K (.ref C) f = some none
  iC : findIn K (.ref C) "__init__" = some (some (.ref fI))
  tC : typeIn K (.ref fI) = some (.type "function")
  kC : keepIn K (.ref C) = true
  tyC : typeIn K (.ref C) = some (.type "type")
  te : exmOne K (.ref C) (.ref C) = some true
  xf : L2.XfC K C
  bd : Bd f
  ns : (f == ("self" : Str)) = false
  nd : (f == ("__debug__" : Str)) = false
  fn : ∃ (nm qual : Str) (oc : Value) (od : Option Addr) (doc pm : Value) (an : Option Addr) (cdv ct : Value) (osl : Array (Option Value)) (p1 p2 q1 q2 q3 q4 : Pos),
    K.lookup fI = some ⟨oc, od, .func (fnOf nm qual (iA f p1 p2) (iB f q1 q2 q3 q4) (iS f) .none .none doc pm an cdv ct), osl⟩ ∧ codeIn K cdv qual = true
theorem one_size (v : Value) : [v].length ≤ sizeLine := by
  rw [sizeLine_eq]
  exact (by decide : 1 ≤ 16777216)
theorem ldC {M : Model} {s : Shared} {name : Str} {scope : Scope} {L a : Addr} {cd : Value} {m : Str → Option Value} {x : Str} {pos : Pos} {v : Value} {Q : Value → Shared → Prop} {A : Around} {E : Value → Shared → Prop} (hn : s.heap.Ns L m) (hv : m x = some v) (h : Q v s)
    (hk : scope.kind = .function) (hl : (envOfC name scope L a cd).kindOf x = some .local) (hd : (x == ("__debug__" : Str)) = false) :
    wpAny M A (eval (.Name x pos) (envOfC name scope L a cd)) Q E s := wpAny_Name (wpAny_loadName_local hk hl hn hv h) hd
section
variable {prog : Program} {w : World} {A : Around} {E : Value → Shared → Prop} {R : Result → Shared → Prop} {hp : Heap} {g : Array GenState} {d : Drawn} {t : Nat} {os : OsState}
/-- the first store into a fresh exception -/
theorem osa1 {K : W.Frag} {name : Str} {tk : Tok} {v : Value} {x C : Addr} {fv : Array Value} {cd : ClassData} {tl : List Value} {newId : String} (B : Blt tl newId)
    (X : K.In hp) (hx : hp.get? x = some { cls := .ref C, data := .fields fv }) (hcd : W.clsIn K C = some cd) (hm : cd.mro = .ref C :: tl) (hh : cd.hasDict = true) (ha : W.findIn K (.ref C) name = some none)
    (hq : ∀ h' tk' dx, (∀ b o, b ≠ x → hp.get? b = some o → h'.get? b = some o) → hp.objs.size ≤ dx → dx ≠ x → h'.get? x = some { cls := .ref C, dict := some dx, data := .fields fv } →
      h'.Ns1 dx (fun y => if y = name then some v else none) → R (.ok (.ret .none)) ⟨h', g, d, tk', os⟩) :
    codeAny (model prog w) A (.call (.builtin "object.__setattr__") ⟨[.ref x, .str name tk, v], []⟩) R ⟨hp, g, d, t, os⟩ := by
  have I : W.InstAt hp x { cls := .ref C, data := .fields fv } C none := ⟨hx, rfl, rfl, trivial⟩
  have SF := F.store_object
  have ne : cd.mro.isEmpty = false := by rw [hm]; rfl
  have hob : cd.mro.contains (.type "object") = true := by rw [hm, List.contains_cons, B.obj, Bool.or_true]
  have hxs : x ≠ hp.objs.size := Nat.ne_of_lt (Heap.lt_size hx)
  have sub : W.Looks (model prog w) hp (isInstance (.ref x) (.type "object")) true := I.type.andThen (W.looks_mroIn X (by unfold W.mroIn; rw [hcd, Option.bind_some, if_neg (by rw [ne]; decide), hob]))
  refine codeAny_call_builtin SF.slot.plain SF.entry (@W.check_slot (model prog w) _ _ ⟨hp, g, d, t, os⟩ "object.__setattr__" "object" "__setattr__" (.ref x) [.str name tk, v] [] _ SF.kind SF.split sub (SF.args (.ref x) (.str name tk) v) ?_)
  have hmr : W.Looks (model prog w) hp (mroOf (.ref C)) cd.mro := (W.looks_clsIn X hcd).andThen .now
  have L3 : W.Looks (model prog w) hp (storeTaker? none) none := .now
  have hcls : W.Looks (model prog w) hp (classData C) cd := W.looks_clsIn X hcd
  rw [W.osa_eq, refuse_eq]
  refine wpAny_bind (wpAny_bind (I.type.at (wpAny_bind (hmr.at ?_))))
  rw [hm, refuseLoop_ref, B.pass]
  refine wpAny_pure (wpAny_bind (I.type.at (wpAny_bind ((W.looks_findIn X ha).at (wpAny_bind (L3.at ?_))))))
  show wpAny _ _ (storeInOwnDict (.ref x) (.ref C) (.str name tk) name v false) _ _ _
  obtain ⟨nm, bs, mro, ns, qn, hd, sn, sb, ab, col, del⟩ := cd
  dsimp only at hh
  subst hh
  unfold storeInOwnDict ownDictForStores
  repeat (first | with_reducible refine store_in_new ?_ ?_ | with_reducible refine wpAny_loadPart_at hx ?_ | with_reducible refine hcls.at ?_ | wp_step)
  · exact ⟨_, #[], _, (Heap.get?_update_ne _ _ _ _ hxs.symm).trans (Heap.get?_push_at rfl rfl), rfl, fun e he => absurd he (by simp), fun _ => rfl⟩
  · intro h' tk' hn' hs
    have hx₁ : (hp.push { cls := .type "dict", data := .dict #[] }).get? x = some { cls := .ref C, data := .fields fv } := Heap.get?_push_of_some _ hx
    refine hq h' tk' hp.objs.size (fun b o hb ho => ?_) (Nat.le_refl _) hxs.symm ?_ hn'
    · exact (hs.2 b (Nat.ne_of_lt (Heap.lt_size ho))).trans ((Heap.get?_update_ne _ _ _ _ hb).trans (Heap.get?_push_of_some _ ho))
    · exact (hs.2 x hxs).trans (Heap.get?_update_self _ hx₁ rfl)
end
/-- what __init__ leaves of a fresh exception at x -/
structure InitEnd (h h' : Heap) (x C dx t1 : Addr) (f : Str) (v : Value) : Prop where
  keep : ∀ b o, b ≠ x → h.get? b = some o → h'.get? b = some o
  obj : h'.get? x = some { cls := .ref C, dict := some dx, data := .fields #[.ref t1, .none, .none, .none, .bool false, .none] }
  dbig : h.objs.size ≤ dx
  dne : dx ≠ x
  ns : h'.Ns1 dx (fun y => if y = f then some v else none)
/-- a made exception -/
structure OwnMade (h h' : Heap) (e C d : Addr) (f : Str) (v : Value) : Prop where
  keep : ∀ b o, h.get? b = some o → h'.get? b = some o
  new : h.objs.size ≤ e
  obj : ∃ oe vs, h'.get? e = some oe ∧ oe.cls = .ref C ∧ oe.dict = some d ∧ oe.data = .fields vs ∧ vs[1]? = some .none ∧ vs[2]? = some .none
  dbig : h.objs.size ≤ d
  dne : d ≠ e
  ns : h'.Ns1 d (fun y => if y = f then some v else none)
section
variable {prog : Program} {w : World} {A : Around} {E : Value → Shared → Prop} {R : Result → Shared → Prop} {s : Shared} {K : Frag} {mg : Str → Option Value} {nm f : Str} {C fI : Addr}
theorem kinds_f {f : Str} (ns : (f == ("self" : Str)) = false) : (iS f).names.lookup f = some .local := by
  have e : (f == PySem.Str.ofString "self") = false := ns
  show List.lookup f [(PySem.Str.ofString "self", NameKind.local), (f, NameKind.local)] = some .local
  simp only [List.lookup, e, BEq.rfl]
theorem own_init (T : OwnC K mg nm f C fI) {x t0 : Addr} {v : Value} (X : K.In s.heap) (hlim : s.heap.NoLimit) (hx : s.heap.get? x = some (excO C t0)) (hnx : K.lookup x = none) (hroom : A.depth < recursionLimit)
    (hq : ∀ h' tk dx, InitEnd s.heap h' x C dx t0 f v → R (.ok (.ret .none)) { s with heap := h', toks := tk }) :
    codeAny (model prog w) A (.call (.ref fI) ⟨[.ref x, v], []⟩) R s := by
  obtain ⟨fnm, qual, oc, od, doc, pm, an, cdv, ct, osl, p1, p2, q1, q2, q3, q4, ho, hcd⟩ := T.fn
  obtain ⟨tl, newId, nm, q, N, bs, sn, sub, ab, col, dd, k0, k1, k2, k3, k5, B, hC⟩ := T.cls
  have hcl : clsIn K C = some { name := nm, bases := bs, mro := .ref C :: tl, ns := N, qualname := q, hasDict := true, slotNames := sn, subclasses := sub, abstract := ab, collection := col, hasDel := false } := by unfold clsIn; rw [hC] <;> rfl
  have kf := kinds_f T.ns
  have ks : List.lookup ("self" : Str) (iS f).names = some NameKind.local := by
    show List.lookup ("self" : Str) [(PySem.Str.ofString "self", NameKind.local), (f, NameKind.local)] = some NameKind.local
    rfl
  have nsf : f ≠ "self" := fun e => by have := T.ns; rw [e] at this; exact absurd this (by decide)
  refine Att.call_fn (binds := [("self", .ref x), (f, v)]) X hlim ho hcd hroom (BindsTo.of_eq (T.bd _ _ _ _ _ _ _ _ _ _ _ _ _ _ _)) ?_ (fun s₁ IC => ?_) rfl rfl rfl
  · simp only [List.all_cons, List.all_nil, kf, ks] <;> rfl
  obtain ⟨h₁, tk₁, rfl⟩ := IC.toInCall.same
  have k : ∀ b o, s.heap.get? b = some o → h₁.get? b = some o := IC.toInCall.keep
  have hn := IC.toInCall.ns
  have hxL : s.heap.objs.size ≠ x := Nat.ne_of_gt (Heap.lt_size hx)
  have X₁ : K.In h₁ := X.keeps k
  have hx₁ := k _ _ hx
  have mf : bindL (envOfC qual (iS f) s.heap.objs.size fI cdv).kindOf [("self", .ref x), (f, v)] (fun _ => none) f = some v := by
    simp only [bindL]
    rw [if_pos (show (envOfC qual (iS f) s.heap.objs.size fI cdv).kindOf f = some .local from kf)]
    exact if_pos rfl
  have ms : bindL (envOfC qual (iS f) s.heap.objs.size fI cdv).kindOf [("self", .ref x), (f, v)] (fun _ => none) "self" = some (.ref x) := by
    simp only [bindL]
    rw [if_pos (show (envOfC qual (iS f) s.heap.objs.size fI cdv).kindOf f = some .local from kf), if_pos (show (envOfC qual (iS f) s.heap.objs.size fI cdv).kindOf "self" = some .local from ks)]
    exact (if_neg (Ne.symm nsf)).trans (if_pos rfl)
  -- self.f = f
  show wpAny _ _ (execs _ _) _ _ _
  refine wpAny_execs_cons (plainObj_wpAny_Assign_Attribute ?_)
  refine ldC (v := v) hn mf (ldC (v := .ref x) hn ms ?_ rfl ks (by decide)) rfl kf T.nd
  refine set_plain X₁ (ox := excO C t0) (od := none) ⟨hx₁, rfl, rfl, trivial⟩ T.sa ?_
  refine osa1 B X₁ hx₁ hcl rfl rfl T.noN (fun h₃ tk₃ dx k₃ dn dne hx₃ hn₃ => ?_)
  show wpAny _ _ (execs _ _) _ _ _
  have z : s.heap.objs.size < h₁.objs.size := hn.lt
  exact wpAny_execs_nil (hq h₃ tk₃ dx ⟨fun b o hb e => k₃ b o hb (k b o e), hx₃, Nat.le_of_lt (Nat.lt_of_lt_of_le z dn), dne, hn₃⟩)
theorem own_made (T : OwnC K mg nm f C fI) {v : Value} (X : K.In s.heap) (hlim : s.heap.NoLimit) (hroom : A.depth + 1 < recursionLimit)
    (hq : ∀ h' tk e d, OwnMade s.heap h' e C d f v → R (.ok (.ret (.ref e))) { s with heap := h', toks := tk }) :
    codeAny (model prog w) A (.call (.ref C) ⟨[v], []⟩) R s := by
  obtain ⟨tl, newId, nm, q, N, bs, sn, sub, ab, col, dd, k0, k1, k2, k3, k5, ⟨⟨B, initId, BF⟩, hps, hob⟩, hC⟩ := T.cls
  obtain ⟨hp, g, dr, tk, os⟩ := s
  have k : ∀ b o, hp.get? b = some o → ((hp.push (kdv_tup [v])).push (excO C hp.objs.size)).get? b = some o := fun b o e => Heap.get?_push_of_some _ (Heap.get?_push_of_some _ e)
  have hget : ((hp.push (kdv_tup [v])).push (excO C hp.objs.size)).get? (hp.objs.size + 1) = some (excO C hp.objs.size) := by heap_get
  have hnx : K.lookup (hp.objs.size + 1) = none := by
    cases e : K.lookup (hp.objs.size + 1) with
    | none => rfl
    | some o =>
      have z : hp.get? (hp.objs.size + 1) = some o := X _ _ e
      exact absurd (Nat.lt_of_succ_lt (Heap.lt_size z)) (Nat.lt_irrefl _)
  refine call_own BF (fun X => rfl) (X _ _ hC) (looks_findIn X T.iC) (fun self => bind_fn X self T.tC) (one_size v) ?_
  refine own_init (s := ⟨(hp.push (kdv_tup [v])).push (excO C hp.objs.size), g, dr, tk, os⟩) T (X.keeps k) (hlim.keeps k) hget hnx ?_ fun h' tk' dx ⟨k', hx, dn, dne, hns⟩ => ?_
  · show A.depth + 1 < recursionLimit
    exact hroom
  · have old : ∀ b o, hp.get? b = some o → h'.get? b = some o := fun b o e => k' b o (Nat.ne_of_lt (Nat.lt_succ_of_lt (Heap.lt_size e))) (k b o e)
    have z : hp.objs.size + 1 + 1 ≤ dx := by
      first
        | (simpa only [Heap.size_push] using dn)
        | exact dn
        | (have q := dn; rw [Heap.size_push, Heap.size_push] at q; exact q)
    exact ⟨rfl, hq h' tk' (hp.objs.size + 1) dx ⟨old, Nat.le_succ _, ⟨_, _, hx, rfl, rfl, rfl, rfl, rfl⟩, Nat.le_trans (Nat.le_trans (Nat.le_succ _) (Nat.le_succ _)) z, dne, hns⟩⟩
end
end OwnX
end PySem

namespace DL
open PySem PySem.Spec L2 PyProof.Rows
section
variable {X : Cx} {W : WX} {C fI : Addr} {nm f : Str}
/-- C(e) -/
def tMkOwn (f : Str) (C : Addr) (ta : TA) : L2.St → Hp → XK → Prop := fun σ H Q => ta σ H fun vs H1 => ∃ v, vs = [v] ∧ ∀ d, H1 d = none → Q (.ref C) (some d) (upd H1 d (.xd [(f, v)]))
theorem relO_own {f : Str} {v : V} {v' : Value} (r : RelV v v') (y : Str) : RelO (List.lookup y [(f, v)]) (if y = f then some v' else none) := by
  by_cases hw : y = f
  · subst hw
    rw [if_pos rfl]
    have q : List.lookup y [(y, v)] = some v := by simp [List.lookup]
    rw [q]
    exact r
  · rw [if_neg hw]
    have qw : (y == f) = false := by simpa using hw
    have q2 : List.lookup y [(f, v)] = none := by simp [List.lookup, qw]
    rw [q2]
    trivial
theorem pmk_own1 {a : Expr} {ta : TA} {p pos : Pos} {k : Nat} (T : PySem.OwnX.OwnC X.K X.mg nm f C fI) (hr : Room (k + 1) X.A) (ha : PA X [a] ta) (hg : Gl X nm)
    (hdb : (nm == ("__debug__" : Str)) = false := by decide)
    (he : starEach (a :: []) X.env = (false, eval a X.env) :: starEach [] X.env := by rfl) (hpl : (backTo pos (starEach [] X.env)).any (·.1) = false := by rfl) :
    L2N.PMk X (.Call (.Name nm p) [a] [] pos) (tMkOwn f C ta) := by
  intro pins s σ H Q I h
  refine wpAny_Call_Name_kw (ld_glob I hg T.gC ?_ hdb)
  refine PySem.W.callWith_K (h₀ := X.base) I.ok.mod.kin T.kC (thn (ha.run pos pins s σ H _ I h) fun us s1 hh => ?_) he hpl
  obtain ⟨vs, H1, I1, r1, v, ev, q1⟩ := hh
  subst ev
  refine ⟨I1.kIn, ?_⟩
  cases r1 with
  | cons rv rn =>
    rename_i v' us'
    cases rn
    show wpAny _ _ (call (.ref C) [v']) _ _ _
    have hlim := I1.nolimit
    obtain ⟨hp, g, dr, tk, os⟩ := s1
    refine wpAny_call (PySem.OwnX.own_made T I1.kIn hlim (by have := hr.dp; omega) fun h' tk' e d M => ?_)
    show L2N.MkP X pins σ Q (.ref e) ⟨h', g, dr, tk', os⟩
    obtain ⟨oe, fv, hoe, hc, hd, hdat, h1, h2⟩ := M.obj
    have hns := M.ns
    obtain ⟨G', g1, g2⟩ := restrict h' fun b => decide (b ≠ e)
    have gk : ∀ b, b ≠ e → G'.get? b = h'.get? b := fun b hb => g1 b (decide_eq_true hb)
    have ge : G'.get? e = none := g2 e (by simp)
    have old : ∀ b o, hp.get? b = some o → G'.get? b = some o := fun b o q => (gk b (Nat.ne_of_lt (Nat.lt_of_lt_of_le (Heap.lt_size q) M.new))).trans (M.keep b o q)
    have ob : ObjOk X.prog X.w (upd H1 d (.xd [(f, v)])) G' d (.xd [(f, v)]) :=
      ⟨_, hns.at (fun o q => (gk d M.dne).trans q), fun y => relO_own rv y⟩
    have J : Inv X pins σ (upd H1 d (.xd [(f, v)])) ⟨G', g, dr, tk', os⟩ := I1.laid (t' := tk') old M.dbig ob
    refine ⟨e, oe, fv, ⟨G', g, dr, tk', os⟩, _, .ref C, some d, rfl, J, fun b o q => ?_, ge, hoe, ⟨hc, hd, fun vs' e' => by rw [hdat] at e'; cases e'; exact h2⟩, hdat, h1, ?_, rfl, I1.bare, raises_own T.xf.exC T.tyC, q1 d (I1.hok.fresh M.dbig)⟩
    · by_cases hb : b = e
      · have q' : G'.get? b = some o := q
        rw [hb, ge] at q'; cases q'
      · exact (gk b hb).symm.trans q
    · rw [upd_ne (Ne.symm M.dne)]
      exact I1.hok.fresh M.new
/-- raise C(e) -/
def sRaise (nm f : Str) (ea : Env → Sto → R (List D)) : Env → Sto → RS := fun ρ S => onE (ea ρ S) ρ fun ds S1 => match ds with
  | [d] => .err ⟨nm, [(f, d)]⟩ ρ S1
  | _ => .bad
theorem pds_raise {a : Expr} {ea : Env → Sto → R (List D)} {p pos pos2 : Pos} {k : Nat} (hc : X.calm = true) (T : PySem.OwnX.OwnC X.K X.mg nm f C fI) (hr : Room (k + 1) X.A) (tk : L2N.Takes X W) (ha : PDA X W [a] ea) (hg : Gl X nm)
    (hdb : (nm == ("__debug__" : Str)) = false := by decide)
    (he : starEach (a :: []) X.env = (false, eval a X.env) :: starEach [] X.env := by rfl) (hpl : (backTo pos (starEach [] X.env)).any (·.1) = false := by rfl) :
    PDS X W (.Raise (some (.Call (.Name nm p) [a] [] pos)) none pos2) (sRaise nm f ea) :=
  PS.imp (L2N.ps_raise hc tk (pmk_own1 T hr ha hg hdb he hpl)) fun D σ H ⟨μ, S, ρ, r, re, p⟩ => ⟨μ, S, ρ, r, re, PostS.onE p re fun ds S1 μ1 H1 vs _ k r1 rv p1 => by
    cases rv with
    | nil => exact p1.elim
    | @cons d v ds' vs' r0 rs =>
      cases rs with
      | cons _ _ => exact p1.elim
      | nil => exact ⟨v, rfl, fun d' hd => p1 μ1 (upd H1 d' (.xd [(f, v)])) σ (.ref C) (some d') (Kp.new hd) (r1.new hd) ((re.mono k).mono (Kp.new hd)) ⟨C, T.gC, rfl, .inr ⟨d', [(f, v)], rfl, upd_same, rfl, .cons (r0.mono (Kp.new hd)) .nil⟩⟩⟩⟩
/-! try: .. except C as n: .. -/
def unset (i : Nat) : RS → RS
  | .nx ρ S => .nx (ρ.set i none) S
  | .bk ρ S => .bk (ρ.set i none) S
  | .ct ρ S => .ct (ρ.set i none) S
  | .rt f S => .rt f S
  | _ => .bad
def catch1 (nm : Str) (others : List Str) (i : Nat) (su : Nat → Nat → Env → Sto → RS) (x : Exn) (ρ1 : Env) (S1 : Sto) : RS :=
  if x.cls = nm then (if x.fs = [] then .bad else unset i (su 0 0 (ρ1.set i (some (.exc 0 0 (x.fs.map (·.1)) (x.fs.map (·.2))))) S1))
  else if x.cls ∈ others then .err x ρ1 S1 else .bad
def sTry1 (s : Env → Sto → RS) (nm : Str) (others : List Str) (i : Nat) (su : Nat → Nat → Env → Sto → RS) : Env → Sto → RS := fun ρ S => match s ρ S with
  | .err x ρ1 S1 => catch1 nm others i su x ρ1 S1
  | r => r
theorem RE.unset {K : PySem.W.Frag} {μ : List Addr} {H : Hp} {ρ : Env} {σ : L2.St} (r : RE K μ H ρ σ) (i : Nat) : RE K μ H (ρ.set i none) (σ.set i none) := by
  refine ⟨by rw [List.length_set, List.length_set, r.len], fun j e q => ?_⟩
  by_cases hj : i = j
  · subst hj
    rw [List.getElem?_set] at q
    simp only [if_true] at q
    split at q <;> cases q
  · rw [List.getElem?_set_ne hj] at q
    rw [List.getElem?_set_ne hj]
    exact r.at' j e q
theorem PostS.unset {K : PySem.W.Frag} {mg : Str → Option Value} {W W0 : WX} {μ : List Addr} {H : Hp} {D : Ends} {i : Nat} {r : RS} (p : PostS K mg W μ H D (unset i r)) :
    PostS K mg W0 μ H { nx := fun σ' H' => D.nx (σ'.set i none) H', rt := D.rt, bk := fun σ' H' => D.bk (σ'.set i none) H', ct := fun σ' H' => D.ct (σ'.set i none) H' } r := by
  cases r with
  | nx ρ S => exact fun μ' H' σ' k r' re' => p μ' H' (σ'.set i none) k r' (re'.unset i)
  | bk ρ S => exact fun μ' H' σ' k r' re' => p μ' H' (σ'.set i none) k r' (re'.unset i)
  | ct ρ S => exact fun μ' H' σ' k r' re' => p μ' H' (σ'.set i none) k r' (re'.unset i)
  | rt f S => exact p
  | err x ρ S => exact p.elim
  | bad => exact p.elim
theorem pds_try1 {n : Str} {i : Nat} {body suite : List Stmt} {b₀ : Stmt} {np pos pos' : Pos} {s : Env → Sto → RS} {su : Nat → Nat → Env → Sto → RS} {others : List Str}
    (hs : X.stack = X.env :: X.outer) (hf : X.env.frame = some X.env.locals) (hN : X.N.Nodup) (hi : X.N[i]? = some n) (hln : X.env.kindOf n = some .local) (T : PySem.OwnX.OwnC X.K X.mg nm f C fI) (hg : Gl X nm) (tk : L2N.Takes X W)
    (hO : ∀ y ∈ others, ∀ C', X.mg y = some (.ref C') → PySem.W.exmOne X.K (.ref C') (.ref C) = some false)
    (hb : ∀ (W : WX) (pn : List (Addr × Obj)) (xe : Value → Shared → Prop), L2N.Takes (X.tr pn xe) W → PassesOwn (model X.prog X.w) X.A X.env xe → PDSs (X.tr pn xe) W body s)
    (hsu : ∀ (a : Addr) (oe : Obj) (d : Addr) (pn : List (Addr × Obj)), L2N.Zn (.ref C) (some d) oe → (∃ vs, oe.data = .fields vs) → PDSs (X.suite a ((a, oe) :: pn)) W0 (b₀ :: suite) (su a d))
    (heq : ∀ (a d : Nat) (ρ : Env) (S : Sto) (ns : List Str) (ds : List D), unset i (su a d (ρ.set i (some (.exc a d ns ds))) S) = unset i (su 0 0 (ρ.set i (some (.exc 0 0 ns ds))) S))
    (hdb : (nm == ("__debug__" : Str)) = false := by decide) :
    PDS X W (.Try body [.ExceptHandler (some (.Name nm np)) (some n) (b₀ :: suite) pos'] [] [] pos) (sTry1 s nm others i su) :=
  PS.imp (L2N.ps_try_as (tb := fun W => liftS X.K X.mg W s) (ts := fun a cls d => fun D σ H => cls = .ref C ∧ ∃ dd, d = some dd ∧ liftS X.K X.mg W0 (su a dd) D σ H) (Wout := W) hs hf hN hi hln ⟨hg, hdb, .inl T.gC⟩ tk hb
    (fun a oe cls d pn hz hf => ⟨fun pins s σ H D I ⟨hc, dd, hd, h⟩ => by
      subst hc; subst hd
      exact (hsu a oe dd pn hz hf).run pins s σ H D I h⟩)) fun D σ H ⟨μ, S, ρ, r, re, p⟩ => ⟨μ, S, ρ, r, re, by
    unfold sTry1 at p
    cases hsr : s ρ S with
    | nx ρ1 S1 => rw [hsr] at p; exact p
    | rt f S1 => rw [hsr] at p; exact p
    | bk ρ1 S1 => rw [hsr] at p; exact p
    | ct ρ1 S1 => rw [hsr] at p; exact p
    | bad => rw [hsr] at p; exact p
    | err x ρ1 S1 =>
      rw [hsr] at p
      intro μ' H' σ' cls dx k rp re1 ⟨C', gC', ec, hx⟩
      subst ec
      by_cases hcl : x.cls = nm
      · rw [hcl, T.gC] at gC'
        cases gC'
        refine ⟨true, T.te, fun _ a ha => ⟨rfl, ?_⟩, fun q => Bool.noConfusion q⟩
        have p : PostS X.K X.mg W μ H D (catch1 nm others i su x ρ1 S1) := p
        unfold catch1 at p
        rw [if_pos hcl] at p
        by_cases hfs : x.fs = []
        · rw [if_pos hfs] at p; exact p.elim
        · rw [if_neg hfs] at p
          rcases hx with hx | ⟨d, gs, rfl, hd, hn, hv⟩
          · exact absurd hx hfs
          · refine ⟨d, rfl, μ', S1, ρ1.set i (some (.exc a d (x.fs.map (·.1)) (x.fs.map (·.2)))), rp, re1.set i (.exc hd hn rfl hv), ?_⟩
            refine PostS.unset (W := W) ?_
            rw [heq]
            exact PostS.step k p
      · have p : PostS X.K X.mg W μ H D (catch1 nm others i su x ρ1 S1) := p
        unfold catch1 at p
        rw [if_neg hcl] at p
        by_cases ho : x.cls ∈ others
        · rw [if_pos ho] at p
          exact ⟨false, hO _ ho _ gC', fun q => Bool.noConfusion q, fun _ => p μ' H' σ' _ dx k rp re1 ⟨C', gC', rfl, hx⟩⟩
        · rw [if_neg ho] at p; exact p.elim⟩
/-- e.n, e the exception that the suite holds -/
def exF (a d : Nat) (n : Str) : F → Option D
  | .v (.exc a' d' ns ds) => if a' = a ∧ d' = d then (ns.zip ds).lookup n else none
  | _ => none
def eXf (a d : Nat) (n : Str) (ee : Env → Sto → R F) : Env → Sto → R F := fun ρ S => (ee ρ S).bind fun x S1 => match exF a d n x with
  | some y => .ok (.v y) S1
  | none => .bad
theorem lookup_rv {K : PySem.W.Frag} {μ : List Addr} {H : Hp} {n : Str} : ∀ {gs : List (Str × V)} {ds : List D} {y : D}, RVs K μ H ds (gs.map (·.2)) → ((gs.map (·.1)).zip ds).lookup n = some y → ∃ v, gs.lookup n = some v ∧ RV K μ H y v
  | [], _, _, _, h => by simp at h
  | (m, v) :: gs, d :: ds, y, .cons r rs, h => by
    simp only [List.map_cons, List.zip_cons_cons, List.lookup_cons] at h ⊢
    split at h
    · cases h; exact ⟨v, rfl, r⟩
    · exact lookup_rv rs h
theorem exF_some {a d : Nat} {n : Str} {x : F} {y : D} (h : exF a d n x = some y) : ∃ ns ds, x = .v (.exc a d ns ds) ∧ (ns.zip ds).lookup n = some y := by
  unfold exF at h
  split at h
  · split at h
    · rename_i c
      obtain ⟨rfl, rfl⟩ := c
      exact ⟨_, _, rfl, h⟩
    · cases h
  · cases h
theorem pd_xf {a : Addr} {oe : Obj} {d : Addr} {pn : List (Addr × Obj)} {e : Expr} {ee : Env → Sto → R F} {n : Str} {pos : Pos} (T : L2.XfC X.K C) (hno : PySem.W.findIn X.K (.ref C) n = some none) (hz : L2N.Zn (.ref C) (some d) oe) (hf : ∃ vs, oe.data = .fields vs)
    (he : PD (X.suite a ((a, oe) :: pn)) W e ee) (hb : attributeBase e n X.env (eval e X.env) = eval e X.env := by rfl) : PD (X.suite a ((a, oe) :: pn)) W (.Attribute e n pos) (eXf a d n ee) :=
  PE.imp (pe_xf T hno ⟨hz.1, hz.2.1⟩ hf he hb) fun σ H Q ⟨μ, S, ρ, r, re, p⟩ => ⟨μ, S, ρ, r, re, Post.bind bk_f p fun x S1 μ1 H1 u _ k r1 rx p1 => by
    cases hx : exF a d n x with
    | none => rw [hx] at p1; exact p1.elim
    | some y =>
      rw [hx] at p1
      obtain ⟨ns, ds, rfl, hl⟩ := exF_some hx
      cases rx with
      | v rv =>
        cases rv with
        | @exc _ _ gs _ _ vs h1 h2 h3 hs =>
          subst h2; subst h3
          obtain ⟨v, hv, rv⟩ := lookup_rv hs hl
          exact ⟨rfl, rfl, d, gs, v, rfl, h1, hv, p1 μ1 H1 v .refl r1 (.v rv)⟩⟩
end
end DL
/-! ## DEnd -/
set_option maxHeartbeats 1000000
/-! The law's own call, from its function of data. -/
namespace DL
open PySem PySem.Spec PyProof.Rows L2
/-- the script at a, where it is none of the module's own lists -/
def hS (K : PySem.W.Frag) (a : Addr) (o : Obj) (xs : List V) : Hp := fun b => if b = a ∧ K.lookup a = none then some (.frz o (.lst xs)) else none
section
variable {K : PySem.W.Frag} {a : Addr} {o : Obj} {xs : List V}
theorem hS_in {b : Addr} {u : HO} (h : hS K a o xs b = some u) : b = a ∧ K.lookup a = none ∧ u = .frz o (.lst xs) := by
  unfold hS at h
  split at h
  · rename_i c; cases h; exact ⟨c.1, c.2, rfl⟩
  · cases h
theorem hS_out {b : Addr} (h : b ≠ a ∨ K.lookup a ≠ none) : hS K a o xs b = none := if_neg fun c => h.elim (fun z => z c.1) fun z => z c.2
end
theorem enter {P : Program} {w : World} {K : PySem.W.Frag} {mg mb : Str → Option Value} {k : Nat} {fa a : Addr} {x fn : Str} {df : List D → Sto → R F} {s : Shared} {vs : List Value} {ns : List Int}
    (kin : K.In s.heap) (gl : s.heap.Ns mainGlobals mg) (bl : s.heap.Ns builtinsNs mb) (bls : ∀ y : Str, y ≠ "__name__" → mb y = bootBuiltins y) (nl : s.heap.NoLimit) (gens : s.gens = #[])
    (obj : s.heap.get? a = some { cls := .type "list", data := .seq vs.toArray }) (hints : IntsAre vs ns) (len : ns.length ≤ sizeLine) (room : Room k callerA) (hf : mg fn = some (.ref fa))
    (T : ∀ base : Heap, K.In base → base.Ns mainGlobals mg → FnT P w K mg base k fn [x] df) (ok : ∃ S', df [.kl (ns.map .int)] [] = .ok (.v (.bl true)) S') :
    codeAny (model P w) callerA (.call (.ref fa) ⟨[.ref a], []⟩) (fun r s' => r = .ok (.ret (.bool true)) ∧ OldK s.heap s'.heap ∧ s'.os = s.os ∧ AllBare s'.gens) s := by
  obtain ⟨S', ok⟩ := ok
  let ob : Obj := { cls := .type "list", data := .seq vs.toArray }
  let G : Hp := hS K a ob (ns.map V.int)
  have vals := vals_ints hints
  have nK : ∀ (b : Addr) (oK : Obj), K.lookup b = some oK → G b = none := fun b oK e => hS_out (by
    by_cases c : b = a
    · subst c; exact .inr (by rw [e]; simp)
    · exact .inl c)
  have nD : ∀ (b : Addr) (o : Obj) es ep, s.heap.get? b = some o → o.data = .dict es ep → G b = none := fun b o es ep e q => hS_out (.inl fun c => by
    subst c; rw [obj] at e; cases e; cases q)
  have keepNs : ∀ (b : Addr) (m : Str → Option Value), s.heap.Ns b m → (hidT s.heap G).Ns b m := fun b m ⟨o, es, ep, e, q, r⟩ => ⟨o, es, ep, hidT_get e (nD b o es ep e q), q, r⟩
  have kb : K.In (hidT s.heap G) := fun b o e => hidT_get (kin b o e) (nK b o e)
  obtain ⟨mc, l1, l2⟩ := nl
  have md : Mod K mg (hidT s.heap G) := ⟨kb, keepNs _ _ gl, ⟨mb, keepNs _ _ bl, bls⟩, ⟨mc, keepNs _ _ l1, l2⟩⟩
  have hok : HOk P w G s.heap := fun b u e => by
    obtain ⟨rfl, _, rfl⟩ := hS_in e
    exact ⟨obj, by rw [List.length_map]; exact len, vs, _, vals, obj⟩
  have e0 : Env0 P w K mg (hidT s.heap G) callerA [] s G :=
    ⟨rfl, md, fun b o e => of_hidT e, Nat.le_of_eq (hidT_size _ _), trivial, (fun b hb => nomatch hb), hok, AllBare.of_eq gens⟩
  have sq : SqF K G a (ns.map V.int) := by
    cases hk : K.lookup a with
    | none => exact .inl ⟨ob, if_pos ⟨rfl, hk⟩⟩
    | some oa =>
      have e := kin a oa hk
      rw [obj] at e
      cases e
      exact .inr ⟨_, vs.toArray, _, hk, rfl, rfl, rfl, by rw [List.size_toArray, hints.length]; exact len, by simpa using vals⟩
  obtain ⟨f, fd, t1, t2, t3, t4⟩ := (T _ kb (keepNs _ _ gl)).ex
  have ef := hf.symm.trans t1
  cases ef
  have rvs : ∀ l : List Int, RVs K [] G (l.map D.int) (l.map V.int) := fun l => by
    induction l with
    | nil => exact .nil
    | cons z l ih => exact .cons .int ih
  have sp : spD K mg [x].length df [.ref a] G (fun v _ => v = .bl true) (fun _ _ _ => False) := by
    refine ⟨rfl, [], [], [.kl (ns.map .int)], ⟨rfl, List.nodup_nil, fun i ob b h => by simp at h⟩, .cons (.kl sq (rvs ns)) .nil, ?_⟩
    rw [ok]
    intro μ' H' b _ _ rf
    cases rf with
    | v rv => cases rv; rfl
  have bd : BindsTo s fd ⟨[.ref a], []⟩ [(x, .ref a)] := by
    have q := t3 s [.ref a] kin rfl
    rw [List.append_nil] at q
    exact q
  refine codeAny_mono (t4.run callerA [] s G ⟨[.ref a], []⟩ [.ref a] [.ref a] _ _ rfl room e0 bd (.cons rfl .nil) sp) fun r s' h => ?_
  cases r with
  | error e =>
    obtain ⟨_, _, _, _, _, _, _, _, _, _, _, _, z⟩ := h
    exact z.elim
  | ok fl =>
    cases fl with
    | next => exact h.elim
    | brk => exact h.elim
    | cont => exact h.elim
    | ret u =>
      obtain ⟨v, H', os, bare, un, hok', rv, z⟩ := h
      have z : v = .bl true := z
      subst z
      have rv : u = Value.bool true := rv
      subst rv
      refine ⟨rfl, .of_keep fun b o e => ?_, os, bare⟩
      cases q : G b with
      | none => exact un.keep b o e q (by intro c; cases c) (by simp)
      | some u =>
        obtain ⟨rfl, _, rfl⟩ := hS_in q
        obtain ⟨e1, _⟩ := hok' b _ (un.frzs b ob _ q)
        rw [obj] at e; cases e
        exact e1
theorem walkG {l : PySem.W.OpenLaw} {n k : Nat} {q : Program} {loose : List Str} {XP : (Str → Option Value) → Heap → Prop} {YP : World → Heap → Prop} {d : DefRec} {K : Params → PySem.W.Frag} {x : Str} {df : List D → Sto → R F}
    (hn : l.most = some n) (hn2 : n ≤ sizeLine) (hdf : d.params.defaults = []) (room : Room k callerA) (hY : ∀ (w : World) (h : Heap), YP w h → (K w.params).In h)
    (T : ∀ (w : World) (mg : Str → Option Value) (h : Heap), (K w.params).In h → h.Ns mainGlobals mg → ∀ base : Heap, (K w.params).In base → base.Ns mainGlobals mg → FnT l.prog w (K w.params) mg base k d.name [x] df)
    (ok : ∀ ns : List Int, ns.length ≤ n → (∀ z ∈ ns, Builtin.Int.intBits z ≤ 1048576) → ∃ S', df [.kl (ns.map .int)] [] = .ok (.v (.bl true)) S') :
    PySem.W.WalkO q loose XP YP l.row.toRowW d [] (fun f vs => PySem.call f vs) :=
  Att.attach_callB hn hdf fun w s₀ s₁ mg mb fa o pm cd doc a vs ns G Y _ _ _ hmg hobj hints hlen hbits hg =>
    enter (hY w _ Y) G.T.g G.T.b G.T.builtins G.T.nolimit hg hobj hints (Nat.le_trans hlen hn2) room hmg (T w mg _ (hY w _ Y) G.T.g) (ok ns hlen hbits)
/-! short words for printed derivations -/
/-- a class of exception of the text, of one field -/
def OwnT (K : PySem.W.Frag) (mg : Str → Option Value) (nm f : Str) : Prop := ∃ C fI, PySem.OwnX.OwnC K mg nm f C fI
/-- the class y is not caught by nm -/
def Apart (K : PySem.W.Frag) (mg : Str → Option Value) (nm y : Str) : Prop := ∀ C C', mg nm = some (.ref C) → mg y = some (.ref C') → PySem.W.exmOne K (.ref C') (.ref C) = some false
section
variable {X : Cx} {W : WX} {nm f : Str} {K : PySem.W.Frag} {mg : Str → Option Value}
theorem graise {a : Expr} {ea : Env → Sto → R (List D)} {p pos pos2 : Pos} (T : OwnT K mg nm f) (hr : Room 1 X.A) (tk : L2N.Takes X W) (ha : PDA X W [a] ea) (hX : X.K = K ∧ X.mg = mg := by exact ⟨rfl, rfl⟩) (hc : X.calm = true := by rfl) (hg : Gl X nm := by rfl)
    (hdb : (nm == ("__debug__" : Str)) = false := by decide)
    (he : starEach (a :: []) X.env = (false, eval a X.env) :: starEach [] X.env := by rfl) (hpl : (backTo pos (starEach [] X.env)).any (·.1) = false := by rfl) :
    PDS X W (.Raise (some (.Call (.Name nm p) [a] [] pos)) none pos2) (sRaise nm f ea) := by
  obtain ⟨rfl, rfl⟩ := hX
  obtain ⟨C, fI, T⟩ := T
  exact pds_raise (k := 0) hc T hr tk ha hg hdb he hpl
theorem gtry {n : Str} {i : Nat} {body suite : List Stmt} {b₀ : Stmt} {np pos pos' : Pos} {s : Env → Sto → RS} {su : Nat → Nat → Env → Sto → RS} {others : List Str}
    (T : OwnT K mg nm f) (hN : X.N.Nodup) (tk : L2N.Takes X W) (hO : ∀ y ∈ others, Apart K mg nm y)
    (heq : ∀ (a d : Nat) (ρ : Env) (S : Sto) (ns : List Str) (ds : List D), unset i (su a d (ρ.set i (some (.exc a d ns ds))) S) = unset i (su 0 0 (ρ.set i (some (.exc 0 0 ns ds))) S))
    (hb : ∀ (W : WX) (pn : List (Addr × Obj)) (xe : Value → Shared → Prop), L2N.Takes (X.tr pn xe) W → PassesOwn (model X.prog X.w) X.A X.env xe → PDSs (X.tr pn xe) W body s)
    (hsu : ∀ (C fI : Addr), PySem.OwnX.OwnC X.K X.mg nm f C fI → ∀ (a : Addr) (oe : Obj) (d : Addr) (pn : List (Addr × Obj)), L2N.Zn (.ref C) (some d) oe → (∃ vs, oe.data = .fields vs) → PDSs (X.suite a ((a, oe) :: pn)) W0 (b₀ :: suite) (su a d))
    (hX : X.K = K ∧ X.mg = mg := by exact ⟨rfl, rfl⟩) (hs : X.stack = X.env :: X.outer := by rfl) (hf : X.env.frame = some X.env.locals := by rfl) (hi : X.N[i]? = some n := by rfl) (hln : X.env.kindOf n = some .local := by rfl) (hg : Gl X nm := by rfl)
    (hdb : (nm == ("__debug__" : Str)) = false := by decide) :
    PDS X W (.Try body [.ExceptHandler (some (.Name nm np)) (some n) (b₀ :: suite) pos'] [] [] pos) (sTry1 s nm others i su) := by
  obtain ⟨rfl, rfl⟩ := hX
  obtain ⟨C, fI, T⟩ := T
  exact pds_try1 hs hf hN hi hln T hg tk (fun y hy C' hC => hO y hy C C' T.gC hC) hb (fun a oe d pn hz hf => hsu C fI T a oe d pn hz hf) heq hdb
end
/-- e.n, the suite's exception in slot i -/
def xfR (i : Nat) (n : Str) (ns : List Str) (ds : List D) (ρ : Env) (S : Sto) : R F := if i < ρ.length then (match (ns.zip ds).lookup n with
  | some y => .ok (.v y) S
  | none => .bad) else .bad
theorem eXf_set {i a d : Nat} {n : Str} {ns : List Str} {ds : List D} {ρ : Env} {S : Sto} : eXf a d n (eVar i) (ρ.set i (some (.exc a d ns ds))) S = xfR i n ns ds ρ S := by
  unfold eXf eVar xfR
  by_cases h : i < ρ.length
  · rw [if_pos h, List.getElem?_set_self h]
    show (match exF a d n (.v (.exc a d ns ds)) with
      | some y => R.ok (F.v y) S
      | none => .bad) = _
    have e : exF a d n (.v (.exc a d ns ds)) = (ns.zip ds).lookup n := by
      show (if a = a ∧ d = d then (ns.zip ds).lookup n else none) = _
      rw [if_pos ⟨rfl, rfl⟩]
    rw [e]
  · rw [if_neg h, List.getElem?_eq_none (by rw [List.length_set]; omega)]
    rfl
theorem set3 {i j : Nat} {a b x : Option D} {ρ : Env} (h : i ≠ j) : ((ρ.set i a).set j x).set i b = (ρ.set i b).set j x := by
  rw [List.set_comm _ _ (Ne.symm h), List.set_set]
theorem unset_asg {i j : Nat} (h : i ≠ j) {a b : Option D} {ρ : Env} {S : Sto} {f g : Env → Sto → R F} (e : f (ρ.set i a) S = g (ρ.set i b) S) : unset i (sAsg (gNm j) f (ρ.set i a) S) = unset i (sAsg (gNm j) g (ρ.set i b) S) := by
  unfold sAsg eBox DL.onE gNm
  rw [e]
  cases g (ρ.set i b) S with
  | ok z S1 =>
    show RS.nx (((ρ.set i a).set j _).set i none) _ = RS.nx (((ρ.set i b).set j _).set i none) _
    rw [set3 h, set3 h]
  | err x S1 => rfl
  | bad => rfl
theorem unset_ret {i : Nat} {a b : Option D} {ρ : Env} {S : Sto} {f g : Env → Sto → R F} (e : f (ρ.set i a) S = g (ρ.set i b) S) : unset i (sRet f (ρ.set i a) S) = unset i (sRet g (ρ.set i b) S) := by
  unfold sRet DL.onE
  rw [e]
  cases g (ρ.set i b) S <;> rfl
theorem hu_su {X : Cx} {k : Nat} {a : Addr} {pn : List (Addr × Obj)} (h : Room k X.A) : (X.suite a pn).A.units + 64 < cLine := h.units
/-- an error of the class at C is what «except C» names -/
theorem exm_own {K : PySem.W.Frag} {S : Addr} (h1 : PySem.W.subIn K (.ref S) (.type "BaseException") = some true) (h2 : PySem.W.isClsIn K S = true) (h3 : PySem.W.typeIn K (.ref S) = some (.type "type")) (h4 : PySem.W.subIn K (.ref S) (.ref S) = some true) :
    PySem.W.exmOne K (.ref S) (.ref S) = some true := by
  have e1 : (PySem.W.subIn K (.ref S) (.type "BaseException") == some true) = true := by rw [h1] <;> rfl
  have e2 : ((PySem.W.clsIn K S).isSome && PySem.W.typeIn K (.ref S) == some (.type "type")) = true := by
    have h2' : (PySem.W.clsIn K S).isSome = true := h2
    rw [h2', h3] <;> rfl
  show (if (PySem.W.subIn K (.ref S) (.type "BaseException") == some true) = true then (if ((PySem.W.clsIn K S).isSome && PySem.W.typeIn K (.ref S) == some (.type "type")) = true then PySem.W.subIn K (.ref S) (.ref S) else none) else none) = some true
  rw [if_pos e1, if_pos e2]
  exact h4
end DL
/-! ## DSuite -/
set_option maxHeartbeats 1000000
/-! an except suite that is an if -/
namespace DL
open PySem PySem.Spec L2
theorem unset_if {i : Nat} {ρ1 ρ2 : DL.Env} {S : Sto} {c1 c2 : DL.Env → Sto → R Bool} {a1 a2 b1 b2 : DL.Env → Sto → RS} (hc : c1 ρ1 S = c2 ρ2 S) (ha : ∀ S, unset i (a1 ρ1 S) = unset i (a2 ρ2 S)) (hb : ∀ S, unset i (b1 ρ1 S) = unset i (b2 ρ2 S)) :
    unset i (sIf c1 a1 b1 ρ1 S) = unset i (sIf c2 a2 b2 ρ2 S) := by
  unfold sIf DL.onE
  rw [hc]
  cases c2 ρ2 S with
  | ok b S1 =>
    cases b with
    | true => exact ha S1
    | false => exact hb S1
  | err x S1 => rfl
  | bad => rfl
theorem unset_nil {i : Nat} {a b : Option D} {ρ : DL.Env} {S : Sto} : unset i (sNil (ρ.set i a) S) = unset i (sNil (ρ.set i b) S) := by
  show RS.nx ((ρ.set i a).set i none) S = RS.nx ((ρ.set i b).set i none) S
  rw [List.set_set, List.set_set]
theorem eVar_set {i j : Nat} {a : Option D} {ρ : DL.Env} {S : Sto} (h : i ≠ j) : eVar j (ρ.set i a) S = eVar j ρ S := by
  unfold eVar
  rw [List.getElem?_set_ne h]
end DL
/-! ## DKeys -/
set_option maxHeartbeats 1000000
/-! a dict's keys walked: the dict is locked meanwhile -/
namespace DL
open PySem PySem.Spec L2
theorem takesN {X : Cx} {f : Value → Option Addr → L2.St → Hp → Prop} (h : ∀ a b c d, ¬ f a b c d := by exact fun _ _ _ _ h => h) : L2N.Takes X f := fun u s' ⟨_, _, _, _, _, _, _, _, _, _, _, _, _, _, _, _, w⟩ => (h _ _ _ _ w).elim
section
variable {K : PySem.W.Frag} {μ μ' : List Addr} {H H' : Hp} {S : Sto}
theorem RKs.nth : ∀ {kvs : List (D × D)} {r : List (Key × V)} {i : Nat} {d : D}, RKs K μ H kvs r → (kvs.map (·.1))[i]? = some d → ∃ key v, r[i]? = some (key, v) ∧ dKey d = some key
  | _, _, _, _, .nil, h => by simp at h
  | _, _, 0, _, .cons h1 _ _, h => by simp at h; subst h; exact ⟨_, _, rfl, h1⟩
  | _, _, i + 1, _, .cons _ _ t, h => by
    obtain ⟨key, v, h1, h2⟩ := RKs.nth (i := i) t (by simpa using h)
    exact ⟨key, v, by simpa using h1, h2⟩
theorem RTs.nth : ∀ {kvs : List (D × D)} {r : List (List Key × V)} {i : Nat} {d : D}, RTs K μ H kvs r → (kvs.map (·.1))[i]? = some d → ∃ ks keys v, d = .tup ks ∧ r[i]? = some (keys, v) ∧ dKeys ks = some keys
  | _, _, _, _, .nil, h => by simp at h
  | _, _, 0, _, .cons h1 _ _, h => by simp at h; subst h; exact ⟨_, _, _, rfl, rfl, h1⟩
  | _, _, i + 1, _, .cons _ _ t, h => by
    obtain ⟨ks, keys, v, h0, h1, h2⟩ := RTs.nth (i := i) t (by simpa using h)
    exact ⟨ks, keys, v, h0, by simpa using h1, h2⟩
theorem RTs.length {kvs : List (D × D)} {r : List (List Key × V)} (h : RTs K μ H kvs r) : kvs.length = r.length := by
  induction h with
  | nil => rfl
  | cons _ _ _ ih => simp [ih]
theorem dKey_rv {d : D} {key : Key} (h : dKey d = some key) : RV K μ H d (kV key) := by
  cases d <;> simp [dKey] at h <;> subst h
  · exact .int
  · exact .str
theorem dKeys_rv : ∀ {ds : List D} {keys : List Key}, dKeys ds = some keys → RVs K μ H ds (keys.map kV)
  | [], keys, h => by cases h; exact .nil
  | d :: ds, keys, h => by
    unfold dKeys at h
    split at h
    · rename_i k ks h1 h2
      cases h
      exact .cons (dKey_rv h1) (dKeys_rv h2)
    · cases h
theorem dKeys_v : ∀ {ds : List D} {keys : List Key} {vs : List V}, dKeys ds = some keys → RVs K μ H ds vs → vs = keys.map kV
  | [], keys, vs, h, r => by cases h; cases r; rfl
  | d :: ds, keys, vs, h, r => by
    unfold dKeys at h
    split at h
    · rename_i k ks h1 h2
      cases h
      cases r with
      | cons r1 r2 => rw [dKey_v h1 r1, dKeys_v h2 r2]; rfl
    · cases h
end
def eSeqK (ee : Env → Sto → R F) : Env → Sto → R DIt := fun ρ S => (ee ρ S).bind fun f S1 => match f with
  | .v (.loc n) => (match S1[n]? with
    | some (.fzd kvs) => .ok ⟨kvs.map (·.1), [(n, .fzd kvs)]⟩ S1
    | some (.fzt kvs) => .ok ⟨kvs.map (·.1), [(n, .fzt kvs)]⟩ S1
    | _ => .bad)
  | _ => .bad
theorem jok_keys {K : PySem.W.Frag} {μ0 : List Addr} {H0 : Hp} {a : Addr} {od : Obj} {r : List (Key × V)} {kvs : List (D × D)} {n : Nat} (h0 : H0 a = some (.frz od (.dK r))) (hn : μ0[n]? = some a) : JOk K μ0 H0 ⟨kvs.map (·.1), [(n, .fzd kvs)]⟩ (Itk a od r) := fun i μ S H k rp o => by
  have hS := o (n, .fzd kvs) (by simp)
  have h1 := k.fzs _ _ _ h0
  cases rp.obj n _ a hS (k.get hn) with
  | @fK _ _ r' od' g1 g2 =>
    rw [h1] at g1; cases g1
    refine ⟨fun d hd => ?_, fun hi => ⟨h1, ?_⟩⟩
    · obtain ⟨key, v, hr, hk⟩ := g2.nth hd
      refine ⟨⟨h1, (List.getElem?_eq_some_iff.mp hr).1⟩, fun x H' ⟨e, k', v', e1, e2⟩ => ?_⟩
      subst e; rw [hr] at e1; cases e1; subst e2
      exact ⟨.refl, rp, dKey_rv hk⟩
    · have : kvs.length = i := by simpa using hi
      rw [← g2.length]; exact Nat.le_of_eq this
theorem jok_keysT {K : PySem.W.Frag} {μ0 : List Addr} {H0 : Hp} {a : Addr} {od : Obj} {r : List (List Key × V)} {kvs : List (D × D)} {n : Nat} (h0 : H0 a = some (.frz od (.dT r))) (hn : μ0[n]? = some a) : JOk K μ0 H0 ⟨kvs.map (·.1), [(n, .fzt kvs)]⟩ (Itkt a od r) := fun i μ S H k rp o => by
  have hS := o (n, .fzt kvs) (by simp)
  have h1 := k.fzs _ _ _ h0
  cases rp.obj n _ a hS (k.get hn) with
  | @fT _ _ r' od' g1 g2 =>
    rw [h1] at g1; cases g1
    refine ⟨fun d hd => ?_, fun hi => ⟨h1, ?_⟩⟩
    · obtain ⟨ks, keys, v, hd', hr, hk⟩ := g2.nth hd
      subst hd'
      refine ⟨⟨h1, (List.getElem?_eq_some_iff.mp hr).1⟩, fun x H' ⟨e, k', v', q, e1, e2, e3⟩ => ?_⟩
      subst e; rw [hr] at e1; cases e1; subst e2
      exact ⟨.refl, rp, .tup (.inl (.inl e3)) (dKeys_rv hk)⟩
    · have : kvs.length = i := by simpa using hi
      rw [← g2.length]; exact Nat.le_of_eq this
section
variable {X : Cx} {W : WX} {e tg : Expr} {ee : Env → Sto → R F} {pos : Pos}
theorem pdi_keys (h : PD X W e ee) : PDI X W tg e (eSeqK ee) :=
  PI.imp (pi_keys h) fun σ H RR ⟨μ, S, ρ, r, re, p⟩ => ⟨μ, S, ρ, r, re, Post.bind bk_j p fun f S1 μ1 H1 v _ k r1 rf p1 => by
    split at p1
    rotate_left
    · exact p1.elim
    rename_i n _
    obtain ⟨a, rfl, hn⟩ := rf.loc
    split at p1
    · rename_i kvs hS
      cases r1.obj n _ a hS hn with
      | @fK _ _ r' od g1 g2 => exact ⟨a, od, rfl, .inl ⟨r', g1, p1 μ1 H1 _ .refl r1 (jok_keys g1 hn)⟩⟩
    · rename_i kvs hS
      cases r1.obj n _ a hS hn with
      | @fT _ _ r' od g1 g2 => exact ⟨a, od, rfl, .inr ⟨r', g1, p1 μ1 H1 _ .refl r1 (jok_keysT g1 hn)⟩⟩
    · exact p1.elim⟩
end
/-! ### the lock -/
def lkO : O → Option O
  | .dct kvs => some (.fzd kvs)
  | .dtt kvs => some (.fzt kvs)
  | _ => none
def lkS (n : Nat) (S : Sto) : Option (O × Sto) := (S[n]?).bind fun o => (lkO o).map fun o' => (o, S.set n o')
def lkA (lo : Env → Sto → Option Nat) (ρ : Env) (S : Sto) : Option (Nat × O × Sto) := (lo ρ S).bind fun n => (lkS n S).map fun p => (n, p)
def eLk (lo : Env → Sto → Option Nat) (ee : Env → Sto → R F) : Env → Sto → R F := fun ρ S => match lkA lo ρ S with
  | none => ee ρ S
  | some (n, o, S1) => (match ee ρ S1 with
    | .ok f S2 => .ok f (S2.set n o)
    | .err x S2 => .err x S2
    | .bad => .bad)
def sLk (lo : Env → Sto → Option Nat) (se : Env → Sto → RS) : Env → Sto → RS := fun ρ S => match lkA lo ρ S with
  | none => se ρ S
  | some (n, o, S1) => (match se ρ S1 with
    | .nx ρ2 S2 => .nx ρ2 (S2.set n o)
    | .bk ρ2 S2 => .bk ρ2 (S2.set n o)
    | .ct ρ2 S2 => .ct ρ2 (S2.set n o)
    | .rt f S2 => .rt f (S2.set n o)
    | .err x ρ2 S2 => .err x ρ2 S2
    | .bad => .bad)
/-- which dict: the one that an expression tells -/
def loE (ee : Env → Sto → R F) : Env → Sto → Option Nat := fun ρ S => match ee ρ S with
  | .ok (.v (.loc n)) _ => some n
  | _ => none
structure Lk (K : PySem.W.Frag) (μ : List Addr) (H : Hp) (n : Nat) (o : O) (S1 : Sto) (a : Addr) (u : HO) : Prop where
  at' : H a = some u
  mt : Mut (some u)
  rep : ∀ od, Rep K μ S1 (upd H a (.frz od u))
  kp : ∀ od, Kp K μ H μ (upd H a (.frz od u))
  nt : ∀ xs, u ≠ .tup xs
  nl : ∀ xs, u ≠ .lst xs
  mem : μ[n]? = some a
  obj : ∀ μ' H', Kp K μ H μ' H' → H' a = some u → RO K μ' H' o a
theorem lk_of {K : PySem.W.Frag} {μ : List Addr} {H : Hp} {S S1 : Sto} {ρ : Env} {lo : Env → Sto → Option Nat} {n : Nat} {o : O} (r : Rep K μ S H) (h : lkA lo ρ S = some (n, o, S1)) : ∃ a u, Lk K μ H n o S1 a u := by
  unfold lkA at h
  cases hl : lo ρ S with
  | none => rw [hl] at h; cases h
  | some m =>
    rw [hl] at h
    have h : ((lkS m S).map fun p => (m, p)) = some (n, o, S1) := h
    cases hk : lkS m S with
    | none => rw [hk] at h; cases h
    | some p =>
      rw [hk] at h
      cases h
      unfold lkS at hk
      cases hS : S[n]? with
      | none => rw [hS] at hk; cases hk
      | some o1 =>
        rw [hS] at hk
        have hk : ((lkO o1).map fun o' => (o1, S.set n o')) = some (o, S1) := hk
        obtain ⟨a, hn, ro⟩ := r.in hS
        cases ro with
        | lst _ _ => cases hk
        | fK _ _ => cases hk
        | fT _ _ => cases hk
        | @dK _ _ rr g1 g2 =>
          cases hk
          have fr : Free H a := .inr (.inr (.inl ⟨_, g1⟩))
          have kp : ∀ od, Kp K μ H μ (upd H a (.frz od (.dK rr))) := fun od => Kp.put fr (List.mem_of_getElem? hn)
          exact ⟨a, _, g1, trivial, fun od => r.put hn fr (.fK upd_same (g2.mono (kp od))), kp, nofun, nofun, hn, fun μ' H' k e => .dK e (g2.mono k)⟩
        | @dT _ _ rr g1 g2 =>
          cases hk
          have fr : Free H a := .inr (.inr (.inr ⟨_, g1⟩))
          have kp : ∀ od, Kp K μ H μ (upd H a (.frz od (.dT rr))) := fun od => Kp.put fr (List.mem_of_getElem? hn)
          exact ⟨a, _, g1, trivial, fun od => r.put hn fr (.fT upd_same (g2.mono (kp od))), kp, nofun, nofun, hn, fun μ' H' k e => .dT e (g2.mono k)⟩
section
variable {K : PySem.W.Frag} {μ μ' : List Addr} {H H' : Hp} {S S1 S2 : Sto} {n : Nat} {o : O} {a : Addr} {u : HO} {od : Obj}
theorem Lk.tl (l : Lk K μ H n o S1 a u) (e : H' a = some (.frz od u)) : Tl K H' (upd H' a u) := by
  have rd : ∀ {x : Addr} {xs : List V}, Rd H' x (.tup xs) → x ≠ a := fun {x xs} h q => by
    subst q
    rcases h with h | ⟨o, h⟩
    · rw [e] at h; cases h
    · rw [e] at h; cases h; exact l.nt xs rfl
  refine ⟨fun x xs h => ?_, fun x xs h => ?_, fun x gs h => ?_⟩
  · rcases h with h | h
    · exact .inl (rd_upd h (rd h))
    · exact .inr h
  · rcases h with ⟨q, h⟩ | h
    · refine .inl ⟨q, ?_⟩
      rw [upd_ne (fun z => by subst z; rw [e] at h; cases h; exact l.nl xs rfl)]
      exact h
    · exact .inr h
  · rw [upd_ne (fun z => by subst z; rw [e] at h; cases h)]
    exact h
theorem Lk.back (l : Lk K μ H n o S1 a u) (k : Kp K μ (upd H a (.frz od u)) μ' H') : Kp K μ H μ' (upd H' a u) := by
  have e : H' a = some (.frz od u) := k.fzs _ _ _ upd_same
  have k1 := (l.kp od).trans k
  have tl := l.tl e
  have am : a ∈ μ := List.mem_of_getElem? l.mem
  refine ⟨k1.pre, fun x xs h => tl.t _ _ (k1.tup _ _ h), fun x xs h => tl.l _ _ (k1.kls _ _ h), fun x q h hx => ?_, k1.fr, fun x h => k1.liv x (live_upd h), fun x gs h => tl.x _ _ (k1.xds _ _ h), fun x od' u' h => ?_⟩
  · rw [upd_ne (fun z => hx (by rw [z]; exact am))]
    exact k1.frm x q h hx
  · rw [upd_ne (fun z => by subst z; rw [l.at'] at h; cases h; exact l.mt)]
    exact k1.fzs _ _ _ h
theorem Lk.rback (l : Lk K μ H n o S1 a u) (k : Kp K μ (upd H a (.frz od u)) μ' H') (r : Rep K μ' S2 H') : Rep K μ' (S2.set n o) (upd H' a u) := by
  have e : H' a = some (.frz od u) := k.fzs _ _ _ upd_same
  have tl := l.tl e
  have hn := k.get l.mem
  refine ⟨by rw [List.length_set]; exact r.len, r.nd, fun i ob' x h1 h2 => ?_⟩
  by_cases q : n = i
  · subst q
    rw [hn] at h2; cases h2
    have hl : n < S2.length := by
      have := (List.getElem?_eq_some_iff.mp hn).1
      rw [← r.len]; exact this
    rw [List.getElem?_set_self hl] at h1
    cases h1
    exact l.obj μ' _ (l.back k) upd_same
  · rw [List.getElem?_set_ne q] at h1
    have ne : x ≠ a := fun z => q (nth_inj r.nd hn (z ▸ h2))
    exact (r.obj i ob' x h1 h2).up tl (upd_ne ne)
theorem RE.up {ρ : Env} {σ : L2.St} (t : Tl K H H') (r : RE K μ H ρ σ) : RE K μ H' ρ σ := ⟨r.len, fun i d h => by obtain ⟨v, h1, h2⟩ := r.at' i d h; exact ⟨v, h1, h2.up t⟩⟩
theorem Lk.fback (l : Lk K μ H n o S1 a u) (k : Kp K μ (upd H a (.frz od u)) μ' H') {f : F} {v : V} (rf : RF K (upd H a (.frz od u)) μ' H' f v) : RF K H μ' (upd H' a u) f v := by
  have e : H' a = some (.frz od u) := k.fzs _ _ _ upd_same
  have tl := l.tl e
  cases rf with
  | v h => exact .v (h.up tl)
  | l h n n0 r => exact .l (by rw [upd_ne (fun z => n (by rw [z]; exact List.mem_of_getElem? (k.get l.mem)))]; exact h) n (live_upd n0) (r.up tl)
end
theorem PS.or {X : Cx} {e : Stmt} {t t' : TS} (h : PS X e t) (h' : PS X e t') : PS X e (fun E σ H => t E σ H ∨ t' E σ H) := ⟨fun pins s σ H D I q => q.elim (h.run pins s σ H D I) (h'.run pins s σ H D I)⟩
section
variable {X : Cx} {W : WX} {e : Expr} {st : Stmt} {ee : Env → Sto → R F} {se : Env → Sto → RS} {lo : Env → Sto → Option Nat}
theorem pd_lk (lo : Env → Sto → Option Nat) (h : PD X W e ee) : PD X W e (eLk lo ee) :=
  PE.imp (PE.or h (pe_lock h)) fun σ H Q ⟨μ, S, ρ, r, re, p⟩ => by
    unfold eLk at p
    cases hl : lkA lo ρ S with
    | none => rw [hl] at p; exact .inl ⟨μ, S, ρ, r, re, p⟩
    | some q =>
      obtain ⟨n, o, S1⟩ := q
      rw [hl] at p
      dsimp only at p
      obtain ⟨a, u, l⟩ := lk_of r hl
      refine .inr ⟨a, u, l.at', l.mt, fun od => ⟨μ, S1, ρ, l.rep od, re.mono (l.kp od), ?_⟩⟩
      cases hr : ee ρ S1 with
      | ok f S2 =>
        rw [hr] at p
        intro μ' H' v k rp rf
        exact ⟨k.fzs _ _ _ upd_same, p μ' _ v (l.back k) (l.rback k rp) (l.fback k rf)⟩
      | err x S2 =>
        rw [hr] at p
        intro μ' H' cls dx k rp rx
        exact p μ' H' cls dx ((l.kp od).trans k) rp rx
      | bad => rw [hr] at p; exact p.elim
theorem pds_lk (lo : Env → Sto → Option Nat) (h : PDS X W st se) : PDS X W st (sLk lo se) :=
  PS.imp (PS.or h (ps_lock h)) fun E σ H ⟨μ, S, ρ, r, re, p⟩ => by
    unfold sLk at p
    cases hl : lkA lo ρ S with
    | none => rw [hl] at p; exact .inl ⟨μ, S, ρ, r, re, p⟩
    | some q =>
      obtain ⟨n, o, S1⟩ := q
      rw [hl] at p
      dsimp only at p
      obtain ⟨a, u, l⟩ := lk_of r hl
      refine .inr ⟨a, u, l.at', l.mt, fun od => ⟨μ, S1, ρ, l.rep od, re.mono (l.kp od), ?_⟩⟩
      have up : ∀ {μ' H' ρ' σ'}, Kp X.K μ (upd H a (.frz od u)) μ' H' → RE X.K μ' H' ρ' σ' → RE X.K μ' (upd H' a u) ρ' σ' := fun k re => RE.up (l.tl (k.fzs _ _ _ upd_same)) re
      cases hr : se ρ S1 with
      | nx ρ2 S2 =>
        rw [hr] at p
        intro μ' H' σ' k rp re'
        exact ⟨k.fzs _ _ _ upd_same, p μ' _ σ' (l.back k) (l.rback k rp) (up k re')⟩
      | bk ρ2 S2 =>
        rw [hr] at p
        intro μ' H' σ' k rp re'
        exact ⟨k.fzs _ _ _ upd_same, p μ' _ σ' (l.back k) (l.rback k rp) (up k re')⟩
      | ct ρ2 S2 =>
        rw [hr] at p
        intro μ' H' σ' k rp re'
        exact ⟨k.fzs _ _ _ upd_same, p μ' _ σ' (l.back k) (l.rback k rp) (up k re')⟩
      | rt f S2 =>
        rw [hr] at p
        intro μ' H' v k rp rf
        exact ⟨k.fzs _ _ _ upd_same, p μ' _ v (l.back k) (l.rback k rp) (l.fback k rf)⟩
      | err x ρ2 S2 =>
        rw [hr] at p
        intro μ' H' σ' cls dx k rp re' rx
        exact p μ' H' σ' cls dx ((l.kp od).trans k) rp re' rx
      | bad => rw [hr] at p; exact p.elim
end
/-! ### dicts whose keys are tuples -/
def eDict0T : DL.Env → Sto → R F := fun _ S => .ok (.v (.loc S.length)) (S ++ [.dtt []])
def putT (x : F) (ks : List D) (d : D) (S : Sto) : Option Sto := match x with
  | .v (.loc n) => (match S[n]? with
    | some (.dtt kvs) => if (dKeys ks).isSome ∧ kvs.length ≤ 1000000 ∧ ks.length ≤ 1000000 then some (S.set n (.dtt (putD kvs (.tup ks) d))) else none
    | _ => none)
  | _ => none
theorem dKeys_inj : ∀ {a b : List D} {k : List Key}, dKeys a = some k → dKeys b = some k → a = b
  | [], [], _, _, _ => rfl
  | [], b :: bs, k, ha, hb => by
    cases ha
    unfold dKeys at hb
    split at hb <;> cases hb
  | a :: as, [], k, ha, hb => by
    cases hb
    unfold dKeys at ha
    split at ha <;> cases ha
  | a :: as, b :: bs, k, ha, hb => by
    unfold dKeys at ha hb
    split at ha
    rotate_left
    · cases ha
    rename_i k1 ks1 h1 h2
    cases ha
    split at hb
    rotate_left
    · cases hb
    rename_i k2 ks2 h3 h4
    cases hb
    rw [dKey_inj h1 h3, dKeys_inj h2 h4]
theorem RTs.put {K : PySem.W.Frag} {μ : List Addr} {H : Hp} {ks : List D} {d : D} {key : List Key} {v : V} (hk : dKeys ks = some key) (rv : RV K μ H d v) {kvs : List (D × D)} {r : List (List Key × V)} (h : RTs K μ H kvs r) : RTs K μ H (putD kvs (.tup ks) d) (putK r key v) := by
  have any : ∀ {kvs : List (D × D)} {r : List (List Key × V)}, RTs K μ H kvs r → (kvs.any fun kv => decide (kv.1 = .tup ks)) = (r.any fun kv => decide (kv.1 = key)) := by
    intro kvs r h
    induction h with
    | nil => rfl
    | @cons k' key' d' v' kvs r h1 h2 t ih =>
      simp only [List.any_cons, ih]
      congr 1
      by_cases e : k' = ks
      · subst e
        rw [h1] at hk; cases hk
        simp
      · have ne : ¬ key' = key := fun q => e (dKeys_inj h1 (q ▸ hk))
        simp [e, ne]
  have mp : ∀ {kvs : List (D × D)} {r : List (List Key × V)}, RTs K μ H kvs r → RTs K μ H (kvs.map fun kv => if kv.1 = .tup ks then (kv.1, d) else kv) (r.map fun kv => if kv.1 = key then (kv.1, v) else kv) := by
    intro kvs r h
    induction h with
    | nil => exact .nil
    | @cons k' key' d' v' kvs r h1 h2 t ih =>
      simp only [List.map_cons]
      by_cases e : k' = ks
      · subst e
        rw [h1] at hk; cases hk
        rw [if_pos rfl, if_pos rfl]
        exact .cons h1 rv ih
      · have ne : ¬ key' = key := fun q => e (dKeys_inj h1 (q ▸ hk))
        rw [if_neg (fun q => e (by cases q; rfl)), if_neg ne]
        exact .cons h1 h2 ih
  have app : ∀ {kvs : List (D × D)} {r : List (List Key × V)}, RTs K μ H kvs r → RTs K μ H (kvs ++ [(.tup ks, d)]) (r ++ [(key, v)]) := by
    intro kvs r h
    induction h with
    | nil => exact .cons hk rv .nil
    | cons h1 h2 t ih => exact .cons h1 h2 ih
  unfold putD putK
  rw [any h]
  split
  · exact mp h
  · exact app h
def sPutT (eo : Env → Sto → R F) (ea : Env → Sto → R (List D)) (ee : Env → Sto → R F) : Env → Sto → RS := fun ρ S => onE (eBox ee ρ S) ρ fun d S1 => onE (eo ρ S1) ρ fun x S2 => onE (ea ρ S2) ρ fun ks S3 => match putT x ks d S3 with
    | some S4 => .nx ρ S4
    | none => .bad
section
variable {X : Cx} {W : WX} {o e : Expr} {eo ee : Env → Sto → R F} {pos : Pos}
theorem pd_dict0T : PD X W (.Dict [] [] pos) eDict0T := PE.imp pe_dnewT fun σ H Q ⟨μ, S, ρ, r, re, p⟩ => fun q hq => by
  have k : Kp X.K μ H (μ ++ [q]) (upd H q (.dT [])) := by
    have kn : Kp X.K μ H μ (upd H q (.dT [])) := Kp.new hq
    refine ⟨⟨[q], rfl⟩, kn.tup, kn.kls, kn.frm, fun x hx => ?_, kn.liv, kn.xds, kn.fzs⟩
    rcases List.mem_append.mp hx with z | z
    · exact .inl z
    · simp only [List.mem_singleton] at z; subst z; exact .inr hq
  have rn : Rep X.K μ S (upd H q (.dT [])) := r.new hq
  refine p (μ ++ [q]) _ (.ref q) k (rn.box (r.notin hq) (.dT upd_same .nil) fun _ _ _ h => h.more) (.v (.loc ?_))
  rw [List.getElem?_append_right (by rw [r.len]; exact Nat.le_refl _), r.len]; simp
theorem pds_putT {tpos tpos2 : Pos} {kn : Nat} {es : List Expr} {ea : Env → Sto → R (List D)} (hu : X.A.units + 64 < cLine) (ho : PD X W o eo) (ha : PDA X W es ea) (he : PD X W e ee) (hs : swapsWith e (some (.Subscript o (.Tuple es kn tpos2) tpos)) pos.line X.env = pure false := by rfl) : PDS X W (.Assign [.Subscript o (.Tuple es kn tpos2) tpos] e pos) (sPutT eo ea ee) :=
  PS.imp (ps_dput (by omega) ho (pe_tup ha) (pd_box he) hs) fun E σ H ⟨μ, S, ρ, r, re, p⟩ => ⟨μ, S, ρ, r, re, PostS.onE p re fun d S1 μ1 H1 v _ k r1 rv p1 =>
    ⟨μ1, S1, ρ, r1, re.mono k, PostS.onE p1 (re.mono k) fun x S2 μ2 H2 u _ k2 r2 rx p2 =>
      ⟨μ2, S2, ρ, r2, (re.mono k).mono k2, PostS.onE p2 ((re.mono k).mono k2) fun ks S3 μ3 H3 vs _ k3 r3 rks p3 => by
        cases hz : putT x ks d S3 with
        | none => rw [hz] at p3; exact p3.elim
        | some S4 =>
          rw [hz] at p3
          unfold putT at hz
          split at hz
          rotate_left
          · cases hz
          rename_i n _
          split at hz
          rotate_left
          · cases hz
          rename_i kvs hS
          simp only [Option.ite_none_right_eq_some, Option.some.injEq] at hz
          obtain ⟨⟨hk, hl, hl2⟩, hz⟩ := hz
          subst hz
          obtain ⟨keys, hkeys⟩ := Option.isSome_iff_exists.mp hk
          obtain ⟨a, rfl, hn⟩ := (rx.mono k3).loc
          have ev := dKeys_v hkeys rks
          subst ev
          refine ⟨by rw [← rks.length]; exact Nat.le_trans hl2 (by decide), fun q hq => ?_⟩
          have kq : Kp X.K μ3 H3 μ3 (upd H3 q (.tup (keys.map kV))) := Kp.new hq
          have rq : Rep X.K μ3 S3 (upd H3 q (.tup (keys.map kV))) := r3.new hq
          cases rq.obj n _ a hS hn with
          | @dT _ _ rr g1 g2 =>
            have fr : Free (upd H3 q (.tup (keys.map kV))) a := .inr (.inr (.inr ⟨_, g1⟩))
            have k4 : Kp X.K μ3 (upd H3 q (.tup (keys.map kV))) μ3 (upd (upd H3 q (.tup (keys.map kV))) a (.dT (putK rr keys v))) := Kp.put fr (List.mem_of_getElem? hn)
            refine ⟨a, _, rfl, .inr ⟨rr, keys, q, g1, rfl, upd_same, by rw [← g2.length]; exact Nat.lt_of_le_of_lt hl (by decide), rfl⟩, p3 μ3 _ σ (kq.trans k4) (rq.put hn fr (.dT upd_same ((g2.put hkeys (((rv.mono k2).mono k3).mono kq)).mono k4))) (((((re.mono k).mono k2).mono k3).mono kq).mono k4)⟩⟩⟩⟩
end
end DL
/-! ## DHot -/
set_option maxHeartbeats 1000000
/-! a list walked while an exception is handled -/
namespace DL
open PySem PySem.Spec L2
theorem next_list_end_hot {prog : Program} {w : World} {A : Around} {E : Value → Shared → Prop} {s : Shared} {it ax x1 : Addr} {i : Nat} {items : Array Value} {Q : Option Value → Shared → Prop} (hot : HotX.HotAt A x1 s.heap) (hit : s.heap.IsListIter it ax i) (hl : s.heap.IsList ax items) (hi : items[i]? = none) (hne : x1 ≠ it)
    (hQ : ∀ (h' : Heap), (∀ (b : Addr) (o : Obj), b ≠ it → s.heap.get? b = some o → h'.get? b = some o) → Q none { heap := h', gens := s.gens, drawn := s.drawn, toks := s.toks, os := s.os }) :
    wpAny (model prog w) A (pyNext (.ref it)) Q E s := by
  have hT := Heap.IsListIter.typeIs hit
  obtain ⟨o, ho, hc, hd⟩ := hit
  obtain ⟨hh, o1, vs1, h1, d1, c1⟩ := hot
  refine wpAny_bind (wpAny_attempt (wpAny_callSpecial?_slot hT slot_listiter_next (wpAny_call_entry slot_listiter_next hT entry_listiter_next ?_)))
  refine wpAny_bind (wpAny_of_eq (t := slotArgs "__next__" 0 { pos := [Value.ref it] }) (a := (Value.ref it, [])) rfl ?_)
  refine wpAny_bind (wpAny_field ho hd rfl ?_)
  refine wpAny_bind (wpAny_field ho hd rfl ?_)
  obtain ⟨ol, hol, hcl, hdl⟩ := hl
  obtain ⟨nn, hdl⟩ := hdl
  refine wpAny_bind (wpAny_seqItems hol hdl ?_)
  have e : items[((i : Nat) : Int).toNat]? = none := by simpa using hi
  dsimp only
  rw [e]
  dsimp only
  refine wpAny_bind (wpAny_rule ?_)
  refine wpAny_bind (wpAny_setField ho hd (show (0 : Nat) < 2 by decide) ?_)
  have h1' : (s.heap.update it (Obj.mapFields fun x => x.setIfInBounds 0 Value.none)).get? x1 = some o1 := (Heap.get?_update_other _ _ (Ne.symm hne)).trans h1
  refine wpAny_bind ?_
  refine wpAny_bind (wpAny_newObj_type ?_ (show (0 : Nat) ≤ sizeLine by decide))
  refine wpAny_bind (wpAny_of_eq (a := _) (Eq.refl (firstArgMember (Value.type "StopIteration") [])) (wpAny_newObj_type (HotX.raiseNew_hot (x1 := x1) ⟨hh, o1, vs1, Heap.get?_push_of_some _ (Heap.get?_push_of_some _ h1'), d1, c1⟩ (Nat.ne_of_lt (Heap.lt_size (Heap.get?_push_of_some _ h1'))) (Heap.get?_push_size _ rfl) rfl ?_ ?_) ?_))
  · rw [Array.size_append]
    show 2 < 6 + _
    omega
  · refine wpAny_bind (wpAny_isInstance ⟨_, Heap.get?_update_self _ (Heap.get?_push_size _ rfl) rfl, rfl⟩ isSubtype_stop ?_)
    rw [if_pos rfl]
    refine wpAny_pure (hQ _ fun b o' hb e => ?_)
    have e1 := (Heap.get?_update_other s.heap (Obj.mapFields fun x => x.setIfInBounds 0 Value.none) (Ne.symm hb)).trans e
    have e2 := Heap.get?_push_of_some { cls := Value.type "tuple", data := Data.seq #[] } e1
    exact (Heap.get?_update_other _ _ (Nat.ne_of_gt (Heap.lt_size e2))).trans (Heap.get?_push_of_some _ e2)
  · have h9 : (ownMembersOf (Value.type "StopIteration") []).size ≤ 1000 := by decide +kernel
    simp only [sizeOk]
    rw [Array.size_append]
    show 6 + _ ≤ _
    have : sizeLine = 16777216 := by decide
    omega
theorem hot_mono {A : Around} {x1 : Addr} {h h' : Heap} (hot : HotX.HotAt A x1 h) (k : ∀ o, h.get? x1 = some o → h'.get? x1 = some o) : HotX.HotAt A x1 h' := by
  obtain ⟨hh, o1, vs1, h1, d⟩ := hot
  exact ⟨hh, o1, vs1, k _ h1, d⟩
theorem walks_list_hot {prog : Program} {w : World} {A : Around} {I ax x1 : Addr} (hne : ax ≠ I) (hx : x1 ≠ I) (items : Array Value) :
    Walks prog w A I [I, ax, x1] [I] items.size (fun i v => items[i]? = some v) (fun i h => (h.IsListIter I ax i ∧ h.IsList ax items) ∧ HotX.HotAt A x1 h) where
  sub := fun b hb => by simp only [List.mem_singleton] at hb; simp [hb]
  frame := fun i h h' st hk => ⟨⟨Heap.IsListIter.at st.1.1 fun o e => hk I (by simp) o e, Heap.IsList.at st.1.2 fun o e => hk ax (by simp) o e⟩, hot_mono st.2 fun o e => hk x1 (by simp) o e⟩
  item := fun i s Q E hi st hQ => wpAny_pyNext_list_item st.1.1 st.1.2 (Array.getElem?_eq_getElem hi) fun h' hit' hs' =>
    hQ items[i] h' s.toks (Array.getElem?_eq_getElem hi) ⟨⟨hit', Heap.IsList.extBut st.1.2 (Heap.SameBut.extBut hs') hne⟩, hot_mono st.2 fun o e => Heap.SameBut.extBut hs' x1 o hx e⟩ fun b o hb e => Heap.SameBut.extBut hs' b o (fun q => hb (by simp [q])) e
  done := fun s Q E st hQ => next_list_end_hot st.2 st.1.1 st.1.2 (by simp) hx fun h' he => hQ h' s.toks fun b o hb e => he b o (fun q => hb (by simp [q])) e
  self := fun i s Q E st hQ => wpAny_pyIter_listiter st.1.1 hQ
end DL
/-! ## DMinH -/
set_option maxHeartbeats 1000000
/-! min(list), also within an except suite -/
namespace DL
open PySem PySem.Spec L2
theorem cr_minH {X : Cx} {a : Addr} {oe : Obj} {pn : List (Addr × Obj)} {cls : Value} {d : Option Addr} (hz : L2N.Zn cls d oe) (hf : ∃ vs, oe.data = .fields vs) :
    CallR (X.suite a ((a, oe) :: pn)) (.builtin "min") (rMin X.K) := by
  rintro pins s σ H vs us Q I r ⟨b, ns, rfl, hs, hne, q⟩
  have e := Vals.ref1 r
  subst e
  obtain ⟨its, rv, hl, _⟩ := Inv.list I hs
  have hi := Vals.ints rv
  have hL := PlainL.isList hl
  obtain ⟨xs, e⟩ := AllInts.items (PyProof.Rows.IntsAre.allInts hi)
  rw [e] at hL
  have hn : ns = xs.toList.map (·.1) := by
    have := PyProof.Rows.IntsAre.numsOf hi
    have e2 : its = (intItems xs).toList := by rw [← e]
    rw [e2, nums_intItems] at this
    exact this.symm
  subst hn
  have pin := (I.pin (a, oe) (by simp)).1
  have hot : HotX.HotAt (X.suite a ((a, oe) :: pn)).A.in1 a s.heap := by
    obtain ⟨vs, hv⟩ := hf
    exact ⟨rfl, oe, vs, pin, hv, hz.2.2 vs hv⟩
  have hsz : (intItems xs).size = xs.size := by simp [intItems]
  have hpos : 0 < xs.size := by
    rcases Nat.eq_zero_or_pos xs.size with h | h
    · have hx : xs = #[] := Array.eq_empty_of_size_eq_zero h
      subst hx
      exact absurd hne (by decide)
    · exact h
  have hna : a ≠ s.heap.objs.size := Nat.ne_of_lt (Heap.lt_size pin)
  refine call_min_walk (iter_intList hL fun s₂ e2 hit hb hne2 => ?_)
  have hW := walks_list_hot (prog := X.prog) (w := X.w) (A := (X.suite a ((a, oe) :: pn)).A.in1) (x1 := a) hne2 hna (intItems xs)
  have old : ∀ (b : Addr) (u : Obj), s.heap.get? b = some u → s₂.heap.get? b = some u := fun b u hu => by subst e2; exact Heap.get?_push_of_some _ hu
  refine ⟨s.heap.objs.size, [s.heap.objs.size, b, a], [s.heap.objs.size], (intItems xs).size, _, _, fun i j => decide (numAt xs i < numAt xs j), rfl, hW, ⟨hit, hot_mono hot fun o ho => old _ _ ho⟩, fun c hc => ?_, by rw [hsz]; exact hpos, CmpOf.ints_lt (numAt xs) fun i v h => intItems_at h, fun v h' tk h1 hk => ?_⟩
  · simp only [List.mem_cons, List.not_mem_nil, or_false] at hc
    rcases hc with rfl | rfl | rfl
    · exact hb _ (by simp)
    · exact hb _ (by simp)
    · exact Heap.lt_size (old _ _ pin)
  · have kp : ∀ (b : Addr) (u : Obj), s.heap.get? b = some u → h'.get? b = some u := fun b u hu => hk b u (by
      simp only [List.mem_singleton]
      exact Nat.ne_of_lt (Heap.lt_size hu)) (old b u hu)
    have hs2 : ({ heap := h', gens := s₂.gens, drawn := s₂.drawn, toks := tk, os := s₂.os } : Shared) = { heap := h', gens := s.gens, drawn := s.drawn, toks := tk, os := s.os } := by subst e2; rfl
    rw [hs2]
    obtain ⟨t, e3⟩ := intItems_at h1
    rw [hsz] at e3
    subst e3
    obtain ⟨b1, b2⟩ := argBest_lt (numAt xs) (xs.size - 1)
    refine ⟨.int _, H, Inv.kept I kp, ⟨t, rfl⟩, q _ ?_ fun y hy => ?_⟩
    · rw [numAt_eq]
      refine getD_mem ?_
      rw [List.length_map, Array.length_toList]
      omega
    · obtain ⟨j, hj, e4⟩ := mem_getD hy
      rw [List.length_map, Array.length_toList] at hj
      rw [← e4, ← numAt_eq xs j]
      exact b2 j (by omega)
/-! as functions of data -/
def min1F (f : F) (S : Sto) : Option F := (getL f S).bind fun ds => (intsOf ds).bind fun ns => if ns = [] then none else some (.v (minD ns))
theorem min1_of {X : Cx} (h : CallR X (.builtin "min") (rMin X.K)) : CallR X (.builtin "min") (rCB X.K (f1 min1F)) := cb_1 h fun μ S H a z x H0 Q r ra hz q => by
  unfold min1F at hz
  cases hl : getL a S with
  | none => rw [hl] at hz; cases hz
  | some ds =>
    rw [hl] at hz
    cases hi : intsOf ds with
    | none => simp only [Option.bind_some, hi] at hz; cases hz
    | some ns =>
      simp only [Option.bind_some, hi, Option.ite_none_left_eq_some, Option.some.injEq] at hz
      obtain ⟨hne, hz⟩ := hz
      subst hz
      have e := intsOf_some hi
      subst e
      obtain ⟨p, vs, rfl, g1, g2⟩ := getL_ok r ra hl
      refine ⟨p, ns, rfl, by rw [← g2.ints]; exact g1, List.length_pos_iff.mpr hne, fun m hm hle => ?_⟩
      cases ns with
      | nil => exact absurd rfl hne
      | cons n ns =>
        have := min_fold ns n m hm hle
        have e : minD (n :: ns) = .int m := by show D.int _ = _; rw [this]
        rw [e] at q
        exact q H _ .refl r (.v .int)
theorem d_min1 {X : Cx} (hc : X.calm = true) : CallR X (.builtin "min") (rCB X.K (f1 min1F)) := min1_of (cr_min hc)
theorem d_minH {X : Cx} {a : Addr} {oe : Obj} {pn : List (Addr × Obj)} {cls : Value} {d : Option Addr} (hz : L2N.Zn cls d oe) (hf : ∃ vs, oe.data = .fields vs) : CallR (X.suite a ((a, oe) :: pn)) (.builtin "min") (rCB X.K (f1 min1F)) := min1_of (cr_minH hz hf)
end DL
/-! ## DSortT -/
set_option maxHeartbeats 1000000
/-! sorted over tuples of ints: a list of them, a dict whose keys they are -/
namespace DL
open PySem PySem.Spec L2
theorem tups_of {K : PySem.W.Frag} {H : Hp} : ∀ {kvs : List (List Key × V)} {ks : List (List Key × Addr × Value)} {nss : List (List Int)}, KT H kvs ks → kvs.map (·.1) = nss.map (fun ns => ns.map Sum.inl) → Paired (fun x ns => TupI K H x ns) (ks.map fun q => V.ref q.2.1) nss
  | [], [], nss, _, e => by
    cases nss with
    | nil => exact .nil
    | cons _ _ => cases e
  | p :: kvs, q :: ks, nss, .cons h t, e => by
    cases nss with
    | nil => cases e
    | cons n nss =>
      injection e with e1 e2
      refine .cons ⟨q.2.1, rfl, .inl (.inl ?_)⟩ (tups_of t e2)
      have h2 := h.2.1
      have e1 : p.1 = n.map Sum.inl := e1
      rw [e1, List.map_map] at h2
      exact h2
theorem paired_all {α β : Type} {R : α → β → Prop} : ∀ {xs : List α} {ys : List β}, Paired R xs ys → ∀ x ∈ xs, ∃ y ∈ ys, R x y
  | _, _, .nil, x, h => nomatch h
  | _, _, .cons r t, x, h => by
    rcases List.mem_cons.mp h with rfl | h
    · exact ⟨_, by simp, r⟩
    · obtain ⟨y, h1, h2⟩ := paired_all t x h
      exact ⟨y, by simp [h1], h2⟩
theorem call_sortedDT {X : Cx} {d : Nat} {B : Int} (hc : X.calm = true) (hd : 1 ≤ d) : CallR X (.builtin "sorted") (fun xs H Q => ∃ (a : Addr) (kvs : List (List Key × V)) (nss : List (List Int)), xs = [V.ref a] ∧ Rd H a (.dT kvs) ∧ kvs.map (·.1) = nss.map (fun ns => ns.map Sum.inl) ∧ kvs.length < 64 ∧ (∀ ns ∈ nss, ns.length = d ∧ TS.Bd B ns) ∧
    ∀ (ys bs : List V) (p : Addr), Paired (fun x ns => TupI X.K H x ns) bs nss → ys.Perm bs → ys.Pairwise (fun x y => ∀ n m, TupI X.K H x n → TupI X.K H y m → TS.code B n ≤ TS.code B m) → H p = none → Q (.ref p) (upd H p (.lst ys))) := by
  rintro pins s σ H xs us Q I r ⟨a, kvs, nss, rfl, hR, hks, h64, hB, q⟩
  have e := Vals.ref1 r
  subst e
  obtain ⟨hz, hs, ks, pr, o, es, ep, ho, hx, hdt, he, _⟩ := Rd.ok hR I.hok
  have l1 := size_of_entries he
  have l2 := Paired.length pr
  have h16 : es.size ≤ sizeLine := by
    have : sizeLine = 16777216 := by decide
    omega
  have pt := tups_of (K := X.K) pr hks
  refine Calls.call_function_entry PyProof.Rows.kind_sorted PyProof.Rows.plain_sorted PyProof.Rows.entry_sorted (PyProof.Rows.args_sorted1 _) (id (wpAny_bind (wpAny_pure (wpAny_bind (W.kdu_collect (kdl_raw hs hx hdt) (I.ok.hd hc) ho h16 fun h' tk acc hk' hacc => ?_)))))
  have ea : acc.toList = ks.map fun q => Value.ref q.2.1 := by
    refine List.ext_getElem? fun j => ?_
    rw [List.getElem?_map]
    cases hj : acc.toList[j]? with
    | none =>
      have h1 := List.getElem?_eq_none_iff.mp hj
      have : acc.toList.length = es.size := by rw [Array.length_toList]; exact hacc.1
      rw [List.getElem?_eq_none (by omega)]; rfl
    | some v =>
      obtain ⟨en, hen, hv⟩ := hacc.2 j v (by rw [← Array.getElem?_toList]; exact hj)
      have qe := entry_at he j
      rw [hen] at qe
      cases hb : ks[j]? with
      | none => rw [hb] at qe; cases qe
      | some b =>
        rw [hb] at qe
        have e2 := Option.some.inj qe
        rw [hv, e2]; rfl
  have refs : ∀ v ∈ acc.toList, ∃ t ns, v = .ref t ∧ TS.TupInts s.heap v ns ∧ ns.length = d ∧ TS.Bd B ns := by
    intro v hv
    rw [ea] at hv
    obtain ⟨x, hx, rfl⟩ := List.mem_map.mp hv
    obtain ⟨ns, hns, t, et, ht⟩ := paired_all pt (V.ref x.2.1) (List.mem_map.mpr ⟨x, hx, rfl⟩)
    cases et
    exact ⟨x.2.1, ns, rfl, tupI_raw I ht, (hB ns hns).1, (hB ns hns).2⟩
  have hal : acc.toList.length < 64 := by rw [ea, List.length_map]; omega
  refine wpAny_bind (wpAny_newList ?_ (by have : sizeLine = 16777216 := by decide
                                          omega))
  have hoL : (h'.push (PyProof.Rows.seqObj "list" acc.toList.toArray 0)).get? h'.objs.size = some (PyProof.Rows.seqObj "list" acc.toList.toArray 0) := Heap.get?_push_size h' rfl
  have keep : ∀ (b : Addr) (o : Obj), s.heap.get? b = some o → o.cls = Value.type "tuple" → (h'.push (PyProof.Rows.seqObj "list" acc.toList.toArray 0)).get? b = some o := fun b o hb _ => Heap.get?_push_of_some _ (hk' b o hb)
  refine id (wpAny_bind (wpAny_holding (wpAny_call_entry PyProof.Rows.slot_list_sort ⟨PyProof.Rows.seqObj "list" acc.toList.toArray 0, hoL, rfl⟩ PyProof.Rows.entry_list_sort
    (TS.sort_tups (B := B) hoL hal hd (fun v hv => ?_) (fun v => TS.code B (TS.intsOf s.heap v)) (fun v hv ns t => ?_) fun out a1 a2 => ?_) (PyProof.Rows.args_list_sort _))))
  · obtain ⟨t, ns, e1, e2, e3, e4⟩ := refs v hv
    exact ⟨ns, e2.keeps keep, e3, e4⟩
  · obtain ⟨t', ns0, e1, e2, e3, e4⟩ := refs v hv
    have h1 := (e2.keeps keep).ints
    have h2 := t.ints
    rw [h1] at h2
    show TS.code B (TS.intsOf s.heap v) = _
    rw [e2.ints, h2]
  · refine ⟨Value.none, rfl, wpAny_pure ⟨_, rfl, ?_⟩⟩
    obtain ⟨e', he'⟩ := PyProof.Rows.sortedHeap_at (out := out) hoL
    have hrefs : ∀ u ∈ out.toList, ∃ t ns, u = Value.ref t ∧ TS.TupInts s.heap u ns ∧ ns.length = d ∧ TS.Bd B ns := fun u hu => refs u (a1.mem_iff.mp hu)
    have h3 : ∀ u ∈ out.toList, ∃ t, u = Value.ref t := fun u hu => by
      obtain ⟨t, _, h, _⟩ := hrefs u hu
      exact ⟨t, h⟩
    have hp : (out.toList.map bkV).Perm (ks.map fun q => V.ref q.2.1) := by
      have := a1.map bkV
      rw [ea, List.map_map] at this
      exact this
    have I1 := Inv.kept I (t' := tk) hk'
    have hlen : (out.toList.map bkV).length ≤ sizeLine := by
      have q := hp.length_eq
      simp only [List.length_map] at q ⊢
      have : sizeLine = 16777216 := by decide
      omega
    refine ⟨V.ref h'.objs.size, upd H h'.objs.size (.lst (out.toList.map bkV)), Inv.laid (s := { heap := h', gens := s.gens, drawn := s.drawn, toks := tk, os := s.os }) I1 (fun b u e => ?_) (Nat.le_refl _) ⟨hlen, out.toList, e', bkV_vals h3, he'⟩, rfl, q _ _ _ pt hp ?_ (I1.hok.fresh (Nat.le_refl _))⟩
    · have hb := Heap.lt_size e
      rw [PyProof.Rows.sortedHeap_old (Nat.ne_of_lt hb) (by rw [Heap.size_push]; exact Nat.lt_succ_of_lt hb)]
      exact Heap.get?_push_of_some _ e
    · rw [List.pairwise_map]
      refine a2.imp fun {u v} huv n m hn hm => ?_
      obtain ⟨t, et, ht⟩ := hn
      obtain ⟨t', et', ht'⟩ := hm
      have i1 : TS.intsOf s.heap u = n := by rw [bkV_ref et]; exact (tupI_raw I ht).ints
      have i2 : TS.intsOf s.heap v = m := by rw [bkV_ref et']; exact (tupI_raw I ht').ints
      rw [← i1, ← i2]
      exact huv
end DL
/-! ## DSortA -/
set_option maxHeartbeats 1000000
/-! sorted, as a function of data: ints, or tuples of ints -/
namespace DL
open PySem PySem.Spec L2
def lexLe : List Int → List Int → Bool
  | [], _ => true
  | _ :: _, [] => false
  | a :: as, b :: bs => if a < b then true else if b < a then false else lexLe as bs
theorem lexLe_refl : ∀ a, lexLe a a = true
  | [] => rfl
  | a :: as => by simp only [lexLe, Int.lt_irrefl, if_false]; exact lexLe_refl as
theorem lexLe_total : ∀ a b, (lexLe a b || lexLe b a) = true
  | [], _ => rfl
  | _ :: _, [] => rfl
  | a :: as, b :: bs => by
    simp only [lexLe]
    by_cases h : a < b
    · rw [if_pos h]; rfl
    · by_cases h2 : b < a
      · simp only [if_neg h, if_pos h2, Bool.or_true]
      · simp only [if_neg h, if_neg h2]
        exact lexLe_total as bs
theorem lexLe_trans : ∀ a b c, lexLe a b = true → lexLe b c = true → lexLe a c = true
  | [], _, _, _, _ => rfl
  | _ :: _, [], _, h, _ => by cases h
  | _ :: _, _ :: _, [], _, h => by cases h
  | a :: as, b :: bs, c :: cs, h1, h2 => by
    simp only [lexLe] at *
    split at h1
    · split at h2
      · rw [if_pos (by omega)]
      · split at h2
        · cases h2
        · rw [if_pos (by omega)]
    · split at h1
      · cases h1
      · split at h2
        · rw [if_pos (by omega)]
        · split at h2
          · cases h2
          · rw [if_neg (by omega), if_neg (by omega)]
            exact lexLe_trans as bs cs h1 h2
theorem lexLe_antisymm : ∀ a b, lexLe a b = true → lexLe b a = true → a = b
  | [], [], _, _ => rfl
  | [], _ :: _, _, h => by cases h
  | _ :: _, [], h, _ => by cases h
  | a :: as, b :: bs, h1, h2 => by
    simp only [lexLe] at *
    by_cases h : a < b
    · rw [if_neg (by omega), if_pos h] at h2; cases h2
    · rw [if_neg h] at h1
      by_cases h' : b < a
      · rw [if_pos h'] at h1; cases h1
      · rw [if_neg h'] at h1
        rw [if_neg h', if_neg h] at h2
        have e : a = b := by omega
        rw [e, lexLe_antisymm as bs h1 h2]
def srtT (nss : List (List Int)) : List (List Int) := nss.mergeSort lexLe
theorem srtT_of {ns ms : List (List Int)} (hp : ms.Perm ns) (hs : ms.Pairwise (fun a b => lexLe a b = true)) : ms = srtT ns := by
  unfold srtT
  refine List.Perm.eq_of_pairwise (le := fun a b => lexLe a b = true) (fun a b _ _ h1 h2 => lexLe_antisymm a b h1 h2) hs ?_ (hp.trans (List.mergeSort_perm ns _).symm)
  exact List.pairwise_mergeSort (fun a b c => lexLe_trans a b c) (fun a b => lexLe_total a b) ns
theorem code_cons (B d : Int) (r : List Int) : TS.code B (d :: r) = d * B ^ r.length + TS.code B r := rfl
theorem code_bd {B : Int} : ∀ {ns : List Int}, TS.Bd B ns → 0 ≤ TS.code B ns ∧ TS.code B ns < B ^ ns.length
  | [], _ => ⟨Int.le_refl 0, by show (0 : Int) < B ^ 0; simp⟩
  | d :: r, h => by
    have hd := h d (by simp)
    have ih := code_bd (ns := r) (fun m hm => h m (by simp [hm]))
    rw [code_cons]
    have hB : 0 < B := by omega
    have hp : 0 ≤ B ^ r.length := Int.le_of_lt (Int.pow_pos hB)
    constructor
    · have : 0 ≤ d * B ^ r.length := Int.mul_nonneg hd.1 hp
      omega
    · have h1 : (d + 1) * B ^ r.length ≤ B * B ^ r.length := Int.mul_le_mul_of_nonneg_right (by omega) hp
      have h2 : (d + 1) * B ^ r.length = d * B ^ r.length + B ^ r.length := by rw [Int.add_mul, Int.one_mul]
      have h3 : B ^ (d :: r).length = B * B ^ r.length := by rw [List.length_cons, Int.pow_succ, Int.mul_comm]
      omega
theorem code_lex {B : Int} : ∀ {a b : List Int}, a.length = b.length → TS.Bd B a → TS.Bd B b → TS.code B a ≤ TS.code B b → lexLe a b = true
  | [], _, _, _, _, _ => rfl
  | _ :: _, [], h, _, _, _ => by cases h
  | a :: as, b :: bs, hl, ha, hb, h => by
    have hl' : as.length = bs.length := by simpa using hl
    have iha := code_bd (ns := as) (fun m hm => ha m (by simp [hm]))
    have ihb := code_bd (ns := bs) (fun m hm => hb m (by simp [hm]))
    rw [code_cons, code_cons, ← hl'] at h
    rw [← hl'] at ihb
    have h0 := ha a (by simp)
    have hB : 0 < B := by omega
    have hp : 0 ≤ B ^ as.length := Int.le_of_lt (Int.pow_pos hB)
    simp only [lexLe]
    by_cases h1 : a < b
    · rw [if_pos h1]
    · rw [if_neg h1]
      by_cases h2 : b < a
      · exfalso
        have h3 : (b + 1) * B ^ as.length ≤ a * B ^ as.length := Int.mul_le_mul_of_nonneg_right (by omega) hp
        rw [Int.add_mul, Int.one_mul] at h3
        omega
      · rw [if_neg h2]
        have e : a = b := by omega
        subst e
        exact code_lex hl' (fun m hm => ha m (by simp [hm])) (fun m hm => hb m (by simp [hm])) (by omega)
def tupD (ns : List Int) : D := .tup (ns.map .int)
def tupsOf : List D → Option (List (List Int))
  | [] => some []
  | .tup ds :: es => (intsOf ds).bind fun ns => (tupsOf es).map (ns :: ·)
  | _ => none
theorem tupsOf_some : ∀ {ds : List D} {nss : List (List Int)}, tupsOf ds = some nss → ds = nss.map tupD
  | [], nss, h => by cases h; rfl
  | .tup ds :: es, nss, h => by
    have h : ((intsOf ds).bind fun ns => (tupsOf es).map (ns :: ·)) = some nss := h
    cases h1 : intsOf ds with
    | none => rw [h1] at h; cases h
    | some ns =>
      rw [h1] at h
      cases h2 : tupsOf es with
      | none => rw [h2] at h; cases h
      | some r =>
        rw [h2] at h
        cases h
        rw [tupsOf_some h2, intsOf_some h1]; rfl
  | .non :: _, _, h => by cases h
  | .bl _ :: _, _, h => by cases h
  | .int _ :: _, _, h => by cases h
  | .str _ :: _, _, h => by cases h
  | .kl _ :: _, _, h => by cases h
  | .loc _ :: _, _, h => by cases h
  | .exc _ _ _ _ :: _, _, h => by cases h
@[simp] theorem tupsOf_map (nss : List (List Int)) : tupsOf (nss.map tupD) = some nss := by
  induction nss with
  | nil => rfl
  | cons n nss ih =>
    show ((intsOf (n.map D.int)).bind fun ns => (tupsOf (nss.map tupD)).map (ns :: ·)) = _
    rw [intsOf_map, ih]; rfl
def okT (nss : List (List Int)) : Bool := decide (nss.length < 64) && nss.all (fun ns => decide (1 ≤ ns.length) && decide (ns.length = (nss.headD []).length) && ns.all fun i => decide (0 ≤ i))
theorem bound_of : ∀ (nss : List (List Int)), (∀ ns ∈ nss, ∀ i ∈ ns, 0 ≤ i) → ∃ B, ∀ ns ∈ nss, TS.Bd B ns := by
  have one : ∀ (ns : List Int), ∃ B : Int, ∀ i ∈ ns, i < B := by
    intro ns
    induction ns with
    | nil => exact ⟨0, nofun⟩
    | cons n ns ih =>
      obtain ⟨B, hB⟩ := ih
      refine ⟨max B (n + 1), fun i hi => ?_⟩
      rcases List.mem_cons.mp hi with rfl | hi
      · omega
      · have := hB i hi; omega
  intro nss
  induction nss with
  | nil => exact fun _ => ⟨0, nofun⟩
  | cons n nss ih =>
    intro h
    obtain ⟨B, hB⟩ := ih fun ns hn => h ns (by simp [hn])
    obtain ⟨C, hC⟩ := one n
    refine ⟨max B C, fun ns hns i hi => ⟨h ns hns i hi, ?_⟩⟩
    rcases List.mem_cons.mp hns with rfl | hns
    · have := hC i hi; omega
    · have := (hB ns hns i hi).2; omega
theorem okT_some {nss : List (List Int)} (h : okT nss = true) : nss.length < 64 ∧ ∃ d B, 1 ≤ d ∧ ∀ ns ∈ nss, ns.length = d ∧ TS.Bd B ns := by
  unfold okT at h
  rw [Bool.and_eq_true, decide_eq_true_eq, List.all_eq_true] at h
  obtain ⟨hl, h⟩ := h
  have h : ∀ ns ∈ nss, (1 ≤ ns.length ∧ ns.length = (nss.headD []).length) ∧ ∀ i ∈ ns, 0 ≤ i := fun ns hn => by
    have := h ns hn
    simpa only [Bool.and_eq_true, decide_eq_true_eq, List.all_eq_true] using this
  obtain ⟨B, hB⟩ := bound_of nss fun ns hn => (h ns hn).2
  refine ⟨hl, ?_⟩
  cases nss with
  | nil => exact ⟨1, B, Nat.le_refl _, nofun⟩
  | cons n nss => exact ⟨n.length, B, (h n (by simp)).1.1, fun ns hn => ⟨(h ns hn).1.2, hB ns hn⟩⟩
def sortT (f : F) (S : Sto) : Option F := match f with
  | .v (.loc n) => (match S[n]? with
    | some (.dtt kvs) => (tupsOf (kvs.map (·.1))).bind fun nss => if okT nss then some (.l ((srtT nss).map tupD)) else none
    | some (.fzt kvs) => (tupsOf (kvs.map (·.1))).bind fun nss => if okT nss then some (.l ((srtT nss).map tupD)) else none
    | _ => (getL f S).bind fun ds => (tupsOf ds).bind fun nss => if okT nss then some (.l ((srtT nss).map tupD)) else none)
  | f => (getL f S).bind fun ds => (tupsOf ds).bind fun nss => if okT nss then some (.l ((srtT nss).map tupD)) else none
def sortA (f : F) (S : Sto) : Option F := match sortF f S with
  | some z => some z
  | none => sortT f S
section
variable {K : PySem.W.Frag} {μ : List Addr} {H : Hp}
theorem rv_tup {ns : List Int} {x : V} (h : RV K μ H (tupD ns) x) : TupI K H x ns := by
  cases h with
  | tup h1 h2 => exact ⟨_, rfl, by rw [← h2.ints]; exact h1⟩
theorem tup_rv {ns : List Int} {x : V} (h : TupI K H x ns) : RV K μ H (tupD ns) x := by
  obtain ⟨t, rfl, h⟩ := h
  exact .tup h (RVs.of_ints _)
theorem perm_rv : ∀ {ys xs : List V}, ys.Perm xs → ∀ {nss : List (List Int)}, RVs K μ H (nss.map tupD) xs → ∃ nss' : List (List Int), nss'.Perm nss ∧ RVs K μ H (nss'.map tupD) ys := by
  intro ys xs h
  induction h with
  | nil => exact fun {nss} r => by cases nss with
    | nil => exact ⟨[], .refl _, .nil⟩
    | cons _ _ => cases r
  | cons x p ih => exact fun {nss} r => by cases nss with
    | nil => cases r
    | cons n nss =>
      cases r with
      | cons r1 r2 =>
        obtain ⟨nss', h1, h2⟩ := ih r2
        exact ⟨n :: nss', h1.cons n, .cons r1 h2⟩
  | swap x y l => exact fun {nss} r => by cases nss with
    | nil => cases r
    | cons n nss =>
      cases nss with
      | nil => cases r with | cons r1 r2 => cases r2
      | cons m nss =>
        cases r with
        | cons r1 r2 =>
          cases r2 with
          | cons r2 r3 => exact ⟨m :: n :: nss, .swap _ _ _, .cons r2 (.cons r1 r3)⟩
  | trans p q ih1 ih2 =>
    intro nss r
    obtain ⟨n1, h1, h2⟩ := ih2 r
    obtain ⟨n2, h3, h4⟩ := ih1 h2
    exact ⟨n2, h3.trans h1, h4⟩
theorem lex_of {d : Nat} {B : Int} : ∀ {nss : List (List Int)} {ys : List V}, RVs K μ H (nss.map tupD) ys → (∀ ns ∈ nss, ns.length = d ∧ TS.Bd B ns) → ys.Pairwise (fun x y => ∀ n m, TupI K H x n → TupI K H y m → TS.code B n ≤ TS.code B m) → nss.Pairwise (fun a b => lexLe a b = true)
  | [], _, _, _, _ => .nil
  | n :: nss, ys, r, hb, h => by
    cases r with
    | @cons _ y _ ys r1 r2 =>
      cases h with
      | cons h1 h2 =>
        refine .cons (fun m hm => ?_) (lex_of r2 (fun ns hn => hb ns (by simp [hn])) h2)
        obtain ⟨i, hi⟩ := List.mem_iff_getElem?.mp hm
        obtain ⟨v, hv, rv⟩ := r2.get (i := i) (d := tupD m) (by rw [List.getElem?_map, hi]; rfl)
        have := h1 v (List.mem_of_getElem? hv) n m (rv_tup r1) (rv_tup rv)
        have b1 := hb n (by simp)
        have b2 := hb m (by simp [hm])
        exact code_lex (b1.1.trans b2.1.symm) b1.2 b2.2 this
theorem paired_rv : ∀ {bs : List V} {nss : List (List Int)}, Paired (fun x ns => TupI K H x ns) bs nss → RVs K μ H (nss.map tupD) bs
  | _, _, .nil => .nil
  | _, _, .cons h t => .cons (tup_rv h) (paired_rv t)
end
theorem RTs.tups {K : PySem.W.Frag} {μ : List Addr} {H : Hp} : ∀ {kvs : List (D × D)} {r : List (List Key × V)} {nss : List (List Int)}, RTs K μ H kvs r → kvs.map (·.1) = nss.map tupD → r.map (·.1) = nss.map (fun ns => ns.map Sum.inl)
  | _, _, nss, .nil, e => by cases nss with
    | nil => rfl
    | cons _ _ => cases e
  | _, _, nss, .cons h1 h2 t, e => by
    cases nss with
    | nil => cases e
    | cons n nss =>
      injection e with e1 e2
      have e1 : D.tup _ = D.tup (n.map D.int) := e1
      cases e1
      have hk : ∀ (n : List Int), dKeys (n.map D.int) = some (n.map Sum.inl) := fun n => by
        induction n with
        | nil => rfl
        | cons i n ih =>
          show (match dKey (D.int i), dKeys (n.map D.int) with
            | some k, some ks => some (k :: ks)
            | _, _ => none) = _
          rw [ih]; rfl
      rw [hk] at h1
      cases h1
      simp only [List.map_cons]
      rw [RTs.tups t e2]
theorem d_sortedA {X : Cx} (hc : X.calm = true) : CallR X (.builtin "sorted") (rCB X.K (f1 sortA)) := by
  have hT : CallR X (.builtin "sorted") (fun xs H Q => ∃ d B, 1 ≤ d ∧ rSortU X.K d B xs H Q) := fun pins s σ H xs us Q I r ⟨d, B, hd, h⟩ => cr_sortT hd pins s σ H xs us Q I r h
  have hD : CallR X (.builtin "sorted") (fun xs H Q => ∃ d B, 1 ≤ d ∧ ∃ (a : Addr) (kvs : List (List Key × V)) (nss : List (List Int)), xs = [V.ref a] ∧ Rd H a (.dT kvs) ∧ kvs.map (·.1) = nss.map (fun ns => ns.map Sum.inl) ∧ kvs.length < 64 ∧ (∀ ns ∈ nss, ns.length = d ∧ TS.Bd B ns) ∧
    ∀ (ys bs : List V) (p : Addr), Paired (fun x ns => TupI X.K H x ns) bs nss → ys.Perm bs → ys.Pairwise (fun x y => ∀ n m, TupI X.K H x n → TupI X.K H y m → TS.code B n ≤ TS.code B m) → H p = none → Q (.ref p) (upd H p (.lst ys))) := fun pins s σ H xs us Q I r ⟨d, B, hd, h⟩ => call_sortedDT hc hd pins s σ H xs us Q I r h
  have hTD : CallR X (.builtin "sorted") (rCB X.K (f1 sortT)) := cb_1 (cb_or hT hD) fun μ S H a z x H0 Q r ra hz q => by
    have goL : ((getL a S).bind fun ds => (tupsOf ds).bind fun nss => if okT nss then some (F.l ((srtT nss).map tupD)) else none) = some z → ∃ d B, 1 ≤ d ∧ rSortU X.K d B [x] H Q := fun hz => by
      cases hl : getL a S with
      | none => rw [hl] at hz; cases hz
      | some ds =>
        rw [hl] at hz
        cases hb : tupsOf ds with
        | none => simp only [Option.bind_some, hb] at hz; cases hz
        | some nss =>
          simp only [Option.bind_some, hb, Option.ite_none_right_eq_some, Option.some.injEq] at hz
          obtain ⟨hok, hz⟩ := hz
          subst hz
          obtain ⟨h64, d, B, hd, hB⟩ := okT_some hok
          have e := tupsOf_some hb
          subst e
          obtain ⟨p, vs, rfl, h1, h2⟩ := getL_ok r ra hl
          refine ⟨d, B, hd, p, vs, rfl, h1, by rw [← h2.length, List.length_map]; exact h64, fun v hv => ?_, fun ys np hp hs hn => ?_⟩
          · obtain ⟨i, hi⟩ := List.mem_iff_getElem?.mp hv
            have hlt : i < nss.length := by
              have := (List.getElem?_eq_some_iff.mp hi).1
              rw [← h2.length, List.length_map] at this
              exact this
            obtain ⟨w, hw, rw'⟩ := h2.get (i := i) (d := tupD nss[i]) (by rw [List.getElem?_map, List.getElem?_eq_getElem hlt]; rfl)
            rw [hi] at hw; cases hw
            exact ⟨nss[i], rv_tup rw', hB _ (List.getElem_mem hlt)⟩
          · obtain ⟨nss', p1, p2⟩ := perm_rv hp h2
            have := srtT_of p1 (lex_of p2 (fun ns hn => hB ns (p1.mem_iff.mp hn)) hs)
            rw [this] at p2
            exact new_l (μ' := μ) r p2 hn q
    have goD : ∀ {n : Nat} {p : Addr} {kvs : List (D × D)} {rr : List (List Key × V)}, x = .ref p → Rd H p (.dT rr) → RTs X.K μ H kvs rr → ((tupsOf (kvs.map (·.1))).bind fun nss => if okT nss then some (F.l ((srtT nss).map tupD)) else none) = some z →
        ∃ d B, 1 ≤ d ∧ ∃ (a : Addr) (kvs : List (List Key × V)) (nss : List (List Int)), [x] = [V.ref a] ∧ Rd H a (.dT kvs) ∧ kvs.map (·.1) = nss.map (fun ns => ns.map Sum.inl) ∧ kvs.length < 64 ∧ (∀ ns ∈ nss, ns.length = d ∧ TS.Bd B ns) ∧
    ∀ (ys bs : List V) (p : Addr), Paired (fun x ns => TupI X.K H x ns) bs nss → ys.Perm bs → ys.Pairwise (fun x y => ∀ n m, TupI X.K H x n → TupI X.K H y m → TS.code B n ≤ TS.code B m) → H p = none → Q (.ref p) (upd H p (.lst ys)) := fun {n p kvs rr} ex hR hr hz => by
      cases hb : tupsOf (kvs.map (·.1)) with
      | none => rw [hb] at hz; cases hz
      | some nss =>
        rw [hb] at hz
        simp only [Option.bind_some, Option.ite_none_right_eq_some, Option.some.injEq] at hz
        obtain ⟨hok, hz⟩ := hz
        subst hz
        obtain ⟨h64, d, B, hd, hB⟩ := okT_some hok
        have e := tupsOf_some hb
        refine ⟨d, B, hd, p, rr, nss, by rw [ex], hR, hr.tups e, ?_, hB, fun ys bs np pb hp hs hn => ?_⟩
        · rw [← hr.length]
          have := congrArg List.length e
          rw [List.length_map, List.length_map] at this
          omega
        · obtain ⟨nss', p1, p2⟩ := perm_rv (μ := μ) hp (paired_rv pb)
          have := srtT_of p1 (lex_of p2 (fun ns hn => hB ns (p1.mem_iff.mp hn)) hs)
          rw [this] at p2
          exact new_l (μ' := μ) r p2 hn q
    unfold sortT at hz
    split at hz
    · rename_i n
      obtain ⟨p, ex, hn⟩ := ra.loc
      split at hz
      · rename_i kvs hS
        cases r.obj n _ p hS hn with
        | dT g1 g2 => exact .inr (goD (n := n) ex (.inl g1) g2 hz)
      · rename_i kvs hS
        cases r.obj n _ p hS hn with
        | fT g1 g2 => exact .inr (goD (n := n) ex (.inr ⟨_, g1⟩) g2 hz)
      · exact .inl (goL hz)
    · exact .inl (goL hz)
  have hA := d_sorted hc
  intro pins s σ H xs us Q I r h
  obtain ⟨μ, S, fs, z, rp, rf, hz, q⟩ := h
  unfold f1 at hz
  split at hz
  rotate_left
  · cases hz
  rename_i f
  unfold sortA at hz
  cases hs : sortF f S with
  | some z' =>
    rw [hs] at hz
    exact hA pins s σ H xs us Q I r ⟨μ, S, [f], z, rp, rf, by show sortF f S = _; rw [hs]; exact hz, q⟩
  | none =>
    rw [hs] at hz
    exact hTD pins s σ H xs us Q I r ⟨μ, S, [f], z, rp, rf, hz, q⟩
end DL
/-! ## DInD -/
set_option maxHeartbeats 1000000
/-! x in xs where tuples and lists are compared through and through -/
namespace DL
open PySem PySem.Spec L2
def inDB (a b : F) (S : Sto) : Option Bool := (a.py S).bind fun p => (b.py S).bind fun q => match q with
  | .list xs => if SeqAt.shaped p && SeqAt.shaped (.list xs) then some (xs.any fun z => PyData.eqv z p) else none
  | .tuple xs => if SeqAt.shaped p && SeqAt.shaped (.tuple xs) then some (xs.any fun z => PyData.eqv z p) else none
  | _ => none
def inDF (neg : Bool) (a b : F) (S : Sto) : Option F := (inDB a b S).map fun k => .v (.bl (if neg then !k else k))
section
variable {X : Cx} {W : WX} {a b : Expr} {ea eb : DL.Env → Sto → R F} {pos : Pos}
theorem op_inT (hu : X.A.units + 65 < cLine) : OpR X (compareOp .In) (fun x y H Q => ∃ d ds, Dp X.K H x d ∧ Dp X.K H y (.tuple ds) ∧ SeqAt.shaped d = true ∧ SeqAt.shaped (.tuple ds) = true ∧ Q (.bl (ds.any fun z => PyData.eqv z d)) H) := by
  rintro pins s σ H x y v u Q I rx ry ⟨d, ds, hd, he, sd, se, q⟩
  obtain ⟨as, r1⟩ := Dp.reads I d x v hd rx
  obtain ⟨bs, r2⟩ := Dp.reads I (.tuple ds) y u he ry
  exact SeqAt.in_tuple_reads r2 r1 (SeqAt.canLay_of_shaped se) (SeqAt.canLay_of_shaped sd) (PyProof.Rows.room_in_shaped sd hu) ⟨.bl _, H, I, rfl, q⟩
theorem op_notInT (hu : X.A.units + 65 < cLine) : OpR X (compareOp .NotIn) (fun x y H Q => ∃ d ds, Dp X.K H x d ∧ Dp X.K H y (.tuple ds) ∧ SeqAt.shaped d = true ∧ SeqAt.shaped (.tuple ds) = true ∧ Q (.bl (!ds.any fun z => PyData.eqv z d)) H) := by
  rintro pins s σ H x y v u Q I rx ry ⟨d, ds, hd, he, sd, se, q⟩
  obtain ⟨as, r1⟩ := Dp.reads I d x v hd rx
  obtain ⟨bs, r2⟩ := Dp.reads I (.tuple ds) y u he ry
  exact SeqAt.notIn_tuple_reads r2 r1 (SeqAt.canLay_of_shaped se) (SeqAt.canLay_of_shaped sd) (PyProof.Rows.room_in_shaped sd hu) ⟨.bl _, H, I, rfl, q⟩
theorem inDB_ok {K : PySem.W.Frag} {μ : List Addr} {H0 H0' H : Hp} {S : Sto} {a b : F} {x y : V} {k : Bool} (r : Rep K μ S H) (ra : RF K H0 μ H a x) (rb : RF K H0' μ H b y) (e : inDB a b S = some k) :
    (∃ d ds, Dp K H x d ∧ Dp K H y (.list ds) ∧ SeqAt.shaped d = true ∧ SeqAt.shaped (.list ds) = true ∧ k = ds.any fun z => PyData.eqv z d) ∨ (∃ d ds, Dp K H x d ∧ Dp K H y (.tuple ds) ∧ SeqAt.shaped d = true ∧ SeqAt.shaped (.tuple ds) = true ∧ k = ds.any fun z => PyData.eqv z d) := by
  unfold inDB at e
  cases ha : a.py S with
  | none => rw [ha] at e; cases e
  | some p =>
    rw [ha] at e
    cases hb : b.py S with
    | none => rw [hb] at e; cases e
    | some q =>
      rw [hb] at e
      simp only [Option.bind_some] at e
      split at e
      · rename_i xs
        simp only [Option.ite_none_right_eq_some, Bool.and_eq_true] at e
        exact .inl ⟨p, xs, ra.py r ha, rb.py r hb, e.1.1, e.1.2, (Option.some.inj e.2).symm⟩
      · rename_i xs
        simp only [Option.ite_none_right_eq_some, Bool.and_eq_true] at e
        exact .inr ⟨p, xs, ra.py r ha, rb.py r hb, e.1.1, e.1.2, (Option.some.inj e.2).symm⟩
      · cases e
theorem d_inDF (hu : X.A.units + 65 < cLine) : OpR X (compareOp .In) (rOp X.K (inDF false)) := opr_of (opr_or (op_inD hu) (op_inT hu)) fun μ S H a b z x y H0 H0' Q r ra rb hz q => by
  unfold inDF at hz
  cases hk : inDB a b S with
  | none => rw [hk] at hz; cases hz
  | some k =>
    rw [hk] at hz; cases hz
    rcases inDB_ok r ra rb hk with ⟨d, ds, h1, h2, h3, h4, rfl⟩ | ⟨d, ds, h1, h2, h3, h4, rfl⟩
    · exact .inl ⟨d, ds, h1, h2, h3, h4, q H _ .refl r (.v .bl)⟩
    · exact .inr ⟨d, ds, h1, h2, h3, h4, q H _ .refl r (.v .bl)⟩
theorem d_inDFN (hu : X.A.units + 65 < cLine) : OpR X (compareOp .NotIn) (rOp X.K (inDF true)) := opr_of (opr_or (op_notInD hu) (op_notInT hu)) fun μ S H a b z x y H0 H0' Q r ra rb hz q => by
  unfold inDF at hz
  cases hk : inDB a b S with
  | none => rw [hk] at hz; cases hz
  | some k =>
    rw [hk] at hz; cases hz
    rcases inDB_ok r ra rb hk with ⟨d, ds, h1, h2, h3, h4, rfl⟩ | ⟨d, ds, h1, h2, h3, h4, rfl⟩
    · exact .inl ⟨d, ds, h1, h2, h3, h4, q H _ .refl r (.v .bl)⟩
    · exact .inr ⟨d, ds, h1, h2, h3, h4, q H _ .refl r (.v .bl)⟩
/-- x in xs, flat, by key, or through and through -/
def eInA (neg : Bool) (ea eb : DL.Env → Sto → R F) : DL.Env → Sto → R F := fun ρ S => match eIn neg ea eb ρ S with
  | .bad => eOp (inDF neg) ea eb ρ S
  | r => r
theorem inA_of {neg : Bool} {σ : L2.St} {H : Hp} {Q : VK} (h : lift X.K X.mg W (RF X.K) (eInA neg ea eb) σ H Q) :
    lift X.K X.mg W (RF X.K) (eIn neg ea eb) σ H Q ∨ lift X.K X.mg W (RF X.K) (eOp (inDF neg) ea eb) σ H Q := by
  obtain ⟨μ, S, ρ, r, re, p⟩ := h
  unfold eInA at p
  cases he : eIn neg ea eb ρ S with
  | bad => rw [he] at p; exact .inr ⟨μ, S, ρ, r, re, p⟩
  | ok f S1 => rw [he] at p; exact .inl ⟨μ, S, ρ, r, re, by rw [he]; exact p⟩
  | err x S1 => rw [he] at p; exact .inl ⟨μ, S, ρ, r, re, by rw [he]; exact p⟩
theorem inAT_of {neg : Bool} {σ : L2.St} {H : Hp} {Q : Bool → Hp → Prop} (h : lift X.K X.mg W (fun _ _ _ a b => a = b) (tOfB (eInA neg ea eb)) σ H Q) :
    lift X.K X.mg W (fun _ _ _ a b => a = b) (tOfB (eIn neg ea eb)) σ H Q ∨ lift X.K X.mg W (fun _ _ _ a b => a = b) (tOfB (eOp (inDF neg) ea eb)) σ H Q := by
  obtain ⟨μ, S, ρ, r, re, p⟩ := h
  unfold tOfB eInA at p
  cases he : eIn neg ea eb ρ S with
  | bad => rw [he] at p; exact .inr ⟨μ, S, ρ, r, re, p⟩
  | ok f S1 => rw [he] at p; exact .inl ⟨μ, S, ρ, r, re, by unfold tOfB; rw [he]; exact p⟩
  | err x S1 => rw [he] at p; exact .inl ⟨μ, S, ρ, r, re, by unfold tOfB; rw [he]; exact p⟩
theorem pd_inA (hu : X.A.units + 65 < cLine) (ha : PD X W a ea) (hb : PD X W b eb) (hm : behindInMarks .In b = false := by rfl) : PD X W (.Compare a [.In] [b] pos) (eInA false ea eb) :=
  PE.imp (PE.or (pd_in (by omega) ha hb hm) (pd_cmp (d_inDF hu) ha hb hm)) fun σ H Q h => inA_of h
theorem pd_inAN (hu : X.A.units + 65 < cLine) (ha : PD X W a ea) (hb : PD X W b eb) (hm : behindInMarks .NotIn b = false := by rfl) : PD X W (.Compare a [.NotIn] [b] pos) (eInA true ea eb) :=
  PE.imp (PE.or (pd_inN (by omega) ha hb hm) (pd_cmp (d_inDFN hu) ha hb hm)) fun σ H Q h => inA_of h
theorem pdt_inA (hu : X.A.units + 65 < cLine) (ha : PD X W a ea) (hb : PD X W b eb) (hm : behindInMarks .In b = false := by rfl) : PDT X W (.Compare a [.In] [b] pos) (tOfB (eInA false ea eb)) :=
  PT.imp (PT.or (pdt_in (by omega) ha hb hm) (pdt_cmp (d_inDF hu) ha hb hm)) fun σ H Q h => inAT_of h
theorem pdt_inAN (hu : X.A.units + 65 < cLine) (ha : PD X W a ea) (hb : PD X W b eb) (hm : behindInMarks .NotIn b = false := by rfl) : PDT X W (.Compare a [.NotIn] [b] pos) (tOfB (eInA true ea eb)) :=
  PT.imp (PT.or (pdt_inN (by omega) ha hb hm) (pdt_cmp (d_inDFN hu) ha hb hm)) fun σ H Q h => inAT_of h
end
end DL
/-! ## DZip -/
set_option maxHeartbeats 1000000
/-! zip of two lists, or of two tuples -/
namespace DL
open PySem PySem.Spec L2
def zipD : List D → List D → List D
  | x :: xs, y :: ys => .tup [x, y] :: zipD xs ys
  | _, _ => []
theorem zipD_len : ∀ (xs ys : List D), (zipD xs ys).length = min xs.length ys.length
  | [], _ => by simp [zipD]
  | _ :: _, [] => by simp [zipD]
  | x :: xs, y :: ys => by simp [zipD, zipD_len xs ys]
theorem zipD_get : ∀ {xs ys : List D} {i : Nat} {d : D}, (zipD xs ys)[i]? = some d → ∃ x y, xs[i]? = some x ∧ ys[i]? = some y ∧ d = .tup [x, y]
  | [], _, i, _, h => by simp [zipD] at h
  | _ :: _, [], i, _, h => by simp [zipD] at h
  | x :: xs, y :: ys, 0, d, h => by
    simp [zipD] at h
    exact ⟨x, y, rfl, rfl, h.symm⟩
  | x :: xs, y :: ys, i + 1, d, h => by
    obtain ⟨a, b, h1, h2, h3⟩ := zipD_get (xs := xs) (ys := ys) (i := i) (d := d) (by simpa [zipD] using h)
    exact ⟨a, b, by simpa using h1, by simpa using h2, h3⟩
/-- the items of a list or a tuple (true), and what they hang on -/
def seqIt (f : F) (S : Sto) : Option (Bool × List D × List (Nat × O)) := match f with
  | .l ds => some (false, ds, [])
  | .v (.tup ds) => some (true, ds, [])
  | .v (.kl ds) => some (false, ds, [])
  | .v (.loc n) => (match S[n]? with
    | some (.lst ds) => some (false, ds, [(n, .lst ds)])
    | _ => none)
  | _ => none
def SqB (K : PySem.W.Frag) : Bool → Hp → Addr → List V → Prop
  | true, H, a, vs => SqT K H a vs
  | false, H, a, vs => SqL K H a vs
theorem seqIt_ok {K : PySem.W.Frag} {μ1 : List Addr} {S1 : Sto} {H0 H1 : Hp} {f : F} {v : V} {b : Bool} {ds : List D} {dep : List (Nat × O)} (r1 : Rep K μ1 S1 H1) (rf : RF K H0 μ1 H1 f v) (h : seqIt f S1 = some (b, ds, dep)) :
    ∃ a, v = .ref a ∧ (∃ xs, SqB K b H1 a xs) ∧ ∀ μ S H, Kp K μ1 H1 μ H → Rep K μ S H → (∀ p ∈ dep, S[p.1]? = some p.2) → ∃ vs, SqB K b H a vs ∧ RVs K μ H ds vs := by
  cases rf with
  | @l a vs es h1 h2 h3 h4 =>
    cases h
    exact ⟨a, rfl, ⟨vs, .inl (.inl h1)⟩, fun μ S H k r o => ⟨vs, .inl (.inl (k.frm _ _ h1 h2)), h4.mono k⟩⟩
  | v rv =>
    cases rv with
    | @tup a vs es h1 h2 =>
      cases h
      exact ⟨a, rfl, ⟨vs, h1⟩, fun μ S H k r o => ⟨vs, k.tup _ _ h1, h2.mono k⟩⟩
    | @kl a vs es h1 h2 =>
      cases h
      exact ⟨a, rfl, ⟨vs, h1.l⟩, fun μ S H k r o => ⟨vs, (k.kls _ _ h1).l, h2.mono k⟩⟩
    | @loc n a hn =>
      unfold seqIt at h
      dsimp only at h
      cases hs : S1[n]? with
      | none => rw [hs] at h; cases h
      | some o =>
        rw [hs] at h
        cases o with
        | lst es =>
          cases h
          have ro := r1.obj n _ a hs hn
          cases ro with
          | @lst _ vs _ h1 h2 =>
            refine ⟨a, rfl, ⟨vs, .inl (.inl h1)⟩, fun μ S H k r o => ?_⟩
            have hS := o (n, .lst ds) (by simp)
            have ro := r.obj n _ a hS (k.get hn)
            cases ro with
            | @lst _ vs' _ h1' h2' => exact ⟨vs', .inl (.inl h1'), h2'⟩
        | dct _ => cases h
        | dtt _ => cases h
        | fzd _ => cases h
        | fzt _ => cases h
    | non => cases h
    | bl => cases h
    | int => cases h
    | str => cases h
    | exc _ _ _ _ => cases h
def eZip (ea : Env → Sto → R (List F)) : Env → Sto → R DIt := fun ρ S => (ea ρ S).bind fun fs S1 => match fs with
  | [x, y] => (match seqIt x S1, seqIt y S1 with
    | some (b, xs, d1), some (c, ys, d2) => if b = c then .ok ⟨zipD xs ys, d1 ++ d2⟩ S1 else .bad
    | _, _ => .bad)
  | _ => .bad
def ItzB (K : PySem.W.Frag) (a b : Addr) : Bool → It
  | true => RZ.ItzT K a b
  | false => Itz K a b
theorem jok_zip {K : PySem.W.Frag} {μ0 : List Addr} {H0 : Hp} {a b : Addr} {t : Bool} {xs ys : List D} {dep : List (Nat × O)}
    (h : ∀ μ S H, Kp K μ0 H0 μ H → Rep K μ S H → (∀ p ∈ dep, S[p.1]? = some p.2) → (∃ vs, SqB K t H a vs ∧ RVs K μ H xs vs) ∧ ∃ us, SqB K t H b us ∧ RVs K μ H ys us) : JOk K μ0 H0 ⟨zipD xs ys, dep⟩ (ItzB K a b t) := fun i μ S H k r o => by
  obtain ⟨⟨vs, hq, rv⟩, us, hu, ru⟩ := h μ S H k r o
  have lv := rv.length
  have lu := ru.length
  refine ⟨fun d hd => ?_, fun hi => ?_⟩
  · obtain ⟨x, y, h1, h2, rfl⟩ := zipD_get hd
    obtain ⟨v, h3, h4⟩ := rv.get h1
    obtain ⟨u, h5, h6⟩ := ru.get h2
    cases t with
    | true =>
      refine ⟨⟨vs, us, v, u, hq, hu, h3, h5⟩, fun z H' ⟨T, v', u', e1, e2, e3, e4, e5⟩ => ?_⟩
      subst e1; subst e3
      have z1 := (e4 vs hq).symm.trans h3
      have z2 := (e5 us hu).symm.trans h5
      cases z1; cases z2
      have kn : Kp K μ H μ (upd H T (.tup [v, u])) := Kp.new e2
      exact ⟨kn, r.new e2, .tup (.inl (.inl upd_same)) (.cons (h4.mono kn) (.cons (h6.mono kn) .nil))⟩
    | false =>
      refine ⟨⟨vs, us, v, u, hq, hu, h3, h5⟩, fun z H' ⟨T, v', u', e1, e2, e3, e4, e5⟩ => ?_⟩
      subst e1; subst e3
      have z1 := (e4 vs hq).symm.trans h3
      have z2 := (e5 us hu).symm.trans h5
      cases z1; cases z2
      have kn : Kp K μ H μ (upd H T (.tup [v, u])) := Kp.new e2
      exact ⟨kn, r.new e2, .tup (.inl (.inl upd_same)) (.cons (h4.mono kn) (.cons (h6.mono kn) .nil))⟩
  · have hi : i = (zipD xs ys).length := Eq.symm hi
    rw [zipD_len] at hi
    have c : vs.length ≤ i ∨ us.length ≤ i := by omega
    cases t with
    | true => exact ⟨vs, us, hq, hu, c⟩
    | false => exact ⟨vs, us, hq, hu, c⟩
section
variable {X : Cx} {W : WX} {a b : Expr} {pos : Pos}
theorem pdi_zip {p tpos : Pos} {elts : List Expr} {kk : Nat} {ea : Env → Sto → R (List F)} (hg : Gl X "zip") (hm : X.mg "zip" = none) (ha : PDF X W [a, b] ea)
    (hs : starEach [a, b] X.env = (false, eval a X.env) :: starEach [b] X.env := by rfl) (hpl : (backTo pos (starEach [b] X.env)).any (·.1) = false := by rfl) : PDI X W (.Tuple elts kk tpos) (.Call (.Name "zip" p) [a, b] [] pos) (eZip ea) :=
  PI.imp (RZ.pi_zipA hg hm ha hs hpl) fun σ H RR ⟨μ, S, ρ, r, re, pp⟩ => ⟨μ, S, ρ, r, re, Post.bind bk_j pp fun fs S1 μ1 H1 vs _ k r1 rv p1 => by
    cases rv with
    | nil => exact p1.elim
    | @cons x vx _ _ Hx rf rn =>
      cases rn with
      | nil => exact p1.elim
      | @cons y vy _ _ Hy rg rn =>
        cases rn with
        | cons _ _ => exact p1.elim
        | nil =>
          dsimp only at p1
          cases h1 : seqIt x S1 with
          | none => rw [h1] at p1; exact p1.elim
          | some q1 =>
            obtain ⟨t, xs, d1⟩ := q1
            rw [h1] at p1
            cases h2 : seqIt y S1 with
            | none => rw [h2] at p1; exact p1.elim
            | some q2 =>
              obtain ⟨t2, ys, d2⟩ := q2
              rw [h2] at p1
              dsimp only at p1
              by_cases ht : t = t2
              · subst ht
                rw [if_pos rfl] at p1
                obtain ⟨a1, rfl, ⟨us1, w1⟩, f1⟩ := seqIt_ok r1 rf h1
                obtain ⟨a2, rfl, ⟨us2, w2⟩, f2⟩ := seqIt_ok r1 rg h2
                have j : JOk X.K μ1 H1 ⟨zipD xs ys, d1 ++ d2⟩ (ItzB X.K a1 a2 t) := jok_zip fun μ S H k r o => ⟨f1 μ S H k r fun p hp => o p (List.mem_append_left _ hp), f2 μ S H k r fun p hp => o p (List.mem_append_right _ hp)⟩
                refine ⟨a1, a2, us1, us2, rfl, ?_⟩
                cases t with
                | true => exact .inr ⟨w1, w2, p1 μ1 H1 _ .refl r1 j⟩
                | false => exact .inl ⟨w1, w2, p1 μ1 H1 _ .refl r1 j⟩
              · rw [if_neg ht] at p1
                exact p1.elim⟩
end
end DL
/-! ## DFrc -/
set_option maxHeartbeats 1000000
namespace DL
open PySem PySem.Spec L2
/-! ### forcing: the same data, in a plain form, for the kernel's sake -/
def fcN {α : Type} (n : Nat) (k : Nat → α) : α := match n with
  | 0 => k 0
  | m + 1 => k (m + 1)
theorem fcN_eq {α : Type} (n : Nat) (k : Nat → α) : fcN n k = k n := by cases n <;> rfl
def fcI {α : Type} (i : Int) (k : Int → α) : α := match i with
  | .ofNat n => fcN n fun n => k (.ofNat n)
  | .negSucc n => fcN n fun n => k (.negSucc n)
theorem fcI_eq {α : Type} (i : Int) (k : Int → α) : fcI i k = k i := by
  cases i with
  | ofNat n => exact fcN_eq n fun n => k (.ofNat n)
  | negSucc n => exact fcN_eq n fun n => k (.negSucc n)
mutual
/-- n: how many tuples deep -/
def fcD {α : Type} (n : Nat) (d : D) (k : D → α) : α := match d with
  | .non => k .non
  | .bl b => (match b with
    | true => k (.bl true)
    | false => k (.bl false))
  | .int i => fcI i fun i => k (.int i)
  | .str x => k (.str x)
  | .tup ds => (match n with
    | 0 => k (.tup ds)
    | n + 1 => fcDs n ds fun ds => k (.tup ds))
  | .kl ds => k (.kl ds)
  | .loc n => fcN n fun n => k (.loc n)
  | .exc a d ns ds => k (.exc a d ns ds)
  termination_by structural d
def fcDs {α : Type} (n : Nat) (ds : List D) (k : List D → α) : α := match ds with
  | [] => k []
  | d :: ds => fcD n d fun d => fcDs n ds fun ds => k (d :: ds)
  termination_by structural ds
end
mutual
theorem fcD_eq {α : Type} : ∀ (n : Nat) (d : D) (k : D → α), fcD n d k = k d
  | _, .non, _ => rfl
  | _, .bl true, _ => rfl
  | _, .bl false, _ => rfl
  | _, .int i, k => fcI_eq i fun i => k (.int i)
  | _, .str _, _ => rfl
  | 0, .tup _, _ => rfl
  | n + 1, .tup ds, k => fcDs_eq n ds fun ds => k (.tup ds)
  | _, .kl _, _ => rfl
  | _, .loc n, k => fcN_eq n fun n => k (.loc n)
  | _, .exc _ _ _ _, _ => rfl
theorem fcDs_eq {α : Type} : ∀ (n : Nat) (ds : List D) (k : List D → α), fcDs n ds k = k ds
  | _, [], _ => rfl
  | n, d :: ds, k => by
    show fcD n d _ = _
    rw [fcD_eq n d, fcDs_eq n ds]
end
def fcE {α : Type} (n : Nat) (ρ : Env) (k : Env → α) : α := match ρ with
  | [] => k []
  | none :: ρ => fcE n ρ fun ρ => k (none :: ρ)
  | some d :: ρ => fcD n d fun d => fcE n ρ fun ρ => k (some d :: ρ)
theorem fcE_eq {α : Type} : ∀ (n : Nat) (ρ : Env) (k : Env → α), fcE n ρ k = k ρ
  | _, [], _ => rfl
  | n, none :: ρ, k => fcE_eq n ρ fun ρ => k (none :: ρ)
  | n, some d :: ρ, k => by
    show fcD n d _ = _
    rw [fcD_eq n d, fcE_eq n ρ]
def fcO {α : Type} (o : O) (k : O → α) : α := match o with
  | .lst ds => fcDs 0 ds fun ds => k (.lst ds)
  | .dct kvs => k (.dct kvs)
  | .dtt kvs => k (.dtt kvs)
  | .fzd kvs => k (.fzd kvs)
  | .fzt kvs => k (.fzt kvs)
theorem fcO_eq {α : Type} (o : O) (k : O → α) : fcO o k = k o := by
  cases o with
  | lst ds => exact fcDs_eq 0 ds fun ds => k (.lst ds)
  | _ => rfl
def fcS {α : Type} (S : Sto) (k : Sto → α) : α := match S with
  | [] => k []
  | o :: S => fcO o fun o => fcS S fun S => k (o :: S)
theorem fcS_eq {α : Type} : ∀ (S : Sto) (k : Sto → α), fcS S k = k S
  | [], _ => rfl
  | o :: S, k => by
    show fcO o _ = _
    rw [fcO_eq, fcS_eq S]
/-- a loop whose names are forced each time -/
def forLF (it : DIt) (g : D → Env → Option Env) (se : Env → Sto → RS) : List D → Env → Sto → RS
  | [], ρ, S => if it.ok S then .nx ρ S else .bad
  | d :: ds, ρ, S => fcE 1 ρ fun ρ => fcS S fun S => if it.ok S then (match g d ρ with
      | none => .bad
      | some ρ1 => match se ρ1 S with
        | .nx ρ2 S2 => forLF it g se ds ρ2 S2
        | .ct ρ2 S2 => forLF it g se ds ρ2 S2
        | .bk ρ2 S2 => .nx ρ2 S2
        | .rt f S2 => .rt f S2
        | .err x ρ2 S2 => .err x ρ2 S2
        | .bad => .bad) else .bad
theorem forLF_eq (it : DIt) (g : D → Env → Option Env) (se : Env → Sto → RS) : ∀ (ds : List D) (ρ : Env) (S : Sto), forLF it g se ds ρ S = forL it g se ds ρ S
  | [], _, _ => rfl
  | d :: ds, ρ, S => by
    have ih := forLF_eq it g se ds
    simp only [forLF, forL, fcE_eq, fcS_eq, ih]
    all_goals rfl
def sForF (ei : Env → Sto → R DIt) (g : D → Env → Option Env) (se : Env → Sto → RS) : Env → Sto → RS := fun ρ S => onE (ei ρ S) ρ fun it S1 => forLF it g se it.items ρ S1
theorem sForF_eq (ei : Env → Sto → R DIt) (g : D → Env → Option Env) (se : Env → Sto → RS) : sForF ei g se = sFor ei g se := by
  unfold sForF sFor
  simp only [forLF_eq]
section
variable {X : Cx} {W : WX} {pos : Pos}
theorem pds_forF {tg iter : Expr} {body : List Stmt} {ei : Env → Sto → R DIt} {g : D → Env → Option Env} {is : List Nat} {se : Env → Sto → RS} (hp : PassesOwn (model X.prog X.w) X.A X.env X.xe) (hc : X.calm = true) (hi : PDI X W tg iter ei) (hg : PDG X tg g is) (hb : PDSs X W body se)
    (hs : ∀ x, foldedSetIterable iter X.env x = pure x := by intro _; rfl) : PDS X W (.For tg iter body [] pos) (sForF ei g se) := by
  rw [sForF_eq]
  exact pds_for hp hc hi hg hb hs
end
end DL
/-! ## DFrame -/
set_option maxHeartbeats 1000000
namespace DL
open PySem PySem.Spec L2
/-! ### a frame: what holds no place of the store can be run in an empty store -/
mutual
def pureD : D → Bool
  | .non => true
  | .bl _ => true
  | .int _ => true
  | .str _ => true
  | .tup ds => pureDs ds
  | .kl _ => false
  | .loc _ => false
  | .exc _ _ _ _ => false
def pureDs : List D → Bool
  | [] => true
  | d :: ds => pureD d && pureDs ds
end
section
variable {K : PySem.W.Frag} {μ μ' : List Addr} {H : Hp}
mutual
theorem RV.pure : ∀ {d : D} {v : V}, pureD d = true → RV K μ H d v → RV K μ' H d v
  | _, _, _, .non => .non
  | _, _, _, .bl => .bl
  | _, _, _, .int => .int
  | _, _, _, .str => .str
  | _, _, p, .tup h hs => .tup h (RVs.pure (by simpa [pureD] using p) hs)
  | _, _, p, .kl h hs => by simp [pureD] at p
  | _, _, p, .loc h => by simp [pureD] at p
  | _, _, p, .exc _ _ _ _ => by simp [pureD] at p
theorem RVs.pure : ∀ {ds : List D} {vs : List V}, pureDs ds = true → RVs K μ H ds vs → RVs K μ' H ds vs
  | _, _, _, .nil => .nil
  | _, _, p, .cons h hs => by
    simp only [pureDs, Bool.and_eq_true] at p
    exact .cons (RV.pure p.1 h) (RVs.pure p.2 hs)
end
end
/-- what comes of a run in an empty store, laid into a store -/
def frR (r : R F) (S : Sto) : R F := match r with
  | .ok (.v d) _ => fcD 4 d fun d => if pureD d then .ok (.v d) S else .bad
  | .ok (.l ds) _ => fcDs 4 ds fun ds => if pureDs ds then .ok (.l ds) S else .bad
  | .err x _ => if pureDs (x.fs.map (·.2)) then .err x S else .bad
  | .bad => .bad
/-- a def run in an empty store -/
def frF (df : List D → Sto → R F) : List D → Sto → R F := fun ds S => fcDs 3 ds fun ds => if pureDs ds then frR (df ds []) S else .bad
theorem Rep.none {K : PySem.W.Frag} {H : Hp} : Rep K [] [] H := ⟨rfl, List.nodup_nil, fun i o a h => by simp at h⟩
/-- what was kept by a run that held nothing -/
theorem Kp.under {K : PySem.W.Frag} {μ μ' : List Addr} {H H' : Hp} (k : Kp K [] H μ' H') : Kp K μ H μ H' :=
  ⟨⟨[], by simp⟩, k.tup, k.kls, fun a o h _ => k.frm a o h (by simp), fun a h => .inl h, k.liv, k.xds, k.fzs⟩
theorem RKs.at' {K : PySem.W.Frag} {μ : List Addr} {H H' : Hp} (m : ∀ {d v}, RV K μ H d v → RV K μ H' d v) : ∀ {a b}, RKs K μ H a b → RKs K μ H' a b
  | _, _, .nil => .nil
  | _, _, .cons h r t => .cons h (m r) (t.at' m)
theorem RTs.at' {K : PySem.W.Frag} {μ : List Addr} {H H' : Hp} (m : ∀ {d v}, RV K μ H d v → RV K μ H' d v) : ∀ {a b}, RTs K μ H a b → RTs K μ H' a b
  | _, _, .nil => .nil
  | _, _, .cons h r t => .cons h (m r) (t.at' m)
theorem Rep.under {K : PySem.W.Frag} {μ μ' : List Addr} {S : Sto} {H H' : Hp} (r : Rep K μ S H) (k : Kp K [] H μ' H') : Rep K μ S H' := by
  have k2 : Kp K μ H μ H' := k.under
  refine ⟨r.len, r.nd, fun i o a h1 h2 => ?_⟩
  cases r.obj i o a h1 h2 with
  | lst h q => exact .lst (k.frm _ _ h (by simp)) (RVs.mono k2 q)
  | dK h q => exact .dK (k.frm _ _ h (by simp)) (q.mono k2)
  | dT h q => exact .dT (k.frm _ _ h (by simp)) (q.mono k2)
  | fK h q => exact .fK (k.frm _ _ h (by simp)) (q.mono k2)
  | fT h q => exact .fT (k.frm _ _ h (by simp)) (q.mono k2)
/-- the end of a framed run, from the end in the store -/
theorem Post.frame {K : PySem.W.Frag} {mg : Str → Option Value} {W : WX} {σ : St} {μ : List Addr} {S : Sto} {H : Hp} {Q : V → Hp → Prop} {r : R F} (rp : Rep K μ S H)
    (p : Post K mg W (RF K) σ μ H Q (frR r S)) : Post K mg W (RF K) σ [] H Q r := by
  cases r with
  | bad => exact p
  | ok f S' =>
    cases f with
    | v d =>
      simp only [frR, fcD_eq, fcDs_eq] at p
      split at p
      · rename_i hd
        intro μ' H' b k _ rr
        refine p μ H' b k.under (rp.under k) ?_
        cases rr with
        | v q => exact .v (RV.pure hd q)
      · exact p.elim
    | l ds =>
      simp only [frR, fcD_eq, fcDs_eq] at p
      split at p
      · rename_i hd
        intro μ' H' b k _ rr
        refine p μ H' b k.under (rp.under k) ?_
        cases rr with
        | l h n n0 q =>
          refine .l h (fun hm => ?_) n0 (RVs.pure hd q)
          obtain ⟨i, hi, e⟩ := List.getElem_of_mem hm
          have hi2 : i < S.length := by rw [← rp.len]; exact hi
          have := rp.obj i S[i] _ (List.getElem?_eq_getElem hi2) (by rw [List.getElem?_eq_getElem hi, e])
          generalize S[i] = o at this
          cases this with
          | lst h _ => rw [n0] at h; cases h
          | dK h _ => rw [n0] at h; cases h
          | dT h _ => rw [n0] at h; cases h
          | fK h _ => rw [n0] at h; cases h
          | fT h _ => rw [n0] at h; cases h
      · exact p.elim
  | err x S' =>
    simp only [frR] at p
    split at p
    · rename_i hd
      intro μ' H' cls dx k _ rx
      refine p μ H' cls dx k.under (rp.under k) ?_
      obtain ⟨C, h1, h2, h3⟩ := rx
      refine ⟨C, h1, h2, ?_⟩
      rcases h3 with h3 | ⟨d, gs, e1, e2, e3, e4⟩
      · exact .inl h3
      · exact .inr ⟨d, gs, e1, e2, e3, RVs.pure hd e4⟩
    · exact p.elim
section
variable {P : Program} {w : World} {K : PySem.W.Frag} {mg : Str → Option Value} {base : Heap} {k : Nat} {x : Str} {ps : List Str}
theorem FnT.frame {df : List D → Sto → R F} (T : FnT P w K mg base k x ps df) : FnT P w K mg base k x ps (frF df) := by
  obtain ⟨f, fd, h1, h2, h3, h4⟩ := T.ex
  refine ⟨f, fd, h1, h2, h3, ⟨fun A outer s H args us vs Q E g r en b v sp => ?_⟩⟩
  obtain ⟨hl, μ, S, ds, rp, rv, po⟩ := sp
  refine h4.run A outer s H args us vs Q E g r en b v ⟨hl, ?_⟩
  unfold frF at po
  rw [fcDs_eq] at po
  split at po
  · rename_i hp
    exact ⟨[], [], ds, Rep.none, RVs.pure hp rv, Post.frame rp po⟩
  · exact po.elim
end
/-! ### a block in a frame -/
def maskE : List Bool → Env → Env
  | [], ρ => ρ.map fun _ => none
  | _, [] => []
  | b :: bs, x :: ρ => (if b then x else none) :: maskE bs ρ
def pureE : Env → Bool
  | [] => true
  | none :: ρ => pureE ρ
  | some d :: ρ => pureD d && pureE ρ
theorem maskE_len : ∀ (bs : List Bool) (ρ : Env), (maskE bs ρ).length = ρ.length
  | [], ρ => by simp [maskE]
  | _ :: _, [] => rfl
  | _ :: bs, _ :: ρ => by simp [maskE, maskE_len bs ρ]
theorem maskE_at : ∀ (bs : List Bool) (ρ : Env) (i : Nat) (d : D), (maskE bs ρ)[i]? = some (some d) → ρ[i]? = some (some d)
  | [], ρ, i, d, h => by simp [maskE, List.getElem?_map] at h
  | _ :: _, [], i, d, h => by simp [maskE] at h
  | b :: bs, x :: ρ, 0, d, h => by
    cases b with
    | true => simpa [maskE] using h
    | false => simp [maskE] at h
  | b :: bs, x :: ρ, i + 1, d, h => by
    have := maskE_at bs ρ i d (by simpa [maskE] using h)
    simpa using this
theorem pureE_at : ∀ (ρ : Env) (i : Nat) (d : D), pureE ρ = true → ρ[i]? = some (some d) → pureD d = true
  | [], i, d, _, h => by simp at h
  | none :: ρ, 0, d, _, h => by simp at h
  | none :: ρ, i + 1, d, p, h => pureE_at ρ i d p (by simpa using h)
  | some e :: ρ, 0, d, p, h => by
    simp only [pureE, Bool.and_eq_true] at p
    simp at h
    rw [← h]; exact p.1
  | some e :: ρ, i + 1, d, p, h => by
    simp only [pureE, Bool.and_eq_true] at p
    exact pureE_at ρ i d p.2 (by simpa using h)
theorem RE.masked {K : PySem.W.Frag} {μ : List Addr} {H : Hp} {ρ : Env} {σ : St} (bs : List Bool) (r : RE K μ H ρ σ) (p : pureE (maskE bs ρ) = true) : RE K [] H (maskE bs ρ) σ :=
  ⟨by rw [maskE_len, r.len], fun i d h => by
    obtain ⟨v, h1, h2⟩ := r.at' i d (maskE_at bs ρ i d h)
    exact ⟨v, h1, RV.pure (pureE_at _ i d p h) h2⟩⟩
theorem RE.nones {K : PySem.W.Frag} {μ μ' : List Addr} {H H' : Hp} {ρ : Env} {σ : St} (r : RE K μ H ρ σ) : RE K μ' H' (ρ.map fun _ => none) σ :=
  ⟨by simp [r.len], fun i d h => by simp [List.getElem?_map] at h⟩
def frRS (r : RS) (ρ : Env) (S : Sto) : RS := match r with
  | .rt (.v d) _ => if pureD d then .rt (.v d) S else .bad
  | .rt (.l ds) _ => if pureDs ds then .rt (.l ds) S else .bad
  | .err x ρ' _ => if pureDs (x.fs.map (·.2)) then .err x (ρ'.map fun _ => none) S else .bad
  | _ => .bad
/-- a block that returns, run in an empty store from the kept names -/
def frS (bs : List Bool) (se : Env → Sto → RS) : Env → Sto → RS := fun ρ S => if pureE (maskE bs ρ) then frRS (se (maskE bs ρ) []) ρ S else .bad
theorem PostS.frame {K : PySem.W.Frag} {mg : Str → Option Value} {W : WX} {μ : List Addr} {S : Sto} {H : Hp} {E : Ends} {r : RS} {ρ : Env} (rp : Rep K μ S H)
    (p : PostS K mg W μ H E (frRS r ρ S)) : PostS K mg W [] H E r := by
  cases r with
  | bad => exact p
  | nx _ _ => exact p.elim
  | bk _ _ => exact p.elim
  | ct _ _ => exact p.elim
  | rt f S' =>
    cases f with
    | v d =>
      simp only [frRS] at p
      split at p
      · rename_i hd
        intro μ' H' b k _ rr
        refine p μ H' b k.under (rp.under k) ?_
        cases rr with
        | v q => exact .v (RV.pure hd q)
      · exact p.elim
    | l ds =>
      simp only [frRS] at p
      split at p
      · rename_i hd
        intro μ' H' b k _ rr
        refine p μ H' b k.under (rp.under k) ?_
        cases rr with
        | l h n n0 q =>
          refine .l h (fun hm => ?_) n0 (RVs.pure hd q)
          obtain ⟨i, hi, e⟩ := List.getElem_of_mem hm
          have hi2 : i < S.length := by rw [← rp.len]; exact hi
          have := rp.obj i S[i] _ (List.getElem?_eq_getElem hi2) (by rw [List.getElem?_eq_getElem hi, e])
          generalize S[i] = o at this
          cases this with
          | lst h _ => rw [n0] at h; cases h
          | dK h _ => rw [n0] at h; cases h
          | dT h _ => rw [n0] at h; cases h
          | fK h _ => rw [n0] at h; cases h
          | fT h _ => rw [n0] at h; cases h
      · exact p.elim
  | err x ρ' S' =>
    simp only [frRS] at p
    split at p
    · rename_i hd
      intro μ' H' σ' cls dx k _ re rx
      refine p μ H' σ' cls dx k.under (rp.under k) re.nones ?_
      obtain ⟨C, h1, h2, h3⟩ := rx
      refine ⟨C, h1, h2, ?_⟩
      rcases h3 with h3 | ⟨d, gs, e1, e2, e3, e4⟩
      · exact .inl h3
      · exact .inr ⟨d, gs, e1, e2, e3, RVs.pure hd e4⟩
    · exact p.elim
section
variable {X : Cx} {W : WX}
theorem liftS_frame {bs : List Bool} {se : Env → Sto → RS} {D : Ends} {σ : St} {H : Hp} (h : liftS X.K X.mg W (frS bs se) D σ H) : liftS X.K X.mg W se D σ H := by
  obtain ⟨μ, S, ρ, rp, re, po⟩ := h
  unfold frS at po
  split at po
  · rename_i hp
    exact ⟨[], [], maskE bs ρ, Rep.none, re.masked bs hp, PostS.frame rp po⟩
  · exact po.elim
theorem pds_frame (bs : List Bool) {st : Stmt} {se : Env → Sto → RS} (h : PDS X W st se) : PDS X W st (frS bs se) := PS.imp h fun _ _ _ => liftS_frame
theorem pdss_frame (bs : List Bool) {st : List Stmt} {se : Env → Sto → RS} (h : PDSs X W st se) : PDSs X W st (frS bs se) := PSs.imp h fun _ _ _ => liftS_frame
end
end DL
/-! ## DWhile -/
set_option maxHeartbeats 1000000
/-! while, with a bound on its turns -/
namespace DL
open PySem PySem.Spec L2
def whileL (et : Env → Sto → R Bool) (se : Env → Sto → RS) : Nat → Env → Sto → RS
  | 0, _, _ => .bad
  | n + 1, ρ, S => fcE 1 ρ fun ρ => fcS S fun S => onE (et ρ S) ρ fun b S1 => if b then (match se ρ S1 with
      | .nx ρ2 S2 => whileL et se n ρ2 S2
      | .ct ρ2 S2 => whileL et se n ρ2 S2
      | .bk ρ2 S2 => .nx ρ2 S2
      | .rt f S2 => .rt f S2
      | .err x ρ2 S2 => .err x ρ2 S2
      | .bad => .bad) else .nx ρ S1
def sWhile (n : Nat) (et : Env → Sto → R Bool) (se : Env → Sto → RS) : Env → Sto → RS := fun ρ S => whileL et se n ρ S
theorem whileL_s {et : Env → Sto → R Bool} {se : Env → Sto → RS} {n : Nat} {ρ : Env} {S : Sto} : whileL et se (n + 1) ρ S = onE (et ρ S) ρ fun b S1 => if b then (match se ρ S1 with
      | .nx ρ2 S2 => whileL et se n ρ2 S2
      | .ct ρ2 S2 => whileL et se n ρ2 S2
      | .bk ρ2 S2 => .nx ρ2 S2
      | .rt f S2 => .rt f S2
      | .err x ρ2 S2 => .err x ρ2 S2
      | .bad => .bad) else .nx ρ S1 := by
  rw [whileL, fcE_eq, fcS_eq]
section
variable {X : Cx} {W : WX} {pos : Pos}
theorem pds_while (n : Nat) {c : Expr} {body : List Stmt} {et : Env → Sto → R Bool} {se : Env → Sto → RS} (hp : PassesOwn (model X.prog X.w) X.A X.env X.xe) (hc : PDT X W c et) (hb : PDSs X W body se) : PDS X W (.While c body [] pos) (sWhile n et se) :=
  PS.imp (ps_while hp hc hb) fun E σ H ⟨μ, S, ρ, r, re, p⟩ => by
    refine ⟨fun m σ' H' => ∃ μ' S' ρ', Kp X.K μ H μ' H' ∧ Rep X.K μ' S' H' ∧ RE X.K μ' H' ρ' σ' ∧ PostS X.K X.mg W μ' H' E (whileL et se m ρ' S'), ⟨n, μ, S, ρ, .refl, r, re, p⟩, ?_⟩
    rintro m σ2 H2 ⟨μ2, S2, ρ2, k2, r2, re2, p2⟩
    cases m with
    | zero => exact p2.elim
    | succ m =>
      rw [whileL_s] at p2
      refine ⟨μ2, S2, ρ2, r2, re2, PostS.onE p2 re2 fun b S3 μ3 H3 b' _ k3 r3 eb p3 => ?_⟩
      subst eb
      cases b with
      | false =>
        rw [if_neg (by decide)] at p3 ⊢
        exact p3 μ3 H3 σ2 .refl r3 (re2.mono k3)
      | true =>
        rw [if_pos rfl] at p3 ⊢
        refine ⟨fun σ' H' => ∃ μ' S' ρ', Kp X.K μ H μ' H' ∧ Rep X.K μ' S' H' ∧ RE X.K μ' H' ρ' σ' ∧ PostS X.K X.mg W μ' H' E (whileL et se m ρ' S'), fun σ' H' h => ⟨m, Nat.lt_succ_self m, h⟩, μ3, S3, ρ2, r3, re2.mono k3, ?_⟩
        cases hse : se ρ2 S3 with
        | nx ρ4 S4 => rw [hse] at p3; exact fun μ' H'' σ' k' r' re' => ⟨μ', S4, ρ4, (k2.trans k3).trans k', r', re', PostS.step k' p3⟩
        | ct ρ4 S4 => rw [hse] at p3; exact fun μ' H'' σ' k' r' re' => ⟨μ', S4, ρ4, (k2.trans k3).trans k', r', re', PostS.step k' p3⟩
        | bk ρ4 S4 => rw [hse] at p3; exact p3
        | rt f S4 => rw [hse] at p3; exact p3
        | err x ρ4 S4 => rw [hse] at p3; exact p3
        | bad => rw [hse] at p3; exact p3
end
end DL
/-! ## K12 -/
set_option maxHeartbeats 4000000
namespace LK
open PySem PySem.Spec L2 DL
def topS (i : Nat) : Stmt := PySem.Challenge.pw_leavefirst_k12_names_that_plans_lack.main.body.getD i (.Pass ⟨0, 0, 0, 0⟩)
theorem hv_rm {k : Nat} {A : Around} (h : Room k A) : A.units + 65 < cLine := by have := h.un; omega
theorem hu_rm {k : Nat} {A : Around} (h : Room k A) : A.units + 64 < cLine := h.units
structure Txt (K : PySem.W.Frag) (mg : Str → Option Value) : Prop where
  z_enumerate : mg "enumerate" = none
  z_sorted : mg "sorted" = none
  z_tuple : mg "tuple" = none
  z_zip : mg "zip" = none
  z_list : mg "list" = none
  z_min : mg "min" = none
  z_int : mg "int" = none
  z_len : mg "len" = none
  z_range : mg "range" = none
  z_dict : mg "dict" = none
  x_Tangled : OwnT K mg "Tangled" "name"
section
variable {P : Program} {w : World} {K : PySem.W.Frag} {mg : Str → Option Value} {base : Heap}
/-! ### all_places -/
abbrev s_all_places : Stmt := topS 3
theorem sc_all_places : FnScope ["plan", "found", "sign", "_", "changes", "version", "name"] ["plan"] (defScope s_all_places) := ⟨rfl, rfl, rfl, by decide +kernel, rfl, by decide +kernel, by decide +kernel⟩
def b_all_places : DL.Env → Sto → RS :=
  (sSeq (fun ρ S => onE (eDict ρ S) ρ fun d S1 => .nx (ρ.set 1 (some d)) S1)
  (sSeq (sFor (eEnum 0 (eSub (eVar 0) (eC (.int 0)))) (gTpN 2 (gsCons (gNm 2) (gsCons (gTpN 2 (gsCons (gNm 3) (gsCons (gNm 4) gsNil))) gsNil))) (sFor (eEnum 1 (eVar 4)) (gTpN 2 (gsCons (gNm 5) (gsCons (gTpN 2 (gsCons (gNm 6) (gsCons (gNm 3) gsNil))) gsNil))) (sPut (eVar 1) (eVar 6) (eTup (eCons (eVar 2) (eCons (eVar 5) eNil))))))
  (sRet (eVar 1))))
def d_all_places : List D → Sto → R F := runF 6 b_all_places
theorem ok_all_places (T : Txt K mg) {f : Addr} {fd : FuncData} (F : Fun K "all_places" "all_places" s_all_places f fd) (hm : mg "all_places" = some (.ref f)) (hb : Binds K fd ["plan"] [])  :
    FnT P w K mg base 1 "all_places" ["plan"] d_all_places := fnT (k := 0) (sb := b_all_places) 6 F hm hb sc_all_places (fun cdv A outer s H E G =>
  (pds_cons (gnewD 1 sc_all_places.nd)
  (pds_cons (pds_for G.po rfl (pdi_enum (by rfl) T.z_enumerate (pd_sub (by exact (hu_rm G.rm)) (gv 0) pd_int)) (pdg_tup rfl (pdgs_cons (gnm 2 sc_all_places.nd) (pdgs_cons (pdg_tup rfl (pdgs_cons (gnm 3 sc_all_places.nd) (pdgs_cons (gnm 4 sc_all_places.nd) pdgs_nil))) pdgs_nil))) (pds_one (pds_for G.po rfl (pdi_enumK (by decide) (by rfl) T.z_enumerate (gv 4)) (pdg_tup rfl (pdgs_cons (gnm 5 sc_all_places.nd) (pdgs_cons (pdg_tup rfl (pdgs_cons (gnm 6 sc_all_places.nd) (pdgs_cons (gnm 3 sc_all_places.nd) pdgs_nil))) pdgs_nil))) (pds_one (pds_put (hu_rm G.rm) (gv 1) (gv 6) (pd_tup (pda_cons (gv 2) (pda_cons (gv 5) pda_nil))))))))
  (pds_one (pds_ret (gv 1))))))
/-! ### names_of -/
abbrev s_names_of : Stmt := topS 4
theorem sc_names_of : FnScope ["plan"] ["plan"] (defScope s_names_of) := ⟨rfl, rfl, rfl, by decide +kernel, rfl, by decide +kernel, by decide +kernel⟩
def b_names_of : DL.Env → Sto → RS :=
  (sRet (eB (f1 tupleF) (fCons (eB (f1 sortA) (fCons (eCall 1 d_all_places (eCons (eVar 0) eNil)) fNil)) fNil)))
def d_names_of : List D → Sto → R F := runF 0 b_names_of
theorem ok_names_of (T : Txt K mg) {f : Addr} {fd : FuncData} (F : Fun K "names_of" "names_of" s_names_of f fd) (hm : mg "names_of" = some (.ref f)) (hb : Binds K fd ["plan"] []) (C_all_places : FnT P w K mg base 1 "all_places" ["plan"] d_all_places) :
    FnT P w K mg base 2 "names_of" ["plan"] d_names_of := fnT (k := 1) (sb := b_names_of) 0 F hm hb sc_names_of (fun cdv A outer s H E G =>
  (pds_one (pds_ret (pd_callTy d_tuple (by rfl) T.z_tuple (by decide +kernel) (pdf_cons (pd_callB (d_sortedA rfl) (by rfl) T.z_sorted (by decide +kernel) (pdf_cons (gcall C_all_places (by exact G.gd) (by exact G.rm.mono (j := 1) (by decide)) G.tk (pda_cons (gv 0) pda_nil)) pdf_nil)) pdf_nil)))))
/-! ### neighbours -/
abbrev s_neighbours : Stmt := topS 6
theorem sc_neighbours : FnScope ["plan", "found", "_", "changes", "before", "after"] ["plan"] (defScope s_neighbours) := ⟨rfl, rfl, rfl, by decide +kernel, rfl, by decide +kernel, by decide +kernel⟩
def b_neighbours : DL.Env → Sto → RS :=
  (sSeq (sAsg (gNm 1) (eLst eNil))
  (sSeq (sFor (eSeq (eSub (eVar 0) (eC (.int 0)))) (gTpN 2 (gsCons (gNm 2) (gsCons (gNm 3) gsNil))) (sFor (eZip (fCons (eVar 3) (fCons (eSl (eVar 3) (ePart (eC (.int 1))) eNoPart) fNil))) (gTpN 2 (gsCons (gNm 4) (gsCons (gNm 5) gsNil))) (sMtL appO (eVar 1) (eCons (eTup (eCons (eSub (eVar 4) (eC (.int 0))) (eCons (eSub (eVar 5) (eC (.int 0))) eNil))) eNil))))
  (sRet (eVar 1))))
def d_neighbours : List D → Sto → R F := runF 5 b_neighbours
theorem ok_neighbours (T : Txt K mg) {f : Addr} {fd : FuncData} (F : Fun K "neighbours" "neighbours" s_neighbours f fd) (hm : mg "neighbours" = some (.ref f)) (hb : Binds K fd ["plan"] [])  :
    FnT P w K mg base 1 "neighbours" ["plan"] d_neighbours := fnT (k := 0) (sb := b_neighbours) 5 F hm hb sc_neighbours (fun cdv A outer s H E G =>
  (pds_cons (gset 1 sc_neighbours.nd (pd_lst pda_nil))
  (pds_cons (pds_for G.po rfl (pdi_seq (pd_sub (by exact (hu_rm G.rm)) (gv 0) pd_int)) (pdg_tup rfl (pdgs_cons (gnm 2 sc_neighbours.nd) (pdgs_cons (gnm 3 sc_neighbours.nd) pdgs_nil))) (pds_one (pds_for G.po rfl (pdi_zip (by rfl) T.z_zip (pdf_cons (gv 3) (pdf_cons (pd_sl (gv 3) (pdp_some pd_int) pdp_none) pdf_nil))) (pdg_tup rfl (pdgs_cons (gnm 4 sc_neighbours.nd) (pdgs_cons (gnm 5 sc_neighbours.nd) pdgs_nil))) (pds_one (pds_app (gv 1) (pda_cons (pd_tup (pda_cons (pd_sub (by exact (hu_rm G.rm)) (gv 4) pd_int) (pda_cons (pd_sub (by exact (hu_rm G.rm)) (gv 5) pd_int) pda_nil))) pda_nil))))))
  (pds_one (pds_ret (gv 1))))))
/-! ### steps_from -/
abbrev s_steps_from : Stmt := topS 7
theorem sc_steps_from : FnScope ["plan", "waits", "drains", "steps", "close", "before", "after", "name"] ["plan", "waits", "drains"] (defScope s_steps_from) := ⟨rfl, rfl, rfl, by decide +kernel, rfl, by decide +kernel, by decide +kernel⟩
def b_steps_from : DL.Env → Sto → RS :=
  (sSeq (sAsg (gNm 3) (eDc (eSeq (eCall 1 d_names_of (eCons (eVar 0) eNil))) (gNm 7) tYes' (eVar 7) (eLst eNil) [7]))
  (sSeq (sAsg (gNm 4) (eCall 1 d_neighbours (eCons (eVar 0) eNil)))
  (sSeq (sFor (eSeq (eLst (eStar (eVar 1) (eStar (eVar 2) (eStar (eVar 4) eNil))))) (gTpN 2 (gsCons (gNm 5) (gsCons (gNm 6) gsNil))) (sSeq (sMtL appO (eSetd (eVar 3) (eVar 5) (eLst eNil)) (eCons (eVar 6) eNil))
  (sDrop (eSetd (eVar 3) (eVar 6) (eLst eNil)))))
  (sRet (eVar 3)))))
def d_steps_from : List D → Sto → R F := runF 5 b_steps_from
theorem ok_steps_from (T : Txt K mg) {f : Addr} {fd : FuncData} (F : Fun K "steps_from" "steps_from" s_steps_from f fd) (hm : mg "steps_from" = some (.ref f)) (hb : Binds K fd ["plan", "waits", "drains"] []) (C_neighbours : FnT P w K mg base 1 "neighbours" ["plan"] d_neighbours) (C_names_of : FnT P w K mg base 2 "names_of" ["plan"] d_names_of) :
    FnT P w K mg base 3 "steps_from" ["plan", "waits", "drains"] d_steps_from := fnT (k := 2) (sb := b_steps_from) 5 F hm hb sc_steps_from (fun cdv A outer s H E G =>
  (pds_cons (pds_setDc (i := 3) (own := [("name", 7)]) (is := [7]) rfl sc_steps_from.nd rfl rfl (sw_trueD rfl rfl rfl (by decide +kernel)) (pdi_seq (gcall C_names_of (by exact G.gd) (by exact G.rm.mono (j := 2) (by decide)) G.tk (pda_cons (gv 0) pda_nil))) (by decide +kernel : blkC ["plan", "waits", "drains", "steps", "close", "before", "after", "name"] (defScope s_steps_from) _ [("name", 7)] = true) (fun _ _ _ _ _ => (gnm 7 sc_steps_from.nd)) (fun _ _ _ _ _ => pts_nil') (fun _ _ _ _ _ => (gv 7)) (fun _ _ _ _ _ => (pd_lst pda_nil)) (by decide))
  (pds_cons (gset 4 sc_steps_from.nd (gcall C_neighbours (by exact G.gd) (by exact G.rm.mono (j := 1) (by decide)) G.tk (pda_cons (gv 0) pda_nil)))
  (pds_cons (pds_for G.po rfl (pdi_seq (pd_lst (pda_star (gv 1) (pda_star (gv 2) (pda_star (gv 4) pda_nil))))) (pdg_tup rfl (pdgs_cons (gnm 5 sc_steps_from.nd) (pdgs_cons (gnm 6 sc_steps_from.nd) pdgs_nil))) (pds_cons (pds_app (pd_setd (gv 3) (gv 5) (pd_lst pda_nil)) (pda_cons (gv 6) pda_nil))
  (pds_one (pds_drop (pd_setd (gv 3) (gv 6) (pd_lst pda_nil))))))
  (pds_one (pds_ret (gv 3)))))))
/-! ### behind_one -/
abbrev s_behind_one : Stmt := topS 9
theorem sc_behind_one : FnScope ["steps", "name", "behind", "todo", "after"] ["steps", "name"] (defScope s_behind_one) := ⟨rfl, rfl, rfl, by decide +kernel, rfl, by decide +kernel, by decide +kernel⟩
def b_behind_one : DL.Env → Sto → RS :=
  (sSeq (fun ρ S => onE (eDict ρ S) ρ fun d S1 => .nx (ρ.set 2 (some d)) S1)
  (sSeq (sAsg (gNm 3) (eB (f1 listF) (fCons (eSub (eVar 0) (eVar 1)) fNil)))
  (sSeq (sWhile 100000 (tTru (eVar 3)) (sSeq (sAsg (gNm 4) (ePop (eVar 3)))
  (sIf (tOfB (eIn true (eVar 4) (eVar 2))) (sSeq (sPut (eVar 2) (eVar 4) (eC (.bl true)))
  (sMtL extO (eVar 3) (eCons (eSub (eVar 0) (eVar 4)) eNil))) sNil)))
  (sRet (eVar 2)))))
def d_behind_one : List D → Sto → R F := runF 3 b_behind_one
theorem ok_behind_one (T : Txt K mg) {f : Addr} {fd : FuncData} (F : Fun K "behind_one" "behind_one" s_behind_one f fd) (hm : mg "behind_one" = some (.ref f)) (hb : Binds K fd ["steps", "name"] [])  :
    FnT P w K mg base 1 "behind_one" ["steps", "name"] d_behind_one := fnT (k := 0) (sb := b_behind_one) 3 F hm hb sc_behind_one (fun cdv A outer s H E G =>
  (pds_cons (gnewD 2 sc_behind_one.nd)
  (pds_cons (gset 3 sc_behind_one.nd (pd_callTy d_list (by rfl) T.z_list (by decide +kernel) (pdf_cons (pd_sub (by exact (hu_rm G.rm)) (gv 0) (gv 1)) pdf_nil)))
  (pds_cons (pds_while 100000 G.po (pdt_tru (gv 3)) (pds_cons (gset 4 sc_behind_one.nd (pd_pop (gv 3)))
  (pds_one (pds_if (pdt_inN (by exact (hu_rm G.rm)) (gv 4) (gv 2)) (pds_cons (pds_put (hu_rm G.rm) (gv 2) (gv 4) pd_bl)
  (pds_one (pds_ext (gv 3) (pda_cons (pd_sub (by exact (hu_rm G.rm)) (gv 0) (gv 4)) pda_nil)))) pds_nil))))
  (pds_one (pds_ret (gv 2)))))))
/-! ### all_behind -/
abbrev s_all_behind : Stmt := topS 8
theorem sc_all_behind : FnScope ["plan", "waits", "drains", "steps", "name"] ["plan", "waits", "drains"] (defScope s_all_behind) := ⟨rfl, rfl, rfl, by decide +kernel, rfl, by decide +kernel, by decide +kernel⟩
def b_all_behind : DL.Env → Sto → RS :=
  (sSeq (sAsg (gNm 3) (eCall 3 d_steps_from (eCons (eVar 0) (eCons (eVar 1) (eCons (eVar 2) eNil)))))
  (sRet (eLk (loE (eVar 3)) (eDc (eSeqK (eVar 3)) (gNm 4) tYes' (eVar 4) (eCall 2 d_behind_one (eCons (eVar 3) (eCons (eVar 4) eNil))) [4]))))
def d_all_behind : List D → Sto → R F := runF 2 b_all_behind
theorem ok_all_behind (T : Txt K mg) {f : Addr} {fd : FuncData} (F : Fun K "all_behind" "all_behind" s_all_behind f fd) (hm : mg "all_behind" = some (.ref f)) (hb : Binds K fd ["plan", "waits", "drains"] []) (C_steps_from : FnT P w K mg base 3 "steps_from" ["plan", "waits", "drains"] d_steps_from) (C_behind_one : FnT P w K mg base 1 "behind_one" ["steps", "name"] d_behind_one) :
    FnT P w K mg base 4 "all_behind" ["plan", "waits", "drains"] d_all_behind := fnT (k := 3) (sb := b_all_behind) 2 F hm hb sc_all_behind (fun cdv A outer s H E G =>
  (pds_cons (gset 3 sc_all_behind.nd (gcall C_steps_from (by exact G.gd) (by exact G.rm.mono (j := 3) (by decide)) G.tk (pda_cons (gv 0) (pda_cons (gv 1) (pda_cons (gv 2) pda_nil)))))
  (pds_one (pds_ret (pd_lk (loE (eVar 3)) (pd_dc (own := [("name", 4)]) (is := [4]) rfl sc_all_behind.nd (pdi_keys (gv 3)) (by decide +kernel : blkC ["plan", "waits", "drains", "steps", "name"] (defScope s_all_behind) _ [("name", 4)] = true) (fun _ _ _ _ _ => (gnm 4 sc_all_behind.nd)) (fun _ _ _ _ _ => pts_nil') (fun _ _ _ _ _ => (gv 4)) (fun _ _ _ _ _ => (gcall C_behind_one (by exact G.gd) (by exact G.rm.mono (j := 1) (by decide)) takesN (pda_cons (gv 3) (pda_cons (gv 4) pda_nil)))) (by decide)))))))
/-! ### least_in_round -/
abbrev s_least_in_round : Stmt := topS 10
theorem sc_least_in_round : FnScope ["behind", "name"] ["behind"] (defScope s_least_in_round) := ⟨rfl, rfl, rfl, by decide +kernel, rfl, by decide +kernel, by decide +kernel⟩
def b_least_in_round : DL.Env → Sto → RS :=
  (sRet (eMinN (eLk (loE (eVar 0)) (eLc (eSeqK (eVar 0)) (gNm 1) (tOfB (eIn false (eVar 1) (eSub (eVar 0) (eVar 1)))) (eVar 1) [1]))))
def d_least_in_round : List D → Sto → R F := runF 1 b_least_in_round
theorem ok_least_in_round (T : Txt K mg) {f : Addr} {fd : FuncData} (F : Fun K "least_in_round" "least_in_round" s_least_in_round f fd) (hm : mg "least_in_round" = some (.ref f)) (hb : Binds K fd ["behind"] [])  :
    FnT P w K mg base 1 "least_in_round" ["behind"] d_least_in_round := fnT (k := 0) (sb := b_least_in_round) 1 F hm hb sc_least_in_round (fun cdv A outer s H E G =>
  (pds_one (pds_ret (pd_minN rfl (by rfl) T.z_min (pd_lk (loE (eVar 0)) (pd_lc (own := [("name", 1)]) (is := [1]) rfl sc_least_in_round.nd (pdi_keys (gv 0)) (by decide +kernel : blkC ["behind", "name"] (defScope s_least_in_round) _ [("name", 1)] = true) (fun _ _ _ _ _ => (gnm 1 sc_least_in_round.nd)) (fun _ _ _ _ _ => (pts_one (pdt_in (by exact (hu_rm G.rm)) (gv 1) (pd_sub (by exact (hu_rm G.rm)) (gv 0) (gv 1))))) (fun _ _ _ _ _ => (gv 1)) (by decide)))))))
/-! ### untangled -/
abbrev s_untangled : Stmt := topS 11
theorem sc_untangled : FnScope ["plan", "waits", "drains", "behind", "name"] ["plan", "waits", "drains"] (defScope s_untangled) := ⟨rfl, rfl, rfl, by decide +kernel, rfl, by decide +kernel, by decide +kernel⟩
def b_untangled : DL.Env → Sto → RS :=
  (sSeq (sAsg (gNm 3) (eCall 3 d_all_behind (eCons (eVar 0) (eCons (eVar 1) (eCons (eVar 2) eNil)))))
  (sSeq (sAsg (gNm 4) (eCall 1 d_least_in_round (eCons (eVar 3) eNil)))
  (sSeq (sIf (tOfB (eOp isntF (eVar 4) (eC .non))) (sRaise "Tangled" "name" (eCons (eVar 4) eNil)) sNil)
  (sRet (eVar 3)))))
def d_untangled : List D → Sto → R F := runF 2 b_untangled
theorem ok_untangled (T : Txt K mg) {f : Addr} {fd : FuncData} (F : Fun K "untangled" "untangled" s_untangled f fd) (hm : mg "untangled" = some (.ref f)) (hb : Binds K fd ["plan", "waits", "drains"] []) (C_all_behind : FnT P w K mg base 4 "all_behind" ["plan", "waits", "drains"] d_all_behind) (C_least_in_round : FnT P w K mg base 1 "least_in_round" ["behind"] d_least_in_round) :
    FnT P w K mg base 5 "untangled" ["plan", "waits", "drains"] d_untangled := fnT (k := 4) (sb := b_untangled) 2 F hm hb sc_untangled (fun cdv A outer s H E G =>
  (pds_cons (gset 3 sc_untangled.nd (gcall C_all_behind (by exact G.gd) (by exact G.rm.mono (j := 4) (by decide)) G.tk (pda_cons (gv 0) (pda_cons (gv 1) (pda_cons (gv 2) pda_nil)))))
  (pds_cons (gset 4 sc_untangled.nd (gcall C_least_in_round (by exact G.gd) (by exact G.rm.mono (j := 1) (by decide)) G.tk (pda_cons (gv 3) pda_nil)))
  (pds_cons (pds_if (pdt_cmp d_isnt (gv 4) pd_non) (pds_one (graise T.x_Tangled (by exact G.rm.mono (j := 1) (by decide)) G.tk (pda_cons (gv 4) pda_nil))) pds_nil)
  (pds_one (pds_ret (gv 3)))))))
/-! ### same_or_behind -/
abbrev s_same_or_behind : Stmt := topS 12
theorem sc_same_or_behind : FnScope ["behind", "before", "after"] ["behind", "before", "after"] (defScope s_same_or_behind) := ⟨rfl, rfl, rfl, by decide +kernel, rfl, by decide +kernel, by decide +kernel⟩
def b_same_or_behind : DL.Env → Sto → RS :=
  (sRet (eOr (eOp eqF (eVar 1) (eVar 2)) (eIn false (eVar 2) (eGet2 (eVar 0) (eVar 1) eDict0))))
def d_same_or_behind : List D → Sto → R F := runF 0 b_same_or_behind
theorem ok_same_or_behind (T : Txt K mg) {f : Addr} {fd : FuncData} (F : Fun K "same_or_behind" "same_or_behind" s_same_or_behind f fd) (hm : mg "same_or_behind" = some (.ref f)) (hb : Binds K fd ["behind", "before", "after"] [])  :
    FnT P w K mg base 1 "same_or_behind" ["behind", "before", "after"] d_same_or_behind := fnT (k := 0) (sb := b_same_or_behind) 0 F hm hb sc_same_or_behind (fun cdv A outer s H E G =>
  (pds_one (pds_ret (pd_or (pd_cmp (d_eq (by exact (hu_rm G.rm))) (gv 1) (gv 2)) (pd_one (pd_in (by exact (hu_rm G.rm)) (gv 2) (pd_get2 (by exact (hu_rm G.rm)) (gv 0) (gv 1) pd_dict0)))))))
/-! ### drained_pairs -/
abbrev s_drained_pairs : Stmt := topS 13
theorem sc_drained_pairs : FnScope ["names", "drains", "behind", "found", "before", "after", "ahead_of_it", "behind_it", "c", "d", "name"] ["names", "drains", "behind"] (defScope s_drained_pairs) := ⟨rfl, rfl, rfl, by decide +kernel, rfl, by decide +kernel, by decide +kernel⟩
def b_drained_pairs : DL.Env → Sto → RS :=
  (sSeq (sAsg (gNm 3) eDict0T)
  (sSeq (sFor (eSeq (eVar 1)) (gTpN 2 (gsCons (gNm 4) (gsCons (gNm 5) gsNil))) (sSeq (sAsg (gNm 6) (eLc (eSeq (eVar 0)) (gNm 10) (tTru (eCall 3 d_same_or_behind (eCons (eVar 2) (eCons (eVar 10) (eCons (eVar 4) eNil))))) (eVar 10) [10]))
  (sSeq (sAsg (gNm 7) (eLc (eSeq (eVar 0)) (gNm 10) (tTru (eCall 3 d_same_or_behind (eCons (eVar 2) (eCons (eVar 5) (eCons (eVar 10) eNil))))) (eVar 10) [10]))
  (sFor (eSeq (eVar 6)) (gNm 8) (sFor (eSeq (eVar 7)) (gNm 9) (sPutT (eVar 3) (eCons (eVar 8) (eCons (eVar 9) eNil)) (eC (.bl true))))))))
  (sRet (eB (f1 tupleF) (fCons (eB (f1 sortA) (fCons (eVar 3) fNil)) fNil)))))
def d_drained_pairs : List D → Sto → R F := runF 8 b_drained_pairs
theorem ok_drained_pairs (T : Txt K mg) {f : Addr} {fd : FuncData} (F : Fun K "drained_pairs" "drained_pairs" s_drained_pairs f fd) (hm : mg "drained_pairs" = some (.ref f)) (hb : Binds K fd ["names", "drains", "behind"] []) (C_same_or_behind : FnT P w K mg base 1 "same_or_behind" ["behind", "before", "after"] d_same_or_behind) :
    FnT P w K mg base 2 "drained_pairs" ["names", "drains", "behind"] d_drained_pairs := fnT (k := 1) (sb := b_drained_pairs) 8 F hm hb sc_drained_pairs (fun cdv A outer s H E G =>
  (pds_cons (gset 3 sc_drained_pairs.nd pd_dict0T)
  (pds_cons (pds_for G.po rfl (pdi_seq (gv 1)) (pdg_tup rfl (pdgs_cons (gnm 4 sc_drained_pairs.nd) (pdgs_cons (gnm 5 sc_drained_pairs.nd) pdgs_nil))) (pds_cons (pds_setLc (i := 6) (own := [("name", 10)]) (is := [10]) rfl sc_drained_pairs.nd rfl rfl (sw_true rfl rfl rfl (by decide +kernel)) (pdi_seq (gv 0)) (by decide +kernel : blkC ["names", "drains", "behind", "found", "before", "after", "ahead_of_it", "behind_it", "c", "d", "name"] (defScope s_drained_pairs) _ [("name", 10)] = true) (fun _ _ _ _ _ => (gnm 10 sc_drained_pairs.nd)) (fun _ _ _ _ _ => (pts_one (pdt_tru (gcall C_same_or_behind (by exact G.gd) (by exact G.rm.mono (j := 1) (by decide)) takesN (pda_cons (gv 2) (pda_cons (gv 10) (pda_cons (gv 4) pda_nil))))))) (fun _ _ _ _ _ => (gv 10)) (by decide))
  (pds_cons (pds_setLc (i := 7) (own := [("name", 10)]) (is := [10]) rfl sc_drained_pairs.nd rfl rfl (sw_true rfl rfl rfl (by decide +kernel)) (pdi_seq (gv 0)) (by decide +kernel : blkC ["names", "drains", "behind", "found", "before", "after", "ahead_of_it", "behind_it", "c", "d", "name"] (defScope s_drained_pairs) _ [("name", 10)] = true) (fun _ _ _ _ _ => (gnm 10 sc_drained_pairs.nd)) (fun _ _ _ _ _ => (pts_one (pdt_tru (gcall C_same_or_behind (by exact G.gd) (by exact G.rm.mono (j := 1) (by decide)) takesN (pda_cons (gv 2) (pda_cons (gv 5) (pda_cons (gv 10) pda_nil))))))) (fun _ _ _ _ _ => (gv 10)) (by decide))
  (pds_one (pds_for G.po rfl (pdi_seq (gv 6)) (gnm 8 sc_drained_pairs.nd) (pds_one (pds_for G.po rfl (pdi_seq (gv 7)) (gnm 9 sc_drained_pairs.nd) (pds_one (pds_putT (hu_rm G.rm) (gv 3) (pda_cons (gv 8) (pda_cons (gv 9) pda_nil)) pd_bl)))))))))
  (pds_one (pds_ret (pd_callTy d_tuple (by rfl) T.z_tuple (by decide +kernel) (pdf_cons (pd_callB (d_sortedA rfl) (by rfl) T.z_sorted (by decide +kernel) (pdf_cons (gv 3) pdf_nil)) pdf_nil)))))))
/-! ### is_regime -/
abbrev s_is_regime : Stmt := topS 14
theorem sc_is_regime : FnScope ["plan", "waits", "drains"] ["plan", "waits", "drains"] (defScope s_is_regime) := ⟨rfl, rfl, rfl, by decide +kernel, rfl, by decide +kernel, by decide +kernel⟩
def b_is_regime : DL.Env → Sto → RS :=
  (sRet (eOp isF (eCall 1 d_least_in_round (eCons (eCall 3 d_all_behind (eCons (eVar 0) (eCons (eVar 1) (eCons (eVar 2) eNil)))) eNil)) (eC .non)))
def d_is_regime : List D → Sto → R F := runF 0 b_is_regime
theorem ok_is_regime (T : Txt K mg) {f : Addr} {fd : FuncData} (F : Fun K "is_regime" "is_regime" s_is_regime f fd) (hm : mg "is_regime" = some (.ref f)) (hb : Binds K fd ["plan", "waits", "drains"] []) (C_least_in_round : FnT P w K mg base 1 "least_in_round" ["behind"] d_least_in_round) (C_all_behind : FnT P w K mg base 4 "all_behind" ["plan", "waits", "drains"] d_all_behind) :
    FnT P w K mg base 5 "is_regime" ["plan", "waits", "drains"] d_is_regime := fnT (k := 4) (sb := b_is_regime) 0 F hm hb sc_is_regime (fun cdv A outer s H E G =>
  (pds_one (pds_ret (pd_cmp d_is (gcall C_least_in_round (by exact G.gd) (by exact G.rm.mono (j := 1) (by decide)) G.tk (pda_cons (gcall C_all_behind (by exact G.gd) (by exact G.rm.mono (j := 4) (by decide)) G.tk (pda_cons (gv 0) (pda_cons (gv 1) (pda_cons (gv 2) pda_nil)))) pda_nil)) pd_non))))
/-! ### regime_of -/
abbrev s_regime_of : Stmt := topS 15
theorem sc_regime_of : FnScope ["plan", "waits", "drains", "behind", "names", "order", "a", "b"] ["plan", "waits", "drains"] (defScope s_regime_of) := ⟨rfl, rfl, rfl, by decide +kernel, rfl, by decide +kernel, by decide +kernel⟩
def b_regime_of : DL.Env → Sto → RS :=
  (sSeq (sAsg (gNm 3) (eCall 3 d_untangled (eCons (eVar 0) (eCons (eVar 1) (eCons (eVar 2) eNil)))))
  (sSeq (sAsg (gNm 4) (eCall 1 d_names_of (eCons (eVar 0) eNil)))
  (sSeq (sAsg (gNm 5) (eB (f1 tupleF) (fCons (eLc2 (eSeq (eVar 4)) (gNm 6) tYes' (eSeq (eVar 4)) (gNm 7) (tOfB (eIn false (eVar 7) (eSub (eVar 3) (eVar 6)))) (eTup (eCons (eVar 6) (eCons (eVar 7) eNil))) [6, 7] [7]) fNil)))
  (sRet (eTup (eCons (eVar 5) (eCons (eCall 3 d_drained_pairs (eCons (eVar 4) (eCons (eVar 2) (eCons (eVar 3) eNil)))) eNil)))))))
def d_regime_of : List D → Sto → R F := runF 5 b_regime_of
theorem ok_regime_of (T : Txt K mg) {f : Addr} {fd : FuncData} (F : Fun K "regime_of" "regime_of" s_regime_of f fd) (hm : mg "regime_of" = some (.ref f)) (hb : Binds K fd ["plan", "waits", "drains"] []) (C_untangled : FnT P w K mg base 5 "untangled" ["plan", "waits", "drains"] d_untangled) (C_names_of : FnT P w K mg base 2 "names_of" ["plan"] d_names_of) (C_drained_pairs : FnT P w K mg base 2 "drained_pairs" ["names", "drains", "behind"] d_drained_pairs) :
    FnT P w K mg base 6 "regime_of" ["plan", "waits", "drains"] d_regime_of := fnT (k := 5) (sb := b_regime_of) 5 F hm hb sc_regime_of (fun cdv A outer s H E G =>
  (pds_cons (gset 3 sc_regime_of.nd (gcall C_untangled (by exact G.gd) (by exact G.rm.mono (j := 5) (by decide)) G.tk (pda_cons (gv 0) (pda_cons (gv 1) (pda_cons (gv 2) pda_nil)))))
  (pds_cons (gset 4 sc_regime_of.nd (gcall C_names_of (by exact G.gd) (by exact G.rm.mono (j := 2) (by decide)) G.tk (pda_cons (gv 0) pda_nil)))
  (pds_cons (gset 5 sc_regime_of.nd (pd_callTy d_tuple (by rfl) T.z_tuple (by decide +kernel) (pdf_cons (pd_lc2 (own := [("a", 6), ("b", 7)]) (vs1 := [7]) rfl sc_regime_of.nd (pdi_seq (gv 4)) (by decide +kernel : blkC ["plan", "waits", "drains", "behind", "names", "order", "a", "b"] (defScope s_regime_of) _ [("a", 6), ("b", 7)] = true) (fun _ _ _ _ _ => (gnm 6 sc_regime_of.nd)) (fun _ _ _ _ _ => pts_nil') (fun _ _ _ _ _ => (pdi_seq (gv 4))) (fun _ _ _ _ _ => (gnm 7 sc_regime_of.nd)) (fun _ _ _ _ _ => (pts_one (pdt_in (by exact (hu_rm G.rm)) (gv 7) (pd_sub (by exact (hu_rm G.rm)) (gv 3) (gv 6))))) (fun _ _ _ _ _ => (pd_tup (pda_cons (gv 6) (pda_cons (gv 7) pda_nil)))) (by decide) (by decide) (by decide)) pdf_nil)))
  (pds_one (pds_ret (pd_tup (pda_cons (gv 5) (pda_cons (gcall C_drained_pairs (by exact G.gd) (by exact G.rm.mono (j := 2) (by decide)) G.tk (pda_cons (gv 4) (pda_cons (gv 2) (pda_cons (gv 3) pda_nil)))) pda_nil)))))))))
/-! ### _law_pen -/
abbrev s_law_pen : Stmt := topS 17
theorem sc_law_pen : FnScope ["_law_script"] ["_law_script"] (defScope s_law_pen) := ⟨rfl, rfl, rfl, by decide +kernel, rfl, by decide +kernel, by decide +kernel⟩
def b_law_pen : DL.Env → Sto → RS :=
  (sRet (eLst (eCons (eB (f1 listF) (fCons (eSl (eVar 0) eNoPart (ePart (eC (.int 63)))) fNil)) (eCons (eC (.int 0)) (eCons (eC (.int 0)) eNil)))))
def d_law_pen : List D → Sto → R F := runF 0 b_law_pen
theorem ok_law_pen (T : Txt K mg) {f : Addr} {fd : FuncData} (F : Fun K "_law_pen" "_law_pen" s_law_pen f fd) (hm : mg "_law_pen" = some (.ref f)) (hb : Binds K fd ["_law_script"] [])  :
    FnT P w K mg base 1 "_law_pen" ["_law_script"] d_law_pen := fnT (k := 0) (sb := b_law_pen) 0 F hm hb sc_law_pen (fun cdv A outer s H E G =>
  (pds_one (pds_ret (pd_lst (pda_cons (pd_callTy d_list (by rfl) T.z_list (by decide +kernel) (pdf_cons (pd_sl (gv 0) pdp_none (pdp_some pd_int)) pdf_nil)) (pda_cons pd_int (pda_cons pd_int pda_nil)))))))
/-! ### _law_fresh -/
abbrev s_law_fresh : Stmt := topS 18
theorem sc_law_fresh : FnScope ["_law_pen_here", "_law_at", "_law_cell", "_law_p", "_law_state", "_law_found", "_law_turn"] ["_law_pen_here"] (defScope s_law_fresh) := ⟨rfl, rfl, rfl, by decide +kernel, rfl, by decide +kernel, by decide +kernel⟩
def b_law_fresh : DL.Env → Sto → RS :=
  (sSeq (sAsg (gNm 1) (eSub (eVar 0) (eC (.int 1))))
  (sSeq (sSet (eVar 0) (eC (.int 1)) (eOp addF (eVar 1) (eC (.int 1))))
  (sSeq (sAsg (gNm 2) (eC (.int 0)))
  (sSeq (sIf (tOfB (eOp neF (eSub (eVar 0) (eC (.int 0))) (eLst eNil))) (sAsg (gNm 2) (eSub (eSub (eVar 0) (eC (.int 0))) (eOp modF (eB (f1 intC) (fCons (eVar 1) fNil)) (eB (f1 lenF) (fCons (eSub (eVar 0) (eC (.int 0))) fNil))))) sNil)
  (sSeq (sIf (tAnd' (tOfB (eOp ltF (eVar 1) (eB (f1 lenF) (fCons (eSub (eVar 0) (eC (.int 0))) fNil)))) (tOfB (eOp geF (eVar 2) (eOp powF (eC (.int 10)) (eC (.int 18)))))) (sRet (eOp subF (eVar 2) (eOp powF (eC (.int 10)) (eC (.int 18))))) sNil)
  (sSeq (sAsg (gNm 3) (eC (.int 2305843009213693951)))
  (sSeq (sAsg (gNm 4) (eOp modF (eB (f1 intC) (fCons (eOp addF (eOp addF (eOp mulF (eVar 2) (eC (.int 48271))) (eOp mulF (eC (.int 40692)) (eVar 1))) (eC (.int 31))) fNil)) (eVar 3)))
  (sSeq (sAsg (gNm 5) (eVar 4))
  (sSeq (sFor (eRng1 (fCons (eC (.int 6)) fNil)) (gNm 6) (sSeq (sAsg (gNm 4) (eOp modF (eB (f1 intC) (fCons (eOp addF (eOp addF (eOp mulF (eVar 4) (eVar 4)) (eOp mulF (eOp mulF (eC (.int 69621)) (eOp addF (eVar 6) (eC (.int 1)))) (eOp addF (eVar 1) (eC (.int 1))))) (eVar 2)) fNil)) (eVar 3)))
  (sAsg (gNm 5) (eOp addF (eOp mulF (eVar 5) (eVar 3)) (eVar 4)))))
  (sRet (eVar 5)))))))))))
def d_law_fresh : List D → Sto → R F := runF 6 b_law_fresh
theorem ok_law_fresh (T : Txt K mg) {f : Addr} {fd : FuncData} (F : Fun K "_law_fresh" "_law_fresh" s_law_fresh f fd) (hm : mg "_law_fresh" = some (.ref f)) (hb : Binds K fd ["_law_pen_here"] [])  :
    FnT P w K mg base 1 "_law_fresh" ["_law_pen_here"] d_law_fresh := fnT (k := 0) (sb := b_law_fresh) 6 F hm hb sc_law_fresh (fun cdv A outer s H E G =>
  (pds_cons (gset 1 sc_law_fresh.nd (pd_sub (by exact (hu_rm G.rm)) (gv 0) pd_int))
  (pds_cons (pds_setL (gv 0) pd_int (pd_bin d_add (gv 1) pd_int))
  (pds_cons (gset 2 sc_law_fresh.nd pd_int)
  (pds_cons (pds_if (pdt_cmp (d_ne (by exact (hu_rm G.rm))) (pd_sub (by exact (hu_rm G.rm)) (gv 0) pd_int) (pd_lst pda_nil)) (pds_one (gset 2 sc_law_fresh.nd (pd_sub (by exact (hu_rm G.rm)) (pd_sub (by exact (hu_rm G.rm)) (gv 0) pd_int) (pd_bin d_mod (pd_callTy d_int (by rfl) T.z_int (by decide +kernel) (pdf_cons (gv 1) pdf_nil)) (pd_callB d_len (by rfl) T.z_len (by decide +kernel) (pdf_cons (pd_sub (by exact (hu_rm G.rm)) (gv 0) pd_int) pdf_nil)))))) pds_nil)
  (pds_cons (pds_if (pdw_pt (pdw_and (pdt_cmp d_lt (gv 1) (pd_callB d_len (by rfl) T.z_len (by decide +kernel) (pdf_cons (pd_sub (by exact (hu_rm G.rm)) (gv 0) pd_int) pdf_nil))) (pdw_and1 (pdt_cmp d_ge (gv 2) (pd_bin d_pow pd_int pd_int))))) (pds_one (pds_ret (pd_bin d_sub (gv 2) (pd_bin d_pow pd_int pd_int)))) pds_nil)
  (pds_cons (gset 3 sc_law_fresh.nd pd_int)
  (pds_cons (gset 4 sc_law_fresh.nd (pd_bin d_mod (pd_callTy d_int (by rfl) T.z_int (by decide +kernel) (pdf_cons (pd_bin d_add (pd_bin d_add (pd_bin d_mul (gv 2) pd_int) (pd_bin d_mul pd_int (gv 1))) pd_int) pdf_nil)) (gv 3)))
  (pds_cons (gset 5 sc_law_fresh.nd (gv 4))
  (pds_cons (pds_for G.po rfl (pdi_rng1 (by rfl) T.z_range (pdf_cons pd_int pdf_nil)) (gnm 6 sc_law_fresh.nd) (pds_cons (gset 4 sc_law_fresh.nd (pd_bin d_mod (pd_callTy d_int (by rfl) T.z_int (by decide +kernel) (pdf_cons (pd_bin d_add (pd_bin d_add (pd_bin d_mul (gv 4) (gv 4)) (pd_bin d_mul (pd_bin d_mul pd_int (pd_bin d_add (gv 6) pd_int)) (pd_bin d_add (gv 1) pd_int))) (gv 2)) pdf_nil)) (gv 3)))
  (pds_one (gset 5 sc_law_fresh.nd (pd_bin d_add (pd_bin d_mul (gv 5) (gv 3)) (gv 4))))))
  (pds_one (pds_ret (gv 5)))))))))))))
/-! ### _law_draw -/
abbrev s_law_draw : Stmt := topS 19
theorem sc_law_draw : FnScope ["_law_pen_here", "_law_many", "_law_digit"] ["_law_pen_here", "_law_many"] (defScope s_law_draw) := ⟨rfl, rfl, rfl, by decide +kernel, rfl, by decide +kernel, by decide +kernel⟩
def b_law_draw : DL.Env → Sto → RS :=
  (sSeq (sIf (tOfB (eOp ltF (eSub (eVar 0) (eC (.int 2))) (eVar 1))) (sSet (eVar 0) (eC (.int 2)) (eCall 1 d_law_fresh (eCons (eVar 0) eNil))) sNil)
  (sSeq (sAsg (gNm 2) (eOp modF (eB (f1 intC) (fCons (eSub (eVar 0) (eC (.int 2))) fNil)) (eVar 1)))
  (sSeq (sSet (eVar 0) (eC (.int 2)) (eOp fdivF (eB (f1 intC) (fCons (eSub (eVar 0) (eC (.int 2))) fNil)) (eVar 1)))
  (sRet (eVar 2)))))
def d_law_draw : List D → Sto → R F := runF 1 b_law_draw
theorem ok_law_draw (T : Txt K mg) {f : Addr} {fd : FuncData} (F : Fun K "_law_draw" "_law_draw" s_law_draw f fd) (hm : mg "_law_draw" = some (.ref f)) (hb : Binds K fd ["_law_pen_here", "_law_many"] []) (C_law_fresh : FnT P w K mg base 1 "_law_fresh" ["_law_pen_here"] d_law_fresh) :
    FnT P w K mg base 2 "_law_draw" ["_law_pen_here", "_law_many"] d_law_draw := fnT (k := 1) (sb := b_law_draw) 1 F hm hb sc_law_draw (fun cdv A outer s H E G =>
  (pds_cons (pds_if (pdt_cmp d_lt (pd_sub (by exact (hu_rm G.rm)) (gv 0) pd_int) (gv 1)) (pds_one (pds_setL (gv 0) pd_int (gcall C_law_fresh (by exact G.gd) (by exact G.rm.mono (j := 1) (by decide)) G.tk (pda_cons (gv 0) pda_nil)))) pds_nil)
  (pds_cons (gset 2 sc_law_draw.nd (pd_bin d_mod (pd_callTy d_int (by rfl) T.z_int (by decide +kernel) (pdf_cons (pd_sub (by exact (hu_rm G.rm)) (gv 0) pd_int) pdf_nil)) (gv 1)))
  (pds_cons (pds_setL (gv 0) pd_int (pd_bin d_fdiv (pd_callTy d_int (by rfl) T.z_int (by decide +kernel) (pdf_cons (pd_sub (by exact (hu_rm G.rm)) (gv 0) pd_int) pdf_nil)) (gv 1)))
  (pds_one (pds_ret (gv 2)))))))
/-! ### _law_shuffled -/
abbrev s_law_shuffled : Stmt := topS 20
theorem sc_law_shuffled : FnScope ["_law_pen_here", "_law_rows", "_law_found", "_law_part"] ["_law_pen_here", "_law_rows"] (defScope s_law_shuffled) := ⟨rfl, rfl, rfl, by decide +kernel, rfl, by decide +kernel, by decide +kernel⟩
def b_law_shuffled : DL.Env → Sto → RS :=
  (sSeq (sAsg (gNm 2) (eLst eNil))
  (sSeq (sFor (eSeq (eVar 1)) (gNm 3) (sMtL insO (eVar 2) (eCons (eCall 2 d_law_draw (eCons (eVar 0) (eCons (eOp addF (eB (f1 lenF) (fCons (eVar 2) fNil)) (eC (.int 1))) eNil))) (eCons (eVar 3) eNil))))
  (sRet (eVar 2))))
def d_law_shuffled : List D → Sto → R F := runF 2 b_law_shuffled
theorem ok_law_shuffled (T : Txt K mg) {f : Addr} {fd : FuncData} (F : Fun K "_law_shuffled" "_law_shuffled" s_law_shuffled f fd) (hm : mg "_law_shuffled" = some (.ref f)) (hb : Binds K fd ["_law_pen_here", "_law_rows"] []) (C_law_draw : FnT P w K mg base 2 "_law_draw" ["_law_pen_here", "_law_many"] d_law_draw) :
    FnT P w K mg base 3 "_law_shuffled" ["_law_pen_here", "_law_rows"] d_law_shuffled := fnT (k := 2) (sb := b_law_shuffled) 2 F hm hb sc_law_shuffled (fun cdv A outer s H E G =>
  (pds_cons (gset 2 sc_law_shuffled.nd (pd_lst pda_nil))
  (pds_cons (pds_for G.po rfl (pdi_seq (gv 1)) (gnm 3 sc_law_shuffled.nd) (pds_one (pds_ins (gv 2) (pda_cons (gcall C_law_draw (by exact G.gd) (by exact G.rm.mono (j := 2) (by decide)) G.tk (pda_cons (gv 0) (pda_cons (pd_bin d_add (pd_callB d_len (by rfl) T.z_len (by decide +kernel) (pdf_cons (gv 2) pdf_nil)) pd_int) pda_nil))) (pda_cons (gv 3) pda_nil)))))
  (pds_one (pds_ret (gv 2))))))
/-! ### _law_places -/
abbrev s_law_places : Stmt := topS 21
theorem sc_law_places : FnScope ["_law_plan", "_law_found", "_law_sign", "_law_row", "_law_index", "_law_change"] ["_law_plan"] (defScope s_law_places) := ⟨rfl, rfl, rfl, by decide +kernel, rfl, by decide +kernel, by decide +kernel⟩
def b_law_places : DL.Env → Sto → RS :=
  (sSeq (sAsg (gNm 1) eDict0)
  (sSeq (sFor (eEnum 0 (eSub (eVar 0) (eC (.int 0)))) (gTpN 2 (gsCons (gNm 2) (gsCons (gNm 3) gsNil))) (sFor (eEnum 0 (eSub (eVar 3) (eC (.int 1)))) (gTpN 2 (gsCons (gNm 4) (gsCons (gNm 5) gsNil))) (sPut (eVar 1) (eSub (eVar 5) (eC (.int 0))) (eTup (eCons (eVar 2) (eCons (eOp addF (eVar 4) (eC (.int 1))) eNil))))))
  (sRet (eVar 1))))
def d_law_places : List D → Sto → R F := runF 5 b_law_places
theorem ok_law_places (T : Txt K mg) {f : Addr} {fd : FuncData} (F : Fun K "_law_places" "_law_places" s_law_places f fd) (hm : mg "_law_places" = some (.ref f)) (hb : Binds K fd ["_law_plan"] [])  :
    FnT P w K mg base 1 "_law_places" ["_law_plan"] d_law_places := fnT (k := 0) (sb := b_law_places) 5 F hm hb sc_law_places (fun cdv A outer s H E G =>
  (pds_cons (gset 1 sc_law_places.nd (pd_dictN rfl (by rfl) T.z_dict))
  (pds_cons (pds_for G.po rfl (pdi_enum (by rfl) T.z_enumerate (pd_sub (by exact (hu_rm G.rm)) (gv 0) pd_int)) (pdg_tup rfl (pdgs_cons (gnm 2 sc_law_places.nd) (pdgs_cons (gnm 3 sc_law_places.nd) pdgs_nil))) (pds_one (pds_for G.po rfl (pdi_enum (by rfl) T.z_enumerate (pd_sub (by exact (hu_rm G.rm)) (gv 3) pd_int)) (pdg_tup rfl (pdgs_cons (gnm 4 sc_law_places.nd) (pdgs_cons (gnm 5 sc_law_places.nd) pdgs_nil))) (pds_one (pds_put (hu_rm G.rm) (gv 1) (pd_sub (by exact (hu_rm G.rm)) (gv 5) pd_int) (pd_tup (pda_cons (gv 2) (pda_cons (pd_bin d_add (gv 4) pd_int) pda_nil))))))))
  (pds_one (pds_ret (gv 1))))))
/-! ### _law_names_of -/
abbrev s_law_names_of : Stmt := topS 22
theorem sc_law_names_of : FnScope ["_law_plan"] ["_law_plan"] (defScope s_law_names_of) := ⟨rfl, rfl, rfl, by decide +kernel, rfl, by decide +kernel, by decide +kernel⟩
def b_law_names_of : DL.Env → Sto → RS :=
  (sRet (eB (f1 sortA) (fCons (eCall 1 d_law_places (eCons (eVar 0) eNil)) fNil)))
def d_law_names_of : List D → Sto → R F := runF 0 b_law_names_of
theorem ok_law_names_of (T : Txt K mg) {f : Addr} {fd : FuncData} (F : Fun K "_law_names_of" "_law_names_of" s_law_names_of f fd) (hm : mg "_law_names_of" = some (.ref f)) (hb : Binds K fd ["_law_plan"] []) (C_law_places : FnT P w K mg base 1 "_law_places" ["_law_plan"] d_law_places) :
    FnT P w K mg base 2 "_law_names_of" ["_law_plan"] d_law_names_of := fnT (k := 1) (sb := b_law_names_of) 0 F hm hb sc_law_names_of (fun cdv A outer s H E G =>
  (pds_one (pds_ret (pd_callB (d_sortedA rfl) (by rfl) T.z_sorted (by decide +kernel) (pdf_cons (gcall C_law_places (by exact G.gd) (by exact G.rm.mono (j := 1) (by decide)) G.tk (pda_cons (gv 0) pda_nil)) pdf_nil)))))
/-! ### _law_chain_right -/
abbrev s_law_chain_right : Stmt := topS 23
theorem sc_law_chain_right : FnScope ["_law_plan", "_law_chain", "_law_drain", "_law_steps", "_law_waits", "_law_drains", "_law_names", "_law_order", "_law_drained", "_law_at", "_law_one", "_law_to", "_law_two", "_law_is_there", "_law_pair", "_law_k", "_law_step"] ["_law_plan", "_law_chain", "_law_drain"] (defScope s_law_chain_right) := ⟨rfl, rfl, rfl, by decide +kernel, rfl, by decide +kernel, by decide +kernel⟩
def b_law_chain_right : DL.Env → Sto → RS :=
  (sSeq (sAsg (gNm 3) (eLc (eZip (fCons (eVar 1) (fCons (eSl (eVar 1) (ePart (eC (.int 1))) eNoPart) fNil))) (gTpN 2 (gsCons (gNm 10) (gsCons (gNm 12) gsNil))) tYes' (eTup (eCons (eVar 10) (eCons (eVar 12) eNil))) [10, 12]))
  (sSeq (sAsg (gNm 4) (eB (f1 tupleF) (fCons (eB (f1 sortA) (fCons (eLc (eEnum 0 (eVar 3)) (gTpN 2 (gsCons (gNm 15) (gsCons (gNm 16) gsNil))) (tOfB (eOp neF (eVar 15) (eVar 2))) (eVar 16) [15, 16]) fNil)) fNil)))
  (sSeq (sAsg (gNm 5) (eB (f1 tupleF) (fCons (eLc (eEnum 0 (eVar 3)) (gTpN 2 (gsCons (gNm 15) (gsCons (gNm 16) gsNil))) (tOfB (eOp eqF (eVar 15) (eVar 2))) (eVar 16) [15, 16]) fNil)))
  (sSeq (sAsg (gTpN 2 (gsCons (gNm 7) (gsCons (gNm 8) gsNil))) (eCall 3 d_regime_of (eCons (eVar 0) (eCons (eVar 4) (eCons (eVar 5) eNil)))))
  (sSeq (sAsg (gNm 6) (eCall 1 d_law_names_of (eCons (eVar 0) eNil)))
  (sSeq (sFor (eEnum 0 (eVar 1)) (gTpN 2 (gsCons (gNm 9) (gsCons (gNm 10) gsNil))) (sFor (eRng2 (fCons (eOp addF (eVar 9) (eC (.int 1))) (fCons (eB (f1 lenF) (fCons (eVar 1) fNil)) fNil))) (gNm 11) (sSeq (sAsg (gNm 12) (eSub (eVar 1) (eVar 11)))
  (sSeq (sAsg (gNm 13) (eAnd (eInA false (eVar 10) (eVar 6)) (eInA false (eVar 12) (eVar 6))))
  (sSeq (sIf (tOfB (eOp neF (eInA false (eTup (eCons (eVar 10) (eCons (eVar 12) eNil))) (eVar 7)) (eVar 13))) (sRet (eC (.bl false))) sNil)
  (sIf (tOfB (eOp neF (eInA false (eTup (eCons (eVar 10) (eCons (eVar 12) eNil))) (eVar 8)) (eAnd (eVar 13) (eChain leF ltF (eVar 9) (eVar 2) (eVar 11))))) (sRet (eC (.bl false))) sNil))))))
  (sRet (eOp eqF (eLc (eSeq (eVar 8)) (gNm 14) (tOfB (eInA true (eVar 14) (eVar 7))) (eVar 14) [14]) (eLst eNil)))))))))
def d_law_chain_right : List D → Sto → R F := runF 14 b_law_chain_right
theorem ok_law_chain_right (T : Txt K mg) {f : Addr} {fd : FuncData} (F : Fun K "_law_chain_right" "_law_chain_right" s_law_chain_right f fd) (hm : mg "_law_chain_right" = some (.ref f)) (hb : Binds K fd ["_law_plan", "_law_chain", "_law_drain"] []) (C_regime_of : FnT P w K mg base 6 "regime_of" ["plan", "waits", "drains"] d_regime_of) (C_law_names_of : FnT P w K mg base 2 "_law_names_of" ["_law_plan"] d_law_names_of) :
    FnT P w K mg base 7 "_law_chain_right" ["_law_plan", "_law_chain", "_law_drain"] d_law_chain_right := fnT (k := 6) (sb := b_law_chain_right) 14 F hm hb sc_law_chain_right (fun cdv A outer s H E G =>
  (pds_cons (pds_setLc (i := 3) (own := [("_law_one", 10), ("_law_two", 12)]) (is := [10, 12]) rfl sc_law_chain_right.nd rfl rfl (sw_true rfl rfl rfl (by decide +kernel)) (pdi_zip (by rfl) T.z_zip (pdf_cons (gv 1) (pdf_cons (pd_sl (gv 1) (pdp_some pd_int) pdp_none) pdf_nil))) (by decide +kernel : blkC ["_law_plan", "_law_chain", "_law_drain", "_law_steps", "_law_waits", "_law_drains", "_law_names", "_law_order", "_law_drained", "_law_at", "_law_one", "_law_to", "_law_two", "_law_is_there", "_law_pair", "_law_k", "_law_step"] (defScope s_law_chain_right) _ [("_law_one", 10), ("_law_two", 12)] = true) (fun _ _ _ _ _ => (pdg_tup rfl (pdgs_cons (gnm 10 sc_law_chain_right.nd) (pdgs_cons (gnm 12 sc_law_chain_right.nd) pdgs_nil)))) (fun _ _ _ _ _ => pts_nil') (fun _ _ _ _ _ => (pd_tup (pda_cons (gv 10) (pda_cons (gv 12) pda_nil)))) (by decide))
  (pds_cons (gset 4 sc_law_chain_right.nd (pd_callTy d_tuple (by rfl) T.z_tuple (by decide +kernel) (pdf_cons (pd_callB (d_sortedA rfl) (by rfl) T.z_sorted (by decide +kernel) (pdf_cons (pd_lc (own := [("_law_k", 15), ("_law_step", 16)]) (is := [15, 16]) rfl sc_law_chain_right.nd (pdi_enum (by rfl) T.z_enumerate (gv 3)) (by decide +kernel : blkC ["_law_plan", "_law_chain", "_law_drain", "_law_steps", "_law_waits", "_law_drains", "_law_names", "_law_order", "_law_drained", "_law_at", "_law_one", "_law_to", "_law_two", "_law_is_there", "_law_pair", "_law_k", "_law_step"] (defScope s_law_chain_right) _ [("_law_k", 15), ("_law_step", 16)] = true) (fun _ _ _ _ _ => (pdg_tup rfl (pdgs_cons (gnm 15 sc_law_chain_right.nd) (pdgs_cons (gnm 16 sc_law_chain_right.nd) pdgs_nil)))) (fun _ _ _ _ _ => (pts_one (pdt_cmp (d_ne (by exact (hu_rm G.rm))) (gv 15) (gv 2)))) (fun _ _ _ _ _ => (gv 16)) (by decide)) pdf_nil)) pdf_nil)))
  (pds_cons (gset 5 sc_law_chain_right.nd (pd_callTy d_tuple (by rfl) T.z_tuple (by decide +kernel) (pdf_cons (pd_lc (own := [("_law_k", 15), ("_law_step", 16)]) (is := [15, 16]) rfl sc_law_chain_right.nd (pdi_enum (by rfl) T.z_enumerate (gv 3)) (by decide +kernel : blkC ["_law_plan", "_law_chain", "_law_drain", "_law_steps", "_law_waits", "_law_drains", "_law_names", "_law_order", "_law_drained", "_law_at", "_law_one", "_law_to", "_law_two", "_law_is_there", "_law_pair", "_law_k", "_law_step"] (defScope s_law_chain_right) _ [("_law_k", 15), ("_law_step", 16)] = true) (fun _ _ _ _ _ => (pdg_tup rfl (pdgs_cons (gnm 15 sc_law_chain_right.nd) (pdgs_cons (gnm 16 sc_law_chain_right.nd) pdgs_nil)))) (fun _ _ _ _ _ => (pts_one (pdt_cmp (d_eq (by exact (hu_rm G.rm))) (gv 15) (gv 2)))) (fun _ _ _ _ _ => (gv 16)) (by decide)) pdf_nil)))
  (pds_cons (pds_asg (gcall C_regime_of (by exact G.gd) (by exact G.rm.mono (j := 6) (by decide)) G.tk (pda_cons (gv 0) (pda_cons (gv 4) (pda_cons (gv 5) pda_nil)))) (pdg_tup rfl (pdgs_cons (gnm 7 sc_law_chain_right.nd) (pdgs_cons (gnm 8 sc_law_chain_right.nd) pdgs_nil))))
  (pds_cons (gset 6 sc_law_chain_right.nd (gcall C_law_names_of (by exact G.gd) (by exact G.rm.mono (j := 2) (by decide)) G.tk (pda_cons (gv 0) pda_nil)))
  (pds_cons (pds_for G.po rfl (pdi_enum (by rfl) T.z_enumerate (gv 1)) (pdg_tup rfl (pdgs_cons (gnm 9 sc_law_chain_right.nd) (pdgs_cons (gnm 10 sc_law_chain_right.nd) pdgs_nil))) (pds_one (pds_for G.po rfl (pdi_rng2 (by rfl) T.z_range (pdf_cons (pd_bin d_add (gv 9) pd_int) (pdf_cons (pd_callB d_len (by rfl) T.z_len (by decide +kernel) (pdf_cons (gv 1) pdf_nil)) pdf_nil))) (gnm 11 sc_law_chain_right.nd) (pds_cons (gset 12 sc_law_chain_right.nd (pd_sub (by exact (hu_rm G.rm)) (gv 1) (gv 11)))
  (pds_cons (gset 13 sc_law_chain_right.nd (pd_and (pd_inA (by exact (hv_rm G.rm)) (gv 10) (gv 6)) (pd_one (pd_inA (by exact (hv_rm G.rm)) (gv 12) (gv 6)))))
  (pds_cons (pds_if (pdt_cmp (d_ne (by exact (hu_rm G.rm))) (pd_inA (by exact (hv_rm G.rm)) (pd_tup (pda_cons (gv 10) (pda_cons (gv 12) pda_nil))) (gv 7)) (gv 13)) (pds_one (pds_ret pd_bl)) pds_nil)
  (pds_one (pds_if (pdt_cmp (d_ne (by exact (hu_rm G.rm))) (pd_inA (by exact (hv_rm G.rm)) (pd_tup (pda_cons (gv 10) (pda_cons (gv 12) pda_nil))) (gv 8)) (pd_and (gv 13) (pd_one (pd_chain d_le d_lt (gv 9) (gv 2) (gv 11))))) (pds_one (pds_ret pd_bl)) pds_nil))))))))
  (pds_one (pds_ret (pd_cmp (d_eq (by exact (hu_rm G.rm))) (pd_lc (own := [("_law_pair", 14)]) (is := [14]) rfl sc_law_chain_right.nd (pdi_seq (gv 8)) (by decide +kernel : blkC ["_law_plan", "_law_chain", "_law_drain", "_law_steps", "_law_waits", "_law_drains", "_law_names", "_law_order", "_law_drained", "_law_at", "_law_one", "_law_to", "_law_two", "_law_is_there", "_law_pair", "_law_k", "_law_step"] (defScope s_law_chain_right) _ [("_law_pair", 14)] = true) (fun _ _ _ _ _ => (gnm 14 sc_law_chain_right.nd)) (fun _ _ _ _ _ => (pts_one (pdt_inAN (by exact (hv_rm G.rm)) (gv 14) (gv 7)))) (fun _ _ _ _ _ => (gv 14)) (by decide)) (pd_lst pda_nil)))))))))))
/-! ### law -/
abbrev s_law : Stmt := topS 24
theorem sc_law : FnScope ["_law_script", "_law_pen_here", "_law_turn", "_law_some", "_law_signs", "_law_chain", "_law_steps", "e", "_law_plan", "_law_many", "_law_at", "_law_name", "_law_one", "_law_two"] ["_law_script"] (defScope s_law) := ⟨rfl, rfl, rfl, by decide +kernel, rfl, by decide +kernel, by decide +kernel⟩
def su_law_0 : Nat → Nat → DL.Env → Sto → RS := fun xa xd =>
  (sIf (tOfB (eOp neF (eXf xa xd "name" (eVar 7)) (eB (f1 min1F) (fCons (eVar 5) fNil)))) (sRet (eC (.bl false))) sNil)
theorem eqv_su_law_0 : ∀ (a d : Nat) (ρ : DL.Env) (S : Sto) (ns : List Str) (ds : List D), unset 7 (su_law_0 a d (ρ.set 7 (some (.exc a d ns ds))) S) = unset 7 (su_law_0 0 0 (ρ.set 7 (some (.exc 0 0 ns ds))) S) := by
  intro a d ρ S ns ds
  unfold su_law_0; (refine unset_if ?_ (fun _ => ?_) (fun _ => ?_)); (simp only [tOfB, eOp, eUn, eC, eB, eMinN, fCons, fNil, eCons, eNil, eTup, eLst, eBox, eXf_set, eVar_set (i := 7) (j := 5) (by decide)]); all_goals (first | exact unset_nil | ((first | refine unset_asg (by decide) ?_ | refine unset_ret ?_); (simp only [eOp, eUn, eC, eB, fCons, fNil, eCons, eNil, eTup, eLst, eBox, eXf_set])))
def b_law : DL.Env → Sto → RS :=
  (sSeq (sAsg (gNm 1) (eCall 1 d_law_pen (eCons (eVar 0) eNil)))
  (sSeq (sFor (eRng1 (fCons (eC (.int 4)) fNil)) (gNm 2) (sSeq (sAsg (gNm 3) (eCall 2 d_law_shuffled (eCons (eVar 1) (eCons (eLr1 (eC (.int 10))) eNil))))
  (sSeq (sAsg (gNm 4) (eB (f1 tupleF) (fCons (eLc (eSeq (eSl (eVar 3) eNoPart (ePart (eOp addF (eC (.int 1)) (eCall 2 d_law_draw (eCons (eVar 1) (eCons (eC (.int 4)) eNil))))))) (gNm 11) tYes' (eTup (eCons (eC (.int 0)) (eCons (eTup (eCons (eTup (eCons (eVar 11) (eCons (eC (.int 1)) eNil))) eNil)) eNil))) [11]) fNil)))
  (sSeq (sPar 8 9 (eTup (eCons (eVar 4) (eCons (eTup (eCons (eC (.int 0)) eNil)) (eCons (eTup (eCons (eTup (eCons (eC (.str "end")) (eCons (eC (.str "good")) eNil))) eNil)) eNil)))) (eOp addF (eC (.int 2)) (eCall 2 d_law_draw (eCons (eVar 1) (eCons (eC (.int 7)) eNil)))))
  (sSeq (sAsg (gNm 5) (eLc (eSeq (eSl (eCall 2 d_law_shuffled (eCons (eVar 1) (eCons (eLr1 (eC (.int 10))) eNil))) eNoPart (ePart (eVar 9)))) (gNm 10) tYes' (eSub (eVar 3) (eVar 10)) [10]))
  (sSeq (sIf (tNot' (tTru (eCall 3 d_law_chain_right (eCons (eVar 8) (eCons (eVar 5) (eCons (eCall 2 d_law_draw (eCons (eVar 1) (eCons (eVar 9) eNil))) eNil)))))) (sRet (eC (.bl false))) sNil)
  (sSeq (sAsg (gNm 6) (eB (f1 tupleF) (fCons (eB (f1 sortA) (fCons (eLc (eZip (fCons (eVar 5) (fCons (eOp addF (eSl (eVar 5) (ePart (eC (.int 1))) eNoPart) (eSl (eVar 5) eNoPart (ePart (eC (.int 1))))) fNil))) (gTpN 2 (gsCons (gNm 12) (gsCons (gNm 13) gsNil))) tYes' (eTup (eCons (eVar 12) (eCons (eVar 13) eNil))) [12, 13]) fNil)) fNil)))
  (sSeq (sIf (tOr' (tTru (eCall 3 d_is_regime (eCons (eVar 8) (eCons (eVar 6) (eCons (eTup eNil) eNil))))) (tOr' (tTru (eCall 3 d_is_regime (eCons (eVar 8) (eCons (eTup eNil) (eCons (eVar 6) eNil))))) (tTru (eCall 3 d_is_regime (eCons (eVar 8) (eCons (eSl (eVar 6) eNoPart (ePart (eC (.int 1)))) (eCons (eSl (eVar 6) (ePart (eC (.int 1))) eNoPart) eNil))))))) (sRet (eC (.bl false))) sNil)
  (sTry1 (sSeq (sDrop (eCall 3 d_regime_of (eCons (eVar 8) (eCons (eSl (eVar 6) (ePart (eC (.int 1))) eNoPart) (eCons (eSl (eVar 6) eNoPart (ePart (eC (.int 1)))) eNil)))))
  (sRet (eC (.bl false)))) "Tangled" [] 7 su_law_0)))))))))
  (sRet (eC (.bl true)))))
def d_law : List D → Sto → R F := runF 13 b_law
theorem ok_law (T : Txt K mg) {f : Addr} {fd : FuncData} (F : Fun K "law" "law" s_law f fd) (hm : mg "law" = some (.ref f)) (hb : Binds K fd ["_law_script"] []) (C_law_pen : FnT P w K mg base 1 "_law_pen" ["_law_script"] d_law_pen) (C_law_shuffled : FnT P w K mg base 3 "_law_shuffled" ["_law_pen_here", "_law_rows"] d_law_shuffled) (C_law_chain_right : FnT P w K mg base 7 "_law_chain_right" ["_law_plan", "_law_chain", "_law_drain"] d_law_chain_right) (C_is_regime : FnT P w K mg base 5 "is_regime" ["plan", "waits", "drains"] d_is_regime) (C_regime_of : FnT P w K mg base 6 "regime_of" ["plan", "waits", "drains"] d_regime_of) (C_law_draw : FnT P w K mg base 2 "_law_draw" ["_law_pen_here", "_law_many"] d_law_draw) :
    FnT P w K mg base 8 "law" ["_law_script"] d_law := fnT (k := 7) (sb := b_law) 13 F hm hb sc_law (fun cdv A outer s H E G =>
  (pds_cons (gset 1 sc_law.nd (gcall C_law_pen (by exact G.gd) (by exact G.rm.mono (j := 1) (by decide)) G.tk (pda_cons (gv 0) pda_nil)))
  (pds_cons (pds_for G.po rfl (pdi_rng1 (by rfl) T.z_range (pdf_cons pd_int pdf_nil)) (gnm 2 sc_law.nd) (pds_cons (gset 3 sc_law.nd (gcall C_law_shuffled (by exact G.gd) (by exact G.rm.mono (j := 3) (by decide)) G.tk (pda_cons (gv 1) (pda_cons (pd_lr1 rfl (by rfl) T.z_list (by rfl) T.z_range pd_int) pda_nil))))
  (pds_cons (gset 4 sc_law.nd (pd_callTy d_tuple (by rfl) T.z_tuple (by decide +kernel) (pdf_cons (pd_lc (own := [("_law_name", 11)]) (is := [11]) rfl sc_law.nd (pdi_seq (pd_sl (gv 3) pdp_none (pdp_some (pd_bin d_add pd_int (gcall C_law_draw (by exact G.gd) (by exact G.rm.mono (j := 2) (by decide)) G.tk (pda_cons (gv 1) (pda_cons pd_int pda_nil))))))) (by decide +kernel : blkC ["_law_script", "_law_pen_here", "_law_turn", "_law_some", "_law_signs", "_law_chain", "_law_steps", "e", "_law_plan", "_law_many", "_law_at", "_law_name", "_law_one", "_law_two"] (defScope s_law) _ [("_law_name", 11)] = true) (fun _ _ _ _ _ => (gnm 11 sc_law.nd)) (fun _ _ _ _ _ => pts_nil') (fun _ _ _ _ _ => (pd_tup (pda_cons pd_int (pda_cons (pd_tup (pda_cons (pd_tup (pda_cons (gv 11) (pda_cons pd_int pda_nil))) pda_nil)) pda_nil)))) (by decide)) pdf_nil)))
  (pds_cons (gpar 8 9 rfl sc_law.nd (pd_tup (pda_cons (gv 4) (pda_cons (pd_tup (pda_cons pd_int pda_nil)) (pda_cons (pd_tup (pda_cons (pd_tup (pda_cons pd_str (pda_cons pd_str pda_nil))) pda_nil)) pda_nil)))) (pd_bin d_add pd_int (gcall C_law_draw (by exact G.gd) (by exact G.rm.mono (j := 2) (by decide)) G.tk (pda_cons (gv 1) (pda_cons pd_int pda_nil)))))
  (pds_cons (pds_setLc (i := 5) (own := [("_law_at", 10)]) (is := [10]) rfl sc_law.nd rfl rfl (sw_true rfl rfl rfl (by decide +kernel)) (pdi_seq (pd_sl (gcall C_law_shuffled (by exact G.gd) (by exact G.rm.mono (j := 3) (by decide)) G.tk (pda_cons (gv 1) (pda_cons (pd_lr1 rfl (by rfl) T.z_list (by rfl) T.z_range pd_int) pda_nil))) pdp_none (pdp_some (gv 9)))) (by decide +kernel : blkC ["_law_script", "_law_pen_here", "_law_turn", "_law_some", "_law_signs", "_law_chain", "_law_steps", "e", "_law_plan", "_law_many", "_law_at", "_law_name", "_law_one", "_law_two"] (defScope s_law) _ [("_law_at", 10)] = true) (fun _ _ _ _ _ => (gnm 10 sc_law.nd)) (fun _ _ _ _ _ => pts_nil') (fun _ _ _ _ _ => (pd_sub (by exact (hu_rm G.rm)) (gv 3) (gv 10))) (by decide))
  (pds_cons (pds_if (pdt_not (pdt_tru (gcall C_law_chain_right (by exact G.gd) (by exact G.rm.mono (j := 7) (by decide)) G.tk (pda_cons (gv 8) (pda_cons (gv 5) (pda_cons (gcall C_law_draw (by exact G.gd) (by exact G.rm.mono (j := 2) (by decide)) G.tk (pda_cons (gv 1) (pda_cons (gv 9) pda_nil))) pda_nil)))))) (pds_one (pds_ret pd_bl)) pds_nil)
  (pds_cons (gset 6 sc_law.nd (pd_callTy d_tuple (by rfl) T.z_tuple (by decide +kernel) (pdf_cons (pd_callB (d_sortedA rfl) (by rfl) T.z_sorted (by decide +kernel) (pdf_cons (pd_lc (own := [("_law_one", 12), ("_law_two", 13)]) (is := [12, 13]) rfl sc_law.nd (pdi_zip (by rfl) T.z_zip (pdf_cons (gv 5) (pdf_cons (pd_bin d_add (pd_sl (gv 5) (pdp_some pd_int) pdp_none) (pd_sl (gv 5) pdp_none (pdp_some pd_int))) pdf_nil))) (by decide +kernel : blkC ["_law_script", "_law_pen_here", "_law_turn", "_law_some", "_law_signs", "_law_chain", "_law_steps", "e", "_law_plan", "_law_many", "_law_at", "_law_name", "_law_one", "_law_two"] (defScope s_law) _ [("_law_one", 12), ("_law_two", 13)] = true) (fun _ _ _ _ _ => (pdg_tup rfl (pdgs_cons (gnm 12 sc_law.nd) (pdgs_cons (gnm 13 sc_law.nd) pdgs_nil)))) (fun _ _ _ _ _ => pts_nil') (fun _ _ _ _ _ => (pd_tup (pda_cons (gv 12) (pda_cons (gv 13) pda_nil)))) (by decide)) pdf_nil)) pdf_nil)))
  (pds_cons (pds_if (pdw_pt (pdw_or (pdt_tru (gcall C_is_regime (by exact G.gd) (by exact G.rm.mono (j := 5) (by decide)) G.tk (pda_cons (gv 8) (pda_cons (gv 6) (pda_cons (pd_tup pda_nil) pda_nil))))) (pdw_or (pdt_tru (gcall C_is_regime (by exact G.gd) (by exact G.rm.mono (j := 5) (by decide)) G.tk (pda_cons (gv 8) (pda_cons (pd_tup pda_nil) (pda_cons (gv 6) pda_nil))))) (pdw_or1 (pdt_tru (gcall C_is_regime (by exact G.gd) (by exact G.rm.mono (j := 5) (by decide)) G.tk (pda_cons (gv 8) (pda_cons (pd_sl (gv 6) pdp_none (pdp_some pd_int)) (pda_cons (pd_sl (gv 6) (pdp_some pd_int) pdp_none) pda_nil))))))))) (pds_one (pds_ret pd_bl)) pds_nil)
  (pds_one (gtry T.x_Tangled sc_law.nd G.tk (fun _ h => nomatch h) eqv_su_law_0 (fun _ _ _ tk' po' => (pds_cons (pds_drop (gcall C_regime_of (by exact G.gd) (by exact G.rm.mono (j := 6) (by decide)) tk' (pda_cons (gv 8) (pda_cons (pd_sl (gv 6) (pdp_some pd_int) pdp_none) (pda_cons (pd_sl (gv 6) pdp_none (pdp_some pd_int)) pda_nil)))))
  (pds_one (pds_ret pd_bl)))) (fun _ _ xo _ _ _ _ xz xv => (pds_one (pds_if (pdt_cmp (d_ne (by exact (hu_su G.rm))) (pd_xf xo.xf xo.noN xz xv (gv 7)) (pd_callB (d_minH xz xv) (by rfl) T.z_min (by decide +kernel) (pdf_cons (gv 5) pdf_nil))) (pds_one (pds_ret pd_bl)) pds_nil)))))))))))))
  (pds_one (pds_ret pd_bl)))))
/-! ### the top -/
theorem all_law {f_0 : Addr} {od_0 an_0 : Option Addr} {sl_0 : Array (Option Value)} {oc_0 kV_0 dc_0 pm_0 cd_0 ct_0 : Value} {f_1 : Addr} {od_1 an_1 : Option Addr} {sl_1 : Array (Option Value)} {oc_1 kV_1 dc_1 pm_1 cd_1 ct_1 : Value} {f_2 : Addr} {od_2 an_2 : Option Addr} {sl_2 : Array (Option Value)} {oc_2 kV_2 dc_2 pm_2 cd_2 ct_2 : Value} {f_3 : Addr} {od_3 an_3 : Option Addr} {sl_3 : Array (Option Value)} {oc_3 kV_3 dc_3 pm_3 cd_3 ct_3 : Value} {f_4 : Addr} {od_4 an_4 : Option Addr} {sl_4 : Array (Option Value)} {oc_4 kV_4 dc_4 pm_4 cd_4 ct_4 : Value} {f_5 : Addr} {od_5 an_5 : Option Addr} {sl_5 : Array (Option Value)} {oc_5 kV_5 dc_5 pm_5 cd_5 ct_5 : Value} {f_6 : Addr} {od_6 an_6 : Option Addr} {sl_6 : Array (Option Value)} {oc_6 kV_6 dc_6 pm_6 cd_6 ct_6 : Value} {f_7 : Addr} {od_7 an_7 : Option Addr} {sl_7 : Array (Option Value)} {oc_7 kV_7 dc_7 pm_7 cd_7 ct_7 : Value} {f_8 : Addr} {od_8 an_8 : Option Addr} {sl_8 : Array (Option Value)} {oc_8 kV_8 dc_8 pm_8 cd_8 ct_8 : Value} {f_9 : Addr} {od_9 an_9 : Option Addr} {sl_9 : Array (Option Value)} {oc_9 kV_9 dc_9 pm_9 cd_9 ct_9 : Value} {f_10 : Addr} {od_10 an_10 : Option Addr} {sl_10 : Array (Option Value)} {oc_10 kV_10 dc_10 pm_10 cd_10 ct_10 : Value} {f_11 : Addr} {od_11 an_11 : Option Addr} {sl_11 : Array (Option Value)} {oc_11 kV_11 dc_11 pm_11 cd_11 ct_11 : Value} {f_12 : Addr} {od_12 an_12 : Option Addr} {sl_12 : Array (Option Value)} {oc_12 kV_12 dc_12 pm_12 cd_12 ct_12 : Value} {f_13 : Addr} {od_13 an_13 : Option Addr} {sl_13 : Array (Option Value)} {oc_13 kV_13 dc_13 pm_13 cd_13 ct_13 : Value} {f_14 : Addr} {od_14 an_14 : Option Addr} {sl_14 : Array (Option Value)} {oc_14 kV_14 dc_14 pm_14 cd_14 ct_14 : Value} {f_15 : Addr} {od_15 an_15 : Option Addr} {sl_15 : Array (Option Value)} {oc_15 kV_15 dc_15 pm_15 cd_15 ct_15 : Value} {f_16 : Addr} {od_16 an_16 : Option Addr} {sl_16 : Array (Option Value)} {oc_16 kV_16 dc_16 pm_16 cd_16 ct_16 : Value} {f_17 : Addr} {od_17 an_17 : Option Addr} {sl_17 : Array (Option Value)} {oc_17 kV_17 dc_17 pm_17 cd_17 ct_17 : Value} {f_18 : Addr} {od_18 an_18 : Option Addr} {sl_18 : Array (Option Value)} {oc_18 kV_18 dc_18 pm_18 cd_18 ct_18 : Value} {f_19 : Addr} {od_19 an_19 : Option Addr} {sl_19 : Array (Option Value)} {oc_19 kV_19 dc_19 pm_19 cd_19 ct_19 : Value} {C_Tangled I_Tangled N_Tangled : Addr} {nm_Tangled q_Tangled : Str} {bs_Tangled sub_Tangled : List Value} {sn_Tangled : List Str} {ab_Tangled : Bool} {col_Tangled : Option Bool} {dd_Tangled : Option Addr} {m0_Tangled m1_Tangled m2_Tangled m3_Tangled m5_Tangled : Option Value} {od_Tangled an_Tangled : Option Addr} {sl_Tangled : Array (Option Value)} {oc_Tangled dc_Tangled pm_Tangled cd_Tangled ct_Tangled : Value} {h : Heap} (X : K.In h) (G : h.Ns mainGlobals mg)
    (a_0 : PySem.W.nsIn K mainGlobals "all_places" = some (some (.ref f_0)))
    (l_0 : K.lookup f_0 = some ⟨oc_0, od_0, .func (PySem.W.fnOf "all_places" "all_places" (defArgs s_all_places) (defBody s_all_places) (defScope s_all_places) .none kV_0 dc_0 pm_0 an_0 cd_0 ct_0), sl_0⟩)
    (c_0 : PySem.W.codeIn K cd_0 "all_places" = true)
    (k_0 : PySem.W.keepIn K (.ref f_0) = true)
    (a_1 : PySem.W.nsIn K mainGlobals "names_of" = some (some (.ref f_1)))
    (l_1 : K.lookup f_1 = some ⟨oc_1, od_1, .func (PySem.W.fnOf "names_of" "names_of" (defArgs s_names_of) (defBody s_names_of) (defScope s_names_of) .none kV_1 dc_1 pm_1 an_1 cd_1 ct_1), sl_1⟩)
    (c_1 : PySem.W.codeIn K cd_1 "names_of" = true)
    (k_1 : PySem.W.keepIn K (.ref f_1) = true)
    (a_2 : PySem.W.nsIn K mainGlobals "neighbours" = some (some (.ref f_2)))
    (l_2 : K.lookup f_2 = some ⟨oc_2, od_2, .func (PySem.W.fnOf "neighbours" "neighbours" (defArgs s_neighbours) (defBody s_neighbours) (defScope s_neighbours) .none kV_2 dc_2 pm_2 an_2 cd_2 ct_2), sl_2⟩)
    (c_2 : PySem.W.codeIn K cd_2 "neighbours" = true)
    (k_2 : PySem.W.keepIn K (.ref f_2) = true)
    (a_3 : PySem.W.nsIn K mainGlobals "steps_from" = some (some (.ref f_3)))
    (l_3 : K.lookup f_3 = some ⟨oc_3, od_3, .func (PySem.W.fnOf "steps_from" "steps_from" (defArgs s_steps_from) (defBody s_steps_from) (defScope s_steps_from) .none kV_3 dc_3 pm_3 an_3 cd_3 ct_3), sl_3⟩)
    (c_3 : PySem.W.codeIn K cd_3 "steps_from" = true)
    (k_3 : PySem.W.keepIn K (.ref f_3) = true)
    (a_4 : PySem.W.nsIn K mainGlobals "behind_one" = some (some (.ref f_4)))
    (l_4 : K.lookup f_4 = some ⟨oc_4, od_4, .func (PySem.W.fnOf "behind_one" "behind_one" (defArgs s_behind_one) (defBody s_behind_one) (defScope s_behind_one) .none kV_4 dc_4 pm_4 an_4 cd_4 ct_4), sl_4⟩)
    (c_4 : PySem.W.codeIn K cd_4 "behind_one" = true)
    (k_4 : PySem.W.keepIn K (.ref f_4) = true)
    (a_5 : PySem.W.nsIn K mainGlobals "all_behind" = some (some (.ref f_5)))
    (l_5 : K.lookup f_5 = some ⟨oc_5, od_5, .func (PySem.W.fnOf "all_behind" "all_behind" (defArgs s_all_behind) (defBody s_all_behind) (defScope s_all_behind) .none kV_5 dc_5 pm_5 an_5 cd_5 ct_5), sl_5⟩)
    (c_5 : PySem.W.codeIn K cd_5 "all_behind" = true)
    (k_5 : PySem.W.keepIn K (.ref f_5) = true)
    (a_6 : PySem.W.nsIn K mainGlobals "least_in_round" = some (some (.ref f_6)))
    (l_6 : K.lookup f_6 = some ⟨oc_6, od_6, .func (PySem.W.fnOf "least_in_round" "least_in_round" (defArgs s_least_in_round) (defBody s_least_in_round) (defScope s_least_in_round) .none kV_6 dc_6 pm_6 an_6 cd_6 ct_6), sl_6⟩)
    (c_6 : PySem.W.codeIn K cd_6 "least_in_round" = true)
    (k_6 : PySem.W.keepIn K (.ref f_6) = true)
    (a_7 : PySem.W.nsIn K mainGlobals "untangled" = some (some (.ref f_7)))
    (l_7 : K.lookup f_7 = some ⟨oc_7, od_7, .func (PySem.W.fnOf "untangled" "untangled" (defArgs s_untangled) (defBody s_untangled) (defScope s_untangled) .none kV_7 dc_7 pm_7 an_7 cd_7 ct_7), sl_7⟩)
    (c_7 : PySem.W.codeIn K cd_7 "untangled" = true)
    (k_7 : PySem.W.keepIn K (.ref f_7) = true)
    (a_8 : PySem.W.nsIn K mainGlobals "same_or_behind" = some (some (.ref f_8)))
    (l_8 : K.lookup f_8 = some ⟨oc_8, od_8, .func (PySem.W.fnOf "same_or_behind" "same_or_behind" (defArgs s_same_or_behind) (defBody s_same_or_behind) (defScope s_same_or_behind) .none kV_8 dc_8 pm_8 an_8 cd_8 ct_8), sl_8⟩)
    (c_8 : PySem.W.codeIn K cd_8 "same_or_behind" = true)
    (k_8 : PySem.W.keepIn K (.ref f_8) = true)
    (a_9 : PySem.W.nsIn K mainGlobals "drained_pairs" = some (some (.ref f_9)))
    (l_9 : K.lookup f_9 = some ⟨oc_9, od_9, .func (PySem.W.fnOf "drained_pairs" "drained_pairs" (defArgs s_drained_pairs) (defBody s_drained_pairs) (defScope s_drained_pairs) .none kV_9 dc_9 pm_9 an_9 cd_9 ct_9), sl_9⟩)
    (c_9 : PySem.W.codeIn K cd_9 "drained_pairs" = true)
    (k_9 : PySem.W.keepIn K (.ref f_9) = true)
    (a_10 : PySem.W.nsIn K mainGlobals "is_regime" = some (some (.ref f_10)))
    (l_10 : K.lookup f_10 = some ⟨oc_10, od_10, .func (PySem.W.fnOf "is_regime" "is_regime" (defArgs s_is_regime) (defBody s_is_regime) (defScope s_is_regime) .none kV_10 dc_10 pm_10 an_10 cd_10 ct_10), sl_10⟩)
    (c_10 : PySem.W.codeIn K cd_10 "is_regime" = true)
    (k_10 : PySem.W.keepIn K (.ref f_10) = true)
    (a_11 : PySem.W.nsIn K mainGlobals "regime_of" = some (some (.ref f_11)))
    (l_11 : K.lookup f_11 = some ⟨oc_11, od_11, .func (PySem.W.fnOf "regime_of" "regime_of" (defArgs s_regime_of) (defBody s_regime_of) (defScope s_regime_of) .none kV_11 dc_11 pm_11 an_11 cd_11 ct_11), sl_11⟩)
    (c_11 : PySem.W.codeIn K cd_11 "regime_of" = true)
    (k_11 : PySem.W.keepIn K (.ref f_11) = true)
    (a_12 : PySem.W.nsIn K mainGlobals "_law_pen" = some (some (.ref f_12)))
    (l_12 : K.lookup f_12 = some ⟨oc_12, od_12, .func (PySem.W.fnOf "_law_pen" "_law_pen" (defArgs s_law_pen) (defBody s_law_pen) (defScope s_law_pen) .none kV_12 dc_12 pm_12 an_12 cd_12 ct_12), sl_12⟩)
    (c_12 : PySem.W.codeIn K cd_12 "_law_pen" = true)
    (k_12 : PySem.W.keepIn K (.ref f_12) = true)
    (a_13 : PySem.W.nsIn K mainGlobals "_law_fresh" = some (some (.ref f_13)))
    (l_13 : K.lookup f_13 = some ⟨oc_13, od_13, .func (PySem.W.fnOf "_law_fresh" "_law_fresh" (defArgs s_law_fresh) (defBody s_law_fresh) (defScope s_law_fresh) .none kV_13 dc_13 pm_13 an_13 cd_13 ct_13), sl_13⟩)
    (c_13 : PySem.W.codeIn K cd_13 "_law_fresh" = true)
    (k_13 : PySem.W.keepIn K (.ref f_13) = true)
    (a_14 : PySem.W.nsIn K mainGlobals "_law_draw" = some (some (.ref f_14)))
    (l_14 : K.lookup f_14 = some ⟨oc_14, od_14, .func (PySem.W.fnOf "_law_draw" "_law_draw" (defArgs s_law_draw) (defBody s_law_draw) (defScope s_law_draw) .none kV_14 dc_14 pm_14 an_14 cd_14 ct_14), sl_14⟩)
    (c_14 : PySem.W.codeIn K cd_14 "_law_draw" = true)
    (k_14 : PySem.W.keepIn K (.ref f_14) = true)
    (a_15 : PySem.W.nsIn K mainGlobals "_law_shuffled" = some (some (.ref f_15)))
    (l_15 : K.lookup f_15 = some ⟨oc_15, od_15, .func (PySem.W.fnOf "_law_shuffled" "_law_shuffled" (defArgs s_law_shuffled) (defBody s_law_shuffled) (defScope s_law_shuffled) .none kV_15 dc_15 pm_15 an_15 cd_15 ct_15), sl_15⟩)
    (c_15 : PySem.W.codeIn K cd_15 "_law_shuffled" = true)
    (k_15 : PySem.W.keepIn K (.ref f_15) = true)
    (a_16 : PySem.W.nsIn K mainGlobals "_law_places" = some (some (.ref f_16)))
    (l_16 : K.lookup f_16 = some ⟨oc_16, od_16, .func (PySem.W.fnOf "_law_places" "_law_places" (defArgs s_law_places) (defBody s_law_places) (defScope s_law_places) .none kV_16 dc_16 pm_16 an_16 cd_16 ct_16), sl_16⟩)
    (c_16 : PySem.W.codeIn K cd_16 "_law_places" = true)
    (k_16 : PySem.W.keepIn K (.ref f_16) = true)
    (a_17 : PySem.W.nsIn K mainGlobals "_law_names_of" = some (some (.ref f_17)))
    (l_17 : K.lookup f_17 = some ⟨oc_17, od_17, .func (PySem.W.fnOf "_law_names_of" "_law_names_of" (defArgs s_law_names_of) (defBody s_law_names_of) (defScope s_law_names_of) .none kV_17 dc_17 pm_17 an_17 cd_17 ct_17), sl_17⟩)
    (c_17 : PySem.W.codeIn K cd_17 "_law_names_of" = true)
    (k_17 : PySem.W.keepIn K (.ref f_17) = true)
    (a_18 : PySem.W.nsIn K mainGlobals "_law_chain_right" = some (some (.ref f_18)))
    (l_18 : K.lookup f_18 = some ⟨oc_18, od_18, .func (PySem.W.fnOf "_law_chain_right" "_law_chain_right" (defArgs s_law_chain_right) (defBody s_law_chain_right) (defScope s_law_chain_right) .none kV_18 dc_18 pm_18 an_18 cd_18 ct_18), sl_18⟩)
    (c_18 : PySem.W.codeIn K cd_18 "_law_chain_right" = true)
    (k_18 : PySem.W.keepIn K (.ref f_18) = true)
    (a_19 : PySem.W.nsIn K mainGlobals "law" = some (some (.ref f_19)))
    (l_19 : K.lookup f_19 = some ⟨oc_19, od_19, .func (PySem.W.fnOf "law" "law" (defArgs s_law) (defBody s_law) (defScope s_law) .none kV_19 dc_19 pm_19 an_19 cd_19 ct_19), sl_19⟩)
    (c_19 : PySem.W.codeIn K cd_19 "law" = true)
    (k_19 : PySem.W.keepIn K (.ref f_19) = true)
    (z_enumerate : PySem.W.nsIn K mainGlobals "enumerate" = some none)
    (z_sorted : PySem.W.nsIn K mainGlobals "sorted" = some none)
    (z_tuple : PySem.W.nsIn K mainGlobals "tuple" = some none)
    (z_zip : PySem.W.nsIn K mainGlobals "zip" = some none)
    (z_list : PySem.W.nsIn K mainGlobals "list" = some none)
    (z_min : PySem.W.nsIn K mainGlobals "min" = some none)
    (z_int : PySem.W.nsIn K mainGlobals "int" = some none)
    (z_len : PySem.W.nsIn K mainGlobals "len" = some none)
    (z_range : PySem.W.nsIn K mainGlobals "range" = some none)
    (z_dict : PySem.W.nsIn K mainGlobals "dict" = some none)
    (aC_Tangled : PySem.W.nsIn K mainGlobals "Tangled" = some (some (.ref C_Tangled)))
    (xL_Tangled : K.lookup C_Tangled = some (excClassObj nm_Tangled q_Tangled C_Tangled N_Tangled bs_Tangled [.type "ValueError", .type "Exception", .type "BaseException", .type "object"] true sn_Tangled sub_Tangled ab_Tangled col_Tangled dd_Tangled m0_Tangled m1_Tangled m2_Tangled m3_Tangled m5_Tangled "ValueError.__new__"))
    (sa_Tangled : PySem.W.findIn K (.ref C_Tangled) "__setattr__" = some (some (.builtin "object.__setattr__")))
    (ga_Tangled : PySem.W.findIn K (.ref C_Tangled) "__getattribute__" = some (some (.builtin "BaseException.__getattribute__")))
    (gg_Tangled : PySem.W.findIn K (.ref C_Tangled) "__getattr__" = some none)
    (nf_Tangled : PySem.W.findIn K (.ref C_Tangled) "name" = some none)
    (ai_Tangled : PySem.W.findIn K (.ref C_Tangled) "__init__" = some (some (.ref I_Tangled)))
    (ti_Tangled : PySem.W.typeIn K (.ref I_Tangled) = some (.type "function"))
    (li_Tangled : K.lookup I_Tangled = some ⟨oc_Tangled, od_Tangled, .func (PySem.W.fnOf "__init__" "Tangled.__init__" (PySem.OwnX.iA "name" ⟨4, 17, 4, 21⟩ ⟨4, 23, 4, 27⟩) (PySem.OwnX.iB "name" ⟨5, 8, 5, 12⟩ ⟨5, 8, 5, 17⟩ ⟨5, 20, 5, 24⟩ ⟨5, 8, 5, 24⟩) (PySem.OwnX.iS "name") .none .none dc_Tangled pm_Tangled an_Tangled cd_Tangled ct_Tangled), sl_Tangled⟩)
    (ci_Tangled : PySem.W.codeIn K cd_Tangled "Tangled.__init__" = true)
    (kC_Tangled : PySem.W.keepIn K (.ref C_Tangled) = true)
    (eC_Tangled : PySem.W.subIn K (.ref C_Tangled) (.type "BaseException") = some true)
    (tC_Tangled : PySem.W.typeIn K (.ref C_Tangled) = some (.type "type"))
    (hC_Tangled : PySem.W.hasDictIn K C_Tangled = true)
    (iC_Tangled : PySem.W.isClsIn K C_Tangled = true)
    (sC_Tangled : PySem.W.subIn K (.ref C_Tangled) (.ref C_Tangled) = some true) (base : Heap) :
    FnT P w K mg base 8 "law" ["_law_script"] d_law := by
  have T : Txt K mg := ⟨PySem.W.mg_none_of X G z_enumerate,
    PySem.W.mg_none_of X G z_sorted,
    PySem.W.mg_none_of X G z_tuple,
    PySem.W.mg_none_of X G z_zip,
    PySem.W.mg_none_of X G z_list,
    PySem.W.mg_none_of X G z_min,
    PySem.W.mg_none_of X G z_int,
    PySem.W.mg_none_of X G z_len,
    PySem.W.mg_none_of X G z_range,
    PySem.W.mg_none_of X G z_dict,
    ⟨C_Tangled, I_Tangled, { gC := PySem.W.mg_of X G aC_Tangled, cls := ⟨_, _, _, _, _, _, _, _, _, _, _, _, _, _, _, _, PySem.OwnX.blt_Value, xL_Tangled⟩, sa := sa_Tangled, noN := nf_Tangled, iC := ai_Tangled, tC := ti_Tangled, kC := kC_Tangled, tyC := tC_Tangled, te := exm_own eC_Tangled iC_Tangled tC_Tangled sC_Tangled, xf := ⟨ga_Tangled, gg_Tangled, eC_Tangled, hC_Tangled⟩, bd := (by intro nm qual doc pm an cdv ct p1 p2 q1 q2 q3 q4 x v; first | rfl | with_unfolding_all rfl), ns := (by decide), nd := (by decide), fn := ⟨_, _, _, _, _, _, _, _, _, _, _, _, _, _, _, _, li_Tangled, ci_Tangled⟩ }⟩⟩
  have B_all_places := (fun_mk (st := s_all_places) l_0 c_0 k_0).binds (ps := ["plan"]) fun _ _ _ _ _ _ us hl => match us, hl with | [_], _ => rfl
  have C_all_places : FnT P w K mg base 1 "all_places" ["plan"] d_all_places := ok_all_places T (fun_mk (st := s_all_places) l_0 c_0 k_0) (PySem.W.mg_of X G a_0) B_all_places 
  have B_names_of := (fun_mk (st := s_names_of) l_1 c_1 k_1).binds (ps := ["plan"]) fun _ _ _ _ _ _ us hl => match us, hl with | [_], _ => rfl
  have C_names_of : FnT P w K mg base 2 "names_of" ["plan"] d_names_of := ok_names_of T (fun_mk (st := s_names_of) l_1 c_1 k_1) (PySem.W.mg_of X G a_1) B_names_of C_all_places
  have B_neighbours := (fun_mk (st := s_neighbours) l_2 c_2 k_2).binds (ps := ["plan"]) fun _ _ _ _ _ _ us hl => match us, hl with | [_], _ => rfl
  have C_neighbours : FnT P w K mg base 1 "neighbours" ["plan"] d_neighbours := ok_neighbours T (fun_mk (st := s_neighbours) l_2 c_2 k_2) (PySem.W.mg_of X G a_2) B_neighbours 
  have B_steps_from := (fun_mk (st := s_steps_from) l_3 c_3 k_3).binds (ps := ["plan", "waits", "drains"]) fun _ _ _ _ _ _ us hl => match us, hl with | [_, _, _], _ => rfl
  have C_steps_from : FnT P w K mg base 3 "steps_from" ["plan", "waits", "drains"] d_steps_from := ok_steps_from T (fun_mk (st := s_steps_from) l_3 c_3 k_3) (PySem.W.mg_of X G a_3) B_steps_from C_neighbours C_names_of
  have B_behind_one := (fun_mk (st := s_behind_one) l_4 c_4 k_4).binds (ps := ["steps", "name"]) fun _ _ _ _ _ _ us hl => match us, hl with | [_, _], _ => rfl
  have C_behind_one : FnT P w K mg base 1 "behind_one" ["steps", "name"] d_behind_one := ok_behind_one T (fun_mk (st := s_behind_one) l_4 c_4 k_4) (PySem.W.mg_of X G a_4) B_behind_one 
  have B_all_behind := (fun_mk (st := s_all_behind) l_5 c_5 k_5).binds (ps := ["plan", "waits", "drains"]) fun _ _ _ _ _ _ us hl => match us, hl with | [_, _, _], _ => rfl
  have C_all_behind : FnT P w K mg base 4 "all_behind" ["plan", "waits", "drains"] d_all_behind := ok_all_behind T (fun_mk (st := s_all_behind) l_5 c_5 k_5) (PySem.W.mg_of X G a_5) B_all_behind C_steps_from C_behind_one
  have B_least_in_round := (fun_mk (st := s_least_in_round) l_6 c_6 k_6).binds (ps := ["behind"]) fun _ _ _ _ _ _ us hl => match us, hl with | [_], _ => rfl
  have C_least_in_round : FnT P w K mg base 1 "least_in_round" ["behind"] d_least_in_round := ok_least_in_round T (fun_mk (st := s_least_in_round) l_6 c_6 k_6) (PySem.W.mg_of X G a_6) B_least_in_round 
  have B_untangled := (fun_mk (st := s_untangled) l_7 c_7 k_7).binds (ps := ["plan", "waits", "drains"]) fun _ _ _ _ _ _ us hl => match us, hl with | [_, _, _], _ => rfl
  have C_untangled : FnT P w K mg base 5 "untangled" ["plan", "waits", "drains"] d_untangled := ok_untangled T (fun_mk (st := s_untangled) l_7 c_7 k_7) (PySem.W.mg_of X G a_7) B_untangled C_all_behind C_least_in_round
  have B_same_or_behind := (fun_mk (st := s_same_or_behind) l_8 c_8 k_8).binds (ps := ["behind", "before", "after"]) fun _ _ _ _ _ _ us hl => match us, hl with | [_, _, _], _ => rfl
  have C_same_or_behind : FnT P w K mg base 1 "same_or_behind" ["behind", "before", "after"] d_same_or_behind := ok_same_or_behind T (fun_mk (st := s_same_or_behind) l_8 c_8 k_8) (PySem.W.mg_of X G a_8) B_same_or_behind 
  have B_drained_pairs := (fun_mk (st := s_drained_pairs) l_9 c_9 k_9).binds (ps := ["names", "drains", "behind"]) fun _ _ _ _ _ _ us hl => match us, hl with | [_, _, _], _ => rfl
  have C_drained_pairs : FnT P w K mg base 2 "drained_pairs" ["names", "drains", "behind"] d_drained_pairs := ok_drained_pairs T (fun_mk (st := s_drained_pairs) l_9 c_9 k_9) (PySem.W.mg_of X G a_9) B_drained_pairs C_same_or_behind
  have B_is_regime := (fun_mk (st := s_is_regime) l_10 c_10 k_10).binds (ps := ["plan", "waits", "drains"]) fun _ _ _ _ _ _ us hl => match us, hl with | [_, _, _], _ => rfl
  have C_is_regime : FnT P w K mg base 5 "is_regime" ["plan", "waits", "drains"] d_is_regime := ok_is_regime T (fun_mk (st := s_is_regime) l_10 c_10 k_10) (PySem.W.mg_of X G a_10) B_is_regime C_least_in_round C_all_behind
  have B_regime_of := (fun_mk (st := s_regime_of) l_11 c_11 k_11).binds (ps := ["plan", "waits", "drains"]) fun _ _ _ _ _ _ us hl => match us, hl with | [_, _, _], _ => rfl
  have C_regime_of : FnT P w K mg base 6 "regime_of" ["plan", "waits", "drains"] d_regime_of := ok_regime_of T (fun_mk (st := s_regime_of) l_11 c_11 k_11) (PySem.W.mg_of X G a_11) B_regime_of C_untangled C_names_of C_drained_pairs
  have B_law_pen := (fun_mk (st := s_law_pen) l_12 c_12 k_12).binds (ps := ["_law_script"]) fun _ _ _ _ _ _ us hl => match us, hl with | [_], _ => rfl
  have C_law_pen : FnT P w K mg base 1 "_law_pen" ["_law_script"] d_law_pen := ok_law_pen T (fun_mk (st := s_law_pen) l_12 c_12 k_12) (PySem.W.mg_of X G a_12) B_law_pen 
  have B_law_fresh := (fun_mk (st := s_law_fresh) l_13 c_13 k_13).binds (ps := ["_law_pen_here"]) fun _ _ _ _ _ _ us hl => match us, hl with | [_], _ => rfl
  have C_law_fresh : FnT P w K mg base 1 "_law_fresh" ["_law_pen_here"] d_law_fresh := ok_law_fresh T (fun_mk (st := s_law_fresh) l_13 c_13 k_13) (PySem.W.mg_of X G a_13) B_law_fresh 
  have B_law_draw := (fun_mk (st := s_law_draw) l_14 c_14 k_14).binds (ps := ["_law_pen_here", "_law_many"]) fun _ _ _ _ _ _ us hl => match us, hl with | [_, _], _ => rfl
  have C_law_draw : FnT P w K mg base 2 "_law_draw" ["_law_pen_here", "_law_many"] d_law_draw := ok_law_draw T (fun_mk (st := s_law_draw) l_14 c_14 k_14) (PySem.W.mg_of X G a_14) B_law_draw C_law_fresh
  have B_law_shuffled := (fun_mk (st := s_law_shuffled) l_15 c_15 k_15).binds (ps := ["_law_pen_here", "_law_rows"]) fun _ _ _ _ _ _ us hl => match us, hl with | [_, _], _ => rfl
  have C_law_shuffled : FnT P w K mg base 3 "_law_shuffled" ["_law_pen_here", "_law_rows"] d_law_shuffled := ok_law_shuffled T (fun_mk (st := s_law_shuffled) l_15 c_15 k_15) (PySem.W.mg_of X G a_15) B_law_shuffled C_law_draw
  have B_law_places := (fun_mk (st := s_law_places) l_16 c_16 k_16).binds (ps := ["_law_plan"]) fun _ _ _ _ _ _ us hl => match us, hl with | [_], _ => rfl
  have C_law_places : FnT P w K mg base 1 "_law_places" ["_law_plan"] d_law_places := ok_law_places T (fun_mk (st := s_law_places) l_16 c_16 k_16) (PySem.W.mg_of X G a_16) B_law_places 
  have B_law_names_of := (fun_mk (st := s_law_names_of) l_17 c_17 k_17).binds (ps := ["_law_plan"]) fun _ _ _ _ _ _ us hl => match us, hl with | [_], _ => rfl
  have C_law_names_of : FnT P w K mg base 2 "_law_names_of" ["_law_plan"] d_law_names_of := ok_law_names_of T (fun_mk (st := s_law_names_of) l_17 c_17 k_17) (PySem.W.mg_of X G a_17) B_law_names_of C_law_places
  have B_law_chain_right := (fun_mk (st := s_law_chain_right) l_18 c_18 k_18).binds (ps := ["_law_plan", "_law_chain", "_law_drain"]) fun _ _ _ _ _ _ us hl => match us, hl with | [_, _, _], _ => rfl
  have C_law_chain_right : FnT P w K mg base 7 "_law_chain_right" ["_law_plan", "_law_chain", "_law_drain"] d_law_chain_right := ok_law_chain_right T (fun_mk (st := s_law_chain_right) l_18 c_18 k_18) (PySem.W.mg_of X G a_18) B_law_chain_right C_regime_of C_law_names_of
  have B_law := (fun_mk (st := s_law) l_19 c_19 k_19).binds (ps := ["_law_script"]) fun _ _ _ _ _ _ us hl => match us, hl with | [_], _ => rfl
  have C_law : FnT P w K mg base 8 "law" ["_law_script"] d_law := ok_law T (fun_mk (st := s_law) l_19 c_19 k_19) (PySem.W.mg_of X G a_19) B_law C_law_pen C_law_shuffled C_law_chain_right C_is_regime C_regime_of C_law_draw
  exact C_law
end
end LK
/-! ## DPen -/
set_option maxHeartbeats 1000000
/-! The laws' pen: drawn numbers. -/
namespace DL
open PySem PySem.Spec L2
namespace Pen
theorem seq_nx {s t : Env → Sto → RS} {ρ ρ1 : Env} {S S1 : Sto} (h : s ρ S = .nx ρ1 S1) : sSeq s t ρ S = t ρ1 S1 := by unfold sSeq; rw [h]
theorem seq_rt {s t : Env → Sto → RS} {ρ : Env} {f : F} {S S1 : Sto} (h : s ρ S = .rt f S1) : sSeq s t ρ S = .rt f S1 := by unfold sSeq; rw [h]
theorem asg_ok {j : Nat} {ee : Env → Sto → R F} {ρ : Env} {S S1 : Sto} {f : F} (h : ee ρ S = .ok f S1) : sAsg (gNm j) ee ρ S = .nx (ρ.set j (some (box f S1).1)) (box f S1).2 := by
  unfold sAsg eBox DL.onE; rw [h]; rfl
theorem asgv {j : Nat} {ee : Env → Sto → R F} {ρ : Env} {S S1 : Sto} {d : D} (h : ee ρ S = .ok (.v d) S1) : sAsg (gNm j) ee ρ S = .nx (ρ.set j (some d)) S1 := asg_ok h
theorem ret_ok {ee : Env → Sto → R F} {ρ : Env} {S S1 : Sto} {f : F} (h : ee ρ S = .ok f S1) : sRet ee ρ S = .rt f S1 := by
  unfold sRet DL.onE; rw [h]
theorem if_ok {et : Env → Sto → R Bool} {s t : Env → Sto → RS} {ρ : Env} {S S1 : Sto} {b : Bool} (h : et ρ S = .ok b S1) : sIf et s t ρ S = if b then s ρ S1 else t ρ S1 := by
  unfold sIf DL.onE; rw [h]
theorem if_no {et : Env → Sto → R Bool} {s : Env → Sto → RS} {ρ : Env} {S S1 : Sto} (h : et ρ S = .ok false S1) : sIf et s sNil ρ S = .nx ρ S1 := (if_ok h).trans rfl
theorem op_ok {g : F → F → Sto → Option F} {ea eb : Env → Sto → R F} {ρ : Env} {S S1 S2 : Sto} {x y z : F} (ha : ea ρ S = .ok x S1) (hb : eb ρ S1 = .ok y S2) (hg : g x y S2 = some z) : eOp g ea eb ρ S = .ok z S2 := by
  unfold eOp; rw [ha, R.bind_ok, hb, R.bind_ok, hg]
theorem sub_ok {ea eb : Env → Sto → R F} {ρ : Env} {S S1 S2 : Sto} {x y z : F} (ha : ea ρ S = .ok x S1) (hb : eb ρ S1 = .ok y S2) (hg : ixF x y S2 = some z) : eSub ea eb ρ S = .ok z S2 := by
  unfold eSub; rw [ha, R.bind_ok, hb, R.bind_ok, hg]
theorem b1_ok {c : F → Sto → Option F} {ea : Env → Sto → R F} {ρ : Env} {S S1 : Sto} {x z : F} (ha : ea ρ S = .ok x S1) (hg : c x S1 = some z) : eB (f1 c) (fCons ea fNil) ρ S = .ok z S1 := by
  unfold eB fCons fNil; rw [ha]; simp only [R.bind_ok, f1]; rw [hg]
theorem var_ok {i : Nat} {ρ : Env} {S : Sto} {d : D} (h : ρ[i]? = some (some d)) : eVar i ρ S = .ok (.v d) S := by unfold eVar; rw [h]
theorem c_ok {d : D} {ρ : Env} {S : Sto} : eC d ρ S = .ok (.v d) S := rfl
theorem add_ii (i j : Int) (S : Sto) : addF (.v (.int i)) (.v (.int j)) S = some (.v (.int (i + j))) := rfl
theorem sub_ii (i j : Int) (S : Sto) : subF (.v (.int i)) (.v (.int j)) S = some (.v (.int (i - j))) := rfl
theorem lt_ii (i j : Int) (S : Sto) : ltF (.v (.int i)) (.v (.int j)) S = some (.v (.bl (decide (i < j)))) := rfl
theorem ge_ii (i j : Int) (S : Sto) : geF (.v (.int i)) (.v (.int j)) S = some (.v (.bl (decide (j ≤ i)))) := rfl
theorem mod_ii {i j : Int} {S : Sto} (h : 0 < j) : modF (.v (.int i)) (.v (.int j)) S = some (.v (.int (i % j))) := by
  unfold modF intF; simp [h, int2]
theorem div_ii {i j : Int} {S : Sto} (h : 0 < j) (h2 : j < 1073741824) : fdivF (.v (.int i)) (.v (.int j)) S = some (.v (.int (i / j))) := by
  unfold fdivF intF; simp [h, h2, int2]
theorem mul_ii {i j : Int} {S : Sto} (h : i.natAbs.log2 + j.natAbs.log2 < 100000000) : mulF (.v (.int i)) (.v (.int j)) S = some (.v (.int (i * j))) := by
  show mulI (.v (.int i)) (.v (.int j)) S = _
  unfold mulI intF; simp [h, int2]
theorem pow18 (S : Sto) : powF (.v (.int 10)) (.v (.int 18)) S = some (.v (.int 1000000000000000000)) := by
  unfold powF intF; simp [int2]
theorem int_i (i : Int) (S : Sto) : intC (.v (.int i)) S = some (.v (.int i)) := rfl
def b_pen : DL.Env → Sto → RS :=
  (sRet (eLst (eCons (eB (f1 listF) (fCons (eSl (eVar 0) eNoPart (ePart (eC (.int 63)))) fNil)) (eCons (eC (.int 0)) (eCons (eC (.int 0)) eNil)))))
def d_pen : List D → Sto → R F := runF 0 b_pen
def b_fresh : DL.Env → Sto → RS :=
  (sSeq (sAsg (gNm 1) (eSub (eVar 0) (eC (.int 1))))
  (sSeq (sSet (eVar 0) (eC (.int 1)) (eOp addF (eVar 1) (eC (.int 1))))
  (sSeq (sAsg (gNm 2) (eC (.int 0)))
  (sSeq (sIf (tOfB (eOp neF (eSub (eVar 0) (eC (.int 0))) (eLst eNil))) (sAsg (gNm 2) (eSub (eSub (eVar 0) (eC (.int 0))) (eOp modF (eB (f1 intC) (fCons (eVar 1) fNil)) (eB (f1 lenF) (fCons (eSub (eVar 0) (eC (.int 0))) fNil))))) sNil)
  (sSeq (sIf (tAnd' (tOfB (eOp ltF (eVar 1) (eB (f1 lenF) (fCons (eSub (eVar 0) (eC (.int 0))) fNil)))) (tOfB (eOp geF (eVar 2) (eOp powF (eC (.int 10)) (eC (.int 18)))))) (sRet (eOp subF (eVar 2) (eOp powF (eC (.int 10)) (eC (.int 18))))) sNil)
  (sSeq (sAsg (gNm 3) (eC (.int 2305843009213693951)))
  (sSeq (sAsg (gNm 4) (eOp modF (eB (f1 intC) (fCons (eOp addF (eOp addF (eOp mulF (eVar 2) (eC (.int 48271))) (eOp mulF (eC (.int 40692)) (eVar 1))) (eC (.int 31))) fNil)) (eVar 3)))
  (sSeq (sAsg (gNm 5) (eVar 4))
  (sSeq (sFor (eRng1 (fCons (eC (.int 6)) fNil)) (gNm 6) (sSeq (sAsg (gNm 4) (eOp modF (eB (f1 intC) (fCons (eOp addF (eOp addF (eOp mulF (eVar 4) (eVar 4)) (eOp mulF (eOp mulF (eC (.int 69621)) (eOp addF (eVar 6) (eC (.int 1)))) (eOp addF (eVar 1) (eC (.int 1))))) (eVar 2)) fNil)) (eVar 3)))
  (sAsg (gNm 5) (eOp addF (eOp mulF (eVar 5) (eVar 3)) (eVar 4)))))
  (sRet (eVar 5)))))))))))
def d_fresh : List D → Sto → R F := runF 6 b_fresh
def b_draw : DL.Env → Sto → RS :=
  (sSeq (sIf (tOfB (eOp ltF (eSub (eVar 0) (eC (.int 2))) (eVar 1))) (sSet (eVar 0) (eC (.int 2)) (eCall 1 d_fresh (eCons (eVar 0) eNil))) sNil)
  (sSeq (sAsg (gNm 2) (eOp modF (eB (f1 intC) (fCons (eSub (eVar 0) (eC (.int 2))) fNil)) (eVar 1)))
  (sSeq (sSet (eVar 0) (eC (.int 2)) (eOp fdivF (eB (f1 intC) (fCons (eSub (eVar 0) (eC (.int 2))) fNil)) (eVar 1)))
  (sRet (eVar 2)))))
def d_draw : List D → Sto → R F := runF 1 b_draw
theorem lg {x n : Nat} (h : x < 2 ^ n) : x.log2 ≤ n := by
  by_cases h0 : x = 0
  · subst h0; exact Nat.zero_le _
  · exact Nat.le_of_lt ((Nat.log2_lt h0).2 h)
theorem mul_lg {i j : Int} {a b : Nat} {S : Sto} (h1 : i.natAbs.log2 ≤ a) (h2 : j.natAbs.log2 ≤ b) (h : a + b < 100000000) : mulF (.v (.int i)) (.v (.int j)) S = some (.v (.int (i * j))) := mul_ii (by omega)
abbrev PP : Int := 2305843009213693951
/-- a turn -/
def stN (at' cell st k : Int) : Int := (st * st + 69621 * (k + 1) * (at' + 1) + cell) % PP
def fdN (fd st : Int) : Int := fd * PP + st
theorem stN_ge (at' cell st k : Int) : 0 ≤ stN at' cell st k := Int.emod_nonneg _ (by decide)
theorem stN_lt (at' cell st k : Int) : stN at' cell st k < PP := Int.emod_lt_of_pos _ (by decide)
def turnB : Env → Sto → RS := (sSeq (sAsg (gNm 4) (eOp modF (eB (f1 intC) (fCons (eOp addF (eOp addF (eOp mulF (eVar 4) (eVar 4)) (eOp mulF (eOp mulF (eC (.int 69621)) (eOp addF (eVar 6) (eC (.int 1)))) (eOp addF (eVar 1) (eC (.int 1))))) (eVar 2)) fNil)) (eVar 3)))
  (sAsg (gNm 5) (eOp addF (eOp mulF (eVar 5) (eVar 3)) (eVar 4))))
theorem pp_lg : PP.natAbs.log2 ≤ 61 := lg (by decide)
theorem small_lg {i : Int} (h0 : 0 ≤ i) (h1 : i < PP) : i.natAbs.log2 ≤ 61 := by
  have h1 : i < 2305843009213693951 := h1
  have e : (2 : Nat) ^ 61 = 2305843009213693952 := by decide
  exact lg (by rw [e]; omega)
theorem turn_ok {p : Nat} {at' cell st fd k : Int} {S : Sto} (a0 : 0 ≤ at') (a1 : at' ≤ 1000000000) (s0 : 0 ≤ st) (s1 : st < PP) (k0 : 0 ≤ k) (k1 : k ≤ 6) (hf : fd.natAbs.log2 ≤ 1000) :
    turnB [some (.loc p), some (.int at'), some (.int cell), some (.int PP), some (.int st), some (.int fd), some (.int k)] S =
      .nx [some (.loc p), some (.int at'), some (.int cell), some (.int PP), some (.int (stN at' cell st k)), some (.int (fdN fd (stN at' cell st k))), some (.int k)] S := by
  have e1 : (69621 : Int).natAbs.log2 ≤ 17 := lg (by decide)
  have e2 : (k + 1).natAbs.log2 ≤ 3 := lg (by omega)
  have e3 : (69621 * (k + 1)).natAbs.log2 ≤ 20 := lg (by omega)
  have e4 : (at' + 1).natAbs.log2 ≤ 30 := lg (by omega)
  refine (seq_nx (asg_ok (op_ok (b1_ok (op_ok (op_ok (op_ok (var_ok rfl) (var_ok rfl) (mul_lg (small_lg s0 s1) (small_lg s0 s1) (by decide))) (op_ok (op_ok c_ok (op_ok (var_ok rfl) c_ok (add_ii _ _ _)) (mul_lg e1 e2 (by decide))) (op_ok (var_ok rfl) c_ok (add_ii _ _ _)) (mul_lg e3 e4 (by decide))) (add_ii _ _ _)) (var_ok rfl) (add_ii _ _ _)) (int_i _ _)) (var_ok rfl) (mod_ii (by decide))))).trans ?_
  exact asg_ok (op_ok (op_ok (var_ok rfl) (var_ok rfl) (mul_lg hf pp_lg (by decide))) (var_ok rfl) (add_ii _ _ _))
theorem fd_lg {fd st : Int} {n : Nat} (h0 : 0 ≤ fd) (h1 : fd < 2 ^ n) (s0 : 0 ≤ st) (s1 : st < PP) : 0 ≤ fdN fd st ∧ fdN fd st < 2 ^ (n + 61) := by
  unfold fdN
  have e : (2 : Int) ^ (n + 61) = 2 ^ n * 2305843009213693952 := by rw [Int.pow_add]; rfl
  rw [e]
  refine ⟨?_, ?_⟩
  · have := Int.mul_nonneg h0 (show (0 : Int) ≤ PP by decide)
    omega
  · have s1 : st < 2305843009213693951 := s1
    generalize (2 : Int) ^ n = M at *
    show fd * 2305843009213693951 + st < M * 2305843009213693952
    omega
theorem of_nat_lg {i : Int} {n : Nat} (h0 : 0 ≤ i) (h1 : i < 2 ^ n) : i.natAbs.log2 ≤ n := lg (by
  have e : ((2 ^ n : Nat) : Int) = (2 : Int) ^ n := by push_cast; rfl
  omega)
theorem for_nx {it : DIt} {g : D → Env → Option Env} {se : Env → Sto → RS} {d : D} {ds : List D} {ρ ρ1 ρ2 : Env} {S S2 : Sto} (ok : it.ok S) (hg : g d ρ = some ρ1) (h : se ρ1 S = .nx ρ2 S2) : forL it g se (d :: ds) ρ S = forL it g se ds ρ2 S2 := by
  simp only [forL]
  rw [if_pos ok, hg]
  simp only
  rw [h]
theorem loop_ok {p : Nat} {at' cell : Int} {S : Sto} (xs : List D) (a0 : 0 ≤ at') (a1 : at' ≤ 1000000000) : ∀ (ks : List Int) (st fd : Int) (ko : Option D) (n : Nat), (∀ k ∈ ks, 0 ≤ k ∧ k ≤ 6) → 0 ≤ st → st < PP → 0 ≤ fd → fd < 2 ^ n → n + 61 * ks.length ≤ 1000 →
    ∃ st' fd' ko', forL ⟨xs, []⟩ (gNm 6) turnB (ks.map .int) [some (.loc p), some (.int at'), some (.int cell), some (.int PP), some (.int st), some (.int fd), ko] S =
      .nx [some (.loc p), some (.int at'), some (.int cell), some (.int PP), some (.int st'), some (.int fd'), ko'] S ∧ 0 ≤ fd'
  | [], st, fd, ko, n, _, _, _, f0, _, _ => ⟨st, fd, ko, by simp [forL], f0⟩
  | k :: ks, st, fd, ko, n, hk, s0, s1, f0, f1, hn => by
    obtain ⟨k0, k1⟩ := hk k List.mem_cons_self
    rw [List.length_cons] at hn
    obtain ⟨g0, g1⟩ := fd_lg f0 f1 (stN_ge at' cell st k) (stN_lt at' cell st k)
    obtain ⟨st', fd', ko', e, h0⟩ := loop_ok xs a0 a1 ks (stN at' cell st k) (fdN fd (stN at' cell st k)) (some (.int k)) (n + 61) (fun j hj => hk j (List.mem_cons_of_mem _ hj)) (stN_ge _ _ _ _) (stN_lt _ _ _ _) g0 g1 (by omega)
    refine ⟨st', fd', ko', ?_, h0⟩
    rw [List.map_cons, for_nx (by simp) (show gNm 6 (.int k) _ = some _ from rfl) (turn_ok a0 a1 s0 s1 k0 k1 (Nat.le_trans (of_nat_lg f0 f1) (by omega)))]
    exact e
theorem pys_ints : ∀ l : List Int, D.pys (l.map .int) = some (l.map .int)
  | [] => rfl
  | i :: l => by
    show (match D.py (.int i), D.pys (l.map .int) with
      | some p, some ps => some (p :: ps)
      | _, _ => none) = _
    rw [pys_ints l]; rfl
theorem lay_ints : ∀ l : List Int, PyData.canLayAll0 (l.map .int) = true
  | [] => rfl
  | i :: l => by
    show (PyData.canLay0 (.int i) && PyData.canLayAll0 (l.map .int)) = true
    rw [lay_ints l]; rfl
theorem getTL_loc {S : Sto} {n : Nat} {ds : List D} (h : S[n]? = some (.lst ds)) : getTL (.v (.loc n)) S = some ds := by
  show (match S[n]? with
    | some (.lst ds) => some ds
    | _ => none) = _
  rw [h]
theorem len_loc {S : Sto} {n : Nat} {ds : List D} (h : S[n]? = some (.lst ds)) : lenF (.v (.loc n)) S = some (.v (.int ds.length)) := by
  show (match S[n]? with
    | some (.lst ds) => some (F.v (.int ds.length))
    | _ => none) = _
  rw [h]
theorem ix_loc {S : Sto} {n : Nat} {ds : List D} {i : Int} {d : D} (h : S[n]? = some (.lst ds)) (hi : atI ds i = some d) : ixF (.v (.loc n)) (.v (.int i)) S = some (.v d) := by
  show ((getTL (.v (.loc n)) S).bind fun ds => (atI ds i).map F.v) = _
  rw [getTL_loc h, Option.bind_some, hi]; rfl
theorem depth_ints : ∀ l : List Int, PyData.depthAll (l.map .int) ≤ 1
  | [] => by simp [PyData.depthAll]
  | i :: l => by
    have := depth_ints l
    simp only [List.map_cons, PyData.depthAll, PyData.depth]
    omega
theorem eqB_nil {S : Sto} {c : Nat} {l : List Int} (h : S[c]? = some (.lst (l.map .int))) : eqB (.v (.loc c)) (.l []) S = some (decide (l = [])) := by
  have e1 : F.py (.v (.loc c)) S = some (.list (l.map .int)) := by
    show (match S[c]? with
      | some (.lst ds) => (D.pys ds).map PyData.list
      | _ => none) = _
    rw [h]
    show (D.pys (l.map .int)).map PyData.list = _
    rw [pys_ints]; rfl
  have e2 : F.py (.l []) S = some (.list []) := rfl
  have s1 : SeqAt.shaped (.list (l.map .int)) = true := by
    unfold SeqAt.shaped
    have d := depth_ints l
    have e : PyData.depth (.list (l.map .int)) ≤ 64 := by simp only [PyData.depth]; omega
    rw [show PyData.canLay0 (.list (l.map .int)) = PyData.canLayAll0 (l.map .int) by simp [PyData.canLay0], lay_ints, decide_eq_true e]; rfl
  have s2 : SeqAt.shaped (.list []) = true := by decide
  unfold eqB
  rw [e1, e2]
  show (if (SeqAt.shaped (.list (l.map .int)) && SeqAt.shaped (.list [])) = true then some (PyData.eqv (.list (l.map .int)) (.list [])) else none) = _
  rw [s1, s2, if_pos (by decide)]
  cases l with
  | nil => rfl
  | cons i l => rfl
/-- the pen at p: its cells at c, how many were drawn, the pool -/
structure IsPen (S : Sto) (p c : Nat) (cells : List Int) (at' pool : Int) : Prop where
  pen : S[p]? = some (.lst [.loc c, .int at', .int pool])
  cel : S[c]? = some (.lst (cells.map .int))
  ne : c ≠ p
  a0 : 0 ≤ at'
  p0 : 0 ≤ pool
theorem IsPen.set {S : Sto} {p c : Nat} {cells : List Int} {at' pool a2 p2 : Int} (h : IsPen S p c cells at' pool) (ha : 0 ≤ a2) (hp : 0 ≤ p2) : IsPen (S.set p (.lst [.loc c, .int a2, .int p2])) p c cells a2 p2 :=
  ⟨by rw [List.getElem?_set_self (List.getElem?_eq_some_iff.mp h.pen).1], by rw [List.getElem?_set_ne (Ne.symm h.ne)]; exact h.cel, h.ne, ha, hp⟩
theorem set_ok {eo ei ee : Env → Sto → R F} {ρ : Env} {S S1 S2 S3 S4 : Sto} {f x : F} {k : D} (he : ee ρ S = .ok f S1) (ho : eo ρ (box f S1).2 = .ok x S2) (hi : ei ρ S2 = .ok (.v k) S3) (hs : setO x k (box f S1).1 S3 = some S4) : sSet eo ei ee ρ S = .nx ρ S4 := by
  unfold sSet eBox DL.onE
  rw [he, R.bind_ok]
  simp only
  rw [ho]
  simp only
  rw [hi]
  simp only
  rw [hs]
theorem setv {eo ei ee : Env → Sto → R F} {ρ : Env} {S S1 S2 S3 S4 : Sto} {d : D} {x : F} {k : D} (he : ee ρ S = .ok (.v d) S1) (ho : eo ρ S1 = .ok x S2) (hi : ei ρ S2 = .ok (.v k) S3) (hs : setO x k d S3 = some S4) : sSet eo ei ee ρ S = .nx ρ S4 := set_ok he ho hi hs
theorem setO_loc {S : Sto} {n k : Nat} {ds : List D} {i : Int} {d : D} (h : S[n]? = some (.lst ds)) (hi : ixN ds.length i = some k) : setO (.v (.loc n)) (.int i) d S = some (S.set n (.lst (ds.set k d))) := by
  show (match S[n]? with
    | some (.lst ds) => (ixN ds.length i).map fun k => S.set n (.lst (ds.set k d))
    | _ => none) = _
  rw [h]
  show (ixN ds.length i).map _ = _
  rw [hi]; rfl
theorem tofb_ok {ee : Env → Sto → R F} {ρ : Env} {S S1 : Sto} {b : Bool} (h : ee ρ S = .ok (.v (.bl b)) S1) : tOfB ee ρ S = .ok b S1 := by
  unfold tOfB; rw [h]; rfl
theorem and_ok {ea eb : Env → Sto → R Bool} {ρ : Env} {S : Sto} {a b : Bool} (h : ea ρ S = .ok a S) (h2 : eb ρ S = .ok b S) : tAnd' ea eb ρ S = .ok (a && b) S := by
  unfold tAnd'; rw [h, R.bind_ok]
  cases a with
  | true => rw [if_pos rfl, h2]; rfl
  | false => rfl
theorem for_ok {ei : Env → Sto → R DIt} {g : D → Env → Option Env} {se : Env → Sto → RS} {ρ : Env} {S S1 : Sto} {it : DIt} (h : ei ρ S = .ok it S1) : sFor ei g se ρ S = forL it g se it.items ρ S1 := by
  unfold sFor DL.onE; rw [h]
theorem atI_in {ds : List D} {i : Int} (h0 : 0 ≤ i) (h1 : i < ds.length) : ∃ d, ds[i.toNat]? = some d ∧ atI ds i = some d := by
  have hl : i.toNat < ds.length := by omega
  refine ⟨ds[i.toNat], List.getElem?_eq_getElem hl, ?_⟩
  unfold atI ixN
  rw [if_pos h0, if_pos h1]
  exact List.getElem?_eq_getElem hl
theorem fresh_ok {S : Sto} {p c : Nat} {cells : List Int} {at' pool : Int} (h : IsPen S p c cells at' pool) (a1 : at' ≤ 999999999) (hb : ∀ z ∈ cells, z.natAbs.log2 ≤ 2000000) :
    ∃ v, 0 ≤ v ∧ d_fresh [.loc p] S = .ok (.v (.int v)) (S.set p (.lst [.loc c, .int (at' + 1), .int pool])) := by
  have h1 := h.set (a2 := at' + 1) (by have := h.a0; omega) h.p0
  generalize hS : S.set p (.lst [.loc c, .int (at' + 1), .int pool]) = S1 at h1 ⊢
  have a0 := h.a0
  suffices q : ∃ v, 0 ≤ v ∧ b_fresh [some (.loc p), none, none, none, none, none, none] S = .rt (.v (.int v)) S1 by
    obtain ⟨v, v0, e⟩ := q
    refine ⟨v, v0, ?_⟩
    show (match b_fresh [some (.loc p), none, none, none, none, none, none] S with
      | .rt f S' => R.ok f S'
      | .nx _ S' => R.ok (.v .non) S'
      | .err x _ S' => R.err x S'
      | _ => R.bad) = _
    rw [e]
  unfold b_fresh
  rw [seq_nx (asgv (sub_ok (var_ok rfl) c_ok (ix_loc (d := .int at') h.pen rfl)))]
  rw [seq_nx (setv (op_ok (var_ok rfl) c_ok (add_ii _ _ _)) (var_ok rfl) c_ok (setO_loc (k := 1) h.pen rfl))]
  rw [seq_nx (asgv c_ok)]
  show ∃ v, 0 ≤ v ∧ sSeq _ _ [some (.loc p), some (.int at'), some (.int 0), none, none, none, none] (S.set p (.lst [.loc c, .int (at' + 1), .int pool])) = _
  rw [hS]
  -- the cell
  have cl : ∀ ρ : Env, ρ[0]? = some (some (.loc p)) → eSub (eVar 0) (eC (.int 0)) ρ S1 = .ok (.v (.loc c)) S1 := fun ρ hr => sub_ok (var_ok hr) c_ok (ix_loc h1.pen rfl)
  have ln : ∀ ρ : Env, ρ[0]? = some (some (.loc p)) → eB (f1 lenF) (fCons (eSub (eVar 0) (eC (.int 0))) fNil) ρ S1 = .ok (.v (.int cells.length)) S1 := fun ρ hr => b1_ok (cl ρ hr) (by rw [len_loc h1.cel, List.length_map])
  have st4 : ∃ cell : Int, cell.natAbs.log2 ≤ 2000000 ∧ (sIf (tOfB (eOp neF (eSub (eVar 0) (eC (.int 0))) (eLst eNil))) (sAsg (gNm 2) (eSub (eSub (eVar 0) (eC (.int 0))) (eOp modF (eB (f1 intC) (fCons (eVar 1) fNil)) (eB (f1 lenF) (fCons (eSub (eVar 0) (eC (.int 0))) fNil))))) sNil)
      [some (.loc p), some (.int at'), some (.int 0), none, none, none, none] S1 = .nx [some (.loc p), some (.int at'), some (.int cell), none, none, none, none] S1 := by
    have t : tOfB (eOp neF (eSub (eVar 0) (eC (.int 0))) (eLst eNil)) [some (.loc p), some (.int at'), some (.int 0), none, none, none, none] S1 = .ok (!decide (cells = [])) S1 :=
      tofb_ok (op_ok (cl _ rfl) (show eLst eNil _ _ = .ok (.l []) S1 from rfl) (by unfold neF; rw [eqB_nil h1.cel]; rfl))
    rw [if_ok t]
    by_cases hc : cells = []
    · refine ⟨0, by decide, ?_⟩
      rw [decide_eq_true hc]; rfl
    · have hpos : 0 < (cells.length : Int) := by
        have : cells.length ≠ 0 := fun e => hc (List.length_eq_zero_iff.mp e)
        omega
      have m0 : 0 ≤ at' % (cells.length : Int) := Int.emod_nonneg _ (by omega)
      have m1 : at' % (cells.length : Int) < cells.length := Int.emod_lt_of_pos _ hpos
      obtain ⟨d, d1, d2⟩ := atI_in (ds := cells.map D.int) m0 (by rw [List.length_map]; exact m1)
      rw [List.getElem?_map] at d1
      cases hz : cells[(at' % (cells.length : Int)).toNat]? with
      | none => rw [hz] at d1; cases d1
      | some z =>
        rw [hz] at d1; cases d1
        refine ⟨z, hb z (List.mem_of_getElem? hz), ?_⟩
        rw [decide_eq_false hc]
        exact asgv (sub_ok (cl _ rfl) (op_ok (b1_ok (var_ok rfl) (int_i _ _)) (ln _ rfl) (mod_ii hpos)) (ix_loc h1.cel d2))
  obtain ⟨cell, hcl, e4⟩ := st4
  rw [seq_nx e4]
  have t5 : tAnd' (tOfB (eOp ltF (eVar 1) (eB (f1 lenF) (fCons (eSub (eVar 0) (eC (.int 0))) fNil)))) (tOfB (eOp geF (eVar 2) (eOp powF (eC (.int 10)) (eC (.int 18))))) [some (.loc p), some (.int at'), some (.int cell), none, none, none, none] S1 =
      .ok (decide (at' < cells.length) && decide (1000000000000000000 ≤ cell)) S1 :=
    and_ok (tofb_ok (op_ok (var_ok rfl) (ln _ rfl) (lt_ii _ _ _))) (tofb_ok (op_ok (var_ok rfl) (op_ok c_ok c_ok (pow18 _)) (ge_ii _ _ _)))
  cases hb5 : (decide (at' < cells.length) && decide (1000000000000000000 ≤ cell)) with
  | true =>
    rw [hb5] at t5
    simp only [Bool.and_eq_true, decide_eq_true_eq] at hb5
    refine ⟨cell - 1000000000000000000, by omega, seq_rt ?_⟩
    rw [if_ok t5, if_pos rfl]
    exact ret_ok (op_ok (var_ok rfl) (op_ok c_ok c_ok (pow18 _)) (sub_ii _ _ _))
  | false =>
    rw [hb5] at t5
    rw [seq_nx (if_no t5)]
    rw [seq_nx (asgv c_ok)]
    rw [seq_nx (asgv (op_ok (b1_ok (op_ok (op_ok (op_ok (var_ok rfl) c_ok (mul_lg hcl (lg (n := 16) (by decide)) (by decide))) (op_ok c_ok (var_ok rfl) (mul_lg (lg (n := 16) (by decide)) (lg (x := at'.natAbs) (n := 30) (by omega)) (by decide))) (add_ii _ _ _)) c_ok (add_ii _ _ _)) (int_i _ _)) (var_ok rfl) (mod_ii (by decide))))]
    rw [seq_nx (asgv (var_ok rfl))]
    generalize hst : (cell * 48271 + 40692 * at' + 31) % 2305843009213693951 = st0
    have s0 : 0 ≤ st0 := by rw [← hst]; exact Int.emod_nonneg _ (by decide)
    have s1 : st0 < PP := by rw [← hst]; exact Int.emod_lt_of_pos _ (by decide)
    obtain ⟨st', fd', ko', el, f0⟩ := loop_ok (p := p) (at' := at') (cell := cell) (S := S1) (rngD 0 6) a0 (by omega) [0, 1, 2, 3, 4, 5] st0 st0 none 61 (by decide) s0 s1 s0 (Int.lt_trans s1 (by decide)) (by decide)
    refine ⟨fd', f0, ?_⟩
    exact (seq_nx ((for_ok (show eRng1 (fCons (eC (.int 6)) fNil) _ _ = .ok ⟨rngD 0 6, []⟩ S1 from rfl)).trans el)).trans (ret_ok (var_ok rfl))
theorem set_same {α : Type} {S : List α} {p : Nat} {o : α} (h : S[p]? = some o) : S.set p o = S := by
  obtain ⟨hl, e⟩ := List.getElem?_eq_some_iff.mp h
  rw [← e]; exact List.set_getElem_self hl
theorem box_v' (d : D) (S : Sto) : box (.v d) S = (d, S) := rfl
theorem call1_ok {df : List D → Sto → R F} {ee : Env → Sto → R F} {ρ : Env} {S S1 S2 : Sto} {d : D} {f : F} (h : ee ρ S = .ok (.v d) S1) (hd : df [d] S1 = .ok f S2) : eCall 1 df (eCons ee eNil) ρ S = .ok f S2 := by
  unfold eCall eCons eNil eBox; rw [h]; simp only [R.bind_ok, box_v', List.length_cons, List.length_nil]
  rw [if_pos trivial]; exact hd
theorem call2_ok {df : List D → Sto → R F} {ee eg : Env → Sto → R F} {ρ : Env} {S S1 S2 S3 : Sto} {d d2 : D} {f : F} (h : ee ρ S = .ok (.v d) S1) (h2 : eg ρ S1 = .ok (.v d2) S2) (hd : df [d, d2] S2 = .ok f S3) : eCall 2 df (eCons ee (eCons eg eNil)) ρ S = .ok f S3 := by
  unfold eCall eCons eNil eBox; rw [h]; simp only [R.bind_ok, box_v']; rw [h2]; simp only [R.bind_ok, box_v', List.length_cons, List.length_nil]
  rw [if_pos trivial]; exact hd
/-- a number below many is drawn: the pen alone changes, at most one number more was made -/
theorem draw_ok {S : Sto} {p c : Nat} {cells : List Int} {at' pool m : Int} (h : IsPen S p c cells at' pool) (a1 : at' ≤ 999999999) (hb : ∀ z ∈ cells, z.natAbs.log2 ≤ 2000000) (m0 : 0 < m) (m1 : m < 1073741824) :
    ∃ d a2 p2, 0 ≤ d ∧ d < m ∧ at' ≤ a2 ∧ a2 ≤ at' + 1 ∧ 0 ≤ p2 ∧ d_draw [.loc p, .int m] S = .ok (.v (.int d)) (S.set p (.lst [.loc c, .int a2, .int p2])) := by
  -- the pool, filled up
  have fill : ∃ a2 p1, at' ≤ a2 ∧ a2 ≤ at' + 1 ∧ 0 ≤ p1 ∧ (sIf (tOfB (eOp ltF (eSub (eVar 0) (eC (.int 2))) (eVar 1))) (sSet (eVar 0) (eC (.int 2)) (eCall 1 d_fresh (eCons (eVar 0) eNil))) sNil) [some (.loc p), some (.int m), none] S =
      .nx [some (.loc p), some (.int m), none] (S.set p (.lst [.loc c, .int a2, .int p1])) := by
    have t : tOfB (eOp ltF (eSub (eVar 0) (eC (.int 2))) (eVar 1)) [some (.loc p), some (.int m), none] S = .ok (decide (pool < m)) S :=
      tofb_ok (op_ok (sub_ok (var_ok rfl) c_ok (ix_loc (d := .int pool) h.pen rfl)) (var_ok rfl) (lt_ii _ _ _))
    by_cases hp : pool < m
    · obtain ⟨v, v0, e⟩ := fresh_ok h a1 hb
      have h1 := h.set (a2 := at' + 1) (by have := h.a0; omega) h.p0
      refine ⟨at' + 1, v, by omega, Int.le_refl _, v0, ?_⟩
      rw [decide_eq_true hp] at t
      rw [if_ok t, if_pos rfl]
      refine (setv (call1_ok (var_ok rfl) e) (var_ok rfl) c_ok (setO_loc (k := 2) h1.pen rfl)).trans ?_
      rw [List.set_set]; rfl
    · refine ⟨at', pool, Int.le_refl _, by omega, h.p0, ?_⟩
      rw [decide_eq_false hp] at t
      rw [if_no t]
      congr 1
      exact (set_same h.pen).symm
  obtain ⟨a2, p1, h1, h2, h3, e⟩ := fill
  have g := h.set (a2 := a2) (by have := h.a0; omega) h3
  refine ⟨p1 % m, a2, p1 / m, Int.emod_nonneg _ (by omega), Int.emod_lt_of_pos _ m0, h1, h2, Int.ediv_nonneg h3 (by omega), ?_⟩
  suffices q : b_draw [some (.loc p), some (.int m), none] S = .rt (.v (.int (p1 % m))) (S.set p (.lst [.loc c, .int a2, .int (p1 / m)])) by
    show (match b_draw [some (.loc p), some (.int m), none] S with
      | .rt f S' => R.ok f S'
      | .nx _ S' => R.ok (.v .non) S'
      | .err x _ S' => R.err x S'
      | _ => R.bad) = _
    rw [q]
  unfold b_draw
  rw [seq_nx e]
  have pl : ∀ ρ : Env, ρ[0]? = some (some (.loc p)) → eB (f1 intC) (fCons (eSub (eVar 0) (eC (.int 2))) fNil) ρ (S.set p (.lst [.loc c, .int a2, .int p1])) = .ok (.v (.int p1)) (S.set p (.lst [.loc c, .int a2, .int p1])) :=
    fun ρ hr => b1_ok (sub_ok (var_ok hr) c_ok (ix_loc (d := .int p1) g.pen rfl)) (int_i _ _)
  rw [seq_nx (asgv (op_ok (pl _ rfl) (var_ok rfl) (mod_ii m0)))]
  rw [seq_nx (setv (op_ok (pl _ rfl) (var_ok rfl) (div_ii m0 m1)) (var_ok rfl) c_ok (setO_loc (k := 2) g.pen rfl))]
  rw [List.set_set]
  exact ret_ok (var_ok rfl)
end Pen
end DL
/-! ## DPen2 -/
set_option maxHeartbeats 1000000
/-! Drawn lists. -/
namespace DL
open PySem PySem.Spec L2
namespace Pen
/-- the store grows; what it held stays but at ex -/
structure Ext (ex : List Nat) (S S' : Sto) : Prop where
  le : S.length ≤ S'.length
  at' : ∀ i, i ∉ ex → i < S.length → S'[i]? = S[i]?
theorem Ext.refl {ex : List Nat} {S : Sto} : Ext ex S S := ⟨Nat.le_refl _, fun _ _ _ => rfl⟩
theorem Ext.trans {ex : List Nat} {S S1 S2 : Sto} (a : Ext ex S S1) (b : Ext ex S1 S2) : Ext ex S S2 :=
  ⟨Nat.le_trans a.le b.le, fun i h1 h2 => (b.at' i h1 (Nat.lt_of_lt_of_le h2 a.le)).trans (a.at' i h1 h2)⟩
theorem Ext.get {ex : List Nat} {S S' : Sto} {i : Nat} {o : O} (a : Ext ex S S') (h : i ∉ ex) (e : S[i]? = some o) : S'[i]? = some o :=
  (a.at' i h (List.getElem?_eq_some_iff.mp e).1).trans e
theorem Ext.mono {ex ex' : List Nat} {S S' : Sto} (a : Ext ex S S') (h : ∀ i ∈ ex, i ∈ ex') : Ext ex' S S' := ⟨a.le, fun i h1 h2 => a.at' i (fun z => h1 (h i z)) h2⟩
theorem Ext.set {ex : List Nat} {S : Sto} {p : Nat} {o : O} (h : p ∈ ex) : Ext ex S (S.set p o) := ⟨by rw [List.length_set]; exact Nat.le_refl _, fun i h1 _ => List.getElem?_set_ne (fun e => h1 (by rw [← e]; exact h))⟩
theorem Ext.app {ex : List Nat} {S : Sto} {t : Sto} : Ext ex S (S ++ t) := ⟨by simp, fun i _ h => List.getElem?_append_left h⟩
/-- what was made since may change -/
theorem Ext.drop {ex ex' : List Nat} {S S' : Sto} (a : Ext ex S S') (h : ∀ i ∈ ex, i ∉ ex' → S.length ≤ i) : Ext ex' S S' := ⟨a.le, fun i h1 h2 => a.at' i (fun z => absurd (h i z h1) (by omega)) h2⟩
/-- a pen at p that made at most n numbers -/
structure Pn (p : Nat) (S : Sto) (n : Int) : Prop where
  ex : ∃ c cells at' pool, IsPen S p c cells at' pool ∧ (∀ z ∈ cells, z.natAbs.log2 ≤ 2000000) ∧ at' ≤ n ∧ c < p
theorem Pn.mono {p : Nat} {S : Sto} {n m : Int} (h : Pn p S n) (le : n ≤ m) : Pn p S m := by
  obtain ⟨c, cells, a, pool, h1, h2, h3, h4⟩ := h
  exact ⟨c, cells, a, pool, h1, h2, Int.le_trans h3 le, h4⟩
theorem Pn.lt {p : Nat} {S : Sto} {n : Int} (h : Pn p S n) : p < S.length := by
  obtain ⟨c, cells, a, pool, h1, _⟩ := h
  exact (List.getElem?_eq_some_iff.mp h1.pen).1
/-- what leaves the pen and what is older than it -/
theorem Pn.ext {p : Nat} {S S' : Sto} {n : Int} {ex : List Nat} (h : Pn p S n) (e : Ext ex S S') (hp : ∀ i ∈ ex, p < i) : Pn p S' n := by
  obtain ⟨c, cells, a, pool, h1, h2, h3, h4⟩ := h
  exact ⟨c, cells, a, pool, ⟨e.get (fun z => absurd (hp _ z) (by omega)) h1.pen, e.get (fun z => absurd (hp _ z) (by omega)) h1.cel, h1.ne, h1.a0, h1.p0⟩, h2, h3, h4⟩
theorem draw2 {p : Nat} {S : Sto} {n m : Int} (h : Pn p S n) (hn : n ≤ 999999999) (m0 : 0 < m) (m1 : m < 1073741824) :
    ∃ d S', 0 ≤ d ∧ d < m ∧ d_draw [.loc p, .int m] S = .ok (.v (.int d)) S' ∧ Pn p S' (n + 1) ∧ Ext [p] S S' ∧ S'.length = S.length := by
  obtain ⟨c, cells, a, pool, h1, h2, h3, h4⟩ := h
  obtain ⟨d, a2, p2, d0, d1, e1, e2, e3, e⟩ := draw_ok h1 (by omega) h2 m0 m1
  exact ⟨d, _, d0, d1, e, ⟨c, cells, a2, p2, h1.set (by have := h1.a0; omega) e3, h2, by omega, h4⟩, .set (List.mem_singleton.mpr rfl), List.length_set⟩
theorem ins_perm {α : Type} (ys : List α) (x : α) (j : Nat) : (ys.take j ++ [x] ++ ys.drop j).Perm (ys ++ [x]) := by
  have e : ys.take j ++ [x] ++ ys.drop j = ys.take j ++ ([x] ++ ys.drop j) := by simp
  rw [e]
  refine (List.Perm.append_left _ List.perm_append_comm).trans ?_
  rw [← List.append_assoc, List.take_append_drop]
def shufB : Env → Sto → RS := (sMtL insO (eVar 2) (eCons (eCall 2 d_draw (eCons (eVar 0) (eCons (eOp addF (eB (f1 lenF) (fCons (eVar 2) fNil)) (eC (.int 1))) eNil))) (eCons (eVar 3) eNil)))
def b_shuffled : DL.Env → Sto → RS :=
  (sSeq (sAsg (gNm 2) (eLst eNil))
  (sSeq (sFor (eSeq (eVar 1)) (gNm 3) (sMtL insO (eVar 2) (eCons (eCall 2 d_draw (eCons (eVar 0) (eCons (eOp addF (eB (f1 lenF) (fCons (eVar 2) fNil)) (eC (.int 1))) eNil))) (eCons (eVar 3) eNil))))
  (sRet (eVar 2))))
def d_shuffled : List D → Sto → R F := runF 2 b_shuffled
theorem cons_ok {ee : Env → Sto → R F} {ea : Env → Sto → R (List D)} {ρ : Env} {S S1 S2 : Sto} {d : D} {ds : List D} (h : ee ρ S = .ok (.v d) S1) (h2 : ea ρ S1 = .ok ds S2) : eCons ee ea ρ S = .ok (d :: ds) S2 := by
  unfold eCons eBox; rw [h]; simp only [R.bind_ok, box_v']; rw [h2]; rfl
theorem mt_ok {f : F → List D → Sto → Option Sto} {eo : Env → Sto → R F} {ea : Env → Sto → R (List D)} {ρ : Env} {S S1 S2 S3 : Sto} {x : F} {ds : List D} (ho : eo ρ S = .ok x S1) (hl : isL x S1 = true) (ha : ea ρ S1 = .ok ds S2) (hf : f x ds S2 = some S3) : sMtL f eo ea ρ S = .nx ρ S3 := by
  unfold sMtL DL.onE; rw [ho]; simp only; rw [if_pos hl, ha]; simp only; rw [hf]
theorem isL_loc {S : Sto} {n : Nat} {ds : List D} (h : S[n]? = some (.lst ds)) : isL (.v (.loc n)) S = true := by
  unfold isL; simp [h]
theorem ins_loc {S : Sto} {n : Nat} {ds : List D} {j : Int} {d : D} (h : S[n]? = some (.lst ds)) (hl : ds.length ≤ 1000000) (j0 : 0 ≤ j) (j1 : j ≤ 1000000) : insO (.v (.loc n)) [.int j, d] S = some (S.set n (.lst (ds.take j.toNat ++ [d] ++ ds.drop j.toNat))) := by
  unfold insO; simp only [h]; rw [if_pos ⟨hl, j0, j1⟩]
theorem shuf_loop {p q : Nat} {xs : List D} {rd : D} {dep : List (Nat × O)} (hdep : ∀ z ∈ dep, z.1 ≠ p ∧ z.1 ≠ q) (hq : p < q) : ∀ (ds ys : List D) (od : Option D) (S : Sto) (n : Int), Pn p S n → DIt.ok ⟨xs, dep⟩ S → S[q]? = some (.lst ys) → ys.length + ds.length ≤ 1000 → n + ds.length ≤ 999999999 →
    ∃ zs S' od', forL ⟨xs, dep⟩ (gNm 3) shufB ds [some (.loc p), some rd, some (.loc q), od] S = .nx [some (.loc p), some rd, some (.loc q), od'] S' ∧ S'[q]? = some (.lst zs) ∧ zs.Perm (ys ++ ds) ∧ Pn p S' (n + ds.length) ∧ Ext [p, q] S S' ∧ S'.length = S.length
  | [], ys, od, S, n, hp, ok, hy, _, _ => ⟨ys, S, od, by simp only [forL]; rw [if_pos ok], hy, by simp, by simpa using hp, .refl, rfl⟩
  | d :: ds, ys, od, S, n, hp, ok, hy, hl, hn => by
    simp only [List.length_cons] at hl hn
    obtain ⟨j, S1, j0, j1, e, hp1, x1, l1⟩ := draw2 (m := (ys.length : Int) + 1) hp (by omega) (by omega) (by omega)
    have hy1 : S1[q]? = some (.lst ys) := x1.get (by simp; omega) hy
    have x2 : Ext [p, q] S (S1.set q (.lst (ys.take j.toNat ++ [d] ++ ys.drop j.toNat))) := (x1.mono (by simp)).trans (.set (by simp))
    have st : shufB [some (.loc p), some rd, some (.loc q), some d] S = .nx [some (.loc p), some rd, some (.loc q), some d] (S1.set q (.lst (ys.take j.toNat ++ [d] ++ ys.drop j.toNat))) :=
      mt_ok (var_ok rfl) (isL_loc hy) (cons_ok (call2_ok (var_ok rfl) (op_ok (b1_ok (var_ok rfl) (len_loc hy)) c_ok (add_ii _ _ _)) e) (cons_ok (var_ok rfl) (show eNil _ _ = .ok [] _ from rfl))) (ins_loc hy1 (by omega) j0 (by omega))
    have hq2 : q < S1.length := (List.getElem?_eq_some_iff.mp hy1).1
    obtain ⟨zs, S', od', f1, f2, f3, f4, f5, f6⟩ := shuf_loop (xs := xs) (rd := rd) hdep hq ds (ys.take j.toNat ++ [d] ++ ys.drop j.toNat) (some d) (S1.set q (.lst (ys.take j.toNat ++ [d] ++ ys.drop j.toNat))) (n + 1)
      (hp1.ext (ex := [q]) (.set (by simp)) (by simpa using hq)) (fun z hz => x2.get (by have := hdep z hz; simp [this.1, this.2]) (ok z hz)) (List.getElem?_set_self hq2) (by simp only [List.length_append, List.length_cons, List.length_nil, List.length_take, List.length_drop]; omega) (by omega)
    refine ⟨zs, S', od', ?_, f2, f3.trans ?_, ?_, x2.trans f5, by rw [f6, List.length_set, l1]⟩
    · rw [for_nx ok (show gNm 3 d _ = some _ from rfl) st]; exact f1
    · refine (List.Perm.append_right _ (ins_perm ys d j.toNat)).trans ?_
      simp
    · have e2 : n + 1 + (ds.length : Int) = n + ((d :: ds).length : Int) := by rw [List.length_cons]; omega
      rw [← e2]; exact f4
/-- rows shuffled: a new list -/
theorem shuffled_ok {p r : Nat} {xs : List D} {S : Sto} {n : Int} (h : Pn p S n) (hr : S[r]? = some (.lst xs)) (hne : r ≠ p) (hl : xs.length ≤ 1000) (hn : n + xs.length ≤ 999999999) :
    ∃ zs q S', d_shuffled [.loc p, .loc r] S = .ok (.v (.loc q)) S' ∧ S'[q]? = some (.lst zs) ∧ zs.Perm xs ∧ Pn p S' (n + xs.length) ∧ Ext [p] S S' ∧ S.length ≤ q := by
  have hpl := h.lt
  have hrl : r < S.length := (List.getElem?_eq_some_iff.mp hr).1
  have x0 : Ext [] S (S ++ [O.lst []]) := .app
  have hr0 : (S ++ [O.lst []])[r]? = some (.lst xs) := x0.get (by simp) hr
  obtain ⟨zs, S', od', f1, f2, f3, f4, f5, f6⟩ := shuf_loop (p := p) (q := S.length) (xs := xs) (rd := .loc r) (dep := [(r, .lst xs)]) (by intro z hz; simp at hz; subst hz; exact ⟨hne, by show r ≠ S.length; omega⟩) hpl xs [] none (S ++ [O.lst []]) n
    (h.ext x0 (by simp)) (by intro z hz; simp at hz; subst hz; exact hr0) (by simp) (by simpa using hl) hn
  refine ⟨zs, S.length, S', ?_, f2, by simpa using f3, f4, ?_, Nat.le_refl _⟩
  · suffices q : b_shuffled [some (.loc p), some (.loc r), none, none] S = .rt (.v (.loc S.length)) S' by
      show (match b_shuffled [some (.loc p), some (.loc r), none, none] S with
        | .rt f S' => R.ok f S'
        | .nx _ S' => R.ok (.v .non) S'
        | .err x _ S' => R.err x S'
        | _ => R.bad) = _
      rw [q]
    unfold b_shuffled
    rw [seq_nx (asg_ok (show eLst eNil _ _ = .ok (.l []) S from rfl))]
    have ei : eSeq (eVar 1) [some (.loc p), some (.loc r), some (.loc S.length), none] (S ++ [O.lst []]) = .ok ⟨xs, [(r, .lst xs)]⟩ (S ++ [O.lst []]) := by
      unfold eSeq; rw [var_ok (d := .loc r) rfl, R.bind_ok]; simp only [hr0]
    exact (seq_nx ((for_ok ei).trans f1)).trans (ret_ok (var_ok rfl))
  · exact (x0.mono (by simp)).trans f5 |>.drop (by intro i hi hx; simp at hi hx; omega)
end Pen
end DL
/-! ## DPen3 -/
set_option maxHeartbeats 1000000
/-! Drawn changes. -/
namespace DL
open PySem PySem.Spec L2
namespace Pen
theorem tup_ok {ea : Env → Sto → R (List D)} {ρ : Env} {S S1 : Sto} {ds : List D} (h : ea ρ S = .ok ds S1) (hl : ds.length ≤ 10000) : eTup ea ρ S = .ok (.v (.tup ds)) S1 := by
  unfold eTup; rw [h, R.bind_ok, if_pos hl]
theorem lst_ok {ea : Env → Sto → R (List D)} {ρ : Env} {S S1 : Sto} {ds : List D} (h : ea ρ S = .ok ds S1) (hl : ds.length ≤ 10000) : eLst ea ρ S = .ok (.l ds) S1 := by
  unfold eLst; rw [h, R.bind_ok, if_pos hl]
theorem nil_ok {ρ : Env} {S : Sto} : eNil ρ S = .ok [] S := rfl
theorem lc_nil {it : DIt} {g : D → Env → Option Env} {et : Env → Sto → R Bool} {ee : Env → Sto → R F} {ρ : Env} {S : Sto} (ok : it.ok S) : lcL it g et ee ρ [] S = .ok [] S := by
  simp only [lcL]; rw [if_pos ok]
theorem lc_cons {it : DIt} {g : D → Env → Option Env} {ee : Env → Sto → R F} {ρ ρ1 : Env} {S S1 S2 : Sto} {d y : D} {ds ys : List D} (ok : it.ok S) (hg : g d ρ = some ρ1) (h : ee ρ1 S = .ok (.v y) S1) (h2 : lcL it g tYes' ee ρ ds S1 = .ok ys S2) :
    lcL it g tYes' ee ρ (d :: ds) S = .ok (y :: ys) S2 := by
  simp only [lcL]; rw [if_pos ok, hg]
  simp only [tYes', okOr, if_true, eBox]
  rw [h]; simp only [R.bind_ok, box_v']
  rw [h2]
theorem lc_ok {ei : Env → Sto → R DIt} {g : D → Env → Option Env} {et : Env → Sto → R Bool} {ee : Env → Sto → R F} {vs : List Nat} {ρ : Env} {S S1 S2 : Sto} {it : DIt} {ys : List D} (h : ei ρ S = .ok it S1) (hl : it.items.length ≤ 1000000) (h2 : lcL it g et ee (wipeE ρ vs) it.items S1 = .ok ys S2) :
    eLc ei g et ee vs ρ S = .ok (.l ys) S2 := by
  unfold eLc; rw [h, R.bind_ok, if_pos hl, h2]; rfl
theorem seq_loc {ee : Env → Sto → R F} {ρ : Env} {S S1 : Sto} {r : Nat} {xs : List D} (h : ee ρ S = .ok (.v (.loc r)) S1) (hr : S1[r]? = some (.lst xs)) : eSeq ee ρ S = .ok ⟨xs, [(r, .lst xs)]⟩ S1 := by
  unfold eSeq; rw [h, R.bind_ok]; simp only [hr]
theorem dep1 {xs : List D} {r : Nat} {S : Sto} (hr : S[r]? = some (.lst xs)) : DIt.ok ⟨xs, [(r, .lst xs)]⟩ S := by
  intro z hz; simp at hz; subst hz; exact hr
/-- number and value of each change -/
def prD (q : Int × Int) : D := .tup [.int q.1, .int q.2]
def chgE : Env → Sto → R F := (eTup (eCons (eVar 2) (eCons (eSub (eLst (eCons (eC (.int 0)) (eCons (eC (.int 1)) (eCons (eC (.int 1)) (eCons (eC (.int 2)) (eCons (eC (.int 9)) (eCons (eCall 2 d_draw (eCons (eVar 0) (eCons (eC (.int 10)) eNil))) eNil))))))) (eCall 2 d_draw (eCons (eVar 0) (eCons (eC (.int 6)) eNil)))) eNil)))
def b_changes : DL.Env → Sto → RS :=
  (sRet (eB (f1 tupleF) (fCons (eLc (eSeq (eVar 1)) (gNm 2) tYes' (eTup (eCons (eVar 2) (eCons (eSub (eLst (eCons (eC (.int 0)) (eCons (eC (.int 1)) (eCons (eC (.int 1)) (eCons (eC (.int 2)) (eCons (eC (.int 9)) (eCons (eCall 2 d_draw (eCons (eVar 0) (eCons (eC (.int 10)) eNil))) eNil))))))) (eCall 2 d_draw (eCons (eVar 0) (eCons (eC (.int 6)) eNil)))) eNil))) [2]) fNil)))
def d_changes : List D → Sto → R F := runF 1 b_changes
theorem elt_ok {p : Nat} {rd : D} {i : Int} {S : Sto} {n : Int} (h : Pn p S n) (hn : n ≤ 999999000) :
    ∃ v S', 0 ≤ v ∧ v ≤ 9 ∧ chgE [some (.loc p), some rd, some (.int i)] S = .ok (.v (prD (i, v))) S' ∧ Pn p S' (n + 2) ∧ Ext [p] S S' := by
  obtain ⟨d, S1, d0, d1, e1, p1, x1, _⟩ := draw2 (m := 10) h (by omega) (by decide) (by decide)
  obtain ⟨k, S2, k0, k1, e2, p2, x2, _⟩ := draw2 (m := 6) p1 (by omega) (by decide) (by decide)
  obtain ⟨z, z1, z2⟩ := atI_in (ds := [D.int 0, D.int 1, D.int 1, D.int 2, D.int 9, D.int d]) k0 (by simpa using k1)
  have zm := List.mem_of_getElem? z1
  have hz : ∃ v : Int, z = .int v ∧ 0 ≤ v ∧ v ≤ 9 := by
    simp only [List.mem_cons, List.not_mem_nil, or_false] at zm
    rcases zm with rfl | rfl | rfl | rfl | rfl | rfl
    · exact ⟨0, rfl, by decide, by decide⟩
    · exact ⟨1, rfl, by decide, by decide⟩
    · exact ⟨1, rfl, by decide, by decide⟩
    · exact ⟨2, rfl, by decide, by decide⟩
    · exact ⟨9, rfl, by decide, by decide⟩
    · exact ⟨d, rfl, d0, by omega⟩
  obtain ⟨v, rfl, v0, v1⟩ := hz
  refine ⟨v, S2, v0, v1, ?_, by have e : n + 2 = n + 1 + 1 := by omega
                                rw [e]; exact p2, x1.trans x2⟩
  exact tup_ok (cons_ok (var_ok rfl) (cons_ok (sub_ok (lst_ok (cons_ok c_ok (cons_ok c_ok (cons_ok c_ok (cons_ok c_ok (cons_ok c_ok (cons_ok (call2_ok (var_ok rfl) c_ok e1) nil_ok)))))) (by simp)) (call2_ok (var_ok rfl) c_ok e2)
    (show ((getTL (.l [D.int 0, D.int 1, D.int 1, D.int 2, D.int 9, D.int d]) S2).bind fun ds => (atI ds k).map F.v) = _ from by
      show ((atI [D.int 0, D.int 1, D.int 1, D.int 2, D.int 9, D.int d] k).map F.v) = _
      rw [z2]; rfl)) nil_ok)) (by simp)
theorem chg_loop {p r : Nat} {xs : List D} (hne : r ≠ p) : ∀ (is : List Int) (S : Sto) (n : Int), Pn p S n → S[r]? = some (.lst xs) → n + 2 * is.length ≤ 999999000 →
    ∃ (rows : List (Int × Int)) (S' : Sto), lcL ⟨xs, [(r, .lst xs)]⟩ (gNm 2) tYes' chgE [some (.loc p), some (.loc r), none] (is.map .int) S = .ok (rows.map prD) S' ∧ rows.map (·.1) = is ∧ (∀ q ∈ rows, 0 ≤ q.2 ∧ q.2 ≤ 9) ∧ Pn p S' (n + 2 * is.length) ∧ Ext [p] S S'
  | [], S, n, h, hr, _ => ⟨[], S, lc_nil (dep1 hr), rfl, by simp, by simpa using h, .refl⟩
  | i :: is, S, n, h, hr, hn => by
    simp only [List.length_cons] at hn
    obtain ⟨v, S1, v0, v1, e, p1, x1⟩ := elt_ok (rd := .loc r) (i := i) h (by omega)
    obtain ⟨rows, S2, f, g1, g2, g3, g4⟩ := chg_loop (xs := xs) hne is S1 (n + 2) p1 (x1.get (by simpa using hne) hr) (by omega)
    refine ⟨(i, v) :: rows, S2, ?_, by simp [g1], ?_, ?_, x1.trans g4⟩
    · rw [List.map_cons, List.map_cons]
      exact lc_cons (dep1 hr) (show gNm 2 (.int i) _ = some _ from rfl) e f
    · intro q hq
      rcases List.mem_cons.mp hq with rfl | hq
      · exact ⟨v0, v1⟩
      · exact g2 q hq
    · have e2 : n + 2 + 2 * (is.length : Int) = n + 2 * ((i :: is).length : Int) := by rw [List.length_cons]; omega
      rw [← e2]; exact g3
theorem changes_ok {p r : Nat} {is : List Int} {S : Sto} {n : Int} (h : Pn p S n) (hr : S[r]? = some (.lst (is.map .int))) (hne : r ≠ p) (hl : is.length ≤ 1000) (hn : n ≤ 999990000) :
    ∃ (rows : List (Int × Int)) (S' : Sto), d_changes [.loc p, .loc r] S = .ok (.v (.tup (rows.map prD))) S' ∧ rows.map (·.1) = is ∧ (∀ q ∈ rows, 0 ≤ q.2 ∧ q.2 ≤ 9) ∧ Pn p S' (n + 2 * is.length) ∧ Ext [p] S S' := by
  obtain ⟨rows, S', e, h1, h2, h3, h4⟩ := chg_loop (xs := is.map .int) hne is S n h hr (by omega)
  refine ⟨rows, S', ?_, h1, h2, h3, h4⟩
  suffices q : b_changes [some (.loc p), some (.loc r), none] S = .rt (.v (.tup (rows.map prD))) S' by
    show (match b_changes [some (.loc p), some (.loc r), none] S with
      | .rt f S' => R.ok f S'
      | .nx _ S' => R.ok (.v .non) S'
      | .err x _ S' => R.err x S'
      | _ => R.bad) = _
    rw [q]
  exact ret_ok (b1_ok (lc_ok (seq_loc (var_ok rfl) hr) (by simp; omega) e) (show tupleF (.l _) _ = some _ from rfl))
end Pen
end DL
/-! ## DPen4 -/
set_option maxHeartbeats 1000000
/-! Drawn signs. -/
namespace DL
open PySem PySem.Spec L2
namespace Pen
abbrev Row := Int × List (Int × Int)
def rowD (r : Row) : D := .tup [.int r.1, .tup (r.2.map prD)]
theorem b2_ok {c : F → F → Sto → Option F} {ea eb : Env → Sto → R F} {ρ : Env} {S S1 S2 : Sto} {x y z : F} (ha : ea ρ S = .ok x S1) (hb : eb ρ S1 = .ok y S2) (hg : c x y S2 = some z) : eB (f2 c) (fCons ea (fCons eb fNil)) ρ S = .ok z S2 := by
  unfold eB fCons fNil; rw [ha]; simp only [R.bind_ok]; rw [hb]; simp only [R.bind_ok, f2]; rw [hg]
theorem min_ii (i j : Int) (S : Sto) : minF (.v (.int i)) (.v (.int j)) S = some (.v (.int (if j < i then j else i))) := rfl
theorem par_ok {i j : Nat} {ea eb : Env → Sto → R F} {ρ : Env} {S S1 S2 : Sto} {f : F} {f' : F} (ha : ea ρ S = .ok f S1) (hb : eb ρ (box f S1).2 = .ok f' S2) : sPar i j ea eb ρ S = .nx ((ρ.set i (some (box f S1).1)).set j (some (box f' S2).1)) (box f' S2).2 := by
  unfold sPar eBox DL.onE; rw [ha]; simp only [R.bind_ok]; rw [hb]; rfl
theorem parv {i j : Nat} {ea eb : Env → Sto → R F} {ρ : Env} {S S1 S2 : Sto} {d d' : D} (ha : ea ρ S = .ok (.v d) S1) (hb : eb ρ S1 = .ok (.v d') S2) : sPar i j ea eb ρ S = .nx ((ρ.set i (some d)).set j (some d')) S2 := par_ok ha hb
theorem app_loc {S : Sto} {n : Nat} {ds : List D} {d : D} (h : S[n]? = some (.lst ds)) (hl : ds.length ≤ 1000000) : appO (.v (.loc n)) [d] S = some (S.set n (.lst (ds ++ [d]))) := by
  unfold appO; simp only [h]; rw [if_pos hl]
theorem cut_in {xs : List D} {a b : Int} (a0 : 0 ≤ a) (ab : a ≤ b) (bl : b ≤ xs.length) : cutD xs (some a) (some b) = (xs.drop a.toNat).take (b - a).toNat := by
  unfold cutD
  have e1 : HT.sIx xs.length 0 (some a) = a.toNat := by
    unfold HT.sIx; simp only; split <;> omega
  have e2 : HT.sIx xs.length xs.length (some b) = b.toNat := by
    unfold HT.sIx; simp only; split <;> omega
  rw [e1, e2]
  congr 1
  omega
theorem part_ok {ee : Env → Sto → R F} {ρ : Env} {S S1 : Sto} {i : Int} (h : ee ρ S = .ok (.v (.int i)) S1) : ePart ee ρ S = .ok (some i) S1 := by
  unfold ePart; rw [h]; rfl
theorem getL_loc {S : Sto} {n : Nat} {ds : List D} (h : S[n]? = some (.lst ds)) : getL (.v (.loc n)) S = some ds := by
  show (match S[n]? with
    | some (.lst ds) => some ds
    | _ => none) = _
  rw [h]
theorem sl_loc {ee : Env → Sto → R F} {el eh : Env → Sto → R (Option Int)} {ρ : Env} {S : Sto} {n : Nat} {ds : List D} {lo hi : Option Int} (h : ee ρ S = .ok (.v (.loc n)) S) (hl : el ρ S = .ok lo S) (hh : eh ρ S = .ok hi S) (hn : S[n]? = some (.lst ds)) :
    eSl ee el eh ρ S = .ok (.l (cutD ds lo hi)) S := by
  unfold eSl; rw [h, R.bind_ok, hl, R.bind_ok, hh, R.bind_ok]; simp only [getL_loc hn]
theorem call2l_ok {df : List D → Sto → R F} {ee eg : Env → Sto → R F} {ρ : Env} {S S1 S2 S3 : Sto} {d : D} {ds : List D} {f : F} (h : ee ρ S = .ok (.v d) S1) (h2 : eg ρ S1 = .ok (.l ds) S2) (hd : df [d, .loc S2.length] (S2 ++ [.lst ds]) = .ok f S3) : eCall 2 df (eCons ee (eCons eg eNil)) ρ S = .ok f S3 := by
  unfold eCall eCons eNil eBox; rw [h]; simp only [R.bind_ok, box_v']; rw [h2]; simp only [R.bind_ok, box_l, List.length_cons, List.length_nil]
  rw [if_pos trivial]; exact hd
/-- a value that a sign begins with -/
def fstE : Env → Sto → R F := (eSub (eLst (eCons (eC (.int 0)) (eCons (eC (.int 0)) (eCons (eC (.int 1)) (eCons (eC (.int 2)) (eCons (eCall 2 d_draw (eCons (eVar 0) (eCons (eC (.int 10)) eNil))) eNil)))))) (eCall 2 d_draw (eCons (eVar 0) (eCons (eC (.int 5)) eNil))))
def sgB : Env → Sto → RS := (sSeq (sPar 8 9 (eB (f2 minF) (fCons (eVar 3) (fCons (eOp subF (eVar 2) (eVar 7)) fNil))) (eSub (eLst (eCons (eC (.int 0)) (eCons (eC (.int 0)) (eCons (eC (.int 1)) (eCons (eC (.int 2)) (eCons (eCall 2 d_draw (eCons (eVar 0) (eCons (eC (.int 10)) eNil))) eNil)))))) (eCall 2 d_draw (eCons (eVar 0) (eCons (eC (.int 5)) eNil)))))
  (sSeq (sMtL appO (eVar 6) (eCons (eTup (eCons (eVar 9) (eCons (eCall 2 d_changes (eCons (eVar 0) (eCons (eSl (eVar 4) (ePart (eVar 7)) (ePart (eOp addF (eVar 7) (eVar 8)))) eNil))) eNil))) eNil))
  (sAsg (gNm 7) (eOp addF (eVar 7) (eVar 8)))))
def b_signs : DL.Env → Sto → RS :=
  (sSeq (sPar 4 5 (eCall 2 d_shuffled (eCons (eVar 0) (eCons (eLr1 (eC (.int 10))) eNil))) (eLc (eRng1 (fCons (eVar 1) fNil)) (gNm 10) tYes' (eCall 2 d_draw (eCons (eVar 0) (eCons (eC (.int 5)) eNil))) [10]))
  (sSeq (sPar 6 7 (eLst eNil) (eC (.int 0)))
  (sSeq (sFor (eSeq (eVar 5)) (gNm 3) (sSeq (sPar 8 9 (eB (f2 minF) (fCons (eVar 3) (fCons (eOp subF (eVar 2) (eVar 7)) fNil))) (eSub (eLst (eCons (eC (.int 0)) (eCons (eC (.int 0)) (eCons (eC (.int 1)) (eCons (eC (.int 2)) (eCons (eCall 2 d_draw (eCons (eVar 0) (eCons (eC (.int 10)) eNil))) eNil)))))) (eCall 2 d_draw (eCons (eVar 0) (eCons (eC (.int 5)) eNil)))))
  (sSeq (sMtL appO (eVar 6) (eCons (eTup (eCons (eVar 9) (eCons (eCall 2 d_changes (eCons (eVar 0) (eCons (eSl (eVar 4) (ePart (eVar 7)) (ePart (eOp addF (eVar 7) (eVar 8)))) eNil))) eNil))) eNil))
  (sAsg (gNm 7) (eOp addF (eVar 7) (eVar 8))))))
  (sRet (eB (f1 tupleF) (fCons (eCall 2 d_shuffled (eCons (eVar 0) (eCons (eVar 6) eNil))) fNil))))))
def d_signs : List D → Sto → R F := runF 8 b_signs
theorem first_ok {p : Nat} {ρ : Env} {S : Sto} {n : Int} (h0 : ρ[0]? = some (some (.loc p))) (h : Pn p S n) (hn : n ≤ 999999000) :
    ∃ v S', 0 ≤ v ∧ v ≤ 9 ∧ fstE ρ S = .ok (.v (.int v)) S' ∧ Pn p S' (n + 2) ∧ Ext [p] S S' := by
  obtain ⟨d, S1, d0, d1, e1, p1, x1, _⟩ := draw2 (m := 10) h (by omega) (by decide) (by decide)
  obtain ⟨k, S2, k0, k1, e2, p2, x2, _⟩ := draw2 (m := 5) p1 (by omega) (by decide) (by decide)
  obtain ⟨z, z1, z2⟩ := atI_in (ds := [D.int 0, D.int 0, D.int 1, D.int 2, D.int d]) k0 (by simpa using k1)
  have zm := List.mem_of_getElem? z1
  have hz : ∃ v : Int, z = .int v ∧ 0 ≤ v ∧ v ≤ 9 := by
    simp only [List.mem_cons, List.not_mem_nil, or_false] at zm
    rcases zm with rfl | rfl | rfl | rfl | rfl
    · exact ⟨0, rfl, by decide, by decide⟩
    · exact ⟨0, rfl, by decide, by decide⟩
    · exact ⟨1, rfl, by decide, by decide⟩
    · exact ⟨2, rfl, by decide, by decide⟩
    · exact ⟨d, rfl, d0, by omega⟩
  obtain ⟨v, rfl, v0, v1⟩ := hz
  refine ⟨v, S2, v0, v1, ?_, by have e : n + 2 = n + 1 + 1 := by omega
                                rw [e]; exact p2, x1.trans x2⟩
  exact sub_ok (lst_ok (cons_ok c_ok (cons_ok c_ok (cons_ok c_ok (cons_ok c_ok (cons_ok (call2_ok (var_ok h0) c_ok e1) nil_ok))))) (by simp)) (call2_ok (var_ok h0) c_ok e2)
    (show ((getTL (.l [D.int 0, D.int 0, D.int 1, D.int 2, D.int d]) S2).bind fun ds => (atI ds k).map F.v) = _ from by
      show ((atI [D.int 0, D.int 0, D.int 1, D.int 2, D.int d] k).map F.v) = _
      rw [z2]; rfl)
end Pen
end DL
/-! ## DPen5 -/
set_option maxHeartbeats 1000000
/-! Drawn signs: the loop. -/
namespace DL
open PySem PySem.Spec L2
namespace Pen
/-- names of the changes of all rows -/
def nmsOf (rs : List Row) : List Int := rs.flatMap fun r => r.2.map (·.1)
def GoodR (r : Row) : Prop := 0 ≤ r.1 ∧ r.1 ≤ 9 ∧ r.2.length ≤ 4 ∧ ∀ q ∈ r.2, 0 ≤ q.2 ∧ q.2 ≤ 9
theorem sg_step {p nl fl zl : Nat} {sg C s a : Int} {names : List Int} {fs : List Row} {o8 o9 o10 : Option D} {S : Sto} {n : Int} (hp : Pn p S n) (hn : n ≤ 999989000)
    (hN : S[nl]? = some (.lst (names.map .int))) (hF : S[fl]? = some (.lst (fs.map rowD))) (pn : nl ≠ p) (pf : p < fl) (nf : nl ≠ fl) (a0 : 0 ≤ a) (a1 : a ≤ C) (cn : C ≤ names.length) (s0 : 0 ≤ s) (s1 : s ≤ 4) (hl : fs.length ≤ 1000) :
    ∃ r b S' f8 f9, sgB [some (.loc p), some (.int sg), some (.int C), some (.int s), some (.loc nl), some (.loc zl), some (.loc fl), some (.int a), o8, o9, o10] S =
      .nx [some (.loc p), some (.int sg), some (.int C), some (.int s), some (.loc nl), some (.loc zl), some (.loc fl), some (.int b), f8, f9, o10] S' ∧ a ≤ b ∧ b ≤ C ∧ GoodR r ∧ r.2.map (·.1) = (names.drop a.toNat).take (b - a).toNat ∧
      S'[fl]? = some (.lst ((fs ++ [r]).map rowD)) ∧ Pn p S' (n + 30) ∧ Ext [p, fl] S S' := by
  obtain ⟨v, S1, v0, v1, e1, p1, x1⟩ := first_ok (ρ := [some (.loc p), some (.int sg), some (.int C), some (.int s), some (.loc nl), some (.loc zl), some (.loc fl), some (.int a), o8, o9, o10]) rfl hp (by omega)
  have hm : ∃ m : Int, (if C - a < s then C - a else s) = m ∧ 0 ≤ m ∧ m ≤ 4 ∧ a + m ≤ C := by
    refine ⟨_, rfl, ?_⟩
    split <;> omega
  obtain ⟨m, em, m0, m4, mC⟩ := hm
  have hN1 := x1.get (by simpa using pn) hN
  have hF1 : S1[fl]? = some (.lst (fs.map rowD)) := x1.get (by simp; omega) hF
  have cut : cutD (names.map D.int) (some a) (some (a + m)) = ((names.drop a.toNat).take m.toNat).map D.int := by
    rw [cut_in a0 (by omega) (by rw [List.length_map]; omega), List.map_take, List.map_drop]
    congr 1
    omega
  have x2 : Ext [] S1 (S1 ++ [O.lst (((names.drop a.toNat).take m.toNat).map D.int)]) := .app
  have tl : ((names.drop a.toNat).take m.toNat).length ≤ 4 := by rw [List.length_take]; omega
  have p1l := p1.lt
  obtain ⟨rows, S3, e3, g1, g2, g3, g4⟩ := changes_ok (p := p) (r := S1.length) (is := (names.drop a.toNat).take m.toNat) (n := n + 2) (p1.ext x2 (by simp)) (List.getElem?_concat_length) (by omega) (by omega) (by omega)
  have hF3 : S3[fl]? = some (.lst (fs.map rowD)) := g4.get (by simp; omega) (x2.get (by simp) hF1)
  have rl : rows.length ≤ 4 := by
    have := congrArg List.length g1
    rw [List.length_map] at this
    omega
  refine ⟨(v, rows), a + m, S3.set fl (.lst ((fs ++ [(v, rows)]).map rowD)), some (.int m), some (.int v), ?_, by omega, mC, ⟨v0, v1, rl, g2⟩, ?_, List.getElem?_set_self (List.getElem?_eq_some_iff.mp hF3).1, ?_, ?_⟩
  · unfold sgB
    refine (seq_nx (parv (d := .int m) (b2_ok (var_ok rfl) (op_ok (var_ok rfl) (var_ok rfl) (sub_ii _ _ _)) (by rw [min_ii, em])) e1)).trans ?_
    refine (seq_nx (mt_ok (x := .v (.loc fl)) (var_ok rfl) (isL_loc hF1) (cons_ok (tup_ok (cons_ok (var_ok rfl) (cons_ok (call2l_ok (var_ok rfl)
      (by rw [sl_loc (lo := some a) (hi := some (a + m)) (var_ok rfl) (part_ok (var_ok rfl)) (part_ok (op_ok (var_ok rfl) (var_ok rfl) (add_ii _ _ _))) hN1, cut]) e3) nil_ok)) (by simp)) nil_ok)
      (app_loc hF3 (by rw [List.length_map]; omega)))).trans ?_
    refine (asgv (op_ok (var_ok rfl) (var_ok rfl) (add_ii _ _ _))).trans ?_
    rw [List.map_append]; rfl
  · rw [g1]
    congr 1
    omega
  · refine (g3.mono ?_).ext (ex := [fl]) (.set (by simp)) (by simpa using pf)
    have : (((names.drop a.toNat).take m.toNat).length : Int) ≤ 4 := by omega
    omega
  · exact ((x1.mono (by simp)).trans (x2.mono (by simp))).trans ((g4.mono (by simp)).trans (.set (by simp)))
theorem nms_app (a : List Row) (r : Row) : nmsOf (a ++ [r]) = nmsOf a ++ r.2.map (·.1) := by
  unfold nmsOf; rw [List.flatMap_append]; simp
theorem take_more {α : Type} (l : List α) (i j : Nat) (h : i ≤ j) : l.take i ++ (l.drop i).take (j - i) = l.take j := by
  have e : j = i + (j - i) := by omega
  rw [e, List.take_add]
  congr 2
  omega
theorem sg_loop {p nl fl zl : Nat} {sg C : Int} {names : List Int} {xs : List D} {o10 : Option D} (pn : nl ≠ p) (pf : p < fl) (nf : nl ≠ fl) (pz : zl ≠ p) (zf : zl ≠ fl) (cn : C ≤ names.length) : ∀ (ss : List Int) (fs : List Row) (a : Int) (o3 o8 o9 : Option D) (S : Sto) (n : Int),
    Pn p S n → n + 30 * ss.length ≤ 999989000 → S[nl]? = some (.lst (names.map .int)) → S[fl]? = some (.lst (fs.map rowD)) → S[zl]? = some (.lst xs) → 0 ≤ a → a ≤ C → (∀ s ∈ ss, 0 ≤ s ∧ s ≤ 4) → fs.length + ss.length ≤ 1000 → nmsOf fs = names.take a.toNat → (∀ r ∈ fs, GoodR r) →
    ∃ fs' b S' f3 f8 f9, forL ⟨xs, [(zl, .lst xs)]⟩ (gNm 3) sgB (ss.map .int) [some (.loc p), some (.int sg), some (.int C), o3, some (.loc nl), some (.loc zl), some (.loc fl), some (.int a), o8, o9, o10] S =
      .nx [some (.loc p), some (.int sg), some (.int C), f3, some (.loc nl), some (.loc zl), some (.loc fl), some (.int b), f8, f9, o10] S' ∧ S'[fl]? = some (.lst (fs'.map rowD)) ∧ fs'.length = fs.length + ss.length ∧ 0 ≤ b ∧ b ≤ C ∧ nmsOf fs' = names.take b.toNat ∧ (∀ r ∈ fs', GoodR r) ∧
      Pn p S' (n + 30 * ss.length) ∧ Ext [p, fl] S S'
  | [], fs, a, o3, o8, o9, S, n, hp, hn, hN, hF, hz, a0, a1, hs, hl, nm, gr => ⟨fs, a, S, o3, o8, o9, by simp only [List.map_nil, forL]; rw [if_pos (dep1 hz)], hF, by simp, a0, a1, nm, gr, by simpa using hp, .refl⟩
  | s :: ss, fs, a, o3, o8, o9, S, n, hp, hn, hN, hF, hz, a0, a1, hs, hl, nm, gr => by
    simp only [List.length_cons] at hn hl
    obtain ⟨s0, s1⟩ := hs s List.mem_cons_self
    obtain ⟨r, b, S1, f8, f9, e, ab, bC, g, gn, hF1, p1, x1⟩ := sg_step (sg := sg) (zl := zl) (o8 := o8) (o9 := o9) (o10 := o10) hp (by omega) hN hF pn pf nf a0 a1 cn s0 s1 (by omega)
    have nm1 : nmsOf (fs ++ [r]) = names.take b.toNat := by
      rw [nms_app, nm, gn]
      have e1 : (b - a).toNat = b.toNat - a.toNat := by omega
      rw [e1]
      exact take_more names _ _ (by omega)
    obtain ⟨fs', b', S', f3, f8', f9', q1, q2, q3, q4, q5, q6, q7, q8, q9⟩ := sg_loop pn pf nf pz zf cn ss (fs ++ [r]) b (some (.int s)) f8 f9 S1 (n + 30) p1 (by omega) (x1.get (by simp [pn, nf]) hN) hF1 (x1.get (by simp [pz, zf]) hz) (by omega) bC
      (fun z hz => hs z (List.mem_cons_of_mem _ hz)) (by simp; omega) nm1 (fun z hz => by
        rcases List.mem_append.mp hz with hz | hz
        · exact gr z hz
        · simp at hz; subst hz; exact g)
    refine ⟨fs', b', S', f3, f8', f9', ?_, q2, by rw [q3]; simp; omega, q4, q5, q6, q7, ?_, x1.trans q9⟩
    · rw [List.map_cons, for_nx (dep1 hz) (show gNm 3 (.int s) _ = some _ from rfl) e]; exact q1
    · have e2 : n + 30 + 30 * (ss.length : Int) = n + 30 * ((s :: ss).length : Int) := by rw [List.length_cons]; omega
      rw [← e2]; exact q8
/-- sizes drawn -/
theorem sz_loop {p : Nat} {sg C : Int} {o3 o4 o5 o6 o7 o8 o9 : Option D} {it : DIt} (ok : ∀ S, it.ok S) : ∀ (is : List D) (S : Sto) (n : Int), Pn p S n → n + is.length ≤ 999999000 →
    ∃ (ss : List Int) (S' : Sto), lcL it (gNm 10) tYes' (eCall 2 d_draw (eCons (eVar 0) (eCons (eC (.int 5)) eNil))) [some (.loc p), some (.int sg), some (.int C), o3, o4, o5, o6, o7, o8, o9, none] is S = .ok (ss.map .int) S' ∧ ss.length = is.length ∧ (∀ s ∈ ss, 0 ≤ s ∧ s ≤ 4) ∧ Pn p S' (n + is.length) ∧ Ext [p] S S'
  | [], S, n, h, _ => ⟨[], S, lc_nil (ok S), rfl, by simp, by simpa using h, .refl⟩
  | i :: is, S, n, h, hn => by
    simp only [List.length_cons] at hn
    obtain ⟨d, S1, d0, d1, e, p1, x1, _⟩ := draw2 (m := 5) h (by omega) (by decide) (by decide)
    obtain ⟨ss, S2, f, g1, g2, g3, g4⟩ := sz_loop (sg := sg) (C := C) (o3 := o3) (o4 := o4) (o5 := o5) (o6 := o6) (o7 := o7) (o8 := o8) (o9 := o9) ok is S1 (n + 1) p1 (by omega)
    refine ⟨d :: ss, S2, ?_, by simp [g1], ?_, ?_, x1.trans g4⟩
    · rw [List.map_cons]
      exact lc_cons (ok S) (show gNm 10 i _ = some _ from rfl) (call2_ok (var_ok rfl) c_ok e) f
    · intro q hq
      rcases List.mem_cons.mp hq with rfl | hq
      · exact ⟨d0, by omega⟩
      · exact g2 q hq
    · have e2 : n + 1 + (is.length : Int) = n + ((i :: is).length : Int) := by rw [List.length_cons]; omega
      rw [← e2]; exact g3
end Pen
end DL
/-! ## DPen6 -/
set_option maxHeartbeats 1000000
/-! Drawn signs. -/
namespace DL
open PySem PySem.Spec L2
namespace Pen
theorem perm_inv {α : Type} (f : α → D) (g : D → α) (hg : ∀ a, g (f a) = a) {zs : List D} {l : List α} (h : zs.Perm (l.map f)) : ∃ ns : List α, zs = ns.map f ∧ ns.Perm l := by
  have id1 : (l.map f).map g = l := by
    rw [List.map_map]
    exact (List.map_congr_left fun a _ => hg a).trans (List.map_id' l)
  refine ⟨zs.map g, ?_, by have := h.map g; rwa [id1] at this⟩
  rw [List.map_map]
  refine (List.map_id' zs).symm.trans (List.map_congr_left fun z hz => ?_)
  obtain ⟨i, _, rfl⟩ := List.mem_map.mp (h.mem_iff.mp hz)
  show f i = f (g (f i))
  rw [hg]
def toI : D → Int
  | .int i => i
  | _ => 0
def unP : D → Int × Int
  | .tup [.int a, .int b] => (a, b)
  | _ => (0, 0)
def unR : D → Row
  | .tup [.int v, .tup ds] => (v, ds.map unP)
  | _ => (0, [])
theorem unR_row (r : Row) : unR (rowD r) = r := by
  obtain ⟨v, cs⟩ := r
  show (v, (cs.map prD).map unP) = (v, cs)
  rw [List.map_map]
  congr 1
  exact (List.map_congr_left fun a _ => (rfl : unP (prD a) = a)).trans (List.map_id' cs)
theorem nms_perm {a b : List Row} (h : a.Perm b) : (nmsOf a).Perm (nmsOf b) := h.flatMap_right _
theorem ten : rngD 0 10 = ([0, 1, 2, 3, 4, 5, 6, 7, 8, 9] : List Int).map .int := rfl
theorem rng1_ok {ee : Env → Sto → R F} {ρ : Env} {S S1 : Sto} {k : Int} (h : ee ρ S = .ok (.v (.int k)) S1) (h0 : 0 ≤ k) (h1 : k ≤ 1000000) : eRng1 (fCons ee fNil) ρ S = .ok ⟨rngD 0 k.toNat, []⟩ S1 := by
  unfold eRng1 fCons fNil; rw [h]; simp only [R.bind_ok]
  show (if k ≤ 1000000000 ∧ -1000000000 ≤ k then R.ok (⟨rngD 0 k.toNat, []⟩ : DIt) S1 else .bad) = _
  rw [if_pos (And.intro (by omega) (by omega))]
theorem rngD_len (a : Int) (n : Nat) : (rngD a n).length = n := by unfold rngD; simp
theorem signs_ok {p : Nat} {S : Sto} {n sg C : Int} (h : Pn p S n) (hn : n ≤ 999000000) (g0 : 0 ≤ sg) (g1 : sg ≤ 100) (C0 : 0 ≤ C) (C1 : C ≤ 10) :
    ∃ (rs : List Row) (S' : Sto), d_signs [.loc p, .int sg, .int C] S = .ok (.v (.tup (rs.map rowD))) S' ∧ rs.length = sg.toNat ∧ (∀ r ∈ rs, GoodR r) ∧ (nmsOf rs).Nodup ∧ (∀ x ∈ nmsOf rs, 0 ≤ x ∧ x ≤ 9) ∧ (nmsOf rs).length ≤ C.toNat ∧ Pn p S' (n + 10000) ∧ Ext [p] S S' := by
  have hpl := h.lt
  -- names, sizes
  have x1 : Ext [] S (S ++ [O.lst (([0, 1, 2, 3, 4, 5, 6, 7, 8, 9] : List Int).map .int)]) := .app
  obtain ⟨zs, nl, S2, e2, hN2, pz, p2, x2, nl2⟩ := shuffled_ok (p := p) (r := S.length) (xs := ([0, 1, 2, 3, 4, 5, 6, 7, 8, 9] : List Int).map .int) (h.ext x1 (by simp)) List.getElem?_concat_length (by omega) (by simp) (by simp; omega)
  obtain ⟨names, rfl, hperm⟩ := perm_inv D.int toI (fun _ => rfl) pz
  have nlen : names.length = 10 := hperm.length_eq
  simp only [List.length_map, List.length_cons, List.length_nil, List.length_append] at p2 nl2
  obtain ⟨ss, S3, e3, l3, b3, p3, x3⟩ := sz_loop (p := p) (sg := sg) (C := C) (o3 := none) (o4 := none) (o5 := none) (o6 := none) (o7 := none) (o8 := none) (o9 := none) (it := ⟨rngD 0 sg.toNat, []⟩) (fun S => by simp) (rngD 0 sg.toNat) S2 (n + 10) (p2.mono (by omega)) (by rw [rngD_len]; omega)
  rw [rngD_len] at l3 p3
  have hN3 := x3.get (by simp; omega) hN2
  have x4 : Ext [] S3 (S3 ++ [O.lst (ss.map .int)]) := .app
  have hN4 := x4.get (by simp) hN3
  have x5 : Ext [] (S3 ++ [O.lst (ss.map .int)]) (S3 ++ [O.lst (ss.map .int)] ++ [O.lst []]) := .app
  have hN5 := x5.get (by simp) hN4
  have hz5 : (S3 ++ [O.lst (ss.map .int)] ++ [O.lst []])[S3.length]? = some (.lst (ss.map .int)) := x5.get (by simp) List.getElem?_concat_length
  have hF5 : (S3 ++ [O.lst (ss.map .int)] ++ [O.lst []])[(S3 ++ [O.lst (ss.map .int)]).length]? = some (.lst (([] : List Row).map rowD)) := List.getElem?_concat_length
  have l3p := p3.lt
  have nll := (List.getElem?_eq_some_iff.mp hN3).1
  have fll : (S3 ++ [O.lst (ss.map .int)]).length = S3.length + 1 := by simp
  obtain ⟨fs, b, S6, f3, f8, f9, e6, hF6, fl6, b0, bC, nm, gr, p6, x6⟩ := sg_loop (p := p) (nl := nl) (fl := (S3 ++ [O.lst (ss.map .int)]).length) (zl := S3.length) (sg := sg) (C := C) (names := names) (xs := ss.map .int) (o10 := none) (by omega) (by omega) (by omega) (by omega) (by omega) (by omega)
    ss [] 0 none none none (S3 ++ [O.lst (ss.map .int)] ++ [O.lst []]) (n + 10 + (sg.toNat : Int)) ((p3.ext x4 (by simp)).ext x5 (by simp)) (by omega) hN5 hF5 hz5 (Int.le_refl _) C0 b3 (by simp; omega) rfl (by simp)
  obtain ⟨zs, ql, S7, e7, hR7, pz7, p7, x7, _⟩ := shuffled_ok (p := p) (r := (S3 ++ [O.lst (ss.map .int)]).length) (xs := fs.map rowD) p6 hF6 (by omega) (by rw [List.length_map, fl6]; simp; omega) (by rw [List.length_map, fl6]; simp; omega)
  obtain ⟨rs, rfl, rperm⟩ := perm_inv rowD unR unR_row pz7
  have np := nms_perm rperm
  rw [nm] at np
  have fl6' : fs.length = ss.length := by rw [fl6]; simp
  refine ⟨rs, S7, ?_, by rw [rperm.length_eq, fl6', l3], fun r hr => gr r (rperm.mem_iff.mp hr), ?_, ?_, ?_, ?_, ?_⟩
  · suffices q : b_signs [some (.loc p), some (.int sg), some (.int C), none, none, none, none, none, none, none, none] S = .rt (.v (.tup (rs.map rowD))) S7 by
      show (match b_signs [some (.loc p), some (.int sg), some (.int C), none, none, none, none, none, none, none, none] S with
        | .rt f S' => R.ok f S'
        | .nx _ S' => R.ok (.v .non) S'
        | .err x _ S' => R.err x S'
        | _ => R.bad) = _
      rw [q]
    unfold b_signs
    refine (seq_nx (par_ok (f := .v (.loc nl)) (S1 := S2) (call2l_ok (var_ok rfl) (show eLr1 (eC (.int 10)) _ S = .ok (.l (rngD 0 10)) S from rfl) e2) (lc_ok (rng1_ok (var_ok rfl) g0 (by omega)) (by show (rngD 0 sg.toNat).length ≤ _; rw [rngD_len]; omega) e3))).trans ?_
    refine (seq_nx (par_ok (f := .l []) (show eLst eNil _ _ = .ok (.l []) _ from rfl) c_ok)).trans ?_
    refine (seq_nx ((for_ok (seq_loc (r := S3.length) (var_ok rfl) hz5)).trans e6)).trans ?_
    exact ret_ok (b1_ok (call2_ok (var_ok rfl) (var_ok rfl) e7) (by
      show (getL (.v (.loc ql)) S7).map (fun ds => F.v (.tup ds)) = _
      rw [getL_loc hR7]; rfl))
  · exact np.nodup_iff.mpr ((hperm.nodup_iff.mpr (by decide)).sublist (List.take_sublist _ _))
  · intro x hx
    have := hperm.mem_iff.mp (List.mem_of_mem_take (np.mem_iff.mp hx))
    simp at this
    omega
  · rw [np.length_eq, List.length_take]; omega
  · refine p7.mono ?_
    rw [List.length_map, fl6', l3]
    omega
  · have t : Ext [p] S (S3 ++ [O.lst (ss.map .int)] ++ [O.lst []]) := ((((x1.mono (by simp)).trans x2).trans x3).trans (x4.mono (by simp))).trans (x5.mono (by simp))
    have u := (t.mono (ex' := [p, (S3 ++ [O.lst (ss.map .int)]).length]) (by simp)).trans x6
    have le := (((x1.mono (ex' := [p]) (by simp)).trans x2).trans x3).le
    exact (u.drop (ex' := [p]) (by
      intro i hi hx
      simp only [List.mem_cons, List.not_mem_nil, or_false] at hi hx
      rcases hi with rfl | rfl
      · exact absurd rfl hx
      · omega)).trans x7
end Pen
end DL
/-! ## DPen7 -/
set_option maxHeartbeats 1000000
/-! Drawn goals. -/
namespace DL
open PySem PySem.Spec L2
namespace Pen
theorem gt_ii (i j : Int) (S : Sto) : gtF (.v (.int i)) (.v (.int j)) S = some (.v (.bl (decide (j < i)))) := rfl
theorem eq_ii (i j : Int) (S : Sto) : eqF (.v (.int i)) (.v (.int j)) S = some (.v (.bl (i == j))) := rfl
theorem and_no {ea eb : Env → Sto → R Bool} {ρ : Env} {S S1 : Sto} (h : ea ρ S = .ok false S1) : tAnd' ea eb ρ S = .ok false S1 := by
  unfold tAnd'; rw [h]; rfl
theorem and_yes {ea eb : Env → Sto → R Bool} {ρ : Env} {S S1 S2 : Sto} {b : Bool} (h : ea ρ S = .ok true S1) (h2 : eb ρ S1 = .ok b S2) : tAnd' ea eb ρ S = .ok b S2 := by
  unfold tAnd'; rw [h]; exact h2
theorem or_yes {ea eb : Env → Sto → R Bool} {ρ : Env} {S S1 : Sto} (h : ea ρ S = .ok true S1) : tOr' ea eb ρ S = .ok true S1 := by
  unfold tOr'; rw [h]; rfl
theorem or_no {ea eb : Env → Sto → R Bool} {ρ : Env} {S S1 S2 : Sto} {b : Bool} (h : ea ρ S = .ok false S1) (h2 : eb ρ S1 = .ok b S2) : tOr' ea eb ρ S = .ok b S2 := by
  unfold tOr'; rw [h]; exact h2
def goT : Env → Sto → R Bool := (tOr' (tAnd' (tOfB (eOp ltF (eVar 2) (eC (.int 3)))) (tOfB (eOp gtF (eCall 2 d_draw (eCons (eVar 0) (eCons (eC (.int 3)) eNil))) (eC (.int 0))))) (tOfB (eOp eqF (eCall 2 d_draw (eCons (eVar 0) (eCons (eVar 3) eNil))) (eC (.int 0)))))
def goB : Env → Sto → RS := (sIf (tOr' (tAnd' (tOfB (eOp ltF (eVar 2) (eC (.int 3)))) (tOfB (eOp gtF (eCall 2 d_draw (eCons (eVar 0) (eCons (eC (.int 3)) eNil))) (eC (.int 0))))) (tOfB (eOp eqF (eCall 2 d_draw (eCons (eVar 0) (eCons (eVar 3) eNil))) (eC (.int 0))))) (sMtL appO (eVar 4) (eCons (eVar 2) eNil)) sNil)
def b_goals : DL.Env → Sto → RS :=
  (sSeq (sPar 3 4 (eSub (eLst (eCons (eC (.int 4)) (eCons (eC (.int 4)) (eCons (eC (.int 8)) (eCons (eC (.int 2)) eNil))))) (eCall 2 d_draw (eCons (eVar 0) (eCons (eC (.int 4)) eNil)))) (eLst eNil))
  (sSeq (sFor (eRng1 (fCons (eC (.int 10)) fNil)) (gNm 2) (sIf (tOr' (tAnd' (tOfB (eOp ltF (eVar 2) (eC (.int 3)))) (tOfB (eOp gtF (eCall 2 d_draw (eCons (eVar 0) (eCons (eC (.int 3)) eNil))) (eC (.int 0))))) (tOfB (eOp eqF (eCall 2 d_draw (eCons (eVar 0) (eCons (eVar 3) eNil))) (eC (.int 0))))) (sMtL appO (eVar 4) (eCons (eVar 2) eNil)) sNil))
  (sRet (eB (f1 tupleF) (fCons (eLc (eSeq (eVar 4)) (gNm 2) tYes' (eTup (eCons (eVar 2) (eCons (eCall 2 d_draw (eCons (eVar 0) (eCons (eVar 1) eNil))) eNil))) [2]) fNil)))))
def d_goals : List D → Sto → R F := runF 3 b_goals
theorem gt_ok {p fl : Nat} {nd : D} {i o : Int} {S : Sto} {n : Int} (h : Pn p S n) (hn : n ≤ 999999000) (o0 : 0 < o) (o1 : o ≤ 8) :
    ∃ b S', goT [some (.loc p), some nd, some (.int i), some (.int o), some (.loc fl)] S = .ok b S' ∧ Pn p S' (n + 2) ∧ Ext [p] S S' := by
  have second : ∀ (S : Sto) (n : Int), Pn p S n → n ≤ 999999100 → ∃ b S', tOfB (eOp eqF (eCall 2 d_draw (eCons (eVar 0) (eCons (eVar 3) eNil))) (eC (.int 0))) [some (.loc p), some nd, some (.int i), some (.int o), some (.loc fl)] S = .ok b S' ∧ Pn p S' (n + 1) ∧ Ext [p] S S' := fun S n h hn => by
    obtain ⟨d, S1, _, _, e, p1, x1, _⟩ := draw2 (m := o) h (by omega) o0 (by omega)
    exact ⟨d == 0, S1, tofb_ok (op_ok (call2_ok (var_ok rfl) (var_ok rfl) e) c_ok (eq_ii _ _ _)), p1, x1⟩
  have t1 : tOfB (eOp ltF (eVar 2) (eC (.int 3))) [some (.loc p), some nd, some (.int i), some (.int o), some (.loc fl)] S = .ok (decide (i < 3)) S := tofb_ok (op_ok (var_ok rfl) c_ok (lt_ii _ _ _))
  by_cases c : i < 3
  · rw [decide_eq_true c] at t1
    obtain ⟨d, S1, _, _, e, p1, x1, _⟩ := draw2 (m := 3) h (by omega) (by decide) (by decide)
    have t2 : tOfB (eOp gtF (eCall 2 d_draw (eCons (eVar 0) (eCons (eC (.int 3)) eNil))) (eC (.int 0))) [some (.loc p), some nd, some (.int i), some (.int o), some (.loc fl)] S = .ok (decide (0 < d)) S1 := tofb_ok (op_ok (call2_ok (var_ok rfl) c_ok e) c_ok (gt_ii _ _ _))
    by_cases c2 : 0 < d
    · rw [decide_eq_true c2] at t2
      exact ⟨true, S1, or_yes (and_yes t1 t2), p1.mono (by omega), x1⟩
    · rw [decide_eq_false c2] at t2
      obtain ⟨b, S2, e2, p2, x2⟩ := second S1 (n + 1) p1 (by omega)
      exact ⟨b, S2, or_no (and_yes t1 t2) e2, p2.mono (by omega), x1.trans x2⟩
  · rw [decide_eq_false c] at t1
    obtain ⟨b, S2, e2, p2, x2⟩ := second S n h (by omega)
    exact ⟨b, S2, or_no (and_no t1) e2, p2.mono (by omega), x2⟩
theorem go_loop {p fl : Nat} {nd : D} {o : Int} {it : DIt} (ok : ∀ S, it.ok S) (pf : p < fl) (o0 : 0 < o) (o1 : o ≤ 8) : ∀ (is vs : List Int) (oi : Option D) (S : Sto) (n : Int), Pn p S n → n + 2 * is.length ≤ 999999000 → S[fl]? = some (.lst (vs.map .int)) → vs.length + is.length ≤ 1000 → (vs ++ is).Pairwise (· < ·) →
    ∃ (ws : List Int) (S' : Sto) (oi' : Option D), forL it (gNm 2) goB (is.map .int) [some (.loc p), some nd, oi, some (.int o), some (.loc fl)] S = .nx [some (.loc p), some nd, oi', some (.int o), some (.loc fl)] S' ∧ S'[fl]? = some (.lst (ws.map .int)) ∧ ws.Pairwise (· < ·) ∧ (∀ w ∈ ws, w ∈ vs ++ is) ∧ ws.length ≤ vs.length + is.length ∧
      Pn p S' (n + 2 * is.length) ∧ Ext [p, fl] S S'
  | [], vs, oi, S, n, h, hn, hf, hl, hp => ⟨vs, S, oi, by simp only [List.map_nil, forL]; rw [if_pos (ok S)], hf, by simpa using hp, by simp, by simp, by simpa using h, .refl⟩
  | i :: is, vs, oi, S, n, h, hn, hf, hl, hp => by
    simp only [List.length_cons] at hn hl
    obtain ⟨b, S1, e1, p1, x1⟩ := gt_ok (nd := nd) (fl := fl) (i := i) h (by omega) o0 o1
    have hf1 := x1.get (by simp; omega) hf
    have e2 : n + 2 + 2 * (is.length : Int) = n + 2 * ((i :: is).length : Int) := by rw [List.length_cons]; omega
    cases b with
    | true =>
      have st : goB [some (.loc p), some nd, some (.int i), some (.int o), some (.loc fl)] S = .nx [some (.loc p), some nd, some (.int i), some (.int o), some (.loc fl)] (S1.set fl (.lst ((vs ++ [i]).map .int))) := by
        refine (if_ok e1).trans ?_
        rw [if_pos rfl]
        refine (mt_ok (var_ok rfl) (isL_loc hf1) (cons_ok (var_ok rfl) nil_ok) (app_loc hf1 (by rw [List.length_map]; omega))).trans ?_
        rw [List.map_append]; rfl
      obtain ⟨ws, S', oi', q1, q2, q3, q4, q5, q6, q7⟩ := go_loop ok pf o0 o1 is (vs ++ [i]) (some (.int i)) (S1.set fl (.lst ((vs ++ [i]).map .int))) (n + 2) (p1.ext (ex := [fl]) (.set (by simp)) (by simpa using pf)) (by omega)
        (List.getElem?_set_self (List.getElem?_eq_some_iff.mp hf1).1) (by simp; omega) (by simpa using hp)
      refine ⟨ws, S', oi', ?_, q2, q3, by simpa using q4, by simp at q5 ⊢; omega, by rw [← e2]; exact q6, ((x1.mono (by simp)).trans (.set (by simp))).trans q7⟩
      rw [List.map_cons, for_nx (ok S) (show gNm 2 (.int i) _ = some _ from rfl) st]; exact q1
    | false =>
      have st : goB [some (.loc p), some nd, some (.int i), some (.int o), some (.loc fl)] S = .nx [some (.loc p), some nd, some (.int i), some (.int o), some (.loc fl)] S1 := if_no e1
      have hp2 : (vs ++ is).Pairwise (· < ·) := by
        refine hp.sublist ?_
        exact List.Sublist.append_left (List.sublist_cons_self i is) vs
      obtain ⟨ws, S', oi', q1, q2, q3, q4, q5, q6, q7⟩ := go_loop ok pf o0 o1 is vs (some (.int i)) S1 (n + 2) p1 (by omega) hf1 (by omega) hp2
      refine ⟨ws, S', oi', ?_, q2, q3, fun w hw => ?_, by simp; omega, by rw [← e2]; exact q6, (x1.mono (by simp)).trans q7⟩
      · rw [List.map_cons, for_nx (ok S) (show gNm 2 (.int i) _ = some _ from rfl) st]; exact q1
      · have := q4 w hw
        simp at this ⊢
        rcases this with h | h
        · exact .inl h
        · exact .inr (.inr h)
theorem gp_loop {p r : Nat} {xs : List D} {nd : Int} {o3 : Option D} {o4 : Option D} (hne : r ≠ p) (n0 : 0 < nd) (n1 : nd ≤ 1000) : ∀ (is : List Int) (S : Sto) (n : Int), Pn p S n → S[r]? = some (.lst xs) → n + is.length ≤ 999999000 →
    ∃ (gs : List (Int × Int)) (S' : Sto), lcL ⟨xs, [(r, .lst xs)]⟩ (gNm 2) tYes' (eTup (eCons (eVar 2) (eCons (eCall 2 d_draw (eCons (eVar 0) (eCons (eVar 1) eNil))) eNil))) [some (.loc p), some (.int nd), none, o3, o4] (is.map .int) S = .ok (gs.map prD) S' ∧ gs.map (·.1) = is ∧ (∀ q ∈ gs, 0 ≤ q.2 ∧ q.2 < nd) ∧ Pn p S' (n + is.length) ∧ Ext [p] S S'
  | [], S, n, h, hr, _ => ⟨[], S, lc_nil (dep1 hr), rfl, by simp, by simpa using h, .refl⟩
  | i :: is, S, n, h, hr, hn => by
    simp only [List.length_cons] at hn
    obtain ⟨d, S1, d0, d1, e, p1, x1, _⟩ := draw2 (m := nd) h (by omega) n0 (by omega)
    obtain ⟨gs, S2, f, g1, g2, g3, g4⟩ := gp_loop (xs := xs) (o3 := o3) (o4 := o4) hne n0 n1 is S1 (n + 1) p1 (x1.get (by simpa using hne) hr) (by omega)
    refine ⟨(i, d) :: gs, S2, ?_, by simp [g1], ?_, ?_, x1.trans g4⟩
    · rw [List.map_cons, List.map_cons]
      exact lc_cons (dep1 hr) (show gNm 2 (.int i) _ = some _ from rfl) (tup_ok (cons_ok (var_ok rfl) (cons_ok (call2_ok (var_ok rfl) (var_ok rfl) e) nil_ok)) (by simp)) f
    · intro q hq
      rcases List.mem_cons.mp hq with rfl | hq
      · exact ⟨d0, d1⟩
      · exact g2 q hq
    · have e2 : n + 1 + (is.length : Int) = n + ((i :: is).length : Int) := by rw [List.length_cons]; omega
      rw [← e2]; exact g3
def GoodG (nd : Int) (gs : List (Int × Int)) : Prop := gs.length ≤ 10 ∧ (gs.map (·.1)).Pairwise (· < ·) ∧ ∀ q ∈ gs, 0 ≤ q.1 ∧ q.1 ≤ 9 ∧ 0 ≤ q.2 ∧ q.2 < nd
theorem goals_ok {p : Nat} {S : Sto} {n nd : Int} (h : Pn p S n) (hn : n ≤ 999000000) (n0 : 0 < nd) (n1 : nd ≤ 1000) :
    ∃ (gs : List (Int × Int)) (S' : Sto), d_goals [.loc p, .int nd] S = .ok (.v (.tup (gs.map prD))) S' ∧ GoodG nd gs ∧ Pn p S' (n + 100) ∧ Ext [p] S S' := by
  obtain ⟨k, S1, k0, k1, e1, p1, x1, _⟩ := draw2 (m := 4) h (by omega) (by decide) (by decide)
  obtain ⟨z, z1, z2⟩ := atI_in (ds := [D.int 4, D.int 4, D.int 8, D.int 2]) k0 (by simpa using k1)
  have zm := List.mem_of_getElem? z1
  have hz : ∃ o : Int, z = .int o ∧ 0 < o ∧ o ≤ 8 := by
    simp only [List.mem_cons, List.not_mem_nil, or_false] at zm
    rcases zm with rfl | rfl | rfl | rfl
    · exact ⟨4, rfl, by decide, by decide⟩
    · exact ⟨4, rfl, by decide, by decide⟩
    · exact ⟨8, rfl, by decide, by decide⟩
    · exact ⟨2, rfl, by decide, by decide⟩
  obtain ⟨o, rfl, o0, o8⟩ := hz
  have x2 : Ext [] S1 (S1 ++ [O.lst []]) := .app
  have p1l := p1.lt
  obtain ⟨ws, S3, oi, q1, q2, q3, q4, q5, q6, q7⟩ := go_loop (p := p) (fl := S1.length) (nd := .int nd) (o := o) (it := ⟨rngD 0 10, []⟩) (fun S => by simp) p1l o0 o8 [0, 1, 2, 3, 4, 5, 6, 7, 8, 9] [] none (S1 ++ [O.lst []]) (n + 1) (p1.ext x2 (by simp)) (by simp; omega) List.getElem?_concat_length (by simp) (by decide)
  simp only [List.length_cons, List.length_nil] at q5 q6
  obtain ⟨gs, S4, f1, f2, f3, f4, f5⟩ := gp_loop (p := p) (r := S1.length) (xs := ws.map .int) (nd := nd) (o3 := some (.int o)) (o4 := some (.loc S1.length)) (by omega) n0 n1 ws S3 (n + 1 + 20) (q6.mono (by omega)) q2 (by omega)
  have gl : gs.length ≤ 10 := by
    have := congrArg List.length f2
    rw [List.length_map] at this
    omega
  refine ⟨gs, S4, ?_, ⟨gl, by rw [f2]; exact q3, fun q hq => ?_⟩, f4.mono (by omega), ?_⟩
  · suffices q : b_goals [some (.loc p), some (.int nd), none, none, none] S = .rt (.v (.tup (gs.map prD))) S4 by
      show (match b_goals [some (.loc p), some (.int nd), none, none, none] S with
        | .rt f S' => R.ok f S'
        | .nx _ S' => R.ok (.v .non) S'
        | .err x _ S' => R.err x S'
        | _ => R.bad) = _
      rw [q]
    unfold b_goals
    refine (seq_nx (par_ok (f := .v (.int o)) (S1 := S1) (f' := .l []) (sub_ok (lst_ok (cons_ok c_ok (cons_ok c_ok (cons_ok c_ok (cons_ok c_ok nil_ok)))) (by simp)) (call2_ok (var_ok rfl) c_ok e1)
      (show ((getTL (.l [D.int 4, D.int 4, D.int 8, D.int 2]) S1).bind fun ds => (atI ds k).map F.v) = _ from by
        show ((atI [D.int 4, D.int 4, D.int 8, D.int 2] k).map F.v) = _
        rw [z2]; rfl)) (show eLst eNil _ _ = .ok (.l []) _ from rfl))).trans ?_
    refine (seq_nx ((for_ok (rng1_ok (k := 10) c_ok (by decide) (by decide))).trans (show forL ⟨rngD 0 10, []⟩ (gNm 2) goB (rngD 0 10) _ _ = _ from q1))).trans ?_
    exact ret_ok (b1_ok (lc_ok (seq_loc (r := S1.length) (var_ok rfl) q2) (by simp; omega) f1) (show tupleF (.l _) _ = some _ from rfl))
  · have hw : q.1 ∈ ws := by rw [← f2]; exact List.mem_map_of_mem hq
    have := q4 _ hw
    simp at this
    exact ⟨by omega, by omega, f3 q hq⟩
  · have u := ((x1.mono (ex' := [p, S1.length]) (by simp)).trans (x2.mono (by simp))).trans q7
    exact (u.drop (ex' := [p]) (by
      intro i hi hx
      simp only [List.mem_cons, List.not_mem_nil, or_false] at hi hx
      rcases hi with rfl | rfl
      · exact absurd rfl hx
      · exact x1.le)).trans f5
end Pen
end DL
/-! ## DPen8 -/
set_option maxHeartbeats 1000000
/-! Drawn nodes. -/
namespace DL
open PySem PySem.Spec L2
namespace Pen
inductive Node where
  | good | misled | read (s : Int) (gs : List (Int × Int)) (e : Int)
def ndD : Node → D
  | .good => .tup [.str "end", .str "good"]
  | .misled => .tup [.str "end", .str "misled"]
  | .read s gs e => .tup [.str "read", .int s, .tup (gs.map prD), .int e]
def GoodN (sg nd : Int) : Node → Prop
  | .read s gs e => 0 ≤ s ∧ s < sg ∧ GoodG nd gs ∧ 0 ≤ e ∧ e < nd
  | _ => True
theorem or_ok {ea eb : Env → Sto → R Bool} {ρ : Env} {S : Sto} {a b : Bool} (h : ea ρ S = .ok a S) (h2 : eb ρ S = .ok b S) : tOr' ea eb ρ S = .ok (a || b) S := by
  cases a with
  | true => exact or_yes h
  | false => exact (or_no h h2)
def ndI : Env → Sto → RS := (sIf (tOr' (tOfB (eOp eqF (eVar 7) (eC (.int 2)))) (tAnd' (tOfB (eOp gtF (eVar 7) (eC (.int 2)))) (tOfB (eOp eqF (eVar 8) (eC (.int 0)))))) (sMtL appO (eVar 4) (eCons (eTup (eCons (eC (.str "end")) (eCons (eC (.str "good")) eNil))) eNil)) (sIf (tOr' (tOfB (eOp eqF (eVar 7) (eC (.int 1)))) (tOfB (eOp eqF (eVar 8) (eC (.int 1))))) (sMtL appO (eVar 4) (eCons (eTup (eCons (eC (.str "end")) (eCons (eC (.str "misled")) eNil))) eNil)) (sMtL appO (eVar 4) (eCons (eTup (eCons (eC (.str "read")) (eCons (eCall 2 d_draw (eCons (eVar 0) (eCons (eVar 1) eNil))) (eCons (eCall 2 d_goals (eCons (eVar 0) (eCons (eVar 3) eNil))) (eCons (eCall 2 d_draw (eCons (eVar 0) (eCons (eVar 3) eNil))) eNil))))) eNil))))
def ndB : Env → Sto → RS := (sSeq (sPar 7 8 (eOp subF (eVar 3) (eVar 5)) (eCall 2 d_draw (eCons (eVar 0) (eCons (eC (.int 9)) eNil))))
  (sIf (tOr' (tOfB (eOp eqF (eVar 7) (eC (.int 2)))) (tAnd' (tOfB (eOp gtF (eVar 7) (eC (.int 2)))) (tOfB (eOp eqF (eVar 8) (eC (.int 0)))))) (sMtL appO (eVar 4) (eCons (eTup (eCons (eC (.str "end")) (eCons (eC (.str "good")) eNil))) eNil)) (sIf (tOr' (tOfB (eOp eqF (eVar 7) (eC (.int 1)))) (tOfB (eOp eqF (eVar 8) (eC (.int 1))))) (sMtL appO (eVar 4) (eCons (eTup (eCons (eC (.str "end")) (eCons (eC (.str "misled")) eNil))) eNil)) (sMtL appO (eVar 4) (eCons (eTup (eCons (eC (.str "read")) (eCons (eCall 2 d_draw (eCons (eVar 0) (eCons (eVar 1) eNil))) (eCons (eCall 2 d_goals (eCons (eVar 0) (eCons (eVar 3) eNil))) (eCons (eCall 2 d_draw (eCons (eVar 0) (eCons (eVar 3) eNil))) eNil))))) eNil)))))
def b_plan : DL.Env → Sto → RS :=
  (sSeq (sAsg (gNm 4) (eLst eNil))
  (sSeq (sFor (eRng1 (fCons (eVar 3) fNil)) (gNm 5) (sSeq (sPar 7 8 (eOp subF (eVar 3) (eVar 5)) (eCall 2 d_draw (eCons (eVar 0) (eCons (eC (.int 9)) eNil))))
  (sIf (tOr' (tOfB (eOp eqF (eVar 7) (eC (.int 2)))) (tAnd' (tOfB (eOp gtF (eVar 7) (eC (.int 2)))) (tOfB (eOp eqF (eVar 8) (eC (.int 0)))))) (sMtL appO (eVar 4) (eCons (eTup (eCons (eC (.str "end")) (eCons (eC (.str "good")) eNil))) eNil)) (sIf (tOr' (tOfB (eOp eqF (eVar 7) (eC (.int 1)))) (tOfB (eOp eqF (eVar 8) (eC (.int 1))))) (sMtL appO (eVar 4) (eCons (eTup (eCons (eC (.str "end")) (eCons (eC (.str "misled")) eNil))) eNil)) (sMtL appO (eVar 4) (eCons (eTup (eCons (eC (.str "read")) (eCons (eCall 2 d_draw (eCons (eVar 0) (eCons (eVar 1) eNil))) (eCons (eCall 2 d_goals (eCons (eVar 0) (eCons (eVar 3) eNil))) (eCons (eCall 2 d_draw (eCons (eVar 0) (eCons (eVar 3) eNil))) eNil))))) eNil))))))
  (sSeq (sAsg (gNm 6) (eOp addF (eLst (eCons (eC (.int 0)) eNil)) (eLc (eRng2 (fCons (eC (.int 1)) (fCons (eVar 3) fNil))) (gNm 5) (tOfB (eOp eqF (eCall 2 d_draw (eCons (eVar 0) (eCons (eC (.int 6)) eNil))) (eC (.int 0)))) (eVar 5) [5])))
  (sSeq (sAsg (gNm 6) (eIf (tAnd' (tOfB (eOp gtF (eB (f1 lenF) (fCons (eVar 6) fNil)) (eC (.int 1)))) (tOfB (eOp eqF (eCall 2 d_draw (eCons (eVar 0) (eCons (eC (.int 3)) eNil))) (eC (.int 0))))) (eSl (eVar 6) (ePart (eC (.int 1))) eNoPart) (eVar 6)))
  (sRet (eTup (eCons (eCall 3 d_signs (eCons (eVar 0) (eCons (eVar 1) (eCons (eVar 2) eNil)))) (eCons (eB (f1 tupleF) (fCons (eVar 6) fNil)) (eCons (eB (f1 tupleF) (fCons (eVar 4) fNil)) eNil)))))))))
def d_plan : List D → Sto → R F := runF 5 b_plan
theorem nd_step {p fl : Nat} {sg C nd i : Int} {ns : List Node} {o6 o7 o8 : Option D} {S : Sto} {n : Int} (h : Pn p S n) (hn : n ≤ 998000000) (g0 : 0 < sg) (g1 : sg ≤ 1000) (n0 : 0 < nd) (n1 : nd ≤ 1000) (pf : p < fl) (hF : S[fl]? = some (.lst (ns.map ndD))) (hl : ns.length ≤ 1000) :
    ∃ x S' f7 f8, ndB [some (.loc p), some (.int sg), some (.int C), some (.int nd), some (.loc fl), some (.int i), o6, o7, o8] S = .nx [some (.loc p), some (.int sg), some (.int C), some (.int nd), some (.loc fl), some (.int i), o6, f7, f8] S' ∧
      S'[fl]? = some (.lst ((ns ++ [x]).map ndD)) ∧ GoodN sg nd x ∧ Pn p S' (n + 200) ∧ Ext [p, fl] S S' := by
  obtain ⟨k, S1, k0, k1, e1, p1, x1, _⟩ := draw2 (m := 9) h (by omega) (by decide) (by decide)
  have hF1 := x1.get (by simp; omega) hF
  have fin : ∀ (x : Node) (S2 : Sto) (m : Int), S2[fl]? = some (.lst (ns.map ndD)) → Pn p S2 m → m ≤ n + 200 → Ext [p] S1 S2 → GoodN sg nd x →
      ndI [some (.loc p), some (.int sg), some (.int C), some (.int nd), some (.loc fl), some (.int i), o6, some (.int (nd - i)), some (.int k)] S1 = .nx [some (.loc p), some (.int sg), some (.int C), some (.int nd), some (.loc fl), some (.int i), o6, some (.int (nd - i)), some (.int k)] (S2.set fl (.lst (ns.map ndD ++ [ndD x]))) →
      ∃ x S' f7 f8, ndB [some (.loc p), some (.int sg), some (.int C), some (.int nd), some (.loc fl), some (.int i), o6, o7, o8] S = .nx [some (.loc p), some (.int sg), some (.int C), some (.int nd), some (.loc fl), some (.int i), o6, f7, f8] S' ∧
        S'[fl]? = some (.lst ((ns ++ [x]).map ndD)) ∧ GoodN sg nd x ∧ Pn p S' (n + 200) ∧ Ext [p, fl] S S' := fun x S2 m h2 p2 le x2 g e => by
    refine ⟨x, _, _, _, (seq_nx (parv (op_ok (var_ok rfl) (var_ok rfl) (sub_ii _ _ _)) (call2_ok (var_ok rfl) c_ok e1))).trans e, ?_, g, (p2.mono le).ext (ex := [fl]) (.set (by simp)) (by simpa using pf), ((x1.mono (by simp)).trans (x2.mono (by simp))).trans (.set (by simp))⟩
    rw [List.getElem?_set_self (List.getElem?_eq_some_iff.mp h2).1, List.map_append]; rfl
  let ρ : Env := [some (.loc p), some (.int sg), some (.int C), some (.int nd), some (.loc fl), some (.int i), o6, some (.int (nd - i)), some (.int k)]
  have t1 : tOr' (tOfB (eOp eqF (eVar 7) (eC (.int 2)))) (tAnd' (tOfB (eOp gtF (eVar 7) (eC (.int 2)))) (tOfB (eOp eqF (eVar 8) (eC (.int 0))))) ρ S1 = .ok ((nd - i == 2) || (decide (2 < nd - i) && (k == 0))) S1 :=
    or_ok (tofb_ok (op_ok (var_ok rfl) c_ok (eq_ii _ _ _))) (and_ok (tofb_ok (op_ok (var_ok rfl) c_ok (gt_ii _ _ _))) (tofb_ok (op_ok (var_ok rfl) c_ok (eq_ii _ _ _))))
  have t2 : tOr' (tOfB (eOp eqF (eVar 7) (eC (.int 1)))) (tOfB (eOp eqF (eVar 8) (eC (.int 1)))) ρ S1 = .ok ((nd - i == 1) || (k == 1)) S1 :=
    or_ok (tofb_ok (op_ok (var_ok rfl) c_ok (eq_ii _ _ _))) (tofb_ok (op_ok (var_ok rfl) c_ok (eq_ii _ _ _)))
  have ln : (ns.map ndD).length ≤ 1000000 := by rw [List.length_map]; omega
  cases b1 : ((nd - i == 2) || (decide (2 < nd - i) && (k == 0))) with
  | true =>
    rw [b1] at t1
    refine fin .good S1 (n + 1) hF1 p1 (by omega) .refl trivial ?_
    refine (if_ok t1).trans ?_
    rw [if_pos rfl]
    exact mt_ok (var_ok rfl) (isL_loc hF1) (cons_ok (tup_ok (cons_ok c_ok (cons_ok c_ok nil_ok)) (by simp)) nil_ok) (app_loc hF1 ln)
  | false =>
    rw [b1] at t1
    cases b2 : ((nd - i == 1) || (k == 1)) with
    | true =>
      rw [b2] at t2
      refine fin .misled S1 (n + 1) hF1 p1 (by omega) .refl trivial ?_
      refine (if_ok t1).trans ?_
      rw [if_neg (by decide)]
      refine (if_ok t2).trans ?_
      rw [if_pos rfl]
      exact mt_ok (var_ok rfl) (isL_loc hF1) (cons_ok (tup_ok (cons_ok c_ok (cons_ok c_ok nil_ok)) (by simp)) nil_ok) (app_loc hF1 ln)
    | false =>
      rw [b2] at t2
      obtain ⟨s, S2, s0, s1, e2, p2, x2, _⟩ := draw2 (m := sg) p1 (by omega) g0 (by omega)
      obtain ⟨gs, S3, e3, gg, p3, x3⟩ := goals_ok (nd := nd) p2 (by omega) n0 n1
      obtain ⟨e, S4, z0, z1, e4, p4, x4, _⟩ := draw2 (m := nd) p3 (by omega) n0 (by omega)
      have hF4 := (x2.trans (x3.trans x4)).get (by simp; omega) hF1
      refine fin (.read s gs e) S4 (n + 1 + 1 + 100 + 1) hF4 p4 (by omega) (x2.trans (x3.trans x4)) ⟨s0, s1, gg, z0, z1⟩ ?_
      refine (if_ok t1).trans ?_
      rw [if_neg (by decide)]
      refine (if_ok t2).trans ?_
      rw [if_neg (by decide)]
      exact mt_ok (var_ok rfl) (isL_loc hF1) (cons_ok (tup_ok (cons_ok c_ok (cons_ok (call2_ok (var_ok rfl) (var_ok rfl) e2) (cons_ok (call2_ok (var_ok rfl) (var_ok rfl) e3) (cons_ok (call2_ok (var_ok rfl) (var_ok rfl) e4) nil_ok)))) (by simp)) nil_ok) (app_loc hF4 ln)
theorem nd_loop {p fl : Nat} {sg C nd : Int} {o6 : Option D} {it : DIt} (ok : ∀ S, it.ok S) (g0 : 0 < sg) (g1 : sg ≤ 1000) (n0 : 0 < nd) (n1 : nd ≤ 1000) (pf : p < fl) : ∀ (is : List Int) (ns : List Node) (o5 o7 o8 : Option D) (S : Sto) (n : Int), Pn p S n → n + 200 * is.length ≤ 998000000 →
    S[fl]? = some (.lst (ns.map ndD)) → ns.length + is.length ≤ 1000 → (∀ x ∈ ns, GoodN sg nd x) →
    ∃ (ms : List Node) (S' : Sto) (f5 f7 f8 : Option D), forL it (gNm 5) ndB (is.map .int) [some (.loc p), some (.int sg), some (.int C), some (.int nd), some (.loc fl), o5, o6, o7, o8] S = .nx [some (.loc p), some (.int sg), some (.int C), some (.int nd), some (.loc fl), f5, o6, f7, f8] S' ∧
      S'[fl]? = some (.lst (ms.map ndD)) ∧ ms.length = ns.length + is.length ∧ (∀ x ∈ ms, GoodN sg nd x) ∧ Pn p S' (n + 200 * is.length) ∧ Ext [p, fl] S S'
  | [], ns, o5, o7, o8, S, n, h, hn, hF, hl, hg => ⟨ns, S, o5, o7, o8, by simp only [List.map_nil, forL]; rw [if_pos (ok S)], hF, by simp, hg, by simpa using h, .refl⟩
  | i :: is, ns, o5, o7, o8, S, n, h, hn, hF, hl, hg => by
    simp only [List.length_cons] at hn hl
    obtain ⟨x, S1, f7, f8, e, hF1, gx, p1, x1⟩ := nd_step (C := C) (i := i) (o6 := o6) (o7 := o7) (o8 := o8) h (by omega) g0 g1 n0 n1 pf hF (by omega)
    obtain ⟨ms, S', r5, r7, r8, q1, q2, q3, q4, q5, q6⟩ := nd_loop ok g0 g1 n0 n1 pf is (ns ++ [x]) (some (.int i)) f7 f8 S1 (n + 200) p1 (by omega) hF1 (by simp; omega) (fun z hz => by
      rcases List.mem_append.mp hz with hz | hz
      · exact hg z hz
      · simp at hz; subst hz; exact gx)
    refine ⟨ms, S', r5, r7, r8, ?_, q2, by rw [q3]; simp; omega, q4, ?_, x1.trans q6⟩
    · rw [List.map_cons, for_nx (ok S) (show gNm 5 (.int i) _ = some _ from rfl) e]; exact q1
    · have e2 : n + 200 + 200 * (is.length : Int) = n + 200 * ((i :: is).length : Int) := by rw [List.length_cons]; omega
      rw [← e2]; exact q5
end Pen
end DL
/-! ## DPen9 -/
set_option maxHeartbeats 1000000
/-! Drawn plans. -/
namespace DL
open PySem PySem.Spec L2
namespace Pen
structure Plan where
  rs : List Row
  st : List Int
  ns : List Node
def plD (q : Plan) : D := .tup [.tup (q.rs.map rowD), .tup (q.st.map .int), .tup (q.ns.map ndD)]
structure GoodP (sg C nd : Int) (q : Plan) : Prop where
  rl : q.rs.length = sg.toNat
  rg : ∀ r ∈ q.rs, GoodR r
  nd' : (nmsOf q.rs).Nodup
  nb : ∀ x ∈ nmsOf q.rs, 0 ≤ x ∧ x ≤ 9
  nl : (nmsOf q.rs).length ≤ C.toNat
  s1 : q.st ≠ []
  sp : q.st.Pairwise (· < ·)
  sb : ∀ x ∈ q.st, 0 ≤ x ∧ x < nd
  nn : q.ns.length = nd.toNat
  ng : ∀ x ∈ q.ns, GoodN sg nd x
theorem lc_if {it : DIt} {g : D → Env → Option Env} {et : Env → Sto → R Bool} {ee : Env → Sto → R F} {ρ ρ1 : Env} {S S1 S2 S3 : Sto} {d y : D} {ds ys : List D} {b : Bool} (ok : it.ok S) (hg : g d ρ = some ρ1) (ht : et ρ1 S = .ok b S1) (h : ee ρ1 S1 = .ok (.v y) S2) (h2 : lcL it g et ee ρ ds (if b then S2 else S1) = .ok ys S3) :
    lcL it g et ee ρ (d :: ds) S = .ok (if b then y :: ys else ys) S3 := by
  simp only [lcL]; rw [if_pos ok, hg]
  simp only [okOr]
  rw [ht]
  cases b with
  | true =>
    simp only [if_true, eBox] at h2 ⊢
    rw [h]; simp only [R.bind_ok, box_v']
    rw [h2]
  | false =>
    simp only [Bool.false_eq_true, if_false] at h2 ⊢
    exact h2
theorem st_loop {p : Nat} {a1 a2 a3 a4 a6 a7 a8 : Option D} {it : DIt} (ok : ∀ S, it.ok S) : ∀ (is : List Int) (S : Sto) (n : Int), Pn p S n → n + is.length ≤ 999999000 →
    ∃ (ws : List Int) (S' : Sto), lcL it (gNm 5) (tOfB (eOp eqF (eCall 2 d_draw (eCons (eVar 0) (eCons (eC (.int 6)) eNil))) (eC (.int 0)))) (eVar 5) [some (.loc p), a1, a2, a3, a4, none, a6, a7, a8] (is.map .int) S = .ok (ws.map .int) S' ∧ ws.Sublist is ∧ Pn p S' (n + is.length) ∧ Ext [p] S S'
  | [], S, n, h, _ => ⟨[], S, lc_nil (ok S), .refl _, by simpa using h, .refl⟩
  | i :: is, S, n, h, hn => by
    simp only [List.length_cons] at hn
    obtain ⟨d, S1, d0, d1, e, p1, x1, _⟩ := draw2 (m := 6) h (by omega) (by decide) (by decide)
    obtain ⟨ws, S2, f, g1, g2, g3⟩ := st_loop (a1 := a1) (a2 := a2) (a3 := a3) (a4 := a4) (a6 := a6) (a7 := a7) (a8 := a8) ok is S1 (n + 1) p1 (by omega)
    have e2 : n + 1 + (is.length : Int) = n + ((i :: is).length : Int) := by rw [List.length_cons]; omega
    have key := lc_if (et := tOfB (eOp eqF (eCall 2 d_draw (eCons (eVar 0) (eCons (eC (.int 6)) eNil))) (eC (.int 0)))) (ee := eVar 5) (ρ := [some (.loc p), a1, a2, a3, a4, none, a6, a7, a8]) (d := .int i) (ds := is.map .int) (b := d == 0) (S2 := S1) (ys := ws.map .int) (S3 := S2) (ok S) (show gNm 5 (.int i) _ = some _ from rfl)
      (tofb_ok (op_ok (call2_ok (var_ok rfl) c_ok e) c_ok (eq_ii _ _ _))) (var_ok rfl) (by rw [ite_self]; exact f)
    cases hb : (d == 0) with
    | true =>
      rw [hb, if_pos rfl] at key
      exact ⟨i :: ws, S2, key, g1.cons_cons i, by rw [← e2]; exact g2, x1.trans g3⟩
    | false =>
      rw [hb, if_neg (by decide)] at key
      exact ⟨ws, S2, key, g1.cons i, by rw [← e2]; exact g2, x1.trans g3⟩
theorem eif_ok {et : Env → Sto → R Bool} {ea eb : Env → Sto → R F} {ρ : Env} {S S1 : Sto} {b : Bool} (h : et ρ S = .ok b S1) : eIf et ea eb ρ S = if b then ea ρ S1 else eb ρ S1 := by
  unfold eIf; rw [h]; rfl
theorem cut_tail (x : D) (xs : List D) : cutD (x :: xs) (some 1) none = xs := by
  unfold cutD
  have e1 : HT.sIx (x :: xs).length 0 (some 1) = 1 := by
    unfold HT.sIx; simp only [List.length_cons]; split <;> omega
  rw [e1]
  show ((x :: xs).drop 1).take ((x :: xs).length - 1) = xs
  simp
theorem rng2_ok {ea eb : Env → Sto → R F} {ρ : Env} {S S1 S2 : Sto} {a b : Int} (h : ea ρ S = .ok (.v (.int a)) S1) (h2 : eb ρ S1 = .ok (.v (.int b)) S2) (a0 : 0 ≤ a) (a1 : a ≤ 1000000) (b0 : 0 ≤ b) (b1 : b ≤ 1000000) : eRng2 (fCons ea (fCons eb fNil)) ρ S = .ok ⟨rngD a (b - a).toNat, []⟩ S2 := by
  unfold eRng2 fCons fNil; rw [h]; simp only [R.bind_ok]; rw [h2]; simp only [R.bind_ok]
  show (if (a ≤ 1000000000 ∧ -1000000000 ≤ a) ∧ b ≤ 1000000000 ∧ -1000000000 ≤ b then R.ok (⟨rngD a (b - a).toNat, []⟩ : DIt) S2 else .bad) = _
  rw [if_pos (And.intro (And.intro (by omega) (by omega)) (And.intro (by omega) (by omega)))]
theorem call3_ok {df : List D → Sto → R F} {ee eg eh : Env → Sto → R F} {ρ : Env} {S S1 S2 S3 S4 : Sto} {d d2 d3 : D} {f : F} (h : ee ρ S = .ok (.v d) S1) (h2 : eg ρ S1 = .ok (.v d2) S2) (h3 : eh ρ S2 = .ok (.v d3) S3) (hd : df [d, d2, d3] S3 = .ok f S4) : eCall 3 df (eCons ee (eCons eg (eCons eh eNil))) ρ S = .ok f S4 := by
  unfold eCall eCons eNil eBox; rw [h]; simp only [R.bind_ok, box_v']; rw [h2]; simp only [R.bind_ok, box_v']; rw [h3]; simp only [R.bind_ok, box_v', List.length_cons, List.length_nil]
  rw [if_pos trivial]; exact hd
def rngI (a : Int) (n : Nat) : List Int := (List.range n).map fun (i : Nat) => a + (i : Int)
theorem rngD_I (a : Int) (n : Nat) : rngD a n = (rngI a n).map .int := by unfold rngD rngI; rw [List.map_map]; rfl
theorem rngI_mem {a x : Int} {n : Nat} (h : x ∈ rngI a n) : a ≤ x ∧ x < a + n := by
  unfold rngI at h
  obtain ⟨i, hi, rfl⟩ := List.mem_map.mp h
  have := List.mem_range.mp hi
  omega
theorem rngI_pw (a : Int) (n : Nat) : (rngI a n).Pairwise (· < ·) := by
  unfold rngI
  rw [List.pairwise_map]
  exact List.pairwise_lt_range.imp fun h => by omega
theorem rngI_len (a : Int) (n : Nat) : (rngI a n).length = n := by unfold rngI; simp
end Pen
end DL
/-! ## DPlan -/
set_option maxHeartbeats 1000000
/-! Drawn plans. -/
namespace DL
open PySem PySem.Spec L2
namespace Pen
def cutE : Env → Sto → R F := (eIf (tAnd' (tOfB (eOp gtF (eB (f1 lenF) (fCons (eVar 6) fNil)) (eC (.int 1)))) (tOfB (eOp eqF (eCall 2 d_draw (eCons (eVar 0) (eCons (eC (.int 3)) eNil))) (eC (.int 0))))) (eSl (eVar 6) (ePart (eC (.int 1))) eNoPart) (eVar 6))
/-- the starts: the first one left out now and then -/
theorem cut_step {p s1 : Nat} {a1 a2 a3 a4 a5 a7 a8 : Option D} {x : Int} {xs : List Int} {S : Sto} {n : Int} (h : Pn p S n) (hn : n ≤ 999000000) (hs : S[s1]? = some (.lst ((x :: xs).map .int))) (hne : s1 ≠ p) :
    ∃ (st : List Int) (s2 : Nat) (S' : Sto), sAsg (gNm 6) cutE [some (.loc p), a1, a2, a3, a4, a5, some (.loc s1), a7, a8] S = .nx [some (.loc p), a1, a2, a3, a4, a5, some (.loc s2), a7, a8] S' ∧ S'[s2]? = some (.lst (st.map .int)) ∧ st ≠ [] ∧ st.Sublist (x :: xs) ∧ Pn p S' (n + 1) ∧ Ext [p] S S' ∧ s2 ≠ p := by
  have hl : eB (f1 lenF) (fCons (eVar 6) fNil) [some (.loc p), a1, a2, a3, a4, a5, some (.loc s1), a7, a8] S = .ok (.v (.int ((x :: xs).length))) S := b1_ok (var_ok rfl) (by rw [len_loc hs, List.length_map])
  have t1 : tOfB (eOp gtF (eB (f1 lenF) (fCons (eVar 6) fNil)) (eC (.int 1))) [some (.loc p), a1, a2, a3, a4, a5, some (.loc s1), a7, a8] S = .ok (decide (1 < ((x :: xs).length : Int))) S := tofb_ok (op_ok hl c_ok (gt_ii _ _ _))
  cases xs with
  | nil =>
    have c : ¬ (1 < (([x] : List Int).length : Int)) := by simp
    rw [decide_eq_false c] at t1
    refine ⟨[x], s1, S, ?_, hs, by simp, .refl _, h.mono (by omega), .refl, hne⟩
    exact asgv ((eif_ok (and_no t1)).trans ((if_neg (by decide)).trans (var_ok rfl)))
  | cons y ys =>
    have c : 1 < ((x :: y :: ys).length : Int) := by simp; omega
    rw [decide_eq_true c] at t1
    obtain ⟨d, S1, d0, d1, e, p1, x1, _⟩ := draw2 (m := 3) h (by omega) (by decide) (by decide)
    have hs1 := x1.get (by simpa using hne) hs
    have t2 : tOfB (eOp eqF (eCall 2 d_draw (eCons (eVar 0) (eCons (eC (.int 3)) eNil))) (eC (.int 0))) [some (.loc p), a1, a2, a3, a4, a5, some (.loc s1), a7, a8] S = .ok (d == 0) S1 := tofb_ok (op_ok (call2_ok (var_ok rfl) c_ok e) c_ok (eq_ii _ _ _))
    cases hb : (d == 0) with
    | true =>
      rw [hb] at t2
      have p1l := p1.lt
      refine ⟨y :: ys, S1.length, S1 ++ [.lst ((y :: ys).map .int)], ?_, List.getElem?_concat_length, by simp, List.sublist_cons_self x _, p1.ext (ex := []) .app (by simp), x1.trans .app, by omega⟩
      refine asg_ok (f := .l ((y :: ys).map .int)) (S1 := S1) ((eif_ok (and_yes t1 t2)).trans ((if_pos rfl).trans ?_))
      rw [sl_loc (lo := some 1) (hi := none) (var_ok rfl) (part_ok c_ok) rfl hs1]
      congr 2
      exact cut_tail _ _
    | false =>
      rw [hb] at t2
      refine ⟨x :: y :: ys, s1, S1, ?_, hs1, by simp, .refl _, p1, x1, hne⟩
      exact asgv ((eif_ok (and_yes t1 t2)).trans ((if_neg (by decide)).trans (var_ok rfl)))
theorem plan_ok {p : Nat} {S : Sto} {n sg C nd : Int} (h : Pn p S n) (hn : n ≤ 990000000) (g0 : 0 < sg) (g1 : sg ≤ 100) (C0 : 0 ≤ C) (C1 : C ≤ 10) (n0 : 0 < nd) (n1 : nd ≤ 1000) :
    ∃ (q : Plan) (S' : Sto), d_plan [.loc p, .int sg, .int C, .int nd] S = .ok (.v (plD q)) S' ∧ GoodP sg C nd q ∧ Pn p S' (n + 300000) ∧ Ext [p] S S' := by
  have pl := h.lt
  have x1 : Ext [] S (S ++ [O.lst []]) := .app
  obtain ⟨ms, S2, f5, f7, f8, e2, hF2, ml, mg, p2, x2⟩ := nd_loop (p := p) (fl := S.length) (sg := sg) (C := C) (nd := nd) (o6 := none) (it := ⟨rngD 0 nd.toNat, []⟩) (fun S => by simp) g0 (by omega) n0 n1 pl (rngI 0 nd.toNat) [] none none none (S ++ [O.lst []]) n (h.ext x1 (by simp)) (by rw [rngI_len]; omega) List.getElem?_concat_length (by rw [rngI_len]; simp; omega) (by simp)
  rw [rngI_len] at ml p2
  rw [← rngD_I] at e2
  obtain ⟨ws, S3, e3, sub, p3, x3⟩ := st_loop (p := p) (a1 := some (.int sg)) (a2 := some (.int C)) (a3 := some (.int nd)) (a4 := some (.loc S.length)) (a6 := none) (a7 := f7) (a8 := f8) (it := ⟨rngD 1 (nd - 1).toNat, []⟩) (fun S => by simp) (rngI 1 (nd - 1).toNat) S2 (n + 200 * (nd.toNat : Int)) (p2.mono (by omega)) (by rw [rngI_len]; omega)
  rw [← rngD_I] at e3
  rw [rngI_len] at p3
  have wl : ws.length ≤ (nd - 1).toNat := by have := sub.length_le; rwa [rngI_len] at this
  have x4 : Ext [] S3 (S3 ++ [O.lst (((0 : Int) :: ws).map .int)]) := .app
  have p3l := p3.lt
  obtain ⟨st, s2, S5, e5, hs5, st1, sub5, p5, x5, s2p⟩ := cut_step (p := p) (s1 := S3.length) (a1 := some (.int sg)) (a2 := some (.int C)) (a3 := some (.int nd)) (a4 := some (.loc S.length)) (a5 := f5) (a7 := f7) (a8 := f8) (x := 0) (xs := ws) (p3.ext x4 (by simp)) (by omega) List.getElem?_concat_length (by omega)
  obtain ⟨rs, S6, e6, r1, r2, r3, r4, r5, p6, x6⟩ := signs_ok (sg := sg) (C := C) p5 (by omega) (by omega) g1 C0 C1
  have hs6 := x6.get (by simpa using s2p) hs5
  have hF6 : S6[S.length]? = some (.lst (ms.map ndD)) := x6.get (by simp; omega) (x5.get (by simp; omega) (x4.get (by simp) (x3.get (by simp; omega) hF2)))
  have asc : ((0 : Int) :: ws).Pairwise (· < ·) := List.pairwise_cons.mpr ⟨fun w hw => by have := rngI_mem (sub.subset hw); omega, (rngI_pw 1 _).sublist sub⟩
  have bnd : ∀ x ∈ ((0 : Int) :: ws), 0 ≤ x ∧ x < nd := fun x hx => by
    rcases List.mem_cons.mp hx with rfl | hx
    · omega
    · have := rngI_mem (sub.subset hx); omega
  refine ⟨⟨rs, st, ms⟩, S6, ?_, ⟨r1, r2, r3, r4, r5, st1, asc.sublist sub5, fun x hx => bnd x (sub5.subset hx), by rw [ml]; simp, mg⟩, p6.mono (by omega), ?_⟩
  · suffices q : b_plan [some (.loc p), some (.int sg), some (.int C), some (.int nd), none, none, none, none, none] S = .rt (.v (plD ⟨rs, st, ms⟩)) S6 by
      show (match b_plan [some (.loc p), some (.int sg), some (.int C), some (.int nd), none, none, none, none, none] S with
        | .rt f S' => R.ok f S'
        | .nx _ S' => R.ok (.v .non) S'
        | .err x _ S' => R.err x S'
        | _ => R.bad) = _
      rw [q]
    unfold b_plan
    refine (seq_nx (asg_ok (show eLst eNil _ _ = .ok (.l []) S from rfl))).trans ?_
    refine (seq_nx ((for_ok (rng1_ok (k := nd) (var_ok rfl) (by omega) (by omega))).trans e2)).trans ?_
    refine (seq_nx (asg_ok (f := .l (((0 : Int) :: ws).map .int)) (S1 := S3) (op_ok (lst_ok (cons_ok c_ok nil_ok) (by simp)) (lc_ok (rng2_ok (a := 1) (b := nd) c_ok (var_ok rfl) (by decide) (by decide) (by omega) (by omega)) (by show (rngD 1 (nd - 1).toNat).length ≤ _; rw [rngD_len]; omega) e3)
      (by
        show (if ([D.int 0] : List D).length + (ws.map D.int).length ≤ 1000000 then some (F.l ([D.int 0] ++ ws.map D.int)) else none) = _
        rw [if_pos (by rw [List.length_map, List.length_singleton]; omega)]; rfl)))).trans ?_
    refine (seq_nx e5).trans ?_
    exact ret_ok (tup_ok (cons_ok (call3_ok (var_ok rfl) (var_ok rfl) (var_ok rfl) e6) (cons_ok (b1_ok (var_ok rfl) (by
      show (getL (.v (.loc s2)) S6).map (fun ds => F.v (.tup ds)) = _
      rw [getL_loc hs6]; rfl)) (cons_ok (b1_ok (var_ok rfl) (by
      show (getL (.v (.loc S.length)) S6).map (fun ds => F.v (.tup ds)) = _
      rw [getL_loc hF6]; rfl)) nil_ok))) (by simp))
  · have u := (x1.mono (ex' := [p, S.length]) (by simp)).trans x2
    exact ((((u.drop (ex' := [p]) (by
      intro i hi hx
      simp only [List.mem_cons, List.not_mem_nil, or_false] at hi hx
      rcases hi with rfl | rfl
      · exact absurd rfl hx
      · exact Nat.le_refl _)).trans x3).trans (x4.mono (by simp))).trans x5).trans x6
end Pen
end DL
/-! ## DPlan2 -/
set_option maxHeartbeats 1000000
/-! Drawn plans of any sizes, the pen itself. -/
namespace DL
open PySem PySem.Spec L2
namespace Pen
def b_some_plan : DL.Env → Sto → RS :=
  (sSeq (sAsg (gNm 2) (eOp addF (eC (.int 1)) (eCall 2 d_draw (eCons (eVar 0) (eCons (eC (.int 4)) eNil)))))
  (sRet (eCall 4 d_plan (eCons (eVar 0) (eCons (eVar 2) (eCons (eVar 1) (eCons (eOp addF (eC (.int 2)) (eCall 2 d_draw (eCons (eVar 0) (eCons (eC (.int 6)) eNil)))) eNil)))))))
def d_some_plan : List D → Sto → R F := runF 1 b_some_plan
theorem call4_ok {df : List D → Sto → R F} {ee eg eh ek : Env → Sto → R F} {ρ : Env} {S S1 S2 S3 S4 S5 : Sto} {d d2 d3 d4 : D} {f : F} (h : ee ρ S = .ok (.v d) S1) (h2 : eg ρ S1 = .ok (.v d2) S2) (h3 : eh ρ S2 = .ok (.v d3) S3) (h4 : ek ρ S3 = .ok (.v d4) S4) (hd : df [d, d2, d3, d4] S4 = .ok f S5) :
    eCall 4 df (eCons ee (eCons eg (eCons eh (eCons ek eNil)))) ρ S = .ok f S5 := by
  unfold eCall
  rw [cons_ok h (cons_ok h2 (cons_ok h3 (cons_ok h4 nil_ok)))]
  exact hd
theorem some_plan_ok {p : Nat} {S : Sto} {n C : Int} (h : Pn p S n) (hn : n ≤ 980000000) (C0 : 0 ≤ C) (C1 : C ≤ 10) :
    ∃ (q : Plan) (sg nd : Int) (S' : Sto), d_some_plan [.loc p, .int C] S = .ok (.v (plD q)) S' ∧ 1 ≤ sg ∧ sg ≤ 4 ∧ 2 ≤ nd ∧ nd ≤ 7 ∧ GoodP sg C nd q ∧ Pn p S' (n + 400000) ∧ Ext [p] S S' := by
  obtain ⟨a, S1, a0, a1, e1, p1, x1, _⟩ := draw2 (m := 4) h (by omega) (by decide) (by decide)
  obtain ⟨b, S2, b0, b1, e2, p2, x2, _⟩ := draw2 (m := 6) p1 (by omega) (by decide) (by decide)
  obtain ⟨q, S3, e3, g, p3, x3⟩ := plan_ok (sg := 1 + a) (C := C) (nd := 2 + b) p2 (by omega) (by omega) (by omega) C0 C1 (by omega) (by omega)
  refine ⟨q, 1 + a, 2 + b, S3, ?_, by omega, by omega, by omega, by omega, g, p3.mono (by omega), (x1.trans x2).trans x3⟩
  suffices w : b_some_plan [some (.loc p), some (.int C), none] S = .rt (.v (plD q)) S3 by
    show (match b_some_plan [some (.loc p), some (.int C), none] S with
      | .rt f S' => R.ok f S'
      | .nx _ S' => R.ok (.v .non) S'
      | .err x _ S' => R.err x S'
      | _ => R.bad) = _
    rw [w]
  unfold b_some_plan
  refine (seq_nx (asgv (op_ok c_ok (call2_ok (var_ok rfl) c_ok e1) (add_ii _ _ _)))).trans ?_
  exact ret_ok (call4_ok (var_ok rfl) (var_ok rfl) (var_ok rfl) (op_ok c_ok (call2_ok (var_ok rfl) c_ok e2) (add_ii _ _ _)) e3)
theorem bits_lg {z : Int} (h : Builtin.Int.intBits z ≤ 1048576) : z.natAbs.log2 ≤ 2000000 := by
  unfold Builtin.Int.intBits at h
  split at h
  · rename_i c
    have : z = 0 := by simpa using c
    subst this; decide
  · omega
/-- a new pen, held in a variable -/
theorem pen_ok {ns : List Int} {S : Sto} (hl : ns.length ≤ 63) (hb : ∀ z ∈ ns, Builtin.Int.intBits z ≤ 1048576) : ∃ ds S', d_pen [.kl (ns.map .int)] S = .ok (.l ds) S' ∧ Pn S'.length (S' ++ [.lst ds]) 0 ∧ Ext [] S S' := by
  refine ⟨[.loc S.length, .int 0, .int 0], S ++ [.lst (ns.map .int)], ?_, ⟨S.length, ns, 0, 0, ⟨List.getElem?_concat_length, ?_, ?_, by decide, by decide⟩, fun z hz => bits_lg (hb z hz), by decide, by simp⟩, .app⟩
  · suffices w : b_pen [some (.kl (ns.map .int))] S = .rt (.l [.loc S.length, .int 0, .int 0]) (S ++ [.lst (ns.map .int)]) by
      show (match b_pen [some (.kl (ns.map .int))] S with
        | .rt f S' => R.ok f S'
        | .nx _ S' => R.ok (.v .non) S'
        | .err x _ S' => R.err x S'
        | _ => R.bad) = _
      rw [w]
    unfold b_pen
    have sl : eSl (eVar 0) eNoPart (ePart (eC (.int 63))) [some (.kl (ns.map .int))] S = .ok (.l (ns.map .int)) S := by
      unfold eSl
      rw [var_ok (d := .kl (ns.map .int)) rfl, R.bind_ok]
      rw [show eNoPart [some (.kl (ns.map .int))] S = .ok none S from rfl, R.bind_ok, part_ok (i := 63) c_ok, R.bind_ok]
      show R.ok (F.l (cutD (ns.map .int) none (some 63))) S = _
      congr 2
      refine cut_whole ⟨rfl, ?_⟩
      unfold HT.sIx
      simp only [List.length_map]
      split <;> omega
    refine ret_ok (lst_ok ?_ (by simp))
    unfold eCons eBox
    rw [b1_ok sl (show listF (.l _) _ = some _ from rfl)]
    rfl
  · rw [List.getElem?_append_left (by simp)]; exact List.getElem?_concat_length
  · simp
end Pen
end DL
/-! ## DPlaces -/
set_option maxHeartbeats 1000000
/-! The program's all_places on a drawn plan. -/
namespace DL
open PySem PySem.Spec L2
namespace Pen
def bAllPlaces : Env → Sto → RS :=
  (sSeq (fun ρ S => onE (eDict ρ S) ρ fun d S1 => .nx (ρ.set 1 (some d)) S1)
  (sSeq (sFor (eEnum 0 (eSub (eVar 0) (eC (.int 0)))) (gTpN 2 (gsCons (gNm 2) (gsCons (gTpN 2 (gsCons (gNm 3) (gsCons (gNm 4) gsNil))) gsNil))) (sFor (eEnum 1 (eVar 4)) (gTpN 2 (gsCons (gNm 5) (gsCons (gTpN 2 (gsCons (gNm 6) (gsCons (gNm 3) gsNil))) gsNil))) (sPut (eVar 1) (eVar 6) (eTup (eCons (eVar 2) (eCons (eVar 5) eNil))))))
  (sRet (eVar 1))))
abbrev gIn : D → Env → Option Env := gTpN 2 (gsCons (gNm 5) (gsCons (gTpN 2 (gsCons (gNm 6) (gsCons (gNm 3) gsNil))) gsNil))
abbrev gOut : D → Env → Option Env := gTpN 2 (gsCons (gNm 2) (gsCons (gTpN 2 (gsCons (gNm 3) (gsCons (gNm 4) gsNil))) gsNil))
abbrev putB : Env → Sto → RS := sPut (eVar 1) (eVar 6) (eTup (eCons (eVar 2) (eCons (eVar 5) eNil)))
/-- name, sign, version of each change -/
def chs (k : Int) : Int → List (Int × Int) → List (Int × Int × Int)
  | _, [] => []
  | j, c :: cs => (c.1, k, j) :: chs k (j + 1) cs
def plc : Int → List Row → List (Int × Int × Int)
  | _, [] => []
  | k, r :: rs => chs k 1 r.2 ++ plc (k + 1) rs
def enD (e : Int × Int × Int) : D × D := (.int e.1, .tup [.int e.2.1, .int e.2.2])
theorem chs_names (k : Int) : ∀ (j : Int) (cs : List (Int × Int)), (chs k j cs).map (·.1) = cs.map (·.1)
  | _, [] => rfl
  | j, c :: cs => by simp [chs, chs_names k (j + 1) cs]
theorem plc_names : ∀ (k : Int) (rs : List Row), (plc k rs).map (·.1) = nmsOf rs
  | _, [] => rfl
  | k, r :: rs => by
    have e : nmsOf (r :: rs) = r.2.map (·.1) ++ nmsOf rs := by unfold nmsOf; rw [List.flatMap_cons]
    rw [plc, List.map_append, chs_names, plc_names (k + 1) rs, e]
theorem put_new {S : Sto} {f : Nat} {es : List (Int × Int × Int)} {a : Int} {d : D} (h : S[f]? = some (.dct (es.map enD))) (hl : es.length ≤ 1000) (hn : a ∉ es.map (·.1)) : putO (.v (.loc f)) (.int a) d S = some (S.set f (.dct (es.map enD ++ [(.int a, d)]))) := by
  show (match S[f]? with
    | some (.dct kvs) => if (dKey (.int a)).isSome ∧ kvs.length ≤ 1000000 then some (S.set f (.dct (putD kvs (.int a) d))) else none
    | _ => none) = _
  rw [h]
  simp only
  rw [if_pos ⟨rfl, by rw [List.length_map]; omega⟩]
  unfold putD
  have e : ((es.map enD).any fun kv => decide (kv.1 = D.int a)) = false := by
    rw [List.any_eq_false]
    intro kv hkv
    obtain ⟨x, hx, rfl⟩ := List.mem_map.mp hkv
    simp only [decide_eq_true_eq]
    intro z
    have z : D.int x.1 = D.int a := z
    injection z with z
    exact hn (z ▸ List.mem_map_of_mem hx)
  rw [e, if_neg (by decide)]
theorem in_loop {xs : List D} {f : Nat} {q : D} {k : Int} {o4 : Option D} : ∀ (cs : List (Int × Int)) (j : Int) (es : List (Int × Int × Int)) (o3 o5 o6 : Option D) (S : Sto), S[f]? = some (.dct (es.map enD)) → es.length + cs.length ≤ 900 → (es.map (·.1) ++ cs.map (·.1)).Nodup →
    ∃ S' f3 f5 f6, forL ⟨xs, []⟩ gIn putB (numD j (cs.map prD)) [some q, some (.loc f), some (.int k), o3, o4, o5, o6] S = .nx [some q, some (.loc f), some (.int k), f3, o4, f5, f6] S' ∧ S'[f]? = some (.dct ((es ++ chs k j cs).map enD)) ∧ Ext [f] S S' ∧ S'.length = S.length
  | [], j, es, o3, o5, o6, S, h, _, _ => ⟨S, o3, o5, o6, by simp [numD, forL], by simpa [chs] using h, .refl, rfl⟩
  | c :: cs, j, es, o3, o5, o6, S, h, hl, hn => by
    simp only [List.length_cons] at hl
    have hfl := (List.getElem?_eq_some_iff.mp h).1
    have nin : c.1 ∉ es.map (·.1) := fun hm => by
      have := List.nodup_append.mp hn
      exact this.2.2 _ hm _ (by simp) rfl
    have st : putB [some q, some (.loc f), some (.int k), some (.int c.2), o4, some (.int j), some (.int c.1)] S = .nx [some q, some (.loc f), some (.int k), some (.int c.2), o4, some (.int j), some (.int c.1)] (S.set f (.dct ((es ++ [(c.1, k, j)]).map enD))) := by
      show sPut _ _ _ _ _ = _
      unfold sPut eBox DL.onE
      rw [tup_ok (cons_ok (d := .int k) (var_ok rfl) (cons_ok (d := .int j) (var_ok rfl) nil_ok)) (by simp)]
      simp only [R.bind_ok, box_v']
      rw [var_ok (d := .loc f) rfl]
      simp only
      rw [var_ok (d := .int c.1) rfl]
      simp only
      rw [put_new h (by omega) nin, List.map_append]
      rfl
    obtain ⟨S', f3, f5, f6, q1, q2, q3, q4⟩ := in_loop (xs := xs) (q := q) (k := k) (o4 := o4) cs (j + 1) (es ++ [(c.1, k, j)]) (some (.int c.2)) (some (.int j)) (some (.int c.1)) (S.set f (.dct ((es ++ [(c.1, k, j)]).map enD))) (List.getElem?_set_self hfl) (by simp; omega) (by simpa using hn)
    refine ⟨S', f3, f5, f6, ?_, by simpa [chs] using q2, (Ext.set (by simp)).trans q3, by rw [q4, List.length_set]⟩
    rw [List.map_cons, numD, for_nx (by simp) (show gIn _ _ = some _ from rfl) st]
    exact q1
theorem seq_tup {ee : Env → Sto → R F} {ρ : Env} {S S1 : Sto} {xs : List D} (h : ee ρ S = .ok (.v (.tup xs)) S1) : eSeq ee ρ S = .ok ⟨xs, []⟩ S1 := by
  unfold eSeq; rw [h]; rfl
theorem enum_ok {k : Int} {ee : Env → Sto → R F} {ρ : Env} {S S1 : Sto} {it : DIt} (h : eSeq ee ρ S = .ok it S1) : eEnum k ee ρ S = .ok ⟨numD k it.items, it.dep⟩ S1 := by
  unfold eEnum; rw [h]; rfl
abbrev outB : Env → Sto → RS := sFor (eEnum 1 (eVar 4)) gIn putB
theorem out_loop {xs : List D} {f : Nat} {q : D} : ∀ (rs : List Row) (k : Int) (es : List (Int × Int × Int)) (o2 o3 o4 o5 o6 : Option D) (S : Sto), S[f]? = some (.dct (es.map enD)) → es.length + (nmsOf rs).length ≤ 900 → (es.map (·.1) ++ nmsOf rs).Nodup →
    ∃ S' f2 f3 f4 f5 f6, forL ⟨xs, []⟩ gOut outB (numD k (rs.map rowD)) [some q, some (.loc f), o2, o3, o4, o5, o6] S = .nx [some q, some (.loc f), f2, f3, f4, f5, f6] S' ∧ S'[f]? = some (.dct ((es ++ plc k rs).map enD)) ∧ Ext [f] S S' ∧ S'.length = S.length
  | [], k, es, o2, o3, o4, o5, o6, S, h, _, _ => ⟨S, o2, o3, o4, o5, o6, by simp [numD, forL], by simpa [plc] using h, .refl, rfl⟩
  | r :: rs, k, es, o2, o3, o4, o5, o6, S, h, hl, hn => by
    have e : nmsOf (r :: rs) = r.2.map (·.1) ++ nmsOf rs := by unfold nmsOf; rw [List.flatMap_cons]
    rw [e] at hl hn
    rw [← List.append_assoc] at hn
    simp only [List.length_append, List.length_map] at hl
    obtain ⟨S1, f3, f5, f6, q1, q2, q3, q4⟩ := in_loop (xs := numD 1 (r.2.map prD)) (q := q) (k := k) (o4 := some (.tup (r.2.map prD))) r.2 1 es (some (.int r.1)) o5 o6 S h (by omega) (List.nodup_append.mp hn).1
    have st : outB [some q, some (.loc f), some (.int k), some (.int r.1), some (.tup (r.2.map prD)), o5, o6] S = .nx [some q, some (.loc f), some (.int k), f3, some (.tup (r.2.map prD)), f5, f6] S1 :=
      (for_ok (enum_ok (seq_tup (var_ok rfl)))).trans q1
    have nm : (es ++ chs k 1 r.2).map (·.1) = es.map (·.1) ++ r.2.map (·.1) := by rw [List.map_append, chs_names]
    have cl : (chs k 1 r.2).length = r.2.length := by
      have := congrArg List.length (chs_names k 1 r.2)
      simpa using this
    obtain ⟨S', g2, g3, g4, g5, g6, z1, z2, z3, z4⟩ := out_loop (xs := xs) (q := q) rs (k + 1) (es ++ chs k 1 r.2) (some (.int k)) f3 (some (.tup (r.2.map prD))) f5 f6 S1 q2 (by rw [List.length_append, cl]; omega) (by rw [nm]; exact hn)
    refine ⟨S', g2, g3, g4, g5, g6, ?_, by simpa [plc] using z2, q3.trans z3, by rw [z4, q4]⟩
    rw [List.map_cons, numD, for_nx (by simp) (show gOut _ _ = some _ from rfl) st]
    exact z1
theorem all_places_ok {q : Plan} {S : Sto} (hn : (nmsOf q.rs).Nodup) (hl : (nmsOf q.rs).length ≤ 900) :
    ∃ S', runF 6 bAllPlaces [plD q] S = .ok (.v (.loc S.length)) S' ∧ S'[S.length]? = some (.dct ((plc 0 q.rs).map enD)) ∧ Ext [] S S' := by
  obtain ⟨S', f2, f3, f4, f5, f6, q1, q2, q3, q4⟩ := out_loop (xs := numD 0 (q.rs.map rowD)) (f := S.length) (q := plD q) q.rs 0 [] none none none none none (S ++ [.dct []]) List.getElem?_concat_length (by simpa using hl) (by simpa using hn)
  refine ⟨S', ?_, q2, ((Ext.app (ex := [S.length])).trans q3).drop (by intro i hi _; simp at hi; omega)⟩
  suffices w : bAllPlaces [some (plD q), none, none, none, none, none, none] S = .rt (.v (.loc S.length)) S' by
    show (match bAllPlaces [some (plD q), none, none, none, none, none, none] S with
      | .rt f S' => R.ok f S'
      | .nx _ S' => R.ok (.v .non) S'
      | .err x _ S' => R.err x S'
      | _ => R.bad) = _
    rw [w]
  unfold bAllPlaces
  refine (seq_nx (show _ = RS.nx [some (plD q), some (.loc S.length), none, none, none, none, none] (S ++ [O.dct []]) from rfl)).trans ?_
  refine (seq_nx ((for_ok (enum_ok (seq_tup (xs := q.rs.map rowD) (sub_ok (var_ok rfl) c_ok (show ixF (.v (plD q)) (.v (.int 0)) _ = some (.v (.tup (q.rs.map rowD))) from rfl))))).trans q1)).trans ?_
  exact ret_ok (var_ok rfl)
end Pen
end DL
/-! ## DPlaces2 -/
set_option maxHeartbeats 1000000
/-! The program's place_of on a drawn plan. -/
namespace DL
open PySem PySem.Spec L2
namespace Pen
def bIsWhole : Env → Sto → RS := (sRet (eAnd (eIsi "int" (eVar 0)) (eNot (eIsi "bool" (eVar 0)))))
theorem lookup_out {a : Int} : ∀ {es : List (Int × Int × Int)}, a ∉ es.map (·.1) → (es.map enD).lookup (.int a) = none
  | [], _ => rfl
  | e :: es, h => by
    have h1 : a ≠ e.1 := fun z => h (by simp [z])
    have h2 : a ∉ es.map (·.1) := fun z => h (by simp at z ⊢; exact .inr z)
    show List.lookup (D.int a) ((D.int e.1, _) :: es.map enD) = none
    rw [List.lookup_cons]
    have : (D.int a == D.int e.1) = false := by
      rw [beq_eq_false_iff_ne]
      intro z; injection z with z; exact h1 z
    rw [this]
    exact lookup_out h2
theorem lookup_in {a i j : Int} : ∀ {es : List (Int × Int × Int)}, (es.map (·.1)).Nodup → (a, i, j) ∈ es → (es.map enD).lookup (.int a) = some (.tup [.int i, .int j])
  | [], _, h => by cases h
  | e :: es, hn, h => by
    show List.lookup (D.int a) ((D.int e.1, _) :: es.map enD) = _
    rw [List.lookup_cons]
    rcases List.mem_cons.mp h with rfl | h
    · have : (D.int a == D.int a) = true := by simp
      rw [this]
    · simp only [List.map_cons, List.nodup_cons] at hn
      have h1 : a ≠ e.1 := fun z => hn.1 (z ▸ List.mem_map_of_mem (f := (·.1)) h)
      have : (D.int a == D.int e.1) = false := by
        rw [beq_eq_false_iff_ne]
        intro z; injection z with z; exact h1 z
      rw [this]
      exact lookup_in hn.2 h
theorem whole_int (a : Int) (S : Sto) : runF 0 bIsWhole [.int a] S = .ok (.v (.bl true)) S := rfl
theorem whole_odd {d : D} {S : Sto} {t : String} (h : tyN (.v d) S = some t) (ht : t ≠ "int") : runF 0 bIsWhole [d] S = .ok (.v (.bl false)) S := by
  suffices w : bIsWhole [some d] S = .rt (.v (.bl false)) S by
    show (match bIsWhole [some d] S with
      | .rt f S' => R.ok f S'
      | .nx _ S' => R.ok (.v .non) S'
      | .err x _ S' => R.err x S'
      | _ => R.bad) = _
    rw [w]
  have isi : ∀ c : String, eIsi c (eVar 0) [some d] S = .ok (.v (.bl (isSub t c))) S := fun c => by
    unfold eIsi eUn
    rw [var_ok (d := d) rfl, R.bind_ok]
    unfold isiF
    rw [h]; rfl
  unfold bIsWhole
  refine ret_ok ?_
  unfold eAnd
  rw [isi, R.bind_ok]
  by_cases hb : t = "bool"
  · subst hb
    show eNot (eIsi "bool" (eVar 0)) [some d] S = _
    unfold eNot
    rw [isi]; rfl
  · have e : isSub t "int" = false := by
      unfold isSub
      rw [beq_eq_false_iff_ne.mpr ht, beq_eq_false_iff_ne.mpr hb]; rfl
    rw [e]; rfl
def bPlaceOf : Env → Sto → RS :=
  (sSeq (sIf (tNot' (tTru (eCall 1 (runF 0 bIsWhole) (eCons (eVar 1) eNil)))) (sRaise "UnknownName" "name" (eCons (eVar 1) eNil)) sNil)
  (sSeq (sAsg (gNm 2) (eCall 1 (runF 6 bAllPlaces) (eCons (eVar 0) eNil)))
  (sSeq (sIf (tOfB (eIn true (eVar 1) (eVar 2))) (sRaise "UnknownName" "name" (eCons (eVar 1) eNil)) sNil)
  (sRet (eSub (eVar 2) (eVar 1))))))
theorem seq_err {s t : Env → Sto → RS} {ρ ρ1 : Env} {S S1 : Sto} {x : Exn} (h : s ρ S = .err x ρ1 S1) : sSeq s t ρ S = .err x ρ1 S1 := by unfold sSeq; rw [h]
theorem raise_ok {nm f : Str} {ee : Env → Sto → R F} {ρ : Env} {S S1 : Sto} {d : D} (h : ee ρ S = .ok (.v d) S1) : sRaise nm f (eCons ee eNil) ρ S = .err ⟨nm, [(f, d)]⟩ ρ S1 := by
  unfold sRaise DL.onE; rw [cons_ok h nil_ok]
theorem not_ok {et : Env → Sto → R Bool} {ρ : Env} {S S1 : Sto} {b : Bool} (h : et ρ S = .ok b S1) : tNot' et ρ S = .ok (!b) S1 := by unfold tNot'; rw [h]; rfl
theorem tru_bl {ee : Env → Sto → R F} {ρ : Env} {S S1 : Sto} {b : Bool} (h : ee ρ S = .ok (.v (.bl b)) S1) : tTru ee ρ S = .ok b S1 := by unfold tTru; rw [h]; rfl
theorem place_odd {q : D} {d : D} {S : Sto} {t : String} (h : tyN (.v d) S = some t) (ht : t ≠ "int") : runF 1 bPlaceOf [q, d] S = .err ⟨"UnknownName", [("name", d)]⟩ S := by
  suffices w : bPlaceOf [some q, some d, none] S = .err ⟨"UnknownName", [("name", d)]⟩ [some q, some d, none] S by
    show (match bPlaceOf [some q, some d, none] S with
      | .rt f S' => R.ok f S'
      | .nx _ S' => R.ok (.v .non) S'
      | .err x _ S' => R.err x S'
      | _ => R.bad) = _
    rw [w]
  unfold bPlaceOf
  refine seq_err ((if_ok (not_ok (tru_bl (call1_ok (var_ok rfl) (whole_odd h ht))))).trans ?_)
  show sRaise _ _ _ _ _ = _
  exact raise_ok (var_ok rfl)
theorem dget_dct {S : Sto} {f : Nat} {kvs : List (D × D)} {a : Int} (h : S[f]? = some (.dct kvs)) : dGet (.v (.loc f)) (.int a) S = some (kvs.lookup (.int a)) := by
  show (match S[f]? with
    | some o => oGet o (D.int a)
    | none => none) = _
  rw [h]; rfl
theorem in_dct {ρ : Env} {S : Sto} {f : Nat} {kvs : List (D × D)} {a : Int} {ea eb : Env → Sto → R F} (ha : ea ρ S = .ok (.v (.int a)) S) (hb : eb ρ S = .ok (.v (.loc f)) S) (h : S[f]? = some (.dct kvs)) : eIn true ea eb ρ S = .ok (.v (.bl (!(kvs.lookup (.int a)).isSome))) S := by
  unfold eIn; rw [ha, R.bind_ok, hb, R.bind_ok]
  have e : inF true (.v (.int a)) (.v (.loc f)) S = none := by
    unfold inF
    have : inB (.v (.int a)) (.v (.loc f)) S = none := by unfold inB; simp [getTL, getL, h]
    rw [this]; rfl
  rw [e]
  simp only
  rw [dget_dct h]; rfl
theorem get_dct {ρ : Env} {S : Sto} {f : Nat} {kvs : List (D × D)} {a : Int} {d : D} {ea eb : Env → Sto → R F} (hb : eb ρ S = .ok (.v (.loc f)) S) (ha : ea ρ S = .ok (.v (.int a)) S) (h : S[f]? = some (.dct kvs)) (hd : kvs.lookup (.int a) = some d) : eSub eb ea ρ S = .ok (.v d) S := by
  unfold eSub; rw [hb, R.bind_ok, ha, R.bind_ok]
  have e : ixF (.v (.loc f)) (.v (.int a)) S = none := by
    show ((match S[f]? with
      | some (.lst ds) => some ds
      | _ => none).bind fun ds => (atI ds a).map F.v) = none
    rw [h]; rfl
  rw [e]
  simp only
  rw [dget_dct h, hd]
/-- place_of at a number -/
theorem place_int {q : Plan} {a : Int} {S : Sto} (hn : (nmsOf q.rs).Nodup) (hl : (nmsOf q.rs).length ≤ 900) :
    ∃ S', Ext [] S S' ∧ (a ∉ nmsOf q.rs → runF 1 bPlaceOf [plD q, .int a] S = .err ⟨"UnknownName", [("name", .int a)]⟩ S') ∧ (∀ i j, (a, i, j) ∈ plc 0 q.rs → runF 1 bPlaceOf [plD q, .int a] S = .ok (.v (.tup [.int i, .int j])) S') := by
  obtain ⟨S', e, hd, x⟩ := all_places_ok (S := S) hn hl
  have nm : (plc 0 q.rs).map (·.1) = nmsOf q.rs := plc_names 0 q.rs
  have c1 : (sIf (tNot' (tTru (eCall 1 (runF 0 bIsWhole) (eCons (eVar 1) eNil)))) (sRaise "UnknownName" "name" (eCons (eVar 1) eNil)) sNil) [some (plD q), some (.int a), none] S = .nx [some (plD q), some (.int a), none] S :=
    if_no (not_ok (tru_bl (call1_ok (var_ok rfl) (whole_int a S))))
  have c2 : (sAsg (gNm 2) (eCall 1 (runF 6 bAllPlaces) (eCons (eVar 0) eNil))) [some (plD q), some (.int a), none] S = .nx [some (plD q), some (.int a), some (.loc S.length)] S' := asgv (call1_ok (var_ok rfl) e)
  have c3 : ∀ o : Option D, ((plc 0 q.rs).map enD).lookup (D.int a) = o → tOfB (eIn true (eVar 1) (eVar 2)) [some (plD q), some (.int a), some (.loc S.length)] S' = .ok (!o.isSome) S' := fun o ho => tofb_ok (by rw [in_dct (var_ok rfl) (var_ok rfl) hd, ho])
  refine ⟨S', x, fun h => ?_, fun i j h => ?_⟩
  · have w : bPlaceOf [some (plD q), some (.int a), none] S = .err ⟨"UnknownName", [("name", .int a)]⟩ [some (plD q), some (.int a), some (.loc S.length)] S' := by
      unfold bPlaceOf
      rw [seq_nx c1, seq_nx c2]
      refine seq_err ((if_ok (c3 _ (lookup_out (by rw [nm]; exact h)))).trans ?_)
      show sRaise _ _ _ _ _ = _
      exact raise_ok (var_ok rfl)
    show (match bPlaceOf [some (plD q), some (.int a), none] S with
      | .rt f S' => R.ok f S'
      | .nx _ S' => R.ok (.v .non) S'
      | .err x _ S' => R.err x S'
      | _ => R.bad) = _
    rw [w]
  · have lk := lookup_in (by rw [nm]; exact hn) h
    have w : bPlaceOf [some (plD q), some (.int a), none] S = .rt (.v (.tup [.int i, .int j])) S' := by
      unfold bPlaceOf
      rw [seq_nx c1, seq_nx c2, seq_nx (if_no (c3 _ lk))]
      exact ret_ok (get_dct (var_ok rfl) (var_ok rfl) hd lk)
    show (match bPlaceOf [some (plD q), some (.int a), none] S with
      | .rt f S' => R.ok f S'
      | .nx _ S' => R.ok (.v .non) S'
      | .err x _ S' => R.err x S'
      | _ => R.bad) = _
    rw [w]
end Pen
end DL
/-! ## DPlaces3 -/
set_option maxHeartbeats 1000000
/-! beginning, ending, names_of on a drawn plan. -/
namespace DL
open PySem PySem.Spec L2
namespace Pen
def bBeginning : Env → Sto → RS :=
  (sSeq (sAsg (gNm 3) (eSub (eSub (eSub (eVar 0) (eC (.int 0))) (eVar 1)) (eC (.int 1))))
  (sRet (eIf (tOfB (eChain leF leF (eC (.int 1)) (eVar 2) (eB (f1 lenF) (fCons (eVar 3) fNil)))) (eSub (eSub (eVar 3) (eOp subF (eVar 2) (eC (.int 1)))) (eC (.int 0))) (eC .non))))
def bEnding : Env → Sto → RS :=
  (sRet (eCall 3 (runF 1 bBeginning) (eCons (eVar 0) (eCons (eVar 1) (eCons (eOp addF (eVar 2) (eC (.int 1))) eNil)))))
def bNamesOf : Env → Sto → RS :=
  (sRet (eB (f1 tupleF) (fCons (eB (f1 sortF) (fCons (eCall 1 (runF 6 bAllPlaces) (eCons (eVar 0) eNil)) fNil)) fNil)))
theorem ix_tup {S : Sto} {ds : List D} {i : Int} {d : D} (hi : atI ds i = some d) : ixF (.v (.tup ds)) (.v (.int i)) S = some (.v d) := by
  show ((atI ds i).map F.v) = _
  rw [hi]; rfl
theorem atI_nat {ds : List D} {k : Nat} {d : D} (h : ds[k]? = some d) : atI ds (k : Int) = some d := by
  have hl := (List.getElem?_eq_some_iff.mp h).1
  unfold atI ixN
  rw [if_pos (by omega), if_pos (by omega)]
  simpa using h
/-- what beginning tells of a sign's row -/
def begOf (cs : List (Int × Int)) (v : Int) : D := if 1 ≤ v then (match cs[(v - 1).toNat]? with
  | some c => .int c.1
  | none => .non) else .non
theorem chain_ok {ea eb ec : Env → Sto → R F} {ρ : Env} {S : Sto} {a b c : Int} (ha : ea ρ S = .ok (.v (.int a)) S) (hb : eb ρ S = .ok (.v (.int b)) S) (hc : ec ρ S = .ok (.v (.int c)) S) : eChain leF leF ea eb ec ρ S = .ok (.v (.bl (decide (a ≤ b) && decide (b ≤ c)))) S := by
  unfold eChain
  rw [ha, R.bind_ok, hb, R.bind_ok]
  simp only [leF, intF_int, yes2, if_true]
  by_cases h : a ≤ b
  · simp only [decide_eq_true h, Bool.true_and]
    rw [hc]; simp [ofB, hc]; rfl
  · simp only [decide_eq_false h, Bool.false_and]
    simp [ofB]
theorem beginning_ok {q : Plan} {i : Nat} {r : Row} {v : Int} {S : Sto} (hr : q.rs[i]? = some r) : runF 1 bBeginning [plD q, .int i, .int v] S = .ok (.v (begOf r.2 v)) S := by
  have hrow : (q.rs.map rowD)[i]? = some (rowD r) := by rw [List.getElem?_map, hr]; rfl
  have hl : eB (f1 lenF) (fCons (eVar 3) fNil) [some (plD q), some (.int i), some (.int v), some (.tup (r.2.map prD))] S = .ok (.v (.int r.2.length)) S := b1_ok (var_ok rfl) (by
    show (getTL (.v (.tup (r.2.map prD))) S).map (fun ds => F.v (.int ds.length)) = _
    show some (F.v (.int (r.2.map prD).length)) = _
    rw [List.length_map])
  have t := tofb_ok (chain_ok (ea := eC (.int 1)) (eb := eVar 2) c_ok (var_ok (d := .int v) rfl) hl)
  have w : bBeginning [some (plD q), some (.int i), some (.int v), none] S = .rt (.v (begOf r.2 v)) S := by
    unfold bBeginning
    refine (seq_nx (asgv (sub_ok (sub_ok (sub_ok (var_ok rfl) c_ok (show ixF (.v (plD q)) (.v (.int 0)) S = some (.v (.tup (q.rs.map rowD))) from rfl)) (var_ok rfl) (ix_tup (atI_nat hrow))) c_ok (show ixF (.v (rowD r)) (.v (.int 1)) S = some (.v (.tup (r.2.map prD))) from rfl)))).trans ?_
    refine ret_ok ((eif_ok t).trans ?_)
    by_cases c : 1 ≤ v ∧ v ≤ r.2.length
    · rw [decide_eq_true c.1, decide_eq_true c.2]
      have hk : (v - 1).toNat < r.2.length := by omega
      have hc : (r.2.map prD)[(v - 1).toNat]? = some (prD r.2[(v - 1).toNat]) := by rw [List.getElem?_map, List.getElem?_eq_getElem hk]; rfl
      have ha := atI_nat hc
      rw [show ((v - 1).toNat : Int) = v - 1 by omega] at ha
      have e : begOf r.2 v = .int r.2[(v - 1).toNat].1 := by
        unfold begOf; rw [if_pos c.1, List.getElem?_eq_getElem hk]
      rw [e]
      refine (if_pos rfl).trans ?_
      exact sub_ok (sub_ok (var_ok rfl) (op_ok (var_ok rfl) c_ok (sub_ii _ _ _)) (ix_tup ha)) c_ok (show ixF (.v (prD _)) (.v (.int 0)) S = some (.v (.int _)) from rfl)
    · have e : (decide (1 ≤ v) && decide (v ≤ (r.2.length : Int))) = false := by
        rw [Bool.and_eq_false_iff, decide_eq_false_iff_not, decide_eq_false_iff_not]
        omega
      rw [e]
      have e2 : begOf r.2 v = .non := by
        unfold begOf
        by_cases h1 : 1 ≤ v
        · rw [if_pos h1, List.getElem?_eq_none (by omega)]
        · rw [if_neg h1]
      rw [e2]
      exact (if_neg (by decide)).trans c_ok
  show (match bBeginning [some (plD q), some (.int i), some (.int v), none] S with
    | .rt f S' => R.ok f S'
    | .nx _ S' => R.ok (.v .non) S'
    | .err x _ S' => R.err x S'
    | _ => R.bad) = _
  rw [w]
theorem ending_ok {q : Plan} {i : Nat} {r : Row} {v : Int} {S : Sto} (hr : q.rs[i]? = some r) : runF 0 bEnding [plD q, .int i, .int v] S = .ok (.v (begOf r.2 (v + 1))) S := by
  have w : bEnding [some (plD q), some (.int i), some (.int v)] S = .rt (.v (begOf r.2 (v + 1))) S :=
    ret_ok (call3_ok (var_ok rfl) (var_ok rfl) (op_ok (var_ok rfl) c_ok (add_ii _ _ _)) (beginning_ok hr))
  show (match bEnding [some (plD q), some (.int i), some (.int v)] S with
    | .rt f S' => R.ok f S'
    | .nx _ S' => R.ok (.v .non) S'
    | .err x _ S' => R.err x S'
    | _ => R.bad) = _
  rw [w]
/-- names_of: the names, sorted -/
theorem names_of_ok {q : Plan} {S : Sto} (hn : (nmsOf q.rs).Nodup) (hl : (nmsOf q.rs).length < 64) : ∃ S', Ext [] S S' ∧ runF 0 bNamesOf [plD q] S = .ok (.v (.tup ((srt (nmsOf q.rs)).map .int))) S' := by
  obtain ⟨S', e, hd, x⟩ := all_places_ok (S := S) hn (by omega)
  have nm : (plc 0 q.rs).map (·.1) = nmsOf q.rs := plc_names 0 q.rs
  refine ⟨S', x, ?_⟩
  have keys : ((plc 0 q.rs).map enD).map (·.1) = (nmsOf q.rs).map .int := by rw [← nm, List.map_map, List.map_map]; rfl
  have w : bNamesOf [some (plD q)] S = .rt (.v (.tup ((srt (nmsOf q.rs)).map .int))) S' := by
    refine ret_ok (b1_ok (b1_ok (call1_ok (var_ok rfl) e) (z := .l ((srt (nmsOf q.rs)).map .int)) ?_) (show tupleF (.l _) _ = some _ from rfl))
    show (match S'[S.length]? with
      | some (.lst ds) => (intsOf ds).map fun ns => F.l ((srt ns).map .int)
      | some (.dct kvs) => (intsOf (kvs.map (fun kv : D × D => kv.1))).bind fun ns => if ns.length < 64 then some (F.l ((srt ns).map .int)) else none
      | _ => none) = _
    rw [hd]
    simp only
    rw [keys, intsOf_map, Option.bind_some, if_pos hl]
  show (match bNamesOf [some (plD q)] S with
    | .rt f S' => R.ok f S'
    | .nx _ S' => R.ok (.v .non) S'
    | .err x _ S' => R.err x S'
    | _ => R.bad) = _
  rw [w]
end Pen
end DL
/-! ## DWalk -/
set_option maxHeartbeats 1000000
/-! Walks. -/
namespace DL
open PySem PySem.Spec L2
/-! ### frames, told -/
theorem frF_v {df : List D → Sto → R F} {ds : List D} {d : D} {S S' : Sto} (h : df ds [] = .ok (.v d) S') (p : pureDs ds = true) (p2 : pureD d = true) : frF df ds S = .ok (.v d) S := by
  unfold frF
  rw [fcDs_eq, if_pos p, h]
  show fcD 4 d _ = _
  rw [fcD_eq, if_pos p2]
theorem frF_l {df : List D → Sto → R F} {ds es : List D} {S S' : Sto} (h : df ds [] = .ok (.l es) S') (p : pureDs ds = true) (p2 : pureDs es = true) : frF df ds S = .ok (.l es) S := by
  unfold frF
  rw [fcDs_eq, if_pos p, h]
  show fcDs 4 es _ = _
  rw [fcDs_eq, if_pos p2]
theorem pureDs_iff : ∀ (ds : List D), pureDs ds = true ↔ ∀ d ∈ ds, pureD d = true
  | [] => by simp [pureDs]
  | d :: ds => by simp [pureDs, pureDs_iff ds]
theorem pure_map {α : Type} (g : α → D) (xs : List α) (h : ∀ x ∈ xs, pureD (g x) = true) : pureDs (xs.map g) = true := by
  rw [pureDs_iff]
  intro d hd
  obtain ⟨x, hx, rfl⟩ := List.mem_map.mp hd
  exact h x hx
@[simp] theorem pure_tup (ds : List D) : pureD (.tup ds) = pureDs ds := rfl
@[simp] theorem pure_int (i : Int) : pureD (.int i) = true := rfl
@[simp] theorem pure_str (x : Str) : pureD (.str x) = true := rfl
@[simp] theorem pure_non : pureD .non = true := rfl
@[simp] theorem pure_bl (b : Bool) : pureD (.bl b) = true := rfl
@[simp] theorem pure_nil : pureDs [] = true := rfl
@[simp] theorem pure_cons (d : D) (ds : List D) : pureDs (d :: ds) = (pureD d && pureDs ds) := rfl
theorem pure_ints (l : List Int) : pureDs (l.map .int) = true := pure_map _ _ fun _ _ => rfl
namespace Pen
theorem pure_pr (p : Int × Int) : pureD (prD p) = true := rfl
theorem pure_row (r : Row) : pureD (rowD r) = true := by simp [rowD, pure_map prD r.2 fun x _ => pure_pr x]
theorem pure_nd (n : Node) : pureD (ndD n) = true := by
  cases n with
  | read s gs e => simp [ndD, pure_map prD gs fun x _ => pure_pr x]
  | _ => rfl
theorem pure_pl (q : Plan) : pureD (plD q) = true := by
  simp [plD, pure_map rowD q.rs fun x _ => pure_row x, pure_ints, pure_map ndD q.ns fun x _ => pure_nd x]

/-! ### values_of -/
def bValuesOf : DL.Env → Sto → RS :=
  (sSeq (sAsg (gTpN 2 (gsCons (gNm 2) (gsCons (gNm 3) gsNil))) (eSub (eSub (eVar 0) (eC (.int 0))) (eVar 1)))
  (sRet (eOp addF (eLst (eCons (eVar 2) eNil)) (eLc (eSeq (eVar 3)) (gTpN 2 (gsCons (gNm 4) (gsCons (gNm 5) gsNil))) tYes' (eVar 5) [4, 5]))))
def dValuesOf : List D → Sto → R F := frF (runF 4 bValuesOf)
def rowV (r : Row) : List Int := r.1 :: r.2.map (·.2)
theorem lc_enc {α : Type} {it : DIt} {g : D → Env → Option Env} {et : Env → Sto → R Bool} {ee : Env → Sto → R F} {ρ : Env} {S : Sto} (hk : it.ok S) (enc : α → D) (c : α → Bool) (y : α → D) :
    ∀ (xs : List α), (∀ x ∈ xs, ∃ ρ1, g (enc x) ρ = some ρ1 ∧ et ρ1 S = .ok (c x) S ∧ (c x = true → ee ρ1 S = .ok (.v (y x)) S)) → lcL it g et ee ρ (xs.map enc) S = .ok ((xs.filter c).map y) S
  | [], _ => by simp [lcL, hk]
  | x :: xs, h => by
    obtain ⟨ρ1, h1, h2, h3⟩ := h x List.mem_cons_self
    have ih := lc_enc hk enc c y xs fun z hz => h z (List.mem_cons_of_mem _ hz)
    rw [List.map_cons, lcL, if_pos hk, h1]
    show okOr (et ρ1 S) _ = _
    rw [h2]
    show (if c x = true then _ else _) = _
    cases hc : c x with
    | true =>
      rw [if_pos rfl, List.filter_cons_of_pos hc, List.map_cons]
      unfold eBox
      rw [h3 hc, R.bind_ok]
      show okOr (lcL it g et ee ρ (xs.map enc) S) _ = _
      rw [ih]; rfl
    | false =>
      rw [if_neg (by decide), List.filter_cons_of_neg (by rw [hc]; decide)]
      exact ih
theorem elc_enc {α : Type} {ei : Env → Sto → R DIt} {g : D → Env → Option Env} {et : Env → Sto → R Bool} {ee : Env → Sto → R F} {vs : List Nat} {ρ : Env} {S S1 : Sto} {it : DIt} (hi : ei ρ S = .ok it S1) (hk : it.ok S1) (enc : α → D) (c : α → Bool) (y : α → D) (xs : List α) (hx : it.items = xs.map enc) (hl : xs.length ≤ 1000000)
    (h : ∀ x ∈ xs, ∃ ρ1, g (enc x) (wipeE ρ vs) = some ρ1 ∧ et ρ1 S1 = .ok (c x) S1 ∧ (c x = true → ee ρ1 S1 = .ok (.v (y x)) S1)) : eLc ei g et ee vs ρ S = .ok (.l ((xs.filter c).map y)) S1 := by
  unfold eLc
  rw [hi, R.bind_ok, hx, if_pos (by rw [List.length_map]; exact hl), lc_enc hk enc c y xs h]
  rfl
theorem filter_yes {α : Type} (xs : List α) : xs.filter (fun _ => true) = xs := List.filter_eq_self.mpr fun _ _ => rfl
theorem values_ok {q : Plan} {r : Row} {s : Nat} {S : Sto} (hr : q.rs[s]? = some r) (hl : r.2.length ≤ 4) : dValuesOf [plD q, .int s] S = .ok (.l ((rowV r).map .int)) S := by
  have hrow : (q.rs.map rowD)[s]? = some (rowD r) := by rw [List.getElem?_map, hr]; rfl
  refine frF_l (S' := []) ?_ (by simp [pure_pl]) (pure_ints _)
  have w : bValuesOf [some (plD q), some (.int s), none, none, none, none] [] = .rt (.l ((rowV r).map .int)) [] := by
    unfold bValuesOf
    refine (seq_nx (show _ = RS.nx [some (plD q), some (.int s), some (.int r.1), some (.tup (r.2.map prD)), none, none] [] from ?_)).trans ?_
    · unfold sAsg eBox
      rw [sub_ok (sub_ok (var_ok rfl) c_ok (show ixF (.v (plD q)) (.v (.int 0)) [] = some (.v (.tup (q.rs.map rowD))) from rfl)) (var_ok rfl) (ix_tup (atI_nat hrow))]
      rfl
    · refine ret_ok (op_ok (y := .l ((r.2.map (·.2)).map .int)) (show eLst (eCons (eVar 2) eNil) _ _ = .ok (.l [.int r.1]) [] from rfl) ?_ ?_)
      · have := elc_enc (ei := eSeq (eVar 3)) (g := gTpN 2 (gsCons (gNm 4) (gsCons (gNm 5) gsNil))) (et := tYes') (ee := eVar 5) (vs := [4, 5]) (ρ := [some (plD q), some (.int s), some (.int r.1), some (.tup (r.2.map prD)), none, none]) (S := []) (S1 := []) (it := ⟨r.2.map prD, []⟩) rfl (by simp [DIt.ok]) prD (fun _ => true) (fun x => .int x.2) r.2 rfl (by omega)
          (fun x _ => ⟨_, rfl, rfl, fun _ => rfl⟩)
        rw [this, filter_yes, List.map_map]; rfl
      · show (if ([D.int r.1] : List D).length + ((r.2.map (·.2)).map D.int).length ≤ 1000000 then some (F.l ([D.int r.1] ++ (r.2.map (·.2)).map D.int)) else none) = _
        rw [if_pos (by simp; omega)]; rfl
  show (match bValuesOf [some (plD q), some (.int s), none, none, none, none] [] with
    | .rt f S' => R.ok f S'
    | .nx _ S' => R.ok (.v .non) S'
    | .err x _ S' => R.err x S'
    | _ => R.bad) = _
  rw [w]
/-! ### nodes -/
def bIsAtEnd : DL.Env → Sto → RS :=
  (sRet (eOp eqF (eSub (eSub (eSub (eVar 0) (eC (.int 2))) (eVar 1)) (eC (.int 0))) (eC (.str "end"))))
def dIsAtEnd : List D → Sto → R F := frF (runF 0 bIsAtEnd)
def isRead : Node → Bool
  | .read _ _ _ => true
  | _ => false
theorem seq_to {s t : Env → Sto → RS} {ρ : Env} {S : Sto} (ρ1 : Env) (S1 : Sto) (h : s ρ S = .nx ρ1 S1) : sSeq s t ρ S = t ρ1 S1 := seq_nx h
theorem runF_rt {n : Nat} {sb : Env → Sto → RS} {ds : List D} {S S' : Sto} {f : F} (h : sb (ds.map some ++ List.replicate n none) S = .rt f S') : runF n sb ds S = .ok f S' := by
  unfold runF; rw [h]
theorem node_sub {q : Plan} {p : Nat} {nd : Node} {S : Sto} {ea eb : Env → Sto → R F} {ρ : Env} (h : q.ns[p]? = some nd) (ha : ea ρ S = .ok (.v (plD q)) S) (hb : eb ρ S = .ok (.v (.int p)) S) : eSub (eSub ea (eC (.int 2))) eb ρ S = .ok (.v (ndD nd)) S := by
  have hn : (q.ns.map ndD)[p]? = some (ndD nd) := by rw [List.getElem?_map, h]; rfl
  exact sub_ok (sub_ok ha c_ok (show ixF (.v (plD q)) (.v (.int 2)) S = some (.v (.tup (q.ns.map ndD))) from rfl)) hb (ix_tup (atI_nat hn))
theorem is_at_end_ok {q : Plan} {p : Nat} {nd : Node} {S : Sto} (h : q.ns[p]? = some nd) : dIsAtEnd [plD q, .int p] S = .ok (.v (.bl (!isRead nd))) S := by
  refine frF_v (S' := []) (runF_rt (ret_ok ?_)) (by simp [pure_pl]) rfl
  have hk : ∃ k, ixF (.v (ndD nd)) (.v (.int 0)) [] = some (.v (.str k)) ∧ eqB (.v (.str k)) (.v (.str "end")) [] = some (!isRead nd) := by
    cases nd with
    | read s gs e => exact ⟨"read", rfl, by show eqB (.v (.str "read")) (.v (.str "end")) [] = some false; decide +kernel⟩
    | good => exact ⟨"end", rfl, by decide +kernel⟩
    | misled => exact ⟨"end", rfl, by decide +kernel⟩
  obtain ⟨k, k1, k2⟩ := hk
  exact op_ok (sub_ok (node_sub h (var_ok rfl) (var_ok rfl)) c_ok k1) c_ok (show (eqB (.v (.str k)) (.v (.str "end")) []).map (fun k => F.v (.bl k)) = _ by rw [k2]; rfl)
def bReadAt : DL.Env → Sto → RS :=
  (sSeq (sAsg (gNm 3) (eSub (eSub (eSub (eVar 0) (eC (.int 2))) (eVar 1)) (eC (.int 1))))
  (sSeq (sAsg (gNm 4) (eCall 2 dValuesOf (eCons (eVar 0) (eCons (eVar 3) eNil))))
  (sRet (eIf (tOfB (eChain leF ltF (eC (.int 0)) (eVar 2) (eB (f1 lenF) (fCons (eVar 4) fNil)))) (eTup (eCons (eVar 1) (eCons (eVar 3) (eCons (eVar 2) (eCons (eSub (eVar 4) (eVar 2)) eNil))))) (eC .non)))))
def dReadAt : List D → Sto → R F := frF (runF 2 bReadAt)
def rdD (r : Int × Int × Int × Int) : D := .tup [.int r.1, .int r.2.1, .int r.2.2.1, .int r.2.2.2]
theorem chain_lt {ea eb ec : Env → Sto → R F} {ρ : Env} {S : Sto} {a b c : Int} (ha : ea ρ S = .ok (.v (.int a)) S) (hb : eb ρ S = .ok (.v (.int b)) S) (hc : ec ρ S = .ok (.v (.int c)) S) : eChain leF ltF ea eb ec ρ S = .ok (.v (.bl (decide (a ≤ b) && decide (b < c)))) S := by
  unfold eChain
  rw [ha, R.bind_ok, hb, R.bind_ok]
  simp only [leF, intF_int, yes2, if_true]
  by_cases h : a ≤ b
  · simp only [decide_eq_true h, Bool.true_and]
    rw [hc]; simp [ofB, hc]; rfl
  · simp only [decide_eq_false h, Bool.false_and]
    simp [ofB]
/-- the value of a version, if there is one -/
def verV (r : Row) (v : Int) : Option Int := if 0 ≤ v then (rowV r)[v.toNat]? else none
theorem read_at_ok {q : Plan} {p s : Nat} {v : Int} {gs : List (Int × Int)} {e : Int} {r : Row} {S : Sto} (h : q.ns[p]? = some (.read s gs e)) (hr : q.rs[s]? = some r) (hl : r.2.length ≤ 4) :
    dReadAt [plD q, .int p, .int v] S = .ok (.v (match verV r v with
      | some x => rdD (p, s, v, x)
      | none => .non)) S := by
  have hlen : (rowV r).length = r.2.length + 1 := by simp [rowV]
  refine frF_v (S' := [.lst ((rowV r).map .int)]) (runF_rt ?_) (by simp [pure_pl]) (by cases verV r v <;> rfl)
  unfold bReadAt
  refine (seq_nx (asgv (sub_ok (node_sub h (var_ok rfl) (var_ok rfl)) c_ok (show ixF (.v (ndD (.read s gs e))) (.v (.int 1)) [] = some (.v (.int s)) from rfl)))).trans ?_
  refine (seq_nx (asg_ok (call2_ok (var_ok rfl) (var_ok rfl) (values_ok hr hl)))).trans ?_
  have hlf : eB (f1 lenF) (fCons (eVar 4) fNil) [some (plD q), some (.int p), some (.int v), some (.int s), some (.loc 0)] [.lst ((rowV r).map .int)] = .ok (.v (.int (rowV r).length)) [.lst ((rowV r).map .int)] := b1_ok (var_ok rfl) (by rw [len_loc (ds := (rowV r).map .int) rfl, List.length_map])
  have t := tofb_ok (chain_lt (ea := eC (.int 0)) (eb := eVar 2) c_ok (var_ok (d := .int v) rfl) hlf)
  refine ret_ok ((eif_ok t).trans ?_)
  by_cases c : 0 ≤ v ∧ v < (rowV r).length
  · rw [decide_eq_true c.1, decide_eq_true c.2]
    have hk : v.toNat < (rowV r).length := by omega
    have e : verV r v = some (rowV r)[v.toNat] := by unfold verV; rw [if_pos c.1, List.getElem?_eq_getElem hk]
    rw [e]
    refine (if_pos rfl).trans ?_
    have hat : atI ((rowV r).map D.int) v = some (.int (rowV r)[v.toNat]) := by
      have := atI_nat (ds := (rowV r).map .int) (k := v.toNat) (d := .int (rowV r)[v.toNat]) (by rw [List.getElem?_map, List.getElem?_eq_getElem hk]; rfl)
      rwa [show (v.toNat : Int) = v by omega] at this
    exact tup_ok (cons_ok (var_ok rfl) (cons_ok (var_ok rfl) (cons_ok (var_ok rfl) (cons_ok (sub_ok (var_ok rfl) (var_ok rfl) (ix_loc rfl hat)) nil_ok)))) (by simp)
  · have e : verV r v = none := by
      unfold verV
      split
      · exact List.getElem?_eq_none (by omega)
      · rfl
    rw [e]
    have e2 : (decide (0 ≤ v) && decide (v < ((rowV r).length : Int))) = false := by
      by_cases c1 : 0 ≤ v
      · rw [decide_eq_true c1, decide_eq_false (fun z => c ⟨c1, z⟩)]; rfl
      · rw [decide_eq_false c1]; rfl
    rw [e2]
    exact (if_neg (by decide)).trans c_ok
def bReadOf : DL.Env → Sto → RS :=
  (sRet (eCall 3 dReadAt (eCons (eVar 0) (eCons (eVar 1) (eCons (eSub (eVar 2) (eSub (eSub (eSub (eVar 0) (eC (.int 2))) (eVar 1)) (eC (.int 1)))) eNil)))))
def dReadOf : List D → Sto → R F := frF (runF 0 bReadOf)
theorem call3v_ok {df : List D → Sto → R F} {ee eg eh : Env → Sto → R F} {ρ : Env} {S S1 S2 S3 S4 : Sto} {d d2 d3 : D} {f : F} (h : ee ρ S = .ok (.v d) S1) (h2 : eg ρ S1 = .ok (.v d2) S2) (h3 : eh ρ S2 = .ok (.v d3) S3) (hd : df [d, d2, d3] S3 = .ok f S4) :
    eCall 3 df (eCons ee (eCons eg (eCons eh eNil))) ρ S = .ok f S4 := by
  unfold eCall
  rw [cons_ok h (cons_ok h2 (cons_ok h3 nil_ok))]
  exact hd
theorem read_of_ok {q : Plan} {p s : Nat} {gs : List (Int × Int)} {e v x : Int} {r : Row} {vs : List Int} {S : Sto} (h : q.ns[p]? = some (.read s gs e)) (hr : q.rs[s]? = some r) (hl : r.2.length ≤ 4) (hv : vs[s]? = some v) (hx : verV r v = some x) :
    dReadOf [plD q, .int p, .tup (vs.map .int)] S = .ok (.v (rdD (p, s, v, x))) S := by
  refine frF_v (S' := []) (runF_rt (ret_ok ?_)) (by simp [pure_pl, pure_ints]) rfl
  have := read_at_ok (v := v) (S := []) h hr hl
  rw [hx] at this
  exact call3v_ok (var_ok rfl) (var_ok rfl) (sub_ok (var_ok rfl) (sub_ok (node_sub h (var_ok rfl) (var_ok rfl)) c_ok (show ixF (.v (ndD (.read s gs e))) (.v (.int 1)) [] = some (.v (.int s)) from rfl)) (ix_tup (atI_nat (by rw [List.getElem?_map, hv]; rfl)))) this
def plcB : DL.Env → Sto → RS := (sIf (tOfB (eOp eqF (eVar 7) (eVar 4))) (sRet (eVar 8)) sNil)
def bPlaceBehind : DL.Env → Sto → RS :=
  (sSeq (sAsg (gTpN 4 (gsCons (gNm 2) (gsCons (gNm 3) (gsCons (gNm 3) (gsCons (gNm 4) gsNil))))) (eVar 1))
  (sSeq (sAsg (gTpN 4 (gsCons (gNm 3) (gsCons (gNm 3) (gsCons (gNm 5) (gsCons (gNm 6) gsNil))))) (eSub (eSub (eVar 0) (eC (.int 2))) (eVar 2)))
  (sSeq (sForF (eSeq (eVar 5)) (gTpN 2 (gsCons (gNm 7) (gsCons (gNm 8) gsNil))) (sIf (tOfB (eOp eqF (eVar 7) (eVar 4))) (sRet (eVar 8)) sNil))
  (sRet (eVar 6)))))
def dPlaceBehind : List D → Sto → R F := frF (runF 7 bPlaceBehind)
/-- where a value leads -/
def goS (gs : List (Int × Int)) (e x : Int) : Int := match gs.find? (fun g => g.1 == x) with
  | some g => g.2
  | none => e
theorem plc_loop {it : DIt} {S : Sto} (hk : it.ok S) {a0 a1 a2 a3 a5 a6 : Option D} {x : Int} : ∀ (gs : List (Int × Int)) (o7 o8 : Option D), ∃ o7' o8', forL it (gTpN 2 (gsCons (gNm 7) (gsCons (gNm 8) gsNil))) plcB (gs.map prD) [a0, a1, a2, a3, some (.int x), a5, a6, o7, o8] S =
    match gs.find? (fun g => g.1 == x) with
    | some g => .rt (.v (.int g.2)) S
    | none => .nx [a0, a1, a2, a3, some (.int x), a5, a6, o7', o8'] S
  | [], o7, o8 => ⟨o7, o8, by rw [List.map_nil, forL, if_pos hk]; rfl⟩
  | g :: gs, o7, o8 => by
    obtain ⟨u7, u8, ih⟩ := plc_loop hk gs (some (.int g.1)) (some (.int g.2)) (a0 := a0) (a1 := a1) (a2 := a2) (a3 := a3) (a5 := a5) (a6 := a6) (x := x)
    refine ⟨u7, u8, ?_⟩
    have t : tOfB (eOp eqF (eVar 7) (eVar 4)) [a0, a1, a2, a3, some (.int x), a5, a6, some (.int g.1), some (.int g.2)] S = .ok (g.1 == x) S := tofb_ok (op_ok (var_ok rfl) (var_ok rfl) (eq_ii _ _ _))
    rw [List.map_cons, forL, if_pos hk]
    show (match plcB [a0, a1, a2, a3, some (.int x), a5, a6, some (.int g.1), some (.int g.2)] S with
        | .nx ρ2 S2 => forL it (gTpN 2 (gsCons (gNm 7) (gsCons (gNm 8) gsNil))) plcB (gs.map prD) ρ2 S2
        | .ct ρ2 S2 => forL it (gTpN 2 (gsCons (gNm 7) (gsCons (gNm 8) gsNil))) plcB (gs.map prD) ρ2 S2
        | .bk ρ2 S2 => .nx ρ2 S2
        | .rt f S2 => .rt f S2
        | .err x ρ2 S2 => .err x ρ2 S2
        | .bad => .bad) = _
    unfold plcB
    rw [if_ok t]
    cases hg : (g.1 == x) with
    | true =>
      have hf : List.find? (fun g => g.1 == x) (g :: gs) = some g := List.find?_cons_of_pos hg
      rw [hf, if_pos rfl, ret_ok (var_ok (d := .int g.2) rfl)]
    | false =>
      have hf : List.find? (fun g => g.1 == x) (g :: gs) = gs.find? (fun g => g.1 == x) := List.find?_cons_of_neg (by rw [hg]; decide)
      rw [hf, if_neg (by decide)]
      exact ih
theorem place_behind_ok {q : Plan} {p s s' v : Nat} {w x e : Int} {gs : List (Int × Int)} {S : Sto} (h : q.ns[p]? = some (.read s gs e)) : dPlaceBehind [plD q, rdD (p, s', w, x)] S = .ok (.v (.int (goS gs e x))) S := by
  refine frF_v (S' := []) (runF_rt ?_) (by simp [pure_pl, rdD]) rfl
  obtain ⟨u7, u8, hl⟩ := plc_loop (it := ⟨gs.map prD, []⟩) (S := []) (by simp [DIt.ok]) (a0 := some (plD q)) (a1 := some (rdD (p, s', w, x))) (a2 := some (.int p)) (a3 := some (.int s)) (a5 := some (.tup (gs.map prD))) (a6 := some (.int e)) (x := x) gs none none
  unfold bPlaceBehind
  refine (seq_to [some (plD q), some (rdD (p, s', w, x)), some (.int p), some (.int w), some (.int x), none, none, none, none] [] ?_).trans ?_
  · rfl
  refine (seq_to [some (plD q), some (rdD (p, s', w, x)), some (.int p), some (.int s), some (.int x), some (.tup (gs.map prD)), some (.int e), none, none] [] ?_).trans ?_
  · unfold sAsg eBox
    rw [node_sub h (var_ok rfl) (var_ok rfl)]
    rfl
  have hf : sForF (eSeq (eVar 5)) (gTpN 2 (gsCons (gNm 7) (gsCons (gNm 8) gsNil))) plcB [some (plD q), some (rdD (p, s', w, x)), some (.int p), some (.int s), some (.int x), some (.tup (gs.map prD)), some (.int e), none, none] [] = (match gs.find? (fun g => g.1 == x) with
    | some g => .rt (.v (.int g.2)) []
    | none => .nx [some (plD q), some (rdD (p, s', w, x)), some (.int p), some (.int s), some (.int x), some (.tup (gs.map prD)), some (.int e), u7, u8] []) := by
    rw [sForF_eq]
    exact hl
  unfold goS
  cases hfd : gs.find? (fun g => g.1 == x) with
  | some g =>
    rw [hfd] at hf
    exact seq_rt hf
  | none =>
    rw [hfd] at hf
    exact (seq_nx hf).trans (ret_ok (var_ok rfl))
/-! ### walk -/
structure GoodW (q : Plan) : Prop where
  ng : ∀ x ∈ q.ns, GoodN q.rs.length q.ns.length x
  rl : ∀ r ∈ q.rs, r.2.length ≤ 4
def endD (q : Plan) (p : Int) : D := match q.ns[p.toNat]? with
  | some (.read _ _ _) => .tup [.str "open", .int p]
  | some nd => ndD nd
  | none => .non
def walkS (q : Plan) : Int → List Int → List (Int × Int × Int × Int) × D
  | p, [] => ([], endD q p)
  | p, v :: vs => match q.ns[p.toNat]? with
    | some (.read s gs e) => (match (q.rs[s.toNat]?).bind fun r => verV r v with
      | some x => ((p, s, v, x) :: (walkS q (goS gs e x) vs).1, (walkS q (goS gs e x) vs).2)
      | none => ([], .tup [.str "astray", .int p]))
    | _ => ([], endD q p)
theorem goS_in {gs : List (Int × Int)} {e x nd : Int} (h : GoodG nd gs) (e0 : 0 ≤ e) (e1 : e < nd) : 0 ≤ goS gs e x ∧ goS gs e x < nd := by
  unfold goS
  cases hf : gs.find? (fun g => g.1 == x) with
  | none => exact ⟨e0, e1⟩
  | some g => exact (h.2.2 g (List.mem_of_find?_eq_some hf)).2.2
theorem at_i {α : Type} {l : List α} {p : Int} (h0 : 0 ≤ p) (h1 : p < l.length) : ∃ x, l[p.toNat]? = some x ∧ x ∈ l ∧ (p.toNat : Int) = p :=
  ⟨l[p.toNat]'(by omega), List.getElem?_eq_getElem _, List.getElem_mem _, by omega⟩
theorem at_end_i {q : Plan} {p : Int} {nd : Node} {S : Sto} (h0 : 0 ≤ p) (h : q.ns[p.toNat]? = some nd) : dIsAtEnd [plD q, .int p] S = .ok (.v (.bl (!isRead nd))) S := by
  have := is_at_end_ok (S := S) h
  rwa [show (p.toNat : Int) = p by omega] at this
theorem seq_bk {s t : Env → Sto → RS} {ρ ρ1 : Env} {S S1 : Sto} (h : s ρ S = .bk ρ1 S1) : sSeq s t ρ S = .bk ρ1 S1 := by unfold sSeq; rw [h]
theorem for_bk {it : DIt} {g : D → Env → Option Env} {se : Env → Sto → RS} {d : D} {ds : List D} {ρ ρ1 ρ2 : Env} {S S2 : Sto} (ok : it.ok S) (hg : g d ρ = some ρ1) (h : se ρ1 S = .bk ρ2 S2) : forL it g se (d :: ds) ρ S = .nx ρ2 S2 := by
  simp only [forL]
  rw [if_pos ok, hg]
  simp only
  rw [h]
theorem for_rt {it : DIt} {g : D → Env → Option Env} {se : Env → Sto → RS} {d : D} {ds : List D} {ρ ρ1 : Env} {S S2 : Sto} {f : F} (ok : it.ok S) (hg : g d ρ = some ρ1) (h : se ρ1 S = .rt f S2) : forL it g se (d :: ds) ρ S = .rt f S2 := by
  simp only [forL]
  rw [if_pos ok, hg]
  simp only
  rw [h]
def wkB : DL.Env → Sto → RS := (sSeq (sIf (tTru (eCall 2 dIsAtEnd (eCons (eVar 0) (eCons (eVar 4) eNil)))) sBrk sNil)
  (sSeq (sAsg (gNm 6) (eCall 3 dReadAt (eCons (eVar 0) (eCons (eVar 4) (eCons (eVar 5) eNil)))))
  (sSeq (sIf (tOfB (eOp isF (eVar 6) (eC .non))) (sRet (eTup (eCons (eB (f1 tupleF) (fCons (eVar 3) fNil)) (eCons (eTup (eCons (eC (.str "astray")) (eCons (eVar 4) eNil))) eNil)))) sNil)
  (sSeq (sMtL appO (eVar 3) (eCons (eVar 6) eNil))
  (sAsg (gNm 4) (eCall 2 dPlaceBehind (eCons (eVar 0) (eCons (eVar 6) eNil))))))))
def bWalk : DL.Env → Sto → RS :=
  (sSeq (sAsg (gNm 3) (eLst eNil))
  (sSeq (sAsg (gNm 4) (eVar 1))
  (sSeq (sForF (eSeq (eVar 2)) (gNm 5) (sSeq (sIf (tTru (eCall 2 dIsAtEnd (eCons (eVar 0) (eCons (eVar 4) eNil)))) sBrk sNil)
  (sSeq (sAsg (gNm 6) (eCall 3 dReadAt (eCons (eVar 0) (eCons (eVar 4) (eCons (eVar 5) eNil)))))
  (sSeq (sIf (tOfB (eOp isF (eVar 6) (eC .non))) (sRet (eTup (eCons (eB (f1 tupleF) (fCons (eVar 3) fNil)) (eCons (eTup (eCons (eC (.str "astray")) (eCons (eVar 4) eNil))) eNil)))) sNil)
  (sSeq (sMtL appO (eVar 3) (eCons (eVar 6) eNil))
  (sAsg (gNm 4) (eCall 2 dPlaceBehind (eCons (eVar 0) (eCons (eVar 6) eNil)))))))))
  (sRet (eTup (eCons (eB (f1 tupleF) (fCons (eVar 3) fNil)) (eCons (eIf (tTru (eCall 2 dIsAtEnd (eCons (eVar 0) (eCons (eVar 4) eNil)))) (eSub (eSub (eVar 0) (eC (.int 2))) (eVar 4)) (eTup (eCons (eC (.str "open")) (eCons (eVar 4) eNil)))) eNil)))))))
def dWalk : List D → Sto → R F := frF (runF 4 bWalk)
theorem tupleF_loc {S : Sto} {n : Nat} {ds : List D} (h : S[n]? = some (.lst ds)) : tupleF (.v (.loc n)) S = some (.v (.tup ds)) := by
  show (getL (.v (.loc n)) S).map (fun ds => F.v (.tup ds)) = _
  have : getL (.v (.loc n)) S = some ds := by simp only [getL, h]
  rw [this]; rfl
theorem walk_loop {q : Plan} (g : GoodW q) {it : DIt} (hk : ∀ S, it.ok S) {a1 a2 : Option D} : ∀ (vs : List Int) (p : Int) (acc : List (Int × Int × Int × Int)) (o5 o6 : Option D), 0 ≤ p → p < q.ns.length → acc.length + vs.length ≤ 10000 →
    (∃ (p' : Int) (o5' o6' : Option D), 0 ≤ p' ∧ p' < q.ns.length ∧ (walkS q p vs).2 = endD q p' ∧ forL it (gNm 5) wkB (vs.map .int) [some (plD q), a1, a2, some (.loc 0), some (.int p), o5, o6] [.lst (acc.map rdD)] = .nx [some (plD q), a1, a2, some (.loc 0), some (.int p'), o5', o6'] [.lst ((acc ++ (walkS q p vs).1).map rdD)]) ∨
    forL it (gNm 5) wkB (vs.map .int) [some (plD q), a1, a2, some (.loc 0), some (.int p), o5, o6] [.lst (acc.map rdD)] = .rt (.v (.tup [.tup ((acc ++ (walkS q p vs).1).map rdD), (walkS q p vs).2])) [.lst ((acc ++ (walkS q p vs).1).map rdD)]
  | [], p, acc, o5, o6, p0, p1, _ => .inl ⟨p, o5, o6, p0, p1, rfl, by rw [List.map_nil, forL, if_pos (hk _)]; show _ = RS.nx _ [.lst ((acc ++ []).map rdD)]; rw [List.append_nil]⟩
  | v :: vs, p, acc, o5, o6, p0, p1, hl => by
    obtain ⟨nd, hn, hm, hp⟩ := at_i p0 p1
    rw [List.map_cons]
    have t := tru_bl (call2_ok (df := dIsAtEnd) (ee := eVar 0) (eg := eVar 4) (ρ := [some (plD q), a1, a2, some (.loc 0), some (.int p), some (.int v), o6]) (var_ok rfl) (var_ok rfl) (at_end_i (S := [.lst (acc.map rdD)]) p0 hn))
    cases nd with
    | read s gs e =>
      obtain ⟨s0, s1, gg, e0, e1⟩ := g.ng _ hm
      obtain ⟨r, hr, hrm, hs⟩ := at_i s0 s1
      have hrd := read_at_ok (v := v) (S := [.lst (acc.map rdD)]) (s := s.toNat) (p := p.toNat) (gs := gs) (e := e) (by rw [hs]; exact hn) hr (g.rl r hrm)
      rw [hp, hs] at hrd
      have ew : walkS q p (v :: vs) = (match verV r v with
        | some x => ((p, s, v, x) :: (walkS q (goS gs e x) vs).1, (walkS q (goS gs e x) vs).2)
        | none => ([], .tup [.str "astray", .int p])) := by
        rw [walkS, hn]
        show (match (q.rs[s.toNat]?).bind fun r => verV r v with
          | some x => ((p, s, v, x) :: (walkS q (goS gs e x) vs).1, (walkS q (goS gs e x) vs).2)
          | none => ([], D.tup [.str "astray", .int p])) = _
        rw [hr]; rfl
      rw [ew]
      cases hx : verV r v with
      | none =>
        rw [hx] at hrd
        right
        rw [for_rt (f := .v (.tup [.tup (acc.map rdD), .tup [.str "astray", .int p]])) (S2 := [.lst (acc.map rdD)]) (hk _) (by rfl) ?_]
        · show _ = RS.rt (.v (.tup [.tup ((acc ++ []).map rdD), _])) [.lst ((acc ++ []).map rdD)]
          rw [List.append_nil]
        · unfold wkB
          refine (seq_nx (if_no t)).trans ?_
          refine (seq_nx (asgv (call3v_ok (var_ok rfl) (var_ok rfl) (var_ok rfl) hrd))).trans ?_
          refine seq_rt ((if_ok (tofb_ok (op_ok (var_ok rfl) c_ok (show isF (.v .non) (.v .non) _ = some (.v (.bl true)) from rfl)))).trans ((if_pos rfl).trans (ret_ok ?_)))
          exact tup_ok (cons_ok (b1_ok (var_ok rfl) (tupleF_loc rfl)) (cons_ok (tup_ok (cons_ok c_ok (cons_ok (var_ok rfl) nil_ok)) (by simp)) nil_ok)) (by simp)
      | some x =>
        rw [hx] at hrd
        have hpb := place_behind_ok (S := [.lst ((acc ++ [(p, s, v, x)]).map rdD)]) (s := s.toNat) (s' := s.toNat) (v := 0) (w := v) (x := x) (p := p.toNat) (gs := gs) (e := e) (by rw [hs]; exact hn)
        rw [hp, hs] at hpb
        have gi := goS_in (x := x) gg e0 e1
        have ih := walk_loop g hk (a1 := a1) (a2 := a2) vs (goS gs e x) (acc ++ [(p, s, v, x)]) (some (.int v)) (some (rdD (p, s, v, x))) gi.1 gi.2 (by simp at hl ⊢; omega)
        rw [for_nx (ρ2 := [some (plD q), a1, a2, some (.loc 0), some (.int (goS gs e x)), some (.int v), some (rdD (p, s, v, x))]) (S2 := [.lst ((acc ++ [(p, s, v, x)]).map rdD)]) (hk _) (by rfl) ?_]
        · simp only [List.append_assoc, List.singleton_append] at ih
          exact ih
        · unfold wkB
          refine (seq_nx (if_no t)).trans ?_
          refine (seq_nx (asgv (call3v_ok (var_ok rfl) (var_ok rfl) (var_ok rfl) hrd))).trans ?_
          refine (seq_nx (if_no (tofb_ok (op_ok (var_ok rfl) c_ok (show isF (.v (rdD (p, s, v, x))) (.v .non) _ = some (.v (.bl false)) from rfl))))).trans ?_
          refine (seq_nx (mt_ok (ds := [rdD (p, s, v, x)]) (S3 := [.lst ((acc ++ [(p, s, v, x)]).map rdD)]) (var_ok rfl) (by rfl) (cons_ok (var_ok rfl) nil_ok) ?_)).trans ?_
          · rw [app_loc (ds := acc.map rdD) rfl (by rw [List.length_map]; simp at hl; omega), List.map_append]; rfl
          · exact asgv (call2_ok (var_ok rfl) (var_ok rfl) hpb)
    | good =>
      left
      have ew : walkS q p (v :: vs) = ([], endD q p) := by rw [walkS, hn]
      rw [ew]
      refine ⟨p, some (.int v), o6, p0, p1, rfl, ?_⟩
      rw [for_bk (ρ2 := [some (plD q), a1, a2, some (.loc 0), some (.int p), some (.int v), o6]) (S2 := [.lst (acc.map rdD)]) (hk _) (by rfl) ?_]
      · show _ = RS.nx _ [.lst ((acc ++ []).map rdD)]; rw [List.append_nil]
      · exact seq_bk ((if_ok t).trans rfl)
    | misled =>
      left
      have ew : walkS q p (v :: vs) = ([], endD q p) := by rw [walkS, hn]
      rw [ew]
      refine ⟨p, some (.int v), o6, p0, p1, rfl, ?_⟩
      rw [for_bk (ρ2 := [some (plD q), a1, a2, some (.loc 0), some (.int p), some (.int v), o6]) (S2 := [.lst (acc.map rdD)]) (hk _) (by rfl) ?_]
      · show _ = RS.nx _ [.lst ((acc ++ []).map rdD)]; rw [List.append_nil]
      · exact seq_bk ((if_ok t).trans rfl)
theorem end_pure (q : Plan) (p : Int) : pureD (endD q p) = true := by
  unfold endD
  cases q.ns[p.toNat]? with
  | none => rfl
  | some nd => cases nd <;> rfl
theorem walkS_pure (q : Plan) : ∀ (vs : List Int) (p : Int), pureD (walkS q p vs).2 = true
  | [], p => end_pure q p
  | v :: vs, p => by
    rw [walkS]
    split
    · split
      · exact walkS_pure q vs _
      · rfl
    · exact end_pure q p
theorem seq_tupI {l : List Int} {ee : Env → Sto → R F} {ρ : Env} {S S1 : Sto} {ds : List D} (h : ee ρ S = .ok (.v (.tup ds)) S1) : eSeq ee ρ S = .ok ⟨ds, []⟩ S1 := by
  unfold eSeq; rw [h]; rfl
theorem walk_ok {q : Plan} (g : GoodW q) {p : Int} {vs : List Int} {S : Sto} (p0 : 0 ≤ p) (p1 : p < q.ns.length) (hl : vs.length ≤ 10000) :
    dWalk [plD q, .int p, .tup (vs.map .int)] S = .ok (.v (.tup [.tup ((walkS q p vs).1.map rdD), (walkS q p vs).2])) S := by
  refine frF_v (S' := [.lst ((walkS q p vs).1.map rdD)]) (runF_rt ?_) (by simp [pure_pl, pure_ints]) (by simp [walkS_pure, pure_map rdD _ fun x _ => (rfl : pureD (rdD x) = true)])
  unfold bWalk
  refine (seq_to [some (plD q), some (.int p), some (.tup (vs.map .int)), some (.loc 0), none, none, none] [.lst []] ?_).trans ?_
  · rfl
  refine (seq_to [some (plD q), some (.int p), some (.tup (vs.map .int)), some (.loc 0), some (.int p), none, none] [.lst []] ?_).trans ?_
  · rfl
  have lp := walk_loop g (it := ⟨vs.map .int, []⟩) (by simp [DIt.ok]) (a1 := some (.int p)) (a2 := some (.tup (vs.map .int))) vs p [] none none p0 p1 (by simpa using hl)
  have hf : ∀ r, forL ⟨vs.map .int, []⟩ (gNm 5) wkB (vs.map .int) [some (plD q), some (.int p), some (.tup (vs.map .int)), some (.loc 0), some (.int p), none, none] [.lst []] = r → sForF (eSeq (eVar 2)) (gNm 5) wkB [some (plD q), some (.int p), some (.tup (vs.map .int)), some (.loc 0), some (.int p), none, none] [.lst []] = r := fun r h => by
    rw [sForF_eq, for_ok (it := ⟨vs.map .int, []⟩) (S1 := [.lst []]) (seq_tupI (l := vs) (var_ok rfl))]
    exact h
  rcases lp with ⟨p', o5, o6, q0, q1, e1, e2⟩ | e2
  · refine (seq_nx (hf _ e2)).trans ?_
    obtain ⟨nd, hn, hm, hp⟩ := at_i q0 q1
    have t := tru_bl (call2_ok (df := dIsAtEnd) (ee := eVar 0) (eg := eVar 4) (ρ := [some (plD q), some (.int p), some (.tup (vs.map .int)), some (.loc 0), some (.int p'), o5, o6]) (var_ok rfl) (var_ok rfl) (at_end_i (S := [.lst ((walkS q p vs).1.map rdD)]) q0 hn))
    rw [e1]
    refine ret_ok (tup_ok (cons_ok (b1_ok (var_ok rfl) (tupleF_loc rfl)) (cons_ok ((eif_ok t).trans ?_) nil_ok)) (by simp))
    have hnode := node_sub (p := p'.toNat) (ea := eVar 0) (eb := eVar 4) (ρ := [some (plD q), some (.int p), some (.tup (vs.map .int)), some (.loc 0), some (.int p'), o5, o6]) (S := [.lst ((walkS q p vs).1.map rdD)]) hn (var_ok rfl) (by rw [hp]; exact var_ok rfl)
    unfold endD
    rw [hn]
    cases nd with
    | read s gs e =>
      refine (if_neg (by simp [isRead])).trans ?_
      exact tup_ok (cons_ok c_ok (cons_ok (var_ok rfl) nil_ok)) (by simp)
    | good => exact (if_pos rfl).trans hnode
    | misled => exact (if_pos rfl).trans hnode
  · exact seq_rt (hf _ e2)
/-! ### still_walk -/
def outD : Node → D
  | .good => .str "good"
  | .misled => .str "misled"
  | _ => .non
def stillS (q : Plan) (vs : List Int) : Nat → Int → Int → D
  | 0, _, _ => .non
  | k + 1, c, p => match q.ns[p.toNat]? with
    | some (.read s gs e) => (match (q.rs[s.toNat]?).bind fun r => (vs[s.toNat]?).bind fun v => verV r v with
      | some x => stillS q vs k (c + 1) (goS gs e x)
      | none => .non)
    | some nd => .tup [.int c, outD nd]
    | none => .non
def stB : DL.Env → Sto → RS := (sSeq (sIf (tTru (eCall 2 dIsAtEnd (eCons (eVar 0) (eCons (eVar 3) eNil)))) (sRet (eTup (eCons (eVar 4) (eCons (eSub (eSub (eSub (eVar 0) (eC (.int 2))) (eVar 3)) (eC (.int 1))) eNil)))) sNil)
  (sAsg (gNm 3) (eCall 2 dPlaceBehind (eCons (eVar 0) (eCons (eCall 3 dReadOf (eCons (eVar 0) (eCons (eVar 3) (eCons (eVar 1) eNil)))) eNil)))))
def bStillWalk : DL.Env → Sto → RS :=
  (sSeq (sAsg (gNm 3) (eVar 2))
  (sSeq (sForF (eRng1 (fCons (eB (f1 lenF) (fCons (eSub (eVar 0) (eC (.int 2))) fNil)) fNil)) (gNm 4) (sSeq (sIf (tTru (eCall 2 dIsAtEnd (eCons (eVar 0) (eCons (eVar 3) eNil)))) (sRet (eTup (eCons (eVar 4) (eCons (eSub (eSub (eSub (eVar 0) (eC (.int 2))) (eVar 3)) (eC (.int 1))) eNil)))) sNil)
  (sAsg (gNm 3) (eCall 2 dPlaceBehind (eCons (eVar 0) (eCons (eCall 3 dReadOf (eCons (eVar 0) (eCons (eVar 3) (eCons (eVar 1) eNil)))) eNil))))))
  (sRet (eC .non))))
def dStillWalk : List D → Sto → R F := frF (runF 2 bStillWalk)
/-- versions that stand: one for each sign, none too great -/
def GoodV (q : Plan) (vs : List Int) : Prop := vs.length = q.rs.length ∧ ∀ (s : Nat) (r : Row) (v : Int), q.rs[s]? = some r → vs[s]? = some v → ∃ x, verV r v = some x
theorem rngI_cons (a : Int) (n : Nat) : rngI a (n + 1) = a :: rngI (a + 1) n := by
  unfold rngI
  rw [List.range_succ_eq_map, List.map_cons, List.map_map]
  congr 1
  · simp
  · apply List.map_congr_left
    intro i _
    show a + ((i + 1 : Nat) : Int) = a + 1 + i
    omega
theorem still_loop {q : Plan} (g : GoodW q) {vs : List Int} (gv : GoodV q vs) {it : DIt} (hk : ∀ S, it.ok S) {a2 : Option D} : ∀ (k : Nat) (c p : Int) (o4 : Option D), 0 ≤ p → p < q.ns.length →
    (∃ (p' : Int) (o4' : Option D), stillS q vs k c p = .non ∧ forL it (gNm 4) stB ((rngI c k).map .int) [some (plD q), some (.tup (vs.map .int)), a2, some (.int p), o4] [] = .nx [some (plD q), some (.tup (vs.map .int)), a2, some (.int p'), o4'] []) ∨
    (pureD (stillS q vs k c p) = true ∧ forL it (gNm 4) stB ((rngI c k).map .int) [some (plD q), some (.tup (vs.map .int)), a2, some (.int p), o4] [] = .rt (.v (stillS q vs k c p)) [])
  | 0, c, p, o4, p0, p1 => .inl ⟨p, o4, rfl, by show forL it (gNm 4) stB [] _ _ = _; rw [forL, if_pos (hk _)]⟩
  | k + 1, c, p, o4, p0, p1 => by
    obtain ⟨nd, hn, hm, hp⟩ := at_i p0 p1
    rw [rngI_cons, List.map_cons]
    have t := tru_bl (call2_ok (df := dIsAtEnd) (ee := eVar 0) (eg := eVar 3) (ρ := [some (plD q), some (.tup (vs.map .int)), a2, some (.int p), some (.int c)]) (var_ok rfl) (var_ok rfl) (at_end_i (S := []) p0 hn))
    have hnode := node_sub (p := p.toNat) (ea := eVar 0) (eb := eVar 3) (ρ := [some (plD q), some (.tup (vs.map .int)), a2, some (.int p), some (.int c)]) (S := []) hn (var_ok rfl) (by rw [hp]; exact var_ok rfl)
    have fin : ∀ (w : D), stillS q vs (k + 1) c p = .tup [.int c, w] → isRead nd = false → ixF (.v (ndD nd)) (.v (.int 1)) [] = some (.v w) → pureD w = true → pureD (stillS q vs (k + 1) c p) = true ∧ forL it (gNm 4) stB (.int c :: (rngI (c + 1) k).map .int) [some (plD q), some (.tup (vs.map .int)), a2, some (.int p), o4] [] = .rt (.v (stillS q vs (k + 1) c p)) [] := fun w e1 e2 e3 e4 => by
      rw [e1]
      refine ⟨by simp [e4], ?_⟩
      refine for_rt (hk _) (by rfl) ?_
      unfold stB
      rw [e2] at t
      refine seq_rt ((if_ok t).trans ((if_pos rfl).trans (ret_ok (tup_ok (cons_ok (var_ok rfl) (cons_ok (sub_ok hnode c_ok e3) nil_ok)) (by simp)))))
    cases nd with
    | read s gs e =>
      obtain ⟨s0, s1, gg, e0, e1⟩ := g.ng _ hm
      obtain ⟨r, hr, hrm, hs⟩ := at_i s0 s1
      obtain ⟨v, hv, _, _⟩ := at_i (l := vs) s0 (by rw [gv.1]; exact s1)
      obtain ⟨x, hx⟩ := gv.2 _ r v hr hv
      have hrd := read_of_ok (S := []) (s := s.toNat) (p := p.toNat) (gs := gs) (e := e) (by rw [hs]; exact hn) hr (g.rl r hrm) hv hx
      have hpb := place_behind_ok (S := []) (s := s.toNat) (s' := s.toNat) (v := 0) (w := v) (x := x) (p := p.toNat) (gs := gs) (e := e) (by rw [hs]; exact hn)
      rw [hp, hs] at hrd hpb
      have gi := goS_in (x := x) gg e0 e1
      have ew : stillS q vs (k + 1) c p = stillS q vs k (c + 1) (goS gs e x) := by
        rw [stillS, hn]
        show (match (q.rs[s.toNat]?).bind fun r => (vs[s.toNat]?).bind fun v => verV r v with
          | some x => stillS q vs k (c + 1) (goS gs e x)
          | none => .non) = _
        rw [hr, hv]
        show (match verV r v with
          | some x => stillS q vs k (c + 1) (goS gs e x)
          | none => .non) = _
        rw [hx]
      rw [ew, for_nx (ρ2 := [some (plD q), some (.tup (vs.map .int)), a2, some (.int (goS gs e x)), some (.int c)]) (S2 := []) (hk _) (by rfl) ?_]
      · exact still_loop g gv hk k (c + 1) (goS gs e x) (some (.int c)) gi.1 gi.2
      · unfold stB
        refine (seq_nx (if_no t)).trans ?_
        exact asgv (call2_ok (var_ok rfl) (call3v_ok (var_ok rfl) (var_ok rfl) (var_ok rfl) hrd) hpb)
    | good => exact .inr (fin (.str "good") (by rw [stillS, hn]; rfl) rfl rfl rfl)
    | misled => exact .inr (fin (.str "misled") (by rw [stillS, hn]; rfl) rfl rfl rfl)
theorem still_walk_ok {q : Plan} (g : GoodW q) {vs : List Int} (gv : GoodV q vs) {p : Int} {S : Sto} (p0 : 0 ≤ p) (p1 : p < q.ns.length) (hl : q.ns.length ≤ 1000) :
    dStillWalk [plD q, .tup (vs.map .int), .int p] S = .ok (.v (stillS q vs q.ns.length 0 p)) S := by
  have hr : eRng1 (fCons (eB (f1 lenF) (fCons (eSub (eVar 0) (eC (.int 2))) fNil)) fNil) [some (plD q), some (.tup (vs.map .int)), some (.int p), some (.int p), none] [] = .ok ⟨rngD 0 q.ns.length, []⟩ [] := by
    have h1 : eB (f1 lenF) (fCons (eSub (eVar 0) (eC (.int 2))) fNil) [some (plD q), some (.tup (vs.map .int)), some (.int p), some (.int p), none] [] = .ok (.v (.int (q.ns.map ndD).length)) [] := b1_ok (sub_ok (var_ok rfl) c_ok (show ixF (.v (plD q)) (.v (.int 2)) [] = some (.v (.tup (q.ns.map ndD))) from rfl)) rfl
    rw [List.length_map] at h1
    have := rng1_ok (k := (q.ns.length : Int)) h1 (by omega) (by omega)
    simpa using this
  have hf : ∀ r, forL ⟨rngD 0 q.ns.length, []⟩ (gNm 4) stB ((rngI 0 q.ns.length).map .int) [some (plD q), some (.tup (vs.map .int)), some (.int p), some (.int p), none] [] = r → sForF (eRng1 (fCons (eB (f1 lenF) (fCons (eSub (eVar 0) (eC (.int 2))) fNil)) fNil)) (gNm 4) stB [some (plD q), some (.tup (vs.map .int)), some (.int p), some (.int p), none] [] = r := fun r h => by
    rw [sForF_eq, for_ok hr]
    rw [rngD_I] at h ⊢
    exact h
  rcases still_loop g gv (it := ⟨rngD 0 q.ns.length, []⟩) (by simp [DIt.ok]) (a2 := some (.int p)) q.ns.length 0 p none p0 p1 with ⟨p', o4, e1, e2⟩ | ⟨e1, e2⟩
  · refine frF_v (S' := []) (runF_rt ?_) (by simp [pure_pl, pure_ints]) (by rw [e1]; rfl)
    unfold bStillWalk
    refine (seq_to [some (plD q), some (.tup (vs.map .int)), some (.int p), some (.int p), none] [] ?_).trans ?_
    · rfl
    refine (seq_nx (hf _ e2)).trans ?_
    rw [e1]
    exact ret_ok c_ok
  · refine frF_v (S' := []) (runF_rt ?_) (by simp [pure_pl, pure_ints]) e1
    unfold bStillWalk
    refine (seq_to [some (plD q), some (.tup (vs.map .int)), some (.int p), some (.int p), none] [] ?_).trans ?_
    · rfl
    exact seq_rt (hf _ e2)
end Pen
end DL
/-! ## DLc -/
set_option maxHeartbeats 1000000
/-! Comprehensions and loops that draw; values, ways. -/
namespace DL
open PySem PySem.Spec L2
namespace Pen
inductive All2 {α β : Type} (P : α → β → Prop) : List α → List β → Prop
  | nil : All2 P [] []
  | cons {a b as bs} : P a b → All2 P as bs → All2 P (a :: as) (b :: bs)
theorem All2.len {α β : Type} {P : α → β → Prop} : ∀ {as : List α} {bs : List β}, All2 P as bs → as.length = bs.length
  | _, _, .nil => rfl
  | _, _, .cons _ t => by simp [t.len]
theorem All2.get {α β : Type} {P : α → β → Prop} : ∀ {as : List α} {bs : List β}, All2 P as bs → ∀ {i : Nat} {a : α}, as[i]? = some a → ∃ b, bs[i]? = some b ∧ P a b
  | _, _, .cons h _, 0, a, e => by
    simp at e; subst e
    exact ⟨_, rfl, h⟩
  | _, _, .cons _ t, i + 1, a, e => by
    obtain ⟨b, h1, h2⟩ := t.get (i := i) (a := a) (by simpa using e)
    exact ⟨b, by simpa using h1, h2⟩
theorem All2.ints {α : Type} {P : α → Int → Prop} {as : List α} : ∀ {bs : List D}, All2 (fun a b => ∃ i, b = .int i ∧ P a i) as bs → ∃ is : List Int, bs = is.map .int ∧ All2 P as is
  | _, .nil => ⟨[], rfl, .nil⟩
  | _, .cons ⟨i, e, h⟩ t => by
    obtain ⟨is, e2, h2⟩ := t.ints
    exact ⟨i :: is, by rw [e, e2]; rfl, .cons h h2⟩
theorem All2.r {α β : Type} {P : α → β → Prop} {Q : β → Prop} : ∀ {as : List α} {bs : List β}, All2 P as bs → (∀ a b, P a b → Q b) → ∀ b ∈ bs, Q b
  | _, _, .nil, _, b, hb => by cases hb
  | _, _, .cons h t, f, b, hb => by
    rcases List.mem_cons.mp hb with rfl | hb
    · exact f _ _ h
    · exact t.r f b hb
/-- a comprehension whose elements draw -/
theorem lc_pen {p : Nat} {it : DIt} {g : D → Env → Option Env} {ee : Env → Sto → R F} {ρ : Env} (hk : ∀ S, it.ok S) (P : D → D → Prop) (c B : Int) (c0 : 0 ≤ c) : ∀ (ds : List D) (S : Sto) (n : Int), Pn p S n → n + c * ds.length ≤ B →
    (∀ d ∈ ds, ∀ (S' : Sto) (n' : Int), Pn p S' n' → n' ≤ B → ∃ ρ1 y S'', g d ρ = some ρ1 ∧ ee ρ1 S' = .ok (.v y) S'' ∧ P d y ∧ Pn p S'' (n' + c) ∧ Ext [p] S' S'') →
    ∃ ys S', lcL it g tYes' ee ρ ds S = .ok ys S' ∧ All2 P ds ys ∧ Pn p S' (n + c * ds.length) ∧ Ext [p] S S'
  | [], S, n, h, hB, f => ⟨[], S, lc_nil (hk S), .nil, h.mono (by simp), .refl⟩
  | d :: ds, S, n, h, hB, f => by
    have e : c * ((d :: ds).length : Int) = c + c * ds.length := by
      rw [List.length_cons]
      show c * ((ds.length : Int) + 1) = _
      rw [Int.mul_add]; omega
    have hp : 0 ≤ c * (ds.length : Int) := Int.mul_nonneg c0 (by omega)
    obtain ⟨ρ1, y, S1, h1, h2, h3, h4, h5⟩ := f d List.mem_cons_self S n h (by omega)
    obtain ⟨ys, S2, e2, a2, p2, x2⟩ := lc_pen hk P c B c0 ds S1 (n + c) h4 (by omega) fun z hz => f z (List.mem_cons_of_mem _ hz)
    exact ⟨y :: ys, S2, lc_cons (hk S) h1 h2 e2, .cons h3 a2, p2.mono (by omega), h5.trans x2⟩
theorem elc_pen {p : Nat} {ei : Env → Sto → R DIt} {g : D → Env → Option Env} {ee : Env → Sto → R F} {vs : List Nat} {ρ : Env} {S S1 : Sto} {it : DIt} (hi : ei ρ S = .ok it S1) (hk : ∀ S, it.ok S) (hl : it.items.length ≤ 1000000) (P : D → D → Prop) (c B : Int) (c0 : 0 ≤ c) {n : Int} (h : Pn p S1 n) (hB : n + c * it.items.length ≤ B)
    (f : ∀ d ∈ it.items, ∀ (S' : Sto) (n' : Int), Pn p S' n' → n' ≤ B → ∃ ρ1 y S'', g d (wipeE ρ vs) = some ρ1 ∧ ee ρ1 S' = .ok (.v y) S'' ∧ P d y ∧ Pn p S'' (n' + c) ∧ Ext [p] S' S'') :
    ∃ ys S', eLc ei g tYes' ee vs ρ S = .ok (.l ys) S' ∧ All2 P it.items ys ∧ Pn p S' (n + c * it.items.length) ∧ Ext [p] S1 S' := by
  obtain ⟨ys, S', e1, e2, e3, e4⟩ := lc_pen hk P c B c0 it.items S1 n h hB f
  exact ⟨ys, S', lc_ok hi hl e1, e2, e3, e4⟩
/-- a loop that goes on: I at each turn -/
theorem for_all {it : DIt} {g : D → Env → Option Env} {se : Env → Sto → RS} (hk : ∀ S, it.ok S) (I : Nat → Env → Sto → Prop) : ∀ (ds : List D) (k : Nat) (ρ : Env) (S : Sto), I k ρ S →
    (∀ (i : Nat) (d : D), ds[i]? = some d → ∀ ρ S, I (k + i) ρ S → ∃ ρ1 ρ2 S2, g d ρ = some ρ1 ∧ se ρ1 S = .nx ρ2 S2 ∧ I (k + i + 1) ρ2 S2) → ∃ ρ' S', forL it g se ds ρ S = .nx ρ' S' ∧ I (k + ds.length) ρ' S'
  | [], k, ρ, S, h, _ => ⟨ρ, S, by rw [forL, if_pos (hk S)], by simpa using h⟩
  | d :: ds, k, ρ, S, h, f => by
    obtain ⟨ρ1, ρ2, S2, h1, h2, h3⟩ := f 0 d rfl ρ S (by simpa using h)
    obtain ⟨ρ', S', e1, e2⟩ := for_all hk I ds (k + 1) ρ2 S2 (by simpa using h3) fun i z hz ρ S hI => by
      have := f (i + 1) z (by simpa using hz) ρ S (by rw [show k + (i + 1) = k + 1 + i by omega]; exact hI)
      rwa [show k + (i + 1) + 1 = k + 1 + i + 1 by omega] at this
    refine ⟨ρ', S', ?_, by rw [List.length_cons, show k + (ds.length + 1) = k + 1 + ds.length by omega]; exact e2⟩
    rw [for_nx (hk S) h1 h2]
    exact e1
end Pen
end DL
/-! ## R1 -/
set_option maxHeartbeats 1000000
/-! The program's regimes: neighbours, names, steps. -/
namespace DL
open PySem PySem.Spec L2
namespace Pen
def bNamesOfA : DL.Env → Sto → RS :=
  (sRet (eB (f1 tupleF) (fCons (eB (f1 sortA) (fCons (eCall 1 (runF 6 bAllPlaces) (eCons (eVar 0) eNil)) fNil)) fNil)))
def dNamesOfA : List D → Sto → R F := runF 0 bNamesOfA
def bNeighbours : DL.Env → Sto → RS :=
  (sSeq (sAsg (gNm 1) (eLst eNil))
  (sSeq (sFor (eSeq (eSub (eVar 0) (eC (.int 0)))) (gTpN 2 (gsCons (gNm 2) (gsCons (gNm 3) gsNil))) (sFor (eZip (fCons (eVar 3) (fCons (eSl (eVar 3) (ePart (eC (.int 1))) eNoPart) fNil))) (gTpN 2 (gsCons (gNm 4) (gsCons (gNm 5) gsNil))) (sMtL appO (eVar 1) (eCons (eTup (eCons (eSub (eVar 4) (eC (.int 0))) (eCons (eSub (eVar 5) (eC (.int 0))) eNil))) eNil))))
  (sRet (eVar 1))))
def dNeighbours : List D → Sto → R F := runF 5 bNeighbours
def bStepsFrom : DL.Env → Sto → RS :=
  (sSeq (sAsg (gNm 3) (eDc (eSeq (eCall 1 dNamesOfA (eCons (eVar 0) eNil))) (gNm 7) tYes' (eVar 7) (eLst eNil) [7]))
  (sSeq (sAsg (gNm 4) (eCall 1 dNeighbours (eCons (eVar 0) eNil)))
  (sSeq (sFor (eSeq (eLst (eStar (eVar 1) (eStar (eVar 2) (eStar (eVar 4) eNil))))) (gTpN 2 (gsCons (gNm 5) (gsCons (gNm 6) gsNil))) (sSeq (sMtL appO (eSetd (eVar 3) (eVar 5) (eLst eNil)) (eCons (eVar 6) eNil))
  (sDrop (eSetd (eVar 3) (eVar 6) (eLst eNil)))))
  (sRet (eVar 3)))))
def dStepsFrom : List D → Sto → R F := runF 5 bStepsFrom
/-! ### neighbours -/
def neighR (cs : List (Int × Int)) : List (Int × Int) := (cs.zip (cs.drop 1)).map fun z => (z.1.1, z.2.1)
def neigh (rs : List Row) : List (Int × Int) := rs.flatMap fun r => neighR r.2
theorem zipD_map : ∀ (xs ys : List (Int × Int)), zipD (xs.map prD) (ys.map prD) = (xs.zip ys).map fun z => D.tup [prD z.1, prD z.2]
  | [], _ => by simp [zipD]
  | _ :: _, [] => by simp [zipD]
  | x :: xs, y :: ys => by simp [zipD, zipD_map xs ys]
theorem app_at {S : Sto} {n : Nat} {ds : List D} {d : D} {ρ : Env} {eo : Env → Sto → R F} {ea : Env → Sto → R (List D)} (ho : eo ρ S = .ok (.v (.loc n)) S) (ha : ea ρ S = .ok [d] S) (h : S[n]? = some (.lst ds)) (hl : ds.length ≤ 1000000) : sMtL appO eo ea ρ S = .nx ρ (S.set n (.lst (ds ++ [d]))) :=
  mt_ok ho (isL_loc h) ha (app_loc h hl)
abbrev nbI : Env → Sto → RS := sMtL appO (eVar 1) (eCons (eTup (eCons (eSub (eVar 4) (eC (.int 0))) (eCons (eSub (eVar 5) (eC (.int 0))) eNil))) eNil)
theorem nb_in {xs : List D} {q o2 o3 : Option D} {f : Nat} : ∀ (zs : List ((Int × Int) × (Int × Int))) (ds : List D) (o4 o5 : Option D) (S : Sto), S[f]? = some (.lst ds) → ds.length + zs.length ≤ 100000 →
    ∃ o4' o5', forL ⟨xs, []⟩ (gTpN 2 (gsCons (gNm 4) (gsCons (gNm 5) gsNil))) nbI (zs.map fun z => D.tup [prD z.1, prD z.2]) [q, some (.loc f), o2, o3, o4, o5] S = .nx [q, some (.loc f), o2, o3, o4', o5'] (S.set f (.lst (ds ++ zs.map fun z => prD (z.1.1, z.2.1))))
  | [], ds, o4, o5, S, h, _ => ⟨o4, o5, by rw [List.map_nil, forL, if_pos (by simp), List.map_nil, List.append_nil, set_same h]⟩
  | z :: zs, ds, o4, o5, S, h, hl => by
    simp only [List.length_cons] at hl
    have hfl := (List.getElem?_eq_some_iff.mp h).1
    have st : nbI [q, some (.loc f), o2, o3, some (prD z.1), some (prD z.2)] S = .nx [q, some (.loc f), o2, o3, some (prD z.1), some (prD z.2)] (S.set f (.lst (ds ++ [prD (z.1.1, z.2.1)]))) :=
      app_at (var_ok rfl) (cons_ok (tup_ok (cons_ok (sub_ok (var_ok rfl) c_ok (show ixF (.v (prD z.1)) (.v (.int 0)) S = some (.v (.int z.1.1)) from rfl)) (cons_ok (sub_ok (var_ok rfl) c_ok (show ixF (.v (prD z.2)) (.v (.int 0)) S = some (.v (.int z.2.1)) from rfl)) nil_ok)) (by simp)) nil_ok) h (by omega)
    obtain ⟨p, q', e⟩ := nb_in (xs := xs) (q := q) (o2 := o2) (o3 := o3) zs (ds ++ [prD (z.1.1, z.2.1)]) (some (prD z.1)) (some (prD z.2)) (S.set f (.lst (ds ++ [prD (z.1.1, z.2.1)]))) (List.getElem?_set_self hfl) (by simp; omega)
    refine ⟨p, q', ?_⟩
    rw [List.map_cons, for_nx (by simp) (show gTpN 2 _ (D.tup [prD z.1, prD z.2]) _ = some _ from rfl) st, e, List.set_set, List.map_cons, List.append_assoc]
    rfl
theorem zip_tt {ea eb : Env → Sto → R F} {ρ : Env} {S : Sto} {xs ys : List D} (ha : ea ρ S = .ok (.v (.tup xs)) S) (hb : eb ρ S = .ok (.v (.tup ys)) S) : eZip (fCons ea (fCons eb fNil)) ρ S = .ok ⟨zipD xs ys, []⟩ S := by
  unfold eZip fCons fNil
  rw [ha]; simp only [R.bind_ok]
  rw [hb]; rfl
theorem tail_ok {ρ : Env} {S : Sto} {i : Nat} {xs : List D} (h : ρ[i]? = some (some (.tup xs))) : eSl (eVar i) (ePart (eC (.int 1))) eNoPart ρ S = .ok (.v (.tup (xs.drop 1))) S := by
  unfold eSl
  rw [var_ok h, R.bind_ok, part_ok (i := 1) c_ok, R.bind_ok]
  show R.ok (F.v (.tup (cutD xs (some 1) none))) S = _
  have e : cutD xs (some 1) none = xs.drop 1 := by
    unfold cutD
    cases xs with
    | nil => rfl
    | cons x xs =>
      have h1 : HT.sIx (x :: xs).length 0 (some 1) = 1 := by
        unfold HT.sIx
        simp
        try omega
      have h2 : HT.sIx (x :: xs).length (x :: xs).length none = (x :: xs).length := rfl
      rw [h1, h2]
      simp
  rw [e]
abbrev nbO : Env → Sto → RS := sFor (eZip (fCons (eVar 3) (fCons (eSl (eVar 3) (ePart (eC (.int 1))) eNoPart) fNil))) (gTpN 2 (gsCons (gNm 4) (gsCons (gNm 5) gsNil))) nbI
theorem nb_out {xs : List D} {q : Option D} {f : Nat} : ∀ (rs : List Row) (ds : List D) (o2 o3 o4 o5 : Option D) (S : Sto), S[f]? = some (.lst ds) → (∀ r ∈ rs, r.2.length ≤ 100) → ds.length + 100 * rs.length ≤ 100000 →
    ∃ o2' o3' o4' o5', forL ⟨xs, []⟩ (gTpN 2 (gsCons (gNm 2) (gsCons (gNm 3) gsNil))) nbO (rs.map rowD) [q, some (.loc f), o2, o3, o4, o5] S = .nx [q, some (.loc f), o2', o3', o4', o5'] (S.set f (.lst (ds ++ (neigh rs).map prD)))
  | [], ds, o2, o3, o4, o5, S, h, _, _ => ⟨o2, o3, o4, o5, by rw [List.map_nil, forL, if_pos (by simp)]; show _ = RS.nx _ (S.set f (.lst (ds ++ []))); rw [List.append_nil, set_same h]⟩
  | r :: rs, ds, o2, o3, o4, o5, S, h, hr, hl => by
    simp only [List.length_cons] at hl
    have hfl := (List.getElem?_eq_some_iff.mp h).1
    have hr0 := hr r (by simp)
    have zl : (r.2.zip (r.2.drop 1)).length ≤ 100 := by rw [List.length_zip]; omega
    obtain ⟨p4, p5, e⟩ := nb_in (xs := (r.2.zip (r.2.drop 1)).map fun z => D.tup [prD z.1, prD z.2]) (q := q) (o2 := some (.int r.1)) (o3 := some (.tup (r.2.map prD))) (f := f) (r.2.zip (r.2.drop 1)) ds o4 o5 S h (by omega)
    have st : nbO [q, some (.loc f), some (.int r.1), some (.tup (r.2.map prD)), o4, o5] S = .nx [q, some (.loc f), some (.int r.1), some (.tup (r.2.map prD)), p4, p5] (S.set f (.lst (ds ++ (neighR r.2).map prD))) := by
      refine (for_ok (zip_tt (var_ok rfl) (tail_ok rfl))).trans ?_
      show forL ⟨zipD (r.2.map prD) ((r.2.map prD).drop 1), []⟩ _ _ (zipD (r.2.map prD) ((r.2.map prD).drop 1)) _ _ = _
      rw [← List.map_drop, zipD_map, e]
      unfold neighR
      rw [List.map_map]; rfl
    have nl : (neighR r.2).length ≤ 100 := by unfold neighR; rw [List.length_map]; exact zl
    obtain ⟨a2, a3, a4, a5, e2⟩ := nb_out (xs := xs) (q := q) rs (ds ++ (neighR r.2).map prD) (some (.int r.1)) (some (.tup (r.2.map prD))) p4 p5 (S.set f (.lst (ds ++ (neighR r.2).map prD))) (List.getElem?_set_self hfl) (fun r' h' => hr r' (by simp [h'])) (by simp; omega)
    refine ⟨a2, a3, a4, a5, ?_⟩
    rw [List.map_cons, for_nx (by simp) (show gTpN 2 _ (rowD r) _ = some _ from rfl) st, e2, List.set_set, List.append_assoc, ← List.map_append]
    rfl
theorem neighbours_ok {q : Plan} {S : Sto} (hr : ∀ r ∈ q.rs, r.2.length ≤ 100) (hl : q.rs.length ≤ 900) : dNeighbours [plD q] S = .ok (.v (.loc S.length)) (S ++ [.lst ((neigh q.rs).map prD)]) := by
  have h0 : (S ++ [O.lst []])[S.length]? = some (.lst []) := List.getElem?_concat_length
  obtain ⟨a2, a3, a4, a5, e⟩ := nb_out (xs := q.rs.map rowD) (q := some (plD q)) (f := S.length) q.rs [] none none none none (S ++ [.lst []]) h0 hr (by simp; omega)
  refine runF_rt ?_
  show bNeighbours [some (plD q), none, none, none, none, none] S = _
  unfold bNeighbours
  refine (seq_nx (asg_ok (lst_ok nil_ok (by simp)))).trans ?_
  refine (seq_nx ((for_ok (seq_tup (xs := q.rs.map rowD) (sub_ok (var_ok rfl) c_ok (show ixF (.v (plD q)) (.v (.int 0)) _ = some (.v (.tup (q.rs.map rowD))) from rfl)))).trans e)).trans ?_
  rw [List.nil_append, List.set_append_right _ _ (Nat.le_refl _), Nat.sub_self]
  exact ret_ok (var_ok rfl)
/-! ### names -/
theorem names_ofA_ok {q : Plan} {S : Sto} (hn : (nmsOf q.rs).Nodup) (hl : (nmsOf q.rs).length < 64) : ∃ S', Ext [] S S' ∧ dNamesOfA [plD q] S = .ok (.v (.tup ((srt (nmsOf q.rs)).map .int))) S' := by
  obtain ⟨S', e, hd, x⟩ := all_places_ok (S := S) hn (by omega)
  have nm : (plc 0 q.rs).map (·.1) = nmsOf q.rs := plc_names 0 q.rs
  refine ⟨S', x, ?_⟩
  have keys : ((plc 0 q.rs).map enD).map (·.1) = (nmsOf q.rs).map .int := by rw [← nm, List.map_map, List.map_map]; rfl
  have w : bNamesOfA [some (plD q)] S = .rt (.v (.tup ((srt (nmsOf q.rs)).map .int))) S' := by
    refine ret_ok (b1_ok (b1_ok (call1_ok (var_ok rfl) e) (z := .l ((srt (nmsOf q.rs)).map .int)) ?_) (show tupleF (.l _) _ = some _ from rfl))
    have hs : sortF (.v (.loc S.length)) S' = some (.l ((srt (nmsOf q.rs)).map .int)) := by
      show (match S'[S.length]? with
        | some (.lst ds) => (intsOf ds).map fun ns => F.l ((srt ns).map .int)
        | some (.dct kvs) => (intsOf (kvs.map (fun kv : D × D => kv.1))).bind fun ns => if ns.length < 64 then some (F.l ((srt ns).map .int)) else none
        | _ => none) = _
      rw [hd]
      simp only
      rw [keys, intsOf_map, Option.bind_some, if_pos hl]
    unfold sortA
    rw [hs]
  exact runF_rt (by simpa using w)
end Pen
end DL
/-! ## R2 -/
set_option maxHeartbeats 1000000
/-! The program's regimes: the dict of steps. -/
namespace DL
open PySem PySem.Spec L2
namespace Pen
def enK (k : Int × Nat) : D × D := (.int k.1, .loc k.2)
def dO (fz : Bool) (kvs : List (D × D)) : O := if fz then .fzd kvs else .dct kvs
def succ (P : List (Int × Int)) (a : Int) : List Int := (P.filter fun p => decide (p.1 = a)).map (·.2)
theorem mem_succ {P : List (Int × Int)} {a b : Int} : b ∈ succ P a ↔ (a, b) ∈ P := by
  unfold succ
  rw [List.mem_map]
  constructor
  · rintro ⟨p, hp, rfl⟩
    obtain ⟨h1, h2⟩ := List.mem_filter.mp hp
    have h2 : p.1 = a := by simpa using h2
    rw [← h2]; exact h1
  · intro h
    exact ⟨(a, b), List.mem_filter.mpr ⟨h, by simp⟩, rfl⟩
theorem succ_len (P : List (Int × Int)) (a : Int) : (succ P a).length ≤ P.length := by
  unfold succ; rw [List.length_map]; exact List.length_filter_le _ _
theorem succ_app (P : List (Int × Int)) (p : Int × Int) (a : Int) : succ (P ++ [p]) a = if p.1 = a then succ P a ++ [p.2] else succ P a := by
  unfold succ
  rw [List.filter_append, List.map_append]
  by_cases h : p.1 = a
  · simp [h]
  · simp [h]
/-- the dict of steps: each name with the list of those that one pair leads to -/
structure SA (fz : Bool) (S : Sto) (f : Nat) (ks : List (Int × Nat)) (P : List (Int × Int)) : Prop where
  d : S[f]? = some (dO fz (ks.map enK))
  nk : (ks.map (·.1)).Nodup
  nl : (f :: ks.map (·.2)).Nodup
  l : ∀ k ∈ ks, S[k.2]? = some (.lst ((succ P k.1).map D.int))
  c : ∀ p ∈ P, p.1 ∈ ks.map (·.1)
theorem lookup_enK {a : Int} : ∀ {ks : List (Int × Nat)}, (a ∉ ks.map (·.1) → (ks.map enK).lookup (D.int a) = none) ∧ ((ks.map (·.1)).Nodup → ∀ n, (a, n) ∈ ks → (ks.map enK).lookup (D.int a) = some (.loc n))
  | [] => ⟨fun _ => rfl, fun _ _ h => nomatch h⟩
  | k :: ks => by
    have ih := lookup_enK (a := a) (ks := ks)
    refine ⟨fun h => ?_, fun hn n h => ?_⟩
    · rw [List.map_cons] at h
      have h1 : ¬ a = k.1 := fun e => h (by simp [e])
      have h2 : (D.int a == D.int k.1) = false := by simp [h1]
      show (match D.int a == D.int k.1 with
        | true => some (D.loc k.2)
        | false => (ks.map enK).lookup (D.int a)) = none
      rw [h2]
      exact ih.1 fun z => h (by simp [z])
    · rcases List.mem_cons.mp h with h | h
      · subst h
        show (match D.int a == D.int a with
          | true => some (D.loc n)
          | false => (ks.map enK).lookup (D.int a)) = _
        have h2 : (D.int a == D.int a) = true := by simp
        rw [h2]
      · have h1 : ¬ a = k.1 := fun e => by
          rw [List.map_cons, List.nodup_cons] at hn
          exact hn.1 (by rw [← e]; exact List.mem_map_of_mem (f := (·.1)) h)
        have h2 : (D.int a == D.int k.1) = false := by simp [h1]
        show (match D.int a == D.int k.1 with
          | true => some (D.loc k.2)
          | false => (ks.map enK).lookup (D.int a)) = _
        rw [h2]
        rw [List.map_cons, List.nodup_cons] at hn
        exact ih.2 hn.2 n h
theorem oGet_dO {fz : Bool} {kvs : List (D × D)} {a : Int} : oGet (dO fz kvs) (D.int a) = some (kvs.lookup (D.int a)) := by
  cases fz <;> rfl
theorem dget_o {S : Sto} {f : Nat} {o : O} {k : D} (h : S[f]? = some o) : dGet (.v (.loc f)) k S = oGet o k := by
  show (match S[f]? with
    | some o => oGet o k
    | none => none) = _
  rw [h]
theorem nlst_dO {fz : Bool} {kvs : List (D × D)} {xs : List D} : dO fz kvs ≠ .lst xs := by cases fz <;> exact nofun
theorem getL_dO {S : Sto} {f : Nat} {fz : Bool} {kvs : List (D × D)} (h : S[f]? = some (dO fz kvs)) : getL (.v (.loc f)) S = none := by
  show (match S[f]? with
    | some (.lst ds) => some ds
    | _ => none) = none
  rw [h]
  cases fz <;> rfl
/-- d[k] -/
theorem sub_o {ρ : Env} {S S1 S2 : Sto} {f : Nat} {fz : Bool} {kvs : List (D × D)} {a : Int} {d : D} {ea eb : Env → Sto → R F} (hb : eb ρ S = .ok (.v (.loc f)) S1) (ha : ea ρ S1 = .ok (.v (.int a)) S2) (h : S2[f]? = some (dO fz kvs)) (hd : kvs.lookup (D.int a) = some d) : eSub eb ea ρ S = .ok (.v d) S2 := by
  unfold eSub; rw [hb, R.bind_ok, ha, R.bind_ok]
  have e : ixF (.v (.loc f)) (.v (.int a)) S2 = none := by
    show ((getL (.v (.loc f)) S2).bind fun ds => (atI ds a).map F.v) = none
    rw [getL_dO h]; rfl
  rw [e]
  simp only
  rw [dget_o h, oGet_dO, hd]
/-- k in d -/
theorem in_o {neg : Bool} {ρ : Env} {S S1 S2 : Sto} {f : Nat} {fz : Bool} {kvs : List (D × D)} {a : Int} {ea eb : Env → Sto → R F} (ha : ea ρ S = .ok (.v (.int a)) S1) (hb : eb ρ S1 = .ok (.v (.loc f)) S2) (h : S2[f]? = some (dO fz kvs)) :
    eIn neg ea eb ρ S = .ok (.v (.bl (if neg then !(kvs.lookup (D.int a)).isSome else (kvs.lookup (D.int a)).isSome))) S2 := by
  unfold eIn; rw [ha, R.bind_ok, hb, R.bind_ok]
  have e : inF neg (.v (.int a)) (.v (.loc f)) S2 = none := by
    have : inB (.v (.int a)) (.v (.loc f)) S2 = none := by
      show ((getTL (.v (.loc f)) S2).bind _) = none
      have e : getTL (.v (.loc f)) S2 = getL (.v (.loc f)) S2 := rfl
      rw [e, getL_dO h]; rfl
    unfold inF; rw [this]; rfl
  rw [e]
  simp only
  rw [dget_o h, oGet_dO]
theorem isDc_dO {S : Sto} {f : Nat} {fz : Bool} {kvs : List (D × D)} (h : S[f]? = some (dO fz kvs)) : isDc (.v (.loc f)) S = true := by
  show (match S[f]? with
    | some (.dct _) => true
    | some (.fzd _) => true
    | _ => false) = true
  rw [h]
  cases fz <;> rfl
theorem putO_new {S : Sto} {f : Nat} {ks : List (Int × Nat)} {a : Int} {d : D} (h : S[f]? = some (.dct (ks.map enK))) (hl : ks.length ≤ 1000) (hn : a ∉ ks.map (·.1)) : putO (.v (.loc f)) (.int a) d S = some (S.set f (.dct (ks.map enK ++ [(D.int a, d)]))) := by
  show (match S[f]? with
    | some (.dct kvs) => if (dKey (.int a)).isSome ∧ kvs.length ≤ 1000000 then some (S.set f (.dct (putD kvs (.int a) d))) else none
    | _ => none) = _
  rw [h]
  simp only
  rw [if_pos ⟨rfl, by rw [List.length_map]; omega⟩]
  unfold putD
  have e : ((ks.map enK).any fun kv => decide (kv.1 = D.int a)) = false := by
    rw [List.any_eq_false]
    intro kv hkv
    obtain ⟨x, hx, rfl⟩ := List.mem_map.mp hkv
    simp only [decide_eq_true_eq]
    intro z
    have z : D.int x.1 = D.int a := z
    injection z with z
    exact hn (z ▸ List.mem_map_of_mem hx)
  rw [e, if_neg (by decide)]
theorem putO_some {S : Sto} {f : Nat} {kvs : List (D × D)} {a : Int} {d : D} (h : S[f]? = some (.dct kvs)) (hl : kvs.length ≤ 1000) : ∃ S', putO (.v (.loc f)) (.int a) d S = some S' := by
  refine ⟨S.set f (.dct (putD kvs (.int a) d)), ?_⟩
  show (match S[f]? with
    | some (.dct kvs) => if (dKey (.int a)).isSome ∧ kvs.length ≤ 1000000 then some (S.set f (.dct (putD kvs (.int a) d))) else none
    | _ => none) = _
  rw [h]
  simp only
  rw [if_pos ⟨rfl, by omega⟩]
theorem nil_box {ρ : Env} {S : Sto} : eBox (eLst eNil) ρ S = .ok (.loc S.length) (S ++ [O.lst []]) := rfl
theorem SA.app {fz : Bool} {S S' : Sto} {f : Nat} {ks : List (Int × Nat)} {P : List (Int × Int)} (h : SA fz S f ks P) {ex : List Nat} (e : Ext ex S S') (hex : ∀ i ∈ ex, i ∉ f :: ks.map (·.2)) : SA fz S' f ks P :=
  ⟨e.get (fun z => hex f z (by simp)) h.d, h.nk, h.nl, fun k hk => e.get (fun z => hex k.2 z (by simp only [List.mem_cons]; exact .inr (List.mem_map_of_mem (f := (·.2)) hk))) (h.l k hk), h.c⟩
/-- steps.setdefault(k, []) -/
theorem SA.setd {S : Sto} {f : Nat} {ks : List (Int × Nat)} {P : List (Int × Int)} {a : Int} {ρ : Env} {i j : Nat} (h : SA false S f ks P) (hl : ks.length ≤ 900) (hi : ρ[i]? = some (some (.loc f))) (hj : ρ[j]? = some (some (.int a))) :
    ∃ g ks' S', eSetd (eVar i) (eVar j) (eLst eNil) ρ S = .ok (.v (.loc g)) S' ∧ SA false S' f ks' P ∧ (a, g) ∈ ks' ∧ Ext [f] S S' ∧ (∀ x, x ∈ ks'.map (·.1) ↔ x ∈ ks.map (·.1) ∨ x = a) ∧ ks'.length ≤ ks.length + 1 ∧ (∀ k ∈ ks', k ∈ ks ∨ S.length ≤ k.2) := by
  have hd : S[f]? = some (.dct (ks.map enK)) := h.d
  have hfl := (List.getElem?_eq_some_iff.mp hd).1
  have hd1 : (S ++ [O.lst []])[f]? = some (.dct (ks.map enK)) := by rw [List.getElem?_append_left hfl]; exact hd
  have en : (ks.map enK).length ≤ 1000 := by rw [List.length_map]; omega
  have lt : ∀ k ∈ ks, k.2 < S.length := fun k hk => (List.getElem?_eq_some_iff.mp (h.l k hk)).1
  by_cases hm : a ∈ ks.map (·.1)
  · obtain ⟨k, hk, rfl⟩ := List.mem_map.mp hm
    obtain ⟨S4, e4⟩ := putO_some (a := k.1) (d := .loc S.length) hd1 en
    have hg : dGet (.v (.loc f)) (.int k.1) (S ++ [O.lst []]) = some (some (.loc k.2)) := by
      rw [dget_o hd1]
      show some ((ks.map enK).lookup (.int k.1)) = _
      rw [lookup_enK.2 h.nk k.2 hk]
    refine ⟨k.2, ks, S ++ [.lst []], ?_, h.app (ex := []) Ext.app nofun, hk, Ext.app, fun x => ⟨.inl, fun z => z.elim id fun e => e ▸ hm⟩, by omega, fun k hk => .inl hk⟩
    unfold eSetd
    rw [var_ok hi, R.bind_ok, isDc_dO (fz := false) hd, if_pos rfl, var_ok hj, R.bind_ok, nil_box, R.bind_ok]
    simp only
    rw [e4]
    simp only
    rw [hg]
  · have e4 := putO_new (a := a) (d := .loc S.length) hd1 (by omega) hm
    have hg : dGet (.v (.loc f)) (.int a) (S ++ [O.lst []]) = some none := by
      rw [dget_o hd1]
      show some ((ks.map enK).lookup (D.int a)) = _
      rw [lookup_enK.1 hm]
    have sP : succ P a = [] := by
      unfold succ
      rw [List.filter_eq_nil_iff.mpr, List.map_nil]
      intro p hp hq
      have : p.1 = a := by simpa using hq
      exact hm (this ▸ h.c p hp)
    have hS : ((S ++ [O.lst []]).set f (.dct (ks.map enK ++ [(D.int a, D.loc S.length)])))[S.length]? = some (.lst []) := by
      rw [List.getElem?_set_ne (by omega)]
      exact List.getElem?_concat_length
    refine ⟨S.length, ks ++ [(a, S.length)], (S ++ [O.lst []]).set f (.dct (ks.map enK ++ [(D.int a, D.loc S.length)])), ?_, ⟨?_, ?_, ?_, ?_, ?_⟩, by simp, Ext.app.trans (Ext.set (by simp)), fun x => ?_, by simp, fun k hk => ?_⟩
    · unfold eSetd
      rw [var_ok hi, R.bind_ok, isDc_dO (fz := false) hd, if_pos rfl, var_ok hj, R.bind_ok, nil_box, R.bind_ok]
      simp only
      rw [e4]
      simp only
      rw [hg]
    · rw [List.map_append]
      exact List.getElem?_set_self (by simp; omega)
    · rw [List.map_append, List.nodup_append]
      refine ⟨h.nk, by simp, fun x hx y hy e => ?_⟩
      simp only [List.map_cons, List.map_nil, List.mem_singleton] at hy
      subst hy; subst e
      exact hm hx
    · rw [List.map_append, ← List.cons_append, List.nodup_append]
      refine ⟨h.nl, by simp, fun x hx y hy e => ?_⟩
      simp only [List.map_cons, List.map_nil, List.mem_singleton] at hy
      subst hy; subst e
      rcases List.mem_cons.mp hx with e | hx
      · omega
      · obtain ⟨k, hk, e⟩ := List.mem_map.mp hx
        have := lt k hk
        omega
    · intro k hk
      rcases List.mem_append.mp hk with hk | hk
      · have h1 := lt k hk
        have h2 : f ≠ k.2 := fun e => by
          have := h.nl
          rw [List.nodup_cons] at this
          exact this.1 (e ▸ List.mem_map_of_mem (f := (·.2)) hk)
        rw [List.getElem?_set_ne h2, List.getElem?_append_left h1]
        exact h.l k hk
      · rw [List.mem_singleton] at hk
        subst hk
        rw [sP]
        exact hS
    · intro p hp
      rw [List.map_append, List.mem_append]
      exact .inl (h.c p hp)
    · rw [List.map_append, List.mem_append]
      simp
    · rcases List.mem_append.mp hk with hk | hk
      · exact .inl hk
      · rw [List.mem_singleton] at hk
        subst hk
        exact .inr (Nat.le_refl _)
/-- a step more -/
theorem SA.add {S : Sto} {f : Nat} {ks : List (Int × Nat)} {P : List (Int × Int)} {a b : Int} {g : Nat} (h : SA false S f ks P) (hg : (a, g) ∈ ks) : SA false (S.set g (.lst ((succ P a).map D.int ++ [D.int b]))) f ks (P ++ [(a, b)]) := by
  have hgl := (List.getElem?_eq_some_iff.mp (h.l _ hg)).1
  have nf : g ≠ f := fun e => by
    have := h.nl
    rw [List.nodup_cons] at this
    exact this.1 (e ▸ List.mem_map_of_mem (f := (·.2)) hg)
  have nl2 : (ks.map (·.2)).Nodup := (List.nodup_cons.mp h.nl).2
  refine ⟨?_, h.nk, h.nl, fun k hk => ?_, fun p hp => ?_⟩
  · rw [List.getElem?_set_ne nf]; exact h.d
  · by_cases e : k.2 = g
    · have ek : k = (a, g) := by
        obtain ⟨i, hi⟩ := List.mem_iff_getElem?.mp hk
        obtain ⟨j, hj⟩ := List.mem_iff_getElem?.mp hg
        have h1 : (ks.map (·.2))[i]? = some g := by rw [List.getElem?_map, hi]; simp [e]
        have h2 : (ks.map (·.2))[j]? = some g := by rw [List.getElem?_map, hj]; rfl
        have hil := (List.getElem?_eq_some_iff.mp h1).1
        have := (List.getElem?_inj hil nl2).mp (h1.trans h2.symm)
        subst this
        rw [hi] at hj; cases hj; rfl
      subst ek
      rw [List.getElem?_set_self hgl, succ_app, if_pos rfl, List.map_append]
      rfl
    · rw [List.getElem?_set_ne (Ne.symm e), succ_app]
      have na : ¬ a = k.1 := fun z => e (by
        obtain ⟨i, hi⟩ := List.mem_iff_getElem?.mp hk
        obtain ⟨j, hj⟩ := List.mem_iff_getElem?.mp hg
        have h1 : (ks.map (·.1))[i]? = some a := by rw [List.getElem?_map, hi]; simp [z]
        have h2 : (ks.map (·.1))[j]? = some a := by rw [List.getElem?_map, hj]; rfl
        have hil := (List.getElem?_eq_some_iff.mp h1).1
        have := (List.getElem?_inj hil h.nk).mp (h1.trans h2.symm)
        subst this
        rw [hi] at hj; cases hj; rfl)
      rw [if_neg na]
      exact h.l k hk
  · rcases List.mem_append.mp hp with hp | hp
    · exact h.c p hp
    · rw [List.mem_singleton] at hp
      subst hp
      exact List.mem_map_of_mem (f := (·.1)) hg
end Pen
end DL
/-! ## R3 -/
set_option maxHeartbeats 1000000
/-! The program's regimes: steps_from. -/
namespace DL
open PySem PySem.Spec L2
namespace Pen
theorem Ext.on {S0 S S1 : Sto} {g : Nat} (a : Ext [] S0 S) (b : Ext [g] S S1) (h : S0.length ≤ g) : Ext [] S0 S1 :=
  ((a.mono (by simp)).trans b).drop fun i hi _ => by simp at hi; omega
theorem dc_cons {it : DIt} {g : D → Env → Option Env} {ek ev : Env → Sto → R F} {ρ ρ1 : Env} {n : Nat} {d k z : D} {ds : List D} {S S2 S3 S4 : Sto} (ok : it.ok S) (hg : g d ρ = some ρ1) (hk : ek ρ1 S = .ok (.v k) S2) (hv : eBox ev ρ1 S2 = .ok z S3) (hp : putO (.v (.loc n)) k z S3 = some S4) : dcL it g tYes' ek ev ρ n (d :: ds) S = dcL it g tYes' ek ev ρ n ds S4 := by
  conv => lhs; unfold dcL
  rw [if_pos ok, hg]
  simp only [tYes', okOr, if_true]
  rw [hk]
  simp only
  rw [hv]
  simp only
  rw [hp]
theorem dc_names {xs : List D} {ρ : Env} {f : Nat} {S0 : Sto} (h7 : ρ.length = 8) : ∀ (ns : List Int) (ks : List (Int × Nat)) (S : Sto), SA false S f ks [] → (ks.map (·.1) ++ ns).Nodup → ks.length + ns.length ≤ 900 → Ext [] S0 S → S0.length ≤ f → (∀ k ∈ ks, S0.length ≤ k.2) →
    ∃ S' ks', dcL ⟨xs, []⟩ (gNm 7) tYes' (eVar 7) (eLst eNil) ρ f (ns.map D.int) S = .ok () S' ∧ SA false S' f ks' [] ∧ ks'.map (·.1) = ks.map (·.1) ++ ns ∧ Ext [] S0 S' ∧ (∀ k ∈ ks', S0.length ≤ k.2)
  | [], ks, S, h, _, _, e, _, hk => ⟨S, ks, by rw [List.map_nil, dcL, if_pos (by simp)], h, by simp, e, hk⟩
  | n :: ns, ks, S, h, hn, hl, e, hf, hk => by
    simp only [List.length_cons] at hl
    have hd : S[f]? = some (.dct (ks.map enK)) := h.d
    have hfl := (List.getElem?_eq_some_iff.mp hd).1
    have hd1 : (S ++ [O.lst []])[f]? = some (.dct (ks.map enK)) := by rw [List.getElem?_append_left hfl]; exact hd
    have nin : n ∉ ks.map (·.1) := fun hm => (List.nodup_append.mp hn).2.2 _ hm n (by simp) rfl
    have e4 := putO_new (a := n) (d := .loc S.length) hd1 (by omega) nin
    have lt : ∀ k ∈ ks, k.2 < S.length := fun k hk => (List.getElem?_eq_some_iff.mp (h.l k hk)).1
    have sa : SA false ((S ++ [O.lst []]).set f (.dct (ks.map enK ++ [(D.int n, D.loc S.length)]))) f (ks ++ [(n, S.length)]) [] := by
      refine ⟨?_, ?_, ?_, fun k hk => ?_, nofun⟩
      · rw [List.map_append]
        exact List.getElem?_set_self (by simp; omega)
      · rw [List.map_append, List.nodup_append]
        refine ⟨h.nk, by simp, fun x hx y hy e => ?_⟩
        simp only [List.map_cons, List.map_nil, List.mem_singleton] at hy
        subst hy; subst e
        exact nin hx
      · rw [List.map_append, ← List.cons_append, List.nodup_append]
        refine ⟨h.nl, by simp, fun x hx y hy e => ?_⟩
        simp only [List.map_cons, List.map_nil, List.mem_singleton] at hy
        subst hy; subst e
        rcases List.mem_cons.mp hx with e | hx
        · omega
        · obtain ⟨k, hk, e⟩ := List.mem_map.mp hx
          have := lt k hk
          omega
      · rcases List.mem_append.mp hk with hk | hk
        · have h1 := lt k hk
          have h2 : f ≠ k.2 := fun e => by
            have := h.nl
            rw [List.nodup_cons] at this
            exact this.1 (e ▸ List.mem_map_of_mem (f := (·.2)) hk)
          rw [List.getElem?_set_ne h2, List.getElem?_append_left h1]
          exact h.l k hk
        · rw [List.mem_singleton] at hk
          subst hk
          show ((S ++ [O.lst []]).set f _)[S.length]? = some (.lst [])
          rw [List.getElem?_set_ne (by omega)]
          exact List.getElem?_concat_length
    have e1 : Ext [] S0 ((S ++ [O.lst []]).set f (.dct (ks.map enK ++ [(D.int n, D.loc S.length)]))) := e.on (Ext.app.trans (Ext.set (by simp))) hf
    obtain ⟨S', ks', r1, r2, r3, r4, r5⟩ := dc_names (xs := xs) h7 ns (ks ++ [(n, S.length)]) _ sa (by simpa using hn) (by simp; omega) e1 hf (fun k hk' => by
      rcases List.mem_append.mp hk' with z | z
      · exact hk k z
      · rw [List.mem_singleton] at z; subst z; exact e.le)
    refine ⟨S', ks', ?_, r2, by simpa using r3, r4, r5⟩
    rw [List.map_cons, dc_cons (by simp) (show gNm 7 (D.int n) ρ = some _ from rfl) (var_ok (d := .int n) (List.getElem?_set_self (by omega))) nil_box e4]
    exact r1
abbrev spB : Env → Sto → RS := (sSeq (sMtL appO (eSetd (eVar 3) (eVar 5) (eLst eNil)) (eCons (eVar 6) eNil)) (sDrop (eSetd (eVar 3) (eVar 6) (eLst eNil))))
theorem drop_ok {ee : Env → Sto → R F} {ρ : Env} {S S1 : Sto} {f : F} (h : ee ρ S = .ok f S1) : sDrop ee ρ S = .nx ρ S1 := by
  unfold sDrop DL.onE; rw [h]
theorem sp_loop {xs : List D} {a0 a1 a2 a4 a7 : Option D} {f : Nat} {S0 : Sto} (hf : S0.length ≤ f) : ∀ (rest P : List (Int × Int)) (ks : List (Int × Nat)) (o5 o6 : Option D) (S : Sto), SA false S f ks P → ks.length + 2 * rest.length ≤ 900 → P.length + rest.length ≤ 1000 → Ext [] S0 S → (∀ k ∈ ks, S0.length ≤ k.2) → (∀ p ∈ P, p.2 ∈ ks.map (·.1)) →
    ∃ S' ks' o5' o6', forL ⟨xs, []⟩ (gTpN 2 (gsCons (gNm 5) (gsCons (gNm 6) gsNil))) spB (rest.map prD) [a0, a1, a2, some (.loc f), a4, o5, o6, a7] S = .nx [a0, a1, a2, some (.loc f), a4, o5', o6', a7] S' ∧ SA false S' f ks' (P ++ rest) ∧ (∀ p ∈ P ++ rest, p.2 ∈ ks'.map (·.1)) ∧
      (∀ x, x ∈ ks'.map (·.1) ↔ x ∈ ks.map (·.1) ∨ ∃ p ∈ rest, x = p.1 ∨ x = p.2) ∧ Ext [] S0 S' ∧ (∀ k ∈ ks', S0.length ≤ k.2) ∧ ks'.length ≤ ks.length + 2 * rest.length
  | [], P, ks, o5, o6, S, h, _, _, e, hk, hc => ⟨S, ks, o5, o6, by rw [List.map_nil, forL, if_pos (by simp)], by simpa using h, by simpa using hc, by simp, e, hk, by omega⟩
  | p :: rest, P, ks, o5, o6, S, h, hl, hl2, e, hk, hc => by
    simp only [List.length_cons] at hl hl2
    obtain ⟨g, ks1, S1, e1, sa1, m1, x1, k1, l1, b1⟩ := h.setd (a := p.1) (ρ := [a0, a1, a2, some (.loc f), a4, some (.int p.1), some (.int p.2), a7]) (i := 3) (j := 5) (by omega) rfl rfl
    have ext1 : Ext [] S0 S1 := e.on x1 hf
    have hk1 : ∀ k ∈ ks1, S0.length ≤ k.2 := fun k hk' => (b1 k hk').elim (hk k) fun z => Nat.le_trans e.le z
    have gl := sa1.l _ m1
    have sl := succ_len P p.1
    have st1 : sMtL appO (eSetd (eVar 3) (eVar 5) (eLst eNil)) (eCons (eVar 6) eNil) [a0, a1, a2, some (.loc f), a4, some (.int p.1), some (.int p.2), a7] S = .nx [a0, a1, a2, some (.loc f), a4, some (.int p.1), some (.int p.2), a7] (S1.set g (.lst ((succ P p.1).map D.int ++ [D.int p.2]))) :=
      mt_ok e1 (isL_loc gl) (cons_ok (var_ok rfl) nil_ok) (app_loc gl (by rw [List.length_map]; omega))
    have sa2 := sa1.add (b := p.2) m1
    have ext2 : Ext [] S0 (S1.set g (.lst ((succ P p.1).map D.int ++ [D.int p.2]))) := ext1.on (Ext.set (by simp)) (hk1 _ m1)
    obtain ⟨g3, ks3, S3, e3, sa3, m3, x3, k3, l3, b3⟩ := sa2.setd (a := p.2) (ρ := [a0, a1, a2, some (.loc f), a4, some (.int p.1), some (.int p.2), a7]) (i := 3) (j := 6) (by omega) rfl rfl
    have ext3 := ext2.on x3 hf
    have hk3 : ∀ k ∈ ks3, S0.length ≤ k.2 := fun k hk' => (b3 k hk').elim (hk1 k) fun z => Nat.le_trans ext2.le z
    have st : spB [a0, a1, a2, some (.loc f), a4, some (.int p.1), some (.int p.2), a7] S = .nx [a0, a1, a2, some (.loc f), a4, some (.int p.1), some (.int p.2), a7] S3 :=
      (seq_nx st1).trans (drop_ok e3)
    have hc3 : ∀ z ∈ P ++ [(p.1, p.2)], z.2 ∈ ks3.map (·.1) := fun z hz => by
      rw [k3]
      rcases List.mem_append.mp hz with hz | hz
      · exact .inl ((k1 _).mpr (.inl (hc z hz)))
      · rw [List.mem_singleton] at hz; subst hz; exact .inr rfl
    obtain ⟨S', ks', o5', o6', q1, q2, q3, q4, q5, q6, q7⟩ := sp_loop (xs := xs) (a0 := a0) (a1 := a1) (a2 := a2) (a4 := a4) (a7 := a7) hf rest (P ++ [(p.1, p.2)]) ks3 (some (.int p.1)) (some (.int p.2)) S3 sa3 (by omega) (by simp; omega) ext3 hk3 hc3
    have ea : P ++ [(p.1, p.2)] ++ rest = P ++ p :: rest := by simp
    rw [ea] at q2 q3
    refine ⟨S', ks', o5', o6', ?_, q2, q3, fun x => ?_, q5, q6, by simp only [List.length_cons]; omega⟩
    · rw [List.map_cons, for_nx (by simp) (show gTpN 2 _ (prD p) _ = some _ from rfl) st]
      exact q1
    · rw [q4, k3, k1]
      constructor
      · rintro (((h | h) | h) | ⟨z, hz, h⟩)
        · exact .inl h
        · exact .inr ⟨p, by simp, .inl h⟩
        · exact .inr ⟨p, by simp, .inr h⟩
        · exact .inr ⟨z, by simp [hz], h⟩
      · rintro (h | ⟨z, hz, h⟩)
        · exact .inl (.inl (.inl h))
        · rcases List.mem_cons.mp hz with rfl | hz
          · rcases h with h | h
            · exact .inl (.inl (.inr h))
            · exact .inl (.inr h)
          · exact .inr ⟨z, hz, h⟩
def pairsD (ps : List (Int × Int)) : D := .tup (ps.map prD)
/-- all single steps -/
def stepsP (q : Plan) (W Dr : List (Int × Int)) : List (Int × Int) := W ++ Dr ++ neigh q.rs
theorem neighR_len (cs : List (Int × Int)) : (neighR cs).length ≤ cs.length := by unfold neighR; rw [List.length_map, List.length_zip]; omega
theorem neigh_len : ∀ rs : List Row, (neigh rs).length ≤ (nmsOf rs).length
  | [] => Nat.le_refl _
  | r :: rs => by
    have e1 : nmsOf (r :: rs) = r.2.map (·.1) ++ nmsOf rs := by unfold nmsOf; rw [List.flatMap_cons]
    have e2 : neigh (r :: rs) = neighR r.2 ++ neigh rs := by unfold neigh; rw [List.flatMap_cons]
    rw [e1, e2, List.length_append, List.length_append, List.length_map]
    have := neigh_len rs
    have := neighR_len r.2
    omega
structure SmallP (q : Plan) : Prop where
  nd : (nmsOf q.rs).Nodup
  nl : (nmsOf q.rs).length ≤ 60
  rl : q.rs.length ≤ 60
theorem SmallP.row {q : Plan} (h : SmallP q) : ∀ r ∈ q.rs, r.2.length ≤ 100 := by
  have go : ∀ (rs : List Row) (r : Row), r ∈ rs → r.2.length ≤ (nmsOf rs).length := by
    intro rs
    induction rs with
    | nil => exact nofun
    | cons r0 rs ih =>
      intro r hr
      have e1 : nmsOf (r0 :: rs) = r0.2.map (·.1) ++ nmsOf rs := by unfold nmsOf; rw [List.flatMap_cons]
      rw [e1, List.length_append, List.length_map]
      rcases List.mem_cons.mp hr with rfl | hr
      · omega
      · have := ih r hr; omega
  intro r hr
  have := go q.rs r hr
  have := h.nl
  omega
theorem star_tup {ee : Env → Sto → R F} {ea : Env → Sto → R (List D)} {ρ : Env} {S S1 S2 : Sto} {xs ds : List D} (h : ee ρ S = .ok (.v (.tup xs)) S1) (h2 : ea ρ S1 = .ok ds S2) : eStar ee ea ρ S = .ok (xs ++ ds) S2 := by
  unfold eStar; rw [h, R.bind_ok]
  show (ea ρ S1).bind _ = _
  rw [h2]; rfl
theorem star_loc {ee : Env → Sto → R F} {ea : Env → Sto → R (List D)} {ρ : Env} {S S1 S2 : Sto} {n : Nat} {xs ds : List D} (h : ee ρ S = .ok (.v (.loc n)) S1) (hn : S1[n]? = some (.lst xs)) (h2 : ea ρ S1 = .ok ds S2) : eStar ee ea ρ S = .ok (xs ++ ds) S2 := by
  unfold eStar; rw [h, R.bind_ok]
  have e : getS (.v (.loc n)) S1 = some xs := by
    show (match S1[n]? with
      | some (.lst ds) => some ds
      | _ => none) = _
    rw [hn]
  rw [e]
  show (ea ρ S1).bind _ = _
  rw [h2]; rfl
theorem seq_l {ee : Env → Sto → R F} {ρ : Env} {S S1 : Sto} {xs : List D} (h : ee ρ S = .ok (.l xs) S1) : eSeq ee ρ S = .ok ⟨xs, []⟩ S1 := by
  unfold eSeq; rw [h]; rfl
/-- the dict of single steps, with all names that there are -/
theorem steps_ok {q : Plan} (g : SmallP q) {W Dr : List (Int × Int)} (hW : W.length ≤ 100) (hD : Dr.length ≤ 100) {S : Sto} :
    ∃ S' f ks, dStepsFrom [plD q, pairsD W, pairsD Dr] S = .ok (.v (.loc f)) S' ∧ SA false S' f ks (stepsP q W Dr) ∧ (∀ p ∈ stepsP q W Dr, p.2 ∈ ks.map (·.1)) ∧ (∀ x, x ∈ ks.map (·.1) ↔ x ∈ nmsOf q.rs ∨ ∃ p ∈ stepsP q W Dr, x = p.1 ∨ x = p.2) ∧
      Ext [] S S' ∧ S.length ≤ f ∧ (∀ k ∈ ks, S.length ≤ k.2) ∧ ks.length ≤ 900 := by
  obtain ⟨S1, x1, e1⟩ := names_ofA_ok (q := q) (S := S) g.nd (by have := g.nl; omega)
  have sp : (srt (nmsOf q.rs)).Perm (nmsOf q.rs) := by unfold srt; exact List.mergeSort_perm _ _
  have snd : (srt (nmsOf q.rs)).Nodup := sp.nodup_iff.mpr g.nd
  have sl : (srt (nmsOf q.rs)).length ≤ 60 := by rw [sp.length_eq]; exact g.nl
  have x1' : Ext [] S (S1 ++ [O.dct []]) := x1.trans Ext.app
  have sa0 : SA false (S1 ++ [O.dct []]) S1.length [] [] := ⟨List.getElem?_concat_length, .nil, by simp, nofun, nofun⟩
  obtain ⟨S2, ks2, e2, sa2, n2, x2, b2⟩ := dc_names (xs := (srt (nmsOf q.rs)).map D.int) (ρ := wipeE [some (plD q), some (pairsD W), some (pairsD Dr), none, none, none, none, none] [7]) (S0 := S) rfl (srt (nmsOf q.rs)) [] _ sa0 (by simpa using snd) (by simp; omega) x1' x1.le nofun
  have st1 : sAsg (gNm 3) (eDc (eSeq (eCall 1 dNamesOfA (eCons (eVar 0) eNil))) (gNm 7) tYes' (eVar 7) (eLst eNil) [7]) [some (plD q), some (pairsD W), some (pairsD Dr), none, none, none, none, none] S = .nx [some (plD q), some (pairsD W), some (pairsD Dr), some (.loc S1.length), none, none, none, none] S2 := by
    refine asgv ?_
    unfold eDc
    rw [seq_tup (call1_ok (var_ok rfl) e1), R.bind_ok]
    simp only
    rw [e2]; rfl
  have e3 := neighbours_ok (q := q) (S := S2) g.row (by have := g.rl; omega)
  have sa3 : SA false (S2 ++ [O.lst ((neigh q.rs).map prD)]) S1.length ks2 [] := sa2.app (ex := []) Ext.app nofun
  have st2 : sAsg (gNm 4) (eCall 1 dNeighbours (eCons (eVar 0) eNil)) [some (plD q), some (pairsD W), some (pairsD Dr), some (.loc S1.length), none, none, none, none] S2 = .nx [some (plD q), some (pairsD W), some (pairsD Dr), some (.loc S1.length), some (.loc S2.length), none, none, none] (S2 ++ [O.lst ((neigh q.rs).map prD)]) := asgv (call1_ok (var_ok rfl) e3)
  have nl := neigh_len q.rs
  have gnl := g.nl
  have kl2 : ks2.length ≤ 60 := by
    have := congrArg List.length n2
    simp only [List.length_map, List.map_nil, List.nil_append] at this
    omega
  have pl : (stepsP q W Dr).length ≤ 300 := by unfold stepsP; simp only [List.length_append]; omega
  obtain ⟨S4, ks4, o5, o6, q1, q2, q3, q4, q5, q6, q7⟩ := sp_loop (xs := (stepsP q W Dr).map prD) (a0 := some (plD q)) (a1 := some (pairsD W)) (a2 := some (pairsD Dr)) (a4 := some (.loc S2.length)) (a7 := none) (f := S1.length) (S0 := S) x1.le (stepsP q W Dr) [] ks2 none none _ sa3 (by omega) (by simp; omega) (x2.trans Ext.app) b2 nofun
  refine ⟨S4, S1.length, ks4, ?_, by simpa using q2, by simpa using q3, fun x => ?_, q5, x1.le, q6, by omega⟩
  · refine runF_rt ?_
    show bStepsFrom [some (plD q), some (pairsD W), some (pairsD Dr), none, none, none, none, none] S = _
    unfold bStepsFrom
    refine (seq_nx st1).trans ((seq_nx st2).trans ?_)
    refine (seq_nx ((for_ok (seq_l (xs := (stepsP q W Dr).map prD) (lst_ok ?_ (by rw [List.length_map]; omega)))).trans q1)).trans ?_
    · have e : (stepsP q W Dr).map prD = W.map prD ++ (Dr.map prD ++ ((neigh q.rs).map prD ++ [])) := by unfold stepsP; simp
      rw [e]
      exact star_tup (var_ok rfl) (star_tup (var_ok rfl) (star_loc (var_ok rfl) List.getElem?_concat_length nil_ok))
    · exact ret_ok (var_ok rfl)
  · rw [q4, n2]
    simp only [List.map_nil, List.nil_append]
    rw [sp.mem_iff]
end Pen
end DL
/-! ## R4 -/
set_option maxHeartbeats 1000000
/-! The program's regimes: what follows a name. -/
namespace DL
open PySem PySem.Spec L2
namespace Pen
/-- one step or more -/
inductive Rch (P : List (Int × Int)) : Int → Int → Prop
  | one {a b} : (a, b) ∈ P → Rch P a b
  | step {a b c} : Rch P a b → (b, c) ∈ P → Rch P a c
theorem Rch.trans {P : List (Int × Int)} {a b c : Int} (h : Rch P a b) (h2 : Rch P b c) : Rch P a c := by
  induction h2 with
  | one h2 => exact .step h h2
  | step _ h3 ih => exact .step ih h3
def bBehindOne : DL.Env → Sto → RS :=
  (sSeq (fun ρ S => onE (eDict ρ S) ρ fun d S1 => .nx (ρ.set 2 (some d)) S1)
  (sSeq (sAsg (gNm 3) (eB (f1 listF) (fCons (eSub (eVar 0) (eVar 1)) fNil)))
  (sSeq (sWhile 100000 (tTru (eVar 3)) (sSeq (sAsg (gNm 4) (ePop (eVar 3)))
  (sIf (tOfB (eIn true (eVar 4) (eVar 2))) (sSeq (sPut (eVar 2) (eVar 4) (eC (.bl true)))
  (sMtL extO (eVar 3) (eCons (eSub (eVar 0) (eVar 4)) eNil))) sNil)))
  (sRet (eVar 2)))))
def dBehindOne : List D → Sto → R F := runF 3 bBehindOne
def enT (x : Int) : D × D := (.int x, .bl true)
theorem lookup_enT {a : Int} : ∀ {B : List Int}, ((B.map enT).lookup (D.int a)).isSome = decide (a ∈ B)
  | [] => by simp
  | b :: B => by
    have ih := lookup_enT (a := a) (B := B)
    show (match D.int a == D.int b with
      | true => some (D.bl true)
      | false => (B.map enT).lookup (D.int a)).isSome = _
    by_cases h : a = b
    · subst h
      have h2 : (D.int a == D.int a) = true := by simp
      rw [h2]; simp
    · have h2 : (D.int a == D.int b) = false := by simp [h]
      rw [h2]
      simp only [ih, List.mem_cons, h, false_or]
theorem putT_new {S : Sto} {f : Nat} {B : List Int} {a : Int} (h : S[f]? = some (.dct (B.map enT))) (hl : B.length ≤ 1000) (hn : a ∉ B) : putO (.v (.loc f)) (.int a) (.bl true) S = some (S.set f (.dct ((B ++ [a]).map enT))) := by
  show (match S[f]? with
    | some (.dct kvs) => if (dKey (.int a)).isSome ∧ kvs.length ≤ 1000000 then some (S.set f (.dct (putD kvs (.int a) (.bl true)))) else none
    | _ => none) = _
  rw [h]
  simp only
  rw [if_pos ⟨rfl, by rw [List.length_map]; omega⟩]
  unfold putD
  have e : ((B.map enT).any fun kv => decide (kv.1 = D.int a)) = false := by
    rw [List.any_eq_false]
    intro kv hkv
    obtain ⟨x, hx, rfl⟩ := List.mem_map.mp hkv
    simp only [decide_eq_true_eq]
    intro z
    have z : D.int x = D.int a := z
    injection z with z
    exact hn (z ▸ hx)
  rw [e, if_neg (by decide), List.map_append]
  rfl
theorem list_loc {S : Sto} {n : Nat} {xs : List D} (h : S[n]? = some (.lst xs)) : listF (.v (.loc n)) S = some (.l xs) := by
  unfold listF; rw [getTL_loc h]; rfl
theorem pop_ok {ρ : Env} {S : Sto} {i n : Nat} {T : List D} {x : D} (hi : ρ[i]? = some (some (.loc n))) (h : S[n]? = some (.lst (T ++ [x]))) : ePop (eVar i) ρ S = .ok (.v x) (S.set n (.lst T)) := by
  unfold ePop
  rw [var_ok hi, R.bind_ok]
  simp only
  rw [h]
  simp only
  have e : (T ++ [x])[(T ++ [x]).length - 1]? = some x := by simp
  rw [e]
  simp
theorem ext_loc {S : Sto} {n m : Nat} {xs zs : List D} (h : S[n]? = some (.lst xs)) (h2 : S[m]? = some (.lst zs)) (hl : xs.length ≤ 1000000) (hl2 : zs.length ≤ 1000000) : extO (.v (.loc n)) [.loc m] S = some (S.set n (.lst (xs ++ zs))) := by
  show (match S[n]?, S[m]? with
    | some (.lst xs), some (.lst zs) => if xs.length ≤ 1000000 ∧ zs.length ≤ 1000000 then some (S.set n (.lst (xs ++ zs))) else none
    | _, _ => none) = _
  rw [h, h2]
  simp only
  rw [if_pos ⟨hl, hl2⟩]
theorem tru_loc {ρ : Env} {S : Sto} {i n : Nat} {xs : List D} (hi : ρ[i]? = some (some (.loc n))) (h : S[n]? = some (.lst xs)) : tTru (eVar i) ρ S = .ok (!xs.isEmpty) S := by
  unfold tTru
  rw [var_ok hi, R.bind_ok]
  have e : tru (.v (.loc n)) S = some (!xs.isEmpty) := by
    unfold tru
    simp only [h, getL_loc h, Option.map_some]
  rw [e]
/-- how much is left to do -/
def wt (P : List (Int × Int)) : List Int → List Int → Nat
  | [], _ => 0
  | k :: ks, B => (if k ∈ B then 0 else (succ P k).length) + wt P ks B
theorem wt_add (P : List (Int × Int)) (x : Int) (B : List Int) (hB : x ∉ B) : ∀ (ks : List Int), ks.Nodup → (x ∉ ks → wt P ks (B ++ [x]) = wt P ks B) ∧ (x ∈ ks → wt P ks (B ++ [x]) + (succ P x).length = wt P ks B)
  | [], _ => ⟨fun _ => rfl, fun h => nomatch h⟩
  | k :: ks, hn => by
    rw [List.nodup_cons] at hn
    have ih := wt_add P x B hB ks hn.2
    refine ⟨fun h => ?_, fun h => ?_⟩
    · have h1 : ¬ x = k := fun e => h (by simp [e])
      have h2 := ih.1 fun z => h (by simp [z])
      have h3 : (k ∈ B ++ [x]) ↔ k ∈ B := by simp [Ne.symm h1]
      simp only [wt, h2, h3]
    · by_cases e : x = k
      · subst e
        have h2 := ih.1 hn.1
        simp only [wt, h2]
        rw [if_pos (by simp), if_neg hB]
        omega
      · have h2 := ih.2 (by simpa [e] using h)
        have h3 : (k ∈ B ++ [x]) ↔ k ∈ B := by simp [Ne.symm e]
        simp only [wt, h3]
        omega
theorem wt_cons (P : List (Int × Int)) (p : Int × Int) (B : List Int) : ∀ ks : List Int, ks.Nodup → wt (p :: P) ks B ≤ wt P ks B + 1 ∧ (p.1 ∉ ks → wt (p :: P) ks B = wt P ks B)
  | [], _ => ⟨by simp [wt], fun _ => rfl⟩
  | k :: ks, hn => by
    rw [List.nodup_cons] at hn
    have ih := wt_cons P p B ks hn.2
    have e1 : p.1 ≠ k → (succ (p :: P) k).length = (succ P k).length := fun h => by
      unfold succ
      rw [List.filter_cons_of_neg (by simpa using h)]
    have e2 : p.1 = k → (succ (p :: P) k).length = (succ P k).length + 1 := fun h => by
      unfold succ
      rw [List.filter_cons_of_pos (by simpa using h)]
      simp
    by_cases h : p.1 = k
    · have h2 := ih.2 (by rw [h]; exact hn.1)
      refine ⟨?_, fun z => absurd (by simp [h]) z⟩
      simp only [wt, h2]
      have := e2 h
      split <;> omega
    · have h1 := e1 h
      refine ⟨?_, fun z => ?_⟩
      · simp only [wt]
        have := ih.1
        split <;> omega
      · have := ih.2 fun y => z (by simp [y])
        simp only [wt, this, h1]
theorem wt_le (B ks : List Int) (hn : ks.Nodup) : ∀ P : List (Int × Int), wt P ks B ≤ P.length
  | [] => by
    have : ∀ ks : List Int, wt [] ks B = 0 := by
      intro ks
      induction ks with
      | nil => rfl
      | cons k ks ih => simp only [wt, ih]; split <;> rfl
    rw [this]; exact Nat.zero_le _
  | p :: P => by
    have := (wt_cons P p B ks hn).1
    have := wt_le B ks hn P
    rw [List.length_cons]; omega
theorem nodupLen : ∀ {A B : List Int}, A.Nodup → (∀ x ∈ A, x ∈ B) → A.length ≤ B.length
  | [], _, _, _ => Nat.zero_le _
  | a :: A, B, hn, h => by
    rw [List.nodup_cons] at hn
    have ha := h a (by simp)
    have := nodupLen (A := A) (B := B.erase a) hn.2 fun x hx => (List.mem_erase_of_ne (fun e => hn.1 (by rw [← e]; exact hx))).mpr (h x (by simp [hx]))
    rw [List.length_erase_of_mem ha] at this
    have := List.length_pos_of_mem ha
    rw [List.length_cons]; omega
abbrev bhB : Env → Sto → RS := (sSeq (sAsg (gNm 4) (ePop (eVar 3)))
  (sIf (tOfB (eIn true (eVar 4) (eVar 2))) (sSeq (sPut (eVar 2) (eVar 4) (eC (.bl true)))
  (sMtL extO (eVar 3) (eCons (eSub (eVar 0) (eVar 4)) eNil))) sNil))
theorem while_nx {et : Env → Sto → R Bool} {se : Env → Sto → RS} {n : Nat} {ρ ρ2 : Env} {S S2 : Sto} (h : et ρ S = .ok true S) (h2 : se ρ S = .nx ρ2 S2) : whileL et se (n + 1) ρ S = whileL et se n ρ2 S2 := by
  rw [whileL_s]; unfold DL.onE; rw [h]
  show (if true = true then _ else _) = _
  rw [if_pos rfl, h2]
theorem while_end {et : Env → Sto → R Bool} {se : Env → Sto → RS} {n : Nat} {ρ : Env} {S : Sto} (h : et ρ S = .ok false S) : whileL et se (n + 1) ρ S = .nx ρ S := by
  rw [whileL_s]; unfold DL.onE; rw [h]; rfl
theorem bh_loop {fz : Bool} {f b t : Nat} {ks : List (Int × Nat)} {P : List (Int × Int)} {a : Int} {S0 : Sto} (hb : b ∉ f :: ks.map (·.2)) (ht : t ∉ f :: ks.map (·.2)) (bt : b ≠ t) (cov : ∀ p ∈ P, p.2 ∈ ks.map (·.1)) (kl : ks.length ≤ 900) (hP : P.length ≤ 1000) :
    ∀ (m n : Nat) (B T : List Int) (o4 : Option D) (S : Sto), m < n → T.length + wt P (ks.map (·.1)) B ≤ m → S[b]? = some (.dct (B.map enT)) → S[t]? = some (.lst (T.map D.int)) → SA fz S f ks P → Ext [b, t] S0 S → B.Nodup → (∀ x ∈ B, Rch P a x ∧ x ∈ ks.map (·.1)) → (∀ x ∈ T, Rch P a x ∧ x ∈ ks.map (·.1)) →
      (∀ y ∈ succ P a, y ∈ B ∨ y ∈ T) → (∀ x ∈ B, ∀ y ∈ succ P x, y ∈ B ∨ y ∈ T) → T.length ≤ 1000000 - 1000 → m ≤ 900000 →
      ∃ (S' : Sto) (B' : List Int) (o4' : Option D), whileL (tTru (eVar 3)) bhB n [some (.loc f), some (.int a), some (.loc b), some (.loc t), o4] S = .nx [some (.loc f), some (.int a), some (.loc b), some (.loc t), o4'] S' ∧ S'[b]? = some (.dct (B'.map enT)) ∧ Ext [b, t] S0 S' ∧ B'.Nodup ∧ (∀ x, x ∈ B' ↔ Rch P a x)
  | m, 0, B, T, o4, S, h, _, _, _, _, _, _, _, _, _, _, _, _ => absurd h (by omega)
  | m, n + 1, B, T, o4, S, hm, hw, hB, hT, sa, e, nB, rB, rT, c1, c2, tl, m9 => by
    rcases List.eq_nil_or_concat T with hTn | ⟨T', x, hTx⟩
    · subst hTn
      refine ⟨S, B, o4, while_end (tru_loc rfl hT), hB, e, nB, fun x => ⟨fun h => (rB x h).1, fun h => ?_⟩⟩
      induction h with
      | one h => exact (c1 _ (mem_succ.mpr h)).elim id (by simp)
      | step _ h2 ih => exact (c2 _ ih _ (mem_succ.mpr h2)).elim id (by simp)
    · rw [List.concat_eq_append] at hTx
      subst hTx
      have hbl := (List.getElem?_eq_some_iff.mp hB).1
      have htl := (List.getElem?_eq_some_iff.mp hT).1
      rw [List.map_append] at hT
      simp only [List.length_append, List.length_cons, List.length_nil] at hw tl
      have p1 := pop_ok (ρ := [some (D.loc f), some (.int a), some (.loc b), some (.loc t), o4]) (i := 3) rfl (show S[t]? = some (.lst (T'.map D.int ++ [D.int x])) from hT)
      have sa1 : SA fz (S.set t (.lst (T'.map D.int))) f ks P := sa.app (Ext.set (ex := [t]) (by simp)) (by simpa using ht)
      have hB1 : (S.set t (.lst (T'.map D.int)))[b]? = some (.dct (B.map enT)) := by rw [List.getElem?_set_ne (Ne.symm bt)]; exact hB
      have hT1 : (S.set t (.lst (T'.map D.int)))[t]? = some (.lst (T'.map D.int)) := List.getElem?_set_self htl
      have e1 : Ext [b, t] S0 (S.set t (.lst (T'.map D.int))) := e.trans (Ext.set (by simp))
      have xr := rT x (by simp)
      have hin : tOfB (eIn true (eVar 4) (eVar 2)) [some (D.loc f), some (.int a), some (.loc b), some (.loc t), some (.int x)] (S.set t (.lst (T'.map D.int))) = .ok (!decide (x ∈ B)) (S.set t (.lst (T'.map D.int))) := by
        refine tofb_ok ?_
        rw [in_o (fz := false) (kvs := B.map enT) (a := x) (var_ok rfl) (var_ok rfl) hB1, lookup_enT]
        rfl
      by_cases hx : x ∈ B
      · have st : bhB [some (D.loc f), some (.int a), some (.loc b), some (.loc t), o4] S = .nx [some (.loc f), some (.int a), some (.loc b), some (.loc t), some (.int x)] (S.set t (.lst (T'.map D.int))) := by
          refine (seq_nx (asgv p1)).trans ((if_ok hin).trans ?_)
          rw [decide_eq_true hx]; rfl
        obtain ⟨S', B', o4', q⟩ := bh_loop (S0 := S0) hb ht bt cov kl hP (m - 1) n B T' (some (.int x)) _ (by omega) (by omega) hB1 hT1 sa1 e1 nB rB (fun y hy => rT y (by simp [hy])) (fun y hy => by
            rcases c1 y hy with z | z
            · exact .inl z
            · rcases List.mem_append.mp z with z | z
              · exact .inr z
              · rw [List.mem_singleton] at z; subst z; exact .inl hx) (fun z hz y hy => by
            rcases c2 z hz y hy with z | z
            · exact .inl z
            · rcases List.mem_append.mp z with z | z
              · exact .inr z
              · rw [List.mem_singleton] at z; subst z; exact .inl hx) (by omega) (by omega)
        exact ⟨S', B', o4', by rw [while_nx (tru_loc rfl (show S[t]? = some (.lst (T'.map D.int ++ [D.int x])) from hT)|>.trans (by simp)) st]; exact q.1, q.2⟩
      · obtain ⟨k, hk, ek⟩ := List.mem_map.mp xr.2
        have hsl := succ_len P x
        have bl : B.length ≤ 1000 := by
          have : B.length ≤ (ks.map (·.1)).length := nodupLen nB fun y hy => (rB y hy).2
          rw [List.length_map] at this
          omega
        have hput := putT_new hB1 bl hx
        have kt : k.2 ≠ t := fun z => ht (by simp only [List.mem_cons]; exact .inr (z ▸ List.mem_map_of_mem (f := (·.2)) hk))
        have kb : k.2 ≠ b := fun z => hb (by simp only [List.mem_cons]; exact .inr (z ▸ List.mem_map_of_mem (f := (·.2)) hk))
        have sa2 : SA fz ((S.set t (.lst (T'.map D.int))).set b (.dct ((B ++ [x]).map enT))) f ks P := sa1.app (Ext.set (ex := [b]) (by simp)) (by simpa using hb)
        have hT2 : ((S.set t (.lst (T'.map D.int))).set b (.dct ((B ++ [x]).map enT)))[t]? = some (.lst (T'.map D.int)) := by rw [List.getElem?_set_ne bt]; exact hT1
        have hsub : eSub (eVar 0) (eVar 4) [some (D.loc f), some (.int a), some (.loc b), some (.loc t), some (.int x)] ((S.set t (.lst (T'.map D.int))).set b (.dct ((B ++ [x]).map enT))) = .ok (.v (.loc k.2)) ((S.set t (.lst (T'.map D.int))).set b (.dct ((B ++ [x]).map enT))) :=
          sub_o (var_ok rfl) (var_ok rfl) sa2.d (lookup_enK.2 sa2.nk k.2 (by rw [← ek]; exact hk))
        have hext := ext_loc hT2 (sa2.l k hk) (by rw [List.length_map]; omega) (by rw [List.length_map, ek]; omega)
        rw [ek] at hext
        have st : bhB [some (D.loc f), some (.int a), some (.loc b), some (.loc t), o4] S = .nx [some (.loc f), some (.int a), some (.loc b), some (.loc t), some (.int x)] (((S.set t (.lst (T'.map D.int))).set b (.dct ((B ++ [x]).map enT))).set t (.lst (T'.map D.int ++ (succ P x).map D.int))) := by
          refine (seq_nx (asgv p1)).trans ((if_ok hin).trans ?_)
          rw [decide_eq_false hx]
          show sSeq _ _ _ _ = _
          refine (seq_nx (show sPut _ _ _ _ _ = RS.nx _ ((S.set t (.lst (T'.map D.int))).set b (.dct ((B ++ [x]).map enT))) from ?_)).trans (mt_ok (var_ok rfl) (isL_loc hT2) (cons_ok hsub nil_ok) hext)
          unfold sPut eBox DL.onE
          rw [c_ok]
          simp only [R.bind_ok, box_v']
          rw [var_ok (d := .loc b) rfl]
          simp only
          rw [var_ok (d := .int x) rfl]
          simp only
          rw [hput]
        have wa := (wt_add P x B hx (ks.map (·.1)) sa.nk).2 xr.2
        have hB3 : (((S.set t (.lst (T'.map D.int))).set b (.dct ((B ++ [x]).map enT))).set t (.lst (T'.map D.int ++ (succ P x).map D.int)))[b]? = some (.dct ((B ++ [x]).map enT)) := by
          rw [List.getElem?_set_ne (Ne.symm bt)]
          exact List.getElem?_set_self (by rw [List.length_set]; exact hbl)
        have hT3 : (((S.set t (.lst (T'.map D.int))).set b (.dct ((B ++ [x]).map enT))).set t (.lst (T'.map D.int ++ (succ P x).map D.int)))[t]? = some (.lst ((T' ++ succ P x).map D.int)) := by
          rw [List.map_append (f := D.int)]
          exact List.getElem?_set_self (by rw [List.length_set, List.length_set]; exact htl)
        have sa3 := sa2.app (Ext.set (ex := [t]) (p := t) (o := .lst (T'.map D.int ++ (succ P x).map D.int)) (by simp)) (by simpa using ht)
        obtain ⟨S', B', o4', q⟩ := bh_loop (S0 := S0) hb ht bt cov kl hP (m - 1) n (B ++ [x]) (T' ++ succ P x) (some (.int x)) _ (by omega) (by rw [List.length_append]; omega) hB3 hT3 sa3 ((e1.trans (Ext.set (by simp))).trans (Ext.set (by simp)))
          (by
            rw [List.nodup_append]
            refine ⟨nB, by simp, fun u hu v hv e => ?_⟩
            rw [List.mem_singleton] at hv; subst hv; subst e; exact hx hu)
          (fun y hy => by
            rcases List.mem_append.mp hy with hy | hy
            · exact rB y hy
            · rw [List.mem_singleton] at hy; subst hy; exact xr)
          (fun y hy => by
            rcases List.mem_append.mp hy with hy | hy
            · exact rT y (by simp [hy])
            · have := mem_succ.mp hy
              exact ⟨.step xr.1 this, cov _ this⟩)
          (fun y hy => by
            rcases c1 y hy with z | z
            · exact .inl (by simp [z])
            · rcases List.mem_append.mp z with z | z
              · exact .inr (by simp [z])
              · rw [List.mem_singleton] at z; subst z; exact .inl (by simp))
          (fun z hz y hy => by
            rcases List.mem_append.mp hz with hz | hz
            · rcases c2 z hz y hy with z | z
              · exact .inl (by simp [z])
              · rcases List.mem_append.mp z with z | z
                · exact .inr (by simp [z])
                · rw [List.mem_singleton] at z; subst z; exact .inl (by simp)
            · rw [List.mem_singleton] at hz; subst hz; exact .inr (by simp [hy]))
          (by rw [List.length_append]; omega) (by omega)
        exact ⟨S', B', o4', by rw [while_nx (tru_loc rfl (show S[t]? = some (.lst (T'.map D.int ++ [D.int x])) from hT)|>.trans (by simp)) st]; exact q.1, q.2⟩
/-- all that follows a name -/
theorem behind_one_ok {fz : Bool} {f : Nat} {ks : List (Int × Nat)} {P : List (Int × Int)} {a : Int} {S : Sto} (sa : SA fz S f ks P) (cov : ∀ p ∈ P, p.2 ∈ ks.map (·.1)) (ha : a ∈ ks.map (·.1)) (kl : ks.length ≤ 900) (hP : P.length ≤ 300) :
    ∃ (S' : Sto) (B : List Int), dBehindOne [.loc f, .int a] S = .ok (.v (.loc S.length)) S' ∧ S'[S.length]? = some (.dct (B.map enT)) ∧ B.Nodup ∧ (∀ x, x ∈ B ↔ Rch P a x) ∧ Ext [] S S' := by
  obtain ⟨k, hk, ek⟩ := List.mem_map.mp ha
  have lt : ∀ i ∈ f :: ks.map (·.2), i < S.length := fun i hi => by
    rcases List.mem_cons.mp hi with rfl | hi
    · exact (List.getElem?_eq_some_iff.mp sa.d).1
    · obtain ⟨k, hk, rfl⟩ := List.mem_map.mp hi
      exact (List.getElem?_eq_some_iff.mp (sa.l k hk)).1
  have sa1 : SA fz (S ++ [O.dct []]) f ks P := sa.app (ex := []) Ext.app nofun
  have hsub : eSub (eVar 0) (eVar 1) [some (D.loc f), some (.int a), some (.loc S.length), none, none] (S ++ [O.dct []]) = .ok (.v (.loc k.2)) (S ++ [O.dct []]) :=
    sub_o (var_ok rfl) (var_ok rfl) sa1.d (lookup_enK.2 sa1.nk k.2 (by rw [← ek]; exact hk))
  have hl := sa1.l k hk
  rw [ek] at hl
  have hll : (S ++ [O.dct []]).length = S.length + 1 := by simp
  have sl := succ_len P a
  have wl := wt_le [] (ks.map (·.1)) sa.nk P
  obtain ⟨S', B', o4', q1, q2, q3, q4, q5⟩ := bh_loop (fz := fz) (f := f) (b := S.length) (t := S.length + 1) (ks := ks) (P := P) (a := a) (S0 := S ++ [O.dct []] ++ [O.lst ((succ P a).map D.int)]) (fun h => by have := lt _ h; omega) (fun h => by have := lt _ h; omega) (by omega) cov kl (by omega)
    ((succ P a).length + wt P (ks.map (·.1)) []) 100000 [] (succ P a) none (S ++ [O.dct []] ++ [O.lst ((succ P a).map D.int)]) (by omega) (Nat.le_refl _) (by rw [List.getElem?_append_left (by simp)]; exact List.getElem?_concat_length) (by rw [← hll]; exact List.getElem?_concat_length) (sa1.app (ex := []) Ext.app nofun) .refl .nil nofun
    (fun x hx => ⟨.one (mem_succ.mp hx), cov _ (mem_succ.mp hx)⟩) (fun y hy => .inr hy) nofun (by omega) (by omega)
  refine ⟨S', B', runF_rt ?_, q2, q4, q5, ?_⟩
  · show bBehindOne [some (D.loc f), some (.int a), none, none, none] S = _
    unfold bBehindOne
    refine (seq_nx (show _ = RS.nx [some (D.loc f), some (.int a), some (.loc S.length), none, none] (S ++ [O.dct []]) from rfl)).trans ?_
    refine (seq_nx (asg_ok (b1_ok hsub (list_loc hl)))).trans ?_
    rw [box_l, hll]
    exact (seq_nx q1).trans (ret_ok (var_ok rfl))
  · have x0 : Ext [] S (S ++ [O.dct []] ++ [O.lst ((succ P a).map D.int)]) := Ext.app.trans Ext.app
    exact ((x0.mono (ex' := [S.length, S.length + 1]) (by simp)).trans q3).drop fun i hi _ => by
      simp at hi
      omega
end Pen
end DL
/-! ## DShow -/
set_option maxHeartbeats 1000000
/-! What repr shows are fit texts. -/
namespace DL
open PySem PySem.Spec L2
namespace Show
abbrev Fit (x : Str) : Prop := PyData.strOk x = true
theorem fit_of (s : String) : Fit (Str.ofString s) := by
  unfold Fit PyData.strOk
  rw [Str.ofString_eq_toList, List.all_toArray, List.all_eq_true]
  intro n hn
  obtain ⟨c, _, rfl⟩ := List.mem_map.mp hn
  rw [decide_eq_true_eq]
  rcases c.valid with h | h
  · have : c.toNat < 55296 := h
    omega
  · exact h.2
theorem fit_app {a b : Str} (ha : Fit a) (hb : Fit b) : Fit (a ++ b) := by
  unfold Fit PyData.strOk at *
  show ((a.cps ++ b.cps).all _) = true
  rw [Array.all_append, ha, hb]; rfl
theorem fit_join {s : Str} (hs : Fit s) : ∀ ts : List Str, (∀ t ∈ ts, Fit t) → Fit (Str.join s ts)
  | [], _ => fit_of ""
  | [x], h => h x (by simp)
  | x :: y :: r, h => by
    show Fit (x ++ s ++ Str.join s (y :: r))
    exact fit_app (fit_app (h x (by simp)) hs) (fit_join hs (y :: r) fun t ht => h t (List.mem_cons_of_mem _ ht))
theorem fit_tuple {ts : List Str} (h : ∀ t ∈ ts, Fit t) : Fit (tupleText ts) := by
  unfold tupleText
  exact fit_app (fit_app (fit_of _) (fit_join (fit_of _) ts h)) (fit_of _)
theorem fit_from : ∀ (ts : List Str) (k : Nat) (acc : Str), Fit acc → (∀ t ∈ ts, Fit t) → Fit (textFrom k acc ts)
  | [], k, acc, ha, _ => ha
  | t :: r, k, acc, ha, h => by
    show Fit (textFrom (k + 1) (acc ++ _ ++ t) r)
    exact fit_from r (k + 1) _ (fit_app (fit_app ha (fit_of _)) (h t (by simp))) fun x hx => h x (List.mem_cons_of_mem _ hx)
theorem fit_list {ts : List Str} (h : ∀ t ∈ ts, Fit t) : Fit (listText ts) := by
  unfold listText
  exact fit_app (fit_from ts 0 _ (fit_of _) h) (fit_of _)
mutual
def okT : PyData → Bool
  | .none => true
  | .bool _ => true
  | .int _ => true
  | .str x => PyData.strOk (reprText x)
  | .list xs => okTs xs
  | .tuple xs => okTs xs
  | .dict _ => false
def okTs : List PyData → Bool
  | [] => true
  | x :: xs => okT x && okTs xs
end
mutual
theorem fit_shown : ∀ (p : PyData), okT p = true → Fit p.shown
  | .none, _ => by rw [PyData.shown]; exact fit_of _
  | .bool b, _ => by rw [PyData.shown]; cases b <;> exact fit_of _
  | .int i, _ => by rw [PyData.shown]; exact fit_of _
  | .str x, h => by rw [PyData.shown]; exact h
  | .list xs, h => by rw [PyData.shown]; exact fit_list (fit_all xs h)
  | .tuple xs, h => by rw [PyData.shown]; exact fit_tuple (fit_all xs h)
  | .dict _, h => by cases h
theorem fit_all : ∀ (xs : List PyData), okTs xs = true → ∀ t ∈ PyData.shownAll xs, Fit t
  | [], _, t, h => by rw [PyData.shownAll] at h; cases h
  | x :: xs, hx, t, h => by
    have hx : (okT x && okTs xs) = true := hx
    rw [Bool.and_eq_true] at hx
    rw [PyData.shownAll] at h
    rcases List.mem_cons.mp h with rfl | h
    · exact fit_shown x hx.1
    · exact fit_all xs hx.2 t h
end
end Show
end DL
/-! ## DTame -/
set_option maxHeartbeats 1000000
/-! Data that can be shown and laid. -/
namespace DL
open PySem PySem.Spec L2
/-- d can be shown: at most k deep, its text at most w long -/
structure Tm (k w : Nat) (d : D) (p : PyData) : Prop where
  py : d.py = some p
  sh : p.showable = true
  nd : p.hasDict = false
  ok : Show.okT p = true
  ly : p.canLay0 = true
  dp : p.depth ≤ k
  ln : p.shown.length ≤ w
theorem Tm.mono {k w k' w' : Nat} {d : D} {p : PyData} (h : Tm k w d p) (hk : k ≤ k') (hw : w ≤ w') : Tm k' w' d p := ⟨h.py, h.sh, h.nd, h.ok, h.ly, Nat.le_trans h.dp hk, Nat.le_trans h.ln hw⟩
structure Tms (k w : Nat) (ds : List D) (ps : List PyData) : Prop where
  py : D.pys ds = some ps
  sh : PyData.showableAll ps = true
  nd : PyData.hasDictAll ps = false
  ok : Show.okTs ps = true
  ly : PyData.canLayAll0 ps = true
  dp : PyData.depthAll ps ≤ k
  ln : ((PyData.shownAll ps).map (·.length)).sum ≤ ps.length * w
  le : ps.length = ds.length
theorem Tms.nil {k w : Nat} : Tms k w [] [] := ⟨rfl, rfl, rfl, rfl, rfl, Nat.zero_le _, by simp [PyData.shownAll], rfl⟩
theorem Tms.cons {k w : Nat} {d : D} {p : PyData} {ds : List D} {ps : List PyData} (h : Tm k w d p) (t : Tms k w ds ps) : Tms k w (d :: ds) (p :: ps) := by
  refine ⟨?_, ?_, ?_, ?_, ?_, ?_, ?_, by simp [t.le]⟩
  · rw [D.pys, h.py, t.py]
  · rw [PyData.showableAll, h.sh, t.sh]; rfl
  · rw [PyData.hasDictAll, h.nd, t.nd]; rfl
  · rw [Show.okTs, h.ok, t.ok]; rfl
  · rw [PyData.canLayAll0, h.ly, t.ly]; rfl
  · rw [PyData.depthAll]; exact Nat.max_le.mpr ⟨h.dp, t.dp⟩
  · rw [PyData.shownAll, List.map_cons, List.sum_cons, List.length_cons, Nat.succ_mul]
    have := h.ln; have := t.ln
    omega
theorem Tms.of {k w : Nat} : ∀ (ds : List D), (∀ d ∈ ds, ∃ p, Tm k w d p) → ∃ ps, Tms k w ds ps
  | [], _ => ⟨[], .nil⟩
  | d :: ds, h => by
    obtain ⟨p, hp⟩ := h d List.mem_cons_self
    obtain ⟨ps, hps⟩ := Tms.of ds fun x hx => h x (List.mem_cons_of_mem _ hx)
    exact ⟨p :: ps, .cons hp hps⟩
theorem Tm.tup {k w n : Nat} {ds : List D} {ps : List PyData} (h : Tms k w ds ps) (hn : ds.length ≤ n) : Tm (k + 1) (n * (w + 2) + 3) (.tup ds) (.tuple ps) := by
  refine ⟨?_, ?_, ?_, ?_, ?_, ?_, ?_⟩
  · rw [D.py, h.py]; rfl
  · rw [PyData.showable]; exact h.sh
  · rw [PyData.hasDict]; exact h.nd
  · rw [Show.okT]; exact h.ok
  · rw [PyData.canLay0]; exact h.ly
  · rw [PyData.depth]; have := h.dp; omega
  · rw [PyData.shown]
    have h1 := PySem.tupleText_len_le (PyData.shownAll ps)
    have h2 := PyData.shownAll_length ps
    have h3 := h.ln
    have h4 := h.le
    have h5 : ps.length * (w + 2) ≤ n * (w + 2) := Nat.mul_le_mul_right _ (by omega)
    have h6 : ps.length * (w + 2) = ps.length * w + ps.length * 2 := Nat.mul_add ..
    omega
theorem tm_tup {k w n : Nat} {ds : List D} (h : ∀ d ∈ ds, ∃ p, Tm k w d p) (hn : ds.length ≤ n) : ∃ p, Tm (k + 1) (n * (w + 2) + 3) (.tup ds) p := by
  obtain ⟨ps, hps⟩ := Tms.of ds h
  exact ⟨_, Tm.tup hps hn⟩
theorem tm_non : ∃ p, Tm 0 4 .non p := ⟨_, rfl, rfl, rfl, rfl, rfl, Nat.le_refl _, by decide +kernel⟩
theorem tm_bl (b : Bool) : ∃ p, Tm 0 5 (.bl b) p := ⟨_, rfl, rfl, rfl, rfl, rfl, Nat.le_refl _, by cases b <;> decide +kernel⟩
theorem tm_int {i : Int} (h : i.natAbs < 10 ^ 12) : ∃ p, Tm 0 13 (.int i) p := by
  refine ⟨_, rfl, ?_, rfl, rfl, rfl, Nat.le_refl _, ?_⟩
  · rw [PyData.showable, decide_eq_true_eq]
    have : i.natAbs.log2 ≤ 40 := Pen.lg (by omega)
    omega
  · exact PyData.shown_int_le h
/-- the text of data -/
def shD (d : D) : Str := (d.py.getD .none).shown
theorem Tm.shD {k w : Nat} {d : D} {p : PyData} (h : Tm k w d p) : shD d = p.shown := by
  unfold DL.shD; rw [h.py]; rfl
theorem Tm.fit {k w : Nat} {d : D} {p : PyData} (h : Tm k w d p) : Show.Fit (DL.shD d) := by
  rw [h.shD]; exact Show.fit_shown p h.ok
theorem repr_ok {k w : Nat} {d : D} {p : PyData} {S : Sto} (h : Tm k w d p) (hk : k ≤ 50) (hw : w ≤ 16000000) : reprF (.v d) S = some (.v (.str (shD d))) := by
  have e : F.py (.v d) S = some p := by
    have := h.py
    unfold F.py
    split
    · rename_i q; cases q
    · rename_i n q; cases q; simp [D.py] at this
    · rename_i q; cases q; exact this
  unfold reprF
  rw [e]
  show (if showOk p then some (F.v (.str p.shown)) else none) = _
  have hs : showOk p = true := by
    unfold showOk
    rw [h.sh, h.nd, decide_eq_true (Nat.le_trans h.ln hw), decide_eq_true (Nat.le_trans h.dp hk)]; rfl
  rw [if_pos hs, h.shD]
theorem eqB_str {x y : Str} {S : Sto} (hx : Show.Fit x) (hy : Show.Fit y) : eqB (.v (.str x)) (.v (.str y)) S = some (x == y) := by
  unfold eqB
  show (if SeqAt.shaped (.str x) && SeqAt.shaped (.str y) then some (PyData.eqv (.str x) (.str y)) else none) = _
  have a : ∀ {z : Str}, Show.Fit z → SeqAt.shaped (.str z) = true := fun {z} h => by
    unfold SeqAt.shaped
    rw [PyData.canLay0, PyData.depth]
    simp only [Bool.and_eq_true]
    exact ⟨h, by decide⟩
  rw [a hx, a hy]
  rfl
theorem ne_same {x : Str} {S : Sto} (hx : Show.Fit x) : neF (.v (.str x)) (.v (.str x)) S = some (.v (.bl false)) := by
  unfold neF
  rw [eqB_str hx hx]
  simp
end DL
/-! ## DValue -/
set_option maxHeartbeats 1000000
/-! The laws' own values and ways (framed). -/
namespace DL
open PySem PySem.Spec L2
namespace Pen
def bLawValue : DL.Env → Sto → RS :=
  (sSeq (sAsg (gTpN 2 (gsCons (gNm 3) (gsCons (gNm 4) gsNil))) (eSub (eSub (eVar 0) (eC (.int 0))) (eVar 1)))
  (sRet (eSub (eOp addF (eLst (eCons (eVar 3) eNil)) (eLc (eSeq (eVar 4)) (gNm 5) tYes' (eSub (eVar 5) (eC (.int 1))) [5])) (eVar 2))))
def dLawValue : List D → Sto → R F := frF (runF 3 bLawValue)
theorem row_sub {q : Plan} {s : Nat} {r : Row} {S : Sto} {ea eb : Env → Sto → R F} {ρ : Env} (h : q.rs[s]? = some r) (ha : ea ρ S = .ok (.v (plD q)) S) (hb : eb ρ S = .ok (.v (.int s)) S) : eSub (eSub ea (eC (.int 0))) eb ρ S = .ok (.v (rowD r)) S := by
  have hn : (q.rs.map rowD)[s]? = some (rowD r) := by rw [List.getElem?_map, h]; rfl
  exact sub_ok (sub_ok ha c_ok (show ixF (.v (plD q)) (.v (.int 0)) S = some (.v (.tup (q.rs.map rowD))) from rfl)) hb (ix_tup (atI_nat hn))
theorem ix_l {S : Sto} {ds : List D} {i : Int} {d : D} (hi : atI ds i = some d) : ixF (.l ds) (.v (.int i)) S = some (.v d) := by
  show ((atI ds i).map F.v) = _
  rw [hi]; rfl
theorem asg_to {g : D → Env → Option Env} {ee : Env → Sto → R F} {ρ ρ1 : Env} {S S1 : Sto} {d : D} (h : ee ρ S = .ok (.v d) S1) (hg : g d ρ = some ρ1) : sAsg g ee ρ S = .nx ρ1 S1 := by
  unfold sAsg eBox
  rw [h]
  show (match g d ρ with
    | some ρ' => RS.nx ρ' S1
    | none => RS.bad) = _
  rw [hg]
theorem law_value_ok {q : Plan} {r : Row} {s : Nat} {v x : Int} {S : Sto} (hr : q.rs[s]? = some r) (hl : r.2.length ≤ 4) (hv : verV r v = some x) : dLawValue [plD q, .int s, .int v] S = .ok (.v (.int x)) S := by
  refine frF_v (S' := []) (runF_rt ?_) (by simp [pure_pl]) rfl
  unfold bLawValue
  refine (seq_to [some (plD q), some (.int s), some (.int v), some (.int r.1), some (.tup (r.2.map prD)), none] [] ?_).trans ?_
  · exact asg_to (row_sub hr (var_ok rfl) (var_ok rfl)) rfl
  have hc := elc_enc (ei := eSeq (eVar 4)) (g := gNm 5) (et := tYes') (ee := eSub (eVar 5) (eC (.int 1))) (vs := [5]) (ρ := [some (plD q), some (.int s), some (.int v), some (.int r.1), some (.tup (r.2.map prD)), none]) (S := []) (S1 := []) (it := ⟨r.2.map prD, []⟩) rfl (by simp [DIt.ok]) prD (fun _ => true) (fun x => .int x.2) r.2 rfl (by omega)
    (fun x _ => ⟨_, rfl, rfl, fun _ => rfl⟩)
  have h1 : 0 ≤ v := by
    unfold verV at hv
    split at hv
    · assumption
    · cases hv
  have h2 : (rowV r)[v.toNat]? = some x := by
    unfold verV at hv
    rw [if_pos h1] at hv
    exact hv
  have hat : atI ((rowV r).map D.int) v = some (.int x) := by
    have := atI_nat (ds := (rowV r).map .int) (k := v.toNat) (d := .int x) (by rw [List.getElem?_map, h2]; rfl)
    rwa [show (v.toNat : Int) = v by omega] at this
  refine ret_ok (sub_ok (x := .l ((rowV r).map .int)) (op_ok (show eLst (eCons (eVar 3) eNil) _ _ = .ok (.l [.int r.1]) [] from rfl) hc ?_) (var_ok rfl) (ix_l hat))
  rw [filter_yes]
  show (if ([D.int r.1] : List D).length + (r.2.map fun x => D.int x.2).length ≤ 1000000 then some (F.l ([D.int r.1] ++ r.2.map fun x => D.int x.2)) else none) = _
  rw [if_pos (by simp; omega)]
  simp [rowV]
def bLawGoes : DL.Env → Sto → RS :=
  (sSeq (sAsg (gTpN 4 (gsCons (gNm 3) (gsCons (gNm 4) (gsCons (gNm 5) (gsCons (gNm 6) gsNil))))) (eSub (eSub (eVar 0) (eC (.int 2))) (eVar 1)))
  (sRet (eSub (eOp addF (eLc (eSeq (eVar 5)) (gTpN 2 (gsCons (gNm 7) (gsCons (gNm 8) gsNil))) (tOfB (eOp eqF (eVar 7) (eCall 3 dLawValue (eCons (eVar 0) (eCons (eVar 4) (eCons (eVar 2) eNil)))))) (eVar 8) [7, 8]) (eLst (eCons (eVar 6) eNil))) (eC (.int 0)))))
def dLawGoes : List D → Sto → R F := frF (runF 6 bLawGoes)
theorem go_head (gs : List (Int × Int)) (e x : Int) : (((gs.filter fun g => g.1 == x).map fun g => D.int g.2) ++ [D.int e])[0]? = some (.int (goS gs e x)) := by
  unfold goS
  induction gs with
  | nil => rfl
  | cons g gs ih =>
    simp only [List.filter_cons, List.find?_cons]
    cases h : (g.1 == x) with
    | true => rfl
    | false => simpa using ih
theorem law_goes_ok {q : Plan} {r : Row} {p s : Nat} {v x e : Int} {gs : List (Int × Int)} {S : Sto} (h : q.ns[p]? = some (.read s gs e)) (hg : gs.length ≤ 10) (hr : q.rs[s]? = some r) (hl : r.2.length ≤ 4) (hv : verV r v = some x) : dLawGoes [plD q, .int p, .int v] S = .ok (.v (.int (goS gs e x))) S := by
  refine frF_v (S' := []) (runF_rt ?_) (by simp [pure_pl]) rfl
  unfold bLawGoes
  refine (seq_to [some (plD q), some (.int p), some (.int v), some (.str "read"), some (.int s), some (.tup (gs.map prD)), some (.int e), none, none] [] ?_).trans ?_
  · exact asg_to (node_sub h (var_ok rfl) (var_ok rfl)) rfl
  have hc := elc_enc (ei := eSeq (eVar 5)) (g := gTpN 2 (gsCons (gNm 7) (gsCons (gNm 8) gsNil))) (et := tOfB (eOp eqF (eVar 7) (eCall 3 dLawValue (eCons (eVar 0) (eCons (eVar 4) (eCons (eVar 2) eNil)))))) (ee := eVar 8) (vs := [7, 8]) (ρ := [some (plD q), some (.int p), some (.int v), some (.str "read"), some (.int s), some (.tup (gs.map prD)), some (.int e), none, none]) (S := []) (S1 := []) (it := ⟨gs.map prD, []⟩) rfl (by simp [DIt.ok]) prD (fun g => g.1 == x) (fun g => .int g.2) gs rfl (by omega)
    (fun g _ => ⟨_, rfl, tofb_ok (op_ok (var_ok rfl) (call3v_ok (var_ok rfl) (var_ok rfl) (var_ok rfl) (law_value_ok hr hl hv)) (eq_ii _ _ _)), fun _ => rfl⟩)
  refine ret_ok (sub_ok (op_ok hc (show eLst (eCons (eVar 6) eNil) _ _ = .ok (.l [.int e]) [] from rfl) ?_) c_ok (ix_l (ds := ((gs.filter fun g => g.1 == x).map fun g => D.int g.2) ++ [D.int e]) (by
    have := atI_nat (go_head gs e x)
    simpa using this)))
  show (if ((gs.filter fun g => g.1 == x).map fun g => D.int g.2).length + ([D.int e] : List D).length ≤ 1000000 then _ else none) = _
  rw [if_pos (by
    have := List.length_filter_le (fun g : Int × Int => g.1 == x) gs
    simp; omega)]
/-! ### _law_read -/
def lrB : DL.Env → Sto → RS := (sSeq (sAsg (gNm 5) (eSub (eSub (eVar 0) (eC (.int 2))) (eVar 1)))
  (sSeq (sIf (tOfB (eOp eqF (eSub (eVar 5) (eC (.int 0))) (eC (.str "end")))) (sRet (eTup (eCons (eB (f1 tupleF) (fCons (eVar 3) fNil)) (eCons (eVar 5) eNil)))) sNil)
  (sSeq (sIf (tOfB (eOp gtF (eVar 4) (eB (f1 lenF) (fCons (eSub (eSub (eSub (eVar 0) (eC (.int 0))) (eSub (eVar 5) (eC (.int 1)))) (eC (.int 1))) fNil)))) (sRet (eTup (eCons (eB (f1 tupleF) (fCons (eVar 3) fNil)) (eCons (eTup (eCons (eC (.str "astray")) (eCons (eVar 1) eNil))) eNil)))) sNil)
  (sSeq (sMtL appO (eVar 3) (eCons (eTup (eCons (eVar 1) (eCons (eSub (eVar 5) (eC (.int 1))) (eCons (eVar 4) (eCons (eCall 3 dLawValue (eCons (eVar 0) (eCons (eSub (eVar 5) (eC (.int 1))) (eCons (eVar 4) eNil)))) eNil))))) eNil))
  (sAsg (gNm 1) (eCall 3 dLawGoes (eCons (eVar 0) (eCons (eVar 1) (eCons (eVar 4) eNil)))))))))
def bLawRead : DL.Env → Sto → RS :=
  (sSeq (sAsg (gNm 3) (eLst eNil))
  (sSeq (sForF (eSeq (eVar 2)) (gNm 4) (sSeq (sAsg (gNm 5) (eSub (eSub (eVar 0) (eC (.int 2))) (eVar 1)))
  (sSeq (sIf (tOfB (eOp eqF (eSub (eVar 5) (eC (.int 0))) (eC (.str "end")))) (sRet (eTup (eCons (eB (f1 tupleF) (fCons (eVar 3) fNil)) (eCons (eVar 5) eNil)))) sNil)
  (sSeq (sIf (tOfB (eOp gtF (eVar 4) (eB (f1 lenF) (fCons (eSub (eSub (eSub (eVar 0) (eC (.int 0))) (eSub (eVar 5) (eC (.int 1)))) (eC (.int 1))) fNil)))) (sRet (eTup (eCons (eB (f1 tupleF) (fCons (eVar 3) fNil)) (eCons (eTup (eCons (eC (.str "astray")) (eCons (eVar 1) eNil))) eNil)))) sNil)
  (sSeq (sMtL appO (eVar 3) (eCons (eTup (eCons (eVar 1) (eCons (eSub (eVar 5) (eC (.int 1))) (eCons (eVar 4) (eCons (eCall 3 dLawValue (eCons (eVar 0) (eCons (eSub (eVar 5) (eC (.int 1))) (eCons (eVar 4) eNil)))) eNil))))) eNil))
  (sAsg (gNm 1) (eCall 3 dLawGoes (eCons (eVar 0) (eCons (eVar 1) (eCons (eVar 4) eNil))))))))))
  (sRet (eTup (eCons (eB (f1 tupleF) (fCons (eVar 3) fNil)) (eCons (eIf (tOfB (eOp eqF (eSub (eSub (eSub (eVar 0) (eC (.int 2))) (eVar 1)) (eC (.int 0))) (eC (.str "end")))) (eSub (eSub (eVar 0) (eC (.int 2))) (eVar 1)) (eTup (eCons (eC (.str "open")) (eCons (eVar 1) eNil)))) eNil))))))
def dLawRead : List D → Sto → R F := frF (runF 3 bLawRead)
theorem is_end_t {q : Plan} {nd : Node} {w : Str} {b : Bool} {ee : Env → Sto → R F} {ρ : Env} {S : Sto} (h : ee ρ S = .ok (.v (ndD nd)) S) (hb : ∀ k : Str, ixF (.v (ndD nd)) (.v (.int 0)) [] = some (.v (.str k)) → eqB (.v (.str k)) (.v (.str w)) [] = some b) : tOfB (eOp eqF (eSub ee (eC (.int 0))) (eC (.str w))) ρ S = .ok b S := by
  have hk : ∃ k : Str, ixF (.v (ndD nd)) (.v (.int 0)) [] = some (.v (.str k)) := by cases nd <;> exact ⟨_, rfl⟩
  obtain ⟨k, hk⟩ := hk
  have hq := hb k hk
  exact tofb_ok (op_ok (sub_ok h c_ok (show ixF (.v (ndD nd)) (.v (.int 0)) S = some (.v (.str k)) by cases nd <;> exact hk)) c_ok (show (eqB (.v (.str k)) (.v (.str w)) S).map (fun k => F.v (.bl k)) = _ by
    have : eqB (.v (.str k)) (.v (.str w)) S = some b := hq
    rw [this]; rfl))
theorem kind_end {nd : Node} : ∀ k : Str, ixF (.v (ndD nd)) (.v (.int 0)) [] = some (.v (.str k)) → eqB (.v (.str k)) (.v (.str "end")) [] = some (!isRead nd) := by
  intro k h
  cases nd with
  | read s gs e =>
    have h : some (F.v (.str "read")) = some (F.v (.str k)) := h
    cases h
    show eqB (.v (.str "read")) (.v (.str "end")) [] = some false
    decide +kernel
  | good =>
    have h : some (F.v (.str "end")) = some (F.v (.str k)) := h
    cases h
    decide +kernel
  | misled =>
    have h : some (F.v (.str "end")) = some (F.v (.str k)) := h
    cases h
    decide +kernel
theorem kind_read {nd : Node} : ∀ k : Str, ixF (.v (ndD nd)) (.v (.int 0)) [] = some (.v (.str k)) → eqB (.v (.str k)) (.v (.str "read")) [] = some (isRead nd) := by
  intro k h
  cases nd with
  | read s gs e =>
    have h : some (F.v (.str "read")) = some (F.v (.str k)) := h
    cases h
    show eqB (.v (.str "read")) (.v (.str "read")) [] = some true
    decide +kernel
  | good =>
    have h : some (F.v (.str "end")) = some (F.v (.str k)) := h
    cases h
    decide +kernel
  | misled =>
    have h : some (F.v (.str "end")) = some (F.v (.str k)) := h
    cases h
    decide +kernel
theorem ver_none {r : Row} {v : Int} (v0 : 0 ≤ v) : verV r v = none ↔ (r.2.length : Int) < v := by
  unfold verV
  rw [if_pos v0, List.getElem?_eq_none_iff]
  simp only [rowV, List.length_cons, List.length_map]
  omega
theorem lr_loop {q : Plan} (g : GoodW q) {it : DIt} (hk : ∀ S, it.ok S) {a2 : Option D} : ∀ (vs : List Int) (p : Int) (acc : List (Int × Int × Int × Int)) (o4 o5 : Option D), (∀ v ∈ vs, 0 ≤ v) → 0 ≤ p → p < q.ns.length → acc.length + vs.length ≤ 10000 →
    (∃ (p' : Int) (o4' o5' : Option D), 0 ≤ p' ∧ p' < q.ns.length ∧ (walkS q p vs).2 = endD q p' ∧ forL it (gNm 4) lrB (vs.map .int) [some (plD q), some (.int p), a2, some (.loc 0), o4, o5] [.lst (acc.map rdD)] = .nx [some (plD q), some (.int p'), a2, some (.loc 0), o4', o5'] [.lst ((acc ++ (walkS q p vs).1).map rdD)]) ∨
    forL it (gNm 4) lrB (vs.map .int) [some (plD q), some (.int p), a2, some (.loc 0), o4, o5] [.lst (acc.map rdD)] = .rt (.v (.tup [.tup ((acc ++ (walkS q p vs).1).map rdD), (walkS q p vs).2])) [.lst ((acc ++ (walkS q p vs).1).map rdD)]
  | [], p, acc, o4, o5, _, p0, p1, _ => .inl ⟨p, o4, o5, p0, p1, rfl, by rw [List.map_nil, forL, if_pos (hk _)]; show _ = RS.nx _ [.lst ((acc ++ []).map rdD)]; rw [List.append_nil]⟩
  | v :: vs, p, acc, o4, o5, hv, p0, p1, hl => by
    obtain ⟨nd, hn, hm, hp⟩ := at_i p0 p1
    have v0 := hv v List.mem_cons_self
    rw [List.map_cons]
    have hnode : ∀ (o5 : Option D) (S : Sto), eSub (eSub (eVar 0) (eC (.int 2))) (eVar 1) [some (plD q), some (.int p), a2, some (.loc 0), some (.int v), o5] S = .ok (.v (ndD nd)) S := fun o5 S => node_sub (p := p.toNat) hn (var_ok rfl) (by rw [hp]; exact var_ok rfl)
    have t := is_end_t (q := q) (ee := eVar 5) (ρ := [some (plD q), some (.int p), a2, some (.loc 0), some (.int v), some (ndD nd)]) (S := [.lst (acc.map rdD)]) (var_ok rfl) (kind_end (nd := nd))
    have fin : isRead nd = false → walkS q p (v :: vs) = ([], endD q p) → endD q p = ndD nd → forL it (gNm 4) lrB (.int v :: vs.map .int) [some (plD q), some (.int p), a2, some (.loc 0), o4, o5] [.lst (acc.map rdD)] = .rt (.v (.tup [.tup ((acc ++ (walkS q p (v :: vs)).1).map rdD), (walkS q p (v :: vs)).2])) [.lst ((acc ++ (walkS q p (v :: vs)).1).map rdD)] := fun e1 e2 e3 => by
      rw [e2, e3]
      refine for_rt (hk _) (by rfl) ?_
      show lrB [some (plD q), some (.int p), a2, some (.loc 0), some (.int v), o5] _ = .rt (.v (.tup [.tup ((acc ++ []).map rdD), ndD nd])) [.lst ((acc ++ []).map rdD)]
      rw [List.append_nil]
      unfold lrB
      rw [e1] at t
      refine (seq_nx (asgv (hnode o5 _))).trans ?_
      exact seq_rt ((if_ok t).trans ((if_pos rfl).trans (ret_ok (tup_ok (cons_ok (b1_ok (var_ok rfl) (tupleF_loc rfl)) (cons_ok (var_ok rfl) nil_ok)) (by simp)))))
    cases nd with
    | read s gs e =>
      obtain ⟨s0, s1, gg, e0, e1⟩ := g.ng _ hm
      obtain ⟨r, hr, hrm, hs⟩ := at_i s0 s1
      have hl4 := g.rl r hrm
      have ew : walkS q p (v :: vs) = (match verV r v with
        | some x => ((p, s, v, x) :: (walkS q (goS gs e x) vs).1, (walkS q (goS gs e x) vs).2)
        | none => ([], .tup [.str "astray", .int p])) := by
        rw [walkS, hn]
        show (match (q.rs[s.toNat]?).bind fun r => verV r v with
          | some x => ((p, s, v, x) :: (walkS q (goS gs e x) vs).1, (walkS q (goS gs e x) vs).2)
          | none => ([], D.tup [.str "astray", .int p])) = _
        rw [hr]; rfl
      rw [ew]
      have hsg : ∀ (S : Sto), eSub (eVar 5) (eC (.int 1)) [some (plD q), some (.int p), a2, some (.loc 0), some (.int v), some (ndD (.read s gs e))] S = .ok (.v (.int s)) S := fun S => sub_ok (var_ok rfl) c_ok (show ixF (.v (ndD (.read s gs e))) (.v (.int 1)) S = some (.v (.int s)) from rfl)
      have hlen : eB (f1 lenF) (fCons (eSub (eSub (eSub (eVar 0) (eC (.int 0))) (eSub (eVar 5) (eC (.int 1)))) (eC (.int 1))) fNil) [some (plD q), some (.int p), a2, some (.loc 0), some (.int v), some (ndD (.read s gs e))] [.lst (acc.map rdD)] = .ok (.v (.int r.2.length)) [.lst (acc.map rdD)] := b1_ok (sub_ok (row_sub hr (var_ok rfl) (by rw [hs]; exact hsg _)) c_ok (show ixF (.v (rowD r)) (.v (.int 1)) [.lst (acc.map rdD)] = some (.v (.tup (r.2.map prD))) from rfl)) (by
        show some (F.v (.int (r.2.map prD).length)) = _
        rw [List.length_map])
      have t2 : tOfB (eOp gtF (eVar 4) (eB (f1 lenF) (fCons (eSub (eSub (eSub (eVar 0) (eC (.int 0))) (eSub (eVar 5) (eC (.int 1)))) (eC (.int 1))) fNil))) [some (plD q), some (.int p), a2, some (.loc 0), some (.int v), some (ndD (.read s gs e))] [.lst (acc.map rdD)] = .ok (decide ((r.2.length : Int) < v)) [.lst (acc.map rdD)] := tofb_ok (op_ok (var_ok rfl) hlen (gt_ii _ _ _))
      cases hx : verV r v with
      | none =>
        right
        rw [decide_eq_true ((ver_none v0).mp hx)] at t2
        refine for_rt (hk _) (by rfl) ?_
        show lrB [some (plD q), some (.int p), a2, some (.loc 0), some (.int v), o5] _ = .rt (.v (.tup [.tup ((acc ++ []).map rdD), _])) [.lst ((acc ++ []).map rdD)]
        rw [List.append_nil]
        unfold lrB
        refine (seq_nx (asgv (hnode o5 _))).trans ?_
        refine (seq_nx (if_no t)).trans ?_
        exact seq_rt ((if_ok t2).trans ((if_pos rfl).trans (ret_ok (tup_ok (cons_ok (b1_ok (var_ok rfl) (tupleF_loc rfl)) (cons_ok (tup_ok (cons_ok c_ok (cons_ok (var_ok rfl) nil_ok)) (by simp)) nil_ok)) (by simp)))))
      | some x =>
        have c : ¬ (r.2.length : Int) < v := fun z => by rw [(ver_none v0).mpr z] at hx; cases hx
        rw [decide_eq_false c] at t2
        have gi := goS_in (x := x) gg e0 e1
        have hgo := law_goes_ok (S := [.lst ((acc ++ [(p, s, v, x)]).map rdD)]) (p := p.toNat) (s := s.toNat) (gs := gs) (e := e) (by rw [hs]; exact hn) gg.1 hr hl4 hx
        have hva := law_value_ok (S := [.lst (acc.map rdD)]) hr hl4 hx
        rw [hp] at hgo
        rw [hs] at hva
        have ih := lr_loop g hk (a2 := a2) vs (goS gs e x) (acc ++ [(p, s, v, x)]) (some (.int v)) (some (ndD (.read s gs e))) (fun z hz => hv z (List.mem_cons_of_mem _ hz)) gi.1 gi.2 (by simp at hl ⊢; omega)
        rw [for_nx (ρ2 := [some (plD q), some (.int (goS gs e x)), a2, some (.loc 0), some (.int v), some (ndD (.read s gs e))]) (S2 := [.lst ((acc ++ [(p, s, v, x)]).map rdD)]) (hk _) (by rfl) ?_]
        · simp only [List.append_assoc, List.singleton_append] at ih
          exact ih
        · show lrB [some (plD q), some (.int p), a2, some (.loc 0), some (.int v), o5] _ = _
          unfold lrB
          refine (seq_nx (asgv (hnode o5 _))).trans ?_
          refine (seq_nx (if_no t)).trans ?_
          refine (seq_nx (if_no t2)).trans ?_
          refine (seq_nx (mt_ok (ds := [rdD (p, s, v, x)]) (S3 := [.lst ((acc ++ [(p, s, v, x)]).map rdD)]) (var_ok rfl) (by rfl) (cons_ok (tup_ok (cons_ok (var_ok rfl) (cons_ok (hsg _) (cons_ok (var_ok rfl) (cons_ok (call3v_ok (var_ok rfl) (hsg _) (var_ok rfl) hva) nil_ok)))) (by simp)) nil_ok) ?_)).trans ?_
          · rw [app_loc (ds := acc.map rdD) rfl (by rw [List.length_map]; simp at hl; omega), List.map_append]; rfl
          · exact asgv (call3v_ok (var_ok rfl) (var_ok rfl) (var_ok rfl) hgo)
    | good => exact .inr (fin rfl (by rw [walkS, hn]) (by unfold endD; rw [hn]))
    | misled => exact .inr (fin rfl (by rw [walkS, hn]) (by unfold endD; rw [hn]))
theorem law_read_ok {q : Plan} (g : GoodW q) {p : Int} {vs : List Int} {S : Sto} (hv : ∀ v ∈ vs, 0 ≤ v) (p0 : 0 ≤ p) (p1 : p < q.ns.length) (hl : vs.length ≤ 10000) :
    dLawRead [plD q, .int p, .tup (vs.map .int)] S = .ok (.v (.tup [.tup ((walkS q p vs).1.map rdD), (walkS q p vs).2])) S := by
  refine frF_v (S' := [.lst ((walkS q p vs).1.map rdD)]) (runF_rt ?_) (by simp [pure_pl, pure_ints]) (by simp [walkS_pure, pure_map rdD _ fun x _ => (rfl : pureD (rdD x) = true)])
  unfold bLawRead
  refine (seq_to [some (plD q), some (.int p), some (.tup (vs.map .int)), some (.loc 0), none, none] [.lst []] ?_).trans ?_
  · rfl
  have lp := lr_loop g (it := ⟨vs.map .int, []⟩) (by simp [DIt.ok]) (a2 := some (.tup (vs.map .int))) vs p [] none none hv p0 p1 (by simpa using hl)
  have hf : ∀ r, forL ⟨vs.map .int, []⟩ (gNm 4) lrB (vs.map .int) [some (plD q), some (.int p), some (.tup (vs.map .int)), some (.loc 0), none, none] [.lst []] = r → sForF (eSeq (eVar 2)) (gNm 4) lrB [some (plD q), some (.int p), some (.tup (vs.map .int)), some (.loc 0), none, none] [.lst []] = r := fun r h => by
    rw [sForF_eq, for_ok (it := ⟨vs.map .int, []⟩) (S1 := [.lst []]) (seq_tupI (l := vs) (var_ok rfl))]
    exact h
  rcases lp with ⟨p', o5, o6, q0, q1, e1, e2⟩ | e2
  · refine (seq_nx (hf _ e2)).trans ?_
    obtain ⟨nd, hn, hm, hp⟩ := at_i q0 q1
    have hnode := node_sub (p := p'.toNat) (ea := eVar 0) (eb := eVar 1) (ρ := [some (plD q), some (.int p'), some (.tup (vs.map .int)), some (.loc 0), o5, o6]) (S := [.lst ((walkS q p vs).1.map rdD)]) hn (var_ok rfl) (by rw [hp]; exact var_ok rfl)
    have t := is_end_t (q := q) hnode (kind_end (nd := nd))
    rw [e1]
    refine ret_ok (tup_ok (cons_ok (b1_ok (var_ok rfl) (tupleF_loc rfl)) (cons_ok ((eif_ok t).trans ?_) nil_ok)) (by simp))
    unfold endD
    rw [hn]
    cases nd with
    | read s gs e =>
      refine (if_neg (by simp [isRead])).trans ?_
      exact tup_ok (cons_ok c_ok (cons_ok (var_ok rfl) nil_ok)) (by simp)
    | good => exact (if_pos rfl).trans hnode
    | misled => exact (if_pos rfl).trans hnode
  · exact seq_rt (hf _ e2)
end Pen
end DL
/-! ## DStood -/
set_option maxHeartbeats 1000000
/-! How a walker ends while versions stand. -/
namespace DL
open PySem PySem.Spec L2
namespace Pen
theorem inV_ints (a : Int) (l : List Int) : inV (vOf (.int a)) ((l.map D.int).map vOf) = decide (a ∈ l) := by
  unfold inV
  induction l with
  | nil => simp
  | cons b l ih =>
    rw [List.map_cons, List.map_cons, List.any_cons, ih]
    show (b == a || _) = _
    by_cases h : b = a
    · subst h; simp
    · have h2 : ¬ a = b := fun e => h e.symm
      simp [h, h2]
theorem flat_ints (l : List Int) : (l.map D.int).all flatD = true := by
  rw [List.all_map, List.all_eq_true]
  intro x _; rfl
theorem in_ints {S : Sto} {n : Nat} {l : List Int} {a : Int} {ea eb : Env → Sto → R F} {ρ : Env} (h : S[n]? = some (.lst (l.map .int))) (ha : ea ρ S = .ok (.v (.int a)) S) (hb : eb ρ S = .ok (.v (.loc n)) S) : eIn false ea eb ρ S = .ok (.v (.bl (decide (a ∈ l)))) S := by
  have e : inF false (.v (.int a)) (.v (.loc n)) S = some (.v (.bl (decide (a ∈ l)))) := by
    unfold inF inB
    rw [getTL_loc h]
    show (if (flatD (.int a) && (l.map D.int).all flatD) = true then some (inV (vOf (.int a)) ((l.map D.int).map vOf)) else none).map _ = _
    have c : (flatD (.int a) && (l.map D.int).all flatD) = true := by rw [flat_ints]; rfl
    rw [if_pos c, inV_ints]; rfl
  unfold eIn
  rw [ha, R.bind_ok, hb, R.bind_ok, e]
def lsB : DL.Env → Sto → RS := (sSeq (sIf (tOfB (eIn false (eVar 2) (eVar 3))) (sRet (eC .non)) sNil)
  (sSeq (sMtL appO (eVar 3) (eCons (eVar 2) eNil))
  (sAsg (gNm 2) (eCall 3 dLawGoes (eCons (eVar 0) (eCons (eVar 2) (eCons (eSub (eVar 1) (eSub (eSub (eSub (eVar 0) (eC (.int 2))) (eVar 2)) (eC (.int 1)))) eNil)))))))
def lsT : DL.Env → Sto → R Bool := (tOfB (eOp eqF (eSub (eSub (eSub (eVar 0) (eC (.int 2))) (eVar 2)) (eC (.int 0))) (eC (.str "read"))))
def bLawStood : DL.Env → Sto → RS :=
  (sSeq (sAsg (gNm 3) (eLst eNil))
  (sSeq (sWhile 100000 (tOfB (eOp eqF (eSub (eSub (eSub (eVar 0) (eC (.int 2))) (eVar 2)) (eC (.int 0))) (eC (.str "read")))) (sSeq (sIf (tOfB (eIn false (eVar 2) (eVar 3))) (sRet (eC .non)) sNil)
  (sSeq (sMtL appO (eVar 3) (eCons (eVar 2) eNil))
  (sAsg (gNm 2) (eCall 3 dLawGoes (eCons (eVar 0) (eCons (eVar 2) (eCons (eSub (eVar 1) (eSub (eSub (eSub (eVar 0) (eC (.int 2))) (eVar 2)) (eC (.int 1)))) eNil))))))))
  (sRet (eTup (eCons (eB (f1 lenF) (fCons (eVar 3) fNil)) (eCons (eSub (eSub (eSub (eVar 0) (eC (.int 2))) (eVar 2)) (eC (.int 1))) eNil))))))
def dLawStood : List D → Sto → R F := frF (runF 1 bLawStood)
/-- one step -/
def nxS (q : Plan) (vs : List Int) (p : Int) : Option Int := match q.ns[p.toNat]? with
  | some (.read s gs e) => ((q.rs[s.toNat]?).bind fun r => (vs[s.toNat]?).bind fun v => verV r v).map fun x => goS gs e x
  | _ => none
theorem still_step {q : Plan} {vs : List Int} {p p' : Int} {k : Nat} {c : Int} (h : nxS q vs p = some p') : stillS q vs (k + 1) c p = stillS q vs k (c + 1) p' := by
  unfold nxS at h
  rw [stillS]
  split at h
  · rename_i s gs e hn
    rw [hn]
    show (match (q.rs[s.toNat]?).bind fun r => (vs[s.toNat]?).bind fun v => verV r v with
      | some x => stillS q vs k (c + 1) (goS gs e x)
      | none => .non) = _
    cases hx : (q.rs[s.toNat]?).bind fun r => (vs[s.toNat]?).bind fun v => verV r v with
    | none => rw [hx] at h; cases h
    | some x =>
      rw [hx] at h
      cases h
      rfl
  · cases h
/-- where all lead on among themselves nobody ends -/
theorem still_ring {q : Plan} {vs : List Int} {l : List Int} (h : ∀ x ∈ l, ∃ x', nxS q vs x = some x' ∧ x' ∈ l) : ∀ (k : Nat) (c x : Int), x ∈ l → stillS q vs k c x = .non
  | 0, _, _, _ => rfl
  | k + 1, c, x, hx => by
    obtain ⟨x', h1, h2⟩ := h x hx
    rw [still_step h1]
    exact still_ring h k (c + 1) x' h2
theorem nodup_len : ∀ (n : Nat) (l : List Int), l.Nodup → (∀ x ∈ l, 0 ≤ x ∧ x < n) → l.length ≤ n
  | 0, l, _, h => by
    cases l with
    | nil => exact Nat.le_refl _
    | cons x l => have := h x List.mem_cons_self; omega
  | n + 1, l, hd, h => by
    have ih := nodup_len n (l.erase n) (hd.erase _) fun x hx => by
      have hx2 := List.mem_of_mem_erase hx
      have := h x hx2
      have hne : x ≠ n := fun e => by
        subst e
        exact (hd.mem_erase_iff.mp hx).1 rfl
      omega
    by_cases hm : (n : Int) ∈ l
    · have := List.length_erase_of_mem hm
      omega
    · rw [List.erase_of_not_mem hm] at ih; omega
theorem ls_loop {q : Plan} (g : GoodW q) {vs : List Int} (gv : GoodV q vs) {p0 : Int} : ∀ (m : Nat) (seen : List Int) (p : Int), 0 ≤ p → p < q.ns.length → seen.Nodup → (∀ x ∈ seen, 0 ≤ x ∧ x < q.ns.length) → (∀ x ∈ seen, ∃ x', nxS q vs x = some x' ∧ (x' ∈ seen ∨ x' = p)) →
    (∀ k, stillS q vs (seen.length + k) 0 p0 = stillS q vs k seen.length p) → q.ns.length ≤ 1000 → q.ns.length + 1 ≤ seen.length + m →
    (stillS q vs q.ns.length 0 p0 = .non ∧ ∃ S', whileL lsT lsB m [some (plD q), some (.tup (vs.map .int)), some (.int p), some (.loc 0)] [.lst (seen.map .int)] = .rt (.v .non) S') ∨
    (∃ (p' : Int) (se : List Int) (nd : Node), 0 ≤ p' ∧ q.ns[p'.toNat]? = some nd ∧ isRead nd = false ∧ stillS q vs q.ns.length 0 p0 = .tup [.int se.length, outD nd] ∧ se.length ≤ 1000 ∧
      whileL lsT lsB m [some (plD q), some (.tup (vs.map .int)), some (.int p), some (.loc 0)] [.lst (seen.map .int)] = .nx [some (plD q), some (.tup (vs.map .int)), some (.int p'), some (.loc 0)] [.lst (se.map .int)])
  | m, seen, p, h0, h1, hd, hr, hn, hs, hc, hm => by
    have hl := nodup_len q.ns.length seen hd hr
    cases m with
    | zero => omega
    | succ m =>
    obtain ⟨nd, hnd, hmem, hp⟩ := at_i h0 h1
    have hnode : ∀ (S : Sto), eSub (eSub (eVar 0) (eC (.int 2))) (eVar 2) [some (plD q), some (.tup (vs.map .int)), some (.int p), some (.loc 0)] S = .ok (.v (ndD nd)) S := fun S => node_sub (p := p.toNat) hnd (var_ok rfl) (by rw [hp]; exact var_ok rfl)
    have t : lsT [some (plD q), some (.tup (vs.map .int)), some (.int p), some (.loc 0)] [.lst (seen.map .int)] = .ok (isRead nd) [.lst (seen.map .int)] := is_end_t (q := q) (hnode _) kind_read
    rw [whileL_s, t]
    show _ ∨ _
    cases hrd : isRead nd with
    | false =>
      right
      have hps : p ∉ seen := fun hin => by
        obtain ⟨x', e1, _⟩ := hn p hin
        unfold nxS at e1
        rw [hnd] at e1
        cases nd with
        | read s gs e => cases hrd
        | good => cases e1
        | misled => cases e1
      have hl2 := nodup_len q.ns.length (p :: seen) (List.nodup_cons.mpr ⟨hps, hd⟩) fun x hx => by
        rcases List.mem_cons.mp hx with rfl | hx
        · exact ⟨h0, h1⟩
        · exact hr x hx
      rw [List.length_cons] at hl2
      have e := hs (q.ns.length - seen.length - 1 + 1)
      rw [show seen.length + (q.ns.length - seen.length - 1 + 1) = q.ns.length by omega] at e
      refine ⟨p, seen, nd, h0, hnd, hrd, ?_, by omega, rfl⟩
      rw [e, stillS, hnd]
      cases nd with
      | read s gs e => cases hrd
      | good => rfl
      | misled => rfl
    | true =>
      obtain ⟨s, gs, e, rfl⟩ : ∃ s gs e, nd = .read s gs e := by
        cases nd with
        | read s gs e => exact ⟨s, gs, e, rfl⟩
        | _ => cases hrd
      obtain ⟨s0, s1, gg, e0, e1⟩ := g.ng _ hmem
      obtain ⟨r, hrr, hrm, hss⟩ := at_i s0 s1
      obtain ⟨v, hv, _, _⟩ := at_i (l := vs) s0 (by rw [gv.1]; exact s1)
      obtain ⟨x, hx⟩ := gv.2 _ r v hrr hv
      have hnx : nxS q vs p = some (goS gs e x) := by
        unfold nxS
        rw [hnd]
        show (((q.rs[s.toNat]?).bind fun r => (vs[s.toNat]?).bind fun v => verV r v).map fun x => goS gs e x) = _
        rw [hrr, hv]
        show ((verV r v).map fun x => goS gs e x) = _
        rw [hx]; rfl
      have t2 := tofb_ok (in_ints (S := [.lst (seen.map .int)]) (n := 0) (l := seen) (a := p) (ea := eVar 2) (eb := eVar 3) (ρ := [some (plD q), some (.tup (vs.map .int)), some (.int p), some (.loc 0)]) rfl (var_ok rfl) (var_ok rfl))
      by_cases hin : p ∈ seen
      · left
        have ring := still_ring (q := q) (vs := vs) (l := seen) fun y hy => by
          obtain ⟨x', a1, a2⟩ := hn y hy
          exact ⟨x', a1, a2.elim id fun z => z ▸ hin⟩
        have e := hs (q.ns.length - seen.length)
        rw [show seen.length + (q.ns.length - seen.length) = q.ns.length by omega, ring _ _ _ hin] at e
        refine ⟨e, [.lst (seen.map .int)], ?_⟩
        rw [decide_eq_true hin] at t2
        have b : lsB [some (plD q), some (.tup (vs.map .int)), some (.int p), some (.loc 0)] [.lst (seen.map .int)] = .rt (.v .non) [.lst (seen.map .int)] := seq_rt ((if_ok t2).trans ((if_pos rfl).trans (ret_ok c_ok)))
        show (match lsB [some (plD q), some (.tup (vs.map .int)), some (.int p), some (.loc 0)] [.lst (seen.map .int)] with
          | .nx ρ2 S2 => whileL lsT lsB m ρ2 S2
          | .ct ρ2 S2 => whileL lsT lsB m ρ2 S2
          | .bk ρ2 S2 => .nx ρ2 S2
          | .rt f S2 => .rt f S2
          | .err x ρ2 S2 => .err x ρ2 S2
          | .bad => .bad) = _
        rw [b]
      · have gi := goS_in (x := x) gg e0 e1
        have hgo := law_goes_ok (S := [.lst ((seen ++ [p]).map .int)]) (p := p.toNat) (s := s.toNat) (gs := gs) (e := e) (by rw [hss]; exact hnd) gg.1 hrr (g.rl r hrm) hx
        rw [hp] at hgo
        rw [decide_eq_false hin] at t2
        have b : lsB [some (plD q), some (.tup (vs.map .int)), some (.int p), some (.loc 0)] [.lst (seen.map .int)] = .nx [some (plD q), some (.tup (vs.map .int)), some (.int (goS gs e x)), some (.loc 0)] [.lst ((seen ++ [p]).map .int)] := by
          unfold lsB
          refine (seq_nx (if_no t2)).trans ?_
          refine (seq_nx (mt_ok (ds := [.int p]) (S3 := [.lst ((seen ++ [p]).map .int)]) (var_ok rfl) (by rfl) (cons_ok (var_ok rfl) nil_ok) ?_)).trans ?_
          · rw [app_loc (ds := seen.map .int) rfl (by rw [List.length_map]; omega), List.map_append]; rfl
          · exact asgv (call3v_ok (var_ok rfl) (var_ok rfl) (sub_ok (var_ok rfl) (sub_ok (node_sub (p := p.toNat) hnd (var_ok rfl) (by rw [hp]; exact var_ok rfl)) c_ok (show ixF (.v (ndD (.read s gs e))) (.v (.int 1)) [.lst ((seen ++ [p]).map .int)] = some (.v (.int s)) from rfl)) (ix_tup (by
              have := atI_nat (ds := vs.map .int) (k := s.toNat) (d := .int v) (by rw [List.getElem?_map, hv]; rfl)
              rwa [hss] at this))) hgo)
        have ih := ls_loop g gv (p0 := p0) m (seen ++ [p]) (goS gs e x) gi.1 gi.2 (List.nodup_append.mpr ⟨hd, by simp, fun a ha b hb => by
            simp at hb; subst hb; exact fun e => hin (e ▸ ha)⟩) (fun y hy => by
            rcases List.mem_append.mp hy with hy | hy
            · exact hr y hy
            · simp at hy; subst hy; exact ⟨h0, h1⟩) (fun y hy => by
            rcases List.mem_append.mp hy with hy | hy
            · obtain ⟨x', a1, a2⟩ := hn y hy
              refine ⟨x', a1, .inl (List.mem_append.mpr ?_)⟩
              rcases a2 with a2 | a2
              · exact .inl a2
              · exact .inr (by simp [a2])
            · simp at hy; subst hy; exact ⟨_, hnx, .inr rfl⟩) (fun k => by
            have := hs (k + 1)
            rw [still_step hnx] at this
            rw [List.length_append, List.length_singleton, show seen.length + 1 + k = seen.length + (k + 1) by omega, this]
            congr 1) hc (by rw [List.length_append, List.length_singleton]; omega)
        show (_ ∧ ∃ S', (match lsB [some (plD q), some (.tup (vs.map .int)), some (.int p), some (.loc 0)] [.lst (seen.map .int)] with
          | .nx ρ2 S2 => whileL lsT lsB m ρ2 S2
          | .ct ρ2 S2 => whileL lsT lsB m ρ2 S2
          | .bk ρ2 S2 => .nx ρ2 S2
          | .rt f S2 => .rt f S2
          | .err x ρ2 S2 => .err x ρ2 S2
          | .bad => .bad) = _) ∨ ∃ p' se nd, _ ∧ _ ∧ _ ∧ _ ∧ _ ∧ (match lsB [some (plD q), some (.tup (vs.map .int)), some (.int p), some (.loc 0)] [.lst (seen.map .int)] with
          | .nx ρ2 S2 => whileL lsT lsB m ρ2 S2
          | .ct ρ2 S2 => whileL lsT lsB m ρ2 S2
          | .bk ρ2 S2 => .nx ρ2 S2
          | .rt f S2 => .rt f S2
          | .err x ρ2 S2 => .err x ρ2 S2
          | .bad => .bad) = _
        rw [b]
        exact ih
theorem law_stood_ok {q : Plan} (g : GoodW q) {vs : List Int} (gv : GoodV q vs) {p : Int} {S : Sto} (p0 : 0 ≤ p) (p1 : p < q.ns.length) (hl : q.ns.length ≤ 1000) :
    dLawStood [plD q, .tup (vs.map .int), .int p] S = .ok (.v (stillS q vs q.ns.length 0 p)) S := by
  have st : ∀ r, (sSeq (sWhile 100000 lsT lsB) (sRet (eTup (eCons (eB (f1 lenF) (fCons (eVar 3) fNil)) (eCons (eSub (eSub (eSub (eVar 0) (eC (.int 2))) (eVar 2)) (eC (.int 1))) eNil))))) [some (plD q), some (.tup (vs.map .int)), some (.int p), some (.loc 0)] [.lst []] = r → bLawStood ([plD q, .tup (vs.map .int), .int p].map some ++ List.replicate 1 none) [] = r := fun r h => by
    unfold bLawStood
    refine (seq_to [some (plD q), some (.tup (vs.map .int)), some (.int p), some (.loc 0)] [.lst []] ?_).trans h
    rfl
  rcases ls_loop g gv (p0 := p) 100000 [] p p0 p1 List.nodup_nil (by simp) (by simp) (fun k => by simp) hl (by simp; omega) with ⟨e1, S', e2⟩ | ⟨p', se, nd, h0, h1, h2, h3, h4, e2⟩
  · rw [e1]
    exact frF_v (S' := S') (runF_rt (st _ (seq_rt e2))) (by simp [pure_pl, pure_ints]) rfl
  · rw [h3]
    refine frF_v (S' := [.lst (se.map .int)]) (runF_rt (st _ ((seq_nx e2).trans (ret_ok ?_)))) (by simp [pure_pl, pure_ints]) (by cases nd <;> rfl)
    have hp : (p'.toNat : Int) = p' := by omega
    have hnode := node_sub (p := p'.toNat) (ea := eVar 0) (eb := eVar 2) (ρ := [some (plD q), some (.tup (vs.map .int)), some (.int p'), some (.loc 0)]) (S := [.lst (se.map .int)]) h1 (var_ok rfl) (by rw [hp]; exact var_ok rfl)
    exact tup_ok (cons_ok (b1_ok (var_ok rfl) (by rw [len_loc (ds := se.map .int) rfl, List.length_map])) (cons_ok (sub_ok hnode c_ok (show ixF (.v (ndD nd)) (.v (.int 1)) [.lst (se.map .int)] = some (.v (outD nd)) by
      cases nd with
      | read s gs e => cases h2
      | good => rfl
      | misled => rfl)) nil_ok)) (by simp)
end Pen
end DL
/-! ## DTameP -/
set_option maxHeartbeats 1000000
/-! Plans and walks can be shown. -/
namespace DL
open PySem PySem.Spec L2
theorem tm_up {k w k' w' : Nat} {d : D} (h : ∃ p, Tm k w d p) (hk : k ≤ k' := by decide) (hw : w ≤ w' := by decide) : ∃ p, Tm k' w' d p := h.imp fun _ t => t.mono hk hw
theorem tm_2 {k w : Nat} {a b : D} (ha : ∃ p, Tm k w a p) (hb : ∃ p, Tm k w b p) : ∃ p, Tm (k + 1) (2 * (w + 2) + 3) (.tup [a, b]) p :=
  tm_tup (by intro d hd; simp at hd; rcases hd with rfl | rfl <;> assumption) (by simp)
theorem tm_3 {k w : Nat} {a b c : D} (ha : ∃ p, Tm k w a p) (hb : ∃ p, Tm k w b p) (hc : ∃ p, Tm k w c p) : ∃ p, Tm (k + 1) (3 * (w + 2) + 3) (.tup [a, b, c]) p :=
  tm_tup (by intro d hd; simp at hd; rcases hd with rfl | rfl | rfl <;> assumption) (by simp)
theorem tm_4 {k w : Nat} {a b c e : D} (ha : ∃ p, Tm k w a p) (hb : ∃ p, Tm k w b p) (hc : ∃ p, Tm k w c p) (he : ∃ p, Tm k w e p) : ∃ p, Tm (k + 1) (4 * (w + 2) + 3) (.tup [a, b, c, e]) p :=
  tm_tup (by intro d hd; simp at hd; rcases hd with rfl | rfl | rfl | rfl <;> assumption) (by simp)
theorem tm_map {α : Type} {k w n : Nat} {g : α → D} {xs : List α} (h : ∀ x ∈ xs, ∃ p, Tm k w (g x) p) (hn : xs.length ≤ n) : ∃ p, Tm (k + 1) (n * (w + 2) + 3) (.tup (xs.map g)) p :=
  tm_tup (fun d hd => by obtain ⟨x, hx, rfl⟩ := List.mem_map.mp hd; exact h x hx) (by rw [List.length_map]; exact hn)
theorem tm_str {s : String} (h : (PyData.str (Str.ofString s)).shown.length ≤ 13) (h2 : PyData.strOk (reprText (Str.ofString s)) = true) : ∃ p, Tm 0 13 (.str s) p :=
  ⟨_, rfl, rfl, rfl, h2, by rw [PyData.canLay0]; exact Show.fit_of s, Nat.le_refl _, h⟩
namespace Pen
theorem tm_read : ∃ p, Tm 0 13 (.str "read") p := tm_str (by decide +kernel) (by decide +kernel)
theorem tm_end : ∃ p, Tm 0 13 (.str "end") p := tm_str (by decide +kernel) (by decide +kernel)
theorem tm_good : ∃ p, Tm 0 13 (.str "good") p := tm_str (by decide +kernel) (by decide +kernel)
theorem tm_misled : ∃ p, Tm 0 13 (.str "misled") p := tm_str (by decide +kernel) (by decide +kernel)
theorem tm_open : ∃ p, Tm 0 13 (.str "open") p := tm_str (by decide +kernel) (by decide +kernel)
theorem tm_astray : ∃ p, Tm 0 13 (.str "astray") p := tm_str (by decide +kernel) (by decide +kernel)
theorem tm_i {i : Int} (h0 : 0 ≤ i) (h1 : i < 1000000000000) : ∃ p, Tm 0 13 (.int i) p := tm_int (by omega)
theorem tm_pr {x : Int × Int} (h0 : 0 ≤ x.1) (h1 : x.1 < 1000) (h2 : 0 ≤ x.2) (h3 : x.2 < 1000) : ∃ p, Tm 1 33 (prD x) p := tm_2 (tm_i h0 (by omega)) (tm_i h2 (by omega))
theorem tm_node {sg nd : Int} {n : Node} (h : GoodN sg nd n) (g1 : sg ≤ 1000) (n1 : nd ≤ 1000) : ∃ p, Tm 3 1423 (ndD n) p := by
  cases n with
  | read s gs e =>
    obtain ⟨a, b, c, d, f⟩ := h
    exact tm_4 (k := 2) (w := 353) (tm_up tm_read) (tm_up (tm_i a (by omega))) (tm_map (k := 1) (w := 33) (fun x hx => by have := c.2.2 x hx; exact tm_pr this.1 (by omega) this.2.2.1 (by omega)) c.1) (tm_up (tm_i d (by omega)))
  | good => exact tm_up (tm_2 tm_end tm_good)
  | misled => exact tm_up (tm_2 tm_end tm_misled)
theorem tm_plan {sg C nd : Int} {q : Plan} (g : GoodP sg C nd q) (g1 : sg ≤ 100) (n1 : nd ≤ 100) : ∃ p, Tm 5 1000000 (plD q) p := by
  have hst : q.st.length ≤ 100 := by
    have := nodup_len nd.toNat q.st (g.sp.imp (fun {a b} h => by omega)) fun x hx => by have := g.sb x hx; omega
    omega
  have hns := g.nn
  have hrs := g.rl
  refine tm_up (tm_3 (k := 4) (w := 142503) ?_ ?_ ?_)
  · refine tm_up (tm_map (k := 3) (w := 293) (n := 100) (fun r hr => ?_) (by omega))
    obtain ⟨a, b, c, d⟩ := g.rg r hr
    refine tm_2 (k := 2) (w := 143) (tm_up (tm_i a (by omega))) (tm_map (k := 1) (w := 33) (n := 4) (fun x hx => ?_) c)
    have := d x hx
    have hn : x.1 ∈ nmsOf q.rs := by
      unfold nmsOf
      exact List.mem_flatMap.mpr ⟨r, hr, List.mem_map.mpr ⟨x, hx, rfl⟩⟩
    have := g.nb _ hn
    exact tm_pr (by omega) (by omega) (by omega) (by omega)
  · exact tm_up (tm_map (k := 0) (w := 13) (n := 100) (fun x hx => by have := g.sb x hx; exact tm_i (by omega) (by omega)) hst)
  · exact tm_up (tm_map (k := 3) (w := 1423) (n := 100) (fun x hx => tm_node (g.ng x hx) (by omega) (by omega)) (by omega))
theorem GoodP.w {sg C nd : Int} {q : Plan} (g : GoodP sg C nd q) (g0 : 0 ≤ sg) (n0 : 0 ≤ nd) : GoodW q := by
  have h1 : (q.rs.length : Int) = sg := by rw [g.rl]; omega
  have h2 : (q.ns.length : Int) = nd := by rw [g.nn]; omega
  exact ⟨fun x hx => by rw [h1, h2]; exact g.ng x hx, fun r hr => (g.rg r hr).2.2.1⟩
theorem tm_endD {q : Plan} {p : Int} (p0 : 0 ≤ p) (p1 : p < q.ns.length) (hn : q.ns.length ≤ 100) : ∃ z, Tm 1 33 (endD q p) z := by
  obtain ⟨nd, hnd, _, _⟩ := at_i p0 p1
  unfold endD
  rw [hnd]
  cases nd with
  | read s gs e => exact tm_2 tm_open (tm_i p0 (by omega))
  | good => exact tm_2 tm_end tm_good
  | misled => exact tm_2 tm_end tm_misled
/-- the reads of a walk are small -/
def SmallR (e : Int × Int × Int × Int) : Prop := (0 ≤ e.1 ∧ e.1 < 1000) ∧ (0 ≤ e.2.1 ∧ e.2.1 < 1000) ∧ (0 ≤ e.2.2.1 ∧ e.2.2.1 < 1000) ∧ (0 ≤ e.2.2.2 ∧ e.2.2.2 < 1000)
theorem walkS_small {q : Plan} (g : GoodW q) (gr : ∀ r ∈ q.rs, GoodR r) (hn : q.ns.length ≤ 100) (hr : q.rs.length ≤ 100) : ∀ (vs : List Int) (p : Int), 0 ≤ p → p < q.ns.length → (∀ v ∈ vs, 0 ≤ v ∧ v < 1000) → (walkS q p vs).1.length ≤ vs.length ∧ (∀ e ∈ (walkS q p vs).1, SmallR e) ∧ ∃ z, Tm 1 33 (walkS q p vs).2 z
  | [], p, p0, p1, _ => ⟨Nat.le_refl _, (fun e he => nomatch he), tm_endD p0 p1 hn⟩
  | v :: vs, p, p0, p1, hv => by
    obtain ⟨nd, hnd, hm, _⟩ := at_i p0 p1
    have hv0 := hv v List.mem_cons_self
    have e0 : ∃ z, Tm 1 33 (endD q p) z := tm_endD p0 p1 hn
    cases nd with
    | read s gs e =>
      obtain ⟨s0, s1, gg, e0, e1⟩ := g.ng _ hm
      obtain ⟨r, hrr, hrm, hs⟩ := at_i s0 s1
      have ew : walkS q p (v :: vs) = (match verV r v with
        | some x => ((p, s, v, x) :: (walkS q (goS gs e x) vs).1, (walkS q (goS gs e x) vs).2)
        | none => ([], .tup [.str "astray", .int p])) := by
        rw [walkS, hnd]
        show (match (q.rs[s.toNat]?).bind fun r => verV r v with
          | some x => ((p, s, v, x) :: (walkS q (goS gs e x) vs).1, (walkS q (goS gs e x) vs).2)
          | none => ([], D.tup [.str "astray", .int p])) = _
        rw [hrr]; rfl
      rw [ew]
      cases hx : verV r v with
      | none => exact ⟨Nat.zero_le _, (fun e he => nomatch he), tm_2 tm_astray (tm_i p0 (by omega))⟩
      | some x =>
        have gi := goS_in (x := x) gg e0 e1
        obtain ⟨i1, i2, i3⟩ := walkS_small g gr hn hr vs (goS gs e x) gi.1 gi.2 fun z hz => hv z (List.mem_cons_of_mem _ hz)
        have hxb : 0 ≤ x ∧ x ≤ 9 := by
          unfold verV at hx
          rw [if_pos hv0.1] at hx
          have hxm := List.mem_of_getElem? hx
          have gr' := gr r hrm
          rcases List.mem_cons.mp hxm with rfl | hxm
          · exact ⟨gr'.1, gr'.2.1⟩
          · obtain ⟨c, hc, rfl⟩ := List.mem_map.mp hxm
            exact gr'.2.2.2 c hc
        refine ⟨by simp; exact i1, fun z hz => ?_, i3⟩
        rcases List.mem_cons.mp hz with rfl | hz
        · refine ⟨⟨p0, ?_⟩, ⟨s0, ?_⟩, ⟨hv0.1, hv0.2⟩, ⟨hxb.1, ?_⟩⟩
          · show p < 1000; omega
          · show s < 1000; omega
          · show x < 1000; omega
        · exact i2 z hz
    | good =>
      have ew : walkS q p (v :: vs) = ([], endD q p) := by rw [walkS, hnd]
      rw [ew]
      exact ⟨Nat.zero_le _, (fun e he => nomatch he), e0⟩
    | misled =>
      have ew : walkS q p (v :: vs) = ([], endD q p) := by rw [walkS, hnd]
      rw [ew]
      exact ⟨Nat.zero_le _, (fun e he => nomatch he), e0⟩
theorem tm_rd {e : Int × Int × Int × Int} (h : SmallR e) : ∃ p, Tm 1 63 (rdD e) p := by
  obtain ⟨⟨a, b⟩, ⟨c, d⟩, ⟨e, f⟩, i, j⟩ := h
  exact tm_4 (tm_i a (by omega)) (tm_i c (by omega)) (tm_i e (by omega)) (tm_i i (by omega))
theorem tm_walk {q : Plan} (g : GoodW q) (gr : ∀ r ∈ q.rs, GoodR r) (hn : q.ns.length ≤ 100) (hr : q.rs.length ≤ 100) {vs : List Int} {p : Int} (p0 : 0 ≤ p) (p1 : p < q.ns.length) (hv : ∀ v ∈ vs, 0 ≤ v ∧ v < 1000) (hl : vs.length ≤ 1000) :
    ∃ z, Tm 3 1000000 (.tup [.tup ((walkS q p vs).1.map rdD), (walkS q p vs).2]) z := by
  obtain ⟨i1, i2, i3⟩ := walkS_small g gr hn hr vs p p0 p1 hv
  exact tm_up (tm_2 (k := 2) (w := 65003) (tm_map (n := 1000) (fun e he => tm_rd (i2 e he)) (by omega)) (tm_up i3))
theorem tm_still {q : Plan} {vs : List Int} : ∀ (k : Nat) (c p : Int), 0 ≤ c → c + k < 1000000 → ∃ z, Tm 1 33 (stillS q vs k c p) z
  | 0, c, p, _, _ => tm_up tm_non
  | k + 1, c, p, h0, h1 => by
    rw [stillS]
    split
    · split
      · exact tm_still k (c + 1) _ (by omega) (by omega)
      · exact tm_up tm_non
    · rename_i nd _ _
      refine tm_2 (tm_i h0 (by omega)) ?_
      cases nd with
      | read _ _ _ => exact tm_up tm_non
      | good => exact tm_good
      | misled => exact tm_misled
    · exact tm_up tm_non
theorem repr_same {ea eb : Env → Sto → R F} {ρ : Env} {S S1 S2 : Sto} {d : D} {k w : Nat} (ha : ea ρ S = .ok (.v d) S1) (hb : eb ρ S1 = .ok (.v d) S2) (t : ∃ p, Tm k w d p) (hk : k ≤ 50 := by decide) (hw : w ≤ 16000000 := by decide) :
    tOfB (eOp neF (eB (f1 reprF) (fCons ea fNil)) (eB (f1 reprF) (fCons eb fNil))) ρ S = .ok false S2 := by
  obtain ⟨p, t⟩ := t
  exact tofb_ok (op_ok (b1_ok ha (repr_ok t hk hw)) (b1_ok hb (repr_ok t hk hw)) (ne_same t.fit))
end Pen
end DL
/-! ## DEv -/
set_option maxHeartbeats 1000000
/-! More short words for runs. -/
namespace DL
open PySem PySem.Spec L2
namespace Pen
theorem eand_ok {ea eb : Env → Sto → R F} {ρ : Env} {S : Sto} {a b : Bool} (h : ea ρ S = .ok (.v (.bl a)) S) (h2 : a = true → eb ρ S = .ok (.v (.bl b)) S) : eAnd ea eb ρ S = .ok (.v (.bl (a && b))) S := by
  unfold eAnd
  rw [h, R.bind_ok]
  cases a with
  | true => exact h2 rfl
  | false => rfl
theorem eor_ok {ea eb : Env → Sto → R F} {ρ : Env} {S : Sto} {a b : Bool} (h : ea ρ S = .ok (.v (.bl a)) S) (h2 : a = false → eb ρ S = .ok (.v (.bl b)) S) : eOr ea eb ρ S = .ok (.v (.bl (a || b))) S := by
  unfold eOr
  rw [h, R.bind_ok]
  cases a with
  | true => rfl
  | false => exact h2 rfl
theorem bools_map {α : Type} (c : α → Bool) : ∀ xs : List α, bools (xs.map fun x => D.bl (c x)) = some (xs.map c)
  | [] => rfl
  | x :: xs => by
    show (bools (xs.map fun x => D.bl (c x))).map (c x :: ·) = _
    rw [bools_map c xs]; rfl
theorem all_l {α : Type} (c : α → Bool) (xs : List α) (S : Sto) : allF (.l (xs.map fun x => D.bl (c x))) S = some (.v (.bl (xs.all c))) := by
  show (bools (xs.map fun x => D.bl (c x))).map (fun bs => F.v (.bl (bs.all id))) = _
  rw [bools_map]
  simp [List.all_map]
theorem isi_tup {c : String} {ds : List D} {ee : Env → Sto → R F} {ρ : Env} {S S1 : Sto} (h : ee ρ S = .ok (.v (.tup ds)) S1) : eIsi c ee ρ S = .ok (.v (.bl (isSub "tuple" c))) S1 := by
  unfold eIsi eUn
  rw [h, R.bind_ok]; rfl
theorem isSub_tup : isSub "tuple" "tuple" = true := by decide +kernel
theorem len_tup (ds : List D) (S : Sto) : lenF (.v (.tup ds)) S = some (.v (.int ds.length)) := rfl
theorem or_t {ea eb : Env → Sto → R Bool} {ρ : Env} {S S1 : Sto} (h : ea ρ S = .ok true S1) : tOr' ea eb ρ S = .ok true S1 := or_yes h
theorem frF_e {df : List D → Sto → R F} {ds : List D} {x : Exn} {S S' : Sto} (h : df ds [] = .err x S') (p : pureDs ds = true) (p2 : pureDs (x.fs.map (·.2)) = true) : frF df ds S = .err x S := by
  unfold frF
  rw [fcDs_eq, if_pos p, h]
  show (if pureDs (x.fs.map (·.2)) then R.err x S else .bad) = _
  rw [if_pos p2]
theorem runF_err {n : Nat} {sb : Env → Sto → RS} {ds : List D} {S S' : Sto} {x : Exn} {ρ : Env} (h : sb (ds.map some ++ List.replicate n none) S = .err x ρ S') : runF n sb ds S = .err x S' := by
  unfold runF; rw [h]
mutual
theorem eqv_refl : ∀ p : PyData, Show.okT p = true → PyData.eqv p p = true
  | .none, _ => rfl
  | .bool b, _ => by simp [PyData.eqv]
  | .int i, _ => by simp [PyData.eqv]
  | .str x, _ => by simp [PyData.eqv]
  | .list xs, h => by rw [PyData.eqv]; exact eqvAll_refl xs h
  | .tuple xs, h => by rw [PyData.eqv]; exact eqvAll_refl xs h
  | .dict _, h => by cases h
theorem eqvAll_refl : ∀ ps : List PyData, Show.okTs ps = true → PyData.eqvAll ps ps = true
  | [], _ => rfl
  | p :: ps, h => by
    have h : (Show.okT p && Show.okTs ps) = true := h
    rw [Bool.and_eq_true] at h
    rw [PyData.eqvAll, eqv_refl p h.1, eqvAll_refl ps h.2]; rfl
end
theorem eqB_same {k w : Nat} {d : D} {S : Sto} (t : ∃ p, Tm k w d p) (hk : k ≤ 60) : eqB (.v d) (.v d) S = some true := by
  obtain ⟨p, t⟩ := t
  have e : F.py (.v d) S = some p := by
    have := t.py
    unfold F.py
    split
    · rename_i q; cases q
    · rename_i n q; cases q; simp [D.py] at this
    · rename_i q; cases q; exact this
  unfold eqB
  rw [e]
  show (if (SeqAt.shaped p && SeqAt.shaped p) = true then some (PyData.eqv p p) else none) = _
  have c : SeqAt.shaped p = true := by
    unfold SeqAt.shaped
    rw [t.ly, decide_eq_true (Nat.le_trans t.dp (by omega : k ≤ 64))]; rfl
  rw [c, eqv_refl p t.ok]; rfl
theorem eq_same {k w : Nat} {d : D} {S : Sto} (t : ∃ p, Tm k w d p) (hk : k ≤ 60) : eqF (.v d) (.v d) S = some (.v (.bl true)) := by
  unfold eqF; rw [eqB_same t hk]; rfl
theorem ne_same' {k w : Nat} {d : D} {S : Sto} (t : ∃ p, Tm k w d p) (hk : k ≤ 60) : neF (.v d) (.v d) S = some (.v (.bl false)) := by
  unfold neF; rw [eqB_same t hk]; rfl
end Pen
end DL
/-! ## R5 -/
set_option maxHeartbeats 1000000
/-! The program's regimes: all that follows, rounds. -/
namespace DL
open PySem PySem.Spec L2
namespace Pen
def bAllBehind : DL.Env → Sto → RS :=
  (sSeq (sAsg (gNm 3) (eCall 3 dStepsFrom (eCons (eVar 0) (eCons (eVar 1) (eCons (eVar 2) eNil)))))
  (sRet (eLk (loE (eVar 3)) (eDc (eSeqK (eVar 3)) (gNm 4) tYes' (eVar 4) (eCall 2 dBehindOne (eCons (eVar 3) (eCons (eVar 4) eNil))) [4]))))
def dAllBehind : List D → Sto → R F := runF 2 bAllBehind
def bLeast : DL.Env → Sto → RS :=
  (sRet (eMinN (eLk (loE (eVar 0)) (eLc (eSeqK (eVar 0)) (gNm 1) (tOfB (eIn false (eVar 1) (eSub (eVar 0) (eVar 1)))) (eVar 1) [1]))))
def dLeast : List D → Sto → R F := runF 1 bLeast
def bUntangled : DL.Env → Sto → RS :=
  (sSeq (sAsg (gNm 3) (eCall 3 dAllBehind (eCons (eVar 0) (eCons (eVar 1) (eCons (eVar 2) eNil)))))
  (sSeq (sAsg (gNm 4) (eCall 1 dLeast (eCons (eVar 3) eNil)))
  (sSeq (sIf (tOfB (eOp isntF (eVar 4) (eC .non))) (sRaise "Tangled" "name" (eCons (eVar 4) eNil)) sNil)
  (sRet (eVar 3)))))
def dUntangled : List D → Sto → R F := runF 2 bUntangled
def bIsRegime : DL.Env → Sto → RS :=
  (sRet (eOp isF (eCall 1 dLeast (eCons (eCall 3 dAllBehind (eCons (eVar 0) (eCons (eVar 1) (eCons (eVar 2) eNil)))) eNil)) (eC .non)))
def dIsRegime : List D → Sto → R F := runF 0 bIsRegime
/-- each name with all that follow it -/
structure BA (fz : Bool) (S : Sto) (h : Nat) (ks : List (Int × Nat)) (P : List (Int × Int)) : Prop where
  d : S[h]? = some (dO fz (ks.map enK))
  nk : (ks.map (·.1)).Nodup
  ne : ∀ k ∈ ks, k.2 ≠ h
  v : ∀ k ∈ ks, ∃ B : List Int, S[k.2]? = some (.dct (B.map enT)) ∧ ∀ x, x ∈ B ↔ Rch P k.1 x
theorem BA.app {fz : Bool} {S S' : Sto} {h : Nat} {ks : List (Int × Nat)} {P : List (Int × Int)} (b : BA fz S h ks P) {ex : List Nat} (e : Ext ex S S') (hex : ∀ i ∈ ex, i ≠ h ∧ ∀ k ∈ ks, i ≠ k.2) : BA fz S' h ks P :=
  ⟨e.get (fun z => (hex h z).1 rfl) b.d, b.nk, b.ne, fun k hk => by
    obtain ⟨B, h1, h2⟩ := b.v k hk
    exact ⟨B, e.get (fun z => (hex k.2 z).2 k hk rfl) h1, h2⟩⟩
theorem lk_dct {ρ : Env} {S : Sto} {n i : Nat} {kvs : List (D × D)} (hi : ρ[i]? = some (some (.loc n))) (h : S[n]? = some (.dct kvs)) : lkA (loE (eVar i)) ρ S = some (n, .dct kvs, S.set n (.fzd kvs)) := by
  unfold lkA loE
  rw [var_ok hi]
  simp only [Option.bind_some]
  unfold lkS
  rw [h]; rfl
theorem seqK_ok {ρ : Env} {S : Sto} {n i : Nat} {kvs : List (D × D)} (hi : ρ[i]? = some (some (.loc n))) (h : S[n]? = some (.fzd kvs)) : eSeqK (eVar i) ρ S = .ok ⟨kvs.map (·.1), [(n, .fzd kvs)]⟩ S := by
  unfold eSeqK
  rw [var_ok hi, R.bind_ok]
  simp only
  rw [h]
theorem ab_loop {f h : Nat} {ks : List (Int × Nat)} {P : List (Int × Int)} {S0 : Sto} {it : DIt} {a0 a1 a2 : Option D} (hit : it.dep = [(f, .fzd (ks.map enK))]) (hh : h ∉ f :: ks.map (·.2)) (cov : ∀ p ∈ P, p.2 ∈ ks.map (·.1)) (kl : ks.length ≤ 900) (hP : P.length ≤ 300) (hS : S0.length ≤ h) :
    ∀ (ns : List Int) (ds : List (Int × Nat)) (S : Sto), SA true S f ks P → BA false S h ds P → (ds.map (·.1) ++ ns).Nodup → (∀ n ∈ ns, n ∈ ks.map (·.1)) → ds.length + ns.length ≤ 900 → Ext [] S0 S → (∀ k ∈ ds, k.2 ≠ f ∧ S0.length ≤ k.2) →
    ∃ (S' : Sto) (ds' : List (Int × Nat)), dcL it (gNm 4) tYes' (eVar 4) (eCall 2 dBehindOne (eCons (eVar 3) (eCons (eVar 4) eNil))) [a0, a1, a2, some (.loc f), none] h (ns.map D.int) S = .ok () S' ∧ SA true S' f ks P ∧ BA false S' h ds' P ∧ ds'.map (·.1) = ds.map (·.1) ++ ns ∧ Ext [] S0 S' ∧ (∀ k ∈ ds', k.2 ≠ f ∧ S0.length ≤ k.2)
  | [], ds, S, sa, b, _, _, _, e, hd => ⟨S, ds, by
      have hok : it.ok S := fun p hp => by
        rw [hit, List.mem_singleton] at hp
        subst hp
        exact sa.d
      rw [List.map_nil, dcL, if_pos hok], sa, b, by simp, e, hd⟩
  | n :: ns, ds, S, sa, b, hn, hk, hl, e, hd => by
    simp only [List.length_cons] at hl
    have hok : it.ok S := fun p hp => by
      rw [hit, List.mem_singleton] at hp
      subst hp
      exact sa.d
    obtain ⟨S1, B, e1, d1, nB, rB, x1⟩ := behind_one_ok (S := S) sa cov (hk n (by simp)) kl hP
    have b1 := b.app x1 nofun
    have sa1 := sa.app x1 nofun
    have nin : n ∉ ds.map (·.1) := fun hm => (List.nodup_append.mp hn).2.2 _ hm n (by simp) rfl
    have hput := putO_new (a := n) (d := .loc S.length) b1.d (by omega) nin
    have hhl := (List.getElem?_eq_some_iff.mp b.d).1
    have hhl1 := (List.getElem?_eq_some_iff.mp b1.d).1
    have flt := (List.getElem?_eq_some_iff.mp sa.d).1
    have b2 : BA false (S1.set h (.dct (ds.map enK ++ [(D.int n, D.loc S.length)]))) h (ds ++ [(n, S.length)]) P := by
      refine ⟨?_, ?_, fun k hk' => ?_, fun k hk' => ?_⟩
      · rw [List.map_append]; exact List.getElem?_set_self hhl1
      · rw [List.map_append, List.nodup_append]
        refine ⟨b.nk, by simp, fun x hx y hy e => ?_⟩
        simp only [List.map_cons, List.map_nil, List.mem_singleton] at hy
        subst hy; subst e
        exact nin hx
      · rcases List.mem_append.mp hk' with z | z
        · exact b.ne k z
        · rw [List.mem_singleton] at z; subst z
          show S.length ≠ h
          omega
      · rcases List.mem_append.mp hk' with z | z
        · obtain ⟨B', h1, h2⟩ := b1.v k z
          exact ⟨B', by rw [List.getElem?_set_ne (Ne.symm (b.ne k z))]; exact h1, h2⟩
        · rw [List.mem_singleton] at z; subst z
          exact ⟨B, by rw [List.getElem?_set_ne (by show h ≠ S.length; omega)]; exact d1, rB⟩
    have sa2 : SA true (S1.set h (.dct (ds.map enK ++ [(D.int n, D.loc S.length)]))) f ks P := sa1.app (Ext.set (ex := [h]) (by simp)) (by simpa using hh)
    obtain ⟨S', ds', q1, q2, q3, q4, q5, q6⟩ := ab_loop (a0 := a0) (a1 := a1) (a2 := a2) hit hh cov kl hP hS ns (ds ++ [(n, S.length)]) _ sa2 b2 (by simpa using hn) (fun z hz => hk z (by simp [hz])) (by simp; omega) ((e.trans x1).on (Ext.set (by simp)) hS) (fun k hk' => by
      rcases List.mem_append.mp hk' with z | z
      · exact hd k z
      · rw [List.mem_singleton] at z; subst z
        exact ⟨by show S.length ≠ f; omega, e.le⟩)
    refine ⟨S', ds', ?_, q2, q3, by simpa using q4, q5, q6⟩
    rw [List.map_cons, dc_cons hok (show gNm 4 (D.int n) [a0, a1, a2, some (.loc f), none] = some _ from rfl) (var_ok (d := .int n) rfl) (show eBox (eCall 2 dBehindOne (eCons (eVar 3) (eCons (eVar 4) eNil))) [a0, a1, a2, some (.loc f), some (.int n)] S = .ok (.loc S.length) S1 from by
      unfold eBox
      rw [call2_ok (var_ok rfl) (var_ok rfl) e1]; rfl) hput]
    exact q1
theorem all_behind_ok {q : Plan} (g : SmallP q) {W Dr : List (Int × Int)} (hW : W.length ≤ 100) (hD : Dr.length ≤ 100) {S : Sto} :
    ∃ (S' : Sto) (h : Nat) (ks : List (Int × Nat)), dAllBehind [plD q, pairsD W, pairsD Dr] S = .ok (.v (.loc h)) S' ∧ BA false S' h ks (stepsP q W Dr) ∧ (∀ x, x ∈ ks.map (·.1) ↔ x ∈ nmsOf q.rs ∨ ∃ p ∈ stepsP q W Dr, x = p.1 ∨ x = p.2) ∧ Ext [] S S' ∧ S.length ≤ h ∧ ks.length ≤ 900 := by
  obtain ⟨S1, f, ks, e1, sa, cov, keys, x1, hf, hk, kl⟩ := steps_ok g hW hD (S := S)
  have flt := (List.getElem?_eq_some_iff.mp sa.d).1
  have nl := neigh_len q.rs
  have pl : (stepsP q W Dr).length ≤ 300 := by
    have := g.nl
    unfold stepsP; simp only [List.length_append]; omega
  have nf : ∀ k ∈ ks, k.2 ≠ f := fun k hk' e => by
    have := sa.nl
    rw [List.nodup_cons] at this
    exact this.1 (e ▸ List.mem_map_of_mem (f := (·.2)) hk')
  have sa1 : SA true (S1.set f (.fzd (ks.map enK))) f ks (stepsP q W Dr) :=
    ⟨List.getElem?_set_self flt, sa.nk, sa.nl, fun k hk' => by rw [List.getElem?_set_ne (Ne.symm (nf k hk'))]; exact sa.l k hk', sa.c⟩
  have sa2 : SA true (S1.set f (.fzd (ks.map enK)) ++ [O.dct []]) f ks (stepsP q W Dr) := sa1.app (ex := []) Ext.app nofun
  have len1 : (S1.set f (.fzd (ks.map enK))).length = S1.length := List.length_set
  have lt : ∀ i ∈ f :: ks.map (·.2), i < S1.length := fun i hi => by
    rcases List.mem_cons.mp hi with rfl | hi
    · exact flt
    · obtain ⟨k, hk, rfl⟩ := List.mem_map.mp hi
      exact (List.getElem?_eq_some_iff.mp (sa.l k hk)).1
  have b0 : BA false (S1.set f (.fzd (ks.map enK)) ++ [O.dct []]) S1.length [] (stepsP q W Dr) := ⟨by rw [← len1]; exact List.getElem?_concat_length, .nil, nofun, nofun⟩
  obtain ⟨S', ds', q1, q2, q3, q4, q5, q6⟩ := ab_loop (f := f) (h := S1.length) (ks := ks) (S0 := S) (it := ⟨(ks.map enK).map (·.1), [(f, .fzd (ks.map enK))]⟩) (a0 := some (plD q)) (a1 := some (pairsD W)) (a2 := some (pairsD Dr)) rfl (fun h => by have := lt _ h; omega) cov kl pl x1.le (ks.map (·.1)) [] _ sa2 b0 (by simpa using sa.nk) (fun _ h => h) (by simp; omega) ((x1.on (Ext.set (ex := [f]) (by simp)) hf).trans Ext.app) nofun
  have kk : (ks.map enK).map (·.1) = (ks.map (·.1)).map D.int := by rw [List.map_map, List.map_map]; rfl
  have b3 : BA false (S'.set f (.dct (ks.map enK))) S1.length ds' (stepsP q W Dr) := q3.app (Ext.set (ex := [f]) (by simp)) fun i hi => by
    rw [List.mem_singleton] at hi; subst hi
    exact ⟨by omega, fun k hk' => Ne.symm (q6 k hk').1⟩
  refine ⟨S'.set f (.dct (ks.map enK)), S1.length, ds', ?_, b3, fun x => ?_, q5.on (Ext.set (by simp)) hf, x1.le, ?_⟩
  · refine runF_rt ?_
    show bAllBehind [some (plD q), some (pairsD W), some (pairsD Dr), none, none] S = _
    unfold bAllBehind
    refine (seq_nx (asgv (call3_ok (var_ok rfl) (var_ok rfl) (var_ok rfl) e1))).trans (ret_ok ?_)
    unfold eLk
    rw [lk_dct (n := f) (kvs := ks.map enK) rfl sa.d]
    simp only
    unfold eDc
    rw [seqK_ok rfl sa1.d, R.bind_ok]
    simp only
    rw [len1, kk]
    rw [show wipeE ([some (plD q), some (pairsD W), some (pairsD Dr), none, none].set 3 (some (D.loc f))) [4] = [some (plD q), some (pairsD W), some (pairsD Dr), some (D.loc f), none] from rfl]
    rw [kk] at q1
    rw [q1]
    rfl
  · rw [q4]
    simp only [List.map_nil, List.nil_append]
    exact keys x
  · have := congrArg List.length q4
    simp only [List.length_map, List.map_nil, List.nil_append] at this
    omega
theorem least_ok {h : Nat} {ks : List (Int × Nat)} {P : List (Int × Int)} {S : Sto} (b : BA false S h ks P) (kl : ks.length ≤ 900) : ∃ L : List Int, dLeast [.loc h] S = .ok (.v (minD L)) S ∧ ∀ x, x ∈ L ↔ x ∈ ks.map (·.1) ∧ Rch P x x := by
  have hhl := (List.getElem?_eq_some_iff.mp b.d).1
  have hd : S[h]? = some (.dct (ks.map enK)) := b.d
  have b1 : BA true (S.set h (.fzd (ks.map enK))) h ks P := ⟨List.getElem?_set_self hhl, b.nk, b.ne, fun k hk => by
    obtain ⟨B, h1, h2⟩ := b.v k hk
    exact ⟨B, by rw [List.getElem?_set_ne (Ne.symm (b.ne k hk))]; exact h1, h2⟩⟩
  -- which names follow themselves
  have hc : ∃ c : Int × Nat → Bool, ∀ k ∈ ks, (c k = true ↔ Rch P k.1 k.1) ∧ tOfB (eIn false (eVar 1) (eSub (eVar 0) (eVar 1))) [some (D.loc h), some (.int k.1)] (S.set h (.fzd (ks.map enK))) = .ok (c k) (S.set h (.fzd (ks.map enK))) := by
    have each : ∀ k : Int × Nat, ∃ c : Bool, k ∈ ks → (c = true ↔ Rch P k.1 k.1) ∧ tOfB (eIn false (eVar 1) (eSub (eVar 0) (eVar 1))) [some (D.loc h), some (.int k.1)] (S.set h (.fzd (ks.map enK))) = .ok c (S.set h (.fzd (ks.map enK))) := fun k => by
      by_cases hk : k ∈ ks
      · obtain ⟨B, h1, h2⟩ := b1.v k hk
        refine ⟨decide (k.1 ∈ B), fun _ => ⟨by rw [decide_eq_true_eq]; exact h2 k.1, tofb_ok ?_⟩⟩
        rw [in_o (fz := false) (kvs := B.map enT) (a := k.1) (var_ok rfl) (sub_o (var_ok rfl) (var_ok rfl) b1.d (lookup_enK.2 b1.nk k.2 hk)) h1, lookup_enT]
        rfl
      · exact ⟨false, fun z => absurd z hk⟩
    exact ⟨fun k => (each k).choose, fun k hk => (each k).choose_spec hk⟩
  obtain ⟨c, hc⟩ := hc
  refine ⟨(ks.filter c).map (·.1), runF_rt ?_, fun x => ?_⟩
  · show bLeast [some (D.loc h), none] S = _
    unfold bLeast
    refine ret_ok ?_
    have e : eLk (loE (eVar 0)) (eLc (eSeqK (eVar 0)) (gNm 1) (tOfB (eIn false (eVar 1) (eSub (eVar 0) (eVar 1)))) (eVar 1) [1]) [some (D.loc h), none] S = .ok (.l (((ks.filter c).map (·.1)).map D.int)) S := by
      unfold eLk
      rw [lk_dct (n := h) (kvs := ks.map enK) rfl hd]
      simp only
      rw [elc_enc (it := ⟨(ks.map enK).map (·.1), [(h, .fzd (ks.map enK))]⟩) (seqK_ok rfl b1.d) (fun p hp => by
          rw [List.mem_singleton] at hp; subst hp; exact b1.d) (fun k : Int × Nat => D.int k.1) c (fun k => D.int k.1) ks (by rw [List.map_map]; rfl) (by omega) fun k hk => ⟨[some (D.loc h), some (.int k.1)], rfl, (hc k hk).2, fun _ => var_ok rfl⟩]
      simp only
      rw [List.set_set, set_same hd, List.map_map]
      rfl
    unfold eMinN
    rw [e, R.bind_ok]
    show (match ((intsOf (((ks.filter c).map (·.1)).map D.int)).map fun ns => F.v (minD ns)) with
      | some z => R.ok z S
      | none => .bad) = _
    rw [intsOf_map]
    rfl
  · rw [List.mem_map]
    constructor
    · rintro ⟨k, hk, rfl⟩
      obtain ⟨h1, h2⟩ := List.mem_filter.mp hk
      exact ⟨List.mem_map_of_mem (f := (·.1)) h1, (hc k h1).1.mp h2⟩
    · rintro ⟨h1, h2⟩
      obtain ⟨k, hk, rfl⟩ := List.mem_map.mp h1
      exact ⟨k, List.mem_filter.mpr ⟨hk, (hc k hk).1.mpr h2⟩, rfl⟩
theorem Rch.fst {P : List (Int × Int)} {a b : Int} (h : Rch P a b) : ∃ p ∈ P, a = p.1 := by
  induction h with
  | one h => exact ⟨_, h, rfl⟩
  | step _ _ ih => exact ih
theorem Rch.snd {P : List (Int × Int)} {a b : Int} (h : Rch P a b) : ∃ p ∈ P, b = p.2 := by
  cases h with
  | one h => exact ⟨_, h, rfl⟩
  | step _ h => exact ⟨_, h, rfl⟩
theorem minD_mem {L : List Int} (h : L ≠ []) : ∃ m, minD L = .int m ∧ m ∈ L ∧ ∀ y ∈ L, m ≤ y := by
  cases L with
  | nil => exact absurd rfl h
  | cons n ns =>
    have go : ∀ (ns : List Int) (n : Int), ∃ m, m ∈ n :: ns ∧ ∀ y ∈ n :: ns, m ≤ y := by
      intro ns
      induction ns with
      | nil => exact fun n => ⟨n, by simp, fun y hy => by simp at hy; omega⟩
      | cons x ns ih =>
        intro n
        obtain ⟨m, h1, h2⟩ := ih x
        by_cases c : n ≤ m
        · exact ⟨n, by simp, fun y hy => by
            rcases List.mem_cons.mp hy with rfl | hy
            · omega
            · have := h2 y hy; omega⟩
        · exact ⟨m, by simp [h1], fun y hy => by
            rcases List.mem_cons.mp hy with rfl | hy
            · omega
            · exact h2 y hy⟩
    obtain ⟨m, h1, h2⟩ := go ns n
    exact ⟨m, by show D.int _ = _; rw [min_fold ns n m h1 h2], h1, h2⟩
/-- whether there is a round -/
theorem is_regime_ok {q : Plan} (g : SmallP q) {W Dr : List (Int × Int)} (hW : W.length ≤ 100) (hD : Dr.length ≤ 100) {S : Sto} :
    ∃ (S' : Sto) (b : Bool), dIsRegime [plD q, pairsD W, pairsD Dr] S = .ok (.v (.bl b)) S' ∧ (b = true ↔ ∀ x, ¬ Rch (stepsP q W Dr) x x) ∧ Ext [] S S' := by
  obtain ⟨S1, h, ks, e1, b, keys, x1, _, kl⟩ := all_behind_ok g hW hD (S := S)
  obtain ⟨L, e2, hL⟩ := least_ok b kl
  have hL2 : ∀ x, x ∈ L ↔ Rch (stepsP q W Dr) x x := fun x => by
    rw [hL, keys]
    exact ⟨fun z => z.2, fun z => ⟨.inr (by obtain ⟨p, hp, e⟩ := z.fst; exact ⟨p, hp, .inl e⟩), z⟩⟩
  refine ⟨S1, L.isEmpty, runF_rt ?_, ?_, x1⟩
  · show bIsRegime [some (plD q), some (pairsD W), some (pairsD Dr)] S = _
    unfold bIsRegime
    refine ret_ok (op_ok (call1_ok (call3_ok (var_ok rfl) (var_ok rfl) (var_ok rfl) e1) e2) c_ok ?_)
    cases L <;> rfl
  · rw [List.isEmpty_iff]
    constructor
    · intro z x hx
      have := (hL2 x).mpr hx
      rw [z] at this; cases this
    · intro z
      cases L with
      | nil => rfl
      | cons x L => exact absurd ((hL2 x).mp (by simp)) (z x)
/-- what follows, or the least name of a round -/
theorem untangled_ok {q : Plan} (g : SmallP q) {W Dr : List (Int × Int)} (hW : W.length ≤ 100) (hD : Dr.length ≤ 100) {S : Sto} :
    ((∀ x, ¬ Rch (stepsP q W Dr) x x) → ∃ (S' : Sto) (h : Nat) (ks : List (Int × Nat)), dUntangled [plD q, pairsD W, pairsD Dr] S = .ok (.v (.loc h)) S' ∧ BA false S' h ks (stepsP q W Dr) ∧ (∀ x, x ∈ ks.map (·.1) ↔ x ∈ nmsOf q.rs ∨ ∃ p ∈ stepsP q W Dr, x = p.1 ∨ x = p.2) ∧ Ext [] S S' ∧ S.length ≤ h) ∧
    (∀ m, Rch (stepsP q W Dr) m m → (∀ x, Rch (stepsP q W Dr) x x → m ≤ x) → ∃ S' : Sto, dUntangled [plD q, pairsD W, pairsD Dr] S = .err ⟨"Tangled", [("name", .int m)]⟩ S' ∧ Ext [] S S') := by
  obtain ⟨S1, h, ks, e1, b, keys, x1, hh, kl⟩ := all_behind_ok g hW hD (S := S)
  obtain ⟨L, e2, hL⟩ := least_ok b kl
  have hL2 : ∀ x, x ∈ L ↔ Rch (stepsP q W Dr) x x := fun x => by
    rw [hL, keys]
    exact ⟨fun z => z.2, fun z => ⟨.inr (by obtain ⟨p, hp, e⟩ := z.fst; exact ⟨p, hp, .inl e⟩), z⟩⟩
  have st : bUntangled [some (plD q), some (pairsD W), some (pairsD Dr), none, none] S = sSeq (sIf (tOfB (eOp isntF (eVar 4) (eC .non))) (sRaise "Tangled" "name" (eCons (eVar 4) eNil)) sNil) (sRet (eVar 3)) [some (plD q), some (pairsD W), some (pairsD Dr), some (.loc h), some (minD L)] S1 := by
    unfold bUntangled
    refine (seq_nx (asgv (call3_ok (var_ok rfl) (var_ok rfl) (var_ok rfl) e1))).trans ?_
    exact seq_nx (asgv (call1_ok (var_ok rfl) e2))
  refine ⟨fun no => ?_, fun m hm hle => ?_⟩
  · have eL : L = [] := by
      cases L with
      | nil => rfl
      | cons x L => exact absurd ((hL2 x).mp (by simp)) (no x)
    subst eL
    refine ⟨S1, h, ks, runF_rt ?_, b, keys, x1, hh⟩
    show bUntangled [some (plD q), some (pairsD W), some (pairsD Dr), none, none] S = _
    rw [st]
    refine (seq_nx (if_no (tofb_ok (op_ok (var_ok rfl) c_ok (z := .v (.bl false)) rfl)))).trans (ret_ok (var_ok rfl))
  · have hne : L ≠ [] := fun z => by
      have := (hL2 m).mpr hm
      rw [z] at this; cases this
    obtain ⟨m', e3, h3, h4⟩ := minD_mem hne
    have em : m' = m := Int.le_antisymm (h4 m ((hL2 m).mpr hm)) (hle m' ((hL2 m').mp h3))
    rw [em] at e3
    refine ⟨S1, runF_err (ρ := [some (plD q), some (pairsD W), some (pairsD Dr), some (.loc h), some (.int m)]) ?_, x1⟩
    show bUntangled [some (plD q), some (pairsD W), some (pairsD Dr), none, none] S = _
    rw [st, e3]
    refine seq_err ((if_ok (tofb_ok (op_ok (var_ok rfl) c_ok (z := .v (.bl true)) rfl))).trans ?_)
    exact raise_ok (var_ok rfl)
end Pen
end DL
/-! ## R6 -/
set_option maxHeartbeats 1000000
/-! The program's regimes: the drained pairs, the order. -/
namespace DL
open PySem PySem.Spec L2
namespace Pen
def bSame : DL.Env → Sto → RS :=
  (sRet (eOr (eOp eqF (eVar 1) (eVar 2)) (eIn false (eVar 2) (eGet2 (eVar 0) (eVar 1) eDict0))))
def dSame : List D → Sto → R F := runF 0 bSame
def bDrained : DL.Env → Sto → RS :=
  (sSeq (sAsg (gNm 3) eDict0T)
  (sSeq (sFor (eSeq (eVar 1)) (gTpN 2 (gsCons (gNm 4) (gsCons (gNm 5) gsNil))) (sSeq (sAsg (gNm 6) (eLc (eSeq (eVar 0)) (gNm 10) (tTru (eCall 3 dSame (eCons (eVar 2) (eCons (eVar 10) (eCons (eVar 4) eNil))))) (eVar 10) [10]))
  (sSeq (sAsg (gNm 7) (eLc (eSeq (eVar 0)) (gNm 10) (tTru (eCall 3 dSame (eCons (eVar 2) (eCons (eVar 5) (eCons (eVar 10) eNil))))) (eVar 10) [10]))
  (sFor (eSeq (eVar 6)) (gNm 8) (sFor (eSeq (eVar 7)) (gNm 9) (sPutT (eVar 3) (eCons (eVar 8) (eCons (eVar 9) eNil)) (eC (.bl true))))))))
  (sRet (eB (f1 tupleF) (fCons (eB (f1 sortA) (fCons (eVar 3) fNil)) fNil)))))
def dDrained : List D → Sto → R F := runF 8 bDrained
theorem eor_st {ea eb : Env → Sto → R F} {ρ : Env} {S S1 : Sto} {a b : Bool} (h : ea ρ S = .ok (.v (.bl a)) S) (h1 : a = true → S1 = S) (h2 : a = false → eb ρ S = .ok (.v (.bl b)) S1) : eOr ea eb ρ S = .ok (.v (.bl (a || b))) S1 := by
  unfold eOr
  rw [h, R.bind_ok]
  cases a with
  | true => rw [h1 rfl]; rfl
  | false => exact (h2 rfl).trans rfl
theorem same_ok {h : Nat} {ks : List (Int × Nat)} {P : List (Int × Int)} {S : Sto} (b : BA false S h ks P) (hk : ∀ x y, Rch P x y → x ∈ ks.map (·.1)) (x y : Int) :
    ∃ (S' : Sto) (c : Bool), dSame [.loc h, .int x, .int y] S = .ok (.v (.bl c)) S' ∧ (c = true ↔ x = y ∨ Rch P x y) ∧ Ext [] S S' := by
  by_cases e : x = y
  · refine ⟨S, true, runF_rt (ret_ok ?_), by simp [e], .refl⟩
    refine (eor_st (S1 := S) (a := true) (b := true) (op_ok (var_ok rfl) (var_ok rfl) ?_) (fun _ => rfl) nofun)
    rw [eq_ii, e]; simp
  · have b1 : BA false (S ++ [O.dct []]) h ks P := b.app (ex := []) Ext.app nofun
    have he : eOp eqF (eVar 1) (eVar 2) [some (D.loc h), some (.int x), some (.int y)] S = .ok (.v (.bl false)) S := op_ok (var_ok rfl) (var_ok rfl) (by rw [eq_ii]; simp [e])
    by_cases hm : x ∈ ks.map (·.1)
    · obtain ⟨k, hk', rfl⟩ := List.mem_map.mp hm
      obtain ⟨B, h1, h2⟩ := b1.v k hk'
      have hg : eGet2 (eVar 0) (eVar 1) eDict0 [some (D.loc h), some (.int k.1), some (.int y)] S = .ok (.v (.loc k.2)) (S ++ [O.dct []]) := by
        unfold eGet2
        rw [var_ok rfl, R.bind_ok, isDc_dO (fz := false) b.d, if_pos rfl, var_ok rfl, R.bind_ok]
        show (match dGet (.v (.loc h)) (.int k.1) (S ++ [O.dct []]) with
          | some (some d) => R.ok (F.v d) (S ++ [O.dct []])
          | some none => .ok (.v (.loc S.length)) (S ++ [O.dct []])
          | none => .bad) = _
        rw [dget_o b1.d, oGet_dO, lookup_enK.2 b1.nk k.2 hk']
      refine ⟨S ++ [O.dct []], decide (y ∈ B), runF_rt (ret_ok ?_), ?_, Ext.app⟩
      · refine (eor_st he nofun fun _ => ?_)
        rw [in_o (fz := false) (kvs := B.map enT) (a := y) (var_ok rfl) hg h1, lookup_enT]
        rfl
      · rw [decide_eq_true_eq, h2 y]
        simp [e]
    · have hg : eGet2 (eVar 0) (eVar 1) eDict0 [some (D.loc h), some (.int x), some (.int y)] S = .ok (.v (.loc S.length)) (S ++ [O.dct []]) := by
        unfold eGet2
        rw [var_ok rfl, R.bind_ok, isDc_dO (fz := false) b.d, if_pos rfl, var_ok rfl, R.bind_ok]
        show (match dGet (.v (.loc h)) (.int x) (S ++ [O.dct []]) with
          | some (some d) => R.ok (F.v d) (S ++ [O.dct []])
          | some none => .ok (.v (.loc S.length)) (S ++ [O.dct []])
          | none => .bad) = _
        rw [dget_o b1.d, oGet_dO, lookup_enK.1 hm]
      refine ⟨S ++ [O.dct []], false, runF_rt (ret_ok ?_), ?_, Ext.app⟩
      · refine (eor_st he nofun fun _ => ?_)
        rw [in_o (fz := false) (kvs := []) (a := y) (var_ok rfl) hg List.getElem?_concat_length]
        rfl
      · refine ⟨nofun, fun z => ?_⟩
        rcases z with z | z
        · exact absurd z e
        · exact absurd (hk x y z) hm
/-! a comprehension whose test lets the store grow -/
theorem lc_grow {α : Type} {it : DIt} {g : D → Env → Option Env} {et : Env → Sto → R Bool} {ee : Env → Sto → R F} {ρ : Env} {S0 : Sto} (hk : ∀ S, it.ok S) (enc : α → D) (Q : α → Prop) (y : α → D) :
    ∀ (xs : List α) (S : Sto), Ext [] S0 S → (∀ x ∈ xs, ∀ S', Ext [] S0 S' → ∃ (ρ1 : Env) (S'' : Sto) (c : Bool), g (enc x) ρ = some ρ1 ∧ et ρ1 S' = .ok c S'' ∧ (c = true ↔ Q x) ∧ Ext [] S' S'' ∧ ee ρ1 S'' = .ok (.v (y x)) S'') →
      ∃ (ys : List α) (S' : Sto), lcL it g et ee ρ (xs.map enc) S = .ok (ys.map y) S' ∧ ys.Sublist xs ∧ (∀ x, x ∈ ys ↔ x ∈ xs ∧ Q x) ∧ Ext [] S0 S'
  | [], S, e, _ => ⟨[], S, by rw [List.map_nil, lcL, if_pos (hk S)]; rfl, .slnil, by simp, e⟩
  | x :: xs, S, e, f => by
    obtain ⟨ρ1, S1, c, h1, h2, h3, h4, h5⟩ := f x (by simp) S e
    obtain ⟨ys, S2, q1, q2, q3, q4⟩ := lc_grow hk enc Q y xs S1 (e.trans h4) fun z hz => f z (by simp [hz])
    cases c with
    | true =>
      refine ⟨x :: ys, S2, ?_, q2.cons_cons x, fun z => ?_, q4⟩
      · rw [List.map_cons, lcL, if_pos (hk S), h1]
        simp only [h2, okOr, if_true, eBox, h5, R.bind_ok, box_v', q1, List.map_cons]
      · rw [List.mem_cons, List.mem_cons, q3]
        have := h3.mp rfl
        constructor
        · rintro (rfl | ⟨h, h'⟩)
          · exact ⟨.inl rfl, this⟩
          · exact ⟨.inr h, h'⟩
        · rintro ⟨rfl | h, h'⟩
          · exact .inl rfl
          · exact .inr ⟨h, h'⟩
    | false =>
      refine ⟨ys, S2, ?_, q2.cons x, fun z => ?_, q4⟩
      · rw [List.map_cons, lcL, if_pos (hk S), h1]
        simp only [h2, okOr, Bool.false_eq_true, if_false, q1]
      · rw [q3, List.mem_cons]
        have : ¬ Q x := fun z => absurd (h3.mpr z) (by decide)
        constructor
        · rintro ⟨h, h'⟩; exact ⟨.inr h, h'⟩
        · rintro ⟨rfl | h, h'⟩
          · exact absurd h' this
          · exact ⟨h, h'⟩
/-! the dict of the drained pairs -/
def enP (z : Int × Int) : D × D := (prD z, .bl true)
def addZ (Z : List (Int × Int)) (z : Int × Int) : List (Int × Int) := if z ∈ Z then Z else Z ++ [z]
theorem mem_addZ {Z : List (Int × Int)} {z x : Int × Int} : x ∈ addZ Z z ↔ x ∈ Z ∨ x = z := by
  unfold addZ
  split
  · constructor
    · exact .inl
    · rintro (h | rfl)
      · exact h
      · assumption
  · simp
theorem addZ_nd {Z : List (Int × Int)} {z : Int × Int} (h : Z.Nodup) : (addZ Z z).Nodup := by
  unfold addZ
  split
  · exact h
  · rename_i hz
    rw [List.nodup_append]
    refine ⟨h, by simp, fun x hx y hy e => ?_⟩
    rw [List.mem_singleton] at hy
    subst hy; subst e
    exact hz hx
theorem addZ_len {Z : List (Int × Int)} {z : Int × Int} : (addZ Z z).length ≤ Z.length + 1 := by
  unfold addZ; split <;> simp
theorem prD_inj {a b : Int × Int} (h : prD a = prD b) : a = b := by
  have h : D.tup [.int a.1, .int a.2] = D.tup [.int b.1, .int b.2] := h
  injection h with h
  injection h with h1 h2
  injection h2 with h2 _
  injection h1 with h1
  injection h2 with h2
  exact Prod.ext h1 h2
theorem putZ {S : Sto} {f : Nat} {Z : List (Int × Int)} (h : S[f]? = some (.dtt (Z.map enP))) (hl : Z.length ≤ 100000) (z : Int × Int) : putT (.v (.loc f)) [.int z.1, .int z.2] (.bl true) S = some (S.set f (.dtt ((addZ Z z).map enP))) := by
  show (match S[f]? with
    | some (.dtt kvs) => if (dKeys [D.int z.1, D.int z.2]).isSome ∧ kvs.length ≤ 1000000 ∧ [D.int z.1, D.int z.2].length ≤ 1000000 then some (S.set f (.dtt (putD kvs (.tup [D.int z.1, D.int z.2]) (.bl true)))) else none
    | _ => none) = _
  rw [h]
  simp only
  rw [if_pos ⟨rfl, by rw [List.length_map]; omega, by simp⟩]
  have e : putD (Z.map enP) (.tup [D.int z.1, D.int z.2]) (.bl true) = (addZ Z z).map enP := by
    unfold putD addZ
    by_cases hz : z ∈ Z
    · have ha : ((Z.map enP).any fun kv => decide (kv.1 = D.tup [D.int z.1, D.int z.2])) = true := by
        rw [List.any_eq_true]
        exact ⟨enP z, List.mem_map_of_mem hz, by simp [enP, prD]⟩
      rw [if_pos ha, if_pos hz, List.map_map]
      refine List.map_congr_left fun x hx => ?_
      show (if (enP x).1 = _ then ((enP x).1, D.bl true) else enP x) = _
      split <;> rfl
    · have ha : ((Z.map enP).any fun kv => decide (kv.1 = D.tup [D.int z.1, D.int z.2])) = false := by
        rw [List.any_eq_false]
        intro kv hkv
        obtain ⟨x, hx, rfl⟩ := List.mem_map.mp hkv
        simp only [decide_eq_true_eq]
        intro e
        have := prD_inj (a := x) (b := z) e
        exact hz (this ▸ hx)
      rw [ha, if_neg (by decide), if_neg hz, List.map_append]
      rfl
  rw [e]
abbrev drI : Env → Sto → RS := sPutT (eVar 3) (eCons (eVar 8) (eCons (eVar 9) eNil)) (eC (.bl true))
theorem dr_in {f g : Nat} {xs : List D} {c : Int} (fg : f ≠ g) {a0 a1 a2 a4 a5 a6 a7 a10 : Option D} : ∀ (ds : List Int) (Z : List (Int × Int)) (o9 : Option D) (S : Sto), S[f]? = some (.dtt (Z.map enP)) → S[g]? = some (.lst xs) → Z.Nodup → Z.length + ds.length ≤ 10000 →
    ∃ (S' : Sto) (Z' : List (Int × Int)) (o9' : Option D), forL ⟨xs, [(g, .lst xs)]⟩ (gNm 9) drI (ds.map D.int) [a0, a1, a2, some (.loc f), a4, a5, a6, a7, some (.int c), o9, a10] S = .nx [a0, a1, a2, some (.loc f), a4, a5, a6, a7, some (.int c), o9', a10] S' ∧ S'[f]? = some (.dtt (Z'.map enP)) ∧ Z'.Nodup ∧ Z'.length ≤ Z.length + ds.length ∧
      (∀ z, z ∈ Z' ↔ z ∈ Z ∨ ∃ d ∈ ds, z = (c, d)) ∧ Ext [f] S S'
  | [], Z, o9, S, h, hg, nz, _ => ⟨S, Z, o9, by rw [List.map_nil, forL, if_pos (dep1 hg)], h, nz, by simp, by simp, .refl⟩
  | d :: ds, Z, o9, S, h, hg, nz, hl => by
    simp only [List.length_cons] at hl
    have hfl := (List.getElem?_eq_some_iff.mp h).1
    have st : drI [a0, a1, a2, some (.loc f), a4, a5, a6, a7, some (.int c), some (.int d), a10] S = .nx [a0, a1, a2, some (.loc f), a4, a5, a6, a7, some (.int c), some (.int d), a10] (S.set f (.dtt ((addZ Z (c, d)).map enP))) := by
      show sPutT _ _ _ _ _ = _
      unfold sPutT eBox DL.onE
      rw [c_ok]
      simp only [R.bind_ok, box_v']
      rw [var_ok (d := .loc f) rfl]
      simp only
      rw [cons_ok (d := .int c) (var_ok rfl) (cons_ok (d := .int d) (var_ok rfl) nil_ok)]
      simp only
      rw [putZ h (by omega) (c, d)]
    obtain ⟨S', Z', o9', q1, q2, q3, q4, q5, q6⟩ := dr_in (xs := xs) (c := c) fg (a0 := a0) (a1 := a1) (a2 := a2) (a4 := a4) (a5 := a5) (a6 := a6) (a7 := a7) (a10 := a10) ds (addZ Z (c, d)) (some (.int d)) (S.set f (.dtt ((addZ Z (c, d)).map enP))) (List.getElem?_set_self hfl) (by rw [List.getElem?_set_ne fg]; exact hg) (addZ_nd nz) (by have := addZ_len (Z := Z) (z := (c, d)); omega)
    refine ⟨S', Z', o9', ?_, q2, q3, by have := addZ_len (Z := Z) (z := (c, d)); simp only [List.length_cons]; omega, fun z => ?_, (Ext.set (by simp)).trans q6⟩
    · rw [List.map_cons, for_nx (dep1 hg) (show gNm 9 (D.int d) _ = some _ from rfl) st]
      exact q1
    · rw [q5, mem_addZ]
      constructor
      · rintro ((h | h) | ⟨e, he, h⟩)
        · exact .inl h
        · exact .inr ⟨d, by simp, h⟩
        · exact .inr ⟨e, by simp [he], h⟩
      · rintro (h | ⟨e, he, h⟩)
        · exact .inl (.inl h)
        · rcases List.mem_cons.mp he with rfl | he
          · exact .inl (.inr h)
          · exact .inr ⟨e, he, h⟩
theorem dr_out {f g g2 : Nat} {xs : List D} {bs : List Int} (fg : f ≠ g) (fg2 : f ≠ g2) {a0 a1 a2 a4 a5 a6 a10 : Option D} : ∀ (cs : List Int) (Z : List (Int × Int)) (o8 o9 : Option D) (S : Sto), S[f]? = some (.dtt (Z.map enP)) → S[g]? = some (.lst xs) → S[g2]? = some (.lst (bs.map D.int)) → Z.Nodup → Z.length + cs.length * bs.length ≤ 10000 →
    ∃ (S' : Sto) (Z' : List (Int × Int)) (o8' o9' : Option D), forL ⟨xs, [(g, .lst xs)]⟩ (gNm 8) (sFor (eSeq (eVar 7)) (gNm 9) drI) (cs.map D.int) [a0, a1, a2, some (.loc f), a4, a5, a6, some (.loc g2), o8, o9, a10] S = .nx [a0, a1, a2, some (.loc f), a4, a5, a6, some (.loc g2), o8', o9', a10] S' ∧ S'[f]? = some (.dtt (Z'.map enP)) ∧ Z'.Nodup ∧ Z'.length ≤ Z.length + cs.length * bs.length ∧
      (∀ z, z ∈ Z' ↔ z ∈ Z ∨ (z.1 ∈ cs ∧ z.2 ∈ bs)) ∧ Ext [f] S S'
  | [], Z, o8, o9, S, h, hg, _, nz, _ => ⟨S, Z, o8, o9, by rw [List.map_nil, forL, if_pos (dep1 hg)], h, nz, by simp, by simp, .refl⟩
  | c :: cs, Z, o8, o9, S, h, hg, hg2, nz, hl => by
    have el : (c :: cs).length * bs.length = bs.length + cs.length * bs.length := by rw [List.length_cons, Nat.add_mul]; omega
    rw [el] at hl
    obtain ⟨S1, Z1, p9, e1, e2, e3, e4, e5, e6⟩ := dr_in (g := g2) (xs := bs.map D.int) (c := c) fg2 (a0 := a0) (a1 := a1) (a2 := a2) (a4 := a4) (a5 := a5) (a6 := a6) (a7 := some (.loc g2)) (a10 := a10) bs Z o9 S h hg2 nz (by omega)
    have st : sFor (eSeq (eVar 7)) (gNm 9) drI [a0, a1, a2, some (.loc f), a4, a5, a6, some (.loc g2), some (.int c), o9, a10] S = .nx [a0, a1, a2, some (.loc f), a4, a5, a6, some (.loc g2), some (.int c), p9, a10] S1 := (for_ok (seq_loc (var_ok rfl) hg2)).trans e1
    obtain ⟨S', Z', o8', o9', q1, q2, q3, q4, q5, q6⟩ := dr_out (xs := xs) fg fg2 (a0 := a0) (a1 := a1) (a2 := a2) (a4 := a4) (a5 := a5) (a6 := a6) (a10 := a10) cs Z1 (some (.int c)) p9 S1 e2 (e6.get (by simpa using Ne.symm fg) hg) (e6.get (by simpa using Ne.symm fg2) hg2) e3 (by omega)
    refine ⟨S', Z', o8', o9', ?_, q2, q3, by rw [el]; omega, fun z => ?_, e6.trans q6⟩
    · rw [List.map_cons, for_nx (dep1 hg) (show gNm 8 (D.int c) _ = some _ from rfl) st]
      exact q1
    · rw [q5, e5]
      constructor
      · rintro ((h | ⟨d, hd, rfl⟩) | ⟨h1, h2⟩)
        · exact .inl h
        · exact .inr ⟨by simp, hd⟩
        · exact .inr ⟨by simp [h1], h2⟩
      · rintro (h | ⟨h1, h2⟩)
        · exact .inl (.inl h)
        · rcases List.mem_cons.mp h1 with h1 | h1
          · exact .inl (.inr ⟨z.2, h2, Prod.ext h1 rfl⟩)
          · exact .inr ⟨h1, h2⟩
end Pen
end DL
/-! ## R7 -/
set_option maxHeartbeats 1000000
/-! The program's regimes: drained_pairs, regime_of. -/
namespace DL
open PySem PySem.Spec L2
namespace Pen
theorem nodupLenG {α : Type} [DecidableEq α] : ∀ {A B : List α}, A.Nodup → (∀ x ∈ A, x ∈ B) → A.length ≤ B.length
  | [], _, _, _ => Nat.zero_le _
  | a :: A, B, hn, h => by
    rw [List.nodup_cons] at hn
    have ha := h a (by simp)
    have := nodupLenG (A := A) (B := B.erase a) hn.2 fun x hx => (List.mem_erase_of_ne (fun e => hn.1 (by rw [← e]; exact hx))).mpr (h x (by simp [hx]))
    rw [List.length_erase_of_mem ha] at this
    have := List.length_pos_of_mem ha
    rw [List.length_cons]; omega
theorem flat_len {α β : Type} (g : α → List β) (m : Nat) : ∀ xs : List α, (∀ x ∈ xs, (g x).length ≤ m) → (xs.flatMap g).length ≤ xs.length * m
  | [], _ => by simp
  | x :: xs, h => by
    rw [List.flatMap_cons, List.length_append, List.length_cons, Nat.add_mul]
    have := flat_len g m xs fun z hz => h z (by simp [hz])
    have := h x (by simp)
    omega
theorem pairs_len {A B : List Int} {Z : List (Int × Int)} (hn : Z.Nodup) (h : ∀ z ∈ Z, z.1 ∈ A ∧ z.2 ∈ B) : Z.length ≤ A.length * B.length := by
  refine Nat.le_trans (nodupLenG (B := A.flatMap fun a => B.map fun b => (a, b)) hn fun z hz => ?_) (flat_len _ _ A fun a _ => by rw [List.length_map]; exact Nat.le_refl _)
  rw [List.mem_flatMap]
  exact ⟨z.1, (h z hz).1, List.mem_map.mpr ⟨z.2, (h z hz).2, rfl⟩⟩
/-- pairs of two unlike ones -/
theorem pairs_len2 {A : List Int} {Z : List (Int × Int)} (hn : Z.Nodup) (h : ∀ z ∈ Z, z.1 ∈ A ∧ z.2 ∈ A ∧ z.1 ≠ z.2) : Z.length ≤ A.length * (A.length - 1) := by
  refine Nat.le_trans (nodupLenG (B := A.flatMap fun a => (A.erase a).map fun b => (a, b)) hn fun z hz => ?_) (flat_len _ _ A fun a ha => by rw [List.length_map, List.length_erase_of_mem ha]; exact Nat.le_refl _)
  rw [List.mem_flatMap]
  obtain ⟨h1, h2, h3⟩ := h z hz
  exact ⟨z.1, h1, List.mem_map.mpr ⟨z.2, (List.mem_erase_of_ne (Ne.symm h3)).mpr h2, rfl⟩⟩
abbrev drB : Env → Sto → RS := (sSeq (sAsg (gNm 6) (eLc (eSeq (eVar 0)) (gNm 10) (tTru (eCall 3 dSame (eCons (eVar 2) (eCons (eVar 10) (eCons (eVar 4) eNil))))) (eVar 10) [10]))
  (sSeq (sAsg (gNm 7) (eLc (eSeq (eVar 0)) (gNm 10) (tTru (eCall 3 dSame (eCons (eVar 2) (eCons (eVar 5) (eCons (eVar 10) eNil))))) (eVar 10) [10]))
  (sFor (eSeq (eVar 6)) (gNm 8) (sFor (eSeq (eVar 7)) (gNm 9) drI))))
theorem lc_at {ei : Env → Sto → R DIt} {g : D → Env → Option Env} {et : Env → Sto → R Bool} {ee : Env → Sto → R F} {vs : List Nat} {ρ : Env} {S S1 S2 : Sto} {it : DIt} {ys : List D} (h : ei ρ S = .ok it S1) (hl : it.items.length ≤ 1000000) (h2 : lcL it g et ee (wipeE ρ vs) it.items S1 = .ok ys S2) : eLc ei g et ee vs ρ S = .ok (.l ys) S2 := by
  unfold eLc
  rw [h, R.bind_ok, if_pos hl, h2]
  rfl
/-- those of the names that are the same as x or ahead of it -/
def inDrain (P : List (Int × Int)) (ns : List Int) (p z : Int × Int) : Prop := (z.1 ∈ ns ∧ (z.1 = p.1 ∨ Rch P z.1 p.1)) ∧ (z.2 ∈ ns ∧ (p.2 = z.2 ∨ Rch P p.2 z.2))
theorem dr_top {h f : Nat} {ks : List (Int × Nat)} {P : List (Int × Int)} {ns : List Int} {xs : List D} {a1 : Option D} (fh : f ≠ h) (fk : ∀ k ∈ ks, f ≠ k.2) (hk : ∀ x y, Rch P x y → x ∈ ks.map (·.1)) (hn : ns.length ≤ 60) :
    ∀ (rest : List (Int × Int)) (Z : List (Int × Int)) (o4 o5 o6 o7 o8 o9 : Option D) (S : Sto), BA false S h ks P → S[f]? = some (.dtt (Z.map enP)) → Z.Nodup → (∀ z ∈ Z, z.1 ∈ ns ∧ z.2 ∈ ns) →
    ∃ (S' : Sto) (Z' : List (Int × Int)) (o4' o5' o6' o7' o8' o9' : Option D), forL ⟨xs, []⟩ (gTpN 2 (gsCons (gNm 4) (gsCons (gNm 5) gsNil))) drB (rest.map prD) [some (.tup (ns.map D.int)), a1, some (.loc h), some (.loc f), o4, o5, o6, o7, o8, o9, none] S = .nx [some (.tup (ns.map D.int)), a1, some (.loc h), some (.loc f), o4', o5', o6', o7', o8', o9', none] S' ∧
      S'[f]? = some (.dtt (Z'.map enP)) ∧ Z'.Nodup ∧ (∀ z ∈ Z', z.1 ∈ ns ∧ z.2 ∈ ns) ∧ (∀ z, z ∈ Z' ↔ z ∈ Z ∨ ∃ p ∈ rest, inDrain P ns p z) ∧ Ext [f] S S'
  | [], Z, o4, o5, o6, o7, o8, o9, S, b, hf, nz, bz => ⟨S, Z, o4, o5, o6, o7, o8, o9, by rw [List.map_nil, forL, if_pos (by simp)], hf, nz, bz, by simp, .refl⟩
  | p :: rest, Z, o4, o5, o6, o7, o8, o9, S, b, hf, nz, bz => by
    have hfl := (List.getElem?_eq_some_iff.mp hf).1
    have zl := pairs_len nz bz
    have zl2 : ns.length * ns.length ≤ 60 * 60 := Nat.mul_le_mul hn hn
    obtain ⟨y6, S1, e1, sb1, m1, x1⟩ := lc_grow (it := ⟨ns.map D.int, []⟩) (g := gNm 10) (et := tTru (eCall 3 dSame (eCons (eVar 2) (eCons (eVar 10) (eCons (eVar 4) eNil))))) (ee := eVar 10) (ρ := [some (.tup (ns.map D.int)), a1, some (.loc h), some (.loc f), some (.int p.1), some (.int p.2), o6, o7, o8, o9, none]) (S0 := S) (fun _ => by simp) D.int (fun x => x = p.1 ∨ Rch P x p.1) D.int ns S .refl fun x _ S' e => by
      obtain ⟨S'', c, q1, q2, q3⟩ := same_ok (b.app e nofun) hk x p.1
      exact ⟨[some (.tup (ns.map D.int)), a1, some (.loc h), some (.loc f), some (.int p.1), some (.int p.2), o6, o7, o8, o9, some (.int x)], S'', c, rfl, tru_bl (call3_ok (var_ok rfl) (var_ok rfl) (var_ok rfl) q1), q2, q3, var_ok rfl⟩
    have b1 := b.app x1 nofun
    have b2 : BA false (S1 ++ [O.lst (y6.map D.int)]) h ks P := b1.app (ex := []) Ext.app nofun
    obtain ⟨y7, S2, e2, sb2, m2, x2⟩ := lc_grow (it := ⟨ns.map D.int, []⟩) (g := gNm 10) (et := tTru (eCall 3 dSame (eCons (eVar 2) (eCons (eVar 5) (eCons (eVar 10) eNil))))) (ee := eVar 10) (ρ := [some (.tup (ns.map D.int)), a1, some (.loc h), some (.loc f), some (.int p.1), some (.int p.2), some (.loc S1.length), o7, o8, o9, none]) (S0 := S1 ++ [O.lst (y6.map D.int)]) (fun _ => by simp) D.int (fun x => p.2 = x ∨ Rch P p.2 x) D.int ns (S1 ++ [O.lst (y6.map D.int)]) .refl fun x _ S' e => by
      obtain ⟨S'', c, q1, q2, q3⟩ := same_ok (b2.app e nofun) hk p.2 x
      exact ⟨[some (.tup (ns.map D.int)), a1, some (.loc h), some (.loc f), some (.int p.1), some (.int p.2), some (.loc S1.length), o7, o8, o9, some (.int x)], S'', c, rfl, tru_bl (call3_ok (var_ok rfl) (var_ok rfl) (var_ok rfl) q1), q2, q3, var_ok rfl⟩
    have hf3 : (S2 ++ [O.lst (y7.map D.int)])[f]? = some (.dtt (Z.map enP)) := by
      have := x2.get (i := f) (by simp) (Ext.get (ex := []) (Ext.app (S := S1) (t := [O.lst (y6.map D.int)])) (by simp) (x1.get (by simp) hf))
      exact Ext.get (ex := []) (Ext.app (S := S2) (t := [O.lst (y7.map D.int)])) (by simp) this
    have hg6 : (S2 ++ [O.lst (y7.map D.int)])[S1.length]? = some (.lst (y6.map D.int)) := Ext.get (ex := []) (Ext.app (S := S2) (t := [O.lst (y7.map D.int)])) (by simp) (x2.get (by simp) List.getElem?_concat_length)
    have hg7 : (S2 ++ [O.lst (y7.map D.int)])[S2.length]? = some (.lst (y7.map D.int)) := List.getElem?_concat_length
    have l6 := sb1.length_le
    have l7 := sb2.length_le
    have lm : y6.length * y7.length ≤ 60 * 60 := Nat.mul_le_mul (by omega) (by omega)
    have f1 : f ≠ S1.length := by have := x1.le; omega
    have f2 : f ≠ S2.length := by have := x1.le; have := x2.le; simp at this; omega
    obtain ⟨S3, Z3, p8, p9, q1, q2, q3, q4, q5, q6⟩ := dr_out (f := f) (g := S1.length) (g2 := S2.length) (xs := y6.map D.int) (bs := y7) f1 f2 (a0 := some (.tup (ns.map D.int))) (a1 := a1) (a2 := some (.loc h)) (a4 := some (.int p.1)) (a5 := some (.int p.2)) (a6 := some (.loc S1.length)) (a10 := none) y6 Z o8 o9 (S2 ++ [O.lst (y7.map D.int)]) hf3 hg6 hg7 nz (by omega)
    have st : drB [some (.tup (ns.map D.int)), a1, some (.loc h), some (.loc f), some (.int p.1), some (.int p.2), o6, o7, o8, o9, none] S = .nx [some (.tup (ns.map D.int)), a1, some (.loc h), some (.loc f), some (.int p.1), some (.int p.2), some (.loc S1.length), some (.loc S2.length), p8, p9, none] S3 := by
      refine (seq_nx (asg_ok (lc_at (seq_tup (var_ok rfl)) (by show (ns.map D.int).length ≤ _; rw [List.length_map]; omega) e1))).trans ?_
      refine (seq_nx (asg_ok (lc_at (seq_tup (var_ok rfl)) (by show (ns.map D.int).length ≤ _; rw [List.length_map]; omega) e2))).trans ?_
      exact (for_ok (seq_loc (var_ok rfl) hg6)).trans q1
    have xt : Ext [f] S S3 := (((x1.trans (Ext.app (t := [O.lst (y6.map D.int)]))).trans (x2.trans (Ext.app (t := [O.lst (y7.map D.int)])))).mono (by simp)).trans q6
    have b3 : BA false S3 h ks P := b.app xt fun i hi => by
      rw [List.mem_singleton] at hi; subst hi
      exact ⟨fh, fk⟩
    have bz3 : ∀ z ∈ Z3, z.1 ∈ ns ∧ z.2 ∈ ns := fun z hz => by
      rcases (q5 z).mp hz with hz | ⟨h1, h2⟩
      · exact bz z hz
      · exact ⟨((m1 _).mp h1).1, ((m2 _).mp h2).1⟩
    obtain ⟨S', Z', r4, r5, r6, r7, r8, r9, t1, t2, t3, t4, t5, t6⟩ := dr_top (xs := xs) (a1 := a1) fh fk hk hn rest Z3 (some (.int p.1)) (some (.int p.2)) (some (.loc S1.length)) (some (.loc S2.length)) p8 p9 S3 b3 q2 q3 bz3
    refine ⟨S', Z', r4, r5, r6, r7, r8, r9, ?_, t2, t3, t4, fun z => ?_, xt.trans t6⟩
    · rw [List.map_cons, for_nx (by simp) (show gTpN 2 _ (prD p) _ = some _ from rfl) st]
      exact t1
    · rw [t5, q5, m1, m2]
      constructor
      · rintro ((h | h) | ⟨e, he, h⟩)
        · exact .inl h
        · exact .inr ⟨p, by simp, h⟩
        · exact .inr ⟨e, by simp [he], h⟩
      · rintro (h | ⟨e, he, h⟩)
        · exact .inl (.inl h)
        · rcases List.mem_cons.mp he with rfl | he
          · exact .inl (.inr h)
          · exact .inr ⟨e, he, h⟩
def lp (z : Int × Int) : List Int := [z.1, z.2]
theorem tupD_lp (z : Int × Int) : tupD (lp z) = prD z := rfl
def ul (l : List Int) : Int × Int := (l.headD 0, l.getD 1 0)
theorem ul_lp (z : Int × Int) : ul (lp z) = z := rfl
theorem srt_pairs (Z : List (Int × Int)) : ∃ Z' : List (Int × Int), srtT (Z.map lp) = Z'.map lp ∧ Z'.Perm Z ∧ Z'.Pairwise (fun a b => lexLe (lp a) (lp b) = true) := by
  have hp : (srtT (Z.map lp)).Perm (Z.map lp) := by unfold srtT; exact List.mergeSort_perm _ _
  have hs : (srtT (Z.map lp)).Pairwise (fun a b => lexLe a b = true) := by
    unfold srtT
    exact List.pairwise_mergeSort (fun a b c => lexLe_trans a b c) (fun a b => lexLe_total a b) _
  have e : srtT (Z.map lp) = ((srtT (Z.map lp)).map ul).map lp := by
    rw [List.map_map]
    conv => lhs; rw [← List.map_id (srtT (Z.map lp))]
    refine List.map_congr_left fun x hx => ?_
    obtain ⟨z, _, rfl⟩ := List.mem_map.mp (hp.mem_iff.mp hx)
    rfl
  refine ⟨(srtT (Z.map lp)).map ul, e, ?_, ?_⟩
  · have := hp.map ul
    rw [List.map_map] at this
    have e2 : Z.map (ul ∘ lp) = Z := by
      conv => rhs; rw [← List.map_id Z]
      rfl
    rw [e2] at this
    exact this
  · rw [e] at hs
    rw [List.pairwise_map] at hs
    exact hs
/-- the drained pairs -/
theorem drained_ok {h : Nat} {ks : List (Int × Nat)} {P Dr : List (Int × Int)} {ns : List Int} {S : Sto} (b : BA false S h ks P) (hk : ∀ x y, Rch P x y → x ∈ ks.map (·.1)) (hn : ns.length ≤ 8) (hns : ∀ n ∈ ns, 0 ≤ n) (no : ∀ x, ¬ Rch P x x) (hD : ∀ p ∈ Dr, p ∈ P) :
    ∃ (S' : Sto) (Z : List (Int × Int)), dDrained [.tup (ns.map D.int), pairsD Dr, .loc h] S = .ok (.v (pairsD Z)) S' ∧ (∀ z, z ∈ Z ↔ ∃ p ∈ Dr, inDrain P ns p z) ∧ Z.Nodup ∧ Z.Pairwise (fun a b => lexLe (lp a) (lp b) = true) ∧ Ext [] S S' := by
  have hhl := (List.getElem?_eq_some_iff.mp b.d).1
  have hkl : ∀ k ∈ ks, k.2 < S.length := fun k hk' => by
    obtain ⟨B, h1, _⟩ := b.v k hk'
    exact (List.getElem?_eq_some_iff.mp h1).1
  have b0 : BA false (S ++ [O.dtt []]) h ks P := b.app (ex := []) Ext.app nofun
  obtain ⟨S', Z, r4, r5, r6, r7, r8, r9, t1, t2, t3, t4, t5, t6⟩ := dr_top (h := h) (f := S.length) (ks := ks) (P := P) (ns := ns) (xs := Dr.map prD) (a1 := some (pairsD Dr)) (by omega) (fun k hk' => by have := hkl k hk'; omega) hk (by omega) Dr [] none none none none none none (S ++ [O.dtt []]) b0 List.getElem?_concat_length .nil nofun
  have mz : ∀ z, z ∈ Z ↔ ∃ p ∈ Dr, inDrain P ns p z := fun z => by rw [t5]; simp
  have zl : Z.length ≤ ns.length * (ns.length - 1) := pairs_len2 t3 fun z hz => by
    refine ⟨(t4 z hz).1, (t4 z hz).2, fun e => ?_⟩
    obtain ⟨p, hp, ⟨_, h1⟩, ⟨_, h2⟩⟩ := (mz z).mp hz
    have r0 : Rch P p.1 p.2 := .one (hD p hp)
    refine no z.1 ?_
    have r1 : Rch P z.1 p.2 := by
      rcases h1 with h1 | h1
      · rw [h1]; exact r0
      · exact h1.trans r0
    rcases h2 with h2 | h2
    · rw [e, ← h2] at r1 ⊢
      exact r1
    · have := r1.trans h2
      rw [← e] at this
      exact this
  have zl64 : Z.length < 64 := by
    have : ns.length * (ns.length - 1) ≤ 8 * 7 := Nat.mul_le_mul hn (by omega)
    omega
  obtain ⟨Z', s1, s2, s3⟩ := srt_pairs Z
  have hok : okT (Z.map lp) = true := by
    unfold okT
    rw [Bool.and_eq_true, decide_eq_true_eq, List.length_map]
    refine ⟨zl64, ?_⟩
    rw [List.all_eq_true]
    intro l hl
    obtain ⟨z, hz, rfl⟩ := List.mem_map.mp hl
    have hh : ((Z.map lp).headD []).length = 2 := by
      cases Z with
      | nil => cases hz
      | cons a Z => rfl
    rw [Bool.and_eq_true, Bool.and_eq_true, decide_eq_true_eq, decide_eq_true_eq, hh, List.all_eq_true]
    refine ⟨⟨by show 1 ≤ 2; decide, rfl⟩, fun i hi => ?_⟩
    rw [decide_eq_true_eq]
    have : i = z.1 ∨ i = z.2 := by simpa [lp] using hi
    rcases this with rfl | rfl
    · exact hns _ (t4 z hz).1
    · exact hns _ (t4 z hz).2
  have hs : sortA (.v (.loc S.length)) S' = some (.l (Z'.map prD)) := by
    unfold sortA
    have e1 : sortF (.v (.loc S.length)) S' = none := by
      unfold sortF
      simp only [t2]
    rw [e1]
    simp only
    unfold sortT
    simp only [t2]
    have ek : (Z.map enP).map (·.1) = (Z.map lp).map tupD := by rw [List.map_map, List.map_map]; rfl
    rw [ek, tupsOf_map, Option.bind_some, if_pos hok, s1, List.map_map]
    rfl
  refine ⟨S', Z', runF_rt ?_, fun z => by rw [s2.mem_iff]; exact mz z, s2.nodup_iff.mpr t3, s3, ?_⟩
  · show bDrained [some (.tup (ns.map D.int)), some (pairsD Dr), some (.loc h), none, none, none, none, none, none, none, none] S = _
    unfold bDrained
    refine (seq_nx (show _ = RS.nx [some (.tup (ns.map D.int)), some (pairsD Dr), some (.loc h), some (.loc S.length), none, none, none, none, none, none, none] (S ++ [O.dtt []]) from rfl)).trans ?_
    refine (seq_nx ((for_ok (seq_tup (xs := Dr.map prD) (var_ok rfl))).trans t1)).trans ?_
    exact ret_ok (b1_ok (b1_ok (var_ok rfl) hs) rfl)
  · exact ((Ext.app (ex := [S.length]) (S := S) (t := [O.dtt []])).trans t6).drop fun i hi _ => by
      rw [List.mem_singleton] at hi
      omega
end Pen
end DL
/-! ## R8 -/
set_option maxHeartbeats 1000000
/-! The program's regimes: regime_of. -/
namespace DL
open PySem PySem.Spec L2
namespace Pen
def bRegimeOf : DL.Env → Sto → RS :=
  (sSeq (sAsg (gNm 3) (eCall 3 dUntangled (eCons (eVar 0) (eCons (eVar 1) (eCons (eVar 2) eNil)))))
  (sSeq (sAsg (gNm 4) (eCall 1 dNamesOfA (eCons (eVar 0) eNil)))
  (sSeq (sAsg (gNm 5) (eB (f1 tupleF) (fCons (eLc2 (eSeq (eVar 4)) (gNm 6) tYes' (eSeq (eVar 4)) (gNm 7) (tOfB (eIn false (eVar 7) (eSub (eVar 3) (eVar 6)))) (eTup (eCons (eVar 6) (eCons (eVar 7) eNil))) [6, 7] [7]) fNil)))
  (sRet (eTup (eCons (eVar 5) (eCons (eCall 3 dDrained (eCons (eVar 4) (eCons (eVar 2) (eCons (eVar 3) eNil)))) eNil)))))))
def dRegimeOf : List D → Sto → R F := runF 5 bRegimeOf
theorem call3_err {df : List D → Sto → R F} {ee eg eh : Env → Sto → R F} {ρ : Env} {S S1 S2 S3 S4 : Sto} {d d2 d3 : D} {x : Exn} (h : ee ρ S = .ok (.v d) S1) (h2 : eg ρ S1 = .ok (.v d2) S2) (h3 : eh ρ S2 = .ok (.v d3) S3) (hd : df [d, d2, d3] S3 = .err x S4) : eCall 3 df (eCons ee (eCons eg (eCons eh eNil))) ρ S = .err x S4 := by
  unfold eCall eCons eNil eBox; rw [h]; simp only [R.bind_ok, box_v']; rw [h2]; simp only [R.bind_ok, box_v']; rw [h3]; simp only [R.bind_ok, box_v', List.length_cons, List.length_nil]
  rw [if_pos trivial]; exact hd
theorem asg_err {g : D → Env → Option Env} {ee : Env → Sto → R F} {ρ : Env} {S S1 : Sto} {x : Exn} (h : ee ρ S = .err x S1) : sAsg g ee ρ S = .err x ρ S1 := by
  unfold sAsg eBox DL.onE; rw [h]; rfl
theorem addL_ok {S : Sto} {n : Nat} {acc : List D} {y : D} (h : S[n]? = some (.lst acc)) (hl : acc.length ≤ 1000000) : addL n y S = some (S.set n (.lst (acc ++ [y]))) := by
  unfold addL
  rw [h]
  simp only
  rw [if_pos hl]
theorem lc2I_ok {α : Type} {n : Nat} {it : DIt} {g : D → Env → Option Env} {et : Env → Sto → R Bool} {ee : Env → Sto → R F} {ρ : Env} {S0 : Sto} (hk : ∀ S, it.ok S) (enc : α → D) (c : α → Bool) (y : α → D) :
    ∀ (xs : List α) (acc : List D) (S : Sto), (∀ x ∈ xs, ∀ S', Ext [n] S0 S' → ∃ ρ1, g (enc x) ρ = some ρ1 ∧ et ρ1 S' = .ok (c x) S' ∧ ee ρ1 S' = .ok (.v (y x)) S') → S[n]? = some (.lst acc) → Ext [n] S0 S → acc.length + xs.length ≤ 100000 →
      lc2I n it g et ee ρ (xs.map enc) S = .ok () (S.set n (.lst (acc ++ (xs.filter c).map y)))
  | [], acc, S, _, h, _, _ => by
    rw [List.map_nil, lc2I, if_pos (hk S), List.filter_nil, List.map_nil, List.append_nil, set_same h]
  | x :: xs, acc, S, f, h, e, hl => by
    simp only [List.length_cons] at hl
    obtain ⟨ρ1, h1, h2, h3⟩ := f x (by simp) S e
    have hnl := (List.getElem?_eq_some_iff.mp h).1
    rw [List.map_cons, lc2I, if_pos (hk S), h1]
    cases hc : c x with
    | true =>
      rw [hc] at h2
      have ih := lc2I_ok (et := et) hk enc c y xs (acc ++ [y x]) (S.set n (.lst (acc ++ [y x]))) (fun z hz => f z (by simp [hz])) (List.getElem?_set_self hnl) (e.trans (Ext.set (by simp))) (by simp; omega)
      simp only [h2, okOr, if_true, eBox, h3, R.bind_ok, box_v', addL_ok h (show acc.length ≤ 1000000 by omega), ih, List.set_set, List.filter_cons_of_pos hc, List.map_cons, List.append_assoc, List.singleton_append]
    | false =>
      rw [hc] at h2
      have ih := lc2I_ok (et := et) hk enc c y xs acc S (fun z hz => f z (by simp [hz])) h e (by omega)
      have hc' : ¬ c x = true := by rw [hc]; decide
      simp only [h2, okOr, Bool.false_eq_true, if_false, ih, List.filter_cons_of_neg hc']
theorem lc2O_ok {α β : Type} {n : Nat} {it : DIt} {g g1 : D → Env → Option Env} {ei1 : Env → Sto → R DIt} {et1 : Env → Sto → R Bool} {ee : Env → Sto → R F} {ρ : Env} {vs1 : List Nat} {S0 : Sto} (hk : ∀ S, it.ok S) (enc : α → D) (enc1 : β → D) (bs : List β) (c : α → β → Bool) (y : α → β → D) :
    ∀ (xs : List α) (acc : List D) (S : Sto), (∀ x ∈ xs, ∃ ρ1, g (enc x) ρ = some ρ1 ∧ (∀ S', Ext [n] S0 S' → ei1 ρ1 S' = .ok ⟨bs.map enc1, []⟩ S') ∧ ∀ b ∈ bs, ∀ S', Ext [n] S0 S' → ∃ ρ2, g1 (enc1 b) (wipeE ρ1 vs1) = some ρ2 ∧ et1 ρ2 S' = .ok (c x b) S' ∧ ee ρ2 S' = .ok (.v (y x b)) S') →
      S[n]? = some (.lst acc) → Ext [n] S0 S → acc.length + xs.length * bs.length ≤ 100000 →
      lc2O n it g tYes' ei1 g1 et1 ee ρ vs1 (xs.map enc) S = .ok () (S.set n (.lst (acc ++ xs.flatMap fun x => (bs.filter (c x)).map (y x))))
  | [], acc, S, _, h, _, _ => by
    rw [List.map_nil, lc2O, if_pos (hk S), List.flatMap_nil, List.append_nil, set_same h]
  | x :: xs, acc, S, f, h, e, hl => by
    have el : (x :: xs).length * bs.length = bs.length + xs.length * bs.length := by rw [List.length_cons, Nat.add_mul]; omega
    rw [el] at hl
    obtain ⟨ρ1, h1, h2, h3⟩ := f x (by simp)
    have hnl := (List.getElem?_eq_some_iff.mp h).1
    have i1 := lc2I_ok (it := ⟨bs.map enc1, []⟩) (g := g1) (et := et1) (ee := ee) (ρ := wipeE ρ1 vs1) (S0 := S0) (fun _ => by simp) enc1 (c x) (y x) bs acc S h3 h e (by omega)
    have fl : ((bs.filter (c x)).map (y x)).length ≤ bs.length := by rw [List.length_map]; exact List.length_filter_le _ _
    have ih := lc2O_ok (ee := ee) (ei1 := ei1) (et1 := et1) (g1 := g1) hk enc enc1 bs c y xs (acc ++ (bs.filter (c x)).map (y x)) (S.set n (.lst (acc ++ (bs.filter (c x)).map (y x)))) (fun z hz => f z (by simp [hz])) (List.getElem?_set_self hnl) (e.trans (Ext.set (by simp))) (by rw [List.length_append]; omega)
    rw [List.map_cons, lc2O, if_pos (hk S), h1]
    simp only [tYes', okOr, if_true, h2 S e, i1, ih, List.set_set, List.flatMap_cons, List.append_assoc]
/-- the order: the pairs of names of which the second follows the first, ascending -/
def ordP (ns : List Int) (c : Int → Int → Bool) : List (Int × Int) := ns.flatMap fun a => (ns.filter (c a)).map fun b => (a, b)
theorem mem_ordP {ns : List Int} {c : Int → Int → Bool} {z : Int × Int} : z ∈ ordP ns c ↔ z.1 ∈ ns ∧ z.2 ∈ ns ∧ c z.1 z.2 = true := by
  unfold ordP
  rw [List.mem_flatMap]
  constructor
  · rintro ⟨a, ha, h⟩
    obtain ⟨b, hb, rfl⟩ := List.mem_map.mp h
    obtain ⟨h1, h2⟩ := List.mem_filter.mp hb
    exact ⟨ha, h1, h2⟩
  · rintro ⟨h1, h2, h3⟩
    exact ⟨z.1, h1, List.mem_map.mpr ⟨z.2, List.mem_filter.mpr ⟨h2, h3⟩, rfl⟩⟩
theorem srt_pair (ns : List Int) : (srt ns).Pairwise (· ≤ ·) := by
  unfold srt
  have := List.pairwise_mergeSort (le := fun a b : Int => decide (a ≤ b)) (fun a b c h1 h2 => by simp only [decide_eq_true_eq] at *; omega) (fun a b => by simp only [Bool.or_eq_true, decide_eq_true_eq]; omega) ns
  exact this.imp (fun h => by simpa using h)
theorem ordP_asc {ns : List Int} (hp : ns.Pairwise (· ≤ ·)) (hn : ns.Nodup) (c : Int → Int → Bool) : (ordP ns c).Pairwise (fun a b => lexLe (lp a) (lp b) = true) ∧ (ordP ns c).Nodup := by
  have hlt : ns.Pairwise (· < ·) := by
    refine (hp.and hn).imp fun {a b} h => ?_
    have := h.1; have := h.2
    omega
  have lex : ∀ a b a' b' : Int, (a < a' ∨ a = a' ∧ b ≤ b') → lexLe (lp (a, b)) (lp (a', b')) = true := fun a b a' b' h => by
    show lexLe [a, b] [a', b'] = true
    simp only [lexLe]
    rcases h with h | ⟨rfl, h⟩
    · rw [if_pos h]
    · rw [if_neg (by omega), if_neg (by omega)]
      by_cases q : b < b'
      · rw [if_pos q]
      · rw [if_neg q, if_neg (by omega)]
  have go : ∀ (l : List Int), l.Pairwise (· < ·) → (l.flatMap fun a => (ns.filter (c a)).map fun b => (a, b)).Pairwise (fun x y : Int × Int => x.1 < y.1 ∨ x.1 = y.1 ∧ x.2 < y.2) := by
    intro l
    induction l with
    | nil => exact fun _ => .nil
    | cons a l ih =>
      intro h
      rw [List.pairwise_cons] at h
      rw [List.flatMap_cons, List.pairwise_append]
      refine ⟨?_, ih h.2, fun x hx y hy => ?_⟩
      · rw [List.pairwise_map]
        exact (hlt.filter _).imp fun h => .inr ⟨rfl, h⟩
      · obtain ⟨b, _, rfl⟩ := List.mem_map.mp hx
        obtain ⟨a', ha', h'⟩ := List.mem_flatMap.mp hy
        obtain ⟨b', _, rfl⟩ := List.mem_map.mp h'
        exact .inl (h.1 a' ha')
  have g := go ns hlt
  refine ⟨g.imp fun {x y} h => ?_, g.imp fun {x y} h e => ?_⟩
  · obtain ⟨a, b⟩ := x
    obtain ⟨a', b'⟩ := y
    refine lex a b a' b' ?_
    rcases h with h | h
    · exact .inl h
    · exact .inr ⟨h.1, by omega⟩
  · subst e
    rcases h with h | h <;> omega
/-- what regime_of tells -/
structure IsReg (q : Plan) (W Dr : List (Int × Int)) (O Z : List (Int × Int)) : Prop where
  mo : ∀ z, z ∈ O ↔ z.1 ∈ nmsOf q.rs ∧ z.2 ∈ nmsOf q.rs ∧ Rch (stepsP q W Dr) z.1 z.2
  mz : ∀ z, z ∈ Z ↔ ∃ p ∈ Dr, inDrain (stepsP q W Dr) (nmsOf q.rs) p z
  no : O.Nodup
  nz : Z.Nodup
  so : O.Pairwise (fun a b => lexLe (lp a) (lp b) = true)
  sz : Z.Pairwise (fun a b => lexLe (lp a) (lp b) = true)
theorem regime_ok {q : Plan} (g : SmallP q) (g8 : (nmsOf q.rs).length ≤ 8) (g0 : ∀ n ∈ nmsOf q.rs, 0 ≤ n) {W Dr : List (Int × Int)} (hW : W.length ≤ 100) (hD : Dr.length ≤ 100) {S : Sto} :
    ((∀ x, ¬ Rch (stepsP q W Dr) x x) → ∃ (S' : Sto) (O Z : List (Int × Int)), dRegimeOf [plD q, pairsD W, pairsD Dr] S = .ok (.v (.tup [pairsD O, pairsD Z])) S' ∧ IsReg q W Dr O Z ∧ Ext [] S S') ∧
    (∀ m, Rch (stepsP q W Dr) m m → (∀ x, Rch (stepsP q W Dr) x x → m ≤ x) → ∃ S' : Sto, dRegimeOf [plD q, pairsD W, pairsD Dr] S = .err ⟨"Tangled", [("name", .int m)]⟩ S' ∧ Ext [] S S') := by
  obtain ⟨ok, er⟩ := untangled_ok g hW hD (S := S)
  refine ⟨fun no => ?_, fun m hm hle => ?_⟩
  · obtain ⟨S1, h, ks, e1, b, keys, x1, hh⟩ := ok no
    have hk : ∀ x y, Rch (stepsP q W Dr) x y → x ∈ ks.map (·.1) := fun x y z => (keys x).mpr (.inr (by obtain ⟨p, hp, e⟩ := z.fst; exact ⟨p, hp, .inl e⟩))
    obtain ⟨S2, x2, e2⟩ := names_ofA_ok (q := q) (S := S1) g.nd (by have := g.nl; omega)
    have b2 := b.app x2 nofun
    have sp : (srt (nmsOf q.rs)).Perm (nmsOf q.rs) := by unfold srt; exact List.mergeSort_perm _ _
    have sl : (srt (nmsOf q.rs)).length ≤ 8 := by rw [sp.length_eq]; exact g8
    have snd : (srt (nmsOf q.rs)).Nodup := sp.nodup_iff.mpr g.nd
    have ms : ∀ x, x ∈ srt (nmsOf q.rs) ↔ x ∈ nmsOf q.rs := fun x => sp.mem_iff
    have inK : ∀ a ∈ srt (nmsOf q.rs), ∃ k ∈ ks, k.1 = a := fun a ha => List.mem_map.mp ((keys a).mpr (.inl ((ms a).mp ha)))
    -- which pairs
    have hc : ∃ c : Int → Int → Bool, ∀ a ∈ srt (nmsOf q.rs), ∀ y, (c a y = true ↔ Rch (stepsP q W Dr) a y) ∧ ∀ S', Ext [S2.length] (S2 ++ [O.lst []]) S' → ∀ (ρ : Env), ρ[3]? = some (some (.loc h)) → ρ[6]? = some (some (.int a)) → ρ[7]? = some (some (.int y)) → tOfB (eIn false (eVar 7) (eSub (eVar 3) (eVar 6))) ρ S' = .ok (c a y) S' := by
      have each : ∀ a y : Int, ∃ c : Bool, a ∈ srt (nmsOf q.rs) → (c = true ↔ Rch (stepsP q W Dr) a y) ∧ ∀ S', Ext [S2.length] (S2 ++ [O.lst []]) S' → ∀ (ρ : Env), ρ[3]? = some (some (.loc h)) → ρ[6]? = some (some (.int a)) → ρ[7]? = some (some (.int y)) → tOfB (eIn false (eVar 7) (eSub (eVar 3) (eVar 6))) ρ S' = .ok c S' := fun a y => by
        by_cases ha : a ∈ srt (nmsOf q.rs)
        · obtain ⟨k, hk', ek⟩ := inK a ha
          obtain ⟨B, h1, h2⟩ := b2.v k hk'
          have hl2 := (List.getElem?_eq_some_iff.mp h1).1
          have hhl := (List.getElem?_eq_some_iff.mp b2.d).1
          refine ⟨decide (y ∈ B), fun _ => ⟨by rw [decide_eq_true_eq, h2 y, ek], fun S' e ρ i3 i6 i7 => tofb_ok ?_⟩⟩
          have g1 : S'[k.2]? = some (.dct (B.map enT)) := e.get (by simp; omega) (by rw [List.getElem?_append_left hl2]; exact h1)
          have g2 : S'[h]? = some (dO false (ks.map enK)) := e.get (by simp; omega) (by rw [List.getElem?_append_left hhl]; exact b2.d)
          rw [in_o (fz := false) (kvs := B.map enT) (a := y) (var_ok i7) (sub_o (var_ok i3) (var_ok i6) g2 (lookup_enK.2 b2.nk k.2 (by rw [← ek]; exact hk'))) g1, lookup_enT]
          rfl
        · exact ⟨false, fun z => absurd z ha⟩
      exact ⟨fun a y => (each a y).choose, fun a ha y => (each a y).choose_spec ha⟩
    obtain ⟨c, hc⟩ := hc
    have lc := lc2O_ok (n := S2.length) (it := ⟨(srt (nmsOf q.rs)).map D.int, []⟩) (g := gNm 6) (g1 := gNm 7) (ei1 := eSeq (eVar 4)) (et1 := tOfB (eIn false (eVar 7) (eSub (eVar 3) (eVar 6)))) (ee := eTup (eCons (eVar 6) (eCons (eVar 7) eNil))) (ρ := [some (plD q), some (pairsD W), some (pairsD Dr), some (.loc h), some (.tup ((srt (nmsOf q.rs)).map D.int)), none, none, none]) (vs1 := [7]) (S0 := S2 ++ [O.lst []]) (fun _ => by simp) D.int D.int (srt (nmsOf q.rs)) c (fun a y => prD (a, y)) (srt (nmsOf q.rs)) [] (S2 ++ [O.lst []])
      (fun a ha => ⟨[some (plD q), some (pairsD W), some (pairsD Dr), some (.loc h), some (.tup ((srt (nmsOf q.rs)).map D.int)), none, some (.int a), none], rfl, fun S' _ => seq_tup (var_ok rfl), fun y hy S' e => ⟨[some (plD q), some (pairsD W), some (pairsD Dr), some (.loc h), some (.tup ((srt (nmsOf q.rs)).map D.int)), none, some (.int a), some (.int y)], rfl, (hc a ha y).2 S' e _ rfl rfl rfl, tup_ok (cons_ok (var_ok rfl) (cons_ok (var_ok rfl) nil_ok)) (by simp)⟩⟩)
      List.getElem?_concat_length .refl (by have : (srt (nmsOf q.rs)).length * (srt (nmsOf q.rs)).length ≤ 8 * 8 := Nat.mul_le_mul sl sl
                                            simp only [List.length_nil]; omega)
    have eO : ([] ++ (srt (nmsOf q.rs)).flatMap fun a => ((srt (nmsOf q.rs)).filter (c a)).map fun y => prD (a, y)) = (ordP (srt (nmsOf q.rs)) c).map prD := by
      unfold ordP
      rw [List.nil_append, List.map_flatMap]
      simp only [List.map_map]
      rfl
    rw [eO] at lc
    have hx3 : Ext [] S2 ((S2 ++ [O.lst []]).set S2.length (.lst ((ordP (srt (nmsOf q.rs)) c).map prD))) := ((Ext.app (ex := [S2.length]) (S := S2) (t := [O.lst []])).trans (Ext.set (by simp))).drop fun i hi _ => by
      rw [List.mem_singleton] at hi; omega
    have b3 := b2.app hx3 nofun
    have hS3 : ((S2 ++ [O.lst []]).set S2.length (.lst ((ordP (srt (nmsOf q.rs)) c).map prD)))[S2.length]? = some (.lst ((ordP (srt (nmsOf q.rs)) c).map prD)) := List.getElem?_set_self (by simp)
    obtain ⟨S4, Z, e4, mz, nz, sz, x4⟩ := drained_ok (Dr := Dr) (ns := srt (nmsOf q.rs)) b3 hk sl (fun n hn => g0 n ((ms n).mp hn)) no (fun p hp => by unfold stepsP; simp [hp])
    obtain ⟨so, no'⟩ := ordP_asc (srt_pair (nmsOf q.rs)) snd c
    refine ⟨S4, ordP (srt (nmsOf q.rs)) c, Z, runF_rt ?_, ⟨fun z => ?_, fun z => ?_, no', nz, so, sz⟩, ((x1.trans x2).trans hx3).trans x4⟩
    · show bRegimeOf [some (plD q), some (pairsD W), some (pairsD Dr), none, none, none, none, none] S = _
      unfold bRegimeOf
      refine (seq_nx (asgv (call3_ok (var_ok rfl) (var_ok rfl) (var_ok rfl) e1))).trans ?_
      refine (seq_nx (asgv (call1_ok (var_ok rfl) e2))).trans ?_
      refine (seq_nx (asgv (b1_ok (x := .v (.loc S2.length)) (S1 := (S2 ++ [O.lst []]).set S2.length (.lst ((ordP (srt (nmsOf q.rs)) c).map prD))) ?_ (tupleF_loc hS3)))).trans ?_
      · unfold eLc2
        rw [seq_tup (xs := (srt (nmsOf q.rs)).map D.int) (var_ok rfl), R.bind_ok]
        simp only
        rw [show wipeE ([some (plD q), some (pairsD W), some (pairsD Dr), none, none, none, none, none].set 3 (some (D.loc h)) |>.set 4 (some (D.tup ((srt (nmsOf q.rs)).map D.int)))) [6, 7] = [some (plD q), some (pairsD W), some (pairsD Dr), some (.loc h), some (.tup ((srt (nmsOf q.rs)).map D.int)), none, none, none] from rfl, lc]
        rfl
      · exact ret_ok (tup_ok (cons_ok (d := pairsD (ordP (srt (nmsOf q.rs)) c)) (var_ok rfl) (cons_ok (d := pairsD Z) (call3_ok (var_ok rfl) (var_ok rfl) (var_ok rfl) e4) nil_ok)) (by simp))
    · rw [mem_ordP, ms, ms]
      constructor
      · rintro ⟨h1, h2, h3⟩
        exact ⟨h1, h2, ((hc z.1 ((ms _).mpr h1) z.2).1).mp h3⟩
      · rintro ⟨h1, h2, h3⟩
        exact ⟨h1, h2, ((hc z.1 ((ms _).mpr h1) z.2).1).mpr h3⟩
    · rw [mz]
      unfold inDrain
      simp only [ms]
  · obtain ⟨S1, e1, x1⟩ := er m hm hle
    refine ⟨S1, runF_err (ρ := [some (plD q), some (pairsD W), some (pairsD Dr), none, none, none, none, none]) ?_, x1⟩
    show bRegimeOf [some (plD q), some (pairsD W), some (pairsD Dr), none, none, none, none, none] S = _
    unfold bRegimeOf
    exact seq_err (asg_err (call3_err (var_ok rfl) (var_ok rfl) (var_ok rfl) e1))
end Pen
end DL
/-! ## K12a -/
set_option maxHeartbeats 1000000
/-! chains: what follows along a row of names, and along a ring -/
namespace DL
open PySem PySem.Spec L2
namespace Pen
def cons2 (c : List Int) : List (Int × Int) := c.zip (c.drop 1)
theorem mem_cons2 {c : List Int} {x y : Int} : (x, y) ∈ cons2 c ↔ ∃ i : Nat, c[i]? = some x ∧ c[i + 1]? = some y := by
  unfold cons2
  rw [List.mem_iff_getElem?]
  constructor
  · rintro ⟨i, hi⟩
    rw [List.getElem?_zip_eq_some] at hi
    refine ⟨i, hi.1, ?_⟩
    have := hi.2
    rw [List.getElem?_drop] at this
    rw [Nat.add_comm]; exact this
  · rintro ⟨i, h1, h2⟩
    refine ⟨i, ?_⟩
    rw [List.getElem?_zip_eq_some]
    refine ⟨h1, ?_⟩
    rw [List.getElem?_drop, Nat.add_comm]; exact h2
theorem nd_at {c : List Int} (hn : c.Nodup) {i j : Nat} {x : Int} (h1 : c[i]? = some x) (h2 : c[j]? = some x) : i = j :=
  (List.getElem?_inj (List.getElem?_eq_some_iff.mp h1).1 hn).mp (h1.trans h2.symm)
theorem path_rch {c : List Int} {P : List (Int × Int)} (hn : c.Nodup) (hP : ∀ p, p ∈ P ↔ p ∈ cons2 c) {x y : Int} : Rch P x y ↔ ∃ i j : Nat, i < j ∧ c[i]? = some x ∧ c[j]? = some y := by
  constructor
  · intro h
    induction h with
    | one h =>
      obtain ⟨i, h1, h2⟩ := mem_cons2.mp ((hP _).mp h)
      exact ⟨i, i + 1, by omega, h1, h2⟩
    | step _ h ih =>
      obtain ⟨i, j, hij, h1, h2⟩ := ih
      obtain ⟨k, h3, h4⟩ := mem_cons2.mp ((hP _).mp h)
      have := nd_at hn h2 h3
      exact ⟨i, k + 1, by omega, h1, h4⟩
  · rintro ⟨i, j, hij, h1, h2⟩
    have go : ∀ (d : Nat) (y : Int), c[i + 1 + d]? = some y → Rch P x y := by
      intro d
      induction d with
      | zero => exact fun y h => .one ((hP _).mpr (mem_cons2.mpr ⟨i, h1, h⟩))
      | succ d ih =>
        intro y h
        have hl := (List.getElem?_eq_some_iff.mp h).1
        have hm : c[i + 1 + d]? = some c[i + 1 + d] := List.getElem?_eq_getElem (by omega)
        exact .step (ih _ hm) ((hP _).mpr (mem_cons2.mpr ⟨i + 1 + d, hm, h⟩))
    exact go (j - (i + 1)) y (by rw [show i + 1 + (j - (i + 1)) = j by omega]; exact h2)
/-- a chain that comes back -/
def ring (c : List Int) : List (Int × Int) := c.zip (c.drop 1 ++ c.take 1)
theorem mem_ring {c : List Int} {x y : Int} : (x, y) ∈ ring c ↔ ∃ i : Nat, c[i]? = some x ∧ ((c.drop 1 ++ c.take 1)[i]? = some y) := by
  unfold ring
  rw [List.mem_iff_getElem?]
  constructor
  · rintro ⟨i, hi⟩
    rw [List.getElem?_zip_eq_some] at hi
    exact ⟨i, hi⟩
  · rintro ⟨i, h⟩
    exact ⟨i, List.getElem?_zip_eq_some.mpr h⟩
theorem ring_in {c : List Int} {P : List (Int × Int)} (hP : ∀ p, p ∈ P ↔ p ∈ ring c) {x y : Int} (h : Rch P x y) : x ∈ c := by
  obtain ⟨p, hp, e⟩ := h.fst
  obtain ⟨i, h1, _⟩ := mem_ring.mp (show (p.1, p.2) ∈ ring c from (hP p).mp hp)
  rw [e]; exact List.mem_of_getElem? h1
theorem ring_rch {c : List Int} {P : List (Int × Int)} (hP : ∀ p, p ∈ P ↔ p ∈ ring c) {x : Int} (hx : x ∈ c) : Rch P x x := by
  obtain ⟨i, hi⟩ := List.mem_iff_getElem?.mp hx
  have il := (List.getElem?_eq_some_iff.mp hi).1
  -- from any place to each later one
  have fwd : ∀ (a : Nat) (u : Int), c[a]? = some u → ∀ (d : Nat) (y : Int), c[a + 1 + d]? = some y → Rch P u y := by
    intro a u ha d
    induction d with
    | zero =>
      intro y h
      refine .one ((hP _).mpr (mem_ring.mpr ⟨a, ha, ?_⟩))
      have hl := (List.getElem?_eq_some_iff.mp h).1
      rw [List.getElem?_append_left (by rw [List.length_drop]; omega), List.getElem?_drop]
      rw [show 1 + a = a + 1 + 0 by omega]; exact h
    | succ d ih =>
      intro y h
      have hl := (List.getElem?_eq_some_iff.mp h).1
      have hm : c[a + 1 + d]? = some c[a + 1 + d] := List.getElem?_eq_getElem (by omega)
      refine .step (ih _ hm) ((hP _).mpr (mem_ring.mpr ⟨a + 1 + d, hm, ?_⟩))
      rw [List.getElem?_append_left (by rw [List.length_drop]; omega), List.getElem?_drop]
      rw [show 1 + (a + 1 + d) = a + 1 + (d + 1) by omega]; exact h
  have h0 : c[0]? = some c[0] := List.getElem?_eq_getElem (by omega)
  have hlast : c[c.length - 1]? = some c[c.length - 1] := List.getElem?_eq_getElem (by omega)
  have back : Rch P c[c.length - 1] c[0] := by
    refine .one ((hP _).mpr (mem_ring.mpr ⟨c.length - 1, hlast, ?_⟩))
    rw [List.getElem?_append_right (by rw [List.length_drop]; omega), List.length_drop, Nat.sub_self]
    rw [List.getElem?_take_of_lt (by omega)]
    exact h0
  have r1 : Rch P x c[0] := by
    by_cases e : i = c.length - 1
    · subst e
      rw [hi] at hlast
      have := Option.some.inj hlast
      rw [this]; exact back
    · exact (fwd i x hi (c.length - 1 - (i + 1)) _ (by rw [show i + 1 + (c.length - 1 - (i + 1)) = c.length - 1 by omega]; exact hlast)).trans back
  by_cases e : i = 0
  · subst e
    rw [hi] at h0
    have := Option.some.inj h0
    rw [← this] at r1
    exact r1
  · exact r1.trans (fwd 0 _ h0 (i - 1) x (by rw [show 0 + 1 + (i - 1) = i by omega]; exact hi))
end Pen
end DL
/-! ## RLaw -/
set_option maxHeartbeats 1000000
/-! what the laws on regimes share: numbering, sorting pairs, membership, the law's own names -/
namespace DL
open PySem PySem.Spec L2
namespace Pen
def numP {α : Type} : Int → List α → List (Int × α)
  | _, [] => []
  | k, x :: xs => (k, x) :: numP (k + 1) xs
theorem numD_map {α : Type} (f : α → D) : ∀ (k : Int) (xs : List α), numD k (xs.map f) = (numP k xs).map fun z => D.tup [.int z.1, f z.2]
  | _, [] => rfl
  | k, x :: xs => by simp [numD, numP, numD_map f (k + 1) xs]
theorem mem_numP {α : Type} : ∀ {xs : List α} {k : Int} {z : Int × α}, z ∈ numP k xs ↔ ∃ i : Nat, xs[i]? = some z.2 ∧ z.1 = k + i
  | [], k, z => by simp [numP]
  | x :: xs, k, z => by
    rw [numP, List.mem_cons, mem_numP]
    constructor
    · rintro (rfl | ⟨i, h1, h2⟩)
      · exact ⟨0, rfl, by simp⟩
      · exact ⟨i + 1, by simpa using h1, by rw [h2]; push_cast; omega⟩
    · rintro ⟨i, h1, h2⟩
      cases i with
      | zero =>
        left
        have : x = z.2 := by simpa using h1
        rw [this]
        refine Prod.ext ?_ rfl
        simpa using h2
      | succ i => exact .inr ⟨i, by simpa using h1, by rw [h2]; push_cast; omega⟩
theorem numP_len {α : Type} : ∀ (k : Int) (xs : List α), (numP k xs).length = xs.length
  | _, [] => rfl
  | k, x :: xs => by simp [numP, numP_len (k + 1) xs]
/-- sorted pairs -/
theorem sortA_l {Z : List (Int × Int)} {S : Sto} (hl : Z.length < 64) (h0 : ∀ z ∈ Z, 0 ≤ z.1 ∧ 0 ≤ z.2) : ∃ Z' : List (Int × Int), sortA (.l (Z.map prD)) S = some (.l (Z'.map prD)) ∧ Z'.Perm Z ∧ Z'.Pairwise (fun a b => lexLe (lp a) (lp b) = true) := by
  obtain ⟨Z', s1, s2, s3⟩ := srt_pairs Z
  refine ⟨Z', ?_, s2, s3⟩
  cases Z with
  | nil =>
    have : Z' = [] := List.Perm.eq_nil s2
    subst this
    show sortA (.l []) S = some (.l [])
    unfold sortA sortF
    simp [getL, intsOf, srt]
  | cons z Z =>
    have hok : okT ((z :: Z).map lp) = true := by
      unfold okT
      rw [Bool.and_eq_true, decide_eq_true_eq, List.length_map]
      refine ⟨hl, ?_⟩
      rw [List.all_eq_true]
      intro l hl
      obtain ⟨w, hw, rfl⟩ := List.mem_map.mp hl
      have hh : (((z :: Z).map lp).headD []).length = 2 := rfl
      rw [Bool.and_eq_true, Bool.and_eq_true, decide_eq_true_eq, decide_eq_true_eq, hh, List.all_eq_true]
      refine ⟨⟨by show 1 ≤ 2; decide, rfl⟩, fun i hi => ?_⟩
      rw [decide_eq_true_eq]
      have : i = w.1 ∨ i = w.2 := by simpa [lp] using hi
      rcases this with rfl | rfl
      · exact (h0 w hw).1
      · exact (h0 w hw).2
    have e1 : sortF (.l ((z :: Z).map prD)) S = none := rfl
    unfold sortA
    rw [e1]
    simp only
    show ((getL (.l ((z :: Z).map prD)) S).bind fun ds => (tupsOf ds).bind fun nss => if okT nss then some (F.l ((srtT nss).map tupD)) else none) = _
    have ek : (z :: Z).map prD = ((z :: Z).map lp).map tupD := by rw [List.map_map]; rfl
    show ((tupsOf ((z :: Z).map prD)).bind fun nss => if okT nss then some (F.l ((srtT nss).map tupD)) else none) = _
    rw [ek, tupsOf_map, Option.bind_some, if_pos hok, s1, List.map_map]
    rfl
/-! membership -/
theorem flat_intsR (ns : List Int) : (ns.map D.int).all flatD = true := by
  rw [List.all_eq_true]
  intro d hd
  obtain ⟨i, _, rfl⟩ := List.mem_map.mp hd
  rfl
theorem inV_intsR (a : Int) (ns : List Int) : inV (.int a) ((ns.map D.int).map vOf) = decide (a ∈ ns) := by
  unfold inV
  induction ns with
  | nil => rfl
  | cons n ns ih =>
    simp only [List.map_cons, List.any_cons, ih]
    have e : eqV (vOf (.int n)) (V.int a) = decide (n = a) := rfl
    rw [e]
    by_cases h : a = n
    · subst h; simp
    · have h' : ¬ n = a := fun z => h z.symm
      simp [h, h']
theorem inA_ints {ea eb : Env → Sto → R F} {ρ : Env} {S S1 S2 : Sto} {a : Int} {f : F} {ns : List Int} (ha : ea ρ S = .ok (.v (.int a)) S1) (hb : eb ρ S1 = .ok f S2) (hl : getTL f S2 = some (ns.map D.int)) : eInA false ea eb ρ S = .ok (.v (.bl (decide (a ∈ ns)))) S2 := by
  have e : eIn false ea eb ρ S = .ok (.v (.bl (decide (a ∈ ns)))) S2 := by
    unfold eIn
    rw [ha, R.bind_ok, hb, R.bind_ok]
    have e1 : inF false (.v (.int a)) f S2 = some (.v (.bl (decide (a ∈ ns)))) := by
      unfold inF inB
      simp only [hl, Option.bind_some, flat_intsR]
      show (if (flatD (.int a) && true) = true then some (inV (vOf (.int a)) ((ns.map D.int).map vOf)) else none).map _ = _
      rw [if_pos (show (flatD (.int a) && true) = true from rfl)]
      show some (F.v (.bl (if false = true then _ else inV (V.int a) ((ns.map D.int).map vOf)))) = _
      rw [inV_intsR]
      rfl
    rw [e1]
  unfold eInA
  rw [e]
def pyP (z : Int × Int) : PyData := .tuple [.int z.1, .int z.2]
theorem py_prD (z : Int × Int) : D.py (prD z) = some (pyP z) := rfl
theorem pys_prD : ∀ Z : List (Int × Int), D.pys (Z.map prD) = some (Z.map pyP)
  | [] => rfl
  | z :: Z => by
    show (match D.py (prD z), D.pys (Z.map prD) with
      | some p, some ps => some (p :: ps)
      | _, _ => none) = _
    rw [pys_prD Z, py_prD]; rfl
theorem lay_pyP : ∀ Z : List (Int × Int), PyData.canLayAll0 (Z.map pyP) = true
  | [] => rfl
  | z :: Z => by
    show (PyData.canLay0 (pyP z) && PyData.canLayAll0 (Z.map pyP)) = true
    rw [lay_pyP Z]; rfl
theorem depth_pyP : ∀ Z : List (Int × Int), PyData.depthAll (Z.map pyP) ≤ 5
  | [] => by simp [PyData.depthAll]
  | z :: Z => by
    have := depth_pyP Z
    simp only [List.map_cons, PyData.depthAll, pyP, PyData.depth]
    omega
theorem eqv_pyP (z w : Int × Int) : PyData.eqv (pyP z) (pyP w) = decide (z = w) := by
  obtain ⟨a, b⟩ := z
  obtain ⟨c, d⟩ := w
  show ((a == c) && ((b == d) && true)) = _
  by_cases h1 : a = c
  · by_cases h2 : b = d
    · simp [h1, h2]
    · simp [h2]
  · simp [h1]
theorem any_pyP (w : Int × Int) : ∀ Z : List (Int × Int), ((Z.map pyP).any fun z => PyData.eqv z (pyP w)) = decide (w ∈ Z)
  | [] => by simp
  | z :: Z => by
    rw [List.map_cons, List.any_cons, any_pyP w Z, eqv_pyP]
    by_cases h : w = z
    · subst h; simp
    · have h' : ¬ z = w := fun e => h e.symm
      simp [h, h']
theorem inA_pairs {neg : Bool} {ea eb : Env → Sto → R F} {ρ : Env} {S S1 S2 : Sto} {z : Int × Int} {Z : List (Int × Int)} (ha : ea ρ S = .ok (.v (prD z)) S1) (hb : eb ρ S1 = .ok (.v (pairsD Z)) S2) : eInA neg ea eb ρ S = .ok (.v (.bl (if neg then !decide (z ∈ Z) else decide (z ∈ Z)))) S2 := by
  have e : eIn neg ea eb ρ S = .bad := by
    unfold eIn
    rw [ha, R.bind_ok, hb, R.bind_ok]
    have e1 : inF neg (.v (prD z)) (.v (pairsD Z)) S2 = none := rfl
    rw [e1]
    rfl
  unfold eInA
  rw [e]
  refine op_ok ha hb ?_
  unfold inDF inDB
  have e1 : F.py (.v (prD z)) S2 = some (pyP z) := rfl
  have e2 : F.py (.v (pairsD Z)) S2 = some (.tuple (Z.map pyP)) := by
    show (D.pys (Z.map prD)).map PyData.tuple = _
    rw [pys_prD]; rfl
  have s1 : SeqAt.shaped (pyP z) = true := rfl
  have s2 : SeqAt.shaped (.tuple (Z.map pyP)) = true := by
    unfold SeqAt.shaped
    have d := depth_pyP Z
    have e : PyData.depth (.tuple (Z.map pyP)) ≤ 64 := by simp only [PyData.depth]; omega
    rw [show PyData.canLay0 (.tuple (Z.map pyP)) = PyData.canLayAll0 (Z.map pyP) by simp [PyData.canLay0], lay_pyP, decide_eq_true e]; rfl
  rw [e1, e2]
  simp only [Option.bind_some, s1, s2, Bool.and_self, if_true, Option.map_some, any_pyP]
/-! the law's own names of a plan -/
def bLawPlaces : DL.Env → Sto → RS :=
  (sSeq (sAsg (gNm 1) eDict0)
  (sSeq (sFor (eEnum 0 (eSub (eVar 0) (eC (.int 0)))) (gTpN 2 (gsCons (gNm 2) (gsCons (gNm 3) gsNil))) (sFor (eEnum 0 (eSub (eVar 3) (eC (.int 1)))) (gTpN 2 (gsCons (gNm 4) (gsCons (gNm 5) gsNil))) (sPut (eVar 1) (eSub (eVar 5) (eC (.int 0))) (eTup (eCons (eVar 2) (eCons (eOp addF (eVar 4) (eC (.int 1))) eNil))))))
  (sRet (eVar 1))))
def dLawPlaces : List D → Sto → R F := runF 5 bLawPlaces
def bLawNamesOf : DL.Env → Sto → RS :=
  (sRet (eB (f1 sortA) (fCons (eCall 1 dLawPlaces (eCons (eVar 0) eNil)) fNil)))
def dLawNamesOf : List D → Sto → R F := runF 0 bLawNamesOf
abbrev gInL : D → Env → Option Env := gTpN 2 (gsCons (gNm 4) (gsCons (gNm 5) gsNil))
abbrev gOutL : D → Env → Option Env := gTpN 2 (gsCons (gNm 2) (gsCons (gNm 3) gsNil))
abbrev putBL : Env → Sto → RS := sPut (eVar 1) (eSub (eVar 5) (eC (.int 0))) (eTup (eCons (eVar 2) (eCons (eOp addF (eVar 4) (eC (.int 1))) eNil)))
theorem in_loopL {xs : List D} {f : Nat} {q o3 : Option D} {k : Int} : ∀ (cs : List (Int × Int)) (j : Int) (es : List (Int × Int × Int)) (o4 o5 : Option D) (S : Sto), S[f]? = some (.dct (es.map enD)) → es.length + cs.length ≤ 900 → (es.map (·.1) ++ cs.map (·.1)).Nodup →
    ∃ S' f4 f5, forL ⟨xs, []⟩ gInL putBL (numD j (cs.map prD)) [q, some (.loc f), some (.int k), o3, o4, o5] S = .nx [q, some (.loc f), some (.int k), o3, f4, f5] S' ∧ S'[f]? = some (.dct ((es ++ chs k (j + 1) cs).map enD)) ∧ Ext [f] S S' ∧ S'.length = S.length
  | [], j, es, o4, o5, S, h, _, _ => ⟨S, o4, o5, by simp [numD, forL], by simpa [chs] using h, .refl, rfl⟩
  | c :: cs, j, es, o4, o5, S, h, hl, hn => by
    simp only [List.length_cons] at hl
    have hfl := (List.getElem?_eq_some_iff.mp h).1
    have nin : c.1 ∉ es.map (·.1) := fun hm => by
      have := List.nodup_append.mp hn
      exact this.2.2 _ hm _ (by simp) rfl
    have st : putBL [q, some (.loc f), some (.int k), o3, some (.int j), some (prD c)] S = .nx [q, some (.loc f), some (.int k), o3, some (.int j), some (prD c)] (S.set f (.dct ((es ++ [(c.1, k, j + 1)]).map enD))) := by
      show sPut _ _ _ _ _ = _
      unfold sPut eBox DL.onE
      rw [tup_ok (cons_ok (d := .int k) (var_ok rfl) (cons_ok (d := .int (j + 1)) (op_ok (var_ok rfl) c_ok (add_ii j 1 S)) nil_ok)) (by simp)]
      simp only [R.bind_ok, box_v']
      rw [var_ok (d := .loc f) rfl]
      simp only
      rw [sub_ok (x := .v (prD c)) (y := .v (.int 0)) (z := .v (.int c.1)) (var_ok rfl) c_ok rfl]
      simp only
      rw [put_new h (by omega) nin, List.map_append]
      rfl
    obtain ⟨S', f4, f5, q1, q2, q3, q4⟩ := in_loopL (xs := xs) (q := q) (k := k) (o3 := o3) cs (j + 1) (es ++ [(c.1, k, j + 1)]) (some (.int j)) (some (prD c)) (S.set f (.dct ((es ++ [(c.1, k, j + 1)]).map enD))) (List.getElem?_set_self hfl) (by simp; omega) (by simpa using hn)
    refine ⟨S', f4, f5, ?_, by simpa [chs] using q2, (Ext.set (by simp)).trans q3, by rw [q4, List.length_set]⟩
    rw [List.map_cons, numD, for_nx (by simp) (show gInL _ _ = some _ from rfl) st]
    exact q1
abbrev outBL : Env → Sto → RS := sFor (eEnum 0 (eSub (eVar 3) (eC (.int 1)))) gInL putBL
theorem out_loopL {xs : List D} {f : Nat} {q : Option D} : ∀ (rs : List Row) (k : Int) (es : List (Int × Int × Int)) (o2 o3 o4 o5 : Option D) (S : Sto), S[f]? = some (.dct (es.map enD)) → es.length + (nmsOf rs).length ≤ 900 → (es.map (·.1) ++ nmsOf rs).Nodup →
    ∃ S' f2 f3 f4 f5, forL ⟨xs, []⟩ gOutL outBL (numD k (rs.map rowD)) [q, some (.loc f), o2, o3, o4, o5] S = .nx [q, some (.loc f), f2, f3, f4, f5] S' ∧ S'[f]? = some (.dct ((es ++ plc k rs).map enD)) ∧ Ext [f] S S' ∧ S'.length = S.length
  | [], k, es, o2, o3, o4, o5, S, h, _, _ => ⟨S, o2, o3, o4, o5, by simp [numD, forL], by simpa [plc] using h, .refl, rfl⟩
  | r :: rs, k, es, o2, o3, o4, o5, S, h, hl, hn => by
    have e : nmsOf (r :: rs) = r.2.map (·.1) ++ nmsOf rs := by unfold nmsOf; rw [List.flatMap_cons]
    rw [e] at hl hn
    rw [← List.append_assoc] at hn
    simp only [List.length_append, List.length_map] at hl
    obtain ⟨S1, f4, f5, q1, q2, q3, q4⟩ := in_loopL (xs := numD 0 (r.2.map prD)) (q := q) (k := k) (o3 := some (rowD r)) r.2 0 es o4 o5 S h (by omega) (List.nodup_append.mp hn).1
    have st : outBL [q, some (.loc f), some (.int k), some (rowD r), o4, o5] S = .nx [q, some (.loc f), some (.int k), some (rowD r), f4, f5] S1 :=
      (for_ok (enum_ok (seq_tup (xs := r.2.map prD) (sub_ok (var_ok rfl) c_ok rfl)))).trans q1
    have nm : (es ++ chs k 1 r.2).map (·.1) = es.map (·.1) ++ r.2.map (·.1) := by rw [List.map_append, chs_names]
    have cl : (chs k 1 r.2).length = r.2.length := by
      have := congrArg List.length (chs_names k 1 r.2)
      simpa using this
    obtain ⟨S', g2, g3, g4, g5, z1, z2, z3, z4⟩ := out_loopL (xs := xs) (q := q) rs (k + 1) (es ++ chs k 1 r.2) (some (.int k)) (some (rowD r)) f4 f5 S1 q2 (by rw [List.length_append, cl]; omega) (by rw [nm]; exact hn)
    refine ⟨S', g2, g3, g4, g5, ?_, by simpa [plc] using z2, q3.trans z3, by rw [z4, q4]⟩
    rw [List.map_cons, numD, for_nx (by simp) (show gOutL _ _ = some _ from rfl) st]
    exact z1
theorem law_names_ok {q : Plan} {S : Sto} (hn : (nmsOf q.rs).Nodup) (hl : (nmsOf q.rs).length < 64) : ∃ S', Ext [] S S' ∧ dLawNamesOf [plD q] S = .ok (.l ((srt (nmsOf q.rs)).map D.int)) S' := by
  obtain ⟨S', f2, f3, f4, f5, q1, q2, q3, q4⟩ := out_loopL (xs := numD 0 (q.rs.map rowD)) (f := S.length) (q := some (plD q)) q.rs 0 [] none none none none (S ++ [.dct []]) List.getElem?_concat_length (by simpa using Nat.le_of_lt (Nat.lt_of_lt_of_le hl (by decide))) (by simpa using hn)
  have e : dLawPlaces [plD q] S = .ok (.v (.loc S.length)) S' := by
    refine runF_rt ?_
    show bLawPlaces [some (plD q), none, none, none, none, none] S = _
    unfold bLawPlaces
    refine (seq_nx (show _ = RS.nx [some (plD q), some (.loc S.length), none, none, none, none] (S ++ [O.dct []]) from rfl)).trans ?_
    refine (seq_nx ((for_ok (enum_ok (seq_tup (xs := q.rs.map rowD) (sub_ok (var_ok rfl) c_ok (show ixF (.v (plD q)) (.v (.int 0)) _ = some (.v (.tup (q.rs.map rowD))) from rfl))))).trans q1)).trans ?_
    exact ret_ok (var_ok rfl)
  have nm : (plc 0 q.rs).map (·.1) = nmsOf q.rs := plc_names 0 q.rs
  have keys : ((plc 0 q.rs).map enD).map (·.1) = (nmsOf q.rs).map D.int := by rw [← nm, List.map_map, List.map_map]; rfl
  refine ⟨S', ((Ext.app (ex := [S.length])).trans q3).drop (by intro i hi _; simp at hi; omega), runF_rt ?_⟩
  show bLawNamesOf [some (plD q)] S = _
  refine ret_ok (b1_ok (call1_ok (var_ok rfl) e) ?_)
  have hs : sortF (.v (.loc S.length)) S' = some (.l ((srt (nmsOf q.rs)).map D.int)) := by
    show (match S'[S.length]? with
      | some (.lst ds) => (intsOf ds).map fun ns => F.l ((srt ns).map .int)
      | some (.dct kvs) => (intsOf (kvs.map (fun kv : D × D => kv.1))).bind fun ns => if ns.length < 64 then some (F.l ((srt ns).map .int)) else none
      | _ => none) = _
    rw [q2]
    simp only [List.nil_append]
    rw [keys, intsOf_map, Option.bind_some, if_pos hl]
  unfold sortA
  rw [hs]
end Pen
end DL
/-! ## K12c -/
set_option maxHeartbeats 4000000
namespace LK
open PySem PySem.Spec L2 DL DL.Pen
theorem e_regime : d_regime_of = dRegimeOf := rfl
theorem e_isreg : d_is_regime = dIsRegime := rfl
theorem e_names : d_law_names_of = dLawNamesOf := rfl
theorem ne_ii (i j : Int) (S : Sto) : neF (.v (.int i)) (.v (.int j)) S = some (.v (.bl (!(i == j)))) := rfl
theorem eq_ii' (i j : Int) (S : Sto) : eqF (.v (.int i)) (.v (.int j)) S = some (.v (.bl (i == j))) := rfl
theorem ne_bb (a b : Bool) (S : Sto) : neF (.v (.bl a)) (.v (.bl b)) S = some (.v (.bl (!(a == b)))) := by cases a <;> cases b <;> rfl
theorem eq_nil (S : Sto) : eqF (.l []) (.l []) S = some (.v (.bl true)) := rfl
theorem zipD_gen {α β : Type} (f : α → D) (g : β → D) : ∀ (xs : List α) (ys : List β), zipD (xs.map f) (ys.map g) = (xs.zip ys).map fun z => D.tup [f z.1, g z.2]
  | [], _ => by simp [zipD]
  | _ :: _, [] => by simp [zipD]
  | x :: xs, y :: ys => by simp [zipD, zipD_gen f g xs ys]
theorem asg_g {g : D → DL.Env → Option DL.Env} {ee : DL.Env → Sto → R F} {ρ ρ1 : DL.Env} {S S1 : Sto} {d : D} (h : ee ρ S = .ok (.v d) S1) (hg : g d ρ = some ρ1) : sAsg g ee ρ S = .nx ρ1 S1 := by
  unfold sAsg eBox DL.onE; rw [h]; simp only [R.bind_ok, box_v', hg]
theorem rng2_ok {ea eb : DL.Env → Sto → R F} {ρ : DL.Env} {S : Sto} {lo hi : Int} (ha : ea ρ S = .ok (.v (.int lo)) S) (hb : eb ρ S = .ok (.v (.int hi)) S) (h : (lo ≤ 1000000000 ∧ -1000000000 ≤ lo) ∧ hi ≤ 1000000000 ∧ -1000000000 ≤ hi) : eRng2 (fCons ea (fCons eb fNil)) ρ S = .ok ⟨rngD lo (hi - lo).toNat, []⟩ S := by
  unfold eRng2 fCons fNil
  rw [ha]; simp only [R.bind_ok]
  rw [hb]; simp only [R.bind_ok]
  show (if (lo ≤ 1000000000 ∧ -1000000000 ≤ lo) ∧ hi ≤ 1000000000 ∧ -1000000000 ≤ hi then R.ok (⟨rngD lo (hi - lo).toNat, []⟩ : DIt) S else .bad) = _
  rw [if_pos h]
theorem zip_ll {ea eb : DL.Env → Sto → R F} {ρ : DL.Env} {S : Sto} {n : Nat} {xs ys : List D} (ha : ea ρ S = .ok (.v (.loc n)) S) (hb : eb ρ S = .ok (.l ys) S) (h : S[n]? = some (.lst xs)) : eZip (fCons ea (fCons eb fNil)) ρ S = .ok ⟨zipD xs ys, [(n, .lst xs)]⟩ S := by
  unfold eZip fCons fNil
  rw [ha]; simp only [R.bind_ok]
  rw [hb]; simp only [R.bind_ok]
  have e1 : seqIt (.v (.loc n)) S = some (false, xs, [(n, O.lst xs)]) := by
    show (match S[n]? with
      | some (.lst ds) => some (false, ds, [(n, O.lst ds)])
      | _ => none) = _
    rw [h]
  have e2 : seqIt (.l ys) S = some (false, ys, []) := rfl
  rw [e1, e2]
  simp
theorem sl_drop {ρ : DL.Env} {S : Sto} {i n : Nat} {xs : List D} (hi : ρ[i]? = some (some (.loc n))) (h : S[n]? = some (.lst xs)) : eSl (eVar i) (ePart (eC (.int 1))) eNoPart ρ S = .ok (.l (xs.drop 1)) S := by
  rw [sl_loc (var_ok hi) (part_ok (i := 1) c_ok) rfl h]
  have e : cutD xs (some 1) none = xs.drop 1 := by
    unfold cutD
    cases xs with
    | nil => rfl
    | cons x xs =>
      have h1 : HT.sIx (x :: xs).length 0 (some 1) = 1 := by
        unfold HT.sIx
        simp
        try omega
      have h2 : HT.sIx (x :: xs).length (x :: xs).length none = (x :: xs).length := rfl
      rw [h1, h2]
      simp
  rw [e]
theorem cut_take {xs : List D} {k : Nat} : cutD xs none (some (k : Int)) = xs.take k := by
  unfold cutD
  have h1 : HT.sIx xs.length 0 none = 0 := rfl
  have h2 : HT.sIx xs.length xs.length (some (k : Int)) = min k xs.length := by
    unfold HT.sIx
    simp
    try omega
  rw [h1, h2]
  simp
/-- the steps with index other than k, or k -/
def offK (E : List (Int × Int)) (k : Int) : List (Int × Int) := ((numP 0 E).filter fun z => !(z.1 == k)).map (·.2)
def onK (E : List (Int × Int)) (k : Int) : List (Int × Int) := ((numP 0 E).filter fun z => z.1 == k).map (·.2)
theorem mem_onK {E : List (Int × Int)} {k : Nat} {p : Int × Int} : p ∈ onK E k ↔ E[k]? = some p := by
  unfold onK
  rw [List.mem_map]
  constructor
  · rintro ⟨z, hz, rfl⟩
    obtain ⟨h1, h2⟩ := List.mem_filter.mp hz
    obtain ⟨i, h3, h4⟩ := mem_numP.mp h1
    have h2 : z.1 = (k : Int) := by simpa using h2
    have : i = k := by omega
    rw [← this]; exact h3
  · intro h
    exact ⟨((k : Int), p), List.mem_filter.mpr ⟨mem_numP.mpr ⟨k, h, by simp⟩, by simp⟩, rfl⟩
theorem mem_offon {E : List (Int × Int)} {k : Nat} {p : Int × Int} : (p ∈ offK E k ∨ p ∈ onK E k) ↔ p ∈ E := by
  constructor
  · have go : ∀ c : Int × (Int × Int) → Bool, p ∈ ((numP 0 E).filter c).map (·.2) → p ∈ E := fun c h => by
      obtain ⟨z, hz, rfl⟩ := List.mem_map.mp h
      obtain ⟨i, h3, _⟩ := mem_numP.mp (List.mem_filter.mp hz).1
      exact List.mem_of_getElem? h3
    rintro (h | h)
    · exact go _ h
    · exact go _ h
  · intro h
    obtain ⟨i, hi⟩ := List.mem_iff_getElem?.mp h
    by_cases e : i = k
    · subst e; exact .inr (mem_onK.mpr hi)
    · left
      unfold offK
      exact List.mem_map.mpr ⟨((i : Int), p), List.mem_filter.mpr ⟨mem_numP.mpr ⟨i, hi, by simp⟩, by simp; omega⟩, rfl⟩
/-- the plan of some names: a sign for each, which changes once -/
def qOf (ns : List Int) : Plan := { rs := ns.map fun n => (0, [(n, 1)]), st := [0], ns := [.good] }
theorem nms_qOf (ns : List Int) : nmsOf (qOf ns).rs = ns := by
  show nmsOf (ns.map fun n => (0, [(n, 1)])) = ns
  unfold nmsOf
  induction ns with
  | nil => rfl
  | cons n ns ih => rw [List.map_cons, List.flatMap_cons, ih]; rfl
theorem neigh_qOf (ns : List Int) : neigh (qOf ns).rs = [] := by
  show neigh (ns.map fun n => (0, [(n, 1)])) = []
  unfold neigh
  induction ns with
  | nil => rfl
  | cons n ns ih => rw [List.map_cons, List.flatMap_cons, ih]; rfl
theorem small_qOf {ns : List Int} (h : ns.Nodup) (hl : ns.length ≤ 8) : SmallP (qOf ns) := by
  refine ⟨by rw [nms_qOf]; exact h, by rw [nms_qOf]; omega, ?_⟩
  show (ns.map _).length ≤ 60
  rw [List.length_map]; omega
/-! ### the two loops: all pairs of the chain -/
abbrev bI : DL.Env → Sto → RS := (sSeq (sAsg (gNm 12) (eSub (eVar 1) (eVar 11)))
  (sSeq (sAsg (gNm 13) (eAnd (eInA false (eVar 10) (eVar 6)) (eInA false (eVar 12) (eVar 6))))
  (sSeq (sIf (tOfB (eOp neF (eInA false (eTup (eCons (eVar 10) (eCons (eVar 12) eNil))) (eVar 7)) (eVar 13))) (sRet (eC (.bl false))) sNil)
  (sIf (tOfB (eOp neF (eInA false (eTup (eCons (eVar 10) (eCons (eVar 12) eNil))) (eVar 8)) (eAnd (eVar 13) (eChain leF ltF (eVar 9) (eVar 2) (eVar 11))))) (sRet (eC (.bl false))) sNil))))
abbrev bO : DL.Env → Sto → RS := sFor (eRng2 (fCons (eOp addF (eVar 9) (eC (.int 1))) (fCons (eB (f1 lenF) (fCons (eVar 1) fNil)) fNil))) (gNm 11) bI
section
variable {p a3 a4 a5 : Option D} {cl n6 k : Nat} {c ns : List Int} {O Z : List (Int × Int)} {S : Sto}
def en (p a3 a4 a5 : Option D) (cl n6 k : Nat) (O Z : List (Int × Int)) (o9 o10 o11 o12 o13 : Option D) : DL.Env :=
  [p, some (.loc cl), some (.int k), a3, a4, a5, some (.loc n6), some (pairsD O), some (pairsD Z), o9, o10, o11, o12, o13, none, none, none]
theorem inner (hc : S[cl]? = some (.lst (c.map D.int))) (h6 : S[n6]? = some (.lst (ns.map D.int)))
    (hO : ∀ (i j : Nat) (x y : Int), i < j → c[i]? = some x → c[j]? = some y → ((x, y) ∈ O ↔ x ∈ ns ∧ y ∈ ns))
    (hZ : ∀ (i j : Nat) (x y : Int), i < j → c[i]? = some x → c[j]? = some y → ((x, y) ∈ Z ↔ (x ∈ ns ∧ y ∈ ns) ∧ i ≤ k ∧ k < j)) {i : Nat} {x : Int} (hx : c[i]? = some x) {xs : List D} :
    ∀ (js : List Int) (o11 o12 o13 : Option D), (∀ j ∈ js, (i : Int) < j ∧ j < c.length) → ∃ o11' o12' o13' : Option D,
      forL ⟨xs, []⟩ (gNm 11) bI (js.map D.int) (en p a3 a4 a5 cl n6 k O Z (some (.int i)) (some (.int x)) o11 o12 o13) S = .nx (en p a3 a4 a5 cl n6 k O Z (some (.int i)) (some (.int x)) o11' o12' o13') S
  | [], o11, o12, o13, _ => ⟨o11, o12, o13, by rw [List.map_nil, forL, if_pos (by simp)]⟩
  | j :: js, o11, o12, o13, hj => by
    obtain ⟨j1, j2⟩ := hj j (by simp)
    have hjl : j.toNat < c.length := by omega
    have hy : c[j.toNat]? = some c[j.toNat] := List.getElem?_eq_getElem hjl
    have ix : atI (c.map D.int) j = some (.int c[j.toNat]) := by
      have := atI_nat (ds := c.map D.int) (k := j.toNat) (d := .int c[j.toNat]) (by rw [List.getElem?_map, hy]; rfl)
      rw [show ((j.toNat : Nat) : Int) = j by omega] at this
      exact this
    have t12 : sAsg (gNm 12) (eSub (eVar 1) (eVar 11)) (en p a3 a4 a5 cl n6 k O Z (some (.int i)) (some (.int x)) (some (.int j)) o12 o13) S = .nx (en p a3 a4 a5 cl n6 k O Z (some (.int i)) (some (.int x)) (some (.int j)) (some (.int c[j.toNat])) o13) S :=
      asgv (sub_ok (var_ok rfl) (var_ok rfl) (ix_loc hc ix))
    have g6 : getTL (.v (.loc n6)) S = some (ns.map D.int) := getTL_loc h6
    have t13 : sAsg (gNm 13) (eAnd (eInA false (eVar 10) (eVar 6)) (eInA false (eVar 12) (eVar 6))) (en p a3 a4 a5 cl n6 k O Z (some (.int i)) (some (.int x)) (some (.int j)) (some (.int c[j.toNat])) o13) S = .nx (en p a3 a4 a5 cl n6 k O Z (some (.int i)) (some (.int x)) (some (.int j)) (some (.int c[j.toNat])) (some (.bl (decide (x ∈ ns) && decide (c[j.toNat] ∈ ns))))) S :=
      asgv (eand_ok (inA_ints (var_ok rfl) (var_ok rfl) g6) (fun _ => inA_ints (var_ok rfl) (var_ok rfl) g6))
    have htup : ∀ o13, eTup (eCons (eVar 10) (eCons (eVar 12) eNil)) (en p a3 a4 a5 cl n6 k O Z (some (.int i)) (some (.int x)) (some (.int j)) (some (.int c[j.toNat])) o13) S = .ok (.v (prD (x, c[j.toNat]))) S := fun _ => tup_ok (cons_ok (var_ok rfl) (cons_ok (var_ok rfl) nil_ok)) (by simp)
    have b1 : decide ((x, c[j.toNat]) ∈ O) = (decide (x ∈ ns) && decide (c[j.toNat] ∈ ns)) := by
      rw [← Bool.decide_and]
      exact decide_eq_decide.mpr (hO i j.toNat x _ (by omega) hx hy)
    have b2 : decide ((x, c[j.toNat]) ∈ Z) = ((decide (x ∈ ns) && decide (c[j.toNat] ∈ ns)) && (decide ((i : Int) ≤ (k : Int)) && decide ((k : Int) < j))) := by
      rw [← Bool.decide_and, ← Bool.decide_and, ← Bool.decide_and]
      refine decide_eq_decide.mpr ((hZ i j.toNat x _ (by omega) hx hy).trans ?_)
      refine and_congr_right fun _ => ?_
      omega
    have st : bI (en p a3 a4 a5 cl n6 k O Z (some (.int i)) (some (.int x)) (some (.int j)) o12 o13) S = .nx (en p a3 a4 a5 cl n6 k O Z (some (.int i)) (some (.int x)) (some (.int j)) (some (.int c[j.toNat])) (some (.bl (decide (x ∈ ns) && decide (c[j.toNat] ∈ ns))))) S := by
      refine (seq_nx t12).trans ((seq_nx t13).trans ?_)
      refine (seq_nx (if_no (tofb_ok (op_ok (inA_pairs (htup _) (var_ok rfl)) (var_ok rfl) ?_)))).trans (if_no (tofb_ok (op_ok (inA_pairs (htup _) (var_ok rfl)) (eand_ok (var_ok rfl) fun _ => chain_lt (var_ok rfl) (var_ok rfl) (var_ok rfl)) ?_)))
      · rw [ne_bb]
        simp [b1]
      · rw [ne_bb]
        simp [b2]
    obtain ⟨q11, q12, q13, e⟩ := inner hc h6 hO hZ hx (xs := xs) js (some (.int j)) (some (.int c[j.toNat])) (some (.bl (decide (x ∈ ns) && decide (c[j.toNat] ∈ ns)))) fun z hz => hj z (by simp [hz])
    refine ⟨q11, q12, q13, ?_⟩
    rw [List.map_cons, for_nx (by simp) (show gNm 11 (D.int j) (en p a3 a4 a5 cl n6 k O Z (some (.int i)) (some (.int x)) o11 o12 o13) = some (en p a3 a4 a5 cl n6 k O Z (some (.int i)) (some (.int x)) (some (.int j)) o12 o13) from rfl) st]
    exact e
theorem depx {xs ys : List D} (h : S[cl]? = some (.lst ys)) : DIt.ok ⟨xs, [(cl, .lst ys)]⟩ S := fun p hp => by
  rw [List.mem_singleton] at hp; subst hp; exact h
theorem outer (hc : S[cl]? = some (.lst (c.map D.int))) (hcl : c.length ≤ 100) (h6 : S[n6]? = some (.lst (ns.map D.int)))
    (hO : ∀ (i j : Nat) (x y : Int), i < j → c[i]? = some x → c[j]? = some y → ((x, y) ∈ O ↔ x ∈ ns ∧ y ∈ ns))
    (hZ : ∀ (i j : Nat) (x y : Int), i < j → c[i]? = some x → c[j]? = some y → ((x, y) ∈ Z ↔ (x ∈ ns ∧ y ∈ ns) ∧ i ≤ k ∧ k < j)) {xs : List D} :
    ∀ (rest : List Int) (i : Nat) (o9 o10 o11 o12 o13 : Option D), c.drop i = rest → ∃ o9' o10' o11' o12' o13' : Option D,
      forL ⟨xs, [(cl, .lst (c.map D.int))]⟩ (gTpN 2 (gsCons (gNm 9) (gsCons (gNm 10) gsNil))) bO (numD i (rest.map D.int)) (en p a3 a4 a5 cl n6 k O Z o9 o10 o11 o12 o13) S = .nx (en p a3 a4 a5 cl n6 k O Z o9' o10' o11' o12' o13') S
  | [], i, o9, o10, o11, o12, o13, _ => ⟨o9, o10, o11, o12, o13, by rw [List.map_nil, numD, forL, if_pos (depx hc)]⟩
  | x :: rest, i, o9, o10, o11, o12, o13, hd => by
    have hx : c[i]? = some x := by
      have := congrArg (·[0]?) hd
      simpa using this
    have hl := (List.getElem?_eq_some_iff.mp hx).1
    have hd2 : c.drop (i + 1) = rest := by rw [← List.drop_drop, hd]; rfl
    obtain ⟨q11, q12, q13, e⟩ := inner (p := p) (a3 := a3) (a4 := a4) (a5 := a5) hc h6 hO hZ hx (xs := rngD ((i : Int) + 1) ((c.length : Int) - ((i : Int) + 1)).toNat) ((List.range ((c.length : Int) - ((i : Int) + 1)).toNat).map fun (t : Nat) => (i : Int) + 1 + (t : Int)) o11 o12 o13 fun j hj => by
      obtain ⟨t, ht, rfl⟩ := List.mem_map.mp hj
      rw [List.mem_range] at ht
      omega
    have st : bO (en p a3 a4 a5 cl n6 k O Z (some (.int i)) (some (.int x)) o11 o12 o13) S = .nx (en p a3 a4 a5 cl n6 k O Z (some (.int i)) (some (.int x)) q11 q12 q13) S := by
      have hi : eRng2 (fCons (eOp addF (eVar 9) (eC (.int 1))) (fCons (eB (f1 lenF) (fCons (eVar 1) fNil)) fNil)) (en p a3 a4 a5 cl n6 k O Z (some (.int i)) (some (.int x)) o11 o12 o13) S = .ok ⟨rngD ((i : Int) + 1) ((c.length : Int) - ((i : Int) + 1)).toNat, []⟩ S := by
        have hlen := len_loc hc
        rw [List.length_map] at hlen
        exact rng2_ok (op_ok (var_ok rfl) c_ok (add_ii (i : Int) 1 S)) (b1_ok (x := .v (.loc cl)) (var_ok rfl) hlen) (by omega)
      refine (for_ok hi).trans ?_
      have er : rngD ((i : Int) + 1) ((c.length : Int) - ((i : Int) + 1)).toNat = ((List.range ((c.length : Int) - ((i : Int) + 1)).toNat).map fun (t : Nat) => (i : Int) + 1 + (t : Int)).map D.int := by
        unfold rngD; rw [List.map_map]; rfl
      show forL _ _ _ (rngD ((i : Int) + 1) ((c.length : Int) - ((i : Int) + 1)).toNat) _ _ = _
      rw [er] at e ⊢
      exact e
    obtain ⟨r9, r10, r11, r12, r13, e2⟩ := outer hc hcl h6 hO hZ (xs := xs) rest (i + 1) (some (.int i)) (some (.int x)) q11 q12 q13 hd2
    refine ⟨r9, r10, r11, r12, r13, ?_⟩
    rw [List.map_cons, numD, for_nx (depx hc) (show gTpN 2 (gsCons (gNm 9) (gsCons (gNm 10) gsNil)) (D.tup [.int i, .int x]) (en p a3 a4 a5 cl n6 k O Z o9 o10 o11 o12 o13) = some (en p a3 a4 a5 cl n6 k O Z (some (.int i)) (some (.int x)) o11 o12 o13) from rfl) st]
    exact e2
end
end LK
/-! ## K12d -/
set_option maxHeartbeats 4000000
namespace LK
open PySem PySem.Spec L2 DL DL.Pen
theorem cons2_len (c : List Int) : (cons2 c).length ≤ c.length := by unfold cons2; rw [List.length_zip]; omega
theorem cons2_mem {c : List Int} {p : Int × Int} (h : p ∈ cons2 c) : p.1 ∈ c ∧ p.2 ∈ c := by
  obtain ⟨i, h1, h2⟩ := mem_cons2.mp (show (p.1, p.2) ∈ cons2 c from h)
  exact ⟨List.mem_of_getElem? h1, List.mem_of_getElem? h2⟩
theorem onK_len (E : List (Int × Int)) (k : Int) : (onK E k).length ≤ E.length := by
  unfold onK; rw [List.length_map]
  exact Nat.le_trans (List.length_filter_le _ _) (by rw [numP_len]; exact Nat.le_refl _)
theorem offK_len (E : List (Int × Int)) (k : Int) : (offK E k).length ≤ E.length := by
  unfold offK; rw [List.length_map]
  exact Nat.le_trans (List.length_filter_le _ _) (by rw [numP_len]; exact Nat.le_refl _)
theorem chain_right_ok {ns c : List Int} {k cl : Nat} {S : Sto} (nn : ns.Nodup) (nl : ns.length ≤ 8) (n0 : ∀ n ∈ ns, 0 ≤ n) (cn : c.Nodup) (cl8 : c.length ≤ 10) (c0 : ∀ x ∈ c, 0 ≤ x) (hc : S[cl]? = some (.lst (c.map D.int))) :
    ∃ S' : Sto, d_law_chain_right [plD (qOf ns), .loc cl, .int k] S = .ok (.v (.bl true)) S' ∧ Ext [] S S' := by
  have el := cons2_len c
  -- the steps
  have s1 : sAsg (gNm 3) (eLc (eZip (fCons (eVar 1) (fCons (eSl (eVar 1) (ePart (eC (.int 1))) eNoPart) fNil))) (gTpN 2 (gsCons (gNm 10) (gsCons (gNm 12) gsNil))) tYes' (eTup (eCons (eVar 10) (eCons (eVar 12) eNil))) [10, 12])
      [some (plD (qOf ns)), some (.loc cl), some (.int k), none, none, none, none, none, none, none, none, none, none, none, none, none, none] S =
      .nx [some (plD (qOf ns)), some (.loc cl), some (.int k), some (.loc S.length), none, none, none, none, none, none, none, none, none, none, none, none, none] (S ++ [O.lst ((cons2 c).map prD)]) := by
    have e : eLc (eZip (fCons (eVar 1) (fCons (eSl (eVar 1) (ePart (eC (.int 1))) eNoPart) fNil))) (gTpN 2 (gsCons (gNm 10) (gsCons (gNm 12) gsNil))) tYes' (eTup (eCons (eVar 10) (eCons (eVar 12) eNil))) [10, 12]
        [some (plD (qOf ns)), some (.loc cl), some (.int k), none, none, none, none, none, none, none, none, none, none, none, none, none, none] S = .ok (.l ((cons2 c).map prD)) S := by
      have := elc_enc (it := ⟨zipD (c.map D.int) ((c.map D.int).drop 1), [(cl, .lst (c.map D.int))]⟩) (et := tYes') (g := gTpN 2 (gsCons (gNm 10) (gsCons (gNm 12) gsNil))) (ee := eTup (eCons (eVar 10) (eCons (eVar 12) eNil))) (vs := [10, 12]) (zip_ll (ρ := [some (plD (qOf ns)), some (.loc cl), some (.int k), none, none, none, none, none, none, none, none, none, none, none, none, none, none]) (var_ok (i := 1) rfl) (sl_drop (i := 1) rfl hc) hc) (depx hc) prD (fun _ => true) prD (cons2 c) (by
          show zipD _ _ = _
          rw [← List.map_drop, zipD_gen]; rfl) (by omega) fun z _ => ⟨[some (plD (qOf ns)), some (.loc cl), some (.int k), none, none, none, none, none, none, none, some (.int z.1), none, some (.int z.2), none, none, none, none], rfl, rfl, fun _ => tup_ok (cons_ok (var_ok rfl) (cons_ok (var_ok rfl) nil_ok)) (by simp)⟩
      rw [filter_yes] at this
      exact this
    exact asg_ok e
  have h3 : (S ++ [O.lst ((cons2 c).map prD)])[S.length]? = some (.lst ((cons2 c).map prD)) := List.getElem?_concat_length
  have hc1 : (S ++ [O.lst ((cons2 c).map prD)])[cl]? = some (.lst (c.map D.int)) := Ext.get (ex := []) Ext.app (by simp) hc
  have hcc : (c.map D.int).length = c.length := List.length_map _
  -- those that wait, those that drain
  have pick : ∀ (f : F → F → Sto → Option F) (t : Int → Bool) (o4 : Option D), (∀ (i : Int) (S : Sto), f (.v (.int i)) (.v (.int k)) S = some (.v (.bl (t i)))) →
      eLc (eEnum 0 (eVar 3)) (gTpN 2 (gsCons (gNm 15) (gsCons (gNm 16) gsNil))) (tOfB (eOp f (eVar 15) (eVar 2))) (eVar 16) [15, 16] [some (plD (qOf ns)), some (.loc cl), some (.int k), some (.loc S.length), o4, none, none, none, none, none, none, none, none, none, none, none, none] (S ++ [O.lst ((cons2 c).map prD)]) = .ok (.l ((((numP 0 (cons2 c)).filter fun z => t z.1).map (·.2)).map prD)) (S ++ [O.lst ((cons2 c).map prD)]) := by
    intro f t o4 hf
    have := elc_enc (it := ⟨numD 0 ((cons2 c).map prD), [(S.length, .lst ((cons2 c).map prD))]⟩) (g := gTpN 2 (gsCons (gNm 15) (gsCons (gNm 16) gsNil))) (et := tOfB (eOp f (eVar 15) (eVar 2))) (ee := eVar 16) (vs := [15, 16]) (ρ := [some (plD (qOf ns)), some (.loc cl), some (.int k), some (.loc S.length), o4, none, none, none, none, none, none, none, none, none, none, none, none])
      (enum_ok (seq_loc (var_ok (i := 3) rfl) h3)) (depx h3) (fun z : Int × (Int × Int) => D.tup [.int z.1, prD z.2]) (fun z => t z.1) (fun z => prD z.2) (numP 0 (cons2 c)) (numD_map prD 0 (cons2 c)) (by rw [numP_len]; omega) fun z _ => ⟨[some (plD (qOf ns)), some (.loc cl), some (.int k), some (.loc S.length), o4, none, none, none, none, none, none, none, none, none, none, some (.int z.1), some (prD z.2)], rfl, tofb_ok (op_ok (var_ok rfl) (var_ok rfl) (hf z.1 _)), fun _ => var_ok rfl⟩
    rw [this, List.map_map]
    rfl
  have m0 : ∀ z ∈ offK (cons2 c) k, 0 ≤ z.1 ∧ 0 ≤ z.2 := fun z hz => by
    obtain ⟨h1, h2⟩ := cons2_mem (mem_offon.mp (.inl hz))
    exact ⟨c0 _ h1, c0 _ h2⟩
  have ol := offK_len (cons2 c) k
  have onl := onK_len (cons2 c) k
  obtain ⟨W, sW, pW, _⟩ := sortA_l (Z := offK (cons2 c) k) (S := S ++ [O.lst ((cons2 c).map prD)]) (by omega) m0
  have wl : W.length ≤ 10 := by rw [pW.length_eq]; omega
  -- what follows
  have hP : ∀ p, p ∈ stepsP (qOf ns) W (onK (cons2 c) k) ↔ p ∈ cons2 c := fun p => by
    unfold stepsP
    rw [neigh_qOf, List.append_nil, List.mem_append, pW.mem_iff]
    exact mem_offon
  have rch : ∀ {x y : Int}, Rch (stepsP (qOf ns) W (onK (cons2 c) k)) x y ↔ ∃ i j : Nat, i < j ∧ c[i]? = some x ∧ c[j]? = some y := path_rch cn hP
  have no : ∀ x, ¬ Rch (stepsP (qOf ns) W (onK (cons2 c) k)) x x := fun x h => by
    obtain ⟨i, j, hij, h1, h2⟩ := rch.mp h
    have := nd_at cn h1 h2
    omega
  obtain ⟨S2, Or, Z, e2, ir, x2⟩ := (regime_ok (small_qOf nn nl) (by rw [nms_qOf]; exact nl) (by rw [nms_qOf]; exact n0) (W := W) (Dr := onK (cons2 c) k) (by omega) (by omega) (S := S ++ [O.lst ((cons2 c).map prD)])).1 no
  obtain ⟨S3, x3, e3⟩ := law_names_ok (q := qOf ns) (S := S2) (by rw [nms_qOf]; exact nn) (by rw [nms_qOf]; omega)
  rw [nms_qOf] at e3
  have sp : (srt ns).Perm ns := by unfold srt; exact List.mergeSort_perm _ _
  have hO : ∀ (i j : Nat) (x y : Int), i < j → c[i]? = some x → c[j]? = some y → ((x, y) ∈ Or ↔ x ∈ srt ns ∧ y ∈ srt ns) := fun i j x y hij hx hy => by
    rw [ir.mo, nms_qOf, sp.mem_iff, sp.mem_iff]
    exact ⟨fun h => ⟨h.1, h.2.1⟩, fun h => ⟨h.1, h.2, rch.mpr ⟨i, j, hij, hx, hy⟩⟩⟩
  have mon : ∀ p : Int × Int, p ∈ onK (cons2 c) k ↔ c[k]? = some p.1 ∧ c[k + 1]? = some p.2 := fun p => by
    rw [mem_onK]
    unfold cons2
    rw [List.getElem?_zip_eq_some, List.getElem?_drop, Nat.add_comm 1 k]
  have hZ : ∀ (i j : Nat) (x y : Int), i < j → c[i]? = some x → c[j]? = some y → ((x, y) ∈ Z ↔ (x ∈ srt ns ∧ y ∈ srt ns) ∧ i ≤ k ∧ k < j) := fun i j x y hij hx hy => by
    rw [ir.mz, sp.mem_iff, sp.mem_iff]
    constructor
    · rintro ⟨p, hp, ⟨h1, h2⟩, ⟨h3, h4⟩⟩
      rw [nms_qOf] at h1 h3
      obtain ⟨p1, p2⟩ := (mon p).mp hp
      refine ⟨⟨h1, h3⟩, ?_, ?_⟩
      · rcases h2 with h2 | h2
        · have h2 : x = p.1 := h2
          rw [← h2] at p1
          have := nd_at cn hx p1
          omega
        · obtain ⟨a, b, hab, ha, hb⟩ := rch.mp h2
          have := nd_at cn hx ha
          have := nd_at cn p1 hb
          omega
      · rcases h4 with h4 | h4
        · have h4 : p.2 = y := h4
          rw [h4] at p2
          have := nd_at cn hy p2
          omega
        · obtain ⟨a, b, hab, ha, hb⟩ := rch.mp h4
          have := nd_at cn hy hb
          have := nd_at cn p2 ha
          omega
    · rintro ⟨⟨h1, h3⟩, hik, hkj⟩
      have jl := (List.getElem?_eq_some_iff.mp hy).1
      have hk : c[k]? = some c[k] := List.getElem?_eq_getElem (by omega)
      have hk1 : c[k + 1]? = some c[k + 1] := List.getElem?_eq_getElem (by omega)
      refine ⟨(c[k], c[k + 1]), (mon _).mpr ⟨hk, hk1⟩, ⟨by rw [nms_qOf]; exact h1, ?_⟩, ⟨by rw [nms_qOf]; exact h3, ?_⟩⟩
      · by_cases e : i = k
        · subst e
          rw [hx] at hk
          exact .inl (Option.some.inj hk)
        · exact .inr (rch.mpr ⟨i, k, by omega, hx, hk⟩)
      · by_cases e : j = k + 1
        · subst e
          rw [hy] at hk1
          exact .inl (Option.some.inj hk1).symm
        · exact .inr (rch.mpr ⟨k + 1, j, by omega, hk1, hy⟩)
  have hZO : ∀ z ∈ Z, z ∈ Or := fun z hz => by
    obtain ⟨p, hp, ⟨h1, h2⟩, ⟨h3, h4⟩⟩ := (ir.mz z).mp hz
    refine (ir.mo z).mpr ⟨h1, h3, ?_⟩
    have r0 : Rch (stepsP (qOf ns) W (onK (cons2 c) k)) p.1 p.2 := .one (by unfold stepsP; simp [hp])
    have r1 : Rch (stepsP (qOf ns) W (onK (cons2 c) k)) z.1 p.2 := by
      rcases h2 with h2 | h2
      · rw [h2]; exact r0
      · exact h2.trans r0
    rcases h4 with h4 | h4
    · rw [← h4]; exact r1
    · exact r1.trans h4
  have hc3 : (S3 ++ [O.lst ((srt ns).map D.int)])[cl]? = some (.lst (c.map D.int)) := Ext.get (ex := []) Ext.app (by simp) (x3.get (by simp) (x2.get (by simp) hc1))
  have h6 : (S3 ++ [O.lst ((srt ns).map D.int)])[S3.length]? = some (.lst ((srt ns).map D.int)) := List.getElem?_concat_length
  obtain ⟨r9, r10, r11, r12, r13, eL⟩ := outer (p := some (plD (qOf ns))) (a3 := some (.loc S.length)) (a4 := some (pairsD W)) (a5 := some (pairsD (onK (cons2 c) k))) hc3 (by omega) h6 hO hZ (xs := numD 0 (c.map D.int)) c 0 none none none none none rfl
  refine ⟨S3 ++ [O.lst ((srt ns).map D.int)], runF_rt ?_, ((Ext.app (S := S) (t := [O.lst ((cons2 c).map prD)])).trans x2).trans (x3.trans Ext.app)⟩
  show b_law_chain_right [some (plD (qOf ns)), some (.loc cl), some (.int k), none, none, none, none, none, none, none, none, none, none, none, none, none, none] S = _
  unfold b_law_chain_right
  refine (seq_nx s1).trans ?_
  refine (seq_nx (asgv (d := pairsD W) (b1_ok (b1_ok (pick neF (fun i => !(i == (k : Int))) none fun i S => ne_ii i k S) sW) rfl))).trans ?_
  refine (seq_nx (asgv (d := pairsD (onK (cons2 c) k)) (b1_ok (pick eqF (fun i => i == (k : Int)) (some (pairsD W)) fun i S => eq_ii' i k S) rfl))).trans ?_
  rw [e_regime, e_names]
  refine (seq_nx (asg_g (call3_ok (var_ok rfl) (var_ok rfl) (var_ok rfl) e2) (show gTpN 2 (gsCons (gNm 7) (gsCons (gNm 8) gsNil)) (D.tup [pairsD Or, pairsD Z]) _ = some _ from rfl))).trans ?_
  refine (seq_nx (asg_ok (call1_ok (var_ok rfl) e3))).trans ?_
  refine (seq_nx ((for_ok (enum_ok (seq_loc (var_ok rfl) hc3))).trans eL)).trans ?_
  refine ret_ok (op_ok (x := .l []) (y := .l []) ?_ (lst_ok nil_ok (by simp)) (eq_nil _))
  have := elc_enc (it := ⟨Z.map prD, []⟩) (g := gNm 14) (et := tOfB (eInA true (eVar 14) (eVar 7))) (ee := eVar 14) (vs := [14]) (ρ := en (some (plD (qOf ns))) (some (.loc S.length)) (some (pairsD W)) (some (pairsD (onK (cons2 c) k))) cl S3.length k Or Z r9 r10 r11 r12 r13) (S := S3 ++ [O.lst ((srt ns).map D.int)])
    (seq_tup (xs := Z.map prD) (var_ok (i := 8) rfl)) (by simp) prD (fun z => !decide (z ∈ Or)) prD Z rfl (by
      have := pairs_len (A := ns) (B := ns) ir.nz fun z hz => by
        have := (ir.mo z).mp (hZO z hz)
        rw [nms_qOf] at this
        exact ⟨this.1, this.2.1⟩
      have : ns.length * ns.length ≤ 8 * 8 := Nat.mul_le_mul nl nl
      omega) fun z _ => ⟨(en (some (plD (qOf ns))) (some (.loc S.length)) (some (pairsD W)) (some (pairsD (onK (cons2 c) k))) cl S3.length k Or Z r9 r10 r11 r12 r13).set 14 (some (prD z)), rfl, tofb_ok (inA_pairs (var_ok rfl) (var_ok rfl)), fun _ => var_ok rfl⟩
  rw [this]
  have ef : Z.filter (fun z => !decide (z ∈ Or)) = [] := by
    rw [List.filter_eq_nil_iff]
    intro z hz
    simp [hZO z hz]
  rw [ef]
  rfl
end LK
/-! ## K12m -/
set_option maxHeartbeats 4000000
namespace LK
open PySem PySem.Spec L2 DL DL.Pen
theorem e_pen : d_law_pen = d_pen := rfl
theorem e_draw : d_law_draw = d_draw := rfl
theorem e_shuf : d_law_shuffled = d_shuffled := rfl
def unI : D → Int
  | .int i => i
  | _ => 0
theorem perm_intsR {zs : List D} {l : List Int} (h : zs.Perm (l.map D.int)) : ∃ σ : List Int, zs = σ.map D.int ∧ σ.Perm l := by
  refine ⟨zs.map unI, ?_, ?_⟩
  · rw [List.map_map]
    conv => lhs; rw [← List.map_id zs]
    refine List.map_congr_left fun x hx => ?_
    obtain ⟨i, _, rfl⟩ := List.mem_map.mp (h.mem_iff.mp hx)
    rfl
  · have := h.map unI
    rw [List.map_map] at this
    have e : l.map (unI ∘ D.int) = l := by
      conv => rhs; rw [← List.map_id l]
      rfl
    rw [e] at this
    exact this
def ten : List Int := [0, 1, 2, 3, 4, 5, 6, 7, 8, 9]
theorem lr10 (ρ : DL.Env) (S : Sto) : eLr1 (eC (.int 10)) ρ S = .ok (.l (ten.map D.int)) S := rfl
/-- ten names in a drawn order -/
theorem shuf10 {p : Nat} {S : Sto} {n : Int} {ρ : DL.Env} (h : Pn p S n) (hn : n ≤ 900000) (h1 : ρ[1]? = some (some (.loc p))) :
    ∃ (σ : List Int) (q : Nat) (S' : Sto), eCall 2 d_law_shuffled (eCons (eVar 1) (eCons (eLr1 (eC (.int 10))) eNil)) ρ S = .ok (.v (.loc q)) S' ∧ S'[q]? = some (.lst (σ.map D.int)) ∧ σ.Perm ten ∧ Pn p S' (n + 10) ∧ Ext [p] S S' ∧ q ≠ p := by
  have hp := h.lt
  have h2 : Pn p (S ++ [O.lst (ten.map D.int)]) n := h.ext (ex := []) Ext.app nofun
  obtain ⟨zs, q, S', e, hq, hz, hp', x, lq⟩ := shuffled_ok (r := S.length) (xs := ten.map D.int) h2 List.getElem?_concat_length (by omega) (by decide) (by show n + 10 ≤ _; omega)
  obtain ⟨σ, rfl, hσ⟩ := perm_intsR hz
  refine ⟨σ, q, S', ?_, hq, hσ, hp', (Ext.app.mono (ex := []) (by simp)).trans x, ?_⟩
  · rw [e_shuf]
    exact call2l_ok (var_ok h1) (lr10 _ _) e
  · simp at lq; omega
theorem draw_at {p : Nat} {S : Sto} {n m : Int} {ρ : DL.Env} {em : DL.Env → Sto → R F} (h : Pn p S n) (hn : n ≤ 900000) (m0 : 0 < m) (m1 : m ≤ 100) (h1 : ρ[1]? = some (some (.loc p))) (hm : em ρ S = .ok (.v (.int m)) S) :
    ∃ (d : Int) (S' : Sto), 0 ≤ d ∧ d < m ∧ eCall 2 d_law_draw (eCons (eVar 1) (eCons em eNil)) ρ S = .ok (.v (.int d)) S' ∧ Pn p S' (n + 1) ∧ Ext [p] S S' := by
  obtain ⟨d, S', d0, d1, e, hp, x, _⟩ := draw2 h (by omega) m0 (by omega)
  exact ⟨d, S', d0, d1, by rw [e_draw]; exact call2_ok (var_ok h1) hm e, hp, x⟩
theorem sl_takeR {ee : DL.Env → Sto → R F} {eh : DL.Env → Sto → R F} {ρ : DL.Env} {S S1 S2 : Sto} {q k : Nat} {xs : List D} (h : ee ρ S = .ok (.v (.loc q)) S1) (h2 : eh ρ S1 = .ok (.v (.int k)) S2) (hq : S2[q]? = some (.lst xs)) : eSl ee eNoPart (ePart eh) ρ S = .ok (.l (xs.take k)) S2 := by
  unfold eSl
  rw [h, R.bind_ok]
  show (eNoPart ρ S1).bind _ = _
  rw [show eNoPart ρ S1 = .ok none S1 from rfl, R.bind_ok, part_ok h2, R.bind_ok]
  simp only [getL_loc hq]
  rw [cut_take]
theorem sl_tt {ρ : DL.Env} {S : Sto} {i : Nat} {P : List (Int × Int)} (h : ρ[i]? = some (some (pairsD P))) : eSl (eVar i) eNoPart (ePart (eC (.int 1))) ρ S = .ok (.v (pairsD (P.take 1))) S := by
  unfold eSl
  rw [var_ok h, R.bind_ok]
  show (eNoPart ρ S).bind _ = _
  rw [show eNoPart ρ S = .ok none S from rfl, R.bind_ok, part_ok (i := 1) c_ok, R.bind_ok]
  show R.ok (F.v (.tup (cutD (P.map prD) none (some ((1 : Nat) : Int))))) S = _
  rw [cut_take, ← List.map_take]
  rfl
theorem sl_td {ρ : DL.Env} {S : Sto} {i : Nat} {P : List (Int × Int)} (h : ρ[i]? = some (some (pairsD P))) : eSl (eVar i) (ePart (eC (.int 1))) eNoPart ρ S = .ok (.v (pairsD (P.drop 1))) S := by
  rw [tail_ok (xs := P.map prD) h, ← List.map_drop]
  rfl
theorem or_f {ea eb : DL.Env → Sto → R Bool} {ρ : DL.Env} {S S1 : Sto} (h : ea ρ S = .ok false S1) : tOr' ea eb ρ S = eb ρ S1 := by
  unfold tOr'; rw [h]; rfl
theorem add_ll (xs ys : List D) (S : Sto) (h : xs.length + ys.length ≤ 10000) : addF (.l xs) (.l ys) S = some (.l (xs ++ ys)) := by
  show ((if xs.length + ys.length ≤ 1000000 then some (F.l (xs ++ ys)) else none) : Option F) = _
  rw [if_pos (by omega)]
abbrev tB : DL.Env → Sto → RS := (sSeq (sAsg (gNm 3) (eCall 2 d_law_shuffled (eCons (eVar 1) (eCons (eLr1 (eC (.int 10))) eNil))))
  (sSeq (sAsg (gNm 4) (eB (f1 tupleF) (fCons (eLc (eSeq (eSl (eVar 3) eNoPart (ePart (eOp addF (eC (.int 1)) (eCall 2 d_law_draw (eCons (eVar 1) (eCons (eC (.int 4)) eNil))))))) (gNm 11) tYes' (eTup (eCons (eC (.int 0)) (eCons (eTup (eCons (eTup (eCons (eVar 11) (eCons (eC (.int 1)) eNil))) eNil)) eNil))) [11]) fNil)))
  (sSeq (sPar 8 9 (eTup (eCons (eVar 4) (eCons (eTup (eCons (eC (.int 0)) eNil)) (eCons (eTup (eCons (eTup (eCons (eC (.str "end")) (eCons (eC (.str "good")) eNil))) eNil)) eNil)))) (eOp addF (eC (.int 2)) (eCall 2 d_law_draw (eCons (eVar 1) (eCons (eC (.int 7)) eNil)))))
  (sSeq (sAsg (gNm 5) (eLc (eSeq (eSl (eCall 2 d_law_shuffled (eCons (eVar 1) (eCons (eLr1 (eC (.int 10))) eNil))) eNoPart (ePart (eVar 9)))) (gNm 10) tYes' (eSub (eVar 3) (eVar 10)) [10]))
  (sSeq (sIf (tNot' (tTru (eCall 3 d_law_chain_right (eCons (eVar 8) (eCons (eVar 5) (eCons (eCall 2 d_law_draw (eCons (eVar 1) (eCons (eVar 9) eNil))) eNil)))))) (sRet (eC (.bl false))) sNil)
  (sSeq (sAsg (gNm 6) (eB (f1 tupleF) (fCons (eB (f1 sortA) (fCons (eLc (eZip (fCons (eVar 5) (fCons (eOp addF (eSl (eVar 5) (ePart (eC (.int 1))) eNoPart) (eSl (eVar 5) eNoPart (ePart (eC (.int 1))))) fNil))) (gTpN 2 (gsCons (gNm 12) (gsCons (gNm 13) gsNil))) tYes' (eTup (eCons (eVar 12) (eCons (eVar 13) eNil))) [12, 13]) fNil)) fNil)))
  (sSeq (sIf (tOr' (tTru (eCall 3 d_is_regime (eCons (eVar 8) (eCons (eVar 6) (eCons (eTup eNil) eNil))))) (tOr' (tTru (eCall 3 d_is_regime (eCons (eVar 8) (eCons (eTup eNil) (eCons (eVar 6) eNil))))) (tTru (eCall 3 d_is_regime (eCons (eVar 8) (eCons (eSl (eVar 6) eNoPart (ePart (eC (.int 1)))) (eCons (eSl (eVar 6) (ePart (eC (.int 1))) eNoPart) eNil))))))) (sRet (eC (.bl false))) sNil)
  (sTry1 (sSeq (sDrop (eCall 3 d_regime_of (eCons (eVar 8) (eCons (eSl (eVar 6) (ePart (eC (.int 1))) eNoPart) (eCons (eSl (eVar 6) eNoPart (ePart (eC (.int 1)))) eNil)))))
  (sRet (eC (.bl false)))) "Tangled" [] 7 su_law_0))))))))
/-- the names at the places told, no two of them the same -/
theorem pick_chain {σ τ : List Int} (hσ : σ.Perm ten) (hτ : τ.Perm ten) (m : Nat) :
    ((τ.take m).map fun i => σ.getD i.toNat 0).Nodup ∧ (∀ x ∈ (τ.take m).map fun i => σ.getD i.toNat 0, 0 ≤ x) ∧ ((τ.take m).map fun i => σ.getD i.toNat 0).length = min m 10 ∧
      ∀ i ∈ τ.take m, atI (σ.map D.int) i = some (.int (σ.getD i.toNat 0)) := by
  have sl : σ.length = 10 := hσ.length_eq
  have tl : τ.length = 10 := hτ.length_eq
  have tn : ten.Nodup := by decide
  have sn : σ.Nodup := hσ.nodup_iff.mpr tn
  have tn' : (τ.take m).Nodup := (hτ.nodup_iff.mpr tn).sublist (List.take_sublist m τ)
  have t9 : ∀ i ∈ ten, 0 ≤ i ∧ i < 10 := by decide
  have rg : ∀ i ∈ τ.take m, 0 ≤ i ∧ i < 10 := fun i hi => t9 i (hτ.mem_iff.mp (List.mem_of_mem_take hi))
  have at' : ∀ i ∈ τ.take m, σ[i.toNat]? = some (σ.getD i.toNat 0) := fun i hi => by
    have := rg i hi
    rw [List.getD_eq_getElem?_getD, List.getElem?_eq_getElem (by omega)]
    rfl
  refine ⟨?_, fun x hx => ?_, by rw [List.length_map, List.length_take, tl], fun i hi => ?_⟩
  · rw [List.Nodup, List.pairwise_map]
    refine List.Pairwise.imp_of_mem (fun {a b} ha hb h e => ?_) tn'
    have h1 := at' a ha
    have h2 := at' b hb
    rw [← e] at h2
    have := nd_at sn h1 h2
    have := rg a ha
    have := rg b hb
    exact h (by omega)
  · obtain ⟨i, hi, rfl⟩ := List.mem_map.mp hx
    exact (t9 _ (hσ.mem_iff.mp (List.mem_of_getElem? (at' i hi)))).1
  · have := rg i hi
    have h := atI_nat (ds := σ.map D.int) (k := i.toNat) (d := .int (σ.getD i.toNat 0)) (by rw [List.getElem?_map, at' i hi]; rfl)
    rw [show ((i.toNat : Nat) : Int) = i by omega] at h
    exact h
theorem ring_mem {c : List Int} {p : Int × Int} (h : p ∈ ring c) : p.1 ∈ c ∧ p.2 ∈ c := by
  obtain ⟨i, h1, h2⟩ := mem_ring.mp (show (p.1, p.2) ∈ ring c from h)
  refine ⟨List.mem_of_getElem? h1, ?_⟩
  rcases List.mem_append.mp (List.mem_of_getElem? h2) with h | h
  · exact List.mem_of_mem_drop h
  · exact List.mem_of_mem_take h
theorem minD_in {L : List Int} (h : L ≠ []) {S : Sto} {n : Nat} (hn : S[n]? = some (.lst (L.map D.int))) : ∃ m : Int, min1F (.v (.loc n)) S = some (.v (.int m)) ∧ m ∈ L ∧ ∀ y ∈ L, m ≤ y := by
  obtain ⟨m, e, h1, h2⟩ := minD_mem h
  refine ⟨m, ?_, h1, h2⟩
  unfold min1F
  rw [getL_loc hn, Option.bind_some, intsOf_map, Option.bind_some, if_neg h, e]
theorem turn {p : Nat} {S : Sto} {n : Int} (h : Pn p S n) (hn : n ≤ 800000) (a0 o2 o3 o4 o5 o6 o7 o8 o9 o10 o11 o12 o13 : Option D) (h10 : o10 = none) (h11 : o11 = none) (h12 : o12 = none) (h13 : o13 = none) :
    ∃ (p3 p4 p5 p6 p7 p8 p9 : Option D) (S' : Sto), tB [a0, some (.loc p), o2, o3, o4, o5, o6, o7, o8, o9, o10, o11, o12, o13] S = .nx [a0, some (.loc p), o2, p3, p4, p5, p6, p7, p8, p9, none, none, none, none] S' ∧ Pn p S' (n + 30) := by
  subst h10 h11 h12 h13
  -- the names
  obtain ⟨σ, q, S1, e1, hq, hσ, pn1, x1, qp⟩ := shuf10 (ρ := [a0, some (.loc p), o2, o3, o4, o5, o6, o7, o8, o9, none, none, none, none]) h (by omega) rfl
  obtain ⟨d4, S2, d40, d41, e2, pn2, x2⟩ := draw_at (m := 4) (ρ := [a0, some (.loc p), o2, some (.loc q), o4, o5, o6, o7, o8, o9, none, none, none, none]) (em := eC (.int 4)) pn1 (by omega) (by omega) (by omega) rfl rfl
  have hq2 : S2[q]? = some (.lst (σ.map D.int)) := x2.get (by simpa using qp) hq
  have sl : σ.length = 10 := hσ.length_eq
  have k4 : ((1 + d4).toNat : Int) = 1 + d4 := by omega
  have t4 : sAsg (gNm 4) (eB (f1 tupleF) (fCons (eLc (eSeq (eSl (eVar 3) eNoPart (ePart (eOp addF (eC (.int 1)) (eCall 2 d_law_draw (eCons (eVar 1) (eCons (eC (.int 4)) eNil))))))) (gNm 11) tYes' (eTup (eCons (eC (.int 0)) (eCons (eTup (eCons (eTup (eCons (eVar 11) (eCons (eC (.int 1)) eNil))) eNil)) eNil))) [11]) fNil))
      [a0, some (.loc p), o2, some (.loc q), o4, o5, o6, o7, o8, o9, none, none, none, none] S1 = .nx [a0, some (.loc p), o2, some (.loc q), some (.tup ((qOf (σ.take (1 + d4).toNat)).rs.map rowD)), o5, o6, o7, o8, o9, none, none, none, none] S2 := by
    refine asgv (b1_ok (x := .l ((qOf (σ.take (1 + d4).toNat)).rs.map rowD)) ?_ rfl)
    have es := sl_takeR (k := (1 + d4).toNat) (ee := eVar 3) (eh := eOp addF (eC (.int 1)) (eCall 2 d_law_draw (eCons (eVar 1) (eCons (eC (.int 4)) eNil)))) (ρ := [a0, some (.loc p), o2, some (.loc q), o4, o5, o6, o7, o8, o9, none, none, none, none]) (S := S1) (var_ok rfl) (by rw [k4]; exact op_ok c_ok e2 (add_ii 1 d4 S2)) hq2
    rw [← List.map_take] at es
    have := elc_enc (it := ⟨(σ.take (1 + d4).toNat).map D.int, []⟩) (g := gNm 11) (et := tYes') (ee := eTup (eCons (eC (.int 0)) (eCons (eTup (eCons (eTup (eCons (eVar 11) (eCons (eC (.int 1)) eNil))) eNil)) eNil))) (vs := [11]) (seq_l es) (by simp) D.int (fun _ => true) (fun n => rowD (0, [(n, 1)])) (σ.take (1 + d4).toNat) rfl (by rw [List.length_take]; omega) fun z _ => ⟨[a0, some (.loc p), o2, some (.loc q), o4, o5, o6, o7, o8, o9, none, some (.int z), none, none], rfl, rfl, fun _ => tup_ok (cons_ok c_ok (cons_ok (tup_ok (cons_ok (tup_ok (cons_ok (var_ok rfl) (cons_ok c_ok nil_ok)) (by simp)) nil_ok) (by simp)) nil_ok)) (by simp)⟩
    rw [filter_yes] at this
    rw [this]
    show R.ok (F.l _) _ = R.ok (F.l (((σ.take (1 + d4).toNat).map fun n => ((0 : Int), [(n, (1 : Int))])).map rowD)) _
    rw [List.map_map]
    rfl
  -- the plan, how many
  obtain ⟨d7, S3, d70, d71, e3, pn3, x3⟩ := draw_at (m := 7) (ρ := [a0, some (.loc p), o2, some (.loc q), some (.tup ((qOf (σ.take (1 + d4).toNat)).rs.map rowD)), o5, o6, o7, o8, o9, none, none, none, none]) (em := eC (.int 7)) pn2 (by omega) (by omega) (by omega) rfl rfl
  have t8 : sPar 8 9 (eTup (eCons (eVar 4) (eCons (eTup (eCons (eC (.int 0)) eNil)) (eCons (eTup (eCons (eTup (eCons (eC (.str "end")) (eCons (eC (.str "good")) eNil))) eNil)) eNil)))) (eOp addF (eC (.int 2)) (eCall 2 d_law_draw (eCons (eVar 1) (eCons (eC (.int 7)) eNil))))
      [a0, some (.loc p), o2, some (.loc q), some (.tup ((qOf (σ.take (1 + d4).toNat)).rs.map rowD)), o5, o6, o7, o8, o9, none, none, none, none] S2 = .nx [a0, some (.loc p), o2, some (.loc q), some (.tup ((qOf (σ.take (1 + d4).toNat)).rs.map rowD)), o5, o6, o7, some (plD (qOf (σ.take (1 + d4).toNat))), some (.int (2 + d7)), none, none, none, none] S3 :=
    parv (d := plD (qOf (σ.take (1 + d4).toNat))) (d' := .int (2 + d7)) (tup_ok (cons_ok (var_ok rfl) (cons_ok (tup_ok (cons_ok c_ok nil_ok) (by show (1 : Nat) ≤ 10000; omega)) (cons_ok (tup_ok (cons_ok (tup_ok (cons_ok c_ok (cons_ok c_ok nil_ok)) (by show (2 : Nat) ≤ 10000; omega)) nil_ok) (by show (1 : Nat) ≤ 10000; omega)) nil_ok))) (by show (3 : Nat) ≤ 10000; omega)) (op_ok c_ok e3 (add_ii 2 d7 S3))
  -- the chain
  obtain ⟨τ, q2, S4, e4, hq4, hτ, pn4, x4, qp4⟩ := shuf10 (ρ := [a0, some (.loc p), o2, some (.loc q), some (.tup ((qOf (σ.take (1 + d4).toNat)).rs.map rowD)), o5, o6, o7, some (plD (qOf (σ.take (1 + d4).toNat))), some (.int (2 + d7)), none, none, none, none]) pn3 (by omega) rfl
  have hq5 : S4[q]? = some (.lst (σ.map D.int)) := x4.get (by simpa using qp) (x3.get (by simpa using qp) hq2)
  obtain ⟨cn, c0, cl, cat⟩ := pick_chain hσ hτ (2 + d7).toNat
  obtain ⟨c, hcdef⟩ : ∃ c, c = (τ.take (2 + d7).toNat).map fun i => σ.getD i.toNat 0 := ⟨_, rfl⟩
  rw [← hcdef] at cn c0 cl
  have clen : c.length = (2 + d7).toNat := by rw [cl]; omega
  have k9 : ((2 + d7).toNat : Int) = 2 + d7 := by omega
  have t5 : sAsg (gNm 5) (eLc (eSeq (eSl (eCall 2 d_law_shuffled (eCons (eVar 1) (eCons (eLr1 (eC (.int 10))) eNil))) eNoPart (ePart (eVar 9)))) (gNm 10) tYes' (eSub (eVar 3) (eVar 10)) [10])
      [a0, some (.loc p), o2, some (.loc q), some (.tup ((qOf (σ.take (1 + d4).toNat)).rs.map rowD)), o5, o6, o7, some (plD (qOf (σ.take (1 + d4).toNat))), some (.int (2 + d7)), none, none, none, none] S3 =
      .nx [a0, some (.loc p), o2, some (.loc q), some (.tup ((qOf (σ.take (1 + d4).toNat)).rs.map rowD)), some (.loc S4.length), o6, o7, some (plD (qOf (σ.take (1 + d4).toNat))), some (.int (2 + d7)), none, none, none, none] (S4 ++ [O.lst (c.map D.int)]) := by
    have es := sl_takeR (k := (2 + d7).toNat) (eh := eVar 9) e4 (by rw [k9]; exact var_ok rfl) hq4
    rw [← List.map_take] at es
    have := elc_enc (it := ⟨(τ.take (2 + d7).toNat).map D.int, []⟩) (g := gNm 10) (et := tYes') (ee := eSub (eVar 3) (eVar 10)) (vs := [10]) (seq_l es) (by simp) D.int (fun _ => true) (fun i => D.int (σ.getD i.toNat 0)) (τ.take (2 + d7).toNat) rfl (by rw [List.length_take]; omega) fun z hz => ⟨[a0, some (.loc p), o2, some (.loc q), some (.tup ((qOf (σ.take (1 + d4).toNat)).rs.map rowD)), o5, o6, o7, some (plD (qOf (σ.take (1 + d4).toNat))), some (.int (2 + d7)), some (.int z), none, none, none], rfl, rfl, fun _ => sub_ok (var_ok rfl) (var_ok rfl) (ix_loc hq5 (cat z hz))⟩
    rw [filter_yes] at this
    have e : c.map D.int = (τ.take (2 + d7).toNat).map fun i => D.int (σ.getD i.toNat 0) := by rw [hcdef, List.map_map]; rfl
    rw [e]
    exact asg_ok this
  have pn5 : Pn p (S4 ++ [O.lst (c.map D.int)]) (n + 10 + 1 + 1 + 10) := pn4.ext (ex := []) Ext.app nofun
  have hc5 : (S4 ++ [O.lst (c.map D.int)])[S4.length]? = some (.lst (c.map D.int)) := List.getElem?_concat_length
  have cp : S4.length ≠ p := by have := pn4.lt; omega
  -- right along the chain
  obtain ⟨dk, S6, dk0, dk1, e6, pn6, x6⟩ := draw_at (m := 2 + d7) (ρ := [a0, some (.loc p), o2, some (.loc q), some (.tup ((qOf (σ.take (1 + d4).toNat)).rs.map rowD)), some (.loc S4.length), o6, o7, some (plD (qOf (σ.take (1 + d4).toNat))), some (.int (2 + d7)), none, none, none, none]) (em := eVar 9) pn5 (by omega) (by omega) (by omega) rfl (var_ok rfl)
  have hc6 : S6[S4.length]? = some (.lst (c.map D.int)) := x6.get (by simpa using cp) hc5
  have nsn : (σ.take (1 + d4).toNat).Nodup := (hσ.nodup_iff.mpr (by decide)).sublist (List.take_sublist _ _)
  have nsl : (σ.take (1 + d4).toNat).length ≤ 8 := by rw [List.length_take]; omega
  have t9 : ∀ i ∈ ten, (0 : Int) ≤ i := by decide
  have ns0 : ∀ x ∈ σ.take (1 + d4).toNat, 0 ≤ x := fun x hx => t9 x (hσ.mem_iff.mp (List.mem_of_mem_take hx))
  obtain ⟨S7, e7, x7⟩ := chain_right_ok (k := dk.toNat) nsn nsl ns0 cn (by omega) c0 hc6
  rw [show ((dk.toNat : Nat) : Int) = dk by omega] at e7
  have hc7 := x7.get (by simp) hc6
  have pn7 := pn6.ext x7 nofun
  -- the ring
  obtain ⟨R, sR, pR, _⟩ := sortA_l (Z := ring c) (S := S7) (by unfold ring; rw [List.length_zip]; omega) fun z hz => ⟨c0 _ (ring_mem hz).1, c0 _ (ring_mem hz).2⟩
  have rl : R.length ≤ 10 := by rw [pR.length_eq]; unfold ring; rw [List.length_zip]; omega
  have t6 : sAsg (gNm 6) (eB (f1 tupleF) (fCons (eB (f1 sortA) (fCons (eLc (eZip (fCons (eVar 5) (fCons (eOp addF (eSl (eVar 5) (ePart (eC (.int 1))) eNoPart) (eSl (eVar 5) eNoPart (ePart (eC (.int 1))))) fNil))) (gTpN 2 (gsCons (gNm 12) (gsCons (gNm 13) gsNil))) tYes' (eTup (eCons (eVar 12) (eCons (eVar 13) eNil))) [12, 13]) fNil)) fNil))
      [a0, some (.loc p), o2, some (.loc q), some (.tup ((qOf (σ.take (1 + d4).toNat)).rs.map rowD)), some (.loc S4.length), o6, o7, some (plD (qOf (σ.take (1 + d4).toNat))), some (.int (2 + d7)), none, none, none, none] S7 =
      .nx [a0, some (.loc p), o2, some (.loc q), some (.tup ((qOf (σ.take (1 + d4).toNat)).rs.map rowD)), some (.loc S4.length), some (pairsD R), o7, some (plD (qOf (σ.take (1 + d4).toNat))), some (.int (2 + d7)), none, none, none, none] S7 := by
    refine asgv (d := pairsD R) (b1_ok (b1_ok (x := .l ((ring c).map prD)) ?_ sR) rfl)
    have ez := zip_ll (ρ := [a0, some (.loc p), o2, some (.loc q), some (.tup ((qOf (σ.take (1 + d4).toNat)).rs.map rowD)), some (.loc S4.length), o6, o7, some (plD (qOf (σ.take (1 + d4).toNat))), some (.int (2 + d7)), none, none, none, none]) (ea := eVar 5) (eb := eOp addF (eSl (eVar 5) (ePart (eC (.int 1))) eNoPart) (eSl (eVar 5) eNoPart (ePart (eC (.int 1))))) (ys := (c.map D.int).drop 1 ++ (c.map D.int).take 1) (var_ok rfl) (op_ok (sl_drop rfl hc7) (sl_takeR (k := 1) (var_ok rfl) c_ok hc7) (add_ll _ _ _ (by rw [List.length_drop, List.length_take, List.length_map]; omega))) hc7
    have := elc_enc (it := ⟨zipD (c.map D.int) ((c.map D.int).drop 1 ++ (c.map D.int).take 1), [(S4.length, .lst (c.map D.int))]⟩) (g := gTpN 2 (gsCons (gNm 12) (gsCons (gNm 13) gsNil))) (et := tYes') (ee := eTup (eCons (eVar 12) (eCons (eVar 13) eNil))) (vs := [12, 13]) ez (depx hc7) prD (fun _ => true) prD (ring c) (by
      show zipD _ _ = _
      rw [← List.map_drop, ← List.map_take, ← List.map_append, zipD_gen]; rfl) (by unfold ring; rw [List.length_zip]; omega) fun z _ => ⟨[a0, some (.loc p), o2, some (.loc q), some (.tup ((qOf (σ.take (1 + d4).toNat)).rs.map rowD)), some (.loc S4.length), o6, o7, some (plD (qOf (σ.take (1 + d4).toNat))), some (.int (2 + d7)), none, none, some (.int z.1), some (.int z.2)], rfl, rfl, fun _ => tup_ok (cons_ok (var_ok rfl) (cons_ok (var_ok rfl) nil_ok)) (by simp)⟩
    rw [filter_yes] at this
    exact this
  -- no regime
  have cne : c ≠ [] := fun e => by rw [e] at clen; simp at clen; omega
  have rnd : ∀ (W Dr : List (Int × Int)), (∀ z, z ∈ W ++ Dr ↔ z ∈ R) → ∀ z, z ∈ stepsP (qOf (σ.take (1 + d4).toNat)) W Dr ↔ z ∈ ring c := fun W Dr hz z => by
    unfold stepsP
    rw [neigh_qOf, List.append_nil, hz, pR.mem_iff]
  have notR : ∀ (W Dr : List (Int × Int)) (S : Sto), (∀ z, z ∈ W ++ Dr ↔ z ∈ R) → W.length ≤ 100 → Dr.length ≤ 100 → ∃ S' : Sto, d_is_regime [plD (qOf (σ.take (1 + d4).toNat)), pairsD W, pairsD Dr] S = .ok (.v (.bl false)) S' ∧ Ext [] S S' := fun W Dr S hz hW hD => by
    obtain ⟨S', b, e, hb, x⟩ := is_regime_ok (small_qOf nsn nsl) hW hD (S := S)
    have hf : b = false := by
      cases b with
      | false => rfl
      | true =>
        obtain ⟨y, hy⟩ := List.exists_mem_of_ne_nil c cne
        exact absurd (ring_rch (rnd W Dr hz) hy) (hb.mp rfl y)
    subst hf
    exact ⟨S', by rw [e_isreg]; exact e, x⟩
  obtain ⟨S8, e8, x8⟩ := notR R [] S7 (by simp) (by omega) (by simp)
  obtain ⟨S9, e9, x9⟩ := notR [] R S8 (by simp) (by simp) (by omega)
  obtain ⟨S10, e10, x10⟩ := notR (R.take 1) (R.drop 1) S9 (fun z => by rw [List.take_append_drop]) (by rw [List.length_take]; omega) (by rw [List.length_drop]; omega)
  have hc10 := x10.get (by simp) (x9.get (by simp) (x8.get (by simp) hc7))
  -- the least name of the round
  obtain ⟨m, em, hm, hle⟩ := minD_in cne hc10
  obtain ⟨S11, e11, x11⟩ := (regime_ok (small_qOf nsn nsl) (by rw [nms_qOf]; exact nsl) (by rw [nms_qOf]; exact ns0) (W := R.drop 1) (Dr := R.take 1) (by rw [List.length_drop]; omega) (by rw [List.length_take]; omega) (S := S10)).2 m
    (ring_rch (rnd _ _ fun z => by rw [List.mem_append, Or.comm, ← List.mem_append, List.take_append_drop]) hm)
    (fun y hy => hle y (ring_in (rnd _ _ fun z => by rw [List.mem_append, Or.comm, ← List.mem_append, List.take_append_drop]) hy))
  have hc11 := x11.get (by simp) hc10
  obtain ⟨m', em', hm', hle'⟩ := minD_in cne hc11
  have emm : m' = m := Int.le_antisymm (hle' m hm) (hle m' hm')
  rw [emm] at em'
  have t8b : sTry1 (sSeq (sDrop (eCall 3 d_regime_of (eCons (eVar 8) (eCons (eSl (eVar 6) (ePart (eC (.int 1))) eNoPart) (eCons (eSl (eVar 6) eNoPart (ePart (eC (.int 1)))) eNil))))) (sRet (eC (.bl false)))) "Tangled" [] 7 su_law_0
      [a0, some (.loc p), o2, some (.loc q), some (.tup ((qOf (σ.take (1 + d4).toNat)).rs.map rowD)), some (.loc S4.length), some (pairsD R), o7, some (plD (qOf (σ.take (1 + d4).toNat))), some (.int (2 + d7)), none, none, none, none] S10 =
      .nx [a0, some (.loc p), o2, some (.loc q), some (.tup ((qOf (σ.take (1 + d4).toNat)).rs.map rowD)), some (.loc S4.length), some (pairsD R), none, some (plD (qOf (σ.take (1 + d4).toNat))), some (.int (2 + d7)), none, none, none, none] S11 := by
    unfold sTry1
    have ed : sDrop (eCall 3 d_regime_of (eCons (eVar 8) (eCons (eSl (eVar 6) (ePart (eC (.int 1))) eNoPart) (eCons (eSl (eVar 6) eNoPart (ePart (eC (.int 1)))) eNil)))) [a0, some (.loc p), o2, some (.loc q), some (.tup ((qOf (σ.take (1 + d4).toNat)).rs.map rowD)), some (.loc S4.length), some (pairsD R), o7, some (plD (qOf (σ.take (1 + d4).toNat))), some (.int (2 + d7)), none, none, none, none] S10 = .err ⟨"Tangled", [("name", .int m)]⟩ [a0, some (.loc p), o2, some (.loc q), some (.tup ((qOf (σ.take (1 + d4).toNat)).rs.map rowD)), some (.loc S4.length), some (pairsD R), o7, some (plD (qOf (σ.take (1 + d4).toNat))), some (.int (2 + d7)), none, none, none, none] S11 := by
      unfold sDrop DL.onE
      rw [e_regime, call3_err (var_ok rfl) (sl_td rfl) (sl_tt rfl) e11]
    rw [seq_err ed]
    show catch1 _ _ _ _ _ _ _ = _
    unfold catch1
    rw [if_pos rfl, if_neg (by simp)]
    have e : su_law_0 0 0 [a0, some (.loc p), o2, some (.loc q), some (.tup ((qOf (σ.take (1 + d4).toNat)).rs.map rowD)), some (.loc S4.length), some (pairsD R), some (.exc 0 0 ["name"] [.int m]), some (plD (qOf (σ.take (1 + d4).toNat))), some (.int (2 + d7)), none, none, none, none] S11 = .nx [a0, some (.loc p), o2, some (.loc q), some (.tup ((qOf (σ.take (1 + d4).toNat)).rs.map rowD)), some (.loc S4.length), some (pairsD R), some (.exc 0 0 ["name"] [.int m]), some (plD (qOf (σ.take (1 + d4).toNat))), some (.int (2 + d7)), none, none, none, none] S11 := by
      unfold su_law_0
      refine if_no (tofb_ok (op_ok (x := .v (.int m)) (y := .v (.int m)) ?_ (b1_ok (var_ok rfl) em') (by rw [ne_ii]; simp)))
      unfold eXf
      rw [var_ok (d := .exc 0 0 ["name"] [.int m]) rfl]
      have : exF 0 0 "name" (.v (.exc 0 0 ["name"] [.int m])) = some (.int m) := by
        show (if (0 : Nat) = 0 ∧ (0 : Nat) = 0 then ([Str.ofString "name"].zip [D.int m]).lookup (Str.ofString "name") else none) = _
        rw [if_pos ⟨rfl, rfl⟩]
        simp
      rw [DL.R.bind_ok, this]
    show unset 7 (su_law_0 0 0 [a0, some (.loc p), o2, some (.loc q), some (.tup ((qOf (σ.take (1 + d4).toNat)).rs.map rowD)), some (.loc S4.length), some (pairsD R), some (.exc 0 0 ["name"] [.int m]), some (plD (qOf (σ.take (1 + d4).toNat))), some (.int (2 + d7)), none, none, none, none] S11) = _
    rw [e]; rfl
  refine ⟨some (.loc q), some (.tup ((qOf (σ.take (1 + d4).toNat)).rs.map rowD)), some (.loc S4.length), some (pairsD R), none, some (plD (qOf (σ.take (1 + d4).toNat))), some (.int (2 + d7)), S11, ?_, ?_⟩
  · refine (seq_nx (asgv e1)).trans ((seq_nx t4).trans ((seq_nx t8).trans ((seq_nx t5).trans ?_)))
    refine (seq_nx (if_no (not_ok (b := true) (tru_bl (call3_ok (var_ok rfl) (var_ok rfl) e6 e7))))).trans ((seq_nx t6).trans ?_)
    refine (seq_nx (if_no (or_no (tru_bl (call3_ok (d3 := pairsD []) (var_ok rfl) (var_ok rfl) (tup_ok nil_ok (by simp)) e8)) (or_no (tru_bl (call3_ok (d2 := pairsD []) (var_ok rfl) (tup_ok nil_ok (by simp)) (var_ok rfl) e9)) (tru_bl (call3_ok (var_ok rfl) (sl_tt rfl) (sl_td rfl) e10)))))).trans ?_
    exact t8b
  · refine ((((pn7.ext x8 nofun).ext x9 nofun).ext x10 nofun).ext x11 nofun).mono (by omega)
theorem math_law (ns : List Int) (hl : ns.length ≤ 63) (hb : ∀ z ∈ ns, Builtin.Int.intBits z ≤ 1048576) : ∃ S', d_law [.kl (ns.map .int)] [] = .ok (.v (.bl true)) S' := by
  obtain ⟨ds, S1, e1, pn, _⟩ := pen_ok (S := []) hl hb
  obtain ⟨ρ', S', e2, h2⟩ := for_all (it := ⟨rngD 0 4, []⟩) (g := gNm 2) (se := tB) (fun _ => by simp) (fun i ρ S => (∃ o2 o3 o4 o5 o6 o7 o8 o9 : Option D, ρ = [some (.kl (ns.map .int)), some (.loc S1.length), o2, o3, o4, o5, o6, o7, o8, o9, none, none, none, none]) ∧ Pn S1.length S (30 * (i : Int)) ∧ i ≤ 100) (rngD 0 4) 0 [some (.kl (ns.map .int)), some (.loc S1.length), none, none, none, none, none, none, none, none, none, none, none, none] (S1 ++ [.lst ds]) ⟨⟨none, none, none, none, none, none, none, none, rfl⟩, by simpa using pn, by omega⟩ (by
    rintro i d hd ρ S ⟨⟨o2, o3, o4, o5, o6, o7, o8, o9, rfl⟩, hp, hi⟩
    have il := (List.getElem?_eq_some_iff.mp hd).1
    have il : i < 4 := il
    obtain ⟨p3, p4, p5, p6, p7, p8, p9, S2, e, hp2⟩ := turn hp (by omega) (some (.kl (ns.map .int))) (some d) o3 o4 o5 o6 o7 o8 o9 none none none none rfl rfl rfl rfl
    exact ⟨_, _, S2, rfl, e, ⟨some d, p3, p4, p5, p6, p7, p8, p9, rfl⟩, hp2.mono (by push_cast; omega), by omega⟩)
  obtain ⟨⟨o2, o3, o4, o5, o6, o7, o8, o9, rfl⟩, _, _⟩ := h2
  refine ⟨S', runF_rt ?_⟩
  show b_law [some (.kl (ns.map .int)), none, none, none, none, none, none, none, none, none, none, none, none, none] [] = _
  unfold b_law
  refine (seq_nx (asg_ok (call1_ok (var_ok rfl) (by rw [e_pen]; exact e1)))).trans ?_
  refine (seq_nx ((for_ok (show eRng1 _ _ _ = .ok ⟨rngD 0 4, []⟩ _ from rfl)).trans e2)).trans ?_
  exact ret_ok c_ok
end LK

open PySem PySem.W PyProof.Rows
set_option maxHeartbeats 0 in
theorem PySem.Challenge.cw_leavefirst_k12_names_that_plans_lack_holds : PySem.Challenge.rw_leavefirst_k12_names_that_plans_lack.Holds := by
  w_on; o_law; k_head; (case hw => w_witness2)
  k_fill
  refine DL.walkG (l := PySem.Challenge.rw_leavefirst_k12_names_that_plans_lack) (n := 63) (k := 8) (x := "_law_script") (df := LK.d_law) rfl (by decide) rfl ⟨rfl, by decide, by decide⟩ (fun w h Y => PySem.W.kIn_of Y) ?FF ?MM
  case MM => exact LK.math_law
  case FF =>
    intro w mg h KX G base _ _
    refine' LK.all_law KX G ?a_0 ?l_0 ?c_0 ?k_0 ?a_1 ?l_1 ?c_1 ?k_1 ?a_2 ?l_2 ?c_2 ?k_2 ?a_3 ?l_3 ?c_3 ?k_3 ?a_4 ?l_4 ?c_4 ?k_4 ?a_5 ?l_5 ?c_5 ?k_5 ?a_6 ?l_6 ?c_6 ?k_6 ?a_7 ?l_7 ?c_7 ?k_7 ?a_8 ?l_8 ?c_8 ?k_8 ?a_9 ?l_9 ?c_9 ?k_9 ?a_10 ?l_10 ?c_10 ?k_10 ?a_11 ?l_11 ?c_11 ?k_11 ?a_12 ?l_12 ?c_12 ?k_12 ?a_13 ?l_13 ?c_13 ?k_13 ?a_14 ?l_14 ?c_14 ?k_14 ?a_15 ?l_15 ?c_15 ?k_15 ?a_16 ?l_16 ?c_16 ?k_16 ?a_17 ?l_17 ?c_17 ?k_17 ?a_18 ?l_18 ?c_18 ?k_18 ?a_19 ?l_19 ?c_19 ?k_19 ?z_enumerate ?z_sorted ?z_tuple ?z_zip ?z_list ?z_min ?z_int ?z_len ?z_range ?z_dict ?aC_Tangled ?xL_Tangled ?sa_Tangled ?ga_Tangled ?gg_Tangled ?nf_Tangled ?ai_Tangled ?ti_Tangled ?li_Tangled ?ci_Tangled ?kC_Tangled ?eC_Tangled ?tC_Tangled ?hC_Tangled ?iC_Tangled ?sC_Tangled base
    (case a_0 => k_is)
    (case l_0 => k_is)
    (case c_0 => k_is)
    (case k_0 => k_is)
    (case a_1 => k_is)
    (case l_1 => k_is)
    (case c_1 => k_is)
    (case k_1 => k_is)
    (case a_2 => k_is)
    (case l_2 => k_is)
    (case c_2 => k_is)
    (case k_2 => k_is)
    (case a_3 => k_is)
    (case l_3 => k_is)
    (case c_3 => k_is)
    (case k_3 => k_is)
    (case a_4 => k_is)
    (case l_4 => k_is)
    (case c_4 => k_is)
    (case k_4 => k_is)
    (case a_5 => k_is)
    (case l_5 => k_is)
    (case c_5 => k_is)
    (case k_5 => k_is)
    (case a_6 => k_is)
    (case l_6 => k_is)
    (case c_6 => k_is)
    (case k_6 => k_is)
    (case a_7 => k_is)
    (case l_7 => k_is)
    (case c_7 => k_is)
    (case k_7 => k_is)
    (case a_8 => k_is)
    (case l_8 => k_is)
    (case c_8 => k_is)
    (case k_8 => k_is)
    (case a_9 => k_is)
    (case l_9 => k_is)
    (case c_9 => k_is)
    (case k_9 => k_is)
    (case a_10 => k_is)
    (case l_10 => k_is)
    (case c_10 => k_is)
    (case k_10 => k_is)
    (case a_11 => k_is)
    (case l_11 => k_is)
    (case c_11 => k_is)
    (case k_11 => k_is)
    (case a_12 => k_is)
    (case l_12 => k_is)
    (case c_12 => k_is)
    (case k_12 => k_is)
    (case a_13 => k_is)
    (case l_13 => k_is)
    (case c_13 => k_is)
    (case k_13 => k_is)
    (case a_14 => k_is)
    (case l_14 => k_is)
    (case c_14 => k_is)
    (case k_14 => k_is)
    (case a_15 => k_is)
    (case l_15 => k_is)
    (case c_15 => k_is)
    (case k_15 => k_is)
    (case a_16 => k_is)
    (case l_16 => k_is)
    (case c_16 => k_is)
    (case k_16 => k_is)
    (case a_17 => k_is)
    (case l_17 => k_is)
    (case c_17 => k_is)
    (case k_17 => k_is)
    (case a_18 => k_is)
    (case l_18 => k_is)
    (case c_18 => k_is)
    (case k_18 => k_is)
    (case a_19 => k_is)
    (case l_19 => k_is)
    (case c_19 => k_is)
    (case k_19 => k_is)
    (case z_enumerate => k_is)
    (case z_sorted => k_is)
    (case z_tuple => k_is)
    (case z_zip => k_is)
    (case z_list => k_is)
    (case z_min => k_is)
    (case z_int => k_is)
    (case z_len => k_is)
    (case z_range => k_is)
    (case z_dict => k_is)
    (case aC_Tangled => k_is)
    (case xL_Tangled => k_is)
    (case sa_Tangled => k_is)
    (case ga_Tangled => k_is)
    (case gg_Tangled => k_is)
    (case nf_Tangled => k_is)
    (case ai_Tangled => k_is)
    (case ti_Tangled => k_is)
    (case li_Tangled => k_is)
    (case ci_Tangled => k_is)
    (case kC_Tangled => k_is)
    (case eC_Tangled => k_is)
    (case tC_Tangled => k_is)
    (case hC_Tangled => k_is)
    (case iC_Tangled => k_is)
    (case sC_Tangled => k_is)
