import PyProof.Rows.All
import Wide.All
import OpenK.AllK
import Wide.FinOn
import HandS.ForMost
import HandS.Exc
import HandS.IsInst
import HandS.WordsExc
import HandS.ExcInit
import HandS.ExcValue
import HandS.TupAny
import HandS.TupMul
import HandS.Wide
import HandS.Gcd
import HandS.Flow
import HandS.Style
import HandS.Comp
import HandS.Iter
import HandS.RevRange
import KE.KMathGC
import PyProof.Rows.ReprR
import HandS.ExcField
import HandS.ExcIs
import KE.KExcInit
import HandS.Zip
import HandS.Star
import HandS.Ends
import HandS.More
import HandS.Words
import HandS.Defaults
import HandS.Head0
import HandS.Head1
import HandS.Head2
import HandS.HeadEnd
import HandS.HeadHook1
import HandS.HeadHook2
import KE.GoesMore
import PyProof.EnumMake
import PyProof.Draws
import HandS.TryOnly
import PyProof.CollectIter
import HandS.List
import HandS.Head3
import PyProof.ReprLen
import PyProof.Rows.ReprOcc
import PySem.Challenge.RW_madeofhere_k04_whole_counts
set_option Elab.async false
set_option linter.all false
set_option maxRecDepth 100000
set_option maxHeartbeats 1000000
namespace DL
open PySem PySem.Spec PyProof.Rows L2

/-! ### data -/
/-- a value as data: what is immutable (or never changed any more) is told whole; what is owned (still changed) is a reference -/
inductive D where
  | non | bl (b : Bool) | int (i : Int) | str (x : Str) | ref (a : Addr) | ty (n : String)
  | tup (ds : List D) | lst (ds : List D) | fzn (ds : List D) | dct (ks : List Key) (ds : List D) | exn (C : Addr) (ns : List Str) (ds : List D)
  deriving Inhabited

/-- what stands at an owned address -/
inductive MO where
  | lst (ds : List D) | dct (ks : List Key) (ds : List D) | ins (C : Addr) (ns : List Str) (ds : List D)
abbrev Mem := Addr → Option MO
abbrev Fg := PySem.W.Frag

/-- a list of the written part -/
def KL (K : Fg) (a : Addr) (xs : List V) : Prop := ∃ (o : Obj) (its : Array Value) (n : Nat), K.lookup a = some o ∧ o.cls = .type "list" ∧ o.dict = none ∧ o.data = .seq its n ∧ its.size ≤ sizeLine ∧ Vals xs its.toList
def KT (K : Fg) (a : Addr) (xs : List V) : Prop := ∃ (o : Obj) (its : Array Value) (n : Nat), K.lookup a = some o ∧ o.cls = .type "tuple" ∧ o.data = .seq its n ∧ its.size ≤ sizeLine ∧ Vals xs its.toList
/-- read, and not owned -/
def RL (K : Fg) (H : Hp) (M : Mem) (a : Addr) (xs : List V) : Prop := (L2.Rd H a (.lst xs) ∧ M a = none) ∨ KL K a xs
def RT (K : Fg) (H : Hp) (M : Mem) (a : Addr) (xs : List V) : Prop := (L2.Rd H a (.tup xs) ∧ M a = none) ∨ KT K a xs
theorem RL.sq {K : Fg} {H : Hp} {M : Mem} {a : Addr} {xs : List V} (h : RL K H M a xs) : SqL K H a xs := h.elim (fun h => .inl h.1) .inr
theorem RT.sq {K : Fg} {H : Hp} {M : Mem} {a : Addr} {xs : List V} (h : RT K H M a xs) : SqT K H a xs := h.elim (fun h => .inl h.1) .inr

mutual
/-- the value v reads as the data d -/
def Rv (K : Fg) (H : Hp) (M : Mem) : D → V → Prop
  | .non, v => v = .non
  | .bl b, v => v = .bl b
  | .int i, v => v = .int i
  | .str x, v => v = .str x
  | .ref a, v => v = .ref a
  | .ty n, v => v = .ty n
  | .tup ds, v => ∃ a xs, v = .ref a ∧ RT K H M a xs ∧ Rs K H M ds xs
  | .lst ds, v => ∃ a xs, v = .ref a ∧ H a = some (.lst xs) ∧ M a = none ∧ Rs K H M ds xs
  | .fzn ds, v => ∃ a xs, v = .ref a ∧ RL K H M a xs ∧ Rs K H M ds xs
  | .dct ks ds, v => ∃ a kvs xs, v = .ref a ∧ H a = some (.dK kvs) ∧ M a = none ∧ kvs = ks.zip xs ∧ ks.length = ds.length ∧ Rs K H M ds xs
  | .exn C ns ds, v => (∃ a dx xs, v = .ref a ∧ H a = some (exo a C (some dx)) ∧ M a = none ∧ H dx = some (exd dx (ns.zip xs)) ∧ M dx = none ∧ ns.length = ds.length ∧ Rs K H M ds xs) ∨ (ns = [] ∧ ds = [] ∧ ∃ a, v = .ref a ∧ H a = some (ExO (.ref C) a) ∧ M a = none)
def Rs (K : Fg) (H : Hp) (M : Mem) : List D → List V → Prop
  | [], vs => vs = []
  | d :: ds, vs => ∃ v r, vs = v :: r ∧ Rv K H M d v ∧ Rs K H M ds r
end

/-- what is owned stands so -/
def MObj (K : Fg) (H : Hp) (M : Mem) (a : Addr) : MO → Prop
  | .lst ds => ∃ xs, H a = some (.lst xs) ∧ Rs K H M ds xs
  | .dct ks ds => ∃ xs, H a = some (.dK (ks.zip xs)) ∧ ks.length = ds.length ∧ Rs K H M ds xs
  | .ins C ns ds => ∃ dx xs, H a = some (.ins C dx (ns.zip xs)) ∧ ns.length = ds.length ∧ H dx = some (.own a) ∧ M dx = none ∧ Rs K H M ds xs
def MOk (K : Fg) (H : Hp) (M : Mem) : Prop := ∀ a o, M a = some o → MObj K H M a o

/-- what was tracked and not owned stands as it was, not owned -/
def Gw (H : Hp) (M : Mem) (H' : Hp) (M' : Mem) : Prop := ∀ a o, H a = some o → M a = none → H' a = some o ∧ M' a = none
theorem Gw.refl {H : Hp} {M : Mem} : Gw H M H M := fun _ _ h m => ⟨h, m⟩
theorem Gw.trans {H H1 H2 : Hp} {M M1 M2 : Mem} (a : Gw H M H1 M1) (b : Gw H1 M1 H2 M2) : Gw H M H2 M2 := fun x o h m => b x o (a x o h m).1 (a x o h m).2

section
variable {K : Fg} {H H' : Hp} {M M' : Mem}
theorem Gw.rd {a : Addr} {u : HO} (g : Gw H M H' M') (h : L2.Rd H a u) (m : M a = none) : L2.Rd H' a u ∧ M' a = none := by
  rcases h with h | ⟨o, h⟩
  · exact ⟨.inl (g _ _ h m).1, (g _ _ h m).2⟩
  · exact ⟨.inr ⟨o, (g _ _ h m).1⟩, (g _ _ h m).2⟩
theorem Gw.rl {a : Addr} {xs : List V} (g : Gw H M H' M') (h : RL K H M a xs) : RL K H' M' a xs := by
  rcases h with ⟨h, m⟩ | h
  · exact .inl (g.rd h m)
  · exact .inr h
theorem Gw.rt {a : Addr} {xs : List V} (g : Gw H M H' M') (h : RT K H M a xs) : RT K H' M' a xs := by
  rcases h with ⟨h, m⟩ | h
  · exact .inl (g.rd h m)
  · exact .inr h
mutual
theorem Rv.grow (g : Gw H M H' M') : ∀ (d : D) (v : V), Rv K H M d v → Rv K H' M' d v
  | .non, v, h => h
  | .bl b, v, h => h
  | .int i, v, h => h
  | .str x, v, h => h
  | .ref a, v, h => h
  | .ty n, v, h => h
  | .tup ds, v, ⟨a, xs, e, r, q⟩ => ⟨a, xs, e, g.rt r, Rs.grow g ds xs q⟩
  | .lst ds, v, ⟨a, xs, e, r, m, q⟩ => ⟨a, xs, e, (g _ _ r m).1, (g _ _ r m).2, Rs.grow g ds xs q⟩
  | .fzn ds, v, ⟨a, xs, e, r, q⟩ => ⟨a, xs, e, g.rl r, Rs.grow g ds xs q⟩
  | .dct ks ds, v, ⟨a, kvs, xs, e, r, m, z, l, q⟩ => ⟨a, kvs, xs, e, (g _ _ r m).1, (g _ _ r m).2, z, l, Rs.grow g ds xs q⟩
  | .exn C ns ds, v, .inl ⟨a, dx, xs, e, r, m, r2, m2, l, q⟩ => .inl ⟨a, dx, xs, e, (g _ _ r m).1, (g _ _ r m).2, (g _ _ r2 m2).1, (g _ _ r2 m2).2, l, Rs.grow g ds xs q⟩
  | .exn C ns ds, v, .inr ⟨e1, e2, a, e, r, m⟩ => .inr ⟨e1, e2, a, e, (g _ _ r m).1, (g _ _ r m).2⟩
theorem Rs.grow (g : Gw H M H' M') : ∀ (ds : List D) (vs : List V), Rs K H M ds vs → Rs K H' M' ds vs
  | [], vs, h => h
  | d :: ds, vs, ⟨v, r, e, h, q⟩ => ⟨v, r, e, Rv.grow g d v h, Rs.grow g ds r q⟩
end
theorem Rs.len : ∀ {ds : List D} {vs : List V}, Rs K H M ds vs → ds.length = vs.length
  | [], vs, h => by
    have e : vs = [] := h
    rw [e]; rfl
  | d :: ds, vs, ⟨v, r, e, h, q⟩ => by
    rw [e, List.length_cons, List.length_cons, Rs.len q]
theorem Rs.get : ∀ {ds : List D} {vs : List V} {i : Nat} {d : D}, Rs K H M ds vs → ds[i]? = some d → ∃ v, vs[i]? = some v ∧ Rv K H M d v
  | [], _, _, _, _, e => by simp at e
  | d :: ds, _, 0, _, ⟨v, r, rfl, h, q⟩, e => by
    simp at e; subst e; exact ⟨v, rfl, h⟩
  | d :: ds, _, i + 1, _, ⟨v, r, rfl, h, q⟩, e => by
    obtain ⟨w, e1, e2⟩ := Rs.get (i := i) q (by simpa using e)
    exact ⟨w, by simpa using e1, e2⟩
theorem Rs.nil : Rs K H M [] [] := rfl
theorem Rs.cons {d : D} {v : V} {ds : List D} {vs : List V} (h : Rv K H M d v) (q : Rs K H M ds vs) : Rs K H M (d :: ds) (v :: vs) := ⟨v, vs, rfl, h, q⟩
theorem Rs.append : ∀ {ds es : List D} {vs ws : List V}, Rs K H M ds vs → Rs K H M es ws → Rs K H M (ds ++ es) (vs ++ ws)
  | [], _, vs, _, h, q => by
    have e : vs = [] := h
    subst e
    exact q
  | d :: ds, _, _, _, ⟨v, r, rfl, h, q⟩, z => Rs.cons h (Rs.append q z)
theorem Rs.drop : ∀ {ds : List D} {vs : List V} (n : Nat), Rs K H M ds vs → Rs K H M (ds.drop n) (vs.drop n)
  | _, _, 0, h => h
  | [], vs, n + 1, h => by
    have e : vs = [] := h
    subst e; rfl
  | d :: ds, _, n + 1, ⟨v, r, rfl, h, q⟩ => Rs.drop n q
theorem Rs.take : ∀ {ds : List D} {vs : List V} (n : Nat), Rs K H M ds vs → Rs K H M (ds.take n) (vs.take n)
  | _, _, 0, h => rfl
  | [], vs, n + 1, h => by
    have e : vs = [] := h
    subst e; rfl
  | d :: ds, _, n + 1, ⟨v, r, rfl, h, q⟩ => Rs.cons h (Rs.take n q)
theorem Rs.reverse : ∀ {ds : List D} {vs : List V}, Rs K H M ds vs → Rs K H M ds.reverse vs.reverse
  | [], vs, h => by
    have e : vs = [] := h
    subst e; rfl
  | d :: ds, _, ⟨v, r, rfl, h, q⟩ => by
    rw [List.reverse_cons, List.reverse_cons]
    exact Rs.append (Rs.reverse q) (Rs.cons h Rs.nil)
theorem Rs.set {d : D} {v : V} (h : Rv K H M d v) : ∀ {ds : List D} {vs : List V} (i : Nat), Rs K H M ds vs → Rs K H M (ds.set i d) (vs.set i v)
  | [], vs, _, q => by
    have e : vs = [] := q
    subst e; rfl
  | _ :: _, _, 0, ⟨_, _, rfl, _, q⟩ => Rs.cons h q
  | _ :: _, _, i + 1, ⟨_, _, rfl, h', q⟩ => Rs.cons h' (Rs.set h i q)
end

/-! ### the states -/
abbrev SD := List (Option D)
structure StOk (K : Fg) (σ : L2.St) (H : Hp) (s : SD) (M : Mem) : Prop where
  len : s.length = σ.length
  sl : ∀ (i : Nat) (d : D), s[i]? = some (some d) → ∃ v, σ[i]? = some (some v) ∧ Rv K H M d v
  mem : MOk K H M
theorem StOk.grow {K : Fg} {σ : L2.St} {H H' : Hp} {s : SD} {M M' : Mem} (S : StOk K σ H s M) (g : Gw H M H' M') (m : MOk K H' M') : StOk K σ H' s M' :=
  ⟨S.len, fun i d e => let ⟨v, e1, e2⟩ := S.sl i d e; ⟨v, e1, Rv.grow g d v e2⟩, m⟩
theorem StOk.set {K : Fg} {σ : L2.St} {H : Hp} {s : SD} {M : Mem} {d : D} {v : V} (S : StOk K σ H s M) (i : Nat) (r : Rv K H M d v) : StOk K (σ.set i (some v)) H (s.set i (some d)) M := by
  refine ⟨by rw [List.length_set, List.length_set]; exact S.len, fun j e h => ?_, S.mem⟩
  by_cases hj : j = i
  · subst hj
    by_cases hl : j < s.length
    · rw [List.getElem?_set_self hl] at h
      cases h
      exact ⟨v, List.getElem?_set_self (by rw [← S.len]; exact hl), r⟩
    · rw [List.getElem?_eq_none (by rw [List.length_set]; omega)] at h
      cases h
  · rw [List.getElem?_set_ne (Ne.symm hj)] at h
    obtain ⟨w, e1, e2⟩ := S.sl j e h
    exact ⟨w, by rw [List.getElem?_set_ne (Ne.symm hj)]; exact e1, e2⟩

/-- what is wanted of an exception: its class, its fields -/
abbrev XD := Addr → List Str → List D → Mem → Prop
abbrev QD := D → Mem → Prop
abbrev TED := XD → SD → Mem → QD → Prop
abbrev TTD := XD → SD → Mem → (Bool → Mem → Prop) → Prop
abbrev TAD := XD → SD → Mem → (List D → Mem → Prop) → Prop
structure EndsD where
  nx : SD → Mem → Prop
  rt : QD
  bk : SD → Mem → Prop
  ct : SD → Mem → Prop
  ex : XD
abbrev TSD := EndsD → SD → Mem → Prop

def upE (K : Fg) (H : Hp) (M : Mem) (Q : QD) : VK := fun v H' => ∃ d M', Gw H M H' M' ∧ MOk K H' M' ∧ Rv K H' M' d v ∧ Q d M'
def upT (K : Fg) (H : Hp) (M : Mem) (Q : Bool → Mem → Prop) : Bool → Hp → Prop := fun b H' => ∃ M', Gw H M H' M' ∧ MOk K H' M' ∧ Q b M'
def upA (K : Fg) (H : Hp) (M : Mem) (Q : List D → Mem → Prop) : List V → Hp → Prop := fun vs H' => ∃ ds M', Gw H M H' M' ∧ MOk K H' M' ∧ Rs K H' M' ds vs ∧ Q ds M'
def upS (K : Fg) (H : Hp) (M : Mem) (Q : SD → Mem → Prop) : L2.St → Hp → Prop := fun σ' H' => ∃ s' M', Gw H M H' M' ∧ StOk K σ' H' s' M' ∧ Q s' M'
def upX (K : Fg) (H : Hp) (M : Mem) (Q : XD) : XK := fun c od H' => ∃ C d ns xs ds M', c = .ref C ∧ od = some d ∧ H' d = some (.xd (ns.zip xs)) ∧ M' d = none ∧ ns.length = ds.length ∧ Rs K H' M' ds xs ∧ Gw H M H' M' ∧ MOk K H' M' ∧ Q C ns ds M'

/-- the wish about exceptions of the data stands over that of the heap -/
def XTo (K : Fg) (H : Hp) (M : Mem) (Xd : XD) (E : XK) : Prop := ∀ c od H', upX K H M Xd c od H' → E c od H'
theorem XTo.grow {K : Fg} {H H' : Hp} {M M' : Mem} {Xd : XD} {E : XK} (x : XTo K H M Xd E) (g : Gw H M H' M') : XTo K H' M' Xd E := fun c od H2 ⟨C, d, ns, xs, ds, M2, a1, a2, a3, a4, a5, a6, a7, a8, a9⟩ =>
  x c od H2 ⟨C, d, ns, xs, ds, M2, a1, a2, a3, a4, a5, a6, g.trans a7, a8, a9⟩

def liftE (K : Fg) (E : XK) (t : TED) : TE := fun σ H Q => ∃ s M Qd Xd, StOk K σ H s M ∧ XTo K H M Xd E ∧ t Xd s M Qd ∧ ∀ v H', upE K H M Qd v H' → Q v H'
def liftT (K : Fg) (E : XK) (t : TTD) : TT := fun σ H Q => ∃ s M Qd Xd, StOk K σ H s M ∧ XTo K H M Xd E ∧ t Xd s M Qd ∧ ∀ v H', upT K H M Qd v H' → Q v H'
def liftA (K : Fg) (E : XK) (t : TAD) : TA := fun σ H Q => ∃ s M Qd Xd, StOk K σ H s M ∧ XTo K H M Xd E ∧ t Xd s M Qd ∧ ∀ v H', upA K H M Qd v H' → Q v H'
def liftS (K : Fg) (E : XK) (t : TSD) : TS := fun Z σ H => ∃ s M Y, StOk K σ H s M ∧ XTo K H M Y.ex E ∧ t Y s M ∧ (∀ σ' H', upS K H M Y.nx σ' H' → Z.nx σ' H') ∧ (∀ v H', upE K H M Y.rt v H' → Z.rt v H') ∧
  (∀ σ' H', upS K H M Y.bk σ' H' → Z.bk σ' H') ∧ (∀ σ' H', upS K H M Y.ct σ' H' → Z.ct σ' H')

structure DE (X : Cx) (E : XK) (e : Expr) (t : TED) : Prop where
  ok : PE X e (liftE X.K E t)
structure DT (X : Cx) (E : XK) (e : Expr) (t : TTD) : Prop where
  ok : PT X e (liftT X.K E t)
structure DA (X : Cx) (E : XK) (es : List Expr) (t : TAD) : Prop where
  ok : PA X es (liftA X.K E t)
structure DS (X : Cx) (E : XK) (st : Stmt) (t : TSD) : Prop where
  ok : PS X st (liftS X.K E t)
structure DSs (X : Cx) (E : XK) (st : List Stmt) (t : TSD) : Prop where
  ok : PSs X st (liftS X.K E t)

section
variable {X : Cx} {e : Expr}
theorem PE.imp {t t' : TE} (h : PE X e t) (i : ∀ σ H Q, t' σ H Q → t σ H Q) : PE X e t' := ⟨fun pins s σ H Q I q => h.run pins s σ H Q I (i σ H Q q)⟩
theorem PT.imp {t t' : TT} (h : PT X e t) (i : ∀ σ H Q, t' σ H Q → t σ H Q) : PT X e t' := ⟨fun pins s σ H Q I q => h.run pins s σ H Q I (i σ H Q q)⟩
theorem PW.imp {t t' : TT} (h : PW X e t) (i : ∀ σ H Q, t' σ H Q → t σ H Q) : PW X e t' := ⟨fun wh pins s σ H Q I q => h.run wh pins s σ H Q I (i σ H Q q)⟩
theorem PA.imp {es : List Expr} {t t' : TA} (h : PA X es t) (i : ∀ σ H Q, t' σ H Q → t σ H Q) : PA X es t' := ⟨fun pos pins s σ H Q I q => h.run pos pins s σ H Q I (i σ H Q q)⟩
theorem PS.imp {st : Stmt} {t t' : TS} (h : PS X st t) (i : ∀ Z σ H, t' Z σ H → t Z σ H) : PS X st t' := ⟨fun pins s σ H Z I q => h.run pins s σ H Z I (i Z σ H q)⟩
theorem PSs.imp {st : List Stmt} {t t' : TS} (h : PSs X st t) (i : ∀ Z σ H, t' Z σ H → t Z σ H) : PSs X st t' := ⟨fun pins s σ H Z I q => h.run pins s σ H Z I (i Z σ H q)⟩
end

/-- use of a lifted reading from a state of data -/
theorem useE {K : Fg} {E : XK} {t : TED} {σ : L2.St} {H : Hp} {s : SD} {M : Mem} {Xd : XD} {Qd : QD} {Q : VK} (S : StOk K σ H s M) (x : XTo K H M Xd E) (h : t Xd s M Qd)
    (q : ∀ d v M' H', Gw H M H' M' → StOk K σ H' s M' → XTo K H' M' Xd E → Rv K H' M' d v → Qd d M' → Q v H') : liftE K E t σ H Q :=
  ⟨s, M, Qd, Xd, S, x, h, fun v H' ⟨d, M', g, m, r, z⟩ => q d v M' H' g (S.grow g m) (x.grow g) r z⟩
theorem useT {K : Fg} {E : XK} {t : TTD} {σ : L2.St} {H : Hp} {s : SD} {M : Mem} {Xd : XD} {Qd : Bool → Mem → Prop} {Q : Bool → Hp → Prop} (S : StOk K σ H s M) (x : XTo K H M Xd E) (h : t Xd s M Qd)
    (q : ∀ b M' H', Gw H M H' M' → StOk K σ H' s M' → XTo K H' M' Xd E → Qd b M' → Q b H') : liftT K E t σ H Q :=
  ⟨s, M, Qd, Xd, S, x, h, fun v H' ⟨M', g, m, z⟩ => q v M' H' g (S.grow g m) (x.grow g) z⟩
theorem useA {K : Fg} {E : XK} {t : TAD} {σ : L2.St} {H : Hp} {s : SD} {M : Mem} {Xd : XD} {Qd : List D → Mem → Prop} {Q : List V → Hp → Prop} (S : StOk K σ H s M) (x : XTo K H M Xd E) (h : t Xd s M Qd)
    (q : ∀ ds vs M' H', Gw H M H' M' → StOk K σ H' s M' → XTo K H' M' Xd E → Rs K H' M' ds vs → Qd ds M' → Q vs H') : liftA K E t σ H Q :=
  ⟨s, M, Qd, Xd, S, x, h, fun vs H' ⟨ds, M', g, m, r, z⟩ => q ds vs M' H' g (S.grow g m) (x.grow g) r z⟩
end DL
set_option maxHeartbeats 1000000
namespace DL
open PySem PySem.Spec PyProof.Rows L2

/-- an owned list or dict as it stands -/
def vwO (a : Addr) : Option MO → D
  | some (.lst ds) => .lst ds
  | some (.dct ks ds) => .dct ks ds
  | some (.ins _ _ _) => .ref a
  | none => .ref a
def vw (M : Mem) : D → D
  | .ref a => vwO a (M a)
  | d => d
theorem vw_ref {M : Mem} {a : Addr} : vw M (.ref a) = vwO a (M a) := rfl
section
variable {K : Fg} {H : Hp} {M : Mem} {v : V}
theorem Rv.non (h : Rv K H M .non v) : v = .non := h
theorem vw_lst {d : D} {ds : List D} (mo : MOk K H M) (r : Rv K H M d v) (e : vw M d = .lst ds) : ∃ a xs, v = .ref a ∧ H a = some (.lst xs) ∧ Rs K H M ds xs := by
  cases d with
  | lst es =>
    have e' : es = ds := by simpa [vw] using e
    subst e'
    obtain ⟨a, xs, h1, h2, _, h3⟩ := r
    exact ⟨a, xs, h1, h2, h3⟩
  | ref a =>
    have r' : v = .ref a := r
    rw [vw_ref] at e
    cases q : M a with
    | none => rw [q] at e; cases e
    | some o =>
      rw [q] at e
      cases o with
      | lst es =>
        have e' : es = ds := by simpa [vwO] using e
        subst e'
        obtain ⟨xs, h2, h3⟩ := mo a _ q
        exact ⟨a, xs, r', h2, h3⟩
      | dct ks es => cases e
      | ins C ns es => cases e
  | _ => cases e
theorem vw_tup {d : D} {ds : List D} (r : Rv K H M d v) (e : vw M d = .tup ds) : ∃ a xs, v = .ref a ∧ RT K H M a xs ∧ Rs K H M ds xs := by
  cases d with
  | tup es =>
    have e' : es = ds := by simpa [vw] using e
    subst e'
    exact r
  | ref a =>
    rw [vw_ref] at e
    cases q : M a with
    | none => rw [q] at e; cases e
    | some o => rw [q] at e; cases o <;> cases e
  | _ => cases e
theorem vw_fzn {d : D} {ds : List D} (r : Rv K H M d v) (e : vw M d = .fzn ds) : ∃ a xs, v = .ref a ∧ RL K H M a xs ∧ Rs K H M ds xs := by
  cases d with
  | fzn es =>
    have e' : es = ds := by simpa [vw] using e
    subst e'
    exact r
  | ref a =>
    rw [vw_ref] at e
    cases q : M a with
    | none => rw [q] at e; cases e
    | some o => rw [q] at e; cases o <;> cases e
  | _ => cases e
theorem vw_dct {d : D} {ks : List Key} {ds : List D} (mo : MOk K H M) (r : Rv K H M d v) (e : vw M d = .dct ks ds) : ∃ a xs, v = .ref a ∧ H a = some (.dK (ks.zip xs)) ∧ ks.length = ds.length ∧ Rs K H M ds xs := by
  cases d with
  | dct ls es =>
    have e' : ls = ks ∧ es = ds := by simpa [vw] using e
    obtain ⟨rfl, rfl⟩ := e'
    obtain ⟨a, kvs, xs, h1, h2, _, rfl, h4, h3⟩ := r
    exact ⟨a, xs, h1, h2, h4, h3⟩
  | ref a =>
    have r' : v = .ref a := r
    rw [vw_ref] at e
    cases q : M a with
    | none => rw [q] at e; cases e
    | some o =>
      rw [q] at e
      cases o with
      | lst es => cases e
      | dct ls es =>
        have e' : ls = ks ∧ es = ds := by simpa [vwO] using e
        obtain ⟨rfl, rfl⟩ := e'
        obtain ⟨xs, h2, h4, h3⟩ := mo a _ q
        exact ⟨a, xs, r', h2, h4, h3⟩
      | ins C ns es => cases e
  | _ => cases e
theorem vw_int {d : D} {i : Int} (r : Rv K H M d v) (e : vw M d = .int i) : v = .int i := by
  cases d with
  | int j =>
    have e' : j = i := by simpa [vw] using e
    subst e'
    exact r
  | ref a =>
    rw [vw_ref] at e
    cases q : M a with
    | none => rw [q] at e; cases e
    | some o => rw [q] at e; cases o <;> cases e
  | _ => cases e
theorem vw_str {d : D} {x : Str} (r : Rv K H M d v) (e : vw M d = .str x) : v = .str x := by
  cases d with
  | str j =>
    have e' : j = x := by simpa [vw] using e
    subst e'
    exact r
  | ref a =>
    rw [vw_ref] at e
    cases q : M a with
    | none => rw [q] at e; cases e
    | some o => rw [q] at e; cases o <;> cases e
  | _ => cases e
theorem vw_bl {d : D} {b : Bool} (r : Rv K H M d v) (e : vw M d = .bl b) : v = .bl b := by
  cases d with
  | bl j =>
    have e' : j = b := by simpa [vw] using e
    subst e'
    exact r
  | ref a =>
    rw [vw_ref] at e
    cases q : M a with
    | none => rw [q] at e; cases e
    | some o => rw [q] at e; cases o <;> cases e
  | _ => cases e
theorem vw_non {d : D} (r : Rv K H M d v) (e : vw M d = .non) : v = .non := by
  cases d with
  | non => exact r
  | ref a =>
    rw [vw_ref] at e
    cases q : M a with
    | none => rw [q] at e; cases e
    | some o => rw [q] at e; cases o <;> cases e
  | _ => cases e

/-- what is new and not tracked ahead -/
theorem gw_new {p : Addr} {o : HO} (hp : H p = none) : Gw H M (upd H p o) M := fun a u h m => ⟨by rw [upd_ne (ne_of_none h hp)]; exact h, m⟩
theorem mok_new {p : Addr} {o : HO} (mo : MOk K H M) (hp : H p = none) : MOk K (upd H p o) M := fun a m e => by
  have g : Gw H M (upd H p o) M := gw_new hp
  have q := mo a m e
  cases m with
  | lst ds =>
    obtain ⟨xs, h1, h2⟩ := q
    exact ⟨xs, by rw [upd_ne (ne_of_none h1 hp)]; exact h1, Rs.grow g ds xs h2⟩
  | dct ks ds =>
    obtain ⟨xs, h1, h3, h2⟩ := q
    exact ⟨xs, by rw [upd_ne (ne_of_none h1 hp)]; exact h1, h3, Rs.grow g ds xs h2⟩
  | ins C ns ds =>
    obtain ⟨dx, xs, h1, h3, h4, h5, h2⟩ := q
    exact ⟨dx, xs, by rw [upd_ne (ne_of_none h1 hp)]; exact h1, h3, by rw [upd_ne (ne_of_none h4 hp)]; exact h4, h5, Rs.grow g ds xs h2⟩
theorem m_none {p : Addr} (mo : MOk K H M) (hp : H p = none) : M p = none := by
  cases q : M p with
  | none => rfl
  | some o =>
    have z := mo p o q
    cases o with
    | lst ds => obtain ⟨xs, h1, _⟩ := z; rw [hp] at h1; cases h1
    | dct ks ds => obtain ⟨xs, h1, _⟩ := z; rw [hp] at h1; cases h1
    | ins C ns ds => obtain ⟨dx, xs, h1, _⟩ := z; rw [hp] at h1; cases h1
/-- a new tuple as data -/
theorem new_tup {p : Addr} {ds : List D} {xs : List V} (mo : MOk K H M) (hp : H p = none) (r : Rs K H M ds xs) : Rv K (upd H p (.tup xs)) M (.tup ds) (.ref p) :=
  ⟨p, xs, rfl, .inl ⟨.inl upd_same, m_none mo hp⟩, Rs.grow (gw_new hp) ds xs r⟩
theorem new_lst {p : Addr} {ds : List D} {xs : List V} (mo : MOk K H M) (hp : H p = none) (r : Rs K H M ds xs) : Rv K (upd H p (.lst xs)) M (.lst ds) (.ref p) :=
  ⟨p, xs, rfl, upd_same, m_none mo hp, Rs.grow (gw_new hp) ds xs r⟩
end

/-! ### expressions -/
def dVar (i : Nat) : TED := fun _ s M Q => match s[i]? with
  | some (some d) => Q d M
  | _ => False
def dC (d : D) : TED := fun _ _ M Q => Q d M
section
variable {X : Cx} {E : XK} {e a b c : Expr} {pos : Pos} {ta tb tc : TED}
theorem de_var {i : Nat} (h : PE X e (tVar i)) : DE X E e (dVar i) := ⟨PE.imp h fun σ H Q ⟨s, M, Qd, Xd, S, x, t, q⟩ => by
  unfold dVar at t
  split at t
  · rename_i d hd
    obtain ⟨v, e1, e2⟩ := S.sl i d hd
    exact ⟨v, e1, q v H ⟨d, M, Gw.refl, S.mem, e2, t⟩⟩
  · exact t.elim⟩
/-- a reading that gives a constant -/
theorem de_const {v : V} {d : D} (h : PE X e (tC v)) (r : ∀ H M, Rv X.K H M d v) : DE X E e (dC d) := ⟨PE.imp h fun σ H Q ⟨s, M, Qd, Xd, S, x, t, q⟩ => q v H ⟨d, M, Gw.refl, S.mem, r H M, t⟩⟩
theorem de_int {i j} : DE X E (.Constant (.int i) j pos) (dC (.int i)) := de_const pe_int fun _ _ => rfl
theorem de_bl {i j} : DE X E (.Constant (.bool i) j pos) (dC (.bl i)) := de_const pe_bl fun _ _ => rfl
theorem de_non {j} : DE X E (.Constant .none j pos) (dC .non) := de_const pe_non fun _ _ => rfl
theorem de_str {i j} : DE X E (.Constant (.str i) j pos) (dC (.str i)) := de_const pe_str fun _ _ => rfl

/-! ### operators by values -/
abbrev O2 := D → D → Mem → QD → Prop
def DOp (X : Cx) (f : Value → Value → Sem Value) (o : O2) : Prop :=
  ∀ (pins : List (Addr × Obj)) (s : Shared) (σ : L2.St) (H : Hp) (M : Mem) (x y : V) (dx dy : D) (v u : Value) (Q : VK) (Qd : QD), Inv X pins σ H s → MOk X.K H M → Rv X.K H M dx x → Rv X.K H M dy y → RelV x v → RelV y u → o dx dy M Qd →
    (∀ v H', upE X.K H M Qd v H' → Q v H') → wpAny (model X.prog X.w) X.A (f v u) (EP X pins σ Q) X.xe s
def dOp (o : O2) (ta tb : TED) : TED := fun Xd s M Q => ta Xd s M fun x M1 => tb Xd s M1 fun y M2 => o x y M2 Q
theorem DOp.toR {f : Value → Value → Sem Value} {o : O2} (h : DOp X f o) : OpR X f (fun x y H Q => ∃ M dx dy Qd, MOk X.K H M ∧ Rv X.K H M dx x ∧ Rv X.K H M dy y ∧ o dx dy M Qd ∧ ∀ v H', upE X.K H M Qd v H' → Q v H') :=
  fun pins s σ H x y v u Q I rx ry ⟨M, dx, dy, Qd, mo, r1, r2, t, q⟩ => h pins s σ H M x y dx dy v u Q Qd I mo r1 r2 rx ry t q
/-- two readings in a row -/
theorem lift2 {o : O2} {r : R2} (hr : ∀ {x y : V} {H : Hp} {Q : VK} {M : Mem} {dx dy : D} {Qd : QD}, MOk X.K H M → Rv X.K H M dx x → Rv X.K H M dy y → o dx dy M Qd → (∀ v H', upE X.K H M Qd v H' → Q v H') → r x y H Q)
    {σ : L2.St} {H : Hp} {Q : VK} (h : liftE X.K E (dOp o ta tb) σ H Q) : tOp r (liftE X.K E ta) (liftE X.K E tb) σ H Q := by
  obtain ⟨s, M, Qd, Xd, S, x, t, q⟩ := h
  refine useE S x t fun dx v M1 H1 g1 S1 x1 r1 t1 => ?_
  refine useE S1 x1 t1 fun dy u M2 H2 g2 S2 x2 r2 t2 => ?_
  exact hr S2.mem (Rv.grow g2 _ _ r1) r2 t2 fun w H' ⟨d, M', g, m, r, z⟩ => q w H' ⟨d, M', (g1.trans g2).trans g, m, r, z⟩
theorem de_op {op : Operator} {o : O2} (h : DOp X (binaryOp op) o) (ha : DE X E a ta) (hb : DE X E b tb) : DE X E (.BinOp a op b pos) (dOp o ta tb) :=
  ⟨PE.imp (pe_op h.toR ha.ok hb.ok) fun σ H Q z => lift2 (fun mo r1 r2 t q => ⟨_, _, _, _, mo, r1, r2, t, q⟩) z⟩
theorem de_cmp {op : CmpOp} {o : O2} (h : DOp X (compareOp op) o) (ha : DE X E a ta) (hb : DE X E b tb) (hm : behindInMarks op b = false) : DE X E (.Compare a [op] [b] pos) (dOp o ta tb) :=
  ⟨PE.imp (pe_cmpR h.toR ha.ok hb.ok hm) fun σ H Q z => lift2 (fun mo r1 r2 t q => ⟨_, _, _, _, mo, r1, r2, t, q⟩) z⟩
/-- a value as a test -/
def tstB (Q : Bool → Mem → Prop) : QD := fun d M => match d with
  | .bl b => Q b M
  | _ => False
def dTst (t : TED) : TTD := fun Xd s M Q => t Xd s M (tstB Q)
theorem liftB {t : TED} {σ : L2.St} {H : Hp} {Q : Bool → Hp → Prop} (h : liftT X.K E (dTst t) σ H Q) : tTest (liftE X.K E t) σ H Q := by
  obtain ⟨s, M, Qd, Xd, S, x, z, q⟩ := h
  refine useE S x z fun d v M1 H1 g1 S1 x1 r1 t1 => ?_
  unfold tstB at t1
  split at t1
  · rename_i b
    exact ⟨b, r1, q b H1 ⟨M1, g1, S1.mem, t1⟩⟩
  · exact t1.elim
theorem dt_cmp {op : CmpOp} {o : O2} (h : DOp X (compareOp op) o) (ha : DE X E a ta) (hb : DE X E b tb) (hm : behindInMarks op b = false) : DT X E (.Compare a [op] [b] pos) (dTst (dOp o ta tb)) :=
  ⟨PT.imp (pt_cmpR h.toR ha.ok hb.ok hm) fun σ H Q z => by
    refine (?_ : tTest (tOp _ _ _) σ H Q)
    obtain ⟨k1, k2⟩ := (⟨liftB z, trivial⟩ : tTest (liftE X.K E (dOp o ta tb)) σ H Q ∧ True)
    exact lift2 (fun mo r1 r2 t q => ⟨_, _, _, _, mo, r1, r2, t, q⟩) k1⟩
end
end DL
set_option maxHeartbeats 1000000
namespace DL
open PySem PySem.Spec PyProof.Rows L2

/-! ### data as the library tells it -/
def keyPy : Key → PyData
  | .inl i => .int i
  | .inr x => .str x
mutual
def toPy : D → Option PyData
  | .non => some .none
  | .bl b => some (.bool b)
  | .int i => some (.int i)
  | .str x => some (.str x)
  | .tup ds => (toPys ds).map PyData.tuple
  | .lst ds => (toPys ds).map PyData.list
  | .fzn ds => (toPys ds).map PyData.list
  | _ => none
def toPys : List D → Option (List PyData)
  | [] => some []
  | d :: ds => match toPy d, toPys ds with
    | some p, some ps => some (p :: ps)
    | _, _ => none
end
section
variable {K : Fg} {H : Hp} {M : Mem}
mutual
theorem Rv.dp : ∀ (d : D) (v : V) (p : PyData), Rv K H M d v → toPy d = some p → Dp K H v p
  | .non, v, p, h, e => by
    have h' : v = .non := h
    have e' : some PyData.none = some p := e
    cases e'; subst h'; exact .non
  | .bl b, v, p, h, e => by
    have h' : v = .bl b := h
    have e' : some (PyData.bool b) = some p := e
    cases e'; subst h'; exact .bl b
  | .int b, v, p, h, e => by
    have h' : v = .int b := h
    have e' : some (PyData.int b) = some p := e
    cases e'; subst h'; exact .int b
  | .str b, v, p, h, e => by
    have h' : v = .str b := h
    have e' : some (PyData.str b) = some p := e
    cases e'; subst h'; exact .str b
  | .tup ds, v, p, ⟨a, xs, hv, r, q⟩, e => by
    have e' : (toPys ds).map PyData.tuple = some p := e
    cases z : toPys ds with
    | none => rw [z] at e'; cases e'
    | some ps =>
      rw [z] at e'; cases e'; subst hv
      exact .tup r.sq (Rs.dp ds xs ps q z)
  | .lst ds, v, p, ⟨a, xs, hv, r, m, q⟩, e => by
    have e' : (toPys ds).map PyData.list = some p := e
    cases z : toPys ds with
    | none => rw [z] at e'; cases e'
    | some ps =>
      rw [z] at e'; cases e'; subst hv
      exact .lst (SqL.of r) (Rs.dp ds xs ps q z)
  | .fzn ds, v, p, ⟨a, xs, hv, r, q⟩, e => by
    have e' : (toPys ds).map PyData.list = some p := e
    cases z : toPys ds with
    | none => rw [z] at e'; cases e'
    | some ps =>
      rw [z] at e'; cases e'; subst hv
      exact .lst r.sq (Rs.dp ds xs ps q z)
  | .ref _, _, _, _, e => by cases (show (none : Option PyData) = some _ from e)
  | .ty _, _, _, _, e => by cases (show (none : Option PyData) = some _ from e)
  | .dct _ _, _, _, _, e => by cases (show (none : Option PyData) = some _ from e)
  | .exn _ _ _, _, _, _, e => by cases (show (none : Option PyData) = some _ from e)
theorem Rs.dp : ∀ (ds : List D) (vs : List V) (ps : List PyData), Rs K H M ds vs → toPys ds = some ps → DpAll K H vs ps
  | [], vs, ps, h, e => by
    have h' : vs = [] := h
    have e' : some [] = some ps := e
    cases e'; subst h'; exact .nil
  | d :: ds, _, ps, ⟨v, r, rfl, h, q⟩, e => by
    unfold toPys at e
    split at e
    · rename_i p qs h1 h2
      cases e
      exact .cons (Rv.dp d v p h h1) (Rs.dp ds r qs q h2)
    · cases e
end
/-- owned on top, seen as it stands -/
theorem vw_dp {d : D} {v : V} {p : PyData} (mo : MOk K H M) (r : Rv K H M d v) (e : toPy (vw M d) = some p) : Dp K H v p := by
  cases q : vw M d with
  | lst ds =>
    rw [q] at e
    obtain ⟨a, xs, rfl, h1, h2⟩ := vw_lst mo r q
    have e' : (toPys ds).map PyData.list = some p := e
    cases z : toPys ds with
    | none => rw [z] at e'; cases e'
    | some ps => rw [z] at e'; cases e'; exact .lst (SqL.of h1) (Rs.dp ds xs ps h2 z)
  | tup ds =>
    rw [q] at e
    obtain ⟨a, xs, rfl, h1, h2⟩ := vw_tup r q
    exact Rv.dp (M := M) (.tup ds) _ _ ⟨a, xs, rfl, h1, h2⟩ e
  | fzn ds =>
    rw [q] at e
    obtain ⟨a, xs, rfl, h1, h2⟩ := vw_fzn r q
    exact Rv.dp (M := M) (.fzn ds) _ _ ⟨a, xs, rfl, h1, h2⟩ e
  | int i => rw [q] at e; rw [vw_int r q]; exact Rv.dp (M := M) (.int i) _ _ rfl e
  | bl i => rw [q] at e; rw [vw_bl r q]; exact Rv.dp (M := M) (.bl i) _ _ rfl e
  | str i => rw [q] at e; rw [vw_str r q]; exact Rv.dp (M := M) (.str i) _ _ rfl e
  | non => rw [q] at e; rw [vw_non r q]; exact Rv.dp (M := M) .non _ _ rfl e
  | _ => rw [q] at e; cases e
end
/-- equality of data, where it is shaped -/
def eqO (x y : D) : Option Bool := match toPy x, toPy y with
  | some p, some q => if SeqAt.shaped p = true ∧ SeqAt.shaped q = true then some (PyData.eqv p q) else none
  | _, _ => none
theorem eqO_of {x y : D} {b : Bool} (h : eqO x y = some b) : ∃ p q, toPy x = some p ∧ toPy y = some q ∧ SeqAt.shaped p = true ∧ SeqAt.shaped q = true ∧ b = PyData.eqv p q := by
  unfold eqO at h
  split at h
  · rename_i p q h1 h2
    split at h
    · rename_i z
      exact ⟨p, q, h1, h2, z.1, z.2, (Option.some.inj h).symm⟩
    · cases h
  · cases h

/-! ### the operators -/
def dQ (o : Option D) (M : Mem) (Q : QD) : Prop := match o with
  | some d => Q d M
  | none => False
def addD : O2 := fun x y M Q => match vw M x, vw M y with
  | .int i, .int j => Q (.int (i + j)) M
  | .int i, .bl b => Q (.int (i + b2i b)) M
  | .str a, .str b => a.length + b.length ≤ sizeLine ∧ Q (.str (a ++ b)) M
  | .tup a, .tup b => a.length + b.length ≤ sizeLine ∧ Q (.tup (a ++ b)) M
  | .lst a, .lst b => a.length + b.length ≤ sizeLine ∧ Q (.lst (a ++ b)) M
  | _, _ => False
def subD : O2 := fun x y M Q => match vw M x, vw M y with
  | .int i, .int j => Q (.int (i - j)) M
  | _, _ => False
def repL (k : Nat) (ds : List D) : List D := (List.replicate k ds).flatten
def mulD : O2 := fun x y M Q => match vw M x, vw M y with
  | .int i, .int j => CMulW i j ∧ Q (.int (i * j)) M
  | .lst a, .int k => (-(2 ^ 63) ≤ k ∧ k < 2 ^ 63 ∧ a.length * k.toNat ≤ sizeLine) ∧ Q (.lst (repL k.toNat a)) M
  | .tup a, .int k => (a ≠ [] ∧ 2 ≤ k ∧ k ≤ 1000 ∧ a.length ≤ 1000) ∧ Q (.tup (repL k.toNat a)) M
  | _, _ => False
def fdivD : O2 := fun x y M Q => match vw M x, vw M y with
  | .int i, .int j => CDivW i j ∧ Q (.int (i / j)) M
  | _, _ => False
def modD : O2 := fun x y M Q => match vw M x, vw M y with
  | .int i, .int j => 0 < j ∧ Q (.int (i % j)) M
  | _, _ => False
def powD : O2 := fun x y M Q => match vw M x, vw M y with
  | .int i, .int j => CPow i j ∧ Q (.int (i ^ j.toNat)) M
  | _, _ => False
def cmpD (p : Int → Int → Bool) : O2 := fun x y M Q => match vw M x, vw M y with
  | .int i, .int j => Q (.bl (p i j)) M
  | _, _ => False
abbrev ltD : O2 := cmpD fun i j => decide (i < j)
abbrev leD : O2 := cmpD fun i j => decide (i ≤ j)
abbrev gtD : O2 := cmpD fun i j => decide (j < i)
abbrev geD : O2 := cmpD fun i j => decide (j ≤ i)
def eqD : O2 := fun x y M Q => match eqO (vw M x) (vw M y) with
  | some b => Q (.bl b) M
  | none => False
def neD : O2 := fun x y M Q => match eqO (vw M x) (vw M y) with
  | some b => Q (.bl (!b)) M
  | none => False
def isN : D → Bool
  | .non => true
  | _ => false
def isD : O2 := fun x y M Q => y = .non ∧ Q (.bl (isN x)) M
def isNotD : O2 := fun x y M Q => y = .non ∧ Q (.bl (!isN x)) M

theorem vlen {K : Fg} {H : Hp} {M : Mem} {ds : List D} {vs : List V} (r : Rs K H M ds vs) : vs.length = ds.length := (Rs.len r).symm
theorem rs_rep {K : Fg} {H : Hp} {M : Mem} {ds : List D} {vs : List V} (r : Rs K H M ds vs) : ∀ k, Rs K H M (repL k ds) (List.replicate k vs).flatten
  | 0 => rfl
  | k + 1 => by
    unfold repL
    rw [List.replicate_succ, List.replicate_succ, List.flatten_cons, List.flatten_cons]
    exact Rs.append r (rs_rep r k)
section
variable {X : Cx}
theorem up_same {K : Fg} {H : Hp} {M : Mem} {Q : QD} {d : D} {v : V} (mo : MOk K H M) (q : Q d M) (r : Rv K H M d v) : upE K H M Q v H := ⟨d, M, Gw.refl, mo, r, q⟩
theorem up_new_tup {K : Fg} {H : Hp} {M : Mem} {Q : QD} {ds : List D} {xs : List V} {p : Addr} (mo : MOk K H M) (hp : H p = none) (r : Rs K H M ds xs) (q : Q (.tup ds) M) : upE K H M Q (.ref p) (upd H p (.tup xs)) :=
  ⟨_, M, gw_new hp, mok_new mo hp, new_tup mo hp r, q⟩
theorem up_new_lst {K : Fg} {H : Hp} {M : Mem} {Q : QD} {ds : List D} {xs : List V} {p : Addr} (mo : MOk K H M) (hp : H p = none) (r : Rs K H M ds xs) (q : Q (.lst ds) M) : upE K H M Q (.ref p) (upd H p (.lst xs)) :=
  ⟨_, M, gw_new hp, mok_new mo hp, new_lst mo hp r, q⟩
theorem do_add : DOp X (binaryOp .Add) addD := by
  intro pins s σ H M x y dx dy v u Q Qd I mo r1 r2 rx ry t q
  unfold addD at t
  split at t
  · rename_i i j h1 h2
    exact op_add pins s σ H x y v u Q I rx ry ⟨i, j, vw_int r1 h1, vw_int r2 h2, q _ _ (up_same mo t rfl)⟩
  · rename_i i j h1 h2
    exact op_add_ib pins s σ H x y v u Q I rx ry ⟨i, j, vw_int r1 h1, vw_bl r2 h2, q _ _ (up_same mo t rfl)⟩
  · rename_i i j h1 h2
    exact op_add_str pins s σ H x y v u Q I rx ry ⟨i, j, vw_str r1 h1, vw_str r2 h2, t.1, q _ _ (up_same mo t.2 rfl)⟩
  · rename_i i j h1 h2
    obtain ⟨a, xs, rfl, ha, sa⟩ := vw_tup r1 h1
    obtain ⟨b, ys, rfl, hb, sb⟩ := vw_tup r2 h2
    refine op_catA pins s σ H _ _ v u Q I rx ry ⟨a, b, xs, ys, rfl, rfl, ha.sq, hb.sq, by rw [vlen sa, vlen sb]; exact t.1, fun e => ?_, fun _ e => ?_, fun _ _ p hp => ?_⟩
    · have e1 : i = [] := by
        have := Rs.len sa
        rw [e] at this
        exact List.eq_nil_of_length_eq_zero this
      subst e1
      exact q _ _ (up_same mo t.2 ⟨b, ys, rfl, hb, sb⟩)
    · have e1 : j = [] := by
        have := Rs.len sb
        rw [e] at this
        exact List.eq_nil_of_length_eq_zero this
      subst e1
      have t2 := t.2
      rw [List.append_nil] at t2
      exact q _ _ (up_same mo t2 ⟨a, xs, rfl, ha, sa⟩)
    · exact q _ _ (up_new_tup mo hp (Rs.append sa sb) t.2)
  · rename_i i j h1 h2
    obtain ⟨a, xs, rfl, ha, sa⟩ := vw_lst mo r1 h1
    obtain ⟨b, ys, rfl, hb, sb⟩ := vw_lst mo r2 h2
    exact op_cat pins s σ H _ _ v u Q I rx ry ⟨a, b, xs, ys, rfl, rfl, ha, hb, by rw [vlen sa, vlen sb]; exact t.1, fun p hp => q _ _ (up_new_lst mo hp (Rs.append sa sb) t.2)⟩
  · exact t.elim
theorem do_int {f : Value → Value → Sem Value} {C : Int → Int → Prop} {g : Int → Int → V} {gd : Int → Int → D} (h : OpR X f (rI C g)) (hg : ∀ i j (H : Hp) (M : Mem), Rv X.K H M (gd i j) (g i j)) :
    DOp X f (fun x y M Q => match vw M x, vw M y with
      | .int i, .int j => C i j ∧ Q (gd i j) M
      | _, _ => False) := by
  intro pins s σ H M x y dx dy v u Q Qd I mo r1 r2 rx ry t q
  split at t
  · rename_i i j h1 h2
    exact h pins s σ H x y v u Q I rx ry ⟨i, j, vw_int r1 h1, vw_int r2 h2, t.1, q _ _ (up_same mo t.2 (hg i j H M))⟩
  · exact t.elim
theorem do_int0 {f : Value → Value → Sem Value} {g : Int → Int → V} {gd : Int → Int → D} (h : OpR X f (rI0 g)) (hg : ∀ i j (H : Hp) (M : Mem), Rv X.K H M (gd i j) (g i j)) :
    DOp X f (fun x y M Q => match vw M x, vw M y with
      | .int i, .int j => Q (gd i j) M
      | _, _ => False) := by
  intro pins s σ H M x y dx dy v u Q Qd I mo r1 r2 rx ry t q
  split at t
  · rename_i i j h1 h2
    exact h pins s σ H x y v u Q I rx ry ⟨i, j, vw_int r1 h1, vw_int r2 h2, q _ _ (up_same mo t (hg i j H M))⟩
  · exact t.elim
theorem do_sub : DOp X (binaryOp .Sub) subD := do_int0 (gd := fun i j => .int (i - j)) op_sub fun _ _ _ _ => rfl
theorem do_fdiv : DOp X (binaryOp .FloorDiv) fdivD := do_int (gd := fun i j => .int (i / j)) op_fdivW fun _ _ _ _ => rfl
theorem do_mod : DOp X (binaryOp .Mod) modD := do_int (C := fun _ j => 0 < j) (gd := fun i j => .int (i % j)) op_mod fun _ _ _ _ => rfl
theorem do_pow : DOp X (binaryOp .Pow) powD := do_int (gd := fun i j => .int (i ^ j.toNat)) op_pow fun _ _ _ _ => rfl
theorem do_lt : DOp X (compareOp .Lt) ltD := do_int0 (gd := fun i j => .bl (decide (i < j))) op_lt fun _ _ _ _ => rfl
theorem do_le : DOp X (compareOp .LtE) leD := do_int0 (gd := fun i j => .bl (decide (i ≤ j))) op_le fun _ _ _ _ => rfl
theorem do_gt : DOp X (compareOp .Gt) gtD := do_int0 (gd := fun i j => .bl (decide (j < i))) op_gt fun _ _ _ _ => rfl
theorem do_ge : DOp X (compareOp .GtE) geD := do_int0 (gd := fun i j => .bl (decide (j ≤ i))) op_ge fun _ _ _ _ => rfl
theorem do_mul : DOp X (binaryOp .Mult) mulD := by
  intro pins s σ H M x y dx dy v u Q Qd I mo r1 r2 rx ry t q
  unfold mulD at t
  split at t
  · rename_i i j h1 h2
    exact op_mulW pins s σ H x y v u Q I rx ry ⟨i, j, vw_int r1 h1, vw_int r2 h2, t.1, q _ _ (up_same mo t.2 rfl)⟩
  · rename_i a k h1 h2
    obtain ⟨p, xs, rfl, ha, sa⟩ := vw_lst mo r1 h1
    exact op_rep pins s σ H _ _ v u Q I rx ry ⟨p, k, xs, rfl, vw_int r2 h2, ha, t.1.1, t.1.2.1, by rw [vlen sa]; exact t.1.2.2, fun l hl => q _ _ (up_new_lst mo hl (rs_rep sa _) t.2)⟩
  · rename_i a k h1 h2
    obtain ⟨p, xs, rfl, ha, sa⟩ := vw_tup r1 h1
    refine op_repT pins s σ H _ _ v u Q I rx ry ⟨p, k, xs, rfl, vw_int r2 h2, ha.sq, fun e => ?_, t.1.2.1, t.1.2.2.1, by rw [vlen sa]; exact t.1.2.2.2, fun l hl => q _ _ (up_new_tup mo hl (rs_rep sa _) t.2)⟩
    have := Rs.len sa
    rw [e] at this
    exact t.1.1 (List.eq_nil_of_length_eq_zero this)
  · exact t.elim
theorem do_eq (hu : X.A.units + 64 < cLine) : DOp X (compareOp .Eq) eqD := by
  intro pins s σ H M x y dx dy v u Q Qd I mo r1 r2 rx ry t q
  unfold eqD at t
  split at t
  · rename_i b hb
    obtain ⟨p, p', h1, h2, s1, s2, rfl⟩ := eqO_of hb
    exact op_eqD hu pins s σ H x y v u Q I rx ry ⟨p, p', vw_dp mo r1 h1, vw_dp mo r2 h2, s1, s2, q _ _ (up_same mo t rfl)⟩
  · exact t.elim
theorem do_ne (hu : X.A.units + 64 < cLine) : DOp X (compareOp .NotEq) neD := by
  intro pins s σ H M x y dx dy v u Q Qd I mo r1 r2 rx ry t q
  unfold neD at t
  split at t
  · rename_i b hb
    obtain ⟨p, p', h1, h2, s1, s2, rfl⟩ := eqO_of hb
    exact op_neD hu pins s σ H x y v u Q I rx ry ⟨p, p', vw_dp mo r1 h1, vw_dp mo r2 h2, s1, s2, q _ _ (up_same mo t rfl)⟩
  · exact t.elim
theorem isN_of {K : Fg} {H : Hp} {M : Mem} {d : D} {v : V} (r : Rv K H M d v) : decide (v = .non) = isN d := by
  cases d with
  | non => have e : v = .non := r; rw [e]; rfl
  | bl b => have e : v = .bl b := r; rw [e]; exact decide_eq_false (fun z => nomatch z)
  | int b => have e : v = .int b := r; rw [e]; exact decide_eq_false (fun z => nomatch z)
  | str b => have e : v = .str b := r; rw [e]; exact decide_eq_false (fun z => nomatch z)
  | ref b => have e : v = .ref b := r; rw [e]; exact decide_eq_false (fun z => nomatch z)
  | ty b => have e : v = .ty b := r; rw [e]; exact decide_eq_false (fun z => nomatch z)
  | tup b => obtain ⟨a, xs, e, _⟩ := r; rw [e]; exact decide_eq_false (fun z => nomatch z)
  | lst b => obtain ⟨a, xs, e, _⟩ := r; rw [e]; exact decide_eq_false (fun z => nomatch z)
  | fzn b => obtain ⟨a, xs, e, _⟩ := r; rw [e]; exact decide_eq_false (fun z => nomatch z)
  | dct b c => obtain ⟨a, _, xs, e, _⟩ := r; rw [e]; exact decide_eq_false (fun z => nomatch z)
  | exn b c d => rcases r with ⟨a, _, xs, e, _⟩ | ⟨_, _, a, e, _⟩ <;> (rw [e]; exact decide_eq_false (fun z => nomatch z))
theorem do_is : DOp X (compareOp .Is) isD := by
  intro pins s σ H M x y dx dy v u Q Qd I mo r1 r2 rx ry t q
  obtain ⟨rfl, t⟩ := t
  exact op_isN pins s σ H x y v u Q I rx ry ⟨r2, by rw [isN_of r1]; exact q _ _ (up_same mo t rfl)⟩
theorem do_isnot : DOp X (compareOp .IsNot) isNotD := by
  intro pins s σ H M x y dx dy v u Q Qd I mo r1 r2 rx ry t q
  obtain ⟨rfl, t⟩ := t
  exact op_notN pins s σ H x y v u Q I rx ry ⟨r2, by rw [isN_of r1]; exact q _ _ (up_same mo t rfl)⟩
end
end DL
set_option maxHeartbeats 1000000
namespace DL
open PySem PySem.Spec PyProof.Rows L2

def Mem.put (M : Mem) (a : Addr) (o : MO) : Mem := fun b => if b = a then some o else M b
def Mem.del (M : Mem) (a : Addr) : Mem := fun b => if b = a then none else M b
theorem Mem.put_same {M : Mem} {a : Addr} {o : MO} : M.put a o a = some o := by unfold Mem.put; rw [if_pos rfl]
theorem Mem.put_ne {M : Mem} {a b : Addr} {o : MO} (h : b ≠ a) : M.put a o b = M b := by unfold Mem.put; rw [if_neg h]
theorem Mem.del_same {M : Mem} {a : Addr} : M.del a a = none := by unfold Mem.del; rw [if_pos rfl]
theorem Mem.del_ne {M : Mem} {a b : Addr} (h : b ≠ a) : M.del a b = M b := by unfold Mem.del; rw [if_neg h]
theorem Mem.put_put {M : Mem} {a : Addr} {o u : MO} : (M.put a o).put a u = M.put a u := by funext b; unfold Mem.put; split <;> rfl
theorem Mem.del_put {M : Mem} {a : Addr} {o : MO} (h : M a = none) : (M.put a o).del a = M := by
  funext b; unfold Mem.del Mem.put
  by_cases e : b = a
  · rw [if_pos e, e, h]
  · rw [if_neg e, if_neg e]

section
variable {K : Fg} {H H' : Hp} {M M' : Mem}
/-- what MObj says is kept by growth where the object itself stands -/
theorem MObj.grow {a : Addr} {o : MO} (g : Gw H M H' M') (ha : H' a = H a) (hd : ∀ dx, H dx = some (.own a) → M dx = none → H' dx = some (.own a) ∧ M' dx = none) (h : MObj K H M a o) : MObj K H' M' a o := by
  cases o with
  | lst ds =>
    obtain ⟨xs, h1, h2⟩ := h
    exact ⟨xs, ha.trans h1, Rs.grow g ds xs h2⟩
  | dct ks ds =>
    obtain ⟨xs, h1, h3, h2⟩ := h
    exact ⟨xs, ha.trans h1, h3, Rs.grow g ds xs h2⟩
  | ins C ns ds =>
    obtain ⟨dx, xs, h1, h3, h4, h5, h2⟩ := h
    exact ⟨dx, xs, ha.trans h1, h3, (hd dx h4 h5).1, (hd dx h4 h5).2, Rs.grow g ds xs h2⟩
/-- an owned object is written -/
theorem gw_put {a : Addr} {o : HO} {mo mo' : MO} (h : M a = some mo) : Gw H M (upd H a o) (M.put a mo') := fun b u hb m => by
  have ne : b ≠ a := fun e => by rw [e, h] at m; cases m
  exact ⟨by rw [upd_ne ne]; exact hb, by rw [Mem.put_ne ne]; exact m⟩
theorem mok_put {a : Addr} {o : HO} {mo mo' : MO} (ok : MOk K H M) (h : M a = some mo) (new : MObj K (upd H a o) (M.put a mo') a mo') : MOk K (upd H a o) (M.put a mo') := fun b u e => by
  by_cases q : b = a
  · subst q
    rw [Mem.put_same] at e
    cases e
    exact new
  · rw [Mem.put_ne q] at e
    refine MObj.grow (gw_put h) (upd_ne q) (fun dx h1 h2 => ?_) (ok b u e)
    exact gw_put h dx _ h1 h2
/-- a new owned object -/
theorem gw_own {p : Addr} {o : HO} {mo : MO} (hp : H p = none) : Gw H M (upd H p o) (M.put p mo) := fun b u hb m => by
  have ne : b ≠ p := ne_of_none hb hp
  exact ⟨by rw [upd_ne ne]; exact hb, by rw [Mem.put_ne ne]; exact m⟩
theorem mok_own {p : Addr} {o : HO} {mo : MO} (ok : MOk K H M) (hp : H p = none) (new : MObj K (upd H p o) (M.put p mo) p mo) : MOk K (upd H p o) (M.put p mo) := fun b u e => by
  by_cases q : b = p
  · subst q
    rw [Mem.put_same] at e
    cases e
    exact new
  · rw [Mem.put_ne q] at e
    exact MObj.grow (gw_own hp) (upd_ne q) (fun dx h1 h2 => gw_own hp dx _ h1 h2) (ok b u e)
/-- less is owned: dropped, or frozen -/
theorem gw_less (h : ∀ a, M a = none → M' a = none) : Gw H M H M' := fun b u hb m => ⟨hb, h b m⟩
theorem mok_less (h : ∀ a o, M' a = some o → M a = some o) (hn : ∀ a, M a = none → M' a = none) (ok : MOk K H M) : MOk K H M' := fun b u e =>
  MObj.grow (gw_less hn) rfl (fun dx h1 h2 => ⟨h1, hn dx h2⟩) (ok b u (h b u e))
theorem up_own_lst {Q : QD} {ds : List D} {xs : List V} {p : Addr} (mo : MOk K H M) (hp : H p = none) (r : Rs K H M ds xs) (q : Q (.ref p) (M.put p (.lst ds))) : upE K H M Q (.ref p) (upd H p (.lst xs)) :=
  ⟨.ref p, M.put p (.lst ds), gw_own hp, mok_own mo hp (show MObj K (upd H p (.lst xs)) (M.put p (.lst ds)) p (.lst ds) from ⟨xs, upd_same, Rs.grow (gw_own hp) ds xs r⟩), rfl, q⟩
end

/-! ### arguments, displays -/
def dNil : TAD := fun _ _ M Q => Q [] M
def dCons (te : TED) (ta : TAD) : TAD := fun Xd s M Q => te Xd s M fun d M1 => ta Xd s M1 fun ds M2 => Q (d :: ds) M2
/-- arguments, n of them -/
structure DN (X : Cx) (E : XK) (n : Nat) (es : List Expr) (t : TAD) : Prop where
  ok : PA X es (fun σ H Q => ∃ s M Qd Xd, StOk X.K σ H s M ∧ XTo X.K H M Xd E ∧ t Xd s M Qd ∧ ∀ vs H', vs.length = n → upA X.K H M Qd vs H' → Q vs H')
section
variable {X : Cx} {E : XK} {n : Nat} {e a b c : Expr} {es : List Expr} {pos : Pos} {ta tb te : TED} {ts : TAD}
theorem dn_nil : DN X E 0 [] dNil := ⟨PA.imp pa_nil fun σ H Q ⟨s, M, Qd, Xd, S, x, t, q⟩ => q [] H rfl ⟨[], M, Gw.refl, S.mem, rfl, t⟩⟩
theorem dn_cons (h1 : DE X E e te) (h2 : DN X E n es ts) (hs : starEach (e :: es) X.env = (false, eval e X.env) :: starEach es X.env := by rfl) : DN X E (n + 1) (e :: es) (dCons te ts) :=
  ⟨PA.imp (pa_cons h1.ok h2.ok hs) fun σ H Q ⟨s, M, Qd, Xd, S, x, t, q⟩ => by
    refine useE S x t fun d v M1 H1 g1 S1 x1 r1 t1 => ?_
    refine ⟨s, M1, _, Xd, S1, x1, t1, fun vs H2 hl ⟨ds, M2, g2, m2, r2, t2⟩ => ?_⟩
    exact q _ _ (by rw [List.length_cons, hl]) ⟨d :: ds, M2, g1.trans g2, m2, Rs.cons (Rv.grow g2 _ _ r1) r2, t2⟩⟩
/-- what is known of arguments -/
theorem useN {σ : L2.St} {H : Hp} {s : SD} {M : Mem} {Xd : XD} {Qd : List D → Mem → Prop} {Q : List V → Hp → Prop} (S : StOk X.K σ H s M) (x : XTo X.K H M Xd E) (h : ts Xd s M Qd)
    (q : ∀ ds vs M' H', vs.length = n → Gw H M H' M' → StOk X.K σ H' s M' → XTo X.K H' M' Xd E → Rs X.K H' M' ds vs → Qd ds M' → Q vs H') :
    ∃ s M Qd Xd, StOk X.K σ H s M ∧ XTo X.K H M Xd E ∧ ts Xd s M Qd ∧ ∀ vs H', vs.length = n → upA X.K H M Qd vs H' → Q vs H' :=
  ⟨s, M, Qd, Xd, S, x, h, fun vs H' hl ⟨ds, M', g, m, r, z⟩ => q ds vs M' H' hl g (S.grow g m) (x.grow g) r z⟩
def dTup (t : TAD) : TED := fun Xd s M Q => t Xd s M fun ds M1 => Q (.tup ds) M1
def dLst (t : TAD) : TED := fun Xd s M Q => t Xd s M fun ds M1 => Q (.lst ds) M1
/-- a list that will be changed -/
def dLstO (t : TAD) : TED := fun Xd s M Q => t Xd s M fun ds M1 => ∀ p, M1 p = none → Q (.ref p) (M1.put p (.lst ds))
theorem de_tup {k} (h : DN X E n es ts) (hz : n ≤ sizeLine := by decide) : DE X E (.Tuple es k pos) (dTup ts) := ⟨PE.imp (pe_tup h.ok) fun σ H Q ⟨s, M, Qd, Xd, S, x, t, q⟩ => by
  refine useN S x t fun ds vs M1 H1 hl g1 S1 x1 r1 t1 => ⟨by rw [hl]; exact hz, fun p hp => ?_⟩
  exact q _ _ ⟨.tup ds, M1, g1.trans (gw_new hp), mok_new S1.mem hp, new_tup S1.mem hp r1, t1⟩⟩
theorem de_lst (h : DN X E n es ts) (hz : n ≤ sizeLine := by decide) : DE X E (.List es pos) (dLst ts) := ⟨PE.imp (pe_lst h.ok) fun σ H Q ⟨s, M, Qd, Xd, S, x, t, q⟩ => by
  refine useN S x t fun ds vs M1 H1 hl g1 S1 x1 r1 t1 => ⟨by rw [hl]; exact hz, fun p hp => ?_⟩
  exact q _ _ ⟨.lst ds, M1, g1.trans (gw_new hp), mok_new S1.mem hp, new_lst S1.mem hp r1, t1⟩⟩
theorem de_lstO (h : DN X E n es ts) (hz : n ≤ sizeLine := by decide) : DE X E (.List es pos) (dLstO ts) := ⟨PE.imp (pe_lst h.ok) fun σ H Q ⟨s, M, Qd, Xd, S, x, t, q⟩ => by
  refine useN S x t fun ds vs M1 H1 hl g1 S1 x1 r1 t1 => ⟨by rw [hl]; exact hz, fun p hp => ?_⟩
  obtain ⟨d, M', g, m, r, z⟩ := up_own_lst S1.mem hp r1 (t1 p (m_none S1.mem hp))
  exact q _ _ ⟨d, M', g1.trans g, m, r, z⟩⟩

/-! ### calls of built-ins by values -/
abbrev OC := List D → Mem → QD → Prop
def DC (X : Cx) (f : Value) (o : OC) : Prop :=
  ∀ (pins : List (Addr × Obj)) (s : Shared) (σ : L2.St) (H : Hp) (M : Mem) (xs : List V) (ds : List D) (us : List Value) (Q : VK) (Qd : QD), Inv X pins σ H s → MOk X.K H M → Rs X.K H M ds xs → Vals xs us → o ds M Qd →
    (∀ v H', upE X.K H M Qd v H' → Q v H') → wpAny (model X.prog X.w) X.A (call f us) (EP X pins σ Q) X.xe s
theorem DC.toR {f : Value} {o : OC} (h : DC X f o) : CallR X f (fun xs H Q => ∃ M ds Qd, MOk X.K H M ∧ Rs X.K H M ds xs ∧ o ds M Qd ∧ ∀ v H', upE X.K H M Qd v H' → Q v H') :=
  fun pins s σ H xs us Q I r ⟨M, ds, Qd, mo, r1, t, q⟩ => h pins s σ H M xs ds us Q Qd I mo r1 r t q
def dCB (o : OC) (t : TAD) : TED := fun Xd s M Q => t Xd s M fun ds M1 => o ds M1 Q
theorem liftCB {o : OC} {σ : L2.St} {H : Hp} {Q : VK} (z : liftE X.K E (dCB o ts) σ H Q) : tCB (fun xs H Q => ∃ M ds Qd, MOk X.K H M ∧ Rs X.K H M ds xs ∧ o ds M Qd ∧ ∀ v H', upE X.K H M Qd v H' → Q v H')
    (fun σ H Q => ∃ s M Qd Xd, StOk X.K σ H s M ∧ XTo X.K H M Xd E ∧ ts Xd s M Qd ∧ ∀ vs H', vs.length = n → upA X.K H M Qd vs H' → Q vs H') σ H Q := by
  obtain ⟨s, M, Qd, Xd, S, x, t, q⟩ := z
  refine useN S x t fun ds vs M1 H1 hl g1 S1 x1 r1 t1 => ?_
  exact ⟨M1, ds, Qd, S1.mem, r1, t1, fun v H' ⟨d, M', g, m, r, z⟩ => q v H' ⟨d, M', g1.trans g, m, r, z⟩⟩
theorem de_callB {id : String} {x : Str} {p : Pos} {o : OC} (hc : DC X (.builtin id) o) (hg : Gl X x) (hm : X.mg x = none) (hv : bootBuiltins x = some (.builtin id)) (ha : DN X E n (e :: es) ts) (hn : x ≠ "__name__" := by decide) (hdb : (x == ("__debug__" : Str)) = false := by decide)
    (he : starEach (e :: es) X.env = (false, eval e X.env) :: starEach es X.env := by rfl) (hpl : (backTo pos (starEach es X.env)).any (·.1) = false := by rfl) : DE X E (.Call (.Name x p) (e :: es) [] pos) (dCB o ts) :=
  ⟨PE.imp (pe_callB hc.toR hg hm hv ha.ok hn hdb he hpl) fun σ H Q z => liftCB z⟩
theorem de_callTy {T : String} {x : Str} {p : Pos} {o : OC} (hc : DC X (.type T) o) (hg : Gl X x) (hm : X.mg x = none) (hv : bootBuiltins x = some (.type T)) (ha : DN X E n (e :: es) ts) (hn : x ≠ "__name__" := by decide) (hdb : (x == ("__debug__" : Str)) = false := by decide)
    (he : starEach (e :: es) X.env = (false, eval e X.env) :: starEach es X.env := by rfl) (hpl : (backTo pos (starEach es X.env)).any (·.1) = false := by rfl) : DE X E (.Call (.Name x p) (e :: es) [] pos) (dCB o ts) :=
  ⟨PE.imp (pe_callTy hc.toR hg hm hv ha.ok hn hdb he hpl) fun σ H Q z => liftCB z⟩

/-! ### built-ins -/
theorem rs1 {K : Fg} {H : Hp} {M : Mem} {d : D} {xs : List V} (r : Rs K H M [d] xs) : ∃ v, xs = [v] ∧ Rv K H M d v := by
  obtain ⟨v, r, rfl, h, q⟩ := r
  have e : r = [] := q
  subst e
  exact ⟨v, rfl, h⟩
theorem rs2 {K : Fg} {H : Hp} {M : Mem} {d d2 : D} {xs : List V} (r : Rs K H M [d, d2] xs) : ∃ v w, xs = [v, w] ∧ Rv K H M d v ∧ Rv K H M d2 w := by
  obtain ⟨v, r, rfl, h, q⟩ := r
  obtain ⟨w, rfl, z⟩ := rs1 q
  exact ⟨v, w, rfl, h, z⟩
def lenO (M : Mem) (d : D) : Option Nat := match vw M d with
  | .tup ds => some ds.length
  | .lst ds => some ds.length
  | .fzn ds => some ds.length
  | .str x => if x.length ≤ sizeLine then some x.length else none
  | _ => none
def lenC : OC := fun ds M Q => match ds with
  | [d] => match lenO M d with
    | some n => Q (.int n) M
    | none => False
  | _ => False
theorem dc_len : DC X (.builtin "len") lenC := by
  intro pins s σ H M xs ds us Q Qd I mo r rv t q
  unfold lenC at t
  split at t
  · rename_i d
    obtain ⟨v, rfl, rd⟩ := rs1 r
    split at t
    · rename_i n hn
      unfold lenO at hn
      split at hn
      · rename_i es h
        obtain ⟨a, ys, rfl, ha, sa⟩ := vw_tup rd h
        cases hn
        exact call_len_seq pins s σ H _ us Q I rv ⟨a, ys, rfl, .inr ha.sq, q _ _ ⟨_, M, Gw.refl, mo, by rw [vlen sa]; exact rfl, t⟩⟩
      · rename_i es h
        obtain ⟨a, ys, rfl, ha, sa⟩ := vw_lst mo rd h
        cases hn
        exact call_len_seq pins s σ H _ us Q I rv ⟨a, ys, rfl, .inl (SqL.of ha), q _ _ ⟨_, M, Gw.refl, mo, by rw [vlen sa]; exact rfl, t⟩⟩
      · rename_i es h
        obtain ⟨a, ys, rfl, ha, sa⟩ := vw_fzn rd h
        cases hn
        exact call_len_seq pins s σ H _ us Q I rv ⟨a, ys, rfl, .inl ha.sq, q _ _ ⟨_, M, Gw.refl, mo, by rw [vlen sa]; exact rfl, t⟩⟩
      · rename_i x h
        split at hn
        · rename_i hz
          cases hn
          exact call_len_str pins s σ H _ us Q I rv ⟨x, by rw [vw_str rd h], hz, q _ _ (up_same mo t rfl)⟩
        · cases hn
      · cases hn
    · exact t.elim
  · exact t.elim
/-- the items of a list or tuple -/
def itemsO (M : Mem) (d : D) : Option (List D) := match vw M d with
  | .tup ds => some ds
  | .lst ds => some ds
  | .fzn ds => some ds
  | _ => none
theorem items_of {K : Fg} {H : Hp} {M : Mem} {d : D} {ds : List D} {v : V} (mo : MOk K H M) (r : Rv K H M d v) (e : itemsO M d = some ds) : ∃ a xs, v = .ref a ∧ (SqL K H a xs ∨ SqT K H a xs) ∧ Rs K H M ds xs := by
  unfold itemsO at e
  split at e
  · rename_i es h
    cases e
    obtain ⟨a, ys, rfl, ha, sa⟩ := vw_tup r h
    exact ⟨a, ys, rfl, .inr ha.sq, sa⟩
  · rename_i es h
    cases e
    obtain ⟨a, ys, rfl, ha, sa⟩ := vw_lst mo r h
    exact ⟨a, ys, rfl, .inl (SqL.of ha), sa⟩
  · rename_i es h
    cases e
    obtain ⟨a, ys, rfl, ha, sa⟩ := vw_fzn r h
    exact ⟨a, ys, rfl, .inl ha.sq, sa⟩
  · cases e
def listC : OC := fun ds M Q => match ds with
  | [d] => match itemsO M d with
    | some es => Q (.lst es) M
    | none => False
  | _ => False
theorem dc_list : DC X (.type "list") listC := by
  intro pins s σ H M xs ds us Q Qd I mo r rv t q
  unfold listC at t
  split at t
  · rename_i d
    obtain ⟨v, rfl, rd⟩ := rs1 r
    split at t
    · rename_i es he
      obtain ⟨a, ys, rfl, ha, sa⟩ := items_of mo rd he
      exact call_list_of pins s σ H _ us Q I rv ⟨a, ys, rfl, ha, fun l hl => q _ _ (up_new_lst mo hl sa t)⟩
    · exact t.elim
  · exact t.elim
def tupleC : OC := fun ds M Q => match ds with
  | [d] => match itemsO M d with
    | some es => Q (.tup es) M
    | none => False
  | _ => False
theorem dc_tuple : DC X (.type "tuple") tupleC := by
  intro pins s σ H M xs ds us Q Qd I mo r rv t q
  unfold tupleC at t
  split at t
  · rename_i d
    obtain ⟨v, rfl, rd⟩ := rs1 r
    split at t
    · rename_i es he
      unfold itemsO at he
      split at he
      · rename_i es h
        cases he
        obtain ⟨a, ys, rfl, ha, sa⟩ := vw_tup rd h
        exact call_tuple_of pins s σ H _ us Q I rv ⟨a, ys, rfl, .inr ⟨ha.sq, q _ _ (up_same mo t ⟨a, ys, rfl, ha, sa⟩)⟩⟩
      · rename_i es h
        cases he
        obtain ⟨a, ys, rfl, ha, sa⟩ := vw_lst mo rd h
        exact call_tuple_of pins s σ H _ us Q I rv ⟨a, ys, rfl, .inl ⟨SqL.of ha, fun l hl => q _ _ (up_new_tup mo hl sa t)⟩⟩
      · rename_i es h
        cases he
        obtain ⟨a, ys, rfl, ha, sa⟩ := vw_fzn rd h
        exact call_tuple_of pins s σ H _ us Q I rv ⟨a, ys, rfl, .inl ⟨ha.sq, fun l hl => q _ _ (up_new_tup mo hl sa t)⟩⟩
      · cases he
    · exact t.elim
  · exact t.elim
def intC : OC := fun ds M Q => match ds with
  | [d] => match vw M d with
    | .int i => Q (.int i) M
    | .bl b => Q (.int (if b then 1 else 0)) M
    | _ => False
  | _ => False
theorem dc_int : DC X (.type "int") intC := by
  intro pins s σ H M xs ds us Q Qd I mo r rv t q
  unfold intC at t
  split at t
  · rename_i d
    obtain ⟨v, rfl, rd⟩ := rs1 r
    split at t
    · rename_i i h
      exact call_int1 pins s σ H _ us Q I rv (.inl ⟨i, by rw [vw_int rd h], q _ _ (up_same mo t rfl)⟩)
    · rename_i i h
      exact call_int1 pins s σ H _ us Q I rv (.inr ⟨i, by rw [vw_bl rd h], q _ _ (up_same mo t rfl)⟩)
    · exact t.elim
  · exact t.elim
def absC : OC := fun ds M Q => match ds with
  | [d] => match vw M d with
    | .int i => Q (.int (if i < 0 then -i else i)) M
    | _ => False
  | _ => False
theorem dc_abs : DC X (.builtin "abs") absC := by
  intro pins s σ H M xs ds us Q Qd I mo r rv t q
  unfold absC at t
  split at t
  · rename_i d
    obtain ⟨v, rfl, rd⟩ := rs1 r
    split at t
    · rename_i i h
      exact call_abs pins s σ H _ us Q I rv ⟨i, by rw [vw_int rd h], q _ _ (up_same mo t rfl)⟩
    · exact t.elim
  · exact t.elim
def int2C (f : Int → Int → Int) : OC := fun ds M Q => match ds with
  | [d, e] => match vw M d, vw M e with
    | .int i, .int j => Q (.int (f i j)) M
    | _, _ => False
  | _ => False
theorem dc_int2 {id : Value} {f : Int → Int → Int} (h : CallR X id (fun xs H Q => ∃ i j, xs = [.int i, .int j] ∧ Q (.int (f i j)) H)) : DC X id (int2C f) := by
  intro pins s σ H M xs ds us Q Qd I mo r rv t q
  unfold int2C at t
  split at t
  · rename_i d e
    obtain ⟨v, w, rfl, rd, re⟩ := rs2 r
    split at t
    · rename_i i j h1 h2
      exact h pins s σ H _ us Q I rv ⟨i, j, by rw [vw_int rd h1, vw_int re h2], q _ _ (up_same mo t rfl)⟩
    · exact t.elim
  · exact t.elim
theorem dc_max2 (hc : X.calm = true) : DC X (.builtin "max") (int2C fun i j => if j > i then j else i) := dc_int2 (call_max2 hc)
theorem dc_min2 (hc : X.calm = true) : DC X (.builtin "min") (int2C fun i j => if j < i then j else i) := dc_int2 (call_min2 hc)
end
end DL
set_option maxHeartbeats 1000000
namespace DL
open PySem PySem.Spec PyProof.Rows L2
section
variable {X : Cx} {E : XK} {n : Nat} {e a b c o i : Expr} {es : List Expr} {pos p2 : Pos} {ta tb te : TED} {ts : TAD}

/-! ### a built-in's name as a value -/
theorem de_bltn {x : Str} {T : String} (hg : Gl X x) (hm : X.mg x = none) (hv : bootBuiltins x = some (.type T)) (hn : x ≠ "__name__" := by decide) (hd : (x == ("__debug__" : Str)) = false := by decide) : DE X E (.Name x pos) (dC (.ty T)) :=
  de_const (pe_bltn (v := .ty T) hg hm hv rfl hn hd) fun _ _ => rfl
/-- a module's constant, a class, a def, as a value -/
theorem de_glob {x : Str} {d : D} {v : V} {u : Value} (hg : Gl X x) (hm : X.mg x = some u) (r : RelV v u) (rd : ∀ H M, Rv X.K H M d v) (hd : (x == ("__debug__" : Str)) = false := by decide) : DE X E (.Name x pos) (dC d) :=
  de_const (pe_glob hg hm r hd) rd

/-! ### and, or, not, if else -/
def andK (tb : TED) (Xd : XD) (s : SD) (Q : QD) : QD := fun d M => match d with
  | .bl c => if c = true then tb Xd s M Q else Q (.bl false) M
  | _ => False
def orK (tb : TED) (Xd : XD) (s : SD) (Q : QD) : QD := fun d M => match d with
  | .bl c => if c = true then Q (.bl true) M else tb Xd s M Q
  | _ => False
def dAnd (ta tb : TED) : TED := fun Xd s M Q => ta Xd s M (andK tb Xd s Q)
def dOr (ta tb : TED) : TED := fun Xd s M Q => ta Xd s M (orK tb Xd s Q)
def notK (Q : QD) : QD := fun d M => match d with
  | .bl c => Q (.bl (!c)) M
  | _ => False
def dNot (ta : TED) : TED := fun Xd s M Q => ta Xd s M (notK Q)
theorem fwd {K : Fg} {H H1 : Hp} {M M1 : Mem} {Qd : QD} {Q : VK} (g : Gw H M H1 M1) (q : ∀ v H', upE K H M Qd v H' → Q v H') : ∀ v H', upE K H1 M1 Qd v H' → Q v H' :=
  fun v H' ⟨d, M', g', m, r, z⟩ => q v H' ⟨d, M', g.trans g', m, r, z⟩
theorem fwdT {K : Fg} {H H1 : Hp} {M M1 : Mem} {Qd : Bool → Mem → Prop} {Q : Bool → Hp → Prop} (g : Gw H M H1 M1) (q : ∀ v H', upT K H M Qd v H' → Q v H') : ∀ v H', upT K H1 M1 Qd v H' → Q v H' :=
  fun v H' ⟨M', g', m, z⟩ => q v H' ⟨M', g.trans g', m, z⟩
theorem fwdS {K : Fg} {H H1 : Hp} {M M1 : Mem} {Qd : SD → Mem → Prop} {Q : L2.St → Hp → Prop} (g : Gw H M H1 M1) (q : ∀ v H', upS K H M Qd v H' → Q v H') : ∀ v H', upS K H1 M1 Qd v H' → Q v H' :=
  fun v H' ⟨s', M', g', m, z⟩ => q v H' ⟨s', M', g.trans g', m, z⟩
theorem de_one {op} (h : DE X E a ta) : DE X E (.BoolOp op [a] pos) ta := ⟨pe_one h.ok⟩
theorem de_and {rest : List Expr} (ha : DE X E a ta) (hb : DE X E (.BoolOp .And (b :: rest) pos) tb) : DE X E (.BoolOp .And (a :: b :: rest) pos) (dAnd ta tb) :=
  ⟨PE.imp (pe_and ha.ok hb.ok) fun σ H Q ⟨s, M, Qd, Xd, S, x, t, q⟩ => by
    refine useE S x t fun d v M1 H1 g1 S1 x1 r1 t1 => ?_
    unfold andK at t1
    split at t1
    · rename_i c
      refine ⟨c, r1, ?_⟩
      cases c with
      | true => exact ⟨s, M1, Qd, Xd, S1, x1, t1, fwd g1 q⟩
      | false => exact q _ _ ⟨.bl false, M1, g1, S1.mem, rfl, t1⟩
    · exact t1.elim⟩
theorem de_or {rest : List Expr} (ha : DE X E a ta) (hb : DE X E (.BoolOp .Or (b :: rest) pos) tb) : DE X E (.BoolOp .Or (a :: b :: rest) pos) (dOr ta tb) :=
  ⟨PE.imp (pe_or ha.ok hb.ok) fun σ H Q ⟨s, M, Qd, Xd, S, x, t, q⟩ => by
    refine useE S x t fun d v M1 H1 g1 S1 x1 r1 t1 => ?_
    unfold orK at t1
    split at t1
    · rename_i c
      refine ⟨c, r1, ?_⟩
      cases c with
      | true => exact q _ _ ⟨.bl true, M1, g1, S1.mem, rfl, t1⟩
      | false => exact ⟨s, M1, Qd, Xd, S1, x1, t1, fwd g1 q⟩
    · exact t1.elim⟩
theorem de_not (ha : DE X E a ta) : DE X E (.UnaryOp .Not a pos) (dNot ta) :=
  ⟨PE.imp (pe_not ha.ok) fun σ H Q ⟨s, M, Qd, Xd, S, x, t, q⟩ => by
    refine useE S x t fun d v M1 H1 g1 S1 x1 r1 t1 => ?_
    unfold notK at t1
    split at t1
    · rename_i c
      exact ⟨c, r1, q _ _ ⟨.bl (!c), M1, g1, S1.mem, rfl, t1⟩⟩
    · exact t1.elim⟩
def unK (f : Int → Int) (Q : QD) : QD := fun d M => match d with
  | .int i => Q (.int (f i)) M
  | _ => False
def dNeg (ta : TED) : TED := fun Xd s M Q => ta Xd s M (unK (fun i => -i) Q)
theorem de_neg (ha : DE X E a ta) : DE X E (.UnaryOp .USub a pos) (dNeg ta) :=
  ⟨PE.imp (pe_un un_neg ha.ok) fun σ H Q ⟨s, M, Qd, Xd, S, x, t, q⟩ => by
    refine useE S x t fun d v M1 H1 g1 S1 x1 r1 t1 => ?_
    unfold unK at t1
    split at t1
    · rename_i c
      exact ⟨c, r1, q _ _ ⟨.int (-c), M1, g1, S1.mem, rfl, t1⟩⟩
    · exact t1.elim⟩
def dIte (t : TTD) (ta tb : TED) : TED := fun Xd s M Q => t Xd s M fun c M1 => if c = true then ta Xd s M1 Q else tb Xd s M1 Q
theorem de_ite {t : TTD} (hc : DT X E c t) (ha : DE X E a ta) (hb : DE X E b tb) : DE X E (.IfExp c a b pos) (dIte t ta tb) :=
  ⟨PE.imp (pe_ifExp hc.ok ha.ok hb.ok) fun σ H Q ⟨s, M, Qd, Xd, S, x, z, q⟩ => by
    refine useT S x z fun k M1 H1 g1 S1 x1 t1 => ?_
    cases k with
    | true => exact ⟨s, M1, Qd, Xd, S1, x1, t1, fwd g1 q⟩
    | false => exact ⟨s, M1, Qd, Xd, S1, x1, t1, fwd g1 q⟩⟩

/-! ### tests -/
structure DW (X : Cx) (E : XK) (e : Expr) (t : TTD) : Prop where
  ok : PW X e (liftT X.K E t)
theorem DW.dt {t : TTD} (h : DW X E e t) : DT X E e t := ⟨h.ok.pt⟩
def tAndD (t u : TTD) : TTD := fun Xd s M Q => t Xd s M fun c M1 => if c = true then u Xd s M1 Q else Q false M1
def tOrD (t u : TTD) : TTD := fun Xd s M Q => t Xd s M fun c M1 => if c = true then Q true M1 else u Xd s M1 Q
def tNotD (t : TTD) : TTD := fun Xd s M Q => t Xd s M fun c M1 => Q (!c) M1
theorem dw_and1 {t : TTD} (h : DT X E a t) : DW X E (.BoolOp .And [a] pos) t := ⟨pw_and1 h.ok⟩
theorem dw_or1 {t : TTD} (h : DT X E a t) : DW X E (.BoolOp .Or [a] pos) t := ⟨pw_or1 h.ok⟩
theorem dw_and {t u : TTD} {rest : List Expr} (ha : DT X E a t) (hb : DW X E (.BoolOp .And (b :: rest) pos) u) : DW X E (.BoolOp .And (a :: b :: rest) pos) (tAndD t u) :=
  ⟨PW.imp (pw_and ha.ok hb.ok) fun σ H Q ⟨s, M, Qd, Xd, S, x, z, q⟩ => by
    refine useT S x z fun k M1 H1 g1 S1 x1 t1 => ?_
    cases k with
    | true => exact ⟨s, M1, Qd, Xd, S1, x1, t1, fwdT g1 q⟩
    | false => exact q _ _ ⟨M1, g1, S1.mem, t1⟩⟩
theorem dw_or {t u : TTD} {rest : List Expr} (ha : DT X E a t) (hb : DW X E (.BoolOp .Or (b :: rest) pos) u) : DW X E (.BoolOp .Or (a :: b :: rest) pos) (tOrD t u) :=
  ⟨PW.imp (pw_or ha.ok hb.ok) fun σ H Q ⟨s, M, Qd, Xd, S, x, z, q⟩ => by
    refine useT S x z fun k M1 H1 g1 S1 x1 t1 => ?_
    cases k with
    | true => exact q _ _ ⟨M1, g1, S1.mem, t1⟩
    | false => exact ⟨s, M1, Qd, Xd, S1, x1, t1, fwdT g1 q⟩⟩
theorem dt_not {t : TTD} (h : DT X E a t) : DT X E (.UnaryOp .Not a pos) (tNotD t) :=
  ⟨PT.imp (pt_not h.ok) fun σ H Q ⟨s, M, Qd, Xd, S, x, z, q⟩ => useT S x z fun k M1 H1 g1 S1 x1 t1 => q _ _ ⟨M1, g1, S1.mem, t1⟩⟩
/-- a value's truth -/
def truO (M : Mem) (d : D) : Option Bool := match vw M d with
  | .non => some false
  | .bl b => some b
  | .int i => some (i != 0)
  | .str x => if x.length ≤ sizeLine then some ((x.length : Int) != 0) else none
  | .tup ds => some (!ds.isEmpty)
  | .lst ds => some (!ds.isEmpty)
  | .fzn ds => some (!ds.isEmpty)
  | _ => none
def truK (Q : Bool → Mem → Prop) : QD := fun d M => match truO M d with
  | some b => Q b M
  | none => False
def dTru (t : TED) : TTD := fun Xd s M Q => t Xd s M (truK Q)
theorem emp_of {K : Fg} {H : Hp} {M : Mem} {ds : List D} {xs : List V} (r : Rs K H M ds xs) : xs.isEmpty = ds.isEmpty := by
  have h := Rs.len r
  cases ds with
  | nil =>
    have e : xs = [] := List.eq_nil_of_length_eq_zero (by simpa using h.symm)
    subst e
    rfl
  | cons d ds =>
    cases xs with
    | nil => simp at h
    | cons x xs => rfl
theorem dt_tru (h : DE X E a ta) (he : ∀ whole, isTrue a X.env whole = (do let v ← whole; standAt a.pos; holding [v] (truthy v)) := by intro _; rfl) : DT X E a (dTru ta) :=
  ⟨PT.imp (pt_truth h.ok he) fun σ H Q ⟨s, M, Qd, Xd, S, x, z, q⟩ => by
    refine useE S x z fun d v M1 H1 g1 S1 x1 r1 t1 => ?_
    unfold truK at t1
    split at t1
    · rename_i k hk
      refine ⟨k, ?_, q k H1 ⟨M1, g1, S1.mem, t1⟩⟩
      unfold truO at hk
      split at hk
      · rename_i h; cases hk; rw [vw_non r1 h]; exact rfl
      · rename_i b h; cases hk; rw [vw_bl r1 h]; exact rfl
      · rename_i b h; cases hk; rw [vw_int r1 h]; exact rfl
      · rename_i b h
        split at hk
        · rename_i hz; cases hk; rw [vw_str r1 h]; exact ⟨hz, rfl⟩
        · cases hk
      · rename_i ds h
        cases hk
        obtain ⟨p, ys, rfl, ha, sa⟩ := vw_tup r1 h
        exact .inr (.inl ⟨ys, ha.sq, by rw [emp_of sa]⟩)
      · rename_i ds h
        cases hk
        obtain ⟨p, ys, rfl, ha, sa⟩ := vw_lst S1.mem r1 h
        exact .inl ⟨ys, SqL.of ha, by rw [emp_of sa]⟩
      · rename_i ds h
        cases hk
        obtain ⟨p, ys, rfl, ha, sa⟩ := vw_fzn r1 h
        exact .inl ⟨ys, ha.sq, by rw [emp_of sa]⟩
      · cases hk
    · exact t1.elim⟩
/-- a op1 b op2 c -/
def chK (o : O2) (y : D) (tc : TED) (Xd : XD) (s : SD) (Q : QD) : QD := fun d M => match d with
  | .bl k => if k = true then tc Xd s M fun z M2 => o y z M2 Q else Q (.bl false) M
  | _ => False
def dChain (o o' : O2) (ta tb tc : TED) : TED := fun Xd s M Q => ta Xd s M fun x M1 => tb Xd s M1 fun y M2 => o x y M2 (chK o' y tc Xd s Q)
theorem lift_chain {o1 o2 : O2} {r r' : R2} {tc : TED} (hr : ∀ {x y : V} {H : Hp} {Q : VK} {M : Mem} {dx dy : D} {Qd : QD}, MOk X.K H M → Rv X.K H M dx x → Rv X.K H M dy y → o1 dx dy M Qd → (∀ v H', upE X.K H M Qd v H' → Q v H') → r x y H Q)
    (hr' : ∀ {x y : V} {H : Hp} {Q : VK} {M : Mem} {dx dy : D} {Qd : QD}, MOk X.K H M → Rv X.K H M dx x → Rv X.K H M dy y → o2 dx dy M Qd → (∀ v H', upE X.K H M Qd v H' → Q v H') → r' x y H Q)
    {σ : L2.St} {H : Hp} {Q : VK} (z : liftE X.K E (dChain o1 o2 ta tb tc) σ H Q) : tChain r r' (liftE X.K E ta) (liftE X.K E tb) (liftE X.K E tc) σ H Q := by
  obtain ⟨s, M, Qd, Xd, S, x, t, q⟩ := z
  refine useE S x t fun dx v M1 H1 g1 S1 x1 r1 t1 => ?_
  refine useE S1 x1 t1 fun dy u M2 H2 g2 S2 x2 r2 t2 => ?_
  refine hr S2.mem (Rv.grow g2 _ _ r1) r2 t2 fun w H' ⟨d, M', g, m, rd, z⟩ => ?_
  unfold chK at z
  split at z
  · rename_i k
    refine ⟨k, rd, ?_⟩
    cases k with
    | false => exact q _ _ ⟨.bl false, M', (g1.trans g2).trans g, m, rfl, z⟩
    | true =>
      refine useE (S2.grow g m) (x2.grow g) z fun dz w M3 H3 g3 S3 x3 r3 t3 => ?_
      exact hr' S3.mem (Rv.grow g3 _ _ (Rv.grow g _ _ r2)) r3 t3 (fwd (((g1.trans g2).trans g).trans g3) q)
  · exact z.elim
theorem de_chain {op op' : CmpOp} {o1 o2 : O2} {tc : TED} (h : DOp X (compareOp op) o1) (h' : DOp X (compareOp op') o2) (ha : DE X E a ta) (hb : DE X E b tb) (hc : DE X E c tc) (hm : lastMarks [op, op'] [b, c] = false := by with_unfolding_all rfl) :
    DE X E (.Compare a [op, op'] [b, c] pos) (dChain o1 o2 ta tb tc) :=
  ⟨PE.imp (pe_chain h.toR h'.toR ha.ok hb.ok hc.ok hm) fun σ H Q z => lift_chain (fun mo r1 r2 t q => ⟨_, _, _, _, mo, r1, r2, t, q⟩) (fun mo r1 r2 t q => ⟨_, _, _, _, mo, r1, r2, t, q⟩) z⟩
theorem dt_chain {op op' : CmpOp} {o1 o2 : O2} {tc : TED} (h : DOp X (compareOp op) o1) (h' : DOp X (compareOp op') o2) (ha : DE X E a ta) (hb : DE X E b tb) (hc : DE X E c tc) (hm : lastMarks [op, op'] [b, c] = false := by with_unfolding_all rfl) :
    DT X E (.Compare a [op, op'] [b, c] pos) (dTst (dChain o1 o2 ta tb tc)) :=
  ⟨PT.imp (pt_chain h.toR h'.toR ha.ok hb.ok hc.ok hm) fun σ H Q z => lift_chain (fun mo r1 r2 t q => ⟨_, _, _, _, mo, r1, r2, t, q⟩) (fun mo r1 r2 t q => ⟨_, _, _, _, mo, r1, r2, t, q⟩) (liftB z)⟩

/-! ### subscripts -/
def valD (ks : List Key) (ds : List D) (k : Key) : Option D := ((ks.zip ds).find? fun kv => decide (kv.1 = k)).map (·.2)
def keyD : D → Option Key
  | .int i => some (.inl i)
  | .str x => some (.inr x)
  | _ => none
theorem zip_val {K : Fg} {H : Hp} {M : Mem} (k : Key) : ∀ {ks : List Key} {ds : List D} {xs : List V}, Rs K H M ds xs → ∀ {d : D}, valD ks ds k = some d → ∃ v, valV (ks.zip xs) k = some v ∧ Rv K H M d v
  | [], ds, xs, r, d, e => by cases e
  | j :: ks, [], xs, r, d, e => by
    have : valD (j :: ks) [] k = none := rfl
    rw [this] at e; cases e
  | j :: ks, d0 :: ds, _, ⟨v, rr, rfl, h, q⟩, d, e => by
    by_cases hj : j = k
    · have e1 : valD (j :: ks) (d0 :: ds) k = some d0 := by
        unfold valD
        rw [List.zip_cons_cons, List.find?_cons]
        simp [hj]
      rw [e1] at e; cases e
      exact ⟨v, by rw [List.zip_cons_cons]; exact valV_pos hj, h⟩
    · have e1 : valD (j :: ks) (d0 :: ds) k = valD ks ds k := by
        unfold valD
        rw [List.zip_cons_cons, List.find?_cons]
        simp [hj]
      rw [e1] at e
      obtain ⟨w, h1, h2⟩ := zip_val k q e
      exact ⟨w, by rw [List.zip_cons_cons, valV_neg hj]; exact h1, h2⟩
theorem zip_none {K : Fg} {H : Hp} {M : Mem} (k : Key) : ∀ {ks : List Key} {ds : List D} {xs : List V}, Rs K H M ds xs → (valV (ks.zip xs) k).isSome = (valD ks ds k).isSome
  | [], ds, xs, r => rfl
  | j :: ks, [], xs, r => by
    have e : xs = [] := r
    subst e; rfl
  | j :: ks, d0 :: ds, _, ⟨v, rr, rfl, h, q⟩ => by
    by_cases hj : j = k
    · have e1 : valD (j :: ks) (d0 :: ds) k = some d0 := by
        unfold valD
        rw [List.zip_cons_cons, List.find?_cons]
        simp [hj]
      rw [e1, List.zip_cons_cons, valV_pos hj]; rfl
    · have e1 : valD (j :: ks) (d0 :: ds) k = valD ks ds k := by
        unfold valD
        rw [List.zip_cons_cons, List.find?_cons]
        simp [hj]
      rw [e1, List.zip_cons_cons, valV_neg hj]
      exact zip_none k q
theorem key_of_d {K : Fg} {H : Hp} {M : Mem} {d : D} {k : Key} {v : V} (r : Rv K H M d v) (e : keyD d = some k) : v = kV k := by
  cases d with
  | int i => have e' : some (Sum.inl i) = some k := e; cases e'; exact r
  | str x => have e' : some (Sum.inr x) = some k := e; cases e'; exact r
  | _ => cases e
theorem ix_dict (hu : X.A.units + 1 < cLine) : IxR X (fun x y H Q => ∃ a v, x = .ref a ∧ DGet H a y (some v) ∧ Q v H) := by
  intro value slice pins s σ H x y v u Q I rx ry h hs
  obtain ⟨p, w, rfl, g, q⟩ := h
  cases rx
  exact tail_any (dict_typeIs I g) PySem.F.slot_dict_getitem.lookup (d_getItem hu I g ry fun w' s3 I3 rw' => ⟨w, H, I3, rw', q⟩) hs
def ixO (M : Mem) (x y : D) : Option D := match vw M x with
  | .tup ds => match y with
    | .int i => atI ds i
    | _ => none
  | .lst ds => match y with
    | .int i => atI ds i
    | _ => none
  | .fzn ds => match y with
    | .int i => atI ds i
    | _ => none
  | .dct ks ds => match keyD y with
    | some k => valD ks ds k
    | none => none
  | .str z => match y with
    | .int i => if z.length ≤ sizeLine then (atI z.cps.toList i).map fun c => .str ⟨#[c]⟩ else none
    | _ => none
  | _ => none
def ixD : O2 := fun x y M Q => match ixO M x y with
  | some d => Q d M
  | none => False
theorem atI_rs {K : Fg} {H : Hp} {M : Mem} {ds : List D} {xs : List V} {i : Int} {d : D} (r : Rs K H M ds xs) (e : atI ds i = some d) : ∃ v, atI xs i = some v ∧ Rv K H M d v := by
  unfold atI at e ⊢
  rw [← Rs.len r]
  cases q : ixN ds.length i with
  | none => rw [q] at e; cases e
  | some j =>
    rw [q] at e
    exact Rs.get r e
theorem de_ix (hu : X.A.units + 1 < cLine) (ha : DE X E a ta) (hb : DE X E b tb) (hs : PlainIx b) : DE X E (.Subscript a b pos) (dOp ixD ta tb) :=
  ⟨PE.imp (pe_ix (ix_seq.or (ix_dict hu)) ha.ok hb.ok hs) fun σ H Q z => lift2 (fun {x y H Q M dx dy Qd} mo r1 r2 t q => by
    unfold ixD at t
    split at t
    · rename_i d hd
      unfold ixO at hd
      split at hd
      · rename_i ds h
        split at hd
        · rename_i i
          obtain ⟨p, xs, rfl, hp, sp⟩ := vw_tup r1 h
          obtain ⟨v, hv, rv⟩ := atI_rs sp hd
          exact .inl (.inr (.inl ⟨p, xs, i, v, rfl, r2, hp.sq, hv, q _ _ ⟨d, M, Gw.refl, mo, rv, t⟩⟩))
        · cases hd
      · rename_i ds h
        split at hd
        · rename_i i
          obtain ⟨p, xs, rfl, hp, sp⟩ := vw_lst mo r1 h
          obtain ⟨v, hv, rv⟩ := atI_rs sp hd
          exact .inl (.inl ⟨p, xs, i, v, rfl, r2, SqL.of hp, hv, q _ _ ⟨d, M, Gw.refl, mo, rv, t⟩⟩)
        · cases hd
      · rename_i ds h
        split at hd
        · rename_i i
          obtain ⟨p, xs, rfl, hp, sp⟩ := vw_fzn r1 h
          obtain ⟨v, hv, rv⟩ := atI_rs sp hd
          exact .inl (.inl ⟨p, xs, i, v, rfl, r2, hp.sq, hv, q _ _ ⟨d, M, Gw.refl, mo, rv, t⟩⟩)
        · cases hd
      · rename_i ks ds h
        split at hd
        · rename_i k hk
          obtain ⟨p, xs, rfl, hp, hl, sp⟩ := vw_dct mo r1 h
          obtain ⟨v, hv, rv⟩ := zip_val k sp hd
          refine .inr ⟨p, v, rfl, ?_, q _ _ ⟨d, M, Gw.refl, mo, rv, t⟩⟩
          rw [key_of_d r2 hk, ← hv]
          exact DGet.k hp
        · cases hd
      · rename_i z h
        split at hd
        · rename_i i
          split at hd
          · rename_i hz
            cases hc : atI z.cps.toList i with
            | none => rw [hc] at hd; cases hd
            | some c =>
              rw [hc] at hd
              cases hd
              exact .inl (.inr (.inr ⟨z, i, c, vw_str r1 h, r2, hz, hc, q _ _ ⟨.str ⟨#[c]⟩, M, Gw.refl, mo, rfl, t⟩⟩))
          · cases hd
        · cases hd
      · cases hd
    · exact t.elim) z⟩
end
end DL
set_option maxHeartbeats 1000000
namespace DL
open PySem PySem.Spec PyProof.Rows L2

/-! ### defs -/
structure RoomG (k : Nat) (A : Around) : Prop where
  r : Room k A
  g : A.guards = some []
theorem RoomG.mono {j k : Nat} {A : Around} (h : RoomG k A) (le : j ≤ k) : RoomG j A := ⟨h.r.mono le, h.g⟩
theorem RoomG.deeper {k : Nat} {A : Around} (h : RoomG (k + 1) A) (env : Env) : RoomG k (A.deeper env) := ⟨h.r.deeper env, h.g⟩
abbrev SpD := List D → Mem → QD → XD → Prop
structure DFn (P : Program) (w : World) (K : Fg) (mg : Str → Option Value) (base : Heap) (k : Nat) (f : Addr) (fd : FuncData) (ps : List Str) (sp : SpD) : Prop where
  run : ∀ (A : Around) (outer : List Env) (s : Shared) (H : Hp) (M : Mem) (args : Args) (us : List Value) (vs : List V) (ds : List D) (Qd : QD) (Xd : XD) (Q : VK) (E : XK), RoomG k A → Env0 P w K mg base A outer s H → ds.length = ps.length → BindsTo s fd args (ps.zip us) → Vals vs us → MOk K H M → Rs K H M ds vs →
    sp ds M Qd Xd → (∀ v H', upE K H M Qd v H' → Q v H') → XTo K H M Xd E → codeAny (model P w) A (.call (.ref f) args) (CR (L2.CX P w) outer P w H s Q E) s
theorem DFn.mono {P : Program} {w : World} {K : Fg} {mg : Str → Option Value} {base : Heap} {j k : Nat} {f : Addr} {fd : FuncData} {ps : List Str} {sp : SpD} (F : DFn P w K mg base j f fd ps sp) (h : j ≤ k) : DFn P w K mg base k f fd ps sp :=
  ⟨fun A outer s H M args us vs ds Qd Xd Q E hr => F.run A outer s H M args us vs ds Qd Xd Q E (hr.mono h)⟩
theorem DFn.imp {P : Program} {w : World} {K : Fg} {mg : Str → Option Value} {base : Heap} {k : Nat} {f : Addr} {fd : FuncData} {ps : List Str} {sp sp' : SpD} (F : DFn P w K mg base k f fd ps sp) (h : ∀ ds M Q Xd, sp' ds M Q Xd → sp ds M Q Xd) : DFn P w K mg base k f fd ps sp' :=
  ⟨fun A outer s H M args us vs ds Qd Xd Q E hr e0 hl hb hv mo rs t => F.run A outer s H M args us vs ds Qd Xd Q E hr e0 hl hb hv mo rs (h _ _ _ _ t)⟩

/-- the result may be read as other data, of less that is owned -/
structure Le (M M2 : Mem) (d d2 : D) : Prop where
  sub : ∀ a o, M2 a = some o → M a = some o
  nn : ∀ a, M a = none → M2 a = none
  rv : ∀ (K : Fg) (H : Hp) (v : V), MOk K H M → Rv K H M d v → Rv K H M2 d2 v
def Lo (Q : QD) : QD := fun d M => ∃ d2 M2, Le M M2 d d2 ∧ Q d2 M2
theorem Le.refl {M : Mem} {d : D} : Le M M d d := ⟨fun _ _ h => h, fun _ h => h, fun _ _ _ _ h => h⟩
theorem lo_same {Q : QD} {d : D} {M : Mem} (h : Q d M) : Lo Q d M := ⟨d, M, .refl, h⟩
/-- drop what is owned at a -/
theorem lo_drop {Q : QD} {d : D} {M : Mem} (a : Addr) (h : Lo Q d (M.del a)) : Lo Q d M := by
  obtain ⟨d2, M2, l, q⟩ := h
  have hs : ∀ b o, (M.del a) b = some o → M b = some o := fun b o e => by
    by_cases z : b = a
    · subst z; rw [Mem.del_same] at e; cases e
    · rw [Mem.del_ne z] at e; exact e
  have hn : ∀ b, M b = none → (M.del a) b = none := fun b e => by
    by_cases z : b = a
    · subst z; exact Mem.del_same
    · rw [Mem.del_ne z]; exact e
  exact ⟨d2, M2, ⟨fun b o e => hs b o (l.sub b o e), fun b e => l.nn b (hn b e), fun K H v mo r => l.rv K H v (mok_less hs hn mo) (Rv.grow (gw_less hn) d v r)⟩, q⟩
/-- freeze the list that is handed back -/
theorem lo_frz {Q : QD} {M : Mem} {a : Addr} {ds : List D} (e : M a = some (.lst ds)) (h : Lo Q (.lst ds) (M.del a)) : Lo Q (.ref a) M := by
  obtain ⟨d2, M2, l, q⟩ := h
  have hs : ∀ b o, (M.del a) b = some o → M b = some o := fun b o e => by
    by_cases z : b = a
    · subst z; rw [Mem.del_same] at e; cases e
    · rw [Mem.del_ne z] at e; exact e
  have hn : ∀ b, M b = none → (M.del a) b = none := fun b e => by
    by_cases z : b = a
    · subst z; exact Mem.del_same
    · rw [Mem.del_ne z]; exact e
  refine ⟨d2, M2, ⟨fun b o e => hs b o (l.sub b o e), fun b e => l.nn b (hn b e), fun K H v mo r => ?_⟩, q⟩
  obtain ⟨xs, h1, h2⟩ := mo a _ e
  exact l.rv K H v (mok_less hs hn mo) ⟨a, xs, r, h1, Mem.del_same, Rs.grow (gw_less hn) ds xs h2⟩
theorem Le.up {K : Fg} {H H' : Hp} {M M1 M2 : Mem} {d d2 : D} {v : V} {Q : QD} (l : Le M1 M2 d d2) (g : Gw H M H' M1) (m : MOk K H' M1) (r : Rv K H' M1 d v) (q : Q d2 M2) : upE K H M Q v H' :=
  ⟨d2, M2, g.trans (gw_less l.nn), mok_less l.sub l.nn m, l.rv K H' v m r, q⟩

/-- the names' values at the entry, as data -/
def startD (N : List Str) (ds : List D) : SD := ds.map some ++ List.replicate (N.length - ds.length) none
theorem start_ok {K : Fg} {H : Hp} {M : Mem} {N : List Str} {ds : List D} {vs : List V} (mo : MOk K H M) (r : Rs K H M ds vs) : StOk K (L2.start N vs) H (startD N ds) M := by
  have hl := Rs.len r
  refine ⟨by unfold L2.start startD; rw [List.length_append, List.length_append, List.length_map, List.length_map, List.length_replicate, List.length_replicate, hl], fun i d e => ?_, mo⟩
  unfold startD at e
  by_cases hi : i < ds.length
  · rw [List.getElem?_append_left (by simpa using hi), List.getElem?_map] at e
    cases q : ds[i]? with
    | none => rw [q] at e; cases e
    | some d' =>
      rw [q] at e
      cases e
      obtain ⟨v, h1, h2⟩ := Rs.get r q
      refine ⟨v, ?_, h2⟩
      unfold L2.start
      rw [List.getElem?_append_left (by rw [List.length_map, ← hl]; exact hi), List.getElem?_map, h1]
      rfl
  · rw [List.getElem?_append_right (by simpa using hi), List.getElem?_replicate] at e
    split at e <;> cases e

/-- a def's body, read as td, keeps sp -/
def bodyD (td : TSD) (N : List Str) : SpD := fun ds M Q Xd => td { nx := fun _ M' => Lo Q .non M', rt := Lo Q, bk := fun _ _ => False, ct := fun _ _ => False, ex := Xd } (startD N ds) M
theorem dfn_of {P : Program} {w : World} {K : Fg} {mg : Str → Option Value} {base : Heap} {x qual : Str} {st : Stmt} {f : Addr} {fd : FuncData} {N ps : List Str} {k : Nat} {td : TSD} (F : Fun K x qual st f fd) (S : FnScope N ps (defScope st))
    (hbody : ∀ (cdv : Value) (A : Around) (outer : List Env) (s : Shared) (H : Hp) (E : XK), RoomG k (A.deeper (envOfC qual (defScope st) s.heap.objs.size f cdv)) →
      DSs (cxOf (L2.CX P w) P w K mg base N qual (defScope st) f cdv A outer s H E) E (defBody st) td) : DFn P w K mg base (k + 1) f fd ps (bodyD td N) := by
  obtain ⟨oc, od, kV, doc, pm, an, cdv, ct, osl, rfl, lk, hcd⟩ := F.ex
  refine ⟨fun A outer s H M args us vs ds Qd Xd Q E hr e0 hlen hb r mo rs hsp hq hx => ?_⟩
  have hl : vs.length = ps.length := (vlen rs).trans hlen
  have KX : K.In s.heap := e0.mod.kin.keeps fun b o e => (e0.bs b o e).1
  have lim : s.heap.NoLimit := e0.mod.nolimit.keeps fun b o e => (e0.bs b o e).1
  have hkind : ∀ y ∈ ps.zip us, (defScope st).names.lookup y.1 = some .local ∨ ((defScope st).names.lookup y.1 = some .cell ∧ ((cellsFrom (s.heap.objs.size + 1) (defScope st).names []).lookup y.1).isSome = true) := fun ⟨n, v⟩ hy => by
    rcases S.par n (List.of_mem_zip hy).1 with q | q
    · exact .inl q
    · exact .inr ⟨q, PySem.W.cellsFrom_some _ _ _ (.inl q)⟩
  refine codeAny_call_function hr.r.depth (KX _ _ lk) rfl S.co S.gen rfl (PySem.W.codeRec_of KX hcd) (hb _ _ _ _ ?_)
  refine wpAny_newFunctionEnv_cells S.kind hkind fun env he s1 x => ?_
  subst he
  refine ⟨lim.keeps x.toInCall.keep, codeAny_func ?_⟩
  have ht := hbody cdv A outer s H E (hr.deeper _)
  have I : Inv (cxOf (L2.CX P w) P w K mg base N qual (defScope st) f cdv A outer s H E) [] (L2.start N vs) H s1 := inv_start S hr.r.hd e0 hl r x
  refine wpAny_mono (ht.ok.run [] s1 (L2.start N vs) H { nx := fun _ H' => Q .non H', rt := Q } I ?_) (fun fl s' hs => ?_) fun e s' hs => hs
  · refine ⟨startD N ds, M, { nx := fun _ M' => Lo Qd .non M', rt := Lo Qd, bk := fun _ _ => False, ct := fun _ _ => False, ex := Xd }, start_ok mo rs, hx, hsp, fun σ' H' ⟨s', M', g, S', q⟩ => ?_, fun v H' ⟨d, M', g, m, rd, q⟩ => ?_, fun σ' H' ⟨s', M', g, S', q⟩ => q.elim, fun σ' H' ⟨s', M', g, S', q⟩ => q.elim⟩
    · obtain ⟨d2, M2, l, q⟩ := q
      exact hq _ _ (l.up g S'.mem rfl q)
    · obtain ⟨d2, M2, l, q⟩ := q
      exact hq _ _ (l.up g m rd q)
  have fin : ∀ {σ' : L2.St} {H' : Hp} {v : V} {u : Value}, Inv (cxOf (L2.CX P w) P w K mg base N qual (defScope st) f cdv A outer s H E) [] σ' H' s' → RelV v u → Q v H' → CE outer P w H s Q u s' :=
    fun {σ' H' v u} J rv q => ⟨v, H', J.os, J.bare, J.base, J.hok, rv, q⟩
  cases fl with
  | ret u =>
    obtain ⟨v, σ', H', J, rv, q⟩ := hs
    exact fin J rv q
  | next =>
    obtain ⟨σ', H', J, q⟩ := hs
    exact fin (v := V.non) (u := Value.none) J rfl q
  | brk =>
    obtain ⟨_, _, _, q⟩ := hs
    exact False.elim q
  | cont =>
    obtain ⟨_, _, _, q⟩ := hs
    exact False.elim q

section
variable {X : Cx} {E : XK} {n k : Nat} {f : Addr} {fd : FuncData} {ps : List Str} {sp : SpD} {ds0 : List Value} {dvs : List V} {dd : List D} {x : Str} {p pos : Pos} {e a b c : Expr} {es : List Expr} {ts : TAD} {te ta tb : TED}
theorem run_fnD {pins : List (Addr × Obj)} {σ : L2.St} {H : Hp} {M : Mem} {s : Shared} {Q : VK} {Qd : QD} {Xd : XD} {us : List Value} {vs : List V} {ds : List D} (F : DFn X.prog X.w X.K X.mg X.base k f fd ps sp) (hr : RoomG k X.A) (hb : Binds X.K fd ps ds0) (hd : Vals dvs ds0) (hx : Passes (L2.CX X.prog X.w) X E)
    (I : Inv X pins σ H s) (r : Vals vs us) (mo : MOk X.K H M) (rs : Rs X.K H M ds vs) (rd : Rs X.K H M dd dvs) (hlen : (ds ++ dd).length = ps.length) (h : sp (ds ++ dd) M Qd Xd) (q : ∀ v H', upE X.K H M Qd v H' → Q v H') (xt : XTo X.K H M Xd E) :
    wpAny (model X.prog X.w) X.A (call (.ref f) us) (EP X pins σ Q) X.xe s := by
  have r2 : Vals (vs ++ dvs) (us ++ ds0) := r.append hd
  have hl : (us ++ ds0).length = ps.length := by rw [← r2.length, ← hlen]; exact vlen (Rs.append rs rd)
  refine wpAny_call (codeAny_mono (F.run X.A X.stack s H M ⟨us, []⟩ (us ++ ds0) (vs ++ dvs) (ds ++ dd) Qd Xd Q E hr I.env0 hlen (hb s us I.kIn hl) r2 mo (Rs.append rs rd) h q xt) fun r s' hq => ?_)
  cases r with
  | error e => exact hx pins σ H s e s' I hq
  | ok fl =>
    cases fl with
    | ret u => exact I.after hq
    | next => exact False.elim hq
    | brk => exact False.elim hq
    | cont => exact False.elim hq
def dCall (sp : SpD) (dd : List D) (t : TAD) : TED := fun Xd s M Q => t Xd s M fun ds M1 => sp (ds ++ dd) M1 Q Xd
theorem de_call (F : DFn X.prog X.w X.K X.mg X.base k f fd ps sp) (hr : RoomG k X.A) (hg : Gl X x) (hm : X.mg x = some (.ref f)) (hk : PySem.W.keepIn X.K (.ref f) = true) (hb : Binds X.K fd ps ds0) (hd : Vals dvs ds0) (rd : ∀ H M, Rs X.K H M dd dvs) (hx : Passes (L2.CX X.prog X.w) X E)
    (ha : DN X E n (e :: es) ts) (hn : n + dvs.length = ps.length := by rfl) (hdb : (x == ("__debug__" : Str)) = false := by decide) (he : starEach (e :: es) X.env = (false, eval e X.env) :: starEach es X.env := by rfl) (hpl : (backTo pos (starEach es X.env)).any (·.1) = false := by rfl) :
    DE X E (.Call (.Name x p) (e :: es) [] pos) (dCall sp dd ts) := by
  refine ⟨⟨fun pins s σ H Q I ⟨sd, M, Qd, Xd, S, xt, t, q⟩ => ?_⟩⟩
  refine wpAny_Call_Name_kw (ld_glob I hg hm ?_ hdb)
  refine PySem.W.callWith_K (h₀ := X.base) I.ok.mod.kin hk (thn (ha.ok.run pos pins s σ H _ I (useN (n := n) (Q := fun vs H1 => vs.length = n ∧ ∃ ds M1, Gw H M H1 M1 ∧ StOk X.K σ H1 sd M1 ∧ XTo X.K H1 M1 Xd E ∧ Rs X.K H1 M1 ds vs ∧ sp (ds ++ dd) M1 Qd Xd) S xt t
    fun ds vs M1 H1 hl g1 S1 x1 r1 t1 => ⟨hl, ds, M1, g1, S1, x1, r1, t1⟩)) fun us s1 ⟨vs, H1, I1, r, hl, ds, M1, g1, S1, x1, r1, t1⟩ => ⟨I1.kIn, ?_⟩) he hpl
  refine run_fnD F hr hb hd hx I1 r S1.mem r1 (rd H1 M1) ?_ t1 (fwd g1 q) x1
  have h1 : ds.length = n := by rw [Rs.len r1, hl]
  have h2 : dd.length = dvs.length := Rs.len (rd H1 M1)
  rw [List.length_append, h1, h2]
  exact hn
theorem de_call0 (F : DFn X.prog X.w X.K X.mg X.base k f fd ps sp) (hr : RoomG k X.A) (hg : Gl X x) (hm : X.mg x = some (.ref f)) (hk : PySem.W.keepIn X.K (.ref f) = true) (hb : Binds X.K fd ps ds0) (hd : Vals dvs ds0) (rd : ∀ H M, Rs X.K H M dd dvs) (hx : Passes (L2.CX X.prog X.w) X E)
    (hn : dvs.length = ps.length := by rfl) (hdb : (x == ("__debug__" : Str)) = false := by decide) : DE X E (.Call (.Name x p) [] [] pos) (dCall sp dd dNil) := by
  refine ⟨⟨fun pins s σ H Q I ⟨sd, M, Qd, Xd, S, xt, t, q⟩ => ?_⟩⟩
  refine wpAny_Call_Name_kw (ld_glob I hg hm ?_ hdb)
  refine PySem.W.callWith_K0 I.kIn hk (run_fnD (us := []) (vs := []) (ds := []) F hr hb hd hx I .nil S.mem rfl (rd H M) ?_ t q xt)
  rw [List.nil_append, Rs.len (rd H M)]
  exact hn

/-! ### statements -/
theorem fwdE {K : Fg} {H H1 : Hp} {M M1 : Mem} {Y : EndsD} {Z : Ends} (g : Gw H M H1 M1)
    (h : (∀ σ' H', upS K H M Y.nx σ' H' → Z.nx σ' H') ∧ (∀ v H', upE K H M Y.rt v H' → Z.rt v H') ∧ (∀ σ' H', upS K H M Y.bk σ' H' → Z.bk σ' H') ∧ (∀ σ' H', upS K H M Y.ct σ' H' → Z.ct σ' H')) :
    (∀ σ' H', upS K H1 M1 Y.nx σ' H' → Z.nx σ' H') ∧ (∀ v H', upE K H1 M1 Y.rt v H' → Z.rt v H') ∧ (∀ σ' H', upS K H1 M1 Y.bk σ' H' → Z.bk σ' H') ∧ (∀ σ' H', upS K H1 M1 Y.ct σ' H' → Z.ct σ' H') :=
  ⟨fwdS g h.1, fwd g h.2.1, fwdS g h.2.2.1, fwdS g h.2.2.2⟩
theorem upS_here {K : Fg} {σ : L2.St} {H : Hp} {M : Mem} {s : SD} {Q : SD → Mem → Prop} (S : StOk K σ H s M) (q : Q s M) : upS K H M Q σ H := ⟨s, M, Gw.refl, S, q⟩
variable {st : Stmt} {rest body orelse : List Stmt} {t u : TSD}
def sNx : TSD := fun Y s M => Y.nx s M
def sSeq (t u : TSD) : TSD := fun Y s M => t { Y with nx := u Y } s M
theorem dss_nil : DSs X E [] sNx := ⟨PSs.imp pss_nil fun Z σ H ⟨s, M, Y, S, x, t, h⟩ => h.1 _ _ (upS_here S t)⟩
theorem dss_cons (h1 : DS X E st t) (h2 : DSs X E rest u) : DSs X E (st :: rest) (sSeq t u) :=
  ⟨PSs.imp (pss_cons h1.ok h2.ok) fun Z σ H ⟨s, M, Y, S, x, z, h⟩ => by
    refine ⟨s, M, { Y with nx := u Y }, S, x, z, fun σ' H' ⟨s', M', g, S', z'⟩ => ?_, h.2.1, h.2.2.1, h.2.2.2⟩
    exact ⟨s', M', Y, S', x.grow g, z', fwdE g h⟩⟩
theorem dss_one (h1 : DS X E st t) : DSs X E [st] t := ⟨pss_one h1.ok⟩
theorem ds_pass : DS X E (.Pass pos) sNx := ⟨PS.imp ps_pass fun Z σ H ⟨s, M, Y, S, x, t, h⟩ => h.1 _ _ (upS_here S t)⟩
def sBk : TSD := fun Y s M => Y.bk s M
def sCt : TSD := fun Y s M => Y.ct s M
theorem ds_break : DS X E (.Break pos) sBk := ⟨PS.imp ps_break fun Z σ H ⟨s, M, Y, S, x, t, h⟩ => h.2.2.1 _ _ (upS_here S t)⟩
theorem ds_continue : DS X E (.Continue pos) sCt := ⟨PS.imp ps_continue fun Z σ H ⟨s, M, Y, S, x, t, h⟩ => h.2.2.2 _ _ (upS_here S t)⟩
theorem ds_doc {y j pos'} : DS X E (.Expr (.Constant (.str y) j pos) pos') sNx := ⟨PS.imp ps_doc fun Z σ H ⟨s, M, Y, S, x, t, h⟩ => h.1 _ _ (upS_here S t)⟩
def sExpr (te : TED) : TSD := fun Y s M => te Y.ex s M fun _ M1 => Y.nx s M1
theorem ds_expr (he : DE X E e te) (hs : swapsWith e none pos.line X.env = pure false := by rfl) : DS X E (.Expr e pos) (sExpr te) :=
  ⟨PS.imp (ps_expr he.ok hs) fun Z σ H ⟨s, M, Y, S, x, t, h⟩ => useE S x t fun d v M1 H1 g1 S1 x1 r1 t1 => h.1 _ _ ⟨s, M1, g1, S1, t1⟩⟩
def sRet (te : TED) : TSD := fun Y s M => te Y.ex s M Y.rt
theorem ds_ret (he : DE X E e te) : DS X E (.Return (some e) pos) (sRet te) :=
  ⟨PS.imp (ps_ret he.ok) fun Z σ H ⟨s, M, Y, S, x, t, h⟩ => useE S x t fun d v M1 H1 g1 S1 x1 r1 t1 => h.2.1 _ _ ⟨d, M1, g1, S1.mem, r1, t1⟩⟩
def sRetN : TSD := fun Y s M => Y.rt .non M
theorem ds_retN : DS X E (.Return none pos) sRetN := ⟨PS.imp ps_retN fun Z σ H ⟨s, M, Y, S, x, t, h⟩ => h.2.1 _ _ ⟨.non, M, Gw.refl, S.mem, rfl, t⟩⟩
def sIf (c : TTD) (t u : TSD) : TSD := fun Y s M => c Y.ex s M fun b M1 => if b = true then t Y s M1 else u Y s M1
theorem ds_if {tc : TTD} (hc : DT X E c tc) (ha : DSs X E body t) (hb : DSs X E orelse u) : DS X E (.If c body orelse pos) (sIf tc t u) :=
  ⟨PS.imp (ps_if hc.ok ha.ok hb.ok) fun Z σ H ⟨s, M, Y, S, x, z, h⟩ => useT S x z fun k M1 H1 g1 S1 x1 t1 => by
    cases k with
    | true => exact ⟨s, M1, Y, S1, x1, t1, fwdE g1 h⟩
    | false => exact ⟨s, M1, Y, S1, x1, t1, fwdE g1 h⟩⟩
def sNever : TSD := fun _ _ _ => False
theorem ds_never : DS X E st sNever := ⟨PS.imp ps_never fun Z σ H ⟨s, M, Y, S, x, z, h⟩ => z⟩
theorem dss_never {sts : List Stmt} : DSs X E sts sNever := ⟨PSs.imp pss_never fun Z σ H ⟨s, M, Y, S, x, z, h⟩ => z⟩

/-! ### targets -/
abbrev TGD := D → XD → SD → Mem → (SD → Mem → Prop) → Prop
abbrev TGsD := List D → XD → SD → Mem → (SD → Mem → Prop) → Prop
structure DG (X : Cx) (E : XK) (target : Expr) (t : TGD) : Prop where
  ok : ∃ g, PG X target g ∧ ∀ {v : V} {d : D} {σ : L2.St} {H : Hp} {s : SD} {M : Mem} {Xd : XD} {Qd : SD → Mem → Prop} {Q : L2.St → Hp → Prop}, StOk X.K σ H s M → XTo X.K H M Xd E → Rv X.K H M d v → t d Xd s M Qd →
    (∀ σ' H', upS X.K H M Qd σ' H' → Q σ' H') → g v σ H Q
structure DGs (X : Cx) (E : XK) (targets : List Expr) (n : Nat) (t : TGsD) : Prop where
  ok : ∃ g, PGs X targets g ∧ ∀ {vs : List V} {ds : List D} {σ : L2.St} {H : Hp} {s : SD} {M : Mem} {Xd : XD} {Qd : SD → Mem → Prop} {Q : L2.St → Hp → Prop}, StOk X.K σ H s M → XTo X.K H M Xd E → Rs X.K H M ds vs → t ds Xd s M Qd →
    (∀ σ' H', upS X.K H M Qd σ' H' → Q σ' H') → g vs σ H Q
def gNm (i : Nat) : TGD := fun d _ s M Q => Q (s.set i (some d)) M
theorem dg_name {i : Nat} {x : Str} (hN : X.N.Nodup) (hi : X.N[i]? = some x) (hx : Loc X.env.scope x) (hf : X.fn x = true ∨ X.env.scope.names.lookup x = some .local := by first | exact .inl rfl | exact .inr rfl | assumption) : DG X E (.Name x pos) (gNm i) :=
  ⟨gName i, pg_name hN hi hx hf, fun S x r t q => q _ _ ⟨_, _, Gw.refl, S.set i r, t⟩⟩
def gNi : TGsD := fun ds _ s M Q => match ds with
  | [] => Q s M
  | _ => False
def gCo (t : TGD) (u : TGsD) : TGsD := fun ds Xd s M Q => match ds with
  | [] => False
  | d :: r => t d Xd s M fun s' M' => u r Xd s' M' Q
theorem dgs_nil : DGs X E [] 0 gNi := ⟨gNil, pgs_nil, fun {vs ds σ H s M Xd Qd Q} S x r t q => by
  cases ds with
  | nil => exact ⟨r, q _ _ (upS_here S t)⟩
  | cons d ds => exact t.elim⟩
theorem dgs_cons {t : TGD} {u : TGsD} (h1 : DG X E e t) (h2 : DGs X E es n u) (hs : (assignEach (e :: es) X.env).map (·.2) = assign e X.env :: (assignEach es X.env).map (·.2) := by rfl) : DGs X E (e :: es) (n + 1) (gCo t u) := by
  obtain ⟨g1, p1, q1⟩ := h1.ok
  obtain ⟨g2, p2, q2⟩ := h2.ok
  refine ⟨gCons g1 g2, pgs_cons p1 p2 hs, fun {vs ds σ H s M Xd Qd Q} S x r t q => ?_⟩
  cases ds with
  | nil => exact t.elim
  | cons d ds =>
    obtain ⟨v, vr, rfl, rd, rr⟩ := r
    refine ⟨v, vr, rfl, q1 S x rd t fun σ' H' ⟨s', M', g, S', z⟩ => ?_⟩
    exact q2 S' (x.grow g) (Rs.grow g _ _ rr) z (fwdS g q)
def gTp (n : Nat) (t : TGsD) : TGD := fun d Xd s M Q => match vw M d with
  | .tup ds => ds.length = n ∧ t ds Xd s M Q
  | _ => False
theorem dg_tup {k : Nat} {t : TGsD} (hc : X.calm = true) (h : DGs X E es n t) (hn : (assignEach es X.env).length = n := by rfl) (hst : (assignEach es X.env).findIdx? (·.1) = none := by rfl) : DG X E (.Tuple es k pos) (gTp n t) := by
  obtain ⟨g1, p1, q1⟩ := h.ok
  refine ⟨gTup X.K n g1, pg_tup hc p1 hn hst, fun {v d σ H s M Xd Qd Q} S x r t q => ?_⟩
  unfold gTp at t
  split at t
  · rename_i ds hd
    obtain ⟨a, xs, rfl, ha, sa⟩ := vw_tup r hd
    exact ⟨a, xs, rfl, ha.sq, by rw [vlen sa]; exact t.1, q1 S x sa t.2 q⟩
  · exact t.elim
def sAsg (te : TED) (g : TGD) : TSD := fun Y s M => te Y.ex s M fun d M1 => g d Y.ex s M1 Y.nx
theorem ds_asg {tg : Expr} {g : TGD} (he : DE X E e te) (hg : DG X E tg g) (hs : swapsWithSole [tg] e pos.line X.env = pure false := by rfl) (hw : swappedStores [tg] e X.env = pure none := by rfl)
    (h1 : (assignEach [tg] X.env).map (·.2) = [assign tg X.env] := by rfl) : DS X E (.Assign [tg] e pos) (sAsg te g) := by
  obtain ⟨g1, p1, q1⟩ := hg.ok
  exact ⟨PS.imp (ps_asg he.ok p1 hs hw h1) fun Z σ H ⟨s, M, Y, S, x, t, h⟩ => useE S x t fun d v M1 H1 gr S1 x1 r1 t1 => q1 S1 x1 r1 t1 (fwdS gr h.1)⟩
def sSet (i : Nat) (te : TED) : TSD := fun Y s M => te Y.ex s M fun d M1 => Y.nx (s.set i (some d)) M1
theorem ds_set {i : Nat} {x : Str} {pos' : Pos} (hN : X.N.Nodup) (hi : X.N[i]? = some x) (hx : Loc X.env.scope x) (he : DE X E e te) (hs : swapsWith e (some (.Name x pos')) pos.line X.env = pure false := by rfl) (hf : X.fn x = true ∨ X.env.scope.names.lookup x = some .local := by first | exact .inl rfl | exact .inr rfl | assumption) :
    DS X E (.Assign [.Name x pos'] e pos) (sSet i te) :=
  ⟨PS.imp (ps_set hN hi hx he.ok hs hf) fun Z σ H ⟨s, M, Y, S, x, t, h⟩ => useE S x t fun d v M1 H1 g1 S1 x1 r1 t1 => h.1 _ _ ⟨_, M1, g1, S1.set i r1, t1⟩⟩
/-- a, b = x, y -/
def sPar (i j : Nat) (ta : TAD) : TSD := fun Y s M => ta Y.ex s M fun ds M1 => match ds with
  | [d, e] => Y.nx ((s.set i (some d)).set j (some e)) M1
  | _ => False

/-! ### loops -/
/-- a walk gives the items ds, one by one, while what is watched stands -/
structure ItOk (K : Fg) (J : It) (H0 : Hp) (M0 : Mem) (ow : Option Addr) (ds : List D) : Prop where
  go : ∀ i H M, Gw H0 M0 H M → MOk K H M → (∀ a, ow = some a → M a = M0 a) → i < ds.length → J.go i H ∧ ∀ x H', J.yld i H x H' → ∃ d, ds[i]? = some d ∧ Gw H M H' M ∧ MOk K H' M ∧ Rv K H' M d x
  stop : ∀ H M, Gw H0 M0 H M → MOk K H M → (∀ a, ow = some a → M a = M0 a) → J.stop ds.length H
abbrev TID := XD → SD → Mem → (List D → Option Addr → Mem → Prop) → Prop
structure DI (X : Cx) (E : XK) (tg iter : Expr) (ti : TID) : Prop where
  ok : ∃ wi, PI X tg iter wi ∧ ∀ {σ : L2.St} {H : Hp} {s : SD} {M : Mem} {Xd : XD} {Qd : List D → Option Addr → Mem → Prop} {R : It → Hp → Prop}, StOk X.K σ H s M → XTo X.K H M Xd E → ti Xd s M Qd →
    (∀ J H' M' ow ds, Gw H M H' M' → MOk X.K H' M' → ItOk X.K J H' M' ow ds → Qd ds ow M' → R J H') → wi σ H R
def wat (ow : Option Addr) (M0 M : Mem) : Prop := match ow with
  | some a => M a = M0 a
  | none => True
theorem wat_of {ow : Option Addr} {M0 M : Mem} (h : wat ow M0 M) : ∀ a, ow = some a → M a = M0 a := fun a e => by subst e; exact h
def sForL (g : TGD) (tb : TSD) (Y : EndsD) (W : Mem → Prop) : List D → SD → Mem → Prop
  | [], s, M => W M ∧ Y.nx s M
  | d :: ds, s, M => W M ∧ g d Y.ex s M fun s' M' => tb { Y with nx := sForL g tb Y W ds, ct := sForL g tb Y W ds, bk := Y.nx } s' M'
def sFor (ti : TID) (g : TGD) (tb : TSD) : TSD := fun Y s M => ti Y.ex s M fun ds ow M1 => sForL g tb Y (wat ow M1) ds s M1
theorem ds_for {iter tg : Expr} {ti : TID} {g : TGD} {tb : TSD} (hp : PassesOwn (model X.prog X.w) X.A X.env X.xe) (hc : X.calm = true) (hi : DI X E tg iter ti) (hg : DG X E tg g) (hb : DSs X E body tb)
    (hs : ∀ x, foldedSetIterable iter X.env x = pure x := by intro _; rfl) : DS X E (.For tg iter body [] pos) (sFor ti g tb) := by
  obtain ⟨wi, pi, qi⟩ := hi.ok
  obtain ⟨g1, p1, q1⟩ := hg.ok
  refine ⟨PS.imp (ps_for hp hc pi p1 hb.ok hs) fun Z σ H ⟨s, M, Y, S, x, t, h⟩ => ?_⟩
  refine qi S x t fun J H1 M1 ow ds gr mo io td => ?_
  refine ⟨fun i m σ' H' => m = ds.length - i ∧ i ≤ ds.length ∧ ∃ s' M', Gw H1 M1 H' M' ∧ StOk X.K σ' H' s' M' ∧ sForL g tb Y (wat ow M1) (ds.drop i) s' M', ⟨ds.length, rfl, Nat.zero_le _, s, M1, Gw.refl, S.grow gr mo, td⟩, fun i m σ' H' hW => ?_⟩
  obtain ⟨em, hi', s', M', g', S', td'⟩ := hW
  by_cases hlt : i < ds.length
  · rw [List.drop_eq_getElem_cons hlt] at td'
    obtain ⟨hw, td'⟩ := td'
    obtain ⟨hgo, hy⟩ := io.go i H' M' g' S'.mem (wat_of hw) hlt
    refine .inr ⟨hgo, fun σ2 H2 => ∃ s2 M2, Gw H1 M1 H2 M2 ∧ StOk X.K σ2 H2 s2 M2 ∧ sForL g tb Y (wat ow M1) (ds.drop (i + 1)) s2 M2, fun σ2 H2 ⟨s2, M2, a1, a2, a3⟩ => ⟨ds.length - (i + 1), by omega, rfl, by omega, s2, M2, a1, a2, a3⟩, fun v H2 hyl => ?_⟩
    obtain ⟨d, hd, g2, m2, r2⟩ := hy v H2 hyl
    have ed : d = ds[i] := by rw [List.getElem?_eq_getElem hlt] at hd; exact (Option.some.inj hd).symm
    subst ed
    refine q1 (S'.grow g2 m2) (((x.grow gr).grow g').grow g2) r2 td' fun σ3 H3 ⟨s3, M3, g3, S3, z3⟩ => ?_
    have gg : Gw H1 M1 H3 M3 := (g'.trans g2).trans g3
    refine ⟨s3, M3, { Y with nx := sForL g tb Y (wat ow M1) (ds.drop (i + 1)), ct := sForL g tb Y (wat ow M1) (ds.drop (i + 1)), bk := Y.nx }, S3, ((x.grow gr).grow gg), z3, fun σ4 H4 ⟨s4, M4, g4, S4, z4⟩ => ⟨s4, M4, gg.trans g4, S4, z4⟩, fwd (gr.trans gg) h.2.1, fwdS (gr.trans gg) h.1, fun σ4 H4 ⟨s4, M4, g4, S4, z4⟩ => ⟨s4, M4, gg.trans g4, S4, z4⟩⟩
  · have e : i = ds.length := by omega
    subst e
    rw [List.drop_length] at td'
    obtain ⟨hw, td'⟩ := td'
    exact .inl ⟨io.stop H' M' g' S'.mem (wat_of hw), h.1 _ _ ⟨s', M', gr.trans g', S', td'⟩⟩
def sWhN (tc : TTD) (tb : TSD) (Y : EndsD) : Nat → SD → Mem → Prop
  | 0, _, _ => False
  | m + 1, s, M => tc Y.ex s M fun b M1 => if b = true then tb { Y with nx := sWhN tc tb Y m, ct := sWhN tc tb Y m, bk := Y.nx } s M1 else Y.nx s M1
def sWhile (tc : TTD) (tb : TSD) : TSD := fun Y s M => ∃ m, sWhN tc tb Y m s M
theorem ds_while {tc : TTD} {tb : TSD} (hp : PassesOwn (model X.prog X.w) X.A X.env X.xe) (hc : DT X E c tc) (hb : DSs X E body tb) : DS X E (.While c body [] pos) (sWhile tc tb) := by
  refine ⟨PS.imp (ps_while hp hc.ok hb.ok) fun Z σ H ⟨s, M, Y, S, x, ⟨m, t⟩, h⟩ => ?_⟩
  refine ⟨fun m σ' H' => ∃ s' M', Gw H M H' M' ∧ StOk X.K σ' H' s' M' ∧ sWhN tc tb Y m s' M', ⟨m, s, M, Gw.refl, S, t⟩, fun m σ' H' hW => ?_⟩
  obtain ⟨s', M', g', S', t'⟩ := hW
  cases m with
  | zero => exact t'.elim
  | succ m =>
    refine useT S' (x.grow g') t' fun b M1 H1 g1 S1 x1 t1 => ?_
    cases b with
    | true =>
      rw [if_pos rfl] at t1 ⊢
      refine ⟨fun σ2 H2 => ∃ s2 M2, Gw H M H2 M2 ∧ StOk X.K σ2 H2 s2 M2 ∧ sWhN tc tb Y m s2 M2, fun σ2 H2 hh => ⟨m, Nat.lt_succ_self m, hh⟩, ?_⟩
      have gg := g'.trans g1
      exact ⟨s', M1, { Y with nx := sWhN tc tb Y m, ct := sWhN tc tb Y m, bk := Y.nx }, S1, x1, t1, fun σ4 H4 ⟨s4, M4, g4, S4, z4⟩ => ⟨s4, M4, gg.trans g4, S4, z4⟩, fwd gg h.2.1, fwdS gg h.1, fun σ4 H4 ⟨s4, M4, g4, S4, z4⟩ => ⟨s4, M4, gg.trans g4, S4, z4⟩⟩
    | false =>
      rw [if_neg Bool.false_ne_true] at t1 ⊢
      exact h.1 _ _ ⟨s', M1, g'.trans g1, S1, t1⟩
end
end DL
set_option maxHeartbeats 1000000
namespace DL
open PySem PySem.Spec PyProof.Rows L2

section
variable {X : Cx} {E : XK} {n k : Nat} {x : Str} {p pos : Pos} {e a b c tg : Expr} {es : List Expr} {ts : TAD} {te ta tb : TED}
/-! ### what is walked -/
/-- a list or a tuple -/
def iSeq (K : Fg) (tl : TE) : TI := fun σ H R => tl σ H fun x H1 => ∃ a, x = .ref a ∧ (((∃ xs, SqL K H1 a xs) ∧ R (Itl K a) H1) ∨ ((∃ xs, SqT K H1 a xs) ∧ R (Itt K a) H1))
theorem pi_seq {l : Expr} {tl : TE} (hl : PE X l tl) : PI X tg l (iSeq X.K tl) := by
  refine ⟨fun pins s σ H R I h => ?_⟩
  refine thn (hl.run pins s σ H _ I h) fun v s1 ⟨x, H1, I1, r1, q1⟩ => ?_
  obtain ⟨a, e, q1⟩ := q1
  subst e
  cases r1
  have hf : ∀ b ∈ [s1.heap.objs.size], FpOk X pins H1 b := fun b hb => by
    have e : b = s1.heap.objs.size := by simpa using hb
    subst e
    exact I1.fpOk (Nat.le_refl _) (I1.hok.fresh (Nat.le_refl _))
  rcases q1 with ⟨⟨xs, hq⟩, q⟩ | ⟨⟨xs, hq⟩, q⟩
  · obtain ⟨its, rv, p, hz⟩ := I1.list hq
    refine wpAny_pyIter_list p.isList ?_
    exact ⟨s1.heap.objs.size, [s1.heap.objs.size], _, _, H1, rfl, I1.kept (t' := s1.toks) fun b o e => Heap.get?_push_of_some _ e, turn_list a _, ⟨_, Heap.get?_push_size _ rfl, rfl, rfl⟩, hf, q⟩
  · obtain ⟨its, rv, p, hz⟩ := I1.tuple hq
    refine wpAny_pyIter_tuple (show s1.heap.IsTuple a its.toArray from p) ?_
    exact ⟨s1.heap.objs.size, [s1.heap.objs.size], _, _, H1, rfl, I1.kept (t' := s1.toks) fun b o e => Heap.get?_push_of_some _ e, turn_tuple a _, ⟨_, Heap.get?_push_size _ rfl, rfl, rfl⟩, hf, q⟩
theorem ItOk.list {K : Fg} {H0 : Hp} {M0 : Mem} {ow : Option Addr} {ds : List D} {a : Addr} (hs : ∀ H M, Gw H0 M0 H M → MOk K H M → (∀ a, ow = some a → M a = M0 a) → ∃ xs, SqL K H a xs ∧ Rs K H M ds xs) : ItOk K (Itl K a) H0 M0 ow ds := by
  refine ⟨fun i H M g mo hw hi => ?_, fun H M g mo hw => ?_⟩
  · obtain ⟨xs, h1, h2⟩ := hs H M g mo hw
    obtain ⟨v, e1, e2⟩ := Rs.get h2 (List.getElem?_eq_getElem hi)
    refine ⟨⟨xs, v, h1, e1⟩, fun y H' ⟨eH, hy⟩ => ?_⟩
    subst eH
    have e3 := hy xs h1
    rw [e1] at e3; cases e3
    exact ⟨_, List.getElem?_eq_getElem hi, Gw.refl, mo, e2⟩
  · obtain ⟨xs, h1, h2⟩ := hs H M g mo hw
    exact ⟨xs, h1, by rw [vlen h2]; exact Nat.le_refl _⟩
theorem ItOk.tup {K : Fg} {H0 : Hp} {M0 : Mem} {ow : Option Addr} {ds : List D} {a : Addr} (hs : ∀ H M, Gw H0 M0 H M → MOk K H M → (∀ a, ow = some a → M a = M0 a) → ∃ xs, SqT K H a xs ∧ Rs K H M ds xs) : ItOk K (Itt K a) H0 M0 ow ds := by
  refine ⟨fun i H M g mo hw hi => ?_, fun H M g mo hw => ?_⟩
  · obtain ⟨xs, h1, h2⟩ := hs H M g mo hw
    obtain ⟨v, e1, e2⟩ := Rs.get h2 (List.getElem?_eq_getElem hi)
    refine ⟨⟨xs, v, h1, e1⟩, fun y H' ⟨eH, hy⟩ => ?_⟩
    subst eH
    have e3 := hy xs h1
    rw [e1] at e3; cases e3
    exact ⟨_, List.getElem?_eq_getElem hi, Gw.refl, mo, e2⟩
  · obtain ⟨xs, h1, h2⟩ := hs H M g mo hw
    exact ⟨xs, h1, by rw [vlen h2]; exact Nat.le_refl _⟩
theorem ItOk.rng {K : Fg} {H0 : Hp} {M0 : Mem} {lo c : Int} {n : Nat} : ItOk K (Itc lo c n) H0 M0 none ((List.range n).map fun i => D.int (lo + (i : Nat) * c)) := by
  have hl : ((List.range n).map fun i => D.int (lo + (i : Nat) * c)).length = n := by rw [List.length_map, List.length_range]
  refine ⟨fun i H M g mo hw hi => ?_, fun H M g mo hw => ?_⟩
  · rw [hl] at hi
    refine ⟨hi, fun y H' ⟨eH, hy⟩ => ?_⟩
    subst eH; subst hy
    exact ⟨.int (lo + (i : Nat) * c), by rw [List.getElem?_map, List.getElem?_range hi]; rfl, Gw.refl, mo, rfl⟩
  · rw [hl]; exact Nat.le_refl n
theorem ItOk.rng1 {K : Fg} {H0 : Hp} {M0 : Mem} {lo : Int} {n : Nat} : ItOk K (Itr lo n) H0 M0 none ((List.range n).map fun i => D.int (lo + (i : Nat))) := by
  have hl : ((List.range n).map fun i => D.int (lo + (i : Nat))).length = n := by rw [List.length_map, List.length_range]
  refine ⟨fun i H M g mo hw hi => ?_, fun H M g mo hw => ?_⟩
  · rw [hl] at hi
    refine ⟨hi, fun y H' ⟨eH, hy⟩ => ?_⟩
    subst eH; subst hy
    exact ⟨.int (lo + (i : Nat)), by rw [List.getElem?_map, List.getElem?_range hi]; rfl, Gw.refl, mo, rfl⟩
  · rw [hl]; exact Nat.le_refl n
/-- the items of a value, and what is to stand while they are walked -/
def itemK (R : List D → Option Addr → Mem → Prop) : QD := fun d M => match d with
  | .tup ds => R ds none M
  | .lst ds => R ds none M
  | .fzn ds => R ds none M
  | .ref a => match M a with
    | some (.lst ds) => R ds (some a) M
    | _ => False
  | _ => False
def iSeqD (te : TED) : TID := fun Xd s M R => te Xd s M (itemK R)
theorem di_seq (h : DE X E e te) : DI X E tg e (iSeqD te) := by
  refine ⟨_, pi_seq h.ok, fun {σ H s M Xd Qd R} S x t q => ?_⟩
  refine useE S x t fun d v M1 H1 g1 S1 x1 r1 t1 => ?_
  unfold itemK at t1
  split at t1
  · rename_i ds
    obtain ⟨p, xs, rfl, hp, sp⟩ := r1
    exact ⟨p, rfl, .inr ⟨⟨xs, hp.sq⟩, q _ _ _ _ _ g1 S1.mem (ItOk.tup fun H M g mo _ => ⟨xs, (g.rt hp).sq, Rs.grow g ds xs sp⟩) t1⟩⟩
  · rename_i ds
    obtain ⟨p, xs, rfl, hp, hm, sp⟩ := r1
    exact ⟨p, rfl, .inl ⟨⟨xs, SqL.of hp⟩, q _ _ _ _ _ g1 S1.mem (ItOk.list fun H M g mo _ => ⟨xs, SqL.of (g _ _ hp hm).1, Rs.grow g ds xs sp⟩) t1⟩⟩
  · rename_i ds
    obtain ⟨p, xs, rfl, hp, sp⟩ := r1
    exact ⟨p, rfl, .inl ⟨⟨xs, hp.sq⟩, q _ _ _ _ _ g1 S1.mem (ItOk.list fun H M g mo _ => ⟨xs, (g.rl hp).sq, Rs.grow g ds xs sp⟩) t1⟩⟩
  · rename_i p
    split at t1
    · rename_i ds hm
      have hv : v = .ref p := r1
      obtain ⟨xs, hp, sp⟩ := S1.mem p _ hm
      refine ⟨p, hv, .inl ⟨⟨xs, SqL.of hp⟩, q _ _ _ (some p) _ g1 S1.mem (ItOk.list fun H M g mo hw => ?_) t1⟩⟩
      have e := hw p rfl
      rw [hm] at e
      obtain ⟨ys, h1, h2⟩ := mo p _ e
      exact ⟨ys, SqL.of h1, h2⟩
    · exact t1.elim
  · exact t1.elim
def rngL (lo : Int) (n : Nat) : List D := (List.range n).map fun i => D.int (lo + (i : Nat))
def rngK (R : List D → Option Addr → Mem → Prop) : List D → Mem → Prop := fun ds M => match ds with
  | [.int j] => (-(2 ^ 62) ≤ j ∧ j < 2 ^ 62) ∧ R (rngL 0 j.toNat) none M
  | [.int i, .int j] => (-(2 ^ 62) ≤ i ∧ i < 2 ^ 62 ∧ -(2 ^ 62) ≤ j ∧ j < 2 ^ 62) ∧ R (rngL i (j - i).toNat) none M
  | _ => False
def iRngD (t : TAD) : TID := fun Xd s M R => t Xd s M (rngK R)
theorem di_range1 (hg : Gl X "range") (hm : X.mg "range" = none) (h : DN X E 1 [a] ts) (hs : starEach [a] X.env = [(false, eval a X.env)] := by rfl) : DI X E tg (.Call (.Name "range" p) [a] [] pos) (iRngD ts) := by
  refine ⟨_, pi_range1 hg hm h.ok hs, fun {σ H s M Xd Qd R} S x t q => ?_⟩
  refine useN S x t fun ds vs M1 H1 hl g1 S1 x1 r1 t1 => ?_
  unfold rngK at t1
  split at t1
  · rename_i j
    obtain ⟨v, rfl, rd⟩ := rs1 r1
    exact ⟨j, by rw [show v = V.int j from rd], t1.1.1, t1.1.2, q _ _ _ _ _ g1 S1.mem ItOk.rng1 t1.2⟩
  · obtain ⟨v, w, rfl, _, _⟩ := rs2 r1
    simp at hl
  · exact t1.elim
theorem di_range2 (hg : Gl X "range") (hm : X.mg "range" = none) (h : DN X E 2 [a, b] ts) (hs : starEach [a, b] X.env = [(false, eval a X.env), (false, eval b X.env)] := by rfl) (hs2 : starEach [b] X.env = [(false, eval b X.env)] := by rfl) :
    DI X E tg (.Call (.Name "range" p) [a, b] [] pos) (iRngD ts) := by
  refine ⟨_, pi_range2 hg hm h.ok hs hs2, fun {σ H s M Xd Qd R} S x t q => ?_⟩
  refine useN S x t fun ds vs M1 H1 hl g1 S1 x1 r1 t1 => ?_
  unfold rngK at t1
  split at t1
  · obtain ⟨v, rfl, _⟩ := rs1 r1
    simp at hl
  · rename_i i j
    obtain ⟨v, w, rfl, rd, re⟩ := rs2 r1
    exact ⟨i, j, by rw [show v = V.int i from rd, show w = V.int j from re], t1.1, q _ _ _ _ _ g1 S1.mem ItOk.rng1 t1.2⟩
  · exact t1.elim

/-! ### comprehensions -/
def wipeD (s : SD) : List Nat → SD
  | [] => s
  | i :: r => (wipeD s r).set i none
theorem StOk.wipe {K : Fg} {H : Hp} {M : Mem} {σ : L2.St} {s : SD} (S : StOk K σ H s M) : ∀ vs : List Nat, StOk K (L2.wipe σ vs) H (wipeD s vs) M
  | [] => S
  | i :: r => by
    have S1 := StOk.wipe S r
    refine ⟨by show ((wipeD s r).set i none).length = ((L2.wipe σ r).set i none).length; rw [List.length_set, List.length_set]; exact S1.len, fun j d e => ?_, S.mem⟩
    have e : ((wipeD s r).set i none)[j]? = some (some d) := e
    show ∃ v, ((L2.wipe σ r).set i none)[j]? = some (some v) ∧ Rv K H M d v
    by_cases hj : j = i
    · subst hj
      by_cases hl : j < (wipeD s r).length
      · rw [List.getElem?_set_self hl] at e; cases e
      · rw [List.getElem?_eq_none (by rw [List.length_set]; omega)] at e; cases e
    · rw [List.getElem?_set_ne (Ne.symm hj)] at e
      obtain ⟨v, e1, e2⟩ := S1.sl j d e
      exact ⟨v, by rw [List.getElem?_set_ne (Ne.symm hj)]; exact e1, e2⟩
theorem wipe_at (σ : L2.St) (j : Nat) : ∀ vs : List Nat, (L2.wipe σ vs)[j]? = if j ∈ vs then (σ[j]?).map (fun _ => none) else σ[j]?
  | [] => by rw [if_neg (by simp)]; rfl
  | i :: r => by
    have ih := wipe_at σ j r
    show ((L2.wipe σ r).set i none)[j]? = _
    by_cases hj : i = j
    · subst hj
      rw [if_pos List.mem_cons_self]
      by_cases hl : i < σ.length
      · rw [List.getElem?_set_self (by rw [L2.wipe_length]; exact hl), List.getElem?_eq_getElem hl]; rfl
      · rw [List.getElem?_eq_none (by rw [List.length_set, L2.wipe_length]; omega), List.getElem?_eq_none (by omega)]; rfl
    · rw [List.getElem?_set_ne hj, ih]
      by_cases hr : j ∈ r
      · rw [if_pos hr, if_pos (List.mem_cons_of_mem _ hr)]
      · rw [if_neg hr, if_neg (fun z => (List.mem_cons.mp z).elim (fun z => hj z.symm) hr)]
theorem wipe_set {o : Option V} {i : Nat} {vs : List Nat} {σ : L2.St} (h : i ∈ vs) : L2.wipe (σ.set i o) vs = L2.wipe σ vs := by
  apply List.ext_getElem?
  intro j
  rw [wipe_at, wipe_at]
  by_cases hj : i = j
  · subst hj
    rw [if_pos h, if_pos h]
    by_cases hl : i < σ.length
    · rw [List.getElem?_set_self hl, List.getElem?_eq_getElem hl]; rfl
    · rw [List.getElem?_eq_none (by rw [List.length_set]; omega), List.getElem?_eq_none (by omega)]
  · rw [List.getElem?_set_ne hj]
theorem wipe_wipe (σ : L2.St) (vs : List Nat) : L2.wipe (L2.wipe σ vs) vs = L2.wipe σ vs := by
  apply List.ext_getElem?
  intro j
  rw [wipe_at, wipe_at]
  by_cases hj : j ∈ vs
  · rw [if_pos hj, if_pos hj, Option.map_map]; rfl
  · rw [if_neg hj, if_neg hj]
/-- a target of a clause: it stores into the slots vs alone -/
structure DGv (X : Cx) (E : XK) (target : Expr) (vs : List Nat) (t : TGD) : Prop where
  ok : ∃ g, PG X target g ∧ ∀ {v : V} {d : D} {σ : L2.St} {H : Hp} {s : SD} {M : Mem} {Xd : XD} {Qd : SD → Mem → Prop} {Q : L2.St → Hp → Prop}, StOk X.K σ H s M → XTo X.K H M Xd E → Rv X.K H M d v → t d Xd s M Qd →
    (∀ σ' H', upS X.K H M Qd σ' H' → L2.wipe σ' vs = L2.wipe σ vs → Q σ' H') → g v σ H Q
structure DGsv (X : Cx) (E : XK) (targets : List Expr) (n : Nat) (vs : List Nat) (t : TGsD) : Prop where
  ok : ∃ g, PGs X targets g ∧ ∀ {ws : List V} {ds : List D} {σ : L2.St} {H : Hp} {s : SD} {M : Mem} {Xd : XD} {Qd : SD → Mem → Prop} {Q : L2.St → Hp → Prop}, StOk X.K σ H s M → XTo X.K H M Xd E → Rs X.K H M ds ws → t ds Xd s M Qd →
    (∀ σ' H', upS X.K H M Qd σ' H' → L2.wipe σ' vs = L2.wipe σ vs → Q σ' H') → g ws σ H Q
theorem dgv_name {vs : List Nat} {i : Nat} {x : Str} (hN : X.N.Nodup) (hi : X.N[i]? = some x) (hx : Loc X.env.scope x) (hv : i ∈ vs) (hf : X.fn x = true ∨ X.env.scope.names.lookup x = some .local := by first | exact .inl rfl | exact .inr rfl | assumption) : DGv X E (.Name x pos) vs (gNm i) :=
  ⟨gName i, pg_name hN hi hx hf, fun S x r t q => q _ _ ⟨_, _, Gw.refl, S.set i r, t⟩ (wipe_set hv)⟩
theorem dgsv_nil {vs : List Nat} : DGsv X E [] 0 vs gNi := ⟨gNil, pgs_nil, fun {ws ds σ H s M Xd Qd Q} S x r t q => by
  cases ds with
  | nil => exact ⟨r, q _ _ (upS_here S t) rfl⟩
  | cons d ds => exact t.elim⟩
theorem dgsv_cons {vs : List Nat} {t : TGD} {u : TGsD} (h1 : DGv X E e vs t) (h2 : DGsv X E es n vs u) (hs : (assignEach (e :: es) X.env).map (·.2) = assign e X.env :: (assignEach es X.env).map (·.2) := by rfl) : DGsv X E (e :: es) (n + 1) vs (gCo t u) := by
  obtain ⟨g1, p1, q1⟩ := h1.ok
  obtain ⟨g2, p2, q2⟩ := h2.ok
  refine ⟨gCons g1 g2, pgs_cons p1 p2 hs, fun {ws ds σ H s M Xd Qd Q} S x r t q => ?_⟩
  cases ds with
  | nil => exact t.elim
  | cons d ds =>
    obtain ⟨v, vr, rfl, rd, rr⟩ := r
    refine ⟨v, vr, rfl, q1 S x rd t fun σ' H' ⟨s', M', g, S', z⟩ ew => ?_⟩
    exact q2 S' (x.grow g) (Rs.grow g _ _ rr) z fun σ2 H2 hu e2 => fwdS g (fun a b c => (show upS X.K H M Qd a b from c)) σ2 H2 hu |> fun hh => q σ2 H2 hh (e2.trans ew)
theorem dgv_tup {vs : List Nat} {k : Nat} {t : TGsD} (hc : X.calm = true) (h : DGsv X E es n vs t) (hn : (assignEach es X.env).length = n := by rfl) (hst : (assignEach es X.env).findIdx? (·.1) = none := by rfl) : DGv X E (.Tuple es k pos) vs (gTp n t) := by
  obtain ⟨g1, p1, q1⟩ := h.ok
  refine ⟨gTup X.K n g1, pg_tup hc p1 hn hst, fun {v d σ H s M Xd Qd Q} S x r t q => ?_⟩
  unfold gTp at t
  split at t
  · rename_i ds hd
    obtain ⟨a, xs, rfl, ha, sa⟩ := vw_tup r hd
    exact ⟨a, xs, rfl, ha.sq, by rw [vlen sa]; exact t.1, q1 S x sa t.2 q⟩
  · exact t.elim
def X0 : XD := fun _ _ _ _ => False
theorem x0_to {K : Fg} {H : Hp} {M : Mem} : XTo K H M X0 E0 := fun c od H' ⟨_, _, _, _, _, _, _, _, _, _, _, _, _, _, z⟩ => z
/-- the tests of a clause -/
structure DTs (X : Cx) (E : XK) (ifs : List Expr) (t : TTD) : Prop where
  ok : PTs X ifs (liftT X.K E t)
def tYesD : TTD := fun _ _ M Q => Q true M
theorem dts_nil : DTs X E [] tYesD := ⟨⟨fun pins s σ H Q I ⟨sd, M, Qd, Xd, S, x, t, q⟩ => pts_nil.run pins s σ H Q I (q true H ⟨M, Gw.refl, S.mem, t⟩)⟩⟩
theorem dts_one {t : TTD} (h : DT X E c t) : DTs X E [c] t := ⟨pts_one h.ok⟩
/-- what stands at the growing list -/
def accK (p : Addr) (r : D) (k : Mem → Prop) : Mem → Prop := fun M => match M p with
  | some (.lst acc) => acc.length < sizeLine ∧ k (M.put p (.lst (acc ++ [r])))
  | _ => False
def endK (p : Addr) (Q : QD) : Mem → Prop := fun M => match M p with
  | some (.lst acc) => Q (.lst acc) (M.del p)
  | _ => False
def dLcL (g : TGD) (tt : TTD) (te : TED) (s0 : SD) (W : Mem → Prop) (p : Addr) (Q : QD) : List D → Mem → Prop
  | [], M => W M ∧ endK p Q M
  | d :: ds, M => W M ∧ g d X0 s0 M fun s' M' => tt X0 s' M' fun b M2 => if b = true then te X0 s' M2 (fun r => accK p r (dLcL g tt te s0 W p Q ds)) else dLcL g tt te s0 W p Q ds M2
def dLc (ti : TID) (g : TGD) (tt : TTD) (te : TED) (vs : List Nat) : TED := fun Xd s M Q => ti Xd s M fun ds ow M1 => ∀ p, M1 p = none → dLcL g tt te (wipeD s vs) (wat ow M1) p Q ds (M1.put p (.lst []))
theorem fwdQ {α : Type} {P Q : α → Prop} (h : ∀ a, P a → Q a) : ∀ a, P a → Q a := h
theorem lift_lc {J : It} {ow : Option Addr} {g : TGD} {g1 : TG} {tt : TTD} {Y : Cx} {vs : List Nat} {σ : L2.St} {s : SD} {H0 H1 : Hp} {M0 M1 : Mem} {ds : List D} {Qd : QD} {Q : VK} {p : Addr} (hK : Y.K = X.K)
    (q1 : ∀ {v : V} {d : D} {σ : L2.St} {H : Hp} {s : SD} {M : Mem} {Xd : XD} {Qd : SD → Mem → Prop} {Q : L2.St → Hp → Prop}, StOk X.K σ H s M → XTo X.K H M Xd E0 → Rv X.K H M d v → g d Xd s M Qd →
      (∀ σ' H', upS X.K H M Qd σ' H' → L2.wipe σ' vs = L2.wipe σ vs → Q σ' H') → g1 v σ H Q)
    (S : StOk X.K σ H1 s M1) (io : ItOk X.K J H1 M1 ow ds) (hp : H1 p = none) (td : dLcL g tt te (wipeD s vs) (wat ow M1) p Qd ds (M1.put p (.lst []))) (g0 : Gw H0 M0 H1 M1) (q : ∀ v H', upE X.K H0 M0 Qd v H' → Q v H') :
    ∃ W : Nat → Nat → Hp → Prop, (∃ m, W 0 m (upd H1 p (.lst []))) ∧ ∀ i m H, W i m H →
      (J.stop i H ∧ Q (.ref p) H) ∨ (J.go i H ∧ ∃ Nx : Hp → Prop, (∀ H', Nx H' → ∃ m', m' < m ∧ W (i + 1) m' H') ∧ ∀ x H', J.yld i H x H' → g1 x (L2.wipe σ vs) H' fun σ2 H2 => L2.wipe σ2 vs = L2.wipe σ vs ∧ liftT X.K E0 tt σ2 H2 fun b H3 =>
        if b = true then liftE X.K E0 te σ2 H3 fun y H4 => ∃ acc, H4 p = some (.lst acc) ∧ acc.length < sizeLine ∧ Nx (upd H4 p (.lst (acc ++ [y]))) else Nx H3) := by
  have ew : ∀ σ2 : L2.St, L2.wipe σ2 vs = L2.wipe (L2.wipe σ vs) vs → L2.wipe σ2 vs = L2.wipe σ vs := fun σ2 e => by rw [e, wipe_wipe]
  have S0 : StOk X.K (L2.wipe σ vs) H1 (wipeD s vs) M1 := S.wipe vs
  have gp : Gw H1 M1 (upd H1 p (.lst [])) (M1.put p (.lst [])) := gw_own hp
  have mp : MOk X.K (upd H1 p (.lst [])) (M1.put p (.lst [])) := mok_own S.mem hp (show MObj X.K (upd H1 p (.lst [])) (M1.put p (.lst [])) p (.lst []) from ⟨[], upd_same, rfl⟩)
  refine ⟨fun i m H => m = ds.length - i ∧ i ≤ ds.length ∧ ∃ M, Gw H1 M1 H M ∧ MOk X.K H M ∧ dLcL g tt te (wipeD s vs) (wat ow M1) p Qd (ds.drop i) M, ⟨ds.length, rfl, Nat.zero_le _, M1.put p (.lst []), gp, mp, td⟩, fun i m H hW => ?_⟩
  obtain ⟨em, hi', M, gM, mo, td'⟩ := hW
  by_cases hlt : i < ds.length
  · rw [List.drop_eq_getElem_cons hlt] at td'
    obtain ⟨hw, td'⟩ := td'
    obtain ⟨hgo, hy⟩ := io.go i H M gM mo (wat_of hw) hlt
    have back : ∀ H2 M2, Gw H1 M1 H2 M2 → MOk X.K H2 M2 → dLcL g tt te (wipeD s vs) (wat ow M1) p Qd (ds.drop (i + 1)) M2 → ∃ m', m' < m ∧ (m' = ds.length - (i + 1) ∧ i + 1 ≤ ds.length ∧ ∃ M, Gw H1 M1 H2 M ∧ MOk X.K H2 M ∧ dLcL g tt te (wipeD s vs) (wat ow M1) p Qd (ds.drop (i + 1)) M) :=
      fun H2 M2 a1 a2 a3 => ⟨ds.length - (i + 1), by omega, rfl, by omega, M2, a1, a2, a3⟩
    refine .inr ⟨hgo, fun H2 => ∃ M2, Gw H1 M1 H2 M2 ∧ MOk X.K H2 M2 ∧ dLcL g tt te (wipeD s vs) (wat ow M1) p Qd (ds.drop (i + 1)) M2, fun H2 ⟨M2, a1, a2, a3⟩ => back H2 M2 a1 a2 a3, fun v H2 hyl => ?_⟩
    obtain ⟨d, hd, g2, m2, r2⟩ := hy v H2 hyl
    have ed : d = ds[i] := by rw [List.getElem?_eq_getElem hlt] at hd; exact (Option.some.inj hd).symm
    subst ed
    have S2 : StOk X.K (L2.wipe σ vs) H2 (wipeD s vs) M := S0.grow (gM.trans g2) m2
    refine q1 S2 x0_to r2 td' fun σ3 H3 ⟨s3, M3, g3, S3, z3⟩ e3 => ⟨ew σ3 e3, ?_⟩
    refine useT S3 x0_to z3 fun bb M4 H4 g4 S4 x4 z4 => ?_
    have gg : Gw H1 M1 H4 M4 := ((gM.trans g2).trans g3).trans g4
    cases bb with
    | false =>
      rw [if_neg Bool.false_ne_true] at z4 ⊢
      exact ⟨M4, gg, S4.mem, z4⟩
    | true =>
      rw [if_pos rfl] at z4 ⊢
      refine useE S4 x4 z4 fun r y M5 H5 g5 S5 x5 r5 z5 => ?_
      unfold accK at z5
      split at z5
      · rename_i acc hacc
        obtain ⟨xs, h1, h2⟩ := S5.mem p _ hacc
        refine ⟨xs, h1, by rw [vlen h2]; exact z5.1, M5.put p (.lst (acc ++ [r])), (gg.trans g5).trans (gw_put hacc), mok_put S5.mem hacc ?_, z5.2⟩
        exact ⟨xs ++ [y], upd_same, Rs.grow (gw_put hacc) _ _ (Rs.append h2 (Rs.cons r5 Rs.nil))⟩
      · exact z5.elim
  · have e : i = ds.length := by omega
    subst e
    rw [List.drop_length] at td'
    obtain ⟨hw, td'⟩ := td'
    refine .inl ⟨io.stop H M gM mo (wat_of hw), ?_⟩
    unfold endK at td'
    split at td'
    · rename_i acc hacc
      obtain ⟨xs, h1, h2⟩ := mo p _ hacc
      have hs : ∀ b o, (M.del p) b = some o → M b = some o := fun b o e => by
        by_cases z : b = p
        · subst z; rw [Mem.del_same] at e; cases e
        · rw [Mem.del_ne z] at e; exact e
      have hn : ∀ b, M b = none → (M.del p) b = none := fun b e => by
        by_cases z : b = p
        · subst z; exact Mem.del_same
        · rw [Mem.del_ne z]; exact e
      exact q _ _ ⟨.lst acc, M.del p, (g0.trans gM).trans (gw_less hn), mok_less hs hn mo, ⟨p, xs, rfl, h1, Mem.del_same, Rs.grow (gw_less hn) _ _ h2⟩, td'⟩
    · exact td'.elim
theorem de_lc {elt iter : Expr} {ifs : List Expr} {scope : Scope} {own : List (Str × Nat)} {ti : TID} {g : TGD} {tt : TTD} (hc : X.calm = true) (hN : X.N.Nodup) (hi : DI X E tg iter ti) (ok : BlkOk X.N X.env.scope scope own) (g1 : TG)
    (hg : ∀ (s : Shared) (H : Hp) (C : Addr) (cl : List (Str × Addr)) (fp : List Addr), PG (X.blk s H scope (compEnvC scope cl C X.env) fp) tg g1)
    (hq : ∀ {v : V} {d : D} {σ : L2.St} {H : Hp} {s : SD} {M : Mem} {Xd : XD} {Qd : SD → Mem → Prop} {Q : L2.St → Hp → Prop}, StOk X.K σ H s M → XTo X.K H M Xd E0 → Rv X.K H M d v → g d Xd s M Qd →
      (∀ σ' H', upS X.K H M Qd σ' H' → L2.wipe σ' (own.map (·.2)) = L2.wipe σ (own.map (·.2)) → Q σ' H') → g1 v σ H Q)
    (ht : ∀ (s : Shared) (H : Hp) (C : Addr) (cl : List (Str × Addr)) (fp : List Addr), DTs (X.blk s H scope (compEnvC scope cl C X.env) fp) E0 ifs tt)
    (he : ∀ (s : Shared) (H : Hp) (C : Addr) (cl : List (Str × Addr)) (fp : List Addr), DE (X.blk s H scope (compEnvC scope cl C X.env) fp) E0 elt te) (hs : ∀ x, foldedSetIterable iter X.env x = pure x := by intro _; rfl) :
    DE X E (.ListComp elt [⟨tg, iter, ifs, 0⟩] scope pos) (dLc ti g tt te (own.map (·.2))) := by
  obtain ⟨wi, pi, qi⟩ := hi.ok
  refine ⟨PE.imp (pe_lc (tt := liftT X.K E0 tt) (te := liftE X.K E0 te) hc hN pi ok hg (fun s H C cl fp => (ht s H C cl fp).ok) (fun s H C cl fp => (he s H C cl fp).ok) hs) fun σ H Q ⟨s, M, Qd, Xd, S, x, t, q⟩ => ?_⟩
  refine qi S x t fun J H1 M1 ow ds gr mo io td p hp => ?_
  exact lift_lc (Y := X) rfl hq (S.grow gr mo) io hp (td p (m_none mo hp)) gr q
theorem ds_setLc {i : Nat} {y : Str} {py spos : Pos} {elt iter : Expr} {ifs : List Expr} {scope : Scope} {own : List (Str × Nat)} {ti : TID} {g : TGD} {tt : TTD} (hc : X.calm = true) (hN : X.N.Nodup) (hy : X.N[i]? = some y) (hyl : X.env.scope.names.lookup y = some .local)
    (hsw : swapsWith (.ListComp elt [⟨tg, iter, ifs, 0⟩] scope pos) (some (.Name y py)) spos.line X.env = pure true) (hi : DI X E tg iter ti) (ok : BlkOk X.N X.env.scope scope own) (g1 : TG)
    (hg : ∀ (s : Shared) (H : Hp) (C : Addr) (cl : List (Str × Addr)) (fp : List Addr), PG (X.blk s H scope (compEnvC scope cl C X.env) fp) tg g1)
    (hq : ∀ {v : V} {d : D} {σ : L2.St} {H : Hp} {s : SD} {M : Mem} {Xd : XD} {Qd : SD → Mem → Prop} {Q : L2.St → Hp → Prop}, StOk X.K σ H s M → XTo X.K H M Xd E0 → Rv X.K H M d v → g d Xd s M Qd →
      (∀ σ' H', upS X.K H M Qd σ' H' → L2.wipe σ' (own.map (·.2)) = L2.wipe σ (own.map (·.2)) → Q σ' H') → g1 v σ H Q)
    (ht : ∀ (s : Shared) (H : Hp) (C : Addr) (cl : List (Str × Addr)) (fp : List Addr), DTs (X.blk s H scope (compEnvC scope cl C X.env) fp) E0 ifs tt)
    (he : ∀ (s : Shared) (H : Hp) (C : Addr) (cl : List (Str × Addr)) (fp : List Addr), DE (X.blk s H scope (compEnvC scope cl C X.env) fp) E0 elt te) (hs : ∀ x, foldedSetIterable iter X.env x = pure x := by intro _; rfl) :
    DS X E (.Assign [.Name y py] (.ListComp elt [⟨tg, iter, ifs, 0⟩] scope pos) spos) (sSet i (dLc ti g tt te (own.map (·.2)))) := by
  obtain ⟨wi, pi, qi⟩ := hi.ok
  refine ⟨PS.imp (ps_setLc (tt := liftT X.K E0 tt) (te := liftE X.K E0 te) hc hN hy hyl hsw pi ok hg (fun s H C cl fp => (ht s H C cl fp).ok) (fun s H C cl fp => (he s H C cl fp).ok) hs) fun Z σ H ⟨s, M, Y, S, x, t, h⟩ => ?_⟩
  refine qi S x t fun J H1 M1 ow ds gr mo io td p hp => ?_
  refine lift_lc (Y := X) (Q := fun v H' => Z.nx (σ.set i (some v)) H') rfl hq (S.grow gr mo) io hp (td p (m_none mo hp)) gr fun v H' ⟨d, M', g, m, r, z⟩ => ?_
  exact h.1 _ _ ⟨s.set i (some d), M', g, (S.grow g m).set i r, z⟩
end
end DL
set_option maxHeartbeats 1000000
namespace DL
open PySem PySem.Spec PyProof.Rows L2

section
variable {X : Cx} {E : XK} {n k : Nat} {x : Str} {p pos : Pos} {e a b c tg o i value : Expr} {es : List Expr} {ts : TAD} {te ta tb td tv : TED}

/-- a, b = x, y with plain local names -/
theorem ds_par {i j : Nat} {x y : Str} {px py pt : Pos} {kt k2 pt2} (hc : X.calm = true) (hN : X.N.Nodup) (hi : X.N[i]? = some x) (hj : X.N[j]? = some y) (hij : i ≠ j)
    (hx : X.env.scope.names.lookup x = some .local) (hy : X.env.scope.names.lookup y = some .local) (ha : DN X E 2 [a, b] ts)
    (hw : swappedStores [.Tuple [.Name x px, .Name y py] kt pt] (.Tuple [a, b] k2 pt2) X.env = pure (some [x, y]))
    (hs : swapsWithSole [.Tuple [.Name x px, .Name y py] kt pt] (.Tuple [a, b] k2 pt2) pos.line X.env = pure false := by rfl) :
    DS X E (.Assign [.Tuple [.Name x px, .Name y py] kt pt] (.Tuple [a, b] k2 pt2) pos) (sPar i j ts) :=
  ⟨PS.imp (ps_par hc hN hi hj hij hx hy ha.ok hw hs) fun Z σ H ⟨s, M, Y, S, x, t, h⟩ => by
    refine useN S x t fun ds vs M1 H1 hl g1 S1 x1 r1 t1 => ?_
    split at t1
    · rename_i d e
      obtain ⟨v, w, rfl, rd, re⟩ := rs2 r1
      exact ⟨v, w, rfl, h.1 _ _ ⟨_, M1, g1, (S1.set i rd).set j re, t1⟩⟩
    · exact t1.elim⟩

/-! ### isinstance -/
def tyO (M : Mem) (d : D) : Option String := match vw M d with
  | .non => some "NoneType"
  | .bl _ => some "bool"
  | .int _ => some "int"
  | .str _ => some "str"
  | .tup _ => some "tuple"
  | .lst _ => some "list"
  | .fzn _ => some "list"
  | .dct _ _ => some "dict"
  | _ => none
theorem ty_of {K : Fg} {H : Hp} {M : Mem} {d : D} {v : V} {T : String} (mo : MOk K H M) (r : Rv K H M d v) (e : tyO M d = some T) : TyX K H v (.type T) := by
  unfold tyO at e
  split at e
  · rename_i h; cases e; rw [vw_non r h]; exact .base .non
  · rename_i b h; cases e; rw [vw_bl r h]; exact .base (.bl b)
  · rename_i b h; cases e; rw [vw_int r h]; exact .base (.int b)
  · rename_i b h; cases e; rw [vw_str r h]; exact .base (.str b)
  · rename_i ds h
    cases e
    obtain ⟨a, xs, rfl, ha, sa⟩ := vw_tup r h
    rcases ha with ⟨h1 | ⟨ob, h1⟩, _⟩ | ⟨ob, its, n, h1, h2, _⟩
    · exact .base (.tup h1)
    · exact .fTuple h1
    · exact .kTuple h1 h2
  · rename_i ds h
    cases e
    obtain ⟨a, xs, rfl, ha, sa⟩ := vw_lst mo r h
    exact .base (.lst ha)
  · rename_i ds h
    cases e
    obtain ⟨a, xs, rfl, ha, sa⟩ := vw_fzn r h
    rcases ha with ⟨h1 | ⟨ob, h1⟩, _⟩ | ⟨ob, its, n, h1, h2, _⟩
    · exact .base (.lst h1)
    · exact .base (.frz h1)
    · exact .kList h1 h2
  · rename_i ks ds h
    cases e
    obtain ⟨a, xs, rfl, ha, _⟩ := vw_dct mo r h
    exact .base (.dK ha)
  · cases e
def isiC : OC := fun ds M Q => match ds with
  | [d, .ty n] => match tyO M d with
    | some T => match kitB T n with
      | some b => Q (.bl b) M
      | none => False
    | none => False
  | _ => False
theorem dc_isi : DC X (.builtin "isinstance") isiC := by
  intro pins s σ H M xs ds us Q Qd I mo r rv t q
  unfold isiC at t
  split at t
  · rename_i d n
    obtain ⟨v, w, rfl, rd, re⟩ := rs2 r
    split at t
    · rename_i T hT
      split at t
      · rename_i b hb
        have ew : w = .ty n := re
        exact call_isi pins s σ H _ us Q I rv ⟨v, w, _, _, b, rfl, by rw [ew]; exact .ty n, ty_of mo rd hT, kit_ty hb, q _ _ (up_same mo t rfl)⟩
      · exact t.elim
    · exact t.elim
  · exact t.elim

/-! ### gcd, lcm -/
def gcdC : OC := fun ds M Q => match ds with
  | [d, e] => match vw M d, vw M e with
    | .int i, .int j => Q (.int ((Nat.gcd i.natAbs j.natAbs : Nat) : Int)) M
    | _, _ => False
  | _ => False
theorem dc_gcd : DC X (.builtin "math.gcd") gcdC := by
  intro pins s σ H M xs ds us Q Qd I mo r rv t q
  unfold gcdC at t
  split at t
  · rename_i d e
    obtain ⟨v, w, rfl, rd, re⟩ := rs2 r
    split at t
    · rename_i i j h1 h2
      exact cr_gcd pins s σ H _ us Q I rv ⟨i, j, by rw [vw_int rd h1, vw_int re h2], q _ _ (up_same mo t rfl)⟩
    · exact t.elim
  · exact t.elim
def lcmC : OC := fun ds M Q => match ds with
  | [d, e] => match vw M d, vw M e with
    | .int i, .int j => (i.natAbs < 2 ^ 64 ∧ j.natAbs < 2 ^ 64) ∧ Q (.int ((Nat.lcm i.natAbs j.natAbs : Nat) : Int)) M
    | _, _ => False
  | _ => False
theorem dc_lcm : DC X (.builtin "math.lcm") lcmC := by
  intro pins s σ H M xs ds us Q Qd I mo r rv t q
  unfold lcmC at t
  split at t
  · rename_i d e
    obtain ⟨v, w, rfl, rd, re⟩ := rs2 r
    split at t
    · rename_i i j h1 h2
      obtain ⟨u1, u2, rfl, ⟨t1, rfl⟩, ⟨t2, rfl⟩⟩ := vals2 (show Vals [V.int i, V.int j] us by rw [← vw_int rd h1, ← vw_int re h2]; exact rv)
      exact PySem.W.mc_lcm t.1.1 t.1.2 fun _ => ⟨.int _, H, I.tok _, ⟨_, rfl⟩, q _ _ (up_same mo t.2 rfl)⟩
    · exact t.elim
  · exact t.elim
/-- a module's name for a built-in function -/
theorem de_callF {id : String} {oc : OC} (hc : DC X (.builtin id) oc) (hg : Gl X x) (hm : X.mg x = some (.builtin id)) (ha : DN X E n (e :: es) ts) (hdb : (x == ("__debug__" : Str)) = false := by decide)
    (he : starEach (e :: es) X.env = (false, eval e X.env) :: starEach es X.env := by rfl) (hpl : (backTo pos (starEach es X.env)).any (·.1) = false := by rfl) : DE X E (.Call (.Name x p) (e :: es) [] pos) (dCB oc ts) :=
  ⟨PE.imp (pe_callBfun hc.toR hg hm ha.ok hdb he hpl) fun σ H Q z => liftCB z⟩

/-! ### sum, max, min of ints -/
def intsO : List D → Option (List Int)
  | [] => some []
  | .int i :: r => (intsO r).map (i :: ·)
  | _ :: _ => none
theorem ints_rs {K : Fg} {H : Hp} {M : Mem} : ∀ {ds : List D} {ns : List Int} {xs : List V}, Rs K H M ds xs → intsO ds = some ns → xs = ns.map V.int
  | [], ns, xs, r, e => by
    have e' : some [] = some ns := e
    cases e'
    exact r
  | d :: ds, ns, xs, ⟨v, rr, ex, h, q⟩, e => by
    cases d with
    | int i =>
      have e' : (intsO ds).map (i :: ·) = some ns := e
      cases z : intsO ds with
      | none => rw [z] at e'; cases e'
      | some ms =>
        rw [z] at e'
        cases e'
        rw [ex, ints_rs q z, show v = V.int i from h]
        rfl
    | _ => cases e
def lstO (M : Mem) (d : D) : Option (List D) := match vw M d with
  | .lst ds => some ds
  | .fzn ds => some ds
  | _ => none
theorem lst_of {K : Fg} {H : Hp} {M : Mem} {d : D} {ds : List D} {v : V} (mo : MOk K H M) (r : Rv K H M d v) (e : lstO M d = some ds) : ∃ a xs, v = .ref a ∧ SqL K H a xs ∧ Rs K H M ds xs := by
  unfold lstO at e
  split at e
  · rename_i es h
    cases e
    obtain ⟨a, ys, rfl, ha, sa⟩ := vw_lst mo r h
    exact ⟨a, ys, rfl, SqL.of ha, sa⟩
  · rename_i es h
    cases e
    obtain ⟨a, ys, rfl, ha, sa⟩ := vw_fzn r h
    exact ⟨a, ys, rfl, ha.sq, sa⟩
  · cases e
def foldC (P : List Int → (Int → Prop) → Prop) : OC := fun ds M Q => match ds with
  | [d] => match lstO M d with
    | some es => match intsO es with
      | some ns => P ns fun i => Q (.int i) M
      | none => False
    | none => False
  | _ => False
theorem dc_fold {id : Value} {P : List Int → (Int → Prop) → Prop} (h : CallR X id (fun vs H Q => ∃ (a : Addr) (ns : List Int), vs = [V.ref a] ∧ SqL X.K H a (ns.map V.int) ∧ P ns fun i => Q (.int i) H))
    (mono : ∀ {ns : List Int} {F G : Int → Prop}, (∀ i, F i → G i) → P ns F → P ns G) : DC X id (foldC P) := by
  intro pins s σ H M xs ds us Q Qd I mo r rv t q
  unfold foldC at t
  split at t
  · rename_i d
    obtain ⟨v, rfl, rd⟩ := rs1 r
    split at t
    · rename_i es he
      split at t
      · rename_i ns hn
        obtain ⟨a, ys, rfl, ha, sa⟩ := lst_of mo rd he
        exact h pins s σ H _ us Q I rv ⟨a, ns, rfl, by rw [← ints_rs sa hn]; exact ha, mono (fun i z => q _ _ (up_same (d := .int i) mo z rfl)) t⟩
      · exact t.elim
    · exact t.elim
  · exact t.elim
abbrev sumC : OC := foldC fun ns F => F ns.sum
def pMax (ns : List Int) (F : Int → Prop) : Prop := 0 < ns.length ∧ ∀ m, m ∈ ns → (∀ y, y ∈ ns → y ≤ m) → F m
def pMin (ns : List Int) (F : Int → Prop) : Prop := 0 < ns.length ∧ ∀ m, m ∈ ns → (∀ y, y ∈ ns → m ≤ y) → F m
abbrev maxC : OC := foldC pMax
abbrev minC : OC := foldC pMin
theorem dc_sum (hc : X.calm = true) : DC X (.builtin "sum") sumC := dc_fold (P := fun ns F => F ns.sum) (cr_sum hc) fun h z => h _ z
theorem dc_max (hc : X.calm = true) : DC X (.builtin "max") maxC := dc_fold (P := pMax) (cr_max hc) fun h z => ⟨z.1, fun m h1 h2 => h _ (z.2 m h1 h2)⟩
theorem dc_min (hc : X.calm = true) : DC X (.builtin "min") minC := dc_fold (P := pMin) (cr_min hc) fun h z => ⟨z.1, fun m h1 h2 => h _ (z.2 m h1 h2)⟩

/-! ### in -/
def flD : D → Option V
  | .non => some .non
  | .bl b => some (.bl b)
  | .int i => some (.int i)
  | .str x => some (.str x)
  | _ => none
theorem fl_of {K : Fg} {H : Hp} {M : Mem} {d : D} {u v : V} (r : Rv K H M d v) (e : flD d = some u) : v = u ∧ flatV v = true := by
  cases d with
  | non => have e' : some V.non = some u := e; cases e'; rw [show v = V.non from r]; exact ⟨rfl, rfl⟩
  | bl b => have e' : some (V.bl b) = some u := e; cases e'; rw [show v = V.bl b from r]; exact ⟨rfl, rfl⟩
  | int b => have e' : some (V.int b) = some u := e; cases e'; rw [show v = V.int b from r]; exact ⟨rfl, rfl⟩
  | str b => have e' : some (V.str b) = some u := e; cases e'; rw [show v = V.str b from r]; exact ⟨rfl, rfl⟩
  | _ => cases e
def flsD : List D → Option (List V)
  | [] => some []
  | d :: ds => match flD d, flsD ds with
    | some v, some vs => some (v :: vs)
    | _, _ => none
theorem fls_of {K : Fg} {H : Hp} {M : Mem} : ∀ {ds : List D} {us vs : List V}, Rs K H M ds vs → flsD ds = some us → vs = us ∧ vs.all flatV = true
  | [], us, vs, r, e => by
    have e' : some [] = some us := e
    cases e'
    have r' : vs = [] := r
    subst r'
    exact ⟨rfl, rfl⟩
  | d :: ds, us, vs, ⟨v, rr, ex, h, q⟩, e => by
    unfold flsD at e
    split at e
    · rename_i w ws h1 h2
      cases e
      obtain ⟨e1, f1⟩ := fl_of h h1
      obtain ⟨e2, f2⟩ := fls_of q h2
      subst ex
      exact ⟨by rw [e1, e2], by rw [List.all_cons, f1, f2]; rfl⟩
    · cases e
def inO (M : Mem) (x y : D) : Option Bool := match vw M y with
  | .dct ks ds => match keyD (vw M x) with
    | some k => some (valD ks ds k).isSome
    | none => none
  | _ => match itemsO M y with
    | some ds => match flD (vw M x), flsD ds with
      | some v, some vs => some (inV v vs)
      | _, _ => none
    | none => none
def inD : O2 := fun x y M Q => match inO M x y with
  | some b => Q (.bl b) M
  | none => False
def notInD : O2 := fun x y M Q => match inO M x y with
  | some b => Q (.bl (!b)) M
  | none => False
end
end DL
set_option maxHeartbeats 1000000
namespace DL
open PySem PySem.Spec PyProof.Rows L2

section
variable {X : Cx} {E : XK} {n k : Nat} {x : Str} {p pos p2 pos' : Pos} {e a b c tg o i value : Expr} {es : List Expr} {ts : TAD} {te ta tb td tv : TED}
theorem vw_fl {K : Fg} {H : Hp} {M : Mem} {d : D} {u v : V} (r : Rv K H M d v) (e : flD (vw M d) = some u) : v = u ∧ flatV v = true := by
  cases q : vw M d with
  | non => rw [q] at e; rw [vw_non r q]; exact fl_of (K := K) (H := H) (M := M) (d := .non) rfl e
  | bl b => rw [q] at e; rw [vw_bl r q]; exact fl_of (K := K) (H := H) (M := M) (d := .bl b) rfl e
  | int b => rw [q] at e; rw [vw_int r q]; exact fl_of (K := K) (H := H) (M := M) (d := .int b) rfl e
  | str b => rw [q] at e; rw [vw_str r q]; exact fl_of (K := K) (H := H) (M := M) (d := .str b) rfl e
  | _ => rw [q] at e; cases e
theorem vw_key {K : Fg} {H : Hp} {M : Mem} {d : D} {k : Key} {v : V} (r : Rv K H M d v) (e : keyD (vw M d) = some k) : v = kV k := by
  cases q : vw M d with
  | int b => rw [q] at e; rw [vw_int r q]; exact key_of_d (K := K) (H := H) (M := M) (d := .int b) rfl e
  | str b => rw [q] at e; rw [vw_str r q]; exact key_of_d (K := K) (H := H) (M := M) (d := .str b) rfl e
  | _ => rw [q] at e; cases e
theorem in_cases {M : Mem} {dx dy : D} {b : Bool} (h : inO M dx dy = some b) :
    (∃ ks ds k, vw M dy = .dct ks ds ∧ keyD (vw M dx) = some k ∧ b = (valD ks ds k).isSome) ∨ ∃ ds v vs, itemsO M dy = some ds ∧ flD (vw M dx) = some v ∧ flsD ds = some vs ∧ b = inV v vs := by
  unfold inO at h
  split at h
  · rename_i ks ds hq
    split at h
    · rename_i k hk
      exact .inl ⟨ks, ds, k, hq, hk, (Option.some.inj h).symm⟩
    · cases h
  · split at h
    · rename_i ds hi
      split at h
      · rename_i v vs h1 h2
        exact .inr ⟨ds, v, vs, hi, h1, h2, (Option.some.inj h).symm⟩
      · cases h
    · cases h
theorem do_in (hu : X.A.units + 1 < cLine) : DOp X (compareOp .In) inD := by
  intro pins s σ H M x y dx dy v u Q Qd I mo r1 r2 rx ry t q
  unfold inD at t
  split at t
  · rename_i bb hb
    rcases in_cases hb with ⟨ks, ds, k, h1, h2, rfl⟩ | ⟨ds, w, ws, h1, h2, h3, rfl⟩
    · obtain ⟨p, xs, rfl, hp, hl, sp⟩ := vw_dct mo r2 h1
      have ex := vw_key r1 h2
      subst ex
      obtain rfl : u = Value.ref p := ry
      refine d_in hu I (DGet.k (k := k) hp) rx fun s3 I3 => ⟨.bl _, H, I3, rfl, ?_⟩
      rw [zip_none k sp]
      exact q _ _ (up_same mo t rfl)
    · obtain ⟨a, ys, rfl, ha, sa⟩ := items_of mo r2 h1
      obtain ⟨e1, f1⟩ := vw_fl r1 h2
      obtain ⟨e2, f2⟩ := fls_of sa h3
      subst e1 e2
      exact op_in_seq pins s σ H _ _ v u Q I rx ry ⟨a, _, rfl, ha, f1, f2, q _ _ (up_same mo t rfl)⟩
  · exact t.elim
theorem do_notin (hu : X.A.units + 1 < cLine) : DOp X (compareOp .NotIn) notInD := by
  intro pins s σ H M x y dx dy v u Q Qd I mo r1 r2 rx ry t q
  unfold notInD at t
  split at t
  · rename_i bb hb
    rcases in_cases hb with ⟨ks, ds, k, h1, h2, rfl⟩ | ⟨ds, w, ws, h1, h2, h3, rfl⟩
    · obtain ⟨p, xs, rfl, hp, hl, sp⟩ := vw_dct mo r2 h1
      have ex := vw_key r1 h2
      subst ex
      obtain rfl : u = Value.ref p := ry
      refine d_notIn hu I (DGet.k (k := k) hp) rx fun s3 I3 => ⟨.bl _, H, I3, rfl, ?_⟩
      rw [zip_none k sp]
      exact q _ _ (up_same mo t rfl)
    · obtain ⟨a, ys, rfl, ha, sa⟩ := items_of mo r2 h1
      obtain ⟨e1, f1⟩ := vw_fl r1 h2
      obtain ⟨e2, f2⟩ := fls_of sa h3
      subst e1 e2
      exact op_notIn_seq pins s σ H _ _ v u Q I rx ry ⟨a, _, rfl, ha, f1, f2, q _ _ (up_same mo t rfl)⟩
  · exact t.elim

/-! ### slices -/
abbrev TOD := XD → SD → Mem → (Option Int → Mem → Prop) → Prop
structure DO (X : Cx) (E : XK) (e : Option Expr) (t : TOD) : Prop where
  ok : PO X e (fun σ H Q => ∃ s M Qd Xd, StOk X.K σ H s M ∧ XTo X.K H M Xd E ∧ t Xd s M Qd ∧ ∀ l H', (∃ M', Gw H M H' M' ∧ MOk X.K H' M' ∧ Qd l M') → Q l H')
def oNo : TOD := fun _ _ M Q => Q none M
def oSoK (Q : Option Int → Mem → Prop) : QD := fun d M => match vw M d with
  | .int i => Q (some i) M
  | _ => False
def oSo (te : TED) : TOD := fun Xd s M Q => te Xd s M (oSoK Q)
theorem PO.imp {eo : Option Expr} {t t' : TO} (h : PO X eo t) (i : ∀ σ H Q, t' σ H Q → t σ H Q) : PO X eo t' := ⟨fun pins s σ H Q I q => h.run pins s σ H Q I (i σ H Q q)⟩
theorem do_none : DO X E none oNo := ⟨PO.imp po_none fun σ H Q ⟨s, M, Qd, Xd, S, x, t, q⟩ => q none H ⟨M, Gw.refl, S.mem, t⟩⟩
theorem do_some (h : DE X E e te) : DO X E (some e) (oSo te) := ⟨PO.imp (po_some h.ok) fun σ H Q ⟨s, M, Qd, Xd, S, x, t, q⟩ => by
  refine useE S x t fun d v M1 H1 g1 S1 x1 r1 t1 => ?_
  unfold oSoK at t1
  split at t1
  · rename_i i h
    exact ⟨i, vw_int r1 h, q (some i) H1 ⟨M1, g1, S1.mem, t1⟩⟩
  · exact t1.elim⟩
def cutD {α : Type} (xs : List α) (lo hi : Option Int) : List α := (xs.drop (HT.sIx xs.length 0 lo)).take (HT.sIx xs.length xs.length hi - HT.sIx xs.length 0 lo)
theorem rs_cut {K : Fg} {H : Hp} {M : Mem} {ds : List D} {xs : List V} (r : Rs K H M ds xs) (lo hi : Option Int) : Rs K H M (cutD ds lo hi) (cutV xs lo hi) := by
  unfold cutD cutV
  rw [vlen r]
  exact Rs.take _ (Rs.drop _ r)
def slO (M : Mem) (d : D) (lo hi : Option Int) : Option D := match vw M d with
  | .tup ds => some (.tup (cutD ds lo hi))
  | .lst ds => some (.lst (cutD ds lo hi))
  | .fzn ds => some (.lst (cutD ds lo hi))
  | _ => none
def slK (l u : Option Int) (d : D) (Q : QD) : Mem → Prop := fun M => match slO M d l u with
  | some r => Q r M
  | none => False
def dSl (te : TED) (tl tu : TOD) : TED := fun Xd s M Q => te Xd s M fun d M1 => tl Xd s M1 fun l M2 => tu Xd s M2 fun u M3 => slK l u d Q M3
theorem de_sl {lo hi : Option Expr} {tl tu : TOD} (he : DE X E e te) (hl : DO X E lo tl) (hu : DO X E hi tu) : DE X E (.Subscript e (.Slice lo hi none p2) pos) (dSl te tl tu) :=
  ⟨PE.imp (pe_slice (sl_list.or sl_tupA) he.ok hl.ok hu.ok) fun σ H Q ⟨s, M, Qd, Xd, S, x, t, q⟩ => by
    refine useE S x t fun d v M1 H1 g1 S1 x1 r1 t1 => ?_
    refine ⟨s, M1, _, Xd, S1, x1, t1, fun l H2 ⟨M2, g2, m2, t2⟩ => ?_⟩
    refine ⟨s, M2, _, Xd, S1.grow g2 m2, x1.grow g2, t2, fun u H3 ⟨M3, g3, m3, t3⟩ => ?_⟩
    have r3 : Rv X.K H3 M3 d v := Rv.grow g3 _ _ (Rv.grow g2 _ _ r1)
    have gg := (g1.trans g2).trans g3
    unfold slK at t3
    split at t3
    · rename_i r hr
      unfold slO at hr
      split at hr
      · rename_i ds h
        cases hr
        obtain ⟨p, ys, rfl, ha, sa⟩ := vw_tup r3 h
        refine .inr ⟨p, ys, rfl, ha.sq, fun hw => ?_, fun _ pp hl => q _ _ ⟨_, M3, gg.trans (gw_new hl), mok_new m3 hl, new_tup m3 hl (rs_cut sa l u), t3⟩⟩
        have e : cutD ds l u = ds := by
          unfold cutD
          rw [vlen sa] at hw
          rw [hw.1, hw.2, List.drop_zero, Nat.sub_zero, List.take_length]
        rw [e] at t3
        exact q _ _ ⟨.tup ds, M3, gg, m3, ⟨p, ys, rfl, ha, sa⟩, t3⟩
      · rename_i ds h
        cases hr
        obtain ⟨p, ys, rfl, ha, sa⟩ := vw_lst m3 r3 h
        exact .inl ⟨p, ys, rfl, SqL.of ha, fun pp hl => q _ _ ⟨_, M3, gg.trans (gw_new hl), mok_new m3 hl, new_lst m3 hl (rs_cut sa l u), t3⟩⟩
      · rename_i ds h
        cases hr
        obtain ⟨p, ys, rfl, ha, sa⟩ := vw_fzn r3 h
        exact .inl ⟨p, ys, rfl, ha.sq, fun pp hl => q _ _ ⟨_, M3, gg.trans (gw_new hl), mok_new m3 hl, new_lst m3 hl (rs_cut sa l u), t3⟩⟩
      · cases hr
    · exact t3.elim⟩

/-! ### dicts that are changed -/
/-- a key put, at its place or at the end -/
def putD : List Key → List D → Key → D → List Key × List D
  | [], [], k, v => ([k], [v])
  | j :: ks, d :: ds, k, v => if j = k then (j :: ks, v :: ds) else ((j :: (putD ks ds k v).1), (d :: (putD ks ds k v).2))
  | ks, ds, k, v => (ks, ds)
theorem putK_cons {p : Key × V} {r : List (Key × V)} {k : Key} {v : V} (hn : ¬ p.1 = k) : putK (p :: r) k v = p :: putK r k v := by
  unfold putK
  rw [List.any_cons, show decide (p.1 = k) = false from decide_eq_false hn, Bool.false_or]
  by_cases ha : (r.any fun kv => decide (kv.1 = k)) = true
  · rw [if_pos ha, if_pos ha, List.map_cons, if_neg hn]
  · rw [if_neg ha, if_neg ha]; rfl
theorem putK_head {p : Key × V} {r : List (Key × V)} {k : Key} {v : V} (hp : p.1 = k) (hr : ∀ q ∈ r, ¬ q.1 = k) : putK (p :: r) k v = (k, v) :: r := by
  unfold putK
  rw [List.any_cons, show decide (p.1 = k) = true from decide_eq_true hp, Bool.true_or, if_pos rfl, List.map_cons, if_pos hp, hp]
  congr 1
  have : ∀ l : List (Key × V), (∀ q ∈ l, ¬ q.1 = k) → (l.map fun kv => if kv.1 = k then (kv.1, v) else kv) = l := by
    intro l
    induction l with
    | nil => intro _; rfl
    | cons q r ih =>
      intro h
      rw [List.map_cons, if_neg (h q List.mem_cons_self), ih fun z hz => h z (List.mem_cons_of_mem _ hz)]
  exact this r hr
theorem put_rs {K : Fg} {H : Hp} {M : Mem} {k : Key} {d : D} {v : V} (rv : Rv K H M d v) : ∀ {ks : List Key} {ds : List D} {xs : List V}, ks.Nodup → ks.length = ds.length → Rs K H M ds xs →
    ∃ ys, Rs K H M (putD ks ds k d).2 ys ∧ putK (ks.zip xs) k v = (putD ks ds k d).1.zip ys ∧ (putD ks ds k d).1.length = (putD ks ds k d).2.length
  | [], [], xs, _, _, r => by
    have e : xs = [] := r
    subst e
    exact ⟨[v], Rs.cons rv Rs.nil, rfl, rfl⟩
  | [], _ :: _, _, _, hl, _ => by simp at hl
  | _ :: _, [], _, _, hl, _ => by simp at hl
  | j :: ks, d0 :: ds, _, nd, hl, ⟨v0, rr, rfl, h, q⟩ => by
    have nd' := List.nodup_cons.mp nd
    by_cases hj : j = k
    · have e1 : putD (j :: ks) (d0 :: ds) k d = (j :: ks, d :: ds) := by show (if j = k then _ else _) = _; rw [if_pos hj]
      rw [e1]
      refine ⟨v :: rr, Rs.cons rv q, ?_, hl⟩
      rw [List.zip_cons_cons, List.zip_cons_cons, putK_head hj (fun z hz e => ?_), hj]
      have : z.1 ∈ ks := (List.of_mem_zip (show (z.1, z.2) ∈ ks.zip rr from hz)).1
      rw [e, ← hj] at this
      exact nd'.1 this
    · have e1 : putD (j :: ks) (d0 :: ds) k d = ((j :: (putD ks ds k d).1), (d0 :: (putD ks ds k d).2)) := by show (if j = k then _ else _) = _; rw [if_neg hj]
      obtain ⟨ys, h1, h2, h3⟩ := put_rs rv nd'.2 (by simpa using hl) q
      rw [e1]
      refine ⟨v0 :: ys, Rs.cons h h1, ?_, by simp [h3]⟩
      rw [List.zip_cons_cons, putK_cons hj, h2, List.zip_cons_cons]
/-- o[i] = v -/
def setK (o i v : D) (k : Mem → Prop) : Mem → Prop := fun M => match o with
  | .ref a => match M a with
    | some (.lst ds) => match i with
      | .int z => match ixN ds.length z with
        | some j => k (M.put a (.lst (ds.set j v)))
        | none => False
      | _ => False
    | some (.dct ks ds) => match keyD i with
      | some key => (ks.Nodup ∧ ks.length < 1000) ∧ k (M.put a (.dct (putD ks ds key v).1 (putD ks ds key v).2))
      | none => False
    | _ => False
  | _ => False
def rSetA : V → V → V → Hp → (Hp → Prop) → Prop := fun o i v H Q => rSetL o i v H Q ∨ ∃ a H', o = .ref a ∧ DPut H a i v H' ∧ Q H'
theorem set_any (hu : X.A.units + 1 < cLine) : PSet X rSetA := by
  intro pins s σ H o i v ov iv u Q I ro ri rv h
  rcases h with h | ⟨a, H', rfl, g, q⟩
  · exact set_list pins s σ H o i v ov iv u Q I ro ri rv h
  · obtain rfl : ov = Value.ref a := ro
    exact d_setItem hu I g ri rv fun s4 I4 => ⟨H', I4, q⟩
theorem setK_ok {H H0 : Hp} {M M0 : Mem} {do_ di dv : D} {o i v : V} {k : Mem → Prop} {Q : Hp → Prop} (mo : MOk X.K H M) (ro : Rv X.K H M do_ o) (ri : Rv X.K H M di i) (rv : Rv X.K H M dv v) (t : setK do_ di dv k M)
    (q : ∀ H' M', Gw H M H' M' → MOk X.K H' M' → k M' → Q H') : rSetA o i v H Q := by
  unfold setK at t
  split at t
  · rename_i a
    have eo : o = .ref a := ro
    split at t
    · rename_i ds hm
      split at t
      · rename_i z
        split at t
        · rename_i j hj
          obtain ⟨xs, h1, h2⟩ := mo a _ hm
          refine .inl ⟨a, xs, z, j, eo, ri, h1, by rw [vlen h2]; exact hj, q (upd H a (.lst (xs.set j v))) (M.put a (.lst (ds.set j dv))) (gw_put hm) (mok_put mo hm ⟨xs.set j v, upd_same, Rs.grow (gw_put hm) _ _ (Rs.set rv j h2)⟩) t⟩
        · exact t.elim
      · exact t.elim
    · rename_i ks ds hm
      split at t
      · rename_i key hk
        obtain ⟨xs, h1, h3, h2⟩ := mo a _ hm
        obtain ⟨ys, e1, e2, e3⟩ := put_rs (k := key) rv t.1.1 h3 h2
        have hlen : (ks.zip xs).length < sizeLine := by
          rw [List.length_zip, sizeLine_eq]
          have := t.1.2
          omega
        refine .inr ⟨a, _, eo, ?_, q (upd H a (.dK ((putD ks ds key dv).1.zip ys))) (M.put a (.dct (putD ks ds key dv).1 (putD ks ds key dv).2)) (gw_put hm) (mok_put mo hm ⟨ys, upd_same, e3, Rs.grow (gw_put hm) _ _ e1⟩) t.2⟩
        rw [key_of_d ri hk, ← e2]
        exact DPut.k h1 hlen
      · exact t.elim
    · exact t.elim
  · exact t.elim
def gSb (to ti : TED) : TGD := fun d Xd s M Q => to Xd s M fun o M1 => ti Xd s M1 fun i M2 => setK o i d (fun M3 => Q s M3) M2
theorem dg_sub {to ti : TED} (hu : X.A.units + 1 < cLine) (ho : DE X E o to) (hi : DE X E i ti)
    (ha : ∀ v, assign (.Subscript o i pos) X.env v = (do
      let ov ← holding [v] (eval o X.env)
      let iv ← holding [v, ov] (eval i X.env)
      standAt pos
      holding [v, ov, iv] (setItem ov iv v)
      release [v, ov, iv] []) := by intro _; rfl) : DG X E (.Subscript o i pos) (gSb to ti) := by
  refine ⟨_, pg_sub ho.ok hi.ok (set_any hu) ha, fun {v d σ H s M Xd Qd Q} S x r t q => ?_⟩
  refine useE S x t fun od ov M1 H1 g1 S1 x1 r1 t1 => ?_
  refine useE S1 x1 t1 fun di iv M2 H2 g2 S2 x2 r2 t2 => ?_
  exact setK_ok (H0 := H) (M0 := M) S2.mem (Rv.grow g2 _ _ r1) r2 (Rv.grow g2 _ _ (Rv.grow g1 _ _ r)) t2 fun H3 M3 g3 m3 t3 => q _ _ ⟨s, M3, (g1.trans g2).trans g3, S2.grow g3 m3, t3⟩
/-- {k: v, ..}, changed later -/
def dPairs : List (Key × TED) → XD → SD → Mem → (List D → Mem → Prop) → Prop
  | [], _, _, M, Q => Q [] M
  | (_, t) :: r, Xd, s, M, Q => t Xd s M fun d M1 => dPairs r Xd s M1 fun ds M2 => Q (d :: ds) M2
def dDct (trs : List (Key × TED)) : TED := fun Xd s M Q => ∀ p, M p = none → dPairs trs Xd s (M.put p (.dct [] [])) fun ds M1 => M1 p = some (.dct [] []) ∧ Q (.ref p) (M1.put p (.dct (trs.map (·.1)) ds))
inductive DPs (X : Cx) (E : XK) (pos : Pos) : List (Option Expr) → List Expr → List (Key × TED) → List (TE × TE) → Prop
  | nil : DPs X E pos [] [] [] []
  | str {x : Str} {j : Nat} {p : Pos} {v : Expr} {t : TED} {ks : List (Option Expr)} {vs : List Expr} {r : List (Key × TED)} {q : List (TE × TE)} (hv : DE X E v t) (h : DPs X E pos ks vs r q) :
      DPs X E pos (some (.Constant (.str x) j p) :: ks) (v :: vs) ((.inr x, t) :: r) ((tC (.str x), liftE X.K E t) :: q)
theorem DPs.pps {ks : List (Option Expr)} {vs : List Expr} {r : List (Key × TED)} {q : List (TE × TE)} (h : DPs X E pos ks vs r q) : PPs X pos ks vs q := by
  induction h with
  | nil => exact pps_nil
  | str hv _ ih => exact pps_cons pe_str hv.ok ih
theorem DPs.lift {ks : List (Option Expr)} {vs : List Expr} {r : List (Key × TED)} {qs : List (TE × TE)} (h : DPs X E pos ks vs r qs) : ∀ {σ : L2.St} {H : Hp} {s : SD} {M : Mem} {Xd : XD} {Qd : List D → Mem → Prop} {Q : List (V × V) → Hp → Prop},
    StOk X.K σ H s M → XTo X.K H M Xd E → dPairs r Xd s M Qd → (∀ ds xs M' H', ds.length = r.length → Gw H M H' M' → StOk X.K σ H' s M' → Rs X.K H' M' ds xs → Qd ds M' → Q (((r.map (·.1)).zip xs).map fun kv => (kV kv.1, kv.2)) H') → tPairs qs σ H Q := by
  induction h with
  | nil =>
    intro σ H s M Xd Qd Q S x t q
    exact q [] [] M H rfl Gw.refl S rfl t
  | @str y j p v tt ks vs r qs hv _ ih =>
    intro σ H s M Xd Qd Q S x t q
    show tPairs ((tC (.str y), liftE X.K E tt) :: qs) σ H Q
    refine useE S x t fun d w M1 H1 g1 S1 x1 r1 t1 => ?_
    refine ih S1 x1 t1 fun ds xs M2 H2 e1 g2 S2 r2 t2 => ?_
    exact q (d :: ds) (w :: xs) M2 H2 (by simp [e1]) (g1.trans g2) S2 (Rs.cons (Rv.grow g2 _ _ r1) r2) t2
theorem merge_nodup : ∀ {more acc : List (Key × V)}, ((acc ++ more).map (·.1)).Nodup → mergeK acc more = acc ++ more
  | [], acc, _ => by show acc = acc ++ []; rw [List.append_nil]
  | p :: r, acc, nd => by
    have hn : valV acc p.1 = none := by
      cases e : valV acc p.1 with
      | none => rfl
      | some v =>
        exfalso
        unfold valV at e
        rw [Option.map_eq_some_iff] at e
        obtain ⟨kv, h1, _⟩ := e
        have hm := List.mem_of_find?_eq_some h1
        have hk : kv.1 = p.1 := by simpa using List.find?_some h1
        rw [List.map_append, List.map_cons] at nd
        have := (List.nodup_append.mp nd).2.2 kv.1 (List.mem_map.mpr ⟨kv, hm, rfl⟩) p.1 List.mem_cons_self
        exact this hk
    show mergeK (putK acc p.1 p.2) r = _
    rw [putK_new p.2 hn, merge_nodup (by rw [List.append_assoc]; exact nd), List.append_assoc]; rfl
theorem de_dct {keys : List (Option Expr)} {values : List Expr} {trs : List (Key × TED)} {qs : List (TE × TE)} (h : DPs X E pos keys values trs qs) (hall : keys.all (·.isSome) = true) (hl : keys.length = values.length) (h0 : keys ≠ []) (h15 : keys.length ≤ 15) (ht : trs.length ≤ 15)
    (nd : (trs.map (·.1)).Nodup) : DE X E (.Dict keys values pos) (dDct trs) :=
  ⟨PE.imp (pe_disp h.pps hall hl h0 h15) fun σ H Q ⟨s, M, Qd, Xd, S, x, t, q⟩ => fun p hp => by
    have t1 := t p (m_none S.mem hp)
    have gp : Gw H M (upd H p (.dK [])) (M.put p (.dct [] [])) := gw_own hp
    have mp : MOk X.K (upd H p (.dK [])) (M.put p (.dct [] [])) := mok_own S.mem hp (show MObj X.K (upd H p (.dK [])) (M.put p (.dct [] [])) p (.dct [] []) from ⟨[], upd_same, rfl, rfl⟩)
    refine h.lift (S.grow gp mp) (x.grow gp) t1 fun ds xs M2 H2 e1 g2 S2 r2 t2 => ?_
    obtain ⟨hm, t2⟩ := t2
    obtain ⟨ys, h1, _, h2⟩ := S2.mem p _ hm
    have e2 : (trs.map (·.1)).length = ds.length := by rw [List.length_map, e1]
    refine ⟨h1, (trs.map (·.1)).zip xs, rfl, ?_, ?_⟩
    · rw [List.length_zip, List.length_map]; omega
    · have hz : mergeK [] ((trs.map (·.1)).zip xs) = (trs.map (·.1)).zip xs := by
        rw [merge_nodup, List.nil_append]
        rw [List.nil_append, List.map_fst_zip (by rw [vlen r2, e2]; exact Nat.le_refl _)]
        exact nd
      rw [hz]
      exact q _ _ ⟨.ref p, M2.put p (.dct (trs.map (·.1)) ds), (gp.trans g2).trans (gw_put hm), mok_put S2.mem hm ⟨xs, upd_same, e2, Rs.grow (gw_put hm) _ _ r2⟩, rfl, t2⟩⟩
end
end DL
set_option maxHeartbeats 1000000
namespace DL
open PySem PySem.Spec PyProof.Rows L2

section
variable {X : Cx} {E : XK} {n k : Nat} {x : Str} {p pos p2 pos' apos : Pos} {e a b c tg o i value : Expr} {es : List Expr} {ts : TAD} {te ta tb td tv to : TED}
/-! ### append -/
def appK (d : D) (Q : QD) (p : Addr) : Mem → Prop := fun M => match M p with
  | some (.lst ds) => ds.length < sizeLine ∧ Q .non (M.put p (.lst (ds ++ [d])))
  | _ => False
def dApp (to te : TED) : TED := fun Xd s M Q => to Xd s M fun o M1 => match o with
  | .ref p => match M1 p with
    | some (.lst _) => te Xd s M1 fun d M2 => appK d Q p M2
    | _ => False
  | _ => False
theorem de_app (ho : DE X E o to) (he : DE X E e te) (hbase : attributeBase o "append" X.env (eval o X.env) = eval o X.env := by rfl)
    (hfew : ((backTo pos (starEach (e :: []) X.env)).all (fun x => !x.1) && (backToKw pos (keywordEach [] X.env)).all (fun x => x.1.isSome)
      && decide ((e :: []).length + ([] : List Keyword).length + (if ([] : List Keyword).isEmpty then 0 else 1) < 30)) = true := by rfl)
    (hline : (apos.endLine == pos.line) = true := by rfl) (hs : starEach (e :: []) X.env = (false, eval e X.env) :: starEach [] X.env := by rfl) : DE X E (.Call (.Attribute o "append" apos) [e] [] pos) (dApp to te) :=
  ⟨PE.imp (pe_bm PySem.F.plainAttrs_list PySem.F.slot_list_append PySem.F.type_list_append mt_append ho.ok (pa_cons he.ok pa_nil hs) hbase hfew hline hs (by rfl)) fun σ H Q ⟨s, M, Qd, Xd, S, x, t, q⟩ => by
    refine useE S x t fun od v M1 H1 g1 S1 x1 r1 t1 => ?_
    split at t1
    · rename_i l
      have ev : v = .ref l := r1
      split at t1
      · rename_i ds hm
        obtain ⟨xs, h1, h2⟩ := S1.mem l _ hm
        subst ev
        refine ⟨.inl ⟨rfl, xs, SqL.of h1⟩, ?_⟩
        refine useE S1 x1 t1 fun d w M2 H2 g2 S2 x2 r2 t2 => ?_
        unfold appK at t2
        split at t2
        · rename_i es he2
          obtain ⟨ys, h3, h4⟩ := S2.mem l _ he2
          refine ⟨l, ys, w, rfl, rfl, h3, by rw [vlen h4]; exact t2.1, q _ _ ⟨.non, M2.put l (.lst (es ++ [d])), (g1.trans g2).trans (gw_put he2), mok_put S2.mem he2 ⟨ys ++ [w], upd_same, Rs.grow (gw_put he2) _ _ (Rs.append h4 (Rs.cons r2 Rs.nil))⟩, rfl, t2.2⟩⟩
        · exact t2.elim
      · exact t1.elim
    · exact t1.elim⟩

/-! ### an empty dict -/
def dDctN : TED := fun _ _ M Q => ∀ p, M p = none → Q (.ref p) (M.put p (.dct [] []))
theorem de_dctN : DE X E (.Dict [] [] pos) dDctN := ⟨PE.imp pe_dnewK fun σ H Q ⟨s, M, Qd, Xd, S, x, t, q⟩ => fun p hp =>
  q _ _ ⟨.ref p, M.put p (.dct [] []), gw_own hp, mok_own S.mem hp (show MObj X.K (upd H p (.dK [])) (M.put p (.dct [] [])) p (.dct [] []) from ⟨[], upd_same, rfl, rfl⟩), rfl, t p (m_none S.mem hp)⟩⟩

/-! ### xs[::-1] of a list -/
def revK (Q : QD) : QD := fun d M => match lstO M d with
  | some ds => Q (.lst ds.reverse) M
  | none => False
def dRev (te : TED) : TED := fun Xd s M Q => te Xd s M (revK Q)
theorem de_rev {j : Nat} {p1 p2 p3 : Pos} (he : DE X E e te) : DE X E (.Subscript e (.Slice none none (some (.UnaryOp .USub (.Constant (.int 1) j p1) p2)) p3) pos) (dRev te) :=
  ⟨PE.imp (pe_revL he.ok) fun σ H Q ⟨s, M, Qd, Xd, S, x, t, q⟩ => by
    refine useE S x t fun d v M1 H1 g1 S1 x1 r1 t1 => ?_
    unfold revK at t1
    split at t1
    · rename_i ds hd
      obtain ⟨a, xs, rfl, ha, sa⟩ := lst_of S1.mem r1 hd
      exact ⟨a, xs, rfl, ha, fun l hl => q _ _ ⟨_, M1, g1.trans (gw_new hl), mok_new S1.mem hl, new_lst S1.mem hl (Rs.reverse sa), t1⟩⟩
    · exact t1.elim⟩

/-! ### ranges as values -/
structure DR (X : Cx) (E : XK) (e : Expr) (t : XD → SD → Mem → (Int → Int → Mem → Prop) → Prop) : Prop where
  ok : PRg X e (fun σ H Q => ∃ s M Qd Xd, StOk X.K σ H s M ∧ XTo X.K H M Xd E ∧ t Xd s M Qd ∧ ∀ i j H', (∃ M', Gw H M H' M' ∧ MOk X.K H' M' ∧ Qd i j M') → Q i j H')
theorem PRg.imp {t t' : L2.St → Hp → (Int → Int → Hp → Prop) → Prop} (h : PRg X e t) (i : ∀ σ H Q, t' σ H Q → t σ H Q) : PRg X e t' := fun pins s σ H Q I q => h pins s σ H Q I (i σ H Q q)
def rg1K (Q : Int → Int → Mem → Prop) : QD := fun d M => match d with
  | .int n => Q 0 n M
  | _ => False
def rg1 (te : TED) : XD → SD → Mem → (Int → Int → Mem → Prop) → Prop := fun Xd s M Q => te Xd s M (rg1K Q)
theorem dr_1 (hg : Gl X "range") (hm : X.mg "range" = none) (ha : DE X E a ta) (na : starEach [a] X.env = (false, eval a X.env) :: starEach [] X.env := by rfl) : DR X E (.Call (.Name "range" p) [a] [] pos) (rg1 ta) :=
  ⟨PRg.imp (prg_1 hg hm ha.ok na) fun σ H Q ⟨s, M, Qd, Xd, S, x, t, q⟩ => by
    refine useE S x t fun d v M1 H1 g1 S1 x1 r1 t1 => ?_
    unfold rg1K at t1
    split at t1
    · rename_i n
      exact ⟨n, r1, q 0 n H1 ⟨M1, g1, S1.mem, t1⟩⟩
    · exact t1.elim⟩
def dLstRg (t : XD → SD → Mem → (Int → Int → Mem → Prop) → Prop) : TED := fun Xd s M Q => t Xd s M fun i j M1 => RgOk i j ∧ Q (.lst (rngL i (j - i).toNat)) M1
theorem rs_rg {K : Fg} {H : Hp} {M : Mem} (i : Int) : ∀ l : List Nat, Rs K H M (l.map fun k => D.int (i + (k : Nat))) (l.map fun k => V.int (i + (k : Nat)))
  | [] => rfl
  | k :: l => Rs.cons rfl (rs_rg i l)
theorem de_lstRg {t : XD → SD → Mem → (Int → Int → Mem → Prop) → Prop} (hc : X.calm = true) (hg : Gl X "list") (hm : X.mg "list" = none) (he : DR X E e t) (na : starEach [e] X.env = (false, eval e X.env) :: starEach [] X.env := by rfl) : DE X E (.Call (.Name "list" p) [e] [] pos) (dLstRg t) :=
  ⟨PE.imp (pe_listRg hc hg hm he.ok na) fun σ H Q ⟨s, M, Qd, Xd, S, x, t, q⟩ => by
    refine ⟨s, M, _, Xd, S, x, t, fun i j H1 ⟨M1, g1, m1, t1⟩ => ⟨t1.1, fun l hl => ?_⟩⟩
    exact q _ _ ⟨_, M1, g1.trans (gw_new hl), mok_new m1 hl, new_lst m1 hl (rs_rg i _), t1.2⟩⟩
def iRevD (t : XD → SD → Mem → (Int → Int → Mem → Prop) → Prop) : TID := fun Xd s M R => t Xd s M fun i j M1 => (-(2 ^ 62) ≤ i ∧ i < 2 ^ 62 ∧ -(2 ^ 62) ≤ j ∧ j < 2 ^ 62) ∧ R (rngL i (j - i).toNat).reverse none M1
theorem rev_rng (i : Int) (n : Nat) : (rngL i n).reverse = (List.range n).map fun k => D.int (i + (n : Int) - 1 + (k : Nat) * (-1)) := by
  apply List.ext_getElem?
  intro k
  unfold rngL
  rw [List.getElem?_map]
  by_cases hk : k < n
  · rw [List.getElem?_reverse (by simpa using hk), List.getElem?_map, List.length_map, List.length_range, List.getElem?_range (by omega), List.getElem?_range hk]
    simp only [Option.map_some]
    congr 2
    omega
  · rw [List.getElem?_eq_none (by simpa using hk), List.getElem?_eq_none (by simpa using hk)]; rfl
theorem di_revR {t : XD → SD → Mem → (Int → Int → Mem → Prop) → Prop} (hg : Gl X "reversed") (hm : X.mg "reversed" = none) (he : DR X E e t) (hs : starEach [e] X.env = (false, eval e X.env) :: starEach [] X.env := by rfl) : DI X E tg (.Call (.Name "reversed" p) [e] [] pos) (iRevD t) := by
  refine ⟨_, pi_revR hg hm he.ok hs, fun {σ H s M Xd Qd R} S x t q => ?_⟩
  refine ⟨s, M, _, Xd, S, x, t, fun i j H1 ⟨M1, g1, m1, t1⟩ => ⟨t1.1.1, t1.1.2.1, t1.1.2.2.1, t1.1.2.2.2, q _ _ _ _ _ g1 m1 ?_ t1.2⟩⟩
  rw [rev_rng]
  exact ItOk.rng

/-! ### repr -/
theorem py_nodict : (∀ (d : D) (p : PyData), toPy d = some p → p.hasDict = false) ∧ (∀ (ds : List D) (ps : List PyData), toPys ds = some ps → PyData.hasDictAll ps = false) := by
  have h : ∀ n : Nat, (∀ (d : D) (p : PyData), sizeOf d < n → toPy d = some p → p.hasDict = false) ∧ (∀ (ds : List D) (ps : List PyData), sizeOf ds < n → toPys ds = some ps → PyData.hasDictAll ps = false) := by
    intro n
    induction n with
    | zero => exact ⟨fun _ _ h => absurd h (Nat.not_lt_zero _), fun _ _ h => absurd h (Nat.not_lt_zero _)⟩
    | succ n ih =>
      refine ⟨fun d p hs e => ?_, fun ds ps hs e => ?_⟩
      · cases d with
        | non => have e' : some PyData.none = some p := e; cases e'; simp only [PyData.hasDict]
        | bl b => have e' : some (PyData.bool b) = some p := e; cases e'; simp only [PyData.hasDict]
        | int b => have e' : some (PyData.int b) = some p := e; cases e'; simp only [PyData.hasDict]
        | str b => have e' : some (PyData.str b) = some p := e; cases e'; simp only [PyData.hasDict]
        | tup ds =>
          have e' : (toPys ds).map PyData.tuple = some p := e
          cases z : toPys ds with
          | none => rw [z] at e'; cases e'
          | some ps => rw [z] at e'; cases e'; simp only [PyData.hasDict]; exact ih.2 ds ps (by simp at hs; omega) z
        | lst ds =>
          have e' : (toPys ds).map PyData.list = some p := e
          cases z : toPys ds with
          | none => rw [z] at e'; cases e'
          | some ps => rw [z] at e'; cases e'; simp only [PyData.hasDict]; exact ih.2 ds ps (by simp at hs; omega) z
        | fzn ds =>
          have e' : (toPys ds).map PyData.list = some p := e
          cases z : toPys ds with
          | none => rw [z] at e'; cases e'
          | some ps => rw [z] at e'; cases e'; simp only [PyData.hasDict]; exact ih.2 ds ps (by simp at hs; omega) z
        | _ => cases (show (none : Option PyData) = some p from e)
      · cases ds with
        | nil => have e' : some [] = some ps := e; cases e'; simp only [PyData.hasDictAll]
        | cons d ds =>
          unfold toPys at e
          split at e
          · rename_i q qs h1 h2
            cases e
            simp only [PyData.hasDictAll]
            rw [ih.1 d q (by simp at hs; omega) h1, ih.2 ds qs (by simp at hs; omega) h2]; rfl
          · cases e
  exact ⟨fun d p => (h (sizeOf d + 1)).1 d p (Nat.lt_succ_self _), fun ds ps => (h (sizeOf ds + 1)).2 ds ps (Nat.lt_succ_self _)⟩
theorem vw_nodict {M : Mem} {d : D} {p : PyData} (h : toPy (vw M d) = some p) : p.hasDict = false := py_nodict.1 _ p h
/-- it can be shown -/
def ShOk (p : PyData) : Prop := p.showable = true ∧ p.shown.length ≤ sizeLine ∧ p.depth ≤ 60
def reprC : OC := fun ds M Q => match ds with
  | [d] => match toPy (vw M d) with
    | some p => ShOk p ∧ Q (.str p.shown) M
    | none => False
  | _ => False
theorem dc_repr (hg : X.A.guards = some []) (hu : X.A.units + 64 < cLine) : DC X (.builtin "repr") reprC := by
  intro pins s σ H M xs ds us Q Qd I mo r rv t q
  unfold reprC at t
  split at t
  · rename_i d
    obtain ⟨v, rfl, rd⟩ := rs1 r
    split at t
    · rename_i py hp
      obtain ⟨⟨h1, h2, h3⟩, t⟩ := t
      obtain ⟨u, rfl, ru⟩ := vals1 rv
      have hd := vw_dp mo rd hp
      obtain ⟨as, rr⟩ := Dp.reads I py v u hd ru
      have fin : ∀ (h' : Heap) (tk : Tok) (t' : Nat), (∀ b o, s.heap.get? b = some o → h'.get? b = some o) → EP X pins σ Q (.str py.shown tk) { s with heap := h', toks := t' } := fun h' tk t' hk =>
        ⟨.str py.shown, H, I.kept hk, ⟨_, rfl⟩, q _ _ (up_same mo t rfl)⟩
      cases rr with
      | none => exact PySem.P.repr_of_none (by have := fin s.heap s.toks (s.toks + 1) (fun _ _ z => z); simpa only [PyData.shown] using this)
      | bool b => exact PySem.P.repr_of_bool (by have := fin s.heap s.toks (s.toks + 1) (fun _ _ z => z); simpa only [PyData.shown] using this)
      | int i tk => exact PySem.P.repr_of_int (by simpa [PyData.showable] using h1) (by have := fin s.heap s.toks (s.toks + 1) (fun _ _ z => z); simpa only [PyData.shown] using this)
      | str y tk => exact PySem.P.repr_of_str (by have := fin s.heap s.toks (s.toks + 1) (fun _ _ z => z); simpa only [PyData.shown] using this) (by simpa only [PyData.shown] using h2)
      | list a1 a2 a3 a4 => exact repr_of_reads' (.list a1 a2 a3 a4) h1 (PyData.noDict_hsm (vw_nodict hp)) hg (by omega) (fun _ _ z => z) (fun h' u tk hk => fin h' u tk hk) h2
      | tuple a1 a2 a3 a4 => exact repr_of_reads' (.tuple a1 a2 a3 a4) h1 (PyData.noDict_hsm (vw_nodict hp)) hg (by omega) (fun _ _ z => z) (fun h' u tk hk => fin h' u tk hk) h2
      | dict a1 a2 a3 a4 a5 => exact absurd (vw_nodict hp) (by simp [PyData.hasDict])
    · exact t.elim
  · exact t.elim
end
end DL
set_option maxHeartbeats 1000000
namespace DL
open PySem PySem.Spec PyProof.Rows L2

/-! ### targets of clauses, by place -/
def GV (K : Fg) (vs : List Nat) (g : TGD) (g1 : TG) : Prop := ∀ {v : V} {d : D} {σ : L2.St} {H : Hp} {s : SD} {M : Mem} {Xd : XD} {Qd : SD → Mem → Prop} {Q : L2.St → Hp → Prop}, StOk K σ H s M → XTo K H M Xd E0 → Rv K H M d v → g d Xd s M Qd →
  (∀ σ' H', upS K H M Qd σ' H' → L2.wipe σ' vs = L2.wipe σ vs → Q σ' H') → g1 v σ H Q
def GVs (K : Fg) (vs : List Nat) (g : TGsD) (g1 : TGs) : Prop := ∀ {ws : List V} {ds : List D} {σ : L2.St} {H : Hp} {s : SD} {M : Mem} {Xd : XD} {Qd : SD → Mem → Prop} {Q : L2.St → Hp → Prop}, StOk K σ H s M → XTo K H M Xd E0 → Rs K H M ds ws → g ds Xd s M Qd →
  (∀ σ' H', upS K H M Qd σ' H' → L2.wipe σ' vs = L2.wipe σ vs → Q σ' H') → g1 ws σ H Q
section
variable {K : Fg} {vs : List Nat}
theorem gv_name {i : Nat} (h : i ∈ vs) : GV K vs (gNm i) (gName i) := fun S x r t q => q _ _ ⟨_, _, Gw.refl, S.set i r, t⟩ (wipe_set h)
theorem gvs_nil : GVs K vs gNi gNil := fun {ws ds σ H s M Xd Qd Q} S x r t q => by
  cases ds with
  | nil => exact ⟨r, q _ _ (upS_here S t) rfl⟩
  | cons d ds => exact t.elim
theorem gvs_cons {t : TGD} {u : TGsD} {g1 : TG} {g2 : TGs} (h1 : GV K vs t g1) (h2 : GVs K vs u g2) : GVs K vs (gCo t u) (gCons g1 g2) := fun {ws ds σ H s M Xd Qd Q} S x r t q => by
  cases ds with
  | nil => exact t.elim
  | cons d ds =>
    obtain ⟨v, vr, rfl, rd, rr⟩ := r
    refine ⟨v, vr, rfl, h1 S x rd t fun σ' H' ⟨s', M', g, S', z⟩ ew => ?_⟩
    exact h2 S' (x.grow g) (Rs.grow g _ _ rr) z fun σ2 H2 hu e2 => q σ2 H2 (fwdS (Q := fun a b => upS K H M Qd a b) g (fun _ _ c => c) σ2 H2 hu) (e2.trans ew)
theorem gv_tup {n : Nat} {t : TGsD} {g1 : TGs} (h : GVs K vs t g1) : GV K vs (gTp n t) (gTup K n g1) := fun {v d σ H s M Xd Qd Q} S x r t q => by
  unfold gTp at t
  split at t
  · rename_i ds hd
    obtain ⟨a, xs, rfl, ha, sa⟩ := vw_tup r hd
    exact ⟨a, xs, rfl, ha.sq, by rw [vlen sa]; exact t.1, h S x sa t.2 q⟩
  · exact t.elim
end
section
variable {X : Cx} {E : XK} {pos : Pos} {tg : Expr} {te : TED}
theorem de_comp {elt iter : Expr} {ifs : List Expr} {scope : Scope} (own : List (Str × Nat)) {ti : TID} {g : TGD} {tt : TTD} (g1 : TG) (hc : X.calm = true) (hN : X.N.Nodup) (hi : DI X E tg iter ti) (ok : BlkOk X.N X.env.scope scope own)
    (hg : ∀ (s : Shared) (H : Hp) (C : Addr) (cl : List (Str × Addr)) (fp : List Addr), PG (X.blk s H scope (compEnvC scope cl C X.env) fp) tg g1) (hq : GV X.K (own.map (·.2)) g g1)
    (ht : ∀ (s : Shared) (H : Hp) (C : Addr) (cl : List (Str × Addr)) (fp : List Addr), DTs (X.blk s H scope (compEnvC scope cl C X.env) fp) E0 ifs tt)
    (he : ∀ (s : Shared) (H : Hp) (C : Addr) (cl : List (Str × Addr)) (fp : List Addr), DE (X.blk s H scope (compEnvC scope cl C X.env) fp) E0 elt te) (hs : ∀ x, foldedSetIterable iter X.env x = pure x := by intro _; rfl) :
    DE X E (.ListComp elt [⟨tg, iter, ifs, 0⟩] scope pos) (dLc ti g tt te (own.map (·.2))) := de_lc hc hN hi ok g1 hg hq ht he hs
theorem ds_setComp {i : Nat} {y : Str} {py spos : Pos} {elt iter : Expr} {ifs : List Expr} {scope : Scope} (own : List (Str × Nat)) {ti : TID} {g : TGD} {tt : TTD} (g1 : TG) (hc : X.calm = true) (hN : X.N.Nodup) (hy : X.N[i]? = some y) (hyl : X.env.scope.names.lookup y = some .local)
    (hsw : swapsWith (.ListComp elt [⟨tg, iter, ifs, 0⟩] scope pos) (some (.Name y py)) spos.line X.env = pure true) (hi : DI X E tg iter ti) (ok : BlkOk X.N X.env.scope scope own)
    (hg : ∀ (s : Shared) (H : Hp) (C : Addr) (cl : List (Str × Addr)) (fp : List Addr), PG (X.blk s H scope (compEnvC scope cl C X.env) fp) tg g1) (hq : GV X.K (own.map (·.2)) g g1)
    (ht : ∀ (s : Shared) (H : Hp) (C : Addr) (cl : List (Str × Addr)) (fp : List Addr), DTs (X.blk s H scope (compEnvC scope cl C X.env) fp) E0 ifs tt)
    (he : ∀ (s : Shared) (H : Hp) (C : Addr) (cl : List (Str × Addr)) (fp : List Addr), DE (X.blk s H scope (compEnvC scope cl C X.env) fp) E0 elt te) (hs : ∀ x, foldedSetIterable iter X.env x = pure x := by intro _; rfl) :
    DS X E (.Assign [.Name y py] (.ListComp elt [⟨tg, iter, ifs, 0⟩] scope pos) spos) (sSet i (dLc ti g tt te (own.map (·.2)))) := ds_setLc hc hN hy hyl hsw hi ok g1 hg hq ht he hs
end
/-- what a callee lets out leaves the def -/
theorem pBody {P : Program} {w : World} {K : Fg} {mg : Str → Option Value} {base : Heap} {N : List Str} {qual : Str} {sc : Scope} {f : Addr} {cdv : Value} {A : Around} {outer : List Env} {s : Shared} {H : Hp} {E : XK} :
    Passes (L2.CX P w) (cxOf (L2.CX P w) P w K mg base N qual sc f cdv A outer s H E) E :=
  passes_call (takes_of rfl rfl rfl rfl) fun _ _ _ _ h => h
theorem oBody {P : Program} {w : World} {K : Fg} {mg : Str → Option Value} {base : Heap} {N : List Str} {qual : Str} {sc : Scope} {f : Addr} {cdv : Value} {A : Around} {outer : List Env} {s : Shared} {H : Hp} {E : XK} :
    PassesOwn (model P w) (cxOf (L2.CX P w) P w K mg base N qual sc f cdv A outer s H E).A (cxOf (L2.CX P w) P w K mg base N qual sc f cdv A outer s H E).env (cxOf (L2.CX P w) P w K mg base N qual sc f cdv A outer s H E).xe :=
  passes_of rfl
theorem dfn0 {P : Program} {w : World} {K : Fg} {mg : Str → Option Value} {base : Heap} {k : Nat} {f : Addr} {fd : FuncData} {ps : List Str} : DFn P w K mg base k f fd ps (fun _ _ _ _ => False) :=
  ⟨fun A outer s H M args us vs ds Qd Xd Q E hr e0 hl hb hv mo rs t => t.elim⟩
theorem rs0 {K : Fg} (H : Hp) (M : Mem) : Rs K H M [] [] := rfl
end DL
set_option maxHeartbeats 1000000
namespace PySem
namespace HandSPX
open Builtin Builtin.ObjectAttr
section
variable {M : Model} {A : Around} {E : Value → Shared → Prop} {h : Heap} {g : Array GenState} {d : Drawn} {t : Nat} {os : OsState}
variable {nm q : Str} {C N : Addr} {bs bm bmB : List Value} {hdct : Bool} {sn : List Str} {sub : List Value} {ab : Bool} {col : Option Bool} {dd : Option Addr} {k0 k1 k2 k3 k5 : Option Value} {B newId initId : String}
variable {prog : Program} {w : World} {R : Result → Shared → Prop} {kw : List (Str × Value)}
theorem dlk_check (F : ExcBaseFacts B newId initId bmB) (hT : ∀ X : String, bm.contains (.type X) = bmB.contains (.type X)) {rest : List Value} {Q : Unit → Shared → Prop}
    (hC : h.get? C = some (excClassObj nm q C N bs bm hdct sn sub ab col dd k0 k1 k2 k3 k5 newId)) (hq : Q () ⟨h, g, d, t, os⟩) : wpAny M A (checkBuiltinCall newId ⟨.ref C :: rest, kw⟩) Q E ⟨h, g, d, t, os⟩ := by
  have hc1 : (Value.ref C :: bm).contains (.type B) = true := by rw [List.contains_cons, hT, F.hasB, Bool.or_true]
  have hs1 := F.noStar
  simp only [checkBuiltinCall, F.newKind, F.newSplit, F.newRow]
  repeat (first | refine wpAny_loadPart_at hC ?_ | (refine wpAny_isSubtype_exc hC ?_; rw [hc1]) | refine wpAny_staticBase_exc hC ?_ | refine wpAny_madeBy_exc hC ?_ | simp only [bne_self_eq_false, Bool.false_eq_true, if_false] | wp_step)
  exact hq
theorem dlk_new (F : ExcBaseFacts B newId initId bmB) (hT : ∀ X : String, bm.contains (.type X) = bmB.contains (.type X)) {rest : List Value}
    (hC : h.get? C = some (excClassObj nm q C N bs bm hdct sn sub ab col dd k0 k1 k2 k3 k5 newId))
    (hq : R (.ok (.ret (.ref (h.objs.size + 1)))) ⟨(h.push (W.kdv_tup rest)).push (excO C h.objs.size), g, d, t, os⟩) (hz : rest.length ≤ sizeLine) :
    codeAny (model prog w) A (.builtin newId ⟨.ref C :: rest, kw⟩) R ⟨h, g, d, t, os⟩ := by
  have hends := F.ends
  have c1 : (Value.ref C :: bm).contains (.type B) = true := by rw [List.contains_cons, hT, F.hasB, Bool.or_true]
  have c2 : (Value.ref C :: bm).contains (.type "AttributeError") = false := by rw [List.contains_cons, hT, F.noAttr]; rfl
  have c3 : (Value.ref C :: bm).contains (.type "NameError") = false := by rw [List.contains_cons, hT, F.noName]; rfl
  refine codeAny_builtinAt F.entry ?_
  unfold Builtin.«BaseException.__new__»
  refine wpAt_bind ?_
  show wpAt _ _ _ (stack >>= _) _ _ _
  refine wpAt_bind (wpAt_stack fun p below => wpAt_of_wpAny ?_)
  wp_walk
  refine wpAt_of_wpAny ?_
  rw [F.owner]
  repeat (first | with_reducible refine wpAny_madeHere_exc F.canon hC ?_ | with_reducible refine wpAny_loadPart_at hC ?_ | (with_reducible refine wpAny_isSubtype_exc hC ?_; first | rw [c1] | rw [c2] | rw [c3]) | wp_step)
  show R _ _
  rw [Heap.size_push]; exact hq
theorem dlk_type (F : ExcBaseFacts B newId initId bmB) (hT : ∀ X : String, bm.contains (.type X) = bmB.contains (.type X)) {rest : List Value} {fI : Addr} {Q : Fin → Shared → Prop}
    (hC : h.get? C = some (excClassObj nm q C N bs bm hdct sn sub ab col dd k0 k1 k2 k3 k5 newId))
    (hi : W.Looks (model prog w) h (typeLookup (.ref C) "__init__") (some (.ref fI))) (hb : ∀ self, W.Looks (model prog w) h (bindSpecial (.ref fI) self) (.ref fI, [self])) (hz : rest.length ≤ sizeLine)
    (hq : codeAny (model prog w) A (.call (.ref fI) ⟨.ref (h.objs.size + 1) :: rest, kw⟩)
      (fun r s' => match r with | .ok (.ret v) => v = .none ∧ Q (.done (.ret (.ref (h.objs.size + 1)))) s' | .ok _ => False | .error e => E e s') ⟨(h.push (W.kdv_tup rest)).push (excO C h.objs.size), g, d, t, os⟩) :
    wpAny (model prog w) A (Builtin.«type.__call__» ⟨.ref C :: rest, kw⟩) Q E ⟨h, g, d, t, os⟩ := by
  have hF := F.toExcCallFacts
  repeat (first | with_reducible refine wpAny_loadPart_at hC ?_ | with_reducible refine wpAny_madeBy_exc hC ?_ | wp_step)
  refine codeAny_call_builtin_code (Code.quiet_builtin _ F.quiet) (dlk_check F hT hC ?_)
  refine dlk_new F hT hC ?_ hz
  show wpAny _ _ _ _ _ _
  have kp : ∀ b o, h.get? b = some o → ((h.push (W.kdv_tup rest)).push (excO C h.objs.size)).get? b = some o := fun b o e => Heap.get?_push_of_some _ (Heap.get?_push_of_some _ e)
  have hC1 := kp _ _ hC
  have hg1 : ((h.push (W.kdv_tup rest)).push (excO C h.objs.size)).get? (h.objs.size + 1) = some (excO C h.objs.size) := by heap_get
  have hcc : (Value.ref C :: bm).contains (.ref C) = true := by simp
  have i1 := hi.keeps kp
  have b1 := (hb (.ref (h.objs.size + 1))).keeps kp
  unfold isInstance
  repeat (first | with_reducible refine wpAny_loadPart_at hg1 ?_ | (with_reducible refine wpAny_isSubtype_exc hC1 ?_; rw [hcc]) | wp_step)
  show wpAny _ _ (typeLookup (.ref C) _) _ _ _
  refine i1.at (wpAny_holding (wpAny_bind (b1.at (wpAny_bind (wpAny_call (codeAny_mono hq fun r s' z => ?_))))))
  rcases r with e | (v | _ | _ | _) <;> first | exact z | exact z.elim | skip
  obtain ⟨rfl, z⟩ := z
  first
    | exact wpAny_pure (wpAny_pure z)
    | (wp_walk; exact z)
theorem dlk_call (F : ExcBaseFacts B newId initId bmB) (hT : ∀ X : String, bm.contains (.type X) = bmB.contains (.type X)) {rest : List Value} {fI : Addr}
    (hC : h.get? C = some (excClassObj nm q C N bs bm hdct sn sub ab col dd k0 k1 k2 k3 k5 newId))
    (hi : W.Looks (model prog w) h (typeLookup (.ref C) "__init__") (some (.ref fI))) (hb : ∀ self, W.Looks (model prog w) h (bindSpecial (.ref fI) self) (.ref fI, [self])) (hz : rest.length ≤ sizeLine)
    (hq : codeAny (model prog w) (A.under (.builtin "type.__call__" ⟨.ref C :: rest, kw⟩)) (.call (.ref fI) ⟨.ref (h.objs.size + 1) :: rest, kw⟩) (W.InitBack (h.objs.size + 1) R) ⟨(h.push (W.kdv_tup rest)).push (excO C h.objs.size), g, d, t, os⟩) :
    codeAny (model prog w) A (.call (.ref C) ⟨rest, kw⟩) R ⟨h, g, d, t, os⟩ := by
  have f1 := tc_lookup
  have f2 := tc_bind (.ref C)
  have hTy : (⟨h, g, d, t, os⟩ : Shared).TypeIs (.ref C) "type" := ⟨_, hC, rfl⟩
  refine codeAny_of_tree ?_
  show wpAny _ _ (callAny (.ref C) _) _ _ _
  repeat (any_goals (first | assumption | with_reducible refine wpAny_loadPart_at hC ?_ | wp_step))
  refine ⟨rfl, codeAny_call_builtin_at (Code.quiet_builtin _ (by decide +kernel)) entry_typeCall (wpAny_check_type_call_sub hC (dlk_type F hT hC hi hb hz ?_))⟩
  refine codeAny_mono hq fun r s' z => ?_
  rcases r with e | (v | _ | _ | _) <;> exact z
end
end HandSPX
end PySem
namespace DL
open PySem PySem.Spec PyProof.Rows L2
/-! ### an own class of exceptions over any built-in one -/
structure OexG (K : Fg) (C : Addr) : Prop where
  ex : ∃ B newId initId bmB, ExcBaseFacts B newId initId bmB ∧ StoreFacts B bmB "object.__setattr__" "object" ∧ PySem.W.excInitIn K C bmB newId = true ∧ PySem.W.excOver K C bmB = true
  hd : PySem.W.hasDictIn K C = true
  sa : PySem.W.findIn K (.ref C) "__setattr__" = some (some (.builtin "object.__setattr__"))
  exC : PySem.W.subIn K (.ref C) (.type "BaseException") = some true
  tyC : PySem.W.typeIn K (.ref C) = some (.type "type")
  kC : PySem.W.keepIn K (.ref C) = true
section
open PySem.W PySem.HandSPX Builtin Builtin.ObjectAttr
variable {prog : Program} {w : World} {A : Around} {E : Value → Shared → Prop} {R : Result → Shared → Prop} {hp : Heap} {g : Array GenState} {d : Drawn} {t : Nat} {os : OsState}
theorem osg_new {K : Fg} {name : Str} {tk : Tok} {v : Value} {x C : Addr} {fv : Array Value} (T : OexG K C) (X : K.In hp) (hx : hp.get? x = some { cls := .ref C, data := .fields fv }) (ha : findIn K (.ref C) name = some none)
    (hq : ∀ h' tk' dx, (∀ b o, b ≠ x → hp.get? b = some o → h'.get? b = some o) → hp.objs.size ≤ dx → dx ≠ x → h'.get? x = some { cls := .ref C, dict := some dx, data := .fields fv } → h'.Ns1 dx (fun y => if y = name then some v else none) → R (.ok (.ret .none)) ⟨h', g, d, tk', os⟩) :
    codeAny (model prog w) A (.call (.builtin "object.__setattr__") ⟨[.ref x, .str name tk, v], []⟩) R ⟨hp, g, d, t, os⟩ := by
  obtain ⟨B, newId, initId, bmB, F1, SF, _, ov⟩ := T.ex
  have I : InstAt hp x { cls := .ref C, data := .fields fv } C none := ⟨hx, rfl, rfl, trivial⟩
  have hxs : x ≠ hp.objs.size := Nat.ne_of_lt (Heap.lt_size hx)
  obtain ⟨cd, hcd, hh⟩ := any_some T.hd
  refine osa_openX SF X I ov (r := none) (by unfold takerIn; rw [ha]; rfl) fun b => ?_
  have hcls : Looks (model prog w) hp (classData C) cd := looks_clsIn X hcd
  show wpAny _ _ (storeInOwnDict (.ref x) (.ref C) (.str name tk) name v b) _ _ _
  obtain ⟨nm, bs, mro, ns, qn, hd, sn, sb, ab, col, del⟩ := cd
  dsimp only at hh
  subst hh
  unfold storeInOwnDict ownDictForStores
  repeat (first | with_reducible refine store_in_new ?_ ?_ | with_reducible refine wpAny_loadPart_at hx ?_ | with_reducible refine hcls.at ?_ | wp_step)
  · exact ⟨_, #[], _, (Heap.get?_update_ne _ _ _ _ hxs.symm).trans (Heap.get?_push_at rfl rfl), rfl, fun e he => absurd he (by simp), fun _ => rfl⟩
  · intro h' tk' hn' hs
    have hx1 : (hp.push { cls := .type "dict", data := .dict #[] }).get? x = some { cls := .ref C, data := .fields fv } := Heap.get?_push_of_some _ hx
    refine hq h' tk' hp.objs.size (fun b o hb ho => ?_) (Nat.le_refl _) hxs.symm ?_ hn'
    · exact (hs.2 b (Nat.ne_of_lt (Heap.lt_size ho))).trans ((Heap.get?_update_ne _ _ _ _ hb).trans (Heap.get?_push_of_some _ ho))
    · exact (hs.2 x hxs).trans (Heap.get?_update_self _ hx1 rfl)
theorem osg_old {K : Fg} {name : Str} {tk : Tok} {v : Value} {x C dx : Addr} {fv : Array Value} {m0 : Str → Option Value} {nl : List Str} (T : OexG K C)
    (X : K.In hp) (hx : hp.get? x = some { cls := .ref C, dict := some dx, data := .fields fv }) (hns : hp.Ns1 dx m0) (hw : Within m0 nl) (hz : nl.length ≤ 1000) (ha : findIn K (.ref C) name = some none)
    (hq : ∀ h' tk', (∀ b o, b ≠ dx → hp.get? b = some o → h'.get? b = some o) → h'.Ns1 dx (fun y => if y = name then some v else m0 y) → R (.ok (.ret .none)) ⟨h', g, d, tk', os⟩) :
    codeAny (model prog w) A (.call (.builtin "object.__setattr__") ⟨[.ref x, .str name tk, v], []⟩) R ⟨hp, g, d, t, os⟩ := by
  obtain ⟨B, newId, initId, bmB, F1, SF, _, ov⟩ := T.ex
  obtain ⟨oD, esD, epD, hoD, hdD, _⟩ := hns.count hw
  have I : InstAt hp x { cls := .ref C, dict := some dx, data := .fields fv } C (some oD) := ⟨hx, rfl, rfl, hoD⟩
  obtain ⟨cd, hcd, hh⟩ := any_some T.hd
  refine osa_openX SF X I ov (r := none) (by unfold takerIn; rw [ha]; rfl) fun b => ?_
  have hcls : Looks (model prog w) hp (classData C) cd := looks_clsIn X hcd
  show wpAny _ _ (storeInOwnDict (.ref x) (.ref C) (.str name tk) name v b) _ _ _
  obtain ⟨nm, bs, mro, ns, qn, hd, sn, sb, ab, col, del⟩ := cd
  dsimp only at hh
  subst hh
  unfold storeInOwnDict ownDictForStores
  repeat (first | with_reducible refine PySem.OEX.store_in_old hns hw hz ?_ | with_reducible refine wpAny_loadPart_at hx ?_ | with_reducible refine hcls.at ?_ | wp_step)
  intro h' tk' hn' hs
  exact hq h' tk' (fun b o hb ho => (hs.2 b hb).trans ho) hn'
end
end DL
set_option maxHeartbeats 1000000
namespace DL
open PySem PySem.Spec PyProof.Rows L2

/-! ### fields stored -/
section
variable {X : Cx} {pins : List (Addr × Obj)} {σ : L2.St} {H : Hp} {s : Shared} {a C dx : Addr} {f : Str} {y : V} {u : Value} {fs : List (Str × V)} {Q : Unit → Shared → Prop} {E : Value → Shared → Prop} {A : Around}
theorem osv_new (T : OexG X.K C) (I : Inv X pins σ H s) (e : H a = some (exo a C none)) (hno : PySem.W.findIn X.K (.ref C) f = some none) (ry : RelV y u)
    (h : ∀ dx s', H dx = none → dx ≠ a → Inv X pins σ (upd (upd H dx (exd dx [(f, y)])) a (exo a C (some dx))) s' → Q () s') : wpAny (model X.prog X.w) A (setAttr (.ref a) f u) Q E s := by
  obtain ⟨t1, ho⟩ := exo_at I.hok e
  obtain ⟨hp, ge, d, tk, os⟩ := s
  refine PySem.W.set_plain I.kIn (ox := { cls := .ref C, dict := none, data := .fields #[.ref t1, .none, .none, .none, .bool false, .none] }) (od := none) ⟨ho, rfl, rfl, trivial⟩ T.sa (osg_new T I.kIn ho hno fun h' tk' dx k dn dne hx hn => ?_)
  have hnd : H dx = none := I.hok.fresh dn
  have nd : ∀ {b : Addr} {o : Obj}, hp.get? b = some o → b ≠ dx := fun {b o} q => Nat.ne_of_lt (Nat.lt_of_lt_of_le (Heap.lt_size q) dn)
  have na : ∀ {b : Addr}, H b = none → b ≠ a := fun {b} n z => by rw [z, e] at n; cases n
  have U : Un X.fs [] H (upd (upd H dx (exd dx [(f, y)])) a (exo a C (some dx))) hp h' :=
    ⟨fun b o q n _ _ => k b o (na n) q, fun b o q n _ _ => ⟨o.slots, k b o (na n) q⟩, fun b o q n _ => by rw [upd_ne (na n), upd_ne (nd q)]; exact n,
      fun b o q _ => by
        by_cases hb : b = a
        · exact ⟨_, by rw [hb]; exact hx⟩
        · exact ⟨o, k b o hb q⟩,
      fun b xs q => by rw [upd_ne (at_ne e q exo_tup), upd_ne (ne_of_none q hnd)]; exact q, fun b o v q => by rw [upd_ne (at_ne e q exo_frz), upd_ne (ne_of_none q hnd)]; exact q,
      fun b ps q => ⟨#[], by rw [upd_ne (at_ne e q exo_tbl), upd_ne (ne_of_none q hnd), q]; simp⟩⟩
  refine h dx _ hnd dne (I.un (t' := tk') U fun b o q => ?_)
  by_cases hb : b = a
  · subst hb; rw [upd_same] at q; cases q; exact exo_ok hx
  · rw [upd_ne hb] at q
    by_cases hd : b = dx
    · subst hd; rw [upd_same] at q; cases q; exact exd_ok hn (relO_put (fs := []) ry fun g => True.intro)
    · rw [upd_ne hd] at q
      exact (I.hok b o q).stay (fun c v hc z => k c v (hc.elim (fun hc => by rw [hc]; exact hb) fun hc => at_ne e hc exo_own) z)
        (fun c hc => by rw [upd_ne (at_ne e hc exo_own), upd_ne (ne_of_none hc hnd)]; exact hc) (fun c xs hc => by rw [upd_ne (at_ne e hc exo_tup), upd_ne (ne_of_none hc hnd)]; exact hc)
theorem osv_old (T : OexG X.K C) (I : Inv X pins σ H s) (e : H a = some (exo a C (some dx))) (ed : H dx = some (exd dx fs)) (hl : fs.length ≤ 900) (hno : PySem.W.findIn X.K (.ref C) f = some none) (ry : RelV y u)
    (h : ∀ s', Inv X pins σ (upd H dx (exd dx ((f, y) :: fs))) s' → Q () s') : wpAny (model X.prog X.w) A (setAttr (.ref a) f u) Q E s := by
  obtain ⟨t1, ho⟩ := exo_at I.hok e
  obtain ⟨mA, hns, rel⟩ := exd_at I.hok ed
  obtain ⟨hp, ge, d, tk, os⟩ := s
  obtain ⟨oD, _, _, hoD, _, _⟩ := hns.count (within_of rel)
  refine PySem.W.set_plain I.kIn (ox := { cls := .ref C, dict := some dx, data := .fields #[.ref t1, .none, .none, .none, .bool false, .none] }) (od := some oD) ⟨ho, rfl, rfl, hoD⟩ T.sa
    (osg_old T I.kIn ho hns (within_of rel) (by rw [List.length_map]; omega) hno fun h' tk' k hn => ?_)
  have hd : ∃ o, h'.get? dx = some o := by obtain ⟨o, _, _, e', _⟩ := hn; exact ⟨o, e'⟩
  exact h _ (I.write (t' := tk') (x := dx) (e := dx) (o := exd dx ((f, y) :: fs)) (by rw [ed]; exact True.intro) (.inl rfl) k hd (exd_ok hn (relO_put ry rel)))
def tOsg (K : Fg) (f : Str) (to te : TE) : TS := fun D σ H => te σ H fun y H1 => to σ H1 fun x H2 => ∃ a C : Addr, x = .ref a ∧ OexG K C ∧ PySem.W.findIn K (.ref C) f = some none ∧
  ((H2 a = some (exo a C none) ∧ ∀ dx, H2 dx = none → dx ≠ a → D.nx σ (upd (upd H2 dx (exd dx [(f, y)])) a (exo a C (some dx)))) ∨
    ∃ (dx : Addr) (fs : List (Str × V)), H2 a = some (exo a C (some dx)) ∧ H2 dx = some (exd dx fs) ∧ fs.length ≤ 900 ∧ D.nx σ (upd H2 dx (exd dx ((f, y) :: fs))))
theorem ps_osg {o e : Expr} {to te : TE} {p' pos : Pos} (ho : PE X o to) (he : PE X e te) (hs : swapsWith e (some (.Attribute o f p')) pos.line X.env = pure false := by rfl) : PS X (.Assign [.Attribute o f p'] e pos) (tOsg X.K f to te) := by
  refine ⟨fun pins s σ H D I h => plainObj_wpAny_Assign_Attribute (thn (he.run pins s σ H _ I h) fun v s1 ⟨y, H1, I1, r1, q1⟩ => thn (ho.run pins s1 σ H1 _ I1 q1) fun u s2 ⟨x, H2, I2, r2, a, C, ex, T, hno, q⟩ => ?_) hs⟩
  subst ex
  obtain rfl : u = Value.ref a := r2
  rcases q with ⟨ea, q⟩ | ⟨dx, fs, ea, ed, hl, q⟩
  · exact osv_new T I2 ea hno r1 fun dx s' n ne J => ⟨σ, _, J, q dx n ne⟩
  · exact osv_old T I2 ea ed hl hno r1 fun s' J => ⟨σ, _, J, q⟩
end

/-! ### what an own __init__ of an exception leaves -/
/-- the exception at its address gets a dict of its fields ns, the last one stored first -/
def spEx (C : Addr) (ns : List Str) : Sp := fun vs H Q _ => ∃ a xs, vs = .ref a :: xs ∧ xs.length = ns.length ∧ H a = some (exo a C none) ∧
  ∀ d H', H d = none → d ≠ a → H' a = some (exo a C (some d)) → H' d = some (exd d (ns.zip xs.reverse)) → (∀ b, b ≠ a → b ≠ d → H' b = H b) → Q .non H'
theorem spEx_len {C : Addr} {ns ps : List Str} (h : ps.length = ns.length + 1) : ∀ vs H Q E, spEx C ns vs H Q E → vs.length = ps.length := fun vs H Q E ⟨a, xs, e, l, _⟩ => by
  rw [e, List.length_cons, l, h]
section
variable {X : Cx} {K : Fg} {C : Addr} {f g : Str} {p1 p2 p3 p4 p5 p6 p7 p8 : Pos}
theorem init_one {x : Str} (T : OexG X.K C) (hN : X.N = [("self" : Str), x]) (hno : PySem.W.findIn X.K (.ref C) f = some none) (ps : PE X (.Name "self" p1) (tVar 0)) (px : PE X (.Name x p3) (tVar 1)) {vs : List V} {H : Hp} {Q : VK} {E : XK} (h : spEx C [f] vs H Q E) :
    ∃ t, PSs X [.Assign [.Attribute (.Name "self" p1) f p2] (.Name x p3) p4] t ∧ t { nx := fun _ H' => Q .non H', rt := Q } (start X.N vs) H := by
  obtain ⟨a, xs, e, l, ha, q⟩ := h
  obtain ⟨v, rfl⟩ : ∃ v, xs = [v] := by
    match xs, l with
    | [v], _ => exact ⟨v, rfl⟩
  subst e
  refine ⟨_, pss_one (ps_osg ps px), ?_⟩
  rw [hN]
  refine ⟨v, rfl, .ref a, rfl, a, C, rfl, T, hno, .inl ⟨ha, fun dx hn ne => ?_⟩⟩
  refine q dx _ hn ne upd_same ?_ fun b h1 h2 => ?_
  · rw [upd_ne ne, upd_same]; rfl
  · rw [upd_ne h1, upd_ne h2]
theorem init_two {x y : Str} (T : OexG X.K C) (hN : X.N = [("self" : Str), x, y]) (hf : PySem.W.findIn X.K (.ref C) f = some none) (hg : PySem.W.findIn X.K (.ref C) g = some none) (ps : PE X (.Name "self" p1) (tVar 0)) (px : PE X (.Name x p3) (tVar 1))
    (ps2 : PE X (.Name "self" p5) (tVar 0)) (py : PE X (.Name y p7) (tVar 2)) {vs : List V} {H : Hp} {Q : VK} {E : XK} (h : spEx C [g, f] vs H Q E) :
    ∃ t, PSs X [.Assign [.Attribute (.Name "self" p1) f p2] (.Name x p3) p4, .Assign [.Attribute (.Name "self" p5) g p6] (.Name y p7) p8] t ∧ t { nx := fun _ H' => Q .non H', rt := Q } (start X.N vs) H := by
  obtain ⟨a, xs, e, l, ha, q⟩ := h
  obtain ⟨v, u, rfl⟩ : ∃ v u, xs = [v, u] := by
    match xs, l with
    | [v, u], _ => exact ⟨v, u, rfl⟩
  subst e
  refine ⟨_, pss_cons (ps_osg ps px) (pss_one (ps_osg ps2 py)), ?_⟩
  rw [hN]
  refine ⟨v, rfl, .ref a, rfl, a, C, rfl, T, hf, .inl ⟨ha, fun dx hn ne => ?_⟩⟩
  refine ⟨u, rfl, .ref a, rfl, a, C, rfl, T, hg, .inr ⟨dx, [(f, v)], upd_same, ?_, (by show 1 ≤ 900; decide), ?_⟩⟩
  · rw [upd_ne ne, upd_same]
  · refine q dx _ hn ne ?_ ?_ fun b h1 h2 => ?_
    · rw [upd_ne (Ne.symm ne), upd_same]
    · rw [upd_same]; rfl
    · rw [upd_ne h2, upd_ne h1, upd_ne h2]
end

/-! ### made and held -/
theorem mok_keep {K : Fg} {H H' : Hp} {M : Mem} (mo : MOk K H M) (k : ∀ a o, H a = some o → H' a = some o) : MOk K H' M := fun a m e => by
  have gw : Gw H M H' M := fun b u h z => ⟨k b u h, z⟩
  have q := mo a m e
  cases m with
  | lst ds => obtain ⟨xs, h1, h2⟩ := q; exact ⟨xs, k _ _ h1, Rs.grow gw ds xs h2⟩
  | dct ks ds => obtain ⟨xs, h1, h2, h3⟩ := q; exact ⟨xs, k _ _ h1, h2, Rs.grow gw ds xs h3⟩
  | ins C ns ds => obtain ⟨dx, xs, h1, h2, h3, h4, h5⟩ := q; exact ⟨dx, xs, k _ _ h1, h2, k _ _ h3, h4, Rs.grow gw ds xs h5⟩
/-- what stands of a class of exceptions with an own __init__ that keeps the fields ns -/
structure MkOk (P : Program) (w : World) (K : Fg) (mg : Str → Option Value) (base : Heap) (k : Nat) (C : Addr) (ns ps : List Str) : Prop where
  T : OexG K C
  ex : ∃ (fI : Addr) (fd : FuncData), PySem.W.findIn K (.ref C) "__init__" = some (some (.ref fI)) ∧ PySem.W.typeIn K (.ref fI) = some (.type "function") ∧
    FnOk P w K mg base (L2.CX P w) k fI fd ps (spEx C ns) ∧ Binds K fd ps []
def dMk (C : Addr) (ns : List Str) (t : TAD) : TED := fun Xd s M Q => t Xd s M fun ds M1 => Q (.exn C ns ds.reverse) M1
def sRaise (C : Addr) (ns : List Str) (t : TAD) : TSD := fun Y s M => t Y.ex s M fun ds M1 => Y.ex C ns ds.reverse M1
section
variable {X : Cx} {E : XK} {n k : Nat} {C : Addr} {ns ps : List Str} {x : Str} {p pos : Pos} {e : Expr} {es : List Expr} {ts : TAD}
theorem pe_mkv {ta : TA} (Z : MkOk X.prog X.w X.K X.mg X.base k C ns ps) (hr : Room (k + 1) X.A) (hx : Passes (L2.CX X.prog X.w) X (fun _ _ _ => False)) (hg : Gl X x) (hm : X.mg x = some (.ref C)) (ha : PA X (e :: es) ta)
    (hdb : (x == ("__debug__" : Str)) = false := by decide) (he : starEach (e :: es) X.env = (false, eval e X.env) :: starEach es X.env := by rfl) (hpl : (backTo pos (starEach es X.env)).any (·.1) = false := by rfl) :
    PE X (.Call (.Name x p) (e :: es) [] pos) (fun σ H Q => ta σ H fun vs H1 => vs.length = ns.length ∧ vs.length ≤ 1000 ∧ ∀ a d H2, H1 a = none → H1 d = none → d ≠ a → H2 a = some (exo a C (some d)) → H2 d = some (exd d (ns.zip vs.reverse)) → (∀ b, b ≠ a → b ≠ d → H2 b = H1 b) → Q (.ref a) H2) := by
  refine ⟨fun pins s σ H Q I h => ?_⟩
  obtain ⟨fI, fd, iC, tI, F1, hb⟩ := Z.ex
  obtain ⟨B, newId, initId, bmB, FB, SF, xi, ov⟩ := Z.T.ex
  refine wpAny_Call_Name_kw (ld_glob I hg hm (PySem.W.callWith_K (h₀ := X.base) I.ok.mod.kin Z.T.kC (thn (ha.run pos pins s σ H _ I h) fun us s1 ⟨vs, H1, I1, r1, hl, hz, q1⟩ => ⟨I1.kIn, ?_⟩) he hpl) hdb)
  obtain ⟨hp, ge, dr, tk, os⟩ := s1
  have hsz := Nat.le_succ hp.objs.size
  have hn : H1 (hp.objs.size + 1) = none := I1.hok.fresh hsz
  have I2 := I1.laid (t' := tk) (a := hp.objs.size + 1) (o := exo (hp.objs.size + 1) C none) (h' := (hp.push (PySem.W.kdv_tup us)).push (PySem.HandSPX.excO C hp.objs.size)) (fun b o z => Heap.get?_push_of_some _ (Heap.get?_push_of_some _ z)) hsz (exo_ok (t1 := hp.objs.size) (by heap_get))
  have hl2 : (Value.ref (hp.objs.size + 1) :: us ++ []).length = ps.length := by
    rw [List.append_nil, List.length_cons, ← r1.length]
    have z := F1.len (.ref (hp.objs.size + 1) :: vs) (upd H1 (hp.objs.size + 1) (exo (hp.objs.size + 1) C none)) (fun _ _ => True) (fun _ _ _ => False) ⟨_, vs, rfl, hl, upd_same, fun _ _ _ _ _ _ _ => True.intro⟩
    rw [← z, List.length_cons]
  have hsp : spEx C ns (.ref (hp.objs.size + 1) :: vs) (upd H1 (hp.objs.size + 1) (exo (hp.objs.size + 1) C none)) (fun v H2 => v = .non ∧ Q (.ref (hp.objs.size + 1)) H2) (fun _ _ _ => False) :=
    ⟨_, vs, rfl, hl, upd_same, fun d H2 hd hne h1 h2 h3 => ⟨rfl, q1 _ d H2 hn (by rw [upd_ne hne] at hd; exact hd) hne h1 h2 fun b hb hbd => (h3 b hb hbd).trans (upd_ne hb)⟩⟩
  have hus : us.length ≤ sizeLine := by rw [← r1.length, sizeLine_eq]; omega
  have e2 := I2.env0.make C us []
  obtain ⟨nm, N, qn, bs, bm, hdct, sn, sub, ab, col, dd, k0, k1, k2, k3, k5, hC, hbm⟩ := PySem.W.excInit_of I1.kIn xi
  show wpAny _ _ (call (.ref C) us) _ _ _
  refine wpAny_call (PySem.HandSPX.dlk_call FB hbm hC (PySem.W.looks_findIn I1.kIn iC) (fun self => PySem.W.bind_fn I1.kIn self tI) hus
    (codeAny_mono (F1.run _ X.stack _ _ ⟨.ref (hp.objs.size + 1) :: us, []⟩ (.ref (hp.objs.size + 1) :: us ++ []) (.ref (hp.objs.size + 1) :: vs) _ _ (hr.make C us []) e2 (hb _ (.ref (hp.objs.size + 1) :: us) I2.kIn hl2) (by rw [List.append_nil]; exact .cons rfl r1) hsp) ?_))
  · intro r s' hq'
    cases r with
    | error er => exact hx pins σ _ _ er s' I2 hq'
    | ok fl =>
      cases fl with
      | ret u =>
        obtain ⟨v, H3, I3, rv, ev, q3⟩ := I2.after hq'
        subst ev
        exact ⟨rv, .ref (hp.objs.size + 1), H3, I3, rfl, q3⟩
      | next => exact hq'.elim
      | brk => exact hq'.elim
      | cont => exact hq'.elim

theorem pmk_mkv {ta : TA} (Z : MkOk X.prog X.w X.K X.mg X.base k C ns ps) (hr : Room (k + 1) X.A) (hx : Passes (L2.CX X.prog X.w) X (fun _ _ _ => False)) (hg : Gl X x) (hm : X.mg x = some (.ref C)) (ha : PA X (e :: es) ta)
    (hdb : (x == ("__debug__" : Str)) = false := by decide) (he : starEach (e :: es) X.env = (false, eval e X.env) :: starEach es X.env := by rfl) (hpl : (backTo pos (starEach es X.env)).any (·.1) = false := by rfl) :
    PMk X (.Call (.Name x p) (e :: es) [] pos) (fun σ H Q => ta σ H fun vs H1 => vs.length = ns.length ∧ vs.length ≤ 1000 ∧ ∀ d H2, H1 d = none → H2 d = some (.xd (ns.zip vs.reverse)) → (∀ b o, H1 b = some o → H2 b = some o) → Q (.ref C) (some d) H2) := by
  intro pins s σ H Q I h
  obtain ⟨fI, fd, iC, tI, F1, hb⟩ := Z.ex
  obtain ⟨B, newId, initId, bmB, FB, SF, xi, ov⟩ := Z.T.ex
  refine wpAny_Call_Name_kw (ld_glob I hg hm (PySem.W.callWith_K (h₀ := X.base) I.ok.mod.kin Z.T.kC (thn (ha.run pos pins s σ H _ I h) fun us s1 ⟨vs, H1, I1, r1, hl, hz, q1⟩ => ⟨I1.kIn, ?_⟩) he hpl) hdb)
  obtain ⟨hp, ge, dr, tk, os⟩ := s1
  have hsz := Nat.le_succ hp.objs.size
  have hn : H1 (hp.objs.size + 1) = none := I1.hok.fresh hsz
  have I2 := I1.laid (t' := tk) (a := hp.objs.size + 1) (o := exo (hp.objs.size + 1) C none) (h' := (hp.push (PySem.W.kdv_tup us)).push (PySem.HandSPX.excO C hp.objs.size)) (fun b o z => Heap.get?_push_of_some _ (Heap.get?_push_of_some _ z)) hsz (exo_ok (t1 := hp.objs.size) (by heap_get))
  have hl2 : (Value.ref (hp.objs.size + 1) :: us ++ []).length = ps.length := by
    rw [List.append_nil, List.length_cons, ← r1.length]
    have z := F1.len (.ref (hp.objs.size + 1) :: vs) (upd H1 (hp.objs.size + 1) (exo (hp.objs.size + 1) C none)) (fun _ _ => True) (fun _ _ _ => False) ⟨_, vs, rfl, hl, upd_same, fun _ _ _ _ _ _ _ => True.intro⟩
    rw [← z, List.length_cons]
  have hsp : spEx C ns (.ref (hp.objs.size + 1) :: vs) (upd H1 (hp.objs.size + 1) (exo (hp.objs.size + 1) C none)) (fun v H2 => v = .non ∧ ∃ d, H1 d = none ∧ d ≠ hp.objs.size + 1 ∧ H2 (hp.objs.size + 1) = some (exo (hp.objs.size + 1) C (some d)) ∧ H2 d = some (exd d (ns.zip vs.reverse)) ∧ ∀ b, b ≠ hp.objs.size + 1 → b ≠ d → H2 b = H1 b) (fun _ _ _ => False) :=
    ⟨_, vs, rfl, hl, upd_same, fun d H2 hd hne h1 h2 h3 => ⟨rfl, d, by rw [upd_ne hne] at hd; exact hd, hne, h1, h2, fun b hb hbd => (h3 b hb hbd).trans (upd_ne hb)⟩⟩
  have hus : us.length ≤ sizeLine := by rw [← r1.length, sizeLine_eq]; omega
  have e2 := I2.env0.make C us []
  obtain ⟨nm, N, qn, bs, bm, hdct, sn, sub, ab, col, dd, k0, k1, k2, k3, k5, hC, hbm⟩ := PySem.W.excInit_of I1.kIn xi
  show wpAny _ _ (call (.ref C) us) _ _ _
  refine wpAny_call (PySem.HandSPX.dlk_call FB hbm hC (PySem.W.looks_findIn I1.kIn iC) (fun self => PySem.W.bind_fn I1.kIn self tI) hus
    (codeAny_mono (F1.run _ X.stack _ _ ⟨.ref (hp.objs.size + 1) :: us, []⟩ (.ref (hp.objs.size + 1) :: us ++ []) (.ref (hp.objs.size + 1) :: vs) _ _ (hr.make C us []) e2 (hb _ (.ref (hp.objs.size + 1) :: us) I2.kIn hl2) (by rw [List.append_nil]; exact .cons rfl r1) hsp) ?_))
  · intro r s' hq'
    cases r with
    | error er => exact hx pins σ _ _ er s' I2 hq'
    | ok fl =>
      cases fl with
      | ret u =>
        obtain ⟨v, H2, os2, bare2, un2, hok2, rv, ev, d, hd1, hne, h1, h2, h3⟩ := hq'
        subst ev
        obtain ⟨hp2, g2, d2, t2, os'⟩ := s'
        refine ⟨rv, mk_end (raises_own Z.T.exC Z.T.tyC) I1 hsz (fun b o z => Heap.get?_push_of_some _ (Heap.get?_push_of_some _ z)) un2 hok2 os2 bare2 h1 h2 hd1 (q1 d _ hd1 upd_same fun b o z => ?_)⟩
        have z1 := ne_of_none z hn
        have z2 := ne_of_none z hd1
        rw [upd_ne z2, del_ne z1, h3 b z1 z2]; exact z
      | next => exact hq'.elim
      | brk => exact hq'.elim
      | cont => exact hq'.elim

theorem de_mk (Z : MkOk X.prog X.w X.K X.mg X.base k C ns ps) (hr : RoomG (k + 1) X.A) (hx : Passes (L2.CX X.prog X.w) X (fun _ _ _ => False)) (hg : Gl X x) (hm : X.mg x = some (.ref C)) (ha : DN X E n (e :: es) ts) (hn : n = ns.length := by rfl) (hz : n ≤ 1000 := by decide)
    (hdb : (x == ("__debug__" : Str)) = false := by decide) (he : starEach (e :: es) X.env = (false, eval e X.env) :: starEach es X.env := by rfl) (hpl : (backTo pos (starEach es X.env)).any (·.1) = false := by rfl) :
    DE X E (.Call (.Name x p) (e :: es) [] pos) (dMk C ns ts) :=
  ⟨PE.imp (pe_mkv Z hr.r hx hg hm ha.ok hdb he hpl) fun σ H Q ⟨s, M, Qd, Xd, S, xt, t, q⟩ => by
    refine useN S xt t fun ds vs M1 H1 hl g1 S1 x1 r1 t1 => ⟨by rw [hl, hn], by rw [hl]; exact hz, fun a d H2 ha hd hne h1 h2 h3 => ?_⟩
    have kp : ∀ b o, H1 b = some o → H2 b = some o := fun b o z => (h3 b (ne_of_none z ha) (ne_of_none z hd)).trans z
    have gw : Gw H1 M1 H2 M1 := fun b o z m => ⟨kp b o z, m⟩
    refine q _ _ ⟨.exn C ns ds.reverse, M1, g1.trans gw, mok_keep S1.mem kp, .inl ⟨a, d, vs.reverse, rfl, h1, m_none S1.mem ha, h2, m_none S1.mem hd, ?_, Rs.grow gw _ _ (Rs.reverse r1)⟩, t1⟩
    rw [List.length_reverse, Rs.len r1, hl, hn]⟩
theorem ds_raise {pos' : Pos} (Z : MkOk X.prog X.w X.K X.mg X.base k C ns ps) (hr : RoomG (k + 1) X.A) (hc : X.calm = true) (tk : Takes X (fun cls d _ H => E cls d H)) (hx : Passes (L2.CX X.prog X.w) X (fun _ _ _ => False)) (hg : Gl X x) (hm : X.mg x = some (.ref C)) (ha : DN X E n (e :: es) ts)
    (hn : n = ns.length := by rfl) (hz : n ≤ 1000 := by decide) (hdb : (x == ("__debug__" : Str)) = false := by decide) (he : starEach (e :: es) X.env = (false, eval e X.env) :: starEach es X.env := by rfl) (hpl : (backTo pos (starEach es X.env)).any (·.1) = false := by rfl) :
    DS X E (.Raise (some (.Call (.Name x p) (e :: es) [] pos)) none pos') (sRaise C ns ts) := by
  refine ⟨PS.imp (ps_raise hc tk (pmk_mkv Z hr.r hx hg hm ha.ok hdb he hpl)) fun D σ H ⟨s, M, Y, S, xt, t, q⟩ => ?_⟩
  refine useN S xt t fun ds vs M1 H1 hl g1 S1 x1 r1 t1 => ⟨by rw [hl, hn], by rw [hl]; exact hz, fun d H2 hd h2 kp => ?_⟩
  have gw : Gw H1 M1 H2 M1 := fun b o z m => ⟨kp b o z, m⟩
  refine x1 _ _ _ ⟨C, d, ns, vs.reverse, ds.reverse, M1, rfl, rfl, h2, m_none S1.mem hd, ?_, Rs.grow gw _ _ (Rs.reverse r1), gw, mok_keep S1.mem kp, t1⟩
  rw [List.length_reverse, Rs.len r1, hl, hn]
end
end DL
set_option maxHeartbeats 1000000
namespace DL
open PySem PySem.Spec PyProof.Rows L2

/-! ### isinstance of an exception that is held -/
section
open PySem.W PySem.Calls
variable {prog : Program} {w : World} {A : Around} {E : Value → Shared → Prop} {s : Shared} {K : Fg} {x D : Addr} {ox : Obj} {od : Option Obj}
theorem fo_data {C : Addr} {name : Str} {a g : Value} (hc : (clsIn K C).isSome = true) (ha : findIn K (.ref C) name = some (some a)) (hg : specialIn K a "__get__" = some (some g)) (ht : takesIn K a = some true) : findObj K C od name = some (.bind g a) := by
  obtain ⟨cd, hc⟩ := Option.isSome_iff_exists.mp hc
  unfold findObj
  rw [hc, Option.bind_some, ha, Option.bind_some]; simp [hg, ht]
theorem ex_class {Q : Option Value → Shared → Prop} (Z : ExcC K D) (X : K.In s.heap) (I : InstAt s.heap x ox D od) (h : Q (some (.ref D)) { s with toks := s.toks + 1 }) : wpAny (model prog w) A (getAttr? (.ref x) "__class__") Q E s := by
  have hf : findObj K D od "__class__" = some (.bind (.builtin "getset_descriptor.__get__") (.builtin "object.__class__")) := fo_data (by obtain ⟨cd, hc, _⟩ := any_some Z.hd; rw [hc]; rfl) Z.ha Z.hn Z.ht
  obtain ⟨hp, ge, dr, tk, os⟩ := s
  have t0 := I.type (M := model prog w)
  have t1 := looks_findIn (M := model prog w) X Z.hg
  have t2 := looks_findIn (M := model prog w) X Z.hk
  have t3 := looks_find (M := model prog w) X I hf
  have sb : Looks (model prog w) hp (isInstance (.ref x) (.type "BaseException")) true := t0.andThen (looks_subIn X Z.hs)
  have e2 : (Value.builtin "BaseException.__getattribute__" == Value.builtin "object.__getattribute__") = false := by decide +kernel
  have e0 : (false && onTheHeap (Value.builtin "BaseException.__getattribute__")) = false := rfl
  have e1 : (onTheHeap (Value.ref D) && Value.builtin "BaseException.__getattribute__" == Value.builtin "object.__getattribute__") = false := by rw [e2]; rfl
  unfold getAttr? getAttrBy? getAttrBy
  refine wpAny_bind (wpAny_mkText (wpAny_bind (wpAny_attempt (wpAny_holding (wpAny_bind (t0.at (wpAny_bind (t1.at ?_))))))))
  show wpAny _ _ (if (onTheHeap (Value.ref D) && Value.builtin "BaseException.__getattribute__" == Value.builtin "object.__getattribute__") = true then _ else _) _ _ _
  rw [e1, if_neg Bool.false_ne_true]
  unfold getAttrByItsOwn hookBefore
  refine wpAny_bind ?_
  rw [if_pos (show onTheHeap (Value.ref D) = true from rfl)]
  refine t2.at (wpAny_bind (wpAny_attempt (wpAny_holding ?_)))
  unfold callGetattribute
  rw [e0, if_neg Bool.false_ne_true]
  unfold boundAndCalled
  rw [PySem.F.excAttr_ValueError.ga.bind (.ref x)]
  refine wpAny_bind (wpAny_pure ?_)
  show wpAny _ _ (call (.builtin "BaseException.__getattribute__") [.ref x, .str "__class__" tk]) _ _ _
  refine wpAny_call (codeAny_call_builtin PySem.F.excAttr_ValueError.ga.plain PySem.F.entry_bexc_ga ?_)
  refine @check_slot (model prog w) _ _ ⟨hp, ge, dr, tk + 1, os⟩ "BaseException.__getattribute__" "BaseException" "__getattribute__" (.ref x) [.str "__class__" tk] [] _ (by decide +kernel) (by decide +kernel) sb (PySem.F.args_bexc_ga (.ref x) (.str "__class__" tk)) ?_
  unfold Builtin.«object.__getattribute__»
  refine wpAny_bind (wpAny_of_eq (a := ((Value.ref x : Value), [Value.str "__class__" tk])) (by first | rfl | (simp only [slotArgs]; rfl)) (wpAny_bind (wpAny_pure (wpAny_bind (t0.at (wpAny_bind (t3.at ?_)))))))
  show wpAny _ _ (holding [Value.builtin "object.__class__"] (call (.builtin "getset_descriptor.__get__") [.builtin "object.__class__", .ref x, .ref D]) >>= ret) _ _ _
  refine wpAny_bind (wpAny_holding (wpAny_call (class_get (s := ⟨hp, ge, dr, tk + 1, os⟩) (ox := ox) (od := od) X I Z.hm (wpAny_pure ?_))))
  show wpAny _ _ (handedOut (.ref D)) _ _ _
  rw [handedOut_of (v := .ref D) rfl]
  first
    | exact wpAny_pure (wpAny_pure h)
    | exact wpAny_pure h
    | exact wpAny_pure (wpAny_bind (wpAny_pure (wpAny_pure h)))
theorem kit_ex (Z : ExcC K D) : KitX K (.ref x) (.ref D) (fun h => InstAt h x ox D od) where
  ty := fun _ _ _ I => I.type
  it := fun M h X _ => by
    obtain ⟨cd, hc, _⟩ := any_some Z.hd
    unfold clsIn at hc
    split at hc
    · rename_i ho
      intro A' Q' E' s' k q
      unfold isType loadHead
      exact wpAny_bind (wpAny_loadPart (k _ _ (X _ _ ho)) (wpAny_pure q))
    · cases hc
  ne := (handS_kitx_exc (x := x) (ox := ox) Z.hg Z.hk Z.hs Z.hd Z.ha Z.hn Z.ht Z.hm).ne
  ca := fun X I k => ex_class Z X I k
end
section
variable {X : Cx} {pins : List (Addr × Obj)} {σ : L2.St} {H : Hp} {M : Mem} {s : Shared}
/-- where a held exception lies -/
theorem exn_at {a C dx : Addr} {ns : List Str} {xs : List V} (I : Inv X pins σ H s) (ha : H a = some (exo a C (some dx))) (hd : H dx = some (exd dx (ns.zip xs))) :
    ∃ (t1 : Addr) (oD : Obj) (mA : Str → Option Value), PySem.W.InstAt s.heap a { cls := .ref C, dict := some dx, data := .fields #[.ref t1, .none, .none, .none, .bool false, .none] } C (some oD) ∧ s.heap.Ns1 dx mA ∧ (∀ f, RelO ((ns.zip xs).lookup f) (mA f)) ∧ s.heap.get? dx = some oD ∧ ∀ n, PySem.W.lookIn n oD = some (mA n) := by
  obtain ⟨t1, ho⟩ := exo_at I.hok ha
  obtain ⟨mA, hns, rel⟩ := exd_at I.hok hd
  obtain ⟨oD, hoD, hl⟩ := lookIn_ns hns
  exact ⟨t1, oD, mA, ⟨ho, rfl, rfl, hoD⟩, hns, rel, hoD, hl⟩
/-- isinstance(e, C), e a held exception, C a class, own or built in -/
def isxC (K : Fg) : OC := fun ds M Q => match ds with
  | [.exn C _ _, c] => ExcC K C ∧ match c with
    | .ty n => ∃ b, PySem.W.kitOne K (.ref C) (.type n) = some b ∧ Q (.bl b) M
    | .ref B => ∃ b, PySem.W.kitOne K (.ref C) (.ref B) = some b ∧ Q (.bl b) M
    | _ => False
  | _ => False
theorem dc_isx : DC X (.builtin "isinstance") (isxC X.K) := by
  intro pins s σ H M xs ds us Q Qd I mo r rv t q
  unfold isxC at t
  split at t
  · rename_i C ns es c
    obtain ⟨v, w, rfl, rd, re⟩ := rs2 r
    obtain ⟨u1, u2, rfl, r1, r2⟩ := vals2 rv
    obtain ⟨Z, t⟩ := t
    obtain ⟨a, ox, od, rfl, J⟩ : ∃ a ox od, v = .ref a ∧ PySem.W.InstAt s.heap a ox C od := by
      rcases rd with ⟨a, dx, xs, rfl, ha, _, hd, _, _, _⟩ | ⟨_, _, a, rfl, ha, _⟩
      · obtain ⟨t1, oD, mA, J, _⟩ := exn_at I ha hd
        exact ⟨a, _, _, rfl, J⟩
      · obtain ⟨⟨oe, vs, h1, h2, h3, _⟩, _⟩ := (show ObjOk X.prog X.w H s.heap a (ExO (.ref C) a) from I.hok a _ ha)
        refine ⟨a, oe, none, rfl, h1, h2.1, ?_, ?_⟩
        · unfold PySem.W.notCls; rw [h3]
        · rw [h2.2]; trivial
    obtain rfl : u1 = .ref a := r1
    have fin : ∀ {cv : Value} {b : Bool}, u2 = cv → PySem.W.kitOne X.K (.ref C) cv = some b → Qd (.bl b) M → wpAny (model X.prog X.w) X.A (call (.builtin "isinstance") [.ref a, u2]) (EP X pins σ Q) X.xe s := fun {cv b} e k z => by
      subst e
      exact PySem.W.kia_one (kit_ex Z) I.kIn J k (fun z => nomatch z) fun tk => ⟨.bl b, H, I.tok tk, rfl, q _ _ (up_same mo z rfl)⟩
    split at t
    · rename_i n
      obtain ⟨b, k, z⟩ := t
      have e2 : w = .ty n := re
      subst e2
      exact fin r2 k z
    · rename_i B
      obtain ⟨b, k, z⟩ := t
      have e2 : w = .ref B := re
      subst e2
      exact fin r2 k z
    · exact t.elim
  · exact t.elim
theorem lookup_putD (f g : Str) (y : D) (fs : List (Str × D)) : ((f, y) :: fs).lookup g = if g = f then some y else fs.lookup g := by
  by_cases h : g = f
  · subst h; simp [List.lookup]
  · have e : (g == f) = false := by simpa using h
    rw [if_neg h]; simp [List.lookup, e]
/-- the facts by which fields are read -/
structure FdOk (K : Fg) (C : Addr) (f : Str) : Prop where
  x : XfC K C
  no : PySem.W.findIn K (.ref C) f = some none
def dFd (K : Fg) (f : Str) (te : TED) : TED := fun Xd s M Q => te Xd s M fun d M1 => match d with
  | .exn C ns ds => FdOk K C f ∧ ∃ d, (ns.zip ds).lookup f = some d ∧ Q d M1
  | _ => False
theorem zip_lookup {K : Fg} {H : Hp} {M : Mem} {f : Str} {d : D} : ∀ {ns : List Str} {ds : List D} {xs : List V}, Rs K H M ds xs → (ns.zip ds).lookup f = some d → ∃ v, (ns.zip xs).lookup f = some v ∧ Rv K H M d v
  | [], _, _, _, e => by cases e
  | _ :: _, [], _, _, e => by cases e
  | n :: ns, d' :: ds, _, ⟨v, r, rfl, h, q⟩, e => by
    rw [List.zip_cons_cons, lookup_putD] at e
    rw [List.zip_cons_cons, lookup_put]
    by_cases z : f = n
    · rw [if_pos z] at e ⊢; cases e; exact ⟨v, rfl, h⟩
    · rw [if_neg z] at e ⊢; exact zip_lookup q e
theorem de_fd {E : XK} {e : Expr} {te : TED} {pos : Pos} {f : Str} (he : DE X E e te) (hb : attributeBase e f X.env (eval e X.env) = eval e X.env := by rfl) : DE X E (.Attribute e f pos) (dFd X.K f te) := by
  refine ⟨⟨fun pins s σ H Q I ⟨sd, M, Qd, Xd, S, xt, t, q⟩ => ?_⟩⟩
  refine attr_of hb (thn (he.ok.run pins s σ H (fun v H1 => ∃ d M1, Gw H M H1 M1 ∧ MOk X.K H1 M1 ∧ Rv X.K H1 M1 d v ∧ (match d with | .exn C ns ds => FdOk X.K C f ∧ ∃ d, (ns.zip ds).lookup f = some d ∧ Qd d M1 | _ => False)) I (useE S xt t fun d v M1 H1 g1 S1 x1 r1 t1 => ⟨d, M1, g1, S1.mem, r1, t1⟩)) fun u s1 ⟨v, H1, I1, rv, d, M1, g1, m1, rd, z⟩ => ?_)
  split at z
  · rename_i C ns ds
    obtain ⟨F, d, hl, z⟩ := z
    have rd' := rd.resolve_right fun ⟨e1, e2, _⟩ => by rw [e1, e2] at hl; cases hl
    obtain ⟨a, dx, xs, rfl, ha, _, hd, _, _, rs⟩ := rd'
    obtain rfl : u = .ref a := rv
    obtain ⟨t1, oD, mA, J, hns, rel, hoD, hlk⟩ := exn_at I1 ha hd
    obtain ⟨v, hv, rdv⟩ := zip_lookup rs hl
    obtain ⟨u, hu, ru⟩ := RelO.some_of (v := v) (o := mA f) (by rw [← hv]; exact rel f)
    exact PySem.HandSPX.exc_get I1.kIn J F.x.ga F.x.gg F.x.exC (PySem.W.findObj_own F.x.hdC F.no rfl (by rw [hlk, hu])) (handed_of ru) ⟨v, H1, I1.tok _, ru, q _ _ ⟨d, M1, g1, m1, rdv, z⟩⟩
  · exact z.elim
end
end DL
set_option maxHeartbeats 1000000
namespace DL
open PySem PySem.Spec PyProof.Rows L2
/-! ### arguments by name -/
structure DK (X : Cx) (E : XK) (n : Nat) (kws : List Keyword) (t : TAD) : Prop where
  ok : PK X kws (fun σ H Q => ∃ s M Qd Xd, StOk X.K σ H s M ∧ XTo X.K H M Xd E ∧ t Xd s M Qd ∧ ∀ vs H', vs.length = n → upA X.K H M Qd vs H' → Q vs H')
theorem PK.imp {X : Cx} {kws : List Keyword} {t t' : TA} (h : PK X kws t) (i : ∀ σ H Q, t' σ H Q → t σ H Q) : PK X kws t' := ⟨fun pos pins s σ H Q I q => h.run pos pins s σ H Q I (i σ H Q q)⟩
section
variable {X : Cx} {E : XK} {n : Nat} {e : Expr} {kws : List Keyword} {te : TED} {ts : TAD} {nm : Option Str} {kpos : Pos}
theorem dk_nil : DK X E 0 [] dNil := ⟨PK.imp pk_nil fun σ H Q ⟨s, M, Qd, Xd, S, x, t, q⟩ => q [] H rfl ⟨[], M, Gw.refl, S.mem, rfl, t⟩⟩
theorem dk_cons (h1 : DE X E e te) (h2 : DK X E n kws ts) : DK X E (n + 1) (⟨nm, e, kpos⟩ :: kws) (dCons te ts) :=
  ⟨PK.imp (pk_cons h1.ok h2.ok) fun σ H Q ⟨s, M, Qd, Xd, S, x, t, q⟩ => by
    refine useE S x t fun d v M1 H1 g1 S1 x1 r1 t1 => ⟨s, M1, _, Xd, S1, x1, t1, fun vs H2 hl ⟨ds, M2, g2, m2, r2, t2⟩ => ?_⟩
    exact q _ _ (by rw [List.length_cons, hl]) ⟨d :: ds, M2, g1.trans g2, m2, Rs.cons (Rv.grow g2 _ _ r1) r2, t2⟩⟩
end
/-- an order of things -/
structure Prm where
  f : {α : Type} → List α → List α
  rel : ∀ {zs : List V} {ws : List Value}, Vals zs ws → Vals (f zs) (f ws)
  rs : ∀ {K : Fg} {H : Hp} {M : Mem} {ds : List D} {vs : List V}, Rs K H M ds vs → Rs K H M (f ds) (f vs)
  len : ∀ {α : Type} (l : List α), (f l).length = l.length
def prmId : Prm := ⟨fun l => l, fun h => h, fun h => h, fun _ => rfl⟩
def swp {α : Type} : List α → List α
  | [a, b] => [b, a]
  | l => l
def prmSw : Prm := ⟨swp, fun {zs ws} h => by
    match zs, ws, h with
    | [], _, .nil => exact .nil
    | [_], _, .cons a .nil => exact .cons a .nil
    | [_, _], _, .cons a (.cons b .nil) => exact .cons b (.cons a .nil)
    | _ :: _ :: _ :: _, _, .cons a (.cons b (.cons c d)) => exact .cons a (.cons b (.cons c d)), fun {K H M ds vs} h => by
    match ds, vs, h with
    | [], _, h =>
      have e : _ = [] := h
      subst e
      exact rfl
    | [_], _, ⟨_, _, rfl, a, b⟩ =>
      have e : _ = [] := b
      subst e
      exact ⟨_, _, rfl, a, rfl⟩
    | [_, _], _, ⟨_, _, rfl, a, _, _, rfl, b, c⟩ =>
      have e : _ = [] := c
      subst e
      exact ⟨_, _, rfl, b, _, _, rfl, a, rfl⟩
    | _ :: _ :: _ :: _, _, ⟨_, _, rfl, a, _, _, rfl, b, _, _, rfl, c, d⟩ => exact ⟨_, _, rfl, a, _, _, rfl, b, _, _, rfl, c, d⟩, fun l => by
    match l with
    | [] => rfl
    | [_] => rfl
    | [_, _] => rfl
    | _ :: _ :: _ :: _ => rfl⟩
/-- what stands of a class made by the names of its parameters -/
structure MkK (P : Program) (w : World) (K : Fg) (mg : Str → Option Value) (base : Heap) (k : Nat) (C : Addr) (ns ps ks : List Str) (pm : Prm) : Prop where
  T : OexG K C
  ex : ∃ (fI : Addr) (fd : FuncData), PySem.W.findIn K (.ref C) "__init__" = some (some (.ref fI)) ∧ PySem.W.typeIn K (.ref fI) = some (.type "function") ∧
    FnOk P w K mg base (L2.CX P w) k fI fd ps (spEx C ns) ∧ ∀ (s : Shared) (self : Value) (ws : List Value), K.In s.heap → ws.length = ks.length → BindsTo s fd ⟨[self], ks.zip ws⟩ (ps.zip (self :: pm.f ws))
def dMkK (C : Addr) (ns : List Str) (pm : Prm) (t : TAD) : TED := fun Xd s M Q => t Xd s M fun ds M1 => Q (.exn C ns (pm.f ds).reverse) M1
section
variable {X : Cx} {E : XK} {n k : Nat} {C : Addr} {ns ps ks : List Str} {pm : Prm} {x : Str} {p pos : Pos} {kws : List Keyword} {ts : TAD}
theorem pe_mkk {tk : TA} (Z : MkK X.prog X.w X.K X.mg X.base k C ns ps ks pm) (hr : Room (k + 1) X.A) (hx : Passes (L2.CX X.prog X.w) X (fun _ _ _ => False)) (hg : Gl X x) (hm : X.mg x = some (.ref C)) (hkw : PK X kws tk) (hn : ns.length = ks.length)
    (hall : (backToKw pos (keywordEach kws X.env)).all (·.1.isSome) = true := by rfl) (hks : (backToKw pos (keywordEach kws X.env)).filterMap (·.1) = ks := by rfl) (hdb : (x == ("__debug__" : Str)) = false := by decide)
    (hpl : ((backTo pos (starEach [] X.env)).any (·.1) || (backToKw pos (keywordEach kws X.env)).any (·.1.isNone)) = false := by rfl) :
    PE X (.Call (.Name x p) [] kws pos) (fun σ H Q => tk σ H fun zs H1 => zs.length = ks.length ∧ ∀ a d H2, H1 a = none → H1 d = none → d ≠ a → H2 a = some (exo a C (some d)) → H2 d = some (exd d (ns.zip (pm.f zs).reverse)) → (∀ b, b ≠ a → b ≠ d → H2 b = H1 b) → Q (.ref a) H2) := by
  refine ⟨fun pins s σ H Q I h => ?_⟩
  obtain ⟨fI, fd, iC, tI, F1, hb⟩ := Z.ex
  obtain ⟨B, newId, initId, bmB, FB, SF, xi, ov⟩ := Z.T.ex
  refine wpAny_Call_Name_kw (ld_glob I hg hm (PySem.W.callWith_KW0 (h₀ := X.base) I.ok.mod.kin Z.T.kC hall (thn (hkw.run pos pins s σ H _ I h) fun us s1 ⟨zs, H1, I1, r1, hl, q1⟩ => ⟨I1.kIn, ?_⟩) hpl) hdb)
  rw [hks]
  obtain ⟨hp, ge, dr, tk', os⟩ := s1
  have hsz := Nat.le_succ hp.objs.size
  have hn1 : H1 (hp.objs.size + 1) = none := I1.hok.fresh hsz
  have I2 := I1.laid (t' := tk') (a := hp.objs.size + 1) (o := exo (hp.objs.size + 1) C none) (h' := (hp.push (PySem.W.kdv_tup [])).push (PySem.HandSPX.excO C hp.objs.size)) (fun b o z => Heap.get?_push_of_some _ (Heap.get?_push_of_some _ z)) hsz (exo_ok (t1 := hp.objs.size) (by heap_get))
  have hsp : spEx C ns (.ref (hp.objs.size + 1) :: pm.f zs) (upd H1 (hp.objs.size + 1) (exo (hp.objs.size + 1) C none)) (fun v H2 => v = .non ∧ Q (.ref (hp.objs.size + 1)) H2) (fun _ _ _ => False) :=
    ⟨_, pm.f zs, rfl, by rw [pm.len, hl, hn], upd_same, fun d H2 hd hne h1 h2 h3 => ⟨rfl, q1 _ d H2 hn1 (by rw [upd_ne hne] at hd; exact hd) hne h1 h2 fun b hb hbd => (h3 b hb hbd).trans (upd_ne hb)⟩⟩
  have e2 := I2.env0.make C [] (ks.zip us)
  have lu : us.length = ks.length := r1.length.symm.trans hl
  obtain ⟨nm, N, qn, bs, bm, hdct, sn, sub, ab, col, dd, k0, k1, k2, k3, k5, hC, hbm⟩ := PySem.W.excInit_of I1.kIn xi
  show wpAny _ _ (call (.ref C) [] (ks.zip us)) _ _ _
  refine wpAny_call (PySem.HandSPX.dlk_call FB hbm hC (PySem.W.looks_findIn I1.kIn iC) (fun self => PySem.W.bind_fn I1.kIn self tI) (by rw [sizeLine_eq]; exact Nat.zero_le _)
    (codeAny_mono (F1.run _ X.stack _ _ ⟨.ref (hp.objs.size + 1) :: [], ks.zip us⟩ (.ref (hp.objs.size + 1) :: pm.f us) (.ref (hp.objs.size + 1) :: pm.f zs) _ _ (hr.make C [] (ks.zip us)) e2 (hb _ (.ref (hp.objs.size + 1)) us I2.kIn lu) (.cons rfl (pm.rel r1)) hsp) ?_))
  intro r s' hq'
  cases r with
  | error er => exact hx pins σ _ _ er s' I2 hq'
  | ok fl =>
    cases fl with
    | ret u =>
      obtain ⟨v, H3, I3, rv, ev, q3⟩ := I2.after hq'
      subst ev
      exact ⟨rv, .ref (hp.objs.size + 1), H3, I3, rfl, q3⟩
    | next => exact hq'.elim
    | brk => exact hq'.elim
    | cont => exact hq'.elim
theorem de_mkk (Z : MkK X.prog X.w X.K X.mg X.base k C ns ps ks pm) (hr : RoomG (k + 1) X.A) (hx : Passes (L2.CX X.prog X.w) X (fun _ _ _ => False)) (hg : Gl X x) (hm : X.mg x = some (.ref C)) (ha : DK X E n kws ts) (hn : ns.length = ks.length := by rfl) (hn2 : n = ks.length := by rfl)
    (hall : (backToKw pos (keywordEach kws X.env)).all (·.1.isSome) = true := by rfl) (hks : (backToKw pos (keywordEach kws X.env)).filterMap (·.1) = ks := by rfl) (hdb : (x == ("__debug__" : Str)) = false := by decide)
    (hpl : ((backTo pos (starEach [] X.env)).any (·.1) || (backToKw pos (keywordEach kws X.env)).any (·.1.isNone)) = false := by rfl) :
    DE X E (.Call (.Name x p) [] kws pos) (dMkK C ns pm ts) :=
  ⟨PE.imp (pe_mkk Z hr.r hx hg hm ha.ok hn hall hks hdb hpl) fun σ H Q ⟨s, M, Qd, Xd, S, xt, t, q⟩ => by
    refine useN S xt t fun ds vs M1 H1 hl g1 S1 x1 r1 t1 => ⟨by rw [hl, hn2], fun a d H2 ha hd hne h1 h2 h3 => ?_⟩
    have kp : ∀ b o, H1 b = some o → H2 b = some o := fun b o z => (h3 b (ne_of_none z ha) (ne_of_none z hd)).trans z
    have gw : Gw H1 M1 H2 M1 := fun b o z m => ⟨kp b o z, m⟩
    refine q _ _ ⟨.exn C ns (pm.f ds).reverse, M1, g1.trans gw, mok_keep S1.mem kp, .inl ⟨a, d, (pm.f vs).reverse, rfl, h1, m_none S1.mem ha, h2, m_none S1.mem hd, ?_, Rs.grow gw _ _ (Rs.reverse (pm.rs r1))⟩, t1⟩
    rw [List.length_reverse, pm.len, Rs.len r1, hl, hn2, hn]⟩
end
end DL
set_option maxHeartbeats 1000000
namespace DL
open PySem PySem.Spec PyProof.Rows L2
/-! ### enumerate and zip of lists -/
def enmFrom : Nat → List D → List D
  | _, [] => []
  | i, d :: ds => .tup [.int (i : Nat), d] :: enmFrom (i + 1) ds
theorem enmFrom_get : ∀ (ds : List D) (i j : Nat), (enmFrom i ds)[j]? = ds[j]?.map fun d => D.tup [.int ((i + j : Nat) : Int), d]
  | [], i, j => by simp [enmFrom]
  | d :: ds, i, 0 => by simp [enmFrom]
  | d :: ds, i, j + 1 => by
    simp only [enmFrom, List.getElem?_cons_succ]
    rw [enmFrom_get ds (i + 1) j, show i + 1 + j = i + (j + 1) by omega]
theorem enmFrom_len : ∀ (ds : List D) (i : Nat), (enmFrom i ds).length = ds.length
  | [], _ => rfl
  | d :: ds, i => by simp [enmFrom, enmFrom_len ds (i + 1)]
theorem ItOk.enum {K : Fg} {H0 : Hp} {M0 : Mem} {ow : Option Addr} {ds : List D} {a : Addr} (hs : ∀ H M, Gw H0 M0 H M → MOk K H M → (∀ a, ow = some a → M a = M0 a) → ∃ xs, SqL K H a xs ∧ Rs K H M ds xs) : ItOk K (Ite K a) H0 M0 ow (enmFrom 0 ds) := by
  refine ⟨fun i H M g mo hw hi => ?_, fun H M g mo hw => ?_⟩
  · rw [enmFrom_len] at hi
    obtain ⟨xs, h1, h2⟩ := hs H M g mo hw
    obtain ⟨v, e1, e2⟩ := Rs.get h2 (List.getElem?_eq_getElem hi)
    refine ⟨⟨xs, v, h1, e1⟩, fun y H' ⟨T, x, eT, hT, eH, hy⟩ => ?_⟩
    subst eT; subst eH
    have e3 := hy xs h1
    rw [e1] at e3; cases e3
    refine ⟨.tup [.int ((0 + i : Nat) : Int), ds[i]], by rw [enmFrom_get, List.getElem?_eq_getElem hi]; rfl, gw_new hT, mok_new mo hT, new_tup mo hT (Rs.cons ?_ (Rs.cons e2 Rs.nil))⟩
    rw [Nat.zero_add]; exact rfl
  · rw [enmFrom_len]
    obtain ⟨xs, h1, h2⟩ := hs H M g mo hw
    exact ⟨xs, h1, by rw [vlen h2]; exact Nat.le_refl _⟩
/-- the items of a list -/
def lstK (R : List D → Option Addr → Mem → Prop) : QD := fun d M => match d with
  | .lst ds => R ds none M
  | .fzn ds => R ds none M
  | .ref a => match M a with
    | some (.lst ds) => R ds (some a) M
    | _ => False
  | _ => False
theorem lstK_use {K : Fg} {H : Hp} {M : Mem} {d : D} {v : V} {R : List D → Option Addr → Mem → Prop} (mo : MOk K H M) (r : Rv K H M d v) (t : lstK R d M) :
    ∃ p xs ds ow, v = .ref p ∧ SqL K H p xs ∧ Rs K H M ds xs ∧ R ds ow M ∧ ∀ H' M', Gw H M H' M' → MOk K H' M' → (∀ a, ow = some a → M' a = M a) → ∃ ys, SqL K H' p ys ∧ Rs K H' M' ds ys := by
  unfold lstK at t
  split at t
  · rename_i ds
    obtain ⟨p, xs, rfl, hp, hm, sp⟩ := r
    exact ⟨p, xs, ds, none, rfl, SqL.of hp, sp, t, fun H' M' g mo _ => ⟨xs, SqL.of (g _ _ hp hm).1, Rs.grow g ds xs sp⟩⟩
  · rename_i ds
    obtain ⟨p, xs, rfl, hp, sp⟩ := r
    exact ⟨p, xs, ds, none, rfl, hp.sq, sp, t, fun H' M' g mo _ => ⟨xs, (g.rl hp).sq, Rs.grow g ds xs sp⟩⟩
  · rename_i p
    split at t
    · rename_i ds hm
      have hv : v = .ref p := r
      obtain ⟨xs, hp, sp⟩ := mo p _ hm
      refine ⟨p, xs, ds, some p, hv, SqL.of hp, sp, t, fun H' M' g mo' hw => ?_⟩
      have e := hw p rfl
      rw [hm] at e
      obtain ⟨ys, h1, h2⟩ := mo' p _ e
      exact ⟨ys, SqL.of h1, h2⟩
    · exact t.elim
  · exact t.elim
def iEnmD (te : TED) : TID := fun Xd s M R => dCons te dNil Xd s M fun ds M1 => ∃ d, ds = [d] ∧ lstK (fun ds ow M1 => R (enmFrom 0 ds) ow M1) d M1
section
variable {X : Cx} {E : XK} {e e2 : Expr} {te te2 : TED} {p pos tpos : Pos} {elts : List Expr} {kk : Nat}
theorem di_enum (hg : Gl X "enumerate") (hm : X.mg "enumerate" = none) (he : DE X E e te) (hs : starEach [e] X.env = (false, eval e X.env) :: starEach [] X.env := by rfl) : DI X E (.Tuple elts kk tpos) (.Call (.Name "enumerate" p) [e] [] pos) (iEnmD te) := by
  refine ⟨_, pi_enum hg hm (dn_cons he dn_nil hs).ok hs, fun {σ H s M Xd Qd R} S x t q => ?_⟩
  refine useN S x t fun ds vs M1 H1 hl g1 S1 x1 r1 t1 => ?_
  obtain ⟨d, rfl, t1⟩ := t1
  obtain ⟨v, hv, rd⟩ := rs1 r1
  obtain ⟨a, xs, ds, ow, rfl, hq, rs, tq, hk⟩ := lstK_use S1.mem rd t1
  exact ⟨a, xs, hv, hq, q _ _ _ _ _ g1 S1.mem (ItOk.enum hk) tq⟩
end
/-! ### displays with stars -/
def seqK (R : List D → Mem → Prop) : QD := fun d M => match vw M d with
  | .tup ds => R ds M
  | .lst ds => R ds M
  | .fzn ds => R ds M
  | _ => False
def dStar (te : TED) (ta : TAD) : TAD := fun Xd s M Q => te Xd s M (seqK fun ds M1 => ta Xd s M1 fun es M2 => Q (ds ++ es) M2)
def dLstS (t : TAD) : TED := fun Xd s M Q => t Xd s M fun ds M1 => ds.length ≤ sizeLine ∧ Q (.lst ds) M1
def dTupS (t : TAD) : TED := fun Xd s M Q => t Xd s M fun ds M1 => ds.length ≤ sizeLine ∧ Q (.tup ds) M1
theorem seqK_use {K : Fg} {H : Hp} {M : Mem} {d : D} {v : V} {R : List D → Mem → Prop} (mo : MOk K H M) (r : Rv K H M d v) (t : seqK R d M) : ∃ p xs ds, v = .ref p ∧ (SqT K H p xs ∨ SqL K H p xs) ∧ Rs K H M ds xs ∧ R ds M := by
  unfold seqK at t
  split at t
  · rename_i ds hv
    obtain ⟨a, xs, e, h1, h2⟩ := vw_tup r hv
    exact ⟨a, xs, ds, e, .inl h1.sq, h2, t⟩
  · rename_i ds hv
    obtain ⟨a, xs, e, h1, h2⟩ := vw_lst mo r hv
    exact ⟨a, xs, ds, e, .inr (SqL.of h1), h2, t⟩
  · rename_i ds hv
    cases d with
    | fzn es =>
      have e' : es = ds := by simpa [vw] using hv
      subst e'
      obtain ⟨p, xs, e, hp, sp⟩ := r
      exact ⟨p, xs, es, e, .inr hp.sq, sp, t⟩
    | ref a =>
      rw [vw_ref] at hv
      cases q : M a with
      | none => rw [q] at hv; cases hv
      | some o => rw [q] at hv; cases o <;> cases hv
    | _ => simp [vw] at hv
  · exact t.elim
section
variable {X : Cx} {E : XK} {e : Expr} {es : List Expr} {te : TED} {ts : TAD} {pos p : Pos}
theorem da_nil : DA X E [] dNil := ⟨PA.imp pa_nil fun σ H Q ⟨s, M, Qd, Xd, S, x, t, q⟩ => q [] H ⟨[], M, Gw.refl, S.mem, rfl, t⟩⟩
theorem da_cons (h1 : DE X E e te) (h2 : DA X E es ts) (hs : starEach (e :: es) X.env = (false, eval e X.env) :: starEach es X.env := by rfl) : DA X E (e :: es) (dCons te ts) :=
  ⟨PA.imp (pa_cons h1.ok h2.ok hs) fun σ H Q ⟨s, M, Qd, Xd, S, x, t, q⟩ => useE S x t fun d v M1 H1 g1 S1 x1 r1 t1 => useA S1 x1 t1 fun ds vs M2 H2 g2 S2 x2 r2 t2 =>
    q _ _ ⟨d :: ds, M2, g1.trans g2, S2.mem, Rs.cons (Rv.grow g2 _ _ r1) r2, t2⟩⟩
theorem da_star (h1 : DE X E e te) (h2 : DA X E es ts) : DA X E (.Starred e p :: es) (dStar te ts) :=
  ⟨PA.imp (StX.pa_star h1.ok h2.ok) fun σ H Q ⟨s, M, Qd, Xd, S, x, t, q⟩ => useE S x t fun d v M1 H1 g1 S1 x1 r1 t1 => by
    obtain ⟨a, xs, ds, rfl, hq, rs, t1⟩ := seqK_use S1.mem r1 t1
    exact ⟨a, xs, rfl, hq, useA S1 x1 t1 fun es vs M2 H2 g2 S2 x2 r2 t2 => q _ _ ⟨ds ++ es, M2, g1.trans g2, S2.mem, Rs.append (Rs.grow g2 _ _ rs) r2, t2⟩⟩⟩
theorem de_lstS (h : DA X E es ts) : DE X E (.List es pos) (dLstS ts) := ⟨PE.imp (pe_lst h.ok) fun σ H Q ⟨s, M, Qd, Xd, S, x, t, q⟩ =>
  useA S x t fun ds vs M1 H1 g1 S1 x1 r1 t1 => ⟨by rw [← Rs.len r1]; exact t1.1, fun p hp => q _ _ ⟨.lst ds, M1, g1.trans (gw_new hp), mok_new S1.mem hp, new_lst S1.mem hp r1, t1.2⟩⟩⟩
theorem de_tupS {k : Nat} (h : DA X E es ts) : DE X E (.Tuple es k pos) (dTupS ts) := ⟨PE.imp (pe_tup h.ok) fun σ H Q ⟨s, M, Qd, Xd, S, x, t, q⟩ =>
  useA S x t fun ds vs M1 H1 g1 S1 x1 r1 t1 => ⟨by rw [← Rs.len r1]; exact t1.1, fun p hp => q _ _ ⟨.tup ds, M1, g1.trans (gw_new hp), mok_new S1.mem hp, new_tup S1.mem hp r1, t1.2⟩⟩⟩
end
end DL
set_option maxHeartbeats 1000000
namespace DL
open PySem PySem.Spec PyProof.Rows L2
/-! ### the end of a row whose law is read over data -/
/-- what the law's def must do over data: true for every script of at most n numbers -/
def LawD (n : Nat) (sp : SpD) : Prop := ∀ ns : List Int, ns.length ≤ n → sp [.fzn (ns.map D.int)] (fun _ => none) (fun d _ => d = .bl true) (fun _ _ _ _ => False)
theorem rs_ints {K : Fg} {H : Hp} {M : Mem} : ∀ ns : List Int, Rs K H M (ns.map D.int) (ns.map V.int)
  | [] => rfl
  | i :: r => Rs.cons rfl (rs_ints r)
theorem rl_of {K : Fg} {H : Hp} {a : Addr} {xs : List V} (h : SqL K H a xs) : RL K H (fun _ => none) a xs := h.elim (fun h => .inl ⟨h, rfl⟩) .inr
theorem d_call {P : Program} {w : World} {K : Fg} {mg mb : Str → Option Value} {k n : Nat} {fa a : Addr} {fd : FuncData} {x : Str} {sp : SpD} {s1 : Shared} {vs : List Value} {ns : List Int}
    (KX : K.In s1.heap) (hns : s1.heap.Ns mainGlobals mg) (hb : s1.heap.Ns builtinsNs mb) (hbb : ∀ x : Str, x ≠ "__name__" → mb x = bootBuiltins x) (hlim : s1.heap.NoLimit) (hg : s1.gens = #[])
    (ha : s1.heap.get? a = some { cls := .type "list", data := .seq vs.toArray }) (hi : IntsAre vs ns) (hl : ns.length ≤ sizeLine) (hln : ns.length ≤ n) (hr : RoomG k callerA)
    (F : ∀ base : Heap, K.In base → base.Ns mainGlobals mg → DFn P w K mg base k fa fd [x] sp) (hbind : ∀ (s : Shared) (u : Value), BindsTo s fd ⟨[u], []⟩ [(x, u)]) (hsp : LawD n sp) :
    codeAny (model P w) callerA (.call (.ref fa) ⟨[.ref a], []⟩) (fun r s' => r = .ok (.ret (.bool true)) ∧ OldK s1.heap s'.heap ∧ s'.os = s1.os ∧ AllBare s'.gens) s1 := by
  have rv := vals_ints hi
  have lv := hi.length
  have core : ∀ H : Hp, Only H → SqL K H a (ns.map V.int) → HOk P w H s1.heap → (∀ b, H b ≠ none → b = a) → (H a ≠ none → K.lookup a = none) →
      codeAny (model P w) callerA (.call (.ref fa) ⟨[.ref a], []⟩) (fun r s' => r = .ok (.ret (.bool true)) ∧ OldK s1.heap s'.heap ∧ s'.os = s1.os ∧ AllBare s'.gens) s1 := by
    intro H hO hS hok hA hK
    have b0 : ∀ {b : Addr} {o : Obj}, s1.heap.get? b = some o → H b = none → (hidT s1.heap H).get? b = some o := fun e z => hidT_get e z
    have nd : ∀ {b : Addr} {o : Obj} {es : Array DictEntry} {ep : Nat}, s1.heap.get? b = some o → o.data = .dict es ep → H b = none := fun {b o es ep} e d => by
      cases q : H b with
      | none => rfl
      | some u =>
        obtain rfl : b = a := hA b (by rw [q]; simp)
        rw [ha] at e; cases e
        exact absurd (show Data.seq vs.toArray _ = Data.dict es ep from d) (fun z => nomatch z)
    have nsK : ∀ {b : Addr} {m : Str → Option Value}, s1.heap.Ns b m → (hidT s1.heap H).Ns b m := fun {b m} ⟨o, es, ep, e, d, r⟩ => ⟨o, es, ep, b0 e (nd e d), d, r⟩
    have kb : K.In (hidT s1.heap H) := fun b o e => b0 (KX b o e) (by
      cases q : H b with
      | none => rfl
      | some u =>
        obtain rfl : b = a := hA b (by rw [q]; simp)
        rw [hK (by rw [q]; simp)] at e; cases e)
    have hM : Mod K mg (hidT s1.heap H) := ⟨kb, nsK hns, ⟨mb, nsK hb, hbb⟩, let ⟨mc, h1, h2⟩ := hlim; ⟨mc, nsK h1, h2⟩⟩
    have e0 : Env0 P w K mg (hidT s1.heap H) callerA [] s1 H := ⟨rfl, hM, fun b o e => of_hidT e, Nat.le_of_eq (hidT_size _ _), trivial, fun b hb => absurd (show b ∈ ([] : List Addr) from hb) (by simp), hok, .of_eq hg⟩
    refine codeAny_mono ((F _ kb (nsK hns)).run callerA [] s1 H (fun _ => none) ⟨[.ref a], []⟩ [.ref a] [.ref a] [.fzn (ns.map D.int)] (fun d _ => d = .bl true) (fun _ _ _ _ => False) (fun v _ => v = .bl true) (fun _ _ _ => False) hr e0 rfl (hbind s1 (.ref a)) (.cons rfl .nil)
      (fun b o e => by cases e) (Rs.cons ⟨a, _, rfl, rl_of hS, rs_ints ns⟩ Rs.nil) (hsp ns hln) (fun v H' ⟨d, M', _, _, rd, e⟩ => by subst e; exact rd) (fun c od H' ⟨_, _, _, _, _, _, _, _, _, _, _, _, _, _, z⟩ => z)) fun r s' h => ?_
    cases r with
    | error e => obtain ⟨_, _, _, _, _, _, _, _, _, _, _, _, z⟩ := h; exact z.elim
    | ok fl =>
      cases fl with
      | next => exact False.elim h
      | brk => exact False.elim h
      | cont => exact False.elim h
      | ret u =>
        obtain ⟨v, H', os, bare, un, hok', r', q⟩ := h
        obtain rfl : v = .bl true := q
        obtain rfl : u = Value.bool true := r'
        refine ⟨rfl, OldK.of_keep fun b o e => ?_, os, bare⟩
        cases q : H b with
        | none => exact un.keep b o e q (by intro z; exact absurd (show b ∈ ([] : List Addr) from z) (by simp)) (by simp)
        | some u =>
          rcases hO b with z | ⟨ob, xs, z⟩
          · rw [q] at z; cases z
          · obtain ⟨e1, _⟩ := hok b _ z
            obtain ⟨e2, _⟩ := hok' b _ (un.frzs b ob _ z)
            rw [e] at e1; cases e1; exact e2
  cases hk : K.lookup a with
  | some o =>
    have e := KX a o hk
    rw [ha] at e; cases e
    exact core (fun _ => none) (fun _ => .inl rfl) (.inr ⟨_, vs.toArray, _, hk, rfl, rfl, rfl, by rw [List.size_toArray, lv]; exact hl, by simpa using rv⟩) (fun b u z => by cases (show (none : Option HO) = some u from z)) (fun b z => absurd rfl z) fun z => absurd rfl z
  | none =>
    refine core (fun b => if b = a then some (.frz { cls := .type "list", data := .seq vs.toArray } (.lst (ns.map V.int))) else none) (fun b => ?_) (.inl (.inr ⟨{ cls := .type "list", data := .seq vs.toArray }, if_pos rfl⟩)) (fun b u z => ?_) (fun b z => ?_) fun _ => hk
    · by_cases hb : b = a
      · exact .inr ⟨_, _, if_pos hb⟩
      · exact .inl (if_neg hb)
    · by_cases hb : b = a
      · have z' := (if_pos hb).symm.trans z
        cases z'; subst hb
        exact ⟨ha, by rw [List.length_map]; exact hl, vs, _, rv, ha⟩
      · exact absurd ((if_neg hb).symm.trans z) (fun z => nomatch z)
    · exact Decidable.byContradiction fun hb => z (if_neg hb)
theorem d_walk {l : PySem.W.OpenLaw} {n k : Nat} {q : Program} {loose : List Str} {XP : (Str → Option Value) → Heap → Prop} {YP : World → Heap → Prop} {d : DefRec} {x : Str} (hn : l.most = some n) (hn2 : n ≤ sizeLine) (hdf : d.params.defaults = []) (hr : RoomG k callerA)
    (F : ∀ (w : World) (mg : Str → Option Value) (fa : Addr) (h : Heap), YP w h → h.Ns mainGlobals mg → mg d.name = some (.ref fa) →
      ∃ (K : Fg) (fd : FuncData) (sp : SpD), K.In h ∧ (∀ (s : Shared) (u : Value), BindsTo s fd ⟨[u], []⟩ [(x, u)]) ∧ LawD n sp ∧ ∀ base : Heap, K.In base → base.Ns mainGlobals mg → DFn l.prog w K mg base k fa fd [x] sp) :
    PySem.W.WalkO q loose XP YP l.row.toRowW d [] (fun f vs => PySem.call f vs) := by
  refine Att.attach_call hn hdf fun w s0 s1 mg mb fa o pm cd doc a vs ns G Y ho hd hcd hmg hobj hints hlen hg => ?_
  obtain ⟨K, fd, sp, KX, hb, hsp, hF⟩ := F w mg fa _ Y G.T.g hmg
  exact d_call KX G.T.g G.T.b G.T.builtins G.T.nolimit hg hobj hints (Nat.le_trans hlen hn2) hlen hr hF hb hsp
/-- a def as the head tells it -/
theorem fun_ofD {K : Fg} {x qual : Str} {st : Stmt} {f : Addr} {fd : FuncData} (F : FunD K x qual (defArgs st) (defBody st) (defScope st) [] [] f fd) : Fun K x qual st f fd := by
  obtain ⟨oc, od, dV, kV, doc, pm, an, cdv, ct, osl, e, lk, hcd, hD, hK⟩ := F.ex
  have e2 : dV = .none := by
    rcases hD with ⟨_, e⟩ | ⟨e, _⟩
    · exact e
    · exact absurd rfl e
  subst e2
  exact ⟨⟨oc, od, kV, doc, pm, an, cdv, ct, osl, e, lk, hcd⟩, F.kp⟩
end DL
set_option maxHeartbeats 1000000
namespace DL
open PySem PySem.Spec PyProof.Rows L2
/-! ### facts of the head: by names, and by one Bool more -/
abbrev AlE := He.AlD × Bool
def obsE (n : Nat) (fa : List He.Fa) (fn : List He.DefD) (ex : Fg → Bool) (g : Addr → Option Obj) : AlE := (He.obsD fa fn (He.frG g (He.asD g n)), ex (He.frG g (He.asD g n)))
def hookE (n : Nat) (fa : List He.Fa) (fn : List He.DefD) (ex : Fg → Bool) : PySem.W.Hook where
  α := AlE
  obs := fun s => obsE n fa fn ex s.heap.get?
  val := fun _ => (He.valD fn, true)
  says := fun _ h => ∃ K : Fg, K.In h ∧ He.SaysD fa fn K ∧ ex K = true
  of := fun _ _ e => ⟨_, He.frG_in, congrArg Prod.fst e, congrArg Prod.snd e⟩
  keeps := fun _ _ _ ⟨K, hK, c, e⟩ k => ⟨K, PySem.W.Frag.In.keeps hK k, c, e⟩
theorem obsE_eq {n : Nat} {fa : List He.Fa} {fn : List He.DefD} {ex : Fg → Bool} {g : Addr → Option Obj} {s : Shared} (h : ∀ a, g a = s.heap.get? a) : obsE n fa fn ex g = (hookE n fa fn ex).obs s := by
  have e : g = s.heap.get? := funext h
  rw [e] <;> rfl
theorem binds_of {K : Fg} {x qual : Str} {st : Stmt} {f : Addr} {fd : FuncData} {ps : List Str} (F : Fun K x qual st f fd)
    (h : ∀ (kV doc pm : Value) (an : Option Addr) (cdv ct : Value) (us : List Value), us.length = ps.length → bindArgs (PySem.W.fnOf x qual (defArgs st) (defBody st) (defScope st) .none kV doc pm an cdv ct) ⟨us, []⟩ = pure (ps.zip us)) : Binds K fd ps [] := F.binds h
end DL
set_option maxHeartbeats 1000000
namespace PySem
open AutoSeq1 (wpAny_loadPart')
theorem dl_enum_newT (l : Addr) (items : Array Value) (n : Nat) (dct : Option Addr) (sl : Array (Option Value)) :
    Meets (Builtin.«enumerate.__new__» ⟨[.type "enumerate", .ref l], []⟩) (fun _ R s => s.heap.get? l = some { cls := .type "tuple", dict := dct, data := .seq items n, slots := sl } ∧
      R (.ok (.ret (.ref (s.heap.push { cls := .type "tuple_iterator", data := .fields #[.ref l, .int 0 0] }).objs.size)))
        { s with heap := (s.heap.push { cls := .type "tuple_iterator", data := .fields #[.ref l, .int 0 0] }).push { cls := .type "enumerate", data := .fields #[.none, .bool false, .ref s.heap.objs.size, rawInt 0, .none, .none] } }) :=
  .of_wp fun prog w A R s h => by
    obtain ⟨hp, g, d, tk, os⟩ := s; obtain ⟨hl, h⟩ := h
    have hsub := sub_enumerate
    have hL : Heap.IsTuple (Shared.heap ⟨hp, g, d, tk, os⟩) l items := ⟨_, hl, rfl, n, rfl⟩
    wp_walk using wpAny_loadPart' hl
    refine wpAny_stack_any fun st => wpAny_pure ?_
    split
    · rename_i c _ _ _ _ _
      cases (c == Value.type "enumerate") <;> (wp_walk using wpAny_loadPart' hl, wpAny_pyIter_tuple hL; exact ⟨_, rfl, h⟩)
    · wp_walk using wpAny_loadPart' hl, wpAny_pyIter_tuple hL
      exact ⟨_, rfl, h⟩
theorem dl_call_enumT {prog : Program} {w : World} {A : Around} {E : Value → Shared → Prop} {s : Shared} {l : Addr} {items : Array Value} {Q : Value → Shared → Prop} (hL : s.heap.IsTuple l items)
    (h : ∀ h', IsEnum h' (s.heap.objs.size + 1) s.heap.objs.size 0 .none → h'.IsTupleIter s.heap.objs.size l 0 → h'.objs.size = s.heap.objs.size + 2 → (∀ b o, s.heap.get? b = some o → h'.get? b = some o) → Q (.ref (s.heap.objs.size + 1)) { s with heap := h' }) :
    wpAny (model prog w) A (call (.type "enumerate") [.ref l]) Q E s := by
  obtain ⟨⟨c, dct, dt, sl⟩, hl, hc, n, hd⟩ := hL
  obtain rfl : c = .type "tuple" := hc
  obtain rfl : dt = .seq items n := hd
  refine callType_new F.called_enumerate (by decide) (F.typeCall_enumerate_1 _) (F.newCall_enumerate_1 _) (fun obj => F.args_object_init_2 obj _) F.entry_enumerate_new (dl_enum_newT l items n dct sl) ⟨hl, ?_⟩
  have hz : (s.heap.push { cls := .type "tuple_iterator", data := .fields #[.ref l, .int 0 0] }).objs.size = s.heap.objs.size + 1 := Heap.size_push ..
  show _ ∧ _
  rw [hz]
  have he : IsEnum ((s.heap.push { cls := .type "tuple_iterator", data := .fields #[.ref l, .int 0 0] }).push { cls := .type "enumerate", data := .fields #[.none, .bool false, .ref s.heap.objs.size, rawInt 0, .none, .none] }) (s.heap.objs.size + 1) s.heap.objs.size 0 .none := by
    have z := Heap.get?_push_size (s.heap.push { cls := .type "tuple_iterator", data := .fields #[.ref l, .int 0 0] }) (o := { cls := .type "enumerate", data := .fields #[.none, .bool false, .ref s.heap.objs.size, rawInt 0, .none, .none] }) rfl
    rw [hz] at z; exact z
  refine ⟨⟨_, he, rfl⟩, h _ he ⟨_, Heap.get?_push_of_some _ (Heap.get?_push_size _ rfl), rfl, rfl⟩ (by rw [Heap.size_push, hz]) fun b o x => Heap.get?_push_of_some _ (Heap.get?_push_of_some _ x)⟩
theorem dl_draws_tup {prog : Program} {w : World} {A : Around} (hh : A.handled = none) (it l : Addr) (hne : l ≠ it) (items : Array Value) :
    Draws prog w A it [it, l] items.size (fun i v => items[i]? = some v) (fun i h => h.IsTupleIter it l i ∧ h.IsTuple l items) where
  live := fun _ _ st => let ⟨o, ho, _⟩ := st.1; ⟨o, ho⟩
  frame := fun _ _ _ st hk => ⟨let ⟨o, ho, r⟩ := st.1; ⟨o, hk it (by simp) o ho, r⟩, let ⟨o, ho, r⟩ := st.2; ⟨o, hk l (by simp) o ho, r⟩⟩
  item := fun i s Q E hi st hQ => wpAny_nextOf_tuple_item st.1 st.2 (x := items[i]) (by simp [hi]) fun h' hit' hs' => hQ _ h' s.toks (by simp [hi]) ⟨hit', st.2.extBut hs'.extBut hne⟩ hs'
  done := fun s Q E st hE => wpAny_nextOf_tuple_end hh st.1 st.2 (by simp) hE
end PySem

namespace DL
open PySem PySem.Spec PyProof.Rows L2
/-! ### enumerate of tuples -/
def IteT (K : Fg) (a : Addr) : It :=
  ⟨fun i H => ∃ (xs : List V) (x : V), SqT K H a xs ∧ xs[i]? = some x, fun i H v H' => ∃ T x, v = .ref T ∧ H T = none ∧ H' = upd H T (.tup [.int (i : Nat), x]) ∧ ∀ xs, SqT K H a xs → xs[i]? = some x, fun i H => ∃ xs : List V, SqT K H a xs ∧ xs.length ≤ i⟩
theorem turn_enT {P : Program} {w : World} {K : Fg} {elts : List Expr} {kk : Nat} {tpos : Pos} (a e it : Addr) :
    Turn P w K (.Tuple elts kk tpos) (IteT K a) [e, it] e (fun i h => (∃ old, IsEnum h e it ((i : Nat) : Int) old) ∧ h.IsTupleIter it a i ∧ e ≠ it) where
  mem := by simp
  obj := fun i h st b hb => by
    obtain ⟨⟨old, he⟩, ⟨o, ho, hc, hd⟩, _⟩ := st
    rcases (by simpa using hb : b = e ∨ b = it) with z | z
    · rw [z]; exact ⟨_, he, fun v q => nomatch q⟩
    · rw [z]; exact ⟨o, ho, fun v q => by rw [hd] at q; cases q⟩
  keep := fun i h h' st k => let ⟨⟨old, he⟩, ⟨o, ho, r⟩, hne⟩ := st; ⟨⟨old, k e (by simp) _ he⟩, ⟨o, k it (by simp) _ ho, r⟩, hne⟩
  item := by
    intro X hP hw hK hc i pins s σ H E I hf st hg
    subst hP hw hK
    obtain ⟨⟨old, he⟩, hit, hne⟩ := st
    obtain ⟨xs, x, hq, hx⟩ := hg
    obtain ⟨its, rv, p, hz⟩ := I.tuple hq
    have p' : s.heap.IsTuple a its.toArray := p
    have hel : e < s.heap.objs.size := Heap.lt_size he
    have hil : it < s.heap.objs.size := by obtain ⟨_, q, _⟩ := hit; exact Heap.lt_size q
    have hai : a ≠ it := fun z => by
      obtain ⟨o, h1, h2, _⟩ := p'
      obtain ⟨o2, h3, h4, _⟩ := hit
      rw [z, h3] at h1; cases h1
      rw [h2] at h4
      exact absurd (Value.type.inj h4) (by decide)
    have hea : e ≠ a := fun z => by
      obtain ⟨o, h1, h2, _⟩ := p'
      have h3 := he
      unfold IsEnum at h3
      rw [z, h1] at h3
      have h4 := congrArg (fun o : Option Obj => o.map (·.cls)) h3
      have h5 : o.cls = .type "enumerate" := Option.some.inj h4
      rw [h2] at h5
      exact absurd (Value.type.inj h5) (by decide)
    have hl := rv.length
    have hlt : i < its.toArray.size := by
      have : i < xs.length := by
        rcases Nat.lt_or_ge i xs.length with z | z
        · exact z
        · rw [List.getElem?_eq_none z] at hx; cases hx
      simpa [← hl] using this
    refine wpAny_pyNext_enum_itemD (dl_draws_tup (A := X.A.in1) (show X.A.in1.handled = none from I.ok.hd hc) it a hai its.toArray) he ⟨hit, p'⟩ hlt hne (by simp [hne, hea]) fun u h' tk hu ho st' hT hsz hk => ?_
    refine ⟨_, rfl, wpAny_letOwnedTupleGo_enum (s := { s with heap := h', toks := tk + 1 }) ho fun h'' he' sb => ?_⟩
    obtain ⟨u', hu', ru⟩ := rv.get hx
    obtain rfl : u = u' := by
      have hu2 : its.toArray[i]? = some u := hu
      rw [show its.toArray[i]? = its[i]? by simp, hu'] at hu2
      exact (Option.some.inj hu2).symm
    have hT2 : h''.get? s.heap.objs.size = some { cls := .type "tuple", data := .seq #[.int i tk, u] } := (sb.2 _ (Nat.ne_of_gt hel)).trans hT
    have new : ObjOk X.prog X.w (upd H s.heap.objs.size (.tup [.int (i : Nat), x])) h'' s.heap.objs.size (.tup [.int (i : Nat), x]) :=
      ⟨by show 2 ≤ sizeLine; decide, [.int i tk, u], .cons ⟨_, rfl⟩ (.cons ru .nil), ⟨_, hT2, rfl, _, rfl⟩⟩
    have I1 : Inv X pins σ (upd H s.heap.objs.size (.tup [.int (i : Nat), x])) { s with heap := h'', toks := tk + 1 } :=
      I.turnedNew (t' := tk + 1) (ch := [e, it]) (fun b ob hb q => (sb.2 b (fun z => hb (by simp [z]))).trans (hk b ob (fun z => hb (by simp [z])) (fun z => hb (by simp [z])) q)) hf (Nat.le_refl _) new
    refine ⟨.ref s.heap.objs.size, _, I1, rfl, ⟨_, x, rfl, I.hok.fresh (Nat.le_refl _), rfl, fun ys hy => by rw [I.tuple_inj hy hq]; exact hx⟩, ⟨⟨u, ?_⟩, ?_, hne⟩, fun b hb => ?_⟩
    · rw [show ((i + 1 : Nat) : Int) = (i : Int) + 1 by omega]; exact he'
    · obtain ⟨o2, h2, r2⟩ := st'.1
      exact ⟨o2, (sb.2 it (Ne.symm hne)).trans h2, r2⟩
    · have hb' : b < s.heap.objs.size := by
        rcases (by simpa using hb : b = e ∨ b = it) with z | z
        · rw [z]; exact hel
        · rw [z]; exact hil
      rw [upd_ne (Nat.ne_of_lt hb')]
      exact (hf b hb).1
  done := by
    intro X hP hw hK hc i pins s σ H E I hf st hg
    subst hP hw hK
    obtain ⟨⟨old, he⟩, hit, hne⟩ := st
    obtain ⟨xs, hq, hx⟩ := hg
    obtain ⟨its, rv, p, hz⟩ := I.tuple hq
    have p' : s.heap.IsTuple a its.toArray := p
    obtain ⟨f0, f1, f2, f3, f4, f5⟩ := hf it (by simp)
    have hT : s.TypeIs (.ref e) "enumerate" := ⟨_, he, rfl⟩
    have hl := rv.length
    unfold pyNext
    refine wpAny_bind (wpAny_attempt (wpAny_callSpecial?_slot (name := Str.ofString "__next__") hT F.slot_enumerate_next (wpAny_call_entry F.slot_enumerate_next hT F.entry_enumerate_next ?_ (F.args_enumerate_next_1 _))))
    show wpAny _ _ (field (.ref e) 2 >>= _) _ _ _
    refine wpAny_bind (wpAny_field he rfl (x := .ref it) rfl (wpAny_bind (wpAny_nextOf_tuple_end (I.ok.hd hc) hit p' (by simp; omega) fun h' x he' hx' => ?_)))
    obtain ⟨o, ho, hcs⟩ := hx'
    exact wpAny_bind (wpAny_isInstance (T := "StopIteration") (b := true) ⟨o, ho, hcs⟩ isSubtype_stop (wpAny_pure ⟨rfl, I.turned (t' := s.toks) (fun b o hb q => he' b o hb q) f0 f1 f3 f4 f5⟩))
  self := fun A i s Q E st h => let ⟨⟨_, he⟩, _⟩ := st; wpAny_pyIter_enum he h
def iEnB (K : Fg) (ta : TA) : TI := fun σ H R => ta σ H fun vs H1 => ∃ a, vs = [.ref a] ∧ (((∃ xs, SqL K H1 a xs) ∧ R (Ite K a) H1) ∨ ((∃ xs, SqT K H1 a xs) ∧ R (IteT K a) H1))
theorem pi_enB {X : Cx} {e : Expr} {ta : TA} {p pos tpos : Pos} {elts : List Expr} {kk : Nat} (hg : Gl X "enumerate") (hm : X.mg "enumerate" = none) (ha : PA X [e] ta) (hs : starEach [e] X.env = (false, eval e X.env) :: starEach [] X.env := by rfl) :
    PI X (.Tuple elts kk tpos) (.Call (.Name "enumerate" p) [e] [] pos) (iEnB X.K ta) := by
  refine ⟨fun pins s σ H R I h => Call_ (ld_blt I hg hm boot_enumerate (PyProof.Rows.callWith_type1 (thn (ha.run pos pins s σ H _ I h) fun us s1 ⟨vs, H1, I1, r1, a, ex, q1⟩ => ?_) hs rfl))⟩
  subst ex
  obtain ⟨u, rfl, ru⟩ := vals1 r1
  obtain rfl : u = .ref a := ru
  have fp : ∀ b ∈ [s1.heap.objs.size + 1, s1.heap.objs.size], FpOk X pins H1 b := fun b hb => by
    have hle : s1.heap.objs.size ≤ b := by
      rcases (by simpa using hb : b = s1.heap.objs.size + 1 ∨ b = s1.heap.objs.size) with z | z
      · rw [z]; exact Nat.le_add_right _ _
      · rw [z]; exact Nat.le_refl _
    exact I1.fpOk hle (I1.hok.fresh hle)
  rcases q1 with ⟨⟨xs, hq⟩, q⟩ | ⟨⟨xs, hq⟩, q⟩
  · obtain ⟨its, rv, p', hz⟩ := I1.list hq
    exact call_enumerate_list p'.isList fun h' he hit hsz hk => wpAny_pyIter_enum he ⟨s1.heap.objs.size + 1, [s1.heap.objs.size + 1, s1.heap.objs.size], _, _, H1, rfl, I1.kept (t' := s1.toks) hk, turn_enum a (s1.heap.objs.size + 1) s1.heap.objs.size, ⟨⟨.none, he⟩, hit, Nat.succ_ne_self _⟩, fp, q⟩
  · obtain ⟨its, rv, p', hz⟩ := I1.tuple hq
    exact dl_call_enumT (show s1.heap.IsTuple a its.toArray from p') fun h' he hit hsz hk => wpAny_pyIter_enum he ⟨s1.heap.objs.size + 1, [s1.heap.objs.size + 1, s1.heap.objs.size], _, _, H1, rfl, I1.kept (t' := s1.toks) hk, turn_enT a (s1.heap.objs.size + 1) s1.heap.objs.size, ⟨⟨.none, he⟩, hit, Nat.succ_ne_self _⟩, fp, q⟩
theorem ItOk.enumT {K : Fg} {H0 : Hp} {M0 : Mem} {ow : Option Addr} {ds : List D} {a : Addr} (hs : ∀ H M, Gw H0 M0 H M → MOk K H M → (∀ a, ow = some a → M a = M0 a) → ∃ xs, SqT K H a xs ∧ Rs K H M ds xs) : ItOk K (IteT K a) H0 M0 ow (enmFrom 0 ds) := by
  refine ⟨fun i H M g mo hw hi => ?_, fun H M g mo hw => ?_⟩
  · rw [enmFrom_len] at hi
    obtain ⟨xs, h1, h2⟩ := hs H M g mo hw
    obtain ⟨v, e1, e2⟩ := Rs.get h2 (List.getElem?_eq_getElem hi)
    refine ⟨⟨xs, v, h1, e1⟩, fun y H' ⟨T, x, eT, hT, eH, hy⟩ => ?_⟩
    subst eT; subst eH
    have e3 := hy xs h1
    rw [e1] at e3; cases e3
    refine ⟨.tup [.int ((0 + i : Nat) : Int), ds[i]], by rw [enmFrom_get, List.getElem?_eq_getElem hi]; rfl, gw_new hT, mok_new mo hT, new_tup mo hT (Rs.cons ?_ (Rs.cons e2 Rs.nil))⟩
    rw [Nat.zero_add]; exact rfl
  · rw [enmFrom_len]
    obtain ⟨xs, h1, h2⟩ := hs H M g mo hw
    exact ⟨xs, h1, by rw [vlen h2]; exact Nat.le_refl _⟩
def iEnmB (te : TED) : TID := fun Xd s M R => dCons te dNil Xd s M fun ds M1 => ∃ d, ds = [d] ∧ itemK (fun ds ow M1 => R (enmFrom 0 ds) ow M1) d M1
theorem di_enumB {X : Cx} {E : XK} {e : Expr} {te : TED} {p pos tpos : Pos} {elts : List Expr} {kk : Nat} (hg : Gl X "enumerate") (hm : X.mg "enumerate" = none) (he : DE X E e te) (hs : starEach [e] X.env = (false, eval e X.env) :: starEach [] X.env := by rfl) :
    DI X E (.Tuple elts kk tpos) (.Call (.Name "enumerate" p) [e] [] pos) (iEnmB te) := by
  refine ⟨_, pi_enB hg hm (dn_cons he dn_nil hs).ok hs, fun {σ H s M Xd Qd R} S x t q => ?_⟩
  refine useN S x t fun ds vs M1 H1 hl g1 S1 x1 r1 t1 => ?_
  obtain ⟨d, rfl, t1⟩ := t1
  obtain ⟨v, hv, rd⟩ := rs1 r1
  unfold itemK at t1
  split at t1
  · rename_i ds
    obtain ⟨p, xs, rfl, hp, sp⟩ := rd
    exact ⟨p, hv, .inr ⟨⟨xs, hp.sq⟩, q _ _ _ _ _ g1 S1.mem (ItOk.enumT fun H M g mo _ => ⟨xs, (g.rt hp).sq, Rs.grow g ds xs sp⟩) t1⟩⟩
  · rename_i ds
    obtain ⟨p, xs, rfl, hp, hm, sp⟩ := rd
    exact ⟨p, hv, .inl ⟨⟨xs, SqL.of hp⟩, q _ _ _ _ _ g1 S1.mem (ItOk.enum fun H M g mo _ => ⟨xs, SqL.of (g _ _ hp hm).1, Rs.grow g ds xs sp⟩) t1⟩⟩
  · rename_i ds
    obtain ⟨p, xs, rfl, hp, sp⟩ := rd
    exact ⟨p, hv, .inl ⟨⟨xs, hp.sq⟩, q _ _ _ _ _ g1 S1.mem (ItOk.enum fun H M g mo _ => ⟨xs, (g.rl hp).sq, Rs.grow g ds xs sp⟩) t1⟩⟩
  · rename_i p
    split at t1
    · rename_i ds hm
      have hv' : v = .ref p := rd
      subst hv'
      obtain ⟨xs, hp, sp⟩ := S1.mem p _ hm
      refine ⟨p, hv, .inl ⟨⟨xs, SqL.of hp⟩, q _ _ _ (some p) _ g1 S1.mem (ItOk.enum fun H M g mo hw => ?_) t1⟩⟩
      have e := hw p rfl
      rw [hm] at e
      obtain ⟨ys, h1, h2⟩ := mo p _ e
      exact ⟨ys, SqL.of h1, h2⟩
    · exact t1.elim
  · exact t1.elim
end DL
set_option maxHeartbeats 1000000
namespace DL
open PySem PySem.Spec PyProof.Rows L2 RZ
/-! ### zip of two lists, or of two tuples -/
def zpD : List D → List D → List D
  | d :: ds, e :: es => .tup [d, e] :: zpD ds es
  | _, _ => []
theorem zpD_get : ∀ (ds es : List D) (i : Nat), (zpD ds es)[i]? = match ds[i]?, es[i]? with | some d, some e => some (D.tup [d, e]) | _, _ => none
  | [], es, i => by simp [zpD]
  | d :: ds, [], i => by
    simp only [zpD, List.getElem?_nil]
    split <;> simp_all
  | d :: ds, e :: es, 0 => by simp [zpD]
  | d :: ds, e :: es, i + 1 => by
    simp only [zpD, List.getElem?_cons_succ]
    exact zpD_get ds es i
theorem zpD_len : ∀ (ds es : List D), (zpD ds es).length = min ds.length es.length
  | [], es => by simp [zpD]
  | d :: ds, [] => by simp [zpD]
  | d :: ds, e :: es => by
    simp only [zpD, List.length_cons, zpD_len ds es]; omega
theorem ItOk.zip {K : Fg} {H0 : Hp} {M0 : Mem} {ds es : List D} {a b : Addr} (hs : ∀ H M, Gw H0 M0 H M → ∃ xs, SqL K H a xs ∧ Rs K H M ds xs) (ht : ∀ H M, Gw H0 M0 H M → ∃ ys, SqL K H b ys ∧ Rs K H M es ys) : ItOk K (Itz K a b) H0 M0 none (zpD ds es) := by
  refine ⟨fun i H M g mo hw hi => ?_, fun H M g mo hw => ?_⟩
  · rw [zpD_len] at hi
    have i1 : i < ds.length := by omega
    have i2 : i < es.length := by omega
    obtain ⟨xs, h1, h2⟩ := hs H M g
    obtain ⟨ys, k1, k2⟩ := ht H M g
    obtain ⟨v, e1, e2⟩ := Rs.get h2 (List.getElem?_eq_getElem i1)
    obtain ⟨u, f1, f2⟩ := Rs.get k2 (List.getElem?_eq_getElem i2)
    refine ⟨⟨xs, ys, v, u, h1, k1, e1, f1⟩, fun z H' ⟨T, x, y, eT, hT, eH, hx, hy⟩ => ?_⟩
    subst eT; subst eH
    have e3 := hx xs h1
    rw [e1] at e3; cases e3
    have f3 := hy ys k1
    rw [f1] at f3; cases f3
    exact ⟨.tup [ds[i], es[i]], by rw [zpD_get, List.getElem?_eq_getElem i1, List.getElem?_eq_getElem i2], gw_new hT, mok_new mo hT, new_tup mo hT (Rs.cons e2 (Rs.cons f2 Rs.nil))⟩
  · rw [zpD_len]
    obtain ⟨xs, h1, h2⟩ := hs H M g
    obtain ⟨ys, k1, k2⟩ := ht H M g
    exact ⟨xs, ys, h1, k1, by rw [vlen h2, vlen k2]; omega⟩
theorem ItOk.zipT {K : Fg} {H0 : Hp} {M0 : Mem} {ds es : List D} {a b : Addr} (hs : ∀ H M, Gw H0 M0 H M → ∃ xs, SqT K H a xs ∧ Rs K H M ds xs) (ht : ∀ H M, Gw H0 M0 H M → ∃ ys, SqT K H b ys ∧ Rs K H M es ys) : ItOk K (ItzT K a b) H0 M0 none (zpD ds es) := by
  refine ⟨fun i H M g mo hw hi => ?_, fun H M g mo hw => ?_⟩
  · rw [zpD_len] at hi
    have i1 : i < ds.length := by omega
    have i2 : i < es.length := by omega
    obtain ⟨xs, h1, h2⟩ := hs H M g
    obtain ⟨ys, k1, k2⟩ := ht H M g
    obtain ⟨v, e1, e2⟩ := Rs.get h2 (List.getElem?_eq_getElem i1)
    obtain ⟨u, f1, f2⟩ := Rs.get k2 (List.getElem?_eq_getElem i2)
    refine ⟨⟨xs, ys, v, u, h1, k1, e1, f1⟩, fun z H' ⟨T, x, y, eT, hT, eH, hx, hy⟩ => ?_⟩
    subst eT; subst eH
    have e3 := hx xs h1
    rw [e1] at e3; cases e3
    have f3 := hy ys k1
    rw [f1] at f3; cases f3
    exact ⟨.tup [ds[i], es[i]], by rw [zpD_get, List.getElem?_eq_getElem i1, List.getElem?_eq_getElem i2], gw_new hT, mok_new mo hT, new_tup mo hT (Rs.cons e2 (Rs.cons f2 Rs.nil))⟩
  · rw [zpD_len]
    obtain ⟨xs, h1, h2⟩ := hs H M g
    obtain ⟨ys, k1, k2⟩ := ht H M g
    exact ⟨xs, ys, h1, k1, by rw [vlen h2, vlen k2]; omega⟩
/-- the items of a list that is not changed -/
def lsdO : D → Option (List D)
  | .lst ds => some ds
  | .fzn ds => some ds
  | _ => none
theorem lsdO_use {K : Fg} {H : Hp} {M : Mem} {d : D} {v : V} {ds : List D} (r : Rv K H M d v) (e : lsdO d = some ds) : ∃ p, v = .ref p ∧ ∀ H' M', Gw H M H' M' → ∃ ys, SqL K H' p ys ∧ Rs K H' M' ds ys := by
  cases d with
  | lst es => cases e; obtain ⟨p, xs, h, hp, hm, sp⟩ := r; exact ⟨p, h, fun H' M' g => ⟨xs, SqL.of (g _ _ hp hm).1, Rs.grow g _ xs sp⟩⟩
  | fzn es => cases e; obtain ⟨p, xs, h, hp, sp⟩ := r; exact ⟨p, h, fun H' M' g => ⟨xs, (g.rl hp).sq, Rs.grow g _ xs sp⟩⟩
  | _ => cases e
def zipK (R : List D → Option Addr → Mem → Prop) (d e : D) (M : Mem) : Prop := match d, e with
  | .tup ds, .tup es => R (zpD ds es) none M
  | d, e => ∃ ds es, lsdO d = some ds ∧ lsdO e = some es ∧ R (zpD ds es) none M
def iZipD (te te2 : TED) : TID := fun Xd s M R => dCons te (dCons te2 dNil) Xd s M fun ds M1 => ∃ d e, ds = [d, e] ∧ zipK R d e M1
theorem di_zip {X : Cx} {E : XK} {e e2 : Expr} {te te2 : TED} {p pos tpos : Pos} {elts : List Expr} {kk : Nat} (hg : Gl X "zip") (hm : X.mg "zip" = none) (he : DE X E e te) (he2 : DE X E e2 te2) (hs2 : starEach [e2] X.env = (false, eval e2 X.env) :: starEach [] X.env := by rfl)
    (hs : starEach [e, e2] X.env = (false, eval e X.env) :: starEach [e2] X.env := by rfl) (hpl : (backTo pos (starEach [e2] X.env)).any (·.1) = false := by rfl) : DI X E (.Tuple elts kk tpos) (.Call (.Name "zip" p) [e, e2] [] pos) (iZipD te te2) := by
  refine ⟨_, pi_zipA hg hm (dn_cons he (dn_cons he2 dn_nil hs2) hs).ok hs hpl, fun {σ H s M Xd Qd R} S x t q => ?_⟩
  refine useN S x t fun ds vs M1 H1 hl g1 S1 x1 r1 t1 => ?_
  obtain ⟨d, d2, rfl, t1⟩ := t1
  obtain ⟨v, v2, hv, rd, rd2⟩ := rs2 r1
  unfold zipK at t1
  split at t1
  · rename_i ds es
    obtain ⟨a, xs, rfl, ha, sa⟩ := rd
    obtain ⟨b, ys, rfl, hb, sb⟩ := rd2
    exact ⟨a, b, xs, ys, hv, .inr ⟨ha.sq, hb.sq, q _ _ _ _ _ g1 S1.mem (ItOk.zipT (fun H M g => ⟨xs, (g.rt ha).sq, Rs.grow g _ xs sa⟩) (fun H M g => ⟨ys, (g.rt hb).sq, Rs.grow g _ ys sb⟩)) t1⟩⟩
  · obtain ⟨ds, es, h1, h2, t1⟩ := t1
    obtain ⟨a, rfl, ka⟩ := lsdO_use rd h1
    obtain ⟨b, rfl, kb⟩ := lsdO_use rd2 h2
    obtain ⟨xs, hx, _⟩ := ka H1 M1 Gw.refl
    obtain ⟨ys, hy, _⟩ := kb H1 M1 Gw.refl
    exact ⟨a, b, xs, ys, hv, .inl ⟨hx, hy, q _ _ _ _ _ g1 S1.mem (ItOk.zip ka kb) t1⟩⟩
end DL
set_option maxHeartbeats 1000000
namespace DL
open PySem PySem.Spec PyProof.Rows L2
/-! ### xs.index(i), a list of integers -/
def idxK (o d : D) (Q : QD) : Mem → Prop := fun M => ∃ (ns : List Int) (i : Int) (j : Nat), lsdO o = some (ns.map D.int) ∧ d = .int i ∧ ns.findIdx? (· == i) = some j ∧ Q (.int (j : Nat)) M
def dIdx (to te : TED) : TED := fun Xd s M Q => to Xd s M fun o M1 => (lsdO o).isSome = true ∧ te Xd s M1 fun d M2 => idxK o d Q M2
theorem rs_intsV {K : Fg} {H : Hp} {M : Mem} : ∀ {ns : List Int} {vs : List V}, Rs K H M (ns.map D.int) vs → vs = ns.map V.int
  | [], _, h => h
  | i :: r, _, ⟨v, t, rfl, h, q⟩ => by
    have e : v = .int i := h
    rw [e, rs_intsV q]; rfl
theorem de_idx {X : Cx} {E : XK} {o e : Expr} {to te : TED} {apos pos : Pos} (ho : DE X E o to) (he : DE X E e te) (hbase : attributeBase o "index" X.env (eval o X.env) = eval o X.env := by rfl)
    (hfew : ((backTo pos (starEach (e :: []) X.env)).all (fun x => !x.1) && (backToKw pos (keywordEach [] X.env)).all (fun x => x.1.isSome)
      && decide ((e :: []).length + ([] : List Keyword).length + (if ([] : List Keyword).isEmpty then 0 else 1) < 30)) = true := by rfl)
    (hline : (apos.endLine == pos.line) = true := by rfl) (hs : starEach (e :: []) X.env = (false, eval e X.env) :: starEach [] X.env := by rfl) : DE X E (.Call (.Attribute o "index" apos) [e] [] pos) (dIdx to te) :=
  ⟨PE.imp (pe_bm PySem.F.plainAttrs_list PySem.F.slot_list_index PySem.F.type_list_index mt_index ho.ok (pa_cons he.ok pa_nil hs) hbase hfew hline hs (by rfl)) fun σ H Q ⟨s, M, Qd, Xd, S, x, t, q⟩ => by
    refine useE S x t fun od v M1 H1 g1 S1 x1 r1 t1 => ?_
    obtain ⟨hso, t1⟩ := t1
    obtain ⟨ds, hds⟩ := Option.isSome_iff_exists.mp hso
    obtain ⟨a, rfl, ka⟩ := lsdO_use r1 hds
    obtain ⟨xs0, hx0, _⟩ := ka H1 M1 Gw.refl
    refine ⟨.inl ⟨rfl, xs0, hx0⟩, ?_⟩
    refine useE S1 x1 t1 fun d w M2 H2 g2 S2 x2 r2 t2 => ?_
    obtain ⟨ns, i, j, h1, rfl, hj, z⟩ := t2
    rw [hds] at h1; cases h1
    obtain ⟨ys, hys, rys⟩ := ka H2 M2 g2
    have ey := rs_intsV rys
    subst ey
    have ew : w = .int i := r2
    subst ew
    obtain ⟨hlt, hjt, hno⟩ := List.findIdx?_eq_some_iff_getElem.mp hj
    have en : ns[j] = i := by simpa using hjt
    refine ⟨a, ns.map V.int, .int i, j, .int ns[j], rfl, rfl, hys, rfl, ?_, ?_, ?_, fun m z' hm hz => ?_, q _ _ ⟨.int (j : Nat), M2, g1.trans g2, S2.mem, rfl, z⟩⟩
    · rw [List.all_eq_true]
      intro y hy
      obtain ⟨k, _, rfl⟩ := List.mem_map.mp hy
      rfl
    · rw [List.getElem?_map, List.getElem?_eq_getElem hlt]; rfl
    · show (ns[j] == i) = true
      exact hjt
    · have hml : m < ns.length := Nat.lt_trans hm hlt
      rw [List.getElem?_map, List.getElem?_eq_getElem hml] at hz
      cases hz
      show (ns[m] == i) = false
      simpa using hno m hm⟩
end DL
set_option maxHeartbeats 1000000
namespace PySem
/-- an iterator of a list behind its first item -/
theorem dl_walk1 {prog : Program} {w : World} {A : Around} (hh : A.handled = none) (it l : Addr) (hne : l ≠ it) (items : Array Value) (n : Nat) (hn : n + 1 = items.size) :
    WalksS prog w A it [it, l] [it] (fun a b => b = a) n (fun i v => items[i + 1]? = some v) (fun i s => s.heap.IsListIter it l (i + 1) ∧ s.heap.IsList l items) where
  sub := by simp
  grefl := fun _ => rfl
  gtrans := fun a b c h1 h2 => h2.trans h1
  frame := fun i s h' tk st _ k => ⟨st.1.at fun o e => k it (by simp) o e, st.2.at fun o e => k l (by simp) o e⟩
  item := fun i s Q E hi st hQ => wpAny_pyNext_list_item st.1 st.2 (x := items[i + 1]) (by first | (simp; done) | (simp; omega)) fun h' hit' hs' =>
    hQ _ _ (by first | (simp; done) | (simp; omega)) ⟨hit', st.2.extBut hs'.extBut hne⟩ ⟨fun b o hb e => hs'.extBut b o (by simpa using hb) e, rfl, rfl, rfl, Nat.le_refl _⟩
  done := fun s Q E st hQ => wpAny_pyNext_list_end hh st.1 st.2 (by first | (simp; done) | (simp; omega)) fun h' hx => hQ _ ⟨fun b o hb e => hx b o (by simpa using hb) e, rfl, rfl, rfl, Nat.le_refl _⟩
  self := fun i s Q E st h => wpAny_pyIter_listiter st.1 h
theorem dl_unpack1 {prog : Program} {w : World} {A : Around} {E : Value → Shared → Prop} {s : Shared} {l : Addr} {x : Value} {r : List Value} {Q : List Value → Shared → Prop} (hh : A.handled = none) (hl : s.heap.IsList l (x :: r).toArray) (hz : r.length ≤ sizeLine)
    (hQ : ∀ (h' : Heap) (tk : Nat), (∀ b o, s.heap.get? b = some o → h'.get? b = some o) → Q [x, .ref h'.objs.size] { s with heap := h'.push { cls := .type "list", data := .seq r.toArray }, toks := tk }) :
    wpAny (model prog w) A (unpackItems (.ref l) 2 (some 1)) Q E s := by
  have hne : l ≠ s.heap.objs.size := by obtain ⟨o, ho, _⟩ := hl; exact Nat.ne_of_lt (Heap.lt_size ho)
  unfold unpackItems
  refine wpAny_bind ?_
  unfold notIterableAtAll
  refine wpAny_bind (wpAny_specialOf hl.typeIs slot_list_iter.lookup (wpAny_pure ?_))
  simp only [Bool.false_eq_true, if_false]
  refine wpAny_bind (wpAny_holding (wpAny_pyIter_list hl ?_))
  have hl0 : (s.heap.push { cls := .type "list_iterator", data := .fields #[.ref l, .int 0 0] }).IsList l (x :: r).toArray := by
    obtain ⟨o, ho, q⟩ := hl
    exact ⟨o, Heap.get?_push_of_some _ ho, q⟩
  refine wpAny_bind (wpAny_holding ?_)
  show wpAny _ _ (pyNext (.ref s.heap.objs.size) >>= _) _ _ _
  refine wpAny_bind (wpAny_pyNext_list_item (it := s.heap.objs.size) (l := l) (i := 0) (x := x) ⟨_, Heap.get?_push_size _ rfl, rfl, rfl⟩ hl0 (by simp) fun h1 hit1 hs1 => ?_)
  refine wpAny_bind (wpAny_holding ?_)
  show wpAny _ _ (pure []) _ _ _
  refine wpAny_pure (wpAny_pure ?_)
  rw [if_neg (by simp)]
  have hl1 : h1.IsList l (x :: r).toArray := hl0.extBut hs1.extBut hne
  refine wpAny_bind (wpAny_holding (wpAny_collect_iter (T := "list_iterator") (.inr (.inr (.inl rfl))) (dl_walk1 (A := A.in1) (show A.in1.handled = none from hh) s.heap.objs.size l hne (x :: r).toArray r.length (by simp)) (fun i s st => st.1.typeIs) ⟨hit1, hl1⟩ (fun b hb => ?_) (by simp) (fun s' acc mv io => ?_) hz))
  · rcases (by simpa using hb : b = s.heap.objs.size ∨ b = l) with z | z
    · rw [z]; obtain ⟨_, q, _⟩ := hit1; exact Heap.lt_size q
    · rw [z]; obtain ⟨_, q, _⟩ := hl1; exact Heap.lt_size q
  · have ea : acc.toList = r := by
      apply List.ext_getElem?
      intro j
      by_cases hj : j < acc.size
      · have z := io.2 j acc[j] (by simp [hj])
        rw [show acc.toList[j]? = some acc[j] by simp [hj]]
        simpa using z.symm
      · rw [List.getElem?_eq_none (by simpa using hj), List.getElem?_eq_none (by rw [← io.1]; simpa using hj)]
    rw [ea, if_neg (by simp)]
    have e1 : List.take (r.length - (2 - 1 - 1)) r = r := List.take_of_length_le (by omega)
    have e2 : List.drop (r.length - (2 - 1 - 1)) r = [] := List.drop_of_length_le (by omega)
    rw [e1, e2]
    refine wpAny_bind (wpAny_newList (wpAny_pure ?_) hz)
    obtain ⟨h2, g2, d2, t2, o2⟩ := s'
    have eg : g2 = s.gens := mv.gens
    have ed : d2 = s.drawn := mv.drawn
    have eo : o2 = s.os := mv.os
    subst eg ed eo
    exact hQ _ _ fun b o e => mv.heap b o (by simpa using Nat.ne_of_lt (Heap.lt_size e)) (hs1.extBut b o (Nat.ne_of_lt (Heap.lt_size e)) (Heap.get?_push_of_some _ e))
end PySem

namespace DL
open PySem PySem.Spec PyProof.Rows L2
/-! ### first, *rest = a list -/
def gSt1 (K : Fg) (g : TGs) : TG := fun v σ H Q => ∃ a x xs, v = .ref a ∧ SqL K H a (x :: xs) ∧ ∀ p, H p = none → g [x, .ref p] σ (upd H p (.lst xs)) Q
theorem pgs_star {X : Cx} {e : Expr} {g : TG} {p : Pos} (h : PG X e g) (hs : (assignEach [.Starred e p] X.env).map (·.2) = [assign e X.env] := by rfl) : PGs X [.Starred e p] (gCons g gNil) := by
  refine ⟨fun pins s σ H vs us Q I r ⟨v, t, ev, hv⟩ => ?_⟩
  subst ev
  rw [hs]
  cases r with
  | @cons _ u _ ut rv rt =>
    show wpAny _ _ (holding ut (assign e X.env u) >>= fun _ => assignInOrder [] ut) _ _ _
    refine wpAny_bind (wpAny_holding (wpAny_mono (h.run pins s σ H v u _ I rv hv) (fun _ s' ⟨σ', H', I', et, q⟩ => ?_) fun _ _ z => z))
    subst et
    cases rt
    exact wpAny_pure ⟨σ', H', I', q⟩
theorem pg_st1 {X : Cx} {es : List Expr} {k : Nat} {pos : Pos} {g : TGs} (hc : X.calm = true) (h : PGs X es g) (hn : (assignEach es X.env).length = 2 := by rfl) (hst : (assignEach es X.env).findIdx? (·.1) = some 1 := by rfl) : PG X (.Tuple es k pos) (gSt1 X.K g) := by
  refine ⟨fun pins s σ H v u Q I r hw => ?_⟩
  obtain ⟨a, x, xs, e1, hq, hw⟩ := hw
  subst e1
  cases r
  obtain ⟨its, rv, pl, hz⟩ := I.list hq
  rw [PyProof.Rows.assign_Tuple]
  refine wpAny_bind (wpAny_standAt ?_)
  unfold unpack
  rw [hn, hst]
  cases rv with
  | @cons _ ux _ ur rx rr =>
    have lr : ur.length ≤ sizeLine := by rw [← rr.length]; simp at hz; omega
    refine wpAny_bind (wpAny_holding (dl_unpack1 (I.ok.hd hc) pl.isList lr fun h' tk hk => ?_))
    have I1 : Inv X pins σ H { s with heap := h', toks := tk } := I.kept (t' := tk) hk
    have hf : H h'.objs.size = none := I1.hok.fresh (Nat.le_refl _)
    have I2 : Inv X pins σ (upd H h'.objs.size (.lst xs)) { s with heap := h'.push { cls := .type "list", data := .seq ur.toArray }, toks := tk } :=
      I1.laid (t' := tk) (a := h'.objs.size) (o := .lst xs) (h' := h'.push { cls := .type "list", data := .seq ur.toArray }) (fun b u e => Heap.get?_push_of_some _ e) (Nat.le_refl _) ⟨by simp at hz; omega, ur, 0, rr, Heap.get?_push_size _ rfl⟩
    exact h.run pins _ σ _ [x, .ref h'.objs.size] [ux, .ref h'.objs.size] Q I2 (.cons rx (.cons rfl .nil)) (hw _ hf)
def gStD (t : TGsD) : TGD := fun d Xd s M Q => ∃ x r, lsdO d = some (x :: r) ∧ t [x, .lst r] Xd s M Q
theorem dgs_star {X : Cx} {E : XK} {e : Expr} {t : TGD} {p : Pos} (h : DG X E e t) (hs : (assignEach [.Starred e p] X.env).map (·.2) = [assign e X.env] := by rfl) : DGs X E [.Starred e p] 1 (gCo t gNi) := by
  obtain ⟨g1, p1, q1⟩ := h.ok
  obtain ⟨g2, p2, q2⟩ := (dgs_nil (X := X) (E := E)).ok
  refine ⟨gCons g1 gNil, pgs_star p1 hs, fun {vs ds σ H s M Xd Qd Q} S x r t q => ?_⟩
  cases ds with
  | nil => exact t.elim
  | cons d ds =>
    obtain ⟨v, vr, rfl, rd, rr⟩ := r
    cases ds with
    | nil =>
      have ev : vr = [] := rr
      subst ev
      exact ⟨v, [], rfl, q1 S x rd t fun σ' H' hu => ⟨rfl, q σ' H' hu⟩⟩
    | cons d2 ds2 => exact ⟨v, vr, rfl, q1 S x rd t fun σ' H' ⟨s', M', g, S', z⟩ => z.elim⟩
theorem dg_st1 {X : Cx} {E : XK} {es : List Expr} {k : Nat} {pos : Pos} {t : TGsD} (hc : X.calm = true) (h : DGs X E es 2 t) (hn : (assignEach es X.env).length = 2 := by rfl) (hst : (assignEach es X.env).findIdx? (·.1) = some 1 := by rfl) : DG X E (.Tuple es k pos) (gStD t) := by
  obtain ⟨g1, p1, q1⟩ := h.ok
  refine ⟨gSt1 X.K g1, pg_st1 hc p1 hn hst, fun {v d σ H s M Xd Qd Q} S x r ⟨y, rs, hd, t⟩ q => ?_⟩
  obtain ⟨a, rfl, ka⟩ := lsdO_use r hd
  obtain ⟨xs, hq, rx⟩ := ka H M Gw.refl
  obtain ⟨v0, vr, rfl, ry, rr⟩ := rx
  refine ⟨a, v0, vr, rfl, hq, fun p hp => ?_⟩
  have g := gw_new (o := .lst vr) (M := M) hp
  exact q1 (S.grow g (mok_new S.mem hp)) (x.grow g) (Rs.cons (Rv.grow g _ _ ry) (Rs.cons (new_lst S.mem hp rr) Rs.nil)) t (fwdS g q)
end DL
set_option maxHeartbeats 1000000
namespace DL
open PySem PySem.Spec PyProof.Rows L2

section
variable {X : Cx} {E E0' : XK} {n k : Nat} {x : Str} {p pos p2 pos' apos tpos : Pos} {e a b c tg o i value iter elt : Expr} {es : List Expr} {ts : TAD} {te ta tb td tv to ti : TED}
/-! ### list(x), to be changed -/
def listCO : OC := fun ds M Q => match ds with
  | [d] => match itemsO M d with
    | some es => ∀ p, M p = none → Q (.ref p) (M.put p (.lst es))
    | none => False
  | _ => False
theorem dc_listO : DC X (.type "list") listCO := by
  intro pins s σ H M xs ds us Q Qd I mo r rv t q
  unfold listCO at t
  split at t
  · rename_i d
    obtain ⟨v, rfl, rd⟩ := rs1 r
    split at t
    · rename_i es he
      obtain ⟨a, ys, rfl, ha, sa⟩ := items_of mo rd he
      exact call_list_of pins s σ H _ us Q I rv ⟨a, ys, rfl, ha, fun l hl => q _ _ (up_own_lst mo hl sa (t l (m_none mo hl)))⟩
    · exact t.elim
  · exact t.elim

/-! ### xs.reverse() -/
def dRvs (to : TED) : TED := fun Xd s M Q => to Xd s M fun o M1 => match o with
  | .ref p => match M1 p with
    | some (.lst ds) => Q .non (M1.put p (.lst ds.reverse))
    | _ => False
  | _ => False
theorem de_rvs (ho : DE X E o to) (hbase : attributeBase o "reverse" X.env (eval o X.env) = eval o X.env := by rfl)
    (hline : (apos.endLine == pos.line) = true := by rfl) : DE X E (.Call (.Attribute o "reverse" apos) [] [] pos) (dRvs to) :=
  ⟨PE.imp (pe_bm0 PySem.F.plainAttrs_list PySem.F.slot_list_reverse PySem.F.type_list_reverse mt_reverse ho.ok hbase hline) fun σ H Q ⟨s, M, Qd, Xd, S, x, t, q⟩ => by
    refine useE S x t fun od v M1 H1 g1 S1 x1 r1 t1 => ?_
    split at t1
    · rename_i l
      have ev : v = .ref l := r1
      split at t1
      · rename_i ds hm
        obtain ⟨xs, h1, h2⟩ := S1.mem l _ hm
        subst ev
        refine ⟨.inl ⟨rfl, xs, SqL.of h1⟩, l, xs, rfl, rfl, h1, ?_⟩
        exact q _ _ ⟨.non, M1.put l (.lst ds.reverse), g1.trans (gw_put hm), mok_put S1.mem hm ⟨xs.reverse, upd_same, Rs.grow (gw_put hm) _ _ (Rs.reverse h2)⟩, rfl, t1⟩
      · exact t1.elim
    · exact t1.elim⟩

/-! ### xs[i] += e -/
theorem get_list : PGet X (rIxL X.K) := by
  intro pins s σ H x y v u Q I rx ry h
  obtain ⟨p, xs, i, z, rfl, rfl, hq, he, q⟩ := h
  cases rx
  obtain ⟨t, rfl⟩ := ry
  obtain ⟨its, r, pl, hz⟩ := I.list hq
  obtain ⟨j, h1, h2, h3, h4, h5⟩ := atI_get he
  obtain ⟨w, ew, rw'⟩ := r.get h2
  have hl := r.length
  have hn := line63
  have fin : EP X pins σ Q w s := ⟨z, H, I, rw', q⟩
  by_cases h0 : 0 ≤ i
  · have hj : i.toNat = j := by
      rw [seqIndex_of h0 h5] at h1
      exact Option.some.inj h1
    exact wpAny_getItem_list pl.isList h0 (by omega) (by rw [hj]; simpa using ew) fin
  · have hj : (i + (its.toArray.size : Int)).toNat = j := by
      rw [seqIndex_neg (by omega) h4] at h1
      rw [List.size_toArray, ← hl]
      exact Option.some.inj h1
    exact wpAny_getItem_list_neg pl.isList (by omega) (by rw [List.size_toArray] <;> omega) (by omega) (by rw [hj]; simpa using ew) fin
/-- the list at an owned place -/
def augK (f : Int → Int → Int) (te : TED) (Y : EndsD) (s : SD) (o i : D) : Mem → Prop := fun M => match o, i with
  | .ref p, .int z => match M p with
    | some (.lst ds) => match atI ds z with
      | some (.int u) => te Y.ex s M fun y M1 => match y with
        | .int w => setK (.ref p) (.int z) (.int (f u w)) (fun M2 => Y.nx s M2) M1
        | _ => False
      | _ => False
    | _ => False
  | _, _ => False
def sAugS (f : Int → Int → Int) (to ti te : TED) : TSD := fun Y s M => to Y.ex s M fun o M1 => ti Y.ex s M1 fun i M2 => augK f te Y s o i M2
theorem ds_augS {op : Operator} {f : Int → Int → Int} (hp : PIp X op (ipI f)) (hu : X.A.units + 1 < cLine) (ho : DE X E o to) (hi : DE X E i ti) (he : DE X E e te)
    (ha : ∀ ov iv new, augStore i ov iv new = (do holding [new, ov, iv] (setItem ov iv new); release [new, ov, iv] []; pure .next) := by intros; rfl) : DS X E (.AugAssign (.Subscript o i tpos) op e pos) (sAugS f to ti te) :=
  ⟨PS.imp (ps_augS ho.ok hi.ok get_list he.ok hp (set_any hu) ha) fun Z σ H ⟨s, M, Y, S, x, t, h⟩ => by
    refine useE S x t fun od ov M1 H1 g1 S1 x1 r1 t1 => ?_
    refine useE S1 x1 t1 fun idd iv M2 H2 g2 S2 x2 r2 t2 => ?_
    unfold augK at t2
    split at t2
    · rename_i p z
      have eo : ov = .ref p := r1
      have ei : iv = .int z := r2
      split at t2
      · rename_i ds hm
        obtain ⟨xs, h1, h2⟩ := S2.mem p _ hm
        split at t2
        · rename_i u hu'
          obtain ⟨w, hw, rw'⟩ := atI_rs h2 hu'
          refine ⟨p, xs, z, w, eo, ei, SqL.of h1, hw, ?_⟩
          refine useE S2 x2 t2 fun yd y M3 H3 g3 S3 x3 r3 t3 => ?_
          split at t3
          · rename_i w2
            refine ⟨u, w2, rw', r3, ?_⟩
            refine setK_ok (H0 := H3) (M0 := M3) (do_ := .ref p) (di := .int z) (dv := .int (f u w2)) S3.mem eo ei rfl t3 fun H4 M4 g4 m4 t4 => ?_
            exact h.1 _ _ ⟨s, M4, ((g1.trans g2).trans g3).trans g4, S3.grow g4 m4, t4⟩
          · exact t3.elim
        · exact t2.elim
      · exact t2.elim
    · exact t2.elim⟩
/-! ### x += e of an int -/
def augN (i : Nat) (f : Int → Int → Int) (Y : EndsD) (s : SD) (u : Int) : QD := fun y M => match y with
  | .int w => Y.nx (s.set i (some (.int (f u w)))) M
  | _ => False
def sAug (i : Nat) (f : Int → Int → Int) (te : TED) : TSD := fun Y s M => match s[i]? with
  | some (some (.int u)) => te Y.ex s M (augN i f Y s u)
  | _ => False
theorem ds_aug {i : Nat} {x : Str} {op : Operator} {f : Int → Int → Int} {pos' : Pos} (hp : PIp X op (ipI f)) (hN : X.N.Nodup) (hi : X.N[i]? = some x) (hx : Loc X.env.scope x) (he : DE X E e te) (hf : X.fn x = true ∨ X.env.scope.names.lookup x = some .local := by first | exact .inl rfl | exact .inr rfl | assumption) :
    DS X E (.AugAssign (.Name x pos') op e pos) (sAug i f te) :=
  ⟨PS.imp (ps_aug hN hi hx he.ok hp hf) fun Z σ H ⟨s, M, Y, S, x, t, h⟩ => by
    unfold sAug at t
    split at t
    · rename_i u hu
      obtain ⟨v, e1, e2⟩ := S.sl i _ hu
      refine ⟨v, e1, ?_⟩
      refine useE S x t fun yd y M1 H1 g1 S1 x1 r1 t1 => ?_
      unfold augN at t1
      split at t1
      · rename_i w
        exact ⟨u, w, e2, r1, h.1 _ _ ⟨_, M1, g1, S1.set i (d := .int (f u w)) (v := .int (f u w)) rfl, t1⟩⟩
      · exact t1.elim
    · exact t.elim⟩
end

/-! ### freezing within a tuple -/
theorem rs_setf {K : Fg} {H : Hp} {M : Mem} {a : Addr} {ds : List D} {xs : List V} (h1 : H a = some (.lst xs)) (h2 : Rs K H (M.del a) ds xs) : ∀ {ts : List D} {vs : List V} {i : Nat}, Rs K H (M.del a) ts vs → ts[i]? = some (.ref a) → Rs K H (M.del a) (ts.set i (.lst ds)) vs
  | [], _, _, _, e => by simp at e
  | t :: ts, _, 0, ⟨v, r, rfl, q, w⟩, e => by
    simp at e; subst e
    exact Rs.cons ⟨a, xs, q, h1, Mem.del_same, h2⟩ w
  | t :: ts, _, i + 1, ⟨v, r, rfl, q, w⟩, e => Rs.cons q (rs_setf h1 h2 w (by simpa using e))
theorem lo_frzT {Q : QD} {M : Mem} {a : Addr} {ds ts : List D} (i : Nat) (hi : ts[i]? = some (.ref a)) (e : M a = some (.lst ds)) (h : Lo Q (.tup (ts.set i (.lst ds))) (M.del a)) : Lo Q (.tup ts) M := by
  obtain ⟨d2, M2, l, q⟩ := h
  have hs : ∀ b o, (M.del a) b = some o → M b = some o := fun b o e => by
    by_cases z : b = a
    · subst z; rw [Mem.del_same] at e; cases e
    · rw [Mem.del_ne z] at e; exact e
  have hn : ∀ b, M b = none → (M.del a) b = none := fun b e => by
    by_cases z : b = a
    · subst z; exact Mem.del_same
    · rw [Mem.del_ne z]; exact e
  refine ⟨d2, M2, ⟨fun b o e => hs b o (l.sub b o e), fun b e => l.nn b (hn b e), fun K H v mo r => ?_⟩, q⟩
  obtain ⟨xs, h1, h2⟩ := mo a _ e
  obtain ⟨p, vs, rfl, rt, rs⟩ := r
  have mo2 := mok_less hs hn mo
  refine l.rv K H _ mo2 ⟨p, vs, rfl, (gw_less hn).rt rt, rs_setf h1 (Rs.grow (gw_less hn) ds xs h2) (Rs.grow (gw_less hn) _ _ rs) hi⟩

/-! ### a comprehension whose list will be changed -/
section
variable {X : Cx} {E : XK} {n k : Nat} {x : Str} {p pos p2 pos' apos tpos : Pos} {e a b c tg : Expr} {es : List Expr} {ts : TAD} {te ta tb td tv to : TED}
def endKO (p : Addr) (Q : QD) : Mem → Prop := fun M => match M p with
  | some (.lst acc) => Q (.ref p) M
  | _ => False
def dLcLO (g : TGD) (tt : TTD) (te : TED) (s0 : SD) (W : Mem → Prop) (p : Addr) (Q : QD) : List D → Mem → Prop
  | [], M => W M ∧ endKO p Q M
  | d :: ds, M => W M ∧ g d X0 s0 M fun s' M' => tt X0 s' M' fun b M2 => if b = true then te X0 s' M2 (fun r => accK p r (dLcLO g tt te s0 W p Q ds)) else dLcLO g tt te s0 W p Q ds M2
def dLcO (ti : TID) (g : TGD) (tt : TTD) (te : TED) (vs : List Nat) : TED := fun Xd s M Q => ti Xd s M fun ds ow M1 => ∀ p, M1 p = none → dLcLO g tt te (wipeD s vs) (wat ow M1) p Q ds (M1.put p (.lst []))
theorem lift_lcO {J : It} {ow : Option Addr} {g : TGD} {g1 : TG} {tt : TTD} {Y : Cx} {vs : List Nat} {σ : L2.St} {s : SD} {H0 H1 : Hp} {M0 M1 : Mem} {ds : List D} {Qd : QD} {Q : VK} {p : Addr} (hK : Y.K = X.K)
    (q1 : ∀ {v : V} {d : D} {σ : L2.St} {H : Hp} {s : SD} {M : Mem} {Xd : XD} {Qd : SD → Mem → Prop} {Q : L2.St → Hp → Prop}, StOk X.K σ H s M → XTo X.K H M Xd E0 → Rv X.K H M d v → g d Xd s M Qd →
      (∀ σ' H', upS X.K H M Qd σ' H' → L2.wipe σ' vs = L2.wipe σ vs → Q σ' H') → g1 v σ H Q)
    (S : StOk X.K σ H1 s M1) (io : ItOk X.K J H1 M1 ow ds) (hp : H1 p = none) (td : dLcLO g tt te (wipeD s vs) (wat ow M1) p Qd ds (M1.put p (.lst []))) (g0 : Gw H0 M0 H1 M1) (q : ∀ v H', upE X.K H0 M0 Qd v H' → Q v H') :
    ∃ W : Nat → Nat → Hp → Prop, (∃ m, W 0 m (upd H1 p (.lst []))) ∧ ∀ i m H, W i m H →
      (J.stop i H ∧ Q (.ref p) H) ∨ (J.go i H ∧ ∃ Nx : Hp → Prop, (∀ H', Nx H' → ∃ m', m' < m ∧ W (i + 1) m' H') ∧ ∀ x H', J.yld i H x H' → g1 x (L2.wipe σ vs) H' fun σ2 H2 => L2.wipe σ2 vs = L2.wipe σ vs ∧ liftT X.K E0 tt σ2 H2 fun b H3 =>
        if b = true then liftE X.K E0 te σ2 H3 fun y H4 => ∃ acc, H4 p = some (.lst acc) ∧ acc.length < sizeLine ∧ Nx (upd H4 p (.lst (acc ++ [y]))) else Nx H3) := by
  have ew : ∀ σ2 : L2.St, L2.wipe σ2 vs = L2.wipe (L2.wipe σ vs) vs → L2.wipe σ2 vs = L2.wipe σ vs := fun σ2 e => by rw [e, wipe_wipe]
  have S0 : StOk X.K (L2.wipe σ vs) H1 (wipeD s vs) M1 := S.wipe vs
  have gp : Gw H1 M1 (upd H1 p (.lst [])) (M1.put p (.lst [])) := gw_own hp
  have mp : MOk X.K (upd H1 p (.lst [])) (M1.put p (.lst [])) := mok_own S.mem hp (show MObj X.K (upd H1 p (.lst [])) (M1.put p (.lst [])) p (.lst []) from ⟨[], upd_same, rfl⟩)
  refine ⟨fun i m H => m = ds.length - i ∧ i ≤ ds.length ∧ ∃ M, Gw H1 M1 H M ∧ MOk X.K H M ∧ dLcLO g tt te (wipeD s vs) (wat ow M1) p Qd (ds.drop i) M, ⟨ds.length, rfl, Nat.zero_le _, M1.put p (.lst []), gp, mp, td⟩, fun i m H hW => ?_⟩
  obtain ⟨em, hi', M, gM, mo, td'⟩ := hW
  by_cases hlt : i < ds.length
  · rw [List.drop_eq_getElem_cons hlt] at td'
    obtain ⟨hw, td'⟩ := td'
    obtain ⟨hgo, hy⟩ := io.go i H M gM mo (wat_of hw) hlt
    have back : ∀ H2 M2, Gw H1 M1 H2 M2 → MOk X.K H2 M2 → dLcLO g tt te (wipeD s vs) (wat ow M1) p Qd (ds.drop (i + 1)) M2 → ∃ m', m' < m ∧ (m' = ds.length - (i + 1) ∧ i + 1 ≤ ds.length ∧ ∃ M, Gw H1 M1 H2 M ∧ MOk X.K H2 M ∧ dLcLO g tt te (wipeD s vs) (wat ow M1) p Qd (ds.drop (i + 1)) M) :=
      fun H2 M2 a1 a2 a3 => ⟨ds.length - (i + 1), by omega, rfl, by omega, M2, a1, a2, a3⟩
    refine .inr ⟨hgo, fun H2 => ∃ M2, Gw H1 M1 H2 M2 ∧ MOk X.K H2 M2 ∧ dLcLO g tt te (wipeD s vs) (wat ow M1) p Qd (ds.drop (i + 1)) M2, fun H2 ⟨M2, a1, a2, a3⟩ => back H2 M2 a1 a2 a3, fun v H2 hyl => ?_⟩
    obtain ⟨d, hd, g2, m2, r2⟩ := hy v H2 hyl
    have ed : d = ds[i] := by rw [List.getElem?_eq_getElem hlt] at hd; exact (Option.some.inj hd).symm
    subst ed
    have S2 : StOk X.K (L2.wipe σ vs) H2 (wipeD s vs) M := S0.grow (gM.trans g2) m2
    refine q1 S2 x0_to r2 td' fun σ3 H3 ⟨s3, M3, g3, S3, z3⟩ e3 => ⟨ew σ3 e3, ?_⟩
    refine useT S3 x0_to z3 fun bb M4 H4 g4 S4 x4 z4 => ?_
    have gg : Gw H1 M1 H4 M4 := ((gM.trans g2).trans g3).trans g4
    cases bb with
    | false =>
      rw [if_neg Bool.false_ne_true] at z4 ⊢
      exact ⟨M4, gg, S4.mem, z4⟩
    | true =>
      rw [if_pos rfl] at z4 ⊢
      refine useE S4 x4 z4 fun r y M5 H5 g5 S5 x5 r5 z5 => ?_
      unfold accK at z5
      split at z5
      · rename_i acc hacc
        obtain ⟨xs, h1, h2⟩ := S5.mem p _ hacc
        refine ⟨xs, h1, by rw [vlen h2]; exact z5.1, M5.put p (.lst (acc ++ [r])), (gg.trans g5).trans (gw_put hacc), mok_put S5.mem hacc ?_, z5.2⟩
        exact ⟨xs ++ [y], upd_same, Rs.grow (gw_put hacc) _ _ (Rs.append h2 (Rs.cons r5 Rs.nil))⟩
      · exact z5.elim
  · have e : i = ds.length := by omega
    subst e
    rw [List.drop_length] at td'
    obtain ⟨hw, td'⟩ := td'
    refine .inl ⟨io.stop H M gM mo (wat_of hw), ?_⟩
    unfold endKO at td'
    split at td'
    · rename_i acc hacc
      obtain ⟨xs, h1, h2⟩ := mo p _ hacc
      exact q _ _ ⟨.ref p, M, g0.trans gM, mo, rfl, td'⟩
    · exact td'.elim
theorem de_lcO {elt iter : Expr} {ifs : List Expr} {scope : Scope} {own : List (Str × Nat)} {ti : TID} {g : TGD} {tt : TTD} (hc : X.calm = true) (hN : X.N.Nodup) (hi : DI X E tg iter ti) (ok : BlkOk X.N X.env.scope scope own) (g1 : TG)
    (hg : ∀ (s : Shared) (H : Hp) (C : Addr) (cl : List (Str × Addr)) (fp : List Addr), PG (X.blk s H scope (compEnvC scope cl C X.env) fp) tg g1)
    (hq : ∀ {v : V} {d : D} {σ : L2.St} {H : Hp} {s : SD} {M : Mem} {Xd : XD} {Qd : SD → Mem → Prop} {Q : L2.St → Hp → Prop}, StOk X.K σ H s M → XTo X.K H M Xd E0 → Rv X.K H M d v → g d Xd s M Qd →
      (∀ σ' H', upS X.K H M Qd σ' H' → L2.wipe σ' (own.map (·.2)) = L2.wipe σ (own.map (·.2)) → Q σ' H') → g1 v σ H Q)
    (ht : ∀ (s : Shared) (H : Hp) (C : Addr) (cl : List (Str × Addr)) (fp : List Addr), DTs (X.blk s H scope (compEnvC scope cl C X.env) fp) E0 ifs tt)
    (he : ∀ (s : Shared) (H : Hp) (C : Addr) (cl : List (Str × Addr)) (fp : List Addr), DE (X.blk s H scope (compEnvC scope cl C X.env) fp) E0 elt te) (hs : ∀ x, foldedSetIterable iter X.env x = pure x := by intro _; rfl) :
    DE X E (.ListComp elt [⟨tg, iter, ifs, 0⟩] scope pos) (dLcO ti g tt te (own.map (·.2))) := by
  obtain ⟨wi, pi, qi⟩ := hi.ok
  refine ⟨PE.imp (pe_lc (tt := liftT X.K E0 tt) (te := liftE X.K E0 te) hc hN pi ok hg (fun s H C cl fp => (ht s H C cl fp).ok) (fun s H C cl fp => (he s H C cl fp).ok) hs) fun σ H Q ⟨s, M, Qd, Xd, S, x, t, q⟩ => ?_⟩
  refine qi S x t fun J H1 M1 ow ds gr mo io td p hp => ?_
  exact lift_lcO (Y := X) rfl hq (S.grow gr mo) io hp (td p (m_none mo hp)) gr q
theorem ds_setLcO {i : Nat} {y : Str} {py spos : Pos} {elt iter : Expr} {ifs : List Expr} {scope : Scope} {own : List (Str × Nat)} {ti : TID} {g : TGD} {tt : TTD} (hc : X.calm = true) (hN : X.N.Nodup) (hy : X.N[i]? = some y) (hyl : X.env.scope.names.lookup y = some .local)
    (hsw : swapsWith (.ListComp elt [⟨tg, iter, ifs, 0⟩] scope pos) (some (.Name y py)) spos.line X.env = pure true) (hi : DI X E tg iter ti) (ok : BlkOk X.N X.env.scope scope own) (g1 : TG)
    (hg : ∀ (s : Shared) (H : Hp) (C : Addr) (cl : List (Str × Addr)) (fp : List Addr), PG (X.blk s H scope (compEnvC scope cl C X.env) fp) tg g1)
    (hq : ∀ {v : V} {d : D} {σ : L2.St} {H : Hp} {s : SD} {M : Mem} {Xd : XD} {Qd : SD → Mem → Prop} {Q : L2.St → Hp → Prop}, StOk X.K σ H s M → XTo X.K H M Xd E0 → Rv X.K H M d v → g d Xd s M Qd →
      (∀ σ' H', upS X.K H M Qd σ' H' → L2.wipe σ' (own.map (·.2)) = L2.wipe σ (own.map (·.2)) → Q σ' H') → g1 v σ H Q)
    (ht : ∀ (s : Shared) (H : Hp) (C : Addr) (cl : List (Str × Addr)) (fp : List Addr), DTs (X.blk s H scope (compEnvC scope cl C X.env) fp) E0 ifs tt)
    (he : ∀ (s : Shared) (H : Hp) (C : Addr) (cl : List (Str × Addr)) (fp : List Addr), DE (X.blk s H scope (compEnvC scope cl C X.env) fp) E0 elt te) (hs : ∀ x, foldedSetIterable iter X.env x = pure x := by intro _; rfl) :
    DS X E (.Assign [.Name y py] (.ListComp elt [⟨tg, iter, ifs, 0⟩] scope pos) spos) (sSet i (dLcO ti g tt te (own.map (·.2)))) := by
  obtain ⟨wi, pi, qi⟩ := hi.ok
  refine ⟨PS.imp (ps_setLc (tt := liftT X.K E0 tt) (te := liftE X.K E0 te) hc hN hy hyl hsw pi ok hg (fun s H C cl fp => (ht s H C cl fp).ok) (fun s H C cl fp => (he s H C cl fp).ok) hs) fun Z σ H ⟨s, M, Y, S, x, t, h⟩ => ?_⟩
  refine qi S x t fun J H1 M1 ow ds gr mo io td p hp => ?_
  refine lift_lcO (Y := X) (Q := fun v H' => Z.nx (σ.set i (some v)) H') rfl hq (S.grow gr mo) io hp (td p (m_none mo hp)) gr fun v H' ⟨d, M', g, m, r, z⟩ => ?_
  exact h.1 _ _ ⟨s.set i (some d), M', g, (S.grow g m).set i r, z⟩
theorem de_compO {elt iter : Expr} {ifs : List Expr} {scope : Scope} (own : List (Str × Nat)) {ti : TID} {g : TGD} {tt : TTD} (g1 : TG) (hc : X.calm = true) (hN : X.N.Nodup) (hi : DI X E tg iter ti) (ok : BlkOk X.N X.env.scope scope own)
    (hg : ∀ (s : Shared) (H : Hp) (C : Addr) (cl : List (Str × Addr)) (fp : List Addr), PG (X.blk s H scope (compEnvC scope cl C X.env) fp) tg g1) (hq : GV X.K (own.map (·.2)) g g1)
    (ht : ∀ (s : Shared) (H : Hp) (C : Addr) (cl : List (Str × Addr)) (fp : List Addr), DTs (X.blk s H scope (compEnvC scope cl C X.env) fp) E0 ifs tt)
    (he : ∀ (s : Shared) (H : Hp) (C : Addr) (cl : List (Str × Addr)) (fp : List Addr), DE (X.blk s H scope (compEnvC scope cl C X.env) fp) E0 elt te) (hs : ∀ x, foldedSetIterable iter X.env x = pure x := by intro _; rfl) :
    DE X E (.ListComp elt [⟨tg, iter, ifs, 0⟩] scope pos) (dLcO ti g tt te (own.map (·.2))) := de_lcO hc hN hi ok g1 hg hq ht he hs
theorem ds_setCompO {i : Nat} {y : Str} {py spos : Pos} {elt iter : Expr} {ifs : List Expr} {scope : Scope} (own : List (Str × Nat)) {ti : TID} {g : TGD} {tt : TTD} (g1 : TG) (hc : X.calm = true) (hN : X.N.Nodup) (hy : X.N[i]? = some y) (hyl : X.env.scope.names.lookup y = some .local)
    (hsw : swapsWith (.ListComp elt [⟨tg, iter, ifs, 0⟩] scope pos) (some (.Name y py)) spos.line X.env = pure true) (hi : DI X E tg iter ti) (ok : BlkOk X.N X.env.scope scope own)
    (hg : ∀ (s : Shared) (H : Hp) (C : Addr) (cl : List (Str × Addr)) (fp : List Addr), PG (X.blk s H scope (compEnvC scope cl C X.env) fp) tg g1) (hq : GV X.K (own.map (·.2)) g g1)
    (ht : ∀ (s : Shared) (H : Hp) (C : Addr) (cl : List (Str × Addr)) (fp : List Addr), DTs (X.blk s H scope (compEnvC scope cl C X.env) fp) E0 ifs tt)
    (he : ∀ (s : Shared) (H : Hp) (C : Addr) (cl : List (Str × Addr)) (fp : List Addr), DE (X.blk s H scope (compEnvC scope cl C X.env) fp) E0 elt te) (hs : ∀ x, foldedSetIterable iter X.env x = pure x := by intro _; rfl) :
    DS X E (.Assign [.Name y py] (.ListComp elt [⟨tg, iter, ifs, 0⟩] scope pos) spos) (sSet i (dLcO ti g tt te (own.map (·.2)))) := ds_setLcO hc hN hy hyl hsw hi ok g1 hg hq ht he hs
end
end DL
set_option maxHeartbeats 4000000
namespace G_madeofhere_k04_whole_counts
open PySem PySem.Spec PyProof.Rows L2 DL
def N_is_rule : List Str := ["value", "share", "up", "down"]
def Bis_rule : TSD := sSeq (sIf (tOrD (tNotD (dTru (dCB isiC (dCons (dVar 0) (dCons (dC (.ty "tuple")) (dNil)))))) (dTst (dOp neD (dCB lenC (dCons (dVar 0) (dNil))) (dC (.int 3))))) (sRet (dC (.bl false))) (sNx)) (sSeq (sAsg (dVar 0) (gTp 3 (gCo (gNm 1) (gCo (gNm 2) (gCo (gNm 3) (gNi)))))) (sSeq (sIf (tOrD (tNotD (dTru (dCB isiC (dCons (dVar 1) (dCons (dC (.ty "int")) (dNil)))))) (tOrD (dTru (dCB isiC (dCons (dVar 1) (dCons (dC (.ty "bool")) (dNil))))) (tNotD (dTst (dChain leD leD (dC (.int 0)) (dVar 1) (dC (.int 100))))))) (sRet (dC (.bl false))) (sNx)) (sSeq (sIf (tOrD (tNotD (dTru (dCB isiC (dCons (dVar 2) (dCons (dC (.ty "str")) (dNil)))))) (tNotD (dTru (dCB isiC (dCons (dVar 3) (dCons (dC (.ty "str")) (dNil))))))) (sRet (dC (.bl false))) (sNx)) (sRet (dAnd (dOr (dOp eqD (dVar 2) (dC (.str "whole"))) (dOp eqD (dVar 2) (dC (.str "own")))) (dOr (dOp eqD (dVar 3) (dC (.str "own"))) (dOp eqD (dVar 3) (dC (.str "none")))))))))
def Wis_rule : SpD := bodyD Bis_rule N_is_rule
theorem Eis_rule {a0 : D} {M : Mem} {Q : QD} {Xd : XD} (h : (sSeq (sIf (tOrD (tNotD (dTru (dCB isiC (dCons (dVar 0) (dCons (dC (.ty "tuple")) (dNil)))))) (dTst (dOp neD (dCB lenC (dCons (dVar 0) (dNil))) (dC (.int 3))))) (sRet (dC (.bl false))) (sNx)) (sSeq (sAsg (dVar 0) (gTp 3 (gCo (gNm 1) (gCo (gNm 2) (gCo (gNm 3) (gNi)))))) (sSeq (sIf (tOrD (tNotD (dTru (dCB isiC (dCons (dVar 1) (dCons (dC (.ty "int")) (dNil)))))) (tOrD (dTru (dCB isiC (dCons (dVar 1) (dCons (dC (.ty "bool")) (dNil))))) (tNotD (dTst (dChain leD leD (dC (.int 0)) (dVar 1) (dC (.int 100))))))) (sRet (dC (.bl false))) (sNx)) (sSeq (sIf (tOrD (tNotD (dTru (dCB isiC (dCons (dVar 2) (dCons (dC (.ty "str")) (dNil)))))) (tNotD (dTru (dCB isiC (dCons (dVar 3) (dCons (dC (.ty "str")) (dNil))))))) (sRet (dC (.bl false))) (sNx)) (sRet (dAnd (dOr (dOp eqD (dVar 2) (dC (.str "whole"))) (dOp eqD (dVar 2) (dC (.str "own")))) (dOr (dOp eqD (dVar 3) (dC (.str "own"))) (dOp eqD (dVar 3) (dC (.str "none")))))))))) ⟨fun _ M' => Lo Q .non M', Lo Q, fun _ _ => False, fun _ _ => False, Xd⟩ [some a0, none, none, none] M) : Wis_rule [a0] M Q Xd := h
def N__need_bounds : List Str := ["number", "land", "low", "high"]
def B_need_bounds : TSD := sSeq (sIf (tOrD (tNotD (dTru (dCB isiC (dCons (dVar 1) (dCons (dC (.ty "str")) (dNil)))))) (tAndD (dTst (dOp neD (dVar 1) (dC (.str "here")))) (dTst (dOp neD (dVar 1) (dC (.str "away")))))) (sNever) (sNx)) (sSeq (sIf (tOrD (tNotD (dTru (dCB isiC (dCons (dVar 2) (dCons (dC (.ty "int")) (dNil)))))) (tOrD (dTru (dCB isiC (dCons (dVar 2) (dCons (dC (.ty "bool")) (dNil))))) (tNotD (dTst (dChain leD leD (dC (.int 0)) (dVar 2) (dC (.int 1000000))))))) (sNever) (sNx)) (sIf (tOrD (tNotD (dTru (dCB isiC (dCons (dVar 3) (dCons (dC (.ty "int")) (dNil)))))) (tOrD (dTru (dCB isiC (dCons (dVar 3) (dCons (dC (.ty "bool")) (dNil))))) (tNotD (dTst (dChain leD leD (dVar 2) (dVar 3) (dC (.int 1000000))))))) (sNever) (sNx)))
def W_need_bounds : SpD := bodyD B_need_bounds N__need_bounds
theorem E_need_bounds {a0 a1 a2 a3 : D} {M : Mem} {Q : QD} {Xd : XD} (h : (sSeq (sIf (tOrD (tNotD (dTru (dCB isiC (dCons (dVar 1) (dCons (dC (.ty "str")) (dNil)))))) (tAndD (dTst (dOp neD (dVar 1) (dC (.str "here")))) (dTst (dOp neD (dVar 1) (dC (.str "away")))))) (sNever) (sNx)) (sSeq (sIf (tOrD (tNotD (dTru (dCB isiC (dCons (dVar 2) (dCons (dC (.ty "int")) (dNil)))))) (tOrD (dTru (dCB isiC (dCons (dVar 2) (dCons (dC (.ty "bool")) (dNil))))) (tNotD (dTst (dChain leD leD (dC (.int 0)) (dVar 2) (dC (.int 1000000))))))) (sNever) (sNx)) (sIf (tOrD (tNotD (dTru (dCB isiC (dCons (dVar 3) (dCons (dC (.ty "int")) (dNil)))))) (tOrD (dTru (dCB isiC (dCons (dVar 3) (dCons (dC (.ty "bool")) (dNil))))) (tNotD (dTst (dChain leD leD (dVar 2) (dVar 3) (dC (.int 1000000))))))) (sNever) (sNx)))) ⟨fun _ M' => Lo Q .non M', Lo Q, fun _ _ => False, fun _ _ => False, Xd⟩ [some a0, some a1, some a2, some a3] M) : W_need_bounds [a0, a1, a2, a3] M Q Xd := h
def N__need_making : List Str := ["number", "rule", "parts"]
def B_need_making : TSD := sSeq (sIf (tNotD (dTru (dCall Wis_rule [] (dCons (dVar 1) (dNil))))) (sNever) (sNx)) (sIf (tOrD (tNotD (dTru (dCB isiC (dCons (dVar 2) (dCons (dC (.ty "tuple")) (dNil)))))) (tNotD (dTst (dChain leD leD (dC (.int 1)) (dCB lenC (dCons (dVar 2) (dNil))) (dC (.int 4)))))) (sNever) (sNx))
def W_need_making : SpD := bodyD B_need_making N__need_making
theorem E_need_making {a0 a1 a2 : D} {M : Mem} {Q : QD} {Xd : XD} (h : (sSeq (sIf (tNotD (dTru (dCall Wis_rule [] (dCons (dVar 1) (dNil))))) (sNever) (sNx)) (sIf (tOrD (tNotD (dTru (dCB isiC (dCons (dVar 2) (dCons (dC (.ty "tuple")) (dNil)))))) (tNotD (dTst (dChain leD leD (dC (.int 1)) (dCB lenC (dCons (dVar 2) (dNil))) (dC (.int 4)))))) (sNever) (sNx))) ⟨fun _ M' => Lo Q .non M', Lo Q, fun _ _ => False, fun _ _ => False, Xd⟩ [some a0, some a1, some a2] M) : W_need_making [a0, a1, a2] M Q Xd := h
def N__look_at : List Str := ["thing", "whole", "found", "wholes", "made", "moving", "number", "word", "is_step", "parts", "_", "land", "low", "high", "rule", "part"]
def B_look_at (self : SpD) : TSD := sSeq (sSet 6 (dCB lenC (dCons (dVar 2) (dNil)))) (sSeq (sSet 7 (dIte (tAndD (dTru (dCB isiC (dCons (dVar 0) (dCons (dC (.ty "tuple")) (dNil))))) (dTst (dOp gtD (dCB lenC (dCons (dVar 0) (dNil))) (dC (.int 0))))) (dOp ixD (dVar 0) (dC (.int 0))) (dC .non))) (sSeq (sSet 8 (dAnd (dCB isiC (dCons (dVar 7) (dCons (dC (.ty "str")) (dNil)))) (dOp eqD (dVar 7) (dC (.str "made"))))) (sSeq (sIf (dTru (dVar 8)) (sExpr (dApp (dVar 4) (dVar 6))) (sNx)) (sSeq (sIf (tOrD (dTst (dOp eqD (dVar 6) (dC (.int 10)))) (dTst (dOp gtD (dCB lenC (dCons (dVar 4) (dNil))) (dC (.int 4))))) (sNever) (sNx)) (sSeq (sSet 9 (dTup (dNil))) (sSeq (sIf (tAndD (dTru (dVar 8)) (dTst (dOp eqD (dCB lenC (dCons (dVar 0) (dNil))) (dC (.int 6))))) (sSeq (sAsg (dVar 0) (gTp 6 (gCo (gNm 10) (gCo (gNm 11) (gCo (gNm 12) (gCo (gNm 13) (gCo (gNm 14) (gCo (gNm 9) (gNi))))))))) (sSeq (sExpr (dCall W_need_bounds [] (dCons (dVar 6) (dCons (dVar 11) (dCons (dVar 12) (dCons (dVar 13) (dNil))))))) (sExpr (dCall W_need_making [] (dCons (dVar 6) (dCons (dVar 14) (dCons (dVar 9) (dNil)))))))) (sIf (tAndD (dTru (dCB isiC (dCons (dVar 7) (dCons (dC (.ty "str")) (dNil))))) (tAndD (dTst (dOp eqD (dVar 7) (dC (.str "raw")))) (dTst (dOp eqD (dCB lenC (dCons (dVar 0) (dNil))) (dC (.int 4)))))) (sSeq (sAsg (dVar 0) (gTp 4 (gCo (gNm 10) (gCo (gNm 11) (gCo (gNm 12) (gCo (gNm 13) (gNi))))))) (sExpr (dCall W_need_bounds [] (dCons (dVar 6) (dCons (dVar 11) (dCons (dVar 12) (dCons (dVar 13) (dNil)))))))) (sNever))) (sSeq (sExpr (dApp (dVar 2) (dVar 0))) (sSeq (sExpr (dApp (dVar 3) (dVar 1))) (sSeq (sIf (dTst (dOp ltD (dVar 12) (dVar 13))) (sExpr (dApp (dVar 5) (dVar 6))) (sNx)) (sFor (iSeqD (dVar 9)) (gNm 15) (sExpr (dCall self [] (dCons (dVar 15) (dCons (dVar 6) (dCons (dVar 2) (dCons (dVar 3) (dCons (dVar 4) (dCons (dVar 5) (dNil)))))))))))))))))))
def W_look_at : Nat → SpD
  | 0 => fun _ _ _ _ => False
  | n + 1 => bodyD (B_look_at (W_look_at n)) N__look_at
theorem E_look_at {a0 a1 a2 a3 a4 a5 : D} {n : Nat} {M : Mem} {Q : QD} {Xd : XD} (h : (sSeq (sSet 6 (dCB lenC (dCons (dVar 2) (dNil)))) (sSeq (sSet 7 (dIte (tAndD (dTru (dCB isiC (dCons (dVar 0) (dCons (dC (.ty "tuple")) (dNil))))) (dTst (dOp gtD (dCB lenC (dCons (dVar 0) (dNil))) (dC (.int 0))))) (dOp ixD (dVar 0) (dC (.int 0))) (dC .non))) (sSeq (sSet 8 (dAnd (dCB isiC (dCons (dVar 7) (dCons (dC (.ty "str")) (dNil)))) (dOp eqD (dVar 7) (dC (.str "made"))))) (sSeq (sIf (dTru (dVar 8)) (sExpr (dApp (dVar 4) (dVar 6))) (sNx)) (sSeq (sIf (tOrD (dTst (dOp eqD (dVar 6) (dC (.int 10)))) (dTst (dOp gtD (dCB lenC (dCons (dVar 4) (dNil))) (dC (.int 4))))) (sNever) (sNx)) (sSeq (sSet 9 (dTup (dNil))) (sSeq (sIf (tAndD (dTru (dVar 8)) (dTst (dOp eqD (dCB lenC (dCons (dVar 0) (dNil))) (dC (.int 6))))) (sSeq (sAsg (dVar 0) (gTp 6 (gCo (gNm 10) (gCo (gNm 11) (gCo (gNm 12) (gCo (gNm 13) (gCo (gNm 14) (gCo (gNm 9) (gNi))))))))) (sSeq (sExpr (dCall W_need_bounds [] (dCons (dVar 6) (dCons (dVar 11) (dCons (dVar 12) (dCons (dVar 13) (dNil))))))) (sExpr (dCall W_need_making [] (dCons (dVar 6) (dCons (dVar 14) (dCons (dVar 9) (dNil)))))))) (sIf (tAndD (dTru (dCB isiC (dCons (dVar 7) (dCons (dC (.ty "str")) (dNil))))) (tAndD (dTst (dOp eqD (dVar 7) (dC (.str "raw")))) (dTst (dOp eqD (dCB lenC (dCons (dVar 0) (dNil))) (dC (.int 4)))))) (sSeq (sAsg (dVar 0) (gTp 4 (gCo (gNm 10) (gCo (gNm 11) (gCo (gNm 12) (gCo (gNm 13) (gNi))))))) (sExpr (dCall W_need_bounds [] (dCons (dVar 6) (dCons (dVar 11) (dCons (dVar 12) (dCons (dVar 13) (dNil)))))))) (sNever))) (sSeq (sExpr (dApp (dVar 2) (dVar 0))) (sSeq (sExpr (dApp (dVar 3) (dVar 1))) (sSeq (sIf (dTst (dOp ltD (dVar 12) (dVar 13))) (sExpr (dApp (dVar 5) (dVar 6))) (sNx)) (sFor (iSeqD (dVar 9)) (gNm 15) (sExpr (dCall (W_look_at n) [] (dCons (dVar 15) (dCons (dVar 6) (dCons (dVar 2) (dCons (dVar 3) (dCons (dVar 4) (dCons (dVar 5) (dNil)))))))))))))))))))) ⟨fun _ M' => Lo Q .non M', Lo Q, fun _ _ => False, fun _ _ => False, Xd⟩ [some a0, some a1, some a2, some a3, some a4, some a5, none, none, none, none, none, none, none, none, none, none] M) : W_look_at (n + 1) [a0, a1, a2, a3, a4, a5] M Q Xd := h
def N_look_over : List Str := ["good", "found", "wholes", "made", "moving", "thing"]
def Blook_over : TSD := sSeq (sAsg (dTup (dCons (dLstO (dNil)) (dCons (dLstO (dNil)) (dCons (dLstO (dNil)) (dCons (dLstO (dNil)) (dNil)))))) (gTp 4 (gCo (gNm 1) (gCo (gNm 2) (gCo (gNm 3) (gCo (gNm 4) (gNi))))))) (sSeq (sExpr (dCall (W_look_at 8) [] (dCons (dVar 0) (dCons (dC .non) (dCons (dVar 1) (dCons (dVar 2) (dCons (dVar 3) (dCons (dVar 4) (dNil))))))))) (sSeq (sIf (dTst (dOp eqD (dCB lenC (dCons (dVar 3) (dNil))) (dC (.int 0)))) (sNever) (sNx)) (sSeq (sIf (dTst (dOp gtD (dCB lenC (dCons (dVar 4) (dNil))) (dC (.int 3)))) (sNever) (sNx)) (sSeq (sFor (iSeqD (dVar 1)) (gNm 5) (sIf (dTst (dOp gtD (dOp ixD (dVar 5) (dC (.int 2))) (dC (.int 0)))) (sRet (dTup (dCons (dVar 1) (dCons (dVar 2) (dCons (dVar 3) (dCons (dVar 4) (dNil))))))) (sNx))) (sNever)))))
def Wlook_over : SpD := bodyD Blook_over N_look_over
theorem Elook_over {a0 : D} {M : Mem} {Q : QD} {Xd : XD} (h : (sSeq (sAsg (dTup (dCons (dLstO (dNil)) (dCons (dLstO (dNil)) (dCons (dLstO (dNil)) (dCons (dLstO (dNil)) (dNil)))))) (gTp 4 (gCo (gNm 1) (gCo (gNm 2) (gCo (gNm 3) (gCo (gNm 4) (gNi))))))) (sSeq (sExpr (dCall (W_look_at 8) [] (dCons (dVar 0) (dCons (dC .non) (dCons (dVar 1) (dCons (dVar 2) (dCons (dVar 3) (dCons (dVar 4) (dNil))))))))) (sSeq (sIf (dTst (dOp eqD (dCB lenC (dCons (dVar 3) (dNil))) (dC (.int 0)))) (sNever) (sNx)) (sSeq (sIf (dTst (dOp gtD (dCB lenC (dCons (dVar 4) (dNil))) (dC (.int 3)))) (sNever) (sNx)) (sSeq (sFor (iSeqD (dVar 1)) (gNm 5) (sIf (dTst (dOp gtD (dOp ixD (dVar 5) (dC (.int 2))) (dC (.int 0)))) (sRet (dTup (dCons (dVar 1) (dCons (dVar 2) (dCons (dVar 3) (dCons (dVar 4) (dNil))))))) (sNx))) (sNever)))))) ⟨fun _ M' => Lo Q .non M', Lo Q, fun _ _ => False, fun _ _ => False, Xd⟩ [some a0, none, none, none, none, none] M) : Wlook_over [a0] M Q Xd := h
def N_is_fraction : List Str := ["value", "least", "most", "part", "of"]
def Bis_fraction : TSD := sSeq (sIf (tOrD (tNotD (dTru (dCB isiC (dCons (dVar 0) (dCons (dC (.ty "tuple")) (dNil)))))) (dTst (dOp neD (dCB lenC (dCons (dVar 0) (dNil))) (dC (.int 2))))) (sRet (dC (.bl false))) (sNx)) (sSeq (sAsg (dVar 0) (gTp 2 (gCo (gNm 3) (gCo (gNm 4) (gNi))))) (sSeq (sIf (tOrD (tNotD (dTru (dCB isiC (dCons (dVar 3) (dCons (dC (.ty "int")) (dNil)))))) (tOrD (dTru (dCB isiC (dCons (dVar 3) (dCons (dC (.ty "bool")) (dNil))))) (tOrD (tNotD (dTru (dCB isiC (dCons (dVar 4) (dCons (dC (.ty "int")) (dNil)))))) (dTru (dCB isiC (dCons (dVar 4) (dCons (dC (.ty "bool")) (dNil)))))))) (sRet (dC (.bl false))) (sNx)) (sRet (dAnd (dOr (dOp eqD (dVar 4) (dC (.int 1))) (dAnd (dOp gtD (dVar 4) (dC (.int 1))) (dOp eqD (dCB gcdC (dCons (dVar 3) (dCons (dVar 4) (dNil)))) (dC (.int 1))))) (dChain leD leD (dOp mulD (dVar 1) (dVar 4)) (dVar 3) (dOp mulD (dVar 2) (dVar 4)))))))
def Wis_fraction : SpD := bodyD Bis_fraction N_is_fraction
theorem Eis_fraction {a0 a1 a2 : D} {M : Mem} {Q : QD} {Xd : XD} (h : (sSeq (sIf (tOrD (tNotD (dTru (dCB isiC (dCons (dVar 0) (dCons (dC (.ty "tuple")) (dNil)))))) (dTst (dOp neD (dCB lenC (dCons (dVar 0) (dNil))) (dC (.int 2))))) (sRet (dC (.bl false))) (sNx)) (sSeq (sAsg (dVar 0) (gTp 2 (gCo (gNm 3) (gCo (gNm 4) (gNi))))) (sSeq (sIf (tOrD (tNotD (dTru (dCB isiC (dCons (dVar 3) (dCons (dC (.ty "int")) (dNil)))))) (tOrD (dTru (dCB isiC (dCons (dVar 3) (dCons (dC (.ty "bool")) (dNil))))) (tOrD (tNotD (dTru (dCB isiC (dCons (dVar 4) (dCons (dC (.ty "int")) (dNil)))))) (dTru (dCB isiC (dCons (dVar 4) (dCons (dC (.ty "bool")) (dNil)))))))) (sRet (dC (.bl false))) (sNx)) (sRet (dAnd (dOr (dOp eqD (dVar 4) (dC (.int 1))) (dAnd (dOp gtD (dVar 4) (dC (.int 1))) (dOp eqD (dCB gcdC (dCons (dVar 3) (dCons (dVar 4) (dNil)))) (dC (.int 1))))) (dChain leD leD (dOp mulD (dVar 1) (dVar 4)) (dVar 3) (dOp mulD (dVar 2) (dVar 4)))))))) ⟨fun _ M' => Lo Q .non M', Lo Q, fun _ _ => False, fun _ _ => False, Xd⟩ [some a0, some a1, some a2, none, none] M) : Wis_fraction [a0, a1, a2] M Q Xd := h
def N_lowest_terms : List Str := ["part", "of", "shared"]
def Blowest_terms : TSD := sSeq (sSet 2 (dCB gcdC (dCons (dVar 0) (dCons (dVar 1) (dNil))))) (sRet (dTup (dCons (dOp fdivD (dVar 0) (dVar 2)) (dCons (dOp fdivD (dVar 1) (dVar 2)) (dNil)))))
def Wlowest_terms : SpD := bodyD Blowest_terms N_lowest_terms
theorem Elowest_terms {a0 a1 : D} {M : Mem} {Q : QD} {Xd : XD} (h : (sSeq (sSet 2 (dCB gcdC (dCons (dVar 0) (dCons (dVar 1) (dNil))))) (sRet (dTup (dCons (dOp fdivD (dVar 0) (dVar 2)) (dCons (dOp fdivD (dVar 1) (dVar 2)) (dNil)))))) ⟨fun _ M' => Lo Q .non M', Lo Q, fun _ _ => False, fun _ _ => False, Xd⟩ [some a0, some a1, none] M) : Wlowest_terms [a0, a1] M Q Xd := h
def N_need_prices : List Str := ["found", "prices", "number", "thing"]
def Bneed_prices : TSD := sSeq (sIf (tOrD (tNotD (dTru (dCB isiC (dCons (dVar 1) (dCons (dC (.ty "tuple")) (dNil)))))) (dTst (dOp neD (dCB lenC (dCons (dVar 1) (dNil))) (dCB lenC (dCons (dVar 0) (dNil)))))) (sNever) (sNx)) (sSeq (sFor (iEnmB (dVar 0)) (gTp 2 (gCo (gNm 2) (gCo (gNm 3) (gNi)))) (sIf (tNotD (dTru (dCall Wis_fraction [] (dCons (dOp ixD (dVar 1) (dVar 2)) (dCons (dOp ixD (dVar 3) (dC (.int 2))) (dCons (dOp ixD (dVar 3) (dC (.int 3))) (dNil))))))) (sNever) (sNx))) (sRet (dVar 1)))
def Wneed_prices : SpD := bodyD Bneed_prices N_need_prices
theorem Eneed_prices {a0 a1 : D} {M : Mem} {Q : QD} {Xd : XD} (h : (sSeq (sIf (tOrD (tNotD (dTru (dCB isiC (dCons (dVar 1) (dCons (dC (.ty "tuple")) (dNil)))))) (dTst (dOp neD (dCB lenC (dCons (dVar 1) (dNil))) (dCB lenC (dCons (dVar 0) (dNil)))))) (sNever) (sNx)) (sSeq (sFor (iEnmB (dVar 0)) (gTp 2 (gCo (gNm 2) (gCo (gNm 3) (gNi)))) (sIf (tNotD (dTru (dCall Wis_fraction [] (dCons (dOp ixD (dVar 1) (dVar 2)) (dCons (dOp ixD (dVar 3) (dC (.int 2))) (dCons (dOp ixD (dVar 3) (dC (.int 3))) (dNil))))))) (sNever) (sNx))) (sRet (dVar 1)))) ⟨fun _ M' => Lo Q .non M', Lo Q, fun _ _ => False, fun _ _ => False, Xd⟩ [some a0, some a1, none, none] M) : Wneed_prices [a0, a1] M Q Xd := h
def N_common_unit : List Str := ["prices", "unit", "_", "of"]
def Bcommon_unit : TSD := sSeq (sSet 1 (dC (.int 1))) (sSeq (sFor (iSeqD (dVar 0)) (gTp 2 (gCo (gNm 2) (gCo (gNm 3) (gNi)))) (sSet 1 (dCB lcmC (dCons (dVar 1) (dCons (dVar 3) (dNil)))))) (sRet (dVar 1)))
def Wcommon_unit : SpD := bodyD Bcommon_unit N_common_unit
theorem Ecommon_unit {a0 : D} {M : Mem} {Q : QD} {Xd : XD} (h : (sSeq (sSet 1 (dC (.int 1))) (sSeq (sFor (iSeqD (dVar 0)) (gTp 2 (gCo (gNm 2) (gCo (gNm 3) (gNi)))) (sSet 1 (dCB lcmC (dCons (dVar 1) (dCons (dVar 3) (dNil)))))) (sRet (dVar 1)))) ⟨fun _ M' => Lo Q .non M', Lo Q, fun _ _ => False, fun _ _ => False, Xd⟩ [some a0, none, none, none] M) : Wcommon_unit [a0] M Q Xd := h
def N_in_units : List Str := ["prices", "unit", "part", "of"]
def Bin_units : TSD := sRet (dLc (iSeqD (dVar 0)) (gTp 2 (gCo (gNm 2) (gCo (gNm 3) (gNi)))) (tYesD) (dOp mulD (dVar 2) (dOp fdivD (dVar 1) (dVar 3))) [2, 3])
def Win_units : SpD := bodyD Bin_units N_in_units
theorem Ein_units {a0 a1 : D} {M : Mem} {Q : QD} {Xd : XD} (h : (sRet (dLc (iSeqD (dVar 0)) (gTp 2 (gCo (gNm 2) (gCo (gNm 3) (gNi)))) (tYesD) (dOp mulD (dVar 2) (dOp fdivD (dVar 1) (dVar 3))) [2, 3])) ⟨fun _ M' => Lo Q .non M', Lo Q, fun _ _ => False, fun _ _ => False, Xd⟩ [some a0, some a1, none, none] M) : Win_units [a0, a1] M Q Xd := h
def N_fractions_of : List Str := ["amounts", "unit", "amount"]
def Bfractions_of : TSD := sSeq (sIf (dTst (dOp eqD (dVar 1) (dC (.int 1)))) (sRet (dCB tupleC (dCons (dLc (iSeqD (dVar 0)) (gNm 2) (tYesD) (dTup (dCons (dVar 2) (dCons (dC (.int 1)) (dNil)))) [2]) (dNil)))) (sNx)) (sRet (dCB tupleC (dCons (dLc (iSeqD (dVar 0)) (gNm 2) (tYesD) (dCall Wlowest_terms [] (dCons (dVar 2) (dCons (dVar 1) (dNil)))) [2]) (dNil))))
def Wfractions_of : SpD := bodyD Bfractions_of N_fractions_of
theorem Efractions_of {a0 a1 : D} {M : Mem} {Q : QD} {Xd : XD} (h : (sSeq (sIf (dTst (dOp eqD (dVar 1) (dC (.int 1)))) (sRet (dCB tupleC (dCons (dLc (iSeqD (dVar 0)) (gNm 2) (tYesD) (dTup (dCons (dVar 2) (dCons (dC (.int 1)) (dNil)))) [2]) (dNil)))) (sNx)) (sRet (dCB tupleC (dCons (dLc (iSeqD (dVar 0)) (gNm 2) (tYesD) (dCall Wlowest_terms [] (dCons (dVar 2) (dCons (dVar 1) (dNil)))) [2]) (dNil))))) ⟨fun _ M' => Lo Q .non M', Lo Q, fun _ _ => False, fun _ _ => False, Xd⟩ [some a0, some a1, none] M) : Wfractions_of [a0, a1] M Q Xd := h
def N_sums_of : List Str := ["found", "wholes", "amounts", "spent", "own", "amount", "thing", "counting", "words", "number", "part", "share", "up", "down", "whole"]
def Bsums_of : TSD := sSeq (sSet 3 (dCB listCO (dCons (dVar 2) (dNil)))) (sSeq (sSet 4 (dLcO (iZipD (dVar 2) (dVar 0)) (gTp 2 (gCo (gNm 5) (gCo (gNm 6) (gNi)))) (tYesD) (dIte (dTst (dOp eqD (dOp ixD (dVar 6) (dC (.int 1))) (dC (.str "here")))) (dVar 5) (dC (.int 0))) [5, 6])) (sSeq (sSet 7 (dCB listCO (dCons (dVar 4) (dNil)))) (sSeq (sSet 8 (dLstO (dNil))) (sSeq (sFor (iRevD (rg1 (dCB lenC (dCons (dVar 0) (dNil))))) (gNm 9) (sSeq (sSet 6 (dOp ixD (dVar 0) (dVar 9))) (sSeq (sSet 10 (dOp ixD (dVar 4) (dVar 9))) (sSeq (sIf (dTst (dOp eqD (dOp ixD (dVar 6) (dC (.int 0))) (dC (.str "made")))) (sSeq (sAsg (dOp ixD (dVar 6) (dC (.int 4))) (gTp 3 (gCo (gNm 11) (gCo (gNm 12) (gCo (gNm 13) (gNi)))))) (sSeq (sIf (dTst (dOp geD (dOp mulD (dC (.int 100)) (dVar 10)) (dOp mulD (dVar 11) (dOp ixD (dVar 3) (dVar 9))))) (sSeq (sExpr (dApp (dVar 8) (dC (.int 1)))) (sSet 10 (dIte (dTst (dOp eqD (dVar 12) (dC (.str "whole")))) (dOp ixD (dVar 3) (dVar 9)) (dVar 10)))) (sSeq (sExpr (dApp (dVar 8) (dC (.int 0)))) (sSet 10 (dIte (dTst (dOp eqD (dVar 13) (dC (.str "own")))) (dVar 10) (dC (.int 0)))))) (sAsg (dVar 10) (gSb (dVar 7) (dVar 9))))) (sNx)) (sIf (dTst (dOp gtD (dVar 9) (dC (.int 0)))) (sSeq (sSet 14 (dOp ixD (dVar 1) (dVar 9))) (sSeq (sAugS (fun i j => i + j) (dVar 3) (dVar 14) (dOp ixD (dVar 3) (dVar 9))) (sAugS (fun i j => i + j) (dVar 4) (dVar 14) (dVar 10)))) (sNx)))))) (sSeq (sExpr (dRvs (dVar 8))) (sRet (dTup (dCons (dVar 3) (dCons (dVar 4) (dCons (dVar 7) (dCons (dVar 8) (dNil))))))))))))
def Wsums_of : SpD := bodyD Bsums_of N_sums_of
theorem Esums_of {a0 a1 a2 : D} {M : Mem} {Q : QD} {Xd : XD} (h : (sSeq (sSet 3 (dCB listCO (dCons (dVar 2) (dNil)))) (sSeq (sSet 4 (dLcO (iZipD (dVar 2) (dVar 0)) (gTp 2 (gCo (gNm 5) (gCo (gNm 6) (gNi)))) (tYesD) (dIte (dTst (dOp eqD (dOp ixD (dVar 6) (dC (.int 1))) (dC (.str "here")))) (dVar 5) (dC (.int 0))) [5, 6])) (sSeq (sSet 7 (dCB listCO (dCons (dVar 4) (dNil)))) (sSeq (sSet 8 (dLstO (dNil))) (sSeq (sFor (iRevD (rg1 (dCB lenC (dCons (dVar 0) (dNil))))) (gNm 9) (sSeq (sSet 6 (dOp ixD (dVar 0) (dVar 9))) (sSeq (sSet 10 (dOp ixD (dVar 4) (dVar 9))) (sSeq (sIf (dTst (dOp eqD (dOp ixD (dVar 6) (dC (.int 0))) (dC (.str "made")))) (sSeq (sAsg (dOp ixD (dVar 6) (dC (.int 4))) (gTp 3 (gCo (gNm 11) (gCo (gNm 12) (gCo (gNm 13) (gNi)))))) (sSeq (sIf (dTst (dOp geD (dOp mulD (dC (.int 100)) (dVar 10)) (dOp mulD (dVar 11) (dOp ixD (dVar 3) (dVar 9))))) (sSeq (sExpr (dApp (dVar 8) (dC (.int 1)))) (sSet 10 (dIte (dTst (dOp eqD (dVar 12) (dC (.str "whole")))) (dOp ixD (dVar 3) (dVar 9)) (dVar 10)))) (sSeq (sExpr (dApp (dVar 8) (dC (.int 0)))) (sSet 10 (dIte (dTst (dOp eqD (dVar 13) (dC (.str "own")))) (dVar 10) (dC (.int 0)))))) (sAsg (dVar 10) (gSb (dVar 7) (dVar 9))))) (sNx)) (sIf (dTst (dOp gtD (dVar 9) (dC (.int 0)))) (sSeq (sSet 14 (dOp ixD (dVar 1) (dVar 9))) (sSeq (sAugS (fun i j => i + j) (dVar 3) (dVar 14) (dOp ixD (dVar 3) (dVar 9))) (sAugS (fun i j => i + j) (dVar 4) (dVar 14) (dVar 10)))) (sNx)))))) (sSeq (sExpr (dRvs (dVar 8))) (sRet (dTup (dCons (dVar 3) (dCons (dVar 4) (dCons (dVar 7) (dCons (dVar 8) (dNil))))))))))))) ⟨fun _ M' => Lo Q .non M', Lo Q, fun _ _ => False, fun _ _ => False, Xd⟩ [some a0, some a1, some a2, none, none, none, none, none, none, none, none, none, none, none, none] M) : Wsums_of [a0, a1, a2] M Q Xd := h
def N__sums_at : List Str := ["good", "prices", "found", "wholes", "_", "unit", "spent", "own", "counting", "words"]
def B_sums_at : TSD := sSeq (sAsg (dCall Wlook_over [] (dCons (dVar 0) (dNil))) (gTp 4 (gCo (gNm 2) (gCo (gNm 3) (gCo (gNm 4) (gCo (gNm 4) (gNi))))))) (sSeq (sExpr (dCall Wneed_prices [] (dCons (dVar 2) (dCons (dVar 1) (dNil))))) (sSeq (sSet 5 (dCall Wcommon_unit [] (dCons (dVar 1) (dNil)))) (sSeq (sAsg (dCall Wsums_of [] (dCons (dVar 2) (dCons (dVar 3) (dCons (dCall Win_units [] (dCons (dVar 1) (dCons (dVar 5) (dNil)))) (dNil))))) (gTp 4 (gCo (gNm 6) (gCo (gNm 7) (gCo (gNm 8) (gCo (gNm 9) (gNi))))))) (sRet (dTup (dCons (dVar 6) (dCons (dVar 7) (dCons (dVar 8) (dCons (dVar 9) (dCons (dVar 5) (dNil)))))))))))
def W_sums_at : SpD := bodyD B_sums_at N__sums_at
theorem E_sums_at {a0 a1 : D} {M : Mem} {Q : QD} {Xd : XD} (h : (sSeq (sAsg (dCall Wlook_over [] (dCons (dVar 0) (dNil))) (gTp 4 (gCo (gNm 2) (gCo (gNm 3) (gCo (gNm 4) (gCo (gNm 4) (gNi))))))) (sSeq (sExpr (dCall Wneed_prices [] (dCons (dVar 2) (dCons (dVar 1) (dNil))))) (sSeq (sSet 5 (dCall Wcommon_unit [] (dCons (dVar 1) (dNil)))) (sSeq (sAsg (dCall Wsums_of [] (dCons (dVar 2) (dCons (dVar 3) (dCons (dCall Win_units [] (dCons (dVar 1) (dCons (dVar 5) (dNil)))) (dNil))))) (gTp 4 (gCo (gNm 6) (gCo (gNm 7) (gCo (gNm 8) (gCo (gNm 9) (gNi))))))) (sRet (dTup (dCons (dVar 6) (dCons (dVar 7) (dCons (dVar 8) (dCons (dVar 9) (dCons (dVar 5) (dNil)))))))))))) ⟨fun _ M' => Lo Q .non M', Lo Q, fun _ _ => False, fun _ _ => False, Xd⟩ [some a0, some a1, none, none, none, none, none, none, none, none] M) : W_sums_at [a0, a1] M Q Xd := h
def N_costs : List Str := ["good", "prices", "spent", "_", "unit"]
def Bcosts : TSD := sSeq (sAsg (dCall W_sums_at [] (dCons (dVar 0) (dCons (dVar 1) (dNil)))) (gTp 5 (gCo (gNm 2) (gCo (gNm 3) (gCo (gNm 3) (gCo (gNm 3) (gCo (gNm 4) (gNi)))))))) (sRet (dCall Wfractions_of [] (dCons (dVar 2) (dCons (dVar 4) (dNil)))))
def Wcosts : SpD := bodyD Bcosts N_costs
theorem Ecosts {a0 a1 : D} {M : Mem} {Q : QD} {Xd : XD} (h : (sSeq (sAsg (dCall W_sums_at [] (dCons (dVar 0) (dCons (dVar 1) (dNil)))) (gTp 5 (gCo (gNm 2) (gCo (gNm 3) (gCo (gNm 3) (gCo (gNm 3) (gCo (gNm 4) (gNi)))))))) (sRet (dCall Wfractions_of [] (dCons (dVar 2) (dCons (dVar 4) (dNil)))))) ⟨fun _ M' => Lo Q .non M', Lo Q, fun _ _ => False, fun _ _ => False, Xd⟩ [some a0, some a1, none, none, none] M) : Wcosts [a0, a1] M Q Xd := h
def N_owns : List Str := ["good", "prices", "_", "own", "unit"]
def Bowns : TSD := sSeq (sAsg (dCall W_sums_at [] (dCons (dVar 0) (dCons (dVar 1) (dNil)))) (gTp 5 (gCo (gNm 2) (gCo (gNm 3) (gCo (gNm 2) (gCo (gNm 2) (gCo (gNm 4) (gNi)))))))) (sRet (dCall Wfractions_of [] (dCons (dVar 3) (dCons (dVar 4) (dNil)))))
def Wowns : SpD := bodyD Bowns N_owns
theorem Eowns {a0 a1 : D} {M : Mem} {Q : QD} {Xd : XD} (h : (sSeq (sAsg (dCall W_sums_at [] (dCons (dVar 0) (dCons (dVar 1) (dNil)))) (gTp 5 (gCo (gNm 2) (gCo (gNm 3) (gCo (gNm 2) (gCo (gNm 2) (gCo (gNm 4) (gNi)))))))) (sRet (dCall Wfractions_of [] (dCons (dVar 3) (dCons (dVar 4) (dNil)))))) ⟨fun _ M' => Lo Q .non M', Lo Q, fun _ _ => False, fun _ _ => False, Xd⟩ [some a0, some a1, none, none, none] M) : Wowns [a0, a1] M Q Xd := h
def N_counted : List Str := ["good", "prices", "_", "counting", "unit"]
def Bcounted : TSD := sSeq (sAsg (dCall W_sums_at [] (dCons (dVar 0) (dCons (dVar 1) (dNil)))) (gTp 5 (gCo (gNm 2) (gCo (gNm 2) (gCo (gNm 3) (gCo (gNm 2) (gCo (gNm 4) (gNi)))))))) (sRet (dCall Wfractions_of [] (dCons (dVar 3) (dCons (dVar 4) (dNil)))))
def Wcounted : SpD := bodyD Bcounted N_counted
theorem Ecounted {a0 a1 : D} {M : Mem} {Q : QD} {Xd : XD} (h : (sSeq (sAsg (dCall W_sums_at [] (dCons (dVar 0) (dCons (dVar 1) (dNil)))) (gTp 5 (gCo (gNm 2) (gCo (gNm 2) (gCo (gNm 3) (gCo (gNm 2) (gCo (gNm 4) (gNi)))))))) (sRet (dCall Wfractions_of [] (dCons (dVar 3) (dCons (dVar 4) (dNil)))))) ⟨fun _ M' => Lo Q .non M', Lo Q, fun _ _ => False, fun _ _ => False, Xd⟩ [some a0, some a1, none, none, none] M) : Wcounted [a0, a1] M Q Xd := h
def N_words_at : List Str := ["good", "prices", "_", "words"]
def Bwords_at : TSD := sSeq (sAsg (dCall W_sums_at [] (dCons (dVar 0) (dCons (dVar 1) (dNil)))) (gTp 5 (gCo (gNm 2) (gCo (gNm 2) (gCo (gNm 2) (gCo (gNm 3) (gCo (gNm 2) (gNi)))))))) (sRet (dCB tupleC (dCons (dVar 3) (dNil))))
def Wwords_at : SpD := bodyD Bwords_at N_words_at
theorem Ewords_at {a0 a1 : D} {M : Mem} {Q : QD} {Xd : XD} (h : (sSeq (sAsg (dCall W_sums_at [] (dCons (dVar 0) (dCons (dVar 1) (dNil)))) (gTp 5 (gCo (gNm 2) (gCo (gNm 2) (gCo (gNm 2) (gCo (gNm 3) (gCo (gNm 2) (gNi)))))))) (sRet (dCB tupleC (dCons (dVar 3) (dNil))))) ⟨fun _ M' => Lo Q .non M', Lo Q, fun _ _ => False, fun _ _ => False, Xd⟩ [some a0, some a1, none, none] M) : Wwords_at [a0, a1] M Q Xd := h
def N_is_of_here : List Str := ["good", "prices", "_", "words"]
def Bis_of_here : TSD := sSeq (sAsg (dCall W_sums_at [] (dCons (dVar 0) (dCons (dVar 1) (dNil)))) (gTp 5 (gCo (gNm 2) (gCo (gNm 2) (gCo (gNm 2) (gCo (gNm 3) (gCo (gNm 2) (gNi)))))))) (sRet (dOp eqD (dOp ixD (dVar 3) (dC (.int 0))) (dC (.int 1))))
def Wis_of_here : SpD := bodyD Bis_of_here N_is_of_here
theorem Eis_of_here {a0 a1 : D} {M : Mem} {Q : QD} {Xd : XD} (h : (sSeq (sAsg (dCall W_sums_at [] (dCons (dVar 0) (dCons (dVar 1) (dNil)))) (gTp 5 (gCo (gNm 2) (gCo (gNm 2) (gCo (gNm 2) (gCo (gNm 3) (gCo (gNm 2) (gNi)))))))) (sRet (dOp eqD (dOp ixD (dVar 3) (dC (.int 0))) (dC (.int 1))))) ⟨fun _ M' => Lo Q .non M', Lo Q, fun _ _ => False, fun _ _ => False, Xd⟩ [some a0, some a1, none, none] M) : Wis_of_here [a0, a1] M Q Xd := h
def N_portion : List Str := ["good", "prices", "spent", "own", "_"]
def Bportion : TSD := sSeq (sAsg (dCall W_sums_at [] (dCons (dVar 0) (dCons (dVar 1) (dNil)))) (gTp 5 (gCo (gNm 2) (gCo (gNm 3) (gCo (gNm 4) (gCo (gNm 4) (gCo (gNm 4) (gNi)))))))) (sRet (dCall Wlowest_terms [] (dCons (dOp ixD (dVar 3) (dC (.int 0))) (dCons (dOp ixD (dVar 2) (dC (.int 0))) (dNil)))))
def Wportion : SpD := bodyD Bportion N_portion
theorem Eportion {a0 a1 : D} {M : Mem} {Q : QD} {Xd : XD} (h : (sSeq (sAsg (dCall W_sums_at [] (dCons (dVar 0) (dCons (dVar 1) (dNil)))) (gTp 5 (gCo (gNm 2) (gCo (gNm 3) (gCo (gNm 4) (gCo (gNm 4) (gCo (gNm 4) (gNi)))))))) (sRet (dCall Wlowest_terms [] (dCons (dOp ixD (dVar 3) (dC (.int 0))) (dCons (dOp ixD (dVar 2) (dC (.int 0))) (dNil)))))) ⟨fun _ M' => Lo Q .non M', Lo Q, fun _ _ => False, fun _ _ => False, Xd⟩ [some a0, some a1, none, none, none] M) : Wportion [a0, a1] M Q Xd := h
def N__law_begun : List Str := ["script", "great", "cell"]
def B_law_begun : TSD := sSeq (sSet 1 (dLc (iSeqD (dVar 0)) (gNm 2) (dTst (dOp geD (dVar 2) (dOp powD (dC (.int 10)) (dC (.int 18))))) (dVar 2) [2])) (sRet (dDct [(.inr "cells", dOp addD (dCB listC (dCons (dVar 0) (dNil))) (dLst (dCons (dCB lenC (dCons (dVar 0) (dNil))) (dNil)))), (.inr "left", dIte (dTst (dOp neD (dVar 1) (dLst (dNil)))) (dOp ixD (dVar 1) (dC (.int 0))) (dC (.int 0))), (.inr "spot", dC (.int 0))]))
def W_law_begun : SpD := bodyD B_law_begun N__law_begun
theorem E_law_begun {a0 : D} {M : Mem} {Q : QD} {Xd : XD} (h : (sSeq (sSet 1 (dLc (iSeqD (dVar 0)) (gNm 2) (dTst (dOp geD (dVar 2) (dOp powD (dC (.int 10)) (dC (.int 18))))) (dVar 2) [2])) (sRet (dDct [(.inr "cells", dOp addD (dCB listC (dCons (dVar 0) (dNil))) (dLst (dCons (dCB lenC (dCons (dVar 0) (dNil))) (dNil)))), (.inr "left", dIte (dTst (dOp neD (dVar 1) (dLst (dNil)))) (dOp ixD (dVar 1) (dC (.int 0))) (dC (.int 0))), (.inr "spot", dC (.int 0))]))) ⟨fun _ M' => Lo Q .non M', Lo Q, fun _ _ => False, fun _ _ => False, Xd⟩ [some a0, none, none] M) : W_law_begun [a0] M Q Xd := h
def N__law_draw : List Str := ["m", "limit", "found", "spot", "cell", "mixed"]
def B_law_draw : TSD := sSeq (sIf (dTst (dOp gtD (dOp ixD (dVar 0) (dC (.str "left"))) (dC (.int 0)))) (sSeq (sSet 2 (dOp modD (dCB intC (dCons (dOp ixD (dVar 0) (dC (.str "left"))) (dNil))) (dVar 1))) (sSeq (sAsg (dOp fdivD (dOp ixD (dVar 0) (dC (.str "left"))) (dVar 1)) (gSb (dVar 0) (dC (.str "left")))) (sRet (dVar 2)))) (sNx)) (sSeq (sSet 3 (dOp addD (dOp ixD (dVar 0) (dC (.str "spot"))) (dC (.int 1)))) (sSeq (sAsg (dVar 3) (gSb (dVar 0) (dC (.str "spot")))) (sSeq (sSet 4 (dOp ixD (dOp ixD (dVar 0) (dC (.str "cells"))) (dOp modD (dCB intC (dCons (dVar 3) (dNil))) (dCB lenC (dCons (dOp ixD (dVar 0) (dC (.str "cells"))) (dNil)))))) (sSeq (sSet 5 (dOp mulD (dCB intC (dCons (dOp addD (dOp addD (dOp modD (dCB intC (dCons (dVar 4) (dNil))) (dC (.int 2147483629))) (dOp mulD (dC (.int 6133)) (dVar 3))) (dOp mulD (dOp mulD (dC (.int 23)) (dVar 3)) (dVar 3))) (dNil))) (dC (.int 48271)))) (sSeq (sSet 5 (dOp mulD (dCB intC (dCons (dOp addD (dOp modD (dCB intC (dCons (dVar 5) (dNil))) (dC (.int 2147483647))) (dOp mulD (dC (.int 93241)) (dVar 3))) (dNil))) (dC (.int 69621)))) (sRet (dOp modD (dCB intC (dCons (dOp fdivD (dOp modD (dCB intC (dCons (dVar 5) (dNil))) (dC (.int 2147483587))) (dC (.int 13))) (dNil))) (dVar 1))))))))
def W_law_draw : SpD := bodyD B_law_draw N__law_draw
theorem E_law_draw {a0 a1 : D} {M : Mem} {Q : QD} {Xd : XD} (h : (sSeq (sIf (dTst (dOp gtD (dOp ixD (dVar 0) (dC (.str "left"))) (dC (.int 0)))) (sSeq (sSet 2 (dOp modD (dCB intC (dCons (dOp ixD (dVar 0) (dC (.str "left"))) (dNil))) (dVar 1))) (sSeq (sAsg (dOp fdivD (dOp ixD (dVar 0) (dC (.str "left"))) (dVar 1)) (gSb (dVar 0) (dC (.str "left")))) (sRet (dVar 2)))) (sNx)) (sSeq (sSet 3 (dOp addD (dOp ixD (dVar 0) (dC (.str "spot"))) (dC (.int 1)))) (sSeq (sAsg (dVar 3) (gSb (dVar 0) (dC (.str "spot")))) (sSeq (sSet 4 (dOp ixD (dOp ixD (dVar 0) (dC (.str "cells"))) (dOp modD (dCB intC (dCons (dVar 3) (dNil))) (dCB lenC (dCons (dOp ixD (dVar 0) (dC (.str "cells"))) (dNil)))))) (sSeq (sSet 5 (dOp mulD (dCB intC (dCons (dOp addD (dOp addD (dOp modD (dCB intC (dCons (dVar 4) (dNil))) (dC (.int 2147483629))) (dOp mulD (dC (.int 6133)) (dVar 3))) (dOp mulD (dOp mulD (dC (.int 23)) (dVar 3)) (dVar 3))) (dNil))) (dC (.int 48271)))) (sSeq (sSet 5 (dOp mulD (dCB intC (dCons (dOp addD (dOp modD (dCB intC (dCons (dVar 5) (dNil))) (dC (.int 2147483647))) (dOp mulD (dC (.int 93241)) (dVar 3))) (dNil))) (dC (.int 69621)))) (sRet (dOp modD (dCB intC (dCons (dOp fdivD (dOp modD (dCB intC (dCons (dVar 5) (dNil))) (dC (.int 2147483587))) (dC (.int 13))) (dNil))) (dVar 1))))))))) ⟨fun _ M' => Lo Q .non M', Lo Q, fun _ _ => False, fun _ _ => False, Xd⟩ [some a0, some a1, none, none, none, none] M) : W_law_draw [a0, a1] M Q Xd := h
def N__law_of : List Str := ["m", "some"]
def B_law_of : TSD := sRet (dOp ixD (dVar 1) (dCall W_law_draw [] (dCons (dVar 0) (dCons (dCB lenC (dCons (dVar 1) (dNil))) (dNil)))))
def W_law_of : SpD := bodyD B_law_of N__law_of
theorem E_law_of {a0 a1 : D} {M : Mem} {Q : QD} {Xd : XD} (h : (sRet (dOp ixD (dVar 1) (dCall W_law_draw [] (dCons (dVar 0) (dCons (dCB lenC (dCons (dVar 1) (dNil))) (dNil)))))) ⟨fun _ M' => Lo Q .non M', Lo Q, fun _ _ => False, fun _ _ => False, Xd⟩ [some a0, some a1] M) : W_law_of [a0, a1] M Q Xd := h
def N__law_span : List Str := ["m", "left", "low"]
def B_law_span : TSD := sSeq (sSet 2 (dCall W_law_of [] (dCons (dVar 0) (dCons (dLst (dCons (dC (.int 0)) (dCons (dC (.int 1)) (dCons (dC (.int 2)) (dCons (dC (.int 5)) (dCons (dC (.int 10)) (dCons (dCall W_law_draw [] (dCons (dVar 0) (dCons (dC (.int 50)) (dNil)))) (dCons (dCall W_law_draw [] (dCons (dVar 0) (dCons (dOp subD (dOp powD (dC (.int 10)) (dC (.int 6))) (dC (.int 40))) (dNil)))) (dNil))))))))) (dNil))))) (sSeq (sIf (tOrD (dTst (dOp eqD (dOp ixD (dVar 1) (dC (.str "moves"))) (dC (.int 0)))) (dTst (dOp eqD (dCall W_law_draw [] (dCons (dVar 0) (dCons (dC (.int 2)) (dNil)))) (dC (.int 0))))) (sRet (dTup (dCons (dVar 2) (dCons (dVar 2) (dNil))))) (sNx)) (sSeq (sAsg (dOp subD (dOp ixD (dVar 1) (dC (.str "moves"))) (dC (.int 1))) (gSb (dVar 1) (dC (.str "moves")))) (sRet (dTup (dCons (dVar 2) (dCons (dOp addD (dOp addD (dVar 2) (dC (.int 1))) (dCall W_law_of [] (dCons (dVar 0) (dCons (dLst (dCons (dC (.int 0)) (dCons (dC (.int 1)) (dCons (dCall W_law_draw [] (dCons (dVar 0) (dCons (dC (.int 30)) (dNil)))) (dNil))))) (dNil))))) (dNil)))))))
def W_law_span : SpD := bodyD B_law_span N__law_span
theorem E_law_span {a0 a1 : D} {M : Mem} {Q : QD} {Xd : XD} (h : (sSeq (sSet 2 (dCall W_law_of [] (dCons (dVar 0) (dCons (dLst (dCons (dC (.int 0)) (dCons (dC (.int 1)) (dCons (dC (.int 2)) (dCons (dC (.int 5)) (dCons (dC (.int 10)) (dCons (dCall W_law_draw [] (dCons (dVar 0) (dCons (dC (.int 50)) (dNil)))) (dCons (dCall W_law_draw [] (dCons (dVar 0) (dCons (dOp subD (dOp powD (dC (.int 10)) (dC (.int 6))) (dC (.int 40))) (dNil)))) (dNil))))))))) (dNil))))) (sSeq (sIf (tOrD (dTst (dOp eqD (dOp ixD (dVar 1) (dC (.str "moves"))) (dC (.int 0)))) (dTst (dOp eqD (dCall W_law_draw [] (dCons (dVar 0) (dCons (dC (.int 2)) (dNil)))) (dC (.int 0))))) (sRet (dTup (dCons (dVar 2) (dCons (dVar 2) (dNil))))) (sNx)) (sSeq (sAsg (dOp subD (dOp ixD (dVar 1) (dC (.str "moves"))) (dC (.int 1))) (gSb (dVar 1) (dC (.str "moves")))) (sRet (dTup (dCons (dVar 2) (dCons (dOp addD (dOp addD (dVar 2) (dC (.int 1))) (dCall W_law_of [] (dCons (dVar 0) (dCons (dLst (dCons (dC (.int 0)) (dCons (dC (.int 1)) (dCons (dCall W_law_draw [] (dCons (dVar 0) (dCons (dC (.int 30)) (dNil)))) (dNil))))) (dNil))))) (dNil)))))))) ⟨fun _ M' => Lo Q .non M', Lo Q, fun _ _ => False, fun _ _ => False, Xd⟩ [some a0, some a1, none] M) : W_law_span [a0, a1] M Q Xd := h
def N__law_term : List Str := ["m", "share"]
def B_law_term : TSD := sSeq (sSet 1 (dCall W_law_of [] (dCons (dVar 0) (dCons (dLst (dCons (dC (.int 0)) (dCons (dC (.int 30)) (dCons (dC (.int 50)) (dCons (dC (.int 60)) (dCons (dC (.int 100)) (dCons (dCall W_law_draw [] (dCons (dVar 0) (dCons (dC (.int 101)) (dNil)))) (dNil)))))))) (dNil))))) (sRet (dTup (dCons (dVar 1) (dCons (dCall W_law_of [] (dCons (dVar 0) (dCons (dLst (dCons (dC (.str "whole")) (dCons (dC (.str "whole")) (dCons (dC (.str "own")) (dNil))))) (dNil)))) (dCons (dCall W_law_of [] (dCons (dVar 0) (dCons (dLst (dCons (dC (.str "own")) (dCons (dC (.str "own")) (dCons (dC (.str "none")) (dNil))))) (dNil)))) (dNil))))))
def W_law_term : SpD := bodyD B_law_term N__law_term
theorem E_law_term {a0 : D} {M : Mem} {Q : QD} {Xd : XD} (h : (sSeq (sSet 1 (dCall W_law_of [] (dCons (dVar 0) (dCons (dLst (dCons (dC (.int 0)) (dCons (dC (.int 30)) (dCons (dC (.int 50)) (dCons (dC (.int 60)) (dCons (dC (.int 100)) (dCons (dCall W_law_draw [] (dCons (dVar 0) (dCons (dC (.int 101)) (dNil)))) (dNil)))))))) (dNil))))) (sRet (dTup (dCons (dVar 1) (dCons (dCall W_law_of [] (dCons (dVar 0) (dCons (dLst (dCons (dC (.str "whole")) (dCons (dC (.str "whole")) (dCons (dC (.str "own")) (dNil))))) (dNil)))) (dCons (dCall W_law_of [] (dCons (dVar 0) (dCons (dLst (dCons (dC (.str "own")) (dCons (dC (.str "own")) (dCons (dC (.str "none")) (dNil))))) (dNil)))) (dNil))))))) ⟨fun _ M' => Lo Q .non M', Lo Q, fun _ _ => False, fun _ _ => False, Xd⟩ [some a0, none] M) : W_law_term [a0] M Q Xd := h
def N__law_thing : List Str := ["m", "left", "must", "low", "high", "land", "size", "rows", "k"]
def B_law_thing (self : SpD) : TSD := sSeq (sAsg (dCall W_law_span [] (dCons (dVar 0) (dCons (dVar 1) (dNil)))) (gTp 2 (gCo (gNm 3) (gCo (gNm 4) (gNi))))) (sSeq (sSet 5 (dCall W_law_of [] (dCons (dVar 0) (dCons (dLst (dCons (dC (.str "here")) (dCons (dC (.str "away")) (dNil)))) (dNil))))) (sSeq (sIf (tAndD (tNotD (dTru (dVar 2))) (tOrD (dTst (dOp eqD (dOp ixD (dVar 1) (dC (.str "steps"))) (dC (.int 0)))) (tOrD (dTst (dOp eqD (dOp ixD (dVar 1) (dC (.str "things"))) (dC (.int 0)))) (dTst (dOp gtD (dCall W_law_draw [] (dCons (dVar 0) (dCons (dC (.int 3)) (dNil)))) (dC (.int 0))))))) (sRet (dTup (dCons (dC (.str "raw")) (dCons (dVar 5) (dCons (dVar 3) (dCons (dVar 4) (dNil))))))) (sNx)) (sSeq (sAsg (dOp subD (dOp ixD (dVar 1) (dC (.str "steps"))) (dC (.int 1))) (gSb (dVar 1) (dC (.str "steps")))) (sSeq (sSet 6 (dOp addD (dC (.int 1)) (dCall W_law_draw [] (dCons (dVar 0) (dCons (dCB (int2C (fun i j => if j < i then j else i)) (dCons (dC (.int 3)) (dCons (dOp ixD (dVar 1) (dC (.str "things"))) (dNil)))) (dNil)))))) (sSeq (sAsg (dTup (dCons (dOp subD (dOp ixD (dVar 1) (dC (.str "things"))) (dVar 6)) (dCons (dLstO (dNil)) (dNil)))) (gTp 2 (gCo (gSb (dVar 1) (dC (.str "things"))) (gCo (gNm 7) (gNi))))) (sSeq (sFor (iRngD (dCons (dVar 6) (dNil))) (gNm 8) (sExpr (dApp (dVar 7) (dCall self [] (dCons (dVar 0) (dCons (dVar 1) (dCons (dC (.bl false)) (dNil)))))))) (sRet (dTup (dCons (dC (.str "made")) (dCons (dVar 5) (dCons (dVar 3) (dCons (dVar 4) (dCons (dCall W_law_term [] (dCons (dVar 0) (dNil))) (dCons (dCB tupleC (dCons (dVar 7) (dNil))) (dNil)))))))))))))))
def W_law_thing : Nat → SpD
  | 0 => fun _ _ _ _ => False
  | n + 1 => bodyD (B_law_thing (W_law_thing n)) N__law_thing
theorem E_law_thing {a0 a1 a2 : D} {n : Nat} {M : Mem} {Q : QD} {Xd : XD} (h : (sSeq (sAsg (dCall W_law_span [] (dCons (dVar 0) (dCons (dVar 1) (dNil)))) (gTp 2 (gCo (gNm 3) (gCo (gNm 4) (gNi))))) (sSeq (sSet 5 (dCall W_law_of [] (dCons (dVar 0) (dCons (dLst (dCons (dC (.str "here")) (dCons (dC (.str "away")) (dNil)))) (dNil))))) (sSeq (sIf (tAndD (tNotD (dTru (dVar 2))) (tOrD (dTst (dOp eqD (dOp ixD (dVar 1) (dC (.str "steps"))) (dC (.int 0)))) (tOrD (dTst (dOp eqD (dOp ixD (dVar 1) (dC (.str "things"))) (dC (.int 0)))) (dTst (dOp gtD (dCall W_law_draw [] (dCons (dVar 0) (dCons (dC (.int 3)) (dNil)))) (dC (.int 0))))))) (sRet (dTup (dCons (dC (.str "raw")) (dCons (dVar 5) (dCons (dVar 3) (dCons (dVar 4) (dNil))))))) (sNx)) (sSeq (sAsg (dOp subD (dOp ixD (dVar 1) (dC (.str "steps"))) (dC (.int 1))) (gSb (dVar 1) (dC (.str "steps")))) (sSeq (sSet 6 (dOp addD (dC (.int 1)) (dCall W_law_draw [] (dCons (dVar 0) (dCons (dCB (int2C (fun i j => if j < i then j else i)) (dCons (dC (.int 3)) (dCons (dOp ixD (dVar 1) (dC (.str "things"))) (dNil)))) (dNil)))))) (sSeq (sAsg (dTup (dCons (dOp subD (dOp ixD (dVar 1) (dC (.str "things"))) (dVar 6)) (dCons (dLstO (dNil)) (dNil)))) (gTp 2 (gCo (gSb (dVar 1) (dC (.str "things"))) (gCo (gNm 7) (gNi))))) (sSeq (sFor (iRngD (dCons (dVar 6) (dNil))) (gNm 8) (sExpr (dApp (dVar 7) (dCall (W_law_thing n) [] (dCons (dVar 0) (dCons (dVar 1) (dCons (dC (.bl false)) (dNil)))))))) (sRet (dTup (dCons (dC (.str "made")) (dCons (dVar 5) (dCons (dVar 3) (dCons (dVar 4) (dCons (dCall W_law_term [] (dCons (dVar 0) (dNil))) (dCons (dCB tupleC (dCons (dVar 7) (dNil))) (dNil)))))))))))))))) ⟨fun _ M' => Lo Q .non M', Lo Q, fun _ _ => False, fun _ _ => False, Xd⟩ [some a0, some a1, some a2, none, none, none, none, none, none] M) : W_law_thing (n + 1) [a0, a1, a2] M Q Xd := h
def N__law_good : List Str := ["m", "moving", "making", "left", "found"]
def B_law_good : TSD := sSeq (sSet 3 (dDct [(.inr "moves", dCall W_law_draw [] (dCons (dVar 0) (dCons (dOp addD (dVar 1) (dC (.int 1))) (dNil)))), (.inr "steps", dOp addD (dC (.int 1)) (dCall W_law_draw [] (dCons (dVar 0) (dCons (dVar 2) (dNil))))), (.inr "things", dC (.int 9))])) (sSeq (sSet 4 (dCall (W_law_thing 8) [] (dCons (dVar 0) (dCons (dVar 3) (dCons (dC (.bl true)) (dNil)))))) (sRet (dOp addD (dOp addD (dSl (dVar 4) (oNo) (oSo (dC (.int 2)))) (dTup (dCons (dCB (int2C (fun i j => if j > i then j else i)) (dCons (dC (.int 1)) (dCons (dOp ixD (dVar 4) (dC (.int 2))) (dNil)))) (dCons (dCB (int2C (fun i j => if j > i then j else i)) (dCons (dC (.int 1)) (dCons (dOp ixD (dVar 4) (dC (.int 3))) (dNil)))) (dNil))))) (dSl (dVar 4) (oSo (dC (.int 4))) (oNo)))))
def W_law_good : SpD := bodyD B_law_good N__law_good
theorem E_law_good {a0 a1 a2 : D} {M : Mem} {Q : QD} {Xd : XD} (h : (sSeq (sSet 3 (dDct [(.inr "moves", dCall W_law_draw [] (dCons (dVar 0) (dCons (dOp addD (dVar 1) (dC (.int 1))) (dNil)))), (.inr "steps", dOp addD (dC (.int 1)) (dCall W_law_draw [] (dCons (dVar 0) (dCons (dVar 2) (dNil))))), (.inr "things", dC (.int 9))])) (sSeq (sSet 4 (dCall (W_law_thing 8) [] (dCons (dVar 0) (dCons (dVar 3) (dCons (dC (.bl true)) (dNil)))))) (sRet (dOp addD (dOp addD (dSl (dVar 4) (oNo) (oSo (dC (.int 2)))) (dTup (dCons (dCB (int2C (fun i j => if j > i then j else i)) (dCons (dC (.int 1)) (dCons (dOp ixD (dVar 4) (dC (.int 2))) (dNil)))) (dCons (dCB (int2C (fun i j => if j > i then j else i)) (dCons (dC (.int 1)) (dCons (dOp ixD (dVar 4) (dC (.int 3))) (dNil)))) (dNil))))) (dSl (dVar 4) (oSo (dC (.int 4))) (oNo)))))) ⟨fun _ M' => Lo Q .non M', Lo Q, fun _ _ => False, fun _ _ => False, Xd⟩ [some a0, some a1, some a2, none, none] M) : W_law_good [a0, a1, a2] M Q Xd := h
def N__law_rows : List Str := ["thing", "begin", "found", "numbers", "part"]
def B_law_rows (self : SpD) : TSD := sSeq (sPar 2 3 (dCons (dLst (dNil)) (dCons (dLst (dNil)) (dNil)))) (sSeq (sFor (iSeqD (dIte (dTst (dOp eqD (dOp ixD (dVar 0) (dC (.int 0))) (dC (.str "made")))) (dOp ixD (dVar 0) (dC (.int 5))) (dTup (dNil)))) (gNm 4) (sSeq (sSet 3 (dOp addD (dVar 3) (dLst (dCons (dOp addD (dOp addD (dVar 1) (dC (.int 1))) (dCB lenC (dCons (dVar 2) (dNil)))) (dNil))))) (sSet 2 (dOp addD (dVar 2) (dCall self [] (dCons (dVar 4) (dCons (dOp addD (dOp addD (dVar 1) (dC (.int 1))) (dCB lenC (dCons (dVar 2) (dNil)))) (dNil)))))))) (sRet (dOp addD (dLst (dCons (dTup (dCons (dVar 0) (dCons (dVar 3) (dNil)))) (dNil))) (dVar 2))))
def W_law_rows : Nat → SpD
  | 0 => fun _ _ _ _ => False
  | n + 1 => bodyD (B_law_rows (W_law_rows n)) N__law_rows
theorem E_law_rows {a0 a1 : D} {n : Nat} {M : Mem} {Q : QD} {Xd : XD} (h : (sSeq (sPar 2 3 (dCons (dLst (dNil)) (dCons (dLst (dNil)) (dNil)))) (sSeq (sFor (iSeqD (dIte (dTst (dOp eqD (dOp ixD (dVar 0) (dC (.int 0))) (dC (.str "made")))) (dOp ixD (dVar 0) (dC (.int 5))) (dTup (dNil)))) (gNm 4) (sSeq (sSet 3 (dOp addD (dVar 3) (dLst (dCons (dOp addD (dOp addD (dVar 1) (dC (.int 1))) (dCB lenC (dCons (dVar 2) (dNil)))) (dNil))))) (sSet 2 (dOp addD (dVar 2) (dCall (W_law_rows n) [] (dCons (dVar 4) (dCons (dOp addD (dOp addD (dVar 1) (dC (.int 1))) (dCB lenC (dCons (dVar 2) (dNil)))) (dNil)))))))) (sRet (dOp addD (dLst (dCons (dTup (dCons (dVar 0) (dCons (dVar 3) (dNil)))) (dNil))) (dVar 2))))) ⟨fun _ M' => Lo Q .non M', Lo Q, fun _ _ => False, fun _ _ => False, Xd⟩ [some a0, some a1, none, none, none] M) : W_law_rows (n + 1) [a0, a1] M Q Xd := h
def N__law_least : List Str := ["part", "of", "one", "two", "sign"]
def B_law_least : TSD := sSeq (sPar 2 3 (dCons (dCB absC (dCons (dVar 0) (dNil))) (dCons (dCB absC (dCons (dVar 1) (dNil))) (dNil)))) (sSeq (sWhile (dTst (dOp neD (dVar 3) (dC (.int 0)))) (sPar 2 3 (dCons (dVar 3) (dCons (dOp modD (dCB intC (dCons (dVar 2) (dNil))) (dVar 3)) (dNil))))) (sSeq (sSet 4 (dIte (dTst (dOp gtD (dVar 1) (dC (.int 0)))) (dC (.int 1)) (dNeg (dC (.int 1))))) (sRet (dTup (dCons (dOp fdivD (dOp mulD (dVar 4) (dVar 0)) (dVar 2)) (dCons (dOp fdivD (dOp mulD (dVar 4) (dVar 1)) (dVar 2)) (dNil)))))))
def W_law_least : SpD := bodyD B_law_least N__law_least
theorem E_law_least {a0 a1 : D} {M : Mem} {Q : QD} {Xd : XD} (h : (sSeq (sPar 2 3 (dCons (dCB absC (dCons (dVar 0) (dNil))) (dCons (dCB absC (dCons (dVar 1) (dNil))) (dNil)))) (sSeq (sWhile (dTst (dOp neD (dVar 3) (dC (.int 0)))) (sPar 2 3 (dCons (dVar 3) (dCons (dOp modD (dCB intC (dCons (dVar 2) (dNil))) (dVar 3)) (dNil))))) (sSeq (sSet 4 (dIte (dTst (dOp gtD (dVar 1) (dC (.int 0)))) (dC (.int 1)) (dNeg (dC (.int 1))))) (sRet (dTup (dCons (dOp fdivD (dOp mulD (dVar 4) (dVar 0)) (dVar 2)) (dCons (dOp fdivD (dOp mulD (dVar 4) (dVar 1)) (dVar 2)) (dNil)))))))) ⟨fun _ M' => Lo Q .non M', Lo Q, fun _ _ => False, fun _ _ => False, Xd⟩ [some a0, some a1, none, none, none] M) : W_law_least [a0, a1] M Q Xd := h
def N__law_sum : List Str := ["some", "part", "of", "one"]
def B_law_sum : TSD := sSeq (sAsg (dTup (dCons (dC (.int 0)) (dCons (dC (.int 1)) (dNil)))) (gTp 2 (gCo (gNm 1) (gCo (gNm 2) (gNi))))) (sSeq (sFor (iSeqD (dVar 0)) (gNm 3) (sPar 1 2 (dCons (dOp addD (dOp mulD (dVar 1) (dOp ixD (dVar 3) (dC (.int 1)))) (dOp mulD (dOp ixD (dVar 3) (dC (.int 0))) (dVar 2))) (dCons (dOp mulD (dVar 2) (dOp ixD (dVar 3) (dC (.int 1)))) (dNil))))) (sRet (dCall W_law_least [] (dCons (dVar 1) (dCons (dVar 2) (dNil))))))
def W_law_sum : SpD := bodyD B_law_sum N__law_sum
theorem E_law_sum {a0 : D} {M : Mem} {Q : QD} {Xd : XD} (h : (sSeq (sAsg (dTup (dCons (dC (.int 0)) (dCons (dC (.int 1)) (dNil)))) (gTp 2 (gCo (gNm 1) (gCo (gNm 2) (gNi))))) (sSeq (sFor (iSeqD (dVar 0)) (gNm 3) (sPar 1 2 (dCons (dOp addD (dOp mulD (dVar 1) (dOp ixD (dVar 3) (dC (.int 1)))) (dOp mulD (dOp ixD (dVar 3) (dC (.int 0))) (dVar 2))) (dCons (dOp mulD (dVar 2) (dOp ixD (dVar 3) (dC (.int 1)))) (dNil))))) (sRet (dCall W_law_least [] (dCons (dVar 1) (dCons (dVar 2) (dNil))))))) ⟨fun _ M' => Lo Q .non M', Lo Q, fun _ _ => False, fun _ _ => False, Xd⟩ [some a0, none, none, none] M) : W_law_sum [a0] M Q Xd := h
def N__law_counted : List Str := ["thing", "own", "cost", "share", "up", "down"]
def B_law_counted : TSD := sSeq (sIf (dTst (dOp eqD (dOp ixD (dVar 0) (dC (.int 0))) (dC (.str "raw")))) (sRet (dVar 1)) (sNx)) (sSeq (sAsg (dOp ixD (dVar 0) (dC (.int 4))) (gTp 3 (gCo (gNm 3) (gCo (gNm 4) (gCo (gNm 5) (gNi)))))) (sSeq (sIf (dTst (dOp geD (dOp mulD (dOp mulD (dC (.int 100)) (dOp ixD (dVar 1) (dC (.int 0)))) (dOp ixD (dVar 2) (dC (.int 1)))) (dOp mulD (dOp mulD (dVar 3) (dOp ixD (dVar 2) (dC (.int 0)))) (dOp ixD (dVar 1) (dC (.int 1)))))) (sRet (dIte (dTst (dOp eqD (dVar 4) (dC (.str "whole")))) (dVar 2) (dVar 1))) (sNx)) (sRet (dIte (dTst (dOp eqD (dVar 5) (dC (.str "own")))) (dVar 1) (dTup (dCons (dC (.int 0)) (dCons (dC (.int 1)) (dNil))))))))
def W_law_counted : SpD := bodyD B_law_counted N__law_counted
theorem E_law_counted {a0 a1 a2 : D} {M : Mem} {Q : QD} {Xd : XD} (h : (sSeq (sIf (dTst (dOp eqD (dOp ixD (dVar 0) (dC (.int 0))) (dC (.str "raw")))) (sRet (dVar 1)) (sNx)) (sSeq (sAsg (dOp ixD (dVar 0) (dC (.int 4))) (gTp 3 (gCo (gNm 3) (gCo (gNm 4) (gCo (gNm 5) (gNi)))))) (sSeq (sIf (dTst (dOp geD (dOp mulD (dOp mulD (dC (.int 100)) (dOp ixD (dVar 1) (dC (.int 0)))) (dOp ixD (dVar 2) (dC (.int 1)))) (dOp mulD (dOp mulD (dVar 3) (dOp ixD (dVar 2) (dC (.int 0)))) (dOp ixD (dVar 1) (dC (.int 1)))))) (sRet (dIte (dTst (dOp eqD (dVar 4) (dC (.str "whole")))) (dVar 2) (dVar 1))) (sNx)) (sRet (dIte (dTst (dOp eqD (dVar 5) (dC (.str "own")))) (dVar 1) (dTup (dCons (dC (.int 0)) (dCons (dC (.int 1)) (dNil))))))))) ⟨fun _ M' => Lo Q .non M', Lo Q, fun _ _ => False, fun _ _ => False, Xd⟩ [some a0, some a1, some a2, none, none, none] M) : W_law_counted [a0, a1, a2] M Q Xd := h
def N__law_reckoned : List Str := ["good", "row", "rows", "known", "k", "thing", "numbers", "cost", "j", "mine", "own", "word"]
def B_law_reckoned : TSD := sSeq (sAsg (dTup (dCons (dCall (W_law_rows 8) [] (dCons (dVar 0) (dCons (dC (.int 0)) (dNil)))) (dCons (dDctN) (dNil)))) (gTp 2 (gCo (gNm 2) (gCo (gNm 3) (gNi))))) (sSeq (sFor (iSeqD (dRev (dLstRg (rg1 (dCB lenC (dCons (dVar 2) (dNil))))))) (gNm 4) (sSeq (sAsg (dOp ixD (dVar 2) (dVar 4)) (gTp 2 (gCo (gNm 5) (gCo (gNm 6) (gNi))))) (sSeq (sSet 7 (dCall W_law_sum [] (dCons (dOp addD (dLst (dCons (dOp ixD (dVar 1) (dVar 4)) (dNil))) (dLc (iSeqD (dVar 6)) (gNm 8) (tYesD) (dOp ixD (dOp ixD (dVar 3) (dVar 8)) (dC (.int 0))) [8])) (dNil)))) (sSeq (sSet 9 (dIte (dTst (dOp eqD (dOp ixD (dVar 5) (dC (.int 1))) (dC (.str "here")))) (dLst (dCons (dOp ixD (dVar 1) (dVar 4)) (dNil))) (dLst (dNil)))) (sSeq (sSet 10 (dCall W_law_sum [] (dCons (dOp addD (dVar 9) (dLc (iSeqD (dVar 6)) (gNm 8) (tYesD) (dOp ixD (dOp ixD (dVar 3) (dVar 8)) (dC (.int 2))) [8])) (dNil)))) (sSeq (sSet 11 (dC .non)) (sSeq (sIf (dTst (dOp eqD (dOp ixD (dVar 5) (dC (.int 0))) (dC (.str "made")))) (sSet 11 (dCB intC (dCons (dOp geD (dOp mulD (dOp mulD (dC (.int 100)) (dOp ixD (dVar 10) (dC (.int 0)))) (dOp ixD (dVar 7) (dC (.int 1)))) (dOp mulD (dOp mulD (dOp ixD (dOp ixD (dVar 5) (dC (.int 4))) (dC (.int 0))) (dOp ixD (dVar 7) (dC (.int 0)))) (dOp ixD (dVar 10) (dC (.int 1))))) (dNil)))) (sNx)) (sAsg (dTup (dCons (dVar 7) (dCons (dVar 10) (dCons (dCall W_law_counted [] (dCons (dVar 5) (dCons (dVar 10) (dCons (dVar 7) (dNil))))) (dCons (dVar 11) (dNil)))))) (gSb (dVar 3) (dVar 4)))))))))) (sRet (dLc (iRngD (dCons (dCB lenC (dCons (dVar 2) (dNil))) (dNil))) (gNm 4) (tYesD) (dOp ixD (dVar 3) (dVar 4)) [4])))
def W_law_reckoned : SpD := bodyD B_law_reckoned N__law_reckoned
theorem E_law_reckoned {a0 a1 : D} {M : Mem} {Q : QD} {Xd : XD} (h : (sSeq (sAsg (dTup (dCons (dCall (W_law_rows 8) [] (dCons (dVar 0) (dCons (dC (.int 0)) (dNil)))) (dCons (dDctN) (dNil)))) (gTp 2 (gCo (gNm 2) (gCo (gNm 3) (gNi))))) (sSeq (sFor (iSeqD (dRev (dLstRg (rg1 (dCB lenC (dCons (dVar 2) (dNil))))))) (gNm 4) (sSeq (sAsg (dOp ixD (dVar 2) (dVar 4)) (gTp 2 (gCo (gNm 5) (gCo (gNm 6) (gNi))))) (sSeq (sSet 7 (dCall W_law_sum [] (dCons (dOp addD (dLst (dCons (dOp ixD (dVar 1) (dVar 4)) (dNil))) (dLc (iSeqD (dVar 6)) (gNm 8) (tYesD) (dOp ixD (dOp ixD (dVar 3) (dVar 8)) (dC (.int 0))) [8])) (dNil)))) (sSeq (sSet 9 (dIte (dTst (dOp eqD (dOp ixD (dVar 5) (dC (.int 1))) (dC (.str "here")))) (dLst (dCons (dOp ixD (dVar 1) (dVar 4)) (dNil))) (dLst (dNil)))) (sSeq (sSet 10 (dCall W_law_sum [] (dCons (dOp addD (dVar 9) (dLc (iSeqD (dVar 6)) (gNm 8) (tYesD) (dOp ixD (dOp ixD (dVar 3) (dVar 8)) (dC (.int 2))) [8])) (dNil)))) (sSeq (sSet 11 (dC .non)) (sSeq (sIf (dTst (dOp eqD (dOp ixD (dVar 5) (dC (.int 0))) (dC (.str "made")))) (sSet 11 (dCB intC (dCons (dOp geD (dOp mulD (dOp mulD (dC (.int 100)) (dOp ixD (dVar 10) (dC (.int 0)))) (dOp ixD (dVar 7) (dC (.int 1)))) (dOp mulD (dOp mulD (dOp ixD (dOp ixD (dVar 5) (dC (.int 4))) (dC (.int 0))) (dOp ixD (dVar 7) (dC (.int 0)))) (dOp ixD (dVar 10) (dC (.int 1))))) (dNil)))) (sNx)) (sAsg (dTup (dCons (dVar 7) (dCons (dVar 10) (dCons (dCall W_law_counted [] (dCons (dVar 5) (dCons (dVar 10) (dCons (dVar 7) (dNil))))) (dCons (dVar 11) (dNil)))))) (gSb (dVar 3) (dVar 4)))))))))) (sRet (dLc (iRngD (dCons (dCB lenC (dCons (dVar 2) (dNil))) (dNil))) (gNm 4) (tYesD) (dOp ixD (dVar 3) (dVar 4)) [4])))) ⟨fun _ M' => Lo Q .non M', Lo Q, fun _ _ => False, fun _ _ => False, Xd⟩ [some a0, some a1, none, none, none, none, none, none, none, none, none, none] M) : W_law_reckoned [a0, a1] M Q Xd := h
def N__law_words : List Str := ["good", "row", "one"]
def B_law_words : TSD := sRet (dCB tupleC (dCons (dLc (iSeqD (dCall W_law_reckoned [] (dCons (dVar 0) (dCons (dVar 1) (dNil))))) (gNm 2) (dTst (dOp isNotD (dOp ixD (dVar 2) (dC (.int 3))) (dC .non))) (dOp ixD (dVar 2) (dC (.int 3))) [2]) (dNil)))
def W_law_words : SpD := bodyD B_law_words N__law_words
theorem E_law_words {a0 a1 : D} {M : Mem} {Q : QD} {Xd : XD} (h : (sRet (dCB tupleC (dCons (dLc (iSeqD (dCall W_law_reckoned [] (dCons (dVar 0) (dCons (dVar 1) (dNil))))) (gNm 2) (dTst (dOp isNotD (dOp ixD (dVar 2) (dC (.int 3))) (dC .non))) (dOp ixD (dVar 2) (dC (.int 3))) [2]) (dNil)))) ⟨fun _ M' => Lo Q .non M', Lo Q, fun _ _ => False, fun _ _ => False, Xd⟩ [some a0, some a1, none] M) : W_law_words [a0, a1] M Q Xd := h
def N__law_portion : List Str := ["good", "row", "cost", "own"]
def B_law_portion : TSD := sSeq (sAsg (dSl (dOp ixD (dCall W_law_reckoned [] (dCons (dVar 0) (dCons (dVar 1) (dNil)))) (dC (.int 0))) (oNo) (oSo (dC (.int 2)))) (gTp 2 (gCo (gNm 2) (gCo (gNm 3) (gNi))))) (sRet (dCall W_law_least [] (dCons (dOp mulD (dOp ixD (dVar 3) (dC (.int 0))) (dOp ixD (dVar 2) (dC (.int 1)))) (dCons (dOp mulD (dOp ixD (dVar 3) (dC (.int 1))) (dOp ixD (dVar 2) (dC (.int 0)))) (dNil)))))
def W_law_portion : SpD := bodyD B_law_portion N__law_portion
theorem E_law_portion {a0 a1 : D} {M : Mem} {Q : QD} {Xd : XD} (h : (sSeq (sAsg (dSl (dOp ixD (dCall W_law_reckoned [] (dCons (dVar 0) (dCons (dVar 1) (dNil)))) (dC (.int 0))) (oNo) (oSo (dC (.int 2)))) (gTp 2 (gCo (gNm 2) (gCo (gNm 3) (gNi))))) (sRet (dCall W_law_least [] (dCons (dOp mulD (dOp ixD (dVar 3) (dC (.int 0))) (dOp ixD (dVar 2) (dC (.int 1)))) (dCons (dOp mulD (dOp ixD (dVar 3) (dC (.int 1))) (dOp ixD (dVar 2) (dC (.int 0)))) (dNil)))))) ⟨fun _ M' => Lo Q .non M', Lo Q, fun _ _ => False, fun _ _ => False, Xd⟩ [some a0, some a1, none, none] M) : W_law_portion [a0, a1] M Q Xd := h
def N__law_prices : List Str := ["m", "good", "found", "thing", "numbers", "low", "high", "of", "part"]
def B_law_prices : TSD := sSeq (sSet 2 (dLstO (dNil))) (sSeq (sFor (iSeqD (dCall (W_law_rows 8) [] (dCons (dVar 1) (dCons (dC (.int 0)) (dNil))))) (gTp 2 (gCo (gNm 3) (gCo (gNm 4) (gNi)))) (sSeq (sPar 5 6 (dCons (dOp ixD (dVar 3) (dC (.int 2))) (dCons (dOp ixD (dVar 3) (dC (.int 3))) (dNil)))) (sSeq (sSet 7 (dCall W_law_of [] (dCons (dVar 0) (dCons (dLst (dCons (dC (.int 1)) (dCons (dC (.int 1)) (dCons (dC (.int 2)) (dCons (dC (.int 3)) (dCons (dC (.int 7)) (dCons (dC (.int 100)) (dNil)))))))) (dNil))))) (sSeq (sSet 8 (dCall W_law_of [] (dCons (dVar 0) (dCons (dLst (dCons (dC (.int 0)) (dCons (dOp mulD (dOp subD (dVar 6) (dVar 5)) (dVar 7)) (dCons (dCall W_law_draw [] (dCons (dVar 0) (dCons (dOp addD (dOp mulD (dOp subD (dVar 6) (dVar 5)) (dVar 7)) (dC (.int 1))) (dNil)))) (dNil))))) (dNil))))) (sExpr (dApp (dVar 2) (dCall W_law_least [] (dCons (dOp addD (dOp mulD (dVar 5) (dVar 7)) (dVar 8)) (dCons (dVar 7) (dNil)))))))))) (sRet (dCB tupleC (dCons (dVar 2) (dNil)))))
def W_law_prices : SpD := bodyD B_law_prices N__law_prices
theorem E_law_prices {a0 a1 : D} {M : Mem} {Q : QD} {Xd : XD} (h : (sSeq (sSet 2 (dLstO (dNil))) (sSeq (sFor (iSeqD (dCall (W_law_rows 8) [] (dCons (dVar 1) (dCons (dC (.int 0)) (dNil))))) (gTp 2 (gCo (gNm 3) (gCo (gNm 4) (gNi)))) (sSeq (sPar 5 6 (dCons (dOp ixD (dVar 3) (dC (.int 2))) (dCons (dOp ixD (dVar 3) (dC (.int 3))) (dNil)))) (sSeq (sSet 7 (dCall W_law_of [] (dCons (dVar 0) (dCons (dLst (dCons (dC (.int 1)) (dCons (dC (.int 1)) (dCons (dC (.int 2)) (dCons (dC (.int 3)) (dCons (dC (.int 7)) (dCons (dC (.int 100)) (dNil)))))))) (dNil))))) (sSeq (sSet 8 (dCall W_law_of [] (dCons (dVar 0) (dCons (dLst (dCons (dC (.int 0)) (dCons (dOp mulD (dOp subD (dVar 6) (dVar 5)) (dVar 7)) (dCons (dCall W_law_draw [] (dCons (dVar 0) (dCons (dOp addD (dOp mulD (dOp subD (dVar 6) (dVar 5)) (dVar 7)) (dC (.int 1))) (dNil)))) (dNil))))) (dNil))))) (sExpr (dApp (dVar 2) (dCall W_law_least [] (dCons (dOp addD (dOp mulD (dVar 5) (dVar 7)) (dVar 8)) (dCons (dVar 7) (dNil)))))))))) (sRet (dCB tupleC (dCons (dVar 2) (dNil)))))) ⟨fun _ M' => Lo Q .non M', Lo Q, fun _ _ => False, fun _ _ => False, Xd⟩ [some a0, some a1, none, none, none, none, none, none, none] M) : W_law_prices [a0, a1] M Q Xd := h
def N__law_right : List Str := ["good", "row", "found", "due", "one", "k", "words", "again", "told"]
def B_law_right : TSD := sSeq (sSet 2 (dCall W_law_reckoned [] (dCons (dVar 0) (dCons (dVar 1) (dNil))))) (sSeq (sSet 3 (dLc (iRngD (dCons (dC (.int 3)) (dNil))) (gNm 5) (tYesD) (dCB tupleC (dCons (dLc (iSeqD (dVar 2)) (gNm 4) (tYesD) (dOp ixD (dVar 4) (dVar 5)) [4]) (dNil))) [5])) (sSeq (sSet 6 (dCall W_law_words [] (dCons (dVar 0) (dCons (dVar 1) (dNil))))) (sSeq (sFor (iRngD (dCons (dC (.int 2)) (dNil))) (gNm 7) (sSeq (sSet 8 (dLst (dCons (dCall Wcosts [] (dCons (dVar 0) (dCons (dVar 1) (dNil)))) (dCons (dCall Wowns [] (dCons (dVar 0) (dCons (dVar 1) (dNil)))) (dCons (dCall Wcounted [] (dCons (dVar 0) (dCons (dVar 1) (dNil)))) (dNil)))))) (sSeq (sIf (tOrD (dTst (dOp neD (dCB reprC (dCons (dVar 8) (dNil))) (dCB reprC (dCons (dVar 3) (dNil))))) (dTst (dOp neD (dCB reprC (dCons (dCall Wwords_at [] (dCons (dVar 0) (dCons (dVar 1) (dNil)))) (dNil))) (dCB reprC (dCons (dVar 6) (dNil)))))) (sRet (dC (.bl false))) (sNx)) (sIf (dTst (dOp neD (dCB reprC (dCons (dLst (dCons (dCall Wis_of_here [] (dCons (dVar 0) (dCons (dVar 1) (dNil)))) (dCons (dCall Wportion [] (dCons (dVar 0) (dCons (dVar 1) (dNil)))) (dNil)))) (dNil))) (dCB reprC (dCons (dLst (dCons (dOp eqD (dOp ixD (dVar 6) (dC (.int 0))) (dC (.int 1))) (dCons (dCall W_law_portion [] (dCons (dVar 0) (dCons (dVar 1) (dNil)))) (dNil)))) (dNil))))) (sRet (dC (.bl false))) (sNx))))) (sRet (dC (.bl true))))))
def W_law_right : SpD := bodyD B_law_right N__law_right
theorem E_law_right {a0 a1 : D} {M : Mem} {Q : QD} {Xd : XD} (h : (sSeq (sSet 2 (dCall W_law_reckoned [] (dCons (dVar 0) (dCons (dVar 1) (dNil))))) (sSeq (sSet 3 (dLc (iRngD (dCons (dC (.int 3)) (dNil))) (gNm 5) (tYesD) (dCB tupleC (dCons (dLc (iSeqD (dVar 2)) (gNm 4) (tYesD) (dOp ixD (dVar 4) (dVar 5)) [4]) (dNil))) [5])) (sSeq (sSet 6 (dCall W_law_words [] (dCons (dVar 0) (dCons (dVar 1) (dNil))))) (sSeq (sFor (iRngD (dCons (dC (.int 2)) (dNil))) (gNm 7) (sSeq (sSet 8 (dLst (dCons (dCall Wcosts [] (dCons (dVar 0) (dCons (dVar 1) (dNil)))) (dCons (dCall Wowns [] (dCons (dVar 0) (dCons (dVar 1) (dNil)))) (dCons (dCall Wcounted [] (dCons (dVar 0) (dCons (dVar 1) (dNil)))) (dNil)))))) (sSeq (sIf (tOrD (dTst (dOp neD (dCB reprC (dCons (dVar 8) (dNil))) (dCB reprC (dCons (dVar 3) (dNil))))) (dTst (dOp neD (dCB reprC (dCons (dCall Wwords_at [] (dCons (dVar 0) (dCons (dVar 1) (dNil)))) (dNil))) (dCB reprC (dCons (dVar 6) (dNil)))))) (sRet (dC (.bl false))) (sNx)) (sIf (dTst (dOp neD (dCB reprC (dCons (dLst (dCons (dCall Wis_of_here [] (dCons (dVar 0) (dCons (dVar 1) (dNil)))) (dCons (dCall Wportion [] (dCons (dVar 0) (dCons (dVar 1) (dNil)))) (dNil)))) (dNil))) (dCB reprC (dCons (dLst (dCons (dOp eqD (dOp ixD (dVar 6) (dC (.int 0))) (dC (.int 1))) (dCons (dCall W_law_portion [] (dCons (dVar 0) (dCons (dVar 1) (dNil)))) (dNil)))) (dNil))))) (sRet (dC (.bl false))) (sNx))))) (sRet (dC (.bl true))))))) ⟨fun _ M' => Lo Q .non M', Lo Q, fun _ _ => False, fun _ _ => False, Xd⟩ [some a0, some a1, none, none, none, none, none, none, none] M) : W_law_right [a0, a1] M Q Xd := h
def N_law : List Str := ["script", "m", "lap", "good", "again", "row", "kept", "inner", "told", "due", "one"]
def Blaw : TSD := sSeq (sSet 1 (dCall W_law_begun [] (dCons (dVar 0) (dNil)))) (sSeq (sFor (iRngD (dCons (dOp addD (dC (.int 8)) (dCB (int2C (fun i j => if j < i then j else i)) (dCons (dCB lenC (dCons (dVar 0) (dNil))) (dCons (dC (.int 16)) (dNil))))) (dNil))) (gNm 2) (sSeq (sSet 3 (dCall W_law_good [] (dCons (dVar 1) (dCons (dC (.int 3)) (dCons (dC (.int 4)) (dNil)))))) (sFor (iRngD (dCons (dC (.int 4)) (dNil))) (gNm 4) (sSeq (sSet 5 (dCall W_law_prices [] (dCons (dVar 1) (dCons (dVar 3) (dNil))))) (sSeq (sSet 6 (dCB reprC (dCons (dLst (dCons (dVar 3) (dCons (dVar 5) (dNil)))) (dNil)))) (sIf (tOrD (tNotD (dTru (dCall W_law_right [] (dCons (dVar 3) (dCons (dVar 5) (dNil)))))) (dTst (dOp neD (dCB reprC (dCons (dLst (dCons (dVar 3) (dCons (dVar 5) (dNil)))) (dNil))) (dVar 6)))) (sRet (dC (.bl false))) (sNx))))))) (sSeq (sSet 7 (dTup (dCons (dC (.str "made")) (dCons (dC (.str "here")) (dCons (dC (.int 2)) (dCons (dC (.int 2)) (dCons (dTup (dCons (dC (.int 50)) (dCons (dC (.str "whole")) (dCons (dC (.str "none")) (dNil))))) (dCons (dTup (dCons (dTup (dCons (dC (.str "raw")) (dCons (dC (.str "away")) (dCons (dC (.int 1)) (dCons (dC (.int 5)) (dNil)))))) (dCons (dTup (dCons (dC (.str "raw")) (dCons (dC (.str "here")) (dCons (dC (.int 1)) (dCons (dC (.int 1)) (dNil)))))) (dNil)))) (dNil))))))))) (sSeq (sSet 3 (dTup (dCons (dC (.str "made")) (dCons (dC (.str "away")) (dCons (dC (.int 1)) (dCons (dC (.int 1)) (dCons (dTup (dCons (dC (.int 60)) (dCons (dC (.str "own")) (dCons (dC (.str "own")) (dNil))))) (dCons (dTup (dCons (dVar 7) (dCons (dTup (dCons (dC (.str "raw")) (dCons (dC (.str "here")) (dCons (dC (.int 0)) (dCons (dC (.int 3)) (dNil)))))) (dNil)))) (dNil))))))))) (sSeq (sSet 5 (dTup (dCons (dTup (dCons (dC (.int 1)) (dCons (dC (.int 1)) (dNil)))) (dCons (dTup (dCons (dC (.int 2)) (dCons (dC (.int 1)) (dNil)))) (dCons (dTup (dCons (dC (.int 3)) (dCons (dC (.int 1)) (dNil)))) (dCons (dTup (dCons (dC (.int 1)) (dCons (dC (.int 1)) (dNil)))) (dCons (dTup (dCons (dC (.int 0)) (dCons (dC (.int 1)) (dNil)))) (dNil)))))))) (sSeq (sSet 8 (dLst (dCons (dCall Wcosts [] (dCons (dVar 3) (dCons (dVar 5) (dNil)))) (dCons (dCall Wowns [] (dCons (dVar 3) (dCons (dVar 5) (dNil)))) (dCons (dCall Wcounted [] (dCons (dVar 3) (dCons (dVar 5) (dNil)))) (dNil)))))) (sSeq (sSet 9 (dLst (dCons (dTup (dCons (dTup (dCons (dC (.int 7)) (dCons (dC (.int 1)) (dNil)))) (dCons (dTup (dCons (dC (.int 6)) (dCons (dC (.int 1)) (dNil)))) (dCons (dTup (dCons (dC (.int 3)) (dCons (dC (.int 1)) (dNil)))) (dCons (dTup (dCons (dC (.int 1)) (dCons (dC (.int 1)) (dNil)))) (dCons (dTup (dCons (dC (.int 0)) (dCons (dC (.int 1)) (dNil)))) (dNil))))))) (dCons (dTup (dCons (dTup (dCons (dC (.int 6)) (dCons (dC (.int 1)) (dNil)))) (dCons (dTup (dCons (dC (.int 3)) (dCons (dC (.int 1)) (dNil)))) (dCons (dTup (dCons (dC (.int 0)) (dCons (dC (.int 1)) (dNil)))) (dCons (dTup (dCons (dC (.int 1)) (dCons (dC (.int 1)) (dNil)))) (dCons (dTup (dCons (dC (.int 0)) (dCons (dC (.int 1)) (dNil)))) (dNil))))))) (dNil))))) (sSeq (sIf (tOrD (dTst (dOp neD (dVar 8) (dOp addD (dVar 9) (dLst (dCons (dTup (dCons (dTup (dCons (dC (.int 6)) (dCons (dC (.int 1)) (dNil)))) (dCons (dTup (dCons (dC (.int 6)) (dCons (dC (.int 1)) (dNil)))) (dCons (dTup (dCons (dC (.int 0)) (dCons (dC (.int 1)) (dNil)))) (dCons (dTup (dCons (dC (.int 1)) (dCons (dC (.int 1)) (dNil)))) (dCons (dTup (dCons (dC (.int 0)) (dCons (dC (.int 1)) (dNil)))) (dNil))))))) (dNil)))))) (dTst (dOp neD (dCall Wwords_at [] (dCons (dVar 3) (dCons (dVar 5) (dNil)))) (dTup (dCons (dC (.int 1)) (dCons (dC (.int 1)) (dNil))))))) (sRet (dC (.bl false))) (sNx)) (sSeq (sSet 10 (dTup (dCons (dC (.str "made")) (dCons (dC (.str "here")) (dCons (dC (.int 1)) (dCons (dC (.int 1)) (dCons (dTup (dCons (dC (.int 50)) (dCons (dC (.str "whole")) (dCons (dC (.str "own")) (dNil))))) (dCons (dTup (dCons (dTup (dCons (dC (.str "raw")) (dCons (dC (.str "away")) (dCons (dC (.int 0)) (dCons (dC (.int 9)) (dNil)))))) (dNil))) (dNil))))))))) (sSeq (sIf (tOrD (dTst (dOp neD (dCall Wwords_at [] (dCons (dVar 10) (dCons (dTup (dCons (dTup (dCons (dC (.int 1)) (dCons (dC (.int 1)) (dNil)))) (dCons (dTup (dCons (dC (.int 1)) (dCons (dC (.int 1)) (dNil)))) (dNil)))) (dNil)))) (dTup (dCons (dC (.int 1)) (dNil))))) (dTst (dOp neD (dCall Wwords_at [] (dCons (dVar 10) (dCons (dTup (dCons (dTup (dCons (dC (.int 1)) (dCons (dC (.int 1)) (dNil)))) (dCons (dTup (dCons (dC (.int 101)) (dCons (dC (.int 100)) (dNil)))) (dNil)))) (dNil)))) (dTup (dCons (dC (.int 0)) (dNil)))))) (sRet (dC (.bl false))) (sNx)) (sSeq (sSet 5 (dTup (dCons (dTup (dCons (dC (.int 1)) (dCons (dC (.int 1)) (dNil)))) (dCons (dTup (dCons (dC (.int 2)) (dCons (dC (.int 1)) (dNil)))) (dCons (dTup (dCons (dC (.int 7)) (dCons (dC (.int 2)) (dNil)))) (dCons (dTup (dCons (dC (.int 1)) (dCons (dC (.int 1)) (dNil)))) (dCons (dTup (dCons (dC (.int 1)) (dCons (dC (.int 2)) (dNil)))) (dNil)))))))) (sRet (dAnd (dOp eqD (dCall Wwords_at [] (dCons (dVar 3) (dCons (dVar 5) (dNil)))) (dTup (dCons (dC (.int 0)) (dCons (dC (.int 0)) (dNil))))) (dAnd (dOp eqD (dCall Wportion [] (dCons (dVar 3) (dCons (dVar 5) (dNil)))) (dTup (dCons (dC (.int 1)) (dCons (dC (.int 16)) (dNil))))) (dNot (dCall Wis_of_here [] (dCons (dVar 3) (dCons (dVar 5) (dNil))))))))))))))))))
def Wlaw : SpD := bodyD Blaw N_law
theorem Elaw {a0 : D} {M : Mem} {Q : QD} {Xd : XD} (h : (sSeq (sSet 1 (dCall W_law_begun [] (dCons (dVar 0) (dNil)))) (sSeq (sFor (iRngD (dCons (dOp addD (dC (.int 8)) (dCB (int2C (fun i j => if j < i then j else i)) (dCons (dCB lenC (dCons (dVar 0) (dNil))) (dCons (dC (.int 16)) (dNil))))) (dNil))) (gNm 2) (sSeq (sSet 3 (dCall W_law_good [] (dCons (dVar 1) (dCons (dC (.int 3)) (dCons (dC (.int 4)) (dNil)))))) (sFor (iRngD (dCons (dC (.int 4)) (dNil))) (gNm 4) (sSeq (sSet 5 (dCall W_law_prices [] (dCons (dVar 1) (dCons (dVar 3) (dNil))))) (sSeq (sSet 6 (dCB reprC (dCons (dLst (dCons (dVar 3) (dCons (dVar 5) (dNil)))) (dNil)))) (sIf (tOrD (tNotD (dTru (dCall W_law_right [] (dCons (dVar 3) (dCons (dVar 5) (dNil)))))) (dTst (dOp neD (dCB reprC (dCons (dLst (dCons (dVar 3) (dCons (dVar 5) (dNil)))) (dNil))) (dVar 6)))) (sRet (dC (.bl false))) (sNx))))))) (sSeq (sSet 7 (dTup (dCons (dC (.str "made")) (dCons (dC (.str "here")) (dCons (dC (.int 2)) (dCons (dC (.int 2)) (dCons (dTup (dCons (dC (.int 50)) (dCons (dC (.str "whole")) (dCons (dC (.str "none")) (dNil))))) (dCons (dTup (dCons (dTup (dCons (dC (.str "raw")) (dCons (dC (.str "away")) (dCons (dC (.int 1)) (dCons (dC (.int 5)) (dNil)))))) (dCons (dTup (dCons (dC (.str "raw")) (dCons (dC (.str "here")) (dCons (dC (.int 1)) (dCons (dC (.int 1)) (dNil)))))) (dNil)))) (dNil))))))))) (sSeq (sSet 3 (dTup (dCons (dC (.str "made")) (dCons (dC (.str "away")) (dCons (dC (.int 1)) (dCons (dC (.int 1)) (dCons (dTup (dCons (dC (.int 60)) (dCons (dC (.str "own")) (dCons (dC (.str "own")) (dNil))))) (dCons (dTup (dCons (dVar 7) (dCons (dTup (dCons (dC (.str "raw")) (dCons (dC (.str "here")) (dCons (dC (.int 0)) (dCons (dC (.int 3)) (dNil)))))) (dNil)))) (dNil))))))))) (sSeq (sSet 5 (dTup (dCons (dTup (dCons (dC (.int 1)) (dCons (dC (.int 1)) (dNil)))) (dCons (dTup (dCons (dC (.int 2)) (dCons (dC (.int 1)) (dNil)))) (dCons (dTup (dCons (dC (.int 3)) (dCons (dC (.int 1)) (dNil)))) (dCons (dTup (dCons (dC (.int 1)) (dCons (dC (.int 1)) (dNil)))) (dCons (dTup (dCons (dC (.int 0)) (dCons (dC (.int 1)) (dNil)))) (dNil)))))))) (sSeq (sSet 8 (dLst (dCons (dCall Wcosts [] (dCons (dVar 3) (dCons (dVar 5) (dNil)))) (dCons (dCall Wowns [] (dCons (dVar 3) (dCons (dVar 5) (dNil)))) (dCons (dCall Wcounted [] (dCons (dVar 3) (dCons (dVar 5) (dNil)))) (dNil)))))) (sSeq (sSet 9 (dLst (dCons (dTup (dCons (dTup (dCons (dC (.int 7)) (dCons (dC (.int 1)) (dNil)))) (dCons (dTup (dCons (dC (.int 6)) (dCons (dC (.int 1)) (dNil)))) (dCons (dTup (dCons (dC (.int 3)) (dCons (dC (.int 1)) (dNil)))) (dCons (dTup (dCons (dC (.int 1)) (dCons (dC (.int 1)) (dNil)))) (dCons (dTup (dCons (dC (.int 0)) (dCons (dC (.int 1)) (dNil)))) (dNil))))))) (dCons (dTup (dCons (dTup (dCons (dC (.int 6)) (dCons (dC (.int 1)) (dNil)))) (dCons (dTup (dCons (dC (.int 3)) (dCons (dC (.int 1)) (dNil)))) (dCons (dTup (dCons (dC (.int 0)) (dCons (dC (.int 1)) (dNil)))) (dCons (dTup (dCons (dC (.int 1)) (dCons (dC (.int 1)) (dNil)))) (dCons (dTup (dCons (dC (.int 0)) (dCons (dC (.int 1)) (dNil)))) (dNil))))))) (dNil))))) (sSeq (sIf (tOrD (dTst (dOp neD (dVar 8) (dOp addD (dVar 9) (dLst (dCons (dTup (dCons (dTup (dCons (dC (.int 6)) (dCons (dC (.int 1)) (dNil)))) (dCons (dTup (dCons (dC (.int 6)) (dCons (dC (.int 1)) (dNil)))) (dCons (dTup (dCons (dC (.int 0)) (dCons (dC (.int 1)) (dNil)))) (dCons (dTup (dCons (dC (.int 1)) (dCons (dC (.int 1)) (dNil)))) (dCons (dTup (dCons (dC (.int 0)) (dCons (dC (.int 1)) (dNil)))) (dNil))))))) (dNil)))))) (dTst (dOp neD (dCall Wwords_at [] (dCons (dVar 3) (dCons (dVar 5) (dNil)))) (dTup (dCons (dC (.int 1)) (dCons (dC (.int 1)) (dNil))))))) (sRet (dC (.bl false))) (sNx)) (sSeq (sSet 10 (dTup (dCons (dC (.str "made")) (dCons (dC (.str "here")) (dCons (dC (.int 1)) (dCons (dC (.int 1)) (dCons (dTup (dCons (dC (.int 50)) (dCons (dC (.str "whole")) (dCons (dC (.str "own")) (dNil))))) (dCons (dTup (dCons (dTup (dCons (dC (.str "raw")) (dCons (dC (.str "away")) (dCons (dC (.int 0)) (dCons (dC (.int 9)) (dNil)))))) (dNil))) (dNil))))))))) (sSeq (sIf (tOrD (dTst (dOp neD (dCall Wwords_at [] (dCons (dVar 10) (dCons (dTup (dCons (dTup (dCons (dC (.int 1)) (dCons (dC (.int 1)) (dNil)))) (dCons (dTup (dCons (dC (.int 1)) (dCons (dC (.int 1)) (dNil)))) (dNil)))) (dNil)))) (dTup (dCons (dC (.int 1)) (dNil))))) (dTst (dOp neD (dCall Wwords_at [] (dCons (dVar 10) (dCons (dTup (dCons (dTup (dCons (dC (.int 1)) (dCons (dC (.int 1)) (dNil)))) (dCons (dTup (dCons (dC (.int 101)) (dCons (dC (.int 100)) (dNil)))) (dNil)))) (dNil)))) (dTup (dCons (dC (.int 0)) (dNil)))))) (sRet (dC (.bl false))) (sNx)) (sSeq (sSet 5 (dTup (dCons (dTup (dCons (dC (.int 1)) (dCons (dC (.int 1)) (dNil)))) (dCons (dTup (dCons (dC (.int 2)) (dCons (dC (.int 1)) (dNil)))) (dCons (dTup (dCons (dC (.int 7)) (dCons (dC (.int 2)) (dNil)))) (dCons (dTup (dCons (dC (.int 1)) (dCons (dC (.int 1)) (dNil)))) (dCons (dTup (dCons (dC (.int 1)) (dCons (dC (.int 2)) (dNil)))) (dNil)))))))) (sRet (dAnd (dOp eqD (dCall Wwords_at [] (dCons (dVar 3) (dCons (dVar 5) (dNil)))) (dTup (dCons (dC (.int 0)) (dCons (dC (.int 0)) (dNil))))) (dAnd (dOp eqD (dCall Wportion [] (dCons (dVar 3) (dCons (dVar 5) (dNil)))) (dTup (dCons (dC (.int 1)) (dCons (dC (.int 16)) (dNil))))) (dNot (dCall Wis_of_here [] (dCons (dVar 3) (dCons (dVar 5) (dNil))))))))))))))))))) ⟨fun _ M' => Lo Q .non M', Lo Q, fun _ _ => False, fun _ _ => False, Xd⟩ [some a0, none, none, none, none, none, none, none, none, none, none] M) : Wlaw [a0] M Q Xd := h
end G_madeofhere_k04_whole_counts
set_option maxHeartbeats 4000000
namespace G_madeofhere_k04_whole_counts
open PySem PySem.Spec PyProof.Rows L2 DL
def topS (i : Nat) : Stmt := PySem.Challenge.pw_madeofhere_k04_whole_counts.main.body.getD i (.Pass ⟨0, 0, 0, 0⟩)
abbrev st_is_rule : Stmt := topS 17
theorem sc_is_rule : FnScope N_is_rule ["value"] (defScope st_is_rule) := ⟨rfl, rfl, rfl, by decide +kernel, rfl, by decide +kernel, by decide +kernel⟩
abbrev st__need_bounds : Stmt := topS 18
theorem sc__need_bounds : FnScope N__need_bounds ["number", "land", "low", "high"] (defScope st__need_bounds) := ⟨rfl, rfl, rfl, by decide +kernel, rfl, by decide +kernel, by decide +kernel⟩
abbrev st__need_making : Stmt := topS 19
theorem sc__need_making : FnScope N__need_making ["number", "rule", "parts"] (defScope st__need_making) := ⟨rfl, rfl, rfl, by decide +kernel, rfl, by decide +kernel, by decide +kernel⟩
abbrev st__look_at : Stmt := topS 20
theorem sc__look_at : FnScope N__look_at ["thing", "whole", "found", "wholes", "made", "moving"] (defScope st__look_at) := ⟨rfl, rfl, rfl, by decide +kernel, rfl, by decide +kernel, by decide +kernel⟩
abbrev st_look_over : Stmt := topS 21
theorem sc_look_over : FnScope N_look_over ["good"] (defScope st_look_over) := ⟨rfl, rfl, rfl, by decide +kernel, rfl, by decide +kernel, by decide +kernel⟩
abbrev st_is_fraction : Stmt := topS 23
theorem sc_is_fraction : FnScope N_is_fraction ["value", "least", "most"] (defScope st_is_fraction) := ⟨rfl, rfl, rfl, by decide +kernel, rfl, by decide +kernel, by decide +kernel⟩
abbrev st_lowest_terms : Stmt := topS 24
theorem sc_lowest_terms : FnScope N_lowest_terms ["part", "of"] (defScope st_lowest_terms) := ⟨rfl, rfl, rfl, by decide +kernel, rfl, by decide +kernel, by decide +kernel⟩
abbrev st_need_prices : Stmt := topS 25
theorem sc_need_prices : FnScope N_need_prices ["found", "prices"] (defScope st_need_prices) := ⟨rfl, rfl, rfl, by decide +kernel, rfl, by decide +kernel, by decide +kernel⟩
abbrev st_common_unit : Stmt := topS 26
theorem sc_common_unit : FnScope N_common_unit ["prices"] (defScope st_common_unit) := ⟨rfl, rfl, rfl, by decide +kernel, rfl, by decide +kernel, by decide +kernel⟩
abbrev st_in_units : Stmt := topS 27
theorem sc_in_units : FnScope N_in_units ["prices", "unit"] (defScope st_in_units) := ⟨rfl, rfl, rfl, by decide +kernel, rfl, by decide +kernel, by decide +kernel⟩
abbrev st_fractions_of : Stmt := topS 28
theorem sc_fractions_of : FnScope N_fractions_of ["amounts", "unit"] (defScope st_fractions_of) := ⟨rfl, rfl, rfl, by decide +kernel, rfl, by decide +kernel, by decide +kernel⟩
abbrev st_sums_of : Stmt := topS 30
theorem sc_sums_of : FnScope N_sums_of ["found", "wholes", "amounts"] (defScope st_sums_of) := ⟨rfl, rfl, rfl, by decide +kernel, rfl, by decide +kernel, by decide +kernel⟩
abbrev st__sums_at : Stmt := topS 31
theorem sc__sums_at : FnScope N__sums_at ["good", "prices"] (defScope st__sums_at) := ⟨rfl, rfl, rfl, by decide +kernel, rfl, by decide +kernel, by decide +kernel⟩
abbrev st_costs : Stmt := topS 32
theorem sc_costs : FnScope N_costs ["good", "prices"] (defScope st_costs) := ⟨rfl, rfl, rfl, by decide +kernel, rfl, by decide +kernel, by decide +kernel⟩
abbrev st_owns : Stmt := topS 33
theorem sc_owns : FnScope N_owns ["good", "prices"] (defScope st_owns) := ⟨rfl, rfl, rfl, by decide +kernel, rfl, by decide +kernel, by decide +kernel⟩
abbrev st_counted : Stmt := topS 34
theorem sc_counted : FnScope N_counted ["good", "prices"] (defScope st_counted) := ⟨rfl, rfl, rfl, by decide +kernel, rfl, by decide +kernel, by decide +kernel⟩
abbrev st_words_at : Stmt := topS 35
theorem sc_words_at : FnScope N_words_at ["good", "prices"] (defScope st_words_at) := ⟨rfl, rfl, rfl, by decide +kernel, rfl, by decide +kernel, by decide +kernel⟩
abbrev st_is_of_here : Stmt := topS 36
theorem sc_is_of_here : FnScope N_is_of_here ["good", "prices"] (defScope st_is_of_here) := ⟨rfl, rfl, rfl, by decide +kernel, rfl, by decide +kernel, by decide +kernel⟩
abbrev st_portion : Stmt := topS 37
theorem sc_portion : FnScope N_portion ["good", "prices"] (defScope st_portion) := ⟨rfl, rfl, rfl, by decide +kernel, rfl, by decide +kernel, by decide +kernel⟩
abbrev st__law_begun : Stmt := topS 39
theorem sc__law_begun : FnScope N__law_begun ["script"] (defScope st__law_begun) := ⟨rfl, rfl, rfl, by decide +kernel, rfl, by decide +kernel, by decide +kernel⟩
abbrev st__law_draw : Stmt := topS 40
theorem sc__law_draw : FnScope N__law_draw ["m", "limit"] (defScope st__law_draw) := ⟨rfl, rfl, rfl, by decide +kernel, rfl, by decide +kernel, by decide +kernel⟩
abbrev st__law_of : Stmt := topS 41
theorem sc__law_of : FnScope N__law_of ["m", "some"] (defScope st__law_of) := ⟨rfl, rfl, rfl, by decide +kernel, rfl, by decide +kernel, by decide +kernel⟩
abbrev st__law_span : Stmt := topS 42
theorem sc__law_span : FnScope N__law_span ["m", "left"] (defScope st__law_span) := ⟨rfl, rfl, rfl, by decide +kernel, rfl, by decide +kernel, by decide +kernel⟩
abbrev st__law_term : Stmt := topS 43
theorem sc__law_term : FnScope N__law_term ["m"] (defScope st__law_term) := ⟨rfl, rfl, rfl, by decide +kernel, rfl, by decide +kernel, by decide +kernel⟩
abbrev st__law_thing : Stmt := topS 44
theorem sc__law_thing : FnScope N__law_thing ["m", "left", "must"] (defScope st__law_thing) := ⟨rfl, rfl, rfl, by decide +kernel, rfl, by decide +kernel, by decide +kernel⟩
abbrev st__law_good : Stmt := topS 45
theorem sc__law_good : FnScope N__law_good ["m", "moving", "making"] (defScope st__law_good) := ⟨rfl, rfl, rfl, by decide +kernel, rfl, by decide +kernel, by decide +kernel⟩
abbrev st__law_rows : Stmt := topS 46
theorem sc__law_rows : FnScope N__law_rows ["thing", "begin"] (defScope st__law_rows) := ⟨rfl, rfl, rfl, by decide +kernel, rfl, by decide +kernel, by decide +kernel⟩
abbrev st__law_least : Stmt := topS 47
theorem sc__law_least : FnScope N__law_least ["part", "of"] (defScope st__law_least) := ⟨rfl, rfl, rfl, by decide +kernel, rfl, by decide +kernel, by decide +kernel⟩
abbrev st__law_sum : Stmt := topS 48
theorem sc__law_sum : FnScope N__law_sum ["some"] (defScope st__law_sum) := ⟨rfl, rfl, rfl, by decide +kernel, rfl, by decide +kernel, by decide +kernel⟩
abbrev st__law_counted : Stmt := topS 49
theorem sc__law_counted : FnScope N__law_counted ["thing", "own", "cost"] (defScope st__law_counted) := ⟨rfl, rfl, rfl, by decide +kernel, rfl, by decide +kernel, by decide +kernel⟩
abbrev st__law_reckoned : Stmt := topS 50
theorem sc__law_reckoned : FnScope N__law_reckoned ["good", "row"] (defScope st__law_reckoned) := ⟨rfl, rfl, rfl, by decide +kernel, rfl, by decide +kernel, by decide +kernel⟩
abbrev st__law_words : Stmt := topS 51
theorem sc__law_words : FnScope N__law_words ["good", "row"] (defScope st__law_words) := ⟨rfl, rfl, rfl, by decide +kernel, rfl, by decide +kernel, by decide +kernel⟩
abbrev st__law_portion : Stmt := topS 52
theorem sc__law_portion : FnScope N__law_portion ["good", "row"] (defScope st__law_portion) := ⟨rfl, rfl, rfl, by decide +kernel, rfl, by decide +kernel, by decide +kernel⟩
abbrev st__law_prices : Stmt := topS 53
theorem sc__law_prices : FnScope N__law_prices ["m", "good"] (defScope st__law_prices) := ⟨rfl, rfl, rfl, by decide +kernel, rfl, by decide +kernel, by decide +kernel⟩
abbrev st__law_right : Stmt := topS 54
theorem sc__law_right : FnScope N__law_right ["good", "row"] (defScope st__law_right) := ⟨rfl, rfl, rfl, by decide +kernel, rfl, by decide +kernel, by decide +kernel⟩
abbrev st_law : Stmt := topS 55
theorem sc_law : FnScope N_law ["script"] (defScope st_law) := ⟨rfl, rfl, rfl, by decide +kernel, rfl, by decide +kernel, by decide +kernel⟩
structure Adr where
  a_is_rule : Addr
  d_is_rule : FuncData
  a__need_bounds : Addr
  d__need_bounds : FuncData
  a__need_making : Addr
  d__need_making : FuncData
  a__look_at : Addr
  d__look_at : FuncData
  a_look_over : Addr
  d_look_over : FuncData
  a_is_fraction : Addr
  d_is_fraction : FuncData
  a_lowest_terms : Addr
  d_lowest_terms : FuncData
  a_need_prices : Addr
  d_need_prices : FuncData
  a_common_unit : Addr
  d_common_unit : FuncData
  a_in_units : Addr
  d_in_units : FuncData
  a_fractions_of : Addr
  d_fractions_of : FuncData
  a_sums_of : Addr
  d_sums_of : FuncData
  a__sums_at : Addr
  d__sums_at : FuncData
  a_costs : Addr
  d_costs : FuncData
  a_owns : Addr
  d_owns : FuncData
  a_counted : Addr
  d_counted : FuncData
  a_words_at : Addr
  d_words_at : FuncData
  a_is_of_here : Addr
  d_is_of_here : FuncData
  a_portion : Addr
  d_portion : FuncData
  a__law_begun : Addr
  d__law_begun : FuncData
  a__law_draw : Addr
  d__law_draw : FuncData
  a__law_of : Addr
  d__law_of : FuncData
  a__law_span : Addr
  d__law_span : FuncData
  a__law_term : Addr
  d__law_term : FuncData
  a__law_thing : Addr
  d__law_thing : FuncData
  a__law_good : Addr
  d__law_good : FuncData
  a__law_rows : Addr
  d__law_rows : FuncData
  a__law_least : Addr
  d__law_least : FuncData
  a__law_sum : Addr
  d__law_sum : FuncData
  a__law_counted : Addr
  d__law_counted : FuncData
  a__law_reckoned : Addr
  d__law_reckoned : FuncData
  a__law_words : Addr
  d__law_words : FuncData
  a__law_portion : Addr
  d__law_portion : FuncData
  a__law_prices : Addr
  d__law_prices : FuncData
  a__law_right : Addr
  d__law_right : FuncData
  a_law : Addr
  d_law : FuncData
structure Txt (K : Fg) (mg : Str → Option Value) (A : Adr) : Prop where
  F_is_rule : Fun K "is_rule" "is_rule" st_is_rule A.a_is_rule A.d_is_rule
  g_is_rule : mg "is_rule" = some (.ref A.a_is_rule)
  b_is_rule : Binds K A.d_is_rule ["value"] []
  F__need_bounds : Fun K "_need_bounds" "_need_bounds" st__need_bounds A.a__need_bounds A.d__need_bounds
  g__need_bounds : mg "_need_bounds" = some (.ref A.a__need_bounds)
  b__need_bounds : Binds K A.d__need_bounds ["number", "land", "low", "high"] []
  F__need_making : Fun K "_need_making" "_need_making" st__need_making A.a__need_making A.d__need_making
  g__need_making : mg "_need_making" = some (.ref A.a__need_making)
  b__need_making : Binds K A.d__need_making ["number", "rule", "parts"] []
  F__look_at : Fun K "_look_at" "_look_at" st__look_at A.a__look_at A.d__look_at
  g__look_at : mg "_look_at" = some (.ref A.a__look_at)
  b__look_at : Binds K A.d__look_at ["thing", "whole", "found", "wholes", "made", "moving"] []
  F_look_over : Fun K "look_over" "look_over" st_look_over A.a_look_over A.d_look_over
  g_look_over : mg "look_over" = some (.ref A.a_look_over)
  b_look_over : Binds K A.d_look_over ["good"] []
  F_is_fraction : Fun K "is_fraction" "is_fraction" st_is_fraction A.a_is_fraction A.d_is_fraction
  g_is_fraction : mg "is_fraction" = some (.ref A.a_is_fraction)
  b_is_fraction : Binds K A.d_is_fraction ["value", "least", "most"] []
  F_lowest_terms : Fun K "lowest_terms" "lowest_terms" st_lowest_terms A.a_lowest_terms A.d_lowest_terms
  g_lowest_terms : mg "lowest_terms" = some (.ref A.a_lowest_terms)
  b_lowest_terms : Binds K A.d_lowest_terms ["part", "of"] []
  F_need_prices : Fun K "need_prices" "need_prices" st_need_prices A.a_need_prices A.d_need_prices
  g_need_prices : mg "need_prices" = some (.ref A.a_need_prices)
  b_need_prices : Binds K A.d_need_prices ["found", "prices"] []
  F_common_unit : Fun K "common_unit" "common_unit" st_common_unit A.a_common_unit A.d_common_unit
  g_common_unit : mg "common_unit" = some (.ref A.a_common_unit)
  b_common_unit : Binds K A.d_common_unit ["prices"] []
  F_in_units : Fun K "in_units" "in_units" st_in_units A.a_in_units A.d_in_units
  g_in_units : mg "in_units" = some (.ref A.a_in_units)
  b_in_units : Binds K A.d_in_units ["prices", "unit"] []
  F_fractions_of : Fun K "fractions_of" "fractions_of" st_fractions_of A.a_fractions_of A.d_fractions_of
  g_fractions_of : mg "fractions_of" = some (.ref A.a_fractions_of)
  b_fractions_of : Binds K A.d_fractions_of ["amounts", "unit"] []
  F_sums_of : Fun K "sums_of" "sums_of" st_sums_of A.a_sums_of A.d_sums_of
  g_sums_of : mg "sums_of" = some (.ref A.a_sums_of)
  b_sums_of : Binds K A.d_sums_of ["found", "wholes", "amounts"] []
  F__sums_at : Fun K "_sums_at" "_sums_at" st__sums_at A.a__sums_at A.d__sums_at
  g__sums_at : mg "_sums_at" = some (.ref A.a__sums_at)
  b__sums_at : Binds K A.d__sums_at ["good", "prices"] []
  F_costs : Fun K "costs" "costs" st_costs A.a_costs A.d_costs
  g_costs : mg "costs" = some (.ref A.a_costs)
  b_costs : Binds K A.d_costs ["good", "prices"] []
  F_owns : Fun K "owns" "owns" st_owns A.a_owns A.d_owns
  g_owns : mg "owns" = some (.ref A.a_owns)
  b_owns : Binds K A.d_owns ["good", "prices"] []
  F_counted : Fun K "counted" "counted" st_counted A.a_counted A.d_counted
  g_counted : mg "counted" = some (.ref A.a_counted)
  b_counted : Binds K A.d_counted ["good", "prices"] []
  F_words_at : Fun K "words_at" "words_at" st_words_at A.a_words_at A.d_words_at
  g_words_at : mg "words_at" = some (.ref A.a_words_at)
  b_words_at : Binds K A.d_words_at ["good", "prices"] []
  F_is_of_here : Fun K "is_of_here" "is_of_here" st_is_of_here A.a_is_of_here A.d_is_of_here
  g_is_of_here : mg "is_of_here" = some (.ref A.a_is_of_here)
  b_is_of_here : Binds K A.d_is_of_here ["good", "prices"] []
  F_portion : Fun K "portion" "portion" st_portion A.a_portion A.d_portion
  g_portion : mg "portion" = some (.ref A.a_portion)
  b_portion : Binds K A.d_portion ["good", "prices"] []
  F__law_begun : Fun K "_law_begun" "_law_begun" st__law_begun A.a__law_begun A.d__law_begun
  g__law_begun : mg "_law_begun" = some (.ref A.a__law_begun)
  b__law_begun : Binds K A.d__law_begun ["script"] []
  F__law_draw : Fun K "_law_draw" "_law_draw" st__law_draw A.a__law_draw A.d__law_draw
  g__law_draw : mg "_law_draw" = some (.ref A.a__law_draw)
  b__law_draw : Binds K A.d__law_draw ["m", "limit"] []
  F__law_of : Fun K "_law_of" "_law_of" st__law_of A.a__law_of A.d__law_of
  g__law_of : mg "_law_of" = some (.ref A.a__law_of)
  b__law_of : Binds K A.d__law_of ["m", "some"] []
  F__law_span : Fun K "_law_span" "_law_span" st__law_span A.a__law_span A.d__law_span
  g__law_span : mg "_law_span" = some (.ref A.a__law_span)
  b__law_span : Binds K A.d__law_span ["m", "left"] []
  F__law_term : Fun K "_law_term" "_law_term" st__law_term A.a__law_term A.d__law_term
  g__law_term : mg "_law_term" = some (.ref A.a__law_term)
  b__law_term : Binds K A.d__law_term ["m"] []
  F__law_thing : Fun K "_law_thing" "_law_thing" st__law_thing A.a__law_thing A.d__law_thing
  g__law_thing : mg "_law_thing" = some (.ref A.a__law_thing)
  b__law_thing : Binds K A.d__law_thing ["m", "left", "must"] []
  F__law_good : Fun K "_law_good" "_law_good" st__law_good A.a__law_good A.d__law_good
  g__law_good : mg "_law_good" = some (.ref A.a__law_good)
  b__law_good : Binds K A.d__law_good ["m", "moving", "making"] []
  F__law_rows : Fun K "_law_rows" "_law_rows" st__law_rows A.a__law_rows A.d__law_rows
  g__law_rows : mg "_law_rows" = some (.ref A.a__law_rows)
  b__law_rows : Binds K A.d__law_rows ["thing", "begin"] []
  F__law_least : Fun K "_law_least" "_law_least" st__law_least A.a__law_least A.d__law_least
  g__law_least : mg "_law_least" = some (.ref A.a__law_least)
  b__law_least : Binds K A.d__law_least ["part", "of"] []
  F__law_sum : Fun K "_law_sum" "_law_sum" st__law_sum A.a__law_sum A.d__law_sum
  g__law_sum : mg "_law_sum" = some (.ref A.a__law_sum)
  b__law_sum : Binds K A.d__law_sum ["some"] []
  F__law_counted : Fun K "_law_counted" "_law_counted" st__law_counted A.a__law_counted A.d__law_counted
  g__law_counted : mg "_law_counted" = some (.ref A.a__law_counted)
  b__law_counted : Binds K A.d__law_counted ["thing", "own", "cost"] []
  F__law_reckoned : Fun K "_law_reckoned" "_law_reckoned" st__law_reckoned A.a__law_reckoned A.d__law_reckoned
  g__law_reckoned : mg "_law_reckoned" = some (.ref A.a__law_reckoned)
  b__law_reckoned : Binds K A.d__law_reckoned ["good", "row"] []
  F__law_words : Fun K "_law_words" "_law_words" st__law_words A.a__law_words A.d__law_words
  g__law_words : mg "_law_words" = some (.ref A.a__law_words)
  b__law_words : Binds K A.d__law_words ["good", "row"] []
  F__law_portion : Fun K "_law_portion" "_law_portion" st__law_portion A.a__law_portion A.d__law_portion
  g__law_portion : mg "_law_portion" = some (.ref A.a__law_portion)
  b__law_portion : Binds K A.d__law_portion ["good", "row"] []
  F__law_prices : Fun K "_law_prices" "_law_prices" st__law_prices A.a__law_prices A.d__law_prices
  g__law_prices : mg "_law_prices" = some (.ref A.a__law_prices)
  b__law_prices : Binds K A.d__law_prices ["m", "good"] []
  F__law_right : Fun K "_law_right" "_law_right" st__law_right A.a__law_right A.d__law_right
  g__law_right : mg "_law_right" = some (.ref A.a__law_right)
  b__law_right : Binds K A.d__law_right ["good", "row"] []
  F_law : Fun K "law" "law" st_law A.a_law A.d_law
  g_law : mg "law" = some (.ref A.a_law)
  b_law : Binds K A.d_law ["script"] []
  z_abs : mg "abs" = none
  z_bool : mg "bool" = none
  z_enumerate : mg "enumerate" = none
  z_int : mg "int" = none
  z_isinstance : mg "isinstance" = none
  z_len : mg "len" = none
  z_list : mg "list" = none
  z_max : mg "max" = none
  z_min : mg "min" = none
  z_range : mg "range" = none
  z_repr : mg "repr" = none
  z_reversed : mg "reversed" = none
  z_str : mg "str" = none
  z_tuple : mg "tuple" = none
  z_zip : mg "zip" = none
  c_HIGH : ∃ u, mg "HIGH" = some u ∧ RelV (.int 3) u
  c_LAND : ∃ u, mg "LAND" = some u ∧ RelV (.int 1) u
  c_LOW : ∃ u, mg "LOW" = some u ∧ RelV (.int 2) u
  c_MAKING : ∃ u, mg "MAKING" = some u ∧ RelV (.int 0) u
  c_MOST_MOVES : ∃ u, mg "MOST_MOVES" = some u ∧ RelV (.int 3) u
  c_MOST_PARTS : ∃ u, mg "MOST_PARTS" = some u ∧ RelV (.int 4) u
  c_MOST_PRICE : ∃ u, mg "MOST_PRICE" = some u ∧ RelV (.int 1000000) u
  c_MOST_SHARE : ∃ u, mg "MOST_SHARE" = some u ∧ RelV (.int 100) u
  c_MOST_STEPS : ∃ u, mg "MOST_STEPS" = some u ∧ RelV (.int 4) u
  c_MOST_THINGS : ∃ u, mg "MOST_THINGS" = some u ∧ RelV (.int 10) u
  c_RULE : ∃ u, mg "RULE" = some u ∧ RelV (.int 4) u
  i_gcd : mg "gcd" = some (.builtin "math.gcd")
  i_lcm : mg "lcm" = some (.builtin "math.lcm")
section
variable {P : Program} {w : World} {K : Fg} {mg : Str → Option Value} {base : Heap} {Ad : Adr}
theorem ok_is_rule (T : Txt K mg Ad) : DFn P w K mg base 1 Ad.a_is_rule Ad.d_is_rule ["value"] Wis_rule :=
  dfn_of T.F_is_rule sc_is_rule fun cdv A outer s H E hr => (dss_cons (ds_if (DW.dt (dw_or (dt_not (dt_tru (de_callB dc_isi (by rfl) T.z_isinstance (by decide +kernel) (dn_cons (de_var (pv 0)) (dn_cons (de_bltn (by rfl) T.z_tuple (by decide +kernel)) (dn_nil)))))) (dw_or1 (dt_cmp (do_ne hr.r.units) (de_callB dc_len (by rfl) T.z_len (by decide +kernel) (dn_cons (de_var (pv 0)) (dn_nil))) (de_int) (nomark _))))) (dss_one (ds_ret (de_bl))) (dss_nil)) (dss_cons (ds_asg (de_var (pv 0)) (dg_tup rfl (dgs_cons (dg_name (i := 1) sc_is_rule.nd rfl (by first | exact .inl rfl | exact .inr rfl)) (dgs_cons (dg_name (i := 2) sc_is_rule.nd rfl (by first | exact .inl rfl | exact .inr rfl)) (dgs_cons (dg_name (i := 3) sc_is_rule.nd rfl (by first | exact .inl rfl | exact .inr rfl)) (dgs_nil)))))) (dss_cons (ds_if (DW.dt (dw_or (dt_not (dt_tru (de_callB dc_isi (by rfl) T.z_isinstance (by decide +kernel) (dn_cons (de_var (pv 1)) (dn_cons (de_bltn (by rfl) T.z_int (by decide +kernel)) (dn_nil)))))) (dw_or (dt_tru (de_callB dc_isi (by rfl) T.z_isinstance (by decide +kernel) (dn_cons (de_var (pv 1)) (dn_cons (de_bltn (by rfl) T.z_bool (by decide +kernel)) (dn_nil))))) (dw_or1 (dt_not (dt_chain do_le do_le (de_int) (de_var (pv 1)) ((T.c_MOST_SHARE.elim fun _ h => de_glob (by rfl) h.1 h.2 fun _ _ => rfl)))))))) (dss_one (ds_ret (de_bl))) (dss_nil)) (dss_cons (ds_if (DW.dt (dw_or (dt_not (dt_tru (de_callB dc_isi (by rfl) T.z_isinstance (by decide +kernel) (dn_cons (de_var (pv 2)) (dn_cons (de_bltn (by rfl) T.z_str (by decide +kernel)) (dn_nil)))))) (dw_or1 (dt_not (dt_tru (de_callB dc_isi (by rfl) T.z_isinstance (by decide +kernel) (dn_cons (de_var (pv 3)) (dn_cons (de_bltn (by rfl) T.z_str (by decide +kernel)) (dn_nil))))))))) (dss_one (ds_ret (de_bl))) (dss_nil)) (dss_one (ds_ret (de_and (de_or (de_cmp (do_eq hr.r.units) (de_var (pv 2)) (de_str) (nomark _)) (de_one (de_cmp (do_eq hr.r.units) (de_var (pv 2)) (de_str) (nomark _)))) (de_one (de_or (de_cmp (do_eq hr.r.units) (de_var (pv 3)) (de_str) (nomark _)) (de_one (de_cmp (do_eq hr.r.units) (de_var (pv 3)) (de_str) (nomark _))))))))))))
theorem ok__need_bounds (T : Txt K mg Ad) : DFn P w K mg base 1 Ad.a__need_bounds Ad.d__need_bounds ["number", "land", "low", "high"] W_need_bounds :=
  dfn_of T.F__need_bounds sc__need_bounds fun cdv A outer s H E hr => (dss_cons (ds_if (DW.dt (dw_or (dt_not (dt_tru (de_callB dc_isi (by rfl) T.z_isinstance (by decide +kernel) (dn_cons (de_var (pv 1)) (dn_cons (de_bltn (by rfl) T.z_str (by decide +kernel)) (dn_nil)))))) (dw_or1 (DW.dt (dw_and (dt_cmp (do_ne hr.r.units) (de_var (pv 1)) (de_str) (nomark _)) (dw_and1 (dt_cmp (do_ne hr.r.units) (de_var (pv 1)) (de_str) (nomark _)))))))) (dss_one (ds_never)) (dss_nil)) (dss_cons (ds_if (DW.dt (dw_or (dt_not (dt_tru (de_callB dc_isi (by rfl) T.z_isinstance (by decide +kernel) (dn_cons (de_var (pv 2)) (dn_cons (de_bltn (by rfl) T.z_int (by decide +kernel)) (dn_nil)))))) (dw_or (dt_tru (de_callB dc_isi (by rfl) T.z_isinstance (by decide +kernel) (dn_cons (de_var (pv 2)) (dn_cons (de_bltn (by rfl) T.z_bool (by decide +kernel)) (dn_nil))))) (dw_or1 (dt_not (dt_chain do_le do_le (de_int) (de_var (pv 2)) ((T.c_MOST_PRICE.elim fun _ h => de_glob (by rfl) h.1 h.2 fun _ _ => rfl)))))))) (dss_one (ds_never)) (dss_nil)) (dss_one (ds_if (DW.dt (dw_or (dt_not (dt_tru (de_callB dc_isi (by rfl) T.z_isinstance (by decide +kernel) (dn_cons (de_var (pv 3)) (dn_cons (de_bltn (by rfl) T.z_int (by decide +kernel)) (dn_nil)))))) (dw_or (dt_tru (de_callB dc_isi (by rfl) T.z_isinstance (by decide +kernel) (dn_cons (de_var (pv 3)) (dn_cons (de_bltn (by rfl) T.z_bool (by decide +kernel)) (dn_nil))))) (dw_or1 (dt_not (dt_chain do_le do_le (de_var (pv 2)) (de_var (pv 3)) ((T.c_MOST_PRICE.elim fun _ h => de_glob (by rfl) h.1 h.2 fun _ _ => rfl)))))))) (dss_one (ds_never)) (dss_nil)))))
theorem ok__need_making (T : Txt K mg Ad) : DFn P w K mg base 2 Ad.a__need_making Ad.d__need_making ["number", "rule", "parts"] W_need_making :=
  dfn_of T.F__need_making sc__need_making fun cdv A outer s H E hr => (dss_cons (ds_if (dt_not (dt_tru (de_call (ok_is_rule T) (hr.mono (by decide)) (by rfl) T.g_is_rule T.F_is_rule.kp T.b_is_rule .nil rs0 pBody (dn_cons (de_var (pv 1)) (dn_nil))))) (dss_one (ds_never)) (dss_nil)) (dss_one (ds_if (DW.dt (dw_or (dt_not (dt_tru (de_callB dc_isi (by rfl) T.z_isinstance (by decide +kernel) (dn_cons (de_var (pv 2)) (dn_cons (de_bltn (by rfl) T.z_tuple (by decide +kernel)) (dn_nil)))))) (dw_or1 (dt_not (dt_chain do_le do_le (de_int) (de_callB dc_len (by rfl) T.z_len (by decide +kernel) (dn_cons (de_var (pv 2)) (dn_nil))) ((T.c_MOST_PARTS.elim fun _ h => de_glob (by rfl) h.1 h.2 fun _ _ => rfl))))))) (dss_one (ds_never)) (dss_nil))))
theorem ok__look_at (T : Txt K mg Ad) : ∀ n : Nat, DFn P w K mg base (2 + n) Ad.a__look_at Ad.d__look_at ["thing", "whole", "found", "wholes", "made", "moving"] (W_look_at n)
  | 0 => dfn0
  | n + 1 => by
    have ih := ok__look_at T n
    exact dfn_of T.F__look_at sc__look_at fun cdv A outer s H E hr => (dss_cons (ds_set (i := 6) sc__look_at.nd rfl (by first | exact .inl rfl | exact .inr rfl) (de_callB dc_len (by rfl) T.z_len (by decide +kernel) (dn_cons (de_var (pv 2)) (dn_nil)))) (dss_cons (ds_set (i := 7) sc__look_at.nd rfl (by first | exact .inl rfl | exact .inr rfl) (de_ite (DW.dt (dw_and (dt_tru (de_callB dc_isi (by rfl) T.z_isinstance (by decide +kernel) (dn_cons (de_var (pv 0)) (dn_cons (de_bltn (by rfl) T.z_tuple (by decide +kernel)) (dn_nil))))) (dw_and1 (dt_cmp do_gt (de_callB dc_len (by rfl) T.z_len (by decide +kernel) (dn_cons (de_var (pv 0)) (dn_nil))) (de_int) (nomark _))))) (de_ix (hu_of hr.r) (de_var (pv 0)) ((T.c_MAKING.elim fun _ h => de_glob (by rfl) h.1 h.2 fun _ _ => rfl)) (fun _ _ => rfl)) (de_non))) (dss_cons (ds_set (i := 8) sc__look_at.nd rfl (by first | exact .inl rfl | exact .inr rfl) (de_and (de_callB dc_isi (by rfl) T.z_isinstance (by decide +kernel) (dn_cons (de_var (pv 7)) (dn_cons (de_bltn (by rfl) T.z_str (by decide +kernel)) (dn_nil)))) (de_one (de_cmp (do_eq hr.r.units) (de_var (pv 7)) (de_str) (nomark _))))) (dss_cons (ds_if (dt_tru (de_var (pv 8))) (dss_one (ds_expr (de_app (de_var (pv 4)) (de_var (pv 6))))) (dss_nil)) (dss_cons (ds_if (DW.dt (dw_or (dt_cmp (do_eq hr.r.units) (de_var (pv 6)) ((T.c_MOST_THINGS.elim fun _ h => de_glob (by rfl) h.1 h.2 fun _ _ => rfl)) (nomark _)) (dw_or1 (dt_cmp do_gt (de_callB dc_len (by rfl) T.z_len (by decide +kernel) (dn_cons (de_var (pv 4)) (dn_nil))) ((T.c_MOST_STEPS.elim fun _ h => de_glob (by rfl) h.1 h.2 fun _ _ => rfl)) (nomark _))))) (dss_one (ds_never)) (dss_nil)) (dss_cons (ds_set (i := 9) sc__look_at.nd rfl (by first | exact .inl rfl | exact .inr rfl) (de_tup (dn_nil))) (dss_cons (ds_if (DW.dt (dw_and (dt_tru (de_var (pv 8))) (dw_and1 (dt_cmp (do_eq hr.r.units) (de_callB dc_len (by rfl) T.z_len (by decide +kernel) (dn_cons (de_var (pv 0)) (dn_nil))) (de_int) (nomark _))))) (dss_cons (ds_asg (de_var (pv 0)) (dg_tup rfl (dgs_cons (dg_name (i := 10) sc__look_at.nd rfl (by first | exact .inl rfl | exact .inr rfl)) (dgs_cons (dg_name (i := 11) sc__look_at.nd rfl (by first | exact .inl rfl | exact .inr rfl)) (dgs_cons (dg_name (i := 12) sc__look_at.nd rfl (by first | exact .inl rfl | exact .inr rfl)) (dgs_cons (dg_name (i := 13) sc__look_at.nd rfl (by first | exact .inl rfl | exact .inr rfl)) (dgs_cons (dg_name (i := 14) sc__look_at.nd rfl (by first | exact .inl rfl | exact .inr rfl)) (dgs_cons (dg_name (i := 9) sc__look_at.nd rfl (by first | exact .inl rfl | exact .inr rfl)) (dgs_nil))))))))) (dss_cons (ds_expr (de_call (ok__need_bounds T) (hr.mono (by first | omega | (simp only [Nat.add_eq]; omega))) (by rfl) T.g__need_bounds T.F__need_bounds.kp T.b__need_bounds .nil rs0 pBody (dn_cons (de_var (pv 6)) (dn_cons (de_var (pv 11)) (dn_cons (de_var (pv 12)) (dn_cons (de_var (pv 13)) (dn_nil))))))) (dss_one (ds_expr (de_call (ok__need_making T) (hr.mono (by first | omega | (simp only [Nat.add_eq]; omega))) (by rfl) T.g__need_making T.F__need_making.kp T.b__need_making .nil rs0 pBody (dn_cons (de_var (pv 6)) (dn_cons (de_var (pv 14)) (dn_cons (de_var (pv 9)) (dn_nil))))))))) (dss_one (ds_if (DW.dt (dw_and (dt_tru (de_callB dc_isi (by rfl) T.z_isinstance (by decide +kernel) (dn_cons (de_var (pv 7)) (dn_cons (de_bltn (by rfl) T.z_str (by decide +kernel)) (dn_nil))))) (dw_and (dt_cmp (do_eq hr.r.units) (de_var (pv 7)) (de_str) (nomark _)) (dw_and1 (dt_cmp (do_eq hr.r.units) (de_callB dc_len (by rfl) T.z_len (by decide +kernel) (dn_cons (de_var (pv 0)) (dn_nil))) (de_int) (nomark _)))))) (dss_cons (ds_asg (de_var (pv 0)) (dg_tup rfl (dgs_cons (dg_name (i := 10) sc__look_at.nd rfl (by first | exact .inl rfl | exact .inr rfl)) (dgs_cons (dg_name (i := 11) sc__look_at.nd rfl (by first | exact .inl rfl | exact .inr rfl)) (dgs_cons (dg_name (i := 12) sc__look_at.nd rfl (by first | exact .inl rfl | exact .inr rfl)) (dgs_cons (dg_name (i := 13) sc__look_at.nd rfl (by first | exact .inl rfl | exact .inr rfl)) (dgs_nil))))))) (dss_one (ds_expr (de_call (ok__need_bounds T) (hr.mono (by first | omega | (simp only [Nat.add_eq]; omega))) (by rfl) T.g__need_bounds T.F__need_bounds.kp T.b__need_bounds .nil rs0 pBody (dn_cons (de_var (pv 6)) (dn_cons (de_var (pv 11)) (dn_cons (de_var (pv 12)) (dn_cons (de_var (pv 13)) (dn_nil))))))))) (dss_one (ds_never))))) (dss_cons (ds_expr (de_app (de_var (pv 2)) (de_var (pv 0)))) (dss_cons (ds_expr (de_app (de_var (pv 3)) (de_var (pv 1)))) (dss_cons (ds_if (dt_cmp do_lt (de_var (pv 12)) (de_var (pv 13)) (nomark _)) (dss_one (ds_expr (de_app (de_var (pv 5)) (de_var (pv 6))))) (dss_nil)) (dss_one (ds_for oBody rfl (di_seq (de_var (pv 9))) (dg_name (i := 15) sc__look_at.nd rfl (by first | exact .inl rfl | exact .inr rfl)) (dss_one (ds_expr (de_call ih (hr.mono (by first | omega | (simp only [Nat.add_eq]; omega))) (by rfl) T.g__look_at T.F__look_at.kp T.b__look_at .nil rs0 pBody (dn_cons (de_var (pv 15)) (dn_cons (de_var (pv 6)) (dn_cons (de_var (pv 2)) (dn_cons (de_var (pv 3)) (dn_cons (de_var (pv 4)) (dn_cons (de_var (pv 5)) (dn_nil))))))))))))))))))))))
theorem ok_look_over (T : Txt K mg Ad) : DFn P w K mg base 11 Ad.a_look_over Ad.d_look_over ["good"] Wlook_over :=
  dfn_of T.F_look_over sc_look_over fun cdv A outer s H E hr => (dss_cons (ds_asg (de_tup (dn_cons (de_lstO (dn_nil)) (dn_cons (de_lstO (dn_nil)) (dn_cons (de_lstO (dn_nil)) (dn_cons (de_lstO (dn_nil)) (dn_nil)))))) (dg_tup rfl (dgs_cons (dg_name (i := 1) sc_look_over.nd rfl (by first | exact .inl rfl | exact .inr rfl)) (dgs_cons (dg_name (i := 2) sc_look_over.nd rfl (by first | exact .inl rfl | exact .inr rfl)) (dgs_cons (dg_name (i := 3) sc_look_over.nd rfl (by first | exact .inl rfl | exact .inr rfl)) (dgs_cons (dg_name (i := 4) sc_look_over.nd rfl (by first | exact .inl rfl | exact .inr rfl)) (dgs_nil))))))) (dss_cons (ds_expr (de_call (ok__look_at T 8) (hr.mono (by decide)) (by rfl) T.g__look_at T.F__look_at.kp T.b__look_at .nil rs0 pBody (dn_cons (de_var (pv 0)) (dn_cons (de_non) (dn_cons (de_var (pv 1)) (dn_cons (de_var (pv 2)) (dn_cons (de_var (pv 3)) (dn_cons (de_var (pv 4)) (dn_nil))))))))) (dss_cons (ds_if (dt_cmp (do_eq hr.r.units) (de_callB dc_len (by rfl) T.z_len (by decide +kernel) (dn_cons (de_var (pv 3)) (dn_nil))) (de_int) (nomark _)) (dss_one (ds_never)) (dss_nil)) (dss_cons (ds_if (dt_cmp do_gt (de_callB dc_len (by rfl) T.z_len (by decide +kernel) (dn_cons (de_var (pv 4)) (dn_nil))) ((T.c_MOST_MOVES.elim fun _ h => de_glob (by rfl) h.1 h.2 fun _ _ => rfl)) (nomark _)) (dss_one (ds_never)) (dss_nil)) (dss_cons (ds_for oBody rfl (di_seq (de_var (pv 1))) (dg_name (i := 5) sc_look_over.nd rfl (by first | exact .inl rfl | exact .inr rfl)) (dss_one (ds_if (dt_cmp do_gt (de_ix (hu_of hr.r) (de_var (pv 5)) ((T.c_LOW.elim fun _ h => de_glob (by rfl) h.1 h.2 fun _ _ => rfl)) (fun _ _ => rfl)) (de_int) (nomark _)) (dss_one (ds_ret (de_tup (dn_cons (de_var (pv 1)) (dn_cons (de_var (pv 2)) (dn_cons (de_var (pv 3)) (dn_cons (de_var (pv 4)) (dn_nil)))))))) (dss_nil)))) (dss_one (ds_never)))))))
theorem ok_is_fraction (T : Txt K mg Ad) : DFn P w K mg base 1 Ad.a_is_fraction Ad.d_is_fraction ["value", "least", "most"] Wis_fraction :=
  dfn_of T.F_is_fraction sc_is_fraction fun cdv A outer s H E hr => (dss_cons (ds_if (DW.dt (dw_or (dt_not (dt_tru (de_callB dc_isi (by rfl) T.z_isinstance (by decide +kernel) (dn_cons (de_var (pv 0)) (dn_cons (de_bltn (by rfl) T.z_tuple (by decide +kernel)) (dn_nil)))))) (dw_or1 (dt_cmp (do_ne hr.r.units) (de_callB dc_len (by rfl) T.z_len (by decide +kernel) (dn_cons (de_var (pv 0)) (dn_nil))) (de_int) (nomark _))))) (dss_one (ds_ret (de_bl))) (dss_nil)) (dss_cons (ds_asg (de_var (pv 0)) (dg_tup rfl (dgs_cons (dg_name (i := 3) sc_is_fraction.nd rfl (by first | exact .inl rfl | exact .inr rfl)) (dgs_cons (dg_name (i := 4) sc_is_fraction.nd rfl (by first | exact .inl rfl | exact .inr rfl)) (dgs_nil))))) (dss_cons (ds_if (DW.dt (dw_or (dt_not (dt_tru (de_callB dc_isi (by rfl) T.z_isinstance (by decide +kernel) (dn_cons (de_var (pv 3)) (dn_cons (de_bltn (by rfl) T.z_int (by decide +kernel)) (dn_nil)))))) (dw_or (dt_tru (de_callB dc_isi (by rfl) T.z_isinstance (by decide +kernel) (dn_cons (de_var (pv 3)) (dn_cons (de_bltn (by rfl) T.z_bool (by decide +kernel)) (dn_nil))))) (dw_or (dt_not (dt_tru (de_callB dc_isi (by rfl) T.z_isinstance (by decide +kernel) (dn_cons (de_var (pv 4)) (dn_cons (de_bltn (by rfl) T.z_int (by decide +kernel)) (dn_nil)))))) (dw_or1 (dt_tru (de_callB dc_isi (by rfl) T.z_isinstance (by decide +kernel) (dn_cons (de_var (pv 4)) (dn_cons (de_bltn (by rfl) T.z_bool (by decide +kernel)) (dn_nil)))))))))) (dss_one (ds_ret (de_bl))) (dss_nil)) (dss_one (ds_ret (de_and (de_or (de_cmp (do_eq hr.r.units) (de_var (pv 4)) (de_int) (nomark _)) (de_one (de_and (de_cmp do_gt (de_var (pv 4)) (de_int) (nomark _)) (de_one (de_cmp (do_eq hr.r.units) (de_callF dc_gcd (by rfl) T.i_gcd (dn_cons (de_var (pv 3)) (dn_cons (de_var (pv 4)) (dn_nil)))) (de_int) (nomark _)))))) (de_one (de_chain do_le do_le (de_op do_mul (de_var (pv 1)) (de_var (pv 4))) (de_var (pv 3)) (de_op do_mul (de_var (pv 2)) (de_var (pv 4)))))))))))
theorem ok_lowest_terms (T : Txt K mg Ad) : DFn P w K mg base 1 Ad.a_lowest_terms Ad.d_lowest_terms ["part", "of"] Wlowest_terms :=
  dfn_of T.F_lowest_terms sc_lowest_terms fun cdv A outer s H E hr => (dss_cons (ds_set (i := 2) sc_lowest_terms.nd rfl (by first | exact .inl rfl | exact .inr rfl) (de_callF dc_gcd (by rfl) T.i_gcd (dn_cons (de_var (pv 0)) (dn_cons (de_var (pv 1)) (dn_nil))))) (dss_one (ds_ret (de_tup (dn_cons (de_op do_fdiv (de_var (pv 0)) (de_var (pv 2))) (dn_cons (de_op do_fdiv (de_var (pv 1)) (de_var (pv 2))) (dn_nil)))))))
theorem ok_need_prices (T : Txt K mg Ad) : DFn P w K mg base 2 Ad.a_need_prices Ad.d_need_prices ["found", "prices"] Wneed_prices :=
  dfn_of T.F_need_prices sc_need_prices fun cdv A outer s H E hr => (dss_cons (ds_if (DW.dt (dw_or (dt_not (dt_tru (de_callB dc_isi (by rfl) T.z_isinstance (by decide +kernel) (dn_cons (de_var (pv 1)) (dn_cons (de_bltn (by rfl) T.z_tuple (by decide +kernel)) (dn_nil)))))) (dw_or1 (dt_cmp (do_ne hr.r.units) (de_callB dc_len (by rfl) T.z_len (by decide +kernel) (dn_cons (de_var (pv 1)) (dn_nil))) (de_callB dc_len (by rfl) T.z_len (by decide +kernel) (dn_cons (de_var (pv 0)) (dn_nil))) (nomark _))))) (dss_one (ds_never)) (dss_nil)) (dss_cons (ds_for oBody rfl (di_enumB (by rfl) T.z_enumerate (de_var (pv 0))) (dg_tup rfl (dgs_cons (dg_name (i := 2) sc_need_prices.nd rfl (by first | exact .inl rfl | exact .inr rfl)) (dgs_cons (dg_name (i := 3) sc_need_prices.nd rfl (by first | exact .inl rfl | exact .inr rfl)) (dgs_nil)))) (dss_one (ds_if (dt_not (dt_tru (de_call (ok_is_fraction T) (hr.mono (by decide)) (by rfl) T.g_is_fraction T.F_is_fraction.kp T.b_is_fraction .nil rs0 pBody (dn_cons (de_ix (hu_of hr.r) (de_var (pv 1)) (de_var (pv 2)) (fun _ _ => rfl)) (dn_cons (de_ix (hu_of hr.r) (de_var (pv 3)) ((T.c_LOW.elim fun _ h => de_glob (by rfl) h.1 h.2 fun _ _ => rfl)) (fun _ _ => rfl)) (dn_cons (de_ix (hu_of hr.r) (de_var (pv 3)) ((T.c_HIGH.elim fun _ h => de_glob (by rfl) h.1 h.2 fun _ _ => rfl)) (fun _ _ => rfl)) (dn_nil))))))) (dss_one (ds_never)) (dss_nil)))) (dss_one (ds_ret (de_var (pv 1))))))
theorem ok_common_unit (T : Txt K mg Ad) : DFn P w K mg base 1 Ad.a_common_unit Ad.d_common_unit ["prices"] Wcommon_unit :=
  dfn_of T.F_common_unit sc_common_unit fun cdv A outer s H E hr => (dss_cons (ds_set (i := 1) sc_common_unit.nd rfl (by first | exact .inl rfl | exact .inr rfl) (de_int)) (dss_cons (ds_for oBody rfl (di_seq (de_var (pv 0))) (dg_tup rfl (dgs_cons (dg_name (i := 2) sc_common_unit.nd rfl (by first | exact .inl rfl | exact .inr rfl)) (dgs_cons (dg_name (i := 3) sc_common_unit.nd rfl (by first | exact .inl rfl | exact .inr rfl)) (dgs_nil)))) (dss_one (ds_set (i := 1) sc_common_unit.nd rfl (by first | exact .inl rfl | exact .inr rfl) (de_callF dc_lcm (by rfl) T.i_lcm (dn_cons (de_var (pv 1)) (dn_cons (de_var (pv 3)) (dn_nil))))))) (dss_one (ds_ret (de_var (pv 1))))))
theorem ok_in_units (T : Txt K mg Ad) : DFn P w K mg base 1 Ad.a_in_units Ad.d_in_units ["prices", "unit"] Win_units :=
  dfn_of T.F_in_units sc_in_units fun cdv A outer s H E hr => (dss_one (ds_ret (de_comp [("part", 2), ("of", 3)] (gTup K 2 (gCons (gName 2) (gCons (gName 3) (gNil)))) rfl sc_in_units.nd (di_seq (de_var (pv 0))) (blkOk_by (N := N_in_units) (sc := defScope st_in_units) (by decide +kernel)) (fun _ _ _ _ _ => pg_tup rfl (pgs_cons (pg_name (i := 2) sc_in_units.nd rfl (by first | exact .inl rfl | exact .inr rfl)) (pgs_cons (pg_name (i := 3) sc_in_units.nd rfl (by first | exact .inl rfl | exact .inr rfl)) (pgs_nil)))) (gv_tup (gvs_cons (gv_name (by decide)) (gvs_cons (gv_name (by decide)) (gvs_nil)))) (fun _ _ _ _ _ => dts_nil) (fun _ _ _ _ _ => de_op do_mul (de_var (pv 2)) (de_op do_fdiv (de_var (pv 1)) (de_var (pv 3)))))))
theorem ok_fractions_of (T : Txt K mg Ad) : DFn P w K mg base 2 Ad.a_fractions_of Ad.d_fractions_of ["amounts", "unit"] Wfractions_of :=
  dfn_of T.F_fractions_of sc_fractions_of fun cdv A outer s H E hr => (dss_cons (ds_if (dt_cmp (do_eq hr.r.units) (de_var (pv 1)) (de_int) (nomark _)) (dss_one (ds_ret (de_callTy dc_tuple (by rfl) T.z_tuple (by decide +kernel) (dn_cons (de_comp [("amount", 2)] (gName 2) rfl sc_fractions_of.nd (di_seq (de_var (pv 0))) (blkOk_by (N := N_fractions_of) (sc := defScope st_fractions_of) (by decide +kernel)) (fun _ _ _ _ _ => pg_name (i := 2) sc_fractions_of.nd rfl (by first | exact .inl rfl | exact .inr rfl)) (gv_name (by decide)) (fun _ _ _ _ _ => dts_nil) (fun _ _ _ _ _ => de_tup (dn_cons (de_var (pv 2)) (dn_cons (de_int) (dn_nil))))) (dn_nil))))) (dss_nil)) (dss_one (ds_ret (de_callTy dc_tuple (by rfl) T.z_tuple (by decide +kernel) (dn_cons (de_comp [("amount", 2)] (gName 2) rfl sc_fractions_of.nd (di_seq (de_var (pv 0))) (blkOk_by (N := N_fractions_of) (sc := defScope st_fractions_of) (by decide +kernel)) (fun _ _ _ _ _ => pg_name (i := 2) sc_fractions_of.nd rfl (by first | exact .inl rfl | exact .inr rfl)) (gv_name (by decide)) (fun _ _ _ _ _ => dts_nil) (fun _ _ _ _ _ => de_call (ok_lowest_terms T) (hr.mono (by decide)) (by rfl) T.g_lowest_terms T.F_lowest_terms.kp T.b_lowest_terms .nil rs0 passL (dn_cons (de_var (pv 2)) (dn_cons (de_var (pv 1)) (dn_nil))))) (dn_nil))))))
theorem ok_sums_of (T : Txt K mg Ad) : DFn P w K mg base 1 Ad.a_sums_of Ad.d_sums_of ["found", "wholes", "amounts"] Wsums_of :=
  dfn_of T.F_sums_of sc_sums_of fun cdv A outer s H E hr => (dss_cons (ds_set (i := 3) sc_sums_of.nd rfl (by first | exact .inl rfl | exact .inr rfl) (de_callTy dc_listO (by rfl) T.z_list (by decide +kernel) (dn_cons (de_var (pv 2)) (dn_nil)))) (dss_cons (ds_setCompO (i := 4) [("amount", 5), ("thing", 6)] (gTup K 2 (gCons (gName 5) (gCons (gName 6) (gNil)))) rfl sc_sums_of.nd rfl rfl (sw_true rfl rfl rfl (by decide +kernel)) (di_zip (by rfl) T.z_zip (de_var (pv 2)) (de_var (pv 0))) (blkOk_by (N := N_sums_of) (sc := defScope st_sums_of) (by decide +kernel)) (fun _ _ _ _ _ => pg_tup rfl (pgs_cons (pg_name (i := 5) sc_sums_of.nd rfl (by first | exact .inl rfl | exact .inr rfl)) (pgs_cons (pg_name (i := 6) sc_sums_of.nd rfl (by first | exact .inl rfl | exact .inr rfl)) (pgs_nil)))) (gv_tup (gvs_cons (gv_name (by decide)) (gvs_cons (gv_name (by decide)) (gvs_nil)))) (fun _ _ _ _ _ => dts_nil) (fun _ _ _ _ _ => de_ite (dt_cmp (do_eq hr.r.units) (de_ix (hu_of hr.r) (de_var (pv 6)) ((T.c_LAND.elim fun _ h => de_glob (by rfl) h.1 h.2 fun _ _ => rfl)) (fun _ _ => rfl)) (de_str) (nomark _)) (de_var (pv 5)) (de_int))) (dss_cons (ds_set (i := 7) sc_sums_of.nd rfl (by first | exact .inl rfl | exact .inr rfl) (de_callTy dc_listO (by rfl) T.z_list (by decide +kernel) (dn_cons (de_var (pv 4)) (dn_nil)))) (dss_cons (ds_set (i := 8) sc_sums_of.nd rfl (by first | exact .inl rfl | exact .inr rfl) (de_lstO (dn_nil))) (dss_cons (ds_for oBody rfl (di_revR (by rfl) T.z_reversed (dr_1 (by rfl) T.z_range (de_callB dc_len (by rfl) T.z_len (by decide +kernel) (dn_cons (de_var (pv 0)) (dn_nil))))) (dg_name (i := 9) sc_sums_of.nd rfl (by first | exact .inl rfl | exact .inr rfl)) (dss_cons (ds_set (i := 6) sc_sums_of.nd rfl (by first | exact .inl rfl | exact .inr rfl) (de_ix (hu_of hr.r) (de_var (pv 0)) (de_var (pv 9)) (fun _ _ => rfl))) (dss_cons (ds_set (i := 10) sc_sums_of.nd rfl (by first | exact .inl rfl | exact .inr rfl) (de_ix (hu_of hr.r) (de_var (pv 4)) (de_var (pv 9)) (fun _ _ => rfl))) (dss_cons (ds_if (dt_cmp (do_eq hr.r.units) (de_ix (hu_of hr.r) (de_var (pv 6)) ((T.c_MAKING.elim fun _ h => de_glob (by rfl) h.1 h.2 fun _ _ => rfl)) (fun _ _ => rfl)) (de_str) (nomark _)) (dss_cons (ds_asg (de_ix (hu_of hr.r) (de_var (pv 6)) ((T.c_RULE.elim fun _ h => de_glob (by rfl) h.1 h.2 fun _ _ => rfl)) (fun _ _ => rfl)) (dg_tup rfl (dgs_cons (dg_name (i := 11) sc_sums_of.nd rfl (by first | exact .inl rfl | exact .inr rfl)) (dgs_cons (dg_name (i := 12) sc_sums_of.nd rfl (by first | exact .inl rfl | exact .inr rfl)) (dgs_cons (dg_name (i := 13) sc_sums_of.nd rfl (by first | exact .inl rfl | exact .inr rfl)) (dgs_nil)))))) (dss_cons (ds_if (dt_cmp do_ge (de_op do_mul (de_int) (de_var (pv 10))) (de_op do_mul (de_var (pv 11)) (de_ix (hu_of hr.r) (de_var (pv 3)) (de_var (pv 9)) (fun _ _ => rfl))) (nomark _)) (dss_cons (ds_expr (de_app (de_var (pv 8)) (de_int))) (dss_one (ds_set (i := 10) sc_sums_of.nd rfl (by first | exact .inl rfl | exact .inr rfl) (de_ite (dt_cmp (do_eq hr.r.units) (de_var (pv 12)) (de_str) (nomark _)) (de_ix (hu_of hr.r) (de_var (pv 3)) (de_var (pv 9)) (fun _ _ => rfl)) (de_var (pv 10)))))) (dss_cons (ds_expr (de_app (de_var (pv 8)) (de_int))) (dss_one (ds_set (i := 10) sc_sums_of.nd rfl (by first | exact .inl rfl | exact .inr rfl) (de_ite (dt_cmp (do_eq hr.r.units) (de_var (pv 13)) (de_str) (nomark _)) (de_var (pv 10)) (de_int)))))) (dss_one (ds_asg (de_var (pv 10)) (dg_sub (hu_of hr.r) (de_var (pv 7)) (de_var (pv 9))))))) (dss_nil)) (dss_one (ds_if (dt_cmp do_gt (de_var (pv 9)) (de_int) (nomark _)) (dss_cons (ds_set (i := 14) sc_sums_of.nd rfl (by first | exact .inl rfl | exact .inr rfl) (de_ix (hu_of hr.r) (de_var (pv 1)) (de_var (pv 9)) (fun _ _ => rfl))) (dss_cons (ds_augS (f := (fun i j => i + j)) ip_add (hu_of hr.r) (de_var (pv 3)) (de_var (pv 14)) (de_ix (hu_of hr.r) (de_var (pv 3)) (de_var (pv 9)) (fun _ _ => rfl))) (dss_one (ds_augS (f := (fun i j => i + j)) ip_add (hu_of hr.r) (de_var (pv 4)) (de_var (pv 14)) (de_var (pv 10)))))) (dss_nil))))))) (dss_cons (ds_expr (de_rvs (de_var (pv 8)))) (dss_one (ds_ret (de_tup (dn_cons (de_var (pv 3)) (dn_cons (de_var (pv 4)) (dn_cons (de_var (pv 7)) (dn_cons (de_var (pv 8)) (dn_nil))))))))))))))
theorem ok__sums_at (T : Txt K mg Ad) : DFn P w K mg base 12 Ad.a__sums_at Ad.d__sums_at ["good", "prices"] W_sums_at :=
  dfn_of T.F__sums_at sc__sums_at fun cdv A outer s H E hr => (dss_cons (ds_asg (de_call (ok_look_over T) (hr.mono (by decide)) (by rfl) T.g_look_over T.F_look_over.kp T.b_look_over .nil rs0 pBody (dn_cons (de_var (pv 0)) (dn_nil))) (dg_tup rfl (dgs_cons (dg_name (i := 2) sc__sums_at.nd rfl (by first | exact .inl rfl | exact .inr rfl)) (dgs_cons (dg_name (i := 3) sc__sums_at.nd rfl (by first | exact .inl rfl | exact .inr rfl)) (dgs_cons (dg_name (i := 4) sc__sums_at.nd rfl (by first | exact .inl rfl | exact .inr rfl)) (dgs_cons (dg_name (i := 4) sc__sums_at.nd rfl (by first | exact .inl rfl | exact .inr rfl)) (dgs_nil))))))) (dss_cons (ds_expr (de_call (ok_need_prices T) (hr.mono (by decide)) (by rfl) T.g_need_prices T.F_need_prices.kp T.b_need_prices .nil rs0 pBody (dn_cons (de_var (pv 2)) (dn_cons (de_var (pv 1)) (dn_nil))))) (dss_cons (ds_set (i := 5) sc__sums_at.nd rfl (by first | exact .inl rfl | exact .inr rfl) (de_call (ok_common_unit T) (hr.mono (by decide)) (by rfl) T.g_common_unit T.F_common_unit.kp T.b_common_unit .nil rs0 pBody (dn_cons (de_var (pv 1)) (dn_nil)))) (dss_cons (ds_asg (de_call (ok_sums_of T) (hr.mono (by decide)) (by rfl) T.g_sums_of T.F_sums_of.kp T.b_sums_of .nil rs0 pBody (dn_cons (de_var (pv 2)) (dn_cons (de_var (pv 3)) (dn_cons (de_call (ok_in_units T) (hr.mono (by decide)) (by rfl) T.g_in_units T.F_in_units.kp T.b_in_units .nil rs0 pBody (dn_cons (de_var (pv 1)) (dn_cons (de_var (pv 5)) (dn_nil)))) (dn_nil))))) (dg_tup rfl (dgs_cons (dg_name (i := 6) sc__sums_at.nd rfl (by first | exact .inl rfl | exact .inr rfl)) (dgs_cons (dg_name (i := 7) sc__sums_at.nd rfl (by first | exact .inl rfl | exact .inr rfl)) (dgs_cons (dg_name (i := 8) sc__sums_at.nd rfl (by first | exact .inl rfl | exact .inr rfl)) (dgs_cons (dg_name (i := 9) sc__sums_at.nd rfl (by first | exact .inl rfl | exact .inr rfl)) (dgs_nil))))))) (dss_one (ds_ret (de_tup (dn_cons (de_var (pv 6)) (dn_cons (de_var (pv 7)) (dn_cons (de_var (pv 8)) (dn_cons (de_var (pv 9)) (dn_cons (de_var (pv 5)) (dn_nil)))))))))))))
theorem ok_costs (T : Txt K mg Ad) : DFn P w K mg base 13 Ad.a_costs Ad.d_costs ["good", "prices"] Wcosts :=
  dfn_of T.F_costs sc_costs fun cdv A outer s H E hr => (dss_cons (ds_asg (de_call (ok__sums_at T) (hr.mono (by decide)) (by rfl) T.g__sums_at T.F__sums_at.kp T.b__sums_at .nil rs0 pBody (dn_cons (de_var (pv 0)) (dn_cons (de_var (pv 1)) (dn_nil)))) (dg_tup rfl (dgs_cons (dg_name (i := 2) sc_costs.nd rfl (by first | exact .inl rfl | exact .inr rfl)) (dgs_cons (dg_name (i := 3) sc_costs.nd rfl (by first | exact .inl rfl | exact .inr rfl)) (dgs_cons (dg_name (i := 3) sc_costs.nd rfl (by first | exact .inl rfl | exact .inr rfl)) (dgs_cons (dg_name (i := 3) sc_costs.nd rfl (by first | exact .inl rfl | exact .inr rfl)) (dgs_cons (dg_name (i := 4) sc_costs.nd rfl (by first | exact .inl rfl | exact .inr rfl)) (dgs_nil)))))))) (dss_one (ds_ret (de_call (ok_fractions_of T) (hr.mono (by decide)) (by rfl) T.g_fractions_of T.F_fractions_of.kp T.b_fractions_of .nil rs0 pBody (dn_cons (de_var (pv 2)) (dn_cons (de_var (pv 4)) (dn_nil)))))))
theorem ok_owns (T : Txt K mg Ad) : DFn P w K mg base 13 Ad.a_owns Ad.d_owns ["good", "prices"] Wowns :=
  dfn_of T.F_owns sc_owns fun cdv A outer s H E hr => (dss_cons (ds_asg (de_call (ok__sums_at T) (hr.mono (by decide)) (by rfl) T.g__sums_at T.F__sums_at.kp T.b__sums_at .nil rs0 pBody (dn_cons (de_var (pv 0)) (dn_cons (de_var (pv 1)) (dn_nil)))) (dg_tup rfl (dgs_cons (dg_name (i := 2) sc_owns.nd rfl (by first | exact .inl rfl | exact .inr rfl)) (dgs_cons (dg_name (i := 3) sc_owns.nd rfl (by first | exact .inl rfl | exact .inr rfl)) (dgs_cons (dg_name (i := 2) sc_owns.nd rfl (by first | exact .inl rfl | exact .inr rfl)) (dgs_cons (dg_name (i := 2) sc_owns.nd rfl (by first | exact .inl rfl | exact .inr rfl)) (dgs_cons (dg_name (i := 4) sc_owns.nd rfl (by first | exact .inl rfl | exact .inr rfl)) (dgs_nil)))))))) (dss_one (ds_ret (de_call (ok_fractions_of T) (hr.mono (by decide)) (by rfl) T.g_fractions_of T.F_fractions_of.kp T.b_fractions_of .nil rs0 pBody (dn_cons (de_var (pv 3)) (dn_cons (de_var (pv 4)) (dn_nil)))))))
theorem ok_counted (T : Txt K mg Ad) : DFn P w K mg base 13 Ad.a_counted Ad.d_counted ["good", "prices"] Wcounted :=
  dfn_of T.F_counted sc_counted fun cdv A outer s H E hr => (dss_cons (ds_asg (de_call (ok__sums_at T) (hr.mono (by decide)) (by rfl) T.g__sums_at T.F__sums_at.kp T.b__sums_at .nil rs0 pBody (dn_cons (de_var (pv 0)) (dn_cons (de_var (pv 1)) (dn_nil)))) (dg_tup rfl (dgs_cons (dg_name (i := 2) sc_counted.nd rfl (by first | exact .inl rfl | exact .inr rfl)) (dgs_cons (dg_name (i := 2) sc_counted.nd rfl (by first | exact .inl rfl | exact .inr rfl)) (dgs_cons (dg_name (i := 3) sc_counted.nd rfl (by first | exact .inl rfl | exact .inr rfl)) (dgs_cons (dg_name (i := 2) sc_counted.nd rfl (by first | exact .inl rfl | exact .inr rfl)) (dgs_cons (dg_name (i := 4) sc_counted.nd rfl (by first | exact .inl rfl | exact .inr rfl)) (dgs_nil)))))))) (dss_one (ds_ret (de_call (ok_fractions_of T) (hr.mono (by decide)) (by rfl) T.g_fractions_of T.F_fractions_of.kp T.b_fractions_of .nil rs0 pBody (dn_cons (de_var (pv 3)) (dn_cons (de_var (pv 4)) (dn_nil)))))))
theorem ok_words_at (T : Txt K mg Ad) : DFn P w K mg base 13 Ad.a_words_at Ad.d_words_at ["good", "prices"] Wwords_at :=
  dfn_of T.F_words_at sc_words_at fun cdv A outer s H E hr => (dss_cons (ds_asg (de_call (ok__sums_at T) (hr.mono (by decide)) (by rfl) T.g__sums_at T.F__sums_at.kp T.b__sums_at .nil rs0 pBody (dn_cons (de_var (pv 0)) (dn_cons (de_var (pv 1)) (dn_nil)))) (dg_tup rfl (dgs_cons (dg_name (i := 2) sc_words_at.nd rfl (by first | exact .inl rfl | exact .inr rfl)) (dgs_cons (dg_name (i := 2) sc_words_at.nd rfl (by first | exact .inl rfl | exact .inr rfl)) (dgs_cons (dg_name (i := 2) sc_words_at.nd rfl (by first | exact .inl rfl | exact .inr rfl)) (dgs_cons (dg_name (i := 3) sc_words_at.nd rfl (by first | exact .inl rfl | exact .inr rfl)) (dgs_cons (dg_name (i := 2) sc_words_at.nd rfl (by first | exact .inl rfl | exact .inr rfl)) (dgs_nil)))))))) (dss_one (ds_ret (de_callTy dc_tuple (by rfl) T.z_tuple (by decide +kernel) (dn_cons (de_var (pv 3)) (dn_nil))))))
theorem ok_is_of_here (T : Txt K mg Ad) : DFn P w K mg base 13 Ad.a_is_of_here Ad.d_is_of_here ["good", "prices"] Wis_of_here :=
  dfn_of T.F_is_of_here sc_is_of_here fun cdv A outer s H E hr => (dss_cons (ds_asg (de_call (ok__sums_at T) (hr.mono (by decide)) (by rfl) T.g__sums_at T.F__sums_at.kp T.b__sums_at .nil rs0 pBody (dn_cons (de_var (pv 0)) (dn_cons (de_var (pv 1)) (dn_nil)))) (dg_tup rfl (dgs_cons (dg_name (i := 2) sc_is_of_here.nd rfl (by first | exact .inl rfl | exact .inr rfl)) (dgs_cons (dg_name (i := 2) sc_is_of_here.nd rfl (by first | exact .inl rfl | exact .inr rfl)) (dgs_cons (dg_name (i := 2) sc_is_of_here.nd rfl (by first | exact .inl rfl | exact .inr rfl)) (dgs_cons (dg_name (i := 3) sc_is_of_here.nd rfl (by first | exact .inl rfl | exact .inr rfl)) (dgs_cons (dg_name (i := 2) sc_is_of_here.nd rfl (by first | exact .inl rfl | exact .inr rfl)) (dgs_nil)))))))) (dss_one (ds_ret (de_cmp (do_eq hr.r.units) (de_ix (hu_of hr.r) (de_var (pv 3)) (de_int) (fun _ _ => rfl)) (de_int) (nomark _)))))
theorem ok_portion (T : Txt K mg Ad) : DFn P w K mg base 13 Ad.a_portion Ad.d_portion ["good", "prices"] Wportion :=
  dfn_of T.F_portion sc_portion fun cdv A outer s H E hr => (dss_cons (ds_asg (de_call (ok__sums_at T) (hr.mono (by decide)) (by rfl) T.g__sums_at T.F__sums_at.kp T.b__sums_at .nil rs0 pBody (dn_cons (de_var (pv 0)) (dn_cons (de_var (pv 1)) (dn_nil)))) (dg_tup rfl (dgs_cons (dg_name (i := 2) sc_portion.nd rfl (by first | exact .inl rfl | exact .inr rfl)) (dgs_cons (dg_name (i := 3) sc_portion.nd rfl (by first | exact .inl rfl | exact .inr rfl)) (dgs_cons (dg_name (i := 4) sc_portion.nd rfl (by first | exact .inl rfl | exact .inr rfl)) (dgs_cons (dg_name (i := 4) sc_portion.nd rfl (by first | exact .inl rfl | exact .inr rfl)) (dgs_cons (dg_name (i := 4) sc_portion.nd rfl (by first | exact .inl rfl | exact .inr rfl)) (dgs_nil)))))))) (dss_one (ds_ret (de_call (ok_lowest_terms T) (hr.mono (by decide)) (by rfl) T.g_lowest_terms T.F_lowest_terms.kp T.b_lowest_terms .nil rs0 pBody (dn_cons (de_ix (hu_of hr.r) (de_var (pv 3)) (de_int) (fun _ _ => rfl)) (dn_cons (de_ix (hu_of hr.r) (de_var (pv 2)) (de_int) (fun _ _ => rfl)) (dn_nil)))))))
theorem ok__law_begun (T : Txt K mg Ad) : DFn P w K mg base 1 Ad.a__law_begun Ad.d__law_begun ["script"] W_law_begun :=
  dfn_of T.F__law_begun sc__law_begun fun cdv A outer s H E hr => (dss_cons (ds_setComp (i := 1) [("cell", 2)] (gName 2) rfl sc__law_begun.nd rfl rfl (sw_true rfl rfl rfl (by decide +kernel)) (di_seq (de_var (pv 0))) (blkOk_by (N := N__law_begun) (sc := defScope st__law_begun) (by decide +kernel)) (fun _ _ _ _ _ => pg_name (i := 2) sc__law_begun.nd rfl (by first | exact .inl rfl | exact .inr rfl)) (gv_name (by decide)) (fun _ _ _ _ _ => dts_one (dt_cmp do_ge (de_var (pv 2)) (de_op do_pow (de_int) (de_int)) (nomark _))) (fun _ _ _ _ _ => de_var (pv 2))) (dss_one (ds_ret (de_dct (.str (de_op do_add (de_callTy dc_list (by rfl) T.z_list (by decide +kernel) (dn_cons (de_var (pv 0)) (dn_nil))) (de_lst (dn_cons (de_callB dc_len (by rfl) T.z_len (by decide +kernel) (dn_cons (de_var (pv 0)) (dn_nil))) (dn_nil)))) (.str (de_ite (dt_cmp (do_ne hr.r.units) (de_var (pv 1)) (de_lst (dn_nil)) (nomark _)) (de_ix (hu_of hr.r) (de_var (pv 1)) (de_int) (fun _ _ => rfl)) (de_int)) (.str (de_int) (.nil)))) (by rfl) (by rfl) (fun z => by cases z) (by decide) (by decide) (by decide +kernel)))))
theorem ok__law_draw (T : Txt K mg Ad) : DFn P w K mg base 1 Ad.a__law_draw Ad.d__law_draw ["m", "limit"] W_law_draw :=
  dfn_of T.F__law_draw sc__law_draw fun cdv A outer s H E hr => (dss_cons (ds_if (dt_cmp do_gt (de_ix (hu_of hr.r) (de_var (pv 0)) (de_str) (fun _ _ => rfl)) (de_int) (nomark _)) (dss_cons (ds_set (i := 2) sc__law_draw.nd rfl (by first | exact .inl rfl | exact .inr rfl) (de_op do_mod (de_callTy dc_int (by rfl) T.z_int (by decide +kernel) (dn_cons (de_ix (hu_of hr.r) (de_var (pv 0)) (de_str) (fun _ _ => rfl)) (dn_nil))) (de_var (pv 1)))) (dss_cons (ds_asg (de_op do_fdiv (de_ix (hu_of hr.r) (de_var (pv 0)) (de_str) (fun _ _ => rfl)) (de_var (pv 1))) (dg_sub (hu_of hr.r) (de_var (pv 0)) (de_str))) (dss_one (ds_ret (de_var (pv 2)))))) (dss_nil)) (dss_cons (ds_set (i := 3) sc__law_draw.nd rfl (by first | exact .inl rfl | exact .inr rfl) (de_op do_add (de_ix (hu_of hr.r) (de_var (pv 0)) (de_str) (fun _ _ => rfl)) (de_int))) (dss_cons (ds_asg (de_var (pv 3)) (dg_sub (hu_of hr.r) (de_var (pv 0)) (de_str))) (dss_cons (ds_set (i := 4) sc__law_draw.nd rfl (by first | exact .inl rfl | exact .inr rfl) (de_ix (hu_of hr.r) (de_ix (hu_of hr.r) (de_var (pv 0)) (de_str) (fun _ _ => rfl)) (de_op do_mod (de_callTy dc_int (by rfl) T.z_int (by decide +kernel) (dn_cons (de_var (pv 3)) (dn_nil))) (de_callB dc_len (by rfl) T.z_len (by decide +kernel) (dn_cons (de_ix (hu_of hr.r) (de_var (pv 0)) (de_str) (fun _ _ => rfl)) (dn_nil)))) (fun _ _ => rfl))) (dss_cons (ds_set (i := 5) sc__law_draw.nd rfl (by first | exact .inl rfl | exact .inr rfl) (de_op do_mul (de_callTy dc_int (by rfl) T.z_int (by decide +kernel) (dn_cons (de_op do_add (de_op do_add (de_op do_mod (de_callTy dc_int (by rfl) T.z_int (by decide +kernel) (dn_cons (de_var (pv 4)) (dn_nil))) (de_int)) (de_op do_mul (de_int) (de_var (pv 3)))) (de_op do_mul (de_op do_mul (de_int) (de_var (pv 3))) (de_var (pv 3)))) (dn_nil))) (de_int))) (dss_cons (ds_set (i := 5) sc__law_draw.nd rfl (by first | exact .inl rfl | exact .inr rfl) (de_op do_mul (de_callTy dc_int (by rfl) T.z_int (by decide +kernel) (dn_cons (de_op do_add (de_op do_mod (de_callTy dc_int (by rfl) T.z_int (by decide +kernel) (dn_cons (de_var (pv 5)) (dn_nil))) (de_int)) (de_op do_mul (de_int) (de_var (pv 3)))) (dn_nil))) (de_int))) (dss_one (ds_ret (de_op do_mod (de_callTy dc_int (by rfl) T.z_int (by decide +kernel) (dn_cons (de_op do_fdiv (de_op do_mod (de_callTy dc_int (by rfl) T.z_int (by decide +kernel) (dn_cons (de_var (pv 5)) (dn_nil))) (de_int)) (de_int)) (dn_nil))) (de_var (pv 1)))))))))))
theorem ok__law_of (T : Txt K mg Ad) : DFn P w K mg base 2 Ad.a__law_of Ad.d__law_of ["m", "some"] W_law_of :=
  dfn_of T.F__law_of sc__law_of fun cdv A outer s H E hr => (dss_one (ds_ret (de_ix (hu_of hr.r) (de_var (pv 1)) (de_call (ok__law_draw T) (hr.mono (by decide)) (by rfl) T.g__law_draw T.F__law_draw.kp T.b__law_draw .nil rs0 pBody (dn_cons (de_var (pv 0)) (dn_cons (de_callB dc_len (by rfl) T.z_len (by decide +kernel) (dn_cons (de_var (pv 1)) (dn_nil))) (dn_nil)))) (fun _ _ => rfl))))
theorem ok__law_span (T : Txt K mg Ad) : DFn P w K mg base 3 Ad.a__law_span Ad.d__law_span ["m", "left"] W_law_span :=
  dfn_of T.F__law_span sc__law_span fun cdv A outer s H E hr => (dss_cons (ds_set (i := 2) sc__law_span.nd rfl (by first | exact .inl rfl | exact .inr rfl) (de_call (ok__law_of T) (hr.mono (by decide)) (by rfl) T.g__law_of T.F__law_of.kp T.b__law_of .nil rs0 pBody (dn_cons (de_var (pv 0)) (dn_cons (de_lst (dn_cons (de_int) (dn_cons (de_int) (dn_cons (de_int) (dn_cons (de_int) (dn_cons (de_int) (dn_cons (de_call (ok__law_draw T) (hr.mono (by decide)) (by rfl) T.g__law_draw T.F__law_draw.kp T.b__law_draw .nil rs0 pBody (dn_cons (de_var (pv 0)) (dn_cons (de_int) (dn_nil)))) (dn_cons (de_call (ok__law_draw T) (hr.mono (by decide)) (by rfl) T.g__law_draw T.F__law_draw.kp T.b__law_draw .nil rs0 pBody (dn_cons (de_var (pv 0)) (dn_cons (de_op do_sub (de_op do_pow (de_int) (de_int)) (de_int)) (dn_nil)))) (dn_nil))))))))) (dn_nil))))) (dss_cons (ds_if (DW.dt (dw_or (dt_cmp (do_eq hr.r.units) (de_ix (hu_of hr.r) (de_var (pv 1)) (de_str) (fun _ _ => rfl)) (de_int) (nomark _)) (dw_or1 (dt_cmp (do_eq hr.r.units) (de_call (ok__law_draw T) (hr.mono (by decide)) (by rfl) T.g__law_draw T.F__law_draw.kp T.b__law_draw .nil rs0 pBody (dn_cons (de_var (pv 0)) (dn_cons (de_int) (dn_nil)))) (de_int) (nomark _))))) (dss_one (ds_ret (de_tup (dn_cons (de_var (pv 2)) (dn_cons (de_var (pv 2)) (dn_nil)))))) (dss_nil)) (dss_cons (ds_asg (de_op do_sub (de_ix (hu_of hr.r) (de_var (pv 1)) (de_str) (fun _ _ => rfl)) (de_int)) (dg_sub (hu_of hr.r) (de_var (pv 1)) (de_str))) (dss_one (ds_ret (de_tup (dn_cons (de_var (pv 2)) (dn_cons (de_op do_add (de_op do_add (de_var (pv 2)) (de_int)) (de_call (ok__law_of T) (hr.mono (by decide)) (by rfl) T.g__law_of T.F__law_of.kp T.b__law_of .nil rs0 pBody (dn_cons (de_var (pv 0)) (dn_cons (de_lst (dn_cons (de_int) (dn_cons (de_int) (dn_cons (de_call (ok__law_draw T) (hr.mono (by decide)) (by rfl) T.g__law_draw T.F__law_draw.kp T.b__law_draw .nil rs0 pBody (dn_cons (de_var (pv 0)) (dn_cons (de_int) (dn_nil)))) (dn_nil))))) (dn_nil))))) (dn_nil)))))))))
theorem ok__law_term (T : Txt K mg Ad) : DFn P w K mg base 3 Ad.a__law_term Ad.d__law_term ["m"] W_law_term :=
  dfn_of T.F__law_term sc__law_term fun cdv A outer s H E hr => (dss_cons (ds_set (i := 1) sc__law_term.nd rfl (by first | exact .inl rfl | exact .inr rfl) (de_call (ok__law_of T) (hr.mono (by decide)) (by rfl) T.g__law_of T.F__law_of.kp T.b__law_of .nil rs0 pBody (dn_cons (de_var (pv 0)) (dn_cons (de_lst (dn_cons (de_int) (dn_cons (de_int) (dn_cons (de_int) (dn_cons (de_int) (dn_cons (de_int) (dn_cons (de_call (ok__law_draw T) (hr.mono (by decide)) (by rfl) T.g__law_draw T.F__law_draw.kp T.b__law_draw .nil rs0 pBody (dn_cons (de_var (pv 0)) (dn_cons (de_int) (dn_nil)))) (dn_nil)))))))) (dn_nil))))) (dss_one (ds_ret (de_tup (dn_cons (de_var (pv 1)) (dn_cons (de_call (ok__law_of T) (hr.mono (by decide)) (by rfl) T.g__law_of T.F__law_of.kp T.b__law_of .nil rs0 pBody (dn_cons (de_var (pv 0)) (dn_cons (de_lst (dn_cons (de_str) (dn_cons (de_str) (dn_cons (de_str) (dn_nil))))) (dn_nil)))) (dn_cons (de_call (ok__law_of T) (hr.mono (by decide)) (by rfl) T.g__law_of T.F__law_of.kp T.b__law_of .nil rs0 pBody (dn_cons (de_var (pv 0)) (dn_cons (de_lst (dn_cons (de_str) (dn_cons (de_str) (dn_cons (de_str) (dn_nil))))) (dn_nil)))) (dn_nil))))))))
theorem ok__law_thing (T : Txt K mg Ad) : ∀ n : Nat, DFn P w K mg base (3 + n) Ad.a__law_thing Ad.d__law_thing ["m", "left", "must"] (W_law_thing n)
  | 0 => dfn0
  | n + 1 => by
    have ih := ok__law_thing T n
    exact dfn_of T.F__law_thing sc__law_thing fun cdv A outer s H E hr => (dss_cons (ds_asg (de_call (ok__law_span T) (hr.mono (by first | omega | (simp only [Nat.add_eq]; omega))) (by rfl) T.g__law_span T.F__law_span.kp T.b__law_span .nil rs0 pBody (dn_cons (de_var (pv 0)) (dn_cons (de_var (pv 1)) (dn_nil)))) (dg_tup rfl (dgs_cons (dg_name (i := 3) sc__law_thing.nd rfl (by first | exact .inl rfl | exact .inr rfl)) (dgs_cons (dg_name (i := 4) sc__law_thing.nd rfl (by first | exact .inl rfl | exact .inr rfl)) (dgs_nil))))) (dss_cons (ds_set (i := 5) sc__law_thing.nd rfl (by first | exact .inl rfl | exact .inr rfl) (de_call (ok__law_of T) (hr.mono (by first | omega | (simp only [Nat.add_eq]; omega))) (by rfl) T.g__law_of T.F__law_of.kp T.b__law_of .nil rs0 pBody (dn_cons (de_var (pv 0)) (dn_cons (de_lst (dn_cons (de_str) (dn_cons (de_str) (dn_nil)))) (dn_nil))))) (dss_cons (ds_if (DW.dt (dw_and (dt_not (dt_tru (de_var (pv 2)))) (dw_and1 (DW.dt (dw_or (dt_cmp (do_eq hr.r.units) (de_ix (hu_of hr.r) (de_var (pv 1)) (de_str) (fun _ _ => rfl)) (de_int) (nomark _)) (dw_or (dt_cmp (do_eq hr.r.units) (de_ix (hu_of hr.r) (de_var (pv 1)) (de_str) (fun _ _ => rfl)) (de_int) (nomark _)) (dw_or1 (dt_cmp do_gt (de_call (ok__law_draw T) (hr.mono (by first | omega | (simp only [Nat.add_eq]; omega))) (by rfl) T.g__law_draw T.F__law_draw.kp T.b__law_draw .nil rs0 pBody (dn_cons (de_var (pv 0)) (dn_cons (de_int) (dn_nil)))) (de_int) (nomark _))))))))) (dss_one (ds_ret (de_tup (dn_cons (de_str) (dn_cons (de_var (pv 5)) (dn_cons (de_var (pv 3)) (dn_cons (de_var (pv 4)) (dn_nil)))))))) (dss_nil)) (dss_cons (ds_asg (de_op do_sub (de_ix (hu_of hr.r) (de_var (pv 1)) (de_str) (fun _ _ => rfl)) (de_int)) (dg_sub (hu_of hr.r) (de_var (pv 1)) (de_str))) (dss_cons (ds_set (i := 6) sc__law_thing.nd rfl (by first | exact .inl rfl | exact .inr rfl) (de_op do_add (de_int) (de_call (ok__law_draw T) (hr.mono (by first | omega | (simp only [Nat.add_eq]; omega))) (by rfl) T.g__law_draw T.F__law_draw.kp T.b__law_draw .nil rs0 pBody (dn_cons (de_var (pv 0)) (dn_cons (de_callB (dc_min2 rfl) (by rfl) T.z_min (by decide +kernel) (dn_cons (de_int) (dn_cons (de_ix (hu_of hr.r) (de_var (pv 1)) (de_str) (fun _ _ => rfl)) (dn_nil)))) (dn_nil)))))) (dss_cons (ds_asg (de_tup (dn_cons (de_op do_sub (de_ix (hu_of hr.r) (de_var (pv 1)) (de_str) (fun _ _ => rfl)) (de_var (pv 6))) (dn_cons (de_lstO (dn_nil)) (dn_nil)))) (dg_tup rfl (dgs_cons (dg_sub (hu_of hr.r) (de_var (pv 1)) (de_str)) (dgs_cons (dg_name (i := 7) sc__law_thing.nd rfl (by first | exact .inl rfl | exact .inr rfl)) (dgs_nil))))) (dss_cons (ds_for oBody rfl (di_range1 (by rfl) T.z_range (dn_cons (de_var (pv 6)) (dn_nil))) (dg_name (i := 8) sc__law_thing.nd rfl (by first | exact .inl rfl | exact .inr rfl)) (dss_one (ds_expr (de_app (de_var (pv 7)) (de_call ih (hr.mono (by first | omega | (simp only [Nat.add_eq]; omega))) (by rfl) T.g__law_thing T.F__law_thing.kp T.b__law_thing .nil rs0 pBody (dn_cons (de_var (pv 0)) (dn_cons (de_var (pv 1)) (dn_cons (de_bl) (dn_nil))))))))) (dss_one (ds_ret (de_tup (dn_cons (de_str) (dn_cons (de_var (pv 5)) (dn_cons (de_var (pv 3)) (dn_cons (de_var (pv 4)) (dn_cons (de_call (ok__law_term T) (hr.mono (by first | omega | (simp only [Nat.add_eq]; omega))) (by rfl) T.g__law_term T.F__law_term.kp T.b__law_term .nil rs0 pBody (dn_cons (de_var (pv 0)) (dn_nil))) (dn_cons (de_callTy dc_tuple (by rfl) T.z_tuple (by decide +kernel) (dn_cons (de_var (pv 7)) (dn_nil))) (dn_nil)))))))))))))))))
theorem ok__law_good (T : Txt K mg Ad) : DFn P w K mg base 12 Ad.a__law_good Ad.d__law_good ["m", "moving", "making"] W_law_good :=
  dfn_of T.F__law_good sc__law_good fun cdv A outer s H E hr => (dss_cons (ds_set (i := 3) sc__law_good.nd rfl (by first | exact .inl rfl | exact .inr rfl) (de_dct (.str (de_call (ok__law_draw T) (hr.mono (by decide)) (by rfl) T.g__law_draw T.F__law_draw.kp T.b__law_draw .nil rs0 pBody (dn_cons (de_var (pv 0)) (dn_cons (de_op do_add (de_var (pv 1)) (de_int)) (dn_nil)))) (.str (de_op do_add (de_int) (de_call (ok__law_draw T) (hr.mono (by decide)) (by rfl) T.g__law_draw T.F__law_draw.kp T.b__law_draw .nil rs0 pBody (dn_cons (de_var (pv 0)) (dn_cons (de_var (pv 2)) (dn_nil))))) (.str (de_int) (.nil)))) (by rfl) (by rfl) (fun z => by cases z) (by decide) (by decide) (by decide +kernel))) (dss_cons (ds_set (i := 4) sc__law_good.nd rfl (by first | exact .inl rfl | exact .inr rfl) (de_call (ok__law_thing T 8) (hr.mono (by decide)) (by rfl) T.g__law_thing T.F__law_thing.kp T.b__law_thing .nil rs0 pBody (dn_cons (de_var (pv 0)) (dn_cons (de_var (pv 3)) (dn_cons (de_bl) (dn_nil)))))) (dss_one (ds_ret (de_op do_add (de_op do_add (de_sl (de_var (pv 4)) (DL.do_none) (DL.do_some (de_int))) (de_tup (dn_cons (de_callB (dc_max2 rfl) (by rfl) T.z_max (by decide +kernel) (dn_cons (de_int) (dn_cons (de_ix (hu_of hr.r) (de_var (pv 4)) (de_int) (fun _ _ => rfl)) (dn_nil)))) (dn_cons (de_callB (dc_max2 rfl) (by rfl) T.z_max (by decide +kernel) (dn_cons (de_int) (dn_cons (de_ix (hu_of hr.r) (de_var (pv 4)) (de_int) (fun _ _ => rfl)) (dn_nil)))) (dn_nil))))) (de_sl (de_var (pv 4)) (DL.do_some (de_int)) (DL.do_none)))))))
theorem ok__law_rows (T : Txt K mg Ad) : ∀ n : Nat, DFn P w K mg base (0 + n) Ad.a__law_rows Ad.d__law_rows ["thing", "begin"] (W_law_rows n)
  | 0 => dfn0
  | n + 1 => by
    have ih := ok__law_rows T n
    exact dfn_of T.F__law_rows sc__law_rows fun cdv A outer s H E hr => (dss_cons (ds_par (i := 2) (j := 3) rfl sc__law_rows.nd rfl rfl (by decide) rfl rfl (dn_cons (de_lst (dn_nil)) (dn_cons (de_lst (dn_nil)) (dn_nil))) (by rfl)) (dss_cons (ds_for oBody rfl (di_seq (de_ite (dt_cmp (do_eq hr.r.units) (de_ix (hu_of hr.r) (de_var (pv 0)) (de_int) (fun _ _ => rfl)) (de_str) (nomark _)) (de_ix (hu_of hr.r) (de_var (pv 0)) (de_int) (fun _ _ => rfl)) (de_tup (dn_nil)))) (dg_name (i := 4) sc__law_rows.nd rfl (by first | exact .inl rfl | exact .inr rfl)) (dss_cons (ds_set (i := 3) sc__law_rows.nd rfl (by first | exact .inl rfl | exact .inr rfl) (de_op do_add (de_var (pv 3)) (de_lst (dn_cons (de_op do_add (de_op do_add (de_var (pv 1)) (de_int)) (de_callB dc_len (by rfl) T.z_len (by decide +kernel) (dn_cons (de_var (pv 2)) (dn_nil)))) (dn_nil))))) (dss_one (ds_set (i := 2) sc__law_rows.nd rfl (by first | exact .inl rfl | exact .inr rfl) (de_op do_add (de_var (pv 2)) (de_call ih (hr.mono (by first | omega | (simp only [Nat.add_eq]; omega))) (by rfl) T.g__law_rows T.F__law_rows.kp T.b__law_rows .nil rs0 pBody (dn_cons (de_var (pv 4)) (dn_cons (de_op do_add (de_op do_add (de_var (pv 1)) (de_int)) (de_callB dc_len (by rfl) T.z_len (by decide +kernel) (dn_cons (de_var (pv 2)) (dn_nil)))) (dn_nil))))))))) (dss_one (ds_ret (de_op do_add (de_lst (dn_cons (de_tup (dn_cons (de_var (pv 0)) (dn_cons (de_var (pv 3)) (dn_nil)))) (dn_nil))) (de_var (pv 2)))))))
theorem ok__law_least (T : Txt K mg Ad) : DFn P w K mg base 1 Ad.a__law_least Ad.d__law_least ["part", "of"] W_law_least :=
  dfn_of T.F__law_least sc__law_least fun cdv A outer s H E hr => (dss_cons (ds_par (i := 2) (j := 3) rfl sc__law_least.nd rfl rfl (by decide) rfl rfl (dn_cons (de_callB dc_abs (by rfl) T.z_abs (by decide +kernel) (dn_cons (de_var (pv 0)) (dn_nil))) (dn_cons (de_callB dc_abs (by rfl) T.z_abs (by decide +kernel) (dn_cons (de_var (pv 1)) (dn_nil))) (dn_nil))) (by rfl)) (dss_cons (ds_while oBody (dt_cmp (do_ne hr.r.units) (de_var (pv 3)) (de_int) (nomark _)) (dss_one (ds_par (i := 2) (j := 3) rfl sc__law_least.nd rfl rfl (by decide) rfl rfl (dn_cons (de_var (pv 3)) (dn_cons (de_op do_mod (de_callTy dc_int (by rfl) T.z_int (by decide +kernel) (dn_cons (de_var (pv 2)) (dn_nil))) (de_var (pv 3))) (dn_nil))) (by rfl)))) (dss_cons (ds_set (i := 4) sc__law_least.nd rfl (by first | exact .inl rfl | exact .inr rfl) (de_ite (dt_cmp do_gt (de_var (pv 1)) (de_int) (nomark _)) (de_int) (de_neg (de_int)))) (dss_one (ds_ret (de_tup (dn_cons (de_op do_fdiv (de_op do_mul (de_var (pv 4)) (de_var (pv 0))) (de_var (pv 2))) (dn_cons (de_op do_fdiv (de_op do_mul (de_var (pv 4)) (de_var (pv 1))) (de_var (pv 2))) (dn_nil)))))))))
theorem ok__law_sum (T : Txt K mg Ad) : DFn P w K mg base 2 Ad.a__law_sum Ad.d__law_sum ["some"] W_law_sum :=
  dfn_of T.F__law_sum sc__law_sum fun cdv A outer s H E hr => (dss_cons (ds_asg (de_tup (dn_cons (de_int) (dn_cons (de_int) (dn_nil)))) (dg_tup rfl (dgs_cons (dg_name (i := 1) sc__law_sum.nd rfl (by first | exact .inl rfl | exact .inr rfl)) (dgs_cons (dg_name (i := 2) sc__law_sum.nd rfl (by first | exact .inl rfl | exact .inr rfl)) (dgs_nil))))) (dss_cons (ds_for oBody rfl (di_seq (de_var (pv 0))) (dg_name (i := 3) sc__law_sum.nd rfl (by first | exact .inl rfl | exact .inr rfl)) (dss_one (ds_par (i := 1) (j := 2) rfl sc__law_sum.nd rfl rfl (by decide) rfl rfl (dn_cons (de_op do_add (de_op do_mul (de_var (pv 1)) (de_ix (hu_of hr.r) (de_var (pv 3)) (de_int) (fun _ _ => rfl))) (de_op do_mul (de_ix (hu_of hr.r) (de_var (pv 3)) (de_int) (fun _ _ => rfl)) (de_var (pv 2)))) (dn_cons (de_op do_mul (de_var (pv 2)) (de_ix (hu_of hr.r) (de_var (pv 3)) (de_int) (fun _ _ => rfl))) (dn_nil))) (by rfl)))) (dss_one (ds_ret (de_call (ok__law_least T) (hr.mono (by decide)) (by rfl) T.g__law_least T.F__law_least.kp T.b__law_least .nil rs0 pBody (dn_cons (de_var (pv 1)) (dn_cons (de_var (pv 2)) (dn_nil))))))))
theorem ok__law_counted (T : Txt K mg Ad) : DFn P w K mg base 1 Ad.a__law_counted Ad.d__law_counted ["thing", "own", "cost"] W_law_counted :=
  dfn_of T.F__law_counted sc__law_counted fun cdv A outer s H E hr => (dss_cons (ds_if (dt_cmp (do_eq hr.r.units) (de_ix (hu_of hr.r) (de_var (pv 0)) (de_int) (fun _ _ => rfl)) (de_str) (nomark _)) (dss_one (ds_ret (de_var (pv 1)))) (dss_nil)) (dss_cons (ds_asg (de_ix (hu_of hr.r) (de_var (pv 0)) (de_int) (fun _ _ => rfl)) (dg_tup rfl (dgs_cons (dg_name (i := 3) sc__law_counted.nd rfl (by first | exact .inl rfl | exact .inr rfl)) (dgs_cons (dg_name (i := 4) sc__law_counted.nd rfl (by first | exact .inl rfl | exact .inr rfl)) (dgs_cons (dg_name (i := 5) sc__law_counted.nd rfl (by first | exact .inl rfl | exact .inr rfl)) (dgs_nil)))))) (dss_cons (ds_if (dt_cmp do_ge (de_op do_mul (de_op do_mul (de_int) (de_ix (hu_of hr.r) (de_var (pv 1)) (de_int) (fun _ _ => rfl))) (de_ix (hu_of hr.r) (de_var (pv 2)) (de_int) (fun _ _ => rfl))) (de_op do_mul (de_op do_mul (de_var (pv 3)) (de_ix (hu_of hr.r) (de_var (pv 2)) (de_int) (fun _ _ => rfl))) (de_ix (hu_of hr.r) (de_var (pv 1)) (de_int) (fun _ _ => rfl))) (nomark _)) (dss_one (ds_ret (de_ite (dt_cmp (do_eq hr.r.units) (de_var (pv 4)) (de_str) (nomark _)) (de_var (pv 2)) (de_var (pv 1))))) (dss_nil)) (dss_one (ds_ret (de_ite (dt_cmp (do_eq hr.r.units) (de_var (pv 5)) (de_str) (nomark _)) (de_var (pv 1)) (de_tup (dn_cons (de_int) (dn_cons (de_int) (dn_nil))))))))))
theorem ok__law_reckoned (T : Txt K mg Ad) : DFn P w K mg base 9 Ad.a__law_reckoned Ad.d__law_reckoned ["good", "row"] W_law_reckoned :=
  dfn_of T.F__law_reckoned sc__law_reckoned fun cdv A outer s H E hr => (dss_cons (ds_asg (de_tup (dn_cons (de_call (ok__law_rows T 8) (hr.mono (by decide)) (by rfl) T.g__law_rows T.F__law_rows.kp T.b__law_rows .nil rs0 pBody (dn_cons (de_var (pv 0)) (dn_cons (de_int) (dn_nil)))) (dn_cons (de_dctN) (dn_nil)))) (dg_tup rfl (dgs_cons (dg_name (i := 2) sc__law_reckoned.nd rfl (by first | exact .inl rfl | exact .inr rfl)) (dgs_cons (dg_name (i := 3) sc__law_reckoned.nd rfl (by first | exact .inl rfl | exact .inr rfl)) (dgs_nil))))) (dss_cons (ds_for oBody rfl (di_seq (de_rev (de_lstRg rfl (by rfl) T.z_list (dr_1 (by rfl) T.z_range (de_callB dc_len (by rfl) T.z_len (by decide +kernel) (dn_cons (de_var (pv 2)) (dn_nil))))))) (dg_name (i := 4) sc__law_reckoned.nd rfl (by first | exact .inl rfl | exact .inr rfl)) (dss_cons (ds_asg (de_ix (hu_of hr.r) (de_var (pv 2)) (de_var (pv 4)) (fun _ _ => rfl)) (dg_tup rfl (dgs_cons (dg_name (i := 5) sc__law_reckoned.nd rfl (by first | exact .inl rfl | exact .inr rfl)) (dgs_cons (dg_name (i := 6) sc__law_reckoned.nd rfl (by first | exact .inl rfl | exact .inr rfl)) (dgs_nil))))) (dss_cons (ds_set (i := 7) sc__law_reckoned.nd rfl (by first | exact .inl rfl | exact .inr rfl) (de_call (ok__law_sum T) (hr.mono (by decide)) (by rfl) T.g__law_sum T.F__law_sum.kp T.b__law_sum .nil rs0 pBody (dn_cons (de_op do_add (de_lst (dn_cons (de_ix (hu_of hr.r) (de_var (pv 1)) (de_var (pv 4)) (fun _ _ => rfl)) (dn_nil))) (de_comp [("j", 8)] (gName 8) rfl sc__law_reckoned.nd (di_seq (de_var (pv 6))) (blkOk_by (N := N__law_reckoned) (sc := defScope st__law_reckoned) (by decide +kernel)) (fun _ _ _ _ _ => pg_name (i := 8) sc__law_reckoned.nd rfl (by first | exact .inl rfl | exact .inr rfl)) (gv_name (by decide)) (fun _ _ _ _ _ => dts_nil) (fun _ _ _ _ _ => de_ix (hu_of hr.r) (de_ix (hu_of hr.r) (de_var (pv 3)) (de_var (pv 8)) (fun _ _ => rfl)) (de_int) (fun _ _ => rfl)))) (dn_nil)))) (dss_cons (ds_set (i := 9) sc__law_reckoned.nd rfl (by first | exact .inl rfl | exact .inr rfl) (de_ite (dt_cmp (do_eq hr.r.units) (de_ix (hu_of hr.r) (de_var (pv 5)) (de_int) (fun _ _ => rfl)) (de_str) (nomark _)) (de_lst (dn_cons (de_ix (hu_of hr.r) (de_var (pv 1)) (de_var (pv 4)) (fun _ _ => rfl)) (dn_nil))) (de_lst (dn_nil)))) (dss_cons (ds_set (i := 10) sc__law_reckoned.nd rfl (by first | exact .inl rfl | exact .inr rfl) (de_call (ok__law_sum T) (hr.mono (by decide)) (by rfl) T.g__law_sum T.F__law_sum.kp T.b__law_sum .nil rs0 pBody (dn_cons (de_op do_add (de_var (pv 9)) (de_comp [("j", 8)] (gName 8) rfl sc__law_reckoned.nd (di_seq (de_var (pv 6))) (blkOk_by (N := N__law_reckoned) (sc := defScope st__law_reckoned) (by decide +kernel)) (fun _ _ _ _ _ => pg_name (i := 8) sc__law_reckoned.nd rfl (by first | exact .inl rfl | exact .inr rfl)) (gv_name (by decide)) (fun _ _ _ _ _ => dts_nil) (fun _ _ _ _ _ => de_ix (hu_of hr.r) (de_ix (hu_of hr.r) (de_var (pv 3)) (de_var (pv 8)) (fun _ _ => rfl)) (de_int) (fun _ _ => rfl)))) (dn_nil)))) (dss_cons (ds_set (i := 11) sc__law_reckoned.nd rfl (by first | exact .inl rfl | exact .inr rfl) (de_non)) (dss_cons (ds_if (dt_cmp (do_eq hr.r.units) (de_ix (hu_of hr.r) (de_var (pv 5)) (de_int) (fun _ _ => rfl)) (de_str) (nomark _)) (dss_one (ds_set (i := 11) sc__law_reckoned.nd rfl (by first | exact .inl rfl | exact .inr rfl) (de_callTy dc_int (by rfl) T.z_int (by decide +kernel) (dn_cons (de_cmp do_ge (de_op do_mul (de_op do_mul (de_int) (de_ix (hu_of hr.r) (de_var (pv 10)) (de_int) (fun _ _ => rfl))) (de_ix (hu_of hr.r) (de_var (pv 7)) (de_int) (fun _ _ => rfl))) (de_op do_mul (de_op do_mul (de_ix (hu_of hr.r) (de_ix (hu_of hr.r) (de_var (pv 5)) (de_int) (fun _ _ => rfl)) (de_int) (fun _ _ => rfl)) (de_ix (hu_of hr.r) (de_var (pv 7)) (de_int) (fun _ _ => rfl))) (de_ix (hu_of hr.r) (de_var (pv 10)) (de_int) (fun _ _ => rfl))) (nomark _)) (dn_nil))))) (dss_nil)) (dss_one (ds_asg (de_tup (dn_cons (de_var (pv 7)) (dn_cons (de_var (pv 10)) (dn_cons (de_call (ok__law_counted T) (hr.mono (by decide)) (by rfl) T.g__law_counted T.F__law_counted.kp T.b__law_counted .nil rs0 pBody (dn_cons (de_var (pv 5)) (dn_cons (de_var (pv 10)) (dn_cons (de_var (pv 7)) (dn_nil))))) (dn_cons (de_var (pv 11)) (dn_nil)))))) (dg_sub (hu_of hr.r) (de_var (pv 3)) (de_var (pv 4)))))))))))) (dss_one (ds_ret (de_comp [("k", 4)] (gName 4) rfl sc__law_reckoned.nd (di_range1 (by rfl) T.z_range (dn_cons (de_callB dc_len (by rfl) T.z_len (by decide +kernel) (dn_cons (de_var (pv 2)) (dn_nil))) (dn_nil))) (blkOk_by (N := N__law_reckoned) (sc := defScope st__law_reckoned) (by decide +kernel)) (fun _ _ _ _ _ => pg_name (i := 4) sc__law_reckoned.nd rfl (by first | exact .inl rfl | exact .inr rfl)) (gv_name (by decide)) (fun _ _ _ _ _ => dts_nil) (fun _ _ _ _ _ => de_ix (hu_of hr.r) (de_var (pv 3)) (de_var (pv 4)) (fun _ _ => rfl)))))))
theorem ok__law_words (T : Txt K mg Ad) : DFn P w K mg base 10 Ad.a__law_words Ad.d__law_words ["good", "row"] W_law_words :=
  dfn_of T.F__law_words sc__law_words fun cdv A outer s H E hr => (dss_one (ds_ret (de_callTy dc_tuple (by rfl) T.z_tuple (by decide +kernel) (dn_cons (de_comp [("one", 2)] (gName 2) rfl sc__law_words.nd (di_seq (de_call (ok__law_reckoned T) (hr.mono (by decide)) (by rfl) T.g__law_reckoned T.F__law_reckoned.kp T.b__law_reckoned .nil rs0 pBody (dn_cons (de_var (pv 0)) (dn_cons (de_var (pv 1)) (dn_nil))))) (blkOk_by (N := N__law_words) (sc := defScope st__law_words) (by decide +kernel)) (fun _ _ _ _ _ => pg_name (i := 2) sc__law_words.nd rfl (by first | exact .inl rfl | exact .inr rfl)) (gv_name (by decide)) (fun _ _ _ _ _ => dts_one (dt_cmp do_isnot (de_ix (hu_of hr.r) (de_var (pv 2)) (de_int) (fun _ _ => rfl)) (de_non) (nomark _))) (fun _ _ _ _ _ => de_ix (hu_of hr.r) (de_var (pv 2)) (de_int) (fun _ _ => rfl))) (dn_nil)))))
theorem ok__law_portion (T : Txt K mg Ad) : DFn P w K mg base 10 Ad.a__law_portion Ad.d__law_portion ["good", "row"] W_law_portion :=
  dfn_of T.F__law_portion sc__law_portion fun cdv A outer s H E hr => (dss_cons (ds_asg (de_sl (de_ix (hu_of hr.r) (de_call (ok__law_reckoned T) (hr.mono (by decide)) (by rfl) T.g__law_reckoned T.F__law_reckoned.kp T.b__law_reckoned .nil rs0 pBody (dn_cons (de_var (pv 0)) (dn_cons (de_var (pv 1)) (dn_nil)))) (de_int) (fun _ _ => rfl)) (DL.do_none) (DL.do_some (de_int))) (dg_tup rfl (dgs_cons (dg_name (i := 2) sc__law_portion.nd rfl (by first | exact .inl rfl | exact .inr rfl)) (dgs_cons (dg_name (i := 3) sc__law_portion.nd rfl (by first | exact .inl rfl | exact .inr rfl)) (dgs_nil))))) (dss_one (ds_ret (de_call (ok__law_least T) (hr.mono (by decide)) (by rfl) T.g__law_least T.F__law_least.kp T.b__law_least .nil rs0 pBody (dn_cons (de_op do_mul (de_ix (hu_of hr.r) (de_var (pv 3)) (de_int) (fun _ _ => rfl)) (de_ix (hu_of hr.r) (de_var (pv 2)) (de_int) (fun _ _ => rfl))) (dn_cons (de_op do_mul (de_ix (hu_of hr.r) (de_var (pv 3)) (de_int) (fun _ _ => rfl)) (de_ix (hu_of hr.r) (de_var (pv 2)) (de_int) (fun _ _ => rfl))) (dn_nil)))))))
theorem ok__law_prices (T : Txt K mg Ad) : DFn P w K mg base 9 Ad.a__law_prices Ad.d__law_prices ["m", "good"] W_law_prices :=
  dfn_of T.F__law_prices sc__law_prices fun cdv A outer s H E hr => (dss_cons (ds_set (i := 2) sc__law_prices.nd rfl (by first | exact .inl rfl | exact .inr rfl) (de_lstO (dn_nil))) (dss_cons (ds_for oBody rfl (di_seq (de_call (ok__law_rows T 8) (hr.mono (by decide)) (by rfl) T.g__law_rows T.F__law_rows.kp T.b__law_rows .nil rs0 pBody (dn_cons (de_var (pv 1)) (dn_cons (de_int) (dn_nil))))) (dg_tup rfl (dgs_cons (dg_name (i := 3) sc__law_prices.nd rfl (by first | exact .inl rfl | exact .inr rfl)) (dgs_cons (dg_name (i := 4) sc__law_prices.nd rfl (by first | exact .inl rfl | exact .inr rfl)) (dgs_nil)))) (dss_cons (ds_par (i := 5) (j := 6) rfl sc__law_prices.nd rfl rfl (by decide) rfl rfl (dn_cons (de_ix (hu_of hr.r) (de_var (pv 3)) (de_int) (fun _ _ => rfl)) (dn_cons (de_ix (hu_of hr.r) (de_var (pv 3)) (de_int) (fun _ _ => rfl)) (dn_nil))) (by rfl)) (dss_cons (ds_set (i := 7) sc__law_prices.nd rfl (by first | exact .inl rfl | exact .inr rfl) (de_call (ok__law_of T) (hr.mono (by decide)) (by rfl) T.g__law_of T.F__law_of.kp T.b__law_of .nil rs0 pBody (dn_cons (de_var (pv 0)) (dn_cons (de_lst (dn_cons (de_int) (dn_cons (de_int) (dn_cons (de_int) (dn_cons (de_int) (dn_cons (de_int) (dn_cons (de_int) (dn_nil)))))))) (dn_nil))))) (dss_cons (ds_set (i := 8) sc__law_prices.nd rfl (by first | exact .inl rfl | exact .inr rfl) (de_call (ok__law_of T) (hr.mono (by decide)) (by rfl) T.g__law_of T.F__law_of.kp T.b__law_of .nil rs0 pBody (dn_cons (de_var (pv 0)) (dn_cons (de_lst (dn_cons (de_int) (dn_cons (de_op do_mul (de_op do_sub (de_var (pv 6)) (de_var (pv 5))) (de_var (pv 7))) (dn_cons (de_call (ok__law_draw T) (hr.mono (by decide)) (by rfl) T.g__law_draw T.F__law_draw.kp T.b__law_draw .nil rs0 pBody (dn_cons (de_var (pv 0)) (dn_cons (de_op do_add (de_op do_mul (de_op do_sub (de_var (pv 6)) (de_var (pv 5))) (de_var (pv 7))) (de_int)) (dn_nil)))) (dn_nil))))) (dn_nil))))) (dss_one (ds_expr (de_app (de_var (pv 2)) (de_call (ok__law_least T) (hr.mono (by decide)) (by rfl) T.g__law_least T.F__law_least.kp T.b__law_least .nil rs0 pBody (dn_cons (de_op do_add (de_op do_mul (de_var (pv 5)) (de_var (pv 7))) (de_var (pv 8))) (dn_cons (de_var (pv 7)) (dn_nil))))))))))) (dss_one (ds_ret (de_callTy dc_tuple (by rfl) T.z_tuple (by decide +kernel) (dn_cons (de_var (pv 2)) (dn_nil)))))))
theorem ok__law_right (T : Txt K mg Ad) : DFn P w K mg base 14 Ad.a__law_right Ad.d__law_right ["good", "row"] W_law_right :=
  dfn_of T.F__law_right sc__law_right fun cdv A outer s H E hr => (dss_cons (ds_set (i := 2) sc__law_right.nd rfl (by first | exact .inl rfl | exact .inr rfl) (de_call (ok__law_reckoned T) (hr.mono (by decide)) (by rfl) T.g__law_reckoned T.F__law_reckoned.kp T.b__law_reckoned .nil rs0 pBody (dn_cons (de_var (pv 0)) (dn_cons (de_var (pv 1)) (dn_nil))))) (dss_cons (ds_setComp (i := 3) [("k", 5)] (gName 5) rfl sc__law_right.nd rfl rfl (sw_true rfl rfl rfl (by decide +kernel)) (di_range1 (by rfl) T.z_range (dn_cons (de_int) (dn_nil))) (blkOk_by (N := N__law_right) (sc := defScope st__law_right) (by decide +kernel)) (fun _ _ _ _ _ => pg_name (i := 5) sc__law_right.nd rfl (by first | exact .inl rfl | exact .inr rfl)) (gv_name (by decide)) (fun _ _ _ _ _ => dts_nil) (fun _ _ _ _ _ => de_callTy dc_tuple (by rfl) T.z_tuple (by decide +kernel) (dn_cons (de_comp [("one", 4)] (gName 4) rfl sc__law_right.nd (di_seq (de_var (pv 2))) (blkOk_by (by kernel_rfl)) (fun _ _ _ _ _ => pg_name (i := 4) sc__law_right.nd rfl (by first | exact .inl rfl | exact .inr rfl)) (gv_name (by decide)) (fun _ _ _ _ _ => dts_nil) (fun _ _ _ _ _ => de_ix (hu_of hr.r) (de_var (pv 4)) (de_var (pv 5)) (fun _ _ => rfl))) (dn_nil)))) (dss_cons (ds_set (i := 6) sc__law_right.nd rfl (by first | exact .inl rfl | exact .inr rfl) (de_call (ok__law_words T) (hr.mono (by decide)) (by rfl) T.g__law_words T.F__law_words.kp T.b__law_words .nil rs0 pBody (dn_cons (de_var (pv 0)) (dn_cons (de_var (pv 1)) (dn_nil))))) (dss_cons (ds_for oBody rfl (di_range1 (by rfl) T.z_range (dn_cons (de_int) (dn_nil))) (dg_name (i := 7) sc__law_right.nd rfl (by first | exact .inl rfl | exact .inr rfl)) (dss_cons (ds_set (i := 8) sc__law_right.nd rfl (by first | exact .inl rfl | exact .inr rfl) (de_lst (dn_cons (de_call (ok_costs T) (hr.mono (by decide)) (by rfl) T.g_costs T.F_costs.kp T.b_costs .nil rs0 pBody (dn_cons (de_var (pv 0)) (dn_cons (de_var (pv 1)) (dn_nil)))) (dn_cons (de_call (ok_owns T) (hr.mono (by decide)) (by rfl) T.g_owns T.F_owns.kp T.b_owns .nil rs0 pBody (dn_cons (de_var (pv 0)) (dn_cons (de_var (pv 1)) (dn_nil)))) (dn_cons (de_call (ok_counted T) (hr.mono (by decide)) (by rfl) T.g_counted T.F_counted.kp T.b_counted .nil rs0 pBody (dn_cons (de_var (pv 0)) (dn_cons (de_var (pv 1)) (dn_nil)))) (dn_nil)))))) (dss_cons (ds_if (DW.dt (dw_or (dt_cmp (do_ne hr.r.units) (de_callB (dc_repr hr.g hr.r.units) (by rfl) T.z_repr (by decide +kernel) (dn_cons (de_var (pv 8)) (dn_nil))) (de_callB (dc_repr hr.g hr.r.units) (by rfl) T.z_repr (by decide +kernel) (dn_cons (de_var (pv 3)) (dn_nil))) (nomark _)) (dw_or1 (dt_cmp (do_ne hr.r.units) (de_callB (dc_repr hr.g hr.r.units) (by rfl) T.z_repr (by decide +kernel) (dn_cons (de_call (ok_words_at T) (hr.mono (by decide)) (by rfl) T.g_words_at T.F_words_at.kp T.b_words_at .nil rs0 pBody (dn_cons (de_var (pv 0)) (dn_cons (de_var (pv 1)) (dn_nil)))) (dn_nil))) (de_callB (dc_repr hr.g hr.r.units) (by rfl) T.z_repr (by decide +kernel) (dn_cons (de_var (pv 6)) (dn_nil))) (nomark _))))) (dss_one (ds_ret (de_bl))) (dss_nil)) (dss_one (ds_if (dt_cmp (do_ne hr.r.units) (de_callB (dc_repr hr.g hr.r.units) (by rfl) T.z_repr (by decide +kernel) (dn_cons (de_lst (dn_cons (de_call (ok_is_of_here T) (hr.mono (by decide)) (by rfl) T.g_is_of_here T.F_is_of_here.kp T.b_is_of_here .nil rs0 pBody (dn_cons (de_var (pv 0)) (dn_cons (de_var (pv 1)) (dn_nil)))) (dn_cons (de_call (ok_portion T) (hr.mono (by decide)) (by rfl) T.g_portion T.F_portion.kp T.b_portion .nil rs0 pBody (dn_cons (de_var (pv 0)) (dn_cons (de_var (pv 1)) (dn_nil)))) (dn_nil)))) (dn_nil))) (de_callB (dc_repr hr.g hr.r.units) (by rfl) T.z_repr (by decide +kernel) (dn_cons (de_lst (dn_cons (de_cmp (do_eq hr.r.units) (de_ix (hu_of hr.r) (de_var (pv 6)) (de_int) (fun _ _ => rfl)) (de_int) (nomark _)) (dn_cons (de_call (ok__law_portion T) (hr.mono (by decide)) (by rfl) T.g__law_portion T.F__law_portion.kp T.b__law_portion .nil rs0 pBody (dn_cons (de_var (pv 0)) (dn_cons (de_var (pv 1)) (dn_nil)))) (dn_nil)))) (dn_nil))) (nomark _)) (dss_one (ds_ret (de_bl))) (dss_nil)))))) (dss_one (ds_ret (de_bl)))))))
theorem ok_law (T : Txt K mg Ad) : DFn P w K mg base 15 Ad.a_law Ad.d_law ["script"] Wlaw :=
  dfn_of T.F_law sc_law fun cdv A outer s H E hr => (dss_cons (ds_set (i := 1) sc_law.nd rfl (by first | exact .inl rfl | exact .inr rfl) (de_call (ok__law_begun T) (hr.mono (by decide)) (by rfl) T.g__law_begun T.F__law_begun.kp T.b__law_begun .nil rs0 pBody (dn_cons (de_var (pv 0)) (dn_nil)))) (dss_cons (ds_for oBody rfl (di_range1 (by rfl) T.z_range (dn_cons (de_op do_add (de_int) (de_callB (dc_min2 rfl) (by rfl) T.z_min (by decide +kernel) (dn_cons (de_callB dc_len (by rfl) T.z_len (by decide +kernel) (dn_cons (de_var (pv 0)) (dn_nil))) (dn_cons (de_int) (dn_nil))))) (dn_nil))) (dg_name (i := 2) sc_law.nd rfl (by first | exact .inl rfl | exact .inr rfl)) (dss_cons (ds_set (i := 3) sc_law.nd rfl (by first | exact .inl rfl | exact .inr rfl) (de_call (ok__law_good T) (hr.mono (by decide)) (by rfl) T.g__law_good T.F__law_good.kp T.b__law_good .nil rs0 pBody (dn_cons (de_var (pv 1)) (dn_cons (de_int) (dn_cons (de_int) (dn_nil)))))) (dss_one (ds_for oBody rfl (di_range1 (by rfl) T.z_range (dn_cons (de_int) (dn_nil))) (dg_name (i := 4) sc_law.nd rfl (by first | exact .inl rfl | exact .inr rfl)) (dss_cons (ds_set (i := 5) sc_law.nd rfl (by first | exact .inl rfl | exact .inr rfl) (de_call (ok__law_prices T) (hr.mono (by decide)) (by rfl) T.g__law_prices T.F__law_prices.kp T.b__law_prices .nil rs0 pBody (dn_cons (de_var (pv 1)) (dn_cons (de_var (pv 3)) (dn_nil))))) (dss_cons (ds_set (i := 6) sc_law.nd rfl (by first | exact .inl rfl | exact .inr rfl) (de_callB (dc_repr hr.g hr.r.units) (by rfl) T.z_repr (by decide +kernel) (dn_cons (de_lst (dn_cons (de_var (pv 3)) (dn_cons (de_var (pv 5)) (dn_nil)))) (dn_nil)))) (dss_one (ds_if (DW.dt (dw_or (dt_not (dt_tru (de_call (ok__law_right T) (hr.mono (by decide)) (by rfl) T.g__law_right T.F__law_right.kp T.b__law_right .nil rs0 pBody (dn_cons (de_var (pv 3)) (dn_cons (de_var (pv 5)) (dn_nil)))))) (dw_or1 (dt_cmp (do_ne hr.r.units) (de_callB (dc_repr hr.g hr.r.units) (by rfl) T.z_repr (by decide +kernel) (dn_cons (de_lst (dn_cons (de_var (pv 3)) (dn_cons (de_var (pv 5)) (dn_nil)))) (dn_nil))) (de_var (pv 6)) (nomark _))))) (dss_one (ds_ret (de_bl))) (dss_nil))))))))) (dss_cons (ds_set (i := 7) sc_law.nd rfl (by first | exact .inl rfl | exact .inr rfl) (de_tup (dn_cons (de_str) (dn_cons (de_str) (dn_cons (de_int) (dn_cons (de_int) (dn_cons (de_tup (dn_cons (de_int) (dn_cons (de_str) (dn_cons (de_str) (dn_nil))))) (dn_cons (de_tup (dn_cons (de_tup (dn_cons (de_str) (dn_cons (de_str) (dn_cons (de_int) (dn_cons (de_int) (dn_nil)))))) (dn_cons (de_tup (dn_cons (de_str) (dn_cons (de_str) (dn_cons (de_int) (dn_cons (de_int) (dn_nil)))))) (dn_nil)))) (dn_nil))))))))) (dss_cons (ds_set (i := 3) sc_law.nd rfl (by first | exact .inl rfl | exact .inr rfl) (de_tup (dn_cons (de_str) (dn_cons (de_str) (dn_cons (de_int) (dn_cons (de_int) (dn_cons (de_tup (dn_cons (de_int) (dn_cons (de_str) (dn_cons (de_str) (dn_nil))))) (dn_cons (de_tup (dn_cons (de_var (pv 7)) (dn_cons (de_tup (dn_cons (de_str) (dn_cons (de_str) (dn_cons (de_int) (dn_cons (de_int) (dn_nil)))))) (dn_nil)))) (dn_nil))))))))) (dss_cons (ds_set (i := 5) sc_law.nd rfl (by first | exact .inl rfl | exact .inr rfl) (de_tup (dn_cons (de_tup (dn_cons (de_int) (dn_cons (de_int) (dn_nil)))) (dn_cons (de_tup (dn_cons (de_int) (dn_cons (de_int) (dn_nil)))) (dn_cons (de_tup (dn_cons (de_int) (dn_cons (de_int) (dn_nil)))) (dn_cons (de_tup (dn_cons (de_int) (dn_cons (de_int) (dn_nil)))) (dn_cons (de_tup (dn_cons (de_int) (dn_cons (de_int) (dn_nil)))) (dn_nil)))))))) (dss_cons (ds_set (i := 8) sc_law.nd rfl (by first | exact .inl rfl | exact .inr rfl) (de_lst (dn_cons (de_call (ok_costs T) (hr.mono (by decide)) (by rfl) T.g_costs T.F_costs.kp T.b_costs .nil rs0 pBody (dn_cons (de_var (pv 3)) (dn_cons (de_var (pv 5)) (dn_nil)))) (dn_cons (de_call (ok_owns T) (hr.mono (by decide)) (by rfl) T.g_owns T.F_owns.kp T.b_owns .nil rs0 pBody (dn_cons (de_var (pv 3)) (dn_cons (de_var (pv 5)) (dn_nil)))) (dn_cons (de_call (ok_counted T) (hr.mono (by decide)) (by rfl) T.g_counted T.F_counted.kp T.b_counted .nil rs0 pBody (dn_cons (de_var (pv 3)) (dn_cons (de_var (pv 5)) (dn_nil)))) (dn_nil)))))) (dss_cons (ds_set (i := 9) sc_law.nd rfl (by first | exact .inl rfl | exact .inr rfl) (de_lst (dn_cons (de_tup (dn_cons (de_tup (dn_cons (de_int) (dn_cons (de_int) (dn_nil)))) (dn_cons (de_tup (dn_cons (de_int) (dn_cons (de_int) (dn_nil)))) (dn_cons (de_tup (dn_cons (de_int) (dn_cons (de_int) (dn_nil)))) (dn_cons (de_tup (dn_cons (de_int) (dn_cons (de_int) (dn_nil)))) (dn_cons (de_tup (dn_cons (de_int) (dn_cons (de_int) (dn_nil)))) (dn_nil))))))) (dn_cons (de_tup (dn_cons (de_tup (dn_cons (de_int) (dn_cons (de_int) (dn_nil)))) (dn_cons (de_tup (dn_cons (de_int) (dn_cons (de_int) (dn_nil)))) (dn_cons (de_tup (dn_cons (de_int) (dn_cons (de_int) (dn_nil)))) (dn_cons (de_tup (dn_cons (de_int) (dn_cons (de_int) (dn_nil)))) (dn_cons (de_tup (dn_cons (de_int) (dn_cons (de_int) (dn_nil)))) (dn_nil))))))) (dn_nil))))) (dss_cons (ds_if (DW.dt (dw_or (dt_cmp (do_ne hr.r.units) (de_var (pv 8)) (de_op do_add (de_var (pv 9)) (de_lst (dn_cons (de_tup (dn_cons (de_tup (dn_cons (de_int) (dn_cons (de_int) (dn_nil)))) (dn_cons (de_tup (dn_cons (de_int) (dn_cons (de_int) (dn_nil)))) (dn_cons (de_tup (dn_cons (de_int) (dn_cons (de_int) (dn_nil)))) (dn_cons (de_tup (dn_cons (de_int) (dn_cons (de_int) (dn_nil)))) (dn_cons (de_tup (dn_cons (de_int) (dn_cons (de_int) (dn_nil)))) (dn_nil))))))) (dn_nil)))) (nomark _)) (dw_or1 (dt_cmp (do_ne hr.r.units) (de_call (ok_words_at T) (hr.mono (by decide)) (by rfl) T.g_words_at T.F_words_at.kp T.b_words_at .nil rs0 pBody (dn_cons (de_var (pv 3)) (dn_cons (de_var (pv 5)) (dn_nil)))) (de_tup (dn_cons (de_int) (dn_cons (de_int) (dn_nil)))) (nomark _))))) (dss_one (ds_ret (de_bl))) (dss_nil)) (dss_cons (ds_set (i := 10) sc_law.nd rfl (by first | exact .inl rfl | exact .inr rfl) (de_tup (dn_cons (de_str) (dn_cons (de_str) (dn_cons (de_int) (dn_cons (de_int) (dn_cons (de_tup (dn_cons (de_int) (dn_cons (de_str) (dn_cons (de_str) (dn_nil))))) (dn_cons (de_tup (dn_cons (de_tup (dn_cons (de_str) (dn_cons (de_str) (dn_cons (de_int) (dn_cons (de_int) (dn_nil)))))) (dn_nil))) (dn_nil))))))))) (dss_cons (ds_if (DW.dt (dw_or (dt_cmp (do_ne hr.r.units) (de_call (ok_words_at T) (hr.mono (by decide)) (by rfl) T.g_words_at T.F_words_at.kp T.b_words_at .nil rs0 pBody (dn_cons (de_var (pv 10)) (dn_cons (de_tup (dn_cons (de_tup (dn_cons (de_int) (dn_cons (de_int) (dn_nil)))) (dn_cons (de_tup (dn_cons (de_int) (dn_cons (de_int) (dn_nil)))) (dn_nil)))) (dn_nil)))) (de_tup (dn_cons (de_int) (dn_nil))) (nomark _)) (dw_or1 (dt_cmp (do_ne hr.r.units) (de_call (ok_words_at T) (hr.mono (by decide)) (by rfl) T.g_words_at T.F_words_at.kp T.b_words_at .nil rs0 pBody (dn_cons (de_var (pv 10)) (dn_cons (de_tup (dn_cons (de_tup (dn_cons (de_int) (dn_cons (de_int) (dn_nil)))) (dn_cons (de_tup (dn_cons (de_int) (dn_cons (de_int) (dn_nil)))) (dn_nil)))) (dn_nil)))) (de_tup (dn_cons (de_int) (dn_nil))) (nomark _))))) (dss_one (ds_ret (de_bl))) (dss_nil)) (dss_cons (ds_set (i := 5) sc_law.nd rfl (by first | exact .inl rfl | exact .inr rfl) (de_tup (dn_cons (de_tup (dn_cons (de_int) (dn_cons (de_int) (dn_nil)))) (dn_cons (de_tup (dn_cons (de_int) (dn_cons (de_int) (dn_nil)))) (dn_cons (de_tup (dn_cons (de_int) (dn_cons (de_int) (dn_nil)))) (dn_cons (de_tup (dn_cons (de_int) (dn_cons (de_int) (dn_nil)))) (dn_cons (de_tup (dn_cons (de_int) (dn_cons (de_int) (dn_nil)))) (dn_nil)))))))) (dss_one (ds_ret (de_and (de_cmp (do_eq hr.r.units) (de_call (ok_words_at T) (hr.mono (by decide)) (by rfl) T.g_words_at T.F_words_at.kp T.b_words_at .nil rs0 pBody (dn_cons (de_var (pv 3)) (dn_cons (de_var (pv 5)) (dn_nil)))) (de_tup (dn_cons (de_int) (dn_cons (de_int) (dn_nil)))) (nomark _)) (de_and (de_cmp (do_eq hr.r.units) (de_call (ok_portion T) (hr.mono (by decide)) (by rfl) T.g_portion T.F_portion.kp T.b_portion .nil rs0 pBody (dn_cons (de_var (pv 3)) (dn_cons (de_var (pv 5)) (dn_nil)))) (de_tup (dn_cons (de_int) (dn_cons (de_int) (dn_nil)))) (nomark _)) (de_one (de_not (de_call (ok_is_of_here T) (hr.mono (by decide)) (by rfl) T.g_is_of_here T.F_is_of_here.kp T.b_is_of_here .nil rs0 pBody (dn_cons (de_var (pv 3)) (dn_cons (de_var (pv 5)) (dn_nil)))))))))))))))))))))
end
end G_madeofhere_k04_whole_counts
set_option maxHeartbeats 0
namespace G_madeofhere_k04_whole_counts
open PySem PySem.Spec PyProof.Rows L2 DL
def dd_is_rule : He.DefD := ⟨("is_rule", none), "is_rule", "is_rule", defArgs st_is_rule, defBody st_is_rule, defScope st_is_rule, [], []⟩
def dd__need_bounds : He.DefD := ⟨("_need_bounds", none), "_need_bounds", "_need_bounds", defArgs st__need_bounds, defBody st__need_bounds, defScope st__need_bounds, [], []⟩
def dd__need_making : He.DefD := ⟨("_need_making", none), "_need_making", "_need_making", defArgs st__need_making, defBody st__need_making, defScope st__need_making, [], []⟩
def dd__look_at : He.DefD := ⟨("_look_at", none), "_look_at", "_look_at", defArgs st__look_at, defBody st__look_at, defScope st__look_at, [], []⟩
def dd_look_over : He.DefD := ⟨("look_over", none), "look_over", "look_over", defArgs st_look_over, defBody st_look_over, defScope st_look_over, [], []⟩
def dd_is_fraction : He.DefD := ⟨("is_fraction", none), "is_fraction", "is_fraction", defArgs st_is_fraction, defBody st_is_fraction, defScope st_is_fraction, [], []⟩
def dd_lowest_terms : He.DefD := ⟨("lowest_terms", none), "lowest_terms", "lowest_terms", defArgs st_lowest_terms, defBody st_lowest_terms, defScope st_lowest_terms, [], []⟩
def dd_need_prices : He.DefD := ⟨("need_prices", none), "need_prices", "need_prices", defArgs st_need_prices, defBody st_need_prices, defScope st_need_prices, [], []⟩
def dd_common_unit : He.DefD := ⟨("common_unit", none), "common_unit", "common_unit", defArgs st_common_unit, defBody st_common_unit, defScope st_common_unit, [], []⟩
def dd_in_units : He.DefD := ⟨("in_units", none), "in_units", "in_units", defArgs st_in_units, defBody st_in_units, defScope st_in_units, [], []⟩
def dd_fractions_of : He.DefD := ⟨("fractions_of", none), "fractions_of", "fractions_of", defArgs st_fractions_of, defBody st_fractions_of, defScope st_fractions_of, [], []⟩
def dd_sums_of : He.DefD := ⟨("sums_of", none), "sums_of", "sums_of", defArgs st_sums_of, defBody st_sums_of, defScope st_sums_of, [], []⟩
def dd__sums_at : He.DefD := ⟨("_sums_at", none), "_sums_at", "_sums_at", defArgs st__sums_at, defBody st__sums_at, defScope st__sums_at, [], []⟩
def dd_costs : He.DefD := ⟨("costs", none), "costs", "costs", defArgs st_costs, defBody st_costs, defScope st_costs, [], []⟩
def dd_owns : He.DefD := ⟨("owns", none), "owns", "owns", defArgs st_owns, defBody st_owns, defScope st_owns, [], []⟩
def dd_counted : He.DefD := ⟨("counted", none), "counted", "counted", defArgs st_counted, defBody st_counted, defScope st_counted, [], []⟩
def dd_words_at : He.DefD := ⟨("words_at", none), "words_at", "words_at", defArgs st_words_at, defBody st_words_at, defScope st_words_at, [], []⟩
def dd_is_of_here : He.DefD := ⟨("is_of_here", none), "is_of_here", "is_of_here", defArgs st_is_of_here, defBody st_is_of_here, defScope st_is_of_here, [], []⟩
def dd_portion : He.DefD := ⟨("portion", none), "portion", "portion", defArgs st_portion, defBody st_portion, defScope st_portion, [], []⟩
def dd__law_begun : He.DefD := ⟨("_law_begun", none), "_law_begun", "_law_begun", defArgs st__law_begun, defBody st__law_begun, defScope st__law_begun, [], []⟩
def dd__law_draw : He.DefD := ⟨("_law_draw", none), "_law_draw", "_law_draw", defArgs st__law_draw, defBody st__law_draw, defScope st__law_draw, [], []⟩
def dd__law_of : He.DefD := ⟨("_law_of", none), "_law_of", "_law_of", defArgs st__law_of, defBody st__law_of, defScope st__law_of, [], []⟩
def dd__law_span : He.DefD := ⟨("_law_span", none), "_law_span", "_law_span", defArgs st__law_span, defBody st__law_span, defScope st__law_span, [], []⟩
def dd__law_term : He.DefD := ⟨("_law_term", none), "_law_term", "_law_term", defArgs st__law_term, defBody st__law_term, defScope st__law_term, [], []⟩
def dd__law_thing : He.DefD := ⟨("_law_thing", none), "_law_thing", "_law_thing", defArgs st__law_thing, defBody st__law_thing, defScope st__law_thing, [], []⟩
def dd__law_good : He.DefD := ⟨("_law_good", none), "_law_good", "_law_good", defArgs st__law_good, defBody st__law_good, defScope st__law_good, [], []⟩
def dd__law_rows : He.DefD := ⟨("_law_rows", none), "_law_rows", "_law_rows", defArgs st__law_rows, defBody st__law_rows, defScope st__law_rows, [], []⟩
def dd__law_least : He.DefD := ⟨("_law_least", none), "_law_least", "_law_least", defArgs st__law_least, defBody st__law_least, defScope st__law_least, [], []⟩
def dd__law_sum : He.DefD := ⟨("_law_sum", none), "_law_sum", "_law_sum", defArgs st__law_sum, defBody st__law_sum, defScope st__law_sum, [], []⟩
def dd__law_counted : He.DefD := ⟨("_law_counted", none), "_law_counted", "_law_counted", defArgs st__law_counted, defBody st__law_counted, defScope st__law_counted, [], []⟩
def dd__law_reckoned : He.DefD := ⟨("_law_reckoned", none), "_law_reckoned", "_law_reckoned", defArgs st__law_reckoned, defBody st__law_reckoned, defScope st__law_reckoned, [], []⟩
def dd__law_words : He.DefD := ⟨("_law_words", none), "_law_words", "_law_words", defArgs st__law_words, defBody st__law_words, defScope st__law_words, [], []⟩
def dd__law_portion : He.DefD := ⟨("_law_portion", none), "_law_portion", "_law_portion", defArgs st__law_portion, defBody st__law_portion, defScope st__law_portion, [], []⟩
def dd__law_prices : He.DefD := ⟨("_law_prices", none), "_law_prices", "_law_prices", defArgs st__law_prices, defBody st__law_prices, defScope st__law_prices, [], []⟩
def dd__law_right : He.DefD := ⟨("_law_right", none), "_law_right", "_law_right", defArgs st__law_right, defBody st__law_right, defScope st__law_right, [], []⟩
def dd_law : He.DefD := ⟨("law", none), "law", "law", defArgs st_law, defBody st_law, defScope st_law, [], []⟩
def fn : List He.DefD := [dd_is_rule, dd__need_bounds, dd__need_making, dd__look_at, dd_look_over, dd_is_fraction, dd_lowest_terms, dd_need_prices, dd_common_unit, dd_in_units, dd_fractions_of, dd_sums_of, dd__sums_at, dd_costs, dd_owns, dd_counted, dd_words_at, dd_is_of_here, dd_portion, dd__law_begun, dd__law_draw, dd__law_of, dd__law_span, dd__law_term, dd__law_thing, dd__law_good, dd__law_rows, dd__law_least, dd__law_sum, dd__law_counted, dd__law_reckoned, dd__law_words, dd__law_portion, dd__law_prices, dd__law_right, dd_law]
def fa : List He.Fa := [.glo "is_rule", .glo "_need_bounds", .glo "_need_making", .glo "_look_at", .glo "look_over", .glo "is_fraction", .glo "lowest_terms", .glo "need_prices", .glo "common_unit", .glo "in_units", .glo "fractions_of", .glo "sums_of", .glo "_sums_at", .glo "costs", .glo "owns", .glo "counted", .glo "words_at", .glo "is_of_here", .glo "portion", .glo "_law_begun", .glo "_law_draw", .glo "_law_of", .glo "_law_span", .glo "_law_term", .glo "_law_thing", .glo "_law_good", .glo "_law_rows", .glo "_law_least", .glo "_law_sum", .glo "_law_counted", .glo "_law_reckoned", .glo "_law_words", .glo "_law_portion", .glo "_law_prices", .glo "_law_right", .glo "law", .free "abs", .free "bool", .free "enumerate", .free "int", .free "isinstance", .free "len", .free "list", .free "max", .free "min", .free "range", .free "repr", .free "reversed", .free "str", .free "tuple", .free "zip", .int "HIGH" 3, .int "LAND" 1, .int "LOW" 2, .int "MAKING" 0, .int "MOST_MOVES" 3, .int "MOST_PARTS" 4, .int "MOST_PRICE" 1000000, .int "MOST_SHARE" 100, .int "MOST_STEPS" 4, .int "MOST_THINGS" 10, .int "RULE" 4]
def ex (K : Fg) : Bool := [(("gcd" : Str), "math.gcd"), (("lcm" : Str), "math.lcm")].all fun q => decide (PySem.W.nsIn K mainGlobals q.1 = some (some (.builtin q.2)))
theorem ex_ok {K : Fg} (e : ex K = true) (i : Nat) {q : Str × String} (h : [(("gcd" : Str), "math.gcd"), (("lcm" : Str), "math.lcm")][i]? = some q) : PySem.W.nsIn K mainGlobals q.1 = some (some (.builtin q.2)) := of_decide_eq_true (List.all_eq_true.mp e q (List.mem_of_getElem? h))
abbrev R : PySem.W.OpenRow := PySem.W.OpenLaw.row PySem.Challenge.rw_madeofhere_k04_whole_counts
abbrev hk : PySem.W.Hook := hookE 4 fa fn ex
def ob (s : PySem.W.SharedT) : AlE := obsE 4 fa fn ex (HandSHeadRun.getT s)
theorem ob_eq (s : PySem.W.SharedT) : ob s = hk.obs s.abs := obsE_eq (HandSHeadRun.getT_eq s)
def lo0 : List Str := [("__name__" : Str), ("MakeError" : Str), ("BadGood" : Str), ("BadPrices" : Str), ("MAKING" : Str), ("LAND" : Str), ("LOW" : Str), ("HIGH" : Str), ("RULE" : Str), ("MOST_PRICE" : Str), ("MOST_SHARE" : Str), ("MOST_PARTS" : Str), ("MOST_THINGS" : Str), ("MOST_STEPS" : Str), ("MOST_MOVES" : Str), ("is_rule" : Str), ("_need_bounds" : Str), ("_need_making" : Str), ("_look_at" : Str), ("look_over" : Str), ("is_fraction" : Str), ("lowest_terms" : Str), ("need_prices" : Str), ("common_unit" : Str), ("in_units" : Str), ("fractions_of" : Str), ("sums_of" : Str), ("_sums_at" : Str), ("costs" : Str), ("owns" : Str), ("counted" : Str), ("words_at" : Str), ("is_of_here" : Str), ("portion" : Str), ("_law_begun" : Str), ("_law_draw" : Str), ("_law_of" : Str), ("_law_span" : Str), ("_law_term" : Str), ("_law_thing" : Str)]
def lo1 : List Str := [("_law_good" : Str), ("_law_rows" : Str), ("_law_least" : Str), ("_law_sum" : Str), ("_law_counted" : Str), ("_law_reckoned" : Str), ("_law_words" : Str), ("_law_portion" : Str), ("_law_prices" : Str), ("_law_right" : Str)]
def loose : List Str := lo0 ++ lo1
theorem run (w : World) : HandSHeadRun.RunEqI R (PySem.W.view R.prog [0, 55]) hk ob 40000 loose w := by
  unfold HandSHeadRun.RunEqI
  kernel_rfl
theorem txt {K : Fg} {h : Heap} {mg : Str → Option Value} (X : K.In h) (G : h.Ns mainGlobals mg) (c : He.SaysD fa fn K) (e : ex K = true) : ∃ A : Adr, Txt K mg A ∧ A.a_law = He.ga K "law" := by
  obtain ⟨q0, F0⟩ := c.def_ 0 (d := dd_is_rule) rfl
  have F0 : Fun K "is_rule" "is_rule" st_is_rule (He.ga K "is_rule") q0 := fun_ofD (st := st_is_rule) F0
  obtain ⟨q1, F1⟩ := c.def_ 1 (d := dd__need_bounds) rfl
  have F1 : Fun K "_need_bounds" "_need_bounds" st__need_bounds (He.ga K "_need_bounds") q1 := fun_ofD (st := st__need_bounds) F1
  obtain ⟨q2, F2⟩ := c.def_ 2 (d := dd__need_making) rfl
  have F2 : Fun K "_need_making" "_need_making" st__need_making (He.ga K "_need_making") q2 := fun_ofD (st := st__need_making) F2
  obtain ⟨q3, F3⟩ := c.def_ 3 (d := dd__look_at) rfl
  have F3 : Fun K "_look_at" "_look_at" st__look_at (He.ga K "_look_at") q3 := fun_ofD (st := st__look_at) F3
  obtain ⟨q4, F4⟩ := c.def_ 4 (d := dd_look_over) rfl
  have F4 : Fun K "look_over" "look_over" st_look_over (He.ga K "look_over") q4 := fun_ofD (st := st_look_over) F4
  obtain ⟨q5, F5⟩ := c.def_ 5 (d := dd_is_fraction) rfl
  have F5 : Fun K "is_fraction" "is_fraction" st_is_fraction (He.ga K "is_fraction") q5 := fun_ofD (st := st_is_fraction) F5
  obtain ⟨q6, F6⟩ := c.def_ 6 (d := dd_lowest_terms) rfl
  have F6 : Fun K "lowest_terms" "lowest_terms" st_lowest_terms (He.ga K "lowest_terms") q6 := fun_ofD (st := st_lowest_terms) F6
  obtain ⟨q7, F7⟩ := c.def_ 7 (d := dd_need_prices) rfl
  have F7 : Fun K "need_prices" "need_prices" st_need_prices (He.ga K "need_prices") q7 := fun_ofD (st := st_need_prices) F7
  obtain ⟨q8, F8⟩ := c.def_ 8 (d := dd_common_unit) rfl
  have F8 : Fun K "common_unit" "common_unit" st_common_unit (He.ga K "common_unit") q8 := fun_ofD (st := st_common_unit) F8
  obtain ⟨q9, F9⟩ := c.def_ 9 (d := dd_in_units) rfl
  have F9 : Fun K "in_units" "in_units" st_in_units (He.ga K "in_units") q9 := fun_ofD (st := st_in_units) F9
  obtain ⟨q10, F10⟩ := c.def_ 10 (d := dd_fractions_of) rfl
  have F10 : Fun K "fractions_of" "fractions_of" st_fractions_of (He.ga K "fractions_of") q10 := fun_ofD (st := st_fractions_of) F10
  obtain ⟨q11, F11⟩ := c.def_ 11 (d := dd_sums_of) rfl
  have F11 : Fun K "sums_of" "sums_of" st_sums_of (He.ga K "sums_of") q11 := fun_ofD (st := st_sums_of) F11
  obtain ⟨q12, F12⟩ := c.def_ 12 (d := dd__sums_at) rfl
  have F12 : Fun K "_sums_at" "_sums_at" st__sums_at (He.ga K "_sums_at") q12 := fun_ofD (st := st__sums_at) F12
  obtain ⟨q13, F13⟩ := c.def_ 13 (d := dd_costs) rfl
  have F13 : Fun K "costs" "costs" st_costs (He.ga K "costs") q13 := fun_ofD (st := st_costs) F13
  obtain ⟨q14, F14⟩ := c.def_ 14 (d := dd_owns) rfl
  have F14 : Fun K "owns" "owns" st_owns (He.ga K "owns") q14 := fun_ofD (st := st_owns) F14
  obtain ⟨q15, F15⟩ := c.def_ 15 (d := dd_counted) rfl
  have F15 : Fun K "counted" "counted" st_counted (He.ga K "counted") q15 := fun_ofD (st := st_counted) F15
  obtain ⟨q16, F16⟩ := c.def_ 16 (d := dd_words_at) rfl
  have F16 : Fun K "words_at" "words_at" st_words_at (He.ga K "words_at") q16 := fun_ofD (st := st_words_at) F16
  obtain ⟨q17, F17⟩ := c.def_ 17 (d := dd_is_of_here) rfl
  have F17 : Fun K "is_of_here" "is_of_here" st_is_of_here (He.ga K "is_of_here") q17 := fun_ofD (st := st_is_of_here) F17
  obtain ⟨q18, F18⟩ := c.def_ 18 (d := dd_portion) rfl
  have F18 : Fun K "portion" "portion" st_portion (He.ga K "portion") q18 := fun_ofD (st := st_portion) F18
  obtain ⟨q19, F19⟩ := c.def_ 19 (d := dd__law_begun) rfl
  have F19 : Fun K "_law_begun" "_law_begun" st__law_begun (He.ga K "_law_begun") q19 := fun_ofD (st := st__law_begun) F19
  obtain ⟨q20, F20⟩ := c.def_ 20 (d := dd__law_draw) rfl
  have F20 : Fun K "_law_draw" "_law_draw" st__law_draw (He.ga K "_law_draw") q20 := fun_ofD (st := st__law_draw) F20
  obtain ⟨q21, F21⟩ := c.def_ 21 (d := dd__law_of) rfl
  have F21 : Fun K "_law_of" "_law_of" st__law_of (He.ga K "_law_of") q21 := fun_ofD (st := st__law_of) F21
  obtain ⟨q22, F22⟩ := c.def_ 22 (d := dd__law_span) rfl
  have F22 : Fun K "_law_span" "_law_span" st__law_span (He.ga K "_law_span") q22 := fun_ofD (st := st__law_span) F22
  obtain ⟨q23, F23⟩ := c.def_ 23 (d := dd__law_term) rfl
  have F23 : Fun K "_law_term" "_law_term" st__law_term (He.ga K "_law_term") q23 := fun_ofD (st := st__law_term) F23
  obtain ⟨q24, F24⟩ := c.def_ 24 (d := dd__law_thing) rfl
  have F24 : Fun K "_law_thing" "_law_thing" st__law_thing (He.ga K "_law_thing") q24 := fun_ofD (st := st__law_thing) F24
  obtain ⟨q25, F25⟩ := c.def_ 25 (d := dd__law_good) rfl
  have F25 : Fun K "_law_good" "_law_good" st__law_good (He.ga K "_law_good") q25 := fun_ofD (st := st__law_good) F25
  obtain ⟨q26, F26⟩ := c.def_ 26 (d := dd__law_rows) rfl
  have F26 : Fun K "_law_rows" "_law_rows" st__law_rows (He.ga K "_law_rows") q26 := fun_ofD (st := st__law_rows) F26
  obtain ⟨q27, F27⟩ := c.def_ 27 (d := dd__law_least) rfl
  have F27 : Fun K "_law_least" "_law_least" st__law_least (He.ga K "_law_least") q27 := fun_ofD (st := st__law_least) F27
  obtain ⟨q28, F28⟩ := c.def_ 28 (d := dd__law_sum) rfl
  have F28 : Fun K "_law_sum" "_law_sum" st__law_sum (He.ga K "_law_sum") q28 := fun_ofD (st := st__law_sum) F28
  obtain ⟨q29, F29⟩ := c.def_ 29 (d := dd__law_counted) rfl
  have F29 : Fun K "_law_counted" "_law_counted" st__law_counted (He.ga K "_law_counted") q29 := fun_ofD (st := st__law_counted) F29
  obtain ⟨q30, F30⟩ := c.def_ 30 (d := dd__law_reckoned) rfl
  have F30 : Fun K "_law_reckoned" "_law_reckoned" st__law_reckoned (He.ga K "_law_reckoned") q30 := fun_ofD (st := st__law_reckoned) F30
  obtain ⟨q31, F31⟩ := c.def_ 31 (d := dd__law_words) rfl
  have F31 : Fun K "_law_words" "_law_words" st__law_words (He.ga K "_law_words") q31 := fun_ofD (st := st__law_words) F31
  obtain ⟨q32, F32⟩ := c.def_ 32 (d := dd__law_portion) rfl
  have F32 : Fun K "_law_portion" "_law_portion" st__law_portion (He.ga K "_law_portion") q32 := fun_ofD (st := st__law_portion) F32
  obtain ⟨q33, F33⟩ := c.def_ 33 (d := dd__law_prices) rfl
  have F33 : Fun K "_law_prices" "_law_prices" st__law_prices (He.ga K "_law_prices") q33 := fun_ofD (st := st__law_prices) F33
  obtain ⟨q34, F34⟩ := c.def_ 34 (d := dd__law_right) rfl
  have F34 : Fun K "_law_right" "_law_right" st__law_right (He.ga K "_law_right") q34 := fun_ofD (st := st__law_right) F34
  obtain ⟨q35, F35⟩ := c.def_ 35 (d := dd_law) rfl
  have F35 : Fun K "law" "law" st_law (He.ga K "law") q35 := fun_ofD (st := st_law) F35
  exact ⟨{ a_is_rule := He.ga K "is_rule", d_is_rule := q0, a__need_bounds := He.ga K "_need_bounds", d__need_bounds := q1, a__need_making := He.ga K "_need_making", d__need_making := q2, a__look_at := He.ga K "_look_at", d__look_at := q3, a_look_over := He.ga K "look_over", d_look_over := q4, a_is_fraction := He.ga K "is_fraction", d_is_fraction := q5, a_lowest_terms := He.ga K "lowest_terms", d_lowest_terms := q6, a_need_prices := He.ga K "need_prices", d_need_prices := q7, a_common_unit := He.ga K "common_unit", d_common_unit := q8, a_in_units := He.ga K "in_units", d_in_units := q9, a_fractions_of := He.ga K "fractions_of", d_fractions_of := q10, a_sums_of := He.ga K "sums_of", d_sums_of := q11, a__sums_at := He.ga K "_sums_at", d__sums_at := q12, a_costs := He.ga K "costs", d_costs := q13, a_owns := He.ga K "owns", d_owns := q14, a_counted := He.ga K "counted", d_counted := q15, a_words_at := He.ga K "words_at", d_words_at := q16, a_is_of_here := He.ga K "is_of_here", d_is_of_here := q17, a_portion := He.ga K "portion", d_portion := q18, a__law_begun := He.ga K "_law_begun", d__law_begun := q19, a__law_draw := He.ga K "_law_draw", d__law_draw := q20, a__law_of := He.ga K "_law_of", d__law_of := q21, a__law_span := He.ga K "_law_span", d__law_span := q22, a__law_term := He.ga K "_law_term", d__law_term := q23, a__law_thing := He.ga K "_law_thing", d__law_thing := q24, a__law_good := He.ga K "_law_good", d__law_good := q25, a__law_rows := He.ga K "_law_rows", d__law_rows := q26, a__law_least := He.ga K "_law_least", d__law_least := q27, a__law_sum := He.ga K "_law_sum", d__law_sum := q28, a__law_counted := He.ga K "_law_counted", d__law_counted := q29, a__law_reckoned := He.ga K "_law_reckoned", d__law_reckoned := q30, a__law_words := He.ga K "_law_words", d__law_words := q31, a__law_portion := He.ga K "_law_portion", d__law_portion := q32, a__law_prices := He.ga K "_law_prices", d__law_prices := q33, a__law_right := He.ga K "_law_right", d__law_right := q34, a_law := He.ga K "law", d_law := q35 },
  { F_is_rule := F0,
    g_is_rule := He.glo_ok X G (c.fact 0 (f := .glo "is_rule") rfl),
    b_is_rule := binds_of F0 (fun _ _ _ _ _ _ us hl => match us, hl with | [_], _ => rfl),
    F__need_bounds := F1,
    g__need_bounds := He.glo_ok X G (c.fact 1 (f := .glo "_need_bounds") rfl),
    b__need_bounds := binds_of F1 (fun _ _ _ _ _ _ us hl => match us, hl with | [_, _, _, _], _ => rfl),
    F__need_making := F2,
    g__need_making := He.glo_ok X G (c.fact 2 (f := .glo "_need_making") rfl),
    b__need_making := binds_of F2 (fun _ _ _ _ _ _ us hl => match us, hl with | [_, _, _], _ => rfl),
    F__look_at := F3,
    g__look_at := He.glo_ok X G (c.fact 3 (f := .glo "_look_at") rfl),
    b__look_at := binds_of F3 (fun _ _ _ _ _ _ us hl => match us, hl with | [_, _, _, _, _, _], _ => rfl),
    F_look_over := F4,
    g_look_over := He.glo_ok X G (c.fact 4 (f := .glo "look_over") rfl),
    b_look_over := binds_of F4 (fun _ _ _ _ _ _ us hl => match us, hl with | [_], _ => rfl),
    F_is_fraction := F5,
    g_is_fraction := He.glo_ok X G (c.fact 5 (f := .glo "is_fraction") rfl),
    b_is_fraction := binds_of F5 (fun _ _ _ _ _ _ us hl => match us, hl with | [_, _, _], _ => rfl),
    F_lowest_terms := F6,
    g_lowest_terms := He.glo_ok X G (c.fact 6 (f := .glo "lowest_terms") rfl),
    b_lowest_terms := binds_of F6 (fun _ _ _ _ _ _ us hl => match us, hl with | [_, _], _ => rfl),
    F_need_prices := F7,
    g_need_prices := He.glo_ok X G (c.fact 7 (f := .glo "need_prices") rfl),
    b_need_prices := binds_of F7 (fun _ _ _ _ _ _ us hl => match us, hl with | [_, _], _ => rfl),
    F_common_unit := F8,
    g_common_unit := He.glo_ok X G (c.fact 8 (f := .glo "common_unit") rfl),
    b_common_unit := binds_of F8 (fun _ _ _ _ _ _ us hl => match us, hl with | [_], _ => rfl),
    F_in_units := F9,
    g_in_units := He.glo_ok X G (c.fact 9 (f := .glo "in_units") rfl),
    b_in_units := binds_of F9 (fun _ _ _ _ _ _ us hl => match us, hl with | [_, _], _ => rfl),
    F_fractions_of := F10,
    g_fractions_of := He.glo_ok X G (c.fact 10 (f := .glo "fractions_of") rfl),
    b_fractions_of := binds_of F10 (fun _ _ _ _ _ _ us hl => match us, hl with | [_, _], _ => rfl),
    F_sums_of := F11,
    g_sums_of := He.glo_ok X G (c.fact 11 (f := .glo "sums_of") rfl),
    b_sums_of := binds_of F11 (fun _ _ _ _ _ _ us hl => match us, hl with | [_, _, _], _ => rfl),
    F__sums_at := F12,
    g__sums_at := He.glo_ok X G (c.fact 12 (f := .glo "_sums_at") rfl),
    b__sums_at := binds_of F12 (fun _ _ _ _ _ _ us hl => match us, hl with | [_, _], _ => rfl),
    F_costs := F13,
    g_costs := He.glo_ok X G (c.fact 13 (f := .glo "costs") rfl),
    b_costs := binds_of F13 (fun _ _ _ _ _ _ us hl => match us, hl with | [_, _], _ => rfl),
    F_owns := F14,
    g_owns := He.glo_ok X G (c.fact 14 (f := .glo "owns") rfl),
    b_owns := binds_of F14 (fun _ _ _ _ _ _ us hl => match us, hl with | [_, _], _ => rfl),
    F_counted := F15,
    g_counted := He.glo_ok X G (c.fact 15 (f := .glo "counted") rfl),
    b_counted := binds_of F15 (fun _ _ _ _ _ _ us hl => match us, hl with | [_, _], _ => rfl),
    F_words_at := F16,
    g_words_at := He.glo_ok X G (c.fact 16 (f := .glo "words_at") rfl),
    b_words_at := binds_of F16 (fun _ _ _ _ _ _ us hl => match us, hl with | [_, _], _ => rfl),
    F_is_of_here := F17,
    g_is_of_here := He.glo_ok X G (c.fact 17 (f := .glo "is_of_here") rfl),
    b_is_of_here := binds_of F17 (fun _ _ _ _ _ _ us hl => match us, hl with | [_, _], _ => rfl),
    F_portion := F18,
    g_portion := He.glo_ok X G (c.fact 18 (f := .glo "portion") rfl),
    b_portion := binds_of F18 (fun _ _ _ _ _ _ us hl => match us, hl with | [_, _], _ => rfl),
    F__law_begun := F19,
    g__law_begun := He.glo_ok X G (c.fact 19 (f := .glo "_law_begun") rfl),
    b__law_begun := binds_of F19 (fun _ _ _ _ _ _ us hl => match us, hl with | [_], _ => rfl),
    F__law_draw := F20,
    g__law_draw := He.glo_ok X G (c.fact 20 (f := .glo "_law_draw") rfl),
    b__law_draw := binds_of F20 (fun _ _ _ _ _ _ us hl => match us, hl with | [_, _], _ => rfl),
    F__law_of := F21,
    g__law_of := He.glo_ok X G (c.fact 21 (f := .glo "_law_of") rfl),
    b__law_of := binds_of F21 (fun _ _ _ _ _ _ us hl => match us, hl with | [_, _], _ => rfl),
    F__law_span := F22,
    g__law_span := He.glo_ok X G (c.fact 22 (f := .glo "_law_span") rfl),
    b__law_span := binds_of F22 (fun _ _ _ _ _ _ us hl => match us, hl with | [_, _], _ => rfl),
    F__law_term := F23,
    g__law_term := He.glo_ok X G (c.fact 23 (f := .glo "_law_term") rfl),
    b__law_term := binds_of F23 (fun _ _ _ _ _ _ us hl => match us, hl with | [_], _ => rfl),
    F__law_thing := F24,
    g__law_thing := He.glo_ok X G (c.fact 24 (f := .glo "_law_thing") rfl),
    b__law_thing := binds_of F24 (fun _ _ _ _ _ _ us hl => match us, hl with | [_, _, _], _ => rfl),
    F__law_good := F25,
    g__law_good := He.glo_ok X G (c.fact 25 (f := .glo "_law_good") rfl),
    b__law_good := binds_of F25 (fun _ _ _ _ _ _ us hl => match us, hl with | [_, _, _], _ => rfl),
    F__law_rows := F26,
    g__law_rows := He.glo_ok X G (c.fact 26 (f := .glo "_law_rows") rfl),
    b__law_rows := binds_of F26 (fun _ _ _ _ _ _ us hl => match us, hl with | [_, _], _ => rfl),
    F__law_least := F27,
    g__law_least := He.glo_ok X G (c.fact 27 (f := .glo "_law_least") rfl),
    b__law_least := binds_of F27 (fun _ _ _ _ _ _ us hl => match us, hl with | [_, _], _ => rfl),
    F__law_sum := F28,
    g__law_sum := He.glo_ok X G (c.fact 28 (f := .glo "_law_sum") rfl),
    b__law_sum := binds_of F28 (fun _ _ _ _ _ _ us hl => match us, hl with | [_], _ => rfl),
    F__law_counted := F29,
    g__law_counted := He.glo_ok X G (c.fact 29 (f := .glo "_law_counted") rfl),
    b__law_counted := binds_of F29 (fun _ _ _ _ _ _ us hl => match us, hl with | [_, _, _], _ => rfl),
    F__law_reckoned := F30,
    g__law_reckoned := He.glo_ok X G (c.fact 30 (f := .glo "_law_reckoned") rfl),
    b__law_reckoned := binds_of F30 (fun _ _ _ _ _ _ us hl => match us, hl with | [_, _], _ => rfl),
    F__law_words := F31,
    g__law_words := He.glo_ok X G (c.fact 31 (f := .glo "_law_words") rfl),
    b__law_words := binds_of F31 (fun _ _ _ _ _ _ us hl => match us, hl with | [_, _], _ => rfl),
    F__law_portion := F32,
    g__law_portion := He.glo_ok X G (c.fact 32 (f := .glo "_law_portion") rfl),
    b__law_portion := binds_of F32 (fun _ _ _ _ _ _ us hl => match us, hl with | [_, _], _ => rfl),
    F__law_prices := F33,
    g__law_prices := He.glo_ok X G (c.fact 33 (f := .glo "_law_prices") rfl),
    b__law_prices := binds_of F33 (fun _ _ _ _ _ _ us hl => match us, hl with | [_, _], _ => rfl),
    F__law_right := F34,
    g__law_right := He.glo_ok X G (c.fact 34 (f := .glo "_law_right") rfl),
    b__law_right := binds_of F34 (fun _ _ _ _ _ _ us hl => match us, hl with | [_, _], _ => rfl),
    F_law := F35,
    g_law := He.glo_ok X G (c.fact 35 (f := .glo "law") rfl),
    b_law := binds_of F35 (fun _ _ _ _ _ _ us hl => match us, hl with | [_], _ => rfl),
    z_abs := He.free_ok X G (c.fact 36 (f := .free "abs") rfl),
    z_bool := He.free_ok X G (c.fact 37 (f := .free "bool") rfl),
    z_enumerate := He.free_ok X G (c.fact 38 (f := .free "enumerate") rfl),
    z_int := He.free_ok X G (c.fact 39 (f := .free "int") rfl),
    z_isinstance := He.free_ok X G (c.fact 40 (f := .free "isinstance") rfl),
    z_len := He.free_ok X G (c.fact 41 (f := .free "len") rfl),
    z_list := He.free_ok X G (c.fact 42 (f := .free "list") rfl),
    z_max := He.free_ok X G (c.fact 43 (f := .free "max") rfl),
    z_min := He.free_ok X G (c.fact 44 (f := .free "min") rfl),
    z_range := He.free_ok X G (c.fact 45 (f := .free "range") rfl),
    z_repr := He.free_ok X G (c.fact 46 (f := .free "repr") rfl),
    z_reversed := He.free_ok X G (c.fact 47 (f := .free "reversed") rfl),
    z_str := He.free_ok X G (c.fact 48 (f := .free "str") rfl),
    z_tuple := He.free_ok X G (c.fact 49 (f := .free "tuple") rfl),
    z_zip := He.free_ok X G (c.fact 50 (f := .free "zip") rfl),
    c_HIGH := (He.int_ok X G (c.fact 51 (f := .int "HIGH" 3) rfl)).elim fun t e => ⟨_, e, t, rfl⟩,
    c_LAND := (He.int_ok X G (c.fact 52 (f := .int "LAND" 1) rfl)).elim fun t e => ⟨_, e, t, rfl⟩,
    c_LOW := (He.int_ok X G (c.fact 53 (f := .int "LOW" 2) rfl)).elim fun t e => ⟨_, e, t, rfl⟩,
    c_MAKING := (He.int_ok X G (c.fact 54 (f := .int "MAKING" 0) rfl)).elim fun t e => ⟨_, e, t, rfl⟩,
    c_MOST_MOVES := (He.int_ok X G (c.fact 55 (f := .int "MOST_MOVES" 3) rfl)).elim fun t e => ⟨_, e, t, rfl⟩,
    c_MOST_PARTS := (He.int_ok X G (c.fact 56 (f := .int "MOST_PARTS" 4) rfl)).elim fun t e => ⟨_, e, t, rfl⟩,
    c_MOST_PRICE := (He.int_ok X G (c.fact 57 (f := .int "MOST_PRICE" 1000000) rfl)).elim fun t e => ⟨_, e, t, rfl⟩,
    c_MOST_SHARE := (He.int_ok X G (c.fact 58 (f := .int "MOST_SHARE" 100) rfl)).elim fun t e => ⟨_, e, t, rfl⟩,
    c_MOST_STEPS := (He.int_ok X G (c.fact 59 (f := .int "MOST_STEPS" 4) rfl)).elim fun t e => ⟨_, e, t, rfl⟩,
    c_MOST_THINGS := (He.int_ok X G (c.fact 60 (f := .int "MOST_THINGS" 10) rfl)).elim fun t e => ⟨_, e, t, rfl⟩,
    c_RULE := (He.int_ok X G (c.fact 61 (f := .int "RULE" 4) rfl)).elim fun t e => ⟨_, e, t, rfl⟩,
    i_gcd := PySem.W.mg_of X G (ex_ok e 0 rfl),
    i_lcm := PySem.W.mg_of X G (ex_ok e 1 rfl) }, rfl⟩
end G_madeofhere_k04_whole_counts
open PySem PySem.W PySem.Calls PyProof.Rows
theorem G_madeofhere_k04_whole_counts.from_data (hl : DL.LawD 63 G_madeofhere_k04_whole_counts.Wlaw) : PySem.Challenge.rw_madeofhere_k04_whole_counts.Holds := by
  w_on; o_law
  refine HandSHeadRun.head_imp (r := G_madeofhere_k04_whole_counts.R) (q := view G_madeofhere_k04_whole_counts.R.prog [0, 55]) (H := G_madeofhere_k04_whole_counts.hk) (ob := G_madeofhere_k04_whole_counts.ob) (M := 40000) (loose := G_madeofhere_k04_whole_counts.loose) (d := HandSHeadRun.topDef G_madeofhere_k04_whole_counts.R.prog 55) (kwd := []) G_madeofhere_k04_whole_counts.ob_eq
    G_madeofhere_k04_whole_counts.run (by kernel_rfl) (by kernel_rfl) (by kernel_rfl) (by rfl) (by first | assumption | decide +kernel) (by decide +kernel) ⟨rfl, rfl, rfl, rfl, rfl, by decide +kernel⟩ ?hw ?hc
  case hw => w_witness2
  case hc =>
    refine DL.d_walk (l := PySem.Challenge.rw_madeofhere_k04_whole_counts) (n := 63) (k := 15) (x := "script") rfl (by decide) (by kernel_rfl) ⟨⟨rfl, by decide, by decide⟩, rfl⟩ ?F
    intro w mg fa h Y G hmg0
    obtain ⟨K, KX, c, e⟩ := Y
    have hmg : mg ("law" : PySem.Str) = some (.ref fa) := by
      have e : (HandSHeadRun.topDef G_madeofhere_k04_whole_counts.R.prog 55).name = ("law" : PySem.Str) := by kernel_rfl
      rw [← e]
      exact hmg0
    obtain ⟨A, T, eA⟩ := G_madeofhere_k04_whole_counts.txt KX G c e
    have ef := hmg.symm.trans T.g_law
    cases ef
    exact ⟨K, A.d_law, G_madeofhere_k04_whole_counts.Wlaw, KX, fun s v => (by obtain ⟨_, _, _, _, _, _, _, _, _, e2, _, _⟩ := T.F_law.ex; rw [e2]; exact .of_eq rfl), hl, fun base _ _ => G_madeofhere_k04_whole_counts.ok_law T⟩
set_option maxHeartbeats 1000000
namespace DL
open PySem PySem.Spec PyProof.Rows L2
section
variable {Xd : XD} {s : SD} {M : Mem} {Q : QD} {te ta tb tc to ti t1 : TED} {A : TAD} {t u : TSD} {c d1 : TTD} {d e x y : D} {nx bk ct : SD → Mem → Prop} {rt : QD} {ex : XD} {ds es : List D} {a p : Addr} {R : Bool → Mem → Prop} {L : List D → Mem → Prop}
/-! ### statements -/
theorem w_seq (h : t ⟨u ⟨nx, rt, bk, ct, ex⟩, rt, bk, ct, ex⟩ s M) : sSeq t u ⟨nx, rt, bk, ct, ex⟩ s M := h
theorem w_nx (h : nx s M) : sNx ⟨nx, rt, bk, ct, ex⟩ s M := h
theorem w_bk (h : bk s M) : sBk ⟨nx, rt, bk, ct, ex⟩ s M := h
theorem w_ct (h : ct s M) : sCt ⟨nx, rt, bk, ct, ex⟩ s M := h
theorem w_ret (h : te ex s M rt) : sRet te ⟨nx, rt, bk, ct, ex⟩ s M := h
theorem w_retN (h : rt .non M) : sRetN ⟨nx, rt, bk, ct, ex⟩ s M := h
theorem w_expr (h : te ex s M fun _ M1 => nx s M1) : sExpr te ⟨nx, rt, bk, ct, ex⟩ s M := h
theorem w_ifS (h : c ex s M fun b M1 => if b = true then t ⟨nx, rt, bk, ct, ex⟩ s M1 else u ⟨nx, rt, bk, ct, ex⟩ s M1) : sIf c t u ⟨nx, rt, bk, ct, ex⟩ s M := h
theorem w_asg {g : TGD} (h : te ex s M fun d M1 => g d ex s M1 nx) : sAsg te g ⟨nx, rt, bk, ct, ex⟩ s M := h
theorem w_augS {f} (h : to ex s M fun o M1 => ti ex s M1 fun i M2 => augK f te ⟨nx, rt, bk, ct, ex⟩ s o i M2) : sAugS f to ti te ⟨nx, rt, bk, ct, ex⟩ s M := h
theorem w_for {ti : TID} {g : TGD} (h : ti ex s M fun ds ow M1 => sForL g t ⟨nx, rt, bk, ct, ex⟩ (wat ow M1) ds s M1) : sFor ti g t ⟨nx, rt, bk, ct, ex⟩ s M := h
theorem w_forNil {g : TGD} {W : Mem → Prop} (hW : W M) (h : nx s M) : sForL g t ⟨nx, rt, bk, ct, ex⟩ W [] s M := ⟨hW, h⟩
theorem w_forCons {g : TGD} {W : Mem → Prop} (hW : W M) (h : g d ex s M fun s' M' => t ⟨sForL g t ⟨nx, rt, bk, ct, ex⟩ W ds, rt, nx, sForL g t ⟨nx, rt, bk, ct, ex⟩ W ds, ex⟩ s' M') : sForL g t ⟨nx, rt, bk, ct, ex⟩ W (d :: ds) s M := ⟨hW, h⟩
/-- what comes behind a statement, once for all its ways -/
theorem w_join {P : Mem → Prop} (hu : ∀ M1, P M1 → u ⟨nx, rt, bk, ct, ex⟩ s M1) (h : (∀ M1, P M1 → u ⟨nx, rt, bk, ct, ex⟩ s M1) → sSeq t u ⟨nx, rt, bk, ct, ex⟩ s M) : sSeq t u ⟨nx, rt, bk, ct, ex⟩ s M := h hu
theorem w_sl {l h : TOD} (H : te Xd s M fun d M1 => l Xd s M1 fun x M2 => h Xd s M2 fun y M3 => slK x y d Q M3) : dSl te l h Xd s M Q := H
theorem w_oNo {F : Option Int → Mem → Prop} (h : F none M) : oNo Xd s M F := h
theorem w_oSo {F : Option Int → Mem → Prop} (h : te Xd s M (oSoK F)) : oSo te Xd s M F := h
theorem w_oSoK {F : Option Int → Mem → Prop} {i : Int} (h : F (some i) M) : oSoK F (.int i) M := h
theorem w_slT {l h : Option Int} (H : Q (.tup (cutD ds l h)) M) : slK l h (.tup ds) Q M := H
theorem w_slL {l h : Option Int} (H : Q (.lst (cutD ds l h)) M) : slK l h (.lst ds) Q M := H
theorem w_dct {trs : List (Key × TED)} (h : ∀ p, M p = none → dPairs trs Xd s (M.put p (.dct [] [])) fun ds M1 => M1 p = some (.dct [] []) ∧ Q (.ref p) (M1.put p (.dct (trs.map (·.1)) ds))) : dDct trs Xd s M Q := h
theorem w_prN (h : L [] M) : dPairs [] Xd s M L := h
theorem w_prC {k : Key} {r : List (Key × TED)} (h : te Xd s M fun d M1 => dPairs r Xd s M1 fun ds M2 => L (d :: ds) M2) : dPairs ((k, te) :: r) Xd s M L := h
theorem w_lc {ti : TID} {g : TGD} {tt : TTD} {vs : List Nat} (h : ti Xd s M fun ds ow M1 => ∀ p, M1 p = none → dLcL g tt te (wipeD s vs) (wat ow M1) p Q ds (M1.put p (.lst []))) : dLc ti g tt te vs Xd s M Q := h
theorem w_lcO {ti : TID} {g : TGD} {tt : TTD} {vs : List Nat} (h : ti Xd s M fun ds ow M1 => ∀ p, M1 p = none → dLcLO g tt te (wipeD s vs) (wat ow M1) p Q ds (M1.put p (.lst []))) : dLcO ti g tt te vs Xd s M Q := h
theorem wat_none {M0 : Mem} : wat none M0 M := True.intro
theorem wat_some {M0 : Mem} (h : M a = M0 a) : wat (some a) M0 M := h

theorem w_set0 {x0 : Option D} (h : te ex (x0 :: s) M fun d M1 => nx (some d :: s) M1) : sSet 0 te ⟨nx, rt, bk, ct, ex⟩ (x0 :: s) M := h
theorem w_gnm0 {x0 : Option D} {K : SD → Mem → Prop} (h : K (some d :: s) M) : gNm 0 d Xd (x0 :: s) M K := h
theorem w_var0 (h : Q d M) : dVar 0 Xd (some d :: s) M Q := h
theorem w_set1 {x0 x1 : Option D} (h : te ex (x0 :: x1 :: s) M fun d M1 => nx (x0 :: some d :: s) M1) : sSet 1 te ⟨nx, rt, bk, ct, ex⟩ (x0 :: x1 :: s) M := h
theorem w_gnm1 {x0 x1 : Option D} {K : SD → Mem → Prop} (h : K (x0 :: some d :: s) M) : gNm 1 d Xd (x0 :: x1 :: s) M K := h
theorem w_var1 {x0 : Option D} (h : Q d M) : dVar 1 Xd (x0 :: some d :: s) M Q := h
theorem w_set2 {x0 x1 x2 : Option D} (h : te ex (x0 :: x1 :: x2 :: s) M fun d M1 => nx (x0 :: x1 :: some d :: s) M1) : sSet 2 te ⟨nx, rt, bk, ct, ex⟩ (x0 :: x1 :: x2 :: s) M := h
theorem w_gnm2 {x0 x1 x2 : Option D} {K : SD → Mem → Prop} (h : K (x0 :: x1 :: some d :: s) M) : gNm 2 d Xd (x0 :: x1 :: x2 :: s) M K := h
theorem w_var2 {x0 x1 : Option D} (h : Q d M) : dVar 2 Xd (x0 :: x1 :: some d :: s) M Q := h
theorem w_set3 {x0 x1 x2 x3 : Option D} (h : te ex (x0 :: x1 :: x2 :: x3 :: s) M fun d M1 => nx (x0 :: x1 :: x2 :: some d :: s) M1) : sSet 3 te ⟨nx, rt, bk, ct, ex⟩ (x0 :: x1 :: x2 :: x3 :: s) M := h
theorem w_gnm3 {x0 x1 x2 x3 : Option D} {K : SD → Mem → Prop} (h : K (x0 :: x1 :: x2 :: some d :: s) M) : gNm 3 d Xd (x0 :: x1 :: x2 :: x3 :: s) M K := h
theorem w_var3 {x0 x1 x2 : Option D} (h : Q d M) : dVar 3 Xd (x0 :: x1 :: x2 :: some d :: s) M Q := h
theorem w_set4 {x0 x1 x2 x3 x4 : Option D} (h : te ex (x0 :: x1 :: x2 :: x3 :: x4 :: s) M fun d M1 => nx (x0 :: x1 :: x2 :: x3 :: some d :: s) M1) : sSet 4 te ⟨nx, rt, bk, ct, ex⟩ (x0 :: x1 :: x2 :: x3 :: x4 :: s) M := h
theorem w_gnm4 {x0 x1 x2 x3 x4 : Option D} {K : SD → Mem → Prop} (h : K (x0 :: x1 :: x2 :: x3 :: some d :: s) M) : gNm 4 d Xd (x0 :: x1 :: x2 :: x3 :: x4 :: s) M K := h
theorem w_var4 {x0 x1 x2 x3 : Option D} (h : Q d M) : dVar 4 Xd (x0 :: x1 :: x2 :: x3 :: some d :: s) M Q := h
theorem w_set5 {x0 x1 x2 x3 x4 x5 : Option D} (h : te ex (x0 :: x1 :: x2 :: x3 :: x4 :: x5 :: s) M fun d M1 => nx (x0 :: x1 :: x2 :: x3 :: x4 :: some d :: s) M1) : sSet 5 te ⟨nx, rt, bk, ct, ex⟩ (x0 :: x1 :: x2 :: x3 :: x4 :: x5 :: s) M := h
theorem w_gnm5 {x0 x1 x2 x3 x4 x5 : Option D} {K : SD → Mem → Prop} (h : K (x0 :: x1 :: x2 :: x3 :: x4 :: some d :: s) M) : gNm 5 d Xd (x0 :: x1 :: x2 :: x3 :: x4 :: x5 :: s) M K := h
theorem w_var5 {x0 x1 x2 x3 x4 : Option D} (h : Q d M) : dVar 5 Xd (x0 :: x1 :: x2 :: x3 :: x4 :: some d :: s) M Q := h
theorem w_set6 {x0 x1 x2 x3 x4 x5 x6 : Option D} (h : te ex (x0 :: x1 :: x2 :: x3 :: x4 :: x5 :: x6 :: s) M fun d M1 => nx (x0 :: x1 :: x2 :: x3 :: x4 :: x5 :: some d :: s) M1) : sSet 6 te ⟨nx, rt, bk, ct, ex⟩ (x0 :: x1 :: x2 :: x3 :: x4 :: x5 :: x6 :: s) M := h
theorem w_gnm6 {x0 x1 x2 x3 x4 x5 x6 : Option D} {K : SD → Mem → Prop} (h : K (x0 :: x1 :: x2 :: x3 :: x4 :: x5 :: some d :: s) M) : gNm 6 d Xd (x0 :: x1 :: x2 :: x3 :: x4 :: x5 :: x6 :: s) M K := h
theorem w_var6 {x0 x1 x2 x3 x4 x5 : Option D} (h : Q d M) : dVar 6 Xd (x0 :: x1 :: x2 :: x3 :: x4 :: x5 :: some d :: s) M Q := h
theorem w_set7 {x0 x1 x2 x3 x4 x5 x6 x7 : Option D} (h : te ex (x0 :: x1 :: x2 :: x3 :: x4 :: x5 :: x6 :: x7 :: s) M fun d M1 => nx (x0 :: x1 :: x2 :: x3 :: x4 :: x5 :: x6 :: some d :: s) M1) : sSet 7 te ⟨nx, rt, bk, ct, ex⟩ (x0 :: x1 :: x2 :: x3 :: x4 :: x5 :: x6 :: x7 :: s) M := h
theorem w_gnm7 {x0 x1 x2 x3 x4 x5 x6 x7 : Option D} {K : SD → Mem → Prop} (h : K (x0 :: x1 :: x2 :: x3 :: x4 :: x5 :: x6 :: some d :: s) M) : gNm 7 d Xd (x0 :: x1 :: x2 :: x3 :: x4 :: x5 :: x6 :: x7 :: s) M K := h
theorem w_var7 {x0 x1 x2 x3 x4 x5 x6 : Option D} (h : Q d M) : dVar 7 Xd (x0 :: x1 :: x2 :: x3 :: x4 :: x5 :: x6 :: some d :: s) M Q := h
theorem w_set8 {x0 x1 x2 x3 x4 x5 x6 x7 x8 : Option D} (h : te ex (x0 :: x1 :: x2 :: x3 :: x4 :: x5 :: x6 :: x7 :: x8 :: s) M fun d M1 => nx (x0 :: x1 :: x2 :: x3 :: x4 :: x5 :: x6 :: x7 :: some d :: s) M1) : sSet 8 te ⟨nx, rt, bk, ct, ex⟩ (x0 :: x1 :: x2 :: x3 :: x4 :: x5 :: x6 :: x7 :: x8 :: s) M := h
theorem w_gnm8 {x0 x1 x2 x3 x4 x5 x6 x7 x8 : Option D} {K : SD → Mem → Prop} (h : K (x0 :: x1 :: x2 :: x3 :: x4 :: x5 :: x6 :: x7 :: some d :: s) M) : gNm 8 d Xd (x0 :: x1 :: x2 :: x3 :: x4 :: x5 :: x6 :: x7 :: x8 :: s) M K := h
theorem w_var8 {x0 x1 x2 x3 x4 x5 x6 x7 : Option D} (h : Q d M) : dVar 8 Xd (x0 :: x1 :: x2 :: x3 :: x4 :: x5 :: x6 :: x7 :: some d :: s) M Q := h
theorem w_set9 {x0 x1 x2 x3 x4 x5 x6 x7 x8 x9 : Option D} (h : te ex (x0 :: x1 :: x2 :: x3 :: x4 :: x5 :: x6 :: x7 :: x8 :: x9 :: s) M fun d M1 => nx (x0 :: x1 :: x2 :: x3 :: x4 :: x5 :: x6 :: x7 :: x8 :: some d :: s) M1) : sSet 9 te ⟨nx, rt, bk, ct, ex⟩ (x0 :: x1 :: x2 :: x3 :: x4 :: x5 :: x6 :: x7 :: x8 :: x9 :: s) M := h
theorem w_gnm9 {x0 x1 x2 x3 x4 x5 x6 x7 x8 x9 : Option D} {K : SD → Mem → Prop} (h : K (x0 :: x1 :: x2 :: x3 :: x4 :: x5 :: x6 :: x7 :: x8 :: some d :: s) M) : gNm 9 d Xd (x0 :: x1 :: x2 :: x3 :: x4 :: x5 :: x6 :: x7 :: x8 :: x9 :: s) M K := h
theorem w_var9 {x0 x1 x2 x3 x4 x5 x6 x7 x8 : Option D} (h : Q d M) : dVar 9 Xd (x0 :: x1 :: x2 :: x3 :: x4 :: x5 :: x6 :: x7 :: x8 :: some d :: s) M Q := h
theorem w_set10 {x0 x1 x2 x3 x4 x5 x6 x7 x8 x9 x10 : Option D} (h : te ex (x0 :: x1 :: x2 :: x3 :: x4 :: x5 :: x6 :: x7 :: x8 :: x9 :: x10 :: s) M fun d M1 => nx (x0 :: x1 :: x2 :: x3 :: x4 :: x5 :: x6 :: x7 :: x8 :: x9 :: some d :: s) M1) : sSet 10 te ⟨nx, rt, bk, ct, ex⟩ (x0 :: x1 :: x2 :: x3 :: x4 :: x5 :: x6 :: x7 :: x8 :: x9 :: x10 :: s) M := h
theorem w_gnm10 {x0 x1 x2 x3 x4 x5 x6 x7 x8 x9 x10 : Option D} {K : SD → Mem → Prop} (h : K (x0 :: x1 :: x2 :: x3 :: x4 :: x5 :: x6 :: x7 :: x8 :: x9 :: some d :: s) M) : gNm 10 d Xd (x0 :: x1 :: x2 :: x3 :: x4 :: x5 :: x6 :: x7 :: x8 :: x9 :: x10 :: s) M K := h
theorem w_var10 {x0 x1 x2 x3 x4 x5 x6 x7 x8 x9 : Option D} (h : Q d M) : dVar 10 Xd (x0 :: x1 :: x2 :: x3 :: x4 :: x5 :: x6 :: x7 :: x8 :: x9 :: some d :: s) M Q := h
theorem w_set11 {x0 x1 x2 x3 x4 x5 x6 x7 x8 x9 x10 x11 : Option D} (h : te ex (x0 :: x1 :: x2 :: x3 :: x4 :: x5 :: x6 :: x7 :: x8 :: x9 :: x10 :: x11 :: s) M fun d M1 => nx (x0 :: x1 :: x2 :: x3 :: x4 :: x5 :: x6 :: x7 :: x8 :: x9 :: x10 :: some d :: s) M1) : sSet 11 te ⟨nx, rt, bk, ct, ex⟩ (x0 :: x1 :: x2 :: x3 :: x4 :: x5 :: x6 :: x7 :: x8 :: x9 :: x10 :: x11 :: s) M := h
theorem w_gnm11 {x0 x1 x2 x3 x4 x5 x6 x7 x8 x9 x10 x11 : Option D} {K : SD → Mem → Prop} (h : K (x0 :: x1 :: x2 :: x3 :: x4 :: x5 :: x6 :: x7 :: x8 :: x9 :: x10 :: some d :: s) M) : gNm 11 d Xd (x0 :: x1 :: x2 :: x3 :: x4 :: x5 :: x6 :: x7 :: x8 :: x9 :: x10 :: x11 :: s) M K := h
theorem w_var11 {x0 x1 x2 x3 x4 x5 x6 x7 x8 x9 x10 : Option D} (h : Q d M) : dVar 11 Xd (x0 :: x1 :: x2 :: x3 :: x4 :: x5 :: x6 :: x7 :: x8 :: x9 :: x10 :: some d :: s) M Q := h
theorem w_set12 {x0 x1 x2 x3 x4 x5 x6 x7 x8 x9 x10 x11 x12 : Option D} (h : te ex (x0 :: x1 :: x2 :: x3 :: x4 :: x5 :: x6 :: x7 :: x8 :: x9 :: x10 :: x11 :: x12 :: s) M fun d M1 => nx (x0 :: x1 :: x2 :: x3 :: x4 :: x5 :: x6 :: x7 :: x8 :: x9 :: x10 :: x11 :: some d :: s) M1) : sSet 12 te ⟨nx, rt, bk, ct, ex⟩ (x0 :: x1 :: x2 :: x3 :: x4 :: x5 :: x6 :: x7 :: x8 :: x9 :: x10 :: x11 :: x12 :: s) M := h
theorem w_gnm12 {x0 x1 x2 x3 x4 x5 x6 x7 x8 x9 x10 x11 x12 : Option D} {K : SD → Mem → Prop} (h : K (x0 :: x1 :: x2 :: x3 :: x4 :: x5 :: x6 :: x7 :: x8 :: x9 :: x10 :: x11 :: some d :: s) M) : gNm 12 d Xd (x0 :: x1 :: x2 :: x3 :: x4 :: x5 :: x6 :: x7 :: x8 :: x9 :: x10 :: x11 :: x12 :: s) M K := h
theorem w_var12 {x0 x1 x2 x3 x4 x5 x6 x7 x8 x9 x10 x11 : Option D} (h : Q d M) : dVar 12 Xd (x0 :: x1 :: x2 :: x3 :: x4 :: x5 :: x6 :: x7 :: x8 :: x9 :: x10 :: x11 :: some d :: s) M Q := h
theorem w_set13 {x0 x1 x2 x3 x4 x5 x6 x7 x8 x9 x10 x11 x12 x13 : Option D} (h : te ex (x0 :: x1 :: x2 :: x3 :: x4 :: x5 :: x6 :: x7 :: x8 :: x9 :: x10 :: x11 :: x12 :: x13 :: s) M fun d M1 => nx (x0 :: x1 :: x2 :: x3 :: x4 :: x5 :: x6 :: x7 :: x8 :: x9 :: x10 :: x11 :: x12 :: some d :: s) M1) : sSet 13 te ⟨nx, rt, bk, ct, ex⟩ (x0 :: x1 :: x2 :: x3 :: x4 :: x5 :: x6 :: x7 :: x8 :: x9 :: x10 :: x11 :: x12 :: x13 :: s) M := h
theorem w_gnm13 {x0 x1 x2 x3 x4 x5 x6 x7 x8 x9 x10 x11 x12 x13 : Option D} {K : SD → Mem → Prop} (h : K (x0 :: x1 :: x2 :: x3 :: x4 :: x5 :: x6 :: x7 :: x8 :: x9 :: x10 :: x11 :: x12 :: some d :: s) M) : gNm 13 d Xd (x0 :: x1 :: x2 :: x3 :: x4 :: x5 :: x6 :: x7 :: x8 :: x9 :: x10 :: x11 :: x12 :: x13 :: s) M K := h
theorem w_var13 {x0 x1 x2 x3 x4 x5 x6 x7 x8 x9 x10 x11 x12 : Option D} (h : Q d M) : dVar 13 Xd (x0 :: x1 :: x2 :: x3 :: x4 :: x5 :: x6 :: x7 :: x8 :: x9 :: x10 :: x11 :: x12 :: some d :: s) M Q := h
theorem w_set14 {x0 x1 x2 x3 x4 x5 x6 x7 x8 x9 x10 x11 x12 x13 x14 : Option D} (h : te ex (x0 :: x1 :: x2 :: x3 :: x4 :: x5 :: x6 :: x7 :: x8 :: x9 :: x10 :: x11 :: x12 :: x13 :: x14 :: s) M fun d M1 => nx (x0 :: x1 :: x2 :: x3 :: x4 :: x5 :: x6 :: x7 :: x8 :: x9 :: x10 :: x11 :: x12 :: x13 :: some d :: s) M1) : sSet 14 te ⟨nx, rt, bk, ct, ex⟩ (x0 :: x1 :: x2 :: x3 :: x4 :: x5 :: x6 :: x7 :: x8 :: x9 :: x10 :: x11 :: x12 :: x13 :: x14 :: s) M := h
theorem w_gnm14 {x0 x1 x2 x3 x4 x5 x6 x7 x8 x9 x10 x11 x12 x13 x14 : Option D} {K : SD → Mem → Prop} (h : K (x0 :: x1 :: x2 :: x3 :: x4 :: x5 :: x6 :: x7 :: x8 :: x9 :: x10 :: x11 :: x12 :: x13 :: some d :: s) M) : gNm 14 d Xd (x0 :: x1 :: x2 :: x3 :: x4 :: x5 :: x6 :: x7 :: x8 :: x9 :: x10 :: x11 :: x12 :: x13 :: x14 :: s) M K := h
theorem w_var14 {x0 x1 x2 x3 x4 x5 x6 x7 x8 x9 x10 x11 x12 x13 : Option D} (h : Q d M) : dVar 14 Xd (x0 :: x1 :: x2 :: x3 :: x4 :: x5 :: x6 :: x7 :: x8 :: x9 :: x10 :: x11 :: x12 :: x13 :: some d :: s) M Q := h
theorem w_set15 {x0 x1 x2 x3 x4 x5 x6 x7 x8 x9 x10 x11 x12 x13 x14 x15 : Option D} (h : te ex (x0 :: x1 :: x2 :: x3 :: x4 :: x5 :: x6 :: x7 :: x8 :: x9 :: x10 :: x11 :: x12 :: x13 :: x14 :: x15 :: s) M fun d M1 => nx (x0 :: x1 :: x2 :: x3 :: x4 :: x5 :: x6 :: x7 :: x8 :: x9 :: x10 :: x11 :: x12 :: x13 :: x14 :: some d :: s) M1) : sSet 15 te ⟨nx, rt, bk, ct, ex⟩ (x0 :: x1 :: x2 :: x3 :: x4 :: x5 :: x6 :: x7 :: x8 :: x9 :: x10 :: x11 :: x12 :: x13 :: x14 :: x15 :: s) M := h
theorem w_gnm15 {x0 x1 x2 x3 x4 x5 x6 x7 x8 x9 x10 x11 x12 x13 x14 x15 : Option D} {K : SD → Mem → Prop} (h : K (x0 :: x1 :: x2 :: x3 :: x4 :: x5 :: x6 :: x7 :: x8 :: x9 :: x10 :: x11 :: x12 :: x13 :: x14 :: some d :: s) M) : gNm 15 d Xd (x0 :: x1 :: x2 :: x3 :: x4 :: x5 :: x6 :: x7 :: x8 :: x9 :: x10 :: x11 :: x12 :: x13 :: x14 :: x15 :: s) M K := h
theorem w_var15 {x0 x1 x2 x3 x4 x5 x6 x7 x8 x9 x10 x11 x12 x13 x14 : Option D} (h : Q d M) : dVar 15 Xd (x0 :: x1 :: x2 :: x3 :: x4 :: x5 :: x6 :: x7 :: x8 :: x9 :: x10 :: x11 :: x12 :: x13 :: x14 :: some d :: s) M Q := h
theorem w_set16 {x0 x1 x2 x3 x4 x5 x6 x7 x8 x9 x10 x11 x12 x13 x14 x15 x16 : Option D} (h : te ex (x0 :: x1 :: x2 :: x3 :: x4 :: x5 :: x6 :: x7 :: x8 :: x9 :: x10 :: x11 :: x12 :: x13 :: x14 :: x15 :: x16 :: s) M fun d M1 => nx (x0 :: x1 :: x2 :: x3 :: x4 :: x5 :: x6 :: x7 :: x8 :: x9 :: x10 :: x11 :: x12 :: x13 :: x14 :: x15 :: some d :: s) M1) : sSet 16 te ⟨nx, rt, bk, ct, ex⟩ (x0 :: x1 :: x2 :: x3 :: x4 :: x5 :: x6 :: x7 :: x8 :: x9 :: x10 :: x11 :: x12 :: x13 :: x14 :: x15 :: x16 :: s) M := h
theorem w_gnm16 {x0 x1 x2 x3 x4 x5 x6 x7 x8 x9 x10 x11 x12 x13 x14 x15 x16 : Option D} {K : SD → Mem → Prop} (h : K (x0 :: x1 :: x2 :: x3 :: x4 :: x5 :: x6 :: x7 :: x8 :: x9 :: x10 :: x11 :: x12 :: x13 :: x14 :: x15 :: some d :: s) M) : gNm 16 d Xd (x0 :: x1 :: x2 :: x3 :: x4 :: x5 :: x6 :: x7 :: x8 :: x9 :: x10 :: x11 :: x12 :: x13 :: x14 :: x15 :: x16 :: s) M K := h
theorem w_var16 {x0 x1 x2 x3 x4 x5 x6 x7 x8 x9 x10 x11 x12 x13 x14 x15 : Option D} (h : Q d M) : dVar 16 Xd (x0 :: x1 :: x2 :: x3 :: x4 :: x5 :: x6 :: x7 :: x8 :: x9 :: x10 :: x11 :: x12 :: x13 :: x14 :: x15 :: some d :: s) M Q := h
theorem w_set17 {x0 x1 x2 x3 x4 x5 x6 x7 x8 x9 x10 x11 x12 x13 x14 x15 x16 x17 : Option D} (h : te ex (x0 :: x1 :: x2 :: x3 :: x4 :: x5 :: x6 :: x7 :: x8 :: x9 :: x10 :: x11 :: x12 :: x13 :: x14 :: x15 :: x16 :: x17 :: s) M fun d M1 => nx (x0 :: x1 :: x2 :: x3 :: x4 :: x5 :: x6 :: x7 :: x8 :: x9 :: x10 :: x11 :: x12 :: x13 :: x14 :: x15 :: x16 :: some d :: s) M1) : sSet 17 te ⟨nx, rt, bk, ct, ex⟩ (x0 :: x1 :: x2 :: x3 :: x4 :: x5 :: x6 :: x7 :: x8 :: x9 :: x10 :: x11 :: x12 :: x13 :: x14 :: x15 :: x16 :: x17 :: s) M := h
theorem w_gnm17 {x0 x1 x2 x3 x4 x5 x6 x7 x8 x9 x10 x11 x12 x13 x14 x15 x16 x17 : Option D} {K : SD → Mem → Prop} (h : K (x0 :: x1 :: x2 :: x3 :: x4 :: x5 :: x6 :: x7 :: x8 :: x9 :: x10 :: x11 :: x12 :: x13 :: x14 :: x15 :: x16 :: some d :: s) M) : gNm 17 d Xd (x0 :: x1 :: x2 :: x3 :: x4 :: x5 :: x6 :: x7 :: x8 :: x9 :: x10 :: x11 :: x12 :: x13 :: x14 :: x15 :: x16 :: x17 :: s) M K := h
theorem w_var17 {x0 x1 x2 x3 x4 x5 x6 x7 x8 x9 x10 x11 x12 x13 x14 x15 x16 : Option D} (h : Q d M) : dVar 17 Xd (x0 :: x1 :: x2 :: x3 :: x4 :: x5 :: x6 :: x7 :: x8 :: x9 :: x10 :: x11 :: x12 :: x13 :: x14 :: x15 :: x16 :: some d :: s) M Q := h
theorem w_set18 {x0 x1 x2 x3 x4 x5 x6 x7 x8 x9 x10 x11 x12 x13 x14 x15 x16 x17 x18 : Option D} (h : te ex (x0 :: x1 :: x2 :: x3 :: x4 :: x5 :: x6 :: x7 :: x8 :: x9 :: x10 :: x11 :: x12 :: x13 :: x14 :: x15 :: x16 :: x17 :: x18 :: s) M fun d M1 => nx (x0 :: x1 :: x2 :: x3 :: x4 :: x5 :: x6 :: x7 :: x8 :: x9 :: x10 :: x11 :: x12 :: x13 :: x14 :: x15 :: x16 :: x17 :: some d :: s) M1) : sSet 18 te ⟨nx, rt, bk, ct, ex⟩ (x0 :: x1 :: x2 :: x3 :: x4 :: x5 :: x6 :: x7 :: x8 :: x9 :: x10 :: x11 :: x12 :: x13 :: x14 :: x15 :: x16 :: x17 :: x18 :: s) M := h
theorem w_gnm18 {x0 x1 x2 x3 x4 x5 x6 x7 x8 x9 x10 x11 x12 x13 x14 x15 x16 x17 x18 : Option D} {K : SD → Mem → Prop} (h : K (x0 :: x1 :: x2 :: x3 :: x4 :: x5 :: x6 :: x7 :: x8 :: x9 :: x10 :: x11 :: x12 :: x13 :: x14 :: x15 :: x16 :: x17 :: some d :: s) M) : gNm 18 d Xd (x0 :: x1 :: x2 :: x3 :: x4 :: x5 :: x6 :: x7 :: x8 :: x9 :: x10 :: x11 :: x12 :: x13 :: x14 :: x15 :: x16 :: x17 :: x18 :: s) M K := h
theorem w_var18 {x0 x1 x2 x3 x4 x5 x6 x7 x8 x9 x10 x11 x12 x13 x14 x15 x16 x17 : Option D} (h : Q d M) : dVar 18 Xd (x0 :: x1 :: x2 :: x3 :: x4 :: x5 :: x6 :: x7 :: x8 :: x9 :: x10 :: x11 :: x12 :: x13 :: x14 :: x15 :: x16 :: x17 :: some d :: s) M Q := h
theorem w_set19 {x0 x1 x2 x3 x4 x5 x6 x7 x8 x9 x10 x11 x12 x13 x14 x15 x16 x17 x18 x19 : Option D} (h : te ex (x0 :: x1 :: x2 :: x3 :: x4 :: x5 :: x6 :: x7 :: x8 :: x9 :: x10 :: x11 :: x12 :: x13 :: x14 :: x15 :: x16 :: x17 :: x18 :: x19 :: s) M fun d M1 => nx (x0 :: x1 :: x2 :: x3 :: x4 :: x5 :: x6 :: x7 :: x8 :: x9 :: x10 :: x11 :: x12 :: x13 :: x14 :: x15 :: x16 :: x17 :: x18 :: some d :: s) M1) : sSet 19 te ⟨nx, rt, bk, ct, ex⟩ (x0 :: x1 :: x2 :: x3 :: x4 :: x5 :: x6 :: x7 :: x8 :: x9 :: x10 :: x11 :: x12 :: x13 :: x14 :: x15 :: x16 :: x17 :: x18 :: x19 :: s) M := h
theorem w_gnm19 {x0 x1 x2 x3 x4 x5 x6 x7 x8 x9 x10 x11 x12 x13 x14 x15 x16 x17 x18 x19 : Option D} {K : SD → Mem → Prop} (h : K (x0 :: x1 :: x2 :: x3 :: x4 :: x5 :: x6 :: x7 :: x8 :: x9 :: x10 :: x11 :: x12 :: x13 :: x14 :: x15 :: x16 :: x17 :: x18 :: some d :: s) M) : gNm 19 d Xd (x0 :: x1 :: x2 :: x3 :: x4 :: x5 :: x6 :: x7 :: x8 :: x9 :: x10 :: x11 :: x12 :: x13 :: x14 :: x15 :: x16 :: x17 :: x18 :: x19 :: s) M K := h
theorem w_var19 {x0 x1 x2 x3 x4 x5 x6 x7 x8 x9 x10 x11 x12 x13 x14 x15 x16 x17 x18 : Option D} (h : Q d M) : dVar 19 Xd (x0 :: x1 :: x2 :: x3 :: x4 :: x5 :: x6 :: x7 :: x8 :: x9 :: x10 :: x11 :: x12 :: x13 :: x14 :: x15 :: x16 :: x17 :: x18 :: some d :: s) M Q := h
theorem w_set20 {x0 x1 x2 x3 x4 x5 x6 x7 x8 x9 x10 x11 x12 x13 x14 x15 x16 x17 x18 x19 x20 : Option D} (h : te ex (x0 :: x1 :: x2 :: x3 :: x4 :: x5 :: x6 :: x7 :: x8 :: x9 :: x10 :: x11 :: x12 :: x13 :: x14 :: x15 :: x16 :: x17 :: x18 :: x19 :: x20 :: s) M fun d M1 => nx (x0 :: x1 :: x2 :: x3 :: x4 :: x5 :: x6 :: x7 :: x8 :: x9 :: x10 :: x11 :: x12 :: x13 :: x14 :: x15 :: x16 :: x17 :: x18 :: x19 :: some d :: s) M1) : sSet 20 te ⟨nx, rt, bk, ct, ex⟩ (x0 :: x1 :: x2 :: x3 :: x4 :: x5 :: x6 :: x7 :: x8 :: x9 :: x10 :: x11 :: x12 :: x13 :: x14 :: x15 :: x16 :: x17 :: x18 :: x19 :: x20 :: s) M := h
theorem w_gnm20 {x0 x1 x2 x3 x4 x5 x6 x7 x8 x9 x10 x11 x12 x13 x14 x15 x16 x17 x18 x19 x20 : Option D} {K : SD → Mem → Prop} (h : K (x0 :: x1 :: x2 :: x3 :: x4 :: x5 :: x6 :: x7 :: x8 :: x9 :: x10 :: x11 :: x12 :: x13 :: x14 :: x15 :: x16 :: x17 :: x18 :: x19 :: some d :: s) M) : gNm 20 d Xd (x0 :: x1 :: x2 :: x3 :: x4 :: x5 :: x6 :: x7 :: x8 :: x9 :: x10 :: x11 :: x12 :: x13 :: x14 :: x15 :: x16 :: x17 :: x18 :: x19 :: x20 :: s) M K := h
theorem w_var20 {x0 x1 x2 x3 x4 x5 x6 x7 x8 x9 x10 x11 x12 x13 x14 x15 x16 x17 x18 x19 : Option D} (h : Q d M) : dVar 20 Xd (x0 :: x1 :: x2 :: x3 :: x4 :: x5 :: x6 :: x7 :: x8 :: x9 :: x10 :: x11 :: x12 :: x13 :: x14 :: x15 :: x16 :: x17 :: x18 :: x19 :: some d :: s) M Q := h
theorem w_set21 {x0 x1 x2 x3 x4 x5 x6 x7 x8 x9 x10 x11 x12 x13 x14 x15 x16 x17 x18 x19 x20 x21 : Option D} (h : te ex (x0 :: x1 :: x2 :: x3 :: x4 :: x5 :: x6 :: x7 :: x8 :: x9 :: x10 :: x11 :: x12 :: x13 :: x14 :: x15 :: x16 :: x17 :: x18 :: x19 :: x20 :: x21 :: s) M fun d M1 => nx (x0 :: x1 :: x2 :: x3 :: x4 :: x5 :: x6 :: x7 :: x8 :: x9 :: x10 :: x11 :: x12 :: x13 :: x14 :: x15 :: x16 :: x17 :: x18 :: x19 :: x20 :: some d :: s) M1) : sSet 21 te ⟨nx, rt, bk, ct, ex⟩ (x0 :: x1 :: x2 :: x3 :: x4 :: x5 :: x6 :: x7 :: x8 :: x9 :: x10 :: x11 :: x12 :: x13 :: x14 :: x15 :: x16 :: x17 :: x18 :: x19 :: x20 :: x21 :: s) M := h
theorem w_gnm21 {x0 x1 x2 x3 x4 x5 x6 x7 x8 x9 x10 x11 x12 x13 x14 x15 x16 x17 x18 x19 x20 x21 : Option D} {K : SD → Mem → Prop} (h : K (x0 :: x1 :: x2 :: x3 :: x4 :: x5 :: x6 :: x7 :: x8 :: x9 :: x10 :: x11 :: x12 :: x13 :: x14 :: x15 :: x16 :: x17 :: x18 :: x19 :: x20 :: some d :: s) M) : gNm 21 d Xd (x0 :: x1 :: x2 :: x3 :: x4 :: x5 :: x6 :: x7 :: x8 :: x9 :: x10 :: x11 :: x12 :: x13 :: x14 :: x15 :: x16 :: x17 :: x18 :: x19 :: x20 :: x21 :: s) M K := h
theorem w_var21 {x0 x1 x2 x3 x4 x5 x6 x7 x8 x9 x10 x11 x12 x13 x14 x15 x16 x17 x18 x19 x20 : Option D} (h : Q d M) : dVar 21 Xd (x0 :: x1 :: x2 :: x3 :: x4 :: x5 :: x6 :: x7 :: x8 :: x9 :: x10 :: x11 :: x12 :: x13 :: x14 :: x15 :: x16 :: x17 :: x18 :: x19 :: x20 :: some d :: s) M Q := h
theorem w_set22 {x0 x1 x2 x3 x4 x5 x6 x7 x8 x9 x10 x11 x12 x13 x14 x15 x16 x17 x18 x19 x20 x21 x22 : Option D} (h : te ex (x0 :: x1 :: x2 :: x3 :: x4 :: x5 :: x6 :: x7 :: x8 :: x9 :: x10 :: x11 :: x12 :: x13 :: x14 :: x15 :: x16 :: x17 :: x18 :: x19 :: x20 :: x21 :: x22 :: s) M fun d M1 => nx (x0 :: x1 :: x2 :: x3 :: x4 :: x5 :: x6 :: x7 :: x8 :: x9 :: x10 :: x11 :: x12 :: x13 :: x14 :: x15 :: x16 :: x17 :: x18 :: x19 :: x20 :: x21 :: some d :: s) M1) : sSet 22 te ⟨nx, rt, bk, ct, ex⟩ (x0 :: x1 :: x2 :: x3 :: x4 :: x5 :: x6 :: x7 :: x8 :: x9 :: x10 :: x11 :: x12 :: x13 :: x14 :: x15 :: x16 :: x17 :: x18 :: x19 :: x20 :: x21 :: x22 :: s) M := h
theorem w_gnm22 {x0 x1 x2 x3 x4 x5 x6 x7 x8 x9 x10 x11 x12 x13 x14 x15 x16 x17 x18 x19 x20 x21 x22 : Option D} {K : SD → Mem → Prop} (h : K (x0 :: x1 :: x2 :: x3 :: x4 :: x5 :: x6 :: x7 :: x8 :: x9 :: x10 :: x11 :: x12 :: x13 :: x14 :: x15 :: x16 :: x17 :: x18 :: x19 :: x20 :: x21 :: some d :: s) M) : gNm 22 d Xd (x0 :: x1 :: x2 :: x3 :: x4 :: x5 :: x6 :: x7 :: x8 :: x9 :: x10 :: x11 :: x12 :: x13 :: x14 :: x15 :: x16 :: x17 :: x18 :: x19 :: x20 :: x21 :: x22 :: s) M K := h
theorem w_var22 {x0 x1 x2 x3 x4 x5 x6 x7 x8 x9 x10 x11 x12 x13 x14 x15 x16 x17 x18 x19 x20 x21 : Option D} (h : Q d M) : dVar 22 Xd (x0 :: x1 :: x2 :: x3 :: x4 :: x5 :: x6 :: x7 :: x8 :: x9 :: x10 :: x11 :: x12 :: x13 :: x14 :: x15 :: x16 :: x17 :: x18 :: x19 :: x20 :: x21 :: some d :: s) M Q := h
theorem w_set23 {x0 x1 x2 x3 x4 x5 x6 x7 x8 x9 x10 x11 x12 x13 x14 x15 x16 x17 x18 x19 x20 x21 x22 x23 : Option D} (h : te ex (x0 :: x1 :: x2 :: x3 :: x4 :: x5 :: x6 :: x7 :: x8 :: x9 :: x10 :: x11 :: x12 :: x13 :: x14 :: x15 :: x16 :: x17 :: x18 :: x19 :: x20 :: x21 :: x22 :: x23 :: s) M fun d M1 => nx (x0 :: x1 :: x2 :: x3 :: x4 :: x5 :: x6 :: x7 :: x8 :: x9 :: x10 :: x11 :: x12 :: x13 :: x14 :: x15 :: x16 :: x17 :: x18 :: x19 :: x20 :: x21 :: x22 :: some d :: s) M1) : sSet 23 te ⟨nx, rt, bk, ct, ex⟩ (x0 :: x1 :: x2 :: x3 :: x4 :: x5 :: x6 :: x7 :: x8 :: x9 :: x10 :: x11 :: x12 :: x13 :: x14 :: x15 :: x16 :: x17 :: x18 :: x19 :: x20 :: x21 :: x22 :: x23 :: s) M := h
theorem w_gnm23 {x0 x1 x2 x3 x4 x5 x6 x7 x8 x9 x10 x11 x12 x13 x14 x15 x16 x17 x18 x19 x20 x21 x22 x23 : Option D} {K : SD → Mem → Prop} (h : K (x0 :: x1 :: x2 :: x3 :: x4 :: x5 :: x6 :: x7 :: x8 :: x9 :: x10 :: x11 :: x12 :: x13 :: x14 :: x15 :: x16 :: x17 :: x18 :: x19 :: x20 :: x21 :: x22 :: some d :: s) M) : gNm 23 d Xd (x0 :: x1 :: x2 :: x3 :: x4 :: x5 :: x6 :: x7 :: x8 :: x9 :: x10 :: x11 :: x12 :: x13 :: x14 :: x15 :: x16 :: x17 :: x18 :: x19 :: x20 :: x21 :: x22 :: x23 :: s) M K := h
theorem w_var23 {x0 x1 x2 x3 x4 x5 x6 x7 x8 x9 x10 x11 x12 x13 x14 x15 x16 x17 x18 x19 x20 x21 x22 : Option D} (h : Q d M) : dVar 23 Xd (x0 :: x1 :: x2 :: x3 :: x4 :: x5 :: x6 :: x7 :: x8 :: x9 :: x10 :: x11 :: x12 :: x13 :: x14 :: x15 :: x16 :: x17 :: x18 :: x19 :: x20 :: x21 :: x22 :: some d :: s) M Q := h
theorem w_set24 {x0 x1 x2 x3 x4 x5 x6 x7 x8 x9 x10 x11 x12 x13 x14 x15 x16 x17 x18 x19 x20 x21 x22 x23 x24 : Option D} (h : te ex (x0 :: x1 :: x2 :: x3 :: x4 :: x5 :: x6 :: x7 :: x8 :: x9 :: x10 :: x11 :: x12 :: x13 :: x14 :: x15 :: x16 :: x17 :: x18 :: x19 :: x20 :: x21 :: x22 :: x23 :: x24 :: s) M fun d M1 => nx (x0 :: x1 :: x2 :: x3 :: x4 :: x5 :: x6 :: x7 :: x8 :: x9 :: x10 :: x11 :: x12 :: x13 :: x14 :: x15 :: x16 :: x17 :: x18 :: x19 :: x20 :: x21 :: x22 :: x23 :: some d :: s) M1) : sSet 24 te ⟨nx, rt, bk, ct, ex⟩ (x0 :: x1 :: x2 :: x3 :: x4 :: x5 :: x6 :: x7 :: x8 :: x9 :: x10 :: x11 :: x12 :: x13 :: x14 :: x15 :: x16 :: x17 :: x18 :: x19 :: x20 :: x21 :: x22 :: x23 :: x24 :: s) M := h
theorem w_gnm24 {x0 x1 x2 x3 x4 x5 x6 x7 x8 x9 x10 x11 x12 x13 x14 x15 x16 x17 x18 x19 x20 x21 x22 x23 x24 : Option D} {K : SD → Mem → Prop} (h : K (x0 :: x1 :: x2 :: x3 :: x4 :: x5 :: x6 :: x7 :: x8 :: x9 :: x10 :: x11 :: x12 :: x13 :: x14 :: x15 :: x16 :: x17 :: x18 :: x19 :: x20 :: x21 :: x22 :: x23 :: some d :: s) M) : gNm 24 d Xd (x0 :: x1 :: x2 :: x3 :: x4 :: x5 :: x6 :: x7 :: x8 :: x9 :: x10 :: x11 :: x12 :: x13 :: x14 :: x15 :: x16 :: x17 :: x18 :: x19 :: x20 :: x21 :: x22 :: x23 :: x24 :: s) M K := h
theorem w_var24 {x0 x1 x2 x3 x4 x5 x6 x7 x8 x9 x10 x11 x12 x13 x14 x15 x16 x17 x18 x19 x20 x21 x22 x23 : Option D} (h : Q d M) : dVar 24 Xd (x0 :: x1 :: x2 :: x3 :: x4 :: x5 :: x6 :: x7 :: x8 :: x9 :: x10 :: x11 :: x12 :: x13 :: x14 :: x15 :: x16 :: x17 :: x18 :: x19 :: x20 :: x21 :: x22 :: x23 :: some d :: s) M Q := h
theorem w_set25 {x0 x1 x2 x3 x4 x5 x6 x7 x8 x9 x10 x11 x12 x13 x14 x15 x16 x17 x18 x19 x20 x21 x22 x23 x24 x25 : Option D} (h : te ex (x0 :: x1 :: x2 :: x3 :: x4 :: x5 :: x6 :: x7 :: x8 :: x9 :: x10 :: x11 :: x12 :: x13 :: x14 :: x15 :: x16 :: x17 :: x18 :: x19 :: x20 :: x21 :: x22 :: x23 :: x24 :: x25 :: s) M fun d M1 => nx (x0 :: x1 :: x2 :: x3 :: x4 :: x5 :: x6 :: x7 :: x8 :: x9 :: x10 :: x11 :: x12 :: x13 :: x14 :: x15 :: x16 :: x17 :: x18 :: x19 :: x20 :: x21 :: x22 :: x23 :: x24 :: some d :: s) M1) : sSet 25 te ⟨nx, rt, bk, ct, ex⟩ (x0 :: x1 :: x2 :: x3 :: x4 :: x5 :: x6 :: x7 :: x8 :: x9 :: x10 :: x11 :: x12 :: x13 :: x14 :: x15 :: x16 :: x17 :: x18 :: x19 :: x20 :: x21 :: x22 :: x23 :: x24 :: x25 :: s) M := h
theorem w_gnm25 {x0 x1 x2 x3 x4 x5 x6 x7 x8 x9 x10 x11 x12 x13 x14 x15 x16 x17 x18 x19 x20 x21 x22 x23 x24 x25 : Option D} {K : SD → Mem → Prop} (h : K (x0 :: x1 :: x2 :: x3 :: x4 :: x5 :: x6 :: x7 :: x8 :: x9 :: x10 :: x11 :: x12 :: x13 :: x14 :: x15 :: x16 :: x17 :: x18 :: x19 :: x20 :: x21 :: x22 :: x23 :: x24 :: some d :: s) M) : gNm 25 d Xd (x0 :: x1 :: x2 :: x3 :: x4 :: x5 :: x6 :: x7 :: x8 :: x9 :: x10 :: x11 :: x12 :: x13 :: x14 :: x15 :: x16 :: x17 :: x18 :: x19 :: x20 :: x21 :: x22 :: x23 :: x24 :: x25 :: s) M K := h
theorem w_var25 {x0 x1 x2 x3 x4 x5 x6 x7 x8 x9 x10 x11 x12 x13 x14 x15 x16 x17 x18 x19 x20 x21 x22 x23 x24 : Option D} (h : Q d M) : dVar 25 Xd (x0 :: x1 :: x2 :: x3 :: x4 :: x5 :: x6 :: x7 :: x8 :: x9 :: x10 :: x11 :: x12 :: x13 :: x14 :: x15 :: x16 :: x17 :: x18 :: x19 :: x20 :: x21 :: x22 :: x23 :: x24 :: some d :: s) M Q := h

/-! ### targets -/
variable {K : SD → Mem → Prop} {g : TGD} {G : TGsD}
theorem w_gTp {n} (hl : ds.length = n) (h : G ds Xd s M K) : gTp n G (.tup ds) Xd s M K := ⟨hl, h⟩
theorem w_gCo (h : g d Xd s M fun s' M' => G ds Xd s' M' K) : gCo g G (d :: ds) Xd s M K := h
theorem w_gNi (h : K s M) : gNi [] Xd s M K := h
theorem w_gSb (h : to Xd s M fun o M1 => ti Xd s M1 fun i M2 => setK o i d (fun M3 => K s M3) M2) : gSb to ti d Xd s M K := h
theorem w_setL {j : Nat} {z : Int} {k : Mem → Prop} (hM : M a = some (.lst ds)) (hj : ixN ds.length z = some j) (h : k (M.put a (.lst (ds.set j d)))) : setK (.ref a) (.int z) d k M := by
  unfold setK; simp only [hM, hj]; exact h
theorem w_setD {ks : List Key} {kk : Str} {k : Mem → Prop} (hM : M a = some (.dct ks ds)) (hn : ks.Nodup ∧ ks.length < 1000) (h : k (M.put a (.dct (putD ks ds (.inr kk) d).1 (putD ks ds (.inr kk) d).2))) : setK (.ref a) (.str kk) d k M := by
  unfold setK; simp only [hM, keyD]; exact ⟨hn, h⟩

/-! ### expressions -/
theorem w_c (h : Q d M) : dC d Xd s M Q := h
theorem w_op {o : O2} (h : ta Xd s M fun x M1 => tb Xd s M1 fun y M2 => o x y M2 Q) : dOp o ta tb Xd s M Q := h
theorem w_nil (h : L [] M) : dNil Xd s M L := h
theorem w_cons (h : te Xd s M fun d M1 => A Xd s M1 fun ds M2 => L (d :: ds) M2) : dCons te A Xd s M L := h
theorem w_tup (h : A Xd s M fun ds M1 => Q (.tup ds) M1) : dTup A Xd s M Q := h
theorem w_lst (h : A Xd s M fun ds M1 => Q (.lst ds) M1) : dLst A Xd s M Q := h
theorem w_lstO (h : A Xd s M fun ds M1 => ∀ p, M1 p = none → Q (.ref p) (M1.put p (.lst ds))) : dLstO A Xd s M Q := h
theorem w_cb {o : OC} (h : A Xd s M fun ds M1 => o ds M1 Q) : dCB o A Xd s M Q := h
theorem w_call {sp : SpD} (h : A Xd s M fun ds M1 => sp ds M1 Q Xd) : dCall sp [] A Xd s M Q := by
  unfold dCall
  have e : (fun ds M1 => sp (ds ++ []) M1 Q Xd) = fun ds M1 => sp ds M1 Q Xd := by funext ds M1; rw [List.append_nil]
  rw [e]; exact h
theorem w_ite (h : c Xd s M fun b M1 => if b = true then ta Xd s M1 Q else tb Xd s M1 Q) : dIte c ta tb Xd s M Q := h
theorem w_and (h : ta Xd s M (andK tb Xd s Q)) : dAnd ta tb Xd s M Q := h
theorem w_or (h : ta Xd s M (orK tb Xd s Q)) : dOr ta tb Xd s M Q := h
theorem w_not (h : ta Xd s M (notK Q)) : dNot ta Xd s M Q := h
theorem w_andT (h : tb Xd s M Q) : andK tb Xd s Q (.bl true) M := h
theorem w_andF (h : Q (.bl false) M) : andK tb Xd s Q (.bl false) M := h
theorem w_orT (h : Q (.bl true) M) : orK tb Xd s Q (.bl true) M := h
theorem w_orF (h : tb Xd s M Q) : orK tb Xd s Q (.bl false) M := h
theorem w_andB {b : Bool} (h : if b = true then tb Xd s M Q else Q (.bl false) M) : andK tb Xd s Q (.bl b) M := h
theorem w_orB {b : Bool} (h : if b = true then Q (.bl true) M else tb Xd s M Q) : orK tb Xd s Q (.bl b) M := h
theorem w_notB {b : Bool} (h : Q (.bl (!b)) M) : notK Q (.bl b) M := h
theorem w_neg (h : te Xd s M (unK (fun i => -i) Q)) : dNeg te Xd s M Q := h
theorem w_un {f : Int → Int} {i : Int} (h : Q (.int (f i)) M) : unK f Q (.int i) M := h
theorem w_tst (h : te Xd s M (tstB R)) : dTst te Xd s M R := h
theorem w_tstB {b : Bool} (h : R b M) : tstB R (.bl b) M := h
theorem w_tru (h : te Xd s M (truK R)) : dTru te Xd s M R := h
theorem w_truB {b : Bool} (h : R b M) : truK R (.bl b) M := h
theorem w_tAnd (h : c Xd s M fun b M1 => if b = true then d1 Xd s M1 R else R false M1) : tAndD c d1 Xd s M R := h
theorem w_tOr (h : c Xd s M fun b M1 => if b = true then R true M1 else d1 Xd s M1 R) : tOrD c d1 Xd s M R := h
theorem w_tNot (h : c Xd s M fun b M1 => R (!b) M1) : tNotD c Xd s M R := h
theorem w_chain {o o' : O2} (h : ta Xd s M fun x M1 => tb Xd s M1 fun y M2 => o x y M2 (chK o' y tc Xd s Q)) : dChain o o' ta tb tc Xd s M Q := h
theorem w_chT {o' : O2} (h : tc Xd s M fun z M1 => o' y z M1 Q) : chK o' y tc Xd s Q (.bl true) M := h
theorem w_chF {o' : O2} (h : Q (.bl false) M) : chK o' y tc Xd s Q (.bl false) M := h
theorem w_ifT {P U : Prop} (h : P) : if true = true then P else U := by rw [if_pos rfl]; exact h
theorem w_ifF {P U : Prop} (h : U) : if false = true then P else U := by rw [if_neg Bool.false_ne_true]; exact h
theorem w_ifnT {P U : Prop} (h : U) : if (!true) = true then P else U := w_ifF h
theorem w_ifnF {P U : Prop} (h : P) : if (!false) = true then P else U := w_ifT h
theorem w_ifdT {φ : Prop} [Decidable φ] {P U : Prop} (hφ : φ) (h : P) : if decide φ = true then P else U := by rw [if_pos (decide_eq_true hφ)]; exact h
theorem w_ifdF {φ : Prop} [Decidable φ] {P U : Prop} (hφ : ¬ φ) (h : U) : if decide φ = true then P else U := by rw [if_neg (fun z => hφ (of_decide_eq_true z))]; exact h
theorem w_ifd {φ : Prop} [Decidable φ] {P U : Prop} (h1 : φ → P) (h2 : ¬ φ → U) : if decide φ = true then P else U := by
  by_cases z : φ
  · exact w_ifdT z (h1 z)
  · exact w_ifdF z (h2 z)

theorem w_ifnd {φ : Prop} [Decidable φ] {P U : Prop} (h1 : ¬ φ → P) (h2 : φ → U) : if (!decide φ) = true then P else U := by
  by_cases z : φ
  · rw [decide_eq_true z]; exact w_ifF (h2 z)
  · rw [decide_eq_false z]; exact w_ifT (h1 z)
theorem w_ifb {b : Bool} {P U : Prop} (h1 : b = true → P) (h2 : b = false → U) : if b = true then P else U := by
  cases b
  · exact w_ifF (h2 rfl)
  · exact w_ifT (h1 rfl)

/-! ### operators -/
variable {i j : Int} {b b2 : Bool} {k : Str}
theorem w_addI (h : Q (.int (i + j)) M) : addD (.int i) (.int j) M Q := h
theorem w_addL (hl : ds.length + es.length ≤ sizeLine) (h : Q (.lst (ds ++ es)) M) : addD (.lst ds) (.lst es) M Q := ⟨hl, h⟩
theorem w_addT (hl : ds.length + es.length ≤ sizeLine) (h : Q (.tup (ds ++ es)) M) : addD (.tup ds) (.tup es) M Q := ⟨hl, h⟩
theorem w_subI (h : Q (.int (i - j)) M) : subD (.int i) (.int j) M Q := h
theorem w_mulI (hw : CMulW i j) (h : Q (.int (i * j)) M) : mulD (.int i) (.int j) M Q := ⟨hw, h⟩
theorem w_fdivI (hw : CDivW i j) (h : Q (.int (i / j)) M) : fdivD (.int i) (.int j) M Q := ⟨hw, h⟩
theorem w_modI (hw : 0 < j) (h : Q (.int (i % j)) M) : modD (.int i) (.int j) M Q := ⟨hw, h⟩
theorem w_powI (hw : CPow i j) (h : Q (.int (i ^ j.toNat)) M) : powD (.int i) (.int j) M Q := ⟨hw, h⟩
theorem w_lt (h : Q (.bl (decide (i < j))) M) : ltD (.int i) (.int j) M Q := h
theorem w_le (h : Q (.bl (decide (i ≤ j))) M) : leD (.int i) (.int j) M Q := h
theorem w_gt (h : Q (.bl (decide (j < i))) M) : gtD (.int i) (.int j) M Q := h
theorem w_ge (h : Q (.bl (decide (j ≤ i))) M) : geD (.int i) (.int j) M Q := h
theorem w_isN (h : Q (.bl (isN x)) M) : isD x .non M Q := ⟨rfl, h⟩
theorem w_isnN (h : Q (.bl (!isN x)) M) : isNotD x .non M Q := ⟨rfl, h⟩
theorem eq_ints : eqO (.int i) (.int j) = some (decide (i = j)) := by
  show (if SeqAt.shaped (.int i) = true ∧ SeqAt.shaped (.int j) = true then some (PyData.eqv (.int i) (.int j)) else none) = _
  rw [if_pos ⟨rfl, rfl⟩]
  rfl
theorem sh_str {k : Str} (h : PyData.strOk k = true) : SeqAt.shaped (.str k) = true := by
  unfold SeqAt.shaped; rw [show PyData.canLay0 (.str k) = PyData.strOk k from rfl, h]; rfl
theorem eq_strs {k l : Str} (h1 : PyData.strOk k = true) (h2 : PyData.strOk l = true) : eqO (.str k) (.str l) = some (decide (k = l)) := by
  show (if SeqAt.shaped (.str k) = true ∧ SeqAt.shaped (.str l) = true then some (PyData.eqv (.str k) (.str l)) else none) = _
  rw [if_pos ⟨sh_str h1, sh_str h2⟩]
  rfl
theorem w_eqI (h : Q (.bl (decide (i = j))) M) : eqD (.int i) (.int j) M Q := by
  unfold eqD; simp only [vw, eq_ints]; exact h
theorem w_neI (h : Q (.bl (!decide (i = j))) M) : neD (.int i) (.int j) M Q := by
  unfold neD; simp only [vw, eq_ints]; exact h
theorem w_eqS {k l : Str} (h1 : PyData.strOk k = true) (h2 : PyData.strOk l = true) (h : Q (.bl (decide (k = l))) M) : eqD (.str k) (.str l) M Q := by
  unfold eqD; simp only [vw, eq_strs h1 h2]; exact h
theorem w_neS {k l : Str} (h1 : PyData.strOk k = true) (h2 : PyData.strOk l = true) (h : Q (.bl (!decide (k = l))) M) : neD (.str k) (.str l) M Q := by
  unfold neD; simp only [vw, eq_strs h1 h2]; exact h
theorem w_eqO {x y : D} {b : Bool} (e : eqO (vw M x) (vw M y) = some b) (h : Q (.bl b) M) : eqD x y M Q := by
  unfold eqD; rw [e]; exact h
theorem w_neO {x y : D} {b : Bool} (e : eqO (vw M x) (vw M y) = some b) (h : Q (.bl (!b)) M) : neD x y M Q := by
  unfold neD; rw [e]; exact h
/-! ### subscripts -/
theorem w_ixL (e : atI ds i = some d) (h : Q d M) : ixD (.lst ds) (.int i) M Q := by
  unfold ixD; simp only [ixO, vw, e]; exact h
theorem w_ixT (e : atI ds i = some d) (h : Q d M) : ixD (.tup ds) (.int i) M Q := by
  unfold ixD; simp only [ixO, vw, e]; exact h
theorem w_ixRL (hM : M a = some (.lst ds)) (e : atI ds i = some d) (h : Q d M) : ixD (.ref a) (.int i) M Q := by
  unfold ixD; simp only [ixO, vw, vwO, hM, e]; exact h
theorem w_ixRD {ks : List Key} (hM : M a = some (.dct ks ds)) (e : valD ks ds (.inr k) = some d) (h : Q d M) : ixD (.ref a) (.str k) M Q := by
  unfold ixD; simp only [ixO, vw, vwO, hM, keyD, e]; exact h
theorem w_ixRDi {ks : List Key} (hM : M a = some (.dct ks ds)) (e : valD ks ds (.inl i) = some d) (h : Q d M) : ixD (.ref a) (.int i) M Q := by
  unfold ixD; simp only [ixO, vw, vwO, hM, keyD, e]; exact h

theorem w_ixT0 {x0 : D} (h : Q x0 M) : ixD (.tup (x0 :: ds)) (.int 0) M Q := w_ixT (by have z := atI_nat (xs := x0 :: ds) (j := 0) (v := x0) rfl; exact z) h
theorem w_ixL0 {x0 : D} (h : Q x0 M) : ixD (.lst (x0 :: ds)) (.int 0) M Q := w_ixL (by have z := atI_nat (xs := x0 :: ds) (j := 0) (v := x0) rfl; exact z) h
theorem w_ixT1 {x0 x1 : D} (h : Q x1 M) : ixD (.tup (x0 :: x1 :: ds)) (.int 1) M Q := w_ixT (by have z := atI_nat (xs := x0 :: x1 :: ds) (j := 1) (v := x1) rfl; exact z) h
theorem w_ixL1 {x0 x1 : D} (h : Q x1 M) : ixD (.lst (x0 :: x1 :: ds)) (.int 1) M Q := w_ixL (by have z := atI_nat (xs := x0 :: x1 :: ds) (j := 1) (v := x1) rfl; exact z) h
theorem w_ixT2 {x0 x1 x2 : D} (h : Q x2 M) : ixD (.tup (x0 :: x1 :: x2 :: ds)) (.int 2) M Q := w_ixT (by have z := atI_nat (xs := x0 :: x1 :: x2 :: ds) (j := 2) (v := x2) rfl; exact z) h
theorem w_ixL2 {x0 x1 x2 : D} (h : Q x2 M) : ixD (.lst (x0 :: x1 :: x2 :: ds)) (.int 2) M Q := w_ixL (by have z := atI_nat (xs := x0 :: x1 :: x2 :: ds) (j := 2) (v := x2) rfl; exact z) h
theorem w_ixT3 {x0 x1 x2 x3 : D} (h : Q x3 M) : ixD (.tup (x0 :: x1 :: x2 :: x3 :: ds)) (.int 3) M Q := w_ixT (by have z := atI_nat (xs := x0 :: x1 :: x2 :: x3 :: ds) (j := 3) (v := x3) rfl; exact z) h
theorem w_ixL3 {x0 x1 x2 x3 : D} (h : Q x3 M) : ixD (.lst (x0 :: x1 :: x2 :: x3 :: ds)) (.int 3) M Q := w_ixL (by have z := atI_nat (xs := x0 :: x1 :: x2 :: x3 :: ds) (j := 3) (v := x3) rfl; exact z) h
theorem w_ixT4 {x0 x1 x2 x3 x4 : D} (h : Q x4 M) : ixD (.tup (x0 :: x1 :: x2 :: x3 :: x4 :: ds)) (.int 4) M Q := w_ixT (by have z := atI_nat (xs := x0 :: x1 :: x2 :: x3 :: x4 :: ds) (j := 4) (v := x4) rfl; exact z) h
theorem w_ixL4 {x0 x1 x2 x3 x4 : D} (h : Q x4 M) : ixD (.lst (x0 :: x1 :: x2 :: x3 :: x4 :: ds)) (.int 4) M Q := w_ixL (by have z := atI_nat (xs := x0 :: x1 :: x2 :: x3 :: x4 :: ds) (j := 4) (v := x4) rfl; exact z) h
theorem w_ixT5 {x0 x1 x2 x3 x4 x5 : D} (h : Q x5 M) : ixD (.tup (x0 :: x1 :: x2 :: x3 :: x4 :: x5 :: ds)) (.int 5) M Q := w_ixT (by have z := atI_nat (xs := x0 :: x1 :: x2 :: x3 :: x4 :: x5 :: ds) (j := 5) (v := x5) rfl; exact z) h
theorem w_ixL5 {x0 x1 x2 x3 x4 x5 : D} (h : Q x5 M) : ixD (.lst (x0 :: x1 :: x2 :: x3 :: x4 :: x5 :: ds)) (.int 5) M Q := w_ixL (by have z := atI_nat (xs := x0 :: x1 :: x2 :: x3 :: x4 :: x5 :: ds) (j := 5) (v := x5) rfl; exact z) h
theorem w_ixT6 {x0 x1 x2 x3 x4 x5 x6 : D} (h : Q x6 M) : ixD (.tup (x0 :: x1 :: x2 :: x3 :: x4 :: x5 :: x6 :: ds)) (.int 6) M Q := w_ixT (by have z := atI_nat (xs := x0 :: x1 :: x2 :: x3 :: x4 :: x5 :: x6 :: ds) (j := 6) (v := x6) rfl; exact z) h
theorem w_ixL6 {x0 x1 x2 x3 x4 x5 x6 : D} (h : Q x6 M) : ixD (.lst (x0 :: x1 :: x2 :: x3 :: x4 :: x5 :: x6 :: ds)) (.int 6) M Q := w_ixL (by have z := atI_nat (xs := x0 :: x1 :: x2 :: x3 :: x4 :: x5 :: x6 :: ds) (j := 6) (v := x6) rfl; exact z) h
theorem w_ixT7 {x0 x1 x2 x3 x4 x5 x6 x7 : D} (h : Q x7 M) : ixD (.tup (x0 :: x1 :: x2 :: x3 :: x4 :: x5 :: x6 :: x7 :: ds)) (.int 7) M Q := w_ixT (by have z := atI_nat (xs := x0 :: x1 :: x2 :: x3 :: x4 :: x5 :: x6 :: x7 :: ds) (j := 7) (v := x7) rfl; exact z) h
theorem w_ixL7 {x0 x1 x2 x3 x4 x5 x6 x7 : D} (h : Q x7 M) : ixD (.lst (x0 :: x1 :: x2 :: x3 :: x4 :: x5 :: x6 :: x7 :: ds)) (.int 7) M Q := w_ixL (by have z := atI_nat (xs := x0 :: x1 :: x2 :: x3 :: x4 :: x5 :: x6 :: x7 :: ds) (j := 7) (v := x7) rfl; exact z) h

/-! ### built-ins -/
theorem w_lenL (h : Q (.int ds.length) M) : lenC [.lst ds] M Q := h
theorem w_lenT (h : Q (.int ds.length) M) : lenC [.tup ds] M Q := h
theorem w_lenR (hM : M a = some (.lst ds)) (h : Q (.int ds.length) M) : lenC [.ref a] M Q := by
  unfold lenC; simp only [lenO, vw, vwO, hM]; exact h
theorem w_int (h : Q (.int i) M) : intC [.int i] M Q := h
theorem w_intB {b : Bool} (h : Q (.int (if b then 1 else 0)) M) : intC [.bl b] M Q := h
theorem w_abs (h : Q (.int (if i < 0 then -i else i)) M) : absC [.int i] M Q := h
theorem w_listL (h : Q (.lst ds) M) : listC [.lst ds] M Q := h
theorem w_listT (h : Q (.lst ds) M) : listC [.tup ds] M Q := h
theorem w_listR (hM : M a = some (.lst ds)) (h : Q (.lst ds) M) : listC [.ref a] M Q := by
  unfold listC; simp only [itemsO, vw, vwO, hM]; exact h
theorem w_tupL (h : Q (.tup ds) M) : tupleC [.lst ds] M Q := h
theorem w_tupT (h : Q (.tup ds) M) : tupleC [.tup ds] M Q := h
theorem w_tupR (hM : M a = some (.lst ds)) (h : Q (.tup ds) M) : tupleC [.ref a] M Q := by
  unfold tupleC; simp only [itemsO, vw, vwO, hM]; exact h
theorem w_listOL (h : ∀ p, M p = none → Q (.ref p) (M.put p (.lst ds))) : listCO [.lst ds] M Q := h
theorem w_listOT (h : ∀ p, M p = none → Q (.ref p) (M.put p (.lst ds))) : listCO [.tup ds] M Q := h
theorem w_listOR (hM : M a = some (.lst ds)) (h : ∀ p, M p = none → Q (.ref p) (M.put p (.lst ds))) : listCO [.ref a] M Q := by
  unfold listCO; simp only [itemsO, vw, vwO, hM]; exact h
theorem w_int2 {f : Int → Int → Int} (h : Q (.int (f i j)) M) : int2C f [.int i, .int j] M Q := h
theorem w_gcd (h : Q (.int ((Nat.gcd i.natAbs j.natAbs : Nat) : Int)) M) : gcdC [.int i, .int j] M Q := h
def appO (te : TED) (Xd : XD) (s : SD) (Q : QD) : QD := fun o M1 => match o with
  | .ref p => match M1 p with
    | some (.lst _) => te Xd s M1 fun d M2 => appK d Q p M2
    | _ => False
  | _ => False
theorem w_app (h : to Xd s M (appO te Xd s Q)) : dApp to te Xd s M Q := h
theorem w_appO (hM : M p = some (.lst ds)) (h : te Xd s M fun d M2 => appK d Q p M2) : appO te Xd s Q (.ref p) M := by
  unfold appO; simp only [hM]; exact h
def rvsO (Q : QD) : QD := fun o M1 => match o with
  | .ref p => match M1 p with
    | some (.lst ds) => Q .non (M1.put p (.lst ds.reverse))
    | _ => False
  | _ => False
theorem w_rvs (h : to Xd s M (rvsO Q)) : dRvs to Xd s M Q := h
theorem w_rvsO (hM : M p = some (.lst ds)) (h : Q .non (M.put p (.lst ds.reverse))) : rvsO Q (.ref p) M := by
  unfold rvsO; simp only [hM]; exact h
theorem w_augK {f : Int → Int → Int} {z u : Int} (hM : M p = some (.lst ds)) (e : atI ds z = some (.int u)) (h : te ex s M (fun y M1 => match y with
        | .int w => setK (.ref p) (.int z) (.int (f u w)) (fun M2 => nx s M2) M1
        | _ => False)) : augK f te ⟨nx, rt, bk, ct, ex⟩ s (.ref p) (.int z) M := by
  unfold augK; simp only [hM, e]; exact h
theorem w_appK (hM : M p = some (.lst ds)) (hl : ds.length < sizeLine) (h : Q .non (M.put p (.lst (ds ++ [d])))) : appK d Q p M := by
  unfold appK; rw [hM]; exact ⟨hl, h⟩
/-! ### walks -/
variable {I : List D → Option Addr → Mem → Prop}
theorem w_iSeq (h : te Xd s M (itemK I)) : iSeqD te Xd s M I := h
theorem w_itemT (h : I ds none M) : itemK I (.tup ds) M := h
theorem w_itemL (h : I ds none M) : itemK I (.lst ds) M := h
theorem w_itemR (hM : M a = some (.lst ds)) (h : I ds (some a) M) : itemK I (.ref a) M := by
  unfold itemK; simp only [hM]; exact h
theorem w_iRng (h : A Xd s M (rngK I)) : iRngD A Xd s M I := h
theorem w_rng1 (hj : -(2 ^ 62) ≤ j ∧ j < 2 ^ 62) (h : I (rngL 0 j.toNat) none M) : rngK I [.int j] M := ⟨hj, h⟩
theorem w_rng2 (hj : -(2 ^ 62) ≤ i ∧ i < 2 ^ 62 ∧ -(2 ^ 62) ≤ j ∧ j < 2 ^ 62) (h : I (rngL i (j - i).toNat) none M) : rngK I [.int i, .int j] M := ⟨hj, h⟩
theorem w_iEnm (h : dCons te dNil Xd s M fun ds M1 => ∃ d, ds = [d] ∧ itemK (fun ds ow M1 => I (enmFrom 0 ds) ow M1) d M1) : iEnmB te Xd s M I := h
theorem w_sg1 {J : D → Prop} (h : J d) : ∃ e, [d] = [e] ∧ J e := ⟨d, rfl, h⟩
theorem w_iRev {T : XD → SD → Mem → (Int → Int → Mem → Prop) → Prop} (h : T Xd s M fun i j M1 => (-(2 ^ 62) ≤ i ∧ i < 2 ^ 62 ∧ -(2 ^ 62) ≤ j ∧ j < 2 ^ 62) ∧ I (rngL i (j - i).toNat).reverse none M1) : iRevD T Xd s M I := h
theorem w_rg1 {F : Int → Int → Mem → Prop} (h : te Xd s M (rg1K F)) : rg1 te Xd s M F := h
theorem w_rg1K {F : Int → Int → Mem → Prop} (h : F 0 i M) : rg1K F (.int i) M := h
end
end DL
set_option maxHeartbeats 1000000
namespace DL
open PySem PySem.Spec PyProof.Rows L2
def parK (i j : Nat) (nx : SD → Mem → Prop) (s : SD) : List D → Mem → Prop := fun ds M1 => match ds with
  | [d, e] => nx ((s.set i (some d)).set j (some e)) M1
  | _ => False
theorem w_par {i j : Nat} {ta : TAD} {s : SD} {M : Mem} {nx bk ct : SD → Mem → Prop} {rt : QD} {ex : XD} (h : ta ex s M (parK i j nx s)) : sPar i j ta ⟨nx, rt, bk, ct, ex⟩ s M := h
theorem w_parK {i j : Nat} {d e : D} {s s' : SD} {M : Mem} {nx : SD → Mem → Prop} (hs : (s.set i (some d)).set j (some e) = s') (h : nx s' M) : parK i j nx s [d, e] M := by
  subst hs; exact h
theorem w_while {c : TTD} {t : TSD} {s : SD} {M : Mem} {nx bk ct : SD → Mem → Prop} {rt : QD} {ex : XD} (m : Nat) (h : sWhN c t ⟨nx, rt, bk, ct, ex⟩ m s M) : sWhile c t ⟨nx, rt, bk, ct, ex⟩ s M := ⟨m, h⟩
theorem w_whS {c : TTD} {t : TSD} {s : SD} {M : Mem} {nx bk ct : SD → Mem → Prop} {rt : QD} {ex : XD} {m : Nat} (h : c ex s M fun b M1 => if b = true then t ⟨sWhN c t ⟨nx, rt, bk, ct, ex⟩ m, rt, nx, sWhN c t ⟨nx, rt, bk, ct, ex⟩ m, ex⟩ s M1 else nx s M1) : sWhN c t ⟨nx, rt, bk, ct, ex⟩ (m + 1) s M := h
theorem w_dRev {te : TED} {Xd : XD} {s : SD} {M : Mem} {Q : QD} (h : te Xd s M (revK Q)) : dRev te Xd s M Q := h
theorem w_revK {ds : List D} {M : Mem} {Q : QD} (h : Q (.lst ds.reverse) M) : revK Q (.lst ds) M := h
theorem w_lstRg {t : XD → SD → Mem → (Int → Int → Mem → Prop) → Prop} {Xd : XD} {s : SD} {M : Mem} {Q : QD} (h : t Xd s M fun i j M1 => RgOk i j ∧ Q (.lst (rngL i (j - i).toNat)) M1) : dLstRg t Xd s M Q := h
theorem w_dctN {Xd : XD} {s : SD} {M : Mem} {Q : QD} (h : ∀ p, M p = none → Q (.ref p) (M.put p (.dct [] []))) : dDctN Xd s M Q := h
/-! ### a dict that grows by new numbers -/
def kI (j : Nat) : Key := .inl (j : Int)
theorem val_nat (V : Nat → D) : ∀ (L : List Nat) (j : Nat), j ∈ L → valD (L.map kI) (L.map V) (kI j) = some (V j)
  | [], j, h => by cases h
  | i :: L, j, h => by
    unfold valD
    rw [List.map_cons, List.map_cons, List.zip_cons_cons, List.find?_cons]
    by_cases e : i = j
    · subst e; simp
    · have ne : ¬ (kI i = kI j) := fun z => e (by have := Sum.inl.inj z; omega)
      have hd : decide (kI i = kI j) = false := decide_eq_false ne
      simp only [hd]
      have := val_nat V L j (by
        rcases List.mem_cons.mp h with z | z
        · exact absurd z.symm e
        · exact z)
      exact this
theorem put_nat (V : Nat → D) (k : Nat) : ∀ (L : List Nat), k ∉ L → putD (L.map kI) (L.map V) (kI k) (V k) = ((L ++ [k]).map kI, (L ++ [k]).map V)
  | [], _ => rfl
  | i :: L, h => by
    have ne : ¬ (kI i = kI k) := fun z => h (by have := Sum.inl.inj z; have e : i = k := by omega
                                                subst e; exact List.mem_cons_self)
    have ih := put_nat V k L (fun z => h (List.mem_cons_of_mem _ z))
    rw [List.map_cons, List.map_cons]
    unfold putD
    simp only [ne, if_false, ih]
    rfl
theorem nodup_nat : ∀ {L : List Nat}, L.Nodup → (L.map kI).Nodup
  | [], _ => List.nodup_nil
  | i :: L, h => by
    rw [List.nodup_cons] at h
    rw [List.map_cons, List.nodup_cons]
    refine ⟨fun z => ?_, nodup_nat h.2⟩
    obtain ⟨j, hj, e⟩ := List.mem_map.mp z
    have := Sum.inl.inj e
    have e : j = i := by omega
    subst e; exact h.1 hj
theorem w_setDi {a : Addr} {d : D} {L : List Nat} {V : Nat → D} {k : Nat} {K : Mem → Prop} {M : Mem} (hM : M a = some (.dct (L.map kI) (L.map V))) (hn : L.Nodup) (hl : L.length < 1000) (hk : k ∉ L) (hd : d = V k) (h : K (M.put a (.dct ((L ++ [k]).map kI) ((L ++ [k]).map V)))) : setK (.ref a) (.int (k : Int)) d K M := by
  unfold setK
  simp only [hM, keyD]
  refine ⟨⟨nodup_nat hn, by rw [List.length_map]; exact hl⟩, ?_⟩
  have := put_nat V k L hk
  unfold kI at this
  subst hd
  rw [show (Sum.inl (k : Int) : Key) = kI k from rfl]
  rw [show putD (L.map kI) (L.map V) (kI k) (V k) = ((L ++ [k]).map kI, (L ++ [k]).map V) from put_nat V k L hk]
  exact h
theorem w_joinS {t u : TSD} {s : SD} {M : Mem} {nx bk ct : SD → Mem → Prop} {rt : QD} {ex : XD} {P : SD → Mem → Prop} (hu : ∀ s1 M1, P s1 M1 → u ⟨nx, rt, bk, ct, ex⟩ s1 M1) (h : (∀ s1 M1, P s1 M1 → u ⟨nx, rt, bk, ct, ex⟩ s1 M1) → sSeq t u ⟨nx, rt, bk, ct, ex⟩ s M) : sSeq t u ⟨nx, rt, bk, ct, ex⟩ s M := h hu
theorem w_yes {Xd : XD} {s : SD} {M : Mem} {R : Bool → Mem → Prop} (h : R true M) : tYesD Xd s M R := h
/-- [e for x in ds if c], without a change of what is owned -/
theorem lc_filt {g : TGD} {tt : TTD} {te : TED} {s0 : SD} {W : Mem → Prop} {p : Addr} {Q : QD} {M0 : Mem} (hp : M0 p = none) (f : D → Option D) (hW : ∀ acc, W (M0.put p (.lst acc))) : ∀ (ds acc : List D), acc.length + ds.length ≤ sizeLine →
    (∀ d ∈ ds, ∀ (acc : List D) (K1 : QD) (K0 : Mem → Prop), (∀ r, f d = some r → K1 r (M0.put p (.lst acc))) → (f d = none → K0 (M0.put p (.lst acc))) → g d X0 s0 (M0.put p (.lst acc)) fun s' M' => tt X0 s' M' fun b M2 => if b = true then te X0 s' M2 K1 else K0 M2) →
    Q (.lst (acc ++ ds.filterMap f)) M0 → dLcL g tt te s0 W p Q ds (M0.put p (.lst acc))
  | [], acc, _, _, h => ⟨hW acc, by
      unfold endK
      rw [Mem.put_same]
      rw [Mem.del_put hp]
      simpa using h⟩
  | d :: ds, acc, hl, st, h => ⟨hW acc, st d List.mem_cons_self acc _ _ (fun r hr => by
      unfold accK
      rw [Mem.put_same]
      rw [List.length_cons] at hl
      refine ⟨by omega, ?_⟩
      rw [Mem.put_put]
      refine lc_filt hp f hW ds (acc ++ [r]) (by rw [List.length_append, List.length_singleton]; omega) (fun e he => st e (List.mem_cons_of_mem _ he)) ?_
      rw [List.filterMap_cons_some hr] at h
      rw [List.append_assoc]; exact h) (fun hn => by
      rw [List.length_cons] at hl
      refine lc_filt hp f hW ds acc (by omega) (fun e he => st e (List.mem_cons_of_mem _ he)) ?_
      rw [List.filterMap_cons_none hn] at h
      exact h)⟩
theorem lc_map {g : TGD} {te : TED} {s0 : SD} {W : Mem → Prop} {p : Addr} {Q : QD} {M0 : Mem} (hp : M0 p = none) (f : D → D) (hW : ∀ acc, W (M0.put p (.lst acc))) {ds : List D} (hl : ds.length ≤ sizeLine)
    (st : ∀ d ∈ ds, ∀ (acc : List D) (K1 : QD) , K1 (f d) (M0.put p (.lst acc)) → g d X0 s0 (M0.put p (.lst acc)) fun s' M' => te X0 s' M' K1)
    (h : Q (.lst (ds.map f)) M0) : dLcL g tYesD te s0 W p Q ds (M0.put p (.lst [])) := by
  refine lc_filt hp (fun d => some (f d)) hW ds [] (by simpa using hl) (fun d hd acc K1 K0 h1 h0 => ?_) ?_
  · have := st d hd acc K1 (h1 _ rfl)
    refine (?_ : g d X0 s0 (M0.put p (.lst acc)) fun s' M' => if true = true then te X0 s' M' K1 else K0 M')
    simp only [if_true]
    exact this
  · simpa using h
/-- .. whose list is owned then -/
theorem lc_mapO {g : TGD} {te : TED} {s0 : SD} {W : Mem → Prop} {p : Addr} {Q : QD} {M0 : Mem} (f : D → D) (hW : ∀ acc, W (M0.put p (.lst acc))) : ∀ {ds : List D} (acc : List D) (hl : acc.length + ds.length ≤ sizeLine)
    (st : ∀ d ∈ ds, ∀ (acc : List D) (K1 : QD) , K1 (f d) (M0.put p (.lst acc)) → g d X0 s0 (M0.put p (.lst acc)) fun s' M' => te X0 s' M' K1)
    (h : Q (.ref p) (M0.put p (.lst (acc ++ ds.map f)))), dLcLO g tYesD te s0 W p Q ds (M0.put p (.lst acc))
  | [], acc, _, _, h => ⟨hW acc, by
      unfold endKO
      rw [Mem.put_same]
      simpa using h⟩
  | d :: ds, acc, hl, st, h => ⟨hW acc, by
      have := st d List.mem_cons_self acc (fun r => accK p r (dLcLO g tYesD te s0 W p Q ds)) (by
        unfold accK
        rw [Mem.put_same]
        rw [List.length_cons] at hl
        refine ⟨by omega, ?_⟩
        rw [Mem.put_put]
        refine lc_mapO f hW (acc ++ [f d]) (by rw [List.length_append, List.length_singleton]; omega) (fun e he => st e (List.mem_cons_of_mem _ he)) ?_
        rw [List.append_assoc]; exact h)
      refine (?_ : g d X0 s0 (M0.put p (.lst acc)) fun s' M' => if true = true then te X0 s' M' (fun r => accK p r (dLcLO g tYesD te s0 W p Q ds)) else dLcLO g tYesD te s0 W p Q ds M')
      simp only [if_true]
      exact this⟩
end DL
set_option maxHeartbeats 1000000
namespace MH
open PySem PySem.Spec PyProof.Rows L2 DL

/-! ### things as trees -/
inductive Th where
  | raw (here : Bool) (lo hi : Int)
  | made (here : Bool) (lo hi share : Int) (up down : Bool) (parts : List Th)
  deriving Inhabited
def landS (b : Bool) : Str := if b then "here" else "away"
def upS (b : Bool) : Str := if b then "whole" else "own"
def dnS (b : Bool) : Str := if b then "own" else "none"
def landD (b : Bool) : D := .str (landS b)
def termD (share : Int) (up down : Bool) : D := .tup [.int share, .str (upS up), .str (dnS down)]
mutual
def Th.d : Th → D
  | .raw h lo hi => .tup [.str "raw", landD h, .int lo, .int hi]
  | .made h lo hi sh u w ps => .tup [.str "made", landD h, .int lo, .int hi, termD sh u w, .tup (Th.ds ps)]
def Th.ds : List Th → List D
  | [] => []
  | t :: ts => t.d :: Th.ds ts
end
theorem ds_map : ∀ ts : List Th, Th.ds ts = ts.map Th.d
  | [] => rfl
  | t :: ts => by rw [Th.ds, ds_map ts, List.map_cons]
mutual
def Th.sz : Th → Nat
  | .raw _ _ _ => 1
  | .made _ _ _ _ _ _ ps => 1 + Th.szs ps
def Th.szs : List Th → Nat
  | [] => 0
  | t :: ts => t.sz + Th.szs ts
end
mutual
/-- steps in it -/
def Th.st : Th → Nat
  | .raw _ _ _ => 0
  | .made _ _ _ _ _ _ ps => 1 + Th.sts ps
def Th.sts : List Th → Nat
  | [] => 0
  | t :: ts => t.st + Th.sts ts
end
def mv1 (lo hi : Int) : Nat := if lo < hi then 1 else 0
mutual
/-- how many move -/
def Th.mv : Th → Nat
  | .raw _ lo hi => mv1 lo hi
  | .made _ lo hi _ _ _ ps => mv1 lo hi + Th.mvs ps
def Th.mvs : List Th → Nat
  | [] => 0
  | t :: ts => t.mv + Th.mvs ts
end
def bnd (lo hi : Int) : Prop := 0 ≤ lo ∧ lo ≤ hi ∧ hi ≤ 1000000
mutual
/-- each thing by itself is as told -/
def Th.ok : Th → Prop
  | .raw _ lo hi => bnd lo hi
  | .made _ lo hi sh _ _ ps => bnd lo hi ∧ (0 ≤ sh ∧ sh ≤ 100) ∧ (1 ≤ ps.length ∧ ps.length ≤ 4) ∧ Th.oks ps
def Th.oks : List Th → Prop
  | [] => True
  | t :: ts => t.ok ∧ Th.oks ts
end
def Th.isMade : Th → Bool
  | .raw _ _ _ => false
  | .made _ _ _ _ _ _ _ => true
mutual
/-- some LOW is above 0 -/
def Th.any : Th → Bool
  | .raw _ lo _ => decide (0 < lo)
  | .made _ lo _ _ _ _ ps => decide (0 < lo) || Th.anys ps
def Th.anys : List Th → Bool
  | [] => false
  | t :: ts => t.any || Th.anys ts
end
/-- a good -/
structure Th.good (t : Th) : Prop where
  made : t.isMade = true
  ok : t.ok
  sz : t.sz ≤ 10
  st : t.st ≤ 4
  mv : t.mv ≤ 3
  any : t.any = true
theorem szs_app : ∀ a b : List Th, Th.szs (a ++ b) = Th.szs a + Th.szs b
  | [], b => by simp [Th.szs]
  | t :: a, b => by simp only [List.cons_append, Th.szs, szs_app a b]; omega
theorem sts_app : ∀ a b : List Th, Th.sts (a ++ b) = Th.sts a + Th.sts b
  | [], b => by simp [Th.sts]
  | t :: a, b => by simp only [List.cons_append, Th.sts, sts_app a b]; omega
theorem mvs_app : ∀ a b : List Th, Th.mvs (a ++ b) = Th.mvs a + Th.mvs b
  | [], b => by simp [Th.mvs]
  | t :: a, b => by simp only [List.cons_append, Th.mvs, mvs_app a b]; omega
theorem oks_app : ∀ a b : List Th, Th.oks (a ++ b) ↔ Th.oks a ∧ Th.oks b
  | [], b => by simp [Th.oks]
  | t :: a, b => by simp only [List.cons_append, Th.oks, oks_app a b, and_assoc]
theorem ds_app (a b : List Th) : Th.ds (a ++ b) = Th.ds a ++ Th.ds b := by rw [ds_map, ds_map, ds_map, List.map_append]
theorem sz_pos : ∀ t : Th, 1 ≤ t.sz
  | .raw _ _ _ => Nat.le_refl 1
  | .made _ _ _ _ _ _ ps => by unfold Th.sz; omega
theorem szs_ge : ∀ ts : List Th, ts.length ≤ Th.szs ts
  | [] => Nat.le_refl 0
  | t :: ts => by
    have := szs_ge ts
    have := sz_pos t
    simp only [Th.szs, List.length_cons]; omega
end MH
set_option maxHeartbeats 1000000
namespace MH
open PySem PySem.Spec PyProof.Rows L2 DL
/-- in least terms -/
def lt (p q : Int) : Int × Int := (p / (Int.gcd p q : Int), q / (Int.gcd p q : Int))
def frD (f : Int × Int) : D := .tup [.int f.1, .int f.2]
theorem gcd_pos' {p q : Int} (h : 0 < q) : (0 : Int) < (Int.gcd p q : Int) := by
  have : Int.gcd p q ≠ 0 := fun e => by
    have := Int.gcd_eq_zero_iff.mp e
    omega
  omega
theorem lt_mul {p q : Int} : (lt p q).1 * (Int.gcd p q : Int) = p ∧ (lt p q).2 * (Int.gcd p q : Int) = q := by
  refine ⟨Int.ediv_mul_cancel (Int.gcd_dvd_left ..), Int.ediv_mul_cancel (Int.gcd_dvd_right ..)⟩
theorem lt_pos {p q : Int} (h : 0 < q) : 0 < (lt p q).2 := by
  have g := gcd_pos' (p := p) h
  have e := (lt_mul (p := p) (q := q)).2
  by_cases z : 0 < (lt p q).2
  · exact z
  · have : (lt p q).2 * (Int.gcd p q : Int) ≤ 0 := Int.mul_nonpos_of_nonpos_of_nonneg (by omega) (by omega)
    omega
theorem lt_cross {p q : Int} : (lt p q).1 * q = p * (lt p q).2 := by
  have h := lt_mul (p := p) (q := q)
  generalize (lt p q).1 = a at h
  generalize (lt p q).2 = b at h
  generalize (Int.gcd p q : Int) = g at h
  obtain ⟨h1, h2⟩ := h
  rw [← h1, ← h2, Int.mul_assoc, Int.mul_comm g b]
theorem lt_cop {p q : Int} (h : 0 < q) : Int.gcd (lt p q).1 (lt p q).2 = 1 := by
  have g := gcd_pos' (p := p) h
  unfold lt
  exact Int.gcd_ediv_gcd_ediv_gcd (by omega)
theorem dvd_cop {a b c : Int} (h : b ∣ a * c) (g : Int.gcd a b = 1) : b ∣ c := by
  rw [← Int.natAbs_dvd_natAbs] at h ⊢
  rw [Int.natAbs_mul, Nat.mul_comm] at h
  exact Nat.Coprime.dvd_of_dvd_mul_right (n := a.natAbs) (by unfold Nat.Coprime; rw [Nat.gcd_comm]; exact g) h
/-- two in least terms that are one number are one -/
theorem cop_eq {a b c d : Int} (h : a * d = c * b) (b0 : 0 < b) (d0 : 0 < d) (h1 : Int.gcd a b = 1) (h2 : Int.gcd c d = 1) : (a, b) = (c, d) := by
  have e1 : b ∣ d := by
    have : b ∣ a * d := ⟨c, by rw [h, Int.mul_comm]⟩
    exact dvd_cop this h1
  have e2 : d ∣ b := by
    have : d ∣ c * b := ⟨a, by rw [← h, Int.mul_comm]⟩
    exact dvd_cop this h2
  have e3 : b = d := Int.dvd_antisymm (by omega) (by omega) e1 e2
  subst e3
  have e4 : a = c := Int.eq_of_mul_eq_mul_right (by omega) h
  rw [e4]
theorem lt_eq {p q p' q' : Int} (h : p * q' = p' * q) (q0 : 0 < q) (q1 : 0 < q') : lt p q = lt p' q' := by
  refine cop_eq (a := (lt p q).1) (b := (lt p q).2) (c := (lt p' q').1) (d := (lt p' q').2) ?_ (lt_pos q0) (lt_pos q1) (lt_cop q0) (lt_cop q1)
  have m1 := lt_mul (p := p) (q := q)
  have m2 := lt_mul (p := p') (q := q')
  have g1 := gcd_pos' (p := p) q0
  have g2 := gcd_pos' (p := p') q1
  generalize (lt p q).1 = a at m1 ⊢
  generalize (lt p q).2 = b at m1 ⊢
  generalize (lt p' q').1 = c at m2 ⊢
  generalize (lt p' q').2 = d at m2 ⊢
  generalize (Int.gcd p q : Int) = g at m1 g1
  generalize (Int.gcd p' q' : Int) = k at m2 g2
  obtain ⟨rfl, rfl⟩ := m1
  obtain ⟨rfl, rfl⟩ := m2
  have e : a * d * (g * k) = c * b * (g * k) := by
    have e1 : a * g * (d * k) = a * d * (g * k) := by
      simp only [Int.mul_assoc, Int.mul_comm, Int.mul_left_comm]
    have e2 : c * k * (b * g) = c * b * (g * k) := by
      simp only [Int.mul_assoc, Int.mul_comm, Int.mul_left_comm]
    rw [← e1, ← e2]; exact h
  have : 0 < g * k := Int.mul_pos g1 g2
  exact Int.eq_of_mul_eq_mul_right (by omega) e
theorem lt_self {p q : Int} (q0 : 0 < q) (h : Int.gcd p q = 1) : lt p q = (p, q) := by
  unfold lt; rw [h]; simp
theorem lt_idem {p q : Int} (q0 : 0 < q) : lt (lt p q).1 (lt p q).2 = lt p q := lt_self (lt_pos q0) (lt_cop q0)
theorem lt_le {p q : Int} (q0 : 0 < q) : (lt p q).2 ≤ q := by
  have e := (lt_mul (p := p) (q := q)).2
  have g := gcd_pos' (p := p) q0
  have b := lt_pos (p := p) q0
  have : (lt p q).2 * 1 ≤ (lt p q).2 * (Int.gcd p q : Int) := Int.mul_le_mul_of_nonneg_left (by omega) (by omega)
  omega
theorem lt_abs {p q : Int} (q0 : 0 < q) : (lt p q).1.natAbs ≤ p.natAbs := by
  have e := (lt_mul (p := p) (q := q)).1
  have g := gcd_pos' (p := p) q0
  have e2 : (lt p q).1.natAbs * Int.gcd p q = p.natAbs := by
    rw [← e, Int.natAbs_mul]; simp
    rw [e]
  have : (lt p q).1.natAbs * 1 ≤ (lt p q).1.natAbs * Int.gcd p q := Nat.mul_le_mul_left _ (by omega)
  omega
end MH
set_option maxHeartbeats 1000000
namespace MH
open PySem PySem.Spec PyProof.Rows L2 DL
/-! ### the rows of a thing: each with the numbers of its parts -/
def nums : Nat → List Th → List Nat
  | _, [] => []
  | b, t :: ts => b :: nums (b + t.sz) ts
mutual
def rows : Th → Nat → List (Th × List Nat)
  | .raw h lo hi, _ => [(.raw h lo hi, [])]
  | .made h lo hi sh u w ps, b => (.made h lo hi sh u w ps, nums (b + 1) ps) :: rowss ps (b + 1)
def rowss : List Th → Nat → List (Th × List Nat)
  | [], _ => []
  | t :: ts, b => rows t b ++ rowss ts (b + t.sz)
end
def rowD (r : Th × List Nat) : D := .tup [r.1.d, .lst (r.2.map fun (k : Nat) => D.int (k : Int))]
mutual
theorem rows_len : ∀ (t : Th) (b : Nat), (rows t b).length = t.sz
  | .raw _ _ _, _ => rfl
  | .made _ _ _ _ _ _ ps, b => by rw [rows, List.length_cons, rowss_len ps (b + 1), Th.sz]; omega
theorem rowss_len : ∀ (ts : List Th) (b : Nat), (rowss ts b).length = Th.szs ts
  | [], _ => rfl
  | t :: ts, b => by rw [rowss, List.length_append, rows_len t b, rowss_len ts _, Th.szs]
end
theorem nums_len : ∀ (ts : List Th) (b : Nat), (nums b ts).length = ts.length
  | [], _ => rfl
  | t :: ts, b => by rw [nums, List.length_cons, nums_len ts, List.length_cons]
theorem sz_st : ∀ t : Th, 1 ≤ t.sz := sz_pos
end MH
set_option maxHeartbeats 1000000
namespace MH
open PySem PySem.Spec PyProof.Rows L2 DL
theorem log2_le {n a : Nat} (h : n ≤ 2 ^ a) : n.log2 ≤ a := by
  by_cases z : n = 0
  · subst z; simp
  · have h2 : n < 2 ^ (a + 1) := by rw [Nat.pow_succ]; have := Nat.two_pow_pos a; omega
    have := (Nat.log2_lt z).mpr h2
    omega
theorem mulW2 {i j : Int} {a b : Nat} (h : i.natAbs ≤ 2 ^ a) (k : j.natAbs ≤ 2 ^ b) (ab : a + b < 1000000) : CMulW i j := by
  have := log2_le h
  have := log2_le k
  unfold CMulW; omega
theorem divW2 {j : Int} {b : Nat} (h : 0 < j) (k : j.natAbs ≤ 2 ^ b) (hb : b < 9000) : CDivW 0 j := by
  have := log2_le k
  exact ⟨h, by omega⟩
/-- the sum of fractions, not in least terms -/
def addF (f g : Int × Int) : Int × Int := (f.1 * g.2 + g.1 * f.2, f.2 * g.2)
def sumF (fs : List (Int × Int)) : Int × Int := fs.foldl addF (0, 1)
/-- what is a fraction within reach -/
def FOk (f : Int × Int) : Prop := f.1.natAbs ≤ 2 ^ 64 ∧ 0 < f.2 ∧ f.2.natAbs ≤ 2 ^ 64
def FB (k : Nat) (f : Int × Int) : Prop := f.1.natAbs ≤ 2 ^ (65 * k) ∧ 0 < f.2 ∧ f.2.natAbs ≤ 2 ^ (65 * k)
theorem natAbs_mul_le {x y : Int} {a b : Nat} (h : x.natAbs ≤ a) (k : y.natAbs ≤ b) : (x * y).natAbs ≤ a * b := by
  rw [Int.natAbs_mul]; exact Nat.mul_le_mul h k
theorem addF_ok {k : Nat} {f g : Int × Int} (h : FB k f) (w : FOk g) : FB (k + 1) (addF f g) := by
  obtain ⟨h1, h2, h3⟩ := h
  obtain ⟨w1, w2, w3⟩ := w
  have e : 2 ^ (65 * (k + 1)) = 2 ^ (65 * k) * 2 ^ 64 + 2 ^ (65 * k) * 2 ^ 64 := by
    rw [Nat.mul_add, Nat.pow_add]; omega
  have a1 := natAbs_mul_le h1 w3
  have a2 := natAbs_mul_le w1 h3
  have a3 := natAbs_mul_le h3 w3
  rw [Nat.mul_comm] at a2
  refine ⟨?_, Int.mul_pos h2 w2, ?_⟩
  · show (f.1 * g.2 + g.1 * f.2).natAbs ≤ _
    have := Int.natAbs_add_le (f.1 * g.2) (g.1 * f.2)
    omega
  · show (f.2 * g.2).natAbs ≤ _
    omega
/-- it is v divided by u -/
def Rep (u v : Int) (f : Int × Int) : Prop := 0 < f.2 ∧ f.1 * u = v * f.2
theorem Rep.add {u v w : Int} {f g : Int × Int} (h : Rep u v f) (k : Rep u w g) : Rep u (v + w) (addF f g) := by
  obtain ⟨h1, h2⟩ := h
  obtain ⟨k1, k2⟩ := k
  refine ⟨Int.mul_pos h1 k1, ?_⟩
  show (f.1 * g.2 + g.1 * f.2) * u = (v + w) * (f.2 * g.2)
  have e1 : (f.1 * g.2 + g.1 * f.2) * u = f.1 * u * g.2 + g.1 * u * f.2 := by
    rw [Int.add_mul, Int.mul_right_comm, Int.mul_right_comm g.1]
  rw [e1, h2, k2, Int.add_mul, Int.mul_assoc, Int.mul_assoc w, Int.mul_comm g.2 f.2]
inductive Reps (u : Int) : List (Int × Int) → List Int → Prop
  | nil : Reps u [] []
  | cons {f v fs vs} (h : Rep u v f) (r : Reps u fs vs) : Reps u (f :: fs) (v :: vs)
theorem Rep.fold {u : Int} : ∀ {fs : List (Int × Int)} {vs : List Int} {f : Int × Int} {v : Int}, Rep u v f → Reps u fs vs → Rep u (v + vs.sum) (fs.foldl addF f)
  | [], [], f, v, h, _ => by simpa using h
  | g :: fs, w :: vs, f, v, h, .cons k r => by
    have := Rep.fold (h.add k) r
    rw [List.foldl_cons, List.sum_cons, ← Int.add_assoc]
    exact this
theorem Rep.sum {u : Int} {fs : List (Int × Int)} {vs : List Int} (h : Reps u fs vs) : Rep u vs.sum (sumF fs) := by
  have := Rep.fold (u := u) (f := (0, 1)) (v := 0) ⟨by decide, by simp⟩ h
  simpa [sumF] using this
theorem Rep.lt {u v : Int} {f : Int × Int} (hu : 0 < u) (h : Rep u v f) : MH.lt f.1 f.2 = MH.lt v u := lt_eq h.2 h.1 hu
theorem rep_lt {u v : Int} (hu : 0 < u) : Rep u v (MH.lt v u) := ⟨lt_pos hu, lt_cross⟩
theorem fok_lt {u v : Int} (hu : 0 < u) (h1 : v.natAbs ≤ 2 ^ 64) (h2 : u.natAbs ≤ 2 ^ 64) : FOk (MH.lt v u) := by
  refine ⟨Nat.le_trans (lt_abs hu) h1, lt_pos hu, ?_⟩
  have := lt_le (p := v) hu
  have := lt_pos (p := v) hu
  omega
end MH
set_option maxHeartbeats 1000000
namespace MH
open PySem PySem.Spec PyProof.Rows L2 DL
/-! ### sums over a thing, its number and the prices being told -/
def own1 (h : Bool) (x : Int) : Int := if h then x else 0
def cnt1 (sh : Int) (u w : Bool) (o c : Int) : Int := if sh * c ≤ 100 * o then (if u then c else o) else (if w then o else 0)
mutual
def Th.cst : Th → Nat → (Nat → Int) → Int
  | .raw _ _ _, b, a => a b
  | .made _ _ _ _ _ _ ps, b, a => a b + Th.csts ps (b + 1) a
def Th.csts : List Th → Nat → (Nat → Int) → Int
  | [], _, _ => 0
  | t :: ts, b, a => t.cst b a + Th.csts ts (b + t.sz) a
end
mutual
def Th.cnt : Th → Nat → (Nat → Int) → Int
  | .raw h _ _, b, a => own1 h (a b)
  | .made h _ _ sh u w ps, b, a => cnt1 sh u w (own1 h (a b) + Th.cnts ps (b + 1) a) (a b + Th.csts ps (b + 1) a)
def Th.cnts : List Th → Nat → (Nat → Int) → Int
  | [], _, _ => 0
  | t :: ts, b, a => t.cnt b a + Th.cnts ts (b + t.sz) a
end
def Th.own : Th → Nat → (Nat → Int) → Int
  | .raw h _ _, b, a => own1 h (a b)
  | .made h _ _ _ _ _ ps, b, a => own1 h (a b) + Th.cnts ps (b + 1) a
def Th.word : Th → Nat → (Nat → Int) → Option Bool
  | .raw _ _ _, _, _ => none
  | .made h lo hi sh u w ps, b, a => some (decide (sh * (Th.made h lo hi sh u w ps).cst b a ≤ 100 * (Th.made h lo hi sh u w ps).own b a))
theorem cnt_made {h lo hi sh u w ps b a} : (Th.made h lo hi sh u w ps).cnt b a = cnt1 sh u w ((Th.made h lo hi sh u w ps).own b a) ((Th.made h lo hi sh u w ps).cst b a) := rfl
def Th.parts : Th → List Th
  | .raw _ _ _ => []
  | .made _ _ _ _ _ _ ps => ps
def Th.here : Th → Bool
  | .raw h _ _ => h
  | .made h _ _ _ _ _ _ => h
theorem cst_eq (t : Th) (b : Nat) (a : Nat → Int) : t.cst b a = a b + Th.csts t.parts (b + 1) a := by
  cases t with
  | raw _ _ _ => simp [Th.cst, Th.parts, Th.csts]
  | made _ _ _ _ _ _ _ => rfl
theorem own_eq (t : Th) (b : Nat) (a : Nat → Int) : t.own b a = own1 t.here (a b) + Th.cnts t.parts (b + 1) a := by
  cases t with
  | raw _ _ _ => simp [Th.own, Th.parts, Th.cnts, Th.here]
  | made _ _ _ _ _ _ _ => rfl
/-- the things of rows -/
def atR (R : List (Th × List Nat)) (i : Nat) : Th := match R[i]? with
  | some e => e.1
  | none => default
def numsT (t : Th) (b : Nat) : List Nat := nums (b + 1) t.parts
theorem rows_eq (t : Th) (b : Nat) : rows t b = (t, numsT t b) :: rowss t.parts (b + 1) := by
  cases t with
  | raw _ _ _ => rfl
  | made _ _ _ _ _ _ _ => rfl
mutual
theorem seg_of : ∀ (t : Th) (b i : Nat), i < t.sz → ∃ (t' : Th) (rest : List (Th × List Nat)), (rows t b).drop i = rows t' (b + i) ++ rest
  | t, b, 0, _ => ⟨t, [], by simp⟩
  | .raw h lo hi, b, i + 1, hi' => by simp [Th.sz] at hi'
  | .made h lo hi sh u w ps, b, i + 1, hi' => by
    obtain ⟨t', rest, e⟩ := segs_of ps (b + 1) i (by simp only [Th.sz] at hi'; omega)
    refine ⟨t', rest, ?_⟩
    rw [rows, List.drop_succ_cons, e]
    have : b + 1 + i = b + (i + 1) := by omega
    rw [this]
theorem segs_of : ∀ (ts : List Th) (b i : Nat), i < Th.szs ts → ∃ (t' : Th) (rest : List (Th × List Nat)), (rowss ts b).drop i = rows t' (b + i) ++ rest
  | [], b, i, hi => by simp [Th.szs] at hi
  | t :: ts, b, i, hi => by
    by_cases z : i < t.sz
    · obtain ⟨t', rest, e⟩ := seg_of t b i z
      refine ⟨t', rest ++ rowss ts (b + t.sz), ?_⟩
      rw [rowss, List.drop_append_of_le_length (by rw [rows_len]; omega), e, List.append_assoc]
    · obtain ⟨t', rest, e⟩ := segs_of ts (b + t.sz) (i - t.sz) (by simp only [Th.szs] at hi; omega)
      refine ⟨t', rest, ?_⟩
      have e1 : b + t.sz + (i - t.sz) = b + i := by omega
      rw [rowss, List.drop_append, rows_len, List.drop_eq_nil_of_le (by rw [rows_len]; omega), List.nil_append, e, e1]
end
/-- from its place on the rows are those of the thing there -/
theorem seg_at {t : Th} {i : Nat} (h : i < t.sz) : ∃ rest, (rows t 0).drop i = rows (atR (rows t 0) i) i ++ rest := by
  obtain ⟨t', rest, e⟩ := seg_of t 0 i h
  rw [Nat.zero_add] at e
  have e2 : (rows t 0)[i]? = some (t', numsT t' i) := by
    have : ((rows t 0).drop i)[0]? = some (t', numsT t' i) := by rw [e, rows_eq]; rfl
    rwa [List.getElem?_drop, Nat.add_zero] at this
  refine ⟨rest, ?_⟩
  unfold atR
  rw [e2]
  exact e
theorem at_row {t : Th} {i : Nat} (h : i < t.sz) : (rows t 0)[i]? = some (atR (rows t 0) i, numsT (atR (rows t 0) i) i) := by
  obtain ⟨rest, e⟩ := seg_at h
  have : ((rows t 0).drop i)[0]? = some (atR (rows t 0) i, numsT (atR (rows t 0) i) i) := by rw [e, rows_eq]; rfl
  rwa [List.getElem?_drop, Nat.add_zero] at this
def mapN {α : Type} (f : Th → Nat → α) : List Th → Nat → List α
  | [], _ => []
  | t :: ts, k => f t k :: mapN f ts (k + t.sz)
theorem seg_map {α : Type} (f : Th → Nat → α) {R : List (Th × List Nat)} : ∀ (ps : List Th) (k : Nat) (rest : List (Th × List Nat)), R.drop k = rowss ps k ++ rest → (nums k ps).map (fun j => f (atR R j) j) = mapN f ps k ∧ ∀ j ∈ nums k ps, k ≤ j ∧ j < R.length
  | [], k, rest, h => ⟨rfl, fun j hj => by simp [nums] at hj⟩
  | t :: ts, k, rest, h => by
    rw [rowss, List.append_assoc] at h
    have e0 : R[k]? = some (t, numsT t k) := by
      have : (R.drop k)[0]? = some (t, numsT t k) := by rw [h, rows_eq]; rfl
      rwa [List.getElem?_drop, Nat.add_zero] at this
    have e1 : atR R k = t := by unfold atR; rw [e0]
    have e2 : R.drop (k + t.sz) = rowss ts (k + t.sz) ++ rest := by
      rw [← List.drop_drop, h, List.drop_append_of_le_length (by rw [rows_len]; omega), List.drop_eq_nil_of_le (by rw [rows_len]; omega), List.nil_append]
    obtain ⟨i1, i2⟩ := seg_map f ts (k + t.sz) rest e2
    refine ⟨by rw [nums, List.map_cons, i1, mapN, e1], fun j hj => ?_⟩
    rw [nums, List.mem_cons] at hj
    rcases hj with rfl | hj
    · have := (List.getElem?_eq_some_iff.mp e0).1
      exact ⟨Nat.le_refl _, this⟩
    · have := i2 j hj
      omega
theorem sum_csts (a : Nat → Int) : ∀ (ps : List Th) (k : Nat), (mapN (fun t j => t.cst j a) ps k).sum = Th.csts ps k a
  | [], _ => rfl
  | t :: ts, k => by rw [mapN, List.sum_cons, sum_csts a ts, Th.csts]
theorem sum_cnts (a : Nat → Int) : ∀ (ps : List Th) (k : Nat), (mapN (fun t j => t.cnt j a) ps k).sum = Th.cnts ps k a
  | [], _ => rfl
  | t :: ts, k => by rw [mapN, List.sum_cons, sum_cnts a ts, Th.cnts]
/-- the parts' numbers are greater, and within -/
theorem parts_at {α : Type} (f : Th → Nat → α) {t : Th} {i : Nat} (h : i < t.sz) : (numsT (atR (rows t 0) i) i).map (fun j => f (atR (rows t 0) j) j) = mapN f (atR (rows t 0) i).parts (i + 1) ∧ ∀ j ∈ numsT (atR (rows t 0) i) i, i < j ∧ j < t.sz := by
  obtain ⟨rest, e⟩ := seg_at h
  have e2 : (rows t 0).drop (i + 1) = rowss (atR (rows t 0) i).parts (i + 1) ++ rest := by
    rw [← List.drop_drop, e, rows_eq]; rfl
  obtain ⟨h1, h2⟩ := seg_map f _ _ _ e2
  refine ⟨h1, fun j hj => ?_⟩
  have := h2 j hj
  rw [rows_len] at this
  omega
end MH
set_option maxHeartbeats 1000000
namespace MH
open PySem PySem.Spec PyProof.Rows L2 DL
section
variable {a : Nat → Int} {A : Int} (ha : ∀ k, 0 ≤ a k ∧ a k ≤ A)
include ha
mutual
theorem cst_bd : ∀ (t : Th) (b : Nat), 0 ≤ t.cst b a ∧ t.cst b a ≤ t.sz * A
  | .raw _ _ _, b => by
    have := ha b
    simp only [Th.cst, Th.sz]; omega
  | .made _ _ _ _ _ _ ps, b => by
    have h1 := ha b
    have h2 := csts_bd ps (b + 1)
    simp only [Th.cst, Th.sz]
    have e : ((1 + Th.szs ps : Nat) : Int) * A = A + (Th.szs ps : Int) * A := by
      rw [Int.natCast_add, Int.add_mul]; simp
    omega
theorem csts_bd : ∀ (ts : List Th) (b : Nat), 0 ≤ Th.csts ts b a ∧ Th.csts ts b a ≤ Th.szs ts * A
  | [], b => by simp [Th.csts, Th.szs]
  | t :: ts, b => by
    have h1 := cst_bd t b
    have h2 := csts_bd ts (b + t.sz)
    simp only [Th.csts, Th.szs]
    have e : ((t.sz + Th.szs ts : Nat) : Int) * A = (t.sz : Int) * A + (Th.szs ts : Int) * A := by
      rw [Int.natCast_add, Int.add_mul]
    omega
end
theorem own1_bd (h : Bool) (k : Nat) : 0 ≤ own1 h (a k) ∧ own1 h (a k) ≤ a k := by
  have := ha k
  unfold own1; split <;> omega
theorem cnt1_bd {sh : Int} {u w : Bool} {o c : Int} (h1 : 0 ≤ o) (h2 : o ≤ c) : 0 ≤ cnt1 sh u w o c ∧ cnt1 sh u w o c ≤ c := by
  unfold cnt1
  split
  · split <;> omega
  · split <;> omega
mutual
theorem cnt_bd : ∀ (t : Th) (b : Nat), (0 ≤ t.cnt b a ∧ t.cnt b a ≤ t.cst b a) ∧ (0 ≤ t.own b a ∧ t.own b a ≤ t.cst b a)
  | .raw h _ _, b => by
    have := own1_bd ha h b
    simp only [Th.cnt, Th.cst, Th.own]; omega
  | .made h _ _ sh u w ps, b => by
    have h1 := own1_bd ha h b
    have h2 := cnts_bd ps (b + 1)
    have h3 : 0 ≤ own1 h (a b) + Th.cnts ps (b + 1) a := by omega
    have h4 : own1 h (a b) + Th.cnts ps (b + 1) a ≤ a b + Th.csts ps (b + 1) a := by omega
    have h5 := cnt1_bd ha (sh := sh) (u := u) (w := w) h3 h4
    simp only [Th.cnt, Th.cst, Th.own]
    omega
theorem cnts_bd : ∀ (ts : List Th) (b : Nat), 0 ≤ Th.cnts ts b a ∧ Th.cnts ts b a ≤ Th.csts ts b a
  | [], b => by simp [Th.cnts, Th.csts]
  | t :: ts, b => by
    have h1 := (cnt_bd t b).1
    have h2 := cnts_bd ts (b + t.sz)
    simp only [Th.cnts, Th.csts]
    omega
end
end
/-- the word, by fractions -/
theorem word_fr {u O C sh : Int} {f g : Int × Int} (hu : 0 < u) (hf : Rep u O f) (hg : Rep u C g) : (sh * g.1 * f.2 ≤ 100 * f.1 * g.2) ↔ sh * C ≤ 100 * O := by
  obtain ⟨f0, f1⟩ := hf
  obtain ⟨g0, g1⟩ := hg
  have e1 : (sh * g.1 * f.2) * u = (sh * C) * (f.2 * g.2) := by
    have : (sh * g.1 * f.2) * u = sh * (g.1 * u) * f.2 := by
      simp only [Int.mul_assoc, Int.mul_comm, Int.mul_left_comm]
    rw [this, g1]
    simp only [Int.mul_assoc, Int.mul_comm, Int.mul_left_comm]
  have e2 : (100 * f.1 * g.2) * u = (100 * O) * (f.2 * g.2) := by
    have : (100 * f.1 * g.2) * u = 100 * (f.1 * u) * g.2 := by
      simp only [Int.mul_assoc, Int.mul_comm, Int.mul_left_comm]
    rw [this, f1]
    simp only [Int.mul_assoc, Int.mul_comm, Int.mul_left_comm]
  have p : 0 < f.2 * g.2 := Int.mul_pos f0 g0
  constructor
  · intro h
    have := Int.mul_le_mul_of_nonneg_right h (Int.le_of_lt hu)
    rw [e1, e2] at this
    exact Int.le_of_mul_le_mul_right this p
  · intro h
    have := Int.mul_le_mul_of_nonneg_right h (Int.le_of_lt p)
    rw [← e1, ← e2] at this
    exact Int.le_of_mul_le_mul_right this hu
theorem lt_zero {u : Int} (hu : 0 < u) : lt 0 u = (0, 1) := by
  unfold lt
  rw [show Int.gcd 0 u = u.natAbs from by simp]
  have e : (u.natAbs : Int) = u := by omega
  rw [e, Int.ediv_self (by omega)]; simp
end MH
set_option maxHeartbeats 1000000
namespace DL
open PySem PySem.Spec PyProof.Rows L2
section
variable {M : Mem} {Q : QD} {i : Int} {k : Str} {ds : List D} {b : Bool}
theorem w_isi {d : D} {n T : String} {b : Bool} (h1 : tyO M d = some T) (h2 : kitB T n = some b) (h : Q (.bl b) M) : isiC [d, .ty n] M Q := by
  unfold isiC; simp only [h1, h2]; exact h
theorem w_isiII (h : Q (.bl true) M) : isiC [.int i, .ty "int"] M Q := w_isi (T := "int") rfl (by decide +kernel) h
theorem w_isiIB (h : Q (.bl false) M) : isiC [.int i, .ty "bool"] M Q := w_isi (T := "int") rfl (by decide +kernel) h
theorem w_isiIS (h : Q (.bl false) M) : isiC [.int i, .ty "str"] M Q := w_isi (T := "int") rfl (by decide +kernel) h
theorem w_isiIT (h : Q (.bl false) M) : isiC [.int i, .ty "tuple"] M Q := w_isi (T := "int") rfl (by decide +kernel) h
theorem w_isiSI (h : Q (.bl false) M) : isiC [.str k, .ty "int"] M Q := w_isi (T := "str") rfl (by decide +kernel) h
theorem w_isiSB (h : Q (.bl false) M) : isiC [.str k, .ty "bool"] M Q := w_isi (T := "str") rfl (by decide +kernel) h
theorem w_isiSS (h : Q (.bl true) M) : isiC [.str k, .ty "str"] M Q := w_isi (T := "str") rfl (by decide +kernel) h
theorem w_isiST (h : Q (.bl false) M) : isiC [.str k, .ty "tuple"] M Q := w_isi (T := "str") rfl (by decide +kernel) h
theorem w_isiTI (h : Q (.bl false) M) : isiC [.tup ds, .ty "int"] M Q := w_isi (T := "tuple") rfl (by decide +kernel) h
theorem w_isiTB (h : Q (.bl false) M) : isiC [.tup ds, .ty "bool"] M Q := w_isi (T := "tuple") rfl (by decide +kernel) h
theorem w_isiTS (h : Q (.bl false) M) : isiC [.tup ds, .ty "str"] M Q := w_isi (T := "tuple") rfl (by decide +kernel) h
theorem w_isiTT (h : Q (.bl true) M) : isiC [.tup ds, .ty "tuple"] M Q := w_isi (T := "tuple") rfl (by decide +kernel) h
theorem w_isiNI (h : Q (.bl false) M) : isiC [.non, .ty "int"] M Q := w_isi (T := "NoneType") rfl (by decide +kernel) h
theorem w_isiNS (h : Q (.bl false) M) : isiC [.non, .ty "str"] M Q := w_isi (T := "NoneType") rfl (by decide +kernel) h
theorem w_isiNT (h : Q (.bl false) M) : isiC [.non, .ty "tuple"] M Q := w_isi (T := "NoneType") rfl (by decide +kernel) h
theorem w_isiBI (h : Q (.bl true) M) : isiC [.bl b, .ty "int"] M Q := w_isi (T := "bool") rfl (by decide +kernel) h
theorem w_isiBB (h : Q (.bl true) M) : isiC [.bl b, .ty "bool"] M Q := w_isi (T := "bool") rfl (by decide +kernel) h
theorem w_isiLT (h : Q (.bl false) M) : isiC [.lst ds, .ty "tuple"] M Q := w_isi (T := "list") rfl (by decide +kernel) h
theorem w_chd {φ : Prop} [Decidable φ] {o' : O2} {y : D} {tc : TED} {Xd : XD} {s : SD} (h1 : φ → tc Xd s M fun z M1 => o' y z M1 Q) (h2 : ¬ φ → Q (.bl false) M) : chK o' y tc Xd s Q (.bl (decide φ)) M := by
  by_cases z : φ
  · rw [decide_eq_true z]; exact h1 z
  · rw [decide_eq_false z]; exact h2 z
theorem w_chdT {φ : Prop} [Decidable φ] {o' : O2} {y : D} {tc : TED} {Xd : XD} {s : SD} (z : φ) (h1 : tc Xd s M fun z M1 => o' y z M1 Q) : chK o' y tc Xd s Q (.bl (decide φ)) M := by
  rw [decide_eq_true z]; exact h1
theorem w_ifndT {φ : Prop} [Decidable φ] {P U : Prop} (z : φ) (h2 : U) : if (!decide φ) = true then P else U := by
  rw [decide_eq_true z]; exact w_ifF h2
theorem w_andD {φ : Prop} [Decidable φ] {tb : TED} {Xd : XD} {s : SD} (z : φ) (h : tb Xd s M Q) : andK tb Xd s Q (.bl (decide φ)) M := by
  rw [decide_eq_true z]; exact w_andT h
theorem w_orD {φ : Prop} [Decidable φ] {tb : TED} {Xd : XD} {s : SD} (h1 : φ → Q (.bl true) M) (h2 : ¬ φ → tb Xd s M Q) : orK tb Xd s Q (.bl (decide φ)) M := by
  by_cases z : φ
  · rw [decide_eq_true z]; exact w_orT (h1 z)
  · rw [decide_eq_false z]; exact w_orF (h2 z)
def augY (f : Int → Int → Int) (p : Addr) (z u : Int) (nx : SD → Mem → Prop) (s : SD) : QD := fun y M1 => match y with
  | .int w => setK (.ref p) (.int z) (.int (f u w)) (fun M2 => nx s M2) M1
  | _ => False
theorem w_augKy {f : Int → Int → Int} {te : TED} {nx bk ct : SD → Mem → Prop} {rt : QD} {ex : XD} {s : SD} {p : Addr} {z u : Int} (hM : M p = some (.lst ds)) (e : atI ds z = some (.int u)) (h : te ex s M (augY f p z u nx s)) : augK f te ⟨nx, rt, bk, ct, ex⟩ s (.ref p) (.int z) M := w_augK hM e h
theorem w_augY {f : Int → Int → Int} {p : Addr} {z u w : Int} {nx : SD → Mem → Prop} {s : SD} (h : setK (.ref p) (.int z) (.int (f u w)) (fun M2 => nx s M2) M) : augY f p z u nx s (.int w) M := h
theorem w_iZip {te te2 : TED} {Xd : XD} {s : SD} {I : List D → Option Addr → Mem → Prop} (h : dCons te (dCons te2 dNil) Xd s M fun ds M1 => ∃ d e, ds = [d, e] ∧ zipK I d e M1) : iZipD te te2 Xd s M I := h
theorem w_sg2 {d e : D} {J : D → D → Prop} (h : J d e) : ∃ x y, [d, e] = [x, y] ∧ J x y := ⟨d, e, rfl, h⟩
theorem w_zipLL {es : List D} {I : List D → Option Addr → Mem → Prop} (h : I (zpD ds es) none M) : zipK I (.lst ds) (.lst es) M := ⟨ds, es, rfl, rfl, h⟩
theorem w_zipTT {es : List D} {I : List D → Option Addr → Mem → Prop} (h : I (zpD ds es) none M) : zipK I (.tup ds) (.tup es) M := h
theorem zp_map {α : Type} (F G : α → D) : ∀ L : List α, zpD (L.map F) (L.map G) = L.map fun j => .tup [F j, G j]
  | [] => rfl
  | x :: L => by rw [List.map_cons, List.map_cons, zpD, zp_map F G L]; rfl
theorem ixN_nat {n j : Nat} (h : j < n) : ixN n (j : Int) = some j := by
  unfold ixN
  rw [if_pos (by omega), if_pos (by omega)]; simp
theorem at_range {n j : Nat} {F : Nat → D} (h : j < n) : atI ((List.range n).map F) (j : Int) = some (F j) := atI_nat (by rw [List.getElem?_map, List.getElem?_range h]; rfl)
end
end DL
set_option maxHeartbeats 1000000
namespace G_madeofhere_k04_whole_counts
open PySem PySem.Spec PyProof.Rows L2 DL MH
local macro_rules | `(tactic| fail) => `(tactic| first | with_reducible refine w_seq ?_ | with_reducible refine w_nx ?_ | with_reducible refine w_ret ?_ | with_reducible refine w_retN ?_ | with_reducible refine w_expr ?_ | with_reducible refine w_ifS ?_ | with_reducible refine w_asg ?_ | with_reducible refine w_augS ?_ | with_reducible refine w_for ?_ | with_reducible refine w_bk ?_ | with_reducible refine w_ct ?_ | with_reducible refine w_set0 ?_ | with_reducible refine w_set1 ?_ | with_reducible refine w_set2 ?_ | with_reducible refine w_set3 ?_ | with_reducible refine w_set4 ?_ | with_reducible refine w_set5 ?_ | with_reducible refine w_set6 ?_ | with_reducible refine w_set7 ?_ | with_reducible refine w_set8 ?_ | with_reducible refine w_set9 ?_ | with_reducible refine w_set10 ?_ | with_reducible refine w_set11 ?_ | with_reducible refine w_set12 ?_ | with_reducible refine w_set13 ?_ | with_reducible refine w_var0 ?_ | with_reducible refine w_var1 ?_ | with_reducible refine w_var2 ?_ | with_reducible refine w_var3 ?_ | with_reducible refine w_var4 ?_ | with_reducible refine w_var5 ?_ | with_reducible refine w_var6 ?_ | with_reducible refine w_var7 ?_ | with_reducible refine w_var8 ?_ | with_reducible refine w_var9 ?_ | with_reducible refine w_var10 ?_ | with_reducible refine w_var11 ?_ | with_reducible refine w_var12 ?_ | with_reducible refine w_var13 ?_ | with_reducible refine w_gnm0 ?_ | with_reducible refine w_gnm1 ?_ | with_reducible refine w_gnm2 ?_ | with_reducible refine w_gnm3 ?_ | with_reducible refine w_gnm4 ?_ | with_reducible refine w_gnm5 ?_ | with_reducible refine w_gnm6 ?_ | with_reducible refine w_gnm7 ?_ | with_reducible refine w_gnm8 ?_ | with_reducible refine w_gnm9 ?_ | with_reducible refine w_gnm10 ?_ | with_reducible refine w_gnm11 ?_ | with_reducible refine w_gnm12 ?_ | with_reducible refine w_gnm13 ?_ | with_reducible refine w_gTp rfl ?_ | with_reducible refine w_gCo ?_ | with_reducible refine w_gNi ?_ | with_reducible refine w_gSb ?_ | with_reducible refine w_c ?_ | with_reducible refine w_op ?_ | with_reducible refine w_nil ?_ | with_reducible refine w_cons ?_ | with_reducible refine w_tup ?_ | with_reducible refine w_lst ?_ | with_reducible refine w_cb ?_ | with_reducible refine w_call ?_ | with_reducible refine w_ite ?_ | with_reducible refine w_and ?_ | with_reducible refine w_or ?_ | with_reducible refine w_not ?_ | with_reducible refine w_andT ?_ | with_reducible refine w_andF ?_ | with_reducible refine w_orT ?_ | with_reducible refine w_orF ?_ | with_reducible refine w_neg ?_ | with_reducible refine w_un ?_ | with_reducible refine w_tst ?_ | with_reducible refine w_tstB ?_ | with_reducible refine w_tru ?_ | with_reducible refine w_truB ?_ | with_reducible refine w_tAnd ?_ | with_reducible refine w_tOr ?_ | with_reducible refine w_tNot ?_ | with_reducible refine w_chain ?_ | with_reducible refine w_chT ?_ | with_reducible refine w_chF ?_ | with_reducible refine w_ifT ?_ | with_reducible refine w_ifF ?_ | with_reducible refine w_ifnT ?_ | with_reducible refine w_ifnF ?_ | with_reducible refine w_rvs ?_ | with_reducible refine w_yes ?_ | with_reducible refine w_isiII ?_ | with_reducible refine w_isiIB ?_ | with_reducible refine w_isiSS ?_ | with_reducible refine w_isiTT ?_ | with_reducible refine w_isiIT ?_ | with_reducible refine w_isiIS ?_ | with_reducible refine w_isiSI ?_ | with_reducible refine w_isiSB ?_ | with_reducible refine w_isiST ?_ | with_reducible refine w_isiTI ?_ | with_reducible refine w_isiTB ?_ | with_reducible refine w_isiTS ?_ | with_reducible refine w_isiNI ?_ | with_reducible refine w_isiNS ?_ | with_reducible refine w_isiNT ?_ | with_reducible refine w_isiBI ?_ | with_reducible refine w_isiBB ?_ | with_reducible refine w_isiLT ?_ | with_reducible refine w_dRev ?_ | with_reducible refine w_revK ?_ | with_reducible refine w_lstRg ?_ | with_reducible refine w_par ?_ | with_reducible refine w_parK (by dsimp only [List.set] <;> rfl) ?_ | with_reducible refine w_sl ?_ | with_reducible refine w_slT ?_ | with_reducible refine w_slL ?_ | with_reducible refine w_oNo ?_ | with_reducible refine w_oSo ?_ | with_reducible refine w_oSoK ?_ | with_reducible refine w_prN ?_ | with_reducible refine w_prC ?_ | with_reducible refine w_addI ?_ | with_reducible refine w_subI ?_ | with_reducible refine w_lt ?_ | with_reducible refine w_le ?_ | with_reducible refine w_gt ?_ | with_reducible refine w_ge ?_ | with_reducible refine w_isN ?_ | with_reducible refine w_isnN ?_ | with_reducible refine w_eqI ?_ | with_reducible refine w_neI ?_ | with_reducible refine w_ixT0 ?_ | with_reducible refine w_ixT1 ?_ | with_reducible refine w_ixT2 ?_ | with_reducible refine w_ixT3 ?_ | with_reducible refine w_ixT4 ?_ | with_reducible refine w_ixT5 ?_ | with_reducible refine w_lenL ?_ | with_reducible refine w_lenT ?_ | with_reducible refine w_int ?_ | with_reducible refine w_intB ?_ | with_reducible refine w_abs ?_ | with_reducible refine w_listL ?_ | with_reducible refine w_listT ?_ | with_reducible refine w_tupL ?_ | with_reducible refine w_tupT ?_ | with_reducible refine w_int2 ?_ | with_reducible refine w_gcd ?_ | with_reducible refine w_app ?_ | with_reducible refine w_iSeq ?_ | with_reducible refine w_itemT ?_ | with_reducible refine w_itemL ?_ | with_reducible refine w_iRng ?_ | with_reducible refine w_iEnm ?_ | with_reducible refine w_sg1 ?_ | with_reducible refine w_iRev ?_ | with_reducible refine w_rg1 ?_ | with_reducible refine w_rg1K ?_ | with_reducible refine w_notB ?_)
theorem rule_k {sh : Int} {u w : Bool} {M : Mem} {Q : QD} {Xd : XD} (h0 : 0 ≤ sh ∧ sh ≤ 100) (h : Q (.bl true) M) : Wis_rule [termD sh u w] M Q Xd := by
  refine Eis_rule ?_
  unfold termD
  repeat fail
  refine w_ifF ?_
  repeat fail
  refine w_chdT h0.1 ?_
  repeat fail
  refine w_ifndT h0.2 ?_
  repeat fail
  cases u <;> cases w
  all_goals
    repeat fail
    refine w_eqS (by decide +kernel) (by decide +kernel) ?_
    first
    | rw [show decide (upS true = (Str.ofString "whole")) = true from by decide +kernel]
    | rw [show decide (upS false = (Str.ofString "whole")) = false from by decide +kernel]
    repeat fail
    try
      refine w_eqS (by decide +kernel) (by decide +kernel) ?_
      rw [show decide (upS false = (Str.ofString "own")) = true from by decide +kernel]
      repeat fail
    refine w_eqS (by decide +kernel) (by decide +kernel) ?_
    first
    | rw [show decide (dnS true = (Str.ofString "own")) = true from by decide +kernel]
    | rw [show decide (dnS false = (Str.ofString "own")) = false from by decide +kernel]
    repeat fail
    try
      refine w_eqS (by decide +kernel) (by decide +kernel) ?_
      rw [show decide (dnS false = (Str.ofString "none")) = true from by decide +kernel]
      repeat fail
    exact lo_same h
end G_madeofhere_k04_whole_counts
set_option maxHeartbeats 1000000
namespace MH
open PySem PySem.Spec PyProof.Rows L2 DL
/-! ### what the program keeps of a good: lists by numbers -/
def nI (k : Nat) : D := .int (k : Int)
mutual
def Th.fl : Th → List Th
  | .raw h lo hi => [.raw h lo hi]
  | .made h lo hi sh u w ps => .made h lo hi sh u w ps :: Th.fls ps
def Th.fls : List Th → List Th
  | [] => []
  | t :: ts => t.fl ++ Th.fls ts
end
mutual
def Th.whs : Th → Nat → D → List D
  | .raw _ _ _, _, p => [p]
  | .made _ _ _ _ _ _ ps, k, p => p :: Th.whss ps (k + 1) (nI k)
def Th.whss : List Th → Nat → D → List D
  | [], _, _ => []
  | t :: ts, k, p => t.whs k p ++ Th.whss ts (k + t.sz) p
end
mutual
def Th.mds : Th → Nat → List Nat
  | .raw _ _ _, _ => []
  | .made _ _ _ _ _ _ ps, k => k :: Th.mdss ps (k + 1)
def Th.mdss : List Th → Nat → List Nat
  | [], _ => []
  | t :: ts, k => t.mds k ++ Th.mdss ts (k + t.sz)
end
def mvn1 (lo hi : Int) (k : Nat) : List Nat := if lo < hi then [k] else []
mutual
def Th.mvn : Th → Nat → List Nat
  | .raw _ lo hi, k => mvn1 lo hi k
  | .made _ lo hi _ _ _ ps, k => mvn1 lo hi k ++ Th.mvns ps (k + 1)
def Th.mvns : List Th → Nat → List Nat
  | [], _ => []
  | t :: ts, k => t.mvn k ++ Th.mvns ts (k + t.sz)
end
mutual
theorem fl_len : ∀ t : Th, t.fl.length = t.sz
  | .raw _ _ _ => rfl
  | .made _ _ _ _ _ _ ps => by rw [Th.fl, List.length_cons, fls_len ps, Th.sz]; omega
theorem fls_len : ∀ ts : List Th, (Th.fls ts).length = Th.szs ts
  | [] => rfl
  | t :: ts => by rw [Th.fls, List.length_append, fl_len t, fls_len ts, Th.szs]
end
mutual
theorem mds_len : ∀ (t : Th) (k : Nat), (t.mds k).length = t.st
  | .raw _ _ _, _ => rfl
  | .made _ _ _ _ _ _ ps, k => by rw [Th.mds, List.length_cons, mdss_len ps, Th.st]; omega
theorem mdss_len : ∀ (ts : List Th) (k : Nat), (Th.mdss ts k).length = Th.sts ts
  | [], _ => rfl
  | t :: ts, k => by rw [Th.mdss, List.length_append, mds_len t, mdss_len ts, Th.sts]
end
theorem mvn1_len (lo hi : Int) (k : Nat) : (mvn1 lo hi k).length = mv1 lo hi := by unfold mvn1 mv1; split <;> rfl
mutual
theorem mvn_len : ∀ (t : Th) (k : Nat), (t.mvn k).length = t.mv
  | .raw _ _ _, _ => by rw [Th.mvn, mvn1_len, Th.mv]
  | .made _ _ _ _ _ _ ps, k => by rw [Th.mvn, List.length_append, mvn1_len, mvns_len ps, Th.mv]
theorem mvns_len : ∀ (ts : List Th) (k : Nat), (Th.mvns ts k).length = Th.mvs ts
  | [], _ => rfl
  | t :: ts, k => by rw [Th.mvns, List.length_append, mvn_len t, mvns_len ts, Th.mvs]
end
mutual
theorem whs_len : ∀ (t : Th) (k : Nat) (p : D), (t.whs k p).length = t.sz
  | .raw _ _ _, _, _ => rfl
  | .made _ _ _ _ _ _ ps, k, p => by rw [Th.whs, List.length_cons, whss_len ps, Th.sz]; omega
theorem whss_len : ∀ (ts : List Th) (k : Nat) (p : D), (Th.whss ts k p).length = Th.szs ts
  | [], _, _ => rfl
  | t :: ts, k, p => by rw [Th.whss, List.length_append, whs_len t, whss_len ts, Th.szs]
end
theorem mv1_le (lo hi : Int) : mv1 lo hi ≤ 1 := by unfold mv1; split <;> omega
mutual
theorem mv_le_sz : ∀ t : Th, t.mv ≤ t.sz
  | .raw _ lo hi => by simp only [Th.mv, Th.sz]; exact mv1_le lo hi
  | .made _ lo hi _ _ _ ps => by
    have := mv1_le lo hi
    have := mvs_le_szs ps
    simp only [Th.mv, Th.sz]; omega
theorem mvs_le_szs : ∀ ts : List Th, Th.mvs ts ≤ Th.szs ts
  | [] => Nat.le_refl 0
  | t :: ts => by
    have := mv_le_sz t
    have := mvs_le_szs ts
    simp only [Th.mvs, Th.szs]; omega
end
/-- four lists that are owned -/
structure S4 (M0 : Mem) (f w m v : Addr) (F W : List D) (Dd V : List D) (M : Mem) : Prop where
  hf : M f = some (.lst F)
  hw : M w = some (.lst W)
  hm : M m = some (.lst Dd)
  hv : M v = some (.lst V)
  o : ∀ x, x ≠ f → x ≠ w → x ≠ m → x ≠ v → M x = M0 x
structure Ne4 (f w m v : Addr) : Prop where
  fw : f ≠ w
  fm : f ≠ m
  fv : f ≠ v
  wm : w ≠ m
  wv : w ≠ v
  mv : m ≠ v
section
variable {M0 M : Mem} {f w m v : Addr} {F W Dd V X : List D}
theorem S4.putF (h : S4 M0 f w m v F W Dd V M) (n : Ne4 f w m v) : S4 M0 f w m v X W Dd V (M.put f (.lst X)) :=
  ⟨Mem.put_same, (Mem.put_ne (Ne.symm n.fw)).trans h.hw, (Mem.put_ne (Ne.symm n.fm)).trans h.hm, (Mem.put_ne (Ne.symm n.fv)).trans h.hv, fun x a b c d => (Mem.put_ne a).trans (h.o x a b c d)⟩
theorem S4.putW (h : S4 M0 f w m v F W Dd V M) (n : Ne4 f w m v) : S4 M0 f w m v F X Dd V (M.put w (.lst X)) :=
  ⟨(Mem.put_ne n.fw).trans h.hf, Mem.put_same, (Mem.put_ne (Ne.symm n.wm)).trans h.hm, (Mem.put_ne (Ne.symm n.wv)).trans h.hv, fun x a b c d => (Mem.put_ne b).trans (h.o x a b c d)⟩
theorem S4.putM (h : S4 M0 f w m v F W Dd V M) (n : Ne4 f w m v) : S4 M0 f w m v F W X V (M.put m (.lst X)) :=
  ⟨(Mem.put_ne n.fm).trans h.hf, (Mem.put_ne n.wm).trans h.hw, Mem.put_same, (Mem.put_ne (Ne.symm n.mv)).trans h.hv, fun x a b c d => (Mem.put_ne c).trans (h.o x a b c d)⟩
theorem S4.putV (h : S4 M0 f w m v F W Dd V M) (n : Ne4 f w m v) : S4 M0 f w m v F W Dd X (M.put v (.lst X)) :=
  ⟨(Mem.put_ne n.fv).trans h.hf, (Mem.put_ne n.wv).trans h.hw, (Mem.put_ne n.mv).trans h.hm, Mem.put_same, fun x a b c d => (Mem.put_ne d).trans (h.o x a b c d)⟩
end
end MH
set_option maxHeartbeats 1000000
namespace G_madeofhere_k04_whole_counts
open PySem PySem.Spec PyProof.Rows L2 DL MH
local macro_rules | `(tactic| fail) => `(tactic| first | with_reducible refine w_seq ?_ | with_reducible refine w_nx ?_ | with_reducible refine w_ret ?_ | with_reducible refine w_retN ?_ | with_reducible refine w_expr ?_ | with_reducible refine w_ifS ?_ | with_reducible refine w_asg ?_ | with_reducible refine w_augS ?_ | with_reducible refine w_for ?_ | with_reducible refine w_bk ?_ | with_reducible refine w_ct ?_ | with_reducible refine w_set0 ?_ | with_reducible refine w_set1 ?_ | with_reducible refine w_set2 ?_ | with_reducible refine w_set3 ?_ | with_reducible refine w_set4 ?_ | with_reducible refine w_set5 ?_ | with_reducible refine w_set6 ?_ | with_reducible refine w_set7 ?_ | with_reducible refine w_set8 ?_ | with_reducible refine w_set9 ?_ | with_reducible refine w_set10 ?_ | with_reducible refine w_set11 ?_ | with_reducible refine w_set12 ?_ | with_reducible refine w_set13 ?_ | with_reducible refine w_set14 ?_ | with_reducible refine w_set15 ?_ | with_reducible refine w_set16 ?_ | with_reducible refine w_set17 ?_ | with_reducible refine w_var0 ?_ | with_reducible refine w_var1 ?_ | with_reducible refine w_var2 ?_ | with_reducible refine w_var3 ?_ | with_reducible refine w_var4 ?_ | with_reducible refine w_var5 ?_ | with_reducible refine w_var6 ?_ | with_reducible refine w_var7 ?_ | with_reducible refine w_var8 ?_ | with_reducible refine w_var9 ?_ | with_reducible refine w_var10 ?_ | with_reducible refine w_var11 ?_ | with_reducible refine w_var12 ?_ | with_reducible refine w_var13 ?_ | with_reducible refine w_var14 ?_ | with_reducible refine w_var15 ?_ | with_reducible refine w_var16 ?_ | with_reducible refine w_var17 ?_ | with_reducible refine w_gnm0 ?_ | with_reducible refine w_gnm1 ?_ | with_reducible refine w_gnm2 ?_ | with_reducible refine w_gnm3 ?_ | with_reducible refine w_gnm4 ?_ | with_reducible refine w_gnm5 ?_ | with_reducible refine w_gnm6 ?_ | with_reducible refine w_gnm7 ?_ | with_reducible refine w_gnm8 ?_ | with_reducible refine w_gnm9 ?_ | with_reducible refine w_gnm10 ?_ | with_reducible refine w_gnm11 ?_ | with_reducible refine w_gnm12 ?_ | with_reducible refine w_gnm13 ?_ | with_reducible refine w_gnm14 ?_ | with_reducible refine w_gnm15 ?_ | with_reducible refine w_gnm16 ?_ | with_reducible refine w_gnm17 ?_ | with_reducible refine w_gTp rfl ?_ | with_reducible refine w_gCo ?_ | with_reducible refine w_gNi ?_ | with_reducible refine w_gSb ?_ | with_reducible refine w_c ?_ | with_reducible refine w_op ?_ | with_reducible refine w_nil ?_ | with_reducible refine w_cons ?_ | with_reducible refine w_tup ?_ | with_reducible refine w_lst ?_ | with_reducible refine w_cb ?_ | with_reducible refine w_call ?_ | with_reducible refine w_ite ?_ | with_reducible refine w_and ?_ | with_reducible refine w_or ?_ | with_reducible refine w_not ?_ | with_reducible refine w_andT ?_ | with_reducible refine w_andF ?_ | with_reducible refine w_orT ?_ | with_reducible refine w_orF ?_ | with_reducible refine w_neg ?_ | with_reducible refine w_un ?_ | with_reducible refine w_tst ?_ | with_reducible refine w_tstB ?_ | with_reducible refine w_tru ?_ | with_reducible refine w_truB ?_ | with_reducible refine w_tAnd ?_ | with_reducible refine w_tOr ?_ | with_reducible refine w_tNot ?_ | with_reducible refine w_chain ?_ | with_reducible refine w_chT ?_ | with_reducible refine w_chF ?_ | with_reducible refine w_ifT ?_ | with_reducible refine w_ifF ?_ | with_reducible refine w_ifnT ?_ | with_reducible refine w_ifnF ?_ | with_reducible refine w_rvs ?_ | with_reducible refine w_yes ?_ | with_reducible refine w_iZip ?_ | with_reducible refine w_sg2 ?_ | with_reducible refine w_zipLL ?_ | with_reducible refine w_zipTT ?_ | with_reducible refine w_augY ?_ | with_reducible refine w_isiII ?_ | with_reducible refine w_isiIB ?_ | with_reducible refine w_isiSS ?_ | with_reducible refine w_isiTT ?_ | with_reducible refine w_isiIT ?_ | with_reducible refine w_isiIS ?_ | with_reducible refine w_isiSI ?_ | with_reducible refine w_isiSB ?_ | with_reducible refine w_isiST ?_ | with_reducible refine w_isiTI ?_ | with_reducible refine w_isiTB ?_ | with_reducible refine w_isiTS ?_ | with_reducible refine w_isiNI ?_ | with_reducible refine w_isiNS ?_ | with_reducible refine w_isiNT ?_ | with_reducible refine w_isiBI ?_ | with_reducible refine w_isiBB ?_ | with_reducible refine w_isiLT ?_ | with_reducible refine w_dRev ?_ | with_reducible refine w_revK ?_ | with_reducible refine w_lstRg ?_ | with_reducible refine w_par ?_ | with_reducible refine w_parK (by dsimp only [List.set] <;> rfl) ?_ | with_reducible refine w_sl ?_ | with_reducible refine w_slT ?_ | with_reducible refine w_slL ?_ | with_reducible refine w_oNo ?_ | with_reducible refine w_oSo ?_ | with_reducible refine w_oSoK ?_ | with_reducible refine w_prN ?_ | with_reducible refine w_prC ?_ | with_reducible refine w_addI ?_ | with_reducible refine w_subI ?_ | with_reducible refine w_lt ?_ | with_reducible refine w_le ?_ | with_reducible refine w_gt ?_ | with_reducible refine w_ge ?_ | with_reducible refine w_isN ?_ | with_reducible refine w_isnN ?_ | with_reducible refine w_eqI ?_ | with_reducible refine w_neI ?_ | with_reducible refine w_ixT0 ?_ | with_reducible refine w_ixT1 ?_ | with_reducible refine w_ixT2 ?_ | with_reducible refine w_ixT3 ?_ | with_reducible refine w_ixT4 ?_ | with_reducible refine w_ixT5 ?_ | with_reducible refine w_lenL ?_ | with_reducible refine w_lenT ?_ | with_reducible refine w_int ?_ | with_reducible refine w_intB ?_ | with_reducible refine w_abs ?_ | with_reducible refine w_listL ?_ | with_reducible refine w_listT ?_ | with_reducible refine w_tupL ?_ | with_reducible refine w_tupT ?_ | with_reducible refine w_int2 ?_ | with_reducible refine w_gcd ?_ | with_reducible refine w_app ?_ | with_reducible refine w_iSeq ?_ | with_reducible refine w_itemT ?_ | with_reducible refine w_itemL ?_ | with_reducible refine w_iRng ?_ | with_reducible refine w_iEnm ?_ | with_reducible refine w_sg1 ?_ | with_reducible refine w_iRev ?_ | with_reducible refine w_rg1 ?_ | with_reducible refine w_rg1K ?_ | with_reducible refine w_notB ?_)
theorem bounds_k {n : D} {hr : Bool} {lo hi : Int} {M : Mem} {Q : QD} {Xd : XD} (h0 : bnd lo hi) (h : Q .non M) : W_need_bounds [n, landD hr, .int lo, .int hi] M Q Xd := by
  obtain ⟨b1, b2, b3⟩ := h0
  refine E_need_bounds ?_
  refine w_join (P := fun M1 => M1 = M) (fun M1 e => ?_) fun join => ?_
  · subst e
    repeat fail
    refine w_chdT b1 ?_
    repeat fail
    refine w_ifndT (by omega) ?_
    repeat fail
    refine w_chdT b2 ?_
    repeat fail
    refine w_ifndT b3 ?_
    repeat fail
    exact lo_same h
  · unfold landD
    repeat fail
    cases hr
    · refine w_neS (by decide +kernel) (by decide +kernel) ?_
      rw [show decide (landS false = (Str.ofString "here")) = false from by decide +kernel]
      repeat fail
      refine w_neS (by decide +kernel) (by decide +kernel) ?_
      rw [show decide (landS false = (Str.ofString "away")) = true from by decide +kernel]
      repeat fail
      exact join M rfl
    · refine w_neS (by decide +kernel) (by decide +kernel) ?_
      rw [show decide (landS true = (Str.ofString "here")) = true from by decide +kernel]
      repeat fail
      exact join M rfl
theorem making_k {n : D} {sh : Int} {u w : Bool} {ps : List Th} {M : Mem} {Q : QD} {Xd : XD} (h0 : 0 ≤ sh ∧ sh ≤ 100) (h1 : 1 ≤ ps.length ∧ ps.length ≤ 4) (h : Q .non M) : W_need_making [n, termD sh u w, .tup (Th.ds ps)] M Q Xd := by
  refine E_need_making ?_
  repeat fail
  refine rule_k h0 ?_
  repeat fail
  have e : (Th.ds ps).length = ps.length := by rw [ds_map, List.length_map]
  refine w_chdT (by rw [e]; omega) ?_
  repeat fail
  refine w_ifndT (by rw [e]; omega) ?_
  repeat fail
  exact lo_same h
/-- what the look at a thing keeps -/
def LookOk (n : Nat) : Prop := ∀ (t : Th) (par : D) (f w m v : Addr) (F W : List D) (Dd V : List Nat) (M0 M : Mem) (Q : QD) (Xd : XD), Ne4 f w m v → t.ok → t.st + 1 ≤ n → F.length + t.sz ≤ 10 → W.length ≤ 10 → W.length = F.length → V.length ≤ F.length → Dd.length + t.st ≤ 4 → S4 M0 f w m v F W (Dd.map nI) (V.map nI) M →
  (∀ M', S4 M0 f w m v (F ++ Th.ds t.fl) (W ++ t.whs F.length par) ((Dd ++ t.mds F.length).map nI) ((V ++ t.mvn F.length).map nI) M' → Q .non M') → W_look_at n [t.d, par, .ref f, .ref w, .ref m, .ref v] M Q Xd
theorem look_loop {n : Nat} (ih : LookOk n) {f w m v : Addr} (ne : Ne4 f w m v) {M0 : Mem} {nx bk ct : SD → Mem → Prop} {rt : QD} {Xd : XD} {Wt : Mem → Prop} (hW : ∀ M, Wt M) {k : Nat} {d0 d1 x7 x8 x9 x10 x11 x12 x13 x14 : Option D} :
    ∀ (ts : List Th) (F W : List D) (Dd V : List Nat) (M : Mem) (o : Option D), Th.oks ts → Th.sts ts + 1 ≤ n → F.length + Th.szs ts ≤ 10 → W.length = F.length → V.length ≤ F.length → Dd.length + Th.sts ts ≤ 4 → S4 M0 f w m v F W (Dd.map nI) (V.map nI) M →
      (∀ M' o, S4 M0 f w m v (F ++ Th.ds (Th.fls ts)) (W ++ Th.whss ts F.length (nI k)) ((Dd ++ Th.mdss ts F.length).map nI) ((V ++ Th.mvns ts F.length).map nI) M' → nx [d0, d1, some (.ref f), some (.ref w), some (.ref m), some (.ref v), some (.int (k : Int)), x7, x8, x9, x10, x11, x12, x13, x14, o] M') →
      sForL (gNm 15) (sExpr (dCall (W_look_at n) [] (dCons (dVar 15) (dCons (dVar 6) (dCons (dVar 2) (dCons (dVar 3) (dCons (dVar 4) (dCons (dVar 5) (dNil))))))))) ⟨nx, rt, bk, ct, Xd⟩ Wt (Th.ds ts) [d0, d1, some (.ref f), some (.ref w), some (.ref m), some (.ref v), some (.int (k : Int)), x7, x8, x9, x10, x11, x12, x13, x14, o] M
  | [], F, W, Dd, V, M, o, h1, h2, h3, h4, h4', h5, h6, h => w_forNil (hW _) (h M o (by simpa [Th.ds, Th.fls, Th.whss, Th.mdss, Th.mvns] using h6))
  | t :: ts, F, W, Dd, V, M, o, h1, h2, h3, h4, h4', h5, h6, h => by
    simp only [Th.sts, Th.szs] at h2 h3 h5
    have := sz_pos t
    refine w_forCons (hW _) ?_
    repeat fail
    refine ih t (nI k) f w m v F W Dd V M0 M _ _ ne h1.1 (by omega) (by omega) (by omega) h4 h4' (by omega) h6 fun M' h7 => ?_
    have hm := mv_le_sz t
    refine look_loop ih ne hW ts _ _ _ _ M' _ h1.2 (by omega) (by rw [List.length_append, ds_map, List.length_map, fl_len]; omega) (by rw [List.length_append, List.length_append, whs_len, ds_map, List.length_map, fl_len, h4]) (by rw [List.length_append, List.length_append, mvn_len, ds_map, List.length_map, fl_len]; omega) (by rw [List.length_append, mds_len]; omega) h7 fun M2 o h8 => h M2 o ?_
    have e : (F ++ Th.ds t.fl).length = F.length + t.sz := by rw [List.length_append, ds_map, List.length_map, fl_len]
    rw [e] at h8
    simp only [Th.fls, Th.whss, Th.mdss, Th.mvns, ds_app]
    simp only [List.append_assoc] at h8
    exact h8
theorem look_k : ∀ n : Nat, LookOk n
  | 0 => fun _ _ _ _ _ _ _ _ _ _ _ _ _ _ _ _ h _ _ _ _ _ _ => by omega
  | n + 1 => fun t par f w m v F W Dd V M0 M Q Xd ne hok hn hF hW0 hWF hVF hD hS h => by
    refine E_look_at ?_
    cases t with
    | raw hr lo hi =>
      simp only [Th.sz, Th.st] at hF hD hn
      rw [Th.d]
      repeat fail
      refine w_lenR hS.hf ?_
      repeat fail
      refine w_ifT ?_
      repeat fail
      refine w_eqS (by decide +kernel) (by decide +kernel) ?_
      rw [show decide ((Str.ofString "raw") = (Str.ofString "made")) = false from by decide +kernel]
      repeat fail
      refine w_ifdF (by omega) ?_
      repeat fail
      refine w_lenR hS.hm ?_
      repeat fail
      refine w_ifdF (by rw [List.length_map]; omega) ?_
      repeat fail
      refine w_eqS (by decide +kernel) (by decide +kernel) ?_
      rw [show decide ((Str.ofString "raw") = (Str.ofString "raw")) = true from by decide +kernel]
      repeat fail
      refine w_ifT ?_
      repeat fail
      refine bounds_k hok ?_
      repeat fail
      refine w_appO hS.hf ?_
      repeat fail
      refine w_appK hS.hf (by rw [sizeLine_eq]; omega) ?_
      have hS2 := hS.putF (X := F ++ [(Th.raw hr lo hi).d]) ne
      rw [Th.d] at hS2
      generalize M.put f _ = M2 at hS2 ⊢
      repeat fail
      refine w_appO hS2.hw ?_
      repeat fail
      refine w_appK hS2.hw (by rw [sizeLine_eq]; omega) ?_
      have hS3 := hS2.putW (X := W ++ [par]) ne
      generalize M2.put w _ = M3 at hS3 ⊢
      repeat fail
      refine w_ifd (fun z => ?_) fun z => ?_
      · repeat fail
        refine w_appO hS3.hv ?_
        repeat fail
        refine w_appK hS3.hv (by rw [sizeLine_eq, List.length_map]; omega) ?_
        have hS4 := hS3.putV (X := V.map nI ++ [D.int (F.length : Int)]) ne
        generalize M3.put v _ = M4 at hS4 ⊢
        repeat fail
        refine w_forNil wat_none ?_
        refine lo_same (h M4 ?_)
        simp only [Th.fl, Th.ds, Th.whs, Th.mds, Th.mvn, mvn1, if_pos z, List.append_nil, List.map_append, List.map_cons, List.map_nil]
        exact hS4
      · repeat fail
        refine w_forNil wat_none ?_
        refine lo_same (h M3 ?_)
        simp only [Th.fl, Th.ds, Th.whs, Th.mds, Th.mvn, mvn1, if_neg z, List.append_nil, List.map_append, List.map_cons, List.map_nil]
        exact hS3
    | made hr lo hi sh up dn ps =>
      simp only [Th.sz, Th.st] at hF hD hn
      obtain ⟨q1, q2, q3, q4⟩ := hok
      rw [Th.d]
      repeat fail
      refine w_lenR hS.hf ?_
      repeat fail
      refine w_ifT ?_
      repeat fail
      refine w_eqS (by decide +kernel) (by decide +kernel) ?_
      rw [show decide ((Str.ofString "made") = (Str.ofString "made")) = true from by decide +kernel]
      repeat fail
      refine w_appO hS.hm ?_
      repeat fail
      refine w_appK hS.hm (by rw [sizeLine_eq, List.length_map]; omega) ?_
      have hS1 := hS.putM (X := Dd.map nI ++ [D.int (F.length : Int)]) ne
      generalize M.put m _ = M1 at hS1 ⊢
      repeat fail
      refine w_ifdF (by omega) ?_
      repeat fail
      refine w_lenR hS1.hm ?_
      repeat fail
      refine w_ifdF (by rw [List.length_append, List.length_map, List.length_singleton]; omega) ?_
      repeat fail
      refine w_ifT ?_
      repeat fail
      refine bounds_k q1 ?_
      repeat fail
      refine making_k q2 q3 ?_
      repeat fail
      refine w_appO hS1.hf ?_
      repeat fail
      refine w_appK hS1.hf (by rw [sizeLine_eq]; omega) ?_
      have hS2 := hS1.putF (X := F ++ [(Th.made hr lo hi sh up dn ps).d]) ne
      rw [Th.d] at hS2
      generalize M1.put f _ = M2 at hS2 ⊢
      repeat fail
      refine w_appO hS2.hw ?_
      repeat fail
      refine w_appK hS2.hw (by rw [sizeLine_eq]; omega) ?_
      have hS3 := hS2.putW (X := W ++ [par]) ne
      generalize M2.put w _ = M3 at hS3 ⊢
      refine w_joinS (P := fun s1 M1 => S4 M0 f w m v (F ++ [(Th.made hr lo hi sh up dn ps).d]) (W ++ [par]) ((Dd ++ [F.length]).map nI) ((V ++ mvn1 lo hi F.length).map nI) M1 ∧
        ∃ x7 x8 x10 x11 x12 x13 x14 x15, s1 = [some (Th.made hr lo hi sh up dn ps).d, some par, some (.ref f), some (.ref w), some (.ref m), some (.ref v), some (.int (F.length : Int)), x7, x8, some (.tup (Th.ds ps)), x10, x11, x12, x13, x14, x15]) (fun s1 M1 ⟨hS4, x7, x8, x10, x11, x12, x13, x14, x15, es⟩ => ?_) fun join => ?_
      · subst es
        repeat fail
        have e1 : (F ++ [(Th.made hr lo hi sh up dn ps).d]).length = F.length + 1 := by rw [List.length_append, List.length_singleton]
        have hm1 : (mvn1 lo hi F.length).length ≤ 1 := by rw [mvn1_len]; unfold mv1; split <;> omega
        refine look_loop (look_k n) ne (fun _ => wat_none) ps _ _ _ _ M1 _ q4 (by omega) (by rw [e1]; omega) (by rw [e1, List.length_append, List.length_singleton, hWF]) (by rw [e1, List.length_append]; omega) (by rw [List.length_append, List.length_singleton]; omega) hS4 fun M' o h8 => ?_
        refine lo_same (h M' ?_)
        rw [e1] at h8
        simp only [Th.fl, Th.ds, Th.whs, Th.mds, Th.mvn]
        simp only [List.append_assoc, List.singleton_append] at h8
        exact h8
      · repeat fail
        refine w_ifd (fun z => ?_) fun z => ?_
        · repeat fail
          refine w_appO hS3.hv ?_
          repeat fail
          refine w_appK hS3.hv (by rw [sizeLine_eq, List.length_map]; omega) ?_
          have hS4 := hS3.putV (X := V.map nI ++ [D.int (F.length : Int)]) ne
          generalize M3.put v _ = M4 at hS4 ⊢
          refine join _ M4 ⟨?_, _, _, _, _, _, _, _, _, by rw [Th.d]⟩
          simp only [mvn1, if_pos z, List.map_append, List.map_cons, List.map_nil]
          rw [Th.d]
          exact hS4
        · repeat fail
          refine join _ M3 ⟨?_, _, _, _, _, _, _, _, _, by rw [Th.d]⟩
          simp only [mvn1, if_neg z, List.map_append, List.map_cons, List.map_nil, List.append_nil]
          rw [Th.d]
          exact hS3
end G_madeofhere_k04_whole_counts
set_option maxHeartbeats 1000000
namespace G_madeofhere_k04_whole_counts
open PySem PySem.Spec PyProof.Rows L2 DL MH
local macro_rules | `(tactic| fail) => `(tactic| first | with_reducible refine w_seq ?_ | with_reducible refine w_nx ?_ | with_reducible refine w_ret ?_ | with_reducible refine w_retN ?_ | with_reducible refine w_expr ?_ | with_reducible refine w_ifS ?_ | with_reducible refine w_asg ?_ | with_reducible refine w_augS ?_ | with_reducible refine w_for ?_ | with_reducible refine w_bk ?_ | with_reducible refine w_ct ?_ | with_reducible refine w_set0 ?_ | with_reducible refine w_set1 ?_ | with_reducible refine w_set2 ?_ | with_reducible refine w_set3 ?_ | with_reducible refine w_set4 ?_ | with_reducible refine w_set5 ?_ | with_reducible refine w_set6 ?_ | with_reducible refine w_set7 ?_ | with_reducible refine w_set8 ?_ | with_reducible refine w_set9 ?_ | with_reducible refine w_set10 ?_ | with_reducible refine w_set11 ?_ | with_reducible refine w_set12 ?_ | with_reducible refine w_set13 ?_ | with_reducible refine w_set14 ?_ | with_reducible refine w_set15 ?_ | with_reducible refine w_set16 ?_ | with_reducible refine w_set17 ?_ | with_reducible refine w_var0 ?_ | with_reducible refine w_var1 ?_ | with_reducible refine w_var2 ?_ | with_reducible refine w_var3 ?_ | with_reducible refine w_var4 ?_ | with_reducible refine w_var5 ?_ | with_reducible refine w_var6 ?_ | with_reducible refine w_var7 ?_ | with_reducible refine w_var8 ?_ | with_reducible refine w_var9 ?_ | with_reducible refine w_var10 ?_ | with_reducible refine w_var11 ?_ | with_reducible refine w_var12 ?_ | with_reducible refine w_var13 ?_ | with_reducible refine w_var14 ?_ | with_reducible refine w_var15 ?_ | with_reducible refine w_var16 ?_ | with_reducible refine w_var17 ?_ | with_reducible refine w_gnm0 ?_ | with_reducible refine w_gnm1 ?_ | with_reducible refine w_gnm2 ?_ | with_reducible refine w_gnm3 ?_ | with_reducible refine w_gnm4 ?_ | with_reducible refine w_gnm5 ?_ | with_reducible refine w_gnm6 ?_ | with_reducible refine w_gnm7 ?_ | with_reducible refine w_gnm8 ?_ | with_reducible refine w_gnm9 ?_ | with_reducible refine w_gnm10 ?_ | with_reducible refine w_gnm11 ?_ | with_reducible refine w_gnm12 ?_ | with_reducible refine w_gnm13 ?_ | with_reducible refine w_gnm14 ?_ | with_reducible refine w_gnm15 ?_ | with_reducible refine w_gnm16 ?_ | with_reducible refine w_gnm17 ?_ | with_reducible refine w_gTp rfl ?_ | with_reducible refine w_gCo ?_ | with_reducible refine w_gNi ?_ | with_reducible refine w_gSb ?_ | with_reducible refine w_c ?_ | with_reducible refine w_op ?_ | with_reducible refine w_nil ?_ | with_reducible refine w_cons ?_ | with_reducible refine w_tup ?_ | with_reducible refine w_lst ?_ | with_reducible refine w_cb ?_ | with_reducible refine w_call ?_ | with_reducible refine w_ite ?_ | with_reducible refine w_and ?_ | with_reducible refine w_or ?_ | with_reducible refine w_not ?_ | with_reducible refine w_andT ?_ | with_reducible refine w_andF ?_ | with_reducible refine w_orT ?_ | with_reducible refine w_orF ?_ | with_reducible refine w_neg ?_ | with_reducible refine w_un ?_ | with_reducible refine w_tst ?_ | with_reducible refine w_tstB ?_ | with_reducible refine w_tru ?_ | with_reducible refine w_truB ?_ | with_reducible refine w_tAnd ?_ | with_reducible refine w_tOr ?_ | with_reducible refine w_tNot ?_ | with_reducible refine w_chain ?_ | with_reducible refine w_chT ?_ | with_reducible refine w_chF ?_ | with_reducible refine w_ifT ?_ | with_reducible refine w_ifF ?_ | with_reducible refine w_ifnT ?_ | with_reducible refine w_ifnF ?_ | with_reducible refine w_rvs ?_ | with_reducible refine w_yes ?_ | with_reducible refine w_iZip ?_ | with_reducible refine w_sg2 ?_ | with_reducible refine w_zipLL ?_ | with_reducible refine w_zipTT ?_ | with_reducible refine w_augY ?_ | with_reducible refine w_isiII ?_ | with_reducible refine w_isiIB ?_ | with_reducible refine w_isiSS ?_ | with_reducible refine w_isiTT ?_ | with_reducible refine w_isiIT ?_ | with_reducible refine w_isiIS ?_ | with_reducible refine w_isiSI ?_ | with_reducible refine w_isiSB ?_ | with_reducible refine w_isiST ?_ | with_reducible refine w_isiTI ?_ | with_reducible refine w_isiTB ?_ | with_reducible refine w_isiTS ?_ | with_reducible refine w_isiNI ?_ | with_reducible refine w_isiNS ?_ | with_reducible refine w_isiNT ?_ | with_reducible refine w_isiBI ?_ | with_reducible refine w_isiBB ?_ | with_reducible refine w_isiLT ?_ | with_reducible refine w_dRev ?_ | with_reducible refine w_revK ?_ | with_reducible refine w_lstRg ?_ | with_reducible refine w_par ?_ | with_reducible refine w_parK (by dsimp only [List.set] <;> rfl) ?_ | with_reducible refine w_sl ?_ | with_reducible refine w_slT ?_ | with_reducible refine w_slL ?_ | with_reducible refine w_oNo ?_ | with_reducible refine w_oSo ?_ | with_reducible refine w_oSoK ?_ | with_reducible refine w_prN ?_ | with_reducible refine w_prC ?_ | with_reducible refine w_addI ?_ | with_reducible refine w_subI ?_ | with_reducible refine w_lt ?_ | with_reducible refine w_le ?_ | with_reducible refine w_gt ?_ | with_reducible refine w_ge ?_ | with_reducible refine w_isN ?_ | with_reducible refine w_isnN ?_ | with_reducible refine w_eqI ?_ | with_reducible refine w_neI ?_ | with_reducible refine w_ixT0 ?_ | with_reducible refine w_ixT1 ?_ | with_reducible refine w_ixT2 ?_ | with_reducible refine w_ixT3 ?_ | with_reducible refine w_ixT4 ?_ | with_reducible refine w_ixT5 ?_ | with_reducible refine w_lenL ?_ | with_reducible refine w_lenT ?_ | with_reducible refine w_int ?_ | with_reducible refine w_intB ?_ | with_reducible refine w_abs ?_ | with_reducible refine w_listL ?_ | with_reducible refine w_listT ?_ | with_reducible refine w_tupL ?_ | with_reducible refine w_tupT ?_ | with_reducible refine w_int2 ?_ | with_reducible refine w_gcd ?_ | with_reducible refine w_app ?_ | with_reducible refine w_iSeq ?_ | with_reducible refine w_itemT ?_ | with_reducible refine w_itemL ?_ | with_reducible refine w_iRng ?_ | with_reducible refine w_iEnm ?_ | with_reducible refine w_sg1 ?_ | with_reducible refine w_iRev ?_ | with_reducible refine w_rg1 ?_ | with_reducible refine w_rg1K ?_ | with_reducible refine w_notB ?_)
def lowOf : Th → Int
  | .raw _ lo _ => lo
  | .made _ lo _ _ _ _ _ => lo
def higOf : Th → Int
  | .raw _ _ hi => hi
  | .made _ _ hi _ _ _ _ => hi
theorem d_ix2' {t : Th} {M : Mem} {Q : QD} (h : Q (.int (lowOf t)) M) : ixD t.d (.int 2) M Q := by
  cases t with
  | raw _ _ _ => rw [Th.d]; exact w_ixT2 h
  | made _ _ _ _ _ _ _ => rw [Th.d]; exact w_ixT2 h
theorem d_ix3' {t : Th} {M : Mem} {Q : QD} (h : Q (.int (higOf t)) M) : ixD t.d (.int 3) M Q := by
  cases t with
  | raw _ _ _ => rw [Th.d]; exact w_ixT3 h
  | made _ _ _ _ _ _ _ => rw [Th.d]; exact w_ixT3 h
mutual
theorem any_fl : ∀ t : Th, t.any = true → ∃ x ∈ t.fl, 0 < lowOf x
  | .raw h lo hi, e => ⟨_, List.mem_singleton.mpr rfl, by have e : decide (0 < lo) = true := e; exact of_decide_eq_true e⟩
  | .made h lo hi sh u w ps, e => by
    simp only [Th.any, Bool.or_eq_true, decide_eq_true_eq] at e
    rcases e with e | e
    · exact ⟨_, List.mem_cons_self, e⟩
    · obtain ⟨x, h1, h2⟩ := any_fls ps e
      exact ⟨x, List.mem_cons_of_mem _ h1, h2⟩
theorem any_fls : ∀ ts : List Th, Th.anys ts = true → ∃ x ∈ Th.fls ts, 0 < lowOf x
  | [], e => by cases e
  | t :: ts, e => by
    simp only [Th.anys, Bool.or_eq_true] at e
    rcases e with e | e
    · obtain ⟨x, h1, h2⟩ := any_fl t e
      exact ⟨x, List.mem_append_left _ h1, h2⟩
    · obtain ⟨x, h1, h2⟩ := any_fls ts e
      exact ⟨x, List.mem_append_right _ h1, h2⟩
end
theorem low_loop {nx bk ct : SD → Mem → Prop} {rt : QD} {Xd : XD} {d0 : Option D} {f w m v : Addr} {W : Mem → Prop} {M : Mem} (hW : W M) (h : rt (.tup [.ref f, .ref w, .ref m, .ref v]) M) : ∀ (ts : List Th) (o : Option D), (∃ x ∈ ts, 0 < lowOf x) →
    sForL (gNm 5) (sIf (dTst (dOp gtD (dOp ixD (dVar 5) (dC (.int 2))) (dC (.int 0)))) (sRet (dTup (dCons (dVar 1) (dCons (dVar 2) (dCons (dVar 3) (dCons (dVar 4) (dNil))))))) (sNx)) ⟨nx, rt, bk, ct, Xd⟩ W (Th.ds ts) [d0, some (.ref f), some (.ref w), some (.ref m), some (.ref v), o] M
  | [], _, ⟨x, hx, _⟩ => by cases hx
  | t :: ts, o, ⟨x, hx, hl⟩ => by
    refine w_forCons hW ?_
    repeat fail
    refine d_ix2' ?_
    repeat fail
    refine w_ifd (fun z => ?_) fun z => ?_
    · repeat fail
      exact h
    · repeat fail
      refine low_loop hW h ts _ ?_
      rcases List.mem_cons.mp hx with rfl | hx
      · exact absurd hl z
      · exact ⟨x, hx, hl⟩
theorem over_k {t : Th} (hg : t.good) {M : Mem} {Q : QD} {Xd : XD} (h : Q (.tup [.lst (Th.ds t.fl), .lst (t.whs 0 .non), .lst ((t.mds 0).map nI), .lst ((t.mvn 0).map nI)]) M) : Wlook_over [t.d] M Q Xd := by
  obtain ⟨h1, h2, h3, h4, h5, h6⟩ := hg
  refine Elook_over ?_
  repeat fail
  refine w_lstO ?_
  repeat fail
  intro f hf
  repeat fail
  refine w_lstO ?_
  repeat fail
  intro w hw
  repeat fail
  refine w_lstO ?_
  repeat fail
  intro m hm
  repeat fail
  refine w_lstO ?_
  repeat fail
  intro v hv
  repeat fail
  have nfw : f ≠ w := fun e => by rw [← e, Mem.put_same] at hw; cases hw
  have nfm : f ≠ m := fun e => by rw [← e, Mem.put_ne nfw, Mem.put_same] at hm; cases hm
  have nwm : w ≠ m := fun e => by rw [← e, Mem.put_same] at hm; cases hm
  have nfv : f ≠ v := fun e => by rw [← e, Mem.put_ne nfm, Mem.put_ne nfw, Mem.put_same] at hv; cases hv
  have nwv : w ≠ v := fun e => by rw [← e, Mem.put_ne nwm, Mem.put_same] at hv; cases hv
  have nmv : m ≠ v := fun e => by rw [← e, Mem.put_same] at hv; cases hv
  rw [Mem.put_ne (Ne.symm nfw)] at hw
  rw [Mem.put_ne (Ne.symm nwm), Mem.put_ne (Ne.symm nfm)] at hm
  rw [Mem.put_ne (Ne.symm nmv), Mem.put_ne (Ne.symm nwv), Mem.put_ne (Ne.symm nfv)] at hv
  have ne : Ne4 f w m v := ⟨nfw, nfm, nfv, nwm, nwv, nmv⟩
  have S : S4 M f w m v [] [] (([] : List Nat).map nI) (([] : List Nat).map nI) ((((M.put f (.lst [])).put w (.lst [])).put m (.lst [])).put v (.lst [])) :=
    ⟨by rw [Mem.put_ne nfv, Mem.put_ne nfm, Mem.put_ne nfw, Mem.put_same], by rw [Mem.put_ne nwv, Mem.put_ne nwm, Mem.put_same], by rw [Mem.put_ne nmv, Mem.put_same]; rfl, Mem.put_same, fun x a b c d => by rw [Mem.put_ne d, Mem.put_ne c, Mem.put_ne b, Mem.put_ne a]⟩
  generalize (((M.put f (.lst [])).put w (.lst [])).put m (.lst [])).put v (.lst []) = M1 at S
  refine look_k 8 t .non f w m v [] [] [] [] M M1 _ _ ne h2 (by omega) (by simp; omega) (by simp) rfl (by simp) (by simp; omega) S fun M2 S2 => ?_
  simp only [List.nil_append, List.length_nil] at S2
  repeat fail
  refine w_lenR S2.hm ?_
  repeat fail
  have hst : 0 < (t.mds 0).length := by
    rw [mds_len]
    cases t with
    | raw _ _ _ => cases h1
    | made _ _ _ _ _ _ ps => simp only [Th.st]; omega
  refine w_ifdF (by rw [List.length_map]; omega) ?_
  repeat fail
  refine w_lenR S2.hv ?_
  repeat fail
  refine w_ifdF (by rw [List.length_map, mvn_len]; omega) ?_
  repeat fail
  refine w_itemR S2.hf ?_
  refine low_loop (wat_some rfl) ?_ _ none (any_fl t h6)
  refine lo_frzT 0 (by rfl) S2.hf ?_
  refine lo_frzT 1 (by rfl) ((Mem.del_ne (Ne.symm nfw)).trans S2.hw) ?_
  refine lo_frzT 2 (by rfl) ((Mem.del_ne (Ne.symm nwm)).trans ((Mem.del_ne (Ne.symm nfm)).trans S2.hm)) ?_
  refine lo_frzT 3 (by rfl) ((Mem.del_ne (Ne.symm nmv)).trans ((Mem.del_ne (Ne.symm nwv)).trans ((Mem.del_ne (Ne.symm nfv)).trans S2.hv))) ?_
  have eM : (((M2.del f).del w).del m).del v = M := by
    funext x
    by_cases ev : x = v
    · subst ev; rw [Mem.del_same, hv]
    rw [Mem.del_ne ev]
    by_cases em : x = m
    · subst em; rw [Mem.del_same, hm]
    rw [Mem.del_ne em]
    by_cases ew : x = w
    · subst ew; rw [Mem.del_same, hw]
    rw [Mem.del_ne ew]
    by_cases ef : x = f
    · subst ef; rw [Mem.del_same, hf]
    rw [Mem.del_ne ef]
    exact S2.o x ef ew em ev
  rw [eM]
  exact lo_same h
/-! ### fractions -/
theorem fraction_k {p q lo hi : Int} {M : Mem} {Q : QD} {Xd : XD} (hq : 0 < q) (hc : Int.gcd p q = 1) (h1 : lo * q ≤ p) (h2 : p ≤ hi * q) (w1 : CMulW lo q) (w2 : CMulW hi q) (h : Q (.bl true) M) : Wis_fraction [.tup [.int p, .int q], .int lo, .int hi] M Q Xd := by
  refine Eis_fraction ?_
  repeat fail
  refine w_ifF ?_
  repeat fail
  refine w_orD (fun z => ?_) fun z => ?_
  · repeat fail
    refine w_mulI w1 ?_
    repeat fail
    refine w_chdT h1 ?_
    repeat fail
    refine w_mulI w2 ?_
    repeat fail
    rw [decide_eq_true h2]
    exact lo_same h
  · repeat fail
    refine w_andD (by omega) ?_
    repeat fail
    have e : ((Nat.gcd p.natAbs q.natAbs : Nat) : Int) = 1 := by
      have : Nat.gcd p.natAbs q.natAbs = 1 := hc
      omega
    rw [decide_eq_true e]
    repeat fail
    refine w_mulI w1 ?_
    repeat fail
    refine w_chdT h1 ?_
    repeat fail
    refine w_mulI w2 ?_
    repeat fail
    rw [decide_eq_true h2]
    exact lo_same h
theorem lowest_k {p q : Int} {M : Mem} {Q : QD} {Xd : XD} (hq : 0 < q) (b : q.natAbs ≤ 2 ^ 4000) (h : Q (frD (lt p q)) M) : Wlowest_terms [.int p, .int q] M Q Xd := by
  refine Elowest_terms ?_
  have hg : (0 : Int) < (Nat.gcd p.natAbs q.natAbs : Nat) := gcd_pos' (p := p) hq
  have hgb : Nat.gcd p.natAbs q.natAbs ≤ 2 ^ 4000 := Nat.le_trans (Nat.gcd_le_right _ (by omega)) b
  repeat fail
  refine w_fdivI (divW2 (b := 4000) hg hgb (by decide)) ?_
  repeat fail
  refine w_fdivI (divW2 (b := 4000) hg hgb (by decide)) ?_
  repeat fail
  exact lo_same h
/-- a price of a thing -/
structure FP (t : Th) (f : Int × Int) : Prop where
  pos : 0 < f.2
  cop : Int.gcd f.1 f.2 = 1
  dvd : f.2 ∣ 2100
  lo : lowOf t * f.2 ≤ f.1
  hi : f.1 ≤ higOf t * f.2
  bd : bnd (lowOf t) (higOf t)
inductive FPs : List Th → List (Int × Int) → Prop
  | nil : FPs [] []
  | cons {t : Th} {f : Int × Int} {ts : List Th} {fs : List (Int × Int)} (h : FP t f) (r : FPs ts fs) : FPs (t :: ts) (f :: fs)
theorem FPs.len {ts : List Th} {fs : List (Int × Int)} (h : FPs ts fs) : fs.length = ts.length := by
  induction h with
  | nil => rfl
  | cons _ _ ih => rw [List.length_cons, List.length_cons, ih]
theorem dvd_le {q : Int} (h : q ∣ 2100) (h0 : 0 < q) : q ≤ 2100 := Int.le_of_dvd (by decide) h
theorem prices_walk {nx bk ct : SD → Mem → Prop} {rt : QD} {Xd : XD} {d0 : D} {W : Mem → Prop} {M : Mem} (hW : W M) {all : List (Int × Int)} (hl : all.length ≤ 1000) (h : ∀ o2 o3, nx [some d0, some (.tup (all.map frD)), o2, o3] M) : ∀ (ts : List Th) (fs pre : List (Int × Int)) (o2 o3 : Option D), FPs ts fs → all = pre ++ fs →
    sForL (gTp 2 (gCo (gNm 2) (gCo (gNm 3) (gNi)))) (sIf (tNotD (dTru (dCall Wis_fraction [] (dCons (dOp ixD (dVar 1) (dVar 2)) (dCons (dOp ixD (dVar 3) (dC (.int 2))) (dCons (dOp ixD (dVar 3) (dC (.int 3))) (dNil))))))) (sNever) (sNx)) ⟨nx, rt, bk, ct, Xd⟩ W (enmFrom pre.length (Th.ds ts)) [some d0, some (.tup (all.map frD)), o2, o3] M
  | [], [], pre, o2, o3, .nil, e => w_forNil hW (h _ _)
  | t :: ts, f :: fs, pre, o2, o3, .cons hf hr, e => by
    rw [Th.ds, enmFrom]
    refine w_forCons hW ?_
    repeat fail
    have e1 : (all.map frD)[pre.length]? = some (frD f) := by rw [e, List.getElem?_map, List.getElem?_append_right (Nat.le_refl _)]; simp
    refine w_ixT (atI_nat e1) ?_
    repeat fail
    refine d_ix2' ?_
    repeat fail
    refine d_ix3' ?_
    repeat fail
    have hb := dvd_le hf.dvd hf.pos
    obtain ⟨b1, b2, b3⟩ := hf.bd
    have hp := hf.pos
    refine fraction_k hf.pos hf.cop hf.lo hf.hi (mulW2 (a := 20) (b := 12) (by omega) (by omega) (by decide)) (mulW2 (a := 20) (b := 12) (by omega) (by omega) (by decide)) ?_
    repeat fail
    have := prices_walk (bk := bk) (ct := ct) (rt := rt) (Xd := Xd) hW hl h ts fs (pre ++ [f]) (some (.int (pre.length : Int))) (some t.d) hr (by rw [e, List.append_assoc]; rfl)
    rw [List.length_append, List.length_singleton] at this
    exact this
theorem need_k {ts : List Th} {fs : List (Int × Int)} {M : Mem} {Q : QD} {Xd : XD} (hf : FPs ts fs) (hl : ts.length ≤ 1000) (h : Q (.tup (fs.map frD)) M) : Wneed_prices [.lst (Th.ds ts), .tup (fs.map frD)] M Q Xd := by
  have e := hf.len
  refine Eneed_prices ?_
  repeat fail
  refine w_ifnd (fun z => ?_) fun z => ?_
  · exact absurd (by rw [List.length_map, ds_map, List.length_map, e]) z
  repeat fail
  refine prices_walk wat_none (by omega) (fun o2 o3 => ?_) ts fs [] none none hf rfl
  repeat fail
  exact lo_same h
/-! ### the unit -/
def unitF (u : Int) (fs : List (Int × Int)) : Int := fs.foldl (fun u f => ((Nat.lcm u.natAbs f.2.natAbs : Nat) : Int)) u
theorem unitF_ok : ∀ (fs : List (Int × Int)) (u : Int), 0 < u → u ∣ 2100 → (∀ f ∈ fs, 0 < f.2 ∧ f.2 ∣ 2100) → (0 < unitF u fs ∧ unitF u fs ∣ 2100) ∧ u ∣ unitF u fs ∧ ∀ f ∈ fs, f.2 ∣ unitF u fs
  | [], u, h0, h1, _ => ⟨⟨h0, h1⟩, Int.dvd_refl _, fun f hf => by cases hf⟩
  | f :: fs, u, h0, h1, h2 => by
    have hf := h2 f List.mem_cons_self
    have p : (0 : Int) < ((Nat.lcm u.natAbs f.2.natAbs : Nat) : Int) := by
      have : 0 < Nat.lcm u.natAbs f.2.natAbs := Nat.lcm_pos (by omega) (by omega)
      omega
    have d : ((Nat.lcm u.natAbs f.2.natAbs : Nat) : Int) ∣ 2100 := by
      have a1 : u.natAbs ∣ 2100 := by have := Int.natAbs_dvd_natAbs.mpr h1; exact this
      have a2 : f.2.natAbs ∣ 2100 := by have := Int.natAbs_dvd_natAbs.mpr hf.2; exact this
      exact Int.natCast_dvd_natCast.mpr (Nat.lcm_dvd a1 a2)
    obtain ⟨i1, i2, i3⟩ := unitF_ok fs _ p d fun g hg => h2 g (List.mem_cons_of_mem _ hg)
    have e1 : u ∣ ((Nat.lcm u.natAbs f.2.natAbs : Nat) : Int) := by
      rw [← Int.natAbs_dvd]
      exact Int.natCast_dvd_natCast.mpr (Nat.dvd_lcm_left _ _)
    have e2 : f.2 ∣ ((Nat.lcm u.natAbs f.2.natAbs : Nat) : Int) := by
      rw [← Int.natAbs_dvd]
      exact Int.natCast_dvd_natCast.mpr (Nat.dvd_lcm_right _ _)
    refine ⟨i1, Int.dvd_trans e1 i2, fun g hg => ?_⟩
    rcases List.mem_cons.mp hg with rfl | hg
    · exact Int.dvd_trans e2 i2
    · exact i3 g hg
theorem w_lcm {i j : Int} {M : Mem} {Q : QD} (hw : i.natAbs < 2 ^ 64 ∧ j.natAbs < 2 ^ 64) (h : Q (.int ((Nat.lcm i.natAbs j.natAbs : Nat) : Int)) M) : lcmC [.int i, .int j] M Q := ⟨hw, h⟩
theorem unit_loop {nx bk ct : SD → Mem → Prop} {rt : QD} {Xd : XD} {d0 : D} {W : Mem → Prop} {M : Mem} (hW : W M) : ∀ (fs : List (Int × Int)) (u : Int) (o2 o3 : Option D), 0 < u → u ∣ 2100 → (∀ f ∈ fs, 0 < f.2 ∧ f.2 ∣ 2100) → (∀ o2 o3, nx [some d0, some (.int (unitF u fs)), o2, o3] M) →
    sForL (gTp 2 (gCo (gNm 2) (gCo (gNm 3) (gNi)))) (sSet 1 (dCB lcmC (dCons (dVar 1) (dCons (dVar 3) (dNil))))) ⟨nx, rt, bk, ct, Xd⟩ W (fs.map frD) [some d0, some (.int u), o2, o3] M
  | [], u, o2, o3, _, _, _, h => w_forNil hW (h _ _)
  | f :: fs, u, o2, o3, h0, h1, h2, h => by
    rw [List.map_cons, frD]
    refine w_forCons hW ?_
    repeat fail
    have hf := h2 f List.mem_cons_self
    have k1 := dvd_le h1 h0
    have k2 := dvd_le hf.2 hf.1
    refine w_lcm (by omega) ?_
    repeat fail
    have h3 := unitF_ok [f] u h0 h1 fun g hg => h2 g (by rw [List.mem_singleton] at hg; subst hg; exact List.mem_cons_self)
    exact unit_loop hW fs _ _ _ h3.1.1 h3.1.2 (fun g hg => h2 g (List.mem_cons_of_mem _ hg)) h
theorem unit_k {fs : List (Int × Int)} {M : Mem} {Q : QD} {Xd : XD} (hf : ∀ f ∈ fs, 0 < f.2 ∧ f.2 ∣ 2100) (h : Q (.int (unitF 1 fs)) M) : Wcommon_unit [.tup (fs.map frD)] M Q Xd := by
  refine Ecommon_unit ?_
  repeat fail
  refine unit_loop wat_none fs 1 none none (by decide) (by decide) hf fun o2 o3 => ?_
  repeat fail
  exact lo_same h
def inU (u : Int) (f : Int × Int) : Int := f.1 * (u / f.2)
def inUD (u : Int) : D → D
  | .tup [.int p, .int q] => .int (p * (u / q))
  | _ => .non
theorem units_k {fs : List (Int × Int)} {u : Int} {M : Mem} {Q : QD} {Xd : XD} (hu : 0 < u ∧ u ≤ 2100) (hf : ∀ f ∈ fs, 0 < f.2 ∧ f.2 ≤ 2100 ∧ f.1.natAbs ≤ 2 ^ 64) (hl : fs.length ≤ 1000) (h : Q (.lst ((fs.map (inU u)).map D.int)) M) : Win_units [.tup (fs.map frD), .int u] M Q Xd := by
  refine Ein_units ?_
  repeat fail
  refine w_lc ?_
  repeat fail
  intro p hp
  have hwp : ∀ x0 x1 x2 x3 : Option D, wipeD [x0, x1, x2, x3] [2, 3] = [x0, x1, none, none] := fun _ _ _ _ => rfl
  rw [hwp]
  refine lc_map hp (inUD u) (fun _ => wat_none) (by rw [List.length_map, sizeLine_eq]; omega) (fun d hd acc K hK => ?_) ?_
  · obtain ⟨f, hfm, rfl⟩ := List.mem_map.mp hd
    obtain ⟨f1, f2, f3⟩ := hf f hfm
    unfold frD at hK ⊢
    repeat fail
    refine w_fdivI (divW2 (b := 12) f1 (by omega) (by decide)) ?_
    repeat fail
    have hd1 : u / f.2 ≤ u := Int.ediv_le_self _ (by omega)
    have hd0 : 0 ≤ u / f.2 := Int.ediv_nonneg (by omega) (by omega)
    refine w_mulI (mulW2 (a := 64) (b := 12) f3 (by omega) (by decide)) ?_
    exact hK
  · have e : (fs.map frD).map (inUD u) = (fs.map (inU u)).map D.int := by
      rw [List.map_map, List.map_map]; rfl
    rw [e]
    exact lo_same h
def lowD (u : Int) : D → D
  | .int p => frD (lt p u)
  | _ => .non
theorem fracs_k {vs : List Int} {u : Int} {M : Mem} {Q : QD} {Xd : XD} (hu : 0 < u) (hb : u.natAbs ≤ 2 ^ 4000) (hl : vs.length ≤ 1000) (h : Q (.tup ((vs.map fun v => lt v u).map frD)) M) : Wfractions_of [.lst (vs.map D.int), .int u] M Q Xd := by
  refine Efractions_of ?_
  have hwp : ∀ x0 x1 x2 : Option D, wipeD [x0, x1, x2] [2] = [x0, x1, none] := fun _ _ _ => rfl
  have e : (vs.map D.int).map (lowD u) = (vs.map fun v => lt v u).map frD := by
    rw [List.map_map, List.map_map]; rfl
  repeat fail
  refine w_ifd (fun z => ?_) fun z => ?_
  · repeat fail
    refine w_lc ?_
    repeat fail
    intro p hp
    rw [hwp]
    refine lc_map hp (lowD u) (fun _ => wat_none) (by rw [List.length_map, sizeLine_eq]; omega) (fun d hd acc K hK => ?_) ?_
    · obtain ⟨v, hv, rfl⟩ := List.mem_map.mp hd
      repeat fail
      have e1 : lowD u (.int v) = .tup [.int v, .int 1] := by
        subst z
        show frD (lt v 1) = _
        rw [lt_self (by decide) (by simp)]; rfl
      rw [e1] at hK
      exact hK
    · rw [e]
      repeat fail
      exact lo_same h
  · repeat fail
    refine w_lc ?_
    repeat fail
    intro p hp
    rw [hwp]
    refine lc_map hp (lowD u) (fun _ => wat_none) (by rw [List.length_map, sizeLine_eq]; omega) (fun d hd acc K hK => ?_) ?_
    · obtain ⟨v, hv, rfl⟩ := List.mem_map.mp hd
      repeat fail
      exact lowest_k hu hb hK
    · rw [e]
      repeat fail
      exact lo_same h
end G_madeofhere_k04_whole_counts
set_option maxHeartbeats 1000000
namespace MH
open PySem PySem.Spec PyProof.Rows L2 DL
mutual
theorem fl_rows : ∀ (t : Th) (b : Nat), t.fl = (rows t b).map (·.1)
  | .raw _ _ _, _ => rfl
  | .made _ _ _ _ _ _ ps, b => by rw [Th.fl, rows, List.map_cons, fls_rows ps (b + 1)]
theorem fls_rows : ∀ (ts : List Th) (b : Nat), Th.fls ts = (rowss ts b).map (·.1)
  | [], _ => rfl
  | t :: ts, b => by rw [Th.fls, rowss, List.map_append, fl_rows t b, fls_rows ts (b + t.sz)]
end
def nsAt (R : List (Th × List Nat)) (j : Nat) : List Nat := match R[j]? with
  | some e => e.2
  | none => []
theorem nsAt_cons0 (e : Th × List Nat) (R : List (Th × List Nat)) : nsAt (e :: R) 0 = e.2 := rfl
theorem nsAt_cons (e : Th × List Nat) (R : List (Th × List Nat)) (j : Nat) : nsAt (e :: R) (j + 1) = nsAt R j := rfl
theorem nsAt_left {R S : List (Th × List Nat)} {j : Nat} (h : j < R.length) : nsAt (R ++ S) j = nsAt R j := by
  unfold nsAt; rw [List.getElem?_append_left h]
theorem nsAt_right {R S : List (Th × List Nat)} {j : Nat} (h : R.length ≤ j) : nsAt (R ++ S) j = nsAt S (j - R.length) := by
  unfold nsAt; rw [List.getElem?_append_right h]
theorem nsAt_none {R : List (Th × List Nat)} {j : Nat} (h : R.length ≤ j) : nsAt R j = [] := by
  unfold nsAt; rw [List.getElem?_eq_none h]
theorem nums_rng : ∀ (ts : List Th) (b c : Nat), c ∈ nums b ts → b ≤ c ∧ c < b + Th.szs ts
  | [], _, _, h => by cases h
  | t :: ts, b, c, h => by
    have hp := sz_pos t
    simp only [Th.szs]
    rw [nums, List.mem_cons] at h
    rcases h with rfl | h
    · omega
    · have := nums_rng ts _ c h
      omega
theorem nums_nd : ∀ (ts : List Th) (b : Nat), (nums b ts).Nodup
  | [], _ => List.nodup_nil
  | t :: ts, b => by
    rw [nums, List.nodup_cons]
    refine ⟨fun h => ?_, nums_nd ts _⟩
    have := nums_rng ts _ b h
    have := sz_pos t
    omega
mutual
theorem ns_rng : ∀ (t : Th) (b j c : Nat), c ∈ nsAt (rows t b) j → b < c ∧ c < b + t.sz
  | .raw _ _ _, b, 0, c, h => by cases h
  | .raw _ _ _, b, j + 1, c, h => by cases h
  | .made _ _ _ _ _ _ ps, b, 0, c, h => by
    rw [rows, nsAt_cons0] at h
    have := nums_rng ps _ c h
    simp only [Th.sz]; omega
  | .made _ _ _ _ _ _ ps, b, j + 1, c, h => by
    rw [rows, nsAt_cons] at h
    have := nss_rng ps (b + 1) j c h
    simp only [Th.sz]; omega
theorem nss_rng : ∀ (ts : List Th) (b j c : Nat), c ∈ nsAt (rowss ts b) j → b < c ∧ c < b + Th.szs ts
  | [], b, j, c, h => by cases h
  | t :: ts, b, j, c, h => by
    rw [rowss] at h
    simp only [Th.szs]
    by_cases z : j < (rows t b).length
    · rw [nsAt_left z] at h
      have := ns_rng t b j c h
      omega
    · rw [nsAt_right (by omega)] at h
      have := nss_rng ts _ _ c h
      omega
end
theorem whs_zero (t : Th) (b : Nat) (p : D) : (t.whs b p)[0]? = some p := by cases t <;> rfl
mutual
theorem par_of : ∀ (t : Th) (b : Nat) (par : D) (i : Nat), 0 < i → i < t.sz → ∃ p, (t.whs b par)[i]? = some (nI p) ∧ b ≤ p ∧ p < b + i ∧ ∀ j, j < t.sz → (b + i ∈ nsAt (rows t b) j ↔ b + j = p)
  | .raw _ _ _, b, par, i, h0, h1 => by simp only [Th.sz] at h1; omega
  | .made h lo hi sh u w ps, b, par, 0, h0, h1 => by omega
  | .made h lo hi sh u w ps, b, par, i + 1, h0, h1 => by
    simp only [Th.sz] at h1
    rcases pars_of ps (b + 1) (nI b) i (by omega) with ⟨c1, c2, c3⟩ | ⟨c1, p, c2, c3, c4, c5⟩
    · refine ⟨b, by rw [Th.whs, List.getElem?_cons_succ]; exact c2, Nat.le_refl _, by omega, fun j hj => ?_⟩
      have e : b + (i + 1) = b + 1 + i := by omega
      rw [e, rows]
      cases j with
      | zero => rw [nsAt_cons0]; exact ⟨fun _ => by omega, fun _ => c1⟩
      | succ j =>
        rw [nsAt_cons]
        simp only [Th.sz] at hj
        exact ⟨fun z => absurd z (c3 j (by omega)), fun z => by omega⟩
    · refine ⟨p, by rw [Th.whs, List.getElem?_cons_succ]; exact c2, by omega, by omega, fun j hj => ?_⟩
      have e : b + (i + 1) = b + 1 + i := by omega
      rw [e, rows]
      cases j with
      | zero => rw [nsAt_cons0]; exact ⟨fun z => absurd z c1, fun z => by omega⟩
      | succ j =>
        rw [nsAt_cons]
        simp only [Th.sz] at hj
        rw [c5 j (by omega)]; omega
theorem pars_of : ∀ (ts : List Th) (b : Nat) (par : D) (i : Nat), i < Th.szs ts →
    (b + i ∈ nums b ts ∧ (Th.whss ts b par)[i]? = some par ∧ ∀ j, j < Th.szs ts → b + i ∉ nsAt (rowss ts b) j) ∨
    (b + i ∉ nums b ts ∧ ∃ p, (Th.whss ts b par)[i]? = some (nI p) ∧ b ≤ p ∧ p < b + i ∧ ∀ j, j < Th.szs ts → (b + i ∈ nsAt (rowss ts b) j ↔ b + j = p))
  | [], b, par, i, h => by simp only [Th.szs] at h; omega
  | t :: ts, b, par, i, h => by
    simp only [Th.szs] at h ⊢
    have hp := sz_pos t
    by_cases z : i < t.sz
    · by_cases z0 : i = 0
      · subst z0
        refine .inl ⟨by rw [nums]; exact List.mem_cons_self, ?_, fun j hj => ?_⟩
        · rw [Th.whss, List.getElem?_append_left (by rw [whs_len]; omega)]; exact whs_zero t b par
        · intro hm
          have := nss_rng (t :: ts) b j _ hm
          omega
      · obtain ⟨p, c2, c3, c4, c5⟩ := par_of t b par i (by omega) z
        refine .inr ⟨fun hm => ?_, p, ?_, c3, c4, fun j hj => ?_⟩
        · rw [nums, List.mem_cons] at hm
          rcases hm with hm | hm
          · omega
          · have := nums_rng ts _ _ hm
            omega
        · rw [Th.whss, List.getElem?_append_left (by rw [whs_len]; omega)]; exact c2
        · rw [rowss]
          by_cases y : j < t.sz
          · rw [nsAt_left (by rw [rows_len]; exact y)]; exact c5 j y
          · rw [nsAt_right (by rw [rows_len]; omega)]
            refine ⟨fun hm => ?_, fun e => by omega⟩
            have := nss_rng ts _ _ _ hm
            omega
    · have e : b + i = b + t.sz + (i - t.sz) := by omega
      rcases pars_of ts (b + t.sz) par (i - t.sz) (by omega) with ⟨c1, c2, c3⟩ | ⟨c1, p, c2, c3, c4, c5⟩
      · refine .inl ⟨by rw [nums, e]; exact List.mem_cons_of_mem _ c1, ?_, fun j hj => ?_⟩
        · rw [Th.whss, List.getElem?_append_right (by rw [whs_len]; omega), whs_len]; exact c2
        · rw [rowss]
          by_cases y : j < t.sz
          · rw [nsAt_left (by rw [rows_len]; exact y)]
            intro hm
            have := ns_rng t b j _ hm
            omega
          · rw [nsAt_right (by rw [rows_len]; omega), rows_len, e]
            exact c3 (j - t.sz) (by omega)
      · refine .inr ⟨fun hm => ?_, p, ?_, by omega, by omega, fun j hj => ?_⟩
        · rw [nums, List.mem_cons] at hm
          rcases hm with hm | hm
          · omega
          · rw [e] at hm; exact c1 hm
        · rw [Th.whss, List.getElem?_append_right (by rw [whs_len]; omega), whs_len]; exact c2
        · rw [rowss]
          by_cases y : j < t.sz
          · rw [nsAt_left (by rw [rows_len]; exact y)]
            refine ⟨fun hm => ?_, fun e2 => by omega⟩
            have := ns_rng t b j _ hm
            omega
          · rw [nsAt_right (by rw [rows_len]; omega), rows_len, e, c5 (j - t.sz) (by omega)]
            omega
end
/-! ### what has been added up to a number -/
def sumG (k : Nat) (f : Nat → Int) : List Nat → Int
  | [] => 0
  | c :: L => (if k ≤ c then f c else 0) + sumG k f L
theorem sumG_all {k : Nat} {f : Nat → Int} : ∀ {L : List Nat}, (∀ c ∈ L, k ≤ c) → sumG k f L = (L.map f).sum
  | [], _ => rfl
  | c :: L, h => by
    rw [sumG, if_pos (h c List.mem_cons_self), sumG_all fun d hd => h d (List.mem_cons_of_mem _ hd), List.map_cons, List.sum_cons]
theorem sumG_none {k : Nat} {f : Nat → Int} : ∀ {L : List Nat}, (∀ c ∈ L, c < k) → sumG k f L = 0
  | [], _ => rfl
  | c :: L, h => by
    have := h c List.mem_cons_self
    rw [sumG, if_neg (by omega), sumG_none fun d hd => h d (List.mem_cons_of_mem _ hd)]; rfl
theorem sumG_not {k : Nat} {f : Nat → Int} : ∀ {L : List Nat}, k ∉ L → sumG k f L = sumG (k + 1) f L
  | [], _ => rfl
  | c :: L, h => by
    have ih := sumG_not (k := k) (f := f) (L := L) (fun z => h (List.mem_cons_of_mem _ z))
    have ne : c ≠ k := fun e => h (by rw [e]; exact List.mem_cons_self)
    rw [sumG, sumG, ih]
    by_cases z : k ≤ c
    · rw [if_pos z, if_pos (by omega)]
    · rw [if_neg z, if_neg (by omega)]
theorem sumG_in {k : Nat} {f : Nat → Int} : ∀ {L : List Nat}, L.Nodup → k ∈ L → sumG k f L = sumG (k + 1) f L + f k
  | [], _, h => by cases h
  | c :: L, hn, h => by
    rw [List.nodup_cons] at hn
    rw [sumG, sumG]
    by_cases e : c = k
    · subst e
      rw [sumG_not hn.1, if_pos (Nat.le_refl _), if_neg (by omega)]; omega
    · have hk : k ∈ L := by
        rcases List.mem_cons.mp h with z | z
        · exact absurd z.symm e
        · exact z
      rw [sumG_in hn.2 hk]
      by_cases z : k ≤ c
      · rw [if_pos z, if_pos (by omega)]; omega
      · rw [if_neg z, if_neg (by omega)]; omega
theorem set_range {α : Type} {n p : Nat} {F : Nat → α} {v : α} : ((List.range n).map F).set p v = (List.range n).map fun j => if j = p then v else F j := by
  apply List.ext_getElem?
  intro i
  rw [List.getElem?_set]
  by_cases hi : i < n
  · rw [List.getElem?_map, List.getElem?_range hi, List.getElem?_map, List.getElem?_range hi]
    by_cases e : p = i
    · subst e; simp [hi]
    · have e' : ¬ i = p := fun z => e z.symm
      simp [e, e']
  · rw [List.getElem?_eq_none (l := (List.range n).map fun j => if j = p then v else F j) (by simpa using hi)]
    split
    · rename_i e
      subst e
      rw [if_neg (by simpa using hi)]
    · rw [List.getElem?_eq_none (by simpa using hi)]
theorem map_range_congr {α : Type} {n : Nat} {F G : Nat → α} (h : ∀ j, j < n → F j = G j) : (List.range n).map F = (List.range n).map G :=
  List.map_congr_left fun j hj => h j (List.mem_range.mp hj)
end MH
set_option maxHeartbeats 1000000
namespace G_madeofhere_k04_whole_counts
open PySem PySem.Spec PyProof.Rows L2 DL MH
local macro_rules | `(tactic| fail) => `(tactic| first | with_reducible refine w_seq ?_ | with_reducible refine w_nx ?_ | with_reducible refine w_ret ?_ | with_reducible refine w_retN ?_ | with_reducible refine w_expr ?_ | with_reducible refine w_ifS ?_ | with_reducible refine w_asg ?_ | with_reducible refine w_augS ?_ | with_reducible refine w_for ?_ | with_reducible refine w_bk ?_ | with_reducible refine w_ct ?_ | with_reducible refine w_set0 ?_ | with_reducible refine w_set1 ?_ | with_reducible refine w_set2 ?_ | with_reducible refine w_set3 ?_ | with_reducible refine w_set4 ?_ | with_reducible refine w_set5 ?_ | with_reducible refine w_set6 ?_ | with_reducible refine w_set7 ?_ | with_reducible refine w_set8 ?_ | with_reducible refine w_set9 ?_ | with_reducible refine w_set10 ?_ | with_reducible refine w_set11 ?_ | with_reducible refine w_set12 ?_ | with_reducible refine w_set13 ?_ | with_reducible refine w_var0 ?_ | with_reducible refine w_var1 ?_ | with_reducible refine w_var2 ?_ | with_reducible refine w_var3 ?_ | with_reducible refine w_var4 ?_ | with_reducible refine w_var5 ?_ | with_reducible refine w_var6 ?_ | with_reducible refine w_var7 ?_ | with_reducible refine w_var8 ?_ | with_reducible refine w_var9 ?_ | with_reducible refine w_var10 ?_ | with_reducible refine w_var11 ?_ | with_reducible refine w_var12 ?_ | with_reducible refine w_var13 ?_ | with_reducible refine w_gnm0 ?_ | with_reducible refine w_gnm1 ?_ | with_reducible refine w_gnm2 ?_ | with_reducible refine w_gnm3 ?_ | with_reducible refine w_gnm4 ?_ | with_reducible refine w_gnm5 ?_ | with_reducible refine w_gnm6 ?_ | with_reducible refine w_gnm7 ?_ | with_reducible refine w_gnm8 ?_ | with_reducible refine w_gnm9 ?_ | with_reducible refine w_gnm10 ?_ | with_reducible refine w_gnm11 ?_ | with_reducible refine w_gnm12 ?_ | with_reducible refine w_gnm13 ?_ | with_reducible refine w_gTp rfl ?_ | with_reducible refine w_gCo ?_ | with_reducible refine w_gNi ?_ | with_reducible refine w_gSb ?_ | with_reducible refine w_c ?_ | with_reducible refine w_op ?_ | with_reducible refine w_nil ?_ | with_reducible refine w_cons ?_ | with_reducible refine w_tup ?_ | with_reducible refine w_lst ?_ | with_reducible refine w_cb ?_ | with_reducible refine w_call ?_ | with_reducible refine w_ite ?_ | with_reducible refine w_and ?_ | with_reducible refine w_or ?_ | with_reducible refine w_not ?_ | with_reducible refine w_andT ?_ | with_reducible refine w_andF ?_ | with_reducible refine w_orT ?_ | with_reducible refine w_orF ?_ | with_reducible refine w_neg ?_ | with_reducible refine w_un ?_ | with_reducible refine w_tst ?_ | with_reducible refine w_tstB ?_ | with_reducible refine w_tru ?_ | with_reducible refine w_truB ?_ | with_reducible refine w_tAnd ?_ | with_reducible refine w_tOr ?_ | with_reducible refine w_tNot ?_ | with_reducible refine w_chain ?_ | with_reducible refine w_chT ?_ | with_reducible refine w_chF ?_ | with_reducible refine w_ifT ?_ | with_reducible refine w_ifF ?_ | with_reducible refine w_ifnT ?_ | with_reducible refine w_ifnF ?_ | with_reducible refine w_rvs ?_ | with_reducible refine w_sl ?_ | with_reducible refine w_oNo ?_ | with_reducible refine w_oSo ?_ | with_reducible refine w_oSoK ?_ | with_reducible refine w_prN ?_ | with_reducible refine w_prC ?_ | with_reducible refine w_addI ?_ | with_reducible refine w_subI ?_ | with_reducible refine w_lt ?_ | with_reducible refine w_le ?_ | with_reducible refine w_gt ?_ | with_reducible refine w_ge ?_ | with_reducible refine w_isN ?_ | with_reducible refine w_isnN ?_ | with_reducible refine w_eqI ?_ | with_reducible refine w_neI ?_ | with_reducible refine w_ixT0 ?_ | with_reducible refine w_ixT1 ?_ | with_reducible refine w_ixT2 ?_ | with_reducible refine w_ixT3 ?_ | with_reducible refine w_ixT4 ?_ | with_reducible refine w_ixT5 ?_ | with_reducible refine w_lenL ?_ | with_reducible refine w_lenT ?_ | with_reducible refine w_int ?_ | with_reducible refine w_intB ?_ | with_reducible refine w_abs ?_ | with_reducible refine w_listL ?_ | with_reducible refine w_listT ?_ | with_reducible refine w_tupL ?_ | with_reducible refine w_tupT ?_ | with_reducible refine w_int2 ?_ | with_reducible refine w_gcd ?_ | with_reducible refine w_app ?_ | with_reducible refine w_iSeq ?_ | with_reducible refine w_itemT ?_ | with_reducible refine w_itemL ?_ | with_reducible refine w_iRng ?_ | with_reducible refine w_iEnm ?_ | with_reducible refine w_sg1 ?_ | with_reducible refine w_iRev ?_ | with_reducible refine w_rg1 ?_ | with_reducible refine w_rg1K ?_ | with_reducible refine w_notB ?_)
def mK : List Key := [.inr "cells", .inr "left", .inr "spot"]
def mV (cells : List Int) (left spot : Int) : List D := [.lst (cells.map D.int), .int left, .int spot]
theorem vl_l (c : List Int) (l s : Int) : valD mK (mV c l s) (.inr "left") = some (.int l) := by rfl
theorem vl_s (c : List Int) (l s : Int) : valD mK (mV c l s) (.inr "spot") = some (.int s) := by rfl
theorem vl_c (c : List Int) (l s : Int) : valD mK (mV c l s) (.inr "cells") = some (.lst (c.map D.int)) := by rfl
theorem pt_l (c : List Int) (l s l' : Int) : putD mK (mV c l s) (.inr "left") (.int l') = (mK, mV c l' s) := by rfl
theorem pt_s (c : List Int) (l s s' : Int) : putD mK (mV c l s) (.inr "spot") (.int s') = (mK, mV c l s') := by rfl
theorem mK_nd : mK.Nodup := by decide
theorem ix_d {M : Mem} {a : Addr} {ks : List Key} {ds : List D} {x : Str} {Q : QD} (h : M a = some (.dct ks ds)) : ixD (.ref a) (.str x) M Q = match valD ks ds (.inr x) with | some d => Q d M | none => False := by
  simp only [ixD, ixO, vw, vwO, h, keyD]
  all_goals (cases valD ks ds (.inr x) <;> rfl)
theorem set_d {M : Mem} {a : Addr} {ks : List Key} {ds : List D} {x : Str} {v : D} {k : Mem → Prop} (h : M a = some (.dct ks ds)) : setK (.ref a) (.str x) v k M = ((ks.Nodup ∧ ks.length < 1000) ∧ k (M.put a (.dct (putD ks ds (.inr x) v).1 (putD ks ds (.inr x) v).2))) := by
  simp [setK, h, keyD]
theorem put_at {M : Mem} {a : Addr} {o : MO} : (M.put a o) a = some o := Mem.put_same
theorem put_put {M : Mem} {a : Addr} {o u : MO} : (M.put a o).put a u = M.put a u := by
  funext b
  by_cases h : b = a
  · subst h; rw [Mem.put_same, Mem.put_same]
  · rw [Mem.put_ne h, Mem.put_ne h, Mem.put_ne h]
theorem mod_i {i j : Int} {M : Mem} {Q : QD} : modD (.int i) (.int j) M Q = (0 < j ∧ Q (.int (i % j)) M) := rfl
theorem fdiv_i {i j : Int} {M : Mem} {Q : QD} : fdivD (.int i) (.int j) M Q = (CDivW i j ∧ Q (.int (i / j)) M) := rfl
theorem mul_i {i j : Int} {M : Mem} {Q : QD} : mulD (.int i) (.int j) M Q = (CMulW i j ∧ Q (.int (i * j)) M) := rfl
theorem add_i {i j : Int} {M : Mem} {Q : QD} : addD (.int i) (.int j) M Q = Q (.int (i + j)) M := rfl
theorem int_i {i : Int} {M : Mem} {Q : QD} : intC [.int i] M Q = Q (.int i) M := rfl
theorem gt_i {i j : Int} {M : Mem} {Q : QD} : gtD (.int i) (.int j) M Q = Q (.bl (decide (i > j))) M := rfl
theorem len_l {ds : List D} {M : Mem} {Q : QD} : lenC [.lst ds] M Q = Q (.int ds.length) M := rfl
theorem ix_l {ns : List Int} {j : Int} {M : Mem} {Q : QD} (h0 : 0 ≤ j) (h1 : j < ns.length) : ixD (.lst (ns.map D.int)) (.int j) M Q = Q (.int (ns[j.toNat]'(by omega))) M := by
  have e : atI (ns.map D.int) j = some (.int (ns[j.toNat]'(by omega))) := by
    have z := atI_nat (xs := ns.map D.int) (j := j.toNat) (v := .int (ns[j.toNat]'(by omega))) (by rw [List.getElem?_map, List.getElem?_eq_getElem (by omega)]; rfl)
    rwa [Int.toNat_of_nonneg h0] at z
  simp only [ixD, ixO, vw, e]
theorem divW {i j : Int} (h : 0 < j) (h2 : j < 2 ^ 60) : CDivW i j := ⟨h, by
  have : j.natAbs.log2 < 60 := (Nat.log2_lt (by omega)).mpr (by omega)
  omega⟩
theorem mulW {i j : Int} (h : i.natAbs < 2 ^ 200) (h2 : j.natAbs < 2 ^ 200) : CMulW i j := by
  unfold CMulW
  have a : ∀ n : Nat, n < 2 ^ 200 → n.log2 ≤ 200 := fun n hn => by
    by_cases z : n = 0
    · subst z; decide
    · exact Nat.le_of_lt ((Nat.log2_lt z).mpr hn)
  have := a _ h
  have := a _ h2
  omega
theorem draw_ok (a : Addr) (M : Mem) (cells : List Int) (left spot limit : Int) (hc : cells ≠ []) (hl : 0 < limit) (hl2 : limit < 2 ^ 60) (hs : 0 ≤ spot) (hs2 : spot < 2 ^ 60) (hM : M a = some (.dct mK (mV cells left spot))) (Q : QD) (Xd : XD)
    (h : ∀ r l' s' : Int, 0 ≤ r → r < limit → spot ≤ s' → s' ≤ spot + 1 → Q (.int r) (M.put a (.dct mK (mV cells l' s')))) : W_law_draw [.ref a, .int limit] M Q Xd := by
  unfold W_law_draw bodyD B_law_draw
  simp only [sSeq, sIf, dTst, dOp, dVar, dC, startD, N__law_draw, List.map, List.length, List.replicate, List.getElem?_cons_zero, List.getElem?_cons_succ, List.cons_append, List.nil_append, sNx, sSet, sAsg, sRet, gSb, dCB, dCons, dNil, List.set,
    ix_d hM, vl_l, vl_s, vl_c, gt_i, tstB, int_i, mod_i, fdiv_i, set_d hM, pt_l, pt_s]
  by_cases z : left > 0
  · rw [decide_eq_true z, if_pos rfl]
    refine ⟨hl, divW hl hl2, ⟨mK_nd, by decide⟩, lo_same (h _ _ _ (Int.emod_nonneg _ (by omega)) (Int.emod_lt_of_pos _ hl) (Int.le_refl _) (by omega))⟩
  · rw [decide_eq_false z, if_neg Bool.false_ne_true]
    have hlen : 0 < cells.length := List.length_pos_iff.mpr hc
    have j0 : 0 ≤ (spot + 1) % (cells.length : Int) := Int.emod_nonneg _ (by omega)
    have j1 : (spot + 1) % (cells.length : Int) < cells.length := Int.emod_lt_of_pos _ (by omega)
    simp only [add_i, set_d hM, pt_s, ix_d put_at, vl_c, int_i, len_l, mod_i, List.length_map, ix_l j0 j1, mul_i, fdiv_i]
    generalize cells[((spot + 1) % (cells.length : Int)).toNat]'(by omega) = c
    have b1 : 0 ≤ c % 2147483629 := Int.emod_nonneg _ (by decide)
    have b2 : c % 2147483629 < 2147483629 := Int.emod_lt_of_pos _ (by decide)
    generalize c % 2147483629 = c1 at b1 b2
    have e0 : 23 * (spot + 1) * (spot + 1) = 23 * ((spot + 1) * (spot + 1)) := Int.mul_assoc _ _ _
    have q0 : 0 ≤ (spot + 1) * (spot + 1) := Int.mul_nonneg (by omega) (by omega)
    have q1 : (spot + 1) * (spot + 1) ≤ 2 ^ 60 * 2 ^ 60 := Int.mul_le_mul (by omega) (by omega) (by omega) (by decide)
    rw [e0]
    generalize (spot + 1) * (spot + 1) = sq at q0 q1
    have r1 : 0 ≤ (c1 + 6133 * (spot + 1) + 23 * sq) * 48271 % 2147483647 := Int.emod_nonneg _ (by decide)
    have r2 : (c1 + 6133 * (spot + 1) + 23 * sq) * 48271 % 2147483647 < 2147483647 := Int.emod_lt_of_pos _ (by decide)
    refine ⟨⟨mK_nd, by decide⟩, by omega, by decide, mulW (by omega) (by omega), mulW (by omega) (by omega), mulW (by omega) (by omega), mulW (by omega) (by omega), by decide, mulW (by omega) (by omega), mulW (by omega) (by omega), by decide, divW (by decide) (by decide), hl,
      lo_same (h _ _ _ (Int.emod_nonneg _ (by omega)) (Int.emod_lt_of_pos _ hl) (by omega) (by omega))⟩
/-- the state of the draws stands, its counter not far -/
def Dr (a : Addr) (cells : List Int) (b : Int) (M : Mem) : Prop := ∃ l s : Int, M a = some (.dct mK (mV cells l s)) ∧ 0 ≤ s ∧ s ≤ b
/-- all but the state of the draws stays -/
def Sm (a : Addr) (M M' : Mem) : Prop := ∀ b, b ≠ a → M' b = M b
theorem Sm.refl {a : Addr} {M : Mem} : Sm a M M := fun _ _ => rfl
theorem Sm.trans {a : Addr} {M M1 M2 : Mem} (h : Sm a M M1) (k : Sm a M1 M2) : Sm a M M2 := fun b z => (k b z).trans (h b z)
theorem draw_k {a : Addr} {M : Mem} {cells : List Int} {b limit : Int} (hc : cells ≠ []) (hl : 0 < limit) (hl2 : limit < 2 ^ 60) (hb : b < 2 ^ 50) (hM : Dr a cells b M) {Q : QD} {Xd : XD}
    (h : ∀ (r : Int) (M' : Mem), 0 ≤ r → r < limit → Dr a cells (b + 1) M' → Sm a M M' → Q (.int r) M') : W_law_draw [.ref a, .int limit] M Q Xd := by
  obtain ⟨l, s, h1, h2, h3⟩ := hM
  exact draw_ok a M cells l s limit hc hl hl2 h2 (by omega) h1 Q Xd fun r l' s' r0 r1 s0 s1 => h r _ r0 r1 ⟨l', s', Mem.put_same, by omega, by omega⟩ fun b z => Mem.put_ne z
theorem atI_mem {ds : List D} {i : Int} (h0 : 0 ≤ i) (h1 : i < ds.length) : ∃ d, atI ds i = some d ∧ d ∈ ds := by
  have hi : i.toNat < ds.length := by omega
  have z := atI_nat (xs := ds) (j := i.toNat) (v := ds[i.toNat]) (List.getElem?_eq_getElem hi)
  rw [Int.toNat_of_nonneg h0] at z
  exact ⟨_, z, List.getElem_mem hi⟩

theorem of_k {a : Addr} {M : Mem} {cells : List Int} {b : Int} {ds : List D} (hc : cells ≠ []) (hb : b < 2 ^ 50) (hd : 0 < ds.length) (hd2 : ds.length < 2 ^ 24) (hM : Dr a cells b M) {Q : QD} {Xd : XD}
    (h : ∀ (d : D) (M' : Mem), d ∈ ds → Dr a cells (b + 1) M' → Sm a M M' → Q d M') : W_law_of [.ref a, .lst ds] M Q Xd := by
  refine E_law_of ?_
  repeat fail
  refine draw_k hc (by omega) (by omega) hb hM fun r M' r0 r1 hD hS => ?_
  obtain ⟨d, e, hm⟩ := atI_mem r0 r1
  exact w_ixL e (lo_same (h d M' hm hD hS))
theorem term_k {a : Addr} {M : Mem} {cells : List Int} {b : Int} (hc : cells ≠ []) (hb : b < 2 ^ 49) (hM : Dr a cells b M) {Q : QD} {Xd : XD}
    (h : ∀ (sh : Int) (u w : Bool) (M' : Mem), 0 ≤ sh → sh ≤ 100 → Dr a cells (b + 4) M' → Sm a M M' → Q (termD sh u w) M') : W_law_term [.ref a] M Q Xd := by
  refine E_law_term ?_
  repeat fail
  refine draw_k hc (by omega) (by omega) (by omega) hM fun r1 M1 a1 a2 hD1 hS1 => ?_
  repeat fail
  refine of_k hc (by omega) (by simp) (by simp) hD1 fun d M2 hd hD2 hS2 => ?_
  obtain ⟨sh, rfl, b1, b2⟩ : ∃ sh : Int, d = .int sh ∧ 0 ≤ sh ∧ sh ≤ 100 := by
    simp only [List.mem_cons, List.not_mem_nil, or_false] at hd
    rcases hd with rfl | rfl | rfl | rfl | rfl | rfl <;> exact ⟨_, rfl, by omega, by omega⟩
  repeat fail
  refine of_k hc (by omega) (by simp) (by simp) hD2 fun d M3 hd hD3 hS3 => ?_
  obtain ⟨u, rfl⟩ : ∃ u : Bool, d = .str (upS u) := by
    simp only [List.mem_cons, List.not_mem_nil, or_false] at hd
    rcases hd with rfl | rfl | rfl
    · exact ⟨true, rfl⟩
    · exact ⟨true, rfl⟩
    · exact ⟨false, rfl⟩
  repeat fail
  refine of_k hc (by omega) (by simp) (by simp) hD3 fun d M4 hd hD4 hS4 => ?_
  obtain ⟨w, rfl⟩ : ∃ u : Bool, d = .str (dnS u) := by
    simp only [List.mem_cons, List.not_mem_nil, or_false] at hd
    rcases hd with rfl | rfl | rfl
    · exact ⟨true, rfl⟩
    · exact ⟨true, rfl⟩
    · exact ⟨false, rfl⟩
  repeat fail
  exact lo_same (h sh u w M4 b1 b2 (by have e : b + 4 = b + 1 + 1 + 1 + 1 := by omega
                                       rw [e]; exact hD4) (((hS1.trans hS2).trans hS3).trans hS4))
/-- the state of what is left to draw -/
def lK : List Key := [.inr "moves", .inr "steps", .inr "things"]
def lV (mv st th : Nat) : List D := [.int mv, .int st, .int th]
def Lf (l : Addr) (mv st th : Nat) (M : Mem) : Prop := M l = some (.dct lK (lV mv st th))
theorem lK_nd : lK.Nodup ∧ lK.length < 1000 := by decide
theorem Sm.lf {a l : Addr} {M M' : Mem} {mv st th : Nat} (h : Sm a M M') (ne : l ≠ a) (k : Lf l mv st th M) : Lf l mv st th M' := (h l ne).trans k
theorem vl_m (mv st th : Nat) : valD lK (lV mv st th) (.inr "moves") = some (.int mv) := rfl
theorem vl_st (mv st th : Nat) : valD lK (lV mv st th) (.inr "steps") = some (.int st) := rfl
theorem vl_th (mv st th : Nat) : valD lK (lV mv st th) (.inr "things") = some (.int th) := rfl
/-- but two places all stays -/
def Sm2 (a l : Addr) (M M' : Mem) : Prop := ∀ b, b ≠ a → b ≠ l → M' b = M b
theorem Sm2.refl {a l : Addr} {M : Mem} : Sm2 a l M M := fun _ _ _ => rfl
theorem Sm2.trans {a l : Addr} {M M1 M2 : Mem} (h : Sm2 a l M M1) (k : Sm2 a l M1 M2) : Sm2 a l M M2 := fun b y z => (k b y z).trans (h b y z)
theorem Sm.two {a l : Addr} {M M' : Mem} (h : Sm a M M') : Sm2 a l M M' := fun b y _ => h b y
theorem Dr.le {a : Addr} {cells : List Int} {b c : Int} {M : Mem} (h : Dr a cells b M) (k : b ≤ c) : Dr a cells c M := by
  obtain ⟨l, s, h1, h2, h3⟩ := h
  exact ⟨l, s, h1, h2, by omega⟩
theorem Dr.put {a l : Addr} {cells : List Int} {b : Int} {M : Mem} {o : MO} (h : Dr a cells b M) (ne : a ≠ l) : Dr a cells b (M.put l o) := by
  obtain ⟨x, s, h1, h2, h3⟩ := h
  exact ⟨x, s, by rw [Mem.put_ne ne]; exact h1, h2, h3⟩
theorem span_k {a l : Addr} {M : Mem} {cells : List Int} {b : Int} {mv st th : Nat} (hc : cells ≠ []) (hb : b < 2 ^ 49) (ne : l ≠ a) (hM : Dr a cells b M) (hL : Lf l mv st th M) {Q : QD} {Xd : XD}
    (h : ∀ (lo hi : Int) (mv' : Nat) (M' : Mem), bnd lo hi → mv' + mv1 lo hi = mv → Dr a cells (b + 6) M' → Lf l mv' st th M' → Sm2 a l M M' → Q (.tup [.int lo, .int hi]) M') : W_law_span [.ref a, .ref l] M Q Xd := by
  refine E_law_span ?_
  repeat fail
  refine draw_k hc (by omega) (by omega) (by omega) hM fun r1 M1 a1 a2 hD1 hS1 => ?_
  repeat fail
  refine w_powI ⟨by decide, by decide, by decide⟩ ?_
  repeat fail
  refine draw_k hc (by decide) (by decide) (by omega) hD1 fun r2 M2 a3 a4 hD2 hS2 => ?_
  have a4 : r2 < 999960 := a4
  repeat fail
  refine of_k hc (by omega) (by simp) (by simp) hD2 fun d M3 hd hD3 hS3 => ?_
  obtain ⟨lo, rfl, b1, b2⟩ : ∃ sh : Int, d = .int sh ∧ 0 ≤ sh ∧ sh ≤ 999960 := by
    simp only [List.mem_cons, List.not_mem_nil, or_false] at hd
    rcases hd with rfl | rfl | rfl | rfl | rfl | rfl | rfl <;> exact ⟨_, rfl, by omega, by omega⟩
  have hL3 : Lf l mv st th M3 := hS3.lf ne (hS2.lf ne (hS1.lf ne hL))
  have s3 : Sm2 a l M M3 := ((hS1.trans hS2).trans hS3).two
  repeat fail
  refine w_ixRD hL3 (vl_m _ _ _) ?_
  repeat fail
  refine w_ifd (fun z => ?_) fun z => ?_
  · repeat fail
    refine lo_same (h lo lo mv M3 ⟨b1, Int.le_refl _, by omega⟩ (by unfold mv1; rw [if_neg (Int.lt_irrefl _)]; rfl) (hD3.le (by omega)) hL3 s3)
  repeat fail
  refine draw_k hc (by omega) (by omega) (by omega) hD3 fun r4 M4 a5 a6 hD4 hS4 => ?_
  have hL4 := hS4.lf ne hL3
  repeat fail
  by_cases z2 : r4 = 0
  · rw [decide_eq_true z2]
    repeat fail
    refine lo_same (h lo lo mv M4 ⟨b1, Int.le_refl _, by omega⟩ (by unfold mv1; rw [if_neg (Int.lt_irrefl _)]; rfl) (hD4.le (by omega)) hL4 (s3.trans hS4.two))
  rw [decide_eq_false z2]
  repeat fail
  refine w_ixRD hL4 (vl_m _ _ _) ?_
  repeat fail
  obtain ⟨k, rfl⟩ : ∃ k : Nat, mv = k + 1 := ⟨mv - 1, by omega⟩
  refine w_setD hL4 lK_nd ?_
  have e5 : M4.put l (.dct (putD lK (lV (k + 1) st th) (.inr "moves") (.int (((k + 1 : Nat) : Int) - 1))).1 (putD lK (lV (k + 1) st th) (.inr "moves") (.int (((k + 1 : Nat) : Int) - 1))).2) = M4.put l (.dct lK (lV k st th)) := by
    have : ((k + 1 : Nat) : Int) - 1 = (k : Int) := by omega
    rw [this]; rfl
  refine (congrArg _ e5).mpr ?_
  have hL5 : Lf l k st th (M4.put l (.dct lK (lV k st th))) := Mem.put_same
  have hD5 : Dr a cells _ (M4.put l (.dct lK (lV k st th))) := hD4.put (Ne.symm ne)
  have s5 : Sm2 a l M4 (M4.put l (.dct lK (lV k st th))) := fun b y z => Mem.put_ne z
  generalize M4.put l (.dct lK (lV k st th)) = M5 at hL5 hD5 s5
  repeat fail
  refine draw_k hc (by omega) (by omega) (by omega) hD5 fun r6 M6 a7 a8 hD6 hS6 => ?_
  repeat fail
  refine of_k hc (by omega) (by simp) (by simp) hD6 fun d M7 hd hD7 hS7 => ?_
  obtain ⟨up, rfl, c1, c2⟩ : ∃ sh : Int, d = .int sh ∧ 0 ≤ sh ∧ sh ≤ 29 := by
    simp only [List.mem_cons, List.not_mem_nil, or_false] at hd
    rcases hd with rfl | rfl | rfl <;> exact ⟨_, rfl, by omega, by omega⟩
  repeat fail
  refine lo_same (h lo (lo + 1 + up) k M7 ⟨b1, by omega, by omega⟩ (by unfold mv1; rw [if_pos (by omega)]) (hD7.le (by omega)) (hS7.lf ne (hS6.lf ne hL5)) (((s3.trans hS4.two).trans s5).trans (hS6.trans hS7).two))
end G_madeofhere_k04_whole_counts
set_option maxHeartbeats 1000000
namespace G_madeofhere_k04_whole_counts
open PySem PySem.Spec PyProof.Rows L2 DL MH
local macro_rules | `(tactic| fail) => `(tactic| first | with_reducible refine w_seq ?_ | with_reducible refine w_nx ?_ | with_reducible refine w_ret ?_ | with_reducible refine w_retN ?_ | with_reducible refine w_expr ?_ | with_reducible refine w_ifS ?_ | with_reducible refine w_asg ?_ | with_reducible refine w_augS ?_ | with_reducible refine w_for ?_ | with_reducible refine w_bk ?_ | with_reducible refine w_ct ?_ | with_reducible refine w_set0 ?_ | with_reducible refine w_set1 ?_ | with_reducible refine w_set2 ?_ | with_reducible refine w_set3 ?_ | with_reducible refine w_set4 ?_ | with_reducible refine w_set5 ?_ | with_reducible refine w_set6 ?_ | with_reducible refine w_set7 ?_ | with_reducible refine w_set8 ?_ | with_reducible refine w_set9 ?_ | with_reducible refine w_set10 ?_ | with_reducible refine w_set11 ?_ | with_reducible refine w_set12 ?_ | with_reducible refine w_set13 ?_ | with_reducible refine w_var0 ?_ | with_reducible refine w_var1 ?_ | with_reducible refine w_var2 ?_ | with_reducible refine w_var3 ?_ | with_reducible refine w_var4 ?_ | with_reducible refine w_var5 ?_ | with_reducible refine w_var6 ?_ | with_reducible refine w_var7 ?_ | with_reducible refine w_var8 ?_ | with_reducible refine w_var9 ?_ | with_reducible refine w_var10 ?_ | with_reducible refine w_var11 ?_ | with_reducible refine w_var12 ?_ | with_reducible refine w_var13 ?_ | with_reducible refine w_gnm0 ?_ | with_reducible refine w_gnm1 ?_ | with_reducible refine w_gnm2 ?_ | with_reducible refine w_gnm3 ?_ | with_reducible refine w_gnm4 ?_ | with_reducible refine w_gnm5 ?_ | with_reducible refine w_gnm6 ?_ | with_reducible refine w_gnm7 ?_ | with_reducible refine w_gnm8 ?_ | with_reducible refine w_gnm9 ?_ | with_reducible refine w_gnm10 ?_ | with_reducible refine w_gnm11 ?_ | with_reducible refine w_gnm12 ?_ | with_reducible refine w_gnm13 ?_ | with_reducible refine w_gTp rfl ?_ | with_reducible refine w_gCo ?_ | with_reducible refine w_gNi ?_ | with_reducible refine w_gSb ?_ | with_reducible refine w_c ?_ | with_reducible refine w_op ?_ | with_reducible refine w_nil ?_ | with_reducible refine w_cons ?_ | with_reducible refine w_tup ?_ | with_reducible refine w_lst ?_ | with_reducible refine w_cb ?_ | with_reducible refine w_call ?_ | with_reducible refine w_ite ?_ | with_reducible refine w_and ?_ | with_reducible refine w_or ?_ | with_reducible refine w_not ?_ | with_reducible refine w_andT ?_ | with_reducible refine w_andF ?_ | with_reducible refine w_orT ?_ | with_reducible refine w_orF ?_ | with_reducible refine w_neg ?_ | with_reducible refine w_un ?_ | with_reducible refine w_tst ?_ | with_reducible refine w_tstB ?_ | with_reducible refine w_tru ?_ | with_reducible refine w_truB ?_ | with_reducible refine w_tAnd ?_ | with_reducible refine w_tOr ?_ | with_reducible refine w_tNot ?_ | with_reducible refine w_chain ?_ | with_reducible refine w_chT ?_ | with_reducible refine w_chF ?_ | with_reducible refine w_ifT ?_ | with_reducible refine w_ifF ?_ | with_reducible refine w_ifnT ?_ | with_reducible refine w_ifnF ?_ | with_reducible refine w_rvs ?_ | with_reducible refine w_sl ?_ | with_reducible refine w_slT ?_ | with_reducible refine w_slL ?_ | with_reducible refine w_oNo ?_ | with_reducible refine w_oSo ?_ | with_reducible refine w_oSoK ?_ | with_reducible refine w_prN ?_ | with_reducible refine w_prC ?_ | with_reducible refine w_addI ?_ | with_reducible refine w_subI ?_ | with_reducible refine w_lt ?_ | with_reducible refine w_le ?_ | with_reducible refine w_gt ?_ | with_reducible refine w_ge ?_ | with_reducible refine w_isN ?_ | with_reducible refine w_isnN ?_ | with_reducible refine w_eqI ?_ | with_reducible refine w_neI ?_ | with_reducible refine w_ixT0 ?_ | with_reducible refine w_ixT1 ?_ | with_reducible refine w_ixT2 ?_ | with_reducible refine w_ixT3 ?_ | with_reducible refine w_ixT4 ?_ | with_reducible refine w_ixT5 ?_ | with_reducible refine w_lenL ?_ | with_reducible refine w_lenT ?_ | with_reducible refine w_int ?_ | with_reducible refine w_intB ?_ | with_reducible refine w_abs ?_ | with_reducible refine w_listL ?_ | with_reducible refine w_listT ?_ | with_reducible refine w_tupL ?_ | with_reducible refine w_tupT ?_ | with_reducible refine w_int2 ?_ | with_reducible refine w_gcd ?_ | with_reducible refine w_app ?_ | with_reducible refine w_iSeq ?_ | with_reducible refine w_itemT ?_ | with_reducible refine w_itemL ?_ | with_reducible refine w_iRng ?_ | with_reducible refine w_iEnm ?_ | with_reducible refine w_sg1 ?_ | with_reducible refine w_iRev ?_ | with_reducible refine w_rg1 ?_ | with_reducible refine w_rg1K ?_ | with_reducible refine w_notB ?_)
theorem Lf.put_st (mv st th : Nat) (l : Addr) (M : Mem) : M.put l (.dct (putD lK (lV mv (st + 1) th) (.inr "steps") (.int (((st + 1 : Nat) : Int) - 1))).1 (putD lK (lV mv (st + 1) th) (.inr "steps") (.int (((st + 1 : Nat) : Int) - 1))).2) = M.put l (.dct lK (lV mv st th)) := by
  have : ((st + 1 : Nat) : Int) - 1 = (st : Int) := by omega
  rw [this]; rfl
theorem Lf.put_th (mv st th k : Nat) (l : Addr) (M : Mem) : M.put l (.dct (putD lK (lV mv st (th + k)) (.inr "things") (.int (((th + k : Nat) : Int) - (k : Nat)))).1 (putD lK (lV mv st (th + k)) (.inr "things") (.int (((th + k : Nat) : Int) - (k : Nat)))).2) = M.put l (.dct lK (lV mv st th)) := by
  have : ((th + k : Nat) : Int) - (k : Nat) = (th : Int) := by omega
  rw [this]; rfl
theorem Sm2.drop {a l p : Addr} {M M' : Mem} (hp : M p = none) (h : ∀ b, b ≠ a → b ≠ l → b ≠ p → M' b = M b) : Sm2 a l M (M'.del p) := fun b y z => by
  by_cases e : b = p
  · subst e; rw [Mem.del_same, hp]
  · rw [Mem.del_ne e]; exact h b y z e
/-- what a drawn thing keeps -/
def ThingOk (a l : Addr) (cells : List Int) (n : Nat) : Prop := ∀ (M : Mem) (b : Int) (mv st th : Nat) (must : Bool) (Q : QD) (Xd : XD), st + 1 ≤ n → (must = true → 1 ≤ st ∧ 1 ≤ th) → th < 1000 → b + 14 * (th + 1) < 2 ^ 48 → Dr a cells b M → Lf l mv st th M →
    (∀ (t : Th) (mv' st' th' : Nat) (M' : Mem), t.ok → mv' + t.mv = mv → st' + t.st = st → th' + t.sz = th + 1 → (must = true → t.isMade = true) → Dr a cells (b + 14 * t.sz) M' → Lf l mv' st' th' M' → Sm2 a l M M' → Q t.d M') → W_law_thing n [.ref a, .ref l, .bl must] M Q Xd
theorem thing_loop {a l p : Addr} {cells : List Int} (ne : l ≠ a) (np : p ≠ l) (npa : p ≠ a) {n : Nat} (ih : ThingOk a l cells n) {M0 : Mem} {b : Int} {mv st th k : Nat} {d2 d3 d4 d5 d6 : D} {Xd : XD} {nx bk ct : SD → Mem → Prop} {rt : QD} {W : Mem → Prop} (hW : ∀ M, W M)
    (hn : st + 1 ≤ n) (hth : th < 1000) (hb : b + 14 * (th + k) < 2 ^ 48)
    (fin : ∀ (ts : List Th) (mv' st' th' : Nat) (M' : Mem) (o : Option D), ts.length = k → Th.oks ts → mv' + Th.mvs ts = mv → st' + Th.sts ts = st → th' + Th.szs ts = th + k → Dr a cells (b + 14 * Th.szs ts) M' → Lf l mv' st' th' M' → (∀ x, x ≠ a → x ≠ l → x ≠ p → M' x = M0 x) → M' p = some (.lst (Th.ds ts)) →
      nx [some (.ref a), some (.ref l), some d2, some d3, some d4, some d5, some d6, some (.ref p), o] M') :
    ∀ (is : List D) (ts : List Th) (mv' st' th' : Nat) (M' : Mem) (o : Option D), ts.length + is.length = k → k ≤ 3 → Th.oks ts → mv' + Th.mvs ts = mv → st' + Th.sts ts = st → th' + Th.szs ts = th + ts.length → Dr a cells (b + 14 * Th.szs ts) M' → Lf l mv' st' th' M' → (∀ x, x ≠ a → x ≠ l → x ≠ p → M' x = M0 x) → M' p = some (.lst (Th.ds ts)) →
      sForL (gNm 8) (sExpr (dApp (dVar 7) (dCall (W_law_thing n) [] (dCons (dVar 0) (dCons (dVar 1) (dCons (dC (.bl false)) dNil)))))) ⟨nx, rt, bk, ct, Xd⟩ W is [some (.ref a), some (.ref l), some d2, some d3, some d4, some d5, some d6, some (.ref p), o] M'
  | [], ts, mv', st', th', M', o, e, hk, h1, h2, h3, h4, h5, h6, h7, h8 => by
    have e : ts.length = k := by simpa using e
    exact w_forNil (hW _) (fin ts mv' st' th' M' o e h1 h2 h3 (by omega) h5 h6 h7 h8)
  | i :: is, ts, mv', st', th', M', o, e, hk, h1, h2, h3, h4, h5, h6, h7, h8 => by
    rw [List.length_cons] at e
    refine w_forCons (hW _) ?_
    repeat fail
    refine w_appO h8 ?_
    repeat fail
    have hge := szs_ge ts
    refine ih M' (b + 14 * Th.szs ts) mv' st' th' false _ _ (by omega) (fun z => by cases z) (by omega) (by omega) h5 h6 fun t mv2 st2 th2 M2 q1 q2 q3 q4 _ q5 q6 q7 => ?_
    have hp2 : M2 p = some (.lst (Th.ds ts)) := (q7 p npa np).trans h8
    refine w_appK hp2 (by rw [ds_map, List.length_map, sizeLine_eq]; omega) ?_
    have e1 : Th.ds ts ++ [t.d] = Th.ds (ts ++ [t]) := by rw [ds_app]; rfl
    rw [e1]
    refine thing_loop ne np npa ih hW hn hth hb fin is (ts ++ [t]) mv2 st2 th2 _ _ (by rw [List.length_append, List.length_singleton]; omega) hk ((oks_app _ _).mpr ⟨h1, q1, trivial⟩) (by rw [mvs_app]; simp only [Th.mvs]; omega) (by rw [sts_app]; simp only [Th.sts]; omega)
      (by rw [szs_app, List.length_append, List.length_singleton]; simp only [Th.szs]; omega) ((q5.put (Ne.symm npa)).le (by rw [szs_app]; simp only [Th.szs]; omega)) ((Mem.put_ne (Ne.symm np)).trans q6)
      (fun x z1 z2 z3 => by rw [Mem.put_ne z3, q7 x z1 z2]; exact h7 x z1 z2 z3) Mem.put_same
theorem thing_k {a l : Addr} {cells : List Int} (hc : cells ≠ []) (ne : l ≠ a) : ∀ (n : Nat), ThingOk a l cells n
  | 0 => fun _ _ _ _ _ _ _ _ hn _ _ _ _ _ _ => by omega
  | n + 1 => fun M b mv st th must Q Xd hn hm hth hb hD hL h => by
    refine E_law_thing ?_
    repeat fail
    refine span_k hc (by omega) ne hD hL fun lo hi mv1' M1 hbd hmv hD1 hL1 s1 => ?_
    repeat fail
    refine of_k hc (by omega) (by simp) (by simp) hD1 fun d M2 hd hD2 hS2 => ?_
    obtain ⟨hr, rfl⟩ : ∃ u : Bool, d = landD u := by
      simp only [List.mem_cons, List.not_mem_nil, or_false] at hd
      rcases hd with rfl | rfl
      · exact ⟨true, rfl⟩
      · exact ⟨false, rfl⟩
    have hL2 := hS2.lf ne hL1
    have s2 := s1.trans hS2.two
    -- what comes of a raw one
    have raw : ∀ (M' : Mem), must = false → Dr a cells (b + 8) M' → Lf l mv1' st th M' → Sm2 a l M M' → Lo Q (.tup [.str "raw", landD hr, .int lo, .int hi]) M' := fun M' hmu hD' hL' s' =>
      lo_same (h (.raw hr lo hi) mv1' st th M' hbd hmv (by show st + 0 = st; rfl) (by show th + 1 = th + 1; rfl) (fun z => by rw [hmu] at z; cases z) (hD'.le (by show b + 8 ≤ b + 14 * ((1 : Nat) : Int); omega)) hL' s')
    refine w_join (P := fun M3 => 1 ≤ st ∧ 1 ≤ th ∧ Dr a cells (b + 8) M3 ∧ Lf l mv1' st th M3 ∧ Sm2 a l M M3) (fun M3 ⟨st1, th1, hD3, hL3, s3⟩ => ?_) (fun join => ?_)
    · obtain ⟨st, rfl⟩ : ∃ k, st = k + 1 := ⟨st - 1, by omega⟩
      repeat fail
      refine w_ixRD hL3 (vl_st _ _ _) ?_
      repeat fail
      refine w_setD hL3 lK_nd ?_
      refine (congrArg _ (Lf.put_st mv1' st th l M3)).mpr ?_
      have hL4 : Lf l mv1' st th (M3.put l (.dct lK (lV mv1' st th))) := Mem.put_same
      have hD4 : Dr a cells _ (M3.put l (.dct lK (lV mv1' st th))) := hD3.put (Ne.symm ne)
      have s4 : Sm2 a l M (M3.put l (.dct lK (lV mv1' st th))) := s3.trans fun b y z => Mem.put_ne z
      generalize M3.put l (.dct lK (lV mv1' st th)) = M4 at hL4 hD4 s4
      repeat fail
      refine w_ixRD hL4 (vl_th _ _ _) ?_
      repeat fail
      refine draw_k hc (by split <;> omega) (by split <;> omega) (by omega) hD4 fun r M5 r0 r1 hD5 hS5 => ?_
      have hL5 := hS5.lf ne hL4
      have s5 := s4.trans hS5.two
      obtain ⟨k, rfl⟩ : ∃ k : Nat, r = (k : Int) := ⟨r.toNat, by omega⟩
      have hk : k + 1 ≤ 3 ∧ k + 1 ≤ th := by split at r1 <;> omega
      clear r1
      obtain ⟨th, rfl⟩ : ∃ j, th = j + (k + 1) := ⟨th - (k + 1), by omega⟩
      have ek : (1 : Int) + (k : Int) = ((k + 1 : Nat) : Int) := by omega
      refine w_addI ?_
      rw [ek]
      repeat fail
      refine w_ixRD hL5 (vl_th _ _ _) ?_
      repeat fail
      refine w_lstO ?_
      repeat fail
      intro p hp
      repeat fail
      have np : p ≠ l := fun e => by rw [e] at hp; rw [show M5 l = _ from hL5] at hp; cases hp
      have npa : p ≠ a := fun e => by obtain ⟨_, _, z, _⟩ := hD5; rw [← e, hp] at z; cases z
      have hpM : M p = none := (s5 p npa np).symm.trans hp
      have hL6 : Lf l mv1' st (th + (k + 1)) (M5.put p (.lst [])) := (Mem.put_ne (Ne.symm np)).trans hL5
      refine w_setD hL6 lK_nd ?_
      rw [Lf.put_th mv1' st th (k + 1) l]
      have hL7 : Lf l mv1' st th ((M5.put p (.lst [])).put l (.dct lK (lV mv1' st th))) := Mem.put_same
      have hD7 : Dr a cells _ ((M5.put p (.lst [])).put l (.dct lK (lV mv1' st th))) := (hD5.put (Ne.symm npa)).put (Ne.symm ne)
      have s7 : ∀ b, b ≠ a → b ≠ l → b ≠ p → ((M5.put p (.lst [])).put l (.dct lK (lV mv1' st th))) b = M b := fun b y z w => by
        rw [Mem.put_ne z, Mem.put_ne w]; exact s5 b y z
      have hp7 : ((M5.put p (.lst [])).put l (.dct lK (lV mv1' st th))) p = some (.lst (Th.ds [])) := by rw [Mem.put_ne np]; exact Mem.put_same
      generalize (M5.put p (.lst [])).put l (.dct lK (lV mv1' st th)) = M7 at hL7 hD7 s7 hp7
      repeat fail
      refine w_rng1 (by omega) ?_
      rw [Int.toNat_natCast]
      refine thing_loop (th := th) (mv := mv1') (st := st) (b := b + 9) (k := k + 1) (M0 := M) ne np npa (thing_k hc ne n) (fun _ => wat_none) (by omega) (by omega) (by omega) (fun ts mv' st' th' M' o g1 g2 g3 g4 g5 g6 g7 g8 g9 => ?_) (rngL 0 (k + 1)) [] mv1' st th M7 none (by unfold rngL; simp) hk.1 True.intro (by simp [Th.mvs]) (by simp [Th.sts]) (by simp [Th.szs]) (hD7.le (by simp only [Th.szs]; omega)) hL7 s7 hp7
      repeat fail
      refine term_k hc (by omega) g6 fun sh u w M8 b1 b2 hD8 hS8 => ?_
      repeat fail
      refine w_tupR ((hS8 p npa).trans g9) ?_
      repeat fail
      refine lo_drop p (lo_same ?_)
      have hD9 : Dr a cells (b + 9 + 14 * Th.szs ts + 4) (M8.del p) := by
        obtain ⟨x, s, z1, z2, z3⟩ := hD8
        exact ⟨x, s, (Mem.del_ne (Ne.symm npa)).trans z1, z2, z3⟩
      exact h (.made hr lo hi sh u w ts) mv' st' th' (M8.del p) ⟨hbd, ⟨b1, b2⟩, ⟨by omega, by omega⟩, g2⟩ (by simp only [Th.mv]; omega) (by simp only [Th.st]; omega) (by simp only [Th.sz]; omega) (fun _ => rfl) (hD9.le (by simp only [Th.sz]; omega)) ((Mem.del_ne (Ne.symm np)).trans ((hS8 l ne).trans g7))
        (Sm2.drop hpM fun x z1 z2 z3 => (hS8 x z1).trans (g8 x z1 z2 z3))
    · cases must with
      | true =>
        repeat fail
        exact join M2 ⟨(hm rfl).1, (hm rfl).2, hD2.le (by omega), hL2, s2⟩
      | false =>
        repeat fail
        refine w_ixRD hL2 (vl_st _ _ _) ?_
        repeat fail
        refine w_ifd (fun z => ?_) fun z => ?_
        · repeat fail
          exact raw M2 rfl (hD2.le (by omega)) hL2 s2
        repeat fail
        refine w_ixRD hL2 (vl_th _ _ _) ?_
        repeat fail
        refine w_ifd (fun z => ?_) fun z2 => ?_
        · repeat fail
          exact raw M2 rfl (hD2.le (by omega)) hL2 s2
        repeat fail
        refine draw_k hc (by omega) (by omega) (by omega) hD2 fun r M3 r0 r1 hD3 hS3 => ?_
        repeat fail
        refine w_ifd (fun z => ?_) fun z3 => ?_
        · repeat fail
          exact raw M3 rfl (hD3.le (by omega)) (hS3.lf ne hL2) (s2.trans hS3.two)
        repeat fail
        exact join M3 ⟨by omega, by omega, hD3.le (by omega), hS3.lf ne hL2, s2.trans hS3.two⟩
theorem mv1_max {lo hi : Int} : mv1 (if (lo : Int) > 1 then lo else 1) (if hi > 1 then hi else 1) ≤ mv1 lo hi := by
  unfold mv1
  split <;> split <;> split <;> omega
theorem good_k {a : Addr} {M : Mem} {cells : List Int} {b : Int} {moving making : Nat} (hc : cells ≠ []) (hb : b < 2 ^ 47) (hmo : moving ≤ 3) (hma : 1 ≤ making ∧ making ≤ 4) (hM : Dr a cells b M) {Q : QD} {Xd : XD}
    (h : ∀ (t : Th) (M' : Mem), t.good → t.mv ≤ moving → t.st ≤ making → Dr a cells (b + 150) M' → Sm a M M' → Q t.d M') : W_law_good [.ref a, .int moving, .int making] M Q Xd := by
  refine E_law_good ?_
  repeat fail
  refine w_dct ?_
  intro p hp
  have npa : p ≠ a := fun e => by obtain ⟨_, _, z, _⟩ := hM; rw [← e, hp] at z; cases z
  have hM1 : Dr a cells b (M.put p (.dct [] [])) := hM.put (Ne.symm npa)
  have s1 : ∀ x, x ≠ a → x ≠ p → (M.put p (.dct [] [])) x = M x := fun x _ z => Mem.put_ne z
  have e1 : (M.put p (.dct [] [])) p = some (.dct [] []) := Mem.put_same
  generalize M.put p (.dct [] []) = M1 at hM1 s1 e1
  repeat fail
  refine draw_k hc (by omega) (by omega) (by omega) hM1 fun r1 M2 a1 a2 hD2 hS2 => ?_
  repeat fail
  refine draw_k hc (by omega) (by omega) (by omega) hD2 fun r2 M3 a3 a4 hD3 hS3 => ?_
  have hS := hS2.trans hS3
  repeat fail
  refine ⟨(hS p npa).trans e1, ?_⟩
  obtain ⟨mv, rfl⟩ : ∃ k : Nat, r1 = (k : Int) := ⟨r1.toNat, by omega⟩
  obtain ⟨st, hst⟩ : ∃ k : Nat, 1 + r2 = (k : Int) := ⟨(1 + r2).toNat, by omega⟩
  rw [hst]
  have hL4 : Lf p mv st 9 (M3.put p (.dct lK (lV mv st 9))) := Mem.put_same
  have hD4 : Dr a cells _ (M3.put p (.dct lK (lV mv st 9))) := hD3.put (Ne.symm npa)
  have s4 : ∀ x, x ≠ a → x ≠ p → (M3.put p (.dct lK (lV mv st 9))) x = M x := fun x y z => by rw [Mem.put_ne z, hS x y, s1 x y z]
  show sSeq _ _ _ _ (M3.put p (.dct lK (lV mv st 9)))
  generalize M3.put p (.dct lK (lV mv st 9)) = M4 at hL4 hD4 s4
  repeat fail
  refine thing_k hc npa 8 M4 (b + 1 + 1) mv st 9 true _ _ (by omega) (fun _ => ⟨by omega, by omega⟩) (by omega) (by omega) hD4 hL4 fun t mv' st' th' M5 t1 t2 t3 t4 t5 hD5 hL5 hS5 => ?_
  have s5 : ∀ x, x ≠ a → x ≠ p → M5 x = M x := fun x y z => (hS5 x y z).trans (s4 x y z)
  cases t with
  | raw _ _ _ => cases t5 rfl
  | made hr lo hi sh u w ps =>
    rw [Th.d]
    repeat fail
    refine w_addT ?_ ?_
    · show 2 + 2 ≤ sizeLine; decide
    repeat fail
    refine w_addT ?_ ?_
    · show 4 + 2 ≤ sizeLine; decide
    obtain ⟨q1, q2, q3, q4⟩ := t1
    simp only [Th.mv, Th.st, Th.sz] at t2 t3 t4
    have hm1 := mv1_max (lo := lo) (hi := hi)
    refine lo_drop p (lo_same (h (.made hr (if lo > 1 then lo else 1) (if hi > 1 then hi else 1) sh u w ps) (M5.del p) ⟨rfl, ⟨?_, q2, q3, q4⟩, by simp only [Th.sz]; omega, by simp only [Th.st]; omega, by simp only [Th.mv]; omega, ?_⟩ (by simp only [Th.mv]; omega) (by simp only [Th.st]; omega) ?_ ?_))
    · obtain ⟨c1, c2, c3⟩ := q1
      unfold bnd
      split <;> split <;> omega
    · simp only [Th.any, Bool.or_eq_true, decide_eq_true_eq]
      left; split <;> omega
    · obtain ⟨x, s, z1, z2, z3⟩ := hD5
      exact ⟨x, s, (Mem.del_ne (Ne.symm npa)).trans z1, z2, by simp only [Th.sz] at z3; omega⟩
    · intro x hx
      by_cases e : x = p
      · subst e; rw [Mem.del_same, hp]
      · rw [Mem.del_ne e]; exact s5 x hx e
end G_madeofhere_k04_whole_counts
set_option maxHeartbeats 1000000
namespace G_madeofhere_k04_whole_counts
open PySem PySem.Spec PyProof.Rows L2 DL MH
local macro_rules | `(tactic| fail) => `(tactic| first | with_reducible refine w_seq ?_ | with_reducible refine w_nx ?_ | with_reducible refine w_ret ?_ | with_reducible refine w_retN ?_ | with_reducible refine w_expr ?_ | with_reducible refine w_ifS ?_ | with_reducible refine w_asg ?_ | with_reducible refine w_augS ?_ | with_reducible refine w_for ?_ | with_reducible refine w_bk ?_ | with_reducible refine w_ct ?_ | with_reducible refine w_set0 ?_ | with_reducible refine w_set1 ?_ | with_reducible refine w_set2 ?_ | with_reducible refine w_set3 ?_ | with_reducible refine w_set4 ?_ | with_reducible refine w_set5 ?_ | with_reducible refine w_set6 ?_ | with_reducible refine w_set7 ?_ | with_reducible refine w_set8 ?_ | with_reducible refine w_set9 ?_ | with_reducible refine w_set10 ?_ | with_reducible refine w_set11 ?_ | with_reducible refine w_set12 ?_ | with_reducible refine w_set13 ?_ | with_reducible refine w_var0 ?_ | with_reducible refine w_var1 ?_ | with_reducible refine w_var2 ?_ | with_reducible refine w_var3 ?_ | with_reducible refine w_var4 ?_ | with_reducible refine w_var5 ?_ | with_reducible refine w_var6 ?_ | with_reducible refine w_var7 ?_ | with_reducible refine w_var8 ?_ | with_reducible refine w_var9 ?_ | with_reducible refine w_var10 ?_ | with_reducible refine w_var11 ?_ | with_reducible refine w_var12 ?_ | with_reducible refine w_var13 ?_ | with_reducible refine w_gnm0 ?_ | with_reducible refine w_gnm1 ?_ | with_reducible refine w_gnm2 ?_ | with_reducible refine w_gnm3 ?_ | with_reducible refine w_gnm4 ?_ | with_reducible refine w_gnm5 ?_ | with_reducible refine w_gnm6 ?_ | with_reducible refine w_gnm7 ?_ | with_reducible refine w_gnm8 ?_ | with_reducible refine w_gnm9 ?_ | with_reducible refine w_gnm10 ?_ | with_reducible refine w_gnm11 ?_ | with_reducible refine w_gnm12 ?_ | with_reducible refine w_gnm13 ?_ | with_reducible refine w_gTp rfl ?_ | with_reducible refine w_gCo ?_ | with_reducible refine w_gNi ?_ | with_reducible refine w_gSb ?_ | with_reducible refine w_c ?_ | with_reducible refine w_op ?_ | with_reducible refine w_nil ?_ | with_reducible refine w_cons ?_ | with_reducible refine w_tup ?_ | with_reducible refine w_lst ?_ | with_reducible refine w_cb ?_ | with_reducible refine w_call ?_ | with_reducible refine w_ite ?_ | with_reducible refine w_and ?_ | with_reducible refine w_or ?_ | with_reducible refine w_not ?_ | with_reducible refine w_andT ?_ | with_reducible refine w_andF ?_ | with_reducible refine w_orT ?_ | with_reducible refine w_orF ?_ | with_reducible refine w_neg ?_ | with_reducible refine w_un ?_ | with_reducible refine w_tst ?_ | with_reducible refine w_tstB ?_ | with_reducible refine w_tru ?_ | with_reducible refine w_truB ?_ | with_reducible refine w_tAnd ?_ | with_reducible refine w_tOr ?_ | with_reducible refine w_tNot ?_ | with_reducible refine w_chain ?_ | with_reducible refine w_chT ?_ | with_reducible refine w_chF ?_ | with_reducible refine w_ifT ?_ | with_reducible refine w_ifF ?_ | with_reducible refine w_ifnT ?_ | with_reducible refine w_ifnF ?_ | with_reducible refine w_rvs ?_ | with_reducible refine w_yes ?_ | with_reducible refine w_par ?_ | with_reducible refine w_parK (by dsimp only [List.set]; rfl) ?_ | with_reducible refine w_sl ?_ | with_reducible refine w_slT ?_ | with_reducible refine w_slL ?_ | with_reducible refine w_oNo ?_ | with_reducible refine w_oSo ?_ | with_reducible refine w_oSoK ?_ | with_reducible refine w_prN ?_ | with_reducible refine w_prC ?_ | with_reducible refine w_addI ?_ | with_reducible refine w_subI ?_ | with_reducible refine w_lt ?_ | with_reducible refine w_le ?_ | with_reducible refine w_gt ?_ | with_reducible refine w_ge ?_ | with_reducible refine w_isN ?_ | with_reducible refine w_isnN ?_ | with_reducible refine w_eqI ?_ | with_reducible refine w_neI ?_ | with_reducible refine w_ixT0 ?_ | with_reducible refine w_ixT1 ?_ | with_reducible refine w_ixT2 ?_ | with_reducible refine w_ixT3 ?_ | with_reducible refine w_ixT4 ?_ | with_reducible refine w_ixT5 ?_ | with_reducible refine w_lenL ?_ | with_reducible refine w_lenT ?_ | with_reducible refine w_int ?_ | with_reducible refine w_intB ?_ | with_reducible refine w_abs ?_ | with_reducible refine w_listL ?_ | with_reducible refine w_listT ?_ | with_reducible refine w_tupL ?_ | with_reducible refine w_tupT ?_ | with_reducible refine w_int2 ?_ | with_reducible refine w_gcd ?_ | with_reducible refine w_app ?_ | with_reducible refine w_iSeq ?_ | with_reducible refine w_itemT ?_ | with_reducible refine w_itemL ?_ | with_reducible refine w_iRng ?_ | with_reducible refine w_iEnm ?_ | with_reducible refine w_sg1 ?_ | with_reducible refine w_iRev ?_ | with_reducible refine w_rg1 ?_ | with_reducible refine w_rg1K ?_ | with_reducible refine w_notB ?_)
/-- what the rows of a thing keep -/
def RowsOk (n : Nat) : Prop := ∀ (t : Th) (b : Nat) (M : Mem) (Q : QD) (Xd : XD), t.st + 1 ≤ n → t.sz ≤ 1000 → Q (.lst ((rows t b).map rowD)) M → W_law_rows n [t.d, .int b] M Q Xd
theorem rows_loop {n : Nat} (ih : RowsOk n) {d0 : D} {b : Nat} {nx bk ct : SD → Mem → Prop} {rt : QD} {Xd : XD} {M : Mem} {W : Mem → Prop} (hW : W M) :
    ∀ (ts : List Th) (nn : List Nat) (rr : List (Th × List Nat)) (o : Option D), rr.length + Th.szs ts ≤ 1000 → nn.length ≤ rr.length → Th.sts ts + 1 ≤ n + 0 → 
    (∀ o, nx [some d0, some (.int b), some (.lst ((rr ++ rowss ts (b + 1 + rr.length)).map rowD)), some (.lst ((nn ++ nums (b + 1 + rr.length) ts).map fun (k : Nat) => D.int (k : Int))), o] M) →
    sForL (gNm 4) (sSeq (sSet 3 (dOp addD (dVar 3) (dLst (dCons (dOp addD (dOp addD (dVar 1) (dC (.int 1))) (dCB lenC (dCons (dVar 2) (dNil)))) (dNil))))) (sSet 2 (dOp addD (dVar 2) (dCall (W_law_rows n) [] (dCons (dVar 4) (dCons (dOp addD (dOp addD (dVar 1) (dC (.int 1))) (dCB lenC (dCons (dVar 2) (dNil)))) (dNil))))))) ⟨nx, rt, bk, ct, Xd⟩ W (Th.ds ts)
      [some d0, some (.int b), some (.lst (rr.map rowD)), some (.lst (nn.map fun (k : Nat) => D.int (k : Int))), o] M
  | [], nn, rr, o, h1, h2, h3, h => w_forNil hW (by have := h o; simpa [rowss, nums] using this)
  | t :: ts, nn, rr, o, h1, h2, h3, h => by
    simp only [Th.szs, Th.sts] at h1 h3
    have := sz_pos t
    refine w_forCons hW ?_
    repeat fail
    refine w_addL (by simp only [List.length_map, List.length_singleton, sizeLine_eq]; omega) ?_
    repeat fail
    have e0 : (b : Int) + 1 + (((rr.map rowD).length : Nat) : Int) = ((b + 1 + rr.length : Nat) : Int) := by rw [List.length_map]; omega
    rw [e0]
    refine ih t _ M _ _ (by omega) (by omega) ?_
    repeat fail
    refine w_addL (by simp only [List.length_map, sizeLine_eq, rows_len]; omega) ?_
    have e1 : (nn.map fun (k : Nat) => D.int (k : Int)) ++ [D.int ((b + 1 + rr.length : Nat) : Int)] = ((nn ++ [b + 1 + rr.length]).map fun (k : Nat) => D.int (k : Int)) := by simp
    have e2 : rr.map rowD ++ (rows t (b + 1 + rr.length)).map rowD = (rr ++ rows t (b + 1 + rr.length)).map rowD := by simp
    rw [e1, e2]
    refine rows_loop ih hW ts _ _ _ (by rw [List.length_append, rows_len]; omega) (by rw [List.length_append, List.length_append, List.length_singleton, rows_len]; omega) (by omega) ?_
    intro o
    have := h o
    rw [rowss, nums, ← List.append_assoc] at this
    rw [List.append_assoc nn, List.length_append, rows_len]
    have e3 : b + 1 + (rr.length + t.sz) = b + 1 + rr.length + t.sz := by omega
    rw [e3]
    exact this
theorem rows_k : ∀ n : Nat, RowsOk n
  | 0 => fun _ _ _ _ _ h _ _ => by omega
  | n + 1 => fun t b M Q Xd h hz q => by
    refine E_law_rows ?_
    cases t with
    | raw hr lo hi =>
      repeat fail
      refine w_eqS (by decide +kernel) (by decide +kernel) ?_
      rw [show decide ((Str.ofString "raw") = (Str.ofString "made")) = false from by decide +kernel]
      repeat fail
      refine w_forNil wat_none ?_
      repeat fail
      refine w_addL (by simp [sizeLine_eq]) ?_
      exact lo_same q
    | made hr lo hi sh u w ps =>
      simp only [Th.st, Th.sz] at h hz
      repeat fail
      refine w_eqS (by decide +kernel) (by decide +kernel) ?_
      rw [show decide ((Str.ofString "made") = (Str.ofString "made")) = true from by decide +kernel]
      repeat fail
      refine rows_loop (rows_k n) (b := b) wat_none ps [] [] none (by simp; omega) (by simp) (by omega) ?_
      intro o
      repeat fail
      refine w_addL (by simp only [List.length_map, List.length_singleton, sizeLine_eq, List.nil_append, rowss_len]; omega) ?_
      exact lo_same q
end G_madeofhere_k04_whole_counts
set_option maxHeartbeats 1000000
namespace G_madeofhere_k04_whole_counts
open PySem PySem.Spec PyProof.Rows L2 DL MH
local macro_rules | `(tactic| fail) => `(tactic| first | with_reducible refine w_seq ?_ | with_reducible refine w_nx ?_ | with_reducible refine w_ret ?_ | with_reducible refine w_retN ?_ | with_reducible refine w_expr ?_ | with_reducible refine w_ifS ?_ | with_reducible refine w_asg ?_ | with_reducible refine w_augS ?_ | with_reducible refine w_for ?_ | with_reducible refine w_bk ?_ | with_reducible refine w_ct ?_ | with_reducible refine w_set0 ?_ | with_reducible refine w_set1 ?_ | with_reducible refine w_set2 ?_ | with_reducible refine w_set3 ?_ | with_reducible refine w_set4 ?_ | with_reducible refine w_set5 ?_ | with_reducible refine w_set6 ?_ | with_reducible refine w_set7 ?_ | with_reducible refine w_set8 ?_ | with_reducible refine w_set9 ?_ | with_reducible refine w_set10 ?_ | with_reducible refine w_set11 ?_ | with_reducible refine w_set12 ?_ | with_reducible refine w_set13 ?_ | with_reducible refine w_var0 ?_ | with_reducible refine w_var1 ?_ | with_reducible refine w_var2 ?_ | with_reducible refine w_var3 ?_ | with_reducible refine w_var4 ?_ | with_reducible refine w_var5 ?_ | with_reducible refine w_var6 ?_ | with_reducible refine w_var7 ?_ | with_reducible refine w_var8 ?_ | with_reducible refine w_var9 ?_ | with_reducible refine w_var10 ?_ | with_reducible refine w_var11 ?_ | with_reducible refine w_var12 ?_ | with_reducible refine w_var13 ?_ | with_reducible refine w_gnm0 ?_ | with_reducible refine w_gnm1 ?_ | with_reducible refine w_gnm2 ?_ | with_reducible refine w_gnm3 ?_ | with_reducible refine w_gnm4 ?_ | with_reducible refine w_gnm5 ?_ | with_reducible refine w_gnm6 ?_ | with_reducible refine w_gnm7 ?_ | with_reducible refine w_gnm8 ?_ | with_reducible refine w_gnm9 ?_ | with_reducible refine w_gnm10 ?_ | with_reducible refine w_gnm11 ?_ | with_reducible refine w_gnm12 ?_ | with_reducible refine w_gnm13 ?_ | with_reducible refine w_gTp rfl ?_ | with_reducible refine w_gCo ?_ | with_reducible refine w_gNi ?_ | with_reducible refine w_gSb ?_ | with_reducible refine w_c ?_ | with_reducible refine w_op ?_ | with_reducible refine w_nil ?_ | with_reducible refine w_cons ?_ | with_reducible refine w_tup ?_ | with_reducible refine w_lst ?_ | with_reducible refine w_cb ?_ | with_reducible refine w_call ?_ | with_reducible refine w_ite ?_ | with_reducible refine w_and ?_ | with_reducible refine w_or ?_ | with_reducible refine w_not ?_ | with_reducible refine w_andT ?_ | with_reducible refine w_andF ?_ | with_reducible refine w_orT ?_ | with_reducible refine w_orF ?_ | with_reducible refine w_neg ?_ | with_reducible refine w_un ?_ | with_reducible refine w_tst ?_ | with_reducible refine w_tstB ?_ | with_reducible refine w_tru ?_ | with_reducible refine w_truB ?_ | with_reducible refine w_tAnd ?_ | with_reducible refine w_tOr ?_ | with_reducible refine w_tNot ?_ | with_reducible refine w_chain ?_ | with_reducible refine w_chT ?_ | with_reducible refine w_chF ?_ | with_reducible refine w_ifT ?_ | with_reducible refine w_ifF ?_ | with_reducible refine w_ifnT ?_ | with_reducible refine w_ifnF ?_ | with_reducible refine w_rvs ?_ | with_reducible refine w_yes ?_ | with_reducible refine w_par ?_ | with_reducible refine w_parK (by dsimp only [List.set]; rfl) ?_ | with_reducible refine w_sl ?_ | with_reducible refine w_slT ?_ | with_reducible refine w_slL ?_ | with_reducible refine w_oNo ?_ | with_reducible refine w_oSo ?_ | with_reducible refine w_oSoK ?_ | with_reducible refine w_prN ?_ | with_reducible refine w_prC ?_ | with_reducible refine w_addI ?_ | with_reducible refine w_subI ?_ | with_reducible refine w_lt ?_ | with_reducible refine w_le ?_ | with_reducible refine w_gt ?_ | with_reducible refine w_ge ?_ | with_reducible refine w_isN ?_ | with_reducible refine w_isnN ?_ | with_reducible refine w_eqI ?_ | with_reducible refine w_neI ?_ | with_reducible refine w_ixT0 ?_ | with_reducible refine w_ixT1 ?_ | with_reducible refine w_ixT2 ?_ | with_reducible refine w_ixT3 ?_ | with_reducible refine w_ixT4 ?_ | with_reducible refine w_ixT5 ?_ | with_reducible refine w_lenL ?_ | with_reducible refine w_lenT ?_ | with_reducible refine w_int ?_ | with_reducible refine w_intB ?_ | with_reducible refine w_abs ?_ | with_reducible refine w_listL ?_ | with_reducible refine w_listT ?_ | with_reducible refine w_tupL ?_ | with_reducible refine w_tupT ?_ | with_reducible refine w_int2 ?_ | with_reducible refine w_gcd ?_ | with_reducible refine w_app ?_ | with_reducible refine w_iSeq ?_ | with_reducible refine w_itemT ?_ | with_reducible refine w_itemL ?_ | with_reducible refine w_iRng ?_ | with_reducible refine w_iEnm ?_ | with_reducible refine w_sg1 ?_ | with_reducible refine w_iRev ?_ | with_reducible refine w_rg1 ?_ | with_reducible refine w_rg1K ?_ | with_reducible refine w_notB ?_)
theorem abs_e (i : Int) : (if i < 0 then -i else i) = (i.natAbs : Int) := by split <;> omega
theorem gcd_loop {nx bk ct : SD → Mem → Prop} {rt : QD} {Xd : XD} {M : Mem} {d0 d1 : D} {o : Option D} : ∀ (n i j : Nat), j < n → nx [some d0, some d1, some (.int (Nat.gcd i j : Nat)), some (.int 0), o] M →
    sWhN (dTst (dOp neD (dVar 3) (dC (.int 0)))) (sPar 2 3 (dCons (dVar 3) (dCons (dOp modD (dCB intC (dCons (dVar 2) (dNil))) (dVar 3)) (dNil)))) ⟨nx, rt, bk, ct, Xd⟩ n [some d0, some d1, some (.int i), some (.int j), o] M
  | 0, _, _, h, _ => by omega
  | n + 1, i, j, h, q => by
    refine w_whS ?_
    repeat fail
    refine w_ifnd (fun z => ?_) fun z => ?_
    · repeat fail
      refine w_modI (by omega) ?_
      repeat fail
      rw [← Int.natCast_emod]
      have hj : 0 < j := by omega
      have := Nat.mod_lt i hj
      refine gcd_loop n j (i % j) (by omega) ?_
      have e : Nat.gcd j (i % j) = Nat.gcd i j := by
        rw [Nat.gcd_comm i j, Nat.gcd_rec j i, Nat.gcd_comm]
      rw [e]; exact q
    · have hj : j = 0 := by omega
      subst hj
      rw [Nat.gcd_zero_right] at q
      exact q
theorem least_k {p q : Int} {M : Mem} {Q : QD} {Xd : XD} (hq : 0 < q) (b1 : p.natAbs ≤ 2 ^ 4000) (b2 : q.natAbs ≤ 2 ^ 4000) (h : Q (frD (lt p q)) M) : W_law_least [.int p, .int q] M Q Xd := by
  refine E_law_least ?_
  repeat fail
  rw [abs_e, abs_e]
  refine w_while (q.natAbs + 1) (gcd_loop _ _ _ (Nat.lt_succ_self _) ?_)
  have hg : (0 : Int) < (Nat.gcd p.natAbs q.natAbs : Nat) := gcd_pos' (p := p) hq
  have hgb : Nat.gcd p.natAbs q.natAbs ≤ 2 ^ 4000 := Nat.le_trans (Nat.gcd_le_right _ (by omega)) b2
  repeat fail
  refine w_ifdT hq ?_
  repeat fail
  refine w_mulI (mulW2 (a := 1) (b := 4000) (by decide) b1 (by decide)) ?_
  repeat fail
  refine w_fdivI (divW2 (b := 4000) hg hgb (by decide)) ?_
  repeat fail
  refine w_mulI (mulW2 (a := 1) (b := 4000) (by decide) b2 (by decide)) ?_
  repeat fail
  refine w_fdivI (divW2 (b := 4000) hg hgb (by decide)) ?_
  repeat fail
  rw [Int.one_mul, Int.one_mul]
  exact lo_same h
theorem sum_loop {nx bk ct : SD → Mem → Prop} {rt : QD} {Xd : XD} {M : Mem} {d0 : D} {W : Mem → Prop} (hW : W M) : ∀ (fs : List (Int × Int)) (f : Int × Int) (k : Nat) (o : Option D), FB k f → (∀ g ∈ fs, FOk g) → k + fs.length ≤ 50 →
    (∀ (g : Int × Int) (o : Option D), g = fs.foldl addF f → FB 50 g → nx [some d0, some (.int g.1), some (.int g.2), o] M) →
    sForL (gNm 3) (sPar 1 2 (dCons (dOp addD (dOp mulD (dVar 1) (dOp ixD (dVar 3) (dC (.int 1)))) (dOp mulD (dOp ixD (dVar 3) (dC (.int 0))) (dVar 2))) (dCons (dOp mulD (dVar 2) (dOp ixD (dVar 3) (dC (.int 1)))) (dNil)))) ⟨nx, rt, bk, ct, Xd⟩ W (fs.map frD) [some d0, some (.int f.1), some (.int f.2), o] M
  | [], f, k, o, hf, _, hk, h => w_forNil hW (h f o rfl (by
      have e : 2 ^ (65 * k) ≤ 2 ^ (65 * 50) := Nat.pow_le_pow_right (by decide) (by simp at hk; omega)
      exact ⟨Nat.le_trans hf.1 e, hf.2.1, Nat.le_trans hf.2.2 e⟩))
  | g :: fs, f, k, o, hf, hg, hk, h => by
    have hg1 := hg g List.mem_cons_self
    rw [List.length_cons] at hk
    refine w_forCons hW ?_
    unfold frD
    repeat fail
    refine w_mulI (mulW2 hf.1 hg1.2.2 (by omega)) ?_
    repeat fail
    refine w_mulI (mulW2 hg1.1 hf.2.2 (by omega)) ?_
    repeat fail
    refine w_mulI (mulW2 hf.2.2 hg1.2.2 (by omega)) ?_
    repeat fail
    exact sum_loop hW fs (addF f g) (k + 1) _ (addF_ok hf hg1) (fun x hx => hg x (List.mem_cons_of_mem _ hx)) (by omega) h
theorem sum_k {fs : List (Int × Int)} {M : Mem} {Q : QD} {Xd : XD} (hf : ∀ g ∈ fs, FOk g) (hl : fs.length ≤ 50) (h : Q (frD (lt (sumF fs).1 (sumF fs).2)) M) : W_law_sum [.lst (fs.map frD)] M Q Xd := by
  refine E_law_sum ?_
  repeat fail
  refine sum_loop wat_none fs (0, 1) 0 none ⟨by decide, by decide, by decide⟩ hf (by omega) fun g o e hb => ?_
  repeat fail
  subst e
  have e : 2 ^ (65 * 50) ≤ 2 ^ 4000 := Nat.pow_le_pow_right (by decide) (by decide)
  exact least_k hb.2.1 (Nat.le_trans hb.1 e) (Nat.le_trans hb.2.2 e) (lo_same h)
end G_madeofhere_k04_whole_counts
set_option maxHeartbeats 1000000
namespace G_madeofhere_k04_whole_counts
open PySem PySem.Spec PyProof.Rows L2 DL MH
local macro_rules | `(tactic| fail) => `(tactic| first | with_reducible refine w_seq ?_ | with_reducible refine w_nx ?_ | with_reducible refine w_ret ?_ | with_reducible refine w_retN ?_ | with_reducible refine w_expr ?_ | with_reducible refine w_ifS ?_ | with_reducible refine w_asg ?_ | with_reducible refine w_augS ?_ | with_reducible refine w_for ?_ | with_reducible refine w_bk ?_ | with_reducible refine w_ct ?_ | with_reducible refine w_set0 ?_ | with_reducible refine w_set1 ?_ | with_reducible refine w_set2 ?_ | with_reducible refine w_set3 ?_ | with_reducible refine w_set4 ?_ | with_reducible refine w_set5 ?_ | with_reducible refine w_set6 ?_ | with_reducible refine w_set7 ?_ | with_reducible refine w_set8 ?_ | with_reducible refine w_set9 ?_ | with_reducible refine w_set10 ?_ | with_reducible refine w_set11 ?_ | with_reducible refine w_set12 ?_ | with_reducible refine w_set13 ?_ | with_reducible refine w_var0 ?_ | with_reducible refine w_var1 ?_ | with_reducible refine w_var2 ?_ | with_reducible refine w_var3 ?_ | with_reducible refine w_var4 ?_ | with_reducible refine w_var5 ?_ | with_reducible refine w_var6 ?_ | with_reducible refine w_var7 ?_ | with_reducible refine w_var8 ?_ | with_reducible refine w_var9 ?_ | with_reducible refine w_var10 ?_ | with_reducible refine w_var11 ?_ | with_reducible refine w_var12 ?_ | with_reducible refine w_var13 ?_ | with_reducible refine w_gnm0 ?_ | with_reducible refine w_gnm1 ?_ | with_reducible refine w_gnm2 ?_ | with_reducible refine w_gnm3 ?_ | with_reducible refine w_gnm4 ?_ | with_reducible refine w_gnm5 ?_ | with_reducible refine w_gnm6 ?_ | with_reducible refine w_gnm7 ?_ | with_reducible refine w_gnm8 ?_ | with_reducible refine w_gnm9 ?_ | with_reducible refine w_gnm10 ?_ | with_reducible refine w_gnm11 ?_ | with_reducible refine w_gnm12 ?_ | with_reducible refine w_gnm13 ?_ | with_reducible refine w_gTp rfl ?_ | with_reducible refine w_gCo ?_ | with_reducible refine w_gNi ?_ | with_reducible refine w_gSb ?_ | with_reducible refine w_c ?_ | with_reducible refine w_op ?_ | with_reducible refine w_nil ?_ | with_reducible refine w_cons ?_ | with_reducible refine w_tup ?_ | with_reducible refine w_lst ?_ | with_reducible refine w_cb ?_ | with_reducible refine w_call ?_ | with_reducible refine w_ite ?_ | with_reducible refine w_and ?_ | with_reducible refine w_or ?_ | with_reducible refine w_not ?_ | with_reducible refine w_andT ?_ | with_reducible refine w_andF ?_ | with_reducible refine w_orT ?_ | with_reducible refine w_orF ?_ | with_reducible refine w_neg ?_ | with_reducible refine w_un ?_ | with_reducible refine w_tst ?_ | with_reducible refine w_tstB ?_ | with_reducible refine w_tru ?_ | with_reducible refine w_truB ?_ | with_reducible refine w_tAnd ?_ | with_reducible refine w_tOr ?_ | with_reducible refine w_tNot ?_ | with_reducible refine w_chain ?_ | with_reducible refine w_chT ?_ | with_reducible refine w_chF ?_ | with_reducible refine w_ifT ?_ | with_reducible refine w_ifF ?_ | with_reducible refine w_ifnT ?_ | with_reducible refine w_ifnF ?_ | with_reducible refine w_rvs ?_ | with_reducible refine w_yes ?_ | with_reducible refine w_par ?_ | with_reducible refine w_parK (by dsimp only [List.set]; rfl) ?_ | with_reducible refine w_sl ?_ | with_reducible refine w_slT ?_ | with_reducible refine w_slL ?_ | with_reducible refine w_oNo ?_ | with_reducible refine w_oSo ?_ | with_reducible refine w_oSoK ?_ | with_reducible refine w_prN ?_ | with_reducible refine w_prC ?_ | with_reducible refine w_addI ?_ | with_reducible refine w_subI ?_ | with_reducible refine w_lt ?_ | with_reducible refine w_le ?_ | with_reducible refine w_gt ?_ | with_reducible refine w_ge ?_ | with_reducible refine w_isN ?_ | with_reducible refine w_isnN ?_ | with_reducible refine w_eqI ?_ | with_reducible refine w_neI ?_ | with_reducible refine w_ixT0 ?_ | with_reducible refine w_ixT1 ?_ | with_reducible refine w_ixT2 ?_ | with_reducible refine w_ixT3 ?_ | with_reducible refine w_ixT4 ?_ | with_reducible refine w_ixT5 ?_ | with_reducible refine w_lenL ?_ | with_reducible refine w_lenT ?_ | with_reducible refine w_int ?_ | with_reducible refine w_intB ?_ | with_reducible refine w_abs ?_ | with_reducible refine w_listL ?_ | with_reducible refine w_listT ?_ | with_reducible refine w_tupL ?_ | with_reducible refine w_tupT ?_ | with_reducible refine w_int2 ?_ | with_reducible refine w_gcd ?_ | with_reducible refine w_app ?_ | with_reducible refine w_iSeq ?_ | with_reducible refine w_itemT ?_ | with_reducible refine w_itemL ?_ | with_reducible refine w_iRng ?_ | with_reducible refine w_iEnm ?_ | with_reducible refine w_sg1 ?_ | with_reducible refine w_iRev ?_ | with_reducible refine w_rg1 ?_ | with_reducible refine w_rg1K ?_ | with_reducible refine w_notB ?_)
theorem dec_up (u : Bool) : decide (upS u = (Str.ofString "whole")) = u := by cases u <;> decide +kernel
theorem dec_dn (u : Bool) : decide (dnS u = (Str.ofString "own")) = u := by cases u <;> decide +kernel
theorem dec_land (u : Bool) : decide (landS u = (Str.ofString "here")) = u := by cases u <;> decide +kernel
theorem ok_up (u : Bool) : PyData.strOk (upS u) = true := by cases u <;> decide +kernel
theorem ok_dn (u : Bool) : PyData.strOk (dnS u) = true := by cases u <;> decide +kernel
theorem ok_land (u : Bool) : PyData.strOk (landS u) = true := by cases u <;> decide +kernel
theorem counted_k {t : Th} {b : Nat} {a : Nat → Int} {u : Int} {M : Mem} {Q : QD} {Xd : XD} (hu : 0 < u) (ht : t.ok) (f1 : FOk (lt (t.own b a) u)) (f2 : FOk (lt (t.cst b a) u)) (h : Q (frD (lt (t.cnt b a) u)) M) :
    W_law_counted [t.d, frD (lt (t.own b a) u), frD (lt (t.cst b a) u)] M Q Xd := by
  refine E_law_counted ?_
  cases t with
  | raw hr lo hi =>
    repeat fail
    refine w_eqS (by decide +kernel) (by decide +kernel) ?_
    rw [show decide ((Str.ofString "raw") = (Str.ofString "raw")) = true from by decide +kernel]
    repeat fail
    exact lo_same h
  | made hr lo hi sh up dn ps =>
    have r1 := rep_lt (v := (Th.made hr lo hi sh up dn ps).own b a) hu
    have r2 := rep_lt (v := (Th.made hr lo hi sh up dn ps).cst b a) hu
    have w := word_fr (sh := sh) hu r1 r2
    rw [cnt_made] at h
    generalize (Th.made hr lo hi sh up dn ps).own b a = O at *
    generalize (Th.made hr lo hi sh up dn ps).cst b a = C at *
    rw [Th.d, frD, frD]
    unfold termD
    repeat fail
    refine w_eqS (by decide +kernel) (by decide +kernel) ?_
    rw [show decide ((Str.ofString "made") = (Str.ofString "raw")) = false from by decide +kernel]
    repeat fail
    obtain ⟨_, ⟨h1, h2⟩, _⟩ := ht
    have m0 := f1.1
    have m1 := f1.2.2
    have m2 := f2.1
    have m3 := f2.2.2
    refine w_mulI (mulW2 (a := 7) (b := 64) (by decide) m0 (by decide)) ?_
    repeat fail
    refine w_mulI (mulW2 (a := 71) (b := 64) (by have := natAbs_mul_le (x := 100) (a := 100) (Nat.le_refl _) m0; omega) m3 (by decide)) ?_
    repeat fail
    refine w_mulI (mulW2 (a := 7) (b := 64) (by omega) m2 (by decide)) ?_
    repeat fail
    refine w_mulI (mulW2 (a := 71) (b := 64) (by have := natAbs_mul_le (x := sh) (a := 100) (by omega) m2; omega) m1 (by decide)) ?_
    repeat fail
    unfold cnt1 at h
    refine w_ifd (fun z => ?_) fun z => ?_
    · rw [if_pos (w.mp z)] at h
      repeat fail
      refine w_eqS (ok_up _) (by decide +kernel) ?_
      rw [dec_up]
      repeat fail
      cases up <;> repeat fail
      · exact lo_same h
      · exact lo_same h
    · rw [if_neg (fun k => z (w.mpr k))] at h
      repeat fail
      refine w_eqS (ok_dn _) (by decide +kernel) ?_
      rw [dec_dn]
      repeat fail
      cases dn <;> repeat fail
      · refine lo_same ?_
        rw [if_neg Bool.false_ne_true, lt_zero hu] at h
        exact h
      · exact lo_same h
end G_madeofhere_k04_whole_counts
set_option maxHeartbeats 1000000
namespace G_madeofhere_k04_whole_counts
open PySem PySem.Spec PyProof.Rows L2 DL MH
local macro_rules | `(tactic| fail) => `(tactic| first | with_reducible refine w_seq ?_ | with_reducible refine w_nx ?_ | with_reducible refine w_ret ?_ | with_reducible refine w_retN ?_ | with_reducible refine w_expr ?_ | with_reducible refine w_ifS ?_ | with_reducible refine w_asg ?_ | with_reducible refine w_augS ?_ | with_reducible refine w_for ?_ | with_reducible refine w_bk ?_ | with_reducible refine w_ct ?_ | with_reducible refine w_set0 ?_ | with_reducible refine w_set1 ?_ | with_reducible refine w_set2 ?_ | with_reducible refine w_set3 ?_ | with_reducible refine w_set4 ?_ | with_reducible refine w_set5 ?_ | with_reducible refine w_set6 ?_ | with_reducible refine w_set7 ?_ | with_reducible refine w_set8 ?_ | with_reducible refine w_set9 ?_ | with_reducible refine w_set10 ?_ | with_reducible refine w_set11 ?_ | with_reducible refine w_set12 ?_ | with_reducible refine w_set13 ?_ | with_reducible refine w_var0 ?_ | with_reducible refine w_var1 ?_ | with_reducible refine w_var2 ?_ | with_reducible refine w_var3 ?_ | with_reducible refine w_var4 ?_ | with_reducible refine w_var5 ?_ | with_reducible refine w_var6 ?_ | with_reducible refine w_var7 ?_ | with_reducible refine w_var8 ?_ | with_reducible refine w_var9 ?_ | with_reducible refine w_var10 ?_ | with_reducible refine w_var11 ?_ | with_reducible refine w_var12 ?_ | with_reducible refine w_var13 ?_ | with_reducible refine w_gnm0 ?_ | with_reducible refine w_gnm1 ?_ | with_reducible refine w_gnm2 ?_ | with_reducible refine w_gnm3 ?_ | with_reducible refine w_gnm4 ?_ | with_reducible refine w_gnm5 ?_ | with_reducible refine w_gnm6 ?_ | with_reducible refine w_gnm7 ?_ | with_reducible refine w_gnm8 ?_ | with_reducible refine w_gnm9 ?_ | with_reducible refine w_gnm10 ?_ | with_reducible refine w_gnm11 ?_ | with_reducible refine w_gnm12 ?_ | with_reducible refine w_gnm13 ?_ | with_reducible refine w_gTp rfl ?_ | with_reducible refine w_gCo ?_ | with_reducible refine w_gNi ?_ | with_reducible refine w_gSb ?_ | with_reducible refine w_c ?_ | with_reducible refine w_op ?_ | with_reducible refine w_nil ?_ | with_reducible refine w_cons ?_ | with_reducible refine w_tup ?_ | with_reducible refine w_lst ?_ | with_reducible refine w_cb ?_ | with_reducible refine w_call ?_ | with_reducible refine w_ite ?_ | with_reducible refine w_and ?_ | with_reducible refine w_or ?_ | with_reducible refine w_not ?_ | with_reducible refine w_andT ?_ | with_reducible refine w_andF ?_ | with_reducible refine w_orT ?_ | with_reducible refine w_orF ?_ | with_reducible refine w_neg ?_ | with_reducible refine w_un ?_ | with_reducible refine w_tst ?_ | with_reducible refine w_tstB ?_ | with_reducible refine w_tru ?_ | with_reducible refine w_truB ?_ | with_reducible refine w_tAnd ?_ | with_reducible refine w_tOr ?_ | with_reducible refine w_tNot ?_ | with_reducible refine w_chain ?_ | with_reducible refine w_chT ?_ | with_reducible refine w_chF ?_ | with_reducible refine w_ifT ?_ | with_reducible refine w_ifF ?_ | with_reducible refine w_ifnT ?_ | with_reducible refine w_ifnF ?_ | with_reducible refine w_rvs ?_ | with_reducible refine w_yes ?_ | with_reducible refine w_dRev ?_ | with_reducible refine w_revK ?_ | with_reducible refine w_lstRg ?_ | with_reducible refine w_par ?_ | with_reducible refine w_parK (by dsimp only [List.set]; rfl) ?_ | with_reducible refine w_sl ?_ | with_reducible refine w_slT ?_ | with_reducible refine w_slL ?_ | with_reducible refine w_oNo ?_ | with_reducible refine w_oSo ?_ | with_reducible refine w_oSoK ?_ | with_reducible refine w_prN ?_ | with_reducible refine w_prC ?_ | with_reducible refine w_addI ?_ | with_reducible refine w_subI ?_ | with_reducible refine w_lt ?_ | with_reducible refine w_le ?_ | with_reducible refine w_gt ?_ | with_reducible refine w_ge ?_ | with_reducible refine w_isN ?_ | with_reducible refine w_isnN ?_ | with_reducible refine w_eqI ?_ | with_reducible refine w_neI ?_ | with_reducible refine w_ixT0 ?_ | with_reducible refine w_ixT1 ?_ | with_reducible refine w_ixT2 ?_ | with_reducible refine w_ixT3 ?_ | with_reducible refine w_ixT4 ?_ | with_reducible refine w_ixT5 ?_ | with_reducible refine w_lenL ?_ | with_reducible refine w_lenT ?_ | with_reducible refine w_int ?_ | with_reducible refine w_intB ?_ | with_reducible refine w_abs ?_ | with_reducible refine w_listL ?_ | with_reducible refine w_listT ?_ | with_reducible refine w_tupL ?_ | with_reducible refine w_tupT ?_ | with_reducible refine w_int2 ?_ | with_reducible refine w_gcd ?_ | with_reducible refine w_app ?_ | with_reducible refine w_iSeq ?_ | with_reducible refine w_itemT ?_ | with_reducible refine w_itemL ?_ | with_reducible refine w_iRng ?_ | with_reducible refine w_iEnm ?_ | with_reducible refine w_sg1 ?_ | with_reducible refine w_iRev ?_ | with_reducible refine w_rg1 ?_ | with_reducible refine w_rg1K ?_ | with_reducible refine w_notB ?_)
def wordD : Option Bool → D
  | none => .non
  | some b => .int (if b then 1 else 0)
def recD (u : Int) (a : Nat → Int) (t : Th) (b : Nat) : D := .tup [frD (lt (t.cst b a) u), frD (lt (t.own b a) u), frD (lt (t.cnt b a) u), wordD (t.word b a)]
theorem d_ix1 {t : Th} {M : Mem} {Q : QD} (h : Q (landD t.here) M) : ixD t.d (.int 1) M Q := by
  cases t with
  | raw _ _ _ => rw [Th.d]; exact w_ixT1 h
  | made _ _ _ _ _ _ _ => rw [Th.d]; exact w_ixT1 h
theorem word_step {t : Th} {b : Nat} {a : Nat → Int} {u : Int} {M : Mem} {Xd : XD} {nx bk ct : SD → Mem → Prop} {rt : QD} {x0 x1 x2 x3 x4 x6 x8 x9 : Option D} (hu : 0 < u) (ht : t.ok) (f1 : FOk (lt (t.own b a) u)) (f2 : FOk (lt (t.cst b a) u))
    (h : nx [x0, x1, x2, x3, x4, some t.d, x6, some (frD (lt (t.cst b a) u)), x8, x9, some (frD (lt (t.own b a) u)), some (wordD (t.word b a))] M) :
    (sIf (dTst (dOp eqD (dOp ixD (dVar 5) (dC (.int 0))) (dC (.str "made")))) (sSet 11 (dCB intC (dCons (dOp geD (dOp mulD (dOp mulD (dC (.int 100)) (dOp ixD (dVar 10) (dC (.int 0)))) (dOp ixD (dVar 7) (dC (.int 1)))) (dOp mulD (dOp mulD (dOp ixD (dOp ixD (dVar 5) (dC (.int 4))) (dC (.int 0))) (dOp ixD (dVar 7) (dC (.int 0)))) (dOp ixD (dVar 10) (dC (.int 1))))) (dNil)))) (sNx))
      ⟨nx, rt, bk, ct, Xd⟩ [x0, x1, x2, x3, x4, some t.d, x6, some (frD (lt (t.cst b a) u)), x8, x9, some (frD (lt (t.own b a) u)), some .non] M := by
  cases t with
  | raw hr lo hi =>
    rw [Th.d]
    repeat fail
    refine w_eqS (by decide +kernel) (by decide +kernel) ?_
    rw [show decide ((Str.ofString "raw") = (Str.ofString "made")) = false from by decide +kernel]
    repeat fail
    exact h
  | made hr lo hi sh up dn ps =>
    have r1 := rep_lt (v := (Th.made hr lo hi sh up dn ps).own b a) hu
    have r2 := rep_lt (v := (Th.made hr lo hi sh up dn ps).cst b a) hu
    have w := word_fr (sh := sh) hu r1 r2
    have ew : (Th.made hr lo hi sh up dn ps).word b a = some (decide (sh * (Th.made hr lo hi sh up dn ps).cst b a ≤ 100 * (Th.made hr lo hi sh up dn ps).own b a)) := rfl
    rw [ew] at h
    generalize (Th.made hr lo hi sh up dn ps).own b a = O at *
    generalize (Th.made hr lo hi sh up dn ps).cst b a = C at *
    rw [Th.d, frD, frD] at h ⊢
    unfold termD at h ⊢
    repeat fail
    refine w_eqS (by decide +kernel) (by decide +kernel) ?_
    rw [show decide ((Str.ofString "made") = (Str.ofString "made")) = true from by decide +kernel]
    repeat fail
    obtain ⟨_, ⟨h1, h2⟩, _⟩ := ht
    have m0 := f1.1
    have m1 := f1.2.2
    have m2 := f2.1
    have m3 := f2.2.2
    refine w_mulI (mulW2 (a := 7) (b := 64) (by decide) m0 (by decide)) ?_
    repeat fail
    refine w_mulI (mulW2 (a := 71) (b := 64) (by have := natAbs_mul_le (x := 100) (a := 100) (Nat.le_refl _) m0; omega) m3 (by decide)) ?_
    repeat fail
    refine w_mulI (mulW2 (a := 7) (b := 64) (by omega) m2 (by decide)) ?_
    repeat fail
    refine w_mulI (mulW2 (a := 71) (b := 64) (by have := natAbs_mul_le (x := sh) (a := 100) (by omega) m2; omega) m1 (by decide)) ?_
    repeat fail
    have e : decide (sh * (lt C u).1 * (lt O u).2 ≤ 100 * (lt O u).1 * (lt C u).2) = decide (sh * C ≤ 100 * O) := by
      by_cases z : sh * C ≤ 100 * O
      · rw [decide_eq_true z, decide_eq_true (w.mpr z)]
      · rw [decide_eq_false z, decide_eq_false (fun k => z (w.mp k))]
    rw [e]
    exact h
/-- what is told of prices: fractions in units -/
structure PrOk (row : List (Int × Int)) (n : Nat) (u A : Int) (a : Nat → Int) : Prop where
  len : row.length = n
  nn : n ≤ 40
  at_ : ∀ k, k < n → ∃ f, row[k]? = some f ∧ FOk f ∧ Rep u (a k) f
  ha : ∀ k, 0 ≤ a k ∧ a k ≤ A
  hu : 0 < u
  uB : u.natAbs ≤ 2 ^ 64
  aB : (40 : Int) * A ≤ 2 ^ 64
theorem mapN_len {α : Type} (f : Th → Nat → α) : ∀ (ps : List Th) (k : Nat), (mapN f ps k).length = ps.length
  | [], _ => rfl
  | t :: ts, k => by rw [mapN, List.length_cons, mapN_len f ts, List.length_cons]
theorem mapN_mem {α : Type} {f : Th → Nat → α} {x : α} : ∀ {ps : List Th} {k : Nat}, x ∈ mapN f ps k → ∃ t j, t ∈ ps ∧ x = f t j
  | [], _, h => by cases h
  | t :: ts, k, h => by
    rw [mapN, List.mem_cons] at h
    rcases h with rfl | h
    · exact ⟨t, k, List.mem_cons_self, rfl⟩
    · obtain ⟨t', j, h1, h2⟩ := mapN_mem h
      exact ⟨t', j, List.mem_cons_of_mem _ h1, h2⟩
theorem mapN_reps {u : Int} (hu : 0 < u) (f : Th → Nat → Int) : ∀ (ps : List Th) (k : Nat), Reps u (mapN (fun t j => lt (f t j) u) ps k) (mapN f ps k)
  | [], _ => .nil
  | t :: ts, k => .cons (rep_lt hu) (mapN_reps hu f ts _)
theorem sz_le {t : Th} : ∀ {ps : List Th}, t ∈ ps → t.sz ≤ Th.szs ps
  | [], h => by cases h
  | s :: ss, h => by
    simp only [Th.szs]
    rcases List.mem_cons.mp h with rfl | h
    · omega
    · have := sz_le h; omega
theorem oks_mem {t : Th} : ∀ {ps : List Th}, Th.oks ps → t ∈ ps → t.ok
  | [], _, h => by cases h
  | s :: ss, ⟨h1, h2⟩, h => by
    rcases List.mem_cons.mp h with rfl | h
    · exact h1
    · exact oks_mem h2 h
theorem parts_ok {t : Th} (h : t.ok) : Th.oks t.parts := by
  cases t with
  | raw _ _ _ => exact True.intro
  | made _ _ _ _ _ _ _ => exact h.2.2.2
theorem parts_szs (t : Th) : t.sz = 1 + Th.szs t.parts := by
  cases t with
  | raw _ _ _ => rfl
  | made _ _ _ _ _ _ _ => rfl
mutual
theorem rows_ok : ∀ (t : Th) (b : Nat), t.ok → ∀ r ∈ rows t b, r.1.ok ∧ r.1.sz ≤ t.sz
  | .raw h lo hi, b, ho, r, hr => by
    simp only [rows, List.mem_singleton] at hr
    subst hr; exact ⟨ho, Nat.le_refl _⟩
  | .made h lo hi sh u w ps, b, ho, r, hr => by
    rw [rows, List.mem_cons] at hr
    rcases hr with rfl | hr
    · exact ⟨ho, Nat.le_refl _⟩
    · have := rowss_ok ps (b + 1) ho.2.2.2 r hr
      simp only [Th.sz]
      exact ⟨this.1, by omega⟩
theorem rowss_ok : ∀ (ts : List Th) (b : Nat), Th.oks ts → ∀ r ∈ rowss ts b, r.1.ok ∧ r.1.sz ≤ Th.szs ts
  | [], _, _, r, hr => by cases hr
  | t :: ts, b, ho, r, hr => by
    rw [rowss, List.mem_append] at hr
    simp only [Th.szs]
    rcases hr with hr | hr
    · have := rows_ok t b ho.1 r hr
      exact ⟨this.1, by omega⟩
    · have := rowss_ok ts _ ho.2 r hr
      exact ⟨this.1, by omega⟩
end
theorem at_ok {t : Th} {i : Nat} (h : t.ok) (hi : i < t.sz) : (atR (rows t 0) i).ok ∧ (atR (rows t 0) i).sz ≤ t.sz := rows_ok t 0 h _ (List.mem_of_getElem? (at_row hi))
section
variable {row : List (Int × Int)} {n : Nat} {u A : Int} {a : Nat → Int}
theorem PrOk.A0 (P : PrOk row n u A a) : 0 ≤ A := by have := P.ha 0; omega
theorem PrOk.cst (P : PrOk row n u A a) {t : Th} (ht : t.sz ≤ 40) (b : Nat) : FOk (lt (t.cst b a) u) := by
  have h := cst_bd P.ha t b
  have h1 : (t.sz : Int) * A ≤ 40 * A := Int.mul_le_mul_of_nonneg_right (by omega) P.A0
  have := P.aB
  exact fok_lt P.hu (by omega) P.uB
theorem PrOk.cnt (P : PrOk row n u A a) {t : Th} (ht : t.sz ≤ 40) (b : Nat) : FOk (lt (t.cnt b a) u) ∧ FOk (lt (t.own b a) u) := by
  have h := cst_bd P.ha t b
  have h1 : (t.sz : Int) * A ≤ 40 * A := Int.mul_le_mul_of_nonneg_right (by omega) P.A0
  have h2 := cnt_bd P.ha t b
  have := P.aB
  exact ⟨fok_lt P.hu (by omega) P.uB, fok_lt P.hu (by omega) P.uB⟩
end
end G_madeofhere_k04_whole_counts
set_option maxHeartbeats 1000000
namespace G_madeofhere_k04_whole_counts
open PySem PySem.Spec PyProof.Rows L2 DL MH
local macro_rules | `(tactic| fail) => `(tactic| first | with_reducible refine w_seq ?_ | with_reducible refine w_nx ?_ | with_reducible refine w_ret ?_ | with_reducible refine w_retN ?_ | with_reducible refine w_expr ?_ | with_reducible refine w_ifS ?_ | with_reducible refine w_asg ?_ | with_reducible refine w_augS ?_ | with_reducible refine w_for ?_ | with_reducible refine w_bk ?_ | with_reducible refine w_ct ?_ | with_reducible refine w_set0 ?_ | with_reducible refine w_set1 ?_ | with_reducible refine w_set2 ?_ | with_reducible refine w_set3 ?_ | with_reducible refine w_set4 ?_ | with_reducible refine w_set5 ?_ | with_reducible refine w_set6 ?_ | with_reducible refine w_set7 ?_ | with_reducible refine w_set8 ?_ | with_reducible refine w_set9 ?_ | with_reducible refine w_set10 ?_ | with_reducible refine w_set11 ?_ | with_reducible refine w_set12 ?_ | with_reducible refine w_set13 ?_ | with_reducible refine w_set14 ?_ | with_reducible refine w_set15 ?_ | with_reducible refine w_set16 ?_ | with_reducible refine w_set17 ?_ | with_reducible refine w_var0 ?_ | with_reducible refine w_var1 ?_ | with_reducible refine w_var2 ?_ | with_reducible refine w_var3 ?_ | with_reducible refine w_var4 ?_ | with_reducible refine w_var5 ?_ | with_reducible refine w_var6 ?_ | with_reducible refine w_var7 ?_ | with_reducible refine w_var8 ?_ | with_reducible refine w_var9 ?_ | with_reducible refine w_var10 ?_ | with_reducible refine w_var11 ?_ | with_reducible refine w_var12 ?_ | with_reducible refine w_var13 ?_ | with_reducible refine w_var14 ?_ | with_reducible refine w_var15 ?_ | with_reducible refine w_var16 ?_ | with_reducible refine w_var17 ?_ | with_reducible refine w_gnm0 ?_ | with_reducible refine w_gnm1 ?_ | with_reducible refine w_gnm2 ?_ | with_reducible refine w_gnm3 ?_ | with_reducible refine w_gnm4 ?_ | with_reducible refine w_gnm5 ?_ | with_reducible refine w_gnm6 ?_ | with_reducible refine w_gnm7 ?_ | with_reducible refine w_gnm8 ?_ | with_reducible refine w_gnm9 ?_ | with_reducible refine w_gnm10 ?_ | with_reducible refine w_gnm11 ?_ | with_reducible refine w_gnm12 ?_ | with_reducible refine w_gnm13 ?_ | with_reducible refine w_gnm14 ?_ | with_reducible refine w_gnm15 ?_ | with_reducible refine w_gnm16 ?_ | with_reducible refine w_gnm17 ?_ | with_reducible refine w_gTp rfl ?_ | with_reducible refine w_gCo ?_ | with_reducible refine w_gNi ?_ | with_reducible refine w_gSb ?_ | with_reducible refine w_c ?_ | with_reducible refine w_op ?_ | with_reducible refine w_nil ?_ | with_reducible refine w_cons ?_ | with_reducible refine w_tup ?_ | with_reducible refine w_lst ?_ | with_reducible refine w_cb ?_ | with_reducible refine w_call ?_ | with_reducible refine w_ite ?_ | with_reducible refine w_and ?_ | with_reducible refine w_or ?_ | with_reducible refine w_not ?_ | with_reducible refine w_andT ?_ | with_reducible refine w_andF ?_ | with_reducible refine w_orT ?_ | with_reducible refine w_orF ?_ | with_reducible refine w_neg ?_ | with_reducible refine w_un ?_ | with_reducible refine w_tst ?_ | with_reducible refine w_tstB ?_ | with_reducible refine w_tru ?_ | with_reducible refine w_truB ?_ | with_reducible refine w_tAnd ?_ | with_reducible refine w_tOr ?_ | with_reducible refine w_tNot ?_ | with_reducible refine w_chain ?_ | with_reducible refine w_chT ?_ | with_reducible refine w_chF ?_ | with_reducible refine w_ifT ?_ | with_reducible refine w_ifF ?_ | with_reducible refine w_ifnT ?_ | with_reducible refine w_ifnF ?_ | with_reducible refine w_rvs ?_ | with_reducible refine w_yes ?_ | with_reducible refine w_iZip ?_ | with_reducible refine w_sg2 ?_ | with_reducible refine w_zipLL ?_ | with_reducible refine w_zipTT ?_ | with_reducible refine w_augY ?_ | with_reducible refine w_isiII ?_ | with_reducible refine w_isiIB ?_ | with_reducible refine w_isiSS ?_ | with_reducible refine w_isiTT ?_ | with_reducible refine w_isiIT ?_ | with_reducible refine w_isiIS ?_ | with_reducible refine w_isiSI ?_ | with_reducible refine w_isiSB ?_ | with_reducible refine w_isiST ?_ | with_reducible refine w_isiTI ?_ | with_reducible refine w_isiTB ?_ | with_reducible refine w_isiTS ?_ | with_reducible refine w_isiNI ?_ | with_reducible refine w_isiNS ?_ | with_reducible refine w_isiNT ?_ | with_reducible refine w_isiBI ?_ | with_reducible refine w_isiBB ?_ | with_reducible refine w_isiLT ?_ | with_reducible refine w_dRev ?_ | with_reducible refine w_revK ?_ | with_reducible refine w_lstRg ?_ | with_reducible refine w_par ?_ | with_reducible refine w_parK (by dsimp only [List.set] <;> rfl) ?_ | with_reducible refine w_sl ?_ | with_reducible refine w_slT ?_ | with_reducible refine w_slL ?_ | with_reducible refine w_oNo ?_ | with_reducible refine w_oSo ?_ | with_reducible refine w_oSoK ?_ | with_reducible refine w_prN ?_ | with_reducible refine w_prC ?_ | with_reducible refine w_addI ?_ | with_reducible refine w_subI ?_ | with_reducible refine w_lt ?_ | with_reducible refine w_le ?_ | with_reducible refine w_gt ?_ | with_reducible refine w_ge ?_ | with_reducible refine w_isN ?_ | with_reducible refine w_isnN ?_ | with_reducible refine w_eqI ?_ | with_reducible refine w_neI ?_ | with_reducible refine w_ixT0 ?_ | with_reducible refine w_ixT1 ?_ | with_reducible refine w_ixT2 ?_ | with_reducible refine w_ixT3 ?_ | with_reducible refine w_ixT4 ?_ | with_reducible refine w_ixT5 ?_ | with_reducible refine w_lenL ?_ | with_reducible refine w_lenT ?_ | with_reducible refine w_int ?_ | with_reducible refine w_intB ?_ | with_reducible refine w_abs ?_ | with_reducible refine w_listL ?_ | with_reducible refine w_listT ?_ | with_reducible refine w_tupL ?_ | with_reducible refine w_tupT ?_ | with_reducible refine w_int2 ?_ | with_reducible refine w_gcd ?_ | with_reducible refine w_app ?_ | with_reducible refine w_iSeq ?_ | with_reducible refine w_itemT ?_ | with_reducible refine w_itemL ?_ | with_reducible refine w_iRng ?_ | with_reducible refine w_iEnm ?_ | with_reducible refine w_sg1 ?_ | with_reducible refine w_iRev ?_ | with_reducible refine w_rg1 ?_ | with_reducible refine w_rg1K ?_ | with_reducible refine w_notB ?_)
theorem rng_rev (m : Nat) : (rngL 0 (m + 1)).reverse = D.int (m : Int) :: (rngL 0 m).reverse := by
  unfold rngL
  rw [List.range_succ, List.map_append, List.reverse_append]
  simp
def pick (R : List (Th × List Nat)) (f : Th → Nat → D) : D → D
  | .int j => f (atR R j.toNat) j.toNat
  | _ => .non
/-- [known[j][i] for j in numbers] -/
theorem known_k {t : Th} {u : Int} {a : Nat → Int} {p : Addr} {L : List Nat} {M : Mem} {Q : QD} {x0 x1 x2 x4 x5 x6 x7 x9 x10 x11 : Option D} {i : Int} {f : Th → Nat → Int × Int} (hf : ∀ (t : Th) (j : Nat) (M : Mem) (K : QD), K (frD (f t j)) M → ixD (recD u a t j) (.int i) M K)
    {k : Nat} (hk : k < t.sz) (hz : t.sz ≤ 40) (hL : ∀ j, j ∈ L ↔ k + 1 ≤ j ∧ j < t.sz) (hM : M p = some (.dct (L.map kI) (L.map fun j => recD u a (atR (rows t 0) j) j)))
    (h : Q (.lst ((mapN f (atR (rows t 0) k).parts (k + 1)).map frD)) M) :
    ∀ q, M q = none → dLcL (gNm 8) tYesD (dOp ixD (dOp ixD (dVar 3) (dVar 8)) (dC (.int i))) [x0, x1, x2, some (.ref p), x4, x5, x6, x7, none, x9, x10, x11] (wat none M) q Q ((numsT (atR (rows t 0) k) k).map fun (j : Nat) => D.int (j : Int)) (M.put q (.lst [])) := by
  intro q hq
  obtain ⟨hp1, hp2⟩ := parts_at (fun t j => frD (f t j)) hk
  have hlen : (numsT (atR (rows t 0) k) k).length ≤ 100 := by
    have e := congrArg List.length hp1
    rw [List.length_map, mapN_len] at e
    have := szs_ge (atR (rows t 0) k).parts
    have e2 := parts_szs (atR (rows t 0) k)
    have e3 : (atR (rows t 0) k).sz ≤ t.sz := by
      obtain ⟨rest, e⟩ := seg_at hk
      have := congrArg List.length e
      rw [List.length_drop, List.length_append, rows_len, rows_len] at this
      omega
    omega
  refine lc_map hq (pick (rows t 0) fun t j => frD (f t j)) (fun _ => wat_none) (by rw [List.length_map, sizeLine_eq]; omega) (fun d hd acc K hK => ?_) ?_
  · obtain ⟨j, hj, rfl⟩ := List.mem_map.mp hd
    have hjL : j ∈ L := (hL j).mpr ⟨by have := hp2 j hj; omega, (hp2 j hj).2⟩
    have np : p ≠ q := fun e => by rw [e, hq] at hM; cases hM
    repeat fail
    refine w_ixRDi (a := p) (i := (j : Int)) ((Mem.put_ne np).trans hM) (val_nat _ L j hjL) ?_
    repeat fail
    exact hf _ _ _ _ hK
  · have e : ((numsT (atR (rows t 0) k) k).map fun (j : Nat) => D.int (j : Int)).map (pick (rows t 0) fun t j => frD (f t j)) = (mapN f (atR (rows t 0) k).parts (k + 1)).map frD := by
      rw [List.map_map]
      have e1 : ((pick (rows t 0) fun t j => frD (f t j)) ∘ fun (j : Nat) => D.int (j : Int)) = fun j => frD (f (atR (rows t 0) j) j) := by
        funext j; simp [pick]
      rw [e1, hp1]
      have : ∀ (ps : List Th) (k : Nat), mapN (fun t j => frD (f t j)) ps k = (mapN f ps k).map frD := by
        intro ps
        induction ps with
        | nil => intro k; rfl
        | cons t ts ih => intro k; rw [mapN, mapN, List.map_cons, ih]
      exact this _ _
    rw [e]; exact h
theorem reck_loop {t : Th} {row : List (Int × Int)} {u A : Int} {a : Nat → Int} (P : PrOk row t.sz u A a) (ht : t.ok) {p : Addr} {M0 : Mem} {nx bk ct : SD → Mem → Prop} {rt : QD} {Xd : XD} {d0 : D} {W : Mem → Prop} (hW : ∀ M, W M)
    (fin : ∀ (L : List Nat) (M' : Mem) (o4 o5 o6 o7 o8 o9 o10 o11 : Option D), (∀ j, j ∈ L ↔ j < t.sz) → M' p = some (.dct (L.map kI) (L.map fun j => recD u a (atR (rows t 0) j) j)) → (∀ x, x ≠ p → M' x = M0 x) →
      nx [some d0, some (.tup (row.map frD)), some (.lst ((rows t 0).map rowD)), some (.ref p), o4, o5, o6, o7, o8, o9, o10, o11] M') :
    ∀ (m : Nat) (L : List Nat) (M' : Mem) (o4 o5 o6 o7 o8 o9 o10 o11 : Option D), m ≤ t.sz → (∀ j, j ∈ L ↔ m ≤ j ∧ j < t.sz) → L.Nodup → L.length + m = t.sz → M' p = some (.dct (L.map kI) (L.map fun j => recD u a (atR (rows t 0) j) j)) → (∀ x, x ≠ p → M' x = M0 x) →
      sForL (gNm 4) (sSeq (sAsg (dOp ixD (dVar 2) (dVar 4)) (gTp 2 (gCo (gNm 5) (gCo (gNm 6) (gNi))))) (sSeq (sSet 7 (dCall W_law_sum [] (dCons (dOp addD (dLst (dCons (dOp ixD (dVar 1) (dVar 4)) (dNil))) (dLc (iSeqD (dVar 6)) (gNm 8) (tYesD) (dOp ixD (dOp ixD (dVar 3) (dVar 8)) (dC (.int 0))) [8])) (dNil)))) (sSeq (sSet 9 (dIte (dTst (dOp eqD (dOp ixD (dVar 5) (dC (.int 1))) (dC (.str "here")))) (dLst (dCons (dOp ixD (dVar 1) (dVar 4)) (dNil))) (dLst (dNil)))) (sSeq (sSet 10 (dCall W_law_sum [] (dCons (dOp addD (dVar 9) (dLc (iSeqD (dVar 6)) (gNm 8) (tYesD) (dOp ixD (dOp ixD (dVar 3) (dVar 8)) (dC (.int 2))) [8])) (dNil)))) (sSeq (sSet 11 (dC .non)) (sSeq (sIf (dTst (dOp eqD (dOp ixD (dVar 5) (dC (.int 0))) (dC (.str "made")))) (sSet 11 (dCB intC (dCons (dOp geD (dOp mulD (dOp mulD (dC (.int 100)) (dOp ixD (dVar 10) (dC (.int 0)))) (dOp ixD (dVar 7) (dC (.int 1)))) (dOp mulD (dOp mulD (dOp ixD (dOp ixD (dVar 5) (dC (.int 4))) (dC (.int 0))) (dOp ixD (dVar 7) (dC (.int 0)))) (dOp ixD (dVar 10) (dC (.int 1))))) (dNil)))) (sNx)) (sAsg (dTup (dCons (dVar 7) (dCons (dVar 10) (dCons (dCall W_law_counted [] (dCons (dVar 5) (dCons (dVar 10) (dCons (dVar 7) (dNil))))) (dCons (dVar 11) (dNil)))))) (gSb (dVar 3) (dVar 4))))))))) ⟨nx, rt, bk, ct, Xd⟩ W ((rngL 0 m).reverse) [some d0, some (.tup (row.map frD)), some (.lst ((rows t 0).map rowD)), some (.ref p), o4, o5, o6, o7, o8, o9, o10, o11] M'
  | 0, L, M', o4, o5, o6, o7, o8, o9, o10, o11, _, h1, _, _, h2, h3 => w_forNil (hW _) (fin L M' o4 o5 o6 o7 o8 o9 o10 o11 (fun j => by rw [h1]; omega) h2 h3)
  | k + 1, L, M', o4, o5, o6, o7, o8, o9, o10, o11, hm, h1, hnd, hlen, h2, h3 => by
    have hk : k < t.sz := by omega
    have hz : t.sz ≤ 40 := P.nn
    rw [rng_rev]
    refine w_forCons (hW _) ?_
    repeat fail
    have er : ((rows t 0).map rowD)[k]? = some (rowD (atR (rows t 0) k, numsT (atR (rows t 0) k) k)) := by rw [List.getElem?_map, at_row hk]; rfl
    refine w_ixL (atI_nat er) ?_
    have erD : rowD (atR (rows t 0) k, numsT (atR (rows t 0) k) k) = .tup [(atR (rows t 0) k).d, .lst ((numsT (atR (rows t 0) k) k).map fun (j : Nat) => D.int (j : Int))] := rfl
    rw [erD]
    repeat fail
    obtain ⟨f, hf1, hf2, hf3⟩ := P.at_ k hk
    have ef : (row.map frD)[k]? = some (frD f) := by rw [List.getElem?_map, hf1]; rfl
    refine w_ixT (atI_nat ef) ?_
    repeat fail
    refine w_lc ?_
    repeat fail
    have hok := at_ok ht hk
    have hpo := parts_ok hok.1
    have hps := parts_szs (atR (rows t 0) k)
    have hge := szs_ge (atR (rows t 0) k).parts
    have hwp : ∀ x0 x1 x2 x3 x4 x5 x6 x7 x8 x9 x10 x11 : Option D, wipeD [x0, x1, x2, x3, x4, x5, x6, x7, x8, x9, x10, x11] [8] = [x0, x1, x2, x3, x4, x5, x6, x7, none, x9, x10, x11] := fun _ _ _ _ _ _ _ _ _ _ _ _ => rfl
    rw [hwp]
    refine known_k (u := u) (a := a) (f := fun t j => lt (t.cst j a) u) (fun t j M K hK => w_ixT0 hK) hk hz h1 h2 ?_
    refine w_addL (by rw [List.length_map, mapN_len, List.length_singleton, sizeLine_eq]; omega) ?_
    repeat fail
    have e1 : ([frD f] ++ (mapN (fun t j => lt (t.cst j a) u) (atR (rows t 0) k).parts (k + 1)).map frD) = ((f :: mapN (fun t j => lt (t.cst j a) u) (atR (rows t 0) k).parts (k + 1)).map frD) := rfl
    rw [e1]
    have r1 : Reps u (f :: mapN (fun t j => lt (t.cst j a) u) (atR (rows t 0) k).parts (k + 1)) (a k :: mapN (fun t j => t.cst j a) (atR (rows t 0) k).parts (k + 1)) := .cons hf3 (mapN_reps P.hu _ _ _)
    refine sum_k (fun g hg => ?_) (by rw [List.length_cons, mapN_len]; omega) ?_
    · rcases List.mem_cons.mp hg with rfl | hg
      · exact hf2
      · obtain ⟨t', j, z1, rfl⟩ := mapN_mem hg
        exact P.cst (by have := sz_le z1; omega) j
    have e2 := (Rep.sum r1).lt P.hu
    rw [List.sum_cons, sum_csts, ← cst_eq] at e2
    rw [e2]
    refine w_joinS (P := fun s1 M1 => M1 = M' ∧ ∃ (fs : List (Int × Int)) (vs : List Int), fs.length ≤ 1 ∧ (∀ g ∈ fs, FOk g) ∧ Reps u fs vs ∧ vs.sum = own1 (atR (rows t 0) k).here (a k) ∧
      s1 = [some d0, some (.tup (row.map frD)), some (.lst ((rows t 0).map rowD)), some (.ref p), some (.int k), some (atR (rows t 0) k).d, some (.lst ((numsT (atR (rows t 0) k) k).map fun (j : Nat) => D.int (j : Int))), some (frD (lt ((atR (rows t 0) k).cst k a) u)), o8, some (.lst (fs.map frD)), o10, o11])
      (fun s1 M1 ⟨eM, fs, vs, q1, q2, q3, q4, es⟩ => ?_) fun join => ?_
    · subst eM; subst es
      repeat fail
      refine w_lc ?_
      repeat fail
      rw [hwp]
      refine known_k (u := u) (a := a) (f := fun t j => lt (t.cnt j a) u) (fun t j M K hK => w_ixT2 hK) hk hz h1 h2 ?_
      refine w_addL (by rw [List.length_map, List.length_map, mapN_len, sizeLine_eq]; omega) ?_
      repeat fail
      rw [← List.map_append]
      have reps_app : ∀ {fs : List (Int × Int)} {vs : List Int} {gs : List (Int × Int)} {ws : List Int}, Reps u fs vs → Reps u gs ws → Reps u (fs ++ gs) (vs ++ ws) := by
        intro fs vs gs ws h1 h2
        induction h1 with
        | nil => exact h2
        | cons h _ ih => exact .cons h ih
      have r2 := reps_app q3 (mapN_reps P.hu (fun t j => t.cnt j a) (atR (rows t 0) k).parts (k + 1))
      refine sum_k (fun g hg => ?_) (by rw [List.length_append, mapN_len]; omega) ?_
      · rcases List.mem_append.mp hg with hg | hg
        · exact q2 g hg
        · obtain ⟨t', j, z1, rfl⟩ := mapN_mem hg
          exact (P.cnt (by have := sz_le z1; omega) j).1
      have e4 := (Rep.sum r2).lt P.hu
      rw [List.sum_append, sum_cnts, q4, ← own_eq] at e4
      rw [e4]
      repeat fail
      have fc := P.cst (t := atR (rows t 0) k) (by omega) k
      have fo := (P.cnt (t := atR (rows t 0) k) (by omega) k).2
      refine word_step P.hu hok.1 fo fc ?_
      repeat fail
      refine counted_k P.hu hok.1 fo fc ?_
      repeat fail
      refine w_setDi (V := fun j => recD u a (atR (rows t 0) j) j) h2 hnd (by omega) (fun z => by have := (h1 k).mp z; omega) rfl ?_
      refine reck_loop P ht hW fin k (L ++ [k]) _ _ _ _ _ _ _ _ _ (by omega) (fun j => ?_) ?_ (by rw [List.length_append, List.length_singleton]; omega) Mem.put_same fun x hx => (Mem.put_ne hx).trans (h3 x hx)
      · rw [List.mem_append, List.mem_singleton, h1]; omega
      · rw [List.nodup_append]
        refine ⟨hnd, by simp, fun x hx y hy e => ?_⟩
        rw [List.mem_singleton] at hy
        have := (h1 x).mp hx
        omega
    · repeat fail
      refine d_ix1 ?_
      unfold landD
      refine w_eqS (ok_land _) (by decide +kernel) ?_
      rw [dec_land]
      repeat fail
      refine w_ifb (fun hh => ?_) fun hh => ?_
      · repeat fail
        refine w_ixT (atI_nat ef) ?_
        repeat fail
        refine join _ _ ⟨rfl, [f], [a k], by simp, fun g hg => ?_, .cons hf3 .nil, ?_, rfl⟩
        · rw [List.mem_singleton] at hg; subst hg; exact hf2
        · rw [hh]; simp [own1]
      · repeat fail
        refine join _ _ ⟨rfl, [], [], by simp, fun g hg => (by cases hg), .nil, ?_, rfl⟩
        rw [hh]; rfl
end G_madeofhere_k04_whole_counts
set_option maxHeartbeats 1000000
namespace G_madeofhere_k04_whole_counts
open PySem PySem.Spec PyProof.Rows L2 DL MH
local macro_rules | `(tactic| fail) => `(tactic| first | with_reducible refine w_seq ?_ | with_reducible refine w_nx ?_ | with_reducible refine w_ret ?_ | with_reducible refine w_retN ?_ | with_reducible refine w_expr ?_ | with_reducible refine w_ifS ?_ | with_reducible refine w_asg ?_ | with_reducible refine w_augS ?_ | with_reducible refine w_for ?_ | with_reducible refine w_bk ?_ | with_reducible refine w_ct ?_ | with_reducible refine w_set0 ?_ | with_reducible refine w_set1 ?_ | with_reducible refine w_set2 ?_ | with_reducible refine w_set3 ?_ | with_reducible refine w_set4 ?_ | with_reducible refine w_set5 ?_ | with_reducible refine w_set6 ?_ | with_reducible refine w_set7 ?_ | with_reducible refine w_set8 ?_ | with_reducible refine w_set9 ?_ | with_reducible refine w_set10 ?_ | with_reducible refine w_set11 ?_ | with_reducible refine w_set12 ?_ | with_reducible refine w_set13 ?_ | with_reducible refine w_set14 ?_ | with_reducible refine w_set15 ?_ | with_reducible refine w_set16 ?_ | with_reducible refine w_set17 ?_ | with_reducible refine w_var0 ?_ | with_reducible refine w_var1 ?_ | with_reducible refine w_var2 ?_ | with_reducible refine w_var3 ?_ | with_reducible refine w_var4 ?_ | with_reducible refine w_var5 ?_ | with_reducible refine w_var6 ?_ | with_reducible refine w_var7 ?_ | with_reducible refine w_var8 ?_ | with_reducible refine w_var9 ?_ | with_reducible refine w_var10 ?_ | with_reducible refine w_var11 ?_ | with_reducible refine w_var12 ?_ | with_reducible refine w_var13 ?_ | with_reducible refine w_var14 ?_ | with_reducible refine w_var15 ?_ | with_reducible refine w_var16 ?_ | with_reducible refine w_var17 ?_ | with_reducible refine w_gnm0 ?_ | with_reducible refine w_gnm1 ?_ | with_reducible refine w_gnm2 ?_ | with_reducible refine w_gnm3 ?_ | with_reducible refine w_gnm4 ?_ | with_reducible refine w_gnm5 ?_ | with_reducible refine w_gnm6 ?_ | with_reducible refine w_gnm7 ?_ | with_reducible refine w_gnm8 ?_ | with_reducible refine w_gnm9 ?_ | with_reducible refine w_gnm10 ?_ | with_reducible refine w_gnm11 ?_ | with_reducible refine w_gnm12 ?_ | with_reducible refine w_gnm13 ?_ | with_reducible refine w_gnm14 ?_ | with_reducible refine w_gnm15 ?_ | with_reducible refine w_gnm16 ?_ | with_reducible refine w_gnm17 ?_ | with_reducible refine w_gTp rfl ?_ | with_reducible refine w_gCo ?_ | with_reducible refine w_gNi ?_ | with_reducible refine w_gSb ?_ | with_reducible refine w_c ?_ | with_reducible refine w_op ?_ | with_reducible refine w_nil ?_ | with_reducible refine w_cons ?_ | with_reducible refine w_tup ?_ | with_reducible refine w_lst ?_ | with_reducible refine w_cb ?_ | with_reducible refine w_call ?_ | with_reducible refine w_ite ?_ | with_reducible refine w_and ?_ | with_reducible refine w_or ?_ | with_reducible refine w_not ?_ | with_reducible refine w_andT ?_ | with_reducible refine w_andF ?_ | with_reducible refine w_orT ?_ | with_reducible refine w_orF ?_ | with_reducible refine w_neg ?_ | with_reducible refine w_un ?_ | with_reducible refine w_tst ?_ | with_reducible refine w_tstB ?_ | with_reducible refine w_tru ?_ | with_reducible refine w_truB ?_ | with_reducible refine w_tAnd ?_ | with_reducible refine w_tOr ?_ | with_reducible refine w_tNot ?_ | with_reducible refine w_chain ?_ | with_reducible refine w_chT ?_ | with_reducible refine w_chF ?_ | with_reducible refine w_ifT ?_ | with_reducible refine w_ifF ?_ | with_reducible refine w_ifnT ?_ | with_reducible refine w_ifnF ?_ | with_reducible refine w_rvs ?_ | with_reducible refine w_yes ?_ | with_reducible refine w_iZip ?_ | with_reducible refine w_sg2 ?_ | with_reducible refine w_zipLL ?_ | with_reducible refine w_zipTT ?_ | with_reducible refine w_augY ?_ | with_reducible refine w_isiII ?_ | with_reducible refine w_isiIB ?_ | with_reducible refine w_isiSS ?_ | with_reducible refine w_isiTT ?_ | with_reducible refine w_isiIT ?_ | with_reducible refine w_isiIS ?_ | with_reducible refine w_isiSI ?_ | with_reducible refine w_isiSB ?_ | with_reducible refine w_isiST ?_ | with_reducible refine w_isiTI ?_ | with_reducible refine w_isiTB ?_ | with_reducible refine w_isiTS ?_ | with_reducible refine w_isiNI ?_ | with_reducible refine w_isiNS ?_ | with_reducible refine w_isiNT ?_ | with_reducible refine w_isiBI ?_ | with_reducible refine w_isiBB ?_ | with_reducible refine w_isiLT ?_ | with_reducible refine w_dRev ?_ | with_reducible refine w_revK ?_ | with_reducible refine w_lstRg ?_ | with_reducible refine w_par ?_ | with_reducible refine w_parK (by dsimp only [List.set] <;> rfl) ?_ | with_reducible refine w_sl ?_ | with_reducible refine w_slT ?_ | with_reducible refine w_slL ?_ | with_reducible refine w_oNo ?_ | with_reducible refine w_oSo ?_ | with_reducible refine w_oSoK ?_ | with_reducible refine w_prN ?_ | with_reducible refine w_prC ?_ | with_reducible refine w_addI ?_ | with_reducible refine w_subI ?_ | with_reducible refine w_lt ?_ | with_reducible refine w_le ?_ | with_reducible refine w_gt ?_ | with_reducible refine w_ge ?_ | with_reducible refine w_isN ?_ | with_reducible refine w_isnN ?_ | with_reducible refine w_eqI ?_ | with_reducible refine w_neI ?_ | with_reducible refine w_ixT0 ?_ | with_reducible refine w_ixT1 ?_ | with_reducible refine w_ixT2 ?_ | with_reducible refine w_ixT3 ?_ | with_reducible refine w_ixT4 ?_ | with_reducible refine w_ixT5 ?_ | with_reducible refine w_lenL ?_ | with_reducible refine w_lenT ?_ | with_reducible refine w_int ?_ | with_reducible refine w_intB ?_ | with_reducible refine w_abs ?_ | with_reducible refine w_listL ?_ | with_reducible refine w_listT ?_ | with_reducible refine w_tupL ?_ | with_reducible refine w_tupT ?_ | with_reducible refine w_int2 ?_ | with_reducible refine w_gcd ?_ | with_reducible refine w_app ?_ | with_reducible refine w_iSeq ?_ | with_reducible refine w_itemT ?_ | with_reducible refine w_itemL ?_ | with_reducible refine w_iRng ?_ | with_reducible refine w_iEnm ?_ | with_reducible refine w_sg1 ?_ | with_reducible refine w_iRev ?_ | with_reducible refine w_rg1 ?_ | with_reducible refine w_rg1K ?_ | with_reducible refine w_notB ?_)
theorem mem_back {M M' : Mem} {p : Addr} (hp : M p = none) (h : ∀ x, x ≠ p → M' x = M x) : M'.del p = M := by
  funext x
  by_cases e : x = p
  · subst e; rw [Mem.del_same, hp]
  · rw [Mem.del_ne e]; exact h x e
theorem reckoned_k {t : Th} {row : List (Int × Int)} {u A : Int} {a : Nat → Int} (P : PrOk row t.sz u A a) (ht : t.ok) (hst : t.st ≤ 7) {M : Mem} {Q : QD} {Xd : XD}
    (h : Q (.lst ((List.range t.sz).map fun j => recD u a (atR (rows t 0) j) j)) M) : W_law_reckoned [t.d, .tup (row.map frD)] M Q Xd := by
  have hn := P.nn
  refine E_law_reckoned ?_
  repeat fail
  refine rows_k 8 t 0 M _ _ (by omega) (by omega) ?_
  repeat fail
  refine w_dctN ?_
  repeat fail
  intro p hp
  repeat fail
  have er : ((((rows t 0).map rowD).length : Nat) : Int) = (t.sz : Int) := by rw [List.length_map, rows_len]
  rw [er]
  refine ⟨⟨by omega, by omega, by omega, by omega, by omega⟩, ?_⟩
  repeat fail
  rw [Int.sub_zero, Int.toNat_natCast]
  have hp0 : (M.put p (.dct [] [])) p = some (.dct (([] : List Nat).map kI) (([] : List Nat).map fun j => recD u a (atR (rows t 0) j) j)) := Mem.put_same
  refine reck_loop P ht (M0 := M) (fun _ => wat_none) (fun L M' o4 o5 o6 o7 o8 o9 o10 o11 h1 h2 h3 => ?_) t.sz [] _ _ _ _ _ _ _ _ _ (Nat.le_refl _) (fun j => by simp) List.nodup_nil (by simp) hp0 fun x hx => Mem.put_ne hx
  repeat fail
  refine w_lc ?_
  repeat fail
  rw [er]
  refine w_rng1 (by omega) ?_
  repeat fail
  intro q hq
  rw [Int.toNat_natCast]
  have hwp : ∀ x0 x1 x2 x3 x4 x5 x6 x7 x8 x9 x10 x11 : Option D, wipeD [x0, x1, x2, x3, x4, x5, x6, x7, x8, x9, x10, x11] [4] = [x0, x1, x2, x3, none, x5, x6, x7, x8, x9, x10, x11] := fun _ _ _ _ _ _ _ _ _ _ _ _ => rfl
  rw [hwp]
  refine lc_map hq (pick (rows t 0) fun t j => recD u a t j) (fun _ => wat_none) (by unfold rngL; simp [sizeLine_eq]; omega) (fun d hd acc K hK => ?_) ?_
  · unfold rngL at hd
    obtain ⟨j, hj, rfl⟩ := List.mem_map.mp hd
    rw [List.mem_range] at hj
    rw [Int.zero_add] at *
    have np : p ≠ q := fun e => by rw [e, hq] at h2; cases h2
    repeat fail
    refine w_ixRDi (a := p) (i := (j : Int)) ((Mem.put_ne np).trans h2) (val_nat _ L j ((h1 j).mpr hj)) ?_
    have e : pick (rows t 0) (fun t j => recD u a t j) (D.int (j : Int)) = recD u a (atR (rows t 0) j) j := by simp [pick]
    rw [e] at hK
    exact hK
  · have e : (rngL 0 t.sz).map (pick (rows t 0) fun t j => recD u a t j) = (List.range t.sz).map fun j => recD u a (atR (rows t 0) j) j := by
      unfold rngL
      rw [List.map_map]
      refine List.map_congr_left fun j _ => ?_
      simp [pick]
    rw [e]
    refine lo_drop p (lo_same ?_)
    rw [mem_back hp h3]
    exact h
/-- the words -/
def wordsL (t : Th) (a : Nat → Int) : List Bool := (List.range t.sz).filterMap fun j => (atR (rows t 0) j).word j a
def bD (b : Bool) : D := .int (if b then 1 else 0)
def rec3 : D → Option D
  | .tup [_, _, _, w] => if isN w then none else some w
  | _ => none
theorem words_k {t : Th} {row : List (Int × Int)} {u A : Int} {a : Nat → Int} (P : PrOk row t.sz u A a) (ht : t.ok) (hst : t.st ≤ 7) {M : Mem} {Q : QD} {Xd : XD}
    (h : Q (.tup ((wordsL t a).map bD)) M) : W_law_words [t.d, .tup (row.map frD)] M Q Xd := by
  have hn := P.nn
  refine E_law_words ?_
  repeat fail
  refine w_lc ?_
  repeat fail
  refine reckoned_k P ht hst ?_
  repeat fail
  intro q hq
  have hwp : ∀ x0 x1 x2 : Option D, wipeD [x0, x1, x2] [2] = [x0, x1, none] := fun _ _ _ => rfl
  rw [hwp]
  refine lc_filt hq rec3 (fun _ => wat_none) _ [] (by simp [sizeLine_eq]; omega) (fun d hd acc K1 K0 h1 h0 => ?_) ?_
  · obtain ⟨j, hj, rfl⟩ := List.mem_map.mp hd
    unfold recD at h1 h0 ⊢
    repeat fail
    cases hw : (atR (rows t 0) j).word j a with
    | none =>
      rw [hw] at h0
      refine w_ifnT ?_
      exact h0 rfl
    | some b =>
      rw [hw] at h1
      refine w_ifnF ?_
      repeat fail
      exact h1 _ rfl
  · have e : ([] : List D) ++ ((List.range t.sz).map fun j => recD u a (atR (rows t 0) j) j).filterMap rec3 = (wordsL t a).map bD := by
      rw [List.nil_append, List.filterMap_map]
      unfold wordsL
      rw [List.map_filterMap]
      congr 1
      funext j
      show rec3 (recD u a (atR (rows t 0) j) j) = _
      unfold recD
      cases hw : (atR (rows t 0) j).word j a with
      | none => rfl
      | some b => rfl
    rw [e]
    repeat fail
    exact lo_same h
theorem cut42 {a b c d : D} : cutD [a, b, c, d] none (some 2) = [a, b] := rfl
theorem portion_k {t : Th} {row : List (Int × Int)} {u A : Int} {a : Nat → Int} (P : PrOk row t.sz u A a) (ht : t.ok) (hst : t.st ≤ 7) (hc : 0 < t.cst 0 a) {M : Mem} {Q : QD} {Xd : XD}
    (h : Q (frD (lt (t.own 0 a) (t.cst 0 a))) M) : W_law_portion [t.d, .tup (row.map frD)] M Q Xd := by
  have hn := P.nn
  refine E_law_portion ?_
  repeat fail
  refine reckoned_k P ht hst ?_
  have hz := sz_pos t
  have e0 : ((List.range t.sz).map fun j => recD u a (atR (rows t 0) j) j)[0]? = some (recD u a t 0) := by
    rw [List.getElem?_map, List.getElem?_range (by omega)]
    have : atR (rows t 0) 0 = t := by unfold atR; rw [rows_eq]; rfl
    show some (recD u a (atR (rows t 0) 0) 0) = _
    rw [this]
  refine w_ixL (atI_nat e0) ?_
  unfold recD
  repeat fail
  rw [cut42]
  have r1 := rep_lt (v := t.own 0 a) P.hu
  have r2 := rep_lt (v := t.cst 0 a) P.hu
  have f1 := (P.cnt (t := t) (by omega) 0).2
  have f2 := P.cst (t := t) (by omega) 0
  generalize t.own 0 a = O at *
  generalize t.cst 0 a = C at *
  unfold frD
  repeat fail
  refine w_mulI (mulW2 f1.1 f2.2.2 (by decide)) ?_
  repeat fail
  refine w_mulI (mulW2 f1.2.2 f2.1 (by decide)) ?_
  repeat fail
  have c0 : 0 < (lt C u).1 := by
    have h1 := r2.2
    have : 0 < C * (lt C u).2 := Int.mul_pos hc r2.1
    rw [← h1] at this
    by_cases z : 0 < (lt C u).1
    · exact z
    · have : (lt C u).1 * u ≤ 0 := Int.mul_nonpos_of_nonpos_of_nonneg (by omega) (by have := P.hu; omega)
      omega
  have big : (2 : Nat) ^ 64 * 2 ^ 64 ≤ 2 ^ 4000 := by rw [← Nat.pow_add]; exact Nat.pow_le_pow_right (by decide) (by decide)
  refine least_k (Int.mul_pos r1.1 c0) (Nat.le_trans (natAbs_mul_le f1.1 f2.2.2) big) (Nat.le_trans (natAbs_mul_le f1.2.2 f2.1) big) ?_
  have e : lt ((lt O u).1 * (lt C u).2) ((lt O u).2 * (lt C u).1) = lt O C := by
    refine lt_eq ?_ (Int.mul_pos r1.1 c0) hc
    have k1 := r1.2
    have k2 := r2.2
    have hu := P.hu
    refine Int.eq_of_mul_eq_mul_right (a := u) (by omega) ?_
    have e1 : (lt O u).1 * (lt C u).2 * C * u = ((lt O u).1 * u) * (C * (lt C u).2) := by simp only [Int.mul_assoc, Int.mul_comm, Int.mul_left_comm]
    have e2 : O * ((lt O u).2 * (lt C u).1) * u = (O * (lt O u).2) * ((lt C u).1 * u) := by simp only [Int.mul_assoc, Int.mul_comm, Int.mul_left_comm]
    rw [e1, e2, k1, k2]
  rw [e]
  exact lo_same h
/-! ### drawn prices -/
def Th.lo : Th → Int
  | .raw _ lo _ => lo
  | .made _ lo _ _ _ _ _ => lo
def Th.hi : Th → Int
  | .raw _ _ hi => hi
  | .made _ _ hi _ _ _ _ => hi
theorem d_ix2 {t : Th} {M : Mem} {Q : QD} (h : Q (.int (Th.lo t)) M) : ixD t.d (.int 2) M Q := by
  cases t with
  | raw _ _ _ => rw [Th.d]; exact w_ixT2 h
  | made _ _ _ _ _ _ _ => rw [Th.d]; exact w_ixT2 h
theorem d_ix3 {t : Th} {M : Mem} {Q : QD} (h : Q (.int (Th.hi t)) M) : ixD t.d (.int 3) M Q := by
  cases t with
  | raw _ _ _ => rw [Th.d]; exact w_ixT3 h
  | made _ _ _ _ _ _ _ => rw [Th.d]; exact w_ixT3 h
/-- a price of a thing -/
structure FPr (t : Th) (f : Int × Int) : Prop where
  pos : 0 < f.2
  cop : Int.gcd f.1 f.2 = 1
  dvd : f.2 ∣ 2100
  lo : Th.lo t * f.2 ≤ f.1
  hi : f.1 ≤ Th.hi t * f.2
inductive RowR : List (Th × List Nat) → List (Int × Int) → Prop
  | nil : RowR [] []
  | cons {e : Th × List Nat} {f : Int × Int} {rs : List (Th × List Nat)} {fs : List (Int × Int)} (h : FPr e.1 f) (r : RowR rs fs) : RowR (e :: rs) (f :: fs)
theorem ok_bnd {t : Th} (h : t.ok) : bnd (Th.lo t) (Th.hi t) := by
  cases t with
  | raw _ _ _ => exact h
  | made _ _ _ _ _ _ _ => exact h.1
theorem fpr_of {t : Th} {of part : Int} (ho : 0 < of) (hd : of ∣ 2100) (h0 : 0 ≤ part) (h1 : part ≤ (Th.hi t - Th.lo t) * of) : FPr t (lt (Th.lo t * of + part) of) := by
  have hp := lt_pos (p := Th.lo t * of + part) ho
  have hc := lt_cross (p := Th.lo t * of + part) (q := of)
  have hm := lt_mul (p := Th.lo t * of + part) (q := of)
  refine ⟨hp, lt_cop ho, ?_, ?_, ?_⟩
  · exact Int.dvd_trans ⟨_, hm.2.symm⟩ hd
  · refine Int.le_of_mul_le_mul_right (a := of) ?_ ho
    rw [hc, Int.mul_right_comm]
    exact Int.mul_le_mul_of_nonneg_right (by omega) (by omega)
  · refine Int.le_of_mul_le_mul_right (a := of) ?_ ho
    rw [hc, Int.mul_right_comm]
    refine Int.mul_le_mul_of_nonneg_right ?_ (by omega)
    rw [Int.sub_mul] at h1
    omega
theorem prices_loop {a : Addr} {cells : List Int} {p : Addr} (hc : cells ≠ []) (npa : p ≠ a) {M0 : Mem} {nx bk ct : SD → Mem → Prop} {rt : QD} {Xd : XD} {d1 : D} {W : Mem → Prop} (hW : ∀ M, W M) {B : Int} (hB : B + 3 * 50 < 2 ^ 48) :
    ∀ (rs : List (Th × List Nat)) (done : List (Int × Int)) (M' : Mem) (o3 o4 o5 o6 o7 o8 : Option D), (∀ r ∈ rs, r.1.ok) → done.length + rs.length ≤ 50 → Dr a cells (B + 3 * done.length) M' → M' p = some (.lst (done.map frD)) → (∀ x, x ≠ a → x ≠ p → M' x = M0 x) →
      (∀ (fs : List (Int × Int)) (M' : Mem) (o3 o4 o5 o6 o7 o8 : Option D), RowR rs fs → Dr a cells (B + 3 * (done.length + rs.length)) M' → M' p = some (.lst ((done ++ fs).map frD)) → (∀ x, x ≠ a → x ≠ p → M' x = M0 x) → nx [some (.ref a), some d1, some (.ref p), o3, o4, o5, o6, o7, o8] M') →
      sForL (gTp 2 (gCo (gNm 3) (gCo (gNm 4) (gNi)))) (sSeq (sPar 5 6 (dCons (dOp ixD (dVar 3) (dC (.int 2))) (dCons (dOp ixD (dVar 3) (dC (.int 3))) (dNil)))) (sSeq (sSet 7 (dCall W_law_of [] (dCons (dVar 0) (dCons (dLst (dCons (dC (.int 1)) (dCons (dC (.int 1)) (dCons (dC (.int 2)) (dCons (dC (.int 3)) (dCons (dC (.int 7)) (dCons (dC (.int 100)) (dNil)))))))) (dNil))))) (sSeq (sSet 8 (dCall W_law_of [] (dCons (dVar 0) (dCons (dLst (dCons (dC (.int 0)) (dCons (dOp mulD (dOp subD (dVar 6) (dVar 5)) (dVar 7)) (dCons (dCall W_law_draw [] (dCons (dVar 0) (dCons (dOp addD (dOp mulD (dOp subD (dVar 6) (dVar 5)) (dVar 7)) (dC (.int 1))) (dNil)))) (dNil))))) (dNil))))) (sExpr (dApp (dVar 2) (dCall W_law_least [] (dCons (dOp addD (dOp mulD (dVar 5) (dVar 7)) (dVar 8)) (dCons (dVar 7) (dNil))))))))) ⟨nx, rt, bk, ct, Xd⟩ W (rs.map rowD) [some (.ref a), some d1, some (.ref p), o3, o4, o5, o6, o7, o8] M'
  | [], done, M', o3, o4, o5, o6, o7, o8, h1, h2, h3, h4, h5, h => w_forNil (hW _) (h [] M' o3 o4 o5 o6 o7 o8 .nil (by simpa using h3) (by simpa using h4) h5)
  | (t, ns) :: rs, done, M', o3, o4, o5, o6, o7, o8, h1, h2, h3, h4, h5, h => by
    have ht : bnd (Th.lo t) (Th.hi t) := ok_bnd (h1 (t, ns) List.mem_cons_self)
    rw [List.length_cons] at h2
    refine w_forCons (hW _) ?_
    have erD : rowD (t, ns) = .tup [t.d, .lst (ns.map fun (j : Nat) => D.int (j : Int))] := rfl
    rw [erD]
    repeat fail
    refine d_ix2 ?_
    repeat fail
    refine d_ix3 ?_
    repeat fail
    refine of_k hc (by omega) (by simp) (by simp) h3 fun d M1 hd hD1 hS1 => ?_
    obtain ⟨of, rfl, o1, o2, o3'⟩ : ∃ of : Int, d = .int of ∧ 0 < of ∧ of ≤ 100 ∧ of ∣ 2100 := by
      simp only [List.mem_cons, List.not_mem_nil, or_false] at hd
      rcases hd with rfl | rfl | rfl | rfl | rfl | rfl <;> exact ⟨_, rfl, by decide, by decide, by decide⟩
    unfold bnd at ht

    have hw0 : 0 ≤ Th.hi t - Th.lo t := by omega
    have hw1 : (Th.hi t - Th.lo t) * of ≤ 1000000 * 100 := Int.mul_le_mul (by omega) o2 (by omega) (by omega)
    have hw2 : 0 ≤ (Th.hi t - Th.lo t) * of := Int.mul_nonneg hw0 (by omega)
    have hw3 : CMulW (Th.hi t - Th.lo t) of := mulW2 (a := 20) (b := 7) (by omega) (by omega) (by decide)
    repeat fail
    refine w_mulI hw3 ?_
    repeat fail
    refine w_mulI hw3 ?_
    repeat fail
    generalize hgw : (Th.hi t - Th.lo t) * of = w at hw1 hw2
    refine draw_k hc (by omega) (by omega) (by omega) hD1 fun r M2 a1 a2 hD2 hS2 => ?_
    repeat fail
    refine of_k hc (by omega) (by simp) (by simp) hD2 fun d M3 hd hD3 hS3 => ?_
    obtain ⟨part, rfl, p1, p2⟩ : ∃ x : Int, d = .int x ∧ 0 ≤ x ∧ x ≤ w := by
      simp only [List.mem_cons, List.not_mem_nil, or_false] at hd
      rcases hd with rfl | rfl | rfl <;> exact ⟨_, rfl, by omega, by omega⟩
    have hS := (hS1.trans hS2).trans hS3
    have h4' : M3 p = some (.lst (done.map frD)) := (hS p npa).trans h4
    repeat fail
    refine w_appO h4' ?_
    repeat fail
    refine w_mulI (mulW2 (a := 20) (b := 7) (by omega) (by omega) (by decide)) ?_
    repeat fail
    have lb : 0 ≤ Th.lo t * of := Int.mul_nonneg (by omega) (by omega)
    have lb2 : Th.lo t * of ≤ 1000000 * 100 := Int.mul_le_mul (by omega) o2 (by omega) (by omega)
    have big : (2 : Nat) ^ 40 ≤ 2 ^ 4000 := Nat.pow_le_pow_right (by decide) (by decide)
    refine least_k o1 (Nat.le_trans (by omega) big) (Nat.le_trans (by omega) big) ?_
    have hf := fpr_of (t := t) o1 o3' p1 (by rw [hgw]; exact p2)
    generalize lt (Th.lo t * of + part) of = f at hf
    refine w_appK h4' (by rw [List.length_map, sizeLine_eq]; omega) ?_
    have e1 : done.map frD ++ [frD f] = (done ++ [f]).map frD := by simp
    rw [e1]
    refine prices_loop (M0 := M0) hc npa hW hB rs (done ++ [f]) _ _ _ _ _ _ _ (fun r hr => h1 r (List.mem_cons_of_mem _ hr)) (by rw [List.length_append, List.length_singleton]; omega) ((hD3.put (Ne.symm npa)).le (by rw [List.length_append, List.length_singleton]; omega)) Mem.put_same
      (fun x z1 z2 => by rw [Mem.put_ne z2, hS x z1]; exact h5 x z1 z2) fun fs M4 o3 o4 o5 o6 o7 o8 k1 k2 k3 k4 => ?_
    refine h (f :: fs) M4 o3 o4 o5 o6 o7 o8 (.cons hf k1) (by rw [List.length_append, List.length_singleton] at k2; rw [List.length_cons]; exact k2.le (by omega)) (by rw [List.append_assoc] at k3; exact k3) k4
theorem prices_k {a : Addr} {cells : List Int} {t : Th} {b : Int} (hc : cells ≠ []) (ht : t.ok) (hst : t.st ≤ 7) (hz : t.sz ≤ 10) (hb : b < 2 ^ 47) {M : Mem} (hD : Dr a cells b M) {Q : QD} {Xd : XD}
    (h : ∀ (fs : List (Int × Int)) (M' : Mem), RowR (rows t 0) fs → Dr a cells (b + 30) M' → Sm a M M' → Q (.tup (fs.map frD)) M') : W_law_prices [.ref a, t.d] M Q Xd := by
  refine E_law_prices ?_
  repeat fail
  refine w_lstO ?_
  repeat fail
  intro p hp
  have npa : p ≠ a := fun e => by obtain ⟨_, _, z, _⟩ := hD; rw [← e, hp] at z; cases z
  repeat fail
  refine rows_k 8 t 0 _ _ _ (by omega) (by omega) ?_
  repeat fail
  refine prices_loop (B := b) (M0 := M) hc npa (fun _ => wat_none) (by omega) (rows t 0) [] _ none none none none none none (fun r hr => (rows_ok t 0 ht r hr).1) (by rw [rows_len]; simp; omega) ((hD.put (Ne.symm npa)).le (by simp)) Mem.put_same (fun x z1 z2 => Mem.put_ne z2) fun fs M' o3 o4 o5 o6 o7 o8 k1 k2 k3 k4 => ?_
  repeat fail
  refine w_tupR k3 ?_
  repeat fail
  refine lo_drop p (lo_same (h fs _ k1 ?_ ?_))
  · obtain ⟨x, s, z1, z2, z3⟩ := k2
    exact ⟨x, s, (Mem.del_ne (Ne.symm npa)).trans z1, z2, by rw [rows_len] at z3; simp at z3; omega⟩
  · intro x hx
    by_cases e : x = p
    · subst e; rw [Mem.del_same, hp]
    · rw [Mem.del_ne e]; exact k4 x hx e
end G_madeofhere_k04_whole_counts
set_option maxHeartbeats 1000000
namespace G_madeofhere_k04_whole_counts
open PySem PySem.Spec PyProof.Rows L2 DL MH
local macro_rules | `(tactic| fail) => `(tactic| first | with_reducible refine w_seq ?_ | with_reducible refine w_nx ?_ | with_reducible refine w_ret ?_ | with_reducible refine w_retN ?_ | with_reducible refine w_expr ?_ | with_reducible refine w_ifS ?_ | with_reducible refine w_asg ?_ | with_reducible refine w_augS ?_ | with_reducible refine w_for ?_ | with_reducible refine w_bk ?_ | with_reducible refine w_ct ?_ | with_reducible refine w_set0 ?_ | with_reducible refine w_set1 ?_ | with_reducible refine w_set2 ?_ | with_reducible refine w_set3 ?_ | with_reducible refine w_set4 ?_ | with_reducible refine w_set5 ?_ | with_reducible refine w_set6 ?_ | with_reducible refine w_set7 ?_ | with_reducible refine w_set8 ?_ | with_reducible refine w_set9 ?_ | with_reducible refine w_set10 ?_ | with_reducible refine w_set11 ?_ | with_reducible refine w_set12 ?_ | with_reducible refine w_set13 ?_ | with_reducible refine w_set14 ?_ | with_reducible refine w_set15 ?_ | with_reducible refine w_set16 ?_ | with_reducible refine w_set17 ?_ | with_reducible refine w_var0 ?_ | with_reducible refine w_var1 ?_ | with_reducible refine w_var2 ?_ | with_reducible refine w_var3 ?_ | with_reducible refine w_var4 ?_ | with_reducible refine w_var5 ?_ | with_reducible refine w_var6 ?_ | with_reducible refine w_var7 ?_ | with_reducible refine w_var8 ?_ | with_reducible refine w_var9 ?_ | with_reducible refine w_var10 ?_ | with_reducible refine w_var11 ?_ | with_reducible refine w_var12 ?_ | with_reducible refine w_var13 ?_ | with_reducible refine w_var14 ?_ | with_reducible refine w_var15 ?_ | with_reducible refine w_var16 ?_ | with_reducible refine w_var17 ?_ | with_reducible refine w_gnm0 ?_ | with_reducible refine w_gnm1 ?_ | with_reducible refine w_gnm2 ?_ | with_reducible refine w_gnm3 ?_ | with_reducible refine w_gnm4 ?_ | with_reducible refine w_gnm5 ?_ | with_reducible refine w_gnm6 ?_ | with_reducible refine w_gnm7 ?_ | with_reducible refine w_gnm8 ?_ | with_reducible refine w_gnm9 ?_ | with_reducible refine w_gnm10 ?_ | with_reducible refine w_gnm11 ?_ | with_reducible refine w_gnm12 ?_ | with_reducible refine w_gnm13 ?_ | with_reducible refine w_gnm14 ?_ | with_reducible refine w_gnm15 ?_ | with_reducible refine w_gnm16 ?_ | with_reducible refine w_gnm17 ?_ | with_reducible refine w_gTp rfl ?_ | with_reducible refine w_gCo ?_ | with_reducible refine w_gNi ?_ | with_reducible refine w_gSb ?_ | with_reducible refine w_c ?_ | with_reducible refine w_op ?_ | with_reducible refine w_nil ?_ | with_reducible refine w_cons ?_ | with_reducible refine w_tup ?_ | with_reducible refine w_lst ?_ | with_reducible refine w_cb ?_ | with_reducible refine w_call ?_ | with_reducible refine w_ite ?_ | with_reducible refine w_and ?_ | with_reducible refine w_or ?_ | with_reducible refine w_not ?_ | with_reducible refine w_andT ?_ | with_reducible refine w_andF ?_ | with_reducible refine w_orT ?_ | with_reducible refine w_orF ?_ | with_reducible refine w_neg ?_ | with_reducible refine w_un ?_ | with_reducible refine w_tst ?_ | with_reducible refine w_tstB ?_ | with_reducible refine w_tru ?_ | with_reducible refine w_truB ?_ | with_reducible refine w_tAnd ?_ | with_reducible refine w_tOr ?_ | with_reducible refine w_tNot ?_ | with_reducible refine w_chain ?_ | with_reducible refine w_chT ?_ | with_reducible refine w_chF ?_ | with_reducible refine w_ifT ?_ | with_reducible refine w_ifF ?_ | with_reducible refine w_ifnT ?_ | with_reducible refine w_ifnF ?_ | with_reducible refine w_rvs ?_ | with_reducible refine w_yes ?_ | with_reducible refine w_iZip ?_ | with_reducible refine w_sg2 ?_ | with_reducible refine w_zipLL ?_ | with_reducible refine w_zipTT ?_ | with_reducible refine w_augY ?_ | with_reducible refine w_isiII ?_ | with_reducible refine w_isiIB ?_ | with_reducible refine w_isiSS ?_ | with_reducible refine w_isiTT ?_ | with_reducible refine w_isiIT ?_ | with_reducible refine w_isiIS ?_ | with_reducible refine w_isiSI ?_ | with_reducible refine w_isiSB ?_ | with_reducible refine w_isiST ?_ | with_reducible refine w_isiTI ?_ | with_reducible refine w_isiTB ?_ | with_reducible refine w_isiTS ?_ | with_reducible refine w_isiNI ?_ | with_reducible refine w_isiNS ?_ | with_reducible refine w_isiNT ?_ | with_reducible refine w_isiBI ?_ | with_reducible refine w_isiBB ?_ | with_reducible refine w_isiLT ?_ | with_reducible refine w_dRev ?_ | with_reducible refine w_revK ?_ | with_reducible refine w_lstRg ?_ | with_reducible refine w_par ?_ | with_reducible refine w_parK (by dsimp only [List.set] <;> rfl) ?_ | with_reducible refine w_sl ?_ | with_reducible refine w_slT ?_ | with_reducible refine w_slL ?_ | with_reducible refine w_oNo ?_ | with_reducible refine w_oSo ?_ | with_reducible refine w_oSoK ?_ | with_reducible refine w_prN ?_ | with_reducible refine w_prC ?_ | with_reducible refine w_addI ?_ | with_reducible refine w_subI ?_ | with_reducible refine w_lt ?_ | with_reducible refine w_le ?_ | with_reducible refine w_gt ?_ | with_reducible refine w_ge ?_ | with_reducible refine w_isN ?_ | with_reducible refine w_isnN ?_ | with_reducible refine w_eqI ?_ | with_reducible refine w_neI ?_ | with_reducible refine w_ixT0 ?_ | with_reducible refine w_ixT1 ?_ | with_reducible refine w_ixT2 ?_ | with_reducible refine w_ixT3 ?_ | with_reducible refine w_ixT4 ?_ | with_reducible refine w_ixT5 ?_ | with_reducible refine w_lenL ?_ | with_reducible refine w_lenT ?_ | with_reducible refine w_int ?_ | with_reducible refine w_intB ?_ | with_reducible refine w_abs ?_ | with_reducible refine w_listL ?_ | with_reducible refine w_listT ?_ | with_reducible refine w_tupL ?_ | with_reducible refine w_tupT ?_ | with_reducible refine w_int2 ?_ | with_reducible refine w_gcd ?_ | with_reducible refine w_app ?_ | with_reducible refine w_iSeq ?_ | with_reducible refine w_itemT ?_ | with_reducible refine w_itemL ?_ | with_reducible refine w_iRng ?_ | with_reducible refine w_iEnm ?_ | with_reducible refine w_sg1 ?_ | with_reducible refine w_iRev ?_ | with_reducible refine w_rg1 ?_ | with_reducible refine w_rg1K ?_ | with_reducible refine w_notB ?_)
theorem dl_up (u : Bool) : decide (upS u = (Str.ofString "whole")) = u := by cases u <;> decide +kernel
theorem dl_dn (u : Bool) : decide (dnS u = (Str.ofString "own")) = u := by cases u <;> decide +kernel
theorem dl_land (u : Bool) : decide (landS u = (Str.ofString "here")) = u := by cases u <;> decide +kernel
theorem ol_up (u : Bool) : PyData.strOk (upS u) = true := by cases u <;> decide +kernel
theorem ol_dn (u : Bool) : PyData.strOk (dnS u) = true := by cases u <;> decide +kernel
theorem ol_land (u : Bool) : PyData.strOk (landS u) = true := by cases u <;> decide +kernel
theorem rng_rev2 (m : Nat) : (rngL 0 (m + 1)).reverse = D.int (m : Int) :: (rngL 0 m).reverse := by
  unfold rngL
  rw [List.range_succ, List.map_append, List.reverse_append]
  simp
abbrev TT (t : Th) (j : Nat) : Th := atR (rows t 0) j
theorem fl_range (t : Th) : Th.ds t.fl = (List.range t.sz).map fun j => (TT t j).d := by
  rw [ds_map, fl_rows t 0, List.map_map]
  apply List.ext_getElem?
  intro i
  by_cases hi : i < t.sz
  · rw [List.getElem?_map, at_row hi, List.getElem?_map, List.getElem?_range hi]; rfl
  · rw [List.getElem?_eq_none (by rw [List.length_map, rows_len]; omega), List.getElem?_eq_none (by rw [List.length_map, List.length_range]; omega)]
/-- what has been added so far -/
def spF (t : Th) (a : Nat → Int) (k j : Nat) : Int := if k ≤ j then (TT t j).cst j a else a j + sumG k (fun c => (TT t c).cst c a) (numsT (TT t j) j)
def owF (t : Th) (a : Nat → Int) (k j : Nat) : Int := if k ≤ j then (TT t j).own j a else own1 (TT t j).here (a j) + sumG k (fun c => (TT t c).cnt c a) (numsT (TT t j) j)
def ctF (t : Th) (a : Nat → Int) (k j : Nat) : Int := if k ≤ j then (TT t j).cnt j a else own1 (TT t j).here (a j)
section
variable {t : Th} {a : Nat → Int}
theorem sp_self {k : Nat} (h : k < t.sz) : spF t a (k + 1) k = (TT t k).cst k a := by
  unfold spF
  obtain ⟨h1, h2⟩ := parts_at (fun t j => t.cst j a) h
  rw [if_neg (by omega), sumG_all fun c hc => (h2 c hc).1, h1, sum_csts, ← cst_eq]
theorem ow_self {k : Nat} (h : k < t.sz) : owF t a (k + 1) k = (TT t k).own k a := by
  unfold owF
  obtain ⟨h1, h2⟩ := parts_at (fun t j => t.cnt j a) h
  rw [if_neg (by omega), sumG_all fun c hc => (h2 c hc).1, h1, sum_cnts, ← own_eq]
theorem ns_eq {j : Nat} (h : j < t.sz) : nsAt (rows t 0) j = numsT (TT t j) j := by
  unfold nsAt; rw [at_row h]
theorem num_nd (x : Th) (j : Nat) : (numsT x j).Nodup := nums_nd _ _
/-- a number is a part of one thing alone -/
theorem par_at {k : Nat} (h0 : 0 < k) (h : k < t.sz) : ∃ p, (t.whs 0 .non)[k]? = some (nI p) ∧ p < k ∧ ∀ j, j < t.sz → (k ∈ numsT (TT t j) j ↔ j = p) := by
  obtain ⟨p, h1, h2, h3, h4⟩ := par_of t 0 .non k h0 h
  refine ⟨p, h1, by omega, fun j hj => ?_⟩
  have := h4 j hj
  rw [Nat.zero_add, Nat.zero_add, ns_eq hj] at this
  exact this
theorem sp_step {k p : Nat} (h : k < t.sz) (hp : p < k) (hk : ∀ j, j < t.sz → (k ∈ numsT (TT t j) j ↔ j = p)) {j : Nat} (hj : j < t.sz) : (if j = p then spF t a (k + 1) p + spF t a (k + 1) k else spF t a (k + 1) j) = spF t a k j := by
  by_cases e : j = p
  · rw [if_pos e, sp_self h]
    subst e
    unfold spF
    rw [if_neg (by omega), if_neg (by omega), sumG_in (num_nd _ _) ((hk j hj).mpr rfl)]; omega
  · rw [if_neg e]
    by_cases z : j = k
    · subst z
      rw [sp_self h]; unfold spF; rw [if_pos (Nat.le_refl _)]
    · unfold spF
      by_cases y : k ≤ j
      · rw [if_pos (by omega), if_pos y]
      · rw [if_neg (by omega), if_neg y, sumG_not fun w => e ((hk j hj).mp w)]
theorem ow_step {k p : Nat} (h : k < t.sz) (hp : p < k) (hk : ∀ j, j < t.sz → (k ∈ numsT (TT t j) j ↔ j = p)) {j : Nat} (hj : j < t.sz) : (if j = p then owF t a (k + 1) p + (TT t k).cnt k a else owF t a (k + 1) j) = owF t a k j := by
  by_cases e : j = p
  · rw [if_pos e]
    subst e
    unfold owF
    rw [if_neg (by omega), if_neg (by omega), sumG_in (num_nd _ _) ((hk j hj).mpr rfl)]; omega
  · rw [if_neg e]
    by_cases z : j = k
    · subst z
      rw [ow_self h]; unfold owF; rw [if_pos (Nat.le_refl _)]
    · unfold owF
      by_cases y : k ≤ j
      · rw [if_pos (by omega), if_pos y]
      · rw [if_neg (by omega), if_neg y, sumG_not fun w => e ((hk j hj).mp w)]
theorem z_self {j : Nat} (h : j < t.sz) (hz : 0 < t.sz) : spF t a 1 j = spF t a 0 j ∧ owF t a 1 j = owF t a 0 j := by
  by_cases e : j = 0
  · subst e
    rw [sp_self h, ow_self h]; exact ⟨rfl, rfl⟩
  · unfold spF owF
    rw [if_pos (by omega), if_pos (by omega), if_pos (by omega), if_pos (by omega)]; exact ⟨rfl, rfl⟩
theorem ct_step {k : Nat} {j : Nat} : (if j = k then (TT t k).cnt k a else ctF t a (k + 1) j) = ctF t a k j := by
  by_cases e : j = k
  · subst e
    rw [if_pos rfl]; unfold ctF; rw [if_pos (Nat.le_refl _)]
  · rw [if_neg e]; unfold ctF
    by_cases y : k ≤ j
    · rw [if_pos (by omega), if_pos y]
    · rw [if_neg (by omega), if_neg y]
theorem sp_top {j : Nat} (h : j < t.sz) : spF t a t.sz j = a j ∧ owF t a t.sz j = own1 (TT t j).here (a j) ∧ ctF t a t.sz j = own1 (TT t j).here (a j) := by
  obtain ⟨_, h2⟩ := parts_at (fun t j => t.cst j a) h
  unfold spF owF ctF
  rw [if_neg (by omega), if_neg (by omega), if_neg (by omega), sumG_none fun c hc => (h2 c hc).2, sumG_none fun c hc => (h2 c hc).2]
  exact ⟨by omega, by omega, rfl⟩
end
def wdL (t : Th) (a : Nat → Int) (k : Nat) : List Bool := (List.range' k (t.sz - k)).filterMap fun j => (TT t j).word j a
def bI (b : Bool) : D := .int (if b then 1 else 0)
theorem wd_step {t : Th} {a : Nat → Int} {k : Nat} (h : k < t.sz) : wdL t a k = (match (TT t k).word k a with | some b => [b] | none => []) ++ wdL t a (k + 1) := by
  unfold wdL
  have e : t.sz - k = (t.sz - (k + 1)) + 1 := by omega
  rw [e, List.range'_succ, List.filterMap_cons]
  cases (TT t k).word k a <;> rfl
def lstI (n : Nat) (F : Nat → Int) : MO := .lst ((List.range n).map fun j => D.int (F j))
theorem lstI_congr {n : Nat} {F G : Nat → Int} (h : ∀ j, j < n → F j = G j) : lstI n F = lstI n G := by
  unfold lstI; rw [map_range_congr fun j hj => by rw [h j hj]]
theorem set_lstI {n p : Nat} {F : Nat → Int} {v : Int} : MO.lst (((List.range n).map fun j => D.int (F j)).set p (.int v)) = lstI n fun j => if j = p then v else F j := by
  unfold lstI
  rw [set_range]
  congr 1
  refine List.map_congr_left fun j _ => ?_
  by_cases e : j = p <;> simp [e]
/-- what is owned while the sums are made -/
structure Su (M0 : Mem) (s o c w : Addr) (n : Nat) (F G H : Nat → Int) (L : List D) (M : Mem) : Prop where
  hs : M s = some (lstI n F)
  ho : M o = some (lstI n G)
  hc : M c = some (lstI n H)
  hw : M w = some (.lst L)
  el : ∀ x, x ≠ s → x ≠ o → x ≠ c → x ≠ w → M x = M0 x
section
variable {M0 M : Mem} {s o c w : Addr} {n : Nat} {F G H X : Nat → Int} {L Y : List D}
theorem Su.pS (h : Su M0 s o c w n F G H L M) (ne : Ne4 s o c w) : Su M0 s o c w n X G H L (M.put s (lstI n X)) :=
  ⟨Mem.put_same, (Mem.put_ne (Ne.symm ne.fw)).trans h.ho, (Mem.put_ne (Ne.symm ne.fm)).trans h.hc, (Mem.put_ne (Ne.symm ne.fv)).trans h.hw, fun x a b d e => (Mem.put_ne a).trans (h.el x a b d e)⟩
theorem Su.pO (h : Su M0 s o c w n F G H L M) (ne : Ne4 s o c w) : Su M0 s o c w n F X H L (M.put o (lstI n X)) :=
  ⟨(Mem.put_ne ne.fw).trans h.hs, Mem.put_same, (Mem.put_ne (Ne.symm ne.wm)).trans h.hc, (Mem.put_ne (Ne.symm ne.wv)).trans h.hw, fun x a b d e => (Mem.put_ne b).trans (h.el x a b d e)⟩
theorem Su.pC (h : Su M0 s o c w n F G H L M) (ne : Ne4 s o c w) : Su M0 s o c w n F G X L (M.put c (lstI n X)) :=
  ⟨(Mem.put_ne ne.fm).trans h.hs, (Mem.put_ne ne.wm).trans h.ho, Mem.put_same, (Mem.put_ne (Ne.symm ne.mv)).trans h.hw, fun x a b d e => (Mem.put_ne d).trans (h.el x a b d e)⟩
theorem Su.pW (h : Su M0 s o c w n F G H L M) (ne : Ne4 s o c w) : Su M0 s o c w n F G H Y (M.put w (.lst Y)) :=
  ⟨(Mem.put_ne ne.fv).trans h.hs, (Mem.put_ne ne.wv).trans h.ho, (Mem.put_ne ne.mv).trans h.hc, Mem.put_same, fun x a b d e => (Mem.put_ne e).trans (h.el x a b d e)⟩
theorem Su.congr {F' G' H' : Nat → Int} (h : Su M0 s o c w n F G H L M) (hF : ∀ j, j < n → F j = F' j) (hG : ∀ j, j < n → G j = G' j) (hH : ∀ j, j < n → H j = H' j) : Su M0 s o c w n F' G' H' L M :=
  ⟨by rw [← lstI_congr hF]; exact h.hs, by rw [← lstI_congr hG]; exact h.ho, by rw [← lstI_congr hH]; exact h.hc, h.hw, h.el⟩
end
theorem sums_loop {t : Th} {a : Nat → Int} {A : Int} (ha : ∀ k, 0 ≤ a k ∧ a k ≤ A) (hA : (40 : Int) * A ≤ 2 ^ 64) (hok : t.ok) (hz : t.sz ≤ 40) {s o c w : Addr} (ne : Ne4 s o c w) {M0 : Mem} {nx bk ct : SD → Mem → Prop} {rt : QD} {Xd : XD} {Wt : Mem → Prop} (hW : ∀ M, Wt M) {x2 : Option D}
    (fin : ∀ (M : Mem) (x5 x6 x9 x10 x11 x12 x13 x14 : Option D), Su M0 s o c w t.sz (spF t a 0) (owF t a 0) (ctF t a 0) ((wdL t a 0).reverse.map bI) M →
      nx [some (.lst (Th.ds t.fl)), some (.lst (t.whs 0 .non)), x2, some (.ref s), some (.ref o), x5, x6, some (.ref c), some (.ref w), x9, x10, x11, x12, x13, x14] M) :
    ∀ (k : Nat) (M : Mem) (x5 x6 x9 x10 x11 x12 x13 x14 : Option D), k ≤ t.sz → Su M0 s o c w t.sz (spF t a k) (owF t a k) (ctF t a k) ((wdL t a k).reverse.map bI) M →
      sForL (gNm 9) (sSeq (sSet 6 (dOp ixD (dVar 0) (dVar 9))) (sSeq (sSet 10 (dOp ixD (dVar 4) (dVar 9))) (sSeq (sIf (dTst (dOp eqD (dOp ixD (dVar 6) (dC (.int 0))) (dC (.str "made")))) (sSeq (sAsg (dOp ixD (dVar 6) (dC (.int 4))) (gTp 3 (gCo (gNm 11) (gCo (gNm 12) (gCo (gNm 13) (gNi)))))) (sSeq (sIf (dTst (dOp geD (dOp mulD (dC (.int 100)) (dVar 10)) (dOp mulD (dVar 11) (dOp ixD (dVar 3) (dVar 9))))) (sSeq (sExpr (dApp (dVar 8) (dC (.int 1)))) (sSet 10 (dIte (dTst (dOp eqD (dVar 12) (dC (.str "whole")))) (dOp ixD (dVar 3) (dVar 9)) (dVar 10)))) (sSeq (sExpr (dApp (dVar 8) (dC (.int 0)))) (sSet 10 (dIte (dTst (dOp eqD (dVar 13) (dC (.str "own")))) (dVar 10) (dC (.int 0)))))) (sAsg (dVar 10) (gSb (dVar 7) (dVar 9))))) (sNx)) (sIf (dTst (dOp gtD (dVar 9) (dC (.int 0)))) (sSeq (sSet 14 (dOp ixD (dVar 1) (dVar 9))) (sSeq (sAugS (fun i j => i + j) (dVar 3) (dVar 14) (dOp ixD (dVar 3) (dVar 9))) (sAugS (fun i j => i + j) (dVar 4) (dVar 14) (dVar 10)))) (sNx))))) ⟨nx, rt, bk, ct, Xd⟩ Wt ((rngL 0 k).reverse) [some (.lst (Th.ds t.fl)), some (.lst (t.whs 0 .non)), x2, some (.ref s), some (.ref o), x5, x6, some (.ref c), some (.ref w), x9, x10, x11, x12, x13, x14] M
  | 0, M, x5, x6, x9, x10, x11, x12, x13, x14, _, hS => w_forNil (hW _) (fin M x5 x6 x9 x10 x11 x12 x13 x14 hS)
  | k + 1, M, x5, x6, x9, x10, x11, x12, x13, x14, hk, hS => by
    have hk' : k < t.sz := by omega
    have hko : (TT t k).ok ∧ (TT t k).sz ≤ t.sz := at_ok hok hk'
    have hcb := cst_bd ha (TT t k) k
    have hob := cnt_bd ha (TT t k) k
    have hsz : ((TT t k).sz : Int) * A ≤ 40 * A := Int.mul_le_mul_of_nonneg_right (by have := hko.2; omega) (by have := ha 0; omega)
    rw [rng_rev2]
    refine w_forCons (hW _) ?_
    rw [fl_range]
    repeat fail
    refine w_ixL (at_range hk') ?_
    repeat fail
    refine w_ixRL hS.ho (at_range hk') ?_
    rw [ow_self hk']
    refine w_joinS (P := fun s1 M1 => Su M0 s o c w t.sz (spF t a (k + 1)) (owF t a (k + 1)) (ctF t a k) ((wdL t a k).reverse.map bI) M1 ∧ ∃ x11 x12 x13, s1 = [some (.lst ((List.range t.sz).map fun j => (TT t j).d)), some (.lst (t.whs 0 .non)), x2, some (.ref s), some (.ref o), x5, some (TT t k).d, some (.ref c), some (.ref w), some (.int (k : Int)), some (.int ((TT t k).cnt k a)), x11, x12, x13, x14])
      (fun s1 M1 ⟨hS1, x11, x12, x13, es⟩ => ?_) fun join => ?_
    · subst es
      repeat fail
      refine w_ifd (fun z => ?_) fun z => ?_
      · have k0 : 0 < k := by omega
        obtain ⟨p, h1, h2, h3⟩ := par_at k0 hk'
        repeat fail
        refine w_ixL (atI_nat h1) ?_
        unfold nI
        repeat fail
        refine w_augKy hS1.hs (at_range (by omega)) ?_
        repeat fail
        refine w_ixRL hS1.hs (at_range hk') ?_
        repeat fail
        refine w_setL hS1.hs (by rw [List.length_map, List.length_range]; exact ixN_nat (by omega)) ?_
        rw [set_lstI]
        have hS2 := hS1.pS (X := fun j => if j = p then spF t a (k + 1) p + spF t a (k + 1) k else spF t a (k + 1) j) ne
        generalize M1.put s _ = M2 at hS2 ⊢
        repeat fail
        refine w_augKy hS2.ho (at_range (by omega)) ?_
        repeat fail
        refine w_setL hS2.ho (by rw [List.length_map, List.length_range]; exact ixN_nat (by omega)) ?_
        rw [set_lstI]
        have hS3 := hS2.pO (X := fun j => if j = p then owF t a (k + 1) p + (TT t k).cnt k a else owF t a (k + 1) j) ne
        generalize M2.put o _ = M3 at hS3 ⊢
        have hS4 := hS3.congr (fun j hj => sp_step hk' h2 h3 hj) (fun j hj => ow_step hk' h2 h3 hj) (fun j _ => rfl)
        rw [← fl_range]
        exact sums_loop ha hA hok hz ne hW fin k M3 _ _ _ _ _ _ _ _ (by omega) hS4
      · have k0 : k = 0 := by omega
        subst k0
        repeat fail
        have hS4 := hS1.congr (fun j hj => (z_self hj hk').1) (fun j hj => (z_self hj hk').2) (fun j _ => rfl)
        rw [← fl_range]
        exact sums_loop ha hA hok hz ne hW fin 0 M1 _ _ _ _ _ _ _ _ (by omega) hS4
    · have ew := wd_step (a := a) hk'
      have hS' : ∀ M1, Su M0 s o c w t.sz (spF t a (k + 1)) (owF t a (k + 1)) (fun j => if j = k then (TT t k).cnt k a else ctF t a (k + 1) j) ((wdL t a k).reverse.map bI) M1 → Su M0 s o c w t.sz (spF t a (k + 1)) (owF t a (k + 1)) (ctF t a k) ((wdL t a k).reverse.map bI) M1 := fun M1 h => h.congr (fun j _ => rfl) (fun j _ => rfl) fun j _ => ct_step
      have hcs := sp_self (a := a) hk'
      have hall : (wdL t a (k + 1)).length ≤ 1000 := by
        unfold wdL
        have := List.length_filterMap_le (fun j => (TT t j).word j a) (List.range' (k + 1) (t.sz - (k + 1)))
        rw [List.length_range'] at this
        omega
      have hct0 : ctF t a (k + 1) k = own1 (TT t k).here (a k) := by unfold ctF; rw [if_neg (by omega)]
      generalize hx : TT t k = x at *
      cases x with
      | raw hr lo hi =>
        rw [Th.d] at join ⊢
        repeat fail
        refine w_eqS (by decide +kernel) (by decide +kernel) ?_
        rw [show decide ((Str.ofString "raw") = (Str.ofString "made")) = false from by decide +kernel]
        repeat fail
        refine join _ M ⟨hS' M ?_, _, _, _, rfl⟩
        have ew2 : wdL t a k = wdL t a (k + 1) := by rw [ew]; rfl
        rw [ew2]
        refine hS.congr (fun j _ => rfl) (fun j _ => rfl) fun j _ => ?_
        by_cases e : j = k
        · subst e; rw [if_pos rfl, hct0]; rfl
        · rw [if_neg e]
      | made hr lo hi sh up dn ps =>
        obtain ⟨⟨hb1, hb2, hb3, hb4⟩, hko2⟩ := hko
        rw [cnt_made] at join hS'
        have ew2 : wdL t a k = [decide (sh * (Th.made hr lo hi sh up dn ps).cst k a ≤ 100 * (Th.made hr lo hi sh up dn ps).own k a)] ++ wdL t a (k + 1) := ew
        generalize (Th.made hr lo hi sh up dn ps).own k a = O at *
        generalize (Th.made hr lo hi sh up dn ps).cst k a = C at *
        rw [Th.d] at join ⊢
        unfold termD at join ⊢
        repeat fail
        refine w_eqS (by decide +kernel) (by decide +kernel) ?_
        rw [show decide ((Str.ofString "made") = (Str.ofString "made")) = true from by decide +kernel]
        repeat fail
        refine w_mulI (mulW2 (a := 7) (b := 64) (by decide) (by omega) (by decide)) ?_
        repeat fail
        refine w_ixRL hS.hs (at_range hk') ?_
        rw [hcs]
        repeat fail
        refine w_mulI (mulW2 (a := 7) (b := 64) (by omega) (by omega) (by decide)) ?_
        repeat fail
        refine w_ifd (fun z => ?_) fun z => ?_
        · rw [decide_eq_true z] at ew2
          repeat fail
          refine w_appO hS.hw ?_
          repeat fail
          refine w_appK hS.hw (by rw [List.length_map, List.length_reverse, sizeLine_eq]; omega) ?_
          have e1 : (wdL t a (k + 1)).reverse.map bI ++ [D.int 1] = (wdL t a k).reverse.map bI := by rw [ew2]; simp [bI]
          rw [e1]
          have hS2 := hS.pW (Y := (wdL t a k).reverse.map bI) ne
          generalize M.put w _ = M2 at hS2 ⊢
          repeat fail
          refine w_eqS (ol_up _) (by decide +kernel) ?_
          rw [dl_up]
          have e2 : cnt1 sh up dn O C = if up then C else O := by unfold cnt1; rw [if_pos z]
          rw [e2] at join hS'
          cases up <;> repeat fail
          · refine w_setL hS2.hc (by rw [List.length_map, List.length_range]; exact ixN_nat hk') ?_
            rw [set_lstI]
            exact join _ _ ⟨hS' _ (hS2.pC ne), _, _, _, rfl⟩
          · refine w_ixRL hS2.hs (at_range hk') ?_
            rw [hcs]
            repeat fail
            refine w_setL hS2.hc (by rw [List.length_map, List.length_range]; exact ixN_nat hk') ?_
            rw [set_lstI]
            exact join _ _ ⟨hS' _ (hS2.pC ne), _, _, _, rfl⟩
        · rw [decide_eq_false z] at ew2
          repeat fail
          refine w_appO hS.hw ?_
          repeat fail
          refine w_appK hS.hw (by rw [List.length_map, List.length_reverse, sizeLine_eq]; omega) ?_
          have e1 : (wdL t a (k + 1)).reverse.map bI ++ [D.int 0] = (wdL t a k).reverse.map bI := by rw [ew2]; simp [bI]
          rw [e1]
          have hS2 := hS.pW (Y := (wdL t a k).reverse.map bI) ne
          generalize M.put w _ = M2 at hS2 ⊢
          repeat fail
          refine w_eqS (ol_dn _) (by decide +kernel) ?_
          rw [dl_dn]
          have e2 : cnt1 sh up dn O C = if dn then O else 0 := by unfold cnt1; rw [if_neg z]
          rw [e2] at join hS'
          cases dn <;> repeat fail
          · refine w_setL hS2.hc (by rw [List.length_map, List.length_range]; exact ixN_nat hk') ?_
            rw [set_lstI]
            exact join _ _ ⟨hS' _ (hS2.pC ne), _, _, _, rfl⟩
          · refine w_setL hS2.hc (by rw [List.length_map, List.length_range]; exact ixN_nat hk') ?_
            rw [set_lstI]
            exact join _ _ ⟨hS' _ (hS2.pC ne), _, _, _, rfl⟩
end G_madeofhere_k04_whole_counts
set_option maxHeartbeats 1000000
namespace G_madeofhere_k04_whole_counts
open PySem PySem.Spec PyProof.Rows L2 DL MH
local macro_rules | `(tactic| fail) => `(tactic| first | with_reducible refine w_seq ?_ | with_reducible refine w_nx ?_ | with_reducible refine w_ret ?_ | with_reducible refine w_retN ?_ | with_reducible refine w_expr ?_ | with_reducible refine w_ifS ?_ | with_reducible refine w_asg ?_ | with_reducible refine w_augS ?_ | with_reducible refine w_for ?_ | with_reducible refine w_bk ?_ | with_reducible refine w_ct ?_ | with_reducible refine w_set0 ?_ | with_reducible refine w_set1 ?_ | with_reducible refine w_set2 ?_ | with_reducible refine w_set3 ?_ | with_reducible refine w_set4 ?_ | with_reducible refine w_set5 ?_ | with_reducible refine w_set6 ?_ | with_reducible refine w_set7 ?_ | with_reducible refine w_set8 ?_ | with_reducible refine w_set9 ?_ | with_reducible refine w_set10 ?_ | with_reducible refine w_set11 ?_ | with_reducible refine w_set12 ?_ | with_reducible refine w_set13 ?_ | with_reducible refine w_set14 ?_ | with_reducible refine w_set15 ?_ | with_reducible refine w_set16 ?_ | with_reducible refine w_set17 ?_ | with_reducible refine w_var0 ?_ | with_reducible refine w_var1 ?_ | with_reducible refine w_var2 ?_ | with_reducible refine w_var3 ?_ | with_reducible refine w_var4 ?_ | with_reducible refine w_var5 ?_ | with_reducible refine w_var6 ?_ | with_reducible refine w_var7 ?_ | with_reducible refine w_var8 ?_ | with_reducible refine w_var9 ?_ | with_reducible refine w_var10 ?_ | with_reducible refine w_var11 ?_ | with_reducible refine w_var12 ?_ | with_reducible refine w_var13 ?_ | with_reducible refine w_var14 ?_ | with_reducible refine w_var15 ?_ | with_reducible refine w_var16 ?_ | with_reducible refine w_var17 ?_ | with_reducible refine w_gnm0 ?_ | with_reducible refine w_gnm1 ?_ | with_reducible refine w_gnm2 ?_ | with_reducible refine w_gnm3 ?_ | with_reducible refine w_gnm4 ?_ | with_reducible refine w_gnm5 ?_ | with_reducible refine w_gnm6 ?_ | with_reducible refine w_gnm7 ?_ | with_reducible refine w_gnm8 ?_ | with_reducible refine w_gnm9 ?_ | with_reducible refine w_gnm10 ?_ | with_reducible refine w_gnm11 ?_ | with_reducible refine w_gnm12 ?_ | with_reducible refine w_gnm13 ?_ | with_reducible refine w_gnm14 ?_ | with_reducible refine w_gnm15 ?_ | with_reducible refine w_gnm16 ?_ | with_reducible refine w_gnm17 ?_ | with_reducible refine w_gTp rfl ?_ | with_reducible refine w_gCo ?_ | with_reducible refine w_gNi ?_ | with_reducible refine w_gSb ?_ | with_reducible refine w_c ?_ | with_reducible refine w_op ?_ | with_reducible refine w_nil ?_ | with_reducible refine w_cons ?_ | with_reducible refine w_tup ?_ | with_reducible refine w_lst ?_ | with_reducible refine w_cb ?_ | with_reducible refine w_call ?_ | with_reducible refine w_ite ?_ | with_reducible refine w_and ?_ | with_reducible refine w_or ?_ | with_reducible refine w_not ?_ | with_reducible refine w_andT ?_ | with_reducible refine w_andF ?_ | with_reducible refine w_orT ?_ | with_reducible refine w_orF ?_ | with_reducible refine w_neg ?_ | with_reducible refine w_un ?_ | with_reducible refine w_tst ?_ | with_reducible refine w_tstB ?_ | with_reducible refine w_tru ?_ | with_reducible refine w_truB ?_ | with_reducible refine w_tAnd ?_ | with_reducible refine w_tOr ?_ | with_reducible refine w_tNot ?_ | with_reducible refine w_chain ?_ | with_reducible refine w_chT ?_ | with_reducible refine w_chF ?_ | with_reducible refine w_ifT ?_ | with_reducible refine w_ifF ?_ | with_reducible refine w_ifnT ?_ | with_reducible refine w_ifnF ?_ | with_reducible refine w_rvs ?_ | with_reducible refine w_yes ?_ | with_reducible refine w_iZip ?_ | with_reducible refine w_sg2 ?_ | with_reducible refine w_zipLL ?_ | with_reducible refine w_zipTT ?_ | with_reducible refine w_augY ?_ | with_reducible refine w_isiII ?_ | with_reducible refine w_isiIB ?_ | with_reducible refine w_isiSS ?_ | with_reducible refine w_isiTT ?_ | with_reducible refine w_isiIT ?_ | with_reducible refine w_isiIS ?_ | with_reducible refine w_isiSI ?_ | with_reducible refine w_isiSB ?_ | with_reducible refine w_isiST ?_ | with_reducible refine w_isiTI ?_ | with_reducible refine w_isiTB ?_ | with_reducible refine w_isiTS ?_ | with_reducible refine w_isiNI ?_ | with_reducible refine w_isiNS ?_ | with_reducible refine w_isiNT ?_ | with_reducible refine w_isiBI ?_ | with_reducible refine w_isiBB ?_ | with_reducible refine w_isiLT ?_ | with_reducible refine w_dRev ?_ | with_reducible refine w_revK ?_ | with_reducible refine w_lstRg ?_ | with_reducible refine w_par ?_ | with_reducible refine w_parK (by dsimp only [List.set] <;> rfl) ?_ | with_reducible refine w_sl ?_ | with_reducible refine w_slT ?_ | with_reducible refine w_slL ?_ | with_reducible refine w_oNo ?_ | with_reducible refine w_oSo ?_ | with_reducible refine w_oSoK ?_ | with_reducible refine w_prN ?_ | with_reducible refine w_prC ?_ | with_reducible refine w_addI ?_ | with_reducible refine w_subI ?_ | with_reducible refine w_lt ?_ | with_reducible refine w_le ?_ | with_reducible refine w_gt ?_ | with_reducible refine w_ge ?_ | with_reducible refine w_isN ?_ | with_reducible refine w_isnN ?_ | with_reducible refine w_eqI ?_ | with_reducible refine w_neI ?_ | with_reducible refine w_ixT0 ?_ | with_reducible refine w_ixT1 ?_ | with_reducible refine w_ixT2 ?_ | with_reducible refine w_ixT3 ?_ | with_reducible refine w_ixT4 ?_ | with_reducible refine w_ixT5 ?_ | with_reducible refine w_lenL ?_ | with_reducible refine w_lenT ?_ | with_reducible refine w_int ?_ | with_reducible refine w_intB ?_ | with_reducible refine w_abs ?_ | with_reducible refine w_listL ?_ | with_reducible refine w_listT ?_ | with_reducible refine w_tupL ?_ | with_reducible refine w_tupT ?_ | with_reducible refine w_int2 ?_ | with_reducible refine w_gcd ?_ | with_reducible refine w_app ?_ | with_reducible refine w_iSeq ?_ | with_reducible refine w_itemT ?_ | with_reducible refine w_itemL ?_ | with_reducible refine w_iRng ?_ | with_reducible refine w_iEnm ?_ | with_reducible refine w_sg1 ?_ | with_reducible refine w_iRev ?_ | with_reducible refine w_rg1 ?_ | with_reducible refine w_rg1K ?_ | with_reducible refine w_notB ?_)
def ownD : D → D
  | .tup [.int v, .tup (_ :: .str l :: _)] => .int (if l = (Str.ofString "here") then v else 0)
  | _ => .non
theorem ownD_d (x : Th) (v : Int) : ownD (.tup [.int v, x.d]) = .int (own1 x.here v) := by
  have e : ∀ u : Bool, (if landS u = (Str.ofString "here") then v else 0) = own1 u v := fun u => by
    have := dl_land u
    by_cases z : landS u = (Str.ofString "here")
    · rw [if_pos z]; rw [decide_eq_true z] at this; rw [← this]; rfl
    · rw [if_neg z]; rw [decide_eq_false z] at this; rw [← this]; rfl
  cases x with
  | raw h _ _ => rw [Th.d]; show D.int _ = _; rw [e]; rfl
  | made h _ _ _ _ _ _ => rw [Th.d]; show D.int _ = _; rw [e]; rfl
def lstD (n : Nat) (F : Nat → Int) : D := .lst ((List.range n).map fun j => D.int (F j))
theorem sums_k {t : Th} {a : Nat → Int} {A : Int} (ha : ∀ k, 0 ≤ a k ∧ a k ≤ A) (hA : (40 : Int) * A ≤ 2 ^ 64) (hok : t.ok) (hz : t.sz ≤ 40) {M : Mem} {Q : QD} {Xd : XD}
    (h : Q (.tup [lstD t.sz fun j => (TT t j).cst j a, lstD t.sz fun j => (TT t j).own j a, lstD t.sz fun j => (TT t j).cnt j a, .lst ((wordsL t a).map bI)]) M) :
    Wsums_of [.lst (Th.ds t.fl), .lst (t.whs 0 .non), lstD t.sz a] M Q Xd := by
  refine Esums_of ?_
  unfold lstD
  repeat fail
  refine w_listOL ?_
  repeat fail
  intro s hs
  repeat fail
  refine w_lcO ?_
  repeat fail
  intro o ho
  have hwp : ∀ x0 x1 x2 x3 x4 x5 x6 x7 x8 x9 x10 x11 x12 x13 x14 : Option D, wipeD [x0, x1, x2, x3, x4, x5, x6, x7, x8, x9, x10, x11, x12, x13, x14] [5, 6] = [x0, x1, x2, x3, x4, none, none, x7, x8, x9, x10, x11, x12, x13, x14] := fun _ _ _ _ _ _ _ _ _ _ _ _ _ _ _ => rfl
  rw [hwp]
  have ezp : zpD ((List.range t.sz).map fun j => D.int (a j)) (Th.ds t.fl) = (List.range t.sz).map fun j => .tup [.int (a j), (TT t j).d] := by rw [fl_range, zp_map]
  rw [ezp]
  refine lc_mapO ownD (fun _ => wat_none) [] (by simp [sizeLine_eq]; omega) (fun d hd acc K hK => ?_) ?_
  · obtain ⟨j, hj, rfl⟩ := List.mem_map.mp hd
    rw [ownD_d] at hK
    repeat fail
    refine d_ix1 ?_
    unfold landD
    refine w_eqS (ol_land _) (by decide +kernel) ?_
    rw [dl_land]
    repeat fail
    refine w_ifb (fun z => ?_) fun z => ?_
    · repeat fail
      rw [z] at hK; exact hK
    · repeat fail
      rw [z] at hK; exact hK
  have eow : ([] : List D) ++ ((List.range t.sz).map fun j => .tup [.int (a j), (TT t j).d]).map ownD = (List.range t.sz).map fun j => D.int (own1 (TT t j).here (a j)) := by
    rw [List.nil_append, List.map_map]
    exact List.map_congr_left fun j _ => ownD_d _ _
  rw [eow]
  have nso : s ≠ o := fun e => by rw [← e, Mem.put_same] at ho; cases ho
  rw [Mem.put_ne (Ne.symm nso)] at ho
  have h1s : ((M.put s (.lst ((List.range t.sz).map fun j => D.int (a j)))).put o (lstI t.sz fun j => own1 (TT t j).here (a j))) s = some (lstI t.sz a) := by rw [Mem.put_ne nso, Mem.put_same]; rfl
  have h1o : ((M.put s (.lst ((List.range t.sz).map fun j => D.int (a j)))).put o (lstI t.sz fun j => own1 (TT t j).here (a j))) o = some (lstI t.sz fun j => own1 (TT t j).here (a j)) := Mem.put_same
  have h1e : ∀ x, x ≠ s → x ≠ o → ((M.put s (.lst ((List.range t.sz).map fun j => D.int (a j)))).put o (lstI t.sz fun j => own1 (TT t j).here (a j))) x = M x := fun x y z => by rw [Mem.put_ne z, Mem.put_ne y]
  rw [show (MO.lst ((List.range t.sz).map fun j => D.int (own1 (TT t j).here (a j)))) = lstI t.sz fun j => own1 (TT t j).here (a j) from rfl]
  generalize (M.put s (.lst ((List.range t.sz).map fun j => D.int (a j)))).put o (lstI t.sz fun j => own1 (TT t j).here (a j)) = M1 at h1s h1o h1e
  repeat fail
  refine w_listOR h1o ?_
  repeat fail
  intro c hc
  repeat fail
  refine w_lstO ?_
  repeat fail
  intro w hw
  have nsc : s ≠ c := fun e => by rw [← e, h1s] at hc; cases hc
  have noc : o ≠ c := fun e => by rw [← e, h1o] at hc; cases hc
  have nsw : s ≠ w := fun e => by rw [← e, Mem.put_ne nsc, h1s] at hw; cases hw
  have now : o ≠ w := fun e => by rw [← e, Mem.put_ne noc, h1o] at hw; cases hw
  have ncw : c ≠ w := fun e => by rw [← e, Mem.put_same] at hw; cases hw
  rw [Mem.put_ne (Ne.symm ncw)] at hw
  have ne : Ne4 s o c w := ⟨nso, nsc, nsw, noc, now, ncw⟩
  have hcM : M c = none := (h1e c (Ne.symm nsc) (Ne.symm noc)).symm.trans hc
  have hwM : M w = none := (h1e w (Ne.symm nsw) (Ne.symm now)).symm.trans hw
  have S0 : Su M s o c w t.sz a (fun j => own1 (TT t j).here (a j)) (fun j => own1 (TT t j).here (a j)) [] ((M1.put c (.lst ((List.range t.sz).map fun j => D.int (own1 (TT t j).here (a j))))).put w (.lst [])) :=
    ⟨by rw [Mem.put_ne nsw, Mem.put_ne nsc, h1s], by rw [Mem.put_ne now, Mem.put_ne noc, h1o], by rw [Mem.put_ne ncw, Mem.put_same]; rfl, Mem.put_same, fun x y1 y2 y3 y4 => by rw [Mem.put_ne y4, Mem.put_ne y3, h1e x y1 y2]⟩
  generalize (M1.put c (.lst ((List.range t.sz).map fun j => D.int (own1 (TT t j).here (a j))))).put w (.lst []) = M2 at S0
  have ewd : wdL t a t.sz = [] := by unfold wdL; rw [Nat.sub_self]; rfl
  have S1 : Su M s o c w t.sz (spF t a t.sz) (owF t a t.sz) (ctF t a t.sz) ((wdL t a t.sz).reverse.map bI) M2 := by
    rw [ewd]
    exact S0.congr (fun j hj => (sp_top hj).1.symm) (fun j hj => (sp_top hj).2.1.symm) (fun j hj => (sp_top hj).2.2.symm)
  repeat fail
  have el : ((((Th.ds t.fl).length : Nat) : Int)) = (t.sz : Int) := by rw [fl_range, List.length_map, List.length_range]
  rw [el]
  refine ⟨by omega, ?_⟩
  rw [Int.sub_zero, Int.toNat_natCast]
  refine sums_loop ha hA hok hz ne (fun _ => wat_none) (fun M3 x5 x6 x9 x10 x11 x12 x13 x14 S3 => ?_) t.sz M2 _ _ _ _ _ _ _ _ (Nat.le_refl _) S1
  repeat fail
  refine w_rvsO S3.hw ?_
  have ew : ((wdL t a 0).reverse.map bI).reverse = (wordsL t a).map bI := by
    rw [← List.map_reverse, List.reverse_reverse]
    unfold wdL wordsL
    rw [List.range_eq_range', Nat.sub_zero]
  rw [ew]
  have S4 := S3.pW (Y := (wordsL t a).map bI) ne
  generalize M3.put w _ = M4 at S4 ⊢
  repeat fail
  have S5 : Su M s o c w t.sz (fun j => (TT t j).cst j a) (fun j => (TT t j).own j a) (fun j => (TT t j).cnt j a) ((wordsL t a).map bI) M4 :=
    S4.congr (fun j _ => by unfold spF; rw [if_pos (Nat.zero_le _)]) (fun j _ => by unfold owF; rw [if_pos (Nat.zero_le _)]) (fun j _ => by unfold ctF; rw [if_pos (Nat.zero_le _)])
  refine lo_frzT 0 (by rfl) S5.hs ?_
  refine lo_frzT 1 (by rfl) ((Mem.del_ne (Ne.symm nso)).trans S5.ho) ?_
  refine lo_frzT 2 (by rfl) ((Mem.del_ne (Ne.symm noc)).trans ((Mem.del_ne (Ne.symm nsc)).trans S5.hc)) ?_
  refine lo_frzT 3 (by rfl) ((Mem.del_ne (Ne.symm ncw)).trans ((Mem.del_ne (Ne.symm now)).trans ((Mem.del_ne (Ne.symm nsw)).trans S5.hw))) ?_
  have eM : (((M4.del s).del o).del c).del w = M := by
    funext x
    by_cases ev : x = w
    · subst ev; rw [Mem.del_same, hwM]
    rw [Mem.del_ne ev]
    by_cases em : x = c
    · subst em; rw [Mem.del_same, hcM]
    rw [Mem.del_ne em]
    by_cases ew : x = o
    · subst ew; rw [Mem.del_same, ho]
    rw [Mem.del_ne ew]
    by_cases ef : x = s
    · subst ef; rw [Mem.del_same, hs]
    rw [Mem.del_ne ef]
    exact S5.el x ef ew em ev
  rw [eM]
  exact lo_same h
/-! ### a good with prices -/
theorem fps_of : ∀ {rs : List (Th × List Nat)} {fs : List (Int × Int)}, (∀ r ∈ rs, r.1.ok) → RowR rs fs → FPs (rs.map (·.1)) fs
  | [], [], _, .nil => .nil
  | r :: rs, f :: fs, h, .cons hf hr => by
    have hb := ok_bnd (h r List.mem_cons_self)
    refine .cons ?_ (fps_of (fun x hx => h x (List.mem_cons_of_mem _ hx)) hr)
    have e1 : lowOf r.1 = Th.lo r.1 := by cases r.1 <;> rfl
    have e2 : higOf r.1 = Th.hi r.1 := by cases r.1 <;> rfl
    exact ⟨hf.pos, hf.cop, hf.dvd, by rw [e1]; exact hf.lo, by rw [e2]; exact hf.hi, by rw [e1, e2]; exact hb⟩
def rowA (fs : List (Int × Int)) (u : Int) (k : Nat) : Int := inU u (fs.getD k (0, 1))
theorem FPs.at {ts : List Th} {fs : List (Int × Int)} (h : FPs ts fs) : ∀ {k : Nat} {f : Int × Int}, fs[k]? = some f → ∃ t, ts[k]? = some t ∧ FP t f := by
  induction h with
  | nil => intro k f e; simp at e
  | cons h _ ih =>
    intro k f e
    cases k with
    | zero => simp at e; subst e; exact ⟨_, rfl, h⟩
    | succ k => simpa using ih (by simpa using e)
structure Pd (t : Th) (fs : List (Int × Int)) : Prop where
  ok : t.ok
  sz : t.sz ≤ 40
  fps : FPs t.fl fs
section
variable {t : Th} {fs : List (Int × Int)}
theorem Pd.mem (P : Pd t fs) : ∀ f ∈ fs, 0 < f.2 ∧ f.2 ∣ 2100 ∧ 0 ≤ f.1 ∧ f.1 ≤ 1000000 * f.2 := by
  intro f hf
  obtain ⟨k, hk⟩ := List.getElem?_of_mem hf
  obtain ⟨x, _, h⟩ := P.fps.at hk
  obtain ⟨b1, b2, b3⟩ := h.bd
  refine ⟨h.pos, h.dvd, ?_, ?_⟩
  · have := Int.mul_nonneg b1 (Int.le_of_lt h.pos)
    have := h.lo; omega
  · have := Int.mul_le_mul_of_nonneg_right b3 (Int.le_of_lt h.pos)
    have := h.hi; omega
theorem Pd.unit (P : Pd t fs) : 0 < unitF 1 fs ∧ unitF 1 fs ≤ 2100 ∧ ∀ f ∈ fs, f.2 ∣ unitF 1 fs := by
  have h := unitF_ok fs 1 (by decide) (by decide) fun f hf => ⟨(P.mem f hf).1, (P.mem f hf).2.1⟩
  exact ⟨h.1.1, dvd_le h.1.2 h.1.1, h.2.2⟩
theorem inU_bd {f : Int × Int} {u : Int} (hu : 0 < u ∧ u ≤ 2100) (h0 : 0 < f.2) (h1 : 0 ≤ f.1) (h2 : f.1 ≤ 1000000 * f.2) (hd : f.2 ∣ u) : (0 ≤ inU u f ∧ inU u f ≤ 2100000000) ∧ Rep u (inU u f) f := by
  unfold inU
  have e : u / f.2 * f.2 = u := Int.ediv_mul_cancel hd
  have q0 : 0 ≤ u / f.2 := Int.ediv_nonneg (by omega) (by omega)
  refine ⟨⟨Int.mul_nonneg h1 q0, ?_⟩, h0, ?_⟩
  · have := Int.mul_le_mul_of_nonneg_right h2 q0
    have e2 : 1000000 * f.2 * (u / f.2) = 1000000 * u := by rw [Int.mul_assoc, Int.mul_comm f.2, e]
    omega
  · rw [Int.mul_assoc, e]
theorem Pd.pr (P : Pd t fs) : PrOk fs t.sz (unitF 1 fs) 2100000000 (rowA fs (unitF 1 fs)) := by
  obtain ⟨u0, u1, u2⟩ := P.unit
  refine ⟨by rw [P.fps.len, fl_len], P.sz, fun k hk => ?_, fun k => ?_, u0, by omega, by decide⟩
  · have hl : k < fs.length := by rw [P.fps.len, fl_len]; exact hk
    have hm := List.getElem_mem hl
    obtain ⟨a1, a2, a3, a4⟩ := P.mem _ hm
    refine ⟨fs[k], List.getElem?_eq_getElem hl, ⟨by have := dvd_le a2 a1; omega, a1, by have := dvd_le a2 a1; omega⟩, ?_⟩
    unfold rowA
    rw [List.getD_eq_getElem?_getD, List.getElem?_eq_getElem hl]
    exact (inU_bd ⟨u0, u1⟩ a1 a3 a4 (u2 _ hm)).2
  · unfold rowA
    by_cases hl : k < fs.length
    · have hm := List.getElem_mem hl
      obtain ⟨a1, a2, a3, a4⟩ := P.mem _ hm
      rw [List.getD_eq_getElem?_getD, List.getElem?_eq_getElem hl]
      exact (inU_bd ⟨u0, u1⟩ a1 a3 a4 (u2 _ hm)).1
    · rw [List.getD_eq_getElem?_getD, List.getElem?_eq_none (by omega)]
      simp [inU]
end
theorem units_eq {t : Th} {fs : List (Int × Int)} (P : Pd t fs) : (fs.map (inU (unitF 1 fs))).map D.int = (List.range t.sz).map fun j => D.int (rowA fs (unitF 1 fs) j) := by
  have hl : fs.length = t.sz := by rw [P.fps.len, fl_len]
  rw [List.map_map]
  apply List.ext_getElem?
  intro i
  by_cases hi : i < t.sz
  · rw [List.getElem?_map, List.getElem?_eq_getElem (by omega), List.getElem?_map, List.getElem?_range hi]
    unfold rowA
    rw [Option.map_some, Option.map_some, List.getD_eq_getElem?_getD, List.getElem?_eq_getElem (by omega)]; rfl
  · rw [List.getElem?_eq_none (by rw [List.length_map]; omega), List.getElem?_eq_none (by rw [List.length_map, List.length_range]; omega)]
/-- the sums of the program at prices -/
abbrev aP (fs : List (Int × Int)) : Nat → Int := rowA fs (unitF 1 fs)
theorem sums_at_k {t : Th} {fs : List (Int × Int)} (hg : t.good) (P : Pd t fs) {M : Mem} {Q : QD} {Xd : XD}
    (h : Q (.tup [lstD t.sz fun j => (TT t j).cst j (aP fs), lstD t.sz fun j => (TT t j).own j (aP fs), lstD t.sz fun j => (TT t j).cnt j (aP fs), .lst ((wordsL t (aP fs)).map bI), .int (unitF 1 fs)]) M) : W_sums_at [t.d, .tup (fs.map frD)] M Q Xd := by
  obtain ⟨u0, u1, u2⟩ := P.unit
  have hl : fs.length = t.sz := by rw [P.fps.len, fl_len]
  have hz := P.sz
  refine E_sums_at ?_
  repeat fail
  refine over_k hg ?_
  repeat fail
  refine need_k P.fps (by rw [fl_len]; omega) ?_
  repeat fail
  refine unit_k (fun f hf => ⟨(P.mem f hf).1, (P.mem f hf).2.1⟩) ?_
  repeat fail
  refine units_k ⟨u0, u1⟩ (fun f hf => ?_) (by omega) ?_
  · obtain ⟨a1, a2, a3, a4⟩ := P.mem f hf
    have := dvd_le a2 a1
    exact ⟨a1, this, by omega⟩
  rw [units_eq P]
  refine sums_k P.pr.ha P.pr.aB P.ok hz ?_
  repeat fail
  exact lo_same h
def tupF (n : Nat) (F : Nat → Int) (u : Int) : D := .tup ((List.range n).map fun j => frD (lt (F j) u))
theorem fracs_r {n : Nat} {F : Nat → Int} {u : Int} (hn : n ≤ 40) (hu : 0 < u ∧ u ≤ 2100) {M : Mem} {Q : QD} {Xd : XD} (h : Q (tupF n F u) M) : Wfractions_of [lstD n F, .int u] M Q Xd := by
  have e1 : (List.range n).map (fun j => D.int (F j)) = ((List.range n).map F).map D.int := by rw [List.map_map]; rfl
  unfold lstD
  rw [e1]
  have big : (2 : Nat) ^ 12 ≤ 2 ^ 4000 := Nat.pow_le_pow_right (by decide) (by decide)
  refine fracs_k hu.1 (Nat.le_trans (by omega) big) (by rw [List.length_map, List.length_range]; omega) ?_
  rw [List.map_map, List.map_map]
  exact h
section
variable {t : Th} {fs : List (Int × Int)} (hg : t.good) (P : Pd t fs) {M : Mem} {Q : QD} {Xd : XD}
include hg P
theorem costs_k (h : Q (tupF t.sz (fun j => (TT t j).cst j (aP fs)) (unitF 1 fs)) M) : Wcosts [t.d, .tup (fs.map frD)] M Q Xd := by
  refine Ecosts ?_
  repeat fail
  refine sums_at_k hg P ?_
  repeat fail
  exact fracs_r P.sz ⟨P.unit.1, P.unit.2.1⟩ (lo_same h)
theorem owns_k (h : Q (tupF t.sz (fun j => (TT t j).own j (aP fs)) (unitF 1 fs)) M) : Wowns [t.d, .tup (fs.map frD)] M Q Xd := by
  refine Eowns ?_
  repeat fail
  refine sums_at_k hg P ?_
  repeat fail
  exact fracs_r P.sz ⟨P.unit.1, P.unit.2.1⟩ (lo_same h)
theorem counts_k (h : Q (tupF t.sz (fun j => (TT t j).cnt j (aP fs)) (unitF 1 fs)) M) : Wcounted [t.d, .tup (fs.map frD)] M Q Xd := by
  refine Ecounted ?_
  repeat fail
  refine sums_at_k hg P ?_
  repeat fail
  exact fracs_r P.sz ⟨P.unit.1, P.unit.2.1⟩ (lo_same h)
theorem words_at_k (h : Q (.tup ((wordsL t (aP fs)).map bI)) M) : Wwords_at [t.d, .tup (fs.map frD)] M Q Xd := by
  refine Ewords_at ?_
  repeat fail
  refine sums_at_k hg P ?_
  repeat fail
  exact lo_same h
theorem words0 {a : Nat → Int} : ∃ b r, wordsL t a = b :: r ∧ t.word 0 a = some b := by
  have h0 := sz_pos t
  obtain ⟨n, hn⟩ : ∃ n, t.sz = n + 1 := ⟨t.sz - 1, by omega⟩
  have e0 : atR (rows t 0) 0 = t := by unfold atR; rw [rows_eq]; rfl
  unfold wordsL
  rw [hn, List.range_succ_eq_map, List.filterMap_cons, e0]
  have := hg.made
  cases t with
  | raw _ _ _ => cases this
  | made h lo hi sh u w ps => exact ⟨_, _, rfl, rfl⟩
theorem here_k {b : Bool} (hb : t.word 0 (aP fs) = some b) (h : Q (.bl b) M) : Wis_of_here [t.d, .tup (fs.map frD)] M Q Xd := by
  refine Eis_of_here ?_
  repeat fail
  refine sums_at_k hg P ?_
  repeat fail
  obtain ⟨b', r, e1, e2⟩ := words0 hg P (a := aP fs)
  rw [hb] at e2
  cases e2
  rw [e1, List.map_cons]
  refine w_ixL (by have z := atI_nat (xs := bI b :: r.map bI) (j := 0) (v := bI b) rfl; exact z) ?_
  unfold bI
  repeat fail
  have e3 : decide ((if b = true then (1 : Int) else 0) = 1) = b := by cases b <;> rfl
  rw [e3]
  exact lo_same h
theorem cost_pos : 0 < t.cst 0 (aP fs) := by
  -- some price is above 0
  have hpr : PrOk fs t.sz (unitF 1 fs) 2100000000 (aP fs) := P.pr
  obtain ⟨x, hx, hl⟩ := any_fl t hg.any
  obtain ⟨k, hk⟩ := List.getElem?_of_mem hx
  have hkl : k < t.fl.length := (List.getElem?_eq_some_iff.mp hk).1
  rw [fl_len] at hkl
  obtain ⟨f, hf1, hf2, hf3⟩ := hpr.at_ k hkl
  obtain ⟨y, hy, hfp⟩ := P.fps.at hf1
  rw [hk] at hy
  cases hy
  have pos : 0 < aP fs k := by
    have h1 := hfp.lo
    have h2 : 0 < lowOf x * f.2 := Int.mul_pos hl hfp.pos
    have h3 := hf3.2
    have h4 : 0 < f.1 * unitF 1 fs := Int.mul_pos (by omega) hpr.hu
    rw [h3] at h4
    by_cases z : 0 < aP fs k
    · exact z
    · have : aP fs k * f.2 ≤ 0 := Int.mul_nonpos_of_nonpos_of_nonneg (by omega) (by have := hfp.pos; omega)
      omega
  have key : ∀ (t : Th) (b k : Nat), b ≤ k → k < b + t.sz → aP fs k ≤ t.cst b (aP fs) := by
    intro t
    refine Th.rec (motive_1 := fun t => ∀ (b k : Nat), b ≤ k → k < b + t.sz → aP fs k ≤ t.cst b (aP fs)) (motive_2 := fun ts => ∀ (b k : Nat), b ≤ k → k < b + Th.szs ts → aP fs k ≤ Th.csts ts b (aP fs)) ?_ ?_ ?_ ?_ t
    · intro h lo hi b k h1 h2
      simp only [Th.sz] at h2
      have e : k = b := by omega
      subst e; exact Int.le_refl _
    · intro h lo hi sh u w ps ih b k h1 h2
      simp only [Th.sz] at h2
      simp only [Th.cst]
      have hb := hpr.ha b
      have hc := csts_bd hpr.ha ps (b + 1)
      by_cases e : k = b
      · subst e; omega
      · have := ih (b + 1) k (by omega) (by omega)
        omega
    · intro b k h1 h2
      simp only [Th.szs] at h2
      omega
    · intro t ts ih1 ih2 b k h1 h2
      simp only [Th.szs] at h2
      simp only [Th.csts]
      have hc := cst_bd hpr.ha t b
      have hd := csts_bd hpr.ha ts (b + t.sz)
      by_cases e : k < b + t.sz
      · have := ih1 b k h1 e; omega
      · have := ih2 (b + t.sz) k (by omega) (by omega); omega
  have := key t 0 k (by omega) (by omega)
  omega
theorem portion_at_k (h : Q (frD (lt (t.own 0 (aP fs)) (t.cst 0 (aP fs)))) M) : Wportion [t.d, .tup (fs.map frD)] M Q Xd := by
  have e0 : TT t 0 = t := by show atR (rows t 0) 0 = t; unfold atR; rw [rows_eq]; rfl
  have hz := sz_pos t
  have hp := cost_pos hg P
  have hb : 0 ≤ t.cst 0 (aP fs) ∧ t.cst 0 (aP fs) ≤ t.sz * 2100000000 := cst_bd P.pr.ha t 0
  have hz2 := P.sz
  refine Eportion ?_
  repeat fail
  refine sums_at_k hg P ?_
  repeat fail
  unfold lstD
  refine w_ixL (at_range (F := fun j => D.int ((TT t j).own j (aP fs))) (j := 0) hz) ?_
  repeat fail
  refine w_ixL (at_range (F := fun j => D.int ((TT t j).cst j (aP fs))) (j := 0) hz) ?_
  repeat fail
  rw [e0]
  have hA : (t.sz : Int) * 2100000000 ≤ 40 * 2100000000 := Int.mul_le_mul_of_nonneg_right (by omega) (by decide)
  have big : (2 : Nat) ^ 64 ≤ 2 ^ 4000 := Nat.pow_le_pow_right (by decide) (by decide)
  exact lowest_k hp (Nat.le_trans (by omega) big) (lo_same h)
end
end G_madeofhere_k04_whole_counts
set_option maxHeartbeats 1000000
namespace DL
open PySem PySem.Spec PyProof.Rows L2
/-! ### repr of data of a known size -/
theorem ok_mem {x : Str} : PyData.strOk x = true ↔ ∀ c ∈ x.cps.toList, c < 0x110000 := by
  unfold PyData.strOk
  rw [Array.all_eq_true_iff_forall_mem]
  constructor
  · intro h c hc
    have := h c (Array.mem_toList_iff.mp hc)
    simpa using this
  · intro h c hc
    have := h c (Array.mem_toList_iff.mpr hc)
    simpa using this
theorem ok_app {x y : Str} (h : PyData.strOk x = true) (k : PyData.strOk y = true) : PyData.strOk (x ++ y) = true := by
  rw [ok_mem] at *
  intro c hc
  rcases mem_cps_append.mp hc with hc | hc
  · exact h c hc
  · exact k c hc
theorem ok_from : ∀ (ts : List Str) (k : Nat) (acc : Str), PyData.strOk acc = true → (∀ t ∈ ts, PyData.strOk t = true) → PyData.strOk (textFrom k acc ts) = true
  | [], k, acc, h, _ => h
  | t :: ts, k, acc, h, hs => ok_from ts (k + 1) _ (ok_app (ok_app h (by split <;> decide +kernel)) (hs t List.mem_cons_self)) fun x hx => hs x (List.mem_cons_of_mem _ hx)
theorem ok_list {ts : List Str} (hs : ∀ t ∈ ts, PyData.strOk t = true) : PyData.strOk (listText ts) = true := ok_app (ok_from ts 0 _ (by decide +kernel) hs) (by decide +kernel)
theorem ok_join {ts : List Str} (hs : ∀ t ∈ ts, PyData.strOk t = true) : PyData.strOk (Str.join ", " ts) = true := by
  rw [ok_mem]
  intro c hc
  rcases (mem_join _ _ _).mp hc with ⟨t, ht, h⟩ | ⟨_, h⟩
  · exact ok_mem.mp (hs t ht) c h
  · rw [signs_sep] at h
    simp only [List.mem_cons, List.not_mem_nil, or_false] at h
    omega
theorem ok_tuple {ts : List Str} (hs : ∀ t ∈ ts, PyData.strOk t = true) : PyData.strOk (tupleText ts) = true := by
  unfold tupleText
  refine ok_app (ok_app (by decide +kernel) (ok_join hs)) ?_
  split <;> decide +kernel
structure RB (m d : Nat) (p : PyData) : Prop where
  sh : p.showable = true
  len : p.shown.length ≤ m
  dep : p.depth ≤ d
  ok : PyData.strOk p.shown = true
theorem RB.mono {m m' d d' : Nat} {p : PyData} (h : RB m d p) (hm : m ≤ m') (hd : d ≤ d') : RB m' d' p := ⟨h.sh, Nat.le_trans h.len hm, Nat.le_trans h.dep hd, h.ok⟩
theorem rb_int {i : Int} (h : i.natAbs ≤ 2 ^ 64) : RB 66 0 (.int i) := by
  have hl : i.natAbs.log2 < 65 := by
    by_cases z : i.natAbs = 0
    · rw [z]; decide
    · exact (Nat.log2_lt z).mpr (by omega)
  refine ⟨decide_eq_true (by omega), ?_, Nat.le_refl _, ok_mem.mpr fun c hc => ?_⟩
  · show (Str.ofString (toString i)).length ≤ 66
    rw [PySem.ofString_length]; exact int_text_length_le (by decide) hl
  · by_cases z : c < 0x110000
    · exact z
    · exact absurd hc (shown_int_free' (by omega) i)
theorem rb_bl {b : Bool} : RB 5 0 (.bool b) := ⟨rfl, by cases b <;> decide, Nat.le_refl _, by cases b <;> decide +kernel⟩
theorem rb_non : RB 4 0 .none := ⟨rfl, by decide, Nat.le_refl _, by decide +kernel⟩
theorem rb_str {x : Str} {m : Nat} (h : PyData.strOk (reprText x) = true) (hl : (reprText x).length ≤ m) : RB m 0 (.str x) := ⟨rfl, hl, Nat.le_refl _, h⟩
theorem rb_all {m d : Nat} : ∀ {xs : List PyData}, (∀ x ∈ xs, RB m d x) → PyData.showableAll xs = true ∧ ((PyData.shownAll xs).map (·.length)).sum ≤ xs.length * m ∧ PyData.depthAll xs ≤ d ∧ (∀ t ∈ PyData.shownAll xs, PyData.strOk t = true) ∧ (PyData.shownAll xs).length = xs.length
  | [], _ => ⟨rfl, by simp [PyData.shownAll], Nat.zero_le _, fun t h => by simp [PyData.shownAll] at h, rfl⟩
  | x :: xs, h => by
    have hx := h x List.mem_cons_self
    obtain ⟨h1, h2, h3, h4, h5⟩ := rb_all fun y hy => h y (List.mem_cons_of_mem _ hy)
    refine ⟨by simp only [PyData.showableAll, hx.sh, h1, Bool.and_self], ?_, ?_, ?_, ?_⟩
    · simp only [PyData.shownAll, List.map_cons, List.sum_cons, List.length_cons]
      have := hx.len
      rw [Nat.add_mul]; omega
    · simp only [PyData.depthAll]
      have := hx.dep
      omega
    · intro t ht
      simp only [PyData.shownAll, List.mem_cons] at ht
      rcases ht with rfl | ht
      · exact hx.ok
      · exact h4 t ht
    · simp only [PyData.shownAll, List.length_cons, h5]
theorem rb_tup {m d k : Nat} {xs : List PyData} (h : ∀ x ∈ xs, RB m d x) (hk : xs.length ≤ k) : RB (k * (m + 2) + 3) (d + 1) (.tuple xs) := by
  obtain ⟨h1, h2, h3, h4, h5⟩ := rb_all h
  have hl := tupleText_len_le (PyData.shownAll xs)
  have hm : xs.length * (m + 2) ≤ k * (m + 2) := Nat.mul_le_mul_right _ hk
  have e : xs.length * (m + 2) = xs.length * m + xs.length * 2 := Nat.mul_add _ _ _
  refine ⟨by simp only [PyData.showable]; exact h1, ?_, by simp only [PyData.depth]; omega, by simp only [PyData.shown]; exact ok_tuple h4⟩
  simp only [PyData.shown]; omega
theorem rb_lst {m d k : Nat} {xs : List PyData} (h : ∀ x ∈ xs, RB m d x) (hk : xs.length ≤ k) : RB (k * (m + 2) + 3) (d + 1) (.list xs) := by
  obtain ⟨h1, h2, h3, h4, h5⟩ := rb_all h
  have hl := listText_len_le (PyData.shownAll xs)
  have hm : xs.length * (m + 2) ≤ k * (m + 2) := Nat.mul_le_mul_right _ hk
  have e : xs.length * (m + 2) = xs.length * m + xs.length * 2 := Nat.mul_add _ _ _
  refine ⟨by simp only [PyData.showable]; exact h1, ?_, by simp only [PyData.depth]; omega, by simp only [PyData.shown]; exact ok_list h4⟩
  simp only [PyData.shown]; omega
/-- data that can be shown within m signs -/
def RD (m d : Nat) (x : D) : Prop := ∃ p, toPy x = some p ∧ RB m d p
theorem RD.mono {m m' d d' : Nat} {x : D} (h : RD m d x) (hm : m ≤ m') (hd : d ≤ d') : RD m' d' x := by
  obtain ⟨p, h1, h2⟩ := h
  exact ⟨p, h1, h2.mono hm hd⟩
theorem rd_int {i : Int} (h : i.natAbs ≤ 2 ^ 64) : RD 66 0 (.int i) := ⟨_, rfl, rb_int h⟩
theorem rd_bl {b : Bool} : RD 5 0 (.bl b) := ⟨_, rfl, rb_bl⟩
theorem rd_non : RD 4 0 .non := ⟨_, rfl, rb_non⟩
theorem rd_str {x : Str} {m : Nat} (h : PyData.strOk (reprText x) = true) (hl : (reprText x).length ≤ m) : RD m 0 (.str x) := ⟨_, rfl, rb_str h hl⟩
theorem rd_all {m d : Nat} : ∀ {xs : List D}, (∀ x ∈ xs, RD m d x) → ∃ ps, toPys xs = some ps ∧ (∀ p ∈ ps, RB m d p) ∧ ps.length = xs.length
  | [], _ => ⟨[], rfl, (fun p h => by cases h), rfl⟩
  | x :: xs, h => by
    obtain ⟨p, h1, h2⟩ := h x List.mem_cons_self
    obtain ⟨ps, k1, k2, k3⟩ := rd_all fun y hy => h y (List.mem_cons_of_mem _ hy)
    refine ⟨p :: ps, by rw [toPys, h1, k1], fun q hq => ?_, by rw [List.length_cons, List.length_cons, k3]⟩
    rcases List.mem_cons.mp hq with rfl | hq
    · exact h2
    · exact k2 q hq
theorem rd_tup {m d k : Nat} {xs : List D} (h : ∀ x ∈ xs, RD m d x) (hk : xs.length ≤ k) : RD (k * (m + 2) + 3) (d + 1) (.tup xs) := by
  obtain ⟨ps, h1, h2, h3⟩ := rd_all h
  exact ⟨.tuple ps, by rw [toPy, h1]; rfl, rb_tup h2 (by omega)⟩
theorem rd_lst {m d k : Nat} {xs : List D} (h : ∀ x ∈ xs, RD m d x) (hk : xs.length ≤ k) : RD (k * (m + 2) + 3) (d + 1) (.lst xs) := by
  obtain ⟨ps, h1, h2, h3⟩ := rd_all h
  exact ⟨.list ps, by rw [toPy, h1]; rfl, rb_lst h2 (by omega)⟩
/-- of several, with the sum of their signs -/
structure RBs (m d : Nat) (xs : List PyData) : Prop where
  sh : PyData.showableAll xs = true
  len : ((PyData.shownAll xs).map (·.length)).sum ≤ m
  dep : PyData.depthAll xs ≤ d
  ok : ∀ t ∈ PyData.shownAll xs, PyData.strOk t = true
  n : (PyData.shownAll xs).length = xs.length
theorem rbs_nil {d : Nat} : RBs 0 d [] := ⟨rfl, by simp [PyData.shownAll], Nat.zero_le _, fun t h => by simp [PyData.shownAll] at h, rfl⟩
theorem rbs_cons {m m' d : Nat} {x : PyData} {xs : List PyData} (hx : RB m d x) (h : RBs m' d xs) : RBs (m + m') d (x :: xs) := by
  refine ⟨by simp only [PyData.showableAll, hx.sh, h.sh, Bool.and_self], ?_, ?_, ?_, ?_⟩
  · simp only [PyData.shownAll, List.map_cons, List.sum_cons]
    have := hx.len
    have := h.len
    omega
  · simp only [PyData.depthAll]
    have := hx.dep
    have := h.dep
    omega
  · intro t ht
    simp only [PyData.shownAll, List.mem_cons] at ht
    rcases ht with rfl | ht
    · exact hx.ok
    · exact h.ok t ht
  · simp only [PyData.shownAll, List.length_cons, h.n]
def RDs (m d : Nat) (xs : List D) : Prop := ∃ ps, toPys xs = some ps ∧ RBs m d ps ∧ ps.length = xs.length
theorem rds_nil {d : Nat} : RDs 0 d [] := ⟨[], rfl, rbs_nil, rfl⟩
theorem rds_cons {m m' d : Nat} {x : D} {xs : List D} (hx : RD m d x) (h : RDs m' d xs) : RDs (m + m') d (x :: xs) := by
  obtain ⟨p, h1, h2⟩ := hx
  obtain ⟨ps, k1, k2, k3⟩ := h
  exact ⟨p :: ps, by rw [toPys, h1, k1], rbs_cons h2 k2, by rw [List.length_cons, List.length_cons, k3]⟩
theorem rds_tup {m d : Nat} {xs : List D} (h : RDs m d xs) : RD (m + 2 * xs.length + 3) (d + 1) (.tup xs) := by
  obtain ⟨ps, h1, h2, h3⟩ := h
  have hl := tupleText_len_le (PyData.shownAll ps)
  have := h2.len
  have := h2.n
  have := h2.dep
  refine ⟨.tuple ps, by rw [toPy, h1]; rfl, by simp only [PyData.showable]; exact h2.sh, ?_, by simp only [PyData.depth]; omega, by simp only [PyData.shown]; exact ok_tuple h2.ok⟩
  simp only [PyData.shown]; omega
theorem rds_lst {m d : Nat} {xs : List D} (h : RDs m d xs) : RD (m + 2 * xs.length + 3) (d + 1) (.lst xs) := by
  obtain ⟨ps, h1, h2, h3⟩ := h
  have hl := listText_len_le (PyData.shownAll ps)
  have := h2.len
  have := h2.n
  have := h2.dep
  refine ⟨.list ps, by rw [toPy, h1]; rfl, by simp only [PyData.showable]; exact h2.sh, ?_, by simp only [PyData.depth]; omega, by simp only [PyData.shown]; exact ok_list h2.ok⟩
  simp only [PyData.shown]; omega
/-- what is shown -/
def shD (x : D) : Str := match toPy x with
  | some p => p.shown
  | none => ""
theorem w_repr {m n : Nat} {x : D} {M : Mem} {Q : QD} (hr : RD m n x) (hv : vw M x = x) (hm : m ≤ 16777216) (hn : n ≤ 60) (h : Q (.str (shD x)) M) : reprC [x] M Q := by
  obtain ⟨p, h1, h2⟩ := hr
  unfold reprC
  simp only [hv, h1]
  refine ⟨⟨h2.sh, by rw [sizeLine_eq]; exact Nat.le_trans h2.len hm, Nat.le_trans h2.dep hn⟩, ?_⟩
  unfold shD at h
  rw [h1] at h; exact h
theorem sh_ok {m n : Nat} {x : D} (hr : RD m n x) : PyData.strOk (shD x) = true := by
  obtain ⟨p, h1, h2⟩ := hr
  unfold shD
  rw [h1]; exact h2.ok
/-- the same shown: not unlike -/
theorem w_neSh {m n : Nat} {x : D} {M : Mem} {Q : QD} (hr : RD m n x) (h : Q (.bl false) M) : neD (.str (shD x)) (.str (shD x)) M Q := by
  refine w_neS (sh_ok hr) (sh_ok hr) ?_
  rw [decide_eq_true rfl]; exact h
theorem w_eqSh {m n : Nat} {x : D} {M : Mem} {Q : QD} (hr : RD m n x) (h : Q (.bl true) M) : eqD (.str (shD x)) (.str (shD x)) M Q := by
  refine w_eqS (sh_ok hr) (sh_ok hr) ?_
  rw [decide_eq_true rfl]; exact h
end DL
set_option maxHeartbeats 4000000
namespace G_madeofhere_k04_whole_counts
open PySem PySem.Spec PyProof.Rows L2 DL MH
local macro_rules | `(tactic| fail) => `(tactic| first | with_reducible refine w_seq ?_ | with_reducible refine w_nx ?_ | with_reducible refine w_ret ?_ | with_reducible refine w_retN ?_ | with_reducible refine w_expr ?_ | with_reducible refine w_ifS ?_ | with_reducible refine w_asg ?_ | with_reducible refine w_augS ?_ | with_reducible refine w_for ?_ | with_reducible refine w_bk ?_ | with_reducible refine w_ct ?_ | with_reducible refine w_set0 ?_ | with_reducible refine w_set1 ?_ | with_reducible refine w_set2 ?_ | with_reducible refine w_set3 ?_ | with_reducible refine w_set4 ?_ | with_reducible refine w_set5 ?_ | with_reducible refine w_set6 ?_ | with_reducible refine w_set7 ?_ | with_reducible refine w_set8 ?_ | with_reducible refine w_set9 ?_ | with_reducible refine w_set10 ?_ | with_reducible refine w_set11 ?_ | with_reducible refine w_set12 ?_ | with_reducible refine w_set13 ?_ | with_reducible refine w_set14 ?_ | with_reducible refine w_set15 ?_ | with_reducible refine w_set16 ?_ | with_reducible refine w_set17 ?_ | with_reducible refine w_var0 ?_ | with_reducible refine w_var1 ?_ | with_reducible refine w_var2 ?_ | with_reducible refine w_var3 ?_ | with_reducible refine w_var4 ?_ | with_reducible refine w_var5 ?_ | with_reducible refine w_var6 ?_ | with_reducible refine w_var7 ?_ | with_reducible refine w_var8 ?_ | with_reducible refine w_var9 ?_ | with_reducible refine w_var10 ?_ | with_reducible refine w_var11 ?_ | with_reducible refine w_var12 ?_ | with_reducible refine w_var13 ?_ | with_reducible refine w_var14 ?_ | with_reducible refine w_var15 ?_ | with_reducible refine w_var16 ?_ | with_reducible refine w_var17 ?_ | with_reducible refine w_gnm0 ?_ | with_reducible refine w_gnm1 ?_ | with_reducible refine w_gnm2 ?_ | with_reducible refine w_gnm3 ?_ | with_reducible refine w_gnm4 ?_ | with_reducible refine w_gnm5 ?_ | with_reducible refine w_gnm6 ?_ | with_reducible refine w_gnm7 ?_ | with_reducible refine w_gnm8 ?_ | with_reducible refine w_gnm9 ?_ | with_reducible refine w_gnm10 ?_ | with_reducible refine w_gnm11 ?_ | with_reducible refine w_gnm12 ?_ | with_reducible refine w_gnm13 ?_ | with_reducible refine w_gnm14 ?_ | with_reducible refine w_gnm15 ?_ | with_reducible refine w_gnm16 ?_ | with_reducible refine w_gnm17 ?_ | with_reducible refine w_gTp rfl ?_ | with_reducible refine w_gCo ?_ | with_reducible refine w_gNi ?_ | with_reducible refine w_gSb ?_ | with_reducible refine w_c ?_ | with_reducible refine w_op ?_ | with_reducible refine w_nil ?_ | with_reducible refine w_cons ?_ | with_reducible refine w_tup ?_ | with_reducible refine w_lst ?_ | with_reducible refine w_cb ?_ | with_reducible refine w_call ?_ | with_reducible refine w_ite ?_ | with_reducible refine w_and ?_ | with_reducible refine w_or ?_ | with_reducible refine w_not ?_ | with_reducible refine w_andT ?_ | with_reducible refine w_andF ?_ | with_reducible refine w_orT ?_ | with_reducible refine w_orF ?_ | with_reducible refine w_neg ?_ | with_reducible refine w_un ?_ | with_reducible refine w_tst ?_ | with_reducible refine w_tstB ?_ | with_reducible refine w_tru ?_ | with_reducible refine w_truB ?_ | with_reducible refine w_tAnd ?_ | with_reducible refine w_tOr ?_ | with_reducible refine w_tNot ?_ | with_reducible refine w_chain ?_ | with_reducible refine w_chT ?_ | with_reducible refine w_chF ?_ | with_reducible refine w_ifT ?_ | with_reducible refine w_ifF ?_ | with_reducible refine w_ifnT ?_ | with_reducible refine w_ifnF ?_ | with_reducible refine w_rvs ?_ | with_reducible refine w_yes ?_ | with_reducible refine w_iZip ?_ | with_reducible refine w_sg2 ?_ | with_reducible refine w_zipLL ?_ | with_reducible refine w_zipTT ?_ | with_reducible refine w_augY ?_ | with_reducible refine w_isiII ?_ | with_reducible refine w_isiIB ?_ | with_reducible refine w_isiSS ?_ | with_reducible refine w_isiTT ?_ | with_reducible refine w_isiIT ?_ | with_reducible refine w_isiIS ?_ | with_reducible refine w_isiSI ?_ | with_reducible refine w_isiSB ?_ | with_reducible refine w_isiST ?_ | with_reducible refine w_isiTI ?_ | with_reducible refine w_isiTB ?_ | with_reducible refine w_isiTS ?_ | with_reducible refine w_isiNI ?_ | with_reducible refine w_isiNS ?_ | with_reducible refine w_isiNT ?_ | with_reducible refine w_isiBI ?_ | with_reducible refine w_isiBB ?_ | with_reducible refine w_isiLT ?_ | with_reducible refine w_dRev ?_ | with_reducible refine w_revK ?_ | with_reducible refine w_lstRg ?_ | with_reducible refine w_par ?_ | with_reducible refine w_parK (by dsimp only [List.set] <;> rfl) ?_ | with_reducible refine w_sl ?_ | with_reducible refine w_slT ?_ | with_reducible refine w_slL ?_ | with_reducible refine w_oNo ?_ | with_reducible refine w_oSo ?_ | with_reducible refine w_oSoK ?_ | with_reducible refine w_prN ?_ | with_reducible refine w_prC ?_ | with_reducible refine w_addI ?_ | with_reducible refine w_subI ?_ | with_reducible refine w_lt ?_ | with_reducible refine w_le ?_ | with_reducible refine w_gt ?_ | with_reducible refine w_ge ?_ | with_reducible refine w_isN ?_ | with_reducible refine w_isnN ?_ | with_reducible refine w_eqI ?_ | with_reducible refine w_neI ?_ | with_reducible refine w_ixT0 ?_ | with_reducible refine w_ixT1 ?_ | with_reducible refine w_ixT2 ?_ | with_reducible refine w_ixT3 ?_ | with_reducible refine w_ixT4 ?_ | with_reducible refine w_ixT5 ?_ | with_reducible refine w_lenL ?_ | with_reducible refine w_lenT ?_ | with_reducible refine w_int ?_ | with_reducible refine w_intB ?_ | with_reducible refine w_abs ?_ | with_reducible refine w_listL ?_ | with_reducible refine w_listT ?_ | with_reducible refine w_tupL ?_ | with_reducible refine w_tupT ?_ | with_reducible refine w_int2 ?_ | with_reducible refine w_gcd ?_ | with_reducible refine w_app ?_ | with_reducible refine w_iSeq ?_ | with_reducible refine w_itemT ?_ | with_reducible refine w_itemL ?_ | with_reducible refine w_iRng ?_ | with_reducible refine w_iEnm ?_ | with_reducible refine w_sg1 ?_ | with_reducible refine w_iRev ?_ | with_reducible refine w_rg1 ?_ | with_reducible refine w_rg1K ?_ | with_reducible refine w_notB ?_)
theorem rd_fr {f : Int × Int} (h : FOk f) : RD 139 1 (frD f) := by
  refine (rd_tup (m := 66) (d := 0) (k := 2) (fun x hx => ?_) (by simp)).mono (by decide) (by decide)
  simp only [List.mem_cons, List.not_mem_nil, or_false] at hx
  rcases hx with rfl | rfl
  · exact rd_int h.1
  · exact rd_int h.2.2
def fld (F : Nat → Int) (u : Int) (j : Nat) : D := frD (lt (F j) u)
def cst3 : List D → List D := fun ds => ds
section
variable {t : Th} {fs : List (Int × Int)}
theorem at_sz {j : Nat} (hj : j < t.sz) (hok : t.ok) : (TT t j).sz ≤ t.sz := (at_ok hok hj).2
theorem rd_tupF (P : Pd t fs) {F : Nat → Int} (h : ∀ j, j < t.sz → FOk (lt (F j) (unitF 1 fs))) : RD 6000 2 (tupF t.sz F (unitF 1 fs)) := by
  refine (rd_tup (m := 139) (d := 1) (k := 40) (fun x hx => ?_) (by rw [List.length_map, List.length_range]; exact P.sz)).mono (by decide) (by decide)
  obtain ⟨j, hj, rfl⟩ := List.mem_map.mp hx
  exact rd_fr (h j (List.mem_range.mp hj))
def told (t : Th) (fs : List (Int × Int)) : D := .lst [tupF t.sz (fun j => (TT t j).cst j (aP fs)) (unitF 1 fs), tupF t.sz (fun j => (TT t j).own j (aP fs)) (unitF 1 fs), tupF t.sz (fun j => (TT t j).cnt j (aP fs)) (unitF 1 fs)]
theorem rd_told (P : Pd t fs) : RD 20000 3 (told t fs) := by
  have pr : PrOk fs t.sz (unitF 1 fs) 2100000000 (aP fs) := P.pr
  refine (rd_lst (m := 6000) (d := 2) (k := 3) (fun x hx => ?_) (by simp)).mono (by decide) (by decide)
  simp only [List.mem_cons, List.not_mem_nil, or_false] at hx
  have hz := P.sz
  rcases hx with rfl | rfl | rfl
  · exact rd_tupF P fun j hj => pr.cst (by have := at_sz hj P.ok; omega) j
  · exact rd_tupF P fun j hj => (pr.cnt (by have := at_sz hj P.ok; omega) j).2
  · exact rd_tupF P fun j hj => (pr.cnt (by have := at_sz hj P.ok; omega) j).1
theorem rd_words (P : Pd t fs) {a : Nat → Int} : RD 3000 1 (.tup ((wordsL t a).map bI)) := by
  refine (rd_tup (m := 66) (d := 0) (k := 40) (fun x hx => ?_) ?_).mono (by decide) (by decide)
  · obtain ⟨b, hb, rfl⟩ := List.mem_map.mp hx
    exact rd_int (by cases b <;> decide)
  · rw [List.length_map]
    have := List.length_filterMap_le (fun j => (atR (rows t 0) j).word j a) (List.range t.sz)
    rw [List.length_range] at this
    have := P.sz
    unfold wordsL; omega
theorem rd_pair {b : Bool} {f : Int × Int} (h : FOk f) : RD 300 2 (.lst [.bl b, frD f]) := by
  refine (rd_lst (m := 139) (d := 1) (k := 2) (fun x hx => ?_) (by simp)).mono (by decide) (by decide)
  simp only [List.mem_cons, List.not_mem_nil, or_false] at hx
  rcases hx with rfl | rfl
  · exact rd_bl.mono (by decide) (by decide)
  · exact rd_fr h
theorem fok_por (hg : t.good) (P : Pd t fs) : FOk (lt (t.own 0 (aP fs)) (t.cst 0 (aP fs))) := by
  have pr : PrOk fs t.sz (unitF 1 fs) 2100000000 (aP fs) := P.pr
  have hp := cost_pos hg P
  have h1 := cst_bd pr.ha t 0
  have h2 := (cnt_bd pr.ha t 0).2
  have h3 : (t.sz : Int) * 2100000000 ≤ 40 * 2100000000 := Int.mul_le_mul_of_nonneg_right (by have := P.sz; omega) (by decide)
  exact fok_lt hp (by omega) (by omega)
def pickF (i : Nat) : D → D
  | .tup ds => ds.getD i .non
  | _ => .non
theorem pick_due (t : Th) (u : Int) (a : Nat → Int) : ∀ i : Nat, i < 3 → D.tup (((List.range t.sz).map fun j => recD u a (atR (rows t 0) j) j).map (pickF i)) = ([tupF t.sz (fun j => (TT t j).cst j a) u, tupF t.sz (fun j => (TT t j).own j a) u, tupF t.sz (fun j => (TT t j).cnt j a) u].getD i .non) := by
  intro i hi
  rw [List.map_map]
  match i, hi with
  | 0, _ => rfl
  | 1, _ => rfl
  | 2, _ => rfl
def dueF (t : Th) (u : Int) (a : Nat → Int) : D → D
  | .int i => D.tup (((List.range t.sz).map fun j => recD u a (atR (rows t 0) j) j).map (pickF i.toNat))
  | _ => .non
theorem right_k (hg : t.good) (P : Pd t fs) {M : Mem} {Q : QD} {Xd : XD} (h : Q (.bl true) M) : W_law_right [t.d, .tup (fs.map frD)] M Q Xd := by
  have pr : PrOk fs t.sz (unitF 1 fs) 2100000000 (aP fs) := P.pr
  have hst : t.st ≤ 7 := by have := hg.st; omega
  have hz := P.sz
  have hcp := cost_pos hg P
  refine E_law_right ?_
  repeat fail
  refine reckoned_k pr hg.ok hst ?_
  repeat fail
  refine w_lc ?_
  repeat fail
  refine w_rng1 (by decide) ?_
  intro q hq
  have hwp : ∀ x0 x1 x2 x3 x4 x5 x6 x7 x8 : Option D, wipeD [x0, x1, x2, x3, x4, x5, x6, x7, x8] [5] = [x0, x1, x2, x3, x4, none, x6, x7, x8] := fun _ _ _ _ _ _ _ _ _ => rfl
  have hwp4 : ∀ x0 x1 x2 x3 x4 x5 x6 x7 x8 : Option D, wipeD [x0, x1, x2, x3, x4, x5, x6, x7, x8] [4] = [x0, x1, x2, x3, none, x5, x6, x7, x8] := fun _ _ _ _ _ _ _ _ _ => rfl
  rw [hwp]
  refine lc_map hq (dueF t (unitF 1 fs) (aP fs)) (fun _ => wat_none) (by decide) (fun d hd acc K hK => ?_) ?_
  · have hd : ∃ i : Nat, i < 3 ∧ d = .int (i : Int) := by
      unfold rngL at hd
      obtain ⟨i, hi, rfl⟩ := List.mem_map.mp hd
      rw [List.mem_range] at hi
      exact ⟨i, hi, by rw [Int.zero_add]⟩
    obtain ⟨i, hi, rfl⟩ := hd
    repeat fail
    refine w_lc ?_
    repeat fail
    intro q2 hq2
    rw [hwp4]
    refine lc_map hq2 (pickF i) (fun _ => wat_none) (by rw [List.length_map, List.length_range, sizeLine_eq]; omega) (fun d hd acc2 K2 hK2 => ?_) ?_
    · obtain ⟨j, hj, rfl⟩ := List.mem_map.mp hd
      repeat fail
      unfold recD at hK2 ⊢
      match i, hi with
      | 0, _ => exact w_ixT0 hK2
      | 1, _ => exact w_ixT1 hK2
      | 2, _ => exact w_ixT2 hK2
    · repeat fail
      have e : dueF t (unitF 1 fs) (aP fs) (.int (i : Int)) = D.tup (((List.range t.sz).map fun j => recD (unitF 1 fs) (aP fs) (atR (rows t 0) j) j).map (pickF i)) := by
        show D.tup _ = _
        rw [Int.toNat_natCast]
      rw [e] at hK
      exact hK
  have edue : (rngL 0 (3 : Int).toNat).map (dueF t (unitF 1 fs) (aP fs)) = [tupF t.sz (fun j => (TT t j).cst j (aP fs)) (unitF 1 fs), tupF t.sz (fun j => (TT t j).own j (aP fs)) (unitF 1 fs), tupF t.sz (fun j => (TT t j).cnt j (aP fs)) (unitF 1 fs)] := by
    have e0 := pick_due t (unitF 1 fs) (aP fs) 0 (by decide)
    have e1 := pick_due t (unitF 1 fs) (aP fs) 1 (by decide)
    have e2 := pick_due t (unitF 1 fs) (aP fs) 2 (by decide)
    show [D.tup _, D.tup _, D.tup _] = _
    exact congr (congrArg List.cons e0) (congr (congrArg List.cons e1) (congr (congrArg List.cons e2) rfl))
  rw [edue]
  repeat fail
  refine words_k pr hg.ok hst ?_
  -- the two rounds
  have round : ∀ (is : List D) (o7 o8 : Option D) (nx bk ct : SD → Mem → Prop) (rt : QD) (W : Mem → Prop), W M → (∀ o7 o8, nx [some t.d, some (.tup (fs.map frD)), some (.lst ((List.range t.sz).map fun j => recD (unitF 1 fs) (aP fs) (atR (rows t 0) j) j)), some (told t fs), none, none, some (.tup ((wordsL t (aP fs)).map bD)), o7, o8] M) →
      sForL (gNm 7) (sSeq (sSet 8 (dLst (dCons (dCall Wcosts [] (dCons (dVar 0) (dCons (dVar 1) (dNil)))) (dCons (dCall Wowns [] (dCons (dVar 0) (dCons (dVar 1) (dNil)))) (dCons (dCall Wcounted [] (dCons (dVar 0) (dCons (dVar 1) (dNil)))) (dNil)))))) (sSeq (sIf (tOrD (dTst (dOp neD (dCB reprC (dCons (dVar 8) (dNil))) (dCB reprC (dCons (dVar 3) (dNil))))) (dTst (dOp neD (dCB reprC (dCons (dCall Wwords_at [] (dCons (dVar 0) (dCons (dVar 1) (dNil)))) (dNil))) (dCB reprC (dCons (dVar 6) (dNil)))))) (sRet (dC (.bl false))) (sNx)) (sIf (dTst (dOp neD (dCB reprC (dCons (dLst (dCons (dCall Wis_of_here [] (dCons (dVar 0) (dCons (dVar 1) (dNil)))) (dCons (dCall Wportion [] (dCons (dVar 0) (dCons (dVar 1) (dNil)))) (dNil)))) (dNil))) (dCB reprC (dCons (dLst (dCons (dOp eqD (dOp ixD (dVar 6) (dC (.int 0))) (dC (.int 1))) (dCons (dCall W_law_portion [] (dCons (dVar 0) (dCons (dVar 1) (dNil)))) (dNil)))) (dNil))))) (sRet (dC (.bl false))) (sNx)))) ⟨nx, rt, bk, ct, Xd⟩ W is [some t.d, some (.tup (fs.map frD)), some (.lst ((List.range t.sz).map fun j => recD (unitF 1 fs) (aP fs) (atR (rows t 0) j) j)), some (told t fs), none, none, some (.tup ((wordsL t (aP fs)).map bD)), o7, o8] M := by
    intro is
    induction is with
    | nil => intro o7 o8 nx bk ct rt W hW hn; exact w_forNil hW (hn _ _)
    | cons i is ih =>
      intro o7 o8 nx bk ct rt W hW hn
      refine w_forCons hW ?_
      repeat fail
      refine costs_k hg P ?_
      repeat fail
      refine owns_k hg P ?_
      repeat fail
      refine counts_k hg P ?_
      repeat fail
      refine w_repr (rd_told P) rfl (by decide) (by decide) ?_
      repeat fail
      refine w_repr (rd_told P) rfl (by decide) (by decide) ?_
      refine w_neSh (rd_told P) ?_
      repeat fail
      refine words_at_k hg P ?_
      repeat fail
      refine w_repr (rd_words P) rfl (by decide) (by decide) ?_
      repeat fail
      refine w_repr (rd_words P) rfl (by decide) (by decide) ?_
      refine w_neSh (rd_words P) ?_
      repeat fail
      obtain ⟨b, r, ew, eb⟩ := words0 hg P (a := aP fs)
      refine here_k hg P eb ?_
      repeat fail
      refine portion_at_k hg P ?_
      repeat fail
      refine w_repr (rd_pair (fok_por hg P)) rfl (by decide) (by decide) ?_
      repeat fail
      rw [ew, List.map_cons]
      repeat fail
      unfold bD
      repeat fail
      have eb2 : decide ((if b = true then (1 : Int) else 0) = 1) = b := by cases b <;> rfl
      rw [eb2]
      repeat fail
      refine portion_k pr hg.ok hst hcp ?_
      repeat fail
      refine w_repr (rd_pair (fok_por hg P)) rfl (by decide) (by decide) ?_
      refine w_neSh (rd_pair (fok_por hg P)) ?_
      repeat fail
      have ew2 : bD b :: r.map bD = (wordsL t (aP fs)).map bD := by rw [ew]; rfl
      have := ih (some i) (some (told t fs)) nx bk ct rt W hW hn
      rw [← ew2] at this
      exact this
  repeat fail
  refine w_rng1 (by decide) ?_
  refine round _ _ _ _ _ _ _ _ wat_none fun o7 o8 => ?_
  repeat fail
  exact lo_same h
end
end G_madeofhere_k04_whole_counts
set_option maxHeartbeats 1000000
namespace MH
open PySem PySem.Spec PyProof.Rows L2 DL
theorem rd_land (b : Bool) : RD 8 0 (landD b) := by cases b <;> exact rd_str (by decide +kernel) (by decide +kernel)
theorem rd_up (b : Bool) : RD 8 0 (.str (upS b)) := by cases b <;> exact rd_str (by decide +kernel) (by decide +kernel)
theorem rd_dn (b : Bool) : RD 8 0 (.str (dnS b)) := by cases b <;> exact rd_str (by decide +kernel) (by decide +kernel)
theorem rd_term {sh : Int} {u w : Bool} (h : 0 ≤ sh ∧ sh ≤ 100) : RD 100 1 (termD sh u w) :=
  (rds_tup (rds_cons (rd_int (by omega)) (rds_cons (rd_up u) (rds_cons (rd_dn w) rds_nil)))).mono (by simp) (by decide)
mutual
/-- a thing can be shown -/
theorem rd_th : ∀ t : Th, t.ok → RD (600 * t.sz) (2 * t.st + 1) t.d
  | .raw h lo hi, hk => by
    obtain ⟨h1, h2, h3⟩ := hk
    rw [Th.d]
    exact (rds_tup (rds_cons (rd_str (m := 8) (by decide +kernel) (by decide +kernel)) (rds_cons (rd_land h) (rds_cons (rd_int (by omega)) (rds_cons (rd_int (by omega)) rds_nil))))).mono (by simp [Th.sz]) (by simp [Th.st])
  | .made h lo hi sh u w ps, hk => by
    obtain ⟨⟨h1, h2, h3⟩, h4, h5, h6⟩ := hk
    have hp := rds_tup (rds_ths ps h6)
    rw [Th.d]
    have hl : (Th.ds ps).length ≤ 4 := by rw [ds_map, List.length_map]; exact h5.2
    have hm : ∀ {m : Nat} {x : D}, RD m 0 x → RD m (2 * Th.sts ps + 2) x := fun h => h.mono (Nat.le_refl _) (Nat.zero_le _)
    refine (rds_tup (rds_cons (hm (rd_str (m := 8) (by decide +kernel) (by decide +kernel))) (rds_cons (hm (rd_land h)) (rds_cons (hm (rd_int (by omega))) (rds_cons (hm (rd_int (by omega))) (rds_cons ((rd_term h4).mono (Nat.le_refl _) (by omega)) (rds_cons hp rds_nil))))))).mono ?_ ?_
    · simp only [Th.sz, List.length_cons, List.length_nil]; omega
    · simp only [Th.st]; omega
theorem rds_ths : ∀ ts : List Th, Th.oks ts → RDs (600 * Th.szs ts) (2 * Th.sts ts + 1) (Th.ds ts)
  | [], _ => by
    obtain ⟨ps, h1, h2, h3⟩ := (rds_nil (d := 1))
    exact ⟨ps, h1, h2, h3⟩
  | t :: ts, hk => by
    have h1 := rd_th t hk.1
    have h2 := rds_ths ts hk.2
    obtain ⟨ps, k1, k2, k3⟩ := h2
    have h2' : RDs (600 * Th.szs ts) (2 * (t.st + Th.sts ts) + 1) (Th.ds ts) := ⟨ps, k1, ⟨k2.sh, k2.len, Nat.le_trans k2.dep (by omega), k2.ok, k2.n⟩, k3⟩
    have h3 := rds_cons (h1.mono (Nat.le_refl _) (show 2 * t.st + 1 ≤ 2 * (t.st + Th.sts ts) + 1 by omega)) h2'
    simp only [Th.szs, Th.sts, Th.ds]
    rw [Nat.mul_add]
    exact h3
end
end MH
set_option maxHeartbeats 4000000
namespace G_madeofhere_k04_whole_counts
open PySem PySem.Spec PyProof.Rows L2 DL MH
local macro_rules | `(tactic| fail) => `(tactic| first | with_reducible refine w_seq ?_ | with_reducible refine w_nx ?_ | with_reducible refine w_ret ?_ | with_reducible refine w_retN ?_ | with_reducible refine w_expr ?_ | with_reducible refine w_ifS ?_ | with_reducible refine w_asg ?_ | with_reducible refine w_augS ?_ | with_reducible refine w_for ?_ | with_reducible refine w_bk ?_ | with_reducible refine w_ct ?_ | with_reducible refine w_set0 ?_ | with_reducible refine w_set1 ?_ | with_reducible refine w_set2 ?_ | with_reducible refine w_set3 ?_ | with_reducible refine w_set4 ?_ | with_reducible refine w_set5 ?_ | with_reducible refine w_set6 ?_ | with_reducible refine w_set7 ?_ | with_reducible refine w_set8 ?_ | with_reducible refine w_set9 ?_ | with_reducible refine w_set10 ?_ | with_reducible refine w_set11 ?_ | with_reducible refine w_set12 ?_ | with_reducible refine w_set13 ?_ | with_reducible refine w_set14 ?_ | with_reducible refine w_set15 ?_ | with_reducible refine w_set16 ?_ | with_reducible refine w_set17 ?_ | with_reducible refine w_var0 ?_ | with_reducible refine w_var1 ?_ | with_reducible refine w_var2 ?_ | with_reducible refine w_var3 ?_ | with_reducible refine w_var4 ?_ | with_reducible refine w_var5 ?_ | with_reducible refine w_var6 ?_ | with_reducible refine w_var7 ?_ | with_reducible refine w_var8 ?_ | with_reducible refine w_var9 ?_ | with_reducible refine w_var10 ?_ | with_reducible refine w_var11 ?_ | with_reducible refine w_var12 ?_ | with_reducible refine w_var13 ?_ | with_reducible refine w_var14 ?_ | with_reducible refine w_var15 ?_ | with_reducible refine w_var16 ?_ | with_reducible refine w_var17 ?_ | with_reducible refine w_gnm0 ?_ | with_reducible refine w_gnm1 ?_ | with_reducible refine w_gnm2 ?_ | with_reducible refine w_gnm3 ?_ | with_reducible refine w_gnm4 ?_ | with_reducible refine w_gnm5 ?_ | with_reducible refine w_gnm6 ?_ | with_reducible refine w_gnm7 ?_ | with_reducible refine w_gnm8 ?_ | with_reducible refine w_gnm9 ?_ | with_reducible refine w_gnm10 ?_ | with_reducible refine w_gnm11 ?_ | with_reducible refine w_gnm12 ?_ | with_reducible refine w_gnm13 ?_ | with_reducible refine w_gnm14 ?_ | with_reducible refine w_gnm15 ?_ | with_reducible refine w_gnm16 ?_ | with_reducible refine w_gnm17 ?_ | with_reducible refine w_gTp rfl ?_ | with_reducible refine w_gCo ?_ | with_reducible refine w_gNi ?_ | with_reducible refine w_gSb ?_ | with_reducible refine w_c ?_ | with_reducible refine w_op ?_ | with_reducible refine w_nil ?_ | with_reducible refine w_cons ?_ | with_reducible refine w_tup ?_ | with_reducible refine w_lst ?_ | with_reducible refine w_cb ?_ | with_reducible refine w_call ?_ | with_reducible refine w_ite ?_ | with_reducible refine w_and ?_ | with_reducible refine w_or ?_ | with_reducible refine w_not ?_ | with_reducible refine w_andT ?_ | with_reducible refine w_andF ?_ | with_reducible refine w_orT ?_ | with_reducible refine w_orF ?_ | with_reducible refine w_neg ?_ | with_reducible refine w_un ?_ | with_reducible refine w_tst ?_ | with_reducible refine w_tstB ?_ | with_reducible refine w_tru ?_ | with_reducible refine w_truB ?_ | with_reducible refine w_tAnd ?_ | with_reducible refine w_tOr ?_ | with_reducible refine w_tNot ?_ | with_reducible refine w_chain ?_ | with_reducible refine w_chT ?_ | with_reducible refine w_chF ?_ | with_reducible refine w_ifT ?_ | with_reducible refine w_ifF ?_ | with_reducible refine w_ifnT ?_ | with_reducible refine w_ifnF ?_ | with_reducible refine w_rvs ?_ | with_reducible refine w_yes ?_ | with_reducible refine w_iZip ?_ | with_reducible refine w_sg2 ?_ | with_reducible refine w_zipLL ?_ | with_reducible refine w_zipTT ?_ | with_reducible refine w_augY ?_ | with_reducible refine w_isiII ?_ | with_reducible refine w_isiIB ?_ | with_reducible refine w_isiSS ?_ | with_reducible refine w_isiTT ?_ | with_reducible refine w_isiIT ?_ | with_reducible refine w_isiIS ?_ | with_reducible refine w_isiSI ?_ | with_reducible refine w_isiSB ?_ | with_reducible refine w_isiST ?_ | with_reducible refine w_isiTI ?_ | with_reducible refine w_isiTB ?_ | with_reducible refine w_isiTS ?_ | with_reducible refine w_isiNI ?_ | with_reducible refine w_isiNS ?_ | with_reducible refine w_isiNT ?_ | with_reducible refine w_isiBI ?_ | with_reducible refine w_isiBB ?_ | with_reducible refine w_isiLT ?_ | with_reducible refine w_dRev ?_ | with_reducible refine w_revK ?_ | with_reducible refine w_lstRg ?_ | with_reducible refine w_par ?_ | with_reducible refine w_parK (by dsimp only [List.set] <;> rfl) ?_ | with_reducible refine w_sl ?_ | with_reducible refine w_slT ?_ | with_reducible refine w_slL ?_ | with_reducible refine w_oNo ?_ | with_reducible refine w_oSo ?_ | with_reducible refine w_oSoK ?_ | with_reducible refine w_prN ?_ | with_reducible refine w_prC ?_ | with_reducible refine w_addI ?_ | with_reducible refine w_subI ?_ | with_reducible refine w_lt ?_ | with_reducible refine w_le ?_ | with_reducible refine w_gt ?_ | with_reducible refine w_ge ?_ | with_reducible refine w_isN ?_ | with_reducible refine w_isnN ?_ | with_reducible refine w_eqI ?_ | with_reducible refine w_neI ?_ | with_reducible refine w_ixT0 ?_ | with_reducible refine w_ixT1 ?_ | with_reducible refine w_ixT2 ?_ | with_reducible refine w_ixT3 ?_ | with_reducible refine w_ixT4 ?_ | with_reducible refine w_ixT5 ?_ | with_reducible refine w_lenL ?_ | with_reducible refine w_lenT ?_ | with_reducible refine w_int ?_ | with_reducible refine w_intB ?_ | with_reducible refine w_abs ?_ | with_reducible refine w_listL ?_ | with_reducible refine w_listT ?_ | with_reducible refine w_tupL ?_ | with_reducible refine w_tupT ?_ | with_reducible refine w_int2 ?_ | with_reducible refine w_gcd ?_ | with_reducible refine w_app ?_ | with_reducible refine w_iSeq ?_ | with_reducible refine w_itemT ?_ | with_reducible refine w_itemL ?_ | with_reducible refine w_iRng ?_ | with_reducible refine w_iEnm ?_ | with_reducible refine w_sg1 ?_ | with_reducible refine w_iRev ?_ | with_reducible refine w_rg1 ?_ | with_reducible refine w_rg1K ?_ | with_reducible refine w_notB ?_)
theorem w_itemF {ds : List D} {M : Mem} {I : List D → Option Addr → Mem → Prop} (h : I ds none M) : itemK I (.fzn ds) M := h
theorem w_lenF {ds : List D} {M : Mem} {Q : QD} (h : Q (.int ds.length) M) : lenC [.fzn ds] M Q := h
theorem w_listF {ds : List D} {M : Mem} {Q : QD} (h : Q (.lst ds) M) : listC [.fzn ds] M Q := h
theorem toPys_ints : ∀ ns : List Int, toPys (ns.map D.int) = some (ns.map PyData.int)
  | [] => rfl
  | n :: ns => by rw [List.map_cons, toPys, toPys_ints ns]; rfl
theorem lay_ints : ∀ ns : List Int, PyData.canLayAll0 (ns.map PyData.int) = true ∧ PyData.depthAll (ns.map PyData.int) = 0
  | [] => ⟨rfl, rfl⟩
  | n :: ns => by
    obtain ⟨h1, h2⟩ := lay_ints ns
    refine ⟨by rw [List.map_cons]; simp only [PyData.canLayAll0, PyData.canLay0, h1, Bool.and_self], by rw [List.map_cons]; simp only [PyData.depthAll, PyData.depth, h2]; rfl⟩
theorem eq_nil (ns : List Int) : eqO (.lst (ns.map D.int)) (.lst []) = some (decide (ns = [])) := by
  have e : toPy (.lst (ns.map D.int)) = some (.list (ns.map PyData.int)) := by rw [toPy, toPys_ints]; rfl
  have e0 : toPy (.lst []) = some (.list []) := rfl
  obtain ⟨h1, h2⟩ := lay_ints ns
  have s1 : SeqAt.shaped (.list (ns.map PyData.int)) = true := by
    unfold SeqAt.shaped
    simp only [PyData.canLay0, h1, PyData.depth, h2]; rfl
  have s2 : SeqAt.shaped (.list []) = true := rfl
  unfold eqO
  simp only [e, e0, s1, s2, and_self, if_true]
  cases ns with
  | nil => rfl
  | cons n ns => rfl
def greatD : D → Option D
  | .int i => if (10 : Int) ^ 18 ≤ i then some (.int i) else none
  | _ => none
theorem begun_k {ns : List Int} (hl : ns.length ≤ 1000) {M : Mem} {Q : QD} {Xd : XD}
    (h : ∀ (p : Addr) (M' : Mem) (cells : List Int), cells ≠ [] → Dr p cells 0 M' → Sm p M M' → Q (.ref p) M') : W_law_begun [.fzn (ns.map D.int)] M Q Xd := by
  refine E_law_begun ?_
  repeat fail
  refine w_lc ?_
  repeat fail
  refine w_itemF ?_
  intro q hq
  have hwp : ∀ x0 x1 x2 : Option D, wipeD [x0, x1, x2] [2] = [x0, x1, none] := fun _ _ _ => rfl
  rw [hwp]
  refine lc_filt hq greatD (fun _ => wat_none) _ [] (by simp [sizeLine_eq]; omega) (fun d hd acc K1 K0 h1 h0 => ?_) ?_
  · obtain ⟨i, hi, rfl⟩ := List.mem_map.mp hd
    repeat fail
    refine w_powI ⟨by decide, by decide, by decide⟩ ?_
    repeat fail
    have e18 : (10 : Int) ^ (18 : Int).toNat = 10 ^ 18 := rfl
    rw [e18]
    refine w_ifd (fun z => ?_) fun z => ?_
    · repeat fail
      exact h1 _ (if_pos z)
    · exact h0 (if_neg z)
  have eg : ∃ gs : List Int, ([] : List D) ++ (ns.map D.int).filterMap greatD = gs.map D.int := by
    rw [List.nil_append]
    clear hl h hq
    induction ns with
    | nil => exact ⟨[], rfl⟩
    | cons n ns ih =>
      obtain ⟨gs, hg⟩ := ih
      rw [List.map_cons, List.filterMap_cons]
      by_cases z : (10 : Int) ^ 18 ≤ n
      · have : greatD (.int n) = some (.int n) := if_pos z
        rw [this]
        exact ⟨n :: gs, by simp only [hg, List.map_cons]⟩
      · have : greatD (.int n) = none := if_neg z
        rw [this]
        exact ⟨gs, hg⟩
  obtain ⟨gs, hgs⟩ := eg
  rw [hgs]
  repeat fail
  refine w_dct ?_
  intro p hp
  repeat fail
  refine w_listF ?_
  repeat fail
  refine w_lenF ?_
  repeat fail
  refine w_addL (by simp [sizeLine_eq]; omega) ?_
  repeat fail
  have fin : ∀ left : Int, (M.put p (.dct [] [])) p = some (.dct [] []) ∧ Lo Q (.ref p) ((M.put p (.dct [] [])).put p (.dct mK [.lst (ns.map D.int ++ [.int ((ns.map D.int).length : Int)]), .int left, .int 0])) := fun left => by
    refine ⟨Mem.put_same, lo_same (h p _ (ns ++ [(ns.length : Int)]) (by simp) ⟨left, 0, ?_, by decide, by decide⟩ fun x hx => ?_)⟩
    · rw [Mem.put_same]
      have e : ns.map D.int ++ [.int ((ns.map D.int).length : Int)] = (ns ++ [(ns.length : Int)]).map D.int := by simp
      rw [e]; rfl
    · rw [Mem.put_ne hx, Mem.put_ne hx]
  refine w_neO (eq_nil gs) ?_
  repeat fail
  refine w_ifnd (fun z => ?_) fun z => ?_
  · cases gs with
    | nil => exact absurd rfl z
    | cons g gs =>
      repeat fail
      refine w_ixL (by have y := atI_nat (xs := (g :: gs).map D.int) (j := 0) (v := .int g) rfl; exact y) ?_
      repeat fail
      exact fin g
  · repeat fail
    exact fin 0
theorem rd_both {t : Th} {fs : List (Int × Int)} (hg : t.good) (P : Pd t fs) : RD 20000 20 (.lst [t.d, .tup (fs.map frD)]) := by
  have h1 := rd_th t hg.ok
  have h2 : RD 6000 2 (.tup (fs.map frD)) := by
    refine (rd_tup (m := 139) (d := 1) (k := 40) (fun x hx => ?_) (by rw [List.length_map, P.fps.len, fl_len]; exact P.sz)).mono (by decide) (by decide)
    obtain ⟨f, hf, rfl⟩ := List.mem_map.mp hx
    obtain ⟨a1, a2, a3, a4⟩ := P.mem f hf
    have := dvd_le a2 a1
    exact rd_fr ⟨by omega, a1, by omega⟩
  have z1 := hg.sz
  have z2 := hg.st
  refine (rd_lst (m := 6000) (d := 9) (k := 2) (fun x hx => ?_) (by simp)).mono (by decide) (by decide)
  simp only [List.mem_cons, List.not_mem_nil, or_false] at hx
  rcases hx with rfl | rfl
  · exact h1.mono (by omega) (by omega)
  · exact h2.mono (by decide) (by decide)
theorem pd_of {t : Th} {fs : List (Int × Int)} (hg : t.good) (h : RowR (rows t 0) fs) : Pd t fs := by
  refine ⟨hg.ok, by have := hg.sz; omega, ?_⟩
  rw [fl_rows t 0]
  exact fps_of (fun r hr => (rows_ok t 0 hg.ok r hr).1) h
section
variable {cells : List Int} {a : Addr} (hc : cells ≠ []) {M0 : Mem} {nx bk ct : SD → Mem → Prop} {rt : QD} {Xd : XD} {d0 : D} {W : Mem → Prop} (hW : ∀ M, W M)
include hc hW
theorem in_loop {t : Th} (hg : t.good) {o2 : Option D} {B : Int} (hB : B < 2 ^ 40) : ∀ (is : List D) (M : Mem) (o4 o5 o6 x7 x8 x9 x10 : Option D), is.length ≤ 100 → Dr a cells (B - 30 * is.length) M → Sm a M0 M →
    (∀ (M : Mem) (o4 o5 o6 : Option D), Dr a cells B M → Sm a M0 M → nx [some d0, some (.ref a), o2, some t.d, o4, o5, o6, x7, x8, x9, x10] M) →
    sForL (gNm 4) (sSeq (sSet 5 (dCall W_law_prices [] (dCons (dVar 1) (dCons (dVar 3) (dNil))))) (sSeq (sSet 6 (dCB reprC (dCons (dLst (dCons (dVar 3) (dCons (dVar 5) (dNil)))) (dNil)))) (sIf (tOrD (tNotD (dTru (dCall W_law_right [] (dCons (dVar 3) (dCons (dVar 5) (dNil)))))) (dTst (dOp neD (dCB reprC (dCons (dLst (dCons (dVar 3) (dCons (dVar 5) (dNil)))) (dNil))) (dVar 6)))) (sRet (dC (.bl false))) (sNx)))) ⟨nx, rt, bk, ct, Xd⟩ W is [some d0, some (.ref a), o2, some t.d, o4, o5, o6, x7, x8, x9, x10] M
  | [], M, o4, o5, o6, x7, x8, x9, x10, hl, hD, hS, h => w_forNil (hW _) (h M o4 o5 o6 (hD.le (by simp)) hS)
  | j :: is, M, o4, o5, o6, x7, x8, x9, x10, hl, hD, hS, h => by
    rw [List.length_cons] at hl hD
    refine w_forCons (hW _) ?_
    repeat fail
    refine prices_k hc hg.ok (by have := hg.st; omega) hg.sz (by omega) hD fun fs M1 hr hD1 hS1 => ?_
    have P := pd_of hg hr
    repeat fail
    refine w_repr (rd_both hg P) rfl (by decide) (by decide) ?_
    repeat fail
    refine right_k hg P ?_
    repeat fail
    refine w_repr (rd_both hg P) rfl (by decide) (by decide) ?_
    repeat fail
    refine w_neSh (rd_both hg P) ?_
    repeat fail
    exact in_loop hg hB is M1 _ _ _ _ _ _ _ (by omega) (hD1.le (by omega)) (hS.trans hS1) h
theorem out_loop {B : Int} (hB : B < 2 ^ 40) : ∀ (is : List D) (M : Mem) (o2 o3 o4 o5 o6 x7 x8 x9 x10 : Option D), is.length ≤ 100 → Dr a cells (B - 300 * is.length) M → Sm a M0 M →
    (∀ (M : Mem) (o2 o3 o4 o5 o6 : Option D), Dr a cells B M → Sm a M0 M → nx [some d0, some (.ref a), o2, o3, o4, o5, o6, x7, x8, x9, x10] M) →
    sForL (gNm 2) (sSeq (sSet 3 (dCall W_law_good [] (dCons (dVar 1) (dCons (dC (.int 3)) (dCons (dC (.int 4)) (dNil)))))) (sFor (iRngD (dCons (dC (.int 4)) (dNil))) (gNm 4) (sSeq (sSet 5 (dCall W_law_prices [] (dCons (dVar 1) (dCons (dVar 3) (dNil))))) (sSeq (sSet 6 (dCB reprC (dCons (dLst (dCons (dVar 3) (dCons (dVar 5) (dNil)))) (dNil)))) (sIf (tOrD (tNotD (dTru (dCall W_law_right [] (dCons (dVar 3) (dCons (dVar 5) (dNil)))))) (dTst (dOp neD (dCB reprC (dCons (dLst (dCons (dVar 3) (dCons (dVar 5) (dNil)))) (dNil))) (dVar 6)))) (sRet (dC (.bl false))) (sNx)))))) ⟨nx, rt, bk, ct, Xd⟩ W is [some d0, some (.ref a), o2, o3, o4, o5, o6, x7, x8, x9, x10] M
  | [], M, o2, o3, o4, o5, o6, x7, x8, x9, x10, hl, hD, hS, h => w_forNil (hW _) (h M o2 o3 o4 o5 o6 (hD.le (by simp)) hS)
  | j :: is, M, o2, o3, o4, o5, o6, x7, x8, x9, x10, hl, hD, hS, h => by
    rw [List.length_cons] at hl hD
    refine w_forCons (hW _) ?_
    repeat fail
    refine good_k (moving := 3) (making := 4) hc (by omega) (by decide) (by decide) hD fun t M1 hg _ _ hD1 hS1 => ?_
    repeat fail
    refine w_rng1 (by decide) ?_
    refine in_loop hc (M0 := M0) (fun _ => wat_none) hg (B := B - 300 * is.length) (by omega) _ _ _ _ _ _ _ _ _ (by decide) (hD1.le ?_) (hS.trans hS1) fun M2 o4 o5 o6 hD2 hS2 => ?_
    · have : ((rngL 0 (4 : Int).toNat).length : Int) = 4 := rfl
      rw [this]; omega
    exact out_loop hB is M2 _ _ _ _ _ _ _ _ _ (by omega) hD2 hS2 h
end
end G_madeofhere_k04_whole_counts
set_option maxHeartbeats 4000000
namespace G_madeofhere_k04_whole_counts
open PySem PySem.Spec PyProof.Rows L2 DL MH
local macro_rules | `(tactic| fail) => `(tactic| first | with_reducible refine w_seq ?_ | with_reducible refine w_nx ?_ | with_reducible refine w_ret ?_ | with_reducible refine w_retN ?_ | with_reducible refine w_expr ?_ | with_reducible refine w_ifS ?_ | with_reducible refine w_asg ?_ | with_reducible refine w_augS ?_ | with_reducible refine w_for ?_ | with_reducible refine w_bk ?_ | with_reducible refine w_ct ?_ | with_reducible refine w_set0 ?_ | with_reducible refine w_set1 ?_ | with_reducible refine w_set2 ?_ | with_reducible refine w_set3 ?_ | with_reducible refine w_set4 ?_ | with_reducible refine w_set5 ?_ | with_reducible refine w_set6 ?_ | with_reducible refine w_set7 ?_ | with_reducible refine w_set8 ?_ | with_reducible refine w_set9 ?_ | with_reducible refine w_set10 ?_ | with_reducible refine w_set11 ?_ | with_reducible refine w_set12 ?_ | with_reducible refine w_set13 ?_ | with_reducible refine w_set14 ?_ | with_reducible refine w_set15 ?_ | with_reducible refine w_set16 ?_ | with_reducible refine w_set17 ?_ | with_reducible refine w_var0 ?_ | with_reducible refine w_var1 ?_ | with_reducible refine w_var2 ?_ | with_reducible refine w_var3 ?_ | with_reducible refine w_var4 ?_ | with_reducible refine w_var5 ?_ | with_reducible refine w_var6 ?_ | with_reducible refine w_var7 ?_ | with_reducible refine w_var8 ?_ | with_reducible refine w_var9 ?_ | with_reducible refine w_var10 ?_ | with_reducible refine w_var11 ?_ | with_reducible refine w_var12 ?_ | with_reducible refine w_var13 ?_ | with_reducible refine w_var14 ?_ | with_reducible refine w_var15 ?_ | with_reducible refine w_var16 ?_ | with_reducible refine w_var17 ?_ | with_reducible refine w_gnm0 ?_ | with_reducible refine w_gnm1 ?_ | with_reducible refine w_gnm2 ?_ | with_reducible refine w_gnm3 ?_ | with_reducible refine w_gnm4 ?_ | with_reducible refine w_gnm5 ?_ | with_reducible refine w_gnm6 ?_ | with_reducible refine w_gnm7 ?_ | with_reducible refine w_gnm8 ?_ | with_reducible refine w_gnm9 ?_ | with_reducible refine w_gnm10 ?_ | with_reducible refine w_gnm11 ?_ | with_reducible refine w_gnm12 ?_ | with_reducible refine w_gnm13 ?_ | with_reducible refine w_gnm14 ?_ | with_reducible refine w_gnm15 ?_ | with_reducible refine w_gnm16 ?_ | with_reducible refine w_gnm17 ?_ | with_reducible refine w_gTp rfl ?_ | with_reducible refine w_gCo ?_ | with_reducible refine w_gNi ?_ | with_reducible refine w_gSb ?_ | with_reducible refine w_c ?_ | with_reducible refine w_op ?_ | with_reducible refine w_nil ?_ | with_reducible refine w_cons ?_ | with_reducible refine w_tup ?_ | with_reducible refine w_lst ?_ | with_reducible refine w_cb ?_ | with_reducible refine w_call ?_ | with_reducible refine w_ite ?_ | with_reducible refine w_and ?_ | with_reducible refine w_or ?_ | with_reducible refine w_not ?_ | with_reducible refine w_andT ?_ | with_reducible refine w_andF ?_ | with_reducible refine w_orT ?_ | with_reducible refine w_orF ?_ | with_reducible refine w_neg ?_ | with_reducible refine w_un ?_ | with_reducible refine w_tst ?_ | with_reducible refine w_tstB ?_ | with_reducible refine w_tru ?_ | with_reducible refine w_truB ?_ | with_reducible refine w_tAnd ?_ | with_reducible refine w_tOr ?_ | with_reducible refine w_tNot ?_ | with_reducible refine w_chain ?_ | with_reducible refine w_chT ?_ | with_reducible refine w_chF ?_ | with_reducible refine w_ifT ?_ | with_reducible refine w_ifF ?_ | with_reducible refine w_ifnT ?_ | with_reducible refine w_ifnF ?_ | with_reducible refine w_rvs ?_ | with_reducible refine w_yes ?_ | with_reducible refine w_iZip ?_ | with_reducible refine w_sg2 ?_ | with_reducible refine w_zipLL ?_ | with_reducible refine w_zipTT ?_ | with_reducible refine w_augY ?_ | with_reducible refine w_isiII ?_ | with_reducible refine w_isiIB ?_ | with_reducible refine w_isiSS ?_ | with_reducible refine w_isiTT ?_ | with_reducible refine w_isiIT ?_ | with_reducible refine w_isiIS ?_ | with_reducible refine w_isiSI ?_ | with_reducible refine w_isiSB ?_ | with_reducible refine w_isiST ?_ | with_reducible refine w_isiTI ?_ | with_reducible refine w_isiTB ?_ | with_reducible refine w_isiTS ?_ | with_reducible refine w_isiNI ?_ | with_reducible refine w_isiNS ?_ | with_reducible refine w_isiNT ?_ | with_reducible refine w_isiBI ?_ | with_reducible refine w_isiBB ?_ | with_reducible refine w_isiLT ?_ | with_reducible refine w_dRev ?_ | with_reducible refine w_revK ?_ | with_reducible refine w_lstRg ?_ | with_reducible refine w_par ?_ | with_reducible refine w_parK (by dsimp only [List.set] <;> rfl) ?_ | with_reducible refine w_sl ?_ | with_reducible refine w_slT ?_ | with_reducible refine w_slL ?_ | with_reducible refine w_oNo ?_ | with_reducible refine w_oSo ?_ | with_reducible refine w_oSoK ?_ | with_reducible refine w_prN ?_ | with_reducible refine w_prC ?_ | with_reducible refine w_addI ?_ | with_reducible refine w_subI ?_ | with_reducible refine w_lt ?_ | with_reducible refine w_le ?_ | with_reducible refine w_gt ?_ | with_reducible refine w_ge ?_ | with_reducible refine w_isN ?_ | with_reducible refine w_isnN ?_ | with_reducible refine w_eqI ?_ | with_reducible refine w_neI ?_ | with_reducible refine w_ixT0 ?_ | with_reducible refine w_ixT1 ?_ | with_reducible refine w_ixT2 ?_ | with_reducible refine w_ixT3 ?_ | with_reducible refine w_ixT4 ?_ | with_reducible refine w_ixT5 ?_ | with_reducible refine w_lenL ?_ | with_reducible refine w_lenT ?_ | with_reducible refine w_int ?_ | with_reducible refine w_intB ?_ | with_reducible refine w_abs ?_ | with_reducible refine w_listL ?_ | with_reducible refine w_listT ?_ | with_reducible refine w_tupL ?_ | with_reducible refine w_tupT ?_ | with_reducible refine w_int2 ?_ | with_reducible refine w_gcd ?_ | with_reducible refine w_app ?_ | with_reducible refine w_iSeq ?_ | with_reducible refine w_itemT ?_ | with_reducible refine w_itemL ?_ | with_reducible refine w_iRng ?_ | with_reducible refine w_iEnm ?_ | with_reducible refine w_sg1 ?_ | with_reducible refine w_iRev ?_ | with_reducible refine w_rg1 ?_ | with_reducible refine w_rg1K ?_ | with_reducible refine w_notB ?_)
def inner : Th := .made true 2 2 50 true false [.raw false 1 5, .raw true 1 1]
def goodA : Th := .made false 1 1 60 false true [inner, .raw true 0 3]
def goodB : Th := .made true 1 1 50 true true [.raw false 0 9]
def row1 : List (Int × Int) := [(1, 1), (2, 1), (3, 1), (1, 1), (0, 1)]
def row2 : List (Int × Int) := [(1, 1), (2, 1), (7, 2), (1, 1), (1, 2)]
def rowB1 : List (Int × Int) := [(1, 1), (1, 1)]
def rowB2 : List (Int × Int) := [(1, 1), (101, 100)]
theorem okA : goodA.good := ⟨rfl, by simp [goodA, inner, Th.ok, Th.oks, bnd], by decide, by decide, by decide, by decide⟩
theorem okB : goodB.good := ⟨rfl, by simp [goodB, Th.ok, Th.oks, bnd], by decide, by decide, by decide, by decide⟩
theorem fp_c {t : Th} {f : Int × Int} (h : (0 < f.2 ∧ Int.gcd f.1 f.2 = 1 ∧ 2100 % f.2 = 0 ∧ lowOf t * f.2 ≤ f.1 ∧ f.1 ≤ higOf t * f.2) ∧ (0 ≤ lowOf t ∧ lowOf t ≤ higOf t ∧ higOf t ≤ 1000000)) : FP t f :=
  ⟨h.1.1, h.1.2.1, Int.dvd_of_emod_eq_zero h.1.2.2.1, h.1.2.2.2.1, h.1.2.2.2.2, h.2⟩
theorem pA1 : Pd goodA row1 := ⟨okA.ok, by decide, .cons (fp_c (by decide +kernel)) (.cons (fp_c (by decide +kernel)) (.cons (fp_c (by decide +kernel)) (.cons (fp_c (by decide +kernel)) (.cons (fp_c (by decide +kernel)) .nil))))⟩
theorem pA2 : Pd goodA row2 := ⟨okA.ok, by decide, .cons (fp_c (by decide +kernel)) (.cons (fp_c (by decide +kernel)) (.cons (fp_c (by decide +kernel)) (.cons (fp_c (by decide +kernel)) (.cons (fp_c (by decide +kernel)) .nil))))⟩
theorem pB1 : Pd goodB rowB1 := ⟨okB.ok, by decide, .cons (fp_c (by decide +kernel)) (.cons (fp_c (by decide +kernel)) .nil)⟩
theorem pB2 : Pd goodB rowB2 := ⟨okB.ok, by decide, .cons (fp_c (by decide +kernel)) (.cons (fp_c (by decide +kernel)) .nil)⟩
def f1 (i : Int) : D := .tup [.int i, .int 1]
theorem eA1 : eqO (told goodA row1) (.lst [.tup [f1 7, f1 6, f1 3, f1 1, f1 0], .tup [f1 6, f1 3, f1 0, f1 1, f1 0], .tup [f1 6, f1 6, f1 0, f1 1, f1 0]]) = some true := by decide +kernel
theorem eW1 : eqO (.tup ((wordsL goodA (aP row1)).map bI)) (.tup [.int 1, .int 1]) = some true := by decide +kernel
theorem eB1 : eqO (.tup ((wordsL goodB (aP rowB1)).map bI)) (.tup [.int 1]) = some true := by decide +kernel
theorem eB2 : eqO (.tup ((wordsL goodB (aP rowB2)).map bI)) (.tup [.int 0]) = some true := by decide +kernel
theorem eW2 : eqO (.tup ((wordsL goodA (aP row2)).map bI)) (.tup [.int 0, .int 0]) = some true := by decide +kernel
theorem eP2 : eqO (frD (lt (goodA.own 0 (aP row2)) (goodA.cst 0 (aP row2)))) (.tup [.int 1, .int 16]) = some true := by decide +kernel
theorem eH2 : goodA.word 0 (aP row2) = some false := by decide +kernel
theorem eqO_sound {x y : D} (h : eqO x y = some true) : True := True.intro
theorem w_neT {x y : D} {M : Mem} {Q : QD} (hx : vw M x = x) (hy : vw M y = y) (e : eqO x y = some true) (h : Q (.bl false) M) : neD x y M Q := by
  unfold neD; rw [hx, hy, e]; exact h
theorem w_eqT {x y : D} {M : Mem} {Q : QD} (hx : vw M x = x) (hy : vw M y = y) (e : eqO x y = some true) (h : Q (.bl true) M) : eqD x y M Q := by
  unfold eqD; rw [hx, hy, e]; exact h
theorem law_k {ns : List Int} (hl : ns.length ≤ 63) {M : Mem} {Q : QD} {Xd : XD} (h : ∀ M', Q (.bl true) M') : Wlaw [.fzn (ns.map D.int)] M Q Xd := by
  refine Elaw ?_
  repeat fail
  refine begun_k (by omega) fun a M1 cells hc hD hS => ?_
  repeat fail
  refine w_lenF ?_
  repeat fail
  refine w_rng1 (by split <;> omega) ?_
  refine out_loop hc (M0 := M1) (fun _ => wat_none) (B := 300 * 100) (by decide) _ _ _ _ _ _ _ _ _ _ _ ?_ (hD.le ?_) Sm.refl fun M2 o2 o3 o4 o5 o6 hD2 hS2 => ?_
  · unfold rngL
    rw [List.length_map, List.length_range]
    split <;> omega
  · unfold rngL
    rw [List.length_map, List.length_range]
    split <;> omega
  repeat fail
  refine costs_k (t := goodA) (fs := row1) okA pA1 ?_
  repeat fail
  refine owns_k (t := goodA) (fs := row1) okA pA1 ?_
  repeat fail
  refine counts_k (t := goodA) (fs := row1) okA pA1 ?_
  repeat fail
  refine w_addL ?_ ?_
  · show 2 + 1 ≤ sizeLine; decide
  refine w_neT (x := told goodA row1) rfl rfl eA1 ?_
  repeat fail
  refine words_at_k (t := goodA) (fs := row1) okA pA1 ?_
  repeat fail
  refine w_neT rfl rfl eW1 ?_
  repeat fail
  refine words_at_k (t := goodB) (fs := rowB1) okB pB1 ?_
  repeat fail
  refine w_neT rfl rfl eB1 ?_
  repeat fail
  refine words_at_k (t := goodB) (fs := rowB2) okB pB2 ?_
  repeat fail
  refine w_neT rfl rfl eB2 ?_
  repeat fail
  refine words_at_k (t := goodA) (fs := row2) okA pA2 ?_
  repeat fail
  refine w_eqT rfl rfl eW2 ?_
  repeat fail
  refine portion_at_k (t := goodA) (fs := row2) okA pA2 ?_
  repeat fail
  refine w_eqT rfl rfl eP2 ?_
  repeat fail
  refine here_k (t := goodA) (fs := row2) okA pA2 eH2 ?_
  repeat fail
  exact lo_same (h _)
theorem law_d : DL.LawD 63 Wlaw := fun ns hl => law_k hl fun _ => rfl
end G_madeofhere_k04_whole_counts
theorem PySem.Challenge.cw_madeofhere_k04_whole_counts_holds : PySem.Challenge.rw_madeofhere_k04_whole_counts.Holds := by
  exact G_madeofhere_k04_whole_counts.from_data G_madeofhere_k04_whole_counts.law_d
