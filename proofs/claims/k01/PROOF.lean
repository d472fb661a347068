import PyProof.Rows.All
import Wide.All
import OpenK.AllK
import Wide.FinOn
import HandS.ForMost
import HandS.Exc
import HandS.IsInst
import HandS.WordsExc
import HandS.ExcInit
import HandS.ExcValue
import HandS.TupAny
import HandS.TupMul
import HandS.Wide
import HandS.Gcd
import HandS.Flow
import PyProof.StrBlock2
import HandS.Style
import HandS.Comp
import HandS.Iter
import HandS.RevRange
import KE.KMathGC
import PyProof.Rows.ReprR
import HandS.ExcField
import HandS.ExcIs
import KE.KExcInit
import HandS.Zip
import HandS.Star
import HandS.Ends
import HandS.More
import HandS.Words
import HandS.Defaults
import HandS.Head0
import HandS.Head1
import HandS.Head2
import HandS.HeadEnd
import HandS.HeadHook1
import HandS.HeadHook2
import KE.GoesMore
import PyProof.EnumMake
import PyProof.Draws
import HandS.TryOnly
import PyProof.CollectIter
import HandS.List
import HandS.Call
import KE.KTryMore
import PyProof.ReprRoads
import PyProof.ReprReads
import HandS.HotCalls
import HandS.Head3
import PyProof.ReprLen
import PyProof.Rows.ReprOcc
import PySem.Challenge.RW_madeofhere_k01_errors
set_option Elab.async false
set_option linter.all false
set_option maxRecDepth 100000
set_option maxHeartbeats 1000000
namespace DL
open PySem PySem.Spec PyProof.Rows L2

/-! ### data -/
/-- a value as data: what is immutable (or never changed any more) is told whole; what is owned (still changed) is a reference -/
inductive D where
  | non | bl (b : Bool) | int (i : Int) | str (x : Str) | ref (a : Addr) | ty (n : String)
  | tup (ds : List D) | lst (ds : List D) | fzn (ds : List D) | dct (ks : List Key) (ds : List D) | exn (C : Addr) (ns : List Str) (ds : List D)
  deriving Inhabited

/-- what stands at an owned address -/
inductive MO where
  | lst (ds : List D) | dct (ks : List Key) (ds : List D) | ins (C : Addr) (ns : List Str) (ds : List D) | gen (φ : List V → HO) (ds : List D)
abbrev Mem := Addr → Option MO
abbrev Fg := PySem.W.Frag

/-- a list of the written part -/
def KL (K : Fg) (a : Addr) (xs : List V) : Prop := ∃ (o : Obj) (its : Array Value) (n : Nat), K.lookup a = some o ∧ o.cls = .type "list" ∧ o.dict = none ∧ o.data = .seq its n ∧ its.size ≤ sizeLine ∧ Vals xs its.toList
def KT (K : Fg) (a : Addr) (xs : List V) : Prop := ∃ (o : Obj) (its : Array Value) (n : Nat), K.lookup a = some o ∧ o.cls = .type "tuple" ∧ o.data = .seq its n ∧ its.size ≤ sizeLine ∧ Vals xs its.toList
/-- read, and not owned -/
def RL (K : Fg) (H : Hp) (M : Mem) (a : Addr) (xs : List V) : Prop := (L2.Rd H a (.lst xs) ∧ M a = none) ∨ KL K a xs
def RT (K : Fg) (H : Hp) (M : Mem) (a : Addr) (xs : List V) : Prop := (L2.Rd H a (.tup xs) ∧ M a = none) ∨ KT K a xs
theorem RL.sq {K : Fg} {H : Hp} {M : Mem} {a : Addr} {xs : List V} (h : RL K H M a xs) : SqL K H a xs := h.elim (fun h => .inl h.1) .inr
theorem RT.sq {K : Fg} {H : Hp} {M : Mem} {a : Addr} {xs : List V} (h : RT K H M a xs) : SqT K H a xs := h.elim (fun h => .inl h.1) .inr

/-- a caught exception of the class C with its dict at dx -/
def exc (a C dx : Addr) : HO := .ext fun h => ∃ (oe : Obj) (vs : Array Value), h.get? a = some oe ∧ Zc (.ref C) (some dx) oe ∧ oe.data = .fields vs
/-- an exception, held since it was made, or caught -/
def ExAt (H : Hp) (a C dx : Addr) : Prop := H a = some (exo a C (some dx)) ∨ H a = some (exc a C dx)
/-- its fields -/
def EdAt (H : Hp) (dx : Addr) (fs : List (Str × V)) : Prop := H dx = some (exd dx fs) ∨ H dx = some (.xd fs)
mutual
/-- the value v reads as the data d -/
def Rv (K : Fg) (H : Hp) (M : Mem) : D → V → Prop
  | .non, v => v = .non
  | .bl b, v => v = .bl b
  | .int i, v => v = .int i
  | .str x, v => v = .str x
  | .ref a, v => v = .ref a
  | .ty n, v => v = .ty n
  | .tup ds, v => ∃ a xs, v = .ref a ∧ RT K H M a xs ∧ Rs K H M ds xs
  | .lst ds, v => ∃ a xs, v = .ref a ∧ H a = some (.lst xs) ∧ M a = none ∧ Rs K H M ds xs
  | .fzn ds, v => ∃ a xs, v = .ref a ∧ RL K H M a xs ∧ Rs K H M ds xs
  | .dct ks ds, v => ∃ a kvs xs, v = .ref a ∧ H a = some (.dK kvs) ∧ M a = none ∧ kvs = ks.zip xs ∧ ks.length = ds.length ∧ Rs K H M ds xs
  | .exn C ns ds, v => (∃ a dx xs, v = .ref a ∧ ExAt H a C dx ∧ M a = none ∧ EdAt H dx (ns.zip xs) ∧ M dx = none ∧ ns.length = ds.length ∧ Rs K H M ds xs) ∨ (ns = [] ∧ ds = [] ∧ ∃ a, v = .ref a ∧ H a = some (ExO (.ref C) a) ∧ M a = none)
def Rs (K : Fg) (H : Hp) (M : Mem) : List D → List V → Prop
  | [], vs => vs = []
  | d :: ds, vs => ∃ v r, vs = v :: r ∧ Rv K H M d v ∧ Rs K H M ds r
end

/-- what is owned stands so -/
def MObj (K : Fg) (H : Hp) (M : Mem) (a : Addr) : MO → Prop
  | .lst ds => ∃ xs, H a = some (.lst xs) ∧ Rs K H M ds xs
  | .dct ks ds => ∃ xs, H a = some (.dK (ks.zip xs)) ∧ ks.length = ds.length ∧ Rs K H M ds xs
  | .ins C ns ds => ∃ dx xs, H a = some (.ins C dx (ns.zip xs)) ∧ ns.length = ds.length ∧ H dx = some (.own a) ∧ M dx = none ∧ Rs K H M ds xs
  | .gen φ ds => ∃ xs, H a = some (φ xs) ∧ Rs K H M ds xs
def MOk (K : Fg) (H : Hp) (M : Mem) : Prop := ∀ a o, M a = some o → MObj K H M a o

/-- what was tracked and not owned stands as it was, not owned -/
def Gw (H : Hp) (M : Mem) (H' : Hp) (M' : Mem) : Prop := ∀ a o, H a = some o → M a = none → H' a = some o ∧ M' a = none
theorem Gw.refl {H : Hp} {M : Mem} : Gw H M H M := fun _ _ h m => ⟨h, m⟩
theorem Gw.trans {H H1 H2 : Hp} {M M1 M2 : Mem} (a : Gw H M H1 M1) (b : Gw H1 M1 H2 M2) : Gw H M H2 M2 := fun x o h m => b x o (a x o h m).1 (a x o h m).2

section
variable {K : Fg} {H H' : Hp} {M M' : Mem}
theorem Gw.rd {a : Addr} {u : HO} (g : Gw H M H' M') (h : L2.Rd H a u) (m : M a = none) : L2.Rd H' a u ∧ M' a = none := by
  rcases h with h | ⟨o, h⟩
  · exact ⟨.inl (g _ _ h m).1, (g _ _ h m).2⟩
  · exact ⟨.inr ⟨o, (g _ _ h m).1⟩, (g _ _ h m).2⟩
theorem Gw.ex {a C dx : Addr} (g : Gw H M H' M') (h : ExAt H a C dx) (m : M a = none) : ExAt H' a C dx ∧ M' a = none := by
  rcases h with h | h
  · exact ⟨.inl (g _ _ h m).1, (g _ _ h m).2⟩
  · exact ⟨.inr (g _ _ h m).1, (g _ _ h m).2⟩
theorem Gw.ed {dx : Addr} {fs : List (Str × V)} (g : Gw H M H' M') (h : EdAt H dx fs) (m : M dx = none) : EdAt H' dx fs ∧ M' dx = none := by
  rcases h with h | h
  · exact ⟨.inl (g _ _ h m).1, (g _ _ h m).2⟩
  · exact ⟨.inr (g _ _ h m).1, (g _ _ h m).2⟩
theorem Gw.rl {a : Addr} {xs : List V} (g : Gw H M H' M') (h : RL K H M a xs) : RL K H' M' a xs := by
  rcases h with ⟨h, m⟩ | h
  · exact .inl (g.rd h m)
  · exact .inr h
theorem Gw.rt {a : Addr} {xs : List V} (g : Gw H M H' M') (h : RT K H M a xs) : RT K H' M' a xs := by
  rcases h with ⟨h, m⟩ | h
  · exact .inl (g.rd h m)
  · exact .inr h
mutual
theorem Rv.grow (g : Gw H M H' M') : ∀ (d : D) (v : V), Rv K H M d v → Rv K H' M' d v
  | .non, v, h => h
  | .bl b, v, h => h
  | .int i, v, h => h
  | .str x, v, h => h
  | .ref a, v, h => h
  | .ty n, v, h => h
  | .tup ds, v, ⟨a, xs, e, r, q⟩ => ⟨a, xs, e, g.rt r, Rs.grow g ds xs q⟩
  | .lst ds, v, ⟨a, xs, e, r, m, q⟩ => ⟨a, xs, e, (g _ _ r m).1, (g _ _ r m).2, Rs.grow g ds xs q⟩
  | .fzn ds, v, ⟨a, xs, e, r, q⟩ => ⟨a, xs, e, g.rl r, Rs.grow g ds xs q⟩
  | .dct ks ds, v, ⟨a, kvs, xs, e, r, m, z, l, q⟩ => ⟨a, kvs, xs, e, (g _ _ r m).1, (g _ _ r m).2, z, l, Rs.grow g ds xs q⟩
  | .exn C ns ds, v, .inl ⟨a, dx, xs, e, r, m, r2, m2, l, q⟩ => .inl ⟨a, dx, xs, e, (g.ex r m).1, (g.ex r m).2, (g.ed r2 m2).1, (g.ed r2 m2).2, l, Rs.grow g ds xs q⟩
  | .exn C ns ds, v, .inr ⟨e1, e2, a, e, r, m⟩ => .inr ⟨e1, e2, a, e, (g _ _ r m).1, (g _ _ r m).2⟩
theorem Rs.grow (g : Gw H M H' M') : ∀ (ds : List D) (vs : List V), Rs K H M ds vs → Rs K H' M' ds vs
  | [], vs, h => h
  | d :: ds, vs, ⟨v, r, e, h, q⟩ => ⟨v, r, e, Rv.grow g d v h, Rs.grow g ds r q⟩
end
theorem Rs.len : ∀ {ds : List D} {vs : List V}, Rs K H M ds vs → ds.length = vs.length
  | [], vs, h => by
    have e : vs = [] := h
    rw [e]; rfl
  | d :: ds, vs, ⟨v, r, e, h, q⟩ => by
    rw [e, List.length_cons, List.length_cons, Rs.len q]
theorem Rs.get : ∀ {ds : List D} {vs : List V} {i : Nat} {d : D}, Rs K H M ds vs → ds[i]? = some d → ∃ v, vs[i]? = some v ∧ Rv K H M d v
  | [], _, _, _, _, e => by simp at e
  | d :: ds, _, 0, _, ⟨v, r, rfl, h, q⟩, e => by
    simp at e; subst e; exact ⟨v, rfl, h⟩
  | d :: ds, _, i + 1, _, ⟨v, r, rfl, h, q⟩, e => by
    obtain ⟨w, e1, e2⟩ := Rs.get (i := i) q (by simpa using e)
    exact ⟨w, by simpa using e1, e2⟩
theorem Rs.nil : Rs K H M [] [] := rfl
theorem Rs.cons {d : D} {v : V} {ds : List D} {vs : List V} (h : Rv K H M d v) (q : Rs K H M ds vs) : Rs K H M (d :: ds) (v :: vs) := ⟨v, vs, rfl, h, q⟩
theorem Rs.append : ∀ {ds es : List D} {vs ws : List V}, Rs K H M ds vs → Rs K H M es ws → Rs K H M (ds ++ es) (vs ++ ws)
  | [], _, vs, _, h, q => by
    have e : vs = [] := h
    subst e
    exact q
  | d :: ds, _, _, _, ⟨v, r, rfl, h, q⟩, z => Rs.cons h (Rs.append q z)
theorem Rs.drop : ∀ {ds : List D} {vs : List V} (n : Nat), Rs K H M ds vs → Rs K H M (ds.drop n) (vs.drop n)
  | _, _, 0, h => h
  | [], vs, n + 1, h => by
    have e : vs = [] := h
    subst e; rfl
  | d :: ds, _, n + 1, ⟨v, r, rfl, h, q⟩ => Rs.drop n q
theorem Rs.take : ∀ {ds : List D} {vs : List V} (n : Nat), Rs K H M ds vs → Rs K H M (ds.take n) (vs.take n)
  | _, _, 0, h => rfl
  | [], vs, n + 1, h => by
    have e : vs = [] := h
    subst e; rfl
  | d :: ds, _, n + 1, ⟨v, r, rfl, h, q⟩ => Rs.cons h (Rs.take n q)
theorem Rs.reverse : ∀ {ds : List D} {vs : List V}, Rs K H M ds vs → Rs K H M ds.reverse vs.reverse
  | [], vs, h => by
    have e : vs = [] := h
    subst e; rfl
  | d :: ds, _, ⟨v, r, rfl, h, q⟩ => by
    rw [List.reverse_cons, List.reverse_cons]
    exact Rs.append (Rs.reverse q) (Rs.cons h Rs.nil)
theorem Rs.set {d : D} {v : V} (h : Rv K H M d v) : ∀ {ds : List D} {vs : List V} (i : Nat), Rs K H M ds vs → Rs K H M (ds.set i d) (vs.set i v)
  | [], vs, _, q => by
    have e : vs = [] := q
    subst e; rfl
  | _ :: _, _, 0, ⟨_, _, rfl, _, q⟩ => Rs.cons h q
  | _ :: _, _, i + 1, ⟨_, _, rfl, h', q⟩ => Rs.cons h' (Rs.set h i q)
end

/-! ### the states -/
abbrev SD := List (Option D)
structure StOk (K : Fg) (σ : L2.St) (H : Hp) (s : SD) (M : Mem) : Prop where
  len : s.length = σ.length
  sl : ∀ (i : Nat) (d : D), s[i]? = some (some d) → ∃ v, σ[i]? = some (some v) ∧ Rv K H M d v
  mem : MOk K H M
theorem StOk.grow {K : Fg} {σ : L2.St} {H H' : Hp} {s : SD} {M M' : Mem} (S : StOk K σ H s M) (g : Gw H M H' M') (m : MOk K H' M') : StOk K σ H' s M' :=
  ⟨S.len, fun i d e => let ⟨v, e1, e2⟩ := S.sl i d e; ⟨v, e1, Rv.grow g d v e2⟩, m⟩
theorem StOk.set {K : Fg} {σ : L2.St} {H : Hp} {s : SD} {M : Mem} {d : D} {v : V} (S : StOk K σ H s M) (i : Nat) (r : Rv K H M d v) : StOk K (σ.set i (some v)) H (s.set i (some d)) M := by
  refine ⟨by rw [List.length_set, List.length_set]; exact S.len, fun j e h => ?_, S.mem⟩
  by_cases hj : j = i
  · subst hj
    by_cases hl : j < s.length
    · rw [List.getElem?_set_self hl] at h
      cases h
      exact ⟨v, List.getElem?_set_self (by rw [← S.len]; exact hl), r⟩
    · rw [List.getElem?_eq_none (by rw [List.length_set]; omega)] at h
      cases h
  · rw [List.getElem?_set_ne (Ne.symm hj)] at h
    obtain ⟨w, e1, e2⟩ := S.sl j e h
    exact ⟨w, by rw [List.getElem?_set_ne (Ne.symm hj)]; exact e1, e2⟩

/-- what is wanted of an exception: its class, its fields -/
abbrev XD := Addr → List Str → List D → Mem → Prop
abbrev QD := D → Mem → Prop
abbrev TED := XD → SD → Mem → QD → Prop
abbrev TTD := XD → SD → Mem → (Bool → Mem → Prop) → Prop
abbrev TAD := XD → SD → Mem → (List D → Mem → Prop) → Prop
structure EndsD where
  nx : SD → Mem → Prop
  rt : QD
  bk : SD → Mem → Prop
  ct : SD → Mem → Prop
  ex : XD
abbrev TSD := EndsD → SD → Mem → Prop

def upE (K : Fg) (H : Hp) (M : Mem) (Q : QD) : VK := fun v H' => ∃ d M', Gw H M H' M' ∧ MOk K H' M' ∧ Rv K H' M' d v ∧ Q d M'
def upT (K : Fg) (H : Hp) (M : Mem) (Q : Bool → Mem → Prop) : Bool → Hp → Prop := fun b H' => ∃ M', Gw H M H' M' ∧ MOk K H' M' ∧ Q b M'
def upA (K : Fg) (H : Hp) (M : Mem) (Q : List D → Mem → Prop) : List V → Hp → Prop := fun vs H' => ∃ ds M', Gw H M H' M' ∧ MOk K H' M' ∧ Rs K H' M' ds vs ∧ Q ds M'
def upS (K : Fg) (H : Hp) (M : Mem) (Q : SD → Mem → Prop) : L2.St → Hp → Prop := fun σ' H' => ∃ s' M', Gw H M H' M' ∧ StOk K σ' H' s' M' ∧ Q s' M'
def upX (K : Fg) (H : Hp) (M : Mem) (Q : XD) : XK := fun c od H' => ∃ C d ns xs ds M', c = .ref C ∧ od = some d ∧ H' d = some (.xd (ns.zip xs)) ∧ M' d = none ∧ ns.length = ds.length ∧ Rs K H' M' ds xs ∧ Gw H M H' M' ∧ MOk K H' M' ∧ Q C ns ds M'

/-- the wish about exceptions of the data stands over that of the heap -/
def XTo (K : Fg) (H : Hp) (M : Mem) (Xd : XD) (E : XK) : Prop := ∀ c od H', upX K H M Xd c od H' → E c od H'
theorem XTo.grow {K : Fg} {H H' : Hp} {M M' : Mem} {Xd : XD} {E : XK} (x : XTo K H M Xd E) (g : Gw H M H' M') : XTo K H' M' Xd E := fun c od H2 ⟨C, d, ns, xs, ds, M2, a1, a2, a3, a4, a5, a6, a7, a8, a9⟩ =>
  x c od H2 ⟨C, d, ns, xs, ds, M2, a1, a2, a3, a4, a5, a6, g.trans a7, a8, a9⟩

def liftE (K : Fg) (E : XK) (t : TED) : TE := fun σ H Q => ∃ s M Qd Xd, StOk K σ H s M ∧ XTo K H M Xd E ∧ t Xd s M Qd ∧ ∀ v H', upE K H M Qd v H' → Q v H'
def liftT (K : Fg) (E : XK) (t : TTD) : TT := fun σ H Q => ∃ s M Qd Xd, StOk K σ H s M ∧ XTo K H M Xd E ∧ t Xd s M Qd ∧ ∀ v H', upT K H M Qd v H' → Q v H'
def liftA (K : Fg) (E : XK) (t : TAD) : TA := fun σ H Q => ∃ s M Qd Xd, StOk K σ H s M ∧ XTo K H M Xd E ∧ t Xd s M Qd ∧ ∀ v H', upA K H M Qd v H' → Q v H'
def liftS (K : Fg) (E : XK) (t : TSD) : TS := fun Z σ H => ∃ s M Y, StOk K σ H s M ∧ XTo K H M Y.ex E ∧ t Y s M ∧ (∀ σ' H', upS K H M Y.nx σ' H' → Z.nx σ' H') ∧ (∀ v H', upE K H M Y.rt v H' → Z.rt v H') ∧
  (∀ σ' H', upS K H M Y.bk σ' H' → Z.bk σ' H') ∧ (∀ σ' H', upS K H M Y.ct σ' H' → Z.ct σ' H')

structure DE (X : Cx) (E : XK) (e : Expr) (t : TED) : Prop where
  ok : PE X e (liftE X.K E t)
structure DT (X : Cx) (E : XK) (e : Expr) (t : TTD) : Prop where
  ok : PT X e (liftT X.K E t)
structure DA (X : Cx) (E : XK) (es : List Expr) (t : TAD) : Prop where
  ok : PA X es (liftA X.K E t)
structure DS (X : Cx) (E : XK) (st : Stmt) (t : TSD) : Prop where
  ok : PS X st (liftS X.K E t)
structure DSs (X : Cx) (E : XK) (st : List Stmt) (t : TSD) : Prop where
  ok : PSs X st (liftS X.K E t)

section
variable {X : Cx} {e : Expr}
theorem PE.imp {t t' : TE} (h : PE X e t) (i : ∀ σ H Q, t' σ H Q → t σ H Q) : PE X e t' := ⟨fun pins s σ H Q I q => h.run pins s σ H Q I (i σ H Q q)⟩
theorem PT.imp {t t' : TT} (h : PT X e t) (i : ∀ σ H Q, t' σ H Q → t σ H Q) : PT X e t' := ⟨fun pins s σ H Q I q => h.run pins s σ H Q I (i σ H Q q)⟩
theorem PW.imp {t t' : TT} (h : PW X e t) (i : ∀ σ H Q, t' σ H Q → t σ H Q) : PW X e t' := ⟨fun wh pins s σ H Q I q => h.run wh pins s σ H Q I (i σ H Q q)⟩
theorem PA.imp {es : List Expr} {t t' : TA} (h : PA X es t) (i : ∀ σ H Q, t' σ H Q → t σ H Q) : PA X es t' := ⟨fun pos pins s σ H Q I q => h.run pos pins s σ H Q I (i σ H Q q)⟩
theorem PS.imp {st : Stmt} {t t' : TS} (h : PS X st t) (i : ∀ Z σ H, t' Z σ H → t Z σ H) : PS X st t' := ⟨fun pins s σ H Z I q => h.run pins s σ H Z I (i Z σ H q)⟩
theorem PSs.imp {st : List Stmt} {t t' : TS} (h : PSs X st t) (i : ∀ Z σ H, t' Z σ H → t Z σ H) : PSs X st t' := ⟨fun pins s σ H Z I q => h.run pins s σ H Z I (i Z σ H q)⟩
end

/-- use of a lifted reading from a state of data -/
theorem useE {K : Fg} {E : XK} {t : TED} {σ : L2.St} {H : Hp} {s : SD} {M : Mem} {Xd : XD} {Qd : QD} {Q : VK} (S : StOk K σ H s M) (x : XTo K H M Xd E) (h : t Xd s M Qd)
    (q : ∀ d v M' H', Gw H M H' M' → StOk K σ H' s M' → XTo K H' M' Xd E → Rv K H' M' d v → Qd d M' → Q v H') : liftE K E t σ H Q :=
  ⟨s, M, Qd, Xd, S, x, h, fun v H' ⟨d, M', g, m, r, z⟩ => q d v M' H' g (S.grow g m) (x.grow g) r z⟩
theorem useT {K : Fg} {E : XK} {t : TTD} {σ : L2.St} {H : Hp} {s : SD} {M : Mem} {Xd : XD} {Qd : Bool → Mem → Prop} {Q : Bool → Hp → Prop} (S : StOk K σ H s M) (x : XTo K H M Xd E) (h : t Xd s M Qd)
    (q : ∀ b M' H', Gw H M H' M' → StOk K σ H' s M' → XTo K H' M' Xd E → Qd b M' → Q b H') : liftT K E t σ H Q :=
  ⟨s, M, Qd, Xd, S, x, h, fun v H' ⟨M', g, m, z⟩ => q v M' H' g (S.grow g m) (x.grow g) z⟩
theorem useA {K : Fg} {E : XK} {t : TAD} {σ : L2.St} {H : Hp} {s : SD} {M : Mem} {Xd : XD} {Qd : List D → Mem → Prop} {Q : List V → Hp → Prop} (S : StOk K σ H s M) (x : XTo K H M Xd E) (h : t Xd s M Qd)
    (q : ∀ ds vs M' H', Gw H M H' M' → StOk K σ H' s M' → XTo K H' M' Xd E → Rs K H' M' ds vs → Qd ds M' → Q vs H') : liftA K E t σ H Q :=
  ⟨s, M, Qd, Xd, S, x, h, fun vs H' ⟨ds, M', g, m, r, z⟩ => q ds vs M' H' g (S.grow g m) (x.grow g) r z⟩
end DL
set_option maxHeartbeats 1000000
namespace DL
open PySem PySem.Spec PyProof.Rows L2

/-- an owned list or dict as it stands -/
def vwO (a : Addr) : Option MO → D
  | some (.lst ds) => .lst ds
  | some (.dct ks ds) => .dct ks ds
  | some (.ins _ _ _) => .ref a
  | some (.gen _ _) => .ref a
  | none => .ref a
def vw (M : Mem) : D → D
  | .ref a => vwO a (M a)
  | d => d
theorem vw_ref {M : Mem} {a : Addr} : vw M (.ref a) = vwO a (M a) := rfl
section
variable {K : Fg} {H : Hp} {M : Mem} {v : V}
theorem Rv.non (h : Rv K H M .non v) : v = .non := h
theorem vw_lst {d : D} {ds : List D} (mo : MOk K H M) (r : Rv K H M d v) (e : vw M d = .lst ds) : ∃ a xs, v = .ref a ∧ H a = some (.lst xs) ∧ Rs K H M ds xs := by
  cases d with
  | lst es =>
    have e' : es = ds := by simpa [vw] using e
    subst e'
    obtain ⟨a, xs, h1, h2, _, h3⟩ := r
    exact ⟨a, xs, h1, h2, h3⟩
  | ref a =>
    have r' : v = .ref a := r
    rw [vw_ref] at e
    cases q : M a with
    | none => rw [q] at e; cases e
    | some o =>
      rw [q] at e
      cases o with
      | lst es =>
        have e' : es = ds := by simpa [vwO] using e
        subst e'
        obtain ⟨xs, h2, h3⟩ := mo a _ q
        exact ⟨a, xs, r', h2, h3⟩
      | dct ks es => cases e
      | ins C ns es => cases e
      | gen φ es => cases e
  | _ => cases e
theorem vw_tup {d : D} {ds : List D} (r : Rv K H M d v) (e : vw M d = .tup ds) : ∃ a xs, v = .ref a ∧ RT K H M a xs ∧ Rs K H M ds xs := by
  cases d with
  | tup es =>
    have e' : es = ds := by simpa [vw] using e
    subst e'
    exact r
  | ref a =>
    rw [vw_ref] at e
    cases q : M a with
    | none => rw [q] at e; cases e
    | some o => rw [q] at e; cases o <;> cases e
  | _ => cases e
theorem vw_fzn {d : D} {ds : List D} (r : Rv K H M d v) (e : vw M d = .fzn ds) : ∃ a xs, v = .ref a ∧ RL K H M a xs ∧ Rs K H M ds xs := by
  cases d with
  | fzn es =>
    have e' : es = ds := by simpa [vw] using e
    subst e'
    exact r
  | ref a =>
    rw [vw_ref] at e
    cases q : M a with
    | none => rw [q] at e; cases e
    | some o => rw [q] at e; cases o <;> cases e
  | _ => cases e
theorem vw_dct {d : D} {ks : List Key} {ds : List D} (mo : MOk K H M) (r : Rv K H M d v) (e : vw M d = .dct ks ds) : ∃ a xs, v = .ref a ∧ H a = some (.dK (ks.zip xs)) ∧ ks.length = ds.length ∧ Rs K H M ds xs := by
  cases d with
  | dct ls es =>
    have e' : ls = ks ∧ es = ds := by simpa [vw] using e
    obtain ⟨rfl, rfl⟩ := e'
    obtain ⟨a, kvs, xs, h1, h2, _, rfl, h4, h3⟩ := r
    exact ⟨a, xs, h1, h2, h4, h3⟩
  | ref a =>
    have r' : v = .ref a := r
    rw [vw_ref] at e
    cases q : M a with
    | none => rw [q] at e; cases e
    | some o =>
      rw [q] at e
      cases o with
      | lst es => cases e
      | dct ls es =>
        have e' : ls = ks ∧ es = ds := by simpa [vwO] using e
        obtain ⟨rfl, rfl⟩ := e'
        obtain ⟨xs, h2, h4, h3⟩ := mo a _ q
        exact ⟨a, xs, r', h2, h4, h3⟩
      | ins C ns es => cases e
      | gen φ es => cases e
  | _ => cases e
theorem vw_int {d : D} {i : Int} (r : Rv K H M d v) (e : vw M d = .int i) : v = .int i := by
  cases d with
  | int j =>
    have e' : j = i := by simpa [vw] using e
    subst e'
    exact r
  | ref a =>
    rw [vw_ref] at e
    cases q : M a with
    | none => rw [q] at e; cases e
    | some o => rw [q] at e; cases o <;> cases e
  | _ => cases e
theorem vw_str {d : D} {x : Str} (r : Rv K H M d v) (e : vw M d = .str x) : v = .str x := by
  cases d with
  | str j =>
    have e' : j = x := by simpa [vw] using e
    subst e'
    exact r
  | ref a =>
    rw [vw_ref] at e
    cases q : M a with
    | none => rw [q] at e; cases e
    | some o => rw [q] at e; cases o <;> cases e
  | _ => cases e
theorem vw_bl {d : D} {b : Bool} (r : Rv K H M d v) (e : vw M d = .bl b) : v = .bl b := by
  cases d with
  | bl j =>
    have e' : j = b := by simpa [vw] using e
    subst e'
    exact r
  | ref a =>
    rw [vw_ref] at e
    cases q : M a with
    | none => rw [q] at e; cases e
    | some o => rw [q] at e; cases o <;> cases e
  | _ => cases e
theorem vw_non {d : D} (r : Rv K H M d v) (e : vw M d = .non) : v = .non := by
  cases d with
  | non => exact r
  | ref a =>
    rw [vw_ref] at e
    cases q : M a with
    | none => rw [q] at e; cases e
    | some o => rw [q] at e; cases o <;> cases e
  | _ => cases e

/-- what is new and not tracked ahead -/
theorem gw_new {p : Addr} {o : HO} (hp : H p = none) : Gw H M (upd H p o) M := fun a u h m => ⟨by rw [upd_ne (ne_of_none h hp)]; exact h, m⟩
theorem mok_new {p : Addr} {o : HO} (mo : MOk K H M) (hp : H p = none) : MOk K (upd H p o) M := fun a m e => by
  have g : Gw H M (upd H p o) M := gw_new hp
  have q := mo a m e
  cases m with
  | lst ds =>
    obtain ⟨xs, h1, h2⟩ := q
    exact ⟨xs, by rw [upd_ne (ne_of_none h1 hp)]; exact h1, Rs.grow g ds xs h2⟩
  | dct ks ds =>
    obtain ⟨xs, h1, h3, h2⟩ := q
    exact ⟨xs, by rw [upd_ne (ne_of_none h1 hp)]; exact h1, h3, Rs.grow g ds xs h2⟩
  | ins C ns ds =>
    obtain ⟨dx, xs, h1, h3, h4, h5, h2⟩ := q
    exact ⟨dx, xs, by rw [upd_ne (ne_of_none h1 hp)]; exact h1, h3, by rw [upd_ne (ne_of_none h4 hp)]; exact h4, h5, Rs.grow g ds xs h2⟩
  | gen φ ds =>
    obtain ⟨xs, h1, h2⟩ := q
    exact ⟨xs, by rw [upd_ne (ne_of_none h1 hp)]; exact h1, Rs.grow g ds xs h2⟩
theorem m_none {p : Addr} (mo : MOk K H M) (hp : H p = none) : M p = none := by
  cases q : M p with
  | none => rfl
  | some o =>
    have z := mo p o q
    cases o with
    | lst ds => obtain ⟨xs, h1, _⟩ := z; rw [hp] at h1; cases h1
    | dct ks ds => obtain ⟨xs, h1, _⟩ := z; rw [hp] at h1; cases h1
    | ins C ns ds => obtain ⟨dx, xs, h1, _⟩ := z; rw [hp] at h1; cases h1
    | gen φ ds => obtain ⟨xs, h1, _⟩ := z; rw [hp] at h1; cases h1
/-- a new tuple as data -/
theorem new_tup {p : Addr} {ds : List D} {xs : List V} (mo : MOk K H M) (hp : H p = none) (r : Rs K H M ds xs) : Rv K (upd H p (.tup xs)) M (.tup ds) (.ref p) :=
  ⟨p, xs, rfl, .inl ⟨.inl upd_same, m_none mo hp⟩, Rs.grow (gw_new hp) ds xs r⟩
theorem new_lst {p : Addr} {ds : List D} {xs : List V} (mo : MOk K H M) (hp : H p = none) (r : Rs K H M ds xs) : Rv K (upd H p (.lst xs)) M (.lst ds) (.ref p) :=
  ⟨p, xs, rfl, upd_same, m_none mo hp, Rs.grow (gw_new hp) ds xs r⟩
end

/-! ### expressions -/
def dVar (i : Nat) : TED := fun _ s M Q => match s[i]? with
  | some (some d) => Q d M
  | _ => False
def dC (d : D) : TED := fun _ _ M Q => Q d M
section
variable {X : Cx} {E : XK} {e a b c : Expr} {pos : Pos} {ta tb tc : TED}
theorem de_var {i : Nat} (h : PE X e (tVar i)) : DE X E e (dVar i) := ⟨PE.imp h fun σ H Q ⟨s, M, Qd, Xd, S, x, t, q⟩ => by
  unfold dVar at t
  split at t
  · rename_i d hd
    obtain ⟨v, e1, e2⟩ := S.sl i d hd
    exact ⟨v, e1, q v H ⟨d, M, Gw.refl, S.mem, e2, t⟩⟩
  · exact t.elim⟩
/-- a reading that gives a constant -/
theorem de_const {v : V} {d : D} (h : PE X e (tC v)) (r : ∀ H M, Rv X.K H M d v) : DE X E e (dC d) := ⟨PE.imp h fun σ H Q ⟨s, M, Qd, Xd, S, x, t, q⟩ => q v H ⟨d, M, Gw.refl, S.mem, r H M, t⟩⟩
theorem de_int {i j} : DE X E (.Constant (.int i) j pos) (dC (.int i)) := de_const pe_int fun _ _ => rfl
theorem de_bl {i j} : DE X E (.Constant (.bool i) j pos) (dC (.bl i)) := de_const pe_bl fun _ _ => rfl
theorem de_non {j} : DE X E (.Constant .none j pos) (dC .non) := de_const pe_non fun _ _ => rfl
theorem de_str {i j} : DE X E (.Constant (.str i) j pos) (dC (.str i)) := de_const pe_str fun _ _ => rfl

/-! ### operators by values -/
abbrev O2 := D → D → Mem → QD → Prop
def DOp (X : Cx) (f : Value → Value → Sem Value) (o : O2) : Prop :=
  ∀ (pins : List (Addr × Obj)) (s : Shared) (σ : L2.St) (H : Hp) (M : Mem) (x y : V) (dx dy : D) (v u : Value) (Q : VK) (Qd : QD), Inv X pins σ H s → MOk X.K H M → Rv X.K H M dx x → Rv X.K H M dy y → RelV x v → RelV y u → o dx dy M Qd →
    (∀ v H', upE X.K H M Qd v H' → Q v H') → wpAny (model X.prog X.w) X.A (f v u) (EP X pins σ Q) X.xe s
def dOp (o : O2) (ta tb : TED) : TED := fun Xd s M Q => ta Xd s M fun x M1 => tb Xd s M1 fun y M2 => o x y M2 Q
theorem DOp.toR {f : Value → Value → Sem Value} {o : O2} (h : DOp X f o) : OpR X f (fun x y H Q => ∃ M dx dy Qd, MOk X.K H M ∧ Rv X.K H M dx x ∧ Rv X.K H M dy y ∧ o dx dy M Qd ∧ ∀ v H', upE X.K H M Qd v H' → Q v H') :=
  fun pins s σ H x y v u Q I rx ry ⟨M, dx, dy, Qd, mo, r1, r2, t, q⟩ => h pins s σ H M x y dx dy v u Q Qd I mo r1 r2 rx ry t q
/-- two readings in a row -/
theorem lift2 {o : O2} {r : R2} (hr : ∀ {x y : V} {H : Hp} {Q : VK} {M : Mem} {dx dy : D} {Qd : QD}, MOk X.K H M → Rv X.K H M dx x → Rv X.K H M dy y → o dx dy M Qd → (∀ v H', upE X.K H M Qd v H' → Q v H') → r x y H Q)
    {σ : L2.St} {H : Hp} {Q : VK} (h : liftE X.K E (dOp o ta tb) σ H Q) : tOp r (liftE X.K E ta) (liftE X.K E tb) σ H Q := by
  obtain ⟨s, M, Qd, Xd, S, x, t, q⟩ := h
  refine useE S x t fun dx v M1 H1 g1 S1 x1 r1 t1 => ?_
  refine useE S1 x1 t1 fun dy u M2 H2 g2 S2 x2 r2 t2 => ?_
  exact hr S2.mem (Rv.grow g2 _ _ r1) r2 t2 fun w H' ⟨d, M', g, m, r, z⟩ => q w H' ⟨d, M', (g1.trans g2).trans g, m, r, z⟩
theorem de_op {op : Operator} {o : O2} (h : DOp X (binaryOp op) o) (ha : DE X E a ta) (hb : DE X E b tb) : DE X E (.BinOp a op b pos) (dOp o ta tb) :=
  ⟨PE.imp (pe_op h.toR ha.ok hb.ok) fun σ H Q z => lift2 (fun mo r1 r2 t q => ⟨_, _, _, _, mo, r1, r2, t, q⟩) z⟩
theorem de_cmp {op : CmpOp} {o : O2} (h : DOp X (compareOp op) o) (ha : DE X E a ta) (hb : DE X E b tb) (hm : behindInMarks op b = false) : DE X E (.Compare a [op] [b] pos) (dOp o ta tb) :=
  ⟨PE.imp (pe_cmpR h.toR ha.ok hb.ok hm) fun σ H Q z => lift2 (fun mo r1 r2 t q => ⟨_, _, _, _, mo, r1, r2, t, q⟩) z⟩
/-- a value as a test -/
def tstB (Q : Bool → Mem → Prop) : QD := fun d M => match d with
  | .bl b => Q b M
  | _ => False
def dTst (t : TED) : TTD := fun Xd s M Q => t Xd s M (tstB Q)
theorem liftB {t : TED} {σ : L2.St} {H : Hp} {Q : Bool → Hp → Prop} (h : liftT X.K E (dTst t) σ H Q) : tTest (liftE X.K E t) σ H Q := by
  obtain ⟨s, M, Qd, Xd, S, x, z, q⟩ := h
  refine useE S x z fun d v M1 H1 g1 S1 x1 r1 t1 => ?_
  unfold tstB at t1
  split at t1
  · rename_i b
    exact ⟨b, r1, q b H1 ⟨M1, g1, S1.mem, t1⟩⟩
  · exact t1.elim
theorem dt_cmp {op : CmpOp} {o : O2} (h : DOp X (compareOp op) o) (ha : DE X E a ta) (hb : DE X E b tb) (hm : behindInMarks op b = false) : DT X E (.Compare a [op] [b] pos) (dTst (dOp o ta tb)) :=
  ⟨PT.imp (pt_cmpR h.toR ha.ok hb.ok hm) fun σ H Q z => by
    refine (?_ : tTest (tOp _ _ _) σ H Q)
    obtain ⟨k1, k2⟩ := (⟨liftB z, trivial⟩ : tTest (liftE X.K E (dOp o ta tb)) σ H Q ∧ True)
    exact lift2 (fun mo r1 r2 t q => ⟨_, _, _, _, mo, r1, r2, t, q⟩) k1⟩
end
end DL
set_option maxHeartbeats 1000000
namespace DL
open PySem PySem.Spec PyProof.Rows L2

/-! ### data as the library tells it -/
def keyPy : Key → PyData
  | .inl i => .int i
  | .inr x => .str x
mutual
def toPy : D → Option PyData
  | .non => some .none
  | .bl b => some (.bool b)
  | .int i => some (.int i)
  | .str x => some (.str x)
  | .tup ds => (toPys ds).map PyData.tuple
  | .lst ds => (toPys ds).map PyData.list
  | .fzn ds => (toPys ds).map PyData.list
  | _ => none
def toPys : List D → Option (List PyData)
  | [] => some []
  | d :: ds => match toPy d, toPys ds with
    | some p, some ps => some (p :: ps)
    | _, _ => none
end
section
variable {K : Fg} {H : Hp} {M : Mem}
mutual
theorem Rv.dp : ∀ (d : D) (v : V) (p : PyData), Rv K H M d v → toPy d = some p → Dp K H v p
  | .non, v, p, h, e => by
    have h' : v = .non := h
    have e' : some PyData.none = some p := e
    cases e'; subst h'; exact .non
  | .bl b, v, p, h, e => by
    have h' : v = .bl b := h
    have e' : some (PyData.bool b) = some p := e
    cases e'; subst h'; exact .bl b
  | .int b, v, p, h, e => by
    have h' : v = .int b := h
    have e' : some (PyData.int b) = some p := e
    cases e'; subst h'; exact .int b
  | .str b, v, p, h, e => by
    have h' : v = .str b := h
    have e' : some (PyData.str b) = some p := e
    cases e'; subst h'; exact .str b
  | .tup ds, v, p, ⟨a, xs, hv, r, q⟩, e => by
    have e' : (toPys ds).map PyData.tuple = some p := e
    cases z : toPys ds with
    | none => rw [z] at e'; cases e'
    | some ps =>
      rw [z] at e'; cases e'; subst hv
      exact .tup r.sq (Rs.dp ds xs ps q z)
  | .lst ds, v, p, ⟨a, xs, hv, r, m, q⟩, e => by
    have e' : (toPys ds).map PyData.list = some p := e
    cases z : toPys ds with
    | none => rw [z] at e'; cases e'
    | some ps =>
      rw [z] at e'; cases e'; subst hv
      exact .lst (SqL.of r) (Rs.dp ds xs ps q z)
  | .fzn ds, v, p, ⟨a, xs, hv, r, q⟩, e => by
    have e' : (toPys ds).map PyData.list = some p := e
    cases z : toPys ds with
    | none => rw [z] at e'; cases e'
    | some ps =>
      rw [z] at e'; cases e'; subst hv
      exact .lst r.sq (Rs.dp ds xs ps q z)
  | .ref _, _, _, _, e => by cases (show (none : Option PyData) = some _ from e)
  | .ty _, _, _, _, e => by cases (show (none : Option PyData) = some _ from e)
  | .dct _ _, _, _, _, e => by cases (show (none : Option PyData) = some _ from e)
  | .exn _ _ _, _, _, _, e => by cases (show (none : Option PyData) = some _ from e)
theorem Rs.dp : ∀ (ds : List D) (vs : List V) (ps : List PyData), Rs K H M ds vs → toPys ds = some ps → DpAll K H vs ps
  | [], vs, ps, h, e => by
    have h' : vs = [] := h
    have e' : some [] = some ps := e
    cases e'; subst h'; exact .nil
  | d :: ds, _, ps, ⟨v, r, rfl, h, q⟩, e => by
    unfold toPys at e
    split at e
    · rename_i p qs h1 h2
      cases e
      exact .cons (Rv.dp d v p h h1) (Rs.dp ds r qs q h2)
    · cases e
end
/-- owned on top, seen as it stands -/
theorem vw_dp {d : D} {v : V} {p : PyData} (mo : MOk K H M) (r : Rv K H M d v) (e : toPy (vw M d) = some p) : Dp K H v p := by
  cases q : vw M d with
  | lst ds =>
    rw [q] at e
    obtain ⟨a, xs, rfl, h1, h2⟩ := vw_lst mo r q
    have e' : (toPys ds).map PyData.list = some p := e
    cases z : toPys ds with
    | none => rw [z] at e'; cases e'
    | some ps => rw [z] at e'; cases e'; exact .lst (SqL.of h1) (Rs.dp ds xs ps h2 z)
  | tup ds =>
    rw [q] at e
    obtain ⟨a, xs, rfl, h1, h2⟩ := vw_tup r q
    exact Rv.dp (M := M) (.tup ds) _ _ ⟨a, xs, rfl, h1, h2⟩ e
  | fzn ds =>
    rw [q] at e
    obtain ⟨a, xs, rfl, h1, h2⟩ := vw_fzn r q
    exact Rv.dp (M := M) (.fzn ds) _ _ ⟨a, xs, rfl, h1, h2⟩ e
  | int i => rw [q] at e; rw [vw_int r q]; exact Rv.dp (M := M) (.int i) _ _ rfl e
  | bl i => rw [q] at e; rw [vw_bl r q]; exact Rv.dp (M := M) (.bl i) _ _ rfl e
  | str i => rw [q] at e; rw [vw_str r q]; exact Rv.dp (M := M) (.str i) _ _ rfl e
  | non => rw [q] at e; rw [vw_non r q]; exact Rv.dp (M := M) .non _ _ rfl e
  | _ => rw [q] at e; cases e
end
/-- equality of data, where it is shaped -/
def eqO (x y : D) : Option Bool := match toPy x, toPy y with
  | some p, some q => if SeqAt.shaped p = true ∧ SeqAt.shaped q = true then some (PyData.eqv p q) else none
  | _, _ => none
theorem eqO_of {x y : D} {b : Bool} (h : eqO x y = some b) : ∃ p q, toPy x = some p ∧ toPy y = some q ∧ SeqAt.shaped p = true ∧ SeqAt.shaped q = true ∧ b = PyData.eqv p q := by
  unfold eqO at h
  split at h
  · rename_i p q h1 h2
    split at h
    · rename_i z
      exact ⟨p, q, h1, h2, z.1, z.2, (Option.some.inj h).symm⟩
    · cases h
  · cases h

/-! ### the operators -/
def dQ (o : Option D) (M : Mem) (Q : QD) : Prop := match o with
  | some d => Q d M
  | none => False
def addD : O2 := fun x y M Q => match vw M x, vw M y with
  | .int i, .int j => Q (.int (i + j)) M
  | .int i, .bl b => Q (.int (i + b2i b)) M
  | .str a, .str b => a.length + b.length ≤ sizeLine ∧ Q (.str (a ++ b)) M
  | .tup a, .tup b => a.length + b.length ≤ sizeLine ∧ Q (.tup (a ++ b)) M
  | .lst a, .lst b => a.length + b.length ≤ sizeLine ∧ Q (.lst (a ++ b)) M
  | _, _ => False
def subD : O2 := fun x y M Q => match vw M x, vw M y with
  | .int i, .int j => Q (.int (i - j)) M
  | _, _ => False
def repL (k : Nat) (ds : List D) : List D := (List.replicate k ds).flatten
def mulD : O2 := fun x y M Q => match vw M x, vw M y with
  | .int i, .int j => CMulW i j ∧ Q (.int (i * j)) M
  | .lst a, .int k => (-(2 ^ 63) ≤ k ∧ k < 2 ^ 63 ∧ a.length * k.toNat ≤ sizeLine) ∧ Q (.lst (repL k.toNat a)) M
  | .tup a, .int k => (a ≠ [] ∧ 2 ≤ k ∧ k ≤ 1000 ∧ a.length ≤ 1000) ∧ Q (.tup (repL k.toNat a)) M
  | .str x, .int k => MulOk x k ∧ Q (.str (Txt.mul x k)) M
  | _, _ => False
def fdivD : O2 := fun x y M Q => match vw M x, vw M y with
  | .int i, .int j => CDivW i j ∧ Q (.int (i / j)) M
  | _, _ => False
def modD : O2 := fun x y M Q => match vw M x, vw M y with
  | .int i, .int j => 0 < j ∧ Q (.int (i % j)) M
  | _, _ => False
def powD : O2 := fun x y M Q => match vw M x, vw M y with
  | .int i, .int j => CPow i j ∧ Q (.int (i ^ j.toNat)) M
  | _, _ => False
def cmpD (p : Int → Int → Bool) : O2 := fun x y M Q => match vw M x, vw M y with
  | .int i, .int j => Q (.bl (p i j)) M
  | _, _ => False
abbrev ltD : O2 := cmpD fun i j => decide (i < j)
abbrev leD : O2 := cmpD fun i j => decide (i ≤ j)
abbrev gtD : O2 := cmpD fun i j => decide (j < i)
abbrev geD : O2 := cmpD fun i j => decide (j ≤ i)
def eqD : O2 := fun x y M Q => match eqO (vw M x) (vw M y) with
  | some b => Q (.bl b) M
  | none => False
def neD : O2 := fun x y M Q => match eqO (vw M x) (vw M y) with
  | some b => Q (.bl (!b)) M
  | none => False
def isN : D → Bool
  | .non => true
  | _ => false
def isD : O2 := fun x y M Q => y = .non ∧ Q (.bl (isN x)) M
def isNotD : O2 := fun x y M Q => y = .non ∧ Q (.bl (!isN x)) M

theorem vlen {K : Fg} {H : Hp} {M : Mem} {ds : List D} {vs : List V} (r : Rs K H M ds vs) : vs.length = ds.length := (Rs.len r).symm
theorem rs_rep {K : Fg} {H : Hp} {M : Mem} {ds : List D} {vs : List V} (r : Rs K H M ds vs) : ∀ k, Rs K H M (repL k ds) (List.replicate k vs).flatten
  | 0 => rfl
  | k + 1 => by
    unfold repL
    rw [List.replicate_succ, List.replicate_succ, List.flatten_cons, List.flatten_cons]
    exact Rs.append r (rs_rep r k)
section
variable {X : Cx}
theorem up_same {K : Fg} {H : Hp} {M : Mem} {Q : QD} {d : D} {v : V} (mo : MOk K H M) (q : Q d M) (r : Rv K H M d v) : upE K H M Q v H := ⟨d, M, Gw.refl, mo, r, q⟩
theorem up_new_tup {K : Fg} {H : Hp} {M : Mem} {Q : QD} {ds : List D} {xs : List V} {p : Addr} (mo : MOk K H M) (hp : H p = none) (r : Rs K H M ds xs) (q : Q (.tup ds) M) : upE K H M Q (.ref p) (upd H p (.tup xs)) :=
  ⟨_, M, gw_new hp, mok_new mo hp, new_tup mo hp r, q⟩
theorem up_new_lst {K : Fg} {H : Hp} {M : Mem} {Q : QD} {ds : List D} {xs : List V} {p : Addr} (mo : MOk K H M) (hp : H p = none) (r : Rs K H M ds xs) (q : Q (.lst ds) M) : upE K H M Q (.ref p) (upd H p (.lst xs)) :=
  ⟨_, M, gw_new hp, mok_new mo hp, new_lst mo hp r, q⟩
theorem do_add : DOp X (binaryOp .Add) addD := by
  intro pins s σ H M x y dx dy v u Q Qd I mo r1 r2 rx ry t q
  unfold addD at t
  split at t
  · rename_i i j h1 h2
    exact op_add pins s σ H x y v u Q I rx ry ⟨i, j, vw_int r1 h1, vw_int r2 h2, q _ _ (up_same mo t rfl)⟩
  · rename_i i j h1 h2
    exact op_add_ib pins s σ H x y v u Q I rx ry ⟨i, j, vw_int r1 h1, vw_bl r2 h2, q _ _ (up_same mo t rfl)⟩
  · rename_i i j h1 h2
    exact op_add_str pins s σ H x y v u Q I rx ry ⟨i, j, vw_str r1 h1, vw_str r2 h2, t.1, q _ _ (up_same mo t.2 rfl)⟩
  · rename_i i j h1 h2
    obtain ⟨a, xs, rfl, ha, sa⟩ := vw_tup r1 h1
    obtain ⟨b, ys, rfl, hb, sb⟩ := vw_tup r2 h2
    refine op_catA pins s σ H _ _ v u Q I rx ry ⟨a, b, xs, ys, rfl, rfl, ha.sq, hb.sq, by rw [vlen sa, vlen sb]; exact t.1, fun e => ?_, fun _ e => ?_, fun _ _ p hp => ?_⟩
    · have e1 : i = [] := by
        have := Rs.len sa
        rw [e] at this
        exact List.eq_nil_of_length_eq_zero this
      subst e1
      exact q _ _ (up_same mo t.2 ⟨b, ys, rfl, hb, sb⟩)
    · have e1 : j = [] := by
        have := Rs.len sb
        rw [e] at this
        exact List.eq_nil_of_length_eq_zero this
      subst e1
      have t2 := t.2
      rw [List.append_nil] at t2
      exact q _ _ (up_same mo t2 ⟨a, xs, rfl, ha, sa⟩)
    · exact q _ _ (up_new_tup mo hp (Rs.append sa sb) t.2)
  · rename_i i j h1 h2
    obtain ⟨a, xs, rfl, ha, sa⟩ := vw_lst mo r1 h1
    obtain ⟨b, ys, rfl, hb, sb⟩ := vw_lst mo r2 h2
    exact op_cat pins s σ H _ _ v u Q I rx ry ⟨a, b, xs, ys, rfl, rfl, ha, hb, by rw [vlen sa, vlen sb]; exact t.1, fun p hp => q _ _ (up_new_lst mo hp (Rs.append sa sb) t.2)⟩
  · exact t.elim
theorem do_int {f : Value → Value → Sem Value} {C : Int → Int → Prop} {g : Int → Int → V} {gd : Int → Int → D} (h : OpR X f (rI C g)) (hg : ∀ i j (H : Hp) (M : Mem), Rv X.K H M (gd i j) (g i j)) :
    DOp X f (fun x y M Q => match vw M x, vw M y with
      | .int i, .int j => C i j ∧ Q (gd i j) M
      | _, _ => False) := by
  intro pins s σ H M x y dx dy v u Q Qd I mo r1 r2 rx ry t q
  split at t
  · rename_i i j h1 h2
    exact h pins s σ H x y v u Q I rx ry ⟨i, j, vw_int r1 h1, vw_int r2 h2, t.1, q _ _ (up_same mo t.2 (hg i j H M))⟩
  · exact t.elim
theorem do_int0 {f : Value → Value → Sem Value} {g : Int → Int → V} {gd : Int → Int → D} (h : OpR X f (rI0 g)) (hg : ∀ i j (H : Hp) (M : Mem), Rv X.K H M (gd i j) (g i j)) :
    DOp X f (fun x y M Q => match vw M x, vw M y with
      | .int i, .int j => Q (gd i j) M
      | _, _ => False) := by
  intro pins s σ H M x y dx dy v u Q Qd I mo r1 r2 rx ry t q
  split at t
  · rename_i i j h1 h2
    exact h pins s σ H x y v u Q I rx ry ⟨i, j, vw_int r1 h1, vw_int r2 h2, q _ _ (up_same mo t (hg i j H M))⟩
  · exact t.elim
theorem do_sub : DOp X (binaryOp .Sub) subD := do_int0 (gd := fun i j => .int (i - j)) op_sub fun _ _ _ _ => rfl
theorem do_fdiv : DOp X (binaryOp .FloorDiv) fdivD := do_int (gd := fun i j => .int (i / j)) op_fdivW fun _ _ _ _ => rfl
theorem do_mod : DOp X (binaryOp .Mod) modD := do_int (C := fun _ j => 0 < j) (gd := fun i j => .int (i % j)) op_mod fun _ _ _ _ => rfl
theorem do_pow : DOp X (binaryOp .Pow) powD := do_int (gd := fun i j => .int (i ^ j.toNat)) op_pow fun _ _ _ _ => rfl
theorem do_lt : DOp X (compareOp .Lt) ltD := do_int0 (gd := fun i j => .bl (decide (i < j))) op_lt fun _ _ _ _ => rfl
theorem do_le : DOp X (compareOp .LtE) leD := do_int0 (gd := fun i j => .bl (decide (i ≤ j))) op_le fun _ _ _ _ => rfl
theorem do_gt : DOp X (compareOp .Gt) gtD := do_int0 (gd := fun i j => .bl (decide (j < i))) op_gt fun _ _ _ _ => rfl
theorem do_ge : DOp X (compareOp .GtE) geD := do_int0 (gd := fun i j => .bl (decide (j ≤ i))) op_ge fun _ _ _ _ => rfl
theorem do_mul : DOp X (binaryOp .Mult) mulD := by
  intro pins s σ H M x y dx dy v u Q Qd I mo r1 r2 rx ry t q
  unfold mulD at t
  split at t
  · rename_i i j h1 h2
    exact op_mulW pins s σ H x y v u Q I rx ry ⟨i, j, vw_int r1 h1, vw_int r2 h2, t.1, q _ _ (up_same mo t.2 rfl)⟩
  · rename_i a k h1 h2
    obtain ⟨p, xs, rfl, ha, sa⟩ := vw_lst mo r1 h1
    exact op_rep pins s σ H _ _ v u Q I rx ry ⟨p, k, xs, rfl, vw_int r2 h2, ha, t.1.1, t.1.2.1, by rw [vlen sa]; exact t.1.2.2, fun l hl => q _ _ (up_new_lst mo hl (rs_rep sa _) t.2)⟩
  · rename_i a k h1 h2
    obtain ⟨p, xs, rfl, ha, sa⟩ := vw_tup r1 h1
    refine op_repT pins s σ H _ _ v u Q I rx ry ⟨p, k, xs, rfl, vw_int r2 h2, ha.sq, fun e => ?_, t.1.2.1, t.1.2.2.1, by rw [vlen sa]; exact t.1.2.2.2, fun l hl => q _ _ (up_new_tup mo hl (rs_rep sa _) t.2)⟩
    have := Rs.len sa
    rw [e] at this
    exact t.1.1 (List.eq_nil_of_length_eq_zero this)
  · rename_i x k h1 h2
    have e1 := vw_str r1 h1
    have e2 := vw_int r2 h2
    subst e1 e2
    obtain ⟨tk, rfl⟩ := rx
    obtain ⟨tk2, rfl⟩ := ry
    exact SB.mul t.1 fun t' k => ⟨.str _, H, I.tok k, ⟨t', rfl⟩, q _ _ (up_same mo t.2 rfl)⟩
  · exact t.elim
theorem do_eq (hu : X.A.units + 64 < cLine) : DOp X (compareOp .Eq) eqD := by
  intro pins s σ H M x y dx dy v u Q Qd I mo r1 r2 rx ry t q
  unfold eqD at t
  split at t
  · rename_i b hb
    obtain ⟨p, p', h1, h2, s1, s2, rfl⟩ := eqO_of hb
    exact op_eqD hu pins s σ H x y v u Q I rx ry ⟨p, p', vw_dp mo r1 h1, vw_dp mo r2 h2, s1, s2, q _ _ (up_same mo t rfl)⟩
  · exact t.elim
theorem do_ne (hu : X.A.units + 64 < cLine) : DOp X (compareOp .NotEq) neD := by
  intro pins s σ H M x y dx dy v u Q Qd I mo r1 r2 rx ry t q
  unfold neD at t
  split at t
  · rename_i b hb
    obtain ⟨p, p', h1, h2, s1, s2, rfl⟩ := eqO_of hb
    exact op_neD hu pins s σ H x y v u Q I rx ry ⟨p, p', vw_dp mo r1 h1, vw_dp mo r2 h2, s1, s2, q _ _ (up_same mo t rfl)⟩
  · exact t.elim
theorem isN_of {K : Fg} {H : Hp} {M : Mem} {d : D} {v : V} (r : Rv K H M d v) : decide (v = .non) = isN d := by
  cases d with
  | non => have e : v = .non := r; rw [e]; rfl
  | bl b => have e : v = .bl b := r; rw [e]; exact decide_eq_false (fun z => nomatch z)
  | int b => have e : v = .int b := r; rw [e]; exact decide_eq_false (fun z => nomatch z)
  | str b => have e : v = .str b := r; rw [e]; exact decide_eq_false (fun z => nomatch z)
  | ref b => have e : v = .ref b := r; rw [e]; exact decide_eq_false (fun z => nomatch z)
  | ty b => have e : v = .ty b := r; rw [e]; exact decide_eq_false (fun z => nomatch z)
  | tup b => obtain ⟨a, xs, e, _⟩ := r; rw [e]; exact decide_eq_false (fun z => nomatch z)
  | lst b => obtain ⟨a, xs, e, _⟩ := r; rw [e]; exact decide_eq_false (fun z => nomatch z)
  | fzn b => obtain ⟨a, xs, e, _⟩ := r; rw [e]; exact decide_eq_false (fun z => nomatch z)
  | dct b c => obtain ⟨a, _, xs, e, _⟩ := r; rw [e]; exact decide_eq_false (fun z => nomatch z)
  | exn b c d => rcases r with ⟨a, _, xs, e, _⟩ | ⟨_, _, a, e, _⟩ <;> (rw [e]; exact decide_eq_false (fun z => nomatch z))
theorem do_is : DOp X (compareOp .Is) isD := by
  intro pins s σ H M x y dx dy v u Q Qd I mo r1 r2 rx ry t q
  obtain ⟨rfl, t⟩ := t
  exact op_isN pins s σ H x y v u Q I rx ry ⟨r2, by rw [isN_of r1]; exact q _ _ (up_same mo t rfl)⟩
theorem do_isnot : DOp X (compareOp .IsNot) isNotD := by
  intro pins s σ H M x y dx dy v u Q Qd I mo r1 r2 rx ry t q
  obtain ⟨rfl, t⟩ := t
  exact op_notN pins s σ H x y v u Q I rx ry ⟨r2, by rw [isN_of r1]; exact q _ _ (up_same mo t rfl)⟩
end
end DL
set_option maxHeartbeats 1000000
namespace DL
open PySem PySem.Spec PyProof.Rows L2

def Mem.put (M : Mem) (a : Addr) (o : MO) : Mem := fun b => if b = a then some o else M b
def Mem.del (M : Mem) (a : Addr) : Mem := fun b => if b = a then none else M b
theorem Mem.put_same {M : Mem} {a : Addr} {o : MO} : M.put a o a = some o := by unfold Mem.put; rw [if_pos rfl]
theorem Mem.put_ne {M : Mem} {a b : Addr} {o : MO} (h : b ≠ a) : M.put a o b = M b := by unfold Mem.put; rw [if_neg h]
theorem Mem.del_same {M : Mem} {a : Addr} : M.del a a = none := by unfold Mem.del; rw [if_pos rfl]
theorem Mem.del_ne {M : Mem} {a b : Addr} (h : b ≠ a) : M.del a b = M b := by unfold Mem.del; rw [if_neg h]
theorem Mem.put_put {M : Mem} {a : Addr} {o u : MO} : (M.put a o).put a u = M.put a u := by funext b; unfold Mem.put; split <;> rfl
theorem Mem.del_put {M : Mem} {a : Addr} {o : MO} (h : M a = none) : (M.put a o).del a = M := by
  funext b; unfold Mem.del Mem.put
  by_cases e : b = a
  · rw [if_pos e, e, h]
  · rw [if_neg e, if_neg e]

section
variable {K : Fg} {H H' : Hp} {M M' : Mem}
/-- what MObj says is kept by growth where the object itself stands -/
theorem MObj.grow {a : Addr} {o : MO} (g : Gw H M H' M') (ha : H' a = H a) (hd : ∀ dx, H dx = some (.own a) → M dx = none → H' dx = some (.own a) ∧ M' dx = none) (h : MObj K H M a o) : MObj K H' M' a o := by
  cases o with
  | lst ds =>
    obtain ⟨xs, h1, h2⟩ := h
    exact ⟨xs, ha.trans h1, Rs.grow g ds xs h2⟩
  | dct ks ds =>
    obtain ⟨xs, h1, h3, h2⟩ := h
    exact ⟨xs, ha.trans h1, h3, Rs.grow g ds xs h2⟩
  | ins C ns ds =>
    obtain ⟨dx, xs, h1, h3, h4, h5, h2⟩ := h
    exact ⟨dx, xs, ha.trans h1, h3, (hd dx h4 h5).1, (hd dx h4 h5).2, Rs.grow g ds xs h2⟩
  | gen φ ds =>
    obtain ⟨xs, h1, h2⟩ := h
    exact ⟨xs, ha.trans h1, Rs.grow g ds xs h2⟩
/-- an owned object is written -/
theorem gw_put {a : Addr} {o : HO} {mo mo' : MO} (h : M a = some mo) : Gw H M (upd H a o) (M.put a mo') := fun b u hb m => by
  have ne : b ≠ a := fun e => by rw [e, h] at m; cases m
  exact ⟨by rw [upd_ne ne]; exact hb, by rw [Mem.put_ne ne]; exact m⟩
theorem mok_put {a : Addr} {o : HO} {mo mo' : MO} (ok : MOk K H M) (h : M a = some mo) (new : MObj K (upd H a o) (M.put a mo') a mo') : MOk K (upd H a o) (M.put a mo') := fun b u e => by
  by_cases q : b = a
  · subst q
    rw [Mem.put_same] at e
    cases e
    exact new
  · rw [Mem.put_ne q] at e
    refine MObj.grow (gw_put h) (upd_ne q) (fun dx h1 h2 => ?_) (ok b u e)
    exact gw_put h dx _ h1 h2
/-- a new owned object -/
theorem gw_own {p : Addr} {o : HO} {mo : MO} (hp : H p = none) : Gw H M (upd H p o) (M.put p mo) := fun b u hb m => by
  have ne : b ≠ p := ne_of_none hb hp
  exact ⟨by rw [upd_ne ne]; exact hb, by rw [Mem.put_ne ne]; exact m⟩
theorem mok_own {p : Addr} {o : HO} {mo : MO} (ok : MOk K H M) (hp : H p = none) (new : MObj K (upd H p o) (M.put p mo) p mo) : MOk K (upd H p o) (M.put p mo) := fun b u e => by
  by_cases q : b = p
  · subst q
    rw [Mem.put_same] at e
    cases e
    exact new
  · rw [Mem.put_ne q] at e
    exact MObj.grow (gw_own hp) (upd_ne q) (fun dx h1 h2 => gw_own hp dx _ h1 h2) (ok b u e)
/-- less is owned: dropped, or frozen -/
theorem gw_less (h : ∀ a, M a = none → M' a = none) : Gw H M H M' := fun b u hb m => ⟨hb, h b m⟩
theorem mok_less (h : ∀ a o, M' a = some o → M a = some o) (hn : ∀ a, M a = none → M' a = none) (ok : MOk K H M) : MOk K H M' := fun b u e =>
  MObj.grow (gw_less hn) rfl (fun dx h1 h2 => ⟨h1, hn dx h2⟩) (ok b u (h b u e))
theorem up_own_lst {Q : QD} {ds : List D} {xs : List V} {p : Addr} (mo : MOk K H M) (hp : H p = none) (r : Rs K H M ds xs) (q : Q (.ref p) (M.put p (.lst ds))) : upE K H M Q (.ref p) (upd H p (.lst xs)) :=
  ⟨.ref p, M.put p (.lst ds), gw_own hp, mok_own mo hp (show MObj K (upd H p (.lst xs)) (M.put p (.lst ds)) p (.lst ds) from ⟨xs, upd_same, Rs.grow (gw_own hp) ds xs r⟩), rfl, q⟩
end

/-! ### arguments, displays -/
def dNil : TAD := fun _ _ M Q => Q [] M
def dCons (te : TED) (ta : TAD) : TAD := fun Xd s M Q => te Xd s M fun d M1 => ta Xd s M1 fun ds M2 => Q (d :: ds) M2
/-- arguments, n of them -/
structure DN (X : Cx) (E : XK) (n : Nat) (es : List Expr) (t : TAD) : Prop where
  ok : PA X es (fun σ H Q => ∃ s M Qd Xd, StOk X.K σ H s M ∧ XTo X.K H M Xd E ∧ t Xd s M Qd ∧ ∀ vs H', vs.length = n → upA X.K H M Qd vs H' → Q vs H')
section
variable {X : Cx} {E : XK} {n : Nat} {e a b c : Expr} {es : List Expr} {pos : Pos} {ta tb te : TED} {ts : TAD}
theorem dn_nil : DN X E 0 [] dNil := ⟨PA.imp pa_nil fun σ H Q ⟨s, M, Qd, Xd, S, x, t, q⟩ => q [] H rfl ⟨[], M, Gw.refl, S.mem, rfl, t⟩⟩
theorem dn_cons (h1 : DE X E e te) (h2 : DN X E n es ts) (hs : starEach (e :: es) X.env = (false, eval e X.env) :: starEach es X.env := by rfl) : DN X E (n + 1) (e :: es) (dCons te ts) :=
  ⟨PA.imp (pa_cons h1.ok h2.ok hs) fun σ H Q ⟨s, M, Qd, Xd, S, x, t, q⟩ => by
    refine useE S x t fun d v M1 H1 g1 S1 x1 r1 t1 => ?_
    refine ⟨s, M1, _, Xd, S1, x1, t1, fun vs H2 hl ⟨ds, M2, g2, m2, r2, t2⟩ => ?_⟩
    exact q _ _ (by rw [List.length_cons, hl]) ⟨d :: ds, M2, g1.trans g2, m2, Rs.cons (Rv.grow g2 _ _ r1) r2, t2⟩⟩
/-- what is known of arguments -/
theorem useN {σ : L2.St} {H : Hp} {s : SD} {M : Mem} {Xd : XD} {Qd : List D → Mem → Prop} {Q : List V → Hp → Prop} (S : StOk X.K σ H s M) (x : XTo X.K H M Xd E) (h : ts Xd s M Qd)
    (q : ∀ ds vs M' H', vs.length = n → Gw H M H' M' → StOk X.K σ H' s M' → XTo X.K H' M' Xd E → Rs X.K H' M' ds vs → Qd ds M' → Q vs H') :
    ∃ s M Qd Xd, StOk X.K σ H s M ∧ XTo X.K H M Xd E ∧ ts Xd s M Qd ∧ ∀ vs H', vs.length = n → upA X.K H M Qd vs H' → Q vs H' :=
  ⟨s, M, Qd, Xd, S, x, h, fun vs H' hl ⟨ds, M', g, m, r, z⟩ => q ds vs M' H' hl g (S.grow g m) (x.grow g) r z⟩
def dTup (t : TAD) : TED := fun Xd s M Q => t Xd s M fun ds M1 => Q (.tup ds) M1
def dLst (t : TAD) : TED := fun Xd s M Q => t Xd s M fun ds M1 => Q (.lst ds) M1
/-- a list that will be changed -/
def dLstO (t : TAD) : TED := fun Xd s M Q => t Xd s M fun ds M1 => ∀ p, M1 p = none → Q (.ref p) (M1.put p (.lst ds))
theorem de_tup {k} (h : DN X E n es ts) (hz : n ≤ sizeLine := by decide) : DE X E (.Tuple es k pos) (dTup ts) := ⟨PE.imp (pe_tup h.ok) fun σ H Q ⟨s, M, Qd, Xd, S, x, t, q⟩ => by
  refine useN S x t fun ds vs M1 H1 hl g1 S1 x1 r1 t1 => ⟨by rw [hl]; exact hz, fun p hp => ?_⟩
  exact q _ _ ⟨.tup ds, M1, g1.trans (gw_new hp), mok_new S1.mem hp, new_tup S1.mem hp r1, t1⟩⟩
theorem de_lst (h : DN X E n es ts) (hz : n ≤ sizeLine := by decide) : DE X E (.List es pos) (dLst ts) := ⟨PE.imp (pe_lst h.ok) fun σ H Q ⟨s, M, Qd, Xd, S, x, t, q⟩ => by
  refine useN S x t fun ds vs M1 H1 hl g1 S1 x1 r1 t1 => ⟨by rw [hl]; exact hz, fun p hp => ?_⟩
  exact q _ _ ⟨.lst ds, M1, g1.trans (gw_new hp), mok_new S1.mem hp, new_lst S1.mem hp r1, t1⟩⟩
theorem de_lstO (h : DN X E n es ts) (hz : n ≤ sizeLine := by decide) : DE X E (.List es pos) (dLstO ts) := ⟨PE.imp (pe_lst h.ok) fun σ H Q ⟨s, M, Qd, Xd, S, x, t, q⟩ => by
  refine useN S x t fun ds vs M1 H1 hl g1 S1 x1 r1 t1 => ⟨by rw [hl]; exact hz, fun p hp => ?_⟩
  obtain ⟨d, M', g, m, r, z⟩ := up_own_lst S1.mem hp r1 (t1 p (m_none S1.mem hp))
  exact q _ _ ⟨d, M', g1.trans g, m, r, z⟩⟩

/-! ### calls of built-ins by values -/
abbrev OC := List D → Mem → QD → Prop
def DC (X : Cx) (f : Value) (o : OC) : Prop :=
  ∀ (pins : List (Addr × Obj)) (s : Shared) (σ : L2.St) (H : Hp) (M : Mem) (xs : List V) (ds : List D) (us : List Value) (Q : VK) (Qd : QD), Inv X pins σ H s → MOk X.K H M → Rs X.K H M ds xs → Vals xs us → o ds M Qd →
    (∀ v H', upE X.K H M Qd v H' → Q v H') → wpAny (model X.prog X.w) X.A (call f us) (EP X pins σ Q) X.xe s
theorem DC.toR {f : Value} {o : OC} (h : DC X f o) : CallR X f (fun xs H Q => ∃ M ds Qd, MOk X.K H M ∧ Rs X.K H M ds xs ∧ o ds M Qd ∧ ∀ v H', upE X.K H M Qd v H' → Q v H') :=
  fun pins s σ H xs us Q I r ⟨M, ds, Qd, mo, r1, t, q⟩ => h pins s σ H M xs ds us Q Qd I mo r1 r t q
def dCB (o : OC) (t : TAD) : TED := fun Xd s M Q => t Xd s M fun ds M1 => o ds M1 Q
theorem liftCB {o : OC} {σ : L2.St} {H : Hp} {Q : VK} (z : liftE X.K E (dCB o ts) σ H Q) : tCB (fun xs H Q => ∃ M ds Qd, MOk X.K H M ∧ Rs X.K H M ds xs ∧ o ds M Qd ∧ ∀ v H', upE X.K H M Qd v H' → Q v H')
    (fun σ H Q => ∃ s M Qd Xd, StOk X.K σ H s M ∧ XTo X.K H M Xd E ∧ ts Xd s M Qd ∧ ∀ vs H', vs.length = n → upA X.K H M Qd vs H' → Q vs H') σ H Q := by
  obtain ⟨s, M, Qd, Xd, S, x, t, q⟩ := z
  refine useN S x t fun ds vs M1 H1 hl g1 S1 x1 r1 t1 => ?_
  exact ⟨M1, ds, Qd, S1.mem, r1, t1, fun v H' ⟨d, M', g, m, r, z⟩ => q v H' ⟨d, M', g1.trans g, m, r, z⟩⟩
theorem de_callB {id : String} {x : Str} {p : Pos} {o : OC} (hc : DC X (.builtin id) o) (hg : Gl X x) (hm : X.mg x = none) (hv : bootBuiltins x = some (.builtin id)) (ha : DN X E n (e :: es) ts) (hn : x ≠ "__name__" := by decide) (hdb : (x == ("__debug__" : Str)) = false := by decide)
    (he : starEach (e :: es) X.env = (false, eval e X.env) :: starEach es X.env := by rfl) (hpl : (backTo pos (starEach es X.env)).any (·.1) = false := by rfl) : DE X E (.Call (.Name x p) (e :: es) [] pos) (dCB o ts) :=
  ⟨PE.imp (pe_callB hc.toR hg hm hv ha.ok hn hdb he hpl) fun σ H Q z => liftCB z⟩
theorem de_callTy {T : String} {x : Str} {p : Pos} {o : OC} (hc : DC X (.type T) o) (hg : Gl X x) (hm : X.mg x = none) (hv : bootBuiltins x = some (.type T)) (ha : DN X E n (e :: es) ts) (hn : x ≠ "__name__" := by decide) (hdb : (x == ("__debug__" : Str)) = false := by decide)
    (he : starEach (e :: es) X.env = (false, eval e X.env) :: starEach es X.env := by rfl) (hpl : (backTo pos (starEach es X.env)).any (·.1) = false := by rfl) : DE X E (.Call (.Name x p) (e :: es) [] pos) (dCB o ts) :=
  ⟨PE.imp (pe_callTy hc.toR hg hm hv ha.ok hn hdb he hpl) fun σ H Q z => liftCB z⟩

/-! ### built-ins -/
theorem rs1 {K : Fg} {H : Hp} {M : Mem} {d : D} {xs : List V} (r : Rs K H M [d] xs) : ∃ v, xs = [v] ∧ Rv K H M d v := by
  obtain ⟨v, r, rfl, h, q⟩ := r
  have e : r = [] := q
  subst e
  exact ⟨v, rfl, h⟩
theorem rs2 {K : Fg} {H : Hp} {M : Mem} {d d2 : D} {xs : List V} (r : Rs K H M [d, d2] xs) : ∃ v w, xs = [v, w] ∧ Rv K H M d v ∧ Rv K H M d2 w := by
  obtain ⟨v, r, rfl, h, q⟩ := r
  obtain ⟨w, rfl, z⟩ := rs1 q
  exact ⟨v, w, rfl, h, z⟩
def lenO (M : Mem) (d : D) : Option Nat := match vw M d with
  | .tup ds => some ds.length
  | .lst ds => some ds.length
  | .fzn ds => some ds.length
  | .str x => if x.length ≤ sizeLine then some x.length else none
  | _ => none
def lenC : OC := fun ds M Q => match ds with
  | [d] => match lenO M d with
    | some n => Q (.int n) M
    | none => False
  | _ => False
theorem dc_len : DC X (.builtin "len") lenC := by
  intro pins s σ H M xs ds us Q Qd I mo r rv t q
  unfold lenC at t
  split at t
  · rename_i d
    obtain ⟨v, rfl, rd⟩ := rs1 r
    split at t
    · rename_i n hn
      unfold lenO at hn
      split at hn
      · rename_i es h
        obtain ⟨a, ys, rfl, ha, sa⟩ := vw_tup rd h
        cases hn
        exact call_len_seq pins s σ H _ us Q I rv ⟨a, ys, rfl, .inr ha.sq, q _ _ ⟨_, M, Gw.refl, mo, by rw [vlen sa]; exact rfl, t⟩⟩
      · rename_i es h
        obtain ⟨a, ys, rfl, ha, sa⟩ := vw_lst mo rd h
        cases hn
        exact call_len_seq pins s σ H _ us Q I rv ⟨a, ys, rfl, .inl (SqL.of ha), q _ _ ⟨_, M, Gw.refl, mo, by rw [vlen sa]; exact rfl, t⟩⟩
      · rename_i es h
        obtain ⟨a, ys, rfl, ha, sa⟩ := vw_fzn rd h
        cases hn
        exact call_len_seq pins s σ H _ us Q I rv ⟨a, ys, rfl, .inl ha.sq, q _ _ ⟨_, M, Gw.refl, mo, by rw [vlen sa]; exact rfl, t⟩⟩
      · rename_i x h
        split at hn
        · rename_i hz
          cases hn
          exact call_len_str pins s σ H _ us Q I rv ⟨x, by rw [vw_str rd h], hz, q _ _ (up_same mo t rfl)⟩
        · cases hn
      · cases hn
    · exact t.elim
  · exact t.elim
/-- the items of a list or tuple -/
def itemsO (M : Mem) (d : D) : Option (List D) := match vw M d with
  | .tup ds => some ds
  | .lst ds => some ds
  | .fzn ds => some ds
  | _ => none
theorem items_of {K : Fg} {H : Hp} {M : Mem} {d : D} {ds : List D} {v : V} (mo : MOk K H M) (r : Rv K H M d v) (e : itemsO M d = some ds) : ∃ a xs, v = .ref a ∧ (SqL K H a xs ∨ SqT K H a xs) ∧ Rs K H M ds xs := by
  unfold itemsO at e
  split at e
  · rename_i es h
    cases e
    obtain ⟨a, ys, rfl, ha, sa⟩ := vw_tup r h
    exact ⟨a, ys, rfl, .inr ha.sq, sa⟩
  · rename_i es h
    cases e
    obtain ⟨a, ys, rfl, ha, sa⟩ := vw_lst mo r h
    exact ⟨a, ys, rfl, .inl (SqL.of ha), sa⟩
  · rename_i es h
    cases e
    obtain ⟨a, ys, rfl, ha, sa⟩ := vw_fzn r h
    exact ⟨a, ys, rfl, .inl ha.sq, sa⟩
  · cases e
def listC : OC := fun ds M Q => match ds with
  | [d] => match itemsO M d with
    | some es => Q (.lst es) M
    | none => False
  | _ => False
theorem dc_list : DC X (.type "list") listC := by
  intro pins s σ H M xs ds us Q Qd I mo r rv t q
  unfold listC at t
  split at t
  · rename_i d
    obtain ⟨v, rfl, rd⟩ := rs1 r
    split at t
    · rename_i es he
      obtain ⟨a, ys, rfl, ha, sa⟩ := items_of mo rd he
      exact call_list_of pins s σ H _ us Q I rv ⟨a, ys, rfl, ha, fun l hl => q _ _ (up_new_lst mo hl sa t)⟩
    · exact t.elim
  · exact t.elim
def tupleC : OC := fun ds M Q => match ds with
  | [d] => match itemsO M d with
    | some es => Q (.tup es) M
    | none => False
  | _ => False
theorem dc_tuple : DC X (.type "tuple") tupleC := by
  intro pins s σ H M xs ds us Q Qd I mo r rv t q
  unfold tupleC at t
  split at t
  · rename_i d
    obtain ⟨v, rfl, rd⟩ := rs1 r
    split at t
    · rename_i es he
      unfold itemsO at he
      split at he
      · rename_i es h
        cases he
        obtain ⟨a, ys, rfl, ha, sa⟩ := vw_tup rd h
        exact call_tuple_of pins s σ H _ us Q I rv ⟨a, ys, rfl, .inr ⟨ha.sq, q _ _ (up_same mo t ⟨a, ys, rfl, ha, sa⟩)⟩⟩
      · rename_i es h
        cases he
        obtain ⟨a, ys, rfl, ha, sa⟩ := vw_lst mo rd h
        exact call_tuple_of pins s σ H _ us Q I rv ⟨a, ys, rfl, .inl ⟨SqL.of ha, fun l hl => q _ _ (up_new_tup mo hl sa t)⟩⟩
      · rename_i es h
        cases he
        obtain ⟨a, ys, rfl, ha, sa⟩ := vw_fzn rd h
        exact call_tuple_of pins s σ H _ us Q I rv ⟨a, ys, rfl, .inl ⟨ha.sq, fun l hl => q _ _ (up_new_tup mo hl sa t)⟩⟩
      · cases he
    · exact t.elim
  · exact t.elim
def intC : OC := fun ds M Q => match ds with
  | [d] => match vw M d with
    | .int i => Q (.int i) M
    | .bl b => Q (.int (if b then 1 else 0)) M
    | _ => False
  | _ => False
theorem dc_int : DC X (.type "int") intC := by
  intro pins s σ H M xs ds us Q Qd I mo r rv t q
  unfold intC at t
  split at t
  · rename_i d
    obtain ⟨v, rfl, rd⟩ := rs1 r
    split at t
    · rename_i i h
      exact call_int1 pins s σ H _ us Q I rv (.inl ⟨i, by rw [vw_int rd h], q _ _ (up_same mo t rfl)⟩)
    · rename_i i h
      exact call_int1 pins s σ H _ us Q I rv (.inr ⟨i, by rw [vw_bl rd h], q _ _ (up_same mo t rfl)⟩)
    · exact t.elim
  · exact t.elim
def absC : OC := fun ds M Q => match ds with
  | [d] => match vw M d with
    | .int i => Q (.int (if i < 0 then -i else i)) M
    | _ => False
  | _ => False
theorem dc_abs : DC X (.builtin "abs") absC := by
  intro pins s σ H M xs ds us Q Qd I mo r rv t q
  unfold absC at t
  split at t
  · rename_i d
    obtain ⟨v, rfl, rd⟩ := rs1 r
    split at t
    · rename_i i h
      exact call_abs pins s σ H _ us Q I rv ⟨i, by rw [vw_int rd h], q _ _ (up_same mo t rfl)⟩
    · exact t.elim
  · exact t.elim
def int2C (f : Int → Int → Int) : OC := fun ds M Q => match ds with
  | [d, e] => match vw M d, vw M e with
    | .int i, .int j => Q (.int (f i j)) M
    | _, _ => False
  | _ => False
theorem dc_int2 {id : Value} {f : Int → Int → Int} (h : CallR X id (fun xs H Q => ∃ i j, xs = [.int i, .int j] ∧ Q (.int (f i j)) H)) : DC X id (int2C f) := by
  intro pins s σ H M xs ds us Q Qd I mo r rv t q
  unfold int2C at t
  split at t
  · rename_i d e
    obtain ⟨v, w, rfl, rd, re⟩ := rs2 r
    split at t
    · rename_i i j h1 h2
      exact h pins s σ H _ us Q I rv ⟨i, j, by rw [vw_int rd h1, vw_int re h2], q _ _ (up_same mo t rfl)⟩
    · exact t.elim
  · exact t.elim
theorem dc_max2 (hc : X.calm = true) : DC X (.builtin "max") (int2C fun i j => if j > i then j else i) := dc_int2 (call_max2 hc)
theorem dc_min2 (hc : X.calm = true) : DC X (.builtin "min") (int2C fun i j => if j < i then j else i) := dc_int2 (call_min2 hc)
end
end DL
set_option maxHeartbeats 1000000
namespace DL
open PySem PySem.Spec PyProof.Rows L2
section
variable {X : Cx} {E : XK} {n : Nat} {e a b c o i : Expr} {es : List Expr} {pos p2 : Pos} {ta tb te : TED} {ts : TAD}

/-! ### a built-in's name as a value -/
theorem de_bltn {x : Str} {T : String} (hg : Gl X x) (hm : X.mg x = none) (hv : bootBuiltins x = some (.type T)) (hn : x ≠ "__name__" := by decide) (hd : (x == ("__debug__" : Str)) = false := by decide) : DE X E (.Name x pos) (dC (.ty T)) :=
  de_const (pe_bltn (v := .ty T) hg hm hv rfl hn hd) fun _ _ => rfl
/-- a module's constant, a class, a def, as a value -/
theorem de_glob {x : Str} {d : D} {v : V} {u : Value} (hg : Gl X x) (hm : X.mg x = some u) (r : RelV v u) (rd : ∀ H M, Rv X.K H M d v) (hd : (x == ("__debug__" : Str)) = false := by decide) : DE X E (.Name x pos) (dC d) :=
  de_const (pe_glob hg hm r hd) rd

/-! ### and, or, not, if else -/
def andK (tb : TED) (Xd : XD) (s : SD) (Q : QD) : QD := fun d M => match d with
  | .bl c => if c = true then tb Xd s M Q else Q (.bl false) M
  | _ => False
def orK (tb : TED) (Xd : XD) (s : SD) (Q : QD) : QD := fun d M => match d with
  | .bl c => if c = true then Q (.bl true) M else tb Xd s M Q
  | _ => False
def dAnd (ta tb : TED) : TED := fun Xd s M Q => ta Xd s M (andK tb Xd s Q)
def dOr (ta tb : TED) : TED := fun Xd s M Q => ta Xd s M (orK tb Xd s Q)
def notK (Q : QD) : QD := fun d M => match d with
  | .bl c => Q (.bl (!c)) M
  | _ => False
def dNot (ta : TED) : TED := fun Xd s M Q => ta Xd s M (notK Q)
theorem fwd {K : Fg} {H H1 : Hp} {M M1 : Mem} {Qd : QD} {Q : VK} (g : Gw H M H1 M1) (q : ∀ v H', upE K H M Qd v H' → Q v H') : ∀ v H', upE K H1 M1 Qd v H' → Q v H' :=
  fun v H' ⟨d, M', g', m, r, z⟩ => q v H' ⟨d, M', g.trans g', m, r, z⟩
theorem fwdT {K : Fg} {H H1 : Hp} {M M1 : Mem} {Qd : Bool → Mem → Prop} {Q : Bool → Hp → Prop} (g : Gw H M H1 M1) (q : ∀ v H', upT K H M Qd v H' → Q v H') : ∀ v H', upT K H1 M1 Qd v H' → Q v H' :=
  fun v H' ⟨M', g', m, z⟩ => q v H' ⟨M', g.trans g', m, z⟩
theorem fwdS {K : Fg} {H H1 : Hp} {M M1 : Mem} {Qd : SD → Mem → Prop} {Q : L2.St → Hp → Prop} (g : Gw H M H1 M1) (q : ∀ v H', upS K H M Qd v H' → Q v H') : ∀ v H', upS K H1 M1 Qd v H' → Q v H' :=
  fun v H' ⟨s', M', g', m, z⟩ => q v H' ⟨s', M', g.trans g', m, z⟩
theorem de_one {op} (h : DE X E a ta) : DE X E (.BoolOp op [a] pos) ta := ⟨pe_one h.ok⟩
theorem de_and {rest : List Expr} (ha : DE X E a ta) (hb : DE X E (.BoolOp .And (b :: rest) pos) tb) : DE X E (.BoolOp .And (a :: b :: rest) pos) (dAnd ta tb) :=
  ⟨PE.imp (pe_and ha.ok hb.ok) fun σ H Q ⟨s, M, Qd, Xd, S, x, t, q⟩ => by
    refine useE S x t fun d v M1 H1 g1 S1 x1 r1 t1 => ?_
    unfold andK at t1
    split at t1
    · rename_i c
      refine ⟨c, r1, ?_⟩
      cases c with
      | true => exact ⟨s, M1, Qd, Xd, S1, x1, t1, fwd g1 q⟩
      | false => exact q _ _ ⟨.bl false, M1, g1, S1.mem, rfl, t1⟩
    · exact t1.elim⟩
theorem de_or {rest : List Expr} (ha : DE X E a ta) (hb : DE X E (.BoolOp .Or (b :: rest) pos) tb) : DE X E (.BoolOp .Or (a :: b :: rest) pos) (dOr ta tb) :=
  ⟨PE.imp (pe_or ha.ok hb.ok) fun σ H Q ⟨s, M, Qd, Xd, S, x, t, q⟩ => by
    refine useE S x t fun d v M1 H1 g1 S1 x1 r1 t1 => ?_
    unfold orK at t1
    split at t1
    · rename_i c
      refine ⟨c, r1, ?_⟩
      cases c with
      | true => exact q _ _ ⟨.bl true, M1, g1, S1.mem, rfl, t1⟩
      | false => exact ⟨s, M1, Qd, Xd, S1, x1, t1, fwd g1 q⟩
    · exact t1.elim⟩
theorem de_not (ha : DE X E a ta) : DE X E (.UnaryOp .Not a pos) (dNot ta) :=
  ⟨PE.imp (pe_not ha.ok) fun σ H Q ⟨s, M, Qd, Xd, S, x, t, q⟩ => by
    refine useE S x t fun d v M1 H1 g1 S1 x1 r1 t1 => ?_
    unfold notK at t1
    split at t1
    · rename_i c
      exact ⟨c, r1, q _ _ ⟨.bl (!c), M1, g1, S1.mem, rfl, t1⟩⟩
    · exact t1.elim⟩
def unK (f : Int → Int) (Q : QD) : QD := fun d M => match d with
  | .int i => Q (.int (f i)) M
  | _ => False
def dNeg (ta : TED) : TED := fun Xd s M Q => ta Xd s M (unK (fun i => -i) Q)
theorem de_neg (ha : DE X E a ta) : DE X E (.UnaryOp .USub a pos) (dNeg ta) :=
  ⟨PE.imp (pe_un un_neg ha.ok) fun σ H Q ⟨s, M, Qd, Xd, S, x, t, q⟩ => by
    refine useE S x t fun d v M1 H1 g1 S1 x1 r1 t1 => ?_
    unfold unK at t1
    split at t1
    · rename_i c
      exact ⟨c, r1, q _ _ ⟨.int (-c), M1, g1, S1.mem, rfl, t1⟩⟩
    · exact t1.elim⟩
def dIte (t : TTD) (ta tb : TED) : TED := fun Xd s M Q => t Xd s M fun c M1 => if c = true then ta Xd s M1 Q else tb Xd s M1 Q
theorem de_ite {t : TTD} (hc : DT X E c t) (ha : DE X E a ta) (hb : DE X E b tb) : DE X E (.IfExp c a b pos) (dIte t ta tb) :=
  ⟨PE.imp (pe_ifExp hc.ok ha.ok hb.ok) fun σ H Q ⟨s, M, Qd, Xd, S, x, z, q⟩ => by
    refine useT S x z fun k M1 H1 g1 S1 x1 t1 => ?_
    cases k with
    | true => exact ⟨s, M1, Qd, Xd, S1, x1, t1, fwd g1 q⟩
    | false => exact ⟨s, M1, Qd, Xd, S1, x1, t1, fwd g1 q⟩⟩

/-! ### tests -/
structure DW (X : Cx) (E : XK) (e : Expr) (t : TTD) : Prop where
  ok : PW X e (liftT X.K E t)
theorem DW.dt {t : TTD} (h : DW X E e t) : DT X E e t := ⟨h.ok.pt⟩
def tAndD (t u : TTD) : TTD := fun Xd s M Q => t Xd s M fun c M1 => if c = true then u Xd s M1 Q else Q false M1
def tOrD (t u : TTD) : TTD := fun Xd s M Q => t Xd s M fun c M1 => if c = true then Q true M1 else u Xd s M1 Q
def tNotD (t : TTD) : TTD := fun Xd s M Q => t Xd s M fun c M1 => Q (!c) M1
theorem dw_and1 {t : TTD} (h : DT X E a t) : DW X E (.BoolOp .And [a] pos) t := ⟨pw_and1 h.ok⟩
theorem dw_or1 {t : TTD} (h : DT X E a t) : DW X E (.BoolOp .Or [a] pos) t := ⟨pw_or1 h.ok⟩
theorem dw_and {t u : TTD} {rest : List Expr} (ha : DT X E a t) (hb : DW X E (.BoolOp .And (b :: rest) pos) u) : DW X E (.BoolOp .And (a :: b :: rest) pos) (tAndD t u) :=
  ⟨PW.imp (pw_and ha.ok hb.ok) fun σ H Q ⟨s, M, Qd, Xd, S, x, z, q⟩ => by
    refine useT S x z fun k M1 H1 g1 S1 x1 t1 => ?_
    cases k with
    | true => exact ⟨s, M1, Qd, Xd, S1, x1, t1, fwdT g1 q⟩
    | false => exact q _ _ ⟨M1, g1, S1.mem, t1⟩⟩
theorem dw_or {t u : TTD} {rest : List Expr} (ha : DT X E a t) (hb : DW X E (.BoolOp .Or (b :: rest) pos) u) : DW X E (.BoolOp .Or (a :: b :: rest) pos) (tOrD t u) :=
  ⟨PW.imp (pw_or ha.ok hb.ok) fun σ H Q ⟨s, M, Qd, Xd, S, x, z, q⟩ => by
    refine useT S x z fun k M1 H1 g1 S1 x1 t1 => ?_
    cases k with
    | true => exact q _ _ ⟨M1, g1, S1.mem, t1⟩
    | false => exact ⟨s, M1, Qd, Xd, S1, x1, t1, fwdT g1 q⟩⟩
theorem dt_not {t : TTD} (h : DT X E a t) : DT X E (.UnaryOp .Not a pos) (tNotD t) :=
  ⟨PT.imp (pt_not h.ok) fun σ H Q ⟨s, M, Qd, Xd, S, x, z, q⟩ => useT S x z fun k M1 H1 g1 S1 x1 t1 => q _ _ ⟨M1, g1, S1.mem, t1⟩⟩
/-- a value's truth -/
def truO (M : Mem) (d : D) : Option Bool := match vw M d with
  | .non => some false
  | .bl b => some b
  | .int i => some (i != 0)
  | .str x => if x.length ≤ sizeLine then some ((x.length : Int) != 0) else none
  | .tup ds => some (!ds.isEmpty)
  | .lst ds => some (!ds.isEmpty)
  | .fzn ds => some (!ds.isEmpty)
  | _ => none
def truK (Q : Bool → Mem → Prop) : QD := fun d M => match truO M d with
  | some b => Q b M
  | none => False
def dTru (t : TED) : TTD := fun Xd s M Q => t Xd s M (truK Q)
theorem emp_of {K : Fg} {H : Hp} {M : Mem} {ds : List D} {xs : List V} (r : Rs K H M ds xs) : xs.isEmpty = ds.isEmpty := by
  have h := Rs.len r
  cases ds with
  | nil =>
    have e : xs = [] := List.eq_nil_of_length_eq_zero (by simpa using h.symm)
    subst e
    rfl
  | cons d ds =>
    cases xs with
    | nil => simp at h
    | cons x xs => rfl
theorem dt_tru (h : DE X E a ta) (he : ∀ whole, isTrue a X.env whole = (do let v ← whole; standAt a.pos; holding [v] (truthy v)) := by intro _; rfl) : DT X E a (dTru ta) :=
  ⟨PT.imp (pt_truth h.ok he) fun σ H Q ⟨s, M, Qd, Xd, S, x, z, q⟩ => by
    refine useE S x z fun d v M1 H1 g1 S1 x1 r1 t1 => ?_
    unfold truK at t1
    split at t1
    · rename_i k hk
      refine ⟨k, ?_, q k H1 ⟨M1, g1, S1.mem, t1⟩⟩
      unfold truO at hk
      split at hk
      · rename_i h; cases hk; rw [vw_non r1 h]; exact rfl
      · rename_i b h; cases hk; rw [vw_bl r1 h]; exact rfl
      · rename_i b h; cases hk; rw [vw_int r1 h]; exact rfl
      · rename_i b h
        split at hk
        · rename_i hz; cases hk; rw [vw_str r1 h]; exact ⟨hz, rfl⟩
        · cases hk
      · rename_i ds h
        cases hk
        obtain ⟨p, ys, rfl, ha, sa⟩ := vw_tup r1 h
        exact .inr (.inl ⟨ys, ha.sq, by rw [emp_of sa]⟩)
      · rename_i ds h
        cases hk
        obtain ⟨p, ys, rfl, ha, sa⟩ := vw_lst S1.mem r1 h
        exact .inl ⟨ys, SqL.of ha, by rw [emp_of sa]⟩
      · rename_i ds h
        cases hk
        obtain ⟨p, ys, rfl, ha, sa⟩ := vw_fzn r1 h
        exact .inl ⟨ys, ha.sq, by rw [emp_of sa]⟩
      · cases hk
    · exact t1.elim⟩
/-- a op1 b op2 c -/
def chK (o : O2) (y : D) (tc : TED) (Xd : XD) (s : SD) (Q : QD) : QD := fun d M => match d with
  | .bl k => if k = true then tc Xd s M fun z M2 => o y z M2 Q else Q (.bl false) M
  | _ => False
def dChain (o o' : O2) (ta tb tc : TED) : TED := fun Xd s M Q => ta Xd s M fun x M1 => tb Xd s M1 fun y M2 => o x y M2 (chK o' y tc Xd s Q)
theorem lift_chain {o1 o2 : O2} {r r' : R2} {tc : TED} (hr : ∀ {x y : V} {H : Hp} {Q : VK} {M : Mem} {dx dy : D} {Qd : QD}, MOk X.K H M → Rv X.K H M dx x → Rv X.K H M dy y → o1 dx dy M Qd → (∀ v H', upE X.K H M Qd v H' → Q v H') → r x y H Q)
    (hr' : ∀ {x y : V} {H : Hp} {Q : VK} {M : Mem} {dx dy : D} {Qd : QD}, MOk X.K H M → Rv X.K H M dx x → Rv X.K H M dy y → o2 dx dy M Qd → (∀ v H', upE X.K H M Qd v H' → Q v H') → r' x y H Q)
    {σ : L2.St} {H : Hp} {Q : VK} (z : liftE X.K E (dChain o1 o2 ta tb tc) σ H Q) : tChain r r' (liftE X.K E ta) (liftE X.K E tb) (liftE X.K E tc) σ H Q := by
  obtain ⟨s, M, Qd, Xd, S, x, t, q⟩ := z
  refine useE S x t fun dx v M1 H1 g1 S1 x1 r1 t1 => ?_
  refine useE S1 x1 t1 fun dy u M2 H2 g2 S2 x2 r2 t2 => ?_
  refine hr S2.mem (Rv.grow g2 _ _ r1) r2 t2 fun w H' ⟨d, M', g, m, rd, z⟩ => ?_
  unfold chK at z
  split at z
  · rename_i k
    refine ⟨k, rd, ?_⟩
    cases k with
    | false => exact q _ _ ⟨.bl false, M', (g1.trans g2).trans g, m, rfl, z⟩
    | true =>
      refine useE (S2.grow g m) (x2.grow g) z fun dz w M3 H3 g3 S3 x3 r3 t3 => ?_
      exact hr' S3.mem (Rv.grow g3 _ _ (Rv.grow g _ _ r2)) r3 t3 (fwd (((g1.trans g2).trans g).trans g3) q)
  · exact z.elim
theorem de_chain {op op' : CmpOp} {o1 o2 : O2} {tc : TED} (h : DOp X (compareOp op) o1) (h' : DOp X (compareOp op') o2) (ha : DE X E a ta) (hb : DE X E b tb) (hc : DE X E c tc) (hm : lastMarks [op, op'] [b, c] = false := by with_unfolding_all rfl) :
    DE X E (.Compare a [op, op'] [b, c] pos) (dChain o1 o2 ta tb tc) :=
  ⟨PE.imp (pe_chain h.toR h'.toR ha.ok hb.ok hc.ok hm) fun σ H Q z => lift_chain (fun mo r1 r2 t q => ⟨_, _, _, _, mo, r1, r2, t, q⟩) (fun mo r1 r2 t q => ⟨_, _, _, _, mo, r1, r2, t, q⟩) z⟩
theorem dt_chain {op op' : CmpOp} {o1 o2 : O2} {tc : TED} (h : DOp X (compareOp op) o1) (h' : DOp X (compareOp op') o2) (ha : DE X E a ta) (hb : DE X E b tb) (hc : DE X E c tc) (hm : lastMarks [op, op'] [b, c] = false := by with_unfolding_all rfl) :
    DT X E (.Compare a [op, op'] [b, c] pos) (dTst (dChain o1 o2 ta tb tc)) :=
  ⟨PT.imp (pt_chain h.toR h'.toR ha.ok hb.ok hc.ok hm) fun σ H Q z => lift_chain (fun mo r1 r2 t q => ⟨_, _, _, _, mo, r1, r2, t, q⟩) (fun mo r1 r2 t q => ⟨_, _, _, _, mo, r1, r2, t, q⟩) (liftB z)⟩

/-! ### subscripts -/
def valD (ks : List Key) (ds : List D) (k : Key) : Option D := ((ks.zip ds).find? fun kv => decide (kv.1 = k)).map (·.2)
def keyD : D → Option Key
  | .int i => some (.inl i)
  | .str x => some (.inr x)
  | _ => none
theorem zip_val {K : Fg} {H : Hp} {M : Mem} (k : Key) : ∀ {ks : List Key} {ds : List D} {xs : List V}, Rs K H M ds xs → ∀ {d : D}, valD ks ds k = some d → ∃ v, valV (ks.zip xs) k = some v ∧ Rv K H M d v
  | [], ds, xs, r, d, e => by cases e
  | j :: ks, [], xs, r, d, e => by
    have : valD (j :: ks) [] k = none := rfl
    rw [this] at e; cases e
  | j :: ks, d0 :: ds, _, ⟨v, rr, rfl, h, q⟩, d, e => by
    by_cases hj : j = k
    · have e1 : valD (j :: ks) (d0 :: ds) k = some d0 := by
        unfold valD
        rw [List.zip_cons_cons, List.find?_cons]
        simp [hj]
      rw [e1] at e; cases e
      exact ⟨v, by rw [List.zip_cons_cons]; exact valV_pos hj, h⟩
    · have e1 : valD (j :: ks) (d0 :: ds) k = valD ks ds k := by
        unfold valD
        rw [List.zip_cons_cons, List.find?_cons]
        simp [hj]
      rw [e1] at e
      obtain ⟨w, h1, h2⟩ := zip_val k q e
      exact ⟨w, by rw [List.zip_cons_cons, valV_neg hj]; exact h1, h2⟩
theorem zip_none {K : Fg} {H : Hp} {M : Mem} (k : Key) : ∀ {ks : List Key} {ds : List D} {xs : List V}, Rs K H M ds xs → (valV (ks.zip xs) k).isSome = (valD ks ds k).isSome
  | [], ds, xs, r => rfl
  | j :: ks, [], xs, r => by
    have e : xs = [] := r
    subst e; rfl
  | j :: ks, d0 :: ds, _, ⟨v, rr, rfl, h, q⟩ => by
    by_cases hj : j = k
    · have e1 : valD (j :: ks) (d0 :: ds) k = some d0 := by
        unfold valD
        rw [List.zip_cons_cons, List.find?_cons]
        simp [hj]
      rw [e1, List.zip_cons_cons, valV_pos hj]; rfl
    · have e1 : valD (j :: ks) (d0 :: ds) k = valD ks ds k := by
        unfold valD
        rw [List.zip_cons_cons, List.find?_cons]
        simp [hj]
      rw [e1, List.zip_cons_cons, valV_neg hj]
      exact zip_none k q
theorem key_of_d {K : Fg} {H : Hp} {M : Mem} {d : D} {k : Key} {v : V} (r : Rv K H M d v) (e : keyD d = some k) : v = kV k := by
  cases d with
  | int i => have e' : some (Sum.inl i) = some k := e; cases e'; exact r
  | str x => have e' : some (Sum.inr x) = some k := e; cases e'; exact r
  | _ => cases e
theorem ix_dict (hu : X.A.units + 1 < cLine) : IxR X (fun x y H Q => ∃ a v, x = .ref a ∧ DGet H a y (some v) ∧ Q v H) := by
  intro value slice pins s σ H x y v u Q I rx ry h hs
  obtain ⟨p, w, rfl, g, q⟩ := h
  cases rx
  exact tail_any (dict_typeIs I g) PySem.F.slot_dict_getitem.lookup (d_getItem hu I g ry fun w' s3 I3 rw' => ⟨w, H, I3, rw', q⟩) hs
def ixO (M : Mem) (x y : D) : Option D := match vw M x with
  | .tup ds => match y with
    | .int i => atI ds i
    | _ => none
  | .lst ds => match y with
    | .int i => atI ds i
    | _ => none
  | .fzn ds => match y with
    | .int i => atI ds i
    | _ => none
  | .dct ks ds => match keyD y with
    | some k => valD ks ds k
    | none => none
  | .str z => match y with
    | .int i => if z.length ≤ sizeLine then (atI z.cps.toList i).map fun c => .str ⟨#[c]⟩ else none
    | _ => none
  | _ => none
def ixD : O2 := fun x y M Q => match ixO M x y with
  | some d => Q d M
  | none => False
theorem atI_rs {K : Fg} {H : Hp} {M : Mem} {ds : List D} {xs : List V} {i : Int} {d : D} (r : Rs K H M ds xs) (e : atI ds i = some d) : ∃ v, atI xs i = some v ∧ Rv K H M d v := by
  unfold atI at e ⊢
  rw [← Rs.len r]
  cases q : ixN ds.length i with
  | none => rw [q] at e; cases e
  | some j =>
    rw [q] at e
    exact Rs.get r e
theorem de_ix (hu : X.A.units + 1 < cLine) (ha : DE X E a ta) (hb : DE X E b tb) (hs : PlainIx b) : DE X E (.Subscript a b pos) (dOp ixD ta tb) :=
  ⟨PE.imp (pe_ix (ix_seq.or (ix_dict hu)) ha.ok hb.ok hs) fun σ H Q z => lift2 (fun {x y H Q M dx dy Qd} mo r1 r2 t q => by
    unfold ixD at t
    split at t
    · rename_i d hd
      unfold ixO at hd
      split at hd
      · rename_i ds h
        split at hd
        · rename_i i
          obtain ⟨p, xs, rfl, hp, sp⟩ := vw_tup r1 h
          obtain ⟨v, hv, rv⟩ := atI_rs sp hd
          exact .inl (.inr (.inl ⟨p, xs, i, v, rfl, r2, hp.sq, hv, q _ _ ⟨d, M, Gw.refl, mo, rv, t⟩⟩))
        · cases hd
      · rename_i ds h
        split at hd
        · rename_i i
          obtain ⟨p, xs, rfl, hp, sp⟩ := vw_lst mo r1 h
          obtain ⟨v, hv, rv⟩ := atI_rs sp hd
          exact .inl (.inl ⟨p, xs, i, v, rfl, r2, SqL.of hp, hv, q _ _ ⟨d, M, Gw.refl, mo, rv, t⟩⟩)
        · cases hd
      · rename_i ds h
        split at hd
        · rename_i i
          obtain ⟨p, xs, rfl, hp, sp⟩ := vw_fzn r1 h
          obtain ⟨v, hv, rv⟩ := atI_rs sp hd
          exact .inl (.inl ⟨p, xs, i, v, rfl, r2, hp.sq, hv, q _ _ ⟨d, M, Gw.refl, mo, rv, t⟩⟩)
        · cases hd
      · rename_i ks ds h
        split at hd
        · rename_i k hk
          obtain ⟨p, xs, rfl, hp, hl, sp⟩ := vw_dct mo r1 h
          obtain ⟨v, hv, rv⟩ := zip_val k sp hd
          refine .inr ⟨p, v, rfl, ?_, q _ _ ⟨d, M, Gw.refl, mo, rv, t⟩⟩
          rw [key_of_d r2 hk, ← hv]
          exact DGet.k hp
        · cases hd
      · rename_i z h
        split at hd
        · rename_i i
          split at hd
          · rename_i hz
            cases hc : atI z.cps.toList i with
            | none => rw [hc] at hd; cases hd
            | some c =>
              rw [hc] at hd
              cases hd
              exact .inl (.inr (.inr ⟨z, i, c, vw_str r1 h, r2, hz, hc, q _ _ ⟨.str ⟨#[c]⟩, M, Gw.refl, mo, rfl, t⟩⟩))
          · cases hd
        · cases hd
      · cases hd
    · exact t.elim) z⟩
end
end DL
set_option maxHeartbeats 1000000
namespace DL
open PySem PySem.Spec PyProof.Rows L2

/-! ### defs -/
structure RoomG (k : Nat) (A : Around) : Prop where
  r : Room k A
  g : A.guards = some []
theorem RoomG.mono {j k : Nat} {A : Around} (h : RoomG k A) (le : j ≤ k) : RoomG j A := ⟨h.r.mono le, h.g⟩
theorem RoomG.deeper {k : Nat} {A : Around} (h : RoomG (k + 1) A) (env : Env) : RoomG k (A.deeper env) := ⟨h.r.deeper env, h.g⟩
abbrev SpD := List D → Mem → QD → XD → Prop
structure DFn (P : Program) (w : World) (K : Fg) (mg : Str → Option Value) (base : Heap) (k : Nat) (f : Addr) (fd : FuncData) (ps : List Str) (sp : SpD) : Prop where
  run : ∀ (A : Around) (outer : List Env) (s : Shared) (H : Hp) (M : Mem) (args : Args) (us : List Value) (vs : List V) (ds : List D) (Qd : QD) (Xd : XD) (Q : VK) (E : XK), RoomG k A → Env0 P w K mg base A outer s H → ds.length = ps.length → BindsTo s fd args (ps.zip us) → Vals vs us → MOk K H M → Rs K H M ds vs →
    sp ds M Qd Xd → (∀ v H', upE K H M Qd v H' → Q v H') → XTo K H M Xd E → codeAny (model P w) A (.call (.ref f) args) (CR (L2.CX P w) outer P w H s Q E) s
theorem DFn.mono {P : Program} {w : World} {K : Fg} {mg : Str → Option Value} {base : Heap} {j k : Nat} {f : Addr} {fd : FuncData} {ps : List Str} {sp : SpD} (F : DFn P w K mg base j f fd ps sp) (h : j ≤ k) : DFn P w K mg base k f fd ps sp :=
  ⟨fun A outer s H M args us vs ds Qd Xd Q E hr => F.run A outer s H M args us vs ds Qd Xd Q E (hr.mono h)⟩
theorem DFn.imp {P : Program} {w : World} {K : Fg} {mg : Str → Option Value} {base : Heap} {k : Nat} {f : Addr} {fd : FuncData} {ps : List Str} {sp sp' : SpD} (F : DFn P w K mg base k f fd ps sp) (h : ∀ ds M Q Xd, sp' ds M Q Xd → sp ds M Q Xd) : DFn P w K mg base k f fd ps sp' :=
  ⟨fun A outer s H M args us vs ds Qd Xd Q E hr e0 hl hb hv mo rs t => F.run A outer s H M args us vs ds Qd Xd Q E hr e0 hl hb hv mo rs (h _ _ _ _ t)⟩

/-- the result may be read as other data, of less that is owned -/
structure Le (M M2 : Mem) (d d2 : D) : Prop where
  sub : ∀ a o, M2 a = some o → M a = some o
  nn : ∀ a, M a = none → M2 a = none
  rv : ∀ (K : Fg) (H : Hp) (v : V), MOk K H M → Rv K H M d v → Rv K H M2 d2 v
def Lo (Q : QD) : QD := fun d M => ∃ d2 M2, Le M M2 d d2 ∧ Q d2 M2
theorem Le.refl {M : Mem} {d : D} : Le M M d d := ⟨fun _ _ h => h, fun _ h => h, fun _ _ _ _ h => h⟩
theorem lo_same {Q : QD} {d : D} {M : Mem} (h : Q d M) : Lo Q d M := ⟨d, M, .refl, h⟩
/-- drop what is owned at a -/
theorem lo_drop {Q : QD} {d : D} {M : Mem} (a : Addr) (h : Lo Q d (M.del a)) : Lo Q d M := by
  obtain ⟨d2, M2, l, q⟩ := h
  have hs : ∀ b o, (M.del a) b = some o → M b = some o := fun b o e => by
    by_cases z : b = a
    · subst z; rw [Mem.del_same] at e; cases e
    · rw [Mem.del_ne z] at e; exact e
  have hn : ∀ b, M b = none → (M.del a) b = none := fun b e => by
    by_cases z : b = a
    · subst z; exact Mem.del_same
    · rw [Mem.del_ne z]; exact e
  exact ⟨d2, M2, ⟨fun b o e => hs b o (l.sub b o e), fun b e => l.nn b (hn b e), fun K H v mo r => l.rv K H v (mok_less hs hn mo) (Rv.grow (gw_less hn) d v r)⟩, q⟩
/-- freeze the list that is handed back -/
theorem lo_frz {Q : QD} {M : Mem} {a : Addr} {ds : List D} (e : M a = some (.lst ds)) (h : Lo Q (.lst ds) (M.del a)) : Lo Q (.ref a) M := by
  obtain ⟨d2, M2, l, q⟩ := h
  have hs : ∀ b o, (M.del a) b = some o → M b = some o := fun b o e => by
    by_cases z : b = a
    · subst z; rw [Mem.del_same] at e; cases e
    · rw [Mem.del_ne z] at e; exact e
  have hn : ∀ b, M b = none → (M.del a) b = none := fun b e => by
    by_cases z : b = a
    · subst z; exact Mem.del_same
    · rw [Mem.del_ne z]; exact e
  refine ⟨d2, M2, ⟨fun b o e => hs b o (l.sub b o e), fun b e => l.nn b (hn b e), fun K H v mo r => ?_⟩, q⟩
  obtain ⟨xs, h1, h2⟩ := mo a _ e
  exact l.rv K H v (mok_less hs hn mo) ⟨a, xs, r, h1, Mem.del_same, Rs.grow (gw_less hn) ds xs h2⟩
theorem Le.up {K : Fg} {H H' : Hp} {M M1 M2 : Mem} {d d2 : D} {v : V} {Q : QD} (l : Le M1 M2 d d2) (g : Gw H M H' M1) (m : MOk K H' M1) (r : Rv K H' M1 d v) (q : Q d2 M2) : upE K H M Q v H' :=
  ⟨d2, M2, g.trans (gw_less l.nn), mok_less l.sub l.nn m, l.rv K H' v m r, q⟩

/-- the names' values at the entry, as data -/
def startD (N : List Str) (ds : List D) : SD := ds.map some ++ List.replicate (N.length - ds.length) none
theorem start_ok {K : Fg} {H : Hp} {M : Mem} {N : List Str} {ds : List D} {vs : List V} (mo : MOk K H M) (r : Rs K H M ds vs) : StOk K (L2.start N vs) H (startD N ds) M := by
  have hl := Rs.len r
  refine ⟨by unfold L2.start startD; rw [List.length_append, List.length_append, List.length_map, List.length_map, List.length_replicate, List.length_replicate, hl], fun i d e => ?_, mo⟩
  unfold startD at e
  by_cases hi : i < ds.length
  · rw [List.getElem?_append_left (by simpa using hi), List.getElem?_map] at e
    cases q : ds[i]? with
    | none => rw [q] at e; cases e
    | some d' =>
      rw [q] at e
      cases e
      obtain ⟨v, h1, h2⟩ := Rs.get r q
      refine ⟨v, ?_, h2⟩
      unfold L2.start
      rw [List.getElem?_append_left (by rw [List.length_map, ← hl]; exact hi), List.getElem?_map, h1]
      rfl
  · rw [List.getElem?_append_right (by simpa using hi), List.getElem?_replicate] at e
    split at e <;> cases e

/-- a def's body, read as td, keeps sp -/
def bodyD (td : TSD) (N : List Str) : SpD := fun ds M Q Xd => td { nx := fun _ M' => Lo Q .non M', rt := Lo Q, bk := fun _ _ => False, ct := fun _ _ => False, ex := Xd } (startD N ds) M
theorem dfn_of {P : Program} {w : World} {K : Fg} {mg : Str → Option Value} {base : Heap} {x qual : Str} {st : Stmt} {f : Addr} {fd : FuncData} {N ps : List Str} {k : Nat} {td : TSD} (F : Fun K x qual st f fd) (S : FnScope N ps (defScope st))
    (hbody : ∀ (cdv : Value) (A : Around) (outer : List Env) (s : Shared) (H : Hp) (E : XK), RoomG k (A.deeper (envOfC qual (defScope st) s.heap.objs.size f cdv)) →
      DSs (cxOf (L2.CX P w) P w K mg base N qual (defScope st) f cdv A outer s H E) E (defBody st) td) : DFn P w K mg base (k + 1) f fd ps (bodyD td N) := by
  obtain ⟨oc, od, kV, doc, pm, an, cdv, ct, osl, rfl, lk, hcd⟩ := F.ex
  refine ⟨fun A outer s H M args us vs ds Qd Xd Q E hr e0 hlen hb r mo rs hsp hq hx => ?_⟩
  have hl : vs.length = ps.length := (vlen rs).trans hlen
  have KX : K.In s.heap := e0.mod.kin.keeps fun b o e => (e0.bs b o e).1
  have lim : s.heap.NoLimit := e0.mod.nolimit.keeps fun b o e => (e0.bs b o e).1
  have hkind : ∀ y ∈ ps.zip us, (defScope st).names.lookup y.1 = some .local ∨ ((defScope st).names.lookup y.1 = some .cell ∧ ((cellsFrom (s.heap.objs.size + 1) (defScope st).names []).lookup y.1).isSome = true) := fun ⟨n, v⟩ hy => by
    rcases S.par n (List.of_mem_zip hy).1 with q | q
    · exact .inl q
    · exact .inr ⟨q, PySem.W.cellsFrom_some _ _ _ (.inl q)⟩
  refine codeAny_call_function hr.r.depth (KX _ _ lk) rfl S.co S.gen rfl (PySem.W.codeRec_of KX hcd) (hb _ _ _ _ ?_)
  refine wpAny_newFunctionEnv_cells S.kind hkind fun env he s1 x => ?_
  subst he
  refine ⟨lim.keeps x.toInCall.keep, codeAny_func ?_⟩
  have ht := hbody cdv A outer s H E (hr.deeper _)
  have I : Inv (cxOf (L2.CX P w) P w K mg base N qual (defScope st) f cdv A outer s H E) [] (L2.start N vs) H s1 := inv_start S hr.r.hd e0 hl r x
  refine wpAny_mono (ht.ok.run [] s1 (L2.start N vs) H { nx := fun _ H' => Q .non H', rt := Q } I ?_) (fun fl s' hs => ?_) fun e s' hs => hs
  · refine ⟨startD N ds, M, { nx := fun _ M' => Lo Qd .non M', rt := Lo Qd, bk := fun _ _ => False, ct := fun _ _ => False, ex := Xd }, start_ok mo rs, hx, hsp, fun σ' H' ⟨s', M', g, S', q⟩ => ?_, fun v H' ⟨d, M', g, m, rd, q⟩ => ?_, fun σ' H' ⟨s', M', g, S', q⟩ => q.elim, fun σ' H' ⟨s', M', g, S', q⟩ => q.elim⟩
    · obtain ⟨d2, M2, l, q⟩ := q
      exact hq _ _ (l.up g S'.mem rfl q)
    · obtain ⟨d2, M2, l, q⟩ := q
      exact hq _ _ (l.up g m rd q)
  have fin : ∀ {σ' : L2.St} {H' : Hp} {v : V} {u : Value}, Inv (cxOf (L2.CX P w) P w K mg base N qual (defScope st) f cdv A outer s H E) [] σ' H' s' → RelV v u → Q v H' → CE outer P w H s Q u s' :=
    fun {σ' H' v u} J rv q => ⟨v, H', J.os, J.bare, J.base, J.hok, rv, q⟩
  cases fl with
  | ret u =>
    obtain ⟨v, σ', H', J, rv, q⟩ := hs
    exact fin J rv q
  | next =>
    obtain ⟨σ', H', J, q⟩ := hs
    exact fin (v := V.non) (u := Value.none) J rfl q
  | brk =>
    obtain ⟨_, _, _, q⟩ := hs
    exact False.elim q
  | cont =>
    obtain ⟨_, _, _, q⟩ := hs
    exact False.elim q

section
variable {X : Cx} {E : XK} {n k : Nat} {f : Addr} {fd : FuncData} {ps : List Str} {sp : SpD} {ds0 : List Value} {dvs : List V} {dd : List D} {x : Str} {p pos : Pos} {e a b c : Expr} {es : List Expr} {ts : TAD} {te ta tb : TED}
theorem run_fnD {pins : List (Addr × Obj)} {σ : L2.St} {H : Hp} {M : Mem} {s : Shared} {Q : VK} {Qd : QD} {Xd : XD} {us : List Value} {vs : List V} {ds : List D} (F : DFn X.prog X.w X.K X.mg X.base k f fd ps sp) (hr : RoomG k X.A) (hb : Binds X.K fd ps ds0) (hd : Vals dvs ds0) (hx : Passes (L2.CX X.prog X.w) X E)
    (I : Inv X pins σ H s) (r : Vals vs us) (mo : MOk X.K H M) (rs : Rs X.K H M ds vs) (rd : Rs X.K H M dd dvs) (hlen : (ds ++ dd).length = ps.length) (h : sp (ds ++ dd) M Qd Xd) (q : ∀ v H', upE X.K H M Qd v H' → Q v H') (xt : XTo X.K H M Xd E) :
    wpAny (model X.prog X.w) X.A (call (.ref f) us) (EP X pins σ Q) X.xe s := by
  have r2 : Vals (vs ++ dvs) (us ++ ds0) := r.append hd
  have hl : (us ++ ds0).length = ps.length := by rw [← r2.length, ← hlen]; exact vlen (Rs.append rs rd)
  refine wpAny_call (codeAny_mono (F.run X.A X.stack s H M ⟨us, []⟩ (us ++ ds0) (vs ++ dvs) (ds ++ dd) Qd Xd Q E hr I.env0 hlen (hb s us I.kIn hl) r2 mo (Rs.append rs rd) h q xt) fun r s' hq => ?_)
  cases r with
  | error e => exact hx pins σ H s e s' I hq
  | ok fl =>
    cases fl with
    | ret u => exact I.after hq
    | next => exact False.elim hq
    | brk => exact False.elim hq
    | cont => exact False.elim hq
def dCall (sp : SpD) (dd : List D) (t : TAD) : TED := fun Xd s M Q => t Xd s M fun ds M1 => sp (ds ++ dd) M1 Q Xd
theorem de_call (F : DFn X.prog X.w X.K X.mg X.base k f fd ps sp) (hr : RoomG k X.A) (hg : Gl X x) (hm : X.mg x = some (.ref f)) (hk : PySem.W.keepIn X.K (.ref f) = true) (hb : Binds X.K fd ps ds0) (hd : Vals dvs ds0) (rd : ∀ H M, Rs X.K H M dd dvs) (hx : Passes (L2.CX X.prog X.w) X E)
    (ha : DN X E n (e :: es) ts) (hn : n + dvs.length = ps.length := by rfl) (hdb : (x == ("__debug__" : Str)) = false := by decide) (he : starEach (e :: es) X.env = (false, eval e X.env) :: starEach es X.env := by rfl) (hpl : (backTo pos (starEach es X.env)).any (·.1) = false := by rfl) :
    DE X E (.Call (.Name x p) (e :: es) [] pos) (dCall sp dd ts) := by
  refine ⟨⟨fun pins s σ H Q I ⟨sd, M, Qd, Xd, S, xt, t, q⟩ => ?_⟩⟩
  refine wpAny_Call_Name_kw (ld_glob I hg hm ?_ hdb)
  refine PySem.W.callWith_K (h₀ := X.base) I.ok.mod.kin hk (thn (ha.ok.run pos pins s σ H _ I (useN (n := n) (Q := fun vs H1 => vs.length = n ∧ ∃ ds M1, Gw H M H1 M1 ∧ StOk X.K σ H1 sd M1 ∧ XTo X.K H1 M1 Xd E ∧ Rs X.K H1 M1 ds vs ∧ sp (ds ++ dd) M1 Qd Xd) S xt t
    fun ds vs M1 H1 hl g1 S1 x1 r1 t1 => ⟨hl, ds, M1, g1, S1, x1, r1, t1⟩)) fun us s1 ⟨vs, H1, I1, r, hl, ds, M1, g1, S1, x1, r1, t1⟩ => ⟨I1.kIn, ?_⟩) he hpl
  refine run_fnD F hr hb hd hx I1 r S1.mem r1 (rd H1 M1) ?_ t1 (fwd g1 q) x1
  have h1 : ds.length = n := by rw [Rs.len r1, hl]
  have h2 : dd.length = dvs.length := Rs.len (rd H1 M1)
  rw [List.length_append, h1, h2]
  exact hn
theorem de_call0 (F : DFn X.prog X.w X.K X.mg X.base k f fd ps sp) (hr : RoomG k X.A) (hg : Gl X x) (hm : X.mg x = some (.ref f)) (hk : PySem.W.keepIn X.K (.ref f) = true) (hb : Binds X.K fd ps ds0) (hd : Vals dvs ds0) (rd : ∀ H M, Rs X.K H M dd dvs) (hx : Passes (L2.CX X.prog X.w) X E)
    (hn : dvs.length = ps.length := by rfl) (hdb : (x == ("__debug__" : Str)) = false := by decide) : DE X E (.Call (.Name x p) [] [] pos) (dCall sp dd dNil) := by
  refine ⟨⟨fun pins s σ H Q I ⟨sd, M, Qd, Xd, S, xt, t, q⟩ => ?_⟩⟩
  refine wpAny_Call_Name_kw (ld_glob I hg hm ?_ hdb)
  refine PySem.W.callWith_K0 I.kIn hk (run_fnD (us := []) (vs := []) (ds := []) F hr hb hd hx I .nil S.mem rfl (rd H M) ?_ t q xt)
  rw [List.nil_append, Rs.len (rd H M)]
  exact hn

/-! ### statements -/
theorem fwdE {K : Fg} {H H1 : Hp} {M M1 : Mem} {Y : EndsD} {Z : Ends} (g : Gw H M H1 M1)
    (h : (∀ σ' H', upS K H M Y.nx σ' H' → Z.nx σ' H') ∧ (∀ v H', upE K H M Y.rt v H' → Z.rt v H') ∧ (∀ σ' H', upS K H M Y.bk σ' H' → Z.bk σ' H') ∧ (∀ σ' H', upS K H M Y.ct σ' H' → Z.ct σ' H')) :
    (∀ σ' H', upS K H1 M1 Y.nx σ' H' → Z.nx σ' H') ∧ (∀ v H', upE K H1 M1 Y.rt v H' → Z.rt v H') ∧ (∀ σ' H', upS K H1 M1 Y.bk σ' H' → Z.bk σ' H') ∧ (∀ σ' H', upS K H1 M1 Y.ct σ' H' → Z.ct σ' H') :=
  ⟨fwdS g h.1, fwd g h.2.1, fwdS g h.2.2.1, fwdS g h.2.2.2⟩
theorem upS_here {K : Fg} {σ : L2.St} {H : Hp} {M : Mem} {s : SD} {Q : SD → Mem → Prop} (S : StOk K σ H s M) (q : Q s M) : upS K H M Q σ H := ⟨s, M, Gw.refl, S, q⟩
variable {st : Stmt} {rest body orelse : List Stmt} {t u : TSD}
def sNx : TSD := fun Y s M => Y.nx s M
def sSeq (t u : TSD) : TSD := fun Y s M => t { Y with nx := u Y } s M
theorem dss_nil : DSs X E [] sNx := ⟨PSs.imp pss_nil fun Z σ H ⟨s, M, Y, S, x, t, h⟩ => h.1 _ _ (upS_here S t)⟩
theorem dss_cons (h1 : DS X E st t) (h2 : DSs X E rest u) : DSs X E (st :: rest) (sSeq t u) :=
  ⟨PSs.imp (pss_cons h1.ok h2.ok) fun Z σ H ⟨s, M, Y, S, x, z, h⟩ => by
    refine ⟨s, M, { Y with nx := u Y }, S, x, z, fun σ' H' ⟨s', M', g, S', z'⟩ => ?_, h.2.1, h.2.2.1, h.2.2.2⟩
    exact ⟨s', M', Y, S', x.grow g, z', fwdE g h⟩⟩
theorem dss_one (h1 : DS X E st t) : DSs X E [st] t := ⟨pss_one h1.ok⟩
theorem ds_pass : DS X E (.Pass pos) sNx := ⟨PS.imp ps_pass fun Z σ H ⟨s, M, Y, S, x, t, h⟩ => h.1 _ _ (upS_here S t)⟩
def sBk : TSD := fun Y s M => Y.bk s M
def sCt : TSD := fun Y s M => Y.ct s M
theorem ds_break : DS X E (.Break pos) sBk := ⟨PS.imp ps_break fun Z σ H ⟨s, M, Y, S, x, t, h⟩ => h.2.2.1 _ _ (upS_here S t)⟩
theorem ds_continue : DS X E (.Continue pos) sCt := ⟨PS.imp ps_continue fun Z σ H ⟨s, M, Y, S, x, t, h⟩ => h.2.2.2 _ _ (upS_here S t)⟩
theorem ds_doc {y j pos'} : DS X E (.Expr (.Constant (.str y) j pos) pos') sNx := ⟨PS.imp ps_doc fun Z σ H ⟨s, M, Y, S, x, t, h⟩ => h.1 _ _ (upS_here S t)⟩
def sExpr (te : TED) : TSD := fun Y s M => te Y.ex s M fun _ M1 => Y.nx s M1
theorem ds_expr (he : DE X E e te) (hs : swapsWith e none pos.line X.env = pure false := by rfl) : DS X E (.Expr e pos) (sExpr te) :=
  ⟨PS.imp (ps_expr he.ok hs) fun Z σ H ⟨s, M, Y, S, x, t, h⟩ => useE S x t fun d v M1 H1 g1 S1 x1 r1 t1 => h.1 _ _ ⟨s, M1, g1, S1, t1⟩⟩
def sRet (te : TED) : TSD := fun Y s M => te Y.ex s M Y.rt
theorem ds_ret (he : DE X E e te) : DS X E (.Return (some e) pos) (sRet te) :=
  ⟨PS.imp (ps_ret he.ok) fun Z σ H ⟨s, M, Y, S, x, t, h⟩ => useE S x t fun d v M1 H1 g1 S1 x1 r1 t1 => h.2.1 _ _ ⟨d, M1, g1, S1.mem, r1, t1⟩⟩
def sRetN : TSD := fun Y s M => Y.rt .non M
theorem ds_retN : DS X E (.Return none pos) sRetN := ⟨PS.imp ps_retN fun Z σ H ⟨s, M, Y, S, x, t, h⟩ => h.2.1 _ _ ⟨.non, M, Gw.refl, S.mem, rfl, t⟩⟩
def sIf (c : TTD) (t u : TSD) : TSD := fun Y s M => c Y.ex s M fun b M1 => if b = true then t Y s M1 else u Y s M1
theorem ds_if {tc : TTD} (hc : DT X E c tc) (ha : DSs X E body t) (hb : DSs X E orelse u) : DS X E (.If c body orelse pos) (sIf tc t u) :=
  ⟨PS.imp (ps_if hc.ok ha.ok hb.ok) fun Z σ H ⟨s, M, Y, S, x, z, h⟩ => useT S x z fun k M1 H1 g1 S1 x1 t1 => by
    cases k with
    | true => exact ⟨s, M1, Y, S1, x1, t1, fwdE g1 h⟩
    | false => exact ⟨s, M1, Y, S1, x1, t1, fwdE g1 h⟩⟩
def sNever : TSD := fun _ _ _ => False
theorem ds_never : DS X E st sNever := ⟨PS.imp ps_never fun Z σ H ⟨s, M, Y, S, x, z, h⟩ => z⟩
theorem dss_never {sts : List Stmt} : DSs X E sts sNever := ⟨PSs.imp pss_never fun Z σ H ⟨s, M, Y, S, x, z, h⟩ => z⟩

/-! ### targets -/
abbrev TGD := D → XD → SD → Mem → (SD → Mem → Prop) → Prop
abbrev TGsD := List D → XD → SD → Mem → (SD → Mem → Prop) → Prop
structure DG (X : Cx) (E : XK) (target : Expr) (t : TGD) : Prop where
  ok : ∃ g, PG X target g ∧ ∀ {v : V} {d : D} {σ : L2.St} {H : Hp} {s : SD} {M : Mem} {Xd : XD} {Qd : SD → Mem → Prop} {Q : L2.St → Hp → Prop}, StOk X.K σ H s M → XTo X.K H M Xd E → Rv X.K H M d v → t d Xd s M Qd →
    (∀ σ' H', upS X.K H M Qd σ' H' → Q σ' H') → g v σ H Q
structure DGs (X : Cx) (E : XK) (targets : List Expr) (n : Nat) (t : TGsD) : Prop where
  ok : ∃ g, PGs X targets g ∧ ∀ {vs : List V} {ds : List D} {σ : L2.St} {H : Hp} {s : SD} {M : Mem} {Xd : XD} {Qd : SD → Mem → Prop} {Q : L2.St → Hp → Prop}, StOk X.K σ H s M → XTo X.K H M Xd E → Rs X.K H M ds vs → t ds Xd s M Qd →
    (∀ σ' H', upS X.K H M Qd σ' H' → Q σ' H') → g vs σ H Q
def gNm (i : Nat) : TGD := fun d _ s M Q => Q (s.set i (some d)) M
theorem dg_name {i : Nat} {x : Str} (hN : X.N.Nodup) (hi : X.N[i]? = some x) (hx : Loc X.env.scope x) (hf : X.fn x = true ∨ X.env.scope.names.lookup x = some .local := by first | exact .inl rfl | exact .inr rfl | assumption) : DG X E (.Name x pos) (gNm i) :=
  ⟨gName i, pg_name hN hi hx hf, fun S x r t q => q _ _ ⟨_, _, Gw.refl, S.set i r, t⟩⟩
def gNi : TGsD := fun ds _ s M Q => match ds with
  | [] => Q s M
  | _ => False
def gCo (t : TGD) (u : TGsD) : TGsD := fun ds Xd s M Q => match ds with
  | [] => False
  | d :: r => t d Xd s M fun s' M' => u r Xd s' M' Q
theorem dgs_nil : DGs X E [] 0 gNi := ⟨gNil, pgs_nil, fun {vs ds σ H s M Xd Qd Q} S x r t q => by
  cases ds with
  | nil => exact ⟨r, q _ _ (upS_here S t)⟩
  | cons d ds => exact t.elim⟩
theorem dgs_cons {t : TGD} {u : TGsD} (h1 : DG X E e t) (h2 : DGs X E es n u) (hs : (assignEach (e :: es) X.env).map (·.2) = assign e X.env :: (assignEach es X.env).map (·.2) := by rfl) : DGs X E (e :: es) (n + 1) (gCo t u) := by
  obtain ⟨g1, p1, q1⟩ := h1.ok
  obtain ⟨g2, p2, q2⟩ := h2.ok
  refine ⟨gCons g1 g2, pgs_cons p1 p2 hs, fun {vs ds σ H s M Xd Qd Q} S x r t q => ?_⟩
  cases ds with
  | nil => exact t.elim
  | cons d ds =>
    obtain ⟨v, vr, rfl, rd, rr⟩ := r
    refine ⟨v, vr, rfl, q1 S x rd t fun σ' H' ⟨s', M', g, S', z⟩ => ?_⟩
    exact q2 S' (x.grow g) (Rs.grow g _ _ rr) z (fwdS g q)
def gTp (n : Nat) (t : TGsD) : TGD := fun d Xd s M Q => match vw M d with
  | .tup ds => ds.length = n ∧ t ds Xd s M Q
  | _ => False
theorem dg_tup {k : Nat} {t : TGsD} (hc : X.calm = true) (h : DGs X E es n t) (hn : (assignEach es X.env).length = n := by rfl) (hst : (assignEach es X.env).findIdx? (·.1) = none := by rfl) : DG X E (.Tuple es k pos) (gTp n t) := by
  obtain ⟨g1, p1, q1⟩ := h.ok
  refine ⟨gTup X.K n g1, pg_tup hc p1 hn hst, fun {v d σ H s M Xd Qd Q} S x r t q => ?_⟩
  unfold gTp at t
  split at t
  · rename_i ds hd
    obtain ⟨a, xs, rfl, ha, sa⟩ := vw_tup r hd
    exact ⟨a, xs, rfl, ha.sq, by rw [vlen sa]; exact t.1, q1 S x sa t.2 q⟩
  · exact t.elim
def sAsg (te : TED) (g : TGD) : TSD := fun Y s M => te Y.ex s M fun d M1 => g d Y.ex s M1 Y.nx
theorem ds_asg {tg : Expr} {g : TGD} (he : DE X E e te) (hg : DG X E tg g) (hs : swapsWithSole [tg] e pos.line X.env = pure false := by rfl) (hw : swappedStores [tg] e X.env = pure none := by rfl)
    (h1 : (assignEach [tg] X.env).map (·.2) = [assign tg X.env] := by rfl) : DS X E (.Assign [tg] e pos) (sAsg te g) := by
  obtain ⟨g1, p1, q1⟩ := hg.ok
  exact ⟨PS.imp (ps_asg he.ok p1 hs hw h1) fun Z σ H ⟨s, M, Y, S, x, t, h⟩ => useE S x t fun d v M1 H1 gr S1 x1 r1 t1 => q1 S1 x1 r1 t1 (fwdS gr h.1)⟩
def sSet (i : Nat) (te : TED) : TSD := fun Y s M => te Y.ex s M fun d M1 => Y.nx (s.set i (some d)) M1
theorem ds_set {i : Nat} {x : Str} {pos' : Pos} (hN : X.N.Nodup) (hi : X.N[i]? = some x) (hx : Loc X.env.scope x) (he : DE X E e te) (hs : swapsWith e (some (.Name x pos')) pos.line X.env = pure false := by rfl) (hf : X.fn x = true ∨ X.env.scope.names.lookup x = some .local := by first | exact .inl rfl | exact .inr rfl | assumption) :
    DS X E (.Assign [.Name x pos'] e pos) (sSet i te) :=
  ⟨PS.imp (ps_set hN hi hx he.ok hs hf) fun Z σ H ⟨s, M, Y, S, x, t, h⟩ => useE S x t fun d v M1 H1 g1 S1 x1 r1 t1 => h.1 _ _ ⟨_, M1, g1, S1.set i r1, t1⟩⟩
/-- a, b = x, y -/
def sPar (i j : Nat) (ta : TAD) : TSD := fun Y s M => ta Y.ex s M fun ds M1 => match ds with
  | [d, e] => Y.nx ((s.set i (some d)).set j (some e)) M1
  | _ => False

/-! ### loops -/
/-- a walk gives the items ds, one by one, while what is watched stands -/
structure ItOk (K : Fg) (J : It) (H0 : Hp) (M0 : Mem) (ow : Option Addr) (ds : List D) : Prop where
  go : ∀ i H M, Gw H0 M0 H M → MOk K H M → (∀ a, ow = some a → M a = M0 a) → i < ds.length → J.go i H ∧ ∀ x H', J.yld i H x H' → ∃ d, ds[i]? = some d ∧ Gw H M H' M ∧ MOk K H' M ∧ Rv K H' M d x
  stop : ∀ H M, Gw H0 M0 H M → MOk K H M → (∀ a, ow = some a → M a = M0 a) → J.stop ds.length H
abbrev TID := XD → SD → Mem → (List D → Option Addr → Mem → Prop) → Prop
structure DI (X : Cx) (E : XK) (tg iter : Expr) (ti : TID) : Prop where
  ok : ∃ wi, PI X tg iter wi ∧ ∀ {σ : L2.St} {H : Hp} {s : SD} {M : Mem} {Xd : XD} {Qd : List D → Option Addr → Mem → Prop} {R : It → Hp → Prop}, StOk X.K σ H s M → XTo X.K H M Xd E → ti Xd s M Qd →
    (∀ J H' M' ow ds, Gw H M H' M' → MOk X.K H' M' → ItOk X.K J H' M' ow ds → Qd ds ow M' → R J H') → wi σ H R
def wat (ow : Option Addr) (M0 M : Mem) : Prop := match ow with
  | some a => M a = M0 a
  | none => True
theorem wat_of {ow : Option Addr} {M0 M : Mem} (h : wat ow M0 M) : ∀ a, ow = some a → M a = M0 a := fun a e => by subst e; exact h
def sForL (g : TGD) (tb : TSD) (Y : EndsD) (W : Mem → Prop) : List D → SD → Mem → Prop
  | [], s, M => W M ∧ Y.nx s M
  | d :: ds, s, M => W M ∧ g d Y.ex s M fun s' M' => tb { Y with nx := sForL g tb Y W ds, ct := sForL g tb Y W ds, bk := Y.nx } s' M'
def sFor (ti : TID) (g : TGD) (tb : TSD) : TSD := fun Y s M => ti Y.ex s M fun ds ow M1 => sForL g tb Y (wat ow M1) ds s M1
theorem ds_for {iter tg : Expr} {ti : TID} {g : TGD} {tb : TSD} (hp : PassesOwn (model X.prog X.w) X.A X.env X.xe) (hc : X.calm = true) (hi : DI X E tg iter ti) (hg : DG X E tg g) (hb : DSs X E body tb)
    (hs : ∀ x, foldedSetIterable iter X.env x = pure x := by intro _; rfl) : DS X E (.For tg iter body [] pos) (sFor ti g tb) := by
  obtain ⟨wi, pi, qi⟩ := hi.ok
  obtain ⟨g1, p1, q1⟩ := hg.ok
  refine ⟨PS.imp (ps_for hp hc pi p1 hb.ok hs) fun Z σ H ⟨s, M, Y, S, x, t, h⟩ => ?_⟩
  refine qi S x t fun J H1 M1 ow ds gr mo io td => ?_
  refine ⟨fun i m σ' H' => m = ds.length - i ∧ i ≤ ds.length ∧ ∃ s' M', Gw H1 M1 H' M' ∧ StOk X.K σ' H' s' M' ∧ sForL g tb Y (wat ow M1) (ds.drop i) s' M', ⟨ds.length, rfl, Nat.zero_le _, s, M1, Gw.refl, S.grow gr mo, td⟩, fun i m σ' H' hW => ?_⟩
  obtain ⟨em, hi', s', M', g', S', td'⟩ := hW
  by_cases hlt : i < ds.length
  · rw [List.drop_eq_getElem_cons hlt] at td'
    obtain ⟨hw, td'⟩ := td'
    obtain ⟨hgo, hy⟩ := io.go i H' M' g' S'.mem (wat_of hw) hlt
    refine .inr ⟨hgo, fun σ2 H2 => ∃ s2 M2, Gw H1 M1 H2 M2 ∧ StOk X.K σ2 H2 s2 M2 ∧ sForL g tb Y (wat ow M1) (ds.drop (i + 1)) s2 M2, fun σ2 H2 ⟨s2, M2, a1, a2, a3⟩ => ⟨ds.length - (i + 1), by omega, rfl, by omega, s2, M2, a1, a2, a3⟩, fun v H2 hyl => ?_⟩
    obtain ⟨d, hd, g2, m2, r2⟩ := hy v H2 hyl
    have ed : d = ds[i] := by rw [List.getElem?_eq_getElem hlt] at hd; exact (Option.some.inj hd).symm
    subst ed
    refine q1 (S'.grow g2 m2) (((x.grow gr).grow g').grow g2) r2 td' fun σ3 H3 ⟨s3, M3, g3, S3, z3⟩ => ?_
    have gg : Gw H1 M1 H3 M3 := (g'.trans g2).trans g3
    refine ⟨s3, M3, { Y with nx := sForL g tb Y (wat ow M1) (ds.drop (i + 1)), ct := sForL g tb Y (wat ow M1) (ds.drop (i + 1)), bk := Y.nx }, S3, ((x.grow gr).grow gg), z3, fun σ4 H4 ⟨s4, M4, g4, S4, z4⟩ => ⟨s4, M4, gg.trans g4, S4, z4⟩, fwd (gr.trans gg) h.2.1, fwdS (gr.trans gg) h.1, fun σ4 H4 ⟨s4, M4, g4, S4, z4⟩ => ⟨s4, M4, gg.trans g4, S4, z4⟩⟩
  · have e : i = ds.length := by omega
    subst e
    rw [List.drop_length] at td'
    obtain ⟨hw, td'⟩ := td'
    exact .inl ⟨io.stop H' M' g' S'.mem (wat_of hw), h.1 _ _ ⟨s', M', gr.trans g', S', td'⟩⟩
def sWhN (tc : TTD) (tb : TSD) (Y : EndsD) : Nat → SD → Mem → Prop
  | 0, _, _ => False
  | m + 1, s, M => tc Y.ex s M fun b M1 => if b = true then tb { Y with nx := sWhN tc tb Y m, ct := sWhN tc tb Y m, bk := Y.nx } s M1 else Y.nx s M1
def sWhile (tc : TTD) (tb : TSD) : TSD := fun Y s M => ∃ m, sWhN tc tb Y m s M
theorem ds_while {tc : TTD} {tb : TSD} (hp : PassesOwn (model X.prog X.w) X.A X.env X.xe) (hc : DT X E c tc) (hb : DSs X E body tb) : DS X E (.While c body [] pos) (sWhile tc tb) := by
  refine ⟨PS.imp (ps_while hp hc.ok hb.ok) fun Z σ H ⟨s, M, Y, S, x, ⟨m, t⟩, h⟩ => ?_⟩
  refine ⟨fun m σ' H' => ∃ s' M', Gw H M H' M' ∧ StOk X.K σ' H' s' M' ∧ sWhN tc tb Y m s' M', ⟨m, s, M, Gw.refl, S, t⟩, fun m σ' H' hW => ?_⟩
  obtain ⟨s', M', g', S', t'⟩ := hW
  cases m with
  | zero => exact t'.elim
  | succ m =>
    refine useT S' (x.grow g') t' fun b M1 H1 g1 S1 x1 t1 => ?_
    cases b with
    | true =>
      rw [if_pos rfl] at t1 ⊢
      refine ⟨fun σ2 H2 => ∃ s2 M2, Gw H M H2 M2 ∧ StOk X.K σ2 H2 s2 M2 ∧ sWhN tc tb Y m s2 M2, fun σ2 H2 hh => ⟨m, Nat.lt_succ_self m, hh⟩, ?_⟩
      have gg := g'.trans g1
      exact ⟨s', M1, { Y with nx := sWhN tc tb Y m, ct := sWhN tc tb Y m, bk := Y.nx }, S1, x1, t1, fun σ4 H4 ⟨s4, M4, g4, S4, z4⟩ => ⟨s4, M4, gg.trans g4, S4, z4⟩, fwd gg h.2.1, fwdS gg h.1, fun σ4 H4 ⟨s4, M4, g4, S4, z4⟩ => ⟨s4, M4, gg.trans g4, S4, z4⟩⟩
    | false =>
      rw [if_neg Bool.false_ne_true] at t1 ⊢
      exact h.1 _ _ ⟨s', M1, g'.trans g1, S1, t1⟩
end
end DL
set_option maxHeartbeats 1000000
namespace DL
open PySem PySem.Spec PyProof.Rows L2

section
variable {X : Cx} {E : XK} {n k : Nat} {x : Str} {p pos : Pos} {e a b c tg : Expr} {es : List Expr} {ts : TAD} {te ta tb : TED}
/-! ### what is walked -/
/-- a list or a tuple -/
def iSeq (K : Fg) (tl : TE) : TI := fun σ H R => tl σ H fun x H1 => ∃ a, x = .ref a ∧ (((∃ xs, SqL K H1 a xs) ∧ R (Itl K a) H1) ∨ ((∃ xs, SqT K H1 a xs) ∧ R (Itt K a) H1))
theorem pi_seq {l : Expr} {tl : TE} (hl : PE X l tl) : PI X tg l (iSeq X.K tl) := by
  refine ⟨fun pins s σ H R I h => ?_⟩
  refine thn (hl.run pins s σ H _ I h) fun v s1 ⟨x, H1, I1, r1, q1⟩ => ?_
  obtain ⟨a, e, q1⟩ := q1
  subst e
  cases r1
  have hf : ∀ b ∈ [s1.heap.objs.size], FpOk X pins H1 b := fun b hb => by
    have e : b = s1.heap.objs.size := by simpa using hb
    subst e
    exact I1.fpOk (Nat.le_refl _) (I1.hok.fresh (Nat.le_refl _))
  rcases q1 with ⟨⟨xs, hq⟩, q⟩ | ⟨⟨xs, hq⟩, q⟩
  · obtain ⟨its, rv, p, hz⟩ := I1.list hq
    refine wpAny_pyIter_list p.isList ?_
    exact ⟨s1.heap.objs.size, [s1.heap.objs.size], _, _, H1, rfl, I1.kept (t' := s1.toks) fun b o e => Heap.get?_push_of_some _ e, turn_list a _, ⟨_, Heap.get?_push_size _ rfl, rfl, rfl⟩, hf, q⟩
  · obtain ⟨its, rv, p, hz⟩ := I1.tuple hq
    refine wpAny_pyIter_tuple (show s1.heap.IsTuple a its.toArray from p) ?_
    exact ⟨s1.heap.objs.size, [s1.heap.objs.size], _, _, H1, rfl, I1.kept (t' := s1.toks) fun b o e => Heap.get?_push_of_some _ e, turn_tuple a _, ⟨_, Heap.get?_push_size _ rfl, rfl, rfl⟩, hf, q⟩
theorem ItOk.list {K : Fg} {H0 : Hp} {M0 : Mem} {ow : Option Addr} {ds : List D} {a : Addr} (hs : ∀ H M, Gw H0 M0 H M → MOk K H M → (∀ a, ow = some a → M a = M0 a) → ∃ xs, SqL K H a xs ∧ Rs K H M ds xs) : ItOk K (Itl K a) H0 M0 ow ds := by
  refine ⟨fun i H M g mo hw hi => ?_, fun H M g mo hw => ?_⟩
  · obtain ⟨xs, h1, h2⟩ := hs H M g mo hw
    obtain ⟨v, e1, e2⟩ := Rs.get h2 (List.getElem?_eq_getElem hi)
    refine ⟨⟨xs, v, h1, e1⟩, fun y H' ⟨eH, hy⟩ => ?_⟩
    subst eH
    have e3 := hy xs h1
    rw [e1] at e3; cases e3
    exact ⟨_, List.getElem?_eq_getElem hi, Gw.refl, mo, e2⟩
  · obtain ⟨xs, h1, h2⟩ := hs H M g mo hw
    exact ⟨xs, h1, by rw [vlen h2]; exact Nat.le_refl _⟩
theorem ItOk.tup {K : Fg} {H0 : Hp} {M0 : Mem} {ow : Option Addr} {ds : List D} {a : Addr} (hs : ∀ H M, Gw H0 M0 H M → MOk K H M → (∀ a, ow = some a → M a = M0 a) → ∃ xs, SqT K H a xs ∧ Rs K H M ds xs) : ItOk K (Itt K a) H0 M0 ow ds := by
  refine ⟨fun i H M g mo hw hi => ?_, fun H M g mo hw => ?_⟩
  · obtain ⟨xs, h1, h2⟩ := hs H M g mo hw
    obtain ⟨v, e1, e2⟩ := Rs.get h2 (List.getElem?_eq_getElem hi)
    refine ⟨⟨xs, v, h1, e1⟩, fun y H' ⟨eH, hy⟩ => ?_⟩
    subst eH
    have e3 := hy xs h1
    rw [e1] at e3; cases e3
    exact ⟨_, List.getElem?_eq_getElem hi, Gw.refl, mo, e2⟩
  · obtain ⟨xs, h1, h2⟩ := hs H M g mo hw
    exact ⟨xs, h1, by rw [vlen h2]; exact Nat.le_refl _⟩
theorem ItOk.rng {K : Fg} {H0 : Hp} {M0 : Mem} {lo c : Int} {n : Nat} : ItOk K (Itc lo c n) H0 M0 none ((List.range n).map fun i => D.int (lo + (i : Nat) * c)) := by
  have hl : ((List.range n).map fun i => D.int (lo + (i : Nat) * c)).length = n := by rw [List.length_map, List.length_range]
  refine ⟨fun i H M g mo hw hi => ?_, fun H M g mo hw => ?_⟩
  · rw [hl] at hi
    refine ⟨hi, fun y H' ⟨eH, hy⟩ => ?_⟩
    subst eH; subst hy
    exact ⟨.int (lo + (i : Nat) * c), by rw [List.getElem?_map, List.getElem?_range hi]; rfl, Gw.refl, mo, rfl⟩
  · rw [hl]; exact Nat.le_refl n
theorem ItOk.rng1 {K : Fg} {H0 : Hp} {M0 : Mem} {lo : Int} {n : Nat} : ItOk K (Itr lo n) H0 M0 none ((List.range n).map fun i => D.int (lo + (i : Nat))) := by
  have hl : ((List.range n).map fun i => D.int (lo + (i : Nat))).length = n := by rw [List.length_map, List.length_range]
  refine ⟨fun i H M g mo hw hi => ?_, fun H M g mo hw => ?_⟩
  · rw [hl] at hi
    refine ⟨hi, fun y H' ⟨eH, hy⟩ => ?_⟩
    subst eH; subst hy
    exact ⟨.int (lo + (i : Nat)), by rw [List.getElem?_map, List.getElem?_range hi]; rfl, Gw.refl, mo, rfl⟩
  · rw [hl]; exact Nat.le_refl n
/-- the items of a value, and what is to stand while they are walked -/
def itemK (R : List D → Option Addr → Mem → Prop) : QD := fun d M => match d with
  | .tup ds => R ds none M
  | .lst ds => R ds none M
  | .fzn ds => R ds none M
  | .ref a => match M a with
    | some (.lst ds) => R ds (some a) M
    | _ => False
  | _ => False
def iSeqD (te : TED) : TID := fun Xd s M R => te Xd s M (itemK R)
theorem di_seq (h : DE X E e te) : DI X E tg e (iSeqD te) := by
  refine ⟨_, pi_seq h.ok, fun {σ H s M Xd Qd R} S x t q => ?_⟩
  refine useE S x t fun d v M1 H1 g1 S1 x1 r1 t1 => ?_
  unfold itemK at t1
  split at t1
  · rename_i ds
    obtain ⟨p, xs, rfl, hp, sp⟩ := r1
    exact ⟨p, rfl, .inr ⟨⟨xs, hp.sq⟩, q _ _ _ _ _ g1 S1.mem (ItOk.tup fun H M g mo _ => ⟨xs, (g.rt hp).sq, Rs.grow g ds xs sp⟩) t1⟩⟩
  · rename_i ds
    obtain ⟨p, xs, rfl, hp, hm, sp⟩ := r1
    exact ⟨p, rfl, .inl ⟨⟨xs, SqL.of hp⟩, q _ _ _ _ _ g1 S1.mem (ItOk.list fun H M g mo _ => ⟨xs, SqL.of (g _ _ hp hm).1, Rs.grow g ds xs sp⟩) t1⟩⟩
  · rename_i ds
    obtain ⟨p, xs, rfl, hp, sp⟩ := r1
    exact ⟨p, rfl, .inl ⟨⟨xs, hp.sq⟩, q _ _ _ _ _ g1 S1.mem (ItOk.list fun H M g mo _ => ⟨xs, (g.rl hp).sq, Rs.grow g ds xs sp⟩) t1⟩⟩
  · rename_i p
    split at t1
    · rename_i ds hm
      have hv : v = .ref p := r1
      obtain ⟨xs, hp, sp⟩ := S1.mem p _ hm
      refine ⟨p, hv, .inl ⟨⟨xs, SqL.of hp⟩, q _ _ _ (some p) _ g1 S1.mem (ItOk.list fun H M g mo hw => ?_) t1⟩⟩
      have e := hw p rfl
      rw [hm] at e
      obtain ⟨ys, h1, h2⟩ := mo p _ e
      exact ⟨ys, SqL.of h1, h2⟩
    · exact t1.elim
  · exact t1.elim
def rngL (lo : Int) (n : Nat) : List D := (List.range n).map fun i => D.int (lo + (i : Nat))
def rngK (R : List D → Option Addr → Mem → Prop) : List D → Mem → Prop := fun ds M => match ds with
  | [.int j] => (-(2 ^ 62) ≤ j ∧ j < 2 ^ 62) ∧ R (rngL 0 j.toNat) none M
  | [.int i, .int j] => (-(2 ^ 62) ≤ i ∧ i < 2 ^ 62 ∧ -(2 ^ 62) ≤ j ∧ j < 2 ^ 62) ∧ R (rngL i (j - i).toNat) none M
  | _ => False
def iRngD (t : TAD) : TID := fun Xd s M R => t Xd s M (rngK R)
theorem di_range1 (hg : Gl X "range") (hm : X.mg "range" = none) (h : DN X E 1 [a] ts) (hs : starEach [a] X.env = [(false, eval a X.env)] := by rfl) : DI X E tg (.Call (.Name "range" p) [a] [] pos) (iRngD ts) := by
  refine ⟨_, pi_range1 hg hm h.ok hs, fun {σ H s M Xd Qd R} S x t q => ?_⟩
  refine useN S x t fun ds vs M1 H1 hl g1 S1 x1 r1 t1 => ?_
  unfold rngK at t1
  split at t1
  · rename_i j
    obtain ⟨v, rfl, rd⟩ := rs1 r1
    exact ⟨j, by rw [show v = V.int j from rd], t1.1.1, t1.1.2, q _ _ _ _ _ g1 S1.mem ItOk.rng1 t1.2⟩
  · obtain ⟨v, w, rfl, _, _⟩ := rs2 r1
    simp at hl
  · exact t1.elim
theorem di_range2 (hg : Gl X "range") (hm : X.mg "range" = none) (h : DN X E 2 [a, b] ts) (hs : starEach [a, b] X.env = [(false, eval a X.env), (false, eval b X.env)] := by rfl) (hs2 : starEach [b] X.env = [(false, eval b X.env)] := by rfl) :
    DI X E tg (.Call (.Name "range" p) [a, b] [] pos) (iRngD ts) := by
  refine ⟨_, pi_range2 hg hm h.ok hs hs2, fun {σ H s M Xd Qd R} S x t q => ?_⟩
  refine useN S x t fun ds vs M1 H1 hl g1 S1 x1 r1 t1 => ?_
  unfold rngK at t1
  split at t1
  · obtain ⟨v, rfl, _⟩ := rs1 r1
    simp at hl
  · rename_i i j
    obtain ⟨v, w, rfl, rd, re⟩ := rs2 r1
    exact ⟨i, j, by rw [show v = V.int i from rd, show w = V.int j from re], t1.1, q _ _ _ _ _ g1 S1.mem ItOk.rng1 t1.2⟩
  · exact t1.elim

/-! ### comprehensions -/
def wipeD (s : SD) : List Nat → SD
  | [] => s
  | i :: r => (wipeD s r).set i none
theorem StOk.wipe {K : Fg} {H : Hp} {M : Mem} {σ : L2.St} {s : SD} (S : StOk K σ H s M) : ∀ vs : List Nat, StOk K (L2.wipe σ vs) H (wipeD s vs) M
  | [] => S
  | i :: r => by
    have S1 := StOk.wipe S r
    refine ⟨by show ((wipeD s r).set i none).length = ((L2.wipe σ r).set i none).length; rw [List.length_set, List.length_set]; exact S1.len, fun j d e => ?_, S.mem⟩
    have e : ((wipeD s r).set i none)[j]? = some (some d) := e
    show ∃ v, ((L2.wipe σ r).set i none)[j]? = some (some v) ∧ Rv K H M d v
    by_cases hj : j = i
    · subst hj
      by_cases hl : j < (wipeD s r).length
      · rw [List.getElem?_set_self hl] at e; cases e
      · rw [List.getElem?_eq_none (by rw [List.length_set]; omega)] at e; cases e
    · rw [List.getElem?_set_ne (Ne.symm hj)] at e
      obtain ⟨v, e1, e2⟩ := S1.sl j d e
      exact ⟨v, by rw [List.getElem?_set_ne (Ne.symm hj)]; exact e1, e2⟩
theorem wipe_at (σ : L2.St) (j : Nat) : ∀ vs : List Nat, (L2.wipe σ vs)[j]? = if j ∈ vs then (σ[j]?).map (fun _ => none) else σ[j]?
  | [] => by rw [if_neg (by simp)]; rfl
  | i :: r => by
    have ih := wipe_at σ j r
    show ((L2.wipe σ r).set i none)[j]? = _
    by_cases hj : i = j
    · subst hj
      rw [if_pos List.mem_cons_self]
      by_cases hl : i < σ.length
      · rw [List.getElem?_set_self (by rw [L2.wipe_length]; exact hl), List.getElem?_eq_getElem hl]; rfl
      · rw [List.getElem?_eq_none (by rw [List.length_set, L2.wipe_length]; omega), List.getElem?_eq_none (by omega)]; rfl
    · rw [List.getElem?_set_ne hj, ih]
      by_cases hr : j ∈ r
      · rw [if_pos hr, if_pos (List.mem_cons_of_mem _ hr)]
      · rw [if_neg hr, if_neg (fun z => (List.mem_cons.mp z).elim (fun z => hj z.symm) hr)]
theorem wipe_set {o : Option V} {i : Nat} {vs : List Nat} {σ : L2.St} (h : i ∈ vs) : L2.wipe (σ.set i o) vs = L2.wipe σ vs := by
  apply List.ext_getElem?
  intro j
  rw [wipe_at, wipe_at]
  by_cases hj : i = j
  · subst hj
    rw [if_pos h, if_pos h]
    by_cases hl : i < σ.length
    · rw [List.getElem?_set_self hl, List.getElem?_eq_getElem hl]; rfl
    · rw [List.getElem?_eq_none (by rw [List.length_set]; omega), List.getElem?_eq_none (by omega)]
  · rw [List.getElem?_set_ne hj]
theorem wipe_wipe (σ : L2.St) (vs : List Nat) : L2.wipe (L2.wipe σ vs) vs = L2.wipe σ vs := by
  apply List.ext_getElem?
  intro j
  rw [wipe_at, wipe_at]
  by_cases hj : j ∈ vs
  · rw [if_pos hj, if_pos hj, Option.map_map]; rfl
  · rw [if_neg hj, if_neg hj]
/-- a target of a clause: it stores into the slots vs alone -/
structure DGv (X : Cx) (E : XK) (target : Expr) (vs : List Nat) (t : TGD) : Prop where
  ok : ∃ g, PG X target g ∧ ∀ {v : V} {d : D} {σ : L2.St} {H : Hp} {s : SD} {M : Mem} {Xd : XD} {Qd : SD → Mem → Prop} {Q : L2.St → Hp → Prop}, StOk X.K σ H s M → XTo X.K H M Xd E → Rv X.K H M d v → t d Xd s M Qd →
    (∀ σ' H', upS X.K H M Qd σ' H' → L2.wipe σ' vs = L2.wipe σ vs → Q σ' H') → g v σ H Q
structure DGsv (X : Cx) (E : XK) (targets : List Expr) (n : Nat) (vs : List Nat) (t : TGsD) : Prop where
  ok : ∃ g, PGs X targets g ∧ ∀ {ws : List V} {ds : List D} {σ : L2.St} {H : Hp} {s : SD} {M : Mem} {Xd : XD} {Qd : SD → Mem → Prop} {Q : L2.St → Hp → Prop}, StOk X.K σ H s M → XTo X.K H M Xd E → Rs X.K H M ds ws → t ds Xd s M Qd →
    (∀ σ' H', upS X.K H M Qd σ' H' → L2.wipe σ' vs = L2.wipe σ vs → Q σ' H') → g ws σ H Q
theorem dgv_name {vs : List Nat} {i : Nat} {x : Str} (hN : X.N.Nodup) (hi : X.N[i]? = some x) (hx : Loc X.env.scope x) (hv : i ∈ vs) (hf : X.fn x = true ∨ X.env.scope.names.lookup x = some .local := by first | exact .inl rfl | exact .inr rfl | assumption) : DGv X E (.Name x pos) vs (gNm i) :=
  ⟨gName i, pg_name hN hi hx hf, fun S x r t q => q _ _ ⟨_, _, Gw.refl, S.set i r, t⟩ (wipe_set hv)⟩
theorem dgsv_nil {vs : List Nat} : DGsv X E [] 0 vs gNi := ⟨gNil, pgs_nil, fun {ws ds σ H s M Xd Qd Q} S x r t q => by
  cases ds with
  | nil => exact ⟨r, q _ _ (upS_here S t) rfl⟩
  | cons d ds => exact t.elim⟩
theorem dgsv_cons {vs : List Nat} {t : TGD} {u : TGsD} (h1 : DGv X E e vs t) (h2 : DGsv X E es n vs u) (hs : (assignEach (e :: es) X.env).map (·.2) = assign e X.env :: (assignEach es X.env).map (·.2) := by rfl) : DGsv X E (e :: es) (n + 1) vs (gCo t u) := by
  obtain ⟨g1, p1, q1⟩ := h1.ok
  obtain ⟨g2, p2, q2⟩ := h2.ok
  refine ⟨gCons g1 g2, pgs_cons p1 p2 hs, fun {ws ds σ H s M Xd Qd Q} S x r t q => ?_⟩
  cases ds with
  | nil => exact t.elim
  | cons d ds =>
    obtain ⟨v, vr, rfl, rd, rr⟩ := r
    refine ⟨v, vr, rfl, q1 S x rd t fun σ' H' ⟨s', M', g, S', z⟩ ew => ?_⟩
    exact q2 S' (x.grow g) (Rs.grow g _ _ rr) z fun σ2 H2 hu e2 => fwdS g (fun a b c => (show upS X.K H M Qd a b from c)) σ2 H2 hu |> fun hh => q σ2 H2 hh (e2.trans ew)
theorem dgv_tup {vs : List Nat} {k : Nat} {t : TGsD} (hc : X.calm = true) (h : DGsv X E es n vs t) (hn : (assignEach es X.env).length = n := by rfl) (hst : (assignEach es X.env).findIdx? (·.1) = none := by rfl) : DGv X E (.Tuple es k pos) vs (gTp n t) := by
  obtain ⟨g1, p1, q1⟩ := h.ok
  refine ⟨gTup X.K n g1, pg_tup hc p1 hn hst, fun {v d σ H s M Xd Qd Q} S x r t q => ?_⟩
  unfold gTp at t
  split at t
  · rename_i ds hd
    obtain ⟨a, xs, rfl, ha, sa⟩ := vw_tup r hd
    exact ⟨a, xs, rfl, ha.sq, by rw [vlen sa]; exact t.1, q1 S x sa t.2 q⟩
  · exact t.elim
def X0 : XD := fun _ _ _ _ => False
theorem x0_to {K : Fg} {H : Hp} {M : Mem} : XTo K H M X0 E0 := fun c od H' ⟨_, _, _, _, _, _, _, _, _, _, _, _, _, _, z⟩ => z
/-- the tests of a clause -/
structure DTs (X : Cx) (E : XK) (ifs : List Expr) (t : TTD) : Prop where
  ok : PTs X ifs (liftT X.K E t)
def tYesD : TTD := fun _ _ M Q => Q true M
theorem dts_nil : DTs X E [] tYesD := ⟨⟨fun pins s σ H Q I ⟨sd, M, Qd, Xd, S, x, t, q⟩ => pts_nil.run pins s σ H Q I (q true H ⟨M, Gw.refl, S.mem, t⟩)⟩⟩
theorem dts_one {t : TTD} (h : DT X E c t) : DTs X E [c] t := ⟨pts_one h.ok⟩
/-- what stands at the growing list -/
def accK (p : Addr) (r : D) (k : Mem → Prop) : Mem → Prop := fun M => match M p with
  | some (.lst acc) => acc.length < sizeLine ∧ k (M.put p (.lst (acc ++ [r])))
  | _ => False
def endK (p : Addr) (Q : QD) : Mem → Prop := fun M => match M p with
  | some (.lst acc) => Q (.lst acc) (M.del p)
  | _ => False
def dLcL (g : TGD) (tt : TTD) (te : TED) (s0 : SD) (W : Mem → Prop) (p : Addr) (Q : QD) : List D → Mem → Prop
  | [], M => W M ∧ endK p Q M
  | d :: ds, M => W M ∧ g d X0 s0 M fun s' M' => tt X0 s' M' fun b M2 => if b = true then te X0 s' M2 (fun r => accK p r (dLcL g tt te s0 W p Q ds)) else dLcL g tt te s0 W p Q ds M2
def dLc (ti : TID) (g : TGD) (tt : TTD) (te : TED) (vs : List Nat) : TED := fun Xd s M Q => ti Xd s M fun ds ow M1 => ∀ p, M1 p = none → dLcL g tt te (wipeD s vs) (wat ow M1) p Q ds (M1.put p (.lst []))
theorem fwdQ {α : Type} {P Q : α → Prop} (h : ∀ a, P a → Q a) : ∀ a, P a → Q a := h
theorem lift_lc {J : It} {ow : Option Addr} {g : TGD} {g1 : TG} {tt : TTD} {Y : Cx} {vs : List Nat} {σ : L2.St} {s : SD} {H0 H1 : Hp} {M0 M1 : Mem} {ds : List D} {Qd : QD} {Q : VK} {p : Addr} (hK : Y.K = X.K)
    (q1 : ∀ {v : V} {d : D} {σ : L2.St} {H : Hp} {s : SD} {M : Mem} {Xd : XD} {Qd : SD → Mem → Prop} {Q : L2.St → Hp → Prop}, StOk X.K σ H s M → XTo X.K H M Xd E0 → Rv X.K H M d v → g d Xd s M Qd →
      (∀ σ' H', upS X.K H M Qd σ' H' → L2.wipe σ' vs = L2.wipe σ vs → Q σ' H') → g1 v σ H Q)
    (S : StOk X.K σ H1 s M1) (io : ItOk X.K J H1 M1 ow ds) (hp : H1 p = none) (td : dLcL g tt te (wipeD s vs) (wat ow M1) p Qd ds (M1.put p (.lst []))) (g0 : Gw H0 M0 H1 M1) (q : ∀ v H', upE X.K H0 M0 Qd v H' → Q v H') :
    ∃ W : Nat → Nat → Hp → Prop, (∃ m, W 0 m (upd H1 p (.lst []))) ∧ ∀ i m H, W i m H →
      (J.stop i H ∧ Q (.ref p) H) ∨ (J.go i H ∧ ∃ Nx : Hp → Prop, (∀ H', Nx H' → ∃ m', m' < m ∧ W (i + 1) m' H') ∧ ∀ x H', J.yld i H x H' → g1 x (L2.wipe σ vs) H' fun σ2 H2 => L2.wipe σ2 vs = L2.wipe σ vs ∧ liftT X.K E0 tt σ2 H2 fun b H3 =>
        if b = true then liftE X.K E0 te σ2 H3 fun y H4 => ∃ acc, H4 p = some (.lst acc) ∧ acc.length < sizeLine ∧ Nx (upd H4 p (.lst (acc ++ [y]))) else Nx H3) := by
  have ew : ∀ σ2 : L2.St, L2.wipe σ2 vs = L2.wipe (L2.wipe σ vs) vs → L2.wipe σ2 vs = L2.wipe σ vs := fun σ2 e => by rw [e, wipe_wipe]
  have S0 : StOk X.K (L2.wipe σ vs) H1 (wipeD s vs) M1 := S.wipe vs
  have gp : Gw H1 M1 (upd H1 p (.lst [])) (M1.put p (.lst [])) := gw_own hp
  have mp : MOk X.K (upd H1 p (.lst [])) (M1.put p (.lst [])) := mok_own S.mem hp (show MObj X.K (upd H1 p (.lst [])) (M1.put p (.lst [])) p (.lst []) from ⟨[], upd_same, rfl⟩)
  refine ⟨fun i m H => m = ds.length - i ∧ i ≤ ds.length ∧ ∃ M, Gw H1 M1 H M ∧ MOk X.K H M ∧ dLcL g tt te (wipeD s vs) (wat ow M1) p Qd (ds.drop i) M, ⟨ds.length, rfl, Nat.zero_le _, M1.put p (.lst []), gp, mp, td⟩, fun i m H hW => ?_⟩
  obtain ⟨em, hi', M, gM, mo, td'⟩ := hW
  by_cases hlt : i < ds.length
  · rw [List.drop_eq_getElem_cons hlt] at td'
    obtain ⟨hw, td'⟩ := td'
    obtain ⟨hgo, hy⟩ := io.go i H M gM mo (wat_of hw) hlt
    have back : ∀ H2 M2, Gw H1 M1 H2 M2 → MOk X.K H2 M2 → dLcL g tt te (wipeD s vs) (wat ow M1) p Qd (ds.drop (i + 1)) M2 → ∃ m', m' < m ∧ (m' = ds.length - (i + 1) ∧ i + 1 ≤ ds.length ∧ ∃ M, Gw H1 M1 H2 M ∧ MOk X.K H2 M ∧ dLcL g tt te (wipeD s vs) (wat ow M1) p Qd (ds.drop (i + 1)) M) :=
      fun H2 M2 a1 a2 a3 => ⟨ds.length - (i + 1), by omega, rfl, by omega, M2, a1, a2, a3⟩
    refine .inr ⟨hgo, fun H2 => ∃ M2, Gw H1 M1 H2 M2 ∧ MOk X.K H2 M2 ∧ dLcL g tt te (wipeD s vs) (wat ow M1) p Qd (ds.drop (i + 1)) M2, fun H2 ⟨M2, a1, a2, a3⟩ => back H2 M2 a1 a2 a3, fun v H2 hyl => ?_⟩
    obtain ⟨d, hd, g2, m2, r2⟩ := hy v H2 hyl
    have ed : d = ds[i] := by rw [List.getElem?_eq_getElem hlt] at hd; exact (Option.some.inj hd).symm
    subst ed
    have S2 : StOk X.K (L2.wipe σ vs) H2 (wipeD s vs) M := S0.grow (gM.trans g2) m2
    refine q1 S2 x0_to r2 td' fun σ3 H3 ⟨s3, M3, g3, S3, z3⟩ e3 => ⟨ew σ3 e3, ?_⟩
    refine useT S3 x0_to z3 fun bb M4 H4 g4 S4 x4 z4 => ?_
    have gg : Gw H1 M1 H4 M4 := ((gM.trans g2).trans g3).trans g4
    cases bb with
    | false =>
      rw [if_neg Bool.false_ne_true] at z4 ⊢
      exact ⟨M4, gg, S4.mem, z4⟩
    | true =>
      rw [if_pos rfl] at z4 ⊢
      refine useE S4 x4 z4 fun r y M5 H5 g5 S5 x5 r5 z5 => ?_
      unfold accK at z5
      split at z5
      · rename_i acc hacc
        obtain ⟨xs, h1, h2⟩ := S5.mem p _ hacc
        refine ⟨xs, h1, by rw [vlen h2]; exact z5.1, M5.put p (.lst (acc ++ [r])), (gg.trans g5).trans (gw_put hacc), mok_put S5.mem hacc ?_, z5.2⟩
        exact ⟨xs ++ [y], upd_same, Rs.grow (gw_put hacc) _ _ (Rs.append h2 (Rs.cons r5 Rs.nil))⟩
      · exact z5.elim
  · have e : i = ds.length := by omega
    subst e
    rw [List.drop_length] at td'
    obtain ⟨hw, td'⟩ := td'
    refine .inl ⟨io.stop H M gM mo (wat_of hw), ?_⟩
    unfold endK at td'
    split at td'
    · rename_i acc hacc
      obtain ⟨xs, h1, h2⟩ := mo p _ hacc
      have hs : ∀ b o, (M.del p) b = some o → M b = some o := fun b o e => by
        by_cases z : b = p
        · subst z; rw [Mem.del_same] at e; cases e
        · rw [Mem.del_ne z] at e; exact e
      have hn : ∀ b, M b = none → (M.del p) b = none := fun b e => by
        by_cases z : b = p
        · subst z; exact Mem.del_same
        · rw [Mem.del_ne z]; exact e
      exact q _ _ ⟨.lst acc, M.del p, (g0.trans gM).trans (gw_less hn), mok_less hs hn mo, ⟨p, xs, rfl, h1, Mem.del_same, Rs.grow (gw_less hn) _ _ h2⟩, td'⟩
    · exact td'.elim
theorem de_lc {elt iter : Expr} {ifs : List Expr} {scope : Scope} {own : List (Str × Nat)} {ti : TID} {g : TGD} {tt : TTD} (hc : X.calm = true) (hN : X.N.Nodup) (hi : DI X E tg iter ti) (ok : BlkOk X.N X.env.scope scope own) (g1 : TG)
    (hg : ∀ (s : Shared) (H : Hp) (C : Addr) (cl : List (Str × Addr)) (fp : List Addr), PG (X.blk s H scope (compEnvC scope cl C X.env) fp) tg g1)
    (hq : ∀ {v : V} {d : D} {σ : L2.St} {H : Hp} {s : SD} {M : Mem} {Xd : XD} {Qd : SD → Mem → Prop} {Q : L2.St → Hp → Prop}, StOk X.K σ H s M → XTo X.K H M Xd E0 → Rv X.K H M d v → g d Xd s M Qd →
      (∀ σ' H', upS X.K H M Qd σ' H' → L2.wipe σ' (own.map (·.2)) = L2.wipe σ (own.map (·.2)) → Q σ' H') → g1 v σ H Q)
    (ht : ∀ (s : Shared) (H : Hp) (C : Addr) (cl : List (Str × Addr)) (fp : List Addr), DTs (X.blk s H scope (compEnvC scope cl C X.env) fp) E0 ifs tt)
    (he : ∀ (s : Shared) (H : Hp) (C : Addr) (cl : List (Str × Addr)) (fp : List Addr), DE (X.blk s H scope (compEnvC scope cl C X.env) fp) E0 elt te) (hs : ∀ x, foldedSetIterable iter X.env x = pure x := by intro _; rfl) :
    DE X E (.ListComp elt [⟨tg, iter, ifs, 0⟩] scope pos) (dLc ti g tt te (own.map (·.2))) := by
  obtain ⟨wi, pi, qi⟩ := hi.ok
  refine ⟨PE.imp (pe_lc (tt := liftT X.K E0 tt) (te := liftE X.K E0 te) hc hN pi ok hg (fun s H C cl fp => (ht s H C cl fp).ok) (fun s H C cl fp => (he s H C cl fp).ok) hs) fun σ H Q ⟨s, M, Qd, Xd, S, x, t, q⟩ => ?_⟩
  refine qi S x t fun J H1 M1 ow ds gr mo io td p hp => ?_
  exact lift_lc (Y := X) rfl hq (S.grow gr mo) io hp (td p (m_none mo hp)) gr q
theorem ds_setLc {i : Nat} {y : Str} {py spos : Pos} {elt iter : Expr} {ifs : List Expr} {scope : Scope} {own : List (Str × Nat)} {ti : TID} {g : TGD} {tt : TTD} (hc : X.calm = true) (hN : X.N.Nodup) (hy : X.N[i]? = some y) (hyl : X.env.scope.names.lookup y = some .local)
    (hsw : swapsWith (.ListComp elt [⟨tg, iter, ifs, 0⟩] scope pos) (some (.Name y py)) spos.line X.env = pure true) (hi : DI X E tg iter ti) (ok : BlkOk X.N X.env.scope scope own) (g1 : TG)
    (hg : ∀ (s : Shared) (H : Hp) (C : Addr) (cl : List (Str × Addr)) (fp : List Addr), PG (X.blk s H scope (compEnvC scope cl C X.env) fp) tg g1)
    (hq : ∀ {v : V} {d : D} {σ : L2.St} {H : Hp} {s : SD} {M : Mem} {Xd : XD} {Qd : SD → Mem → Prop} {Q : L2.St → Hp → Prop}, StOk X.K σ H s M → XTo X.K H M Xd E0 → Rv X.K H M d v → g d Xd s M Qd →
      (∀ σ' H', upS X.K H M Qd σ' H' → L2.wipe σ' (own.map (·.2)) = L2.wipe σ (own.map (·.2)) → Q σ' H') → g1 v σ H Q)
    (ht : ∀ (s : Shared) (H : Hp) (C : Addr) (cl : List (Str × Addr)) (fp : List Addr), DTs (X.blk s H scope (compEnvC scope cl C X.env) fp) E0 ifs tt)
    (he : ∀ (s : Shared) (H : Hp) (C : Addr) (cl : List (Str × Addr)) (fp : List Addr), DE (X.blk s H scope (compEnvC scope cl C X.env) fp) E0 elt te) (hs : ∀ x, foldedSetIterable iter X.env x = pure x := by intro _; rfl) :
    DS X E (.Assign [.Name y py] (.ListComp elt [⟨tg, iter, ifs, 0⟩] scope pos) spos) (sSet i (dLc ti g tt te (own.map (·.2)))) := by
  obtain ⟨wi, pi, qi⟩ := hi.ok
  refine ⟨PS.imp (ps_setLc (tt := liftT X.K E0 tt) (te := liftE X.K E0 te) hc hN hy hyl hsw pi ok hg (fun s H C cl fp => (ht s H C cl fp).ok) (fun s H C cl fp => (he s H C cl fp).ok) hs) fun Z σ H ⟨s, M, Y, S, x, t, h⟩ => ?_⟩
  refine qi S x t fun J H1 M1 ow ds gr mo io td p hp => ?_
  refine lift_lc (Y := X) (Q := fun v H' => Z.nx (σ.set i (some v)) H') rfl hq (S.grow gr mo) io hp (td p (m_none mo hp)) gr fun v H' ⟨d, M', g, m, r, z⟩ => ?_
  exact h.1 _ _ ⟨s.set i (some d), M', g, (S.grow g m).set i r, z⟩
end
end DL
set_option maxHeartbeats 1000000
namespace DL
open PySem PySem.Spec PyProof.Rows L2

section
variable {X : Cx} {E : XK} {n k : Nat} {x : Str} {p pos : Pos} {e a b c tg o i value : Expr} {es : List Expr} {ts : TAD} {te ta tb td tv : TED}

/-- a, b = x, y with plain local names -/
theorem ds_par {i j : Nat} {x y : Str} {px py pt : Pos} {kt k2 pt2} (hc : X.calm = true) (hN : X.N.Nodup) (hi : X.N[i]? = some x) (hj : X.N[j]? = some y) (hij : i ≠ j)
    (hx : X.env.scope.names.lookup x = some .local) (hy : X.env.scope.names.lookup y = some .local) (ha : DN X E 2 [a, b] ts)
    (hw : swappedStores [.Tuple [.Name x px, .Name y py] kt pt] (.Tuple [a, b] k2 pt2) X.env = pure (some [x, y]))
    (hs : swapsWithSole [.Tuple [.Name x px, .Name y py] kt pt] (.Tuple [a, b] k2 pt2) pos.line X.env = pure false := by rfl) :
    DS X E (.Assign [.Tuple [.Name x px, .Name y py] kt pt] (.Tuple [a, b] k2 pt2) pos) (sPar i j ts) :=
  ⟨PS.imp (ps_par hc hN hi hj hij hx hy ha.ok hw hs) fun Z σ H ⟨s, M, Y, S, x, t, h⟩ => by
    refine useN S x t fun ds vs M1 H1 hl g1 S1 x1 r1 t1 => ?_
    split at t1
    · rename_i d e
      obtain ⟨v, w, rfl, rd, re⟩ := rs2 r1
      exact ⟨v, w, rfl, h.1 _ _ ⟨_, M1, g1, (S1.set i rd).set j re, t1⟩⟩
    · exact t1.elim⟩

/-! ### isinstance -/
def tyO (M : Mem) (d : D) : Option String := match vw M d with
  | .non => some "NoneType"
  | .bl _ => some "bool"
  | .int _ => some "int"
  | .str _ => some "str"
  | .tup _ => some "tuple"
  | .lst _ => some "list"
  | .fzn _ => some "list"
  | .dct _ _ => some "dict"
  | _ => none
theorem ty_of {K : Fg} {H : Hp} {M : Mem} {d : D} {v : V} {T : String} (mo : MOk K H M) (r : Rv K H M d v) (e : tyO M d = some T) : TyX K H v (.type T) := by
  unfold tyO at e
  split at e
  · rename_i h; cases e; rw [vw_non r h]; exact .base .non
  · rename_i b h; cases e; rw [vw_bl r h]; exact .base (.bl b)
  · rename_i b h; cases e; rw [vw_int r h]; exact .base (.int b)
  · rename_i b h; cases e; rw [vw_str r h]; exact .base (.str b)
  · rename_i ds h
    cases e
    obtain ⟨a, xs, rfl, ha, sa⟩ := vw_tup r h
    rcases ha with ⟨h1 | ⟨ob, h1⟩, _⟩ | ⟨ob, its, n, h1, h2, _⟩
    · exact .base (.tup h1)
    · exact .fTuple h1
    · exact .kTuple h1 h2
  · rename_i ds h
    cases e
    obtain ⟨a, xs, rfl, ha, sa⟩ := vw_lst mo r h
    exact .base (.lst ha)
  · rename_i ds h
    cases e
    obtain ⟨a, xs, rfl, ha, sa⟩ := vw_fzn r h
    rcases ha with ⟨h1 | ⟨ob, h1⟩, _⟩ | ⟨ob, its, n, h1, h2, _⟩
    · exact .base (.lst h1)
    · exact .base (.frz h1)
    · exact .kList h1 h2
  · rename_i ks ds h
    cases e
    obtain ⟨a, xs, rfl, ha, _⟩ := vw_dct mo r h
    exact .base (.dK ha)
  · cases e
def isiC : OC := fun ds M Q => match ds with
  | [d, .ty n] => match tyO M d with
    | some T => match kitB T n with
      | some b => Q (.bl b) M
      | none => False
    | none => False
  | _ => False
theorem dc_isi : DC X (.builtin "isinstance") isiC := by
  intro pins s σ H M xs ds us Q Qd I mo r rv t q
  unfold isiC at t
  split at t
  · rename_i d n
    obtain ⟨v, w, rfl, rd, re⟩ := rs2 r
    split at t
    · rename_i T hT
      split at t
      · rename_i b hb
        have ew : w = .ty n := re
        exact call_isi pins s σ H _ us Q I rv ⟨v, w, _, _, b, rfl, by rw [ew]; exact .ty n, ty_of mo rd hT, kit_ty hb, q _ _ (up_same mo t rfl)⟩
      · exact t.elim
    · exact t.elim
  · exact t.elim

/-! ### gcd, lcm -/
def gcdC : OC := fun ds M Q => match ds with
  | [d, e] => match vw M d, vw M e with
    | .int i, .int j => Q (.int ((Nat.gcd i.natAbs j.natAbs : Nat) : Int)) M
    | _, _ => False
  | _ => False
theorem dc_gcd : DC X (.builtin "math.gcd") gcdC := by
  intro pins s σ H M xs ds us Q Qd I mo r rv t q
  unfold gcdC at t
  split at t
  · rename_i d e
    obtain ⟨v, w, rfl, rd, re⟩ := rs2 r
    split at t
    · rename_i i j h1 h2
      exact cr_gcd pins s σ H _ us Q I rv ⟨i, j, by rw [vw_int rd h1, vw_int re h2], q _ _ (up_same mo t rfl)⟩
    · exact t.elim
  · exact t.elim
def lcmC : OC := fun ds M Q => match ds with
  | [d, e] => match vw M d, vw M e with
    | .int i, .int j => (i.natAbs < 2 ^ 64 ∧ j.natAbs < 2 ^ 64) ∧ Q (.int ((Nat.lcm i.natAbs j.natAbs : Nat) : Int)) M
    | _, _ => False
  | _ => False
theorem dc_lcm : DC X (.builtin "math.lcm") lcmC := by
  intro pins s σ H M xs ds us Q Qd I mo r rv t q
  unfold lcmC at t
  split at t
  · rename_i d e
    obtain ⟨v, w, rfl, rd, re⟩ := rs2 r
    split at t
    · rename_i i j h1 h2
      obtain ⟨u1, u2, rfl, ⟨t1, rfl⟩, ⟨t2, rfl⟩⟩ := vals2 (show Vals [V.int i, V.int j] us by rw [← vw_int rd h1, ← vw_int re h2]; exact rv)
      exact PySem.W.mc_lcm t.1.1 t.1.2 fun _ => ⟨.int _, H, I.tok _, ⟨_, rfl⟩, q _ _ (up_same mo t.2 rfl)⟩
    · exact t.elim
  · exact t.elim
/-- a module's name for a built-in function -/
theorem de_callF {id : String} {oc : OC} (hc : DC X (.builtin id) oc) (hg : Gl X x) (hm : X.mg x = some (.builtin id)) (ha : DN X E n (e :: es) ts) (hdb : (x == ("__debug__" : Str)) = false := by decide)
    (he : starEach (e :: es) X.env = (false, eval e X.env) :: starEach es X.env := by rfl) (hpl : (backTo pos (starEach es X.env)).any (·.1) = false := by rfl) : DE X E (.Call (.Name x p) (e :: es) [] pos) (dCB oc ts) :=
  ⟨PE.imp (pe_callBfun hc.toR hg hm ha.ok hdb he hpl) fun σ H Q z => liftCB z⟩

/-! ### sum, max, min of ints -/
def intsO : List D → Option (List Int)
  | [] => some []
  | .int i :: r => (intsO r).map (i :: ·)
  | _ :: _ => none
theorem ints_rs {K : Fg} {H : Hp} {M : Mem} : ∀ {ds : List D} {ns : List Int} {xs : List V}, Rs K H M ds xs → intsO ds = some ns → xs = ns.map V.int
  | [], ns, xs, r, e => by
    have e' : some [] = some ns := e
    cases e'
    exact r
  | d :: ds, ns, xs, ⟨v, rr, ex, h, q⟩, e => by
    cases d with
    | int i =>
      have e' : (intsO ds).map (i :: ·) = some ns := e
      cases z : intsO ds with
      | none => rw [z] at e'; cases e'
      | some ms =>
        rw [z] at e'
        cases e'
        rw [ex, ints_rs q z, show v = V.int i from h]
        rfl
    | _ => cases e
def lstO (M : Mem) (d : D) : Option (List D) := match vw M d with
  | .lst ds => some ds
  | .fzn ds => some ds
  | _ => none
theorem lst_of {K : Fg} {H : Hp} {M : Mem} {d : D} {ds : List D} {v : V} (mo : MOk K H M) (r : Rv K H M d v) (e : lstO M d = some ds) : ∃ a xs, v = .ref a ∧ SqL K H a xs ∧ Rs K H M ds xs := by
  unfold lstO at e
  split at e
  · rename_i es h
    cases e
    obtain ⟨a, ys, rfl, ha, sa⟩ := vw_lst mo r h
    exact ⟨a, ys, rfl, SqL.of ha, sa⟩
  · rename_i es h
    cases e
    obtain ⟨a, ys, rfl, ha, sa⟩ := vw_fzn r h
    exact ⟨a, ys, rfl, ha.sq, sa⟩
  · cases e
def foldC (P : List Int → (Int → Prop) → Prop) : OC := fun ds M Q => match ds with
  | [d] => match lstO M d with
    | some es => match intsO es with
      | some ns => P ns fun i => Q (.int i) M
      | none => False
    | none => False
  | _ => False
theorem dc_fold {id : Value} {P : List Int → (Int → Prop) → Prop} (h : CallR X id (fun vs H Q => ∃ (a : Addr) (ns : List Int), vs = [V.ref a] ∧ SqL X.K H a (ns.map V.int) ∧ P ns fun i => Q (.int i) H))
    (mono : ∀ {ns : List Int} {F G : Int → Prop}, (∀ i, F i → G i) → P ns F → P ns G) : DC X id (foldC P) := by
  intro pins s σ H M xs ds us Q Qd I mo r rv t q
  unfold foldC at t
  split at t
  · rename_i d
    obtain ⟨v, rfl, rd⟩ := rs1 r
    split at t
    · rename_i es he
      split at t
      · rename_i ns hn
        obtain ⟨a, ys, rfl, ha, sa⟩ := lst_of mo rd he
        exact h pins s σ H _ us Q I rv ⟨a, ns, rfl, by rw [← ints_rs sa hn]; exact ha, mono (fun i z => q _ _ (up_same (d := .int i) mo z rfl)) t⟩
      · exact t.elim
    · exact t.elim
  · exact t.elim
abbrev sumC : OC := foldC fun ns F => F ns.sum
def pMax (ns : List Int) (F : Int → Prop) : Prop := 0 < ns.length ∧ ∀ m, m ∈ ns → (∀ y, y ∈ ns → y ≤ m) → F m
def pMin (ns : List Int) (F : Int → Prop) : Prop := 0 < ns.length ∧ ∀ m, m ∈ ns → (∀ y, y ∈ ns → m ≤ y) → F m
abbrev maxC : OC := foldC pMax
abbrev minC : OC := foldC pMin
theorem dc_sum (hc : X.calm = true) : DC X (.builtin "sum") sumC := dc_fold (P := fun ns F => F ns.sum) (cr_sum hc) fun h z => h _ z
theorem dc_max (hc : X.calm = true) : DC X (.builtin "max") maxC := dc_fold (P := pMax) (cr_max hc) fun h z => ⟨z.1, fun m h1 h2 => h _ (z.2 m h1 h2)⟩
theorem dc_min (hc : X.calm = true) : DC X (.builtin "min") minC := dc_fold (P := pMin) (cr_min hc) fun h z => ⟨z.1, fun m h1 h2 => h _ (z.2 m h1 h2)⟩

/-! ### in -/
def flD : D → Option V
  | .non => some .non
  | .bl b => some (.bl b)
  | .int i => some (.int i)
  | .str x => some (.str x)
  | _ => none
theorem fl_of {K : Fg} {H : Hp} {M : Mem} {d : D} {u v : V} (r : Rv K H M d v) (e : flD d = some u) : v = u ∧ flatV v = true := by
  cases d with
  | non => have e' : some V.non = some u := e; cases e'; rw [show v = V.non from r]; exact ⟨rfl, rfl⟩
  | bl b => have e' : some (V.bl b) = some u := e; cases e'; rw [show v = V.bl b from r]; exact ⟨rfl, rfl⟩
  | int b => have e' : some (V.int b) = some u := e; cases e'; rw [show v = V.int b from r]; exact ⟨rfl, rfl⟩
  | str b => have e' : some (V.str b) = some u := e; cases e'; rw [show v = V.str b from r]; exact ⟨rfl, rfl⟩
  | _ => cases e
def flsD : List D → Option (List V)
  | [] => some []
  | d :: ds => match flD d, flsD ds with
    | some v, some vs => some (v :: vs)
    | _, _ => none
theorem fls_of {K : Fg} {H : Hp} {M : Mem} : ∀ {ds : List D} {us vs : List V}, Rs K H M ds vs → flsD ds = some us → vs = us ∧ vs.all flatV = true
  | [], us, vs, r, e => by
    have e' : some [] = some us := e
    cases e'
    have r' : vs = [] := r
    subst r'
    exact ⟨rfl, rfl⟩
  | d :: ds, us, vs, ⟨v, rr, ex, h, q⟩, e => by
    unfold flsD at e
    split at e
    · rename_i w ws h1 h2
      cases e
      obtain ⟨e1, f1⟩ := fl_of h h1
      obtain ⟨e2, f2⟩ := fls_of q h2
      subst ex
      exact ⟨by rw [e1, e2], by rw [List.all_cons, f1, f2]; rfl⟩
    · cases e
def inO (M : Mem) (x y : D) : Option Bool := match vw M y with
  | .dct ks ds => match keyD (vw M x) with
    | some k => some (valD ks ds k).isSome
    | none => none
  | _ => match itemsO M y with
    | some ds => match flD (vw M x), flsD ds with
      | some v, some vs => some (inV v vs)
      | _, _ => none
    | none => none
def inD : O2 := fun x y M Q => match inO M x y with
  | some b => Q (.bl b) M
  | none => False
def notInD : O2 := fun x y M Q => match inO M x y with
  | some b => Q (.bl (!b)) M
  | none => False
end
end DL
set_option maxHeartbeats 1000000
namespace DL
open PySem PySem.Spec PyProof.Rows L2

section
variable {X : Cx} {E : XK} {n k : Nat} {x : Str} {p pos p2 pos' : Pos} {e a b c tg o i value : Expr} {es : List Expr} {ts : TAD} {te ta tb td tv : TED}
theorem vw_fl {K : Fg} {H : Hp} {M : Mem} {d : D} {u v : V} (r : Rv K H M d v) (e : flD (vw M d) = some u) : v = u ∧ flatV v = true := by
  cases q : vw M d with
  | non => rw [q] at e; rw [vw_non r q]; exact fl_of (K := K) (H := H) (M := M) (d := .non) rfl e
  | bl b => rw [q] at e; rw [vw_bl r q]; exact fl_of (K := K) (H := H) (M := M) (d := .bl b) rfl e
  | int b => rw [q] at e; rw [vw_int r q]; exact fl_of (K := K) (H := H) (M := M) (d := .int b) rfl e
  | str b => rw [q] at e; rw [vw_str r q]; exact fl_of (K := K) (H := H) (M := M) (d := .str b) rfl e
  | _ => rw [q] at e; cases e
theorem vw_key {K : Fg} {H : Hp} {M : Mem} {d : D} {k : Key} {v : V} (r : Rv K H M d v) (e : keyD (vw M d) = some k) : v = kV k := by
  cases q : vw M d with
  | int b => rw [q] at e; rw [vw_int r q]; exact key_of_d (K := K) (H := H) (M := M) (d := .int b) rfl e
  | str b => rw [q] at e; rw [vw_str r q]; exact key_of_d (K := K) (H := H) (M := M) (d := .str b) rfl e
  | _ => rw [q] at e; cases e
theorem in_cases {M : Mem} {dx dy : D} {b : Bool} (h : inO M dx dy = some b) :
    (∃ ks ds k, vw M dy = .dct ks ds ∧ keyD (vw M dx) = some k ∧ b = (valD ks ds k).isSome) ∨ ∃ ds v vs, itemsO M dy = some ds ∧ flD (vw M dx) = some v ∧ flsD ds = some vs ∧ b = inV v vs := by
  unfold inO at h
  split at h
  · rename_i ks ds hq
    split at h
    · rename_i k hk
      exact .inl ⟨ks, ds, k, hq, hk, (Option.some.inj h).symm⟩
    · cases h
  · split at h
    · rename_i ds hi
      split at h
      · rename_i v vs h1 h2
        exact .inr ⟨ds, v, vs, hi, h1, h2, (Option.some.inj h).symm⟩
      · cases h
    · cases h
theorem do_in (hu : X.A.units + 1 < cLine) : DOp X (compareOp .In) inD := by
  intro pins s σ H M x y dx dy v u Q Qd I mo r1 r2 rx ry t q
  unfold inD at t
  split at t
  · rename_i bb hb
    rcases in_cases hb with ⟨ks, ds, k, h1, h2, rfl⟩ | ⟨ds, w, ws, h1, h2, h3, rfl⟩
    · obtain ⟨p, xs, rfl, hp, hl, sp⟩ := vw_dct mo r2 h1
      have ex := vw_key r1 h2
      subst ex
      obtain rfl : u = Value.ref p := ry
      refine d_in hu I (DGet.k (k := k) hp) rx fun s3 I3 => ⟨.bl _, H, I3, rfl, ?_⟩
      rw [zip_none k sp]
      exact q _ _ (up_same mo t rfl)
    · obtain ⟨a, ys, rfl, ha, sa⟩ := items_of mo r2 h1
      obtain ⟨e1, f1⟩ := vw_fl r1 h2
      obtain ⟨e2, f2⟩ := fls_of sa h3
      subst e1 e2
      exact op_in_seq pins s σ H _ _ v u Q I rx ry ⟨a, _, rfl, ha, f1, f2, q _ _ (up_same mo t rfl)⟩
  · exact t.elim
theorem do_notin (hu : X.A.units + 1 < cLine) : DOp X (compareOp .NotIn) notInD := by
  intro pins s σ H M x y dx dy v u Q Qd I mo r1 r2 rx ry t q
  unfold notInD at t
  split at t
  · rename_i bb hb
    rcases in_cases hb with ⟨ks, ds, k, h1, h2, rfl⟩ | ⟨ds, w, ws, h1, h2, h3, rfl⟩
    · obtain ⟨p, xs, rfl, hp, hl, sp⟩ := vw_dct mo r2 h1
      have ex := vw_key r1 h2
      subst ex
      obtain rfl : u = Value.ref p := ry
      refine d_notIn hu I (DGet.k (k := k) hp) rx fun s3 I3 => ⟨.bl _, H, I3, rfl, ?_⟩
      rw [zip_none k sp]
      exact q _ _ (up_same mo t rfl)
    · obtain ⟨a, ys, rfl, ha, sa⟩ := items_of mo r2 h1
      obtain ⟨e1, f1⟩ := vw_fl r1 h2
      obtain ⟨e2, f2⟩ := fls_of sa h3
      subst e1 e2
      exact op_notIn_seq pins s σ H _ _ v u Q I rx ry ⟨a, _, rfl, ha, f1, f2, q _ _ (up_same mo t rfl)⟩
  · exact t.elim

/-! ### slices -/
abbrev TOD := XD → SD → Mem → (Option Int → Mem → Prop) → Prop
structure DO (X : Cx) (E : XK) (e : Option Expr) (t : TOD) : Prop where
  ok : PO X e (fun σ H Q => ∃ s M Qd Xd, StOk X.K σ H s M ∧ XTo X.K H M Xd E ∧ t Xd s M Qd ∧ ∀ l H', (∃ M', Gw H M H' M' ∧ MOk X.K H' M' ∧ Qd l M') → Q l H')
def oNo : TOD := fun _ _ M Q => Q none M
def oSoK (Q : Option Int → Mem → Prop) : QD := fun d M => match vw M d with
  | .int i => Q (some i) M
  | _ => False
def oSo (te : TED) : TOD := fun Xd s M Q => te Xd s M (oSoK Q)
theorem PO.imp {eo : Option Expr} {t t' : TO} (h : PO X eo t) (i : ∀ σ H Q, t' σ H Q → t σ H Q) : PO X eo t' := ⟨fun pins s σ H Q I q => h.run pins s σ H Q I (i σ H Q q)⟩
theorem do_none : DO X E none oNo := ⟨PO.imp po_none fun σ H Q ⟨s, M, Qd, Xd, S, x, t, q⟩ => q none H ⟨M, Gw.refl, S.mem, t⟩⟩
theorem do_some (h : DE X E e te) : DO X E (some e) (oSo te) := ⟨PO.imp (po_some h.ok) fun σ H Q ⟨s, M, Qd, Xd, S, x, t, q⟩ => by
  refine useE S x t fun d v M1 H1 g1 S1 x1 r1 t1 => ?_
  unfold oSoK at t1
  split at t1
  · rename_i i h
    exact ⟨i, vw_int r1 h, q (some i) H1 ⟨M1, g1, S1.mem, t1⟩⟩
  · exact t1.elim⟩
def cutD {α : Type} (xs : List α) (lo hi : Option Int) : List α := (xs.drop (HT.sIx xs.length 0 lo)).take (HT.sIx xs.length xs.length hi - HT.sIx xs.length 0 lo)
theorem rs_cut {K : Fg} {H : Hp} {M : Mem} {ds : List D} {xs : List V} (r : Rs K H M ds xs) (lo hi : Option Int) : Rs K H M (cutD ds lo hi) (cutV xs lo hi) := by
  unfold cutD cutV
  rw [vlen r]
  exact Rs.take _ (Rs.drop _ r)
def slO (M : Mem) (d : D) (lo hi : Option Int) : Option D := match vw M d with
  | .tup ds => some (.tup (cutD ds lo hi))
  | .lst ds => some (.lst (cutD ds lo hi))
  | .fzn ds => some (.lst (cutD ds lo hi))
  | _ => none
def slK (l u : Option Int) (d : D) (Q : QD) : Mem → Prop := fun M => match slO M d l u with
  | some r => Q r M
  | none => False
def dSl (te : TED) (tl tu : TOD) : TED := fun Xd s M Q => te Xd s M fun d M1 => tl Xd s M1 fun l M2 => tu Xd s M2 fun u M3 => slK l u d Q M3
theorem de_sl {lo hi : Option Expr} {tl tu : TOD} (he : DE X E e te) (hl : DO X E lo tl) (hu : DO X E hi tu) : DE X E (.Subscript e (.Slice lo hi none p2) pos) (dSl te tl tu) :=
  ⟨PE.imp (pe_slice (sl_list.or sl_tupA) he.ok hl.ok hu.ok) fun σ H Q ⟨s, M, Qd, Xd, S, x, t, q⟩ => by
    refine useE S x t fun d v M1 H1 g1 S1 x1 r1 t1 => ?_
    refine ⟨s, M1, _, Xd, S1, x1, t1, fun l H2 ⟨M2, g2, m2, t2⟩ => ?_⟩
    refine ⟨s, M2, _, Xd, S1.grow g2 m2, x1.grow g2, t2, fun u H3 ⟨M3, g3, m3, t3⟩ => ?_⟩
    have r3 : Rv X.K H3 M3 d v := Rv.grow g3 _ _ (Rv.grow g2 _ _ r1)
    have gg := (g1.trans g2).trans g3
    unfold slK at t3
    split at t3
    · rename_i r hr
      unfold slO at hr
      split at hr
      · rename_i ds h
        cases hr
        obtain ⟨p, ys, rfl, ha, sa⟩ := vw_tup r3 h
        refine .inr ⟨p, ys, rfl, ha.sq, fun hw => ?_, fun _ pp hl => q _ _ ⟨_, M3, gg.trans (gw_new hl), mok_new m3 hl, new_tup m3 hl (rs_cut sa l u), t3⟩⟩
        have e : cutD ds l u = ds := by
          unfold cutD
          rw [vlen sa] at hw
          rw [hw.1, hw.2, List.drop_zero, Nat.sub_zero, List.take_length]
        rw [e] at t3
        exact q _ _ ⟨.tup ds, M3, gg, m3, ⟨p, ys, rfl, ha, sa⟩, t3⟩
      · rename_i ds h
        cases hr
        obtain ⟨p, ys, rfl, ha, sa⟩ := vw_lst m3 r3 h
        exact .inl ⟨p, ys, rfl, SqL.of ha, fun pp hl => q _ _ ⟨_, M3, gg.trans (gw_new hl), mok_new m3 hl, new_lst m3 hl (rs_cut sa l u), t3⟩⟩
      · rename_i ds h
        cases hr
        obtain ⟨p, ys, rfl, ha, sa⟩ := vw_fzn r3 h
        exact .inl ⟨p, ys, rfl, ha.sq, fun pp hl => q _ _ ⟨_, M3, gg.trans (gw_new hl), mok_new m3 hl, new_lst m3 hl (rs_cut sa l u), t3⟩⟩
      · cases hr
    · exact t3.elim⟩

/-! ### dicts that are changed -/
/-- a key put, at its place or at the end -/
def putD : List Key → List D → Key → D → List Key × List D
  | [], [], k, v => ([k], [v])
  | j :: ks, d :: ds, k, v => if j = k then (j :: ks, v :: ds) else ((j :: (putD ks ds k v).1), (d :: (putD ks ds k v).2))
  | ks, ds, k, v => (ks, ds)
theorem putK_cons {p : Key × V} {r : List (Key × V)} {k : Key} {v : V} (hn : ¬ p.1 = k) : putK (p :: r) k v = p :: putK r k v := by
  unfold putK
  rw [List.any_cons, show decide (p.1 = k) = false from decide_eq_false hn, Bool.false_or]
  by_cases ha : (r.any fun kv => decide (kv.1 = k)) = true
  · rw [if_pos ha, if_pos ha, List.map_cons, if_neg hn]
  · rw [if_neg ha, if_neg ha]; rfl
theorem putK_head {p : Key × V} {r : List (Key × V)} {k : Key} {v : V} (hp : p.1 = k) (hr : ∀ q ∈ r, ¬ q.1 = k) : putK (p :: r) k v = (k, v) :: r := by
  unfold putK
  rw [List.any_cons, show decide (p.1 = k) = true from decide_eq_true hp, Bool.true_or, if_pos rfl, List.map_cons, if_pos hp, hp]
  congr 1
  have : ∀ l : List (Key × V), (∀ q ∈ l, ¬ q.1 = k) → (l.map fun kv => if kv.1 = k then (kv.1, v) else kv) = l := by
    intro l
    induction l with
    | nil => intro _; rfl
    | cons q r ih =>
      intro h
      rw [List.map_cons, if_neg (h q List.mem_cons_self), ih fun z hz => h z (List.mem_cons_of_mem _ hz)]
  exact this r hr
theorem put_rs {K : Fg} {H : Hp} {M : Mem} {k : Key} {d : D} {v : V} (rv : Rv K H M d v) : ∀ {ks : List Key} {ds : List D} {xs : List V}, ks.Nodup → ks.length = ds.length → Rs K H M ds xs →
    ∃ ys, Rs K H M (putD ks ds k d).2 ys ∧ putK (ks.zip xs) k v = (putD ks ds k d).1.zip ys ∧ (putD ks ds k d).1.length = (putD ks ds k d).2.length
  | [], [], xs, _, _, r => by
    have e : xs = [] := r
    subst e
    exact ⟨[v], Rs.cons rv Rs.nil, rfl, rfl⟩
  | [], _ :: _, _, _, hl, _ => by simp at hl
  | _ :: _, [], _, _, hl, _ => by simp at hl
  | j :: ks, d0 :: ds, _, nd, hl, ⟨v0, rr, rfl, h, q⟩ => by
    have nd' := List.nodup_cons.mp nd
    by_cases hj : j = k
    · have e1 : putD (j :: ks) (d0 :: ds) k d = (j :: ks, d :: ds) := by show (if j = k then _ else _) = _; rw [if_pos hj]
      rw [e1]
      refine ⟨v :: rr, Rs.cons rv q, ?_, hl⟩
      rw [List.zip_cons_cons, List.zip_cons_cons, putK_head hj (fun z hz e => ?_), hj]
      have : z.1 ∈ ks := (List.of_mem_zip (show (z.1, z.2) ∈ ks.zip rr from hz)).1
      rw [e, ← hj] at this
      exact nd'.1 this
    · have e1 : putD (j :: ks) (d0 :: ds) k d = ((j :: (putD ks ds k d).1), (d0 :: (putD ks ds k d).2)) := by show (if j = k then _ else _) = _; rw [if_neg hj]
      obtain ⟨ys, h1, h2, h3⟩ := put_rs rv nd'.2 (by simpa using hl) q
      rw [e1]
      refine ⟨v0 :: ys, Rs.cons h h1, ?_, by simp [h3]⟩
      rw [List.zip_cons_cons, putK_cons hj, h2, List.zip_cons_cons]
/-- o[i] = v -/
def setK (o i v : D) (k : Mem → Prop) : Mem → Prop := fun M => match o with
  | .ref a => match M a with
    | some (.lst ds) => match i with
      | .int z => match ixN ds.length z with
        | some j => k (M.put a (.lst (ds.set j v)))
        | none => False
      | _ => False
    | some (.dct ks ds) => match keyD i with
      | some key => (ks.Nodup ∧ ks.length < 1000) ∧ k (M.put a (.dct (putD ks ds key v).1 (putD ks ds key v).2))
      | none => False
    | _ => False
  | _ => False
def rSetA : V → V → V → Hp → (Hp → Prop) → Prop := fun o i v H Q => rSetL o i v H Q ∨ ∃ a H', o = .ref a ∧ DPut H a i v H' ∧ Q H'
theorem set_any (hu : X.A.units + 1 < cLine) : PSet X rSetA := by
  intro pins s σ H o i v ov iv u Q I ro ri rv h
  rcases h with h | ⟨a, H', rfl, g, q⟩
  · exact set_list pins s σ H o i v ov iv u Q I ro ri rv h
  · obtain rfl : ov = Value.ref a := ro
    exact d_setItem hu I g ri rv fun s4 I4 => ⟨H', I4, q⟩
theorem setK_ok {H H0 : Hp} {M M0 : Mem} {do_ di dv : D} {o i v : V} {k : Mem → Prop} {Q : Hp → Prop} (mo : MOk X.K H M) (ro : Rv X.K H M do_ o) (ri : Rv X.K H M di i) (rv : Rv X.K H M dv v) (t : setK do_ di dv k M)
    (q : ∀ H' M', Gw H M H' M' → MOk X.K H' M' → k M' → Q H') : rSetA o i v H Q := by
  unfold setK at t
  split at t
  · rename_i a
    have eo : o = .ref a := ro
    split at t
    · rename_i ds hm
      split at t
      · rename_i z
        split at t
        · rename_i j hj
          obtain ⟨xs, h1, h2⟩ := mo a _ hm
          refine .inl ⟨a, xs, z, j, eo, ri, h1, by rw [vlen h2]; exact hj, q (upd H a (.lst (xs.set j v))) (M.put a (.lst (ds.set j dv))) (gw_put hm) (mok_put mo hm ⟨xs.set j v, upd_same, Rs.grow (gw_put hm) _ _ (Rs.set rv j h2)⟩) t⟩
        · exact t.elim
      · exact t.elim
    · rename_i ks ds hm
      split at t
      · rename_i key hk
        obtain ⟨xs, h1, h3, h2⟩ := mo a _ hm
        obtain ⟨ys, e1, e2, e3⟩ := put_rs (k := key) rv t.1.1 h3 h2
        have hlen : (ks.zip xs).length < sizeLine := by
          rw [List.length_zip, sizeLine_eq]
          have := t.1.2
          omega
        refine .inr ⟨a, _, eo, ?_, q (upd H a (.dK ((putD ks ds key dv).1.zip ys))) (M.put a (.dct (putD ks ds key dv).1 (putD ks ds key dv).2)) (gw_put hm) (mok_put mo hm ⟨ys, upd_same, e3, Rs.grow (gw_put hm) _ _ e1⟩) t.2⟩
        rw [key_of_d ri hk, ← e2]
        exact DPut.k h1 hlen
      · exact t.elim
    · exact t.elim
  · exact t.elim
def gSb (to ti : TED) : TGD := fun d Xd s M Q => to Xd s M fun o M1 => ti Xd s M1 fun i M2 => setK o i d (fun M3 => Q s M3) M2
theorem dg_sub {to ti : TED} (hu : X.A.units + 1 < cLine) (ho : DE X E o to) (hi : DE X E i ti)
    (ha : ∀ v, assign (.Subscript o i pos) X.env v = (do
      let ov ← holding [v] (eval o X.env)
      let iv ← holding [v, ov] (eval i X.env)
      standAt pos
      holding [v, ov, iv] (setItem ov iv v)
      release [v, ov, iv] []) := by intro _; rfl) : DG X E (.Subscript o i pos) (gSb to ti) := by
  refine ⟨_, pg_sub ho.ok hi.ok (set_any hu) ha, fun {v d σ H s M Xd Qd Q} S x r t q => ?_⟩
  refine useE S x t fun od ov M1 H1 g1 S1 x1 r1 t1 => ?_
  refine useE S1 x1 t1 fun di iv M2 H2 g2 S2 x2 r2 t2 => ?_
  exact setK_ok (H0 := H) (M0 := M) S2.mem (Rv.grow g2 _ _ r1) r2 (Rv.grow g2 _ _ (Rv.grow g1 _ _ r)) t2 fun H3 M3 g3 m3 t3 => q _ _ ⟨s, M3, (g1.trans g2).trans g3, S2.grow g3 m3, t3⟩
/-- {k: v, ..}, changed later -/
def dPairs : List (Key × TED) → XD → SD → Mem → (List D → Mem → Prop) → Prop
  | [], _, _, M, Q => Q [] M
  | (_, t) :: r, Xd, s, M, Q => t Xd s M fun d M1 => dPairs r Xd s M1 fun ds M2 => Q (d :: ds) M2
def dDct (trs : List (Key × TED)) : TED := fun Xd s M Q => ∀ p, M p = none → dPairs trs Xd s (M.put p (.dct [] [])) fun ds M1 => M1 p = some (.dct [] []) ∧ Q (.ref p) (M1.put p (.dct (trs.map (·.1)) ds))
inductive DPs (X : Cx) (E : XK) (pos : Pos) : List (Option Expr) → List Expr → List (Key × TED) → List (TE × TE) → Prop
  | nil : DPs X E pos [] [] [] []
  | str {x : Str} {j : Nat} {p : Pos} {v : Expr} {t : TED} {ks : List (Option Expr)} {vs : List Expr} {r : List (Key × TED)} {q : List (TE × TE)} (hv : DE X E v t) (h : DPs X E pos ks vs r q) :
      DPs X E pos (some (.Constant (.str x) j p) :: ks) (v :: vs) ((.inr x, t) :: r) ((tC (.str x), liftE X.K E t) :: q)
theorem DPs.pps {ks : List (Option Expr)} {vs : List Expr} {r : List (Key × TED)} {q : List (TE × TE)} (h : DPs X E pos ks vs r q) : PPs X pos ks vs q := by
  induction h with
  | nil => exact pps_nil
  | str hv _ ih => exact pps_cons pe_str hv.ok ih
theorem DPs.lift {ks : List (Option Expr)} {vs : List Expr} {r : List (Key × TED)} {qs : List (TE × TE)} (h : DPs X E pos ks vs r qs) : ∀ {σ : L2.St} {H : Hp} {s : SD} {M : Mem} {Xd : XD} {Qd : List D → Mem → Prop} {Q : List (V × V) → Hp → Prop},
    StOk X.K σ H s M → XTo X.K H M Xd E → dPairs r Xd s M Qd → (∀ ds xs M' H', ds.length = r.length → Gw H M H' M' → StOk X.K σ H' s M' → Rs X.K H' M' ds xs → Qd ds M' → Q (((r.map (·.1)).zip xs).map fun kv => (kV kv.1, kv.2)) H') → tPairs qs σ H Q := by
  induction h with
  | nil =>
    intro σ H s M Xd Qd Q S x t q
    exact q [] [] M H rfl Gw.refl S rfl t
  | @str y j p v tt ks vs r qs hv _ ih =>
    intro σ H s M Xd Qd Q S x t q
    show tPairs ((tC (.str y), liftE X.K E tt) :: qs) σ H Q
    refine useE S x t fun d w M1 H1 g1 S1 x1 r1 t1 => ?_
    refine ih S1 x1 t1 fun ds xs M2 H2 e1 g2 S2 r2 t2 => ?_
    exact q (d :: ds) (w :: xs) M2 H2 (by simp [e1]) (g1.trans g2) S2 (Rs.cons (Rv.grow g2 _ _ r1) r2) t2
theorem merge_nodup : ∀ {more acc : List (Key × V)}, ((acc ++ more).map (·.1)).Nodup → mergeK acc more = acc ++ more
  | [], acc, _ => by show acc = acc ++ []; rw [List.append_nil]
  | p :: r, acc, nd => by
    have hn : valV acc p.1 = none := by
      cases e : valV acc p.1 with
      | none => rfl
      | some v =>
        exfalso
        unfold valV at e
        rw [Option.map_eq_some_iff] at e
        obtain ⟨kv, h1, _⟩ := e
        have hm := List.mem_of_find?_eq_some h1
        have hk : kv.1 = p.1 := by simpa using List.find?_some h1
        rw [List.map_append, List.map_cons] at nd
        have := (List.nodup_append.mp nd).2.2 kv.1 (List.mem_map.mpr ⟨kv, hm, rfl⟩) p.1 List.mem_cons_self
        exact this hk
    show mergeK (putK acc p.1 p.2) r = _
    rw [putK_new p.2 hn, merge_nodup (by rw [List.append_assoc]; exact nd), List.append_assoc]; rfl
theorem de_dct {keys : List (Option Expr)} {values : List Expr} {trs : List (Key × TED)} {qs : List (TE × TE)} (h : DPs X E pos keys values trs qs) (hall : keys.all (·.isSome) = true) (hl : keys.length = values.length) (h0 : keys ≠ []) (h15 : keys.length ≤ 15) (ht : trs.length ≤ 15)
    (nd : (trs.map (·.1)).Nodup) : DE X E (.Dict keys values pos) (dDct trs) :=
  ⟨PE.imp (pe_disp h.pps hall hl h0 h15) fun σ H Q ⟨s, M, Qd, Xd, S, x, t, q⟩ => fun p hp => by
    have t1 := t p (m_none S.mem hp)
    have gp : Gw H M (upd H p (.dK [])) (M.put p (.dct [] [])) := gw_own hp
    have mp : MOk X.K (upd H p (.dK [])) (M.put p (.dct [] [])) := mok_own S.mem hp (show MObj X.K (upd H p (.dK [])) (M.put p (.dct [] [])) p (.dct [] []) from ⟨[], upd_same, rfl, rfl⟩)
    refine h.lift (S.grow gp mp) (x.grow gp) t1 fun ds xs M2 H2 e1 g2 S2 r2 t2 => ?_
    obtain ⟨hm, t2⟩ := t2
    obtain ⟨ys, h1, _, h2⟩ := S2.mem p _ hm
    have e2 : (trs.map (·.1)).length = ds.length := by rw [List.length_map, e1]
    refine ⟨h1, (trs.map (·.1)).zip xs, rfl, ?_, ?_⟩
    · rw [List.length_zip, List.length_map]; omega
    · have hz : mergeK [] ((trs.map (·.1)).zip xs) = (trs.map (·.1)).zip xs := by
        rw [merge_nodup, List.nil_append]
        rw [List.nil_append, List.map_fst_zip (by rw [vlen r2, e2]; exact Nat.le_refl _)]
        exact nd
      rw [hz]
      exact q _ _ ⟨.ref p, M2.put p (.dct (trs.map (·.1)) ds), (gp.trans g2).trans (gw_put hm), mok_put S2.mem hm ⟨xs, upd_same, e2, Rs.grow (gw_put hm) _ _ r2⟩, rfl, t2⟩⟩
end
end DL
set_option maxHeartbeats 1000000
namespace DL
open PySem PySem.Spec PyProof.Rows L2

section
variable {X : Cx} {E : XK} {n k : Nat} {x : Str} {p pos p2 pos' apos : Pos} {e a b c tg o i value : Expr} {es : List Expr} {ts : TAD} {te ta tb td tv to : TED}
/-! ### append -/
def appK (d : D) (Q : QD) (p : Addr) : Mem → Prop := fun M => match M p with
  | some (.lst ds) => ds.length < sizeLine ∧ Q .non (M.put p (.lst (ds ++ [d])))
  | _ => False
def dApp (to te : TED) : TED := fun Xd s M Q => to Xd s M fun o M1 => match o with
  | .ref p => match M1 p with
    | some (.lst _) => te Xd s M1 fun d M2 => appK d Q p M2
    | _ => False
  | _ => False
theorem de_app (ho : DE X E o to) (he : DE X E e te) (hbase : attributeBase o "append" X.env (eval o X.env) = eval o X.env := by rfl)
    (hfew : ((backTo pos (starEach (e :: []) X.env)).all (fun x => !x.1) && (backToKw pos (keywordEach [] X.env)).all (fun x => x.1.isSome)
      && decide ((e :: []).length + ([] : List Keyword).length + (if ([] : List Keyword).isEmpty then 0 else 1) < 30)) = true := by rfl)
    (hline : (apos.endLine == pos.line) = true := by rfl) (hs : starEach (e :: []) X.env = (false, eval e X.env) :: starEach [] X.env := by rfl) : DE X E (.Call (.Attribute o "append" apos) [e] [] pos) (dApp to te) :=
  ⟨PE.imp (pe_bm PySem.F.plainAttrs_list PySem.F.slot_list_append PySem.F.type_list_append mt_append ho.ok (pa_cons he.ok pa_nil hs) hbase hfew hline hs (by rfl)) fun σ H Q ⟨s, M, Qd, Xd, S, x, t, q⟩ => by
    refine useE S x t fun od v M1 H1 g1 S1 x1 r1 t1 => ?_
    split at t1
    · rename_i l
      have ev : v = .ref l := r1
      split at t1
      · rename_i ds hm
        obtain ⟨xs, h1, h2⟩ := S1.mem l _ hm
        subst ev
        refine ⟨.inl ⟨rfl, xs, SqL.of h1⟩, ?_⟩
        refine useE S1 x1 t1 fun d w M2 H2 g2 S2 x2 r2 t2 => ?_
        unfold appK at t2
        split at t2
        · rename_i es he2
          obtain ⟨ys, h3, h4⟩ := S2.mem l _ he2
          refine ⟨l, ys, w, rfl, rfl, h3, by rw [vlen h4]; exact t2.1, q _ _ ⟨.non, M2.put l (.lst (es ++ [d])), (g1.trans g2).trans (gw_put he2), mok_put S2.mem he2 ⟨ys ++ [w], upd_same, Rs.grow (gw_put he2) _ _ (Rs.append h4 (Rs.cons r2 Rs.nil))⟩, rfl, t2.2⟩⟩
        · exact t2.elim
      · exact t1.elim
    · exact t1.elim⟩

/-! ### an empty dict -/
def dDctN : TED := fun _ _ M Q => ∀ p, M p = none → Q (.ref p) (M.put p (.dct [] []))
theorem de_dctN : DE X E (.Dict [] [] pos) dDctN := ⟨PE.imp pe_dnewK fun σ H Q ⟨s, M, Qd, Xd, S, x, t, q⟩ => fun p hp =>
  q _ _ ⟨.ref p, M.put p (.dct [] []), gw_own hp, mok_own S.mem hp (show MObj X.K (upd H p (.dK [])) (M.put p (.dct [] [])) p (.dct [] []) from ⟨[], upd_same, rfl, rfl⟩), rfl, t p (m_none S.mem hp)⟩⟩

/-! ### xs[::-1] of a list -/
def revK (Q : QD) : QD := fun d M => match lstO M d with
  | some ds => Q (.lst ds.reverse) M
  | none => False
def dRev (te : TED) : TED := fun Xd s M Q => te Xd s M (revK Q)
theorem de_rev {j : Nat} {p1 p2 p3 : Pos} (he : DE X E e te) : DE X E (.Subscript e (.Slice none none (some (.UnaryOp .USub (.Constant (.int 1) j p1) p2)) p3) pos) (dRev te) :=
  ⟨PE.imp (pe_revL he.ok) fun σ H Q ⟨s, M, Qd, Xd, S, x, t, q⟩ => by
    refine useE S x t fun d v M1 H1 g1 S1 x1 r1 t1 => ?_
    unfold revK at t1
    split at t1
    · rename_i ds hd
      obtain ⟨a, xs, rfl, ha, sa⟩ := lst_of S1.mem r1 hd
      exact ⟨a, xs, rfl, ha, fun l hl => q _ _ ⟨_, M1, g1.trans (gw_new hl), mok_new S1.mem hl, new_lst S1.mem hl (Rs.reverse sa), t1⟩⟩
    · exact t1.elim⟩

/-! ### ranges as values -/
structure DR (X : Cx) (E : XK) (e : Expr) (t : XD → SD → Mem → (Int → Int → Mem → Prop) → Prop) : Prop where
  ok : PRg X e (fun σ H Q => ∃ s M Qd Xd, StOk X.K σ H s M ∧ XTo X.K H M Xd E ∧ t Xd s M Qd ∧ ∀ i j H', (∃ M', Gw H M H' M' ∧ MOk X.K H' M' ∧ Qd i j M') → Q i j H')
theorem PRg.imp {t t' : L2.St → Hp → (Int → Int → Hp → Prop) → Prop} (h : PRg X e t) (i : ∀ σ H Q, t' σ H Q → t σ H Q) : PRg X e t' := fun pins s σ H Q I q => h pins s σ H Q I (i σ H Q q)
def rg1K (Q : Int → Int → Mem → Prop) : QD := fun d M => match d with
  | .int n => Q 0 n M
  | _ => False
def rg1 (te : TED) : XD → SD → Mem → (Int → Int → Mem → Prop) → Prop := fun Xd s M Q => te Xd s M (rg1K Q)
theorem dr_1 (hg : Gl X "range") (hm : X.mg "range" = none) (ha : DE X E a ta) (na : starEach [a] X.env = (false, eval a X.env) :: starEach [] X.env := by rfl) : DR X E (.Call (.Name "range" p) [a] [] pos) (rg1 ta) :=
  ⟨PRg.imp (prg_1 hg hm ha.ok na) fun σ H Q ⟨s, M, Qd, Xd, S, x, t, q⟩ => by
    refine useE S x t fun d v M1 H1 g1 S1 x1 r1 t1 => ?_
    unfold rg1K at t1
    split at t1
    · rename_i n
      exact ⟨n, r1, q 0 n H1 ⟨M1, g1, S1.mem, t1⟩⟩
    · exact t1.elim⟩
def dLstRg (t : XD → SD → Mem → (Int → Int → Mem → Prop) → Prop) : TED := fun Xd s M Q => t Xd s M fun i j M1 => RgOk i j ∧ Q (.lst (rngL i (j - i).toNat)) M1
theorem rs_rg {K : Fg} {H : Hp} {M : Mem} (i : Int) : ∀ l : List Nat, Rs K H M (l.map fun k => D.int (i + (k : Nat))) (l.map fun k => V.int (i + (k : Nat)))
  | [] => rfl
  | k :: l => Rs.cons rfl (rs_rg i l)
theorem de_lstRg {t : XD → SD → Mem → (Int → Int → Mem → Prop) → Prop} (hc : X.calm = true) (hg : Gl X "list") (hm : X.mg "list" = none) (he : DR X E e t) (na : starEach [e] X.env = (false, eval e X.env) :: starEach [] X.env := by rfl) : DE X E (.Call (.Name "list" p) [e] [] pos) (dLstRg t) :=
  ⟨PE.imp (pe_listRg hc hg hm he.ok na) fun σ H Q ⟨s, M, Qd, Xd, S, x, t, q⟩ => by
    refine ⟨s, M, _, Xd, S, x, t, fun i j H1 ⟨M1, g1, m1, t1⟩ => ⟨t1.1, fun l hl => ?_⟩⟩
    exact q _ _ ⟨_, M1, g1.trans (gw_new hl), mok_new m1 hl, new_lst m1 hl (rs_rg i _), t1.2⟩⟩
def iRevD (t : XD → SD → Mem → (Int → Int → Mem → Prop) → Prop) : TID := fun Xd s M R => t Xd s M fun i j M1 => (-(2 ^ 62) ≤ i ∧ i < 2 ^ 62 ∧ -(2 ^ 62) ≤ j ∧ j < 2 ^ 62) ∧ R (rngL i (j - i).toNat).reverse none M1
theorem rev_rng (i : Int) (n : Nat) : (rngL i n).reverse = (List.range n).map fun k => D.int (i + (n : Int) - 1 + (k : Nat) * (-1)) := by
  apply List.ext_getElem?
  intro k
  unfold rngL
  rw [List.getElem?_map]
  by_cases hk : k < n
  · rw [List.getElem?_reverse (by simpa using hk), List.getElem?_map, List.length_map, List.length_range, List.getElem?_range (by omega), List.getElem?_range hk]
    simp only [Option.map_some]
    congr 2
    omega
  · rw [List.getElem?_eq_none (by simpa using hk), List.getElem?_eq_none (by simpa using hk)]; rfl
theorem di_revR {t : XD → SD → Mem → (Int → Int → Mem → Prop) → Prop} (hg : Gl X "reversed") (hm : X.mg "reversed" = none) (he : DR X E e t) (hs : starEach [e] X.env = (false, eval e X.env) :: starEach [] X.env := by rfl) : DI X E tg (.Call (.Name "reversed" p) [e] [] pos) (iRevD t) := by
  refine ⟨_, pi_revR hg hm he.ok hs, fun {σ H s M Xd Qd R} S x t q => ?_⟩
  refine ⟨s, M, _, Xd, S, x, t, fun i j H1 ⟨M1, g1, m1, t1⟩ => ⟨t1.1.1, t1.1.2.1, t1.1.2.2.1, t1.1.2.2.2, q _ _ _ _ _ g1 m1 ?_ t1.2⟩⟩
  rw [rev_rng]
  exact ItOk.rng

/-! ### repr -/
theorem py_nodict : (∀ (d : D) (p : PyData), toPy d = some p → p.hasDict = false) ∧ (∀ (ds : List D) (ps : List PyData), toPys ds = some ps → PyData.hasDictAll ps = false) := by
  have h : ∀ n : Nat, (∀ (d : D) (p : PyData), sizeOf d < n → toPy d = some p → p.hasDict = false) ∧ (∀ (ds : List D) (ps : List PyData), sizeOf ds < n → toPys ds = some ps → PyData.hasDictAll ps = false) := by
    intro n
    induction n with
    | zero => exact ⟨fun _ _ h => absurd h (Nat.not_lt_zero _), fun _ _ h => absurd h (Nat.not_lt_zero _)⟩
    | succ n ih =>
      refine ⟨fun d p hs e => ?_, fun ds ps hs e => ?_⟩
      · cases d with
        | non => have e' : some PyData.none = some p := e; cases e'; simp only [PyData.hasDict]
        | bl b => have e' : some (PyData.bool b) = some p := e; cases e'; simp only [PyData.hasDict]
        | int b => have e' : some (PyData.int b) = some p := e; cases e'; simp only [PyData.hasDict]
        | str b => have e' : some (PyData.str b) = some p := e; cases e'; simp only [PyData.hasDict]
        | tup ds =>
          have e' : (toPys ds).map PyData.tuple = some p := e
          cases z : toPys ds with
          | none => rw [z] at e'; cases e'
          | some ps => rw [z] at e'; cases e'; simp only [PyData.hasDict]; exact ih.2 ds ps (by simp at hs; omega) z
        | lst ds =>
          have e' : (toPys ds).map PyData.list = some p := e
          cases z : toPys ds with
          | none => rw [z] at e'; cases e'
          | some ps => rw [z] at e'; cases e'; simp only [PyData.hasDict]; exact ih.2 ds ps (by simp at hs; omega) z
        | fzn ds =>
          have e' : (toPys ds).map PyData.list = some p := e
          cases z : toPys ds with
          | none => rw [z] at e'; cases e'
          | some ps => rw [z] at e'; cases e'; simp only [PyData.hasDict]; exact ih.2 ds ps (by simp at hs; omega) z
        | _ => cases (show (none : Option PyData) = some p from e)
      · cases ds with
        | nil => have e' : some [] = some ps := e; cases e'; simp only [PyData.hasDictAll]
        | cons d ds =>
          unfold toPys at e
          split at e
          · rename_i q qs h1 h2
            cases e
            simp only [PyData.hasDictAll]
            rw [ih.1 d q (by simp at hs; omega) h1, ih.2 ds qs (by simp at hs; omega) h2]; rfl
          · cases e
  exact ⟨fun d p => (h (sizeOf d + 1)).1 d p (Nat.lt_succ_self _), fun ds ps => (h (sizeOf ds + 1)).2 ds ps (Nat.lt_succ_self _)⟩
theorem vw_nodict {M : Mem} {d : D} {p : PyData} (h : toPy (vw M d) = some p) : p.hasDict = false := py_nodict.1 _ p h
/-- it can be shown -/
def ShOk (p : PyData) : Prop := p.showable = true ∧ p.shown.length ≤ sizeLine ∧ p.depth ≤ 60
def reprC : OC := fun ds M Q => match ds with
  | [d] => match toPy (vw M d) with
    | some p => ShOk p ∧ Q (.str p.shown) M
    | none => False
  | _ => False
theorem dc_repr (hg : X.A.guards = some []) (hu : X.A.units + 64 < cLine) : DC X (.builtin "repr") reprC := by
  intro pins s σ H M xs ds us Q Qd I mo r rv t q
  unfold reprC at t
  split at t
  · rename_i d
    obtain ⟨v, rfl, rd⟩ := rs1 r
    split at t
    · rename_i py hp
      obtain ⟨⟨h1, h2, h3⟩, t⟩ := t
      obtain ⟨u, rfl, ru⟩ := vals1 rv
      have hd := vw_dp mo rd hp
      obtain ⟨as, rr⟩ := Dp.reads I py v u hd ru
      have fin : ∀ (h' : Heap) (tk : Tok) (t' : Nat), (∀ b o, s.heap.get? b = some o → h'.get? b = some o) → EP X pins σ Q (.str py.shown tk) { s with heap := h', toks := t' } := fun h' tk t' hk =>
        ⟨.str py.shown, H, I.kept hk, ⟨_, rfl⟩, q _ _ (up_same mo t rfl)⟩
      cases rr with
      | none => exact PySem.P.repr_of_none (by have := fin s.heap s.toks (s.toks + 1) (fun _ _ z => z); simpa only [PyData.shown] using this)
      | bool b => exact PySem.P.repr_of_bool (by have := fin s.heap s.toks (s.toks + 1) (fun _ _ z => z); simpa only [PyData.shown] using this)
      | int i tk => exact PySem.P.repr_of_int (by simpa [PyData.showable] using h1) (by have := fin s.heap s.toks (s.toks + 1) (fun _ _ z => z); simpa only [PyData.shown] using this)
      | str y tk => exact PySem.P.repr_of_str (by have := fin s.heap s.toks (s.toks + 1) (fun _ _ z => z); simpa only [PyData.shown] using this) (by simpa only [PyData.shown] using h2)
      | list a1 a2 a3 a4 => exact repr_of_reads' (.list a1 a2 a3 a4) h1 (PyData.noDict_hsm (vw_nodict hp)) hg (by omega) (fun _ _ z => z) (fun h' u tk hk => fin h' u tk hk) h2
      | tuple a1 a2 a3 a4 => exact repr_of_reads' (.tuple a1 a2 a3 a4) h1 (PyData.noDict_hsm (vw_nodict hp)) hg (by omega) (fun _ _ z => z) (fun h' u tk hk => fin h' u tk hk) h2
      | dict a1 a2 a3 a4 a5 => exact absurd (vw_nodict hp) (by simp [PyData.hasDict])
    · exact t.elim
  · exact t.elim
end
end DL
set_option maxHeartbeats 1000000
namespace DL
open PySem PySem.Spec PyProof.Rows L2

/-! ### targets of clauses, by place -/
def GV (K : Fg) (vs : List Nat) (g : TGD) (g1 : TG) : Prop := ∀ {v : V} {d : D} {σ : L2.St} {H : Hp} {s : SD} {M : Mem} {Xd : XD} {Qd : SD → Mem → Prop} {Q : L2.St → Hp → Prop}, StOk K σ H s M → XTo K H M Xd E0 → Rv K H M d v → g d Xd s M Qd →
  (∀ σ' H', upS K H M Qd σ' H' → L2.wipe σ' vs = L2.wipe σ vs → Q σ' H') → g1 v σ H Q
def GVs (K : Fg) (vs : List Nat) (g : TGsD) (g1 : TGs) : Prop := ∀ {ws : List V} {ds : List D} {σ : L2.St} {H : Hp} {s : SD} {M : Mem} {Xd : XD} {Qd : SD → Mem → Prop} {Q : L2.St → Hp → Prop}, StOk K σ H s M → XTo K H M Xd E0 → Rs K H M ds ws → g ds Xd s M Qd →
  (∀ σ' H', upS K H M Qd σ' H' → L2.wipe σ' vs = L2.wipe σ vs → Q σ' H') → g1 ws σ H Q
section
variable {K : Fg} {vs : List Nat}
theorem gv_name {i : Nat} (h : i ∈ vs) : GV K vs (gNm i) (gName i) := fun S x r t q => q _ _ ⟨_, _, Gw.refl, S.set i r, t⟩ (wipe_set h)
theorem gvs_nil : GVs K vs gNi gNil := fun {ws ds σ H s M Xd Qd Q} S x r t q => by
  cases ds with
  | nil => exact ⟨r, q _ _ (upS_here S t) rfl⟩
  | cons d ds => exact t.elim
theorem gvs_cons {t : TGD} {u : TGsD} {g1 : TG} {g2 : TGs} (h1 : GV K vs t g1) (h2 : GVs K vs u g2) : GVs K vs (gCo t u) (gCons g1 g2) := fun {ws ds σ H s M Xd Qd Q} S x r t q => by
  cases ds with
  | nil => exact t.elim
  | cons d ds =>
    obtain ⟨v, vr, rfl, rd, rr⟩ := r
    refine ⟨v, vr, rfl, h1 S x rd t fun σ' H' ⟨s', M', g, S', z⟩ ew => ?_⟩
    exact h2 S' (x.grow g) (Rs.grow g _ _ rr) z fun σ2 H2 hu e2 => q σ2 H2 (fwdS (Q := fun a b => upS K H M Qd a b) g (fun _ _ c => c) σ2 H2 hu) (e2.trans ew)
theorem gv_tup {n : Nat} {t : TGsD} {g1 : TGs} (h : GVs K vs t g1) : GV K vs (gTp n t) (gTup K n g1) := fun {v d σ H s M Xd Qd Q} S x r t q => by
  unfold gTp at t
  split at t
  · rename_i ds hd
    obtain ⟨a, xs, rfl, ha, sa⟩ := vw_tup r hd
    exact ⟨a, xs, rfl, ha.sq, by rw [vlen sa]; exact t.1, h S x sa t.2 q⟩
  · exact t.elim
end
section
variable {X : Cx} {E : XK} {pos : Pos} {tg : Expr} {te : TED}
theorem de_comp {elt iter : Expr} {ifs : List Expr} {scope : Scope} (own : List (Str × Nat)) {ti : TID} {g : TGD} {tt : TTD} (g1 : TG) (hc : X.calm = true) (hN : X.N.Nodup) (hi : DI X E tg iter ti) (ok : BlkOk X.N X.env.scope scope own)
    (hg : ∀ (s : Shared) (H : Hp) (C : Addr) (cl : List (Str × Addr)) (fp : List Addr), PG (X.blk s H scope (compEnvC scope cl C X.env) fp) tg g1) (hq : GV X.K (own.map (·.2)) g g1)
    (ht : ∀ (s : Shared) (H : Hp) (C : Addr) (cl : List (Str × Addr)) (fp : List Addr), DTs (X.blk s H scope (compEnvC scope cl C X.env) fp) E0 ifs tt)
    (he : ∀ (s : Shared) (H : Hp) (C : Addr) (cl : List (Str × Addr)) (fp : List Addr), DE (X.blk s H scope (compEnvC scope cl C X.env) fp) E0 elt te) (hs : ∀ x, foldedSetIterable iter X.env x = pure x := by intro _; rfl) :
    DE X E (.ListComp elt [⟨tg, iter, ifs, 0⟩] scope pos) (dLc ti g tt te (own.map (·.2))) := de_lc hc hN hi ok g1 hg hq ht he hs
theorem ds_setComp {i : Nat} {y : Str} {py spos : Pos} {elt iter : Expr} {ifs : List Expr} {scope : Scope} (own : List (Str × Nat)) {ti : TID} {g : TGD} {tt : TTD} (g1 : TG) (hc : X.calm = true) (hN : X.N.Nodup) (hy : X.N[i]? = some y) (hyl : X.env.scope.names.lookup y = some .local)
    (hsw : swapsWith (.ListComp elt [⟨tg, iter, ifs, 0⟩] scope pos) (some (.Name y py)) spos.line X.env = pure true) (hi : DI X E tg iter ti) (ok : BlkOk X.N X.env.scope scope own)
    (hg : ∀ (s : Shared) (H : Hp) (C : Addr) (cl : List (Str × Addr)) (fp : List Addr), PG (X.blk s H scope (compEnvC scope cl C X.env) fp) tg g1) (hq : GV X.K (own.map (·.2)) g g1)
    (ht : ∀ (s : Shared) (H : Hp) (C : Addr) (cl : List (Str × Addr)) (fp : List Addr), DTs (X.blk s H scope (compEnvC scope cl C X.env) fp) E0 ifs tt)
    (he : ∀ (s : Shared) (H : Hp) (C : Addr) (cl : List (Str × Addr)) (fp : List Addr), DE (X.blk s H scope (compEnvC scope cl C X.env) fp) E0 elt te) (hs : ∀ x, foldedSetIterable iter X.env x = pure x := by intro _; rfl) :
    DS X E (.Assign [.Name y py] (.ListComp elt [⟨tg, iter, ifs, 0⟩] scope pos) spos) (sSet i (dLc ti g tt te (own.map (·.2)))) := ds_setLc hc hN hy hyl hsw hi ok g1 hg hq ht he hs
end
/-- what a callee lets out leaves the def -/
theorem pBody {P : Program} {w : World} {K : Fg} {mg : Str → Option Value} {base : Heap} {N : List Str} {qual : Str} {sc : Scope} {f : Addr} {cdv : Value} {A : Around} {outer : List Env} {s : Shared} {H : Hp} {E : XK} :
    Passes (L2.CX P w) (cxOf (L2.CX P w) P w K mg base N qual sc f cdv A outer s H E) E :=
  passes_call (takes_of rfl rfl rfl rfl) fun _ _ _ _ h => h
theorem oBody {P : Program} {w : World} {K : Fg} {mg : Str → Option Value} {base : Heap} {N : List Str} {qual : Str} {sc : Scope} {f : Addr} {cdv : Value} {A : Around} {outer : List Env} {s : Shared} {H : Hp} {E : XK} :
    PassesOwn (model P w) (cxOf (L2.CX P w) P w K mg base N qual sc f cdv A outer s H E).A (cxOf (L2.CX P w) P w K mg base N qual sc f cdv A outer s H E).env (cxOf (L2.CX P w) P w K mg base N qual sc f cdv A outer s H E).xe :=
  passes_of rfl
theorem dfn0 {P : Program} {w : World} {K : Fg} {mg : Str → Option Value} {base : Heap} {k : Nat} {f : Addr} {fd : FuncData} {ps : List Str} : DFn P w K mg base k f fd ps (fun _ _ _ _ => False) :=
  ⟨fun A outer s H M args us vs ds Qd Xd Q E hr e0 hl hb hv mo rs t => t.elim⟩
theorem rs0 {K : Fg} (H : Hp) (M : Mem) : Rs K H M [] [] := rfl
end DL
set_option maxHeartbeats 1000000
namespace PySem
namespace HandSPX
open Builtin Builtin.ObjectAttr
section
variable {M : Model} {A : Around} {E : Value → Shared → Prop} {h : Heap} {g : Array GenState} {d : Drawn} {t : Nat} {os : OsState}
variable {nm q : Str} {C N : Addr} {bs bm bmB : List Value} {hdct : Bool} {sn : List Str} {sub : List Value} {ab : Bool} {col : Option Bool} {dd : Option Addr} {k0 k1 k2 k3 k5 : Option Value} {B newId initId : String}
variable {prog : Program} {w : World} {R : Result → Shared → Prop} {kw : List (Str × Value)}
theorem dlk_check (F : ExcBaseFacts B newId initId bmB) (hT : ∀ X : String, bm.contains (.type X) = bmB.contains (.type X)) {rest : List Value} {Q : Unit → Shared → Prop}
    (hC : h.get? C = some (excClassObj nm q C N bs bm hdct sn sub ab col dd k0 k1 k2 k3 k5 newId)) (hq : Q () ⟨h, g, d, t, os⟩) : wpAny M A (checkBuiltinCall newId ⟨.ref C :: rest, kw⟩) Q E ⟨h, g, d, t, os⟩ := by
  have hc1 : (Value.ref C :: bm).contains (.type B) = true := by rw [List.contains_cons, hT, F.hasB, Bool.or_true]
  have hs1 := F.noStar
  simp only [checkBuiltinCall, F.newKind, F.newSplit, F.newRow]
  repeat (first | refine wpAny_loadPart_at hC ?_ | (refine wpAny_isSubtype_exc hC ?_; rw [hc1]) | refine wpAny_staticBase_exc hC ?_ | refine wpAny_madeBy_exc hC ?_ | simp only [bne_self_eq_false, Bool.false_eq_true, if_false] | wp_step)
  exact hq
theorem dlk_new (F : ExcBaseFacts B newId initId bmB) (hT : ∀ X : String, bm.contains (.type X) = bmB.contains (.type X)) {rest : List Value}
    (hC : h.get? C = some (excClassObj nm q C N bs bm hdct sn sub ab col dd k0 k1 k2 k3 k5 newId))
    (hq : R (.ok (.ret (.ref (h.objs.size + 1)))) ⟨(h.push (W.kdv_tup rest)).push (excO C h.objs.size), g, d, t, os⟩) (hz : rest.length ≤ sizeLine) :
    codeAny (model prog w) A (.builtin newId ⟨.ref C :: rest, kw⟩) R ⟨h, g, d, t, os⟩ := by
  have hends := F.ends
  have c1 : (Value.ref C :: bm).contains (.type B) = true := by rw [List.contains_cons, hT, F.hasB, Bool.or_true]
  have c2 : (Value.ref C :: bm).contains (.type "AttributeError") = false := by rw [List.contains_cons, hT, F.noAttr]; rfl
  have c3 : (Value.ref C :: bm).contains (.type "NameError") = false := by rw [List.contains_cons, hT, F.noName]; rfl
  refine codeAny_builtinAt F.entry ?_
  unfold Builtin.«BaseException.__new__»
  refine wpAt_bind ?_
  show wpAt _ _ _ (stack >>= _) _ _ _
  refine wpAt_bind (wpAt_stack fun p below => wpAt_of_wpAny ?_)
  wp_walk
  refine wpAt_of_wpAny ?_
  rw [F.owner]
  repeat (first | with_reducible refine wpAny_madeHere_exc F.canon hC ?_ | with_reducible refine wpAny_loadPart_at hC ?_ | (with_reducible refine wpAny_isSubtype_exc hC ?_; first | rw [c1] | rw [c2] | rw [c3]) | wp_step)
  show R _ _
  rw [Heap.size_push]; exact hq
theorem dlk_type (F : ExcBaseFacts B newId initId bmB) (hT : ∀ X : String, bm.contains (.type X) = bmB.contains (.type X)) {rest : List Value} {fI : Addr} {Q : Fin → Shared → Prop}
    (hC : h.get? C = some (excClassObj nm q C N bs bm hdct sn sub ab col dd k0 k1 k2 k3 k5 newId))
    (hi : W.Looks (model prog w) h (typeLookup (.ref C) "__init__") (some (.ref fI))) (hb : ∀ self, W.Looks (model prog w) h (bindSpecial (.ref fI) self) (.ref fI, [self])) (hz : rest.length ≤ sizeLine)
    (hq : codeAny (model prog w) A (.call (.ref fI) ⟨.ref (h.objs.size + 1) :: rest, kw⟩)
      (fun r s' => match r with | .ok (.ret v) => v = .none ∧ Q (.done (.ret (.ref (h.objs.size + 1)))) s' | .ok _ => False | .error e => E e s') ⟨(h.push (W.kdv_tup rest)).push (excO C h.objs.size), g, d, t, os⟩) :
    wpAny (model prog w) A (Builtin.«type.__call__» ⟨.ref C :: rest, kw⟩) Q E ⟨h, g, d, t, os⟩ := by
  have hF := F.toExcCallFacts
  repeat (first | with_reducible refine wpAny_loadPart_at hC ?_ | with_reducible refine wpAny_madeBy_exc hC ?_ | wp_step)
  refine codeAny_call_builtin_code (Code.quiet_builtin _ F.quiet) (dlk_check F hT hC ?_)
  refine dlk_new F hT hC ?_ hz
  show wpAny _ _ _ _ _ _
  have kp : ∀ b o, h.get? b = some o → ((h.push (W.kdv_tup rest)).push (excO C h.objs.size)).get? b = some o := fun b o e => Heap.get?_push_of_some _ (Heap.get?_push_of_some _ e)
  have hC1 := kp _ _ hC
  have hg1 : ((h.push (W.kdv_tup rest)).push (excO C h.objs.size)).get? (h.objs.size + 1) = some (excO C h.objs.size) := by heap_get
  have hcc : (Value.ref C :: bm).contains (.ref C) = true := by simp
  have i1 := hi.keeps kp
  have b1 := (hb (.ref (h.objs.size + 1))).keeps kp
  unfold isInstance
  repeat (first | with_reducible refine wpAny_loadPart_at hg1 ?_ | (with_reducible refine wpAny_isSubtype_exc hC1 ?_; rw [hcc]) | wp_step)
  show wpAny _ _ (typeLookup (.ref C) _) _ _ _
  refine i1.at (wpAny_holding (wpAny_bind (b1.at (wpAny_bind (wpAny_call (codeAny_mono hq fun r s' z => ?_))))))
  rcases r with e | (v | _ | _ | _) <;> first | exact z | exact z.elim | skip
  obtain ⟨rfl, z⟩ := z
  first
    | exact wpAny_pure (wpAny_pure z)
    | (wp_walk; exact z)
theorem dlk_call (F : ExcBaseFacts B newId initId bmB) (hT : ∀ X : String, bm.contains (.type X) = bmB.contains (.type X)) {rest : List Value} {fI : Addr}
    (hC : h.get? C = some (excClassObj nm q C N bs bm hdct sn sub ab col dd k0 k1 k2 k3 k5 newId))
    (hi : W.Looks (model prog w) h (typeLookup (.ref C) "__init__") (some (.ref fI))) (hb : ∀ self, W.Looks (model prog w) h (bindSpecial (.ref fI) self) (.ref fI, [self])) (hz : rest.length ≤ sizeLine)
    (hq : codeAny (model prog w) (A.under (.builtin "type.__call__" ⟨.ref C :: rest, kw⟩)) (.call (.ref fI) ⟨.ref (h.objs.size + 1) :: rest, kw⟩) (W.InitBack (h.objs.size + 1) R) ⟨(h.push (W.kdv_tup rest)).push (excO C h.objs.size), g, d, t, os⟩) :
    codeAny (model prog w) A (.call (.ref C) ⟨rest, kw⟩) R ⟨h, g, d, t, os⟩ := by
  have f1 := tc_lookup
  have f2 := tc_bind (.ref C)
  have hTy : (⟨h, g, d, t, os⟩ : Shared).TypeIs (.ref C) "type" := ⟨_, hC, rfl⟩
  refine codeAny_of_tree ?_
  show wpAny _ _ (callAny (.ref C) _) _ _ _
  repeat (any_goals (first | assumption | with_reducible refine wpAny_loadPart_at hC ?_ | wp_step))
  refine ⟨rfl, codeAny_call_builtin_at (Code.quiet_builtin _ (by decide +kernel)) entry_typeCall (wpAny_check_type_call_sub hC (dlk_type F hT hC hi hb hz ?_))⟩
  refine codeAny_mono hq fun r s' z => ?_
  rcases r with e | (v | _ | _ | _) <;> exact z
end
end HandSPX
end PySem
namespace DL
open PySem PySem.Spec PyProof.Rows L2
/-! ### an own class of exceptions over any built-in one -/
structure OexG (K : Fg) (C : Addr) : Prop where
  ex : ∃ B newId initId bmB, ExcBaseFacts B newId initId bmB ∧ StoreFacts B bmB "object.__setattr__" "object" ∧ PySem.W.excInitIn K C bmB newId = true ∧ PySem.W.excOver K C bmB = true
  hd : PySem.W.hasDictIn K C = true
  sa : PySem.W.findIn K (.ref C) "__setattr__" = some (some (.builtin "object.__setattr__"))
  exC : PySem.W.subIn K (.ref C) (.type "BaseException") = some true
  tyC : PySem.W.typeIn K (.ref C) = some (.type "type")
  kC : PySem.W.keepIn K (.ref C) = true
section
open PySem.W PySem.HandSPX Builtin Builtin.ObjectAttr
variable {prog : Program} {w : World} {A : Around} {E : Value → Shared → Prop} {R : Result → Shared → Prop} {hp : Heap} {g : Array GenState} {d : Drawn} {t : Nat} {os : OsState}
theorem osg_new {K : Fg} {name : Str} {tk : Tok} {v : Value} {x C : Addr} {fv : Array Value} (T : OexG K C) (X : K.In hp) (hx : hp.get? x = some { cls := .ref C, data := .fields fv }) (ha : findIn K (.ref C) name = some none)
    (hq : ∀ h' tk' dx, (∀ b o, b ≠ x → hp.get? b = some o → h'.get? b = some o) → hp.objs.size ≤ dx → dx ≠ x → h'.get? x = some { cls := .ref C, dict := some dx, data := .fields fv } → h'.Ns1 dx (fun y => if y = name then some v else none) → R (.ok (.ret .none)) ⟨h', g, d, tk', os⟩) :
    codeAny (model prog w) A (.call (.builtin "object.__setattr__") ⟨[.ref x, .str name tk, v], []⟩) R ⟨hp, g, d, t, os⟩ := by
  obtain ⟨B, newId, initId, bmB, F1, SF, _, ov⟩ := T.ex
  have I : InstAt hp x { cls := .ref C, data := .fields fv } C none := ⟨hx, rfl, rfl, trivial⟩
  have hxs : x ≠ hp.objs.size := Nat.ne_of_lt (Heap.lt_size hx)
  obtain ⟨cd, hcd, hh⟩ := any_some T.hd
  refine osa_openX SF X I ov (r := none) (by unfold takerIn; rw [ha]; rfl) fun b => ?_
  have hcls : Looks (model prog w) hp (classData C) cd := looks_clsIn X hcd
  show wpAny _ _ (storeInOwnDict (.ref x) (.ref C) (.str name tk) name v b) _ _ _
  obtain ⟨nm, bs, mro, ns, qn, hd, sn, sb, ab, col, del⟩ := cd
  dsimp only at hh
  subst hh
  unfold storeInOwnDict ownDictForStores
  repeat (first | with_reducible refine store_in_new ?_ ?_ | with_reducible refine wpAny_loadPart_at hx ?_ | with_reducible refine hcls.at ?_ | wp_step)
  · exact ⟨_, #[], _, (Heap.get?_update_ne _ _ _ _ hxs.symm).trans (Heap.get?_push_at rfl rfl), rfl, fun e he => absurd he (by simp), fun _ => rfl⟩
  · intro h' tk' hn' hs
    have hx1 : (hp.push { cls := .type "dict", data := .dict #[] }).get? x = some { cls := .ref C, data := .fields fv } := Heap.get?_push_of_some _ hx
    refine hq h' tk' hp.objs.size (fun b o hb ho => ?_) (Nat.le_refl _) hxs.symm ?_ hn'
    · exact (hs.2 b (Nat.ne_of_lt (Heap.lt_size ho))).trans ((Heap.get?_update_ne _ _ _ _ hb).trans (Heap.get?_push_of_some _ ho))
    · exact (hs.2 x hxs).trans (Heap.get?_update_self _ hx1 rfl)
theorem osg_old {K : Fg} {name : Str} {tk : Tok} {v : Value} {x C dx : Addr} {fv : Array Value} {m0 : Str → Option Value} {nl : List Str} (T : OexG K C)
    (X : K.In hp) (hx : hp.get? x = some { cls := .ref C, dict := some dx, data := .fields fv }) (hns : hp.Ns1 dx m0) (hw : Within m0 nl) (hz : nl.length ≤ 1000) (ha : findIn K (.ref C) name = some none)
    (hq : ∀ h' tk', (∀ b o, b ≠ dx → hp.get? b = some o → h'.get? b = some o) → h'.Ns1 dx (fun y => if y = name then some v else m0 y) → R (.ok (.ret .none)) ⟨h', g, d, tk', os⟩) :
    codeAny (model prog w) A (.call (.builtin "object.__setattr__") ⟨[.ref x, .str name tk, v], []⟩) R ⟨hp, g, d, t, os⟩ := by
  obtain ⟨B, newId, initId, bmB, F1, SF, _, ov⟩ := T.ex
  obtain ⟨oD, esD, epD, hoD, hdD, _⟩ := hns.count hw
  have I : InstAt hp x { cls := .ref C, dict := some dx, data := .fields fv } C (some oD) := ⟨hx, rfl, rfl, hoD⟩
  obtain ⟨cd, hcd, hh⟩ := any_some T.hd
  refine osa_openX SF X I ov (r := none) (by unfold takerIn; rw [ha]; rfl) fun b => ?_
  have hcls : Looks (model prog w) hp (classData C) cd := looks_clsIn X hcd
  show wpAny _ _ (storeInOwnDict (.ref x) (.ref C) (.str name tk) name v b) _ _ _
  obtain ⟨nm, bs, mro, ns, qn, hd, sn, sb, ab, col, del⟩ := cd
  dsimp only at hh
  subst hh
  unfold storeInOwnDict ownDictForStores
  repeat (first | with_reducible refine PySem.OEX.store_in_old hns hw hz ?_ | with_reducible refine wpAny_loadPart_at hx ?_ | with_reducible refine hcls.at ?_ | wp_step)
  intro h' tk' hn' hs
  exact hq h' tk' (fun b o hb ho => (hs.2 b hb).trans ho) hn'
end
end DL
set_option maxHeartbeats 1000000
namespace DL
open PySem PySem.Spec PyProof.Rows L2

/-! ### fields stored -/
section
variable {X : Cx} {pins : List (Addr × Obj)} {σ : L2.St} {H : Hp} {s : Shared} {a C dx : Addr} {f : Str} {y : V} {u : Value} {fs : List (Str × V)} {Q : Unit → Shared → Prop} {E : Value → Shared → Prop} {A : Around}
theorem osv_new (T : OexG X.K C) (I : Inv X pins σ H s) (e : H a = some (exo a C none)) (hno : PySem.W.findIn X.K (.ref C) f = some none) (ry : RelV y u)
    (h : ∀ dx s', H dx = none → dx ≠ a → Inv X pins σ (upd (upd H dx (exd dx [(f, y)])) a (exo a C (some dx))) s' → Q () s') : wpAny (model X.prog X.w) A (setAttr (.ref a) f u) Q E s := by
  obtain ⟨t1, ho⟩ := exo_at I.hok e
  obtain ⟨hp, ge, d, tk, os⟩ := s
  refine PySem.W.set_plain I.kIn (ox := { cls := .ref C, dict := none, data := .fields #[.ref t1, .none, .none, .none, .bool false, .none] }) (od := none) ⟨ho, rfl, rfl, trivial⟩ T.sa (osg_new T I.kIn ho hno fun h' tk' dx k dn dne hx hn => ?_)
  have hnd : H dx = none := I.hok.fresh dn
  have nd : ∀ {b : Addr} {o : Obj}, hp.get? b = some o → b ≠ dx := fun {b o} q => Nat.ne_of_lt (Nat.lt_of_lt_of_le (Heap.lt_size q) dn)
  have na : ∀ {b : Addr}, H b = none → b ≠ a := fun {b} n z => by rw [z, e] at n; cases n
  have U : Un X.fs [] H (upd (upd H dx (exd dx [(f, y)])) a (exo a C (some dx))) hp h' :=
    ⟨fun b o q n _ _ => k b o (na n) q, fun b o q n _ _ => ⟨o.slots, k b o (na n) q⟩, fun b o q n _ => by rw [upd_ne (na n), upd_ne (nd q)]; exact n,
      fun b o q _ => by
        by_cases hb : b = a
        · exact ⟨_, by rw [hb]; exact hx⟩
        · exact ⟨o, k b o hb q⟩,
      fun b xs q => by rw [upd_ne (at_ne e q exo_tup), upd_ne (ne_of_none q hnd)]; exact q, fun b o v q => by rw [upd_ne (at_ne e q exo_frz), upd_ne (ne_of_none q hnd)]; exact q,
      fun b ps q => ⟨#[], by rw [upd_ne (at_ne e q exo_tbl), upd_ne (ne_of_none q hnd), q]; simp⟩⟩
  refine h dx _ hnd dne (I.un (t' := tk') U fun b o q => ?_)
  by_cases hb : b = a
  · subst hb; rw [upd_same] at q; cases q; exact exo_ok hx
  · rw [upd_ne hb] at q
    by_cases hd : b = dx
    · subst hd; rw [upd_same] at q; cases q; exact exd_ok hn (relO_put (fs := []) ry fun g => True.intro)
    · rw [upd_ne hd] at q
      exact (I.hok b o q).stay (fun c v hc z => k c v (hc.elim (fun hc => by rw [hc]; exact hb) fun hc => at_ne e hc exo_own) z)
        (fun c hc => by rw [upd_ne (at_ne e hc exo_own), upd_ne (ne_of_none hc hnd)]; exact hc) (fun c xs hc => by rw [upd_ne (at_ne e hc exo_tup), upd_ne (ne_of_none hc hnd)]; exact hc)
theorem osv_old (T : OexG X.K C) (I : Inv X pins σ H s) (e : H a = some (exo a C (some dx))) (ed : H dx = some (exd dx fs)) (hl : fs.length ≤ 900) (hno : PySem.W.findIn X.K (.ref C) f = some none) (ry : RelV y u)
    (h : ∀ s', Inv X pins σ (upd H dx (exd dx ((f, y) :: fs))) s' → Q () s') : wpAny (model X.prog X.w) A (setAttr (.ref a) f u) Q E s := by
  obtain ⟨t1, ho⟩ := exo_at I.hok e
  obtain ⟨mA, hns, rel⟩ := exd_at I.hok ed
  obtain ⟨hp, ge, d, tk, os⟩ := s
  obtain ⟨oD, _, _, hoD, _, _⟩ := hns.count (within_of rel)
  refine PySem.W.set_plain I.kIn (ox := { cls := .ref C, dict := some dx, data := .fields #[.ref t1, .none, .none, .none, .bool false, .none] }) (od := some oD) ⟨ho, rfl, rfl, hoD⟩ T.sa
    (osg_old T I.kIn ho hns (within_of rel) (by rw [List.length_map]; omega) hno fun h' tk' k hn => ?_)
  have hd : ∃ o, h'.get? dx = some o := by obtain ⟨o, _, _, e', _⟩ := hn; exact ⟨o, e'⟩
  exact h _ (I.write (t' := tk') (x := dx) (e := dx) (o := exd dx ((f, y) :: fs)) (by rw [ed]; exact True.intro) (.inl rfl) k hd (exd_ok hn (relO_put ry rel)))
def tOsg (K : Fg) (f : Str) (to te : TE) : TS := fun D σ H => te σ H fun y H1 => to σ H1 fun x H2 => ∃ a C : Addr, x = .ref a ∧ OexG K C ∧ PySem.W.findIn K (.ref C) f = some none ∧
  ((H2 a = some (exo a C none) ∧ ∀ dx, H2 dx = none → dx ≠ a → D.nx σ (upd (upd H2 dx (exd dx [(f, y)])) a (exo a C (some dx)))) ∨
    ∃ (dx : Addr) (fs : List (Str × V)), H2 a = some (exo a C (some dx)) ∧ H2 dx = some (exd dx fs) ∧ fs.length ≤ 900 ∧ D.nx σ (upd H2 dx (exd dx ((f, y) :: fs))))
theorem ps_osg {o e : Expr} {to te : TE} {p' pos : Pos} (ho : PE X o to) (he : PE X e te) (hs : swapsWith e (some (.Attribute o f p')) pos.line X.env = pure false := by rfl) : PS X (.Assign [.Attribute o f p'] e pos) (tOsg X.K f to te) := by
  refine ⟨fun pins s σ H D I h => plainObj_wpAny_Assign_Attribute (thn (he.run pins s σ H _ I h) fun v s1 ⟨y, H1, I1, r1, q1⟩ => thn (ho.run pins s1 σ H1 _ I1 q1) fun u s2 ⟨x, H2, I2, r2, a, C, ex, T, hno, q⟩ => ?_) hs⟩
  subst ex
  obtain rfl : u = Value.ref a := r2
  rcases q with ⟨ea, q⟩ | ⟨dx, fs, ea, ed, hl, q⟩
  · exact osv_new T I2 ea hno r1 fun dx s' n ne J => ⟨σ, _, J, q dx n ne⟩
  · exact osv_old T I2 ea ed hl hno r1 fun s' J => ⟨σ, _, J, q⟩
end

/-! ### what an own __init__ of an exception leaves -/
/-- the exception at its address gets a dict of its fields ns, the last one stored first -/
def spEx (C : Addr) (ns : List Str) : Sp := fun vs H Q _ => ∃ a xs, vs = .ref a :: xs ∧ xs.length = ns.length ∧ H a = some (exo a C none) ∧
  ∀ d H', H d = none → d ≠ a → H' a = some (exo a C (some d)) → H' d = some (exd d (ns.zip xs.reverse)) → (∀ b, b ≠ a → b ≠ d → H' b = H b) → Q .non H'
theorem spEx_len {C : Addr} {ns ps : List Str} (h : ps.length = ns.length + 1) : ∀ vs H Q E, spEx C ns vs H Q E → vs.length = ps.length := fun vs H Q E ⟨a, xs, e, l, _⟩ => by
  rw [e, List.length_cons, l, h]
section
variable {X : Cx} {K : Fg} {C : Addr} {f g : Str} {p1 p2 p3 p4 p5 p6 p7 p8 : Pos}
theorem init_one {x : Str} (T : OexG X.K C) (hN : X.N = [("self" : Str), x]) (hno : PySem.W.findIn X.K (.ref C) f = some none) (ps : PE X (.Name "self" p1) (tVar 0)) (px : PE X (.Name x p3) (tVar 1)) {vs : List V} {H : Hp} {Q : VK} {E : XK} (h : spEx C [f] vs H Q E) :
    ∃ t, PSs X [.Assign [.Attribute (.Name "self" p1) f p2] (.Name x p3) p4] t ∧ t { nx := fun _ H' => Q .non H', rt := Q } (start X.N vs) H := by
  obtain ⟨a, xs, e, l, ha, q⟩ := h
  obtain ⟨v, rfl⟩ : ∃ v, xs = [v] := by
    match xs, l with
    | [v], _ => exact ⟨v, rfl⟩
  subst e
  refine ⟨_, pss_one (ps_osg ps px), ?_⟩
  rw [hN]
  refine ⟨v, rfl, .ref a, rfl, a, C, rfl, T, hno, .inl ⟨ha, fun dx hn ne => ?_⟩⟩
  refine q dx _ hn ne upd_same ?_ fun b h1 h2 => ?_
  · rw [upd_ne ne, upd_same]; rfl
  · rw [upd_ne h1, upd_ne h2]
theorem init_two {x y : Str} (T : OexG X.K C) (hN : X.N = [("self" : Str), x, y]) (hf : PySem.W.findIn X.K (.ref C) f = some none) (hg : PySem.W.findIn X.K (.ref C) g = some none) (ps : PE X (.Name "self" p1) (tVar 0)) (px : PE X (.Name x p3) (tVar 1))
    (ps2 : PE X (.Name "self" p5) (tVar 0)) (py : PE X (.Name y p7) (tVar 2)) {vs : List V} {H : Hp} {Q : VK} {E : XK} (h : spEx C [g, f] vs H Q E) :
    ∃ t, PSs X [.Assign [.Attribute (.Name "self" p1) f p2] (.Name x p3) p4, .Assign [.Attribute (.Name "self" p5) g p6] (.Name y p7) p8] t ∧ t { nx := fun _ H' => Q .non H', rt := Q } (start X.N vs) H := by
  obtain ⟨a, xs, e, l, ha, q⟩ := h
  obtain ⟨v, u, rfl⟩ : ∃ v u, xs = [v, u] := by
    match xs, l with
    | [v, u], _ => exact ⟨v, u, rfl⟩
  subst e
  refine ⟨_, pss_cons (ps_osg ps px) (pss_one (ps_osg ps2 py)), ?_⟩
  rw [hN]
  refine ⟨v, rfl, .ref a, rfl, a, C, rfl, T, hf, .inl ⟨ha, fun dx hn ne => ?_⟩⟩
  refine ⟨u, rfl, .ref a, rfl, a, C, rfl, T, hg, .inr ⟨dx, [(f, v)], upd_same, ?_, (by show 1 ≤ 900; decide), ?_⟩⟩
  · rw [upd_ne ne, upd_same]
  · refine q dx _ hn ne ?_ ?_ fun b h1 h2 => ?_
    · rw [upd_ne (Ne.symm ne), upd_same]
    · rw [upd_same]; rfl
    · rw [upd_ne h2, upd_ne h1, upd_ne h2]
end

/-! ### made and held -/
theorem mok_keep {K : Fg} {H H' : Hp} {M : Mem} (mo : MOk K H M) (k : ∀ a o, H a = some o → H' a = some o) : MOk K H' M := fun a m e => by
  have gw : Gw H M H' M := fun b u h z => ⟨k b u h, z⟩
  have q := mo a m e
  cases m with
  | lst ds => obtain ⟨xs, h1, h2⟩ := q; exact ⟨xs, k _ _ h1, Rs.grow gw ds xs h2⟩
  | dct ks ds => obtain ⟨xs, h1, h2, h3⟩ := q; exact ⟨xs, k _ _ h1, h2, Rs.grow gw ds xs h3⟩
  | ins C ns ds => obtain ⟨dx, xs, h1, h2, h3, h4, h5⟩ := q; exact ⟨dx, xs, k _ _ h1, h2, k _ _ h3, h4, Rs.grow gw ds xs h5⟩
  | gen φ ds => obtain ⟨xs, h1, h2⟩ := q; exact ⟨xs, k _ _ h1, Rs.grow gw ds xs h2⟩
/-- what stands of a class of exceptions with an own __init__ that keeps the fields ns -/
structure MkOk (P : Program) (w : World) (K : Fg) (mg : Str → Option Value) (base : Heap) (k : Nat) (C : Addr) (ns ps : List Str) : Prop where
  T : OexG K C
  ex : ∃ (fI : Addr) (fd : FuncData), PySem.W.findIn K (.ref C) "__init__" = some (some (.ref fI)) ∧ PySem.W.typeIn K (.ref fI) = some (.type "function") ∧
    FnOk P w K mg base (L2.CX P w) k fI fd ps (spEx C ns) ∧ Binds K fd ps []
def dMk (C : Addr) (ns : List Str) (t : TAD) : TED := fun Xd s M Q => t Xd s M fun ds M1 => Q (.exn C ns ds.reverse) M1
def sRaise (C : Addr) (ns : List Str) (t : TAD) : TSD := fun Y s M => t Y.ex s M fun ds M1 => Y.ex C ns ds.reverse M1
section
variable {X : Cx} {E : XK} {n k : Nat} {C : Addr} {ns ps : List Str} {x : Str} {p pos : Pos} {e : Expr} {es : List Expr} {ts : TAD}
theorem pe_mkv {ta : TA} (Z : MkOk X.prog X.w X.K X.mg X.base k C ns ps) (hr : Room (k + 1) X.A) (hx : Passes (L2.CX X.prog X.w) X (fun _ _ _ => False)) (hg : Gl X x) (hm : X.mg x = some (.ref C)) (ha : PA X (e :: es) ta)
    (hdb : (x == ("__debug__" : Str)) = false := by decide) (he : starEach (e :: es) X.env = (false, eval e X.env) :: starEach es X.env := by rfl) (hpl : (backTo pos (starEach es X.env)).any (·.1) = false := by rfl) :
    PE X (.Call (.Name x p) (e :: es) [] pos) (fun σ H Q => ta σ H fun vs H1 => vs.length = ns.length ∧ vs.length ≤ 1000 ∧ ∀ a d H2, H1 a = none → H1 d = none → d ≠ a → H2 a = some (exo a C (some d)) → H2 d = some (exd d (ns.zip vs.reverse)) → (∀ b, b ≠ a → b ≠ d → H2 b = H1 b) → Q (.ref a) H2) := by
  refine ⟨fun pins s σ H Q I h => ?_⟩
  obtain ⟨fI, fd, iC, tI, F1, hb⟩ := Z.ex
  obtain ⟨B, newId, initId, bmB, FB, SF, xi, ov⟩ := Z.T.ex
  refine wpAny_Call_Name_kw (ld_glob I hg hm (PySem.W.callWith_K (h₀ := X.base) I.ok.mod.kin Z.T.kC (thn (ha.run pos pins s σ H _ I h) fun us s1 ⟨vs, H1, I1, r1, hl, hz, q1⟩ => ⟨I1.kIn, ?_⟩) he hpl) hdb)
  obtain ⟨hp, ge, dr, tk, os⟩ := s1
  have hsz := Nat.le_succ hp.objs.size
  have hn : H1 (hp.objs.size + 1) = none := I1.hok.fresh hsz
  have I2 := I1.laid (t' := tk) (a := hp.objs.size + 1) (o := exo (hp.objs.size + 1) C none) (h' := (hp.push (PySem.W.kdv_tup us)).push (PySem.HandSPX.excO C hp.objs.size)) (fun b o z => Heap.get?_push_of_some _ (Heap.get?_push_of_some _ z)) hsz (exo_ok (t1 := hp.objs.size) (by heap_get))
  have hl2 : (Value.ref (hp.objs.size + 1) :: us ++ []).length = ps.length := by
    rw [List.append_nil, List.length_cons, ← r1.length]
    have z := F1.len (.ref (hp.objs.size + 1) :: vs) (upd H1 (hp.objs.size + 1) (exo (hp.objs.size + 1) C none)) (fun _ _ => True) (fun _ _ _ => False) ⟨_, vs, rfl, hl, upd_same, fun _ _ _ _ _ _ _ => True.intro⟩
    rw [← z, List.length_cons]
  have hsp : spEx C ns (.ref (hp.objs.size + 1) :: vs) (upd H1 (hp.objs.size + 1) (exo (hp.objs.size + 1) C none)) (fun v H2 => v = .non ∧ Q (.ref (hp.objs.size + 1)) H2) (fun _ _ _ => False) :=
    ⟨_, vs, rfl, hl, upd_same, fun d H2 hd hne h1 h2 h3 => ⟨rfl, q1 _ d H2 hn (by rw [upd_ne hne] at hd; exact hd) hne h1 h2 fun b hb hbd => (h3 b hb hbd).trans (upd_ne hb)⟩⟩
  have hus : us.length ≤ sizeLine := by rw [← r1.length, sizeLine_eq]; omega
  have e2 := I2.env0.make C us []
  obtain ⟨nm, N, qn, bs, bm, hdct, sn, sub, ab, col, dd, k0, k1, k2, k3, k5, hC, hbm⟩ := PySem.W.excInit_of I1.kIn xi
  show wpAny _ _ (call (.ref C) us) _ _ _
  refine wpAny_call (PySem.HandSPX.dlk_call FB hbm hC (PySem.W.looks_findIn I1.kIn iC) (fun self => PySem.W.bind_fn I1.kIn self tI) hus
    (codeAny_mono (F1.run _ X.stack _ _ ⟨.ref (hp.objs.size + 1) :: us, []⟩ (.ref (hp.objs.size + 1) :: us ++ []) (.ref (hp.objs.size + 1) :: vs) _ _ (hr.make C us []) e2 (hb _ (.ref (hp.objs.size + 1) :: us) I2.kIn hl2) (by rw [List.append_nil]; exact .cons rfl r1) hsp) ?_))
  · intro r s' hq'
    cases r with
    | error er => exact hx pins σ _ _ er s' I2 hq'
    | ok fl =>
      cases fl with
      | ret u =>
        obtain ⟨v, H3, I3, rv, ev, q3⟩ := I2.after hq'
        subst ev
        exact ⟨rv, .ref (hp.objs.size + 1), H3, I3, rfl, q3⟩
      | next => exact hq'.elim
      | brk => exact hq'.elim
      | cont => exact hq'.elim

theorem pmk_mkv {ta : TA} (Z : MkOk X.prog X.w X.K X.mg X.base k C ns ps) (hr : Room (k + 1) X.A) (hx : Passes (L2.CX X.prog X.w) X (fun _ _ _ => False)) (hg : Gl X x) (hm : X.mg x = some (.ref C)) (ha : PA X (e :: es) ta)
    (hdb : (x == ("__debug__" : Str)) = false := by decide) (he : starEach (e :: es) X.env = (false, eval e X.env) :: starEach es X.env := by rfl) (hpl : (backTo pos (starEach es X.env)).any (·.1) = false := by rfl) :
    PMk X (.Call (.Name x p) (e :: es) [] pos) (fun σ H Q => ta σ H fun vs H1 => vs.length = ns.length ∧ vs.length ≤ 1000 ∧ ∀ d H2, H1 d = none → H2 d = some (.xd (ns.zip vs.reverse)) → (∀ b o, H1 b = some o → H2 b = some o) → Q (.ref C) (some d) H2) := by
  intro pins s σ H Q I h
  obtain ⟨fI, fd, iC, tI, F1, hb⟩ := Z.ex
  obtain ⟨B, newId, initId, bmB, FB, SF, xi, ov⟩ := Z.T.ex
  refine wpAny_Call_Name_kw (ld_glob I hg hm (PySem.W.callWith_K (h₀ := X.base) I.ok.mod.kin Z.T.kC (thn (ha.run pos pins s σ H _ I h) fun us s1 ⟨vs, H1, I1, r1, hl, hz, q1⟩ => ⟨I1.kIn, ?_⟩) he hpl) hdb)
  obtain ⟨hp, ge, dr, tk, os⟩ := s1
  have hsz := Nat.le_succ hp.objs.size
  have hn : H1 (hp.objs.size + 1) = none := I1.hok.fresh hsz
  have I2 := I1.laid (t' := tk) (a := hp.objs.size + 1) (o := exo (hp.objs.size + 1) C none) (h' := (hp.push (PySem.W.kdv_tup us)).push (PySem.HandSPX.excO C hp.objs.size)) (fun b o z => Heap.get?_push_of_some _ (Heap.get?_push_of_some _ z)) hsz (exo_ok (t1 := hp.objs.size) (by heap_get))
  have hl2 : (Value.ref (hp.objs.size + 1) :: us ++ []).length = ps.length := by
    rw [List.append_nil, List.length_cons, ← r1.length]
    have z := F1.len (.ref (hp.objs.size + 1) :: vs) (upd H1 (hp.objs.size + 1) (exo (hp.objs.size + 1) C none)) (fun _ _ => True) (fun _ _ _ => False) ⟨_, vs, rfl, hl, upd_same, fun _ _ _ _ _ _ _ => True.intro⟩
    rw [← z, List.length_cons]
  have hsp : spEx C ns (.ref (hp.objs.size + 1) :: vs) (upd H1 (hp.objs.size + 1) (exo (hp.objs.size + 1) C none)) (fun v H2 => v = .non ∧ ∃ d, H1 d = none ∧ d ≠ hp.objs.size + 1 ∧ H2 (hp.objs.size + 1) = some (exo (hp.objs.size + 1) C (some d)) ∧ H2 d = some (exd d (ns.zip vs.reverse)) ∧ ∀ b, b ≠ hp.objs.size + 1 → b ≠ d → H2 b = H1 b) (fun _ _ _ => False) :=
    ⟨_, vs, rfl, hl, upd_same, fun d H2 hd hne h1 h2 h3 => ⟨rfl, d, by rw [upd_ne hne] at hd; exact hd, hne, h1, h2, fun b hb hbd => (h3 b hb hbd).trans (upd_ne hb)⟩⟩
  have hus : us.length ≤ sizeLine := by rw [← r1.length, sizeLine_eq]; omega
  have e2 := I2.env0.make C us []
  obtain ⟨nm, N, qn, bs, bm, hdct, sn, sub, ab, col, dd, k0, k1, k2, k3, k5, hC, hbm⟩ := PySem.W.excInit_of I1.kIn xi
  show wpAny _ _ (call (.ref C) us) _ _ _
  refine wpAny_call (PySem.HandSPX.dlk_call FB hbm hC (PySem.W.looks_findIn I1.kIn iC) (fun self => PySem.W.bind_fn I1.kIn self tI) hus
    (codeAny_mono (F1.run _ X.stack _ _ ⟨.ref (hp.objs.size + 1) :: us, []⟩ (.ref (hp.objs.size + 1) :: us ++ []) (.ref (hp.objs.size + 1) :: vs) _ _ (hr.make C us []) e2 (hb _ (.ref (hp.objs.size + 1) :: us) I2.kIn hl2) (by rw [List.append_nil]; exact .cons rfl r1) hsp) ?_))
  · intro r s' hq'
    cases r with
    | error er => exact hx pins σ _ _ er s' I2 hq'
    | ok fl =>
      cases fl with
      | ret u =>
        obtain ⟨v, H2, os2, bare2, un2, hok2, rv, ev, d, hd1, hne, h1, h2, h3⟩ := hq'
        subst ev
        obtain ⟨hp2, g2, d2, t2, os'⟩ := s'
        refine ⟨rv, mk_end (raises_own Z.T.exC Z.T.tyC) I1 hsz (fun b o z => Heap.get?_push_of_some _ (Heap.get?_push_of_some _ z)) un2 hok2 os2 bare2 h1 h2 hd1 (q1 d _ hd1 upd_same fun b o z => ?_)⟩
        have z1 := ne_of_none z hn
        have z2 := ne_of_none z hd1
        rw [upd_ne z2, del_ne z1, h3 b z1 z2]; exact z
      | next => exact hq'.elim
      | brk => exact hq'.elim
      | cont => exact hq'.elim

theorem de_mk (Z : MkOk X.prog X.w X.K X.mg X.base k C ns ps) (hr : RoomG (k + 1) X.A) (hx : Passes (L2.CX X.prog X.w) X (fun _ _ _ => False)) (hg : Gl X x) (hm : X.mg x = some (.ref C)) (ha : DN X E n (e :: es) ts) (hn : n = ns.length := by rfl) (hz : n ≤ 1000 := by decide)
    (hdb : (x == ("__debug__" : Str)) = false := by decide) (he : starEach (e :: es) X.env = (false, eval e X.env) :: starEach es X.env := by rfl) (hpl : (backTo pos (starEach es X.env)).any (·.1) = false := by rfl) :
    DE X E (.Call (.Name x p) (e :: es) [] pos) (dMk C ns ts) :=
  ⟨PE.imp (pe_mkv Z hr.r hx hg hm ha.ok hdb he hpl) fun σ H Q ⟨s, M, Qd, Xd, S, xt, t, q⟩ => by
    refine useN S xt t fun ds vs M1 H1 hl g1 S1 x1 r1 t1 => ⟨by rw [hl, hn], by rw [hl]; exact hz, fun a d H2 ha hd hne h1 h2 h3 => ?_⟩
    have kp : ∀ b o, H1 b = some o → H2 b = some o := fun b o z => (h3 b (ne_of_none z ha) (ne_of_none z hd)).trans z
    have gw : Gw H1 M1 H2 M1 := fun b o z m => ⟨kp b o z, m⟩
    refine q _ _ ⟨.exn C ns ds.reverse, M1, g1.trans gw, mok_keep S1.mem kp, .inl ⟨a, d, vs.reverse, rfl, .inl h1, m_none S1.mem ha, .inl h2, m_none S1.mem hd, ?_, Rs.grow gw _ _ (Rs.reverse r1)⟩, t1⟩
    rw [List.length_reverse, Rs.len r1, hl, hn]⟩
theorem ds_raise {pos' : Pos} (Z : MkOk X.prog X.w X.K X.mg X.base k C ns ps) (hr : RoomG (k + 1) X.A) (hc : X.calm = true) (tk : Takes X (fun cls d _ H => E cls d H)) (hx : Passes (L2.CX X.prog X.w) X (fun _ _ _ => False)) (hg : Gl X x) (hm : X.mg x = some (.ref C)) (ha : DN X E n (e :: es) ts)
    (hn : n = ns.length := by rfl) (hz : n ≤ 1000 := by decide) (hdb : (x == ("__debug__" : Str)) = false := by decide) (he : starEach (e :: es) X.env = (false, eval e X.env) :: starEach es X.env := by rfl) (hpl : (backTo pos (starEach es X.env)).any (·.1) = false := by rfl) :
    DS X E (.Raise (some (.Call (.Name x p) (e :: es) [] pos)) none pos') (sRaise C ns ts) := by
  refine ⟨PS.imp (ps_raise hc tk (pmk_mkv Z hr.r hx hg hm ha.ok hdb he hpl)) fun D σ H ⟨s, M, Y, S, xt, t, q⟩ => ?_⟩
  refine useN S xt t fun ds vs M1 H1 hl g1 S1 x1 r1 t1 => ⟨by rw [hl, hn], by rw [hl]; exact hz, fun d H2 hd h2 kp => ?_⟩
  have gw : Gw H1 M1 H2 M1 := fun b o z m => ⟨kp b o z, m⟩
  refine x1 _ _ _ ⟨C, d, ns, vs.reverse, ds.reverse, M1, rfl, rfl, h2, m_none S1.mem hd, ?_, Rs.grow gw _ _ (Rs.reverse r1), gw, mok_keep S1.mem kp, t1⟩
  rw [List.length_reverse, Rs.len r1, hl, hn]
end
end DL
set_option maxHeartbeats 1000000
namespace DL
open PySem PySem.Spec PyProof.Rows L2

/-! ### isinstance of an exception that is held -/
section
open PySem.W PySem.Calls
variable {prog : Program} {w : World} {A : Around} {E : Value → Shared → Prop} {s : Shared} {K : Fg} {x D : Addr} {ox : Obj} {od : Option Obj}
theorem fo_data {C : Addr} {name : Str} {a g : Value} (hc : (clsIn K C).isSome = true) (ha : findIn K (.ref C) name = some (some a)) (hg : specialIn K a "__get__" = some (some g)) (ht : takesIn K a = some true) : findObj K C od name = some (.bind g a) := by
  obtain ⟨cd, hc⟩ := Option.isSome_iff_exists.mp hc
  unfold findObj
  rw [hc, Option.bind_some, ha, Option.bind_some]; simp [hg, ht]
theorem ex_class {Q : Option Value → Shared → Prop} (Z : ExcC K D) (X : K.In s.heap) (I : InstAt s.heap x ox D od) (h : Q (some (.ref D)) { s with toks := s.toks + 1 }) : wpAny (model prog w) A (getAttr? (.ref x) "__class__") Q E s := by
  have hf : findObj K D od "__class__" = some (.bind (.builtin "getset_descriptor.__get__") (.builtin "object.__class__")) := fo_data (by obtain ⟨cd, hc, _⟩ := any_some Z.hd; rw [hc]; rfl) Z.ha Z.hn Z.ht
  obtain ⟨hp, ge, dr, tk, os⟩ := s
  have t0 := I.type (M := model prog w)
  have t1 := looks_findIn (M := model prog w) X Z.hg
  have t2 := looks_findIn (M := model prog w) X Z.hk
  have t3 := looks_find (M := model prog w) X I hf
  have sb : Looks (model prog w) hp (isInstance (.ref x) (.type "BaseException")) true := t0.andThen (looks_subIn X Z.hs)
  have e2 : (Value.builtin "BaseException.__getattribute__" == Value.builtin "object.__getattribute__") = false := by decide +kernel
  have e0 : (false && onTheHeap (Value.builtin "BaseException.__getattribute__")) = false := rfl
  have e1 : (onTheHeap (Value.ref D) && Value.builtin "BaseException.__getattribute__" == Value.builtin "object.__getattribute__") = false := by rw [e2]; rfl
  unfold getAttr? getAttrBy? getAttrBy
  refine wpAny_bind (wpAny_mkText (wpAny_bind (wpAny_attempt (wpAny_holding (wpAny_bind (t0.at (wpAny_bind (t1.at ?_))))))))
  show wpAny _ _ (if (onTheHeap (Value.ref D) && Value.builtin "BaseException.__getattribute__" == Value.builtin "object.__getattribute__") = true then _ else _) _ _ _
  rw [e1, if_neg Bool.false_ne_true]
  unfold getAttrByItsOwn hookBefore
  refine wpAny_bind ?_
  rw [if_pos (show onTheHeap (Value.ref D) = true from rfl)]
  refine t2.at (wpAny_bind (wpAny_attempt (wpAny_holding ?_)))
  unfold callGetattribute
  rw [e0, if_neg Bool.false_ne_true]
  unfold boundAndCalled
  rw [PySem.F.excAttr_ValueError.ga.bind (.ref x)]
  refine wpAny_bind (wpAny_pure ?_)
  show wpAny _ _ (call (.builtin "BaseException.__getattribute__") [.ref x, .str "__class__" tk]) _ _ _
  refine wpAny_call (codeAny_call_builtin PySem.F.excAttr_ValueError.ga.plain PySem.F.entry_bexc_ga ?_)
  refine @check_slot (model prog w) _ _ ⟨hp, ge, dr, tk + 1, os⟩ "BaseException.__getattribute__" "BaseException" "__getattribute__" (.ref x) [.str "__class__" tk] [] _ (by decide +kernel) (by decide +kernel) sb (PySem.F.args_bexc_ga (.ref x) (.str "__class__" tk)) ?_
  unfold Builtin.«object.__getattribute__»
  refine wpAny_bind (wpAny_of_eq (a := ((Value.ref x : Value), [Value.str "__class__" tk])) (by first | rfl | (simp only [slotArgs]; rfl)) (wpAny_bind (wpAny_pure (wpAny_bind (t0.at (wpAny_bind (t3.at ?_)))))))
  show wpAny _ _ (holding [Value.builtin "object.__class__"] (call (.builtin "getset_descriptor.__get__") [.builtin "object.__class__", .ref x, .ref D]) >>= ret) _ _ _
  refine wpAny_bind (wpAny_holding (wpAny_call (class_get (s := ⟨hp, ge, dr, tk + 1, os⟩) (ox := ox) (od := od) X I Z.hm (wpAny_pure ?_))))
  show wpAny _ _ (handedOut (.ref D)) _ _ _
  rw [handedOut_of (v := .ref D) rfl]
  first
    | exact wpAny_pure (wpAny_pure h)
    | exact wpAny_pure h
    | exact wpAny_pure (wpAny_bind (wpAny_pure (wpAny_pure h)))
theorem kit_ex (Z : ExcC K D) : KitX K (.ref x) (.ref D) (fun h => InstAt h x ox D od) where
  ty := fun _ _ _ I => I.type
  it := fun M h X _ => by
    obtain ⟨cd, hc, _⟩ := any_some Z.hd
    unfold clsIn at hc
    split at hc
    · rename_i ho
      intro A' Q' E' s' k q
      unfold isType loadHead
      exact wpAny_bind (wpAny_loadPart (k _ _ (X _ _ ho)) (wpAny_pure q))
    · cases hc
  ne := (handS_kitx_exc (x := x) (ox := ox) Z.hg Z.hk Z.hs Z.hd Z.ha Z.hn Z.ht Z.hm).ne
  ca := fun X I k => ex_class Z X I k
end
section
variable {X : Cx} {pins : List (Addr × Obj)} {σ : L2.St} {H : Hp} {M : Mem} {s : Shared}
/-- where a held exception lies -/
theorem exn_at {a C dx : Addr} {ns : List Str} {xs : List V} (I : Inv X pins σ H s) (ha : ExAt H a C dx) (hd : EdAt H dx (ns.zip xs)) :
    ∃ (ox : Obj) (oD : Obj) (mA : Str → Option Value), PySem.W.InstAt s.heap a ox C (some oD) ∧ s.heap.Ns1 dx mA ∧ (∀ f, RelO ((ns.zip xs).lookup f) (mA f)) ∧ s.heap.get? dx = some oD ∧ ∀ n, PySem.W.lookIn n oD = some (mA n) := by
  obtain ⟨mA, hns, rel⟩ : ∃ mA, s.heap.Ns1 dx mA ∧ ∀ f, RelO ((ns.zip xs).lookup f) (mA f) := by
    rcases hd with hd | hd
    · exact exd_at I.hok hd
    · exact (show ObjOk X.prog X.w H s.heap dx (.xd (ns.zip xs)) from I.hok dx _ hd)
  obtain ⟨oD, hoD, hl⟩ := lookIn_ns hns
  rcases ha with ha | ha
  · obtain ⟨t1, ho⟩ := exo_at I.hok ha
    exact ⟨_, oD, mA, ⟨ho, rfl, rfl, hoD⟩, hns, rel, hoD, hl⟩
  · obtain ⟨⟨oe, vs, h1, h2, h3⟩, _⟩ := (show ObjOk X.prog X.w H s.heap a (exc a C dx) from I.hok a _ ha)
    refine ⟨oe, oD, mA, ⟨h1, h2.1, ?_, ?_⟩, hns, rel, hoD, hl⟩
    · unfold PySem.W.notCls; rw [h3]
    · rw [h2.2]; exact hoD
/-- isinstance(e, C), e a held exception, C a class, own or built in -/
def isxC (K : Fg) : OC := fun ds M Q => match ds with
  | [.exn C _ _, c] => ExcC K C ∧ match c with
    | .ty n => ∃ b, PySem.W.kitOne K (.ref C) (.type n) = some b ∧ Q (.bl b) M
    | .ref B => ∃ b, PySem.W.kitOne K (.ref C) (.ref B) = some b ∧ Q (.bl b) M
    | _ => False
  | _ => False
theorem dc_isx : DC X (.builtin "isinstance") (isxC X.K) := by
  intro pins s σ H M xs ds us Q Qd I mo r rv t q
  unfold isxC at t
  split at t
  · rename_i C ns es c
    obtain ⟨v, w, rfl, rd, re⟩ := rs2 r
    obtain ⟨u1, u2, rfl, r1, r2⟩ := vals2 rv
    obtain ⟨Z, t⟩ := t
    obtain ⟨a, ox, od, rfl, J⟩ : ∃ a ox od, v = .ref a ∧ PySem.W.InstAt s.heap a ox C od := by
      rcases rd with ⟨a, dx, xs, rfl, ha, _, hd, _, _, _⟩ | ⟨_, _, a, rfl, ha, _⟩
      · obtain ⟨t1, oD, mA, J, _⟩ := exn_at I ha hd
        exact ⟨a, _, _, rfl, J⟩
      · obtain ⟨⟨oe, vs, h1, h2, h3, _⟩, _⟩ := (show ObjOk X.prog X.w H s.heap a (ExO (.ref C) a) from I.hok a _ ha)
        refine ⟨a, oe, none, rfl, h1, h2.1, ?_, ?_⟩
        · unfold PySem.W.notCls; rw [h3]
        · rw [h2.2]; trivial
    obtain rfl : u1 = .ref a := r1
    have fin : ∀ {cv : Value} {b : Bool}, u2 = cv → PySem.W.kitOne X.K (.ref C) cv = some b → Qd (.bl b) M → wpAny (model X.prog X.w) X.A (call (.builtin "isinstance") [.ref a, u2]) (EP X pins σ Q) X.xe s := fun {cv b} e k z => by
      subst e
      exact PySem.W.kia_one (kit_ex Z) I.kIn J k (fun z => nomatch z) fun tk => ⟨.bl b, H, I.tok tk, rfl, q _ _ (up_same mo z rfl)⟩
    split at t
    · rename_i n
      obtain ⟨b, k, z⟩ := t
      have e2 : w = .ty n := re
      subst e2
      exact fin r2 k z
    · rename_i B
      obtain ⟨b, k, z⟩ := t
      have e2 : w = .ref B := re
      subst e2
      exact fin r2 k z
    · exact t.elim
  · exact t.elim
theorem lookup_putD (f g : Str) (y : D) (fs : List (Str × D)) : ((f, y) :: fs).lookup g = if g = f then some y else fs.lookup g := by
  by_cases h : g = f
  · subst h; simp [List.lookup]
  · have e : (g == f) = false := by simpa using h
    rw [if_neg h]; simp [List.lookup, e]
/-- the facts by which fields are read -/
structure FdOk (K : Fg) (C : Addr) (f : Str) : Prop where
  x : XfC K C
  no : PySem.W.findIn K (.ref C) f = some none
def dFd (K : Fg) (f : Str) (te : TED) : TED := fun Xd s M Q => te Xd s M fun d M1 => match d with
  | .exn C ns ds => FdOk K C f ∧ ∃ d, (ns.zip ds).lookup f = some d ∧ Q d M1
  | _ => False
theorem zip_lookup {K : Fg} {H : Hp} {M : Mem} {f : Str} {d : D} : ∀ {ns : List Str} {ds : List D} {xs : List V}, Rs K H M ds xs → (ns.zip ds).lookup f = some d → ∃ v, (ns.zip xs).lookup f = some v ∧ Rv K H M d v
  | [], _, _, _, e => by cases e
  | _ :: _, [], _, _, e => by cases e
  | n :: ns, d' :: ds, _, ⟨v, r, rfl, h, q⟩, e => by
    rw [List.zip_cons_cons, lookup_putD] at e
    rw [List.zip_cons_cons, lookup_put]
    by_cases z : f = n
    · rw [if_pos z] at e ⊢; cases e; exact ⟨v, rfl, h⟩
    · rw [if_neg z] at e ⊢; exact zip_lookup q e
theorem de_fd {E : XK} {e : Expr} {te : TED} {pos : Pos} {f : Str} (he : DE X E e te) (hb : attributeBase e f X.env (eval e X.env) = eval e X.env := by rfl) : DE X E (.Attribute e f pos) (dFd X.K f te) := by
  refine ⟨⟨fun pins s σ H Q I ⟨sd, M, Qd, Xd, S, xt, t, q⟩ => ?_⟩⟩
  refine attr_of hb (thn (he.ok.run pins s σ H (fun v H1 => ∃ d M1, Gw H M H1 M1 ∧ MOk X.K H1 M1 ∧ Rv X.K H1 M1 d v ∧ (match d with | .exn C ns ds => FdOk X.K C f ∧ ∃ d, (ns.zip ds).lookup f = some d ∧ Qd d M1 | _ => False)) I (useE S xt t fun d v M1 H1 g1 S1 x1 r1 t1 => ⟨d, M1, g1, S1.mem, r1, t1⟩)) fun u s1 ⟨v, H1, I1, rv, d, M1, g1, m1, rd, z⟩ => ?_)
  split at z
  · rename_i C ns ds
    obtain ⟨F, d, hl, z⟩ := z
    have rd' := rd.resolve_right fun ⟨e1, e2, _⟩ => by rw [e1, e2] at hl; cases hl
    obtain ⟨a, dx, xs, rfl, ha, _, hd, _, _, rs⟩ := rd'
    obtain rfl : u = .ref a := rv
    obtain ⟨t1, oD, mA, J, hns, rel, hoD, hlk⟩ := exn_at I1 ha hd
    obtain ⟨v, hv, rdv⟩ := zip_lookup rs hl
    obtain ⟨u, hu, ru⟩ := RelO.some_of (v := v) (o := mA f) (by rw [← hv]; exact rel f)
    exact PySem.HandSPX.exc_get I1.kIn J F.x.ga F.x.gg F.x.exC (PySem.W.findObj_own F.x.hdC F.no rfl (by rw [hlk, hu])) (handed_of ru) ⟨v, H1, I1.tok _, ru, q _ _ ⟨d, M1, g1, m1, rdv, z⟩⟩
  · exact z.elim
end
end DL
set_option maxHeartbeats 1000000
namespace DL
open PySem PySem.Spec PyProof.Rows L2
/-! ### arguments by name -/
structure DK (X : Cx) (E : XK) (n : Nat) (kws : List Keyword) (t : TAD) : Prop where
  ok : PK X kws (fun σ H Q => ∃ s M Qd Xd, StOk X.K σ H s M ∧ XTo X.K H M Xd E ∧ t Xd s M Qd ∧ ∀ vs H', vs.length = n → upA X.K H M Qd vs H' → Q vs H')
theorem PK.imp {X : Cx} {kws : List Keyword} {t t' : TA} (h : PK X kws t) (i : ∀ σ H Q, t' σ H Q → t σ H Q) : PK X kws t' := ⟨fun pos pins s σ H Q I q => h.run pos pins s σ H Q I (i σ H Q q)⟩
section
variable {X : Cx} {E : XK} {n : Nat} {e : Expr} {kws : List Keyword} {te : TED} {ts : TAD} {nm : Option Str} {kpos : Pos}
theorem dk_nil : DK X E 0 [] dNil := ⟨PK.imp pk_nil fun σ H Q ⟨s, M, Qd, Xd, S, x, t, q⟩ => q [] H rfl ⟨[], M, Gw.refl, S.mem, rfl, t⟩⟩
theorem dk_cons (h1 : DE X E e te) (h2 : DK X E n kws ts) : DK X E (n + 1) (⟨nm, e, kpos⟩ :: kws) (dCons te ts) :=
  ⟨PK.imp (pk_cons h1.ok h2.ok) fun σ H Q ⟨s, M, Qd, Xd, S, x, t, q⟩ => by
    refine useE S x t fun d v M1 H1 g1 S1 x1 r1 t1 => ⟨s, M1, _, Xd, S1, x1, t1, fun vs H2 hl ⟨ds, M2, g2, m2, r2, t2⟩ => ?_⟩
    exact q _ _ (by rw [List.length_cons, hl]) ⟨d :: ds, M2, g1.trans g2, m2, Rs.cons (Rv.grow g2 _ _ r1) r2, t2⟩⟩
end
/-- an order of things -/
structure Prm where
  f : {α : Type} → List α → List α
  rel : ∀ {zs : List V} {ws : List Value}, Vals zs ws → Vals (f zs) (f ws)
  rs : ∀ {K : Fg} {H : Hp} {M : Mem} {ds : List D} {vs : List V}, Rs K H M ds vs → Rs K H M (f ds) (f vs)
  len : ∀ {α : Type} (l : List α), (f l).length = l.length
def prmId : Prm := ⟨fun l => l, fun h => h, fun h => h, fun _ => rfl⟩
def swp {α : Type} : List α → List α
  | [a, b] => [b, a]
  | l => l
def prmSw : Prm := ⟨swp, fun {zs ws} h => by
    match zs, ws, h with
    | [], _, .nil => exact .nil
    | [_], _, .cons a .nil => exact .cons a .nil
    | [_, _], _, .cons a (.cons b .nil) => exact .cons b (.cons a .nil)
    | _ :: _ :: _ :: _, _, .cons a (.cons b (.cons c d)) => exact .cons a (.cons b (.cons c d)), fun {K H M ds vs} h => by
    match ds, vs, h with
    | [], _, h =>
      have e : _ = [] := h
      subst e
      exact rfl
    | [_], _, ⟨_, _, rfl, a, b⟩ =>
      have e : _ = [] := b
      subst e
      exact ⟨_, _, rfl, a, rfl⟩
    | [_, _], _, ⟨_, _, rfl, a, _, _, rfl, b, c⟩ =>
      have e : _ = [] := c
      subst e
      exact ⟨_, _, rfl, b, _, _, rfl, a, rfl⟩
    | _ :: _ :: _ :: _, _, ⟨_, _, rfl, a, _, _, rfl, b, _, _, rfl, c, d⟩ => exact ⟨_, _, rfl, a, _, _, rfl, b, _, _, rfl, c, d⟩, fun l => by
    match l with
    | [] => rfl
    | [_] => rfl
    | [_, _] => rfl
    | _ :: _ :: _ :: _ => rfl⟩
/-- what stands of a class made by the names of its parameters -/
structure MkK (P : Program) (w : World) (K : Fg) (mg : Str → Option Value) (base : Heap) (k : Nat) (C : Addr) (ns ps ks : List Str) (pm : Prm) : Prop where
  T : OexG K C
  ex : ∃ (fI : Addr) (fd : FuncData), PySem.W.findIn K (.ref C) "__init__" = some (some (.ref fI)) ∧ PySem.W.typeIn K (.ref fI) = some (.type "function") ∧
    FnOk P w K mg base (L2.CX P w) k fI fd ps (spEx C ns) ∧ ∀ (s : Shared) (self : Value) (ws : List Value), K.In s.heap → ws.length = ks.length → BindsTo s fd ⟨[self], ks.zip ws⟩ (ps.zip (self :: pm.f ws))
def dMkK (C : Addr) (ns : List Str) (pm : Prm) (t : TAD) : TED := fun Xd s M Q => t Xd s M fun ds M1 => Q (.exn C ns (pm.f ds).reverse) M1
section
variable {X : Cx} {E : XK} {n k : Nat} {C : Addr} {ns ps ks : List Str} {pm : Prm} {x : Str} {p pos : Pos} {kws : List Keyword} {ts : TAD}
theorem pe_mkk {tk : TA} (Z : MkK X.prog X.w X.K X.mg X.base k C ns ps ks pm) (hr : Room (k + 1) X.A) (hx : Passes (L2.CX X.prog X.w) X (fun _ _ _ => False)) (hg : Gl X x) (hm : X.mg x = some (.ref C)) (hkw : PK X kws tk) (hn : ns.length = ks.length)
    (hall : (backToKw pos (keywordEach kws X.env)).all (·.1.isSome) = true := by rfl) (hks : (backToKw pos (keywordEach kws X.env)).filterMap (·.1) = ks := by rfl) (hdb : (x == ("__debug__" : Str)) = false := by decide)
    (hpl : ((backTo pos (starEach [] X.env)).any (·.1) || (backToKw pos (keywordEach kws X.env)).any (·.1.isNone)) = false := by rfl) :
    PE X (.Call (.Name x p) [] kws pos) (fun σ H Q => tk σ H fun zs H1 => zs.length = ks.length ∧ ∀ a d H2, H1 a = none → H1 d = none → d ≠ a → H2 a = some (exo a C (some d)) → H2 d = some (exd d (ns.zip (pm.f zs).reverse)) → (∀ b, b ≠ a → b ≠ d → H2 b = H1 b) → Q (.ref a) H2) := by
  refine ⟨fun pins s σ H Q I h => ?_⟩
  obtain ⟨fI, fd, iC, tI, F1, hb⟩ := Z.ex
  obtain ⟨B, newId, initId, bmB, FB, SF, xi, ov⟩ := Z.T.ex
  refine wpAny_Call_Name_kw (ld_glob I hg hm (PySem.W.callWith_KW0 (h₀ := X.base) I.ok.mod.kin Z.T.kC hall (thn (hkw.run pos pins s σ H _ I h) fun us s1 ⟨zs, H1, I1, r1, hl, q1⟩ => ⟨I1.kIn, ?_⟩) hpl) hdb)
  rw [hks]
  obtain ⟨hp, ge, dr, tk', os⟩ := s1
  have hsz := Nat.le_succ hp.objs.size
  have hn1 : H1 (hp.objs.size + 1) = none := I1.hok.fresh hsz
  have I2 := I1.laid (t' := tk') (a := hp.objs.size + 1) (o := exo (hp.objs.size + 1) C none) (h' := (hp.push (PySem.W.kdv_tup [])).push (PySem.HandSPX.excO C hp.objs.size)) (fun b o z => Heap.get?_push_of_some _ (Heap.get?_push_of_some _ z)) hsz (exo_ok (t1 := hp.objs.size) (by heap_get))
  have hsp : spEx C ns (.ref (hp.objs.size + 1) :: pm.f zs) (upd H1 (hp.objs.size + 1) (exo (hp.objs.size + 1) C none)) (fun v H2 => v = .non ∧ Q (.ref (hp.objs.size + 1)) H2) (fun _ _ _ => False) :=
    ⟨_, pm.f zs, rfl, by rw [pm.len, hl, hn], upd_same, fun d H2 hd hne h1 h2 h3 => ⟨rfl, q1 _ d H2 hn1 (by rw [upd_ne hne] at hd; exact hd) hne h1 h2 fun b hb hbd => (h3 b hb hbd).trans (upd_ne hb)⟩⟩
  have e2 := I2.env0.make C [] (ks.zip us)
  have lu : us.length = ks.length := r1.length.symm.trans hl
  obtain ⟨nm, N, qn, bs, bm, hdct, sn, sub, ab, col, dd, k0, k1, k2, k3, k5, hC, hbm⟩ := PySem.W.excInit_of I1.kIn xi
  show wpAny _ _ (call (.ref C) [] (ks.zip us)) _ _ _
  refine wpAny_call (PySem.HandSPX.dlk_call FB hbm hC (PySem.W.looks_findIn I1.kIn iC) (fun self => PySem.W.bind_fn I1.kIn self tI) (by rw [sizeLine_eq]; exact Nat.zero_le _)
    (codeAny_mono (F1.run _ X.stack _ _ ⟨.ref (hp.objs.size + 1) :: [], ks.zip us⟩ (.ref (hp.objs.size + 1) :: pm.f us) (.ref (hp.objs.size + 1) :: pm.f zs) _ _ (hr.make C [] (ks.zip us)) e2 (hb _ (.ref (hp.objs.size + 1)) us I2.kIn lu) (.cons rfl (pm.rel r1)) hsp) ?_))
  intro r s' hq'
  cases r with
  | error er => exact hx pins σ _ _ er s' I2 hq'
  | ok fl =>
    cases fl with
    | ret u =>
      obtain ⟨v, H3, I3, rv, ev, q3⟩ := I2.after hq'
      subst ev
      exact ⟨rv, .ref (hp.objs.size + 1), H3, I3, rfl, q3⟩
    | next => exact hq'.elim
    | brk => exact hq'.elim
    | cont => exact hq'.elim
theorem de_mkk (Z : MkK X.prog X.w X.K X.mg X.base k C ns ps ks pm) (hr : RoomG (k + 1) X.A) (hx : Passes (L2.CX X.prog X.w) X (fun _ _ _ => False)) (hg : Gl X x) (hm : X.mg x = some (.ref C)) (ha : DK X E n kws ts) (hn : ns.length = ks.length := by rfl) (hn2 : n = ks.length := by rfl)
    (hall : (backToKw pos (keywordEach kws X.env)).all (·.1.isSome) = true := by rfl) (hks : (backToKw pos (keywordEach kws X.env)).filterMap (·.1) = ks := by rfl) (hdb : (x == ("__debug__" : Str)) = false := by decide)
    (hpl : ((backTo pos (starEach [] X.env)).any (·.1) || (backToKw pos (keywordEach kws X.env)).any (·.1.isNone)) = false := by rfl) :
    DE X E (.Call (.Name x p) [] kws pos) (dMkK C ns pm ts) :=
  ⟨PE.imp (pe_mkk Z hr.r hx hg hm ha.ok hn hall hks hdb hpl) fun σ H Q ⟨s, M, Qd, Xd, S, xt, t, q⟩ => by
    refine useN S xt t fun ds vs M1 H1 hl g1 S1 x1 r1 t1 => ⟨by rw [hl, hn2], fun a d H2 ha hd hne h1 h2 h3 => ?_⟩
    have kp : ∀ b o, H1 b = some o → H2 b = some o := fun b o z => (h3 b (ne_of_none z ha) (ne_of_none z hd)).trans z
    have gw : Gw H1 M1 H2 M1 := fun b o z m => ⟨kp b o z, m⟩
    refine q _ _ ⟨.exn C ns (pm.f ds).reverse, M1, g1.trans gw, mok_keep S1.mem kp, .inl ⟨a, d, (pm.f vs).reverse, rfl, .inl h1, m_none S1.mem ha, .inl h2, m_none S1.mem hd, ?_, Rs.grow gw _ _ (Rs.reverse (pm.rs r1))⟩, t1⟩
    rw [List.length_reverse, pm.len, Rs.len r1, hl, hn2, hn]⟩
end
end DL
set_option maxHeartbeats 1000000
namespace DL
open PySem PySem.Spec PyProof.Rows L2
/-! ### enumerate and zip of lists -/
def enmFrom : Nat → List D → List D
  | _, [] => []
  | i, d :: ds => .tup [.int (i : Nat), d] :: enmFrom (i + 1) ds
theorem enmFrom_get : ∀ (ds : List D) (i j : Nat), (enmFrom i ds)[j]? = ds[j]?.map fun d => D.tup [.int ((i + j : Nat) : Int), d]
  | [], i, j => by simp [enmFrom]
  | d :: ds, i, 0 => by simp [enmFrom]
  | d :: ds, i, j + 1 => by
    simp only [enmFrom, List.getElem?_cons_succ]
    rw [enmFrom_get ds (i + 1) j, show i + 1 + j = i + (j + 1) by omega]
theorem enmFrom_len : ∀ (ds : List D) (i : Nat), (enmFrom i ds).length = ds.length
  | [], _ => rfl
  | d :: ds, i => by simp [enmFrom, enmFrom_len ds (i + 1)]
theorem ItOk.enum {K : Fg} {H0 : Hp} {M0 : Mem} {ow : Option Addr} {ds : List D} {a : Addr} (hs : ∀ H M, Gw H0 M0 H M → MOk K H M → (∀ a, ow = some a → M a = M0 a) → ∃ xs, SqL K H a xs ∧ Rs K H M ds xs) : ItOk K (Ite K a) H0 M0 ow (enmFrom 0 ds) := by
  refine ⟨fun i H M g mo hw hi => ?_, fun H M g mo hw => ?_⟩
  · rw [enmFrom_len] at hi
    obtain ⟨xs, h1, h2⟩ := hs H M g mo hw
    obtain ⟨v, e1, e2⟩ := Rs.get h2 (List.getElem?_eq_getElem hi)
    refine ⟨⟨xs, v, h1, e1⟩, fun y H' ⟨T, x, eT, hT, eH, hy⟩ => ?_⟩
    subst eT; subst eH
    have e3 := hy xs h1
    rw [e1] at e3; cases e3
    refine ⟨.tup [.int ((0 + i : Nat) : Int), ds[i]], by rw [enmFrom_get, List.getElem?_eq_getElem hi]; rfl, gw_new hT, mok_new mo hT, new_tup mo hT (Rs.cons ?_ (Rs.cons e2 Rs.nil))⟩
    rw [Nat.zero_add]; exact rfl
  · rw [enmFrom_len]
    obtain ⟨xs, h1, h2⟩ := hs H M g mo hw
    exact ⟨xs, h1, by rw [vlen h2]; exact Nat.le_refl _⟩
/-- the items of a list -/
def lstK (R : List D → Option Addr → Mem → Prop) : QD := fun d M => match d with
  | .lst ds => R ds none M
  | .fzn ds => R ds none M
  | .ref a => match M a with
    | some (.lst ds) => R ds (some a) M
    | _ => False
  | _ => False
theorem lstK_use {K : Fg} {H : Hp} {M : Mem} {d : D} {v : V} {R : List D → Option Addr → Mem → Prop} (mo : MOk K H M) (r : Rv K H M d v) (t : lstK R d M) :
    ∃ p xs ds ow, v = .ref p ∧ SqL K H p xs ∧ Rs K H M ds xs ∧ R ds ow M ∧ ∀ H' M', Gw H M H' M' → MOk K H' M' → (∀ a, ow = some a → M' a = M a) → ∃ ys, SqL K H' p ys ∧ Rs K H' M' ds ys := by
  unfold lstK at t
  split at t
  · rename_i ds
    obtain ⟨p, xs, rfl, hp, hm, sp⟩ := r
    exact ⟨p, xs, ds, none, rfl, SqL.of hp, sp, t, fun H' M' g mo _ => ⟨xs, SqL.of (g _ _ hp hm).1, Rs.grow g ds xs sp⟩⟩
  · rename_i ds
    obtain ⟨p, xs, rfl, hp, sp⟩ := r
    exact ⟨p, xs, ds, none, rfl, hp.sq, sp, t, fun H' M' g mo _ => ⟨xs, (g.rl hp).sq, Rs.grow g ds xs sp⟩⟩
  · rename_i p
    split at t
    · rename_i ds hm
      have hv : v = .ref p := r
      obtain ⟨xs, hp, sp⟩ := mo p _ hm
      refine ⟨p, xs, ds, some p, hv, SqL.of hp, sp, t, fun H' M' g mo' hw => ?_⟩
      have e := hw p rfl
      rw [hm] at e
      obtain ⟨ys, h1, h2⟩ := mo' p _ e
      exact ⟨ys, SqL.of h1, h2⟩
    · exact t.elim
  · exact t.elim
def iEnmD (te : TED) : TID := fun Xd s M R => dCons te dNil Xd s M fun ds M1 => ∃ d, ds = [d] ∧ lstK (fun ds ow M1 => R (enmFrom 0 ds) ow M1) d M1
section
variable {X : Cx} {E : XK} {e e2 : Expr} {te te2 : TED} {p pos tpos : Pos} {elts : List Expr} {kk : Nat}
theorem di_enum (hg : Gl X "enumerate") (hm : X.mg "enumerate" = none) (he : DE X E e te) (hs : starEach [e] X.env = (false, eval e X.env) :: starEach [] X.env := by rfl) : DI X E (.Tuple elts kk tpos) (.Call (.Name "enumerate" p) [e] [] pos) (iEnmD te) := by
  refine ⟨_, pi_enum hg hm (dn_cons he dn_nil hs).ok hs, fun {σ H s M Xd Qd R} S x t q => ?_⟩
  refine useN S x t fun ds vs M1 H1 hl g1 S1 x1 r1 t1 => ?_
  obtain ⟨d, rfl, t1⟩ := t1
  obtain ⟨v, hv, rd⟩ := rs1 r1
  obtain ⟨a, xs, ds, ow, rfl, hq, rs, tq, hk⟩ := lstK_use S1.mem rd t1
  exact ⟨a, xs, hv, hq, q _ _ _ _ _ g1 S1.mem (ItOk.enum hk) tq⟩
end
/-! ### displays with stars -/
def seqK (R : List D → Mem → Prop) : QD := fun d M => match vw M d with
  | .tup ds => R ds M
  | .lst ds => R ds M
  | .fzn ds => R ds M
  | _ => False
def dStar (te : TED) (ta : TAD) : TAD := fun Xd s M Q => te Xd s M (seqK fun ds M1 => ta Xd s M1 fun es M2 => Q (ds ++ es) M2)
def dLstS (t : TAD) : TED := fun Xd s M Q => t Xd s M fun ds M1 => ds.length ≤ sizeLine ∧ Q (.lst ds) M1
def dTupS (t : TAD) : TED := fun Xd s M Q => t Xd s M fun ds M1 => ds.length ≤ sizeLine ∧ Q (.tup ds) M1
theorem seqK_use {K : Fg} {H : Hp} {M : Mem} {d : D} {v : V} {R : List D → Mem → Prop} (mo : MOk K H M) (r : Rv K H M d v) (t : seqK R d M) : ∃ p xs ds, v = .ref p ∧ (SqT K H p xs ∨ SqL K H p xs) ∧ Rs K H M ds xs ∧ R ds M := by
  unfold seqK at t
  split at t
  · rename_i ds hv
    obtain ⟨a, xs, e, h1, h2⟩ := vw_tup r hv
    exact ⟨a, xs, ds, e, .inl h1.sq, h2, t⟩
  · rename_i ds hv
    obtain ⟨a, xs, e, h1, h2⟩ := vw_lst mo r hv
    exact ⟨a, xs, ds, e, .inr (SqL.of h1), h2, t⟩
  · rename_i ds hv
    cases d with
    | fzn es =>
      have e' : es = ds := by simpa [vw] using hv
      subst e'
      obtain ⟨p, xs, e, hp, sp⟩ := r
      exact ⟨p, xs, es, e, .inr hp.sq, sp, t⟩
    | ref a =>
      rw [vw_ref] at hv
      cases q : M a with
      | none => rw [q] at hv; cases hv
      | some o => rw [q] at hv; cases o <;> cases hv
    | _ => simp [vw] at hv
  · exact t.elim
section
variable {X : Cx} {E : XK} {e : Expr} {es : List Expr} {te : TED} {ts : TAD} {pos p : Pos}
theorem da_nil : DA X E [] dNil := ⟨PA.imp pa_nil fun σ H Q ⟨s, M, Qd, Xd, S, x, t, q⟩ => q [] H ⟨[], M, Gw.refl, S.mem, rfl, t⟩⟩
theorem da_cons (h1 : DE X E e te) (h2 : DA X E es ts) (hs : starEach (e :: es) X.env = (false, eval e X.env) :: starEach es X.env := by rfl) : DA X E (e :: es) (dCons te ts) :=
  ⟨PA.imp (pa_cons h1.ok h2.ok hs) fun σ H Q ⟨s, M, Qd, Xd, S, x, t, q⟩ => useE S x t fun d v M1 H1 g1 S1 x1 r1 t1 => useA S1 x1 t1 fun ds vs M2 H2 g2 S2 x2 r2 t2 =>
    q _ _ ⟨d :: ds, M2, g1.trans g2, S2.mem, Rs.cons (Rv.grow g2 _ _ r1) r2, t2⟩⟩
theorem da_star (h1 : DE X E e te) (h2 : DA X E es ts) : DA X E (.Starred e p :: es) (dStar te ts) :=
  ⟨PA.imp (StX.pa_star h1.ok h2.ok) fun σ H Q ⟨s, M, Qd, Xd, S, x, t, q⟩ => useE S x t fun d v M1 H1 g1 S1 x1 r1 t1 => by
    obtain ⟨a, xs, ds, rfl, hq, rs, t1⟩ := seqK_use S1.mem r1 t1
    exact ⟨a, xs, rfl, hq, useA S1 x1 t1 fun es vs M2 H2 g2 S2 x2 r2 t2 => q _ _ ⟨ds ++ es, M2, g1.trans g2, S2.mem, Rs.append (Rs.grow g2 _ _ rs) r2, t2⟩⟩⟩
theorem de_lstS (h : DA X E es ts) : DE X E (.List es pos) (dLstS ts) := ⟨PE.imp (pe_lst h.ok) fun σ H Q ⟨s, M, Qd, Xd, S, x, t, q⟩ =>
  useA S x t fun ds vs M1 H1 g1 S1 x1 r1 t1 => ⟨by rw [← Rs.len r1]; exact t1.1, fun p hp => q _ _ ⟨.lst ds, M1, g1.trans (gw_new hp), mok_new S1.mem hp, new_lst S1.mem hp r1, t1.2⟩⟩⟩
theorem de_tupS {k : Nat} (h : DA X E es ts) : DE X E (.Tuple es k pos) (dTupS ts) := ⟨PE.imp (pe_tup h.ok) fun σ H Q ⟨s, M, Qd, Xd, S, x, t, q⟩ =>
  useA S x t fun ds vs M1 H1 g1 S1 x1 r1 t1 => ⟨by rw [← Rs.len r1]; exact t1.1, fun p hp => q _ _ ⟨.tup ds, M1, g1.trans (gw_new hp), mok_new S1.mem hp, new_tup S1.mem hp r1, t1.2⟩⟩⟩
end
end DL
set_option maxHeartbeats 1000000
namespace DL
open PySem PySem.Spec PyProof.Rows L2
/-! ### the end of a row whose law is read over data -/
/-- what the law's def must do over data: true for every script of at most n numbers -/
def LawD (n : Nat) (sp : SpD) : Prop := ∀ ns : List Int, ns.length ≤ n → sp [.fzn (ns.map D.int)] (fun _ => none) (fun d _ => d = .bl true) (fun _ _ _ _ => False)
theorem rs_ints {K : Fg} {H : Hp} {M : Mem} : ∀ ns : List Int, Rs K H M (ns.map D.int) (ns.map V.int)
  | [] => rfl
  | i :: r => Rs.cons rfl (rs_ints r)
theorem rl_of {K : Fg} {H : Hp} {a : Addr} {xs : List V} (h : SqL K H a xs) : RL K H (fun _ => none) a xs := h.elim (fun h => .inl ⟨h, rfl⟩) .inr
theorem d_call {P : Program} {w : World} {K : Fg} {mg mb : Str → Option Value} {k n : Nat} {fa a : Addr} {fd : FuncData} {x : Str} {sp : SpD} {s1 : Shared} {vs : List Value} {ns : List Int}
    (KX : K.In s1.heap) (hns : s1.heap.Ns mainGlobals mg) (hb : s1.heap.Ns builtinsNs mb) (hbb : ∀ x : Str, x ≠ "__name__" → mb x = bootBuiltins x) (hlim : s1.heap.NoLimit) (hg : s1.gens = #[])
    (ha : s1.heap.get? a = some { cls := .type "list", data := .seq vs.toArray }) (hi : IntsAre vs ns) (hl : ns.length ≤ sizeLine) (hln : ns.length ≤ n) (hr : RoomG k callerA)
    (F : ∀ base : Heap, K.In base → base.Ns mainGlobals mg → DFn P w K mg base k fa fd [x] sp) (hbind : ∀ (s : Shared) (u : Value), BindsTo s fd ⟨[u], []⟩ [(x, u)]) (hsp : LawD n sp) :
    codeAny (model P w) callerA (.call (.ref fa) ⟨[.ref a], []⟩) (fun r s' => r = .ok (.ret (.bool true)) ∧ OldK s1.heap s'.heap ∧ s'.os = s1.os ∧ AllBare s'.gens) s1 := by
  have rv := vals_ints hi
  have lv := hi.length
  have core : ∀ H : Hp, Only H → SqL K H a (ns.map V.int) → HOk P w H s1.heap → (∀ b, H b ≠ none → b = a) → (H a ≠ none → K.lookup a = none) →
      codeAny (model P w) callerA (.call (.ref fa) ⟨[.ref a], []⟩) (fun r s' => r = .ok (.ret (.bool true)) ∧ OldK s1.heap s'.heap ∧ s'.os = s1.os ∧ AllBare s'.gens) s1 := by
    intro H hO hS hok hA hK
    have b0 : ∀ {b : Addr} {o : Obj}, s1.heap.get? b = some o → H b = none → (hidT s1.heap H).get? b = some o := fun e z => hidT_get e z
    have nd : ∀ {b : Addr} {o : Obj} {es : Array DictEntry} {ep : Nat}, s1.heap.get? b = some o → o.data = .dict es ep → H b = none := fun {b o es ep} e d => by
      cases q : H b with
      | none => rfl
      | some u =>
        obtain rfl : b = a := hA b (by rw [q]; simp)
        rw [ha] at e; cases e
        exact absurd (show Data.seq vs.toArray _ = Data.dict es ep from d) (fun z => nomatch z)
    have nsK : ∀ {b : Addr} {m : Str → Option Value}, s1.heap.Ns b m → (hidT s1.heap H).Ns b m := fun {b m} ⟨o, es, ep, e, d, r⟩ => ⟨o, es, ep, b0 e (nd e d), d, r⟩
    have kb : K.In (hidT s1.heap H) := fun b o e => b0 (KX b o e) (by
      cases q : H b with
      | none => rfl
      | some u =>
        obtain rfl : b = a := hA b (by rw [q]; simp)
        rw [hK (by rw [q]; simp)] at e; cases e)
    have hM : Mod K mg (hidT s1.heap H) := ⟨kb, nsK hns, ⟨mb, nsK hb, hbb⟩, let ⟨mc, h1, h2⟩ := hlim; ⟨mc, nsK h1, h2⟩⟩
    have e0 : Env0 P w K mg (hidT s1.heap H) callerA [] s1 H := ⟨rfl, hM, fun b o e => of_hidT e, Nat.le_of_eq (hidT_size _ _), trivial, fun b hb => absurd (show b ∈ ([] : List Addr) from hb) (by simp), hok, .of_eq hg⟩
    refine codeAny_mono ((F _ kb (nsK hns)).run callerA [] s1 H (fun _ => none) ⟨[.ref a], []⟩ [.ref a] [.ref a] [.fzn (ns.map D.int)] (fun d _ => d = .bl true) (fun _ _ _ _ => False) (fun v _ => v = .bl true) (fun _ _ _ => False) hr e0 rfl (hbind s1 (.ref a)) (.cons rfl .nil)
      (fun b o e => by cases e) (Rs.cons ⟨a, _, rfl, rl_of hS, rs_ints ns⟩ Rs.nil) (hsp ns hln) (fun v H' ⟨d, M', _, _, rd, e⟩ => by subst e; exact rd) (fun c od H' ⟨_, _, _, _, _, _, _, _, _, _, _, _, _, _, z⟩ => z)) fun r s' h => ?_
    cases r with
    | error e => obtain ⟨_, _, _, _, _, _, _, _, _, _, _, _, z⟩ := h; exact z.elim
    | ok fl =>
      cases fl with
      | next => exact False.elim h
      | brk => exact False.elim h
      | cont => exact False.elim h
      | ret u =>
        obtain ⟨v, H', os, bare, un, hok', r', q⟩ := h
        obtain rfl : v = .bl true := q
        obtain rfl : u = Value.bool true := r'
        refine ⟨rfl, OldK.of_keep fun b o e => ?_, os, bare⟩
        cases q : H b with
        | none => exact un.keep b o e q (by intro z; exact absurd (show b ∈ ([] : List Addr) from z) (by simp)) (by simp)
        | some u =>
          rcases hO b with z | ⟨ob, xs, z⟩
          · rw [q] at z; cases z
          · obtain ⟨e1, _⟩ := hok b _ z
            obtain ⟨e2, _⟩ := hok' b _ (un.frzs b ob _ z)
            rw [e] at e1; cases e1; exact e2
  cases hk : K.lookup a with
  | some o =>
    have e := KX a o hk
    rw [ha] at e; cases e
    exact core (fun _ => none) (fun _ => .inl rfl) (.inr ⟨_, vs.toArray, _, hk, rfl, rfl, rfl, by rw [List.size_toArray, lv]; exact hl, by simpa using rv⟩) (fun b u z => by cases (show (none : Option HO) = some u from z)) (fun b z => absurd rfl z) fun z => absurd rfl z
  | none =>
    refine core (fun b => if b = a then some (.frz { cls := .type "list", data := .seq vs.toArray } (.lst (ns.map V.int))) else none) (fun b => ?_) (.inl (.inr ⟨{ cls := .type "list", data := .seq vs.toArray }, if_pos rfl⟩)) (fun b u z => ?_) (fun b z => ?_) fun _ => hk
    · by_cases hb : b = a
      · exact .inr ⟨_, _, if_pos hb⟩
      · exact .inl (if_neg hb)
    · by_cases hb : b = a
      · have z' := (if_pos hb).symm.trans z
        cases z'; subst hb
        exact ⟨ha, by rw [List.length_map]; exact hl, vs, _, rv, ha⟩
      · exact absurd ((if_neg hb).symm.trans z) (fun z => nomatch z)
    · exact Decidable.byContradiction fun hb => z (if_neg hb)
theorem d_walk {l : PySem.W.OpenLaw} {n k : Nat} {q : Program} {loose : List Str} {XP : (Str → Option Value) → Heap → Prop} {YP : World → Heap → Prop} {d : DefRec} {x : Str} (hn : l.most = some n) (hn2 : n ≤ sizeLine) (hdf : d.params.defaults = []) (hr : RoomG k callerA)
    (F : ∀ (w : World) (mg : Str → Option Value) (fa : Addr) (h : Heap), YP w h → h.Ns mainGlobals mg → mg d.name = some (.ref fa) →
      ∃ (K : Fg) (fd : FuncData) (sp : SpD), K.In h ∧ (∀ (s : Shared) (u : Value), BindsTo s fd ⟨[u], []⟩ [(x, u)]) ∧ LawD n sp ∧ ∀ base : Heap, K.In base → base.Ns mainGlobals mg → DFn l.prog w K mg base k fa fd [x] sp) :
    PySem.W.WalkO q loose XP YP l.row.toRowW d [] (fun f vs => PySem.call f vs) := by
  refine Att.attach_call hn hdf fun w s0 s1 mg mb fa o pm cd doc a vs ns G Y ho hd hcd hmg hobj hints hlen hg => ?_
  obtain ⟨K, fd, sp, KX, hb, hsp, hF⟩ := F w mg fa _ Y G.T.g hmg
  exact d_call KX G.T.g G.T.b G.T.builtins G.T.nolimit hg hobj hints (Nat.le_trans hlen hn2) hlen hr hF hb hsp
/-- a def as the head tells it -/
theorem fun_ofD {K : Fg} {x qual : Str} {st : Stmt} {f : Addr} {fd : FuncData} (F : FunD K x qual (defArgs st) (defBody st) (defScope st) [] [] f fd) : Fun K x qual st f fd := by
  obtain ⟨oc, od, dV, kV, doc, pm, an, cdv, ct, osl, e, lk, hcd, hD, hK⟩ := F.ex
  have e2 : dV = .none := by
    rcases hD with ⟨_, e⟩ | ⟨e, _⟩
    · exact e
    · exact absurd rfl e
  subst e2
  exact ⟨⟨oc, od, kV, doc, pm, an, cdv, ct, osl, e, lk, hcd⟩, F.kp⟩
end DL
set_option maxHeartbeats 1000000
namespace DL
open PySem PySem.Spec PyProof.Rows L2
/-! ### facts of the head: by names, and by one Bool more -/
abbrev AlE := He.AlD × Bool
def obsE (n : Nat) (fa : List He.Fa) (fn : List He.DefD) (ex : Fg → Bool) (g : Addr → Option Obj) : AlE := (He.obsD fa fn (He.frG g (He.asD g n)), ex (He.frG g (He.asD g n)))
def hookE (n : Nat) (fa : List He.Fa) (fn : List He.DefD) (ex : Fg → Bool) : PySem.W.Hook where
  α := AlE
  obs := fun s => obsE n fa fn ex s.heap.get?
  val := fun _ => (He.valD fn, true)
  says := fun _ h => ∃ K : Fg, K.In h ∧ He.SaysD fa fn K ∧ ex K = true
  of := fun _ _ e => ⟨_, He.frG_in, congrArg Prod.fst e, congrArg Prod.snd e⟩
  keeps := fun _ _ _ ⟨K, hK, c, e⟩ k => ⟨K, PySem.W.Frag.In.keeps hK k, c, e⟩
theorem obsE_eq {n : Nat} {fa : List He.Fa} {fn : List He.DefD} {ex : Fg → Bool} {g : Addr → Option Obj} {s : Shared} (h : ∀ a, g a = s.heap.get? a) : obsE n fa fn ex g = (hookE n fa fn ex).obs s := by
  have e : g = s.heap.get? := funext h
  rw [e] <;> rfl
theorem binds_of {K : Fg} {x qual : Str} {st : Stmt} {f : Addr} {fd : FuncData} {ps : List Str} (F : Fun K x qual st f fd)
    (h : ∀ (kV doc pm : Value) (an : Option Addr) (cdv ct : Value) (us : List Value), us.length = ps.length → bindArgs (PySem.W.fnOf x qual (defArgs st) (defBody st) (defScope st) .none kV doc pm an cdv ct) ⟨us, []⟩ = pure (ps.zip us)) : Binds K fd ps [] := F.binds h
end DL
set_option maxHeartbeats 1000000
namespace PySem
open AutoSeq1 (wpAny_loadPart')
theorem dl_enum_newT (l : Addr) (items : Array Value) (n : Nat) (dct : Option Addr) (sl : Array (Option Value)) :
    Meets (Builtin.«enumerate.__new__» ⟨[.type "enumerate", .ref l], []⟩) (fun _ R s => s.heap.get? l = some { cls := .type "tuple", dict := dct, data := .seq items n, slots := sl } ∧
      R (.ok (.ret (.ref (s.heap.push { cls := .type "tuple_iterator", data := .fields #[.ref l, .int 0 0] }).objs.size)))
        { s with heap := (s.heap.push { cls := .type "tuple_iterator", data := .fields #[.ref l, .int 0 0] }).push { cls := .type "enumerate", data := .fields #[.none, .bool false, .ref s.heap.objs.size, rawInt 0, .none, .none] } }) :=
  .of_wp fun prog w A R s h => by
    obtain ⟨hp, g, d, tk, os⟩ := s; obtain ⟨hl, h⟩ := h
    have hsub := sub_enumerate
    have hL : Heap.IsTuple (Shared.heap ⟨hp, g, d, tk, os⟩) l items := ⟨_, hl, rfl, n, rfl⟩
    wp_walk using wpAny_loadPart' hl
    refine wpAny_stack_any fun st => wpAny_pure ?_
    split
    · rename_i c _ _ _ _ _
      cases (c == Value.type "enumerate") <;> (wp_walk using wpAny_loadPart' hl, wpAny_pyIter_tuple hL; exact ⟨_, rfl, h⟩)
    · wp_walk using wpAny_loadPart' hl, wpAny_pyIter_tuple hL
      exact ⟨_, rfl, h⟩
theorem dl_call_enumT {prog : Program} {w : World} {A : Around} {E : Value → Shared → Prop} {s : Shared} {l : Addr} {items : Array Value} {Q : Value → Shared → Prop} (hL : s.heap.IsTuple l items)
    (h : ∀ h', IsEnum h' (s.heap.objs.size + 1) s.heap.objs.size 0 .none → h'.IsTupleIter s.heap.objs.size l 0 → h'.objs.size = s.heap.objs.size + 2 → (∀ b o, s.heap.get? b = some o → h'.get? b = some o) → Q (.ref (s.heap.objs.size + 1)) { s with heap := h' }) :
    wpAny (model prog w) A (call (.type "enumerate") [.ref l]) Q E s := by
  obtain ⟨⟨c, dct, dt, sl⟩, hl, hc, n, hd⟩ := hL
  obtain rfl : c = .type "tuple" := hc
  obtain rfl : dt = .seq items n := hd
  refine callType_new F.called_enumerate (by decide) (F.typeCall_enumerate_1 _) (F.newCall_enumerate_1 _) (fun obj => F.args_object_init_2 obj _) F.entry_enumerate_new (dl_enum_newT l items n dct sl) ⟨hl, ?_⟩
  have hz : (s.heap.push { cls := .type "tuple_iterator", data := .fields #[.ref l, .int 0 0] }).objs.size = s.heap.objs.size + 1 := Heap.size_push ..
  show _ ∧ _
  rw [hz]
  have he : IsEnum ((s.heap.push { cls := .type "tuple_iterator", data := .fields #[.ref l, .int 0 0] }).push { cls := .type "enumerate", data := .fields #[.none, .bool false, .ref s.heap.objs.size, rawInt 0, .none, .none] }) (s.heap.objs.size + 1) s.heap.objs.size 0 .none := by
    have z := Heap.get?_push_size (s.heap.push { cls := .type "tuple_iterator", data := .fields #[.ref l, .int 0 0] }) (o := { cls := .type "enumerate", data := .fields #[.none, .bool false, .ref s.heap.objs.size, rawInt 0, .none, .none] }) rfl
    rw [hz] at z; exact z
  refine ⟨⟨_, he, rfl⟩, h _ he ⟨_, Heap.get?_push_of_some _ (Heap.get?_push_size _ rfl), rfl, rfl⟩ (by rw [Heap.size_push, hz]) fun b o x => Heap.get?_push_of_some _ (Heap.get?_push_of_some _ x)⟩
theorem dl_draws_tup {prog : Program} {w : World} {A : Around} (hh : A.handled = none) (it l : Addr) (hne : l ≠ it) (items : Array Value) :
    Draws prog w A it [it, l] items.size (fun i v => items[i]? = some v) (fun i h => h.IsTupleIter it l i ∧ h.IsTuple l items) where
  live := fun _ _ st => let ⟨o, ho, _⟩ := st.1; ⟨o, ho⟩
  frame := fun _ _ _ st hk => ⟨let ⟨o, ho, r⟩ := st.1; ⟨o, hk it (by simp) o ho, r⟩, let ⟨o, ho, r⟩ := st.2; ⟨o, hk l (by simp) o ho, r⟩⟩
  item := fun i s Q E hi st hQ => wpAny_nextOf_tuple_item st.1 st.2 (x := items[i]) (by simp [hi]) fun h' hit' hs' => hQ _ h' s.toks (by simp [hi]) ⟨hit', st.2.extBut hs'.extBut hne⟩ hs'
  done := fun s Q E st hE => wpAny_nextOf_tuple_end hh st.1 st.2 (by simp) hE
end PySem

namespace DL
open PySem PySem.Spec PyProof.Rows L2
/-! ### enumerate of tuples -/
def IteT (K : Fg) (a : Addr) : It :=
  ⟨fun i H => ∃ (xs : List V) (x : V), SqT K H a xs ∧ xs[i]? = some x, fun i H v H' => ∃ T x, v = .ref T ∧ H T = none ∧ H' = upd H T (.tup [.int (i : Nat), x]) ∧ ∀ xs, SqT K H a xs → xs[i]? = some x, fun i H => ∃ xs : List V, SqT K H a xs ∧ xs.length ≤ i⟩
theorem turn_enT {P : Program} {w : World} {K : Fg} {elts : List Expr} {kk : Nat} {tpos : Pos} (a e it : Addr) :
    Turn P w K (.Tuple elts kk tpos) (IteT K a) [e, it] e (fun i h => (∃ old, IsEnum h e it ((i : Nat) : Int) old) ∧ h.IsTupleIter it a i ∧ e ≠ it) where
  mem := by simp
  obj := fun i h st b hb => by
    obtain ⟨⟨old, he⟩, ⟨o, ho, hc, hd⟩, _⟩ := st
    rcases (by simpa using hb : b = e ∨ b = it) with z | z
    · rw [z]; exact ⟨_, he, fun v q => nomatch q⟩
    · rw [z]; exact ⟨o, ho, fun v q => by rw [hd] at q; cases q⟩
  keep := fun i h h' st k => let ⟨⟨old, he⟩, ⟨o, ho, r⟩, hne⟩ := st; ⟨⟨old, k e (by simp) _ he⟩, ⟨o, k it (by simp) _ ho, r⟩, hne⟩
  item := by
    intro X hP hw hK hc i pins s σ H E I hf st hg
    subst hP hw hK
    obtain ⟨⟨old, he⟩, hit, hne⟩ := st
    obtain ⟨xs, x, hq, hx⟩ := hg
    obtain ⟨its, rv, p, hz⟩ := I.tuple hq
    have p' : s.heap.IsTuple a its.toArray := p
    have hel : e < s.heap.objs.size := Heap.lt_size he
    have hil : it < s.heap.objs.size := by obtain ⟨_, q, _⟩ := hit; exact Heap.lt_size q
    have hai : a ≠ it := fun z => by
      obtain ⟨o, h1, h2, _⟩ := p'
      obtain ⟨o2, h3, h4, _⟩ := hit
      rw [z, h3] at h1; cases h1
      rw [h2] at h4
      exact absurd (Value.type.inj h4) (by decide)
    have hea : e ≠ a := fun z => by
      obtain ⟨o, h1, h2, _⟩ := p'
      have h3 := he
      unfold IsEnum at h3
      rw [z, h1] at h3
      have h4 := congrArg (fun o : Option Obj => o.map (·.cls)) h3
      have h5 : o.cls = .type "enumerate" := Option.some.inj h4
      rw [h2] at h5
      exact absurd (Value.type.inj h5) (by decide)
    have hl := rv.length
    have hlt : i < its.toArray.size := by
      have : i < xs.length := by
        rcases Nat.lt_or_ge i xs.length with z | z
        · exact z
        · rw [List.getElem?_eq_none z] at hx; cases hx
      simpa [← hl] using this
    refine wpAny_pyNext_enum_itemD (dl_draws_tup (A := X.A.in1) (show X.A.in1.handled = none from I.ok.hd hc) it a hai its.toArray) he ⟨hit, p'⟩ hlt hne (by simp [hne, hea]) fun u h' tk hu ho st' hT hsz hk => ?_
    refine ⟨_, rfl, wpAny_letOwnedTupleGo_enum (s := { s with heap := h', toks := tk + 1 }) ho fun h'' he' sb => ?_⟩
    obtain ⟨u', hu', ru⟩ := rv.get hx
    obtain rfl : u = u' := by
      have hu2 : its.toArray[i]? = some u := hu
      rw [show its.toArray[i]? = its[i]? by simp, hu'] at hu2
      exact (Option.some.inj hu2).symm
    have hT2 : h''.get? s.heap.objs.size = some { cls := .type "tuple", data := .seq #[.int i tk, u] } := (sb.2 _ (Nat.ne_of_gt hel)).trans hT
    have new : ObjOk X.prog X.w (upd H s.heap.objs.size (.tup [.int (i : Nat), x])) h'' s.heap.objs.size (.tup [.int (i : Nat), x]) :=
      ⟨by show 2 ≤ sizeLine; decide, [.int i tk, u], .cons ⟨_, rfl⟩ (.cons ru .nil), ⟨_, hT2, rfl, _, rfl⟩⟩
    have I1 : Inv X pins σ (upd H s.heap.objs.size (.tup [.int (i : Nat), x])) { s with heap := h'', toks := tk + 1 } :=
      I.turnedNew (t' := tk + 1) (ch := [e, it]) (fun b ob hb q => (sb.2 b (fun z => hb (by simp [z]))).trans (hk b ob (fun z => hb (by simp [z])) (fun z => hb (by simp [z])) q)) hf (Nat.le_refl _) new
    refine ⟨.ref s.heap.objs.size, _, I1, rfl, ⟨_, x, rfl, I.hok.fresh (Nat.le_refl _), rfl, fun ys hy => by rw [I.tuple_inj hy hq]; exact hx⟩, ⟨⟨u, ?_⟩, ?_, hne⟩, fun b hb => ?_⟩
    · rw [show ((i + 1 : Nat) : Int) = (i : Int) + 1 by omega]; exact he'
    · obtain ⟨o2, h2, r2⟩ := st'.1
      exact ⟨o2, (sb.2 it (Ne.symm hne)).trans h2, r2⟩
    · have hb' : b < s.heap.objs.size := by
        rcases (by simpa using hb : b = e ∨ b = it) with z | z
        · rw [z]; exact hel
        · rw [z]; exact hil
      rw [upd_ne (Nat.ne_of_lt hb')]
      exact (hf b hb).1
  done := by
    intro X hP hw hK hc i pins s σ H E I hf st hg
    subst hP hw hK
    obtain ⟨⟨old, he⟩, hit, hne⟩ := st
    obtain ⟨xs, hq, hx⟩ := hg
    obtain ⟨its, rv, p, hz⟩ := I.tuple hq
    have p' : s.heap.IsTuple a its.toArray := p
    obtain ⟨f0, f1, f2, f3, f4, f5⟩ := hf it (by simp)
    have hT : s.TypeIs (.ref e) "enumerate" := ⟨_, he, rfl⟩
    have hl := rv.length
    unfold pyNext
    refine wpAny_bind (wpAny_attempt (wpAny_callSpecial?_slot (name := Str.ofString "__next__") hT F.slot_enumerate_next (wpAny_call_entry F.slot_enumerate_next hT F.entry_enumerate_next ?_ (F.args_enumerate_next_1 _))))
    show wpAny _ _ (field (.ref e) 2 >>= _) _ _ _
    refine wpAny_bind (wpAny_field he rfl (x := .ref it) rfl (wpAny_bind (wpAny_nextOf_tuple_end (I.ok.hd hc) hit p' (by simp; omega) fun h' x he' hx' => ?_)))
    obtain ⟨o, ho, hcs⟩ := hx'
    exact wpAny_bind (wpAny_isInstance (T := "StopIteration") (b := true) ⟨o, ho, hcs⟩ isSubtype_stop (wpAny_pure ⟨rfl, I.turned (t' := s.toks) (fun b o hb q => he' b o hb q) f0 f1 f3 f4 f5⟩))
  self := fun A i s Q E st h => let ⟨⟨_, he⟩, _⟩ := st; wpAny_pyIter_enum he h
def iEnB (K : Fg) (ta : TA) : TI := fun σ H R => ta σ H fun vs H1 => ∃ a, vs = [.ref a] ∧ (((∃ xs, SqL K H1 a xs) ∧ R (Ite K a) H1) ∨ ((∃ xs, SqT K H1 a xs) ∧ R (IteT K a) H1))
theorem pi_enB {X : Cx} {e : Expr} {ta : TA} {p pos tpos : Pos} {elts : List Expr} {kk : Nat} (hg : Gl X "enumerate") (hm : X.mg "enumerate" = none) (ha : PA X [e] ta) (hs : starEach [e] X.env = (false, eval e X.env) :: starEach [] X.env := by rfl) :
    PI X (.Tuple elts kk tpos) (.Call (.Name "enumerate" p) [e] [] pos) (iEnB X.K ta) := by
  refine ⟨fun pins s σ H R I h => Call_ (ld_blt I hg hm boot_enumerate (PyProof.Rows.callWith_type1 (thn (ha.run pos pins s σ H _ I h) fun us s1 ⟨vs, H1, I1, r1, a, ex, q1⟩ => ?_) hs rfl))⟩
  subst ex
  obtain ⟨u, rfl, ru⟩ := vals1 r1
  obtain rfl : u = .ref a := ru
  have fp : ∀ b ∈ [s1.heap.objs.size + 1, s1.heap.objs.size], FpOk X pins H1 b := fun b hb => by
    have hle : s1.heap.objs.size ≤ b := by
      rcases (by simpa using hb : b = s1.heap.objs.size + 1 ∨ b = s1.heap.objs.size) with z | z
      · rw [z]; exact Nat.le_add_right _ _
      · rw [z]; exact Nat.le_refl _
    exact I1.fpOk hle (I1.hok.fresh hle)
  rcases q1 with ⟨⟨xs, hq⟩, q⟩ | ⟨⟨xs, hq⟩, q⟩
  · obtain ⟨its, rv, p', hz⟩ := I1.list hq
    exact call_enumerate_list p'.isList fun h' he hit hsz hk => wpAny_pyIter_enum he ⟨s1.heap.objs.size + 1, [s1.heap.objs.size + 1, s1.heap.objs.size], _, _, H1, rfl, I1.kept (t' := s1.toks) hk, turn_enum a (s1.heap.objs.size + 1) s1.heap.objs.size, ⟨⟨.none, he⟩, hit, Nat.succ_ne_self _⟩, fp, q⟩
  · obtain ⟨its, rv, p', hz⟩ := I1.tuple hq
    exact dl_call_enumT (show s1.heap.IsTuple a its.toArray from p') fun h' he hit hsz hk => wpAny_pyIter_enum he ⟨s1.heap.objs.size + 1, [s1.heap.objs.size + 1, s1.heap.objs.size], _, _, H1, rfl, I1.kept (t' := s1.toks) hk, turn_enT a (s1.heap.objs.size + 1) s1.heap.objs.size, ⟨⟨.none, he⟩, hit, Nat.succ_ne_self _⟩, fp, q⟩
theorem ItOk.enumT {K : Fg} {H0 : Hp} {M0 : Mem} {ow : Option Addr} {ds : List D} {a : Addr} (hs : ∀ H M, Gw H0 M0 H M → MOk K H M → (∀ a, ow = some a → M a = M0 a) → ∃ xs, SqT K H a xs ∧ Rs K H M ds xs) : ItOk K (IteT K a) H0 M0 ow (enmFrom 0 ds) := by
  refine ⟨fun i H M g mo hw hi => ?_, fun H M g mo hw => ?_⟩
  · rw [enmFrom_len] at hi
    obtain ⟨xs, h1, h2⟩ := hs H M g mo hw
    obtain ⟨v, e1, e2⟩ := Rs.get h2 (List.getElem?_eq_getElem hi)
    refine ⟨⟨xs, v, h1, e1⟩, fun y H' ⟨T, x, eT, hT, eH, hy⟩ => ?_⟩
    subst eT; subst eH
    have e3 := hy xs h1
    rw [e1] at e3; cases e3
    refine ⟨.tup [.int ((0 + i : Nat) : Int), ds[i]], by rw [enmFrom_get, List.getElem?_eq_getElem hi]; rfl, gw_new hT, mok_new mo hT, new_tup mo hT (Rs.cons ?_ (Rs.cons e2 Rs.nil))⟩
    rw [Nat.zero_add]; exact rfl
  · rw [enmFrom_len]
    obtain ⟨xs, h1, h2⟩ := hs H M g mo hw
    exact ⟨xs, h1, by rw [vlen h2]; exact Nat.le_refl _⟩
def iEnmB (te : TED) : TID := fun Xd s M R => dCons te dNil Xd s M fun ds M1 => ∃ d, ds = [d] ∧ itemK (fun ds ow M1 => R (enmFrom 0 ds) ow M1) d M1
theorem di_enumB {X : Cx} {E : XK} {e : Expr} {te : TED} {p pos tpos : Pos} {elts : List Expr} {kk : Nat} (hg : Gl X "enumerate") (hm : X.mg "enumerate" = none) (he : DE X E e te) (hs : starEach [e] X.env = (false, eval e X.env) :: starEach [] X.env := by rfl) :
    DI X E (.Tuple elts kk tpos) (.Call (.Name "enumerate" p) [e] [] pos) (iEnmB te) := by
  refine ⟨_, pi_enB hg hm (dn_cons he dn_nil hs).ok hs, fun {σ H s M Xd Qd R} S x t q => ?_⟩
  refine useN S x t fun ds vs M1 H1 hl g1 S1 x1 r1 t1 => ?_
  obtain ⟨d, rfl, t1⟩ := t1
  obtain ⟨v, hv, rd⟩ := rs1 r1
  unfold itemK at t1
  split at t1
  · rename_i ds
    obtain ⟨p, xs, rfl, hp, sp⟩ := rd
    exact ⟨p, hv, .inr ⟨⟨xs, hp.sq⟩, q _ _ _ _ _ g1 S1.mem (ItOk.enumT fun H M g mo _ => ⟨xs, (g.rt hp).sq, Rs.grow g ds xs sp⟩) t1⟩⟩
  · rename_i ds
    obtain ⟨p, xs, rfl, hp, hm, sp⟩ := rd
    exact ⟨p, hv, .inl ⟨⟨xs, SqL.of hp⟩, q _ _ _ _ _ g1 S1.mem (ItOk.enum fun H M g mo _ => ⟨xs, SqL.of (g _ _ hp hm).1, Rs.grow g ds xs sp⟩) t1⟩⟩
  · rename_i ds
    obtain ⟨p, xs, rfl, hp, sp⟩ := rd
    exact ⟨p, hv, .inl ⟨⟨xs, hp.sq⟩, q _ _ _ _ _ g1 S1.mem (ItOk.enum fun H M g mo _ => ⟨xs, (g.rl hp).sq, Rs.grow g ds xs sp⟩) t1⟩⟩
  · rename_i p
    split at t1
    · rename_i ds hm
      have hv' : v = .ref p := rd
      subst hv'
      obtain ⟨xs, hp, sp⟩ := S1.mem p _ hm
      refine ⟨p, hv, .inl ⟨⟨xs, SqL.of hp⟩, q _ _ _ (some p) _ g1 S1.mem (ItOk.enum fun H M g mo hw => ?_) t1⟩⟩
      have e := hw p rfl
      rw [hm] at e
      obtain ⟨ys, h1, h2⟩ := mo p _ e
      exact ⟨ys, SqL.of h1, h2⟩
    · exact t1.elim
  · exact t1.elim
end DL
set_option maxHeartbeats 1000000
namespace DL
open PySem PySem.Spec PyProof.Rows L2 RZ
/-! ### zip of two lists, or of two tuples -/
def zpD : List D → List D → List D
  | d :: ds, e :: es => .tup [d, e] :: zpD ds es
  | _, _ => []
theorem zpD_get : ∀ (ds es : List D) (i : Nat), (zpD ds es)[i]? = match ds[i]?, es[i]? with | some d, some e => some (D.tup [d, e]) | _, _ => none
  | [], es, i => by simp [zpD]
  | d :: ds, [], i => by
    simp only [zpD, List.getElem?_nil]
    split <;> simp_all
  | d :: ds, e :: es, 0 => by simp [zpD]
  | d :: ds, e :: es, i + 1 => by
    simp only [zpD, List.getElem?_cons_succ]
    exact zpD_get ds es i
theorem zpD_len : ∀ (ds es : List D), (zpD ds es).length = min ds.length es.length
  | [], es => by simp [zpD]
  | d :: ds, [] => by simp [zpD]
  | d :: ds, e :: es => by
    simp only [zpD, List.length_cons, zpD_len ds es]; omega
theorem ItOk.zip {K : Fg} {H0 : Hp} {M0 : Mem} {ds es : List D} {a b : Addr} (hs : ∀ H M, Gw H0 M0 H M → ∃ xs, SqL K H a xs ∧ Rs K H M ds xs) (ht : ∀ H M, Gw H0 M0 H M → ∃ ys, SqL K H b ys ∧ Rs K H M es ys) : ItOk K (Itz K a b) H0 M0 none (zpD ds es) := by
  refine ⟨fun i H M g mo hw hi => ?_, fun H M g mo hw => ?_⟩
  · rw [zpD_len] at hi
    have i1 : i < ds.length := by omega
    have i2 : i < es.length := by omega
    obtain ⟨xs, h1, h2⟩ := hs H M g
    obtain ⟨ys, k1, k2⟩ := ht H M g
    obtain ⟨v, e1, e2⟩ := Rs.get h2 (List.getElem?_eq_getElem i1)
    obtain ⟨u, f1, f2⟩ := Rs.get k2 (List.getElem?_eq_getElem i2)
    refine ⟨⟨xs, ys, v, u, h1, k1, e1, f1⟩, fun z H' ⟨T, x, y, eT, hT, eH, hx, hy⟩ => ?_⟩
    subst eT; subst eH
    have e3 := hx xs h1
    rw [e1] at e3; cases e3
    have f3 := hy ys k1
    rw [f1] at f3; cases f3
    exact ⟨.tup [ds[i], es[i]], by rw [zpD_get, List.getElem?_eq_getElem i1, List.getElem?_eq_getElem i2], gw_new hT, mok_new mo hT, new_tup mo hT (Rs.cons e2 (Rs.cons f2 Rs.nil))⟩
  · rw [zpD_len]
    obtain ⟨xs, h1, h2⟩ := hs H M g
    obtain ⟨ys, k1, k2⟩ := ht H M g
    exact ⟨xs, ys, h1, k1, by rw [vlen h2, vlen k2]; omega⟩
theorem ItOk.zipT {K : Fg} {H0 : Hp} {M0 : Mem} {ds es : List D} {a b : Addr} (hs : ∀ H M, Gw H0 M0 H M → ∃ xs, SqT K H a xs ∧ Rs K H M ds xs) (ht : ∀ H M, Gw H0 M0 H M → ∃ ys, SqT K H b ys ∧ Rs K H M es ys) : ItOk K (ItzT K a b) H0 M0 none (zpD ds es) := by
  refine ⟨fun i H M g mo hw hi => ?_, fun H M g mo hw => ?_⟩
  · rw [zpD_len] at hi
    have i1 : i < ds.length := by omega
    have i2 : i < es.length := by omega
    obtain ⟨xs, h1, h2⟩ := hs H M g
    obtain ⟨ys, k1, k2⟩ := ht H M g
    obtain ⟨v, e1, e2⟩ := Rs.get h2 (List.getElem?_eq_getElem i1)
    obtain ⟨u, f1, f2⟩ := Rs.get k2 (List.getElem?_eq_getElem i2)
    refine ⟨⟨xs, ys, v, u, h1, k1, e1, f1⟩, fun z H' ⟨T, x, y, eT, hT, eH, hx, hy⟩ => ?_⟩
    subst eT; subst eH
    have e3 := hx xs h1
    rw [e1] at e3; cases e3
    have f3 := hy ys k1
    rw [f1] at f3; cases f3
    exact ⟨.tup [ds[i], es[i]], by rw [zpD_get, List.getElem?_eq_getElem i1, List.getElem?_eq_getElem i2], gw_new hT, mok_new mo hT, new_tup mo hT (Rs.cons e2 (Rs.cons f2 Rs.nil))⟩
  · rw [zpD_len]
    obtain ⟨xs, h1, h2⟩ := hs H M g
    obtain ⟨ys, k1, k2⟩ := ht H M g
    exact ⟨xs, ys, h1, k1, by rw [vlen h2, vlen k2]; omega⟩
/-- the items of a list that is not changed -/
def lsdO : D → Option (List D)
  | .lst ds => some ds
  | .fzn ds => some ds
  | _ => none
theorem lsdO_use {K : Fg} {H : Hp} {M : Mem} {d : D} {v : V} {ds : List D} (r : Rv K H M d v) (e : lsdO d = some ds) : ∃ p, v = .ref p ∧ ∀ H' M', Gw H M H' M' → ∃ ys, SqL K H' p ys ∧ Rs K H' M' ds ys := by
  cases d with
  | lst es => cases e; obtain ⟨p, xs, h, hp, hm, sp⟩ := r; exact ⟨p, h, fun H' M' g => ⟨xs, SqL.of (g _ _ hp hm).1, Rs.grow g _ xs sp⟩⟩
  | fzn es => cases e; obtain ⟨p, xs, h, hp, sp⟩ := r; exact ⟨p, h, fun H' M' g => ⟨xs, (g.rl hp).sq, Rs.grow g _ xs sp⟩⟩
  | _ => cases e
def zipK (R : List D → Option Addr → Mem → Prop) (d e : D) (M : Mem) : Prop := match d, e with
  | .tup ds, .tup es => R (zpD ds es) none M
  | d, e => ∃ ds es, lsdO d = some ds ∧ lsdO e = some es ∧ R (zpD ds es) none M
def iZipD (te te2 : TED) : TID := fun Xd s M R => dCons te (dCons te2 dNil) Xd s M fun ds M1 => ∃ d e, ds = [d, e] ∧ zipK R d e M1
theorem di_zip {X : Cx} {E : XK} {e e2 : Expr} {te te2 : TED} {p pos tpos : Pos} {elts : List Expr} {kk : Nat} (hg : Gl X "zip") (hm : X.mg "zip" = none) (he : DE X E e te) (he2 : DE X E e2 te2) (hs2 : starEach [e2] X.env = (false, eval e2 X.env) :: starEach [] X.env := by rfl)
    (hs : starEach [e, e2] X.env = (false, eval e X.env) :: starEach [e2] X.env := by rfl) (hpl : (backTo pos (starEach [e2] X.env)).any (·.1) = false := by rfl) : DI X E (.Tuple elts kk tpos) (.Call (.Name "zip" p) [e, e2] [] pos) (iZipD te te2) := by
  refine ⟨_, pi_zipA hg hm (dn_cons he (dn_cons he2 dn_nil hs2) hs).ok hs hpl, fun {σ H s M Xd Qd R} S x t q => ?_⟩
  refine useN S x t fun ds vs M1 H1 hl g1 S1 x1 r1 t1 => ?_
  obtain ⟨d, d2, rfl, t1⟩ := t1
  obtain ⟨v, v2, hv, rd, rd2⟩ := rs2 r1
  unfold zipK at t1
  split at t1
  · rename_i ds es
    obtain ⟨a, xs, rfl, ha, sa⟩ := rd
    obtain ⟨b, ys, rfl, hb, sb⟩ := rd2
    exact ⟨a, b, xs, ys, hv, .inr ⟨ha.sq, hb.sq, q _ _ _ _ _ g1 S1.mem (ItOk.zipT (fun H M g => ⟨xs, (g.rt ha).sq, Rs.grow g _ xs sa⟩) (fun H M g => ⟨ys, (g.rt hb).sq, Rs.grow g _ ys sb⟩)) t1⟩⟩
  · obtain ⟨ds, es, h1, h2, t1⟩ := t1
    obtain ⟨a, rfl, ka⟩ := lsdO_use rd h1
    obtain ⟨b, rfl, kb⟩ := lsdO_use rd2 h2
    obtain ⟨xs, hx, _⟩ := ka H1 M1 Gw.refl
    obtain ⟨ys, hy, _⟩ := kb H1 M1 Gw.refl
    exact ⟨a, b, xs, ys, hv, .inl ⟨hx, hy, q _ _ _ _ _ g1 S1.mem (ItOk.zip ka kb) t1⟩⟩
end DL
set_option maxHeartbeats 1000000
namespace DL
open PySem PySem.Spec PyProof.Rows L2
/-! ### xs.index(i), a list of integers -/
def idxK (o d : D) (Q : QD) : Mem → Prop := fun M => ∃ (ns : List Int) (i : Int) (j : Nat), lsdO o = some (ns.map D.int) ∧ d = .int i ∧ ns.findIdx? (· == i) = some j ∧ Q (.int (j : Nat)) M
def dIdx (to te : TED) : TED := fun Xd s M Q => to Xd s M fun o M1 => (lsdO o).isSome = true ∧ te Xd s M1 fun d M2 => idxK o d Q M2
theorem rs_intsV {K : Fg} {H : Hp} {M : Mem} : ∀ {ns : List Int} {vs : List V}, Rs K H M (ns.map D.int) vs → vs = ns.map V.int
  | [], _, h => h
  | i :: r, _, ⟨v, t, rfl, h, q⟩ => by
    have e : v = .int i := h
    rw [e, rs_intsV q]; rfl
theorem de_idx {X : Cx} {E : XK} {o e : Expr} {to te : TED} {apos pos : Pos} (ho : DE X E o to) (he : DE X E e te) (hbase : attributeBase o "index" X.env (eval o X.env) = eval o X.env := by rfl)
    (hfew : ((backTo pos (starEach (e :: []) X.env)).all (fun x => !x.1) && (backToKw pos (keywordEach [] X.env)).all (fun x => x.1.isSome)
      && decide ((e :: []).length + ([] : List Keyword).length + (if ([] : List Keyword).isEmpty then 0 else 1) < 30)) = true := by rfl)
    (hline : (apos.endLine == pos.line) = true := by rfl) (hs : starEach (e :: []) X.env = (false, eval e X.env) :: starEach [] X.env := by rfl) : DE X E (.Call (.Attribute o "index" apos) [e] [] pos) (dIdx to te) :=
  ⟨PE.imp (pe_bm PySem.F.plainAttrs_list PySem.F.slot_list_index PySem.F.type_list_index mt_index ho.ok (pa_cons he.ok pa_nil hs) hbase hfew hline hs (by rfl)) fun σ H Q ⟨s, M, Qd, Xd, S, x, t, q⟩ => by
    refine useE S x t fun od v M1 H1 g1 S1 x1 r1 t1 => ?_
    obtain ⟨hso, t1⟩ := t1
    obtain ⟨ds, hds⟩ := Option.isSome_iff_exists.mp hso
    obtain ⟨a, rfl, ka⟩ := lsdO_use r1 hds
    obtain ⟨xs0, hx0, _⟩ := ka H1 M1 Gw.refl
    refine ⟨.inl ⟨rfl, xs0, hx0⟩, ?_⟩
    refine useE S1 x1 t1 fun d w M2 H2 g2 S2 x2 r2 t2 => ?_
    obtain ⟨ns, i, j, h1, rfl, hj, z⟩ := t2
    rw [hds] at h1; cases h1
    obtain ⟨ys, hys, rys⟩ := ka H2 M2 g2
    have ey := rs_intsV rys
    subst ey
    have ew : w = .int i := r2
    subst ew
    obtain ⟨hlt, hjt, hno⟩ := List.findIdx?_eq_some_iff_getElem.mp hj
    have en : ns[j] = i := by simpa using hjt
    refine ⟨a, ns.map V.int, .int i, j, .int ns[j], rfl, rfl, hys, rfl, ?_, ?_, ?_, fun m z' hm hz => ?_, q _ _ ⟨.int (j : Nat), M2, g1.trans g2, S2.mem, rfl, z⟩⟩
    · rw [List.all_eq_true]
      intro y hy
      obtain ⟨k, _, rfl⟩ := List.mem_map.mp hy
      rfl
    · rw [List.getElem?_map, List.getElem?_eq_getElem hlt]; rfl
    · show (ns[j] == i) = true
      exact hjt
    · have hml : m < ns.length := Nat.lt_trans hm hlt
      rw [List.getElem?_map, List.getElem?_eq_getElem hml] at hz
      cases hz
      show (ns[m] == i) = false
      simpa using hno m hm⟩
end DL
set_option maxHeartbeats 1000000
namespace PySem
/-- an iterator of a list behind its first item -/
theorem dl_walk1 {prog : Program} {w : World} {A : Around} (hh : A.handled = none) (it l : Addr) (hne : l ≠ it) (items : Array Value) (n : Nat) (hn : n + 1 = items.size) :
    WalksS prog w A it [it, l] [it] (fun a b => b = a) n (fun i v => items[i + 1]? = some v) (fun i s => s.heap.IsListIter it l (i + 1) ∧ s.heap.IsList l items) where
  sub := by simp
  grefl := fun _ => rfl
  gtrans := fun a b c h1 h2 => h2.trans h1
  frame := fun i s h' tk st _ k => ⟨st.1.at fun o e => k it (by simp) o e, st.2.at fun o e => k l (by simp) o e⟩
  item := fun i s Q E hi st hQ => wpAny_pyNext_list_item st.1 st.2 (x := items[i + 1]) (by first | (simp; done) | (simp; omega)) fun h' hit' hs' =>
    hQ _ _ (by first | (simp; done) | (simp; omega)) ⟨hit', st.2.extBut hs'.extBut hne⟩ ⟨fun b o hb e => hs'.extBut b o (by simpa using hb) e, rfl, rfl, rfl, Nat.le_refl _⟩
  done := fun s Q E st hQ => wpAny_pyNext_list_end hh st.1 st.2 (by first | (simp; done) | (simp; omega)) fun h' hx => hQ _ ⟨fun b o hb e => hx b o (by simpa using hb) e, rfl, rfl, rfl, Nat.le_refl _⟩
  self := fun i s Q E st h => wpAny_pyIter_listiter st.1 h
theorem dl_unpack1 {prog : Program} {w : World} {A : Around} {E : Value → Shared → Prop} {s : Shared} {l : Addr} {x : Value} {r : List Value} {Q : List Value → Shared → Prop} (hh : A.handled = none) (hl : s.heap.IsList l (x :: r).toArray) (hz : r.length ≤ sizeLine)
    (hQ : ∀ (h' : Heap) (tk : Nat), (∀ b o, s.heap.get? b = some o → h'.get? b = some o) → Q [x, .ref h'.objs.size] { s with heap := h'.push { cls := .type "list", data := .seq r.toArray }, toks := tk }) :
    wpAny (model prog w) A (unpackItems (.ref l) 2 (some 1)) Q E s := by
  have hne : l ≠ s.heap.objs.size := by obtain ⟨o, ho, _⟩ := hl; exact Nat.ne_of_lt (Heap.lt_size ho)
  unfold unpackItems
  refine wpAny_bind ?_
  unfold notIterableAtAll
  refine wpAny_bind (wpAny_specialOf hl.typeIs slot_list_iter.lookup (wpAny_pure ?_))
  simp only [Bool.false_eq_true, if_false]
  refine wpAny_bind (wpAny_holding (wpAny_pyIter_list hl ?_))
  have hl0 : (s.heap.push { cls := .type "list_iterator", data := .fields #[.ref l, .int 0 0] }).IsList l (x :: r).toArray := by
    obtain ⟨o, ho, q⟩ := hl
    exact ⟨o, Heap.get?_push_of_some _ ho, q⟩
  refine wpAny_bind (wpAny_holding ?_)
  show wpAny _ _ (pyNext (.ref s.heap.objs.size) >>= _) _ _ _
  refine wpAny_bind (wpAny_pyNext_list_item (it := s.heap.objs.size) (l := l) (i := 0) (x := x) ⟨_, Heap.get?_push_size _ rfl, rfl, rfl⟩ hl0 (by simp) fun h1 hit1 hs1 => ?_)
  refine wpAny_bind (wpAny_holding ?_)
  show wpAny _ _ (pure []) _ _ _
  refine wpAny_pure (wpAny_pure ?_)
  rw [if_neg (by simp)]
  have hl1 : h1.IsList l (x :: r).toArray := hl0.extBut hs1.extBut hne
  refine wpAny_bind (wpAny_holding (wpAny_collect_iter (T := "list_iterator") (.inr (.inr (.inl rfl))) (dl_walk1 (A := A.in1) (show A.in1.handled = none from hh) s.heap.objs.size l hne (x :: r).toArray r.length (by simp)) (fun i s st => st.1.typeIs) ⟨hit1, hl1⟩ (fun b hb => ?_) (by simp) (fun s' acc mv io => ?_) hz))
  · rcases (by simpa using hb : b = s.heap.objs.size ∨ b = l) with z | z
    · rw [z]; obtain ⟨_, q, _⟩ := hit1; exact Heap.lt_size q
    · rw [z]; obtain ⟨_, q, _⟩ := hl1; exact Heap.lt_size q
  · have ea : acc.toList = r := by
      apply List.ext_getElem?
      intro j
      by_cases hj : j < acc.size
      · have z := io.2 j acc[j] (by simp [hj])
        rw [show acc.toList[j]? = some acc[j] by simp [hj]]
        simpa using z.symm
      · rw [List.getElem?_eq_none (by simpa using hj), List.getElem?_eq_none (by rw [← io.1]; simpa using hj)]
    rw [ea, if_neg (by simp)]
    have e1 : List.take (r.length - (2 - 1 - 1)) r = r := List.take_of_length_le (by omega)
    have e2 : List.drop (r.length - (2 - 1 - 1)) r = [] := List.drop_of_length_le (by omega)
    rw [e1, e2]
    refine wpAny_bind (wpAny_newList (wpAny_pure ?_) hz)
    obtain ⟨h2, g2, d2, t2, o2⟩ := s'
    have eg : g2 = s.gens := mv.gens
    have ed : d2 = s.drawn := mv.drawn
    have eo : o2 = s.os := mv.os
    subst eg ed eo
    exact hQ _ _ fun b o e => mv.heap b o (by simpa using Nat.ne_of_lt (Heap.lt_size e)) (hs1.extBut b o (Nat.ne_of_lt (Heap.lt_size e)) (Heap.get?_push_of_some _ e))
end PySem

namespace DL
open PySem PySem.Spec PyProof.Rows L2
/-! ### first, *rest = a list -/
def gSt1 (K : Fg) (g : TGs) : TG := fun v σ H Q => ∃ a x xs, v = .ref a ∧ SqL K H a (x :: xs) ∧ ∀ p, H p = none → g [x, .ref p] σ (upd H p (.lst xs)) Q
theorem pgs_star {X : Cx} {e : Expr} {g : TG} {p : Pos} (h : PG X e g) (hs : (assignEach [.Starred e p] X.env).map (·.2) = [assign e X.env] := by rfl) : PGs X [.Starred e p] (gCons g gNil) := by
  refine ⟨fun pins s σ H vs us Q I r ⟨v, t, ev, hv⟩ => ?_⟩
  subst ev
  rw [hs]
  cases r with
  | @cons _ u _ ut rv rt =>
    show wpAny _ _ (holding ut (assign e X.env u) >>= fun _ => assignInOrder [] ut) _ _ _
    refine wpAny_bind (wpAny_holding (wpAny_mono (h.run pins s σ H v u _ I rv hv) (fun _ s' ⟨σ', H', I', et, q⟩ => ?_) fun _ _ z => z))
    subst et
    cases rt
    exact wpAny_pure ⟨σ', H', I', q⟩
theorem pg_st1 {X : Cx} {es : List Expr} {k : Nat} {pos : Pos} {g : TGs} (hc : X.calm = true) (h : PGs X es g) (hn : (assignEach es X.env).length = 2 := by rfl) (hst : (assignEach es X.env).findIdx? (·.1) = some 1 := by rfl) : PG X (.Tuple es k pos) (gSt1 X.K g) := by
  refine ⟨fun pins s σ H v u Q I r hw => ?_⟩
  obtain ⟨a, x, xs, e1, hq, hw⟩ := hw
  subst e1
  cases r
  obtain ⟨its, rv, pl, hz⟩ := I.list hq
  rw [PyProof.Rows.assign_Tuple]
  refine wpAny_bind (wpAny_standAt ?_)
  unfold unpack
  rw [hn, hst]
  cases rv with
  | @cons _ ux _ ur rx rr =>
    have lr : ur.length ≤ sizeLine := by rw [← rr.length]; simp at hz; omega
    refine wpAny_bind (wpAny_holding (dl_unpack1 (I.ok.hd hc) pl.isList lr fun h' tk hk => ?_))
    have I1 : Inv X pins σ H { s with heap := h', toks := tk } := I.kept (t' := tk) hk
    have hf : H h'.objs.size = none := I1.hok.fresh (Nat.le_refl _)
    have I2 : Inv X pins σ (upd H h'.objs.size (.lst xs)) { s with heap := h'.push { cls := .type "list", data := .seq ur.toArray }, toks := tk } :=
      I1.laid (t' := tk) (a := h'.objs.size) (o := .lst xs) (h' := h'.push { cls := .type "list", data := .seq ur.toArray }) (fun b u e => Heap.get?_push_of_some _ e) (Nat.le_refl _) ⟨by simp at hz; omega, ur, 0, rr, Heap.get?_push_size _ rfl⟩
    exact h.run pins _ σ _ [x, .ref h'.objs.size] [ux, .ref h'.objs.size] Q I2 (.cons rx (.cons rfl .nil)) (hw _ hf)
def gStD (t : TGsD) : TGD := fun d Xd s M Q => ∃ x r, lsdO d = some (x :: r) ∧ t [x, .lst r] Xd s M Q
theorem dgs_star {X : Cx} {E : XK} {e : Expr} {t : TGD} {p : Pos} (h : DG X E e t) (hs : (assignEach [.Starred e p] X.env).map (·.2) = [assign e X.env] := by rfl) : DGs X E [.Starred e p] 1 (gCo t gNi) := by
  obtain ⟨g1, p1, q1⟩ := h.ok
  obtain ⟨g2, p2, q2⟩ := (dgs_nil (X := X) (E := E)).ok
  refine ⟨gCons g1 gNil, pgs_star p1 hs, fun {vs ds σ H s M Xd Qd Q} S x r t q => ?_⟩
  cases ds with
  | nil => exact t.elim
  | cons d ds =>
    obtain ⟨v, vr, rfl, rd, rr⟩ := r
    cases ds with
    | nil =>
      have ev : vr = [] := rr
      subst ev
      exact ⟨v, [], rfl, q1 S x rd t fun σ' H' hu => ⟨rfl, q σ' H' hu⟩⟩
    | cons d2 ds2 => exact ⟨v, vr, rfl, q1 S x rd t fun σ' H' ⟨s', M', g, S', z⟩ => z.elim⟩
theorem dg_st1 {X : Cx} {E : XK} {es : List Expr} {k : Nat} {pos : Pos} {t : TGsD} (hc : X.calm = true) (h : DGs X E es 2 t) (hn : (assignEach es X.env).length = 2 := by rfl) (hst : (assignEach es X.env).findIdx? (·.1) = some 1 := by rfl) : DG X E (.Tuple es k pos) (gStD t) := by
  obtain ⟨g1, p1, q1⟩ := h.ok
  refine ⟨gSt1 X.K g1, pg_st1 hc p1 hn hst, fun {v d σ H s M Xd Qd Q} S x r ⟨y, rs, hd, t⟩ q => ?_⟩
  obtain ⟨a, rfl, ka⟩ := lsdO_use r hd
  obtain ⟨xs, hq, rx⟩ := ka H M Gw.refl
  obtain ⟨v0, vr, rfl, ry, rr⟩ := rx
  refine ⟨a, v0, vr, rfl, hq, fun p hp => ?_⟩
  have g := gw_new (o := .lst vr) (M := M) hp
  exact q1 (S.grow g (mok_new S.mem hp)) (x.grow g) (Rs.cons (Rv.grow g _ _ ry) (Rs.cons (new_lst S.mem hp rr) Rs.nil)) t (fwdS g q)
end DL
set_option maxHeartbeats 1000000
namespace DL
open PySem PySem.Spec PyProof.Rows L2

section
variable {X : Cx} {E E0' : XK} {n k : Nat} {x : Str} {p pos p2 pos' apos tpos : Pos} {e a b c tg o i value iter elt : Expr} {es : List Expr} {ts : TAD} {te ta tb td tv to ti : TED}
/-! ### list(x), to be changed -/
def listCO : OC := fun ds M Q => match ds with
  | [d] => match itemsO M d with
    | some es => ∀ p, M p = none → Q (.ref p) (M.put p (.lst es))
    | none => False
  | _ => False
theorem dc_listO : DC X (.type "list") listCO := by
  intro pins s σ H M xs ds us Q Qd I mo r rv t q
  unfold listCO at t
  split at t
  · rename_i d
    obtain ⟨v, rfl, rd⟩ := rs1 r
    split at t
    · rename_i es he
      obtain ⟨a, ys, rfl, ha, sa⟩ := items_of mo rd he
      exact call_list_of pins s σ H _ us Q I rv ⟨a, ys, rfl, ha, fun l hl => q _ _ (up_own_lst mo hl sa (t l (m_none mo hl)))⟩
    · exact t.elim
  · exact t.elim

/-! ### xs.reverse() -/
def dRvs (to : TED) : TED := fun Xd s M Q => to Xd s M fun o M1 => match o with
  | .ref p => match M1 p with
    | some (.lst ds) => Q .non (M1.put p (.lst ds.reverse))
    | _ => False
  | _ => False
theorem de_rvs (ho : DE X E o to) (hbase : attributeBase o "reverse" X.env (eval o X.env) = eval o X.env := by rfl)
    (hline : (apos.endLine == pos.line) = true := by rfl) : DE X E (.Call (.Attribute o "reverse" apos) [] [] pos) (dRvs to) :=
  ⟨PE.imp (pe_bm0 PySem.F.plainAttrs_list PySem.F.slot_list_reverse PySem.F.type_list_reverse mt_reverse ho.ok hbase hline) fun σ H Q ⟨s, M, Qd, Xd, S, x, t, q⟩ => by
    refine useE S x t fun od v M1 H1 g1 S1 x1 r1 t1 => ?_
    split at t1
    · rename_i l
      have ev : v = .ref l := r1
      split at t1
      · rename_i ds hm
        obtain ⟨xs, h1, h2⟩ := S1.mem l _ hm
        subst ev
        refine ⟨.inl ⟨rfl, xs, SqL.of h1⟩, l, xs, rfl, rfl, h1, ?_⟩
        exact q _ _ ⟨.non, M1.put l (.lst ds.reverse), g1.trans (gw_put hm), mok_put S1.mem hm ⟨xs.reverse, upd_same, Rs.grow (gw_put hm) _ _ (Rs.reverse h2)⟩, rfl, t1⟩
      · exact t1.elim
    · exact t1.elim⟩

/-! ### xs[i] += e -/
theorem get_list : PGet X (rIxL X.K) := by
  intro pins s σ H x y v u Q I rx ry h
  obtain ⟨p, xs, i, z, rfl, rfl, hq, he, q⟩ := h
  cases rx
  obtain ⟨t, rfl⟩ := ry
  obtain ⟨its, r, pl, hz⟩ := I.list hq
  obtain ⟨j, h1, h2, h3, h4, h5⟩ := atI_get he
  obtain ⟨w, ew, rw'⟩ := r.get h2
  have hl := r.length
  have hn := line63
  have fin : EP X pins σ Q w s := ⟨z, H, I, rw', q⟩
  by_cases h0 : 0 ≤ i
  · have hj : i.toNat = j := by
      rw [seqIndex_of h0 h5] at h1
      exact Option.some.inj h1
    exact wpAny_getItem_list pl.isList h0 (by omega) (by rw [hj]; simpa using ew) fin
  · have hj : (i + (its.toArray.size : Int)).toNat = j := by
      rw [seqIndex_neg (by omega) h4] at h1
      rw [List.size_toArray, ← hl]
      exact Option.some.inj h1
    exact wpAny_getItem_list_neg pl.isList (by omega) (by rw [List.size_toArray] <;> omega) (by omega) (by rw [hj]; simpa using ew) fin
/-- the list at an owned place -/
def augK (f : Int → Int → Int) (te : TED) (Y : EndsD) (s : SD) (o i : D) : Mem → Prop := fun M => match o, i with
  | .ref p, .int z => match M p with
    | some (.lst ds) => match atI ds z with
      | some (.int u) => te Y.ex s M fun y M1 => match y with
        | .int w => setK (.ref p) (.int z) (.int (f u w)) (fun M2 => Y.nx s M2) M1
        | _ => False
      | _ => False
    | _ => False
  | _, _ => False
def sAugS (f : Int → Int → Int) (to ti te : TED) : TSD := fun Y s M => to Y.ex s M fun o M1 => ti Y.ex s M1 fun i M2 => augK f te Y s o i M2
theorem ds_augS {op : Operator} {f : Int → Int → Int} (hp : PIp X op (ipI f)) (hu : X.A.units + 1 < cLine) (ho : DE X E o to) (hi : DE X E i ti) (he : DE X E e te)
    (ha : ∀ ov iv new, augStore i ov iv new = (do holding [new, ov, iv] (setItem ov iv new); release [new, ov, iv] []; pure .next) := by intros; rfl) : DS X E (.AugAssign (.Subscript o i tpos) op e pos) (sAugS f to ti te) :=
  ⟨PS.imp (ps_augS ho.ok hi.ok get_list he.ok hp (set_any hu) ha) fun Z σ H ⟨s, M, Y, S, x, t, h⟩ => by
    refine useE S x t fun od ov M1 H1 g1 S1 x1 r1 t1 => ?_
    refine useE S1 x1 t1 fun idd iv M2 H2 g2 S2 x2 r2 t2 => ?_
    unfold augK at t2
    split at t2
    · rename_i p z
      have eo : ov = .ref p := r1
      have ei : iv = .int z := r2
      split at t2
      · rename_i ds hm
        obtain ⟨xs, h1, h2⟩ := S2.mem p _ hm
        split at t2
        · rename_i u hu'
          obtain ⟨w, hw, rw'⟩ := atI_rs h2 hu'
          refine ⟨p, xs, z, w, eo, ei, SqL.of h1, hw, ?_⟩
          refine useE S2 x2 t2 fun yd y M3 H3 g3 S3 x3 r3 t3 => ?_
          split at t3
          · rename_i w2
            refine ⟨u, w2, rw', r3, ?_⟩
            refine setK_ok (H0 := H3) (M0 := M3) (do_ := .ref p) (di := .int z) (dv := .int (f u w2)) S3.mem eo ei rfl t3 fun H4 M4 g4 m4 t4 => ?_
            exact h.1 _ _ ⟨s, M4, ((g1.trans g2).trans g3).trans g4, S3.grow g4 m4, t4⟩
          · exact t3.elim
        · exact t2.elim
      · exact t2.elim
    · exact t2.elim⟩
/-! ### x += e of an int -/
def augN (i : Nat) (f : Int → Int → Int) (Y : EndsD) (s : SD) (u : Int) : QD := fun y M => match y with
  | .int w => Y.nx (s.set i (some (.int (f u w)))) M
  | _ => False
def sAug (i : Nat) (f : Int → Int → Int) (te : TED) : TSD := fun Y s M => match s[i]? with
  | some (some (.int u)) => te Y.ex s M (augN i f Y s u)
  | _ => False
theorem ds_aug {i : Nat} {x : Str} {op : Operator} {f : Int → Int → Int} {pos' : Pos} (hp : PIp X op (ipI f)) (hN : X.N.Nodup) (hi : X.N[i]? = some x) (hx : Loc X.env.scope x) (he : DE X E e te) (hf : X.fn x = true ∨ X.env.scope.names.lookup x = some .local := by first | exact .inl rfl | exact .inr rfl | assumption) :
    DS X E (.AugAssign (.Name x pos') op e pos) (sAug i f te) :=
  ⟨PS.imp (ps_aug hN hi hx he.ok hp hf) fun Z σ H ⟨s, M, Y, S, x, t, h⟩ => by
    unfold sAug at t
    split at t
    · rename_i u hu
      obtain ⟨v, e1, e2⟩ := S.sl i _ hu
      refine ⟨v, e1, ?_⟩
      refine useE S x t fun yd y M1 H1 g1 S1 x1 r1 t1 => ?_
      unfold augN at t1
      split at t1
      · rename_i w
        exact ⟨u, w, e2, r1, h.1 _ _ ⟨_, M1, g1, S1.set i (d := .int (f u w)) (v := .int (f u w)) rfl, t1⟩⟩
      · exact t1.elim
    · exact t.elim⟩
end

/-! ### freezing within a tuple -/
theorem rs_setf {K : Fg} {H : Hp} {M : Mem} {a : Addr} {ds : List D} {xs : List V} (h1 : H a = some (.lst xs)) (h2 : Rs K H (M.del a) ds xs) : ∀ {ts : List D} {vs : List V} {i : Nat}, Rs K H (M.del a) ts vs → ts[i]? = some (.ref a) → Rs K H (M.del a) (ts.set i (.lst ds)) vs
  | [], _, _, _, e => by simp at e
  | t :: ts, _, 0, ⟨v, r, rfl, q, w⟩, e => by
    simp at e; subst e
    exact Rs.cons ⟨a, xs, q, h1, Mem.del_same, h2⟩ w
  | t :: ts, _, i + 1, ⟨v, r, rfl, q, w⟩, e => Rs.cons q (rs_setf h1 h2 w (by simpa using e))
theorem lo_frzT {Q : QD} {M : Mem} {a : Addr} {ds ts : List D} (i : Nat) (hi : ts[i]? = some (.ref a)) (e : M a = some (.lst ds)) (h : Lo Q (.tup (ts.set i (.lst ds))) (M.del a)) : Lo Q (.tup ts) M := by
  obtain ⟨d2, M2, l, q⟩ := h
  have hs : ∀ b o, (M.del a) b = some o → M b = some o := fun b o e => by
    by_cases z : b = a
    · subst z; rw [Mem.del_same] at e; cases e
    · rw [Mem.del_ne z] at e; exact e
  have hn : ∀ b, M b = none → (M.del a) b = none := fun b e => by
    by_cases z : b = a
    · subst z; exact Mem.del_same
    · rw [Mem.del_ne z]; exact e
  refine ⟨d2, M2, ⟨fun b o e => hs b o (l.sub b o e), fun b e => l.nn b (hn b e), fun K H v mo r => ?_⟩, q⟩
  obtain ⟨xs, h1, h2⟩ := mo a _ e
  obtain ⟨p, vs, rfl, rt, rs⟩ := r
  have mo2 := mok_less hs hn mo
  refine l.rv K H _ mo2 ⟨p, vs, rfl, (gw_less hn).rt rt, rs_setf h1 (Rs.grow (gw_less hn) ds xs h2) (Rs.grow (gw_less hn) _ _ rs) hi⟩

/-! ### a comprehension whose list will be changed -/
section
variable {X : Cx} {E : XK} {n k : Nat} {x : Str} {p pos p2 pos' apos tpos : Pos} {e a b c tg : Expr} {es : List Expr} {ts : TAD} {te ta tb td tv to : TED}
def endKO (p : Addr) (Q : QD) : Mem → Prop := fun M => match M p with
  | some (.lst acc) => Q (.ref p) M
  | _ => False
def dLcLO (g : TGD) (tt : TTD) (te : TED) (s0 : SD) (W : Mem → Prop) (p : Addr) (Q : QD) : List D → Mem → Prop
  | [], M => W M ∧ endKO p Q M
  | d :: ds, M => W M ∧ g d X0 s0 M fun s' M' => tt X0 s' M' fun b M2 => if b = true then te X0 s' M2 (fun r => accK p r (dLcLO g tt te s0 W p Q ds)) else dLcLO g tt te s0 W p Q ds M2
def dLcO (ti : TID) (g : TGD) (tt : TTD) (te : TED) (vs : List Nat) : TED := fun Xd s M Q => ti Xd s M fun ds ow M1 => ∀ p, M1 p = none → dLcLO g tt te (wipeD s vs) (wat ow M1) p Q ds (M1.put p (.lst []))
theorem lift_lcO {J : It} {ow : Option Addr} {g : TGD} {g1 : TG} {tt : TTD} {Y : Cx} {vs : List Nat} {σ : L2.St} {s : SD} {H0 H1 : Hp} {M0 M1 : Mem} {ds : List D} {Qd : QD} {Q : VK} {p : Addr} (hK : Y.K = X.K)
    (q1 : ∀ {v : V} {d : D} {σ : L2.St} {H : Hp} {s : SD} {M : Mem} {Xd : XD} {Qd : SD → Mem → Prop} {Q : L2.St → Hp → Prop}, StOk X.K σ H s M → XTo X.K H M Xd E0 → Rv X.K H M d v → g d Xd s M Qd →
      (∀ σ' H', upS X.K H M Qd σ' H' → L2.wipe σ' vs = L2.wipe σ vs → Q σ' H') → g1 v σ H Q)
    (S : StOk X.K σ H1 s M1) (io : ItOk X.K J H1 M1 ow ds) (hp : H1 p = none) (td : dLcLO g tt te (wipeD s vs) (wat ow M1) p Qd ds (M1.put p (.lst []))) (g0 : Gw H0 M0 H1 M1) (q : ∀ v H', upE X.K H0 M0 Qd v H' → Q v H') :
    ∃ W : Nat → Nat → Hp → Prop, (∃ m, W 0 m (upd H1 p (.lst []))) ∧ ∀ i m H, W i m H →
      (J.stop i H ∧ Q (.ref p) H) ∨ (J.go i H ∧ ∃ Nx : Hp → Prop, (∀ H', Nx H' → ∃ m', m' < m ∧ W (i + 1) m' H') ∧ ∀ x H', J.yld i H x H' → g1 x (L2.wipe σ vs) H' fun σ2 H2 => L2.wipe σ2 vs = L2.wipe σ vs ∧ liftT X.K E0 tt σ2 H2 fun b H3 =>
        if b = true then liftE X.K E0 te σ2 H3 fun y H4 => ∃ acc, H4 p = some (.lst acc) ∧ acc.length < sizeLine ∧ Nx (upd H4 p (.lst (acc ++ [y]))) else Nx H3) := by
  have ew : ∀ σ2 : L2.St, L2.wipe σ2 vs = L2.wipe (L2.wipe σ vs) vs → L2.wipe σ2 vs = L2.wipe σ vs := fun σ2 e => by rw [e, wipe_wipe]
  have S0 : StOk X.K (L2.wipe σ vs) H1 (wipeD s vs) M1 := S.wipe vs
  have gp : Gw H1 M1 (upd H1 p (.lst [])) (M1.put p (.lst [])) := gw_own hp
  have mp : MOk X.K (upd H1 p (.lst [])) (M1.put p (.lst [])) := mok_own S.mem hp (show MObj X.K (upd H1 p (.lst [])) (M1.put p (.lst [])) p (.lst []) from ⟨[], upd_same, rfl⟩)
  refine ⟨fun i m H => m = ds.length - i ∧ i ≤ ds.length ∧ ∃ M, Gw H1 M1 H M ∧ MOk X.K H M ∧ dLcLO g tt te (wipeD s vs) (wat ow M1) p Qd (ds.drop i) M, ⟨ds.length, rfl, Nat.zero_le _, M1.put p (.lst []), gp, mp, td⟩, fun i m H hW => ?_⟩
  obtain ⟨em, hi', M, gM, mo, td'⟩ := hW
  by_cases hlt : i < ds.length
  · rw [List.drop_eq_getElem_cons hlt] at td'
    obtain ⟨hw, td'⟩ := td'
    obtain ⟨hgo, hy⟩ := io.go i H M gM mo (wat_of hw) hlt
    have back : ∀ H2 M2, Gw H1 M1 H2 M2 → MOk X.K H2 M2 → dLcLO g tt te (wipeD s vs) (wat ow M1) p Qd (ds.drop (i + 1)) M2 → ∃ m', m' < m ∧ (m' = ds.length - (i + 1) ∧ i + 1 ≤ ds.length ∧ ∃ M, Gw H1 M1 H2 M ∧ MOk X.K H2 M ∧ dLcLO g tt te (wipeD s vs) (wat ow M1) p Qd (ds.drop (i + 1)) M) :=
      fun H2 M2 a1 a2 a3 => ⟨ds.length - (i + 1), by omega, rfl, by omega, M2, a1, a2, a3⟩
    refine .inr ⟨hgo, fun H2 => ∃ M2, Gw H1 M1 H2 M2 ∧ MOk X.K H2 M2 ∧ dLcLO g tt te (wipeD s vs) (wat ow M1) p Qd (ds.drop (i + 1)) M2, fun H2 ⟨M2, a1, a2, a3⟩ => back H2 M2 a1 a2 a3, fun v H2 hyl => ?_⟩
    obtain ⟨d, hd, g2, m2, r2⟩ := hy v H2 hyl
    have ed : d = ds[i] := by rw [List.getElem?_eq_getElem hlt] at hd; exact (Option.some.inj hd).symm
    subst ed
    have S2 : StOk X.K (L2.wipe σ vs) H2 (wipeD s vs) M := S0.grow (gM.trans g2) m2
    refine q1 S2 x0_to r2 td' fun σ3 H3 ⟨s3, M3, g3, S3, z3⟩ e3 => ⟨ew σ3 e3, ?_⟩
    refine useT S3 x0_to z3 fun bb M4 H4 g4 S4 x4 z4 => ?_
    have gg : Gw H1 M1 H4 M4 := ((gM.trans g2).trans g3).trans g4
    cases bb with
    | false =>
      rw [if_neg Bool.false_ne_true] at z4 ⊢
      exact ⟨M4, gg, S4.mem, z4⟩
    | true =>
      rw [if_pos rfl] at z4 ⊢
      refine useE S4 x4 z4 fun r y M5 H5 g5 S5 x5 r5 z5 => ?_
      unfold accK at z5
      split at z5
      · rename_i acc hacc
        obtain ⟨xs, h1, h2⟩ := S5.mem p _ hacc
        refine ⟨xs, h1, by rw [vlen h2]; exact z5.1, M5.put p (.lst (acc ++ [r])), (gg.trans g5).trans (gw_put hacc), mok_put S5.mem hacc ?_, z5.2⟩
        exact ⟨xs ++ [y], upd_same, Rs.grow (gw_put hacc) _ _ (Rs.append h2 (Rs.cons r5 Rs.nil))⟩
      · exact z5.elim
  · have e : i = ds.length := by omega
    subst e
    rw [List.drop_length] at td'
    obtain ⟨hw, td'⟩ := td'
    refine .inl ⟨io.stop H M gM mo (wat_of hw), ?_⟩
    unfold endKO at td'
    split at td'
    · rename_i acc hacc
      obtain ⟨xs, h1, h2⟩ := mo p _ hacc
      exact q _ _ ⟨.ref p, M, g0.trans gM, mo, rfl, td'⟩
    · exact td'.elim
theorem de_lcO {elt iter : Expr} {ifs : List Expr} {scope : Scope} {own : List (Str × Nat)} {ti : TID} {g : TGD} {tt : TTD} (hc : X.calm = true) (hN : X.N.Nodup) (hi : DI X E tg iter ti) (ok : BlkOk X.N X.env.scope scope own) (g1 : TG)
    (hg : ∀ (s : Shared) (H : Hp) (C : Addr) (cl : List (Str × Addr)) (fp : List Addr), PG (X.blk s H scope (compEnvC scope cl C X.env) fp) tg g1)
    (hq : ∀ {v : V} {d : D} {σ : L2.St} {H : Hp} {s : SD} {M : Mem} {Xd : XD} {Qd : SD → Mem → Prop} {Q : L2.St → Hp → Prop}, StOk X.K σ H s M → XTo X.K H M Xd E0 → Rv X.K H M d v → g d Xd s M Qd →
      (∀ σ' H', upS X.K H M Qd σ' H' → L2.wipe σ' (own.map (·.2)) = L2.wipe σ (own.map (·.2)) → Q σ' H') → g1 v σ H Q)
    (ht : ∀ (s : Shared) (H : Hp) (C : Addr) (cl : List (Str × Addr)) (fp : List Addr), DTs (X.blk s H scope (compEnvC scope cl C X.env) fp) E0 ifs tt)
    (he : ∀ (s : Shared) (H : Hp) (C : Addr) (cl : List (Str × Addr)) (fp : List Addr), DE (X.blk s H scope (compEnvC scope cl C X.env) fp) E0 elt te) (hs : ∀ x, foldedSetIterable iter X.env x = pure x := by intro _; rfl) :
    DE X E (.ListComp elt [⟨tg, iter, ifs, 0⟩] scope pos) (dLcO ti g tt te (own.map (·.2))) := by
  obtain ⟨wi, pi, qi⟩ := hi.ok
  refine ⟨PE.imp (pe_lc (tt := liftT X.K E0 tt) (te := liftE X.K E0 te) hc hN pi ok hg (fun s H C cl fp => (ht s H C cl fp).ok) (fun s H C cl fp => (he s H C cl fp).ok) hs) fun σ H Q ⟨s, M, Qd, Xd, S, x, t, q⟩ => ?_⟩
  refine qi S x t fun J H1 M1 ow ds gr mo io td p hp => ?_
  exact lift_lcO (Y := X) rfl hq (S.grow gr mo) io hp (td p (m_none mo hp)) gr q
theorem ds_setLcO {i : Nat} {y : Str} {py spos : Pos} {elt iter : Expr} {ifs : List Expr} {scope : Scope} {own : List (Str × Nat)} {ti : TID} {g : TGD} {tt : TTD} (hc : X.calm = true) (hN : X.N.Nodup) (hy : X.N[i]? = some y) (hyl : X.env.scope.names.lookup y = some .local)
    (hsw : swapsWith (.ListComp elt [⟨tg, iter, ifs, 0⟩] scope pos) (some (.Name y py)) spos.line X.env = pure true) (hi : DI X E tg iter ti) (ok : BlkOk X.N X.env.scope scope own) (g1 : TG)
    (hg : ∀ (s : Shared) (H : Hp) (C : Addr) (cl : List (Str × Addr)) (fp : List Addr), PG (X.blk s H scope (compEnvC scope cl C X.env) fp) tg g1)
    (hq : ∀ {v : V} {d : D} {σ : L2.St} {H : Hp} {s : SD} {M : Mem} {Xd : XD} {Qd : SD → Mem → Prop} {Q : L2.St → Hp → Prop}, StOk X.K σ H s M → XTo X.K H M Xd E0 → Rv X.K H M d v → g d Xd s M Qd →
      (∀ σ' H', upS X.K H M Qd σ' H' → L2.wipe σ' (own.map (·.2)) = L2.wipe σ (own.map (·.2)) → Q σ' H') → g1 v σ H Q)
    (ht : ∀ (s : Shared) (H : Hp) (C : Addr) (cl : List (Str × Addr)) (fp : List Addr), DTs (X.blk s H scope (compEnvC scope cl C X.env) fp) E0 ifs tt)
    (he : ∀ (s : Shared) (H : Hp) (C : Addr) (cl : List (Str × Addr)) (fp : List Addr), DE (X.blk s H scope (compEnvC scope cl C X.env) fp) E0 elt te) (hs : ∀ x, foldedSetIterable iter X.env x = pure x := by intro _; rfl) :
    DS X E (.Assign [.Name y py] (.ListComp elt [⟨tg, iter, ifs, 0⟩] scope pos) spos) (sSet i (dLcO ti g tt te (own.map (·.2)))) := by
  obtain ⟨wi, pi, qi⟩ := hi.ok
  refine ⟨PS.imp (ps_setLc (tt := liftT X.K E0 tt) (te := liftE X.K E0 te) hc hN hy hyl hsw pi ok hg (fun s H C cl fp => (ht s H C cl fp).ok) (fun s H C cl fp => (he s H C cl fp).ok) hs) fun Z σ H ⟨s, M, Y, S, x, t, h⟩ => ?_⟩
  refine qi S x t fun J H1 M1 ow ds gr mo io td p hp => ?_
  refine lift_lcO (Y := X) (Q := fun v H' => Z.nx (σ.set i (some v)) H') rfl hq (S.grow gr mo) io hp (td p (m_none mo hp)) gr fun v H' ⟨d, M', g, m, r, z⟩ => ?_
  exact h.1 _ _ ⟨s.set i (some d), M', g, (S.grow g m).set i r, z⟩
theorem de_compO {elt iter : Expr} {ifs : List Expr} {scope : Scope} (own : List (Str × Nat)) {ti : TID} {g : TGD} {tt : TTD} (g1 : TG) (hc : X.calm = true) (hN : X.N.Nodup) (hi : DI X E tg iter ti) (ok : BlkOk X.N X.env.scope scope own)
    (hg : ∀ (s : Shared) (H : Hp) (C : Addr) (cl : List (Str × Addr)) (fp : List Addr), PG (X.blk s H scope (compEnvC scope cl C X.env) fp) tg g1) (hq : GV X.K (own.map (·.2)) g g1)
    (ht : ∀ (s : Shared) (H : Hp) (C : Addr) (cl : List (Str × Addr)) (fp : List Addr), DTs (X.blk s H scope (compEnvC scope cl C X.env) fp) E0 ifs tt)
    (he : ∀ (s : Shared) (H : Hp) (C : Addr) (cl : List (Str × Addr)) (fp : List Addr), DE (X.blk s H scope (compEnvC scope cl C X.env) fp) E0 elt te) (hs : ∀ x, foldedSetIterable iter X.env x = pure x := by intro _; rfl) :
    DE X E (.ListComp elt [⟨tg, iter, ifs, 0⟩] scope pos) (dLcO ti g tt te (own.map (·.2))) := de_lcO hc hN hi ok g1 hg hq ht he hs
theorem ds_setCompO {i : Nat} {y : Str} {py spos : Pos} {elt iter : Expr} {ifs : List Expr} {scope : Scope} (own : List (Str × Nat)) {ti : TID} {g : TGD} {tt : TTD} (g1 : TG) (hc : X.calm = true) (hN : X.N.Nodup) (hy : X.N[i]? = some y) (hyl : X.env.scope.names.lookup y = some .local)
    (hsw : swapsWith (.ListComp elt [⟨tg, iter, ifs, 0⟩] scope pos) (some (.Name y py)) spos.line X.env = pure true) (hi : DI X E tg iter ti) (ok : BlkOk X.N X.env.scope scope own)
    (hg : ∀ (s : Shared) (H : Hp) (C : Addr) (cl : List (Str × Addr)) (fp : List Addr), PG (X.blk s H scope (compEnvC scope cl C X.env) fp) tg g1) (hq : GV X.K (own.map (·.2)) g g1)
    (ht : ∀ (s : Shared) (H : Hp) (C : Addr) (cl : List (Str × Addr)) (fp : List Addr), DTs (X.blk s H scope (compEnvC scope cl C X.env) fp) E0 ifs tt)
    (he : ∀ (s : Shared) (H : Hp) (C : Addr) (cl : List (Str × Addr)) (fp : List Addr), DE (X.blk s H scope (compEnvC scope cl C X.env) fp) E0 elt te) (hs : ∀ x, foldedSetIterable iter X.env x = pure x := by intro _; rfl) :
    DS X E (.Assign [.Name y py] (.ListComp elt [⟨tg, iter, ifs, 0⟩] scope pos) spos) (sSet i (dLcO ti g tt te (own.map (·.2)))) := ds_setLcO hc hN hy hyl hsw hi ok g1 hg hq ht he hs
end
end DL
set_option maxHeartbeats 1000000
namespace DL
open PySem PySem.Spec PyProof.Rows L2
section
variable {Xd : XD} {s : SD} {M : Mem} {Q : QD} {te ta tb tc to ti t1 : TED} {A : TAD} {t u : TSD} {c d1 : TTD} {d e x y : D} {nx bk ct : SD → Mem → Prop} {rt : QD} {ex : XD} {ds es : List D} {a p : Addr} {R : Bool → Mem → Prop} {L : List D → Mem → Prop}
/-! ### statements -/
theorem w_seq (h : t ⟨u ⟨nx, rt, bk, ct, ex⟩, rt, bk, ct, ex⟩ s M) : sSeq t u ⟨nx, rt, bk, ct, ex⟩ s M := h
theorem w_nx (h : nx s M) : sNx ⟨nx, rt, bk, ct, ex⟩ s M := h
theorem w_bk (h : bk s M) : sBk ⟨nx, rt, bk, ct, ex⟩ s M := h
theorem w_ct (h : ct s M) : sCt ⟨nx, rt, bk, ct, ex⟩ s M := h
theorem w_ret (h : te ex s M rt) : sRet te ⟨nx, rt, bk, ct, ex⟩ s M := h
theorem w_retN (h : rt .non M) : sRetN ⟨nx, rt, bk, ct, ex⟩ s M := h
theorem w_expr (h : te ex s M fun _ M1 => nx s M1) : sExpr te ⟨nx, rt, bk, ct, ex⟩ s M := h
theorem w_ifS (h : c ex s M fun b M1 => if b = true then t ⟨nx, rt, bk, ct, ex⟩ s M1 else u ⟨nx, rt, bk, ct, ex⟩ s M1) : sIf c t u ⟨nx, rt, bk, ct, ex⟩ s M := h
theorem w_asg {g : TGD} (h : te ex s M fun d M1 => g d ex s M1 nx) : sAsg te g ⟨nx, rt, bk, ct, ex⟩ s M := h
theorem w_augS {f} (h : to ex s M fun o M1 => ti ex s M1 fun i M2 => augK f te ⟨nx, rt, bk, ct, ex⟩ s o i M2) : sAugS f to ti te ⟨nx, rt, bk, ct, ex⟩ s M := h
theorem w_for {ti : TID} {g : TGD} (h : ti ex s M fun ds ow M1 => sForL g t ⟨nx, rt, bk, ct, ex⟩ (wat ow M1) ds s M1) : sFor ti g t ⟨nx, rt, bk, ct, ex⟩ s M := h
theorem w_forNil {g : TGD} {W : Mem → Prop} (hW : W M) (h : nx s M) : sForL g t ⟨nx, rt, bk, ct, ex⟩ W [] s M := ⟨hW, h⟩
theorem w_forCons {g : TGD} {W : Mem → Prop} (hW : W M) (h : g d ex s M fun s' M' => t ⟨sForL g t ⟨nx, rt, bk, ct, ex⟩ W ds, rt, nx, sForL g t ⟨nx, rt, bk, ct, ex⟩ W ds, ex⟩ s' M') : sForL g t ⟨nx, rt, bk, ct, ex⟩ W (d :: ds) s M := ⟨hW, h⟩
/-- what comes behind a statement, once for all its ways -/
theorem w_join {P : Mem → Prop} (hu : ∀ M1, P M1 → u ⟨nx, rt, bk, ct, ex⟩ s M1) (h : (∀ M1, P M1 → u ⟨nx, rt, bk, ct, ex⟩ s M1) → sSeq t u ⟨nx, rt, bk, ct, ex⟩ s M) : sSeq t u ⟨nx, rt, bk, ct, ex⟩ s M := h hu
theorem w_sl {l h : TOD} (H : te Xd s M fun d M1 => l Xd s M1 fun x M2 => h Xd s M2 fun y M3 => slK x y d Q M3) : dSl te l h Xd s M Q := H
theorem w_oNo {F : Option Int → Mem → Prop} (h : F none M) : oNo Xd s M F := h
theorem w_oSo {F : Option Int → Mem → Prop} (h : te Xd s M (oSoK F)) : oSo te Xd s M F := h
theorem w_oSoK {F : Option Int → Mem → Prop} {i : Int} (h : F (some i) M) : oSoK F (.int i) M := h
theorem w_slT {l h : Option Int} (H : Q (.tup (cutD ds l h)) M) : slK l h (.tup ds) Q M := H
theorem w_slL {l h : Option Int} (H : Q (.lst (cutD ds l h)) M) : slK l h (.lst ds) Q M := H
theorem w_dct {trs : List (Key × TED)} (h : ∀ p, M p = none → dPairs trs Xd s (M.put p (.dct [] [])) fun ds M1 => M1 p = some (.dct [] []) ∧ Q (.ref p) (M1.put p (.dct (trs.map (·.1)) ds))) : dDct trs Xd s M Q := h
theorem w_prN (h : L [] M) : dPairs [] Xd s M L := h
theorem w_prC {k : Key} {r : List (Key × TED)} (h : te Xd s M fun d M1 => dPairs r Xd s M1 fun ds M2 => L (d :: ds) M2) : dPairs ((k, te) :: r) Xd s M L := h
theorem w_lc {ti : TID} {g : TGD} {tt : TTD} {vs : List Nat} (h : ti Xd s M fun ds ow M1 => ∀ p, M1 p = none → dLcL g tt te (wipeD s vs) (wat ow M1) p Q ds (M1.put p (.lst []))) : dLc ti g tt te vs Xd s M Q := h
theorem w_lcO {ti : TID} {g : TGD} {tt : TTD} {vs : List Nat} (h : ti Xd s M fun ds ow M1 => ∀ p, M1 p = none → dLcLO g tt te (wipeD s vs) (wat ow M1) p Q ds (M1.put p (.lst []))) : dLcO ti g tt te vs Xd s M Q := h
theorem wat_none {M0 : Mem} : wat none M0 M := True.intro
theorem wat_some {M0 : Mem} (h : M a = M0 a) : wat (some a) M0 M := h

theorem w_set0 {x0 : Option D} (h : te ex (x0 :: s) M fun d M1 => nx (some d :: s) M1) : sSet 0 te ⟨nx, rt, bk, ct, ex⟩ (x0 :: s) M := h
theorem w_gnm0 {x0 : Option D} {K : SD → Mem → Prop} (h : K (some d :: s) M) : gNm 0 d Xd (x0 :: s) M K := h
theorem w_var0 (h : Q d M) : dVar 0 Xd (some d :: s) M Q := h
theorem w_set1 {x0 x1 : Option D} (h : te ex (x0 :: x1 :: s) M fun d M1 => nx (x0 :: some d :: s) M1) : sSet 1 te ⟨nx, rt, bk, ct, ex⟩ (x0 :: x1 :: s) M := h
theorem w_gnm1 {x0 x1 : Option D} {K : SD → Mem → Prop} (h : K (x0 :: some d :: s) M) : gNm 1 d Xd (x0 :: x1 :: s) M K := h
theorem w_var1 {x0 : Option D} (h : Q d M) : dVar 1 Xd (x0 :: some d :: s) M Q := h
theorem w_set2 {x0 x1 x2 : Option D} (h : te ex (x0 :: x1 :: x2 :: s) M fun d M1 => nx (x0 :: x1 :: some d :: s) M1) : sSet 2 te ⟨nx, rt, bk, ct, ex⟩ (x0 :: x1 :: x2 :: s) M := h
theorem w_gnm2 {x0 x1 x2 : Option D} {K : SD → Mem → Prop} (h : K (x0 :: x1 :: some d :: s) M) : gNm 2 d Xd (x0 :: x1 :: x2 :: s) M K := h
theorem w_var2 {x0 x1 : Option D} (h : Q d M) : dVar 2 Xd (x0 :: x1 :: some d :: s) M Q := h
theorem w_set3 {x0 x1 x2 x3 : Option D} (h : te ex (x0 :: x1 :: x2 :: x3 :: s) M fun d M1 => nx (x0 :: x1 :: x2 :: some d :: s) M1) : sSet 3 te ⟨nx, rt, bk, ct, ex⟩ (x0 :: x1 :: x2 :: x3 :: s) M := h
theorem w_gnm3 {x0 x1 x2 x3 : Option D} {K : SD → Mem → Prop} (h : K (x0 :: x1 :: x2 :: some d :: s) M) : gNm 3 d Xd (x0 :: x1 :: x2 :: x3 :: s) M K := h
theorem w_var3 {x0 x1 x2 : Option D} (h : Q d M) : dVar 3 Xd (x0 :: x1 :: x2 :: some d :: s) M Q := h
theorem w_set4 {x0 x1 x2 x3 x4 : Option D} (h : te ex (x0 :: x1 :: x2 :: x3 :: x4 :: s) M fun d M1 => nx (x0 :: x1 :: x2 :: x3 :: some d :: s) M1) : sSet 4 te ⟨nx, rt, bk, ct, ex⟩ (x0 :: x1 :: x2 :: x3 :: x4 :: s) M := h
theorem w_gnm4 {x0 x1 x2 x3 x4 : Option D} {K : SD → Mem → Prop} (h : K (x0 :: x1 :: x2 :: x3 :: some d :: s) M) : gNm 4 d Xd (x0 :: x1 :: x2 :: x3 :: x4 :: s) M K := h
theorem w_var4 {x0 x1 x2 x3 : Option D} (h : Q d M) : dVar 4 Xd (x0 :: x1 :: x2 :: x3 :: some d :: s) M Q := h
theorem w_set5 {x0 x1 x2 x3 x4 x5 : Option D} (h : te ex (x0 :: x1 :: x2 :: x3 :: x4 :: x5 :: s) M fun d M1 => nx (x0 :: x1 :: x2 :: x3 :: x4 :: some d :: s) M1) : sSet 5 te ⟨nx, rt, bk, ct, ex⟩ (x0 :: x1 :: x2 :: x3 :: x4 :: x5 :: s) M := h
theorem w_gnm5 {x0 x1 x2 x3 x4 x5 : Option D} {K : SD → Mem → Prop} (h : K (x0 :: x1 :: x2 :: x3 :: x4 :: some d :: s) M) : gNm 5 d Xd (x0 :: x1 :: x2 :: x3 :: x4 :: x5 :: s) M K := h
theorem w_var5 {x0 x1 x2 x3 x4 : Option D} (h : Q d M) : dVar 5 Xd (x0 :: x1 :: x2 :: x3 :: x4 :: some d :: s) M Q := h
theorem w_set6 {x0 x1 x2 x3 x4 x5 x6 : Option D} (h : te ex (x0 :: x1 :: x2 :: x3 :: x4 :: x5 :: x6 :: s) M fun d M1 => nx (x0 :: x1 :: x2 :: x3 :: x4 :: x5 :: some d :: s) M1) : sSet 6 te ⟨nx, rt, bk, ct, ex⟩ (x0 :: x1 :: x2 :: x3 :: x4 :: x5 :: x6 :: s) M := h
theorem w_gnm6 {x0 x1 x2 x3 x4 x5 x6 : Option D} {K : SD → Mem → Prop} (h : K (x0 :: x1 :: x2 :: x3 :: x4 :: x5 :: some d :: s) M) : gNm 6 d Xd (x0 :: x1 :: x2 :: x3 :: x4 :: x5 :: x6 :: s) M K := h
theorem w_var6 {x0 x1 x2 x3 x4 x5 : Option D} (h : Q d M) : dVar 6 Xd (x0 :: x1 :: x2 :: x3 :: x4 :: x5 :: some d :: s) M Q := h
theorem w_set7 {x0 x1 x2 x3 x4 x5 x6 x7 : Option D} (h : te ex (x0 :: x1 :: x2 :: x3 :: x4 :: x5 :: x6 :: x7 :: s) M fun d M1 => nx (x0 :: x1 :: x2 :: x3 :: x4 :: x5 :: x6 :: some d :: s) M1) : sSet 7 te ⟨nx, rt, bk, ct, ex⟩ (x0 :: x1 :: x2 :: x3 :: x4 :: x5 :: x6 :: x7 :: s) M := h
theorem w_gnm7 {x0 x1 x2 x3 x4 x5 x6 x7 : Option D} {K : SD → Mem → Prop} (h : K (x0 :: x1 :: x2 :: x3 :: x4 :: x5 :: x6 :: some d :: s) M) : gNm 7 d Xd (x0 :: x1 :: x2 :: x3 :: x4 :: x5 :: x6 :: x7 :: s) M K := h
theorem w_var7 {x0 x1 x2 x3 x4 x5 x6 : Option D} (h : Q d M) : dVar 7 Xd (x0 :: x1 :: x2 :: x3 :: x4 :: x5 :: x6 :: some d :: s) M Q := h
theorem w_set8 {x0 x1 x2 x3 x4 x5 x6 x7 x8 : Option D} (h : te ex (x0 :: x1 :: x2 :: x3 :: x4 :: x5 :: x6 :: x7 :: x8 :: s) M fun d M1 => nx (x0 :: x1 :: x2 :: x3 :: x4 :: x5 :: x6 :: x7 :: some d :: s) M1) : sSet 8 te ⟨nx, rt, bk, ct, ex⟩ (x0 :: x1 :: x2 :: x3 :: x4 :: x5 :: x6 :: x7 :: x8 :: s) M := h
theorem w_gnm8 {x0 x1 x2 x3 x4 x5 x6 x7 x8 : Option D} {K : SD → Mem → Prop} (h : K (x0 :: x1 :: x2 :: x3 :: x4 :: x5 :: x6 :: x7 :: some d :: s) M) : gNm 8 d Xd (x0 :: x1 :: x2 :: x3 :: x4 :: x5 :: x6 :: x7 :: x8 :: s) M K := h
theorem w_var8 {x0 x1 x2 x3 x4 x5 x6 x7 : Option D} (h : Q d M) : dVar 8 Xd (x0 :: x1 :: x2 :: x3 :: x4 :: x5 :: x6 :: x7 :: some d :: s) M Q := h
theorem w_set9 {x0 x1 x2 x3 x4 x5 x6 x7 x8 x9 : Option D} (h : te ex (x0 :: x1 :: x2 :: x3 :: x4 :: x5 :: x6 :: x7 :: x8 :: x9 :: s) M fun d M1 => nx (x0 :: x1 :: x2 :: x3 :: x4 :: x5 :: x6 :: x7 :: x8 :: some d :: s) M1) : sSet 9 te ⟨nx, rt, bk, ct, ex⟩ (x0 :: x1 :: x2 :: x3 :: x4 :: x5 :: x6 :: x7 :: x8 :: x9 :: s) M := h
theorem w_gnm9 {x0 x1 x2 x3 x4 x5 x6 x7 x8 x9 : Option D} {K : SD → Mem → Prop} (h : K (x0 :: x1 :: x2 :: x3 :: x4 :: x5 :: x6 :: x7 :: x8 :: some d :: s) M) : gNm 9 d Xd (x0 :: x1 :: x2 :: x3 :: x4 :: x5 :: x6 :: x7 :: x8 :: x9 :: s) M K := h
theorem w_var9 {x0 x1 x2 x3 x4 x5 x6 x7 x8 : Option D} (h : Q d M) : dVar 9 Xd (x0 :: x1 :: x2 :: x3 :: x4 :: x5 :: x6 :: x7 :: x8 :: some d :: s) M Q := h
theorem w_set10 {x0 x1 x2 x3 x4 x5 x6 x7 x8 x9 x10 : Option D} (h : te ex (x0 :: x1 :: x2 :: x3 :: x4 :: x5 :: x6 :: x7 :: x8 :: x9 :: x10 :: s) M fun d M1 => nx (x0 :: x1 :: x2 :: x3 :: x4 :: x5 :: x6 :: x7 :: x8 :: x9 :: some d :: s) M1) : sSet 10 te ⟨nx, rt, bk, ct, ex⟩ (x0 :: x1 :: x2 :: x3 :: x4 :: x5 :: x6 :: x7 :: x8 :: x9 :: x10 :: s) M := h
theorem w_gnm10 {x0 x1 x2 x3 x4 x5 x6 x7 x8 x9 x10 : Option D} {K : SD → Mem → Prop} (h : K (x0 :: x1 :: x2 :: x3 :: x4 :: x5 :: x6 :: x7 :: x8 :: x9 :: some d :: s) M) : gNm 10 d Xd (x0 :: x1 :: x2 :: x3 :: x4 :: x5 :: x6 :: x7 :: x8 :: x9 :: x10 :: s) M K := h
theorem w_var10 {x0 x1 x2 x3 x4 x5 x6 x7 x8 x9 : Option D} (h : Q d M) : dVar 10 Xd (x0 :: x1 :: x2 :: x3 :: x4 :: x5 :: x6 :: x7 :: x8 :: x9 :: some d :: s) M Q := h
theorem w_set11 {x0 x1 x2 x3 x4 x5 x6 x7 x8 x9 x10 x11 : Option D} (h : te ex (x0 :: x1 :: x2 :: x3 :: x4 :: x5 :: x6 :: x7 :: x8 :: x9 :: x10 :: x11 :: s) M fun d M1 => nx (x0 :: x1 :: x2 :: x3 :: x4 :: x5 :: x6 :: x7 :: x8 :: x9 :: x10 :: some d :: s) M1) : sSet 11 te ⟨nx, rt, bk, ct, ex⟩ (x0 :: x1 :: x2 :: x3 :: x4 :: x5 :: x6 :: x7 :: x8 :: x9 :: x10 :: x11 :: s) M := h
theorem w_gnm11 {x0 x1 x2 x3 x4 x5 x6 x7 x8 x9 x10 x11 : Option D} {K : SD → Mem → Prop} (h : K (x0 :: x1 :: x2 :: x3 :: x4 :: x5 :: x6 :: x7 :: x8 :: x9 :: x10 :: some d :: s) M) : gNm 11 d Xd (x0 :: x1 :: x2 :: x3 :: x4 :: x5 :: x6 :: x7 :: x8 :: x9 :: x10 :: x11 :: s) M K := h
theorem w_var11 {x0 x1 x2 x3 x4 x5 x6 x7 x8 x9 x10 : Option D} (h : Q d M) : dVar 11 Xd (x0 :: x1 :: x2 :: x3 :: x4 :: x5 :: x6 :: x7 :: x8 :: x9 :: x10 :: some d :: s) M Q := h
theorem w_set12 {x0 x1 x2 x3 x4 x5 x6 x7 x8 x9 x10 x11 x12 : Option D} (h : te ex (x0 :: x1 :: x2 :: x3 :: x4 :: x5 :: x6 :: x7 :: x8 :: x9 :: x10 :: x11 :: x12 :: s) M fun d M1 => nx (x0 :: x1 :: x2 :: x3 :: x4 :: x5 :: x6 :: x7 :: x8 :: x9 :: x10 :: x11 :: some d :: s) M1) : sSet 12 te ⟨nx, rt, bk, ct, ex⟩ (x0 :: x1 :: x2 :: x3 :: x4 :: x5 :: x6 :: x7 :: x8 :: x9 :: x10 :: x11 :: x12 :: s) M := h
theorem w_gnm12 {x0 x1 x2 x3 x4 x5 x6 x7 x8 x9 x10 x11 x12 : Option D} {K : SD → Mem → Prop} (h : K (x0 :: x1 :: x2 :: x3 :: x4 :: x5 :: x6 :: x7 :: x8 :: x9 :: x10 :: x11 :: some d :: s) M) : gNm 12 d Xd (x0 :: x1 :: x2 :: x3 :: x4 :: x5 :: x6 :: x7 :: x8 :: x9 :: x10 :: x11 :: x12 :: s) M K := h
theorem w_var12 {x0 x1 x2 x3 x4 x5 x6 x7 x8 x9 x10 x11 : Option D} (h : Q d M) : dVar 12 Xd (x0 :: x1 :: x2 :: x3 :: x4 :: x5 :: x6 :: x7 :: x8 :: x9 :: x10 :: x11 :: some d :: s) M Q := h
theorem w_set13 {x0 x1 x2 x3 x4 x5 x6 x7 x8 x9 x10 x11 x12 x13 : Option D} (h : te ex (x0 :: x1 :: x2 :: x3 :: x4 :: x5 :: x6 :: x7 :: x8 :: x9 :: x10 :: x11 :: x12 :: x13 :: s) M fun d M1 => nx (x0 :: x1 :: x2 :: x3 :: x4 :: x5 :: x6 :: x7 :: x8 :: x9 :: x10 :: x11 :: x12 :: some d :: s) M1) : sSet 13 te ⟨nx, rt, bk, ct, ex⟩ (x0 :: x1 :: x2 :: x3 :: x4 :: x5 :: x6 :: x7 :: x8 :: x9 :: x10 :: x11 :: x12 :: x13 :: s) M := h
theorem w_gnm13 {x0 x1 x2 x3 x4 x5 x6 x7 x8 x9 x10 x11 x12 x13 : Option D} {K : SD → Mem → Prop} (h : K (x0 :: x1 :: x2 :: x3 :: x4 :: x5 :: x6 :: x7 :: x8 :: x9 :: x10 :: x11 :: x12 :: some d :: s) M) : gNm 13 d Xd (x0 :: x1 :: x2 :: x3 :: x4 :: x5 :: x6 :: x7 :: x8 :: x9 :: x10 :: x11 :: x12 :: x13 :: s) M K := h
theorem w_var13 {x0 x1 x2 x3 x4 x5 x6 x7 x8 x9 x10 x11 x12 : Option D} (h : Q d M) : dVar 13 Xd (x0 :: x1 :: x2 :: x3 :: x4 :: x5 :: x6 :: x7 :: x8 :: x9 :: x10 :: x11 :: x12 :: some d :: s) M Q := h
theorem w_set14 {x0 x1 x2 x3 x4 x5 x6 x7 x8 x9 x10 x11 x12 x13 x14 : Option D} (h : te ex (x0 :: x1 :: x2 :: x3 :: x4 :: x5 :: x6 :: x7 :: x8 :: x9 :: x10 :: x11 :: x12 :: x13 :: x14 :: s) M fun d M1 => nx (x0 :: x1 :: x2 :: x3 :: x4 :: x5 :: x6 :: x7 :: x8 :: x9 :: x10 :: x11 :: x12 :: x13 :: some d :: s) M1) : sSet 14 te ⟨nx, rt, bk, ct, ex⟩ (x0 :: x1 :: x2 :: x3 :: x4 :: x5 :: x6 :: x7 :: x8 :: x9 :: x10 :: x11 :: x12 :: x13 :: x14 :: s) M := h
theorem w_gnm14 {x0 x1 x2 x3 x4 x5 x6 x7 x8 x9 x10 x11 x12 x13 x14 : Option D} {K : SD → Mem → Prop} (h : K (x0 :: x1 :: x2 :: x3 :: x4 :: x5 :: x6 :: x7 :: x8 :: x9 :: x10 :: x11 :: x12 :: x13 :: some d :: s) M) : gNm 14 d Xd (x0 :: x1 :: x2 :: x3 :: x4 :: x5 :: x6 :: x7 :: x8 :: x9 :: x10 :: x11 :: x12 :: x13 :: x14 :: s) M K := h
theorem w_var14 {x0 x1 x2 x3 x4 x5 x6 x7 x8 x9 x10 x11 x12 x13 : Option D} (h : Q d M) : dVar 14 Xd (x0 :: x1 :: x2 :: x3 :: x4 :: x5 :: x6 :: x7 :: x8 :: x9 :: x10 :: x11 :: x12 :: x13 :: some d :: s) M Q := h
theorem w_set15 {x0 x1 x2 x3 x4 x5 x6 x7 x8 x9 x10 x11 x12 x13 x14 x15 : Option D} (h : te ex (x0 :: x1 :: x2 :: x3 :: x4 :: x5 :: x6 :: x7 :: x8 :: x9 :: x10 :: x11 :: x12 :: x13 :: x14 :: x15 :: s) M fun d M1 => nx (x0 :: x1 :: x2 :: x3 :: x4 :: x5 :: x6 :: x7 :: x8 :: x9 :: x10 :: x11 :: x12 :: x13 :: x14 :: some d :: s) M1) : sSet 15 te ⟨nx, rt, bk, ct, ex⟩ (x0 :: x1 :: x2 :: x3 :: x4 :: x5 :: x6 :: x7 :: x8 :: x9 :: x10 :: x11 :: x12 :: x13 :: x14 :: x15 :: s) M := h
theorem w_gnm15 {x0 x1 x2 x3 x4 x5 x6 x7 x8 x9 x10 x11 x12 x13 x14 x15 : Option D} {K : SD → Mem → Prop} (h : K (x0 :: x1 :: x2 :: x3 :: x4 :: x5 :: x6 :: x7 :: x8 :: x9 :: x10 :: x11 :: x12 :: x13 :: x14 :: some d :: s) M) : gNm 15 d Xd (x0 :: x1 :: x2 :: x3 :: x4 :: x5 :: x6 :: x7 :: x8 :: x9 :: x10 :: x11 :: x12 :: x13 :: x14 :: x15 :: s) M K := h
theorem w_var15 {x0 x1 x2 x3 x4 x5 x6 x7 x8 x9 x10 x11 x12 x13 x14 : Option D} (h : Q d M) : dVar 15 Xd (x0 :: x1 :: x2 :: x3 :: x4 :: x5 :: x6 :: x7 :: x8 :: x9 :: x10 :: x11 :: x12 :: x13 :: x14 :: some d :: s) M Q := h
theorem w_set16 {x0 x1 x2 x3 x4 x5 x6 x7 x8 x9 x10 x11 x12 x13 x14 x15 x16 : Option D} (h : te ex (x0 :: x1 :: x2 :: x3 :: x4 :: x5 :: x6 :: x7 :: x8 :: x9 :: x10 :: x11 :: x12 :: x13 :: x14 :: x15 :: x16 :: s) M fun d M1 => nx (x0 :: x1 :: x2 :: x3 :: x4 :: x5 :: x6 :: x7 :: x8 :: x9 :: x10 :: x11 :: x12 :: x13 :: x14 :: x15 :: some d :: s) M1) : sSet 16 te ⟨nx, rt, bk, ct, ex⟩ (x0 :: x1 :: x2 :: x3 :: x4 :: x5 :: x6 :: x7 :: x8 :: x9 :: x10 :: x11 :: x12 :: x13 :: x14 :: x15 :: x16 :: s) M := h
theorem w_gnm16 {x0 x1 x2 x3 x4 x5 x6 x7 x8 x9 x10 x11 x12 x13 x14 x15 x16 : Option D} {K : SD → Mem → Prop} (h : K (x0 :: x1 :: x2 :: x3 :: x4 :: x5 :: x6 :: x7 :: x8 :: x9 :: x10 :: x11 :: x12 :: x13 :: x14 :: x15 :: some d :: s) M) : gNm 16 d Xd (x0 :: x1 :: x2 :: x3 :: x4 :: x5 :: x6 :: x7 :: x8 :: x9 :: x10 :: x11 :: x12 :: x13 :: x14 :: x15 :: x16 :: s) M K := h
theorem w_var16 {x0 x1 x2 x3 x4 x5 x6 x7 x8 x9 x10 x11 x12 x13 x14 x15 : Option D} (h : Q d M) : dVar 16 Xd (x0 :: x1 :: x2 :: x3 :: x4 :: x5 :: x6 :: x7 :: x8 :: x9 :: x10 :: x11 :: x12 :: x13 :: x14 :: x15 :: some d :: s) M Q := h
theorem w_set17 {x0 x1 x2 x3 x4 x5 x6 x7 x8 x9 x10 x11 x12 x13 x14 x15 x16 x17 : Option D} (h : te ex (x0 :: x1 :: x2 :: x3 :: x4 :: x5 :: x6 :: x7 :: x8 :: x9 :: x10 :: x11 :: x12 :: x13 :: x14 :: x15 :: x16 :: x17 :: s) M fun d M1 => nx (x0 :: x1 :: x2 :: x3 :: x4 :: x5 :: x6 :: x7 :: x8 :: x9 :: x10 :: x11 :: x12 :: x13 :: x14 :: x15 :: x16 :: some d :: s) M1) : sSet 17 te ⟨nx, rt, bk, ct, ex⟩ (x0 :: x1 :: x2 :: x3 :: x4 :: x5 :: x6 :: x7 :: x8 :: x9 :: x10 :: x11 :: x12 :: x13 :: x14 :: x15 :: x16 :: x17 :: s) M := h
theorem w_gnm17 {x0 x1 x2 x3 x4 x5 x6 x7 x8 x9 x10 x11 x12 x13 x14 x15 x16 x17 : Option D} {K : SD → Mem → Prop} (h : K (x0 :: x1 :: x2 :: x3 :: x4 :: x5 :: x6 :: x7 :: x8 :: x9 :: x10 :: x11 :: x12 :: x13 :: x14 :: x15 :: x16 :: some d :: s) M) : gNm 17 d Xd (x0 :: x1 :: x2 :: x3 :: x4 :: x5 :: x6 :: x7 :: x8 :: x9 :: x10 :: x11 :: x12 :: x13 :: x14 :: x15 :: x16 :: x17 :: s) M K := h
theorem w_var17 {x0 x1 x2 x3 x4 x5 x6 x7 x8 x9 x10 x11 x12 x13 x14 x15 x16 : Option D} (h : Q d M) : dVar 17 Xd (x0 :: x1 :: x2 :: x3 :: x4 :: x5 :: x6 :: x7 :: x8 :: x9 :: x10 :: x11 :: x12 :: x13 :: x14 :: x15 :: x16 :: some d :: s) M Q := h
theorem w_set18 {x0 x1 x2 x3 x4 x5 x6 x7 x8 x9 x10 x11 x12 x13 x14 x15 x16 x17 x18 : Option D} (h : te ex (x0 :: x1 :: x2 :: x3 :: x4 :: x5 :: x6 :: x7 :: x8 :: x9 :: x10 :: x11 :: x12 :: x13 :: x14 :: x15 :: x16 :: x17 :: x18 :: s) M fun d M1 => nx (x0 :: x1 :: x2 :: x3 :: x4 :: x5 :: x6 :: x7 :: x8 :: x9 :: x10 :: x11 :: x12 :: x13 :: x14 :: x15 :: x16 :: x17 :: some d :: s) M1) : sSet 18 te ⟨nx, rt, bk, ct, ex⟩ (x0 :: x1 :: x2 :: x3 :: x4 :: x5 :: x6 :: x7 :: x8 :: x9 :: x10 :: x11 :: x12 :: x13 :: x14 :: x15 :: x16 :: x17 :: x18 :: s) M := h
theorem w_gnm18 {x0 x1 x2 x3 x4 x5 x6 x7 x8 x9 x10 x11 x12 x13 x14 x15 x16 x17 x18 : Option D} {K : SD → Mem → Prop} (h : K (x0 :: x1 :: x2 :: x3 :: x4 :: x5 :: x6 :: x7 :: x8 :: x9 :: x10 :: x11 :: x12 :: x13 :: x14 :: x15 :: x16 :: x17 :: some d :: s) M) : gNm 18 d Xd (x0 :: x1 :: x2 :: x3 :: x4 :: x5 :: x6 :: x7 :: x8 :: x9 :: x10 :: x11 :: x12 :: x13 :: x14 :: x15 :: x16 :: x17 :: x18 :: s) M K := h
theorem w_var18 {x0 x1 x2 x3 x4 x5 x6 x7 x8 x9 x10 x11 x12 x13 x14 x15 x16 x17 : Option D} (h : Q d M) : dVar 18 Xd (x0 :: x1 :: x2 :: x3 :: x4 :: x5 :: x6 :: x7 :: x8 :: x9 :: x10 :: x11 :: x12 :: x13 :: x14 :: x15 :: x16 :: x17 :: some d :: s) M Q := h
theorem w_set19 {x0 x1 x2 x3 x4 x5 x6 x7 x8 x9 x10 x11 x12 x13 x14 x15 x16 x17 x18 x19 : Option D} (h : te ex (x0 :: x1 :: x2 :: x3 :: x4 :: x5 :: x6 :: x7 :: x8 :: x9 :: x10 :: x11 :: x12 :: x13 :: x14 :: x15 :: x16 :: x17 :: x18 :: x19 :: s) M fun d M1 => nx (x0 :: x1 :: x2 :: x3 :: x4 :: x5 :: x6 :: x7 :: x8 :: x9 :: x10 :: x11 :: x12 :: x13 :: x14 :: x15 :: x16 :: x17 :: x18 :: some d :: s) M1) : sSet 19 te ⟨nx, rt, bk, ct, ex⟩ (x0 :: x1 :: x2 :: x3 :: x4 :: x5 :: x6 :: x7 :: x8 :: x9 :: x10 :: x11 :: x12 :: x13 :: x14 :: x15 :: x16 :: x17 :: x18 :: x19 :: s) M := h
theorem w_gnm19 {x0 x1 x2 x3 x4 x5 x6 x7 x8 x9 x10 x11 x12 x13 x14 x15 x16 x17 x18 x19 : Option D} {K : SD → Mem → Prop} (h : K (x0 :: x1 :: x2 :: x3 :: x4 :: x5 :: x6 :: x7 :: x8 :: x9 :: x10 :: x11 :: x12 :: x13 :: x14 :: x15 :: x16 :: x17 :: x18 :: some d :: s) M) : gNm 19 d Xd (x0 :: x1 :: x2 :: x3 :: x4 :: x5 :: x6 :: x7 :: x8 :: x9 :: x10 :: x11 :: x12 :: x13 :: x14 :: x15 :: x16 :: x17 :: x18 :: x19 :: s) M K := h
theorem w_var19 {x0 x1 x2 x3 x4 x5 x6 x7 x8 x9 x10 x11 x12 x13 x14 x15 x16 x17 x18 : Option D} (h : Q d M) : dVar 19 Xd (x0 :: x1 :: x2 :: x3 :: x4 :: x5 :: x6 :: x7 :: x8 :: x9 :: x10 :: x11 :: x12 :: x13 :: x14 :: x15 :: x16 :: x17 :: x18 :: some d :: s) M Q := h
theorem w_set20 {x0 x1 x2 x3 x4 x5 x6 x7 x8 x9 x10 x11 x12 x13 x14 x15 x16 x17 x18 x19 x20 : Option D} (h : te ex (x0 :: x1 :: x2 :: x3 :: x4 :: x5 :: x6 :: x7 :: x8 :: x9 :: x10 :: x11 :: x12 :: x13 :: x14 :: x15 :: x16 :: x17 :: x18 :: x19 :: x20 :: s) M fun d M1 => nx (x0 :: x1 :: x2 :: x3 :: x4 :: x5 :: x6 :: x7 :: x8 :: x9 :: x10 :: x11 :: x12 :: x13 :: x14 :: x15 :: x16 :: x17 :: x18 :: x19 :: some d :: s) M1) : sSet 20 te ⟨nx, rt, bk, ct, ex⟩ (x0 :: x1 :: x2 :: x3 :: x4 :: x5 :: x6 :: x7 :: x8 :: x9 :: x10 :: x11 :: x12 :: x13 :: x14 :: x15 :: x16 :: x17 :: x18 :: x19 :: x20 :: s) M := h
theorem w_gnm20 {x0 x1 x2 x3 x4 x5 x6 x7 x8 x9 x10 x11 x12 x13 x14 x15 x16 x17 x18 x19 x20 : Option D} {K : SD → Mem → Prop} (h : K (x0 :: x1 :: x2 :: x3 :: x4 :: x5 :: x6 :: x7 :: x8 :: x9 :: x10 :: x11 :: x12 :: x13 :: x14 :: x15 :: x16 :: x17 :: x18 :: x19 :: some d :: s) M) : gNm 20 d Xd (x0 :: x1 :: x2 :: x3 :: x4 :: x5 :: x6 :: x7 :: x8 :: x9 :: x10 :: x11 :: x12 :: x13 :: x14 :: x15 :: x16 :: x17 :: x18 :: x19 :: x20 :: s) M K := h
theorem w_var20 {x0 x1 x2 x3 x4 x5 x6 x7 x8 x9 x10 x11 x12 x13 x14 x15 x16 x17 x18 x19 : Option D} (h : Q d M) : dVar 20 Xd (x0 :: x1 :: x2 :: x3 :: x4 :: x5 :: x6 :: x7 :: x8 :: x9 :: x10 :: x11 :: x12 :: x13 :: x14 :: x15 :: x16 :: x17 :: x18 :: x19 :: some d :: s) M Q := h
theorem w_set21 {x0 x1 x2 x3 x4 x5 x6 x7 x8 x9 x10 x11 x12 x13 x14 x15 x16 x17 x18 x19 x20 x21 : Option D} (h : te ex (x0 :: x1 :: x2 :: x3 :: x4 :: x5 :: x6 :: x7 :: x8 :: x9 :: x10 :: x11 :: x12 :: x13 :: x14 :: x15 :: x16 :: x17 :: x18 :: x19 :: x20 :: x21 :: s) M fun d M1 => nx (x0 :: x1 :: x2 :: x3 :: x4 :: x5 :: x6 :: x7 :: x8 :: x9 :: x10 :: x11 :: x12 :: x13 :: x14 :: x15 :: x16 :: x17 :: x18 :: x19 :: x20 :: some d :: s) M1) : sSet 21 te ⟨nx, rt, bk, ct, ex⟩ (x0 :: x1 :: x2 :: x3 :: x4 :: x5 :: x6 :: x7 :: x8 :: x9 :: x10 :: x11 :: x12 :: x13 :: x14 :: x15 :: x16 :: x17 :: x18 :: x19 :: x20 :: x21 :: s) M := h
theorem w_gnm21 {x0 x1 x2 x3 x4 x5 x6 x7 x8 x9 x10 x11 x12 x13 x14 x15 x16 x17 x18 x19 x20 x21 : Option D} {K : SD → Mem → Prop} (h : K (x0 :: x1 :: x2 :: x3 :: x4 :: x5 :: x6 :: x7 :: x8 :: x9 :: x10 :: x11 :: x12 :: x13 :: x14 :: x15 :: x16 :: x17 :: x18 :: x19 :: x20 :: some d :: s) M) : gNm 21 d Xd (x0 :: x1 :: x2 :: x3 :: x4 :: x5 :: x6 :: x7 :: x8 :: x9 :: x10 :: x11 :: x12 :: x13 :: x14 :: x15 :: x16 :: x17 :: x18 :: x19 :: x20 :: x21 :: s) M K := h
theorem w_var21 {x0 x1 x2 x3 x4 x5 x6 x7 x8 x9 x10 x11 x12 x13 x14 x15 x16 x17 x18 x19 x20 : Option D} (h : Q d M) : dVar 21 Xd (x0 :: x1 :: x2 :: x3 :: x4 :: x5 :: x6 :: x7 :: x8 :: x9 :: x10 :: x11 :: x12 :: x13 :: x14 :: x15 :: x16 :: x17 :: x18 :: x19 :: x20 :: some d :: s) M Q := h
theorem w_set22 {x0 x1 x2 x3 x4 x5 x6 x7 x8 x9 x10 x11 x12 x13 x14 x15 x16 x17 x18 x19 x20 x21 x22 : Option D} (h : te ex (x0 :: x1 :: x2 :: x3 :: x4 :: x5 :: x6 :: x7 :: x8 :: x9 :: x10 :: x11 :: x12 :: x13 :: x14 :: x15 :: x16 :: x17 :: x18 :: x19 :: x20 :: x21 :: x22 :: s) M fun d M1 => nx (x0 :: x1 :: x2 :: x3 :: x4 :: x5 :: x6 :: x7 :: x8 :: x9 :: x10 :: x11 :: x12 :: x13 :: x14 :: x15 :: x16 :: x17 :: x18 :: x19 :: x20 :: x21 :: some d :: s) M1) : sSet 22 te ⟨nx, rt, bk, ct, ex⟩ (x0 :: x1 :: x2 :: x3 :: x4 :: x5 :: x6 :: x7 :: x8 :: x9 :: x10 :: x11 :: x12 :: x13 :: x14 :: x15 :: x16 :: x17 :: x18 :: x19 :: x20 :: x21 :: x22 :: s) M := h
theorem w_gnm22 {x0 x1 x2 x3 x4 x5 x6 x7 x8 x9 x10 x11 x12 x13 x14 x15 x16 x17 x18 x19 x20 x21 x22 : Option D} {K : SD → Mem → Prop} (h : K (x0 :: x1 :: x2 :: x3 :: x4 :: x5 :: x6 :: x7 :: x8 :: x9 :: x10 :: x11 :: x12 :: x13 :: x14 :: x15 :: x16 :: x17 :: x18 :: x19 :: x20 :: x21 :: some d :: s) M) : gNm 22 d Xd (x0 :: x1 :: x2 :: x3 :: x4 :: x5 :: x6 :: x7 :: x8 :: x9 :: x10 :: x11 :: x12 :: x13 :: x14 :: x15 :: x16 :: x17 :: x18 :: x19 :: x20 :: x21 :: x22 :: s) M K := h
theorem w_var22 {x0 x1 x2 x3 x4 x5 x6 x7 x8 x9 x10 x11 x12 x13 x14 x15 x16 x17 x18 x19 x20 x21 : Option D} (h : Q d M) : dVar 22 Xd (x0 :: x1 :: x2 :: x3 :: x4 :: x5 :: x6 :: x7 :: x8 :: x9 :: x10 :: x11 :: x12 :: x13 :: x14 :: x15 :: x16 :: x17 :: x18 :: x19 :: x20 :: x21 :: some d :: s) M Q := h
theorem w_set23 {x0 x1 x2 x3 x4 x5 x6 x7 x8 x9 x10 x11 x12 x13 x14 x15 x16 x17 x18 x19 x20 x21 x22 x23 : Option D} (h : te ex (x0 :: x1 :: x2 :: x3 :: x4 :: x5 :: x6 :: x7 :: x8 :: x9 :: x10 :: x11 :: x12 :: x13 :: x14 :: x15 :: x16 :: x17 :: x18 :: x19 :: x20 :: x21 :: x22 :: x23 :: s) M fun d M1 => nx (x0 :: x1 :: x2 :: x3 :: x4 :: x5 :: x6 :: x7 :: x8 :: x9 :: x10 :: x11 :: x12 :: x13 :: x14 :: x15 :: x16 :: x17 :: x18 :: x19 :: x20 :: x21 :: x22 :: some d :: s) M1) : sSet 23 te ⟨nx, rt, bk, ct, ex⟩ (x0 :: x1 :: x2 :: x3 :: x4 :: x5 :: x6 :: x7 :: x8 :: x9 :: x10 :: x11 :: x12 :: x13 :: x14 :: x15 :: x16 :: x17 :: x18 :: x19 :: x20 :: x21 :: x22 :: x23 :: s) M := h
theorem w_gnm23 {x0 x1 x2 x3 x4 x5 x6 x7 x8 x9 x10 x11 x12 x13 x14 x15 x16 x17 x18 x19 x20 x21 x22 x23 : Option D} {K : SD → Mem → Prop} (h : K (x0 :: x1 :: x2 :: x3 :: x4 :: x5 :: x6 :: x7 :: x8 :: x9 :: x10 :: x11 :: x12 :: x13 :: x14 :: x15 :: x16 :: x17 :: x18 :: x19 :: x20 :: x21 :: x22 :: some d :: s) M) : gNm 23 d Xd (x0 :: x1 :: x2 :: x3 :: x4 :: x5 :: x6 :: x7 :: x8 :: x9 :: x10 :: x11 :: x12 :: x13 :: x14 :: x15 :: x16 :: x17 :: x18 :: x19 :: x20 :: x21 :: x22 :: x23 :: s) M K := h
theorem w_var23 {x0 x1 x2 x3 x4 x5 x6 x7 x8 x9 x10 x11 x12 x13 x14 x15 x16 x17 x18 x19 x20 x21 x22 : Option D} (h : Q d M) : dVar 23 Xd (x0 :: x1 :: x2 :: x3 :: x4 :: x5 :: x6 :: x7 :: x8 :: x9 :: x10 :: x11 :: x12 :: x13 :: x14 :: x15 :: x16 :: x17 :: x18 :: x19 :: x20 :: x21 :: x22 :: some d :: s) M Q := h
theorem w_set24 {x0 x1 x2 x3 x4 x5 x6 x7 x8 x9 x10 x11 x12 x13 x14 x15 x16 x17 x18 x19 x20 x21 x22 x23 x24 : Option D} (h : te ex (x0 :: x1 :: x2 :: x3 :: x4 :: x5 :: x6 :: x7 :: x8 :: x9 :: x10 :: x11 :: x12 :: x13 :: x14 :: x15 :: x16 :: x17 :: x18 :: x19 :: x20 :: x21 :: x22 :: x23 :: x24 :: s) M fun d M1 => nx (x0 :: x1 :: x2 :: x3 :: x4 :: x5 :: x6 :: x7 :: x8 :: x9 :: x10 :: x11 :: x12 :: x13 :: x14 :: x15 :: x16 :: x17 :: x18 :: x19 :: x20 :: x21 :: x22 :: x23 :: some d :: s) M1) : sSet 24 te ⟨nx, rt, bk, ct, ex⟩ (x0 :: x1 :: x2 :: x3 :: x4 :: x5 :: x6 :: x7 :: x8 :: x9 :: x10 :: x11 :: x12 :: x13 :: x14 :: x15 :: x16 :: x17 :: x18 :: x19 :: x20 :: x21 :: x22 :: x23 :: x24 :: s) M := h
theorem w_gnm24 {x0 x1 x2 x3 x4 x5 x6 x7 x8 x9 x10 x11 x12 x13 x14 x15 x16 x17 x18 x19 x20 x21 x22 x23 x24 : Option D} {K : SD → Mem → Prop} (h : K (x0 :: x1 :: x2 :: x3 :: x4 :: x5 :: x6 :: x7 :: x8 :: x9 :: x10 :: x11 :: x12 :: x13 :: x14 :: x15 :: x16 :: x17 :: x18 :: x19 :: x20 :: x21 :: x22 :: x23 :: some d :: s) M) : gNm 24 d Xd (x0 :: x1 :: x2 :: x3 :: x4 :: x5 :: x6 :: x7 :: x8 :: x9 :: x10 :: x11 :: x12 :: x13 :: x14 :: x15 :: x16 :: x17 :: x18 :: x19 :: x20 :: x21 :: x22 :: x23 :: x24 :: s) M K := h
theorem w_var24 {x0 x1 x2 x3 x4 x5 x6 x7 x8 x9 x10 x11 x12 x13 x14 x15 x16 x17 x18 x19 x20 x21 x22 x23 : Option D} (h : Q d M) : dVar 24 Xd (x0 :: x1 :: x2 :: x3 :: x4 :: x5 :: x6 :: x7 :: x8 :: x9 :: x10 :: x11 :: x12 :: x13 :: x14 :: x15 :: x16 :: x17 :: x18 :: x19 :: x20 :: x21 :: x22 :: x23 :: some d :: s) M Q := h
theorem w_set25 {x0 x1 x2 x3 x4 x5 x6 x7 x8 x9 x10 x11 x12 x13 x14 x15 x16 x17 x18 x19 x20 x21 x22 x23 x24 x25 : Option D} (h : te ex (x0 :: x1 :: x2 :: x3 :: x4 :: x5 :: x6 :: x7 :: x8 :: x9 :: x10 :: x11 :: x12 :: x13 :: x14 :: x15 :: x16 :: x17 :: x18 :: x19 :: x20 :: x21 :: x22 :: x23 :: x24 :: x25 :: s) M fun d M1 => nx (x0 :: x1 :: x2 :: x3 :: x4 :: x5 :: x6 :: x7 :: x8 :: x9 :: x10 :: x11 :: x12 :: x13 :: x14 :: x15 :: x16 :: x17 :: x18 :: x19 :: x20 :: x21 :: x22 :: x23 :: x24 :: some d :: s) M1) : sSet 25 te ⟨nx, rt, bk, ct, ex⟩ (x0 :: x1 :: x2 :: x3 :: x4 :: x5 :: x6 :: x7 :: x8 :: x9 :: x10 :: x11 :: x12 :: x13 :: x14 :: x15 :: x16 :: x17 :: x18 :: x19 :: x20 :: x21 :: x22 :: x23 :: x24 :: x25 :: s) M := h
theorem w_gnm25 {x0 x1 x2 x3 x4 x5 x6 x7 x8 x9 x10 x11 x12 x13 x14 x15 x16 x17 x18 x19 x20 x21 x22 x23 x24 x25 : Option D} {K : SD → Mem → Prop} (h : K (x0 :: x1 :: x2 :: x3 :: x4 :: x5 :: x6 :: x7 :: x8 :: x9 :: x10 :: x11 :: x12 :: x13 :: x14 :: x15 :: x16 :: x17 :: x18 :: x19 :: x20 :: x21 :: x22 :: x23 :: x24 :: some d :: s) M) : gNm 25 d Xd (x0 :: x1 :: x2 :: x3 :: x4 :: x5 :: x6 :: x7 :: x8 :: x9 :: x10 :: x11 :: x12 :: x13 :: x14 :: x15 :: x16 :: x17 :: x18 :: x19 :: x20 :: x21 :: x22 :: x23 :: x24 :: x25 :: s) M K := h
theorem w_var25 {x0 x1 x2 x3 x4 x5 x6 x7 x8 x9 x10 x11 x12 x13 x14 x15 x16 x17 x18 x19 x20 x21 x22 x23 x24 : Option D} (h : Q d M) : dVar 25 Xd (x0 :: x1 :: x2 :: x3 :: x4 :: x5 :: x6 :: x7 :: x8 :: x9 :: x10 :: x11 :: x12 :: x13 :: x14 :: x15 :: x16 :: x17 :: x18 :: x19 :: x20 :: x21 :: x22 :: x23 :: x24 :: some d :: s) M Q := h

/-! ### targets -/
variable {K : SD → Mem → Prop} {g : TGD} {G : TGsD}
theorem w_gTp {n} (hl : ds.length = n) (h : G ds Xd s M K) : gTp n G (.tup ds) Xd s M K := ⟨hl, h⟩
theorem w_gCo (h : g d Xd s M fun s' M' => G ds Xd s' M' K) : gCo g G (d :: ds) Xd s M K := h
theorem w_gNi (h : K s M) : gNi [] Xd s M K := h
theorem w_gSb (h : to Xd s M fun o M1 => ti Xd s M1 fun i M2 => setK o i d (fun M3 => K s M3) M2) : gSb to ti d Xd s M K := h
theorem w_setL {j : Nat} {z : Int} {k : Mem → Prop} (hM : M a = some (.lst ds)) (hj : ixN ds.length z = some j) (h : k (M.put a (.lst (ds.set j d)))) : setK (.ref a) (.int z) d k M := by
  unfold setK; simp only [hM, hj]; exact h
theorem w_setD {ks : List Key} {kk : Str} {k : Mem → Prop} (hM : M a = some (.dct ks ds)) (hn : ks.Nodup ∧ ks.length < 1000) (h : k (M.put a (.dct (putD ks ds (.inr kk) d).1 (putD ks ds (.inr kk) d).2))) : setK (.ref a) (.str kk) d k M := by
  unfold setK; simp only [hM, keyD]; exact ⟨hn, h⟩

/-! ### expressions -/
theorem w_c (h : Q d M) : dC d Xd s M Q := h
theorem w_op {o : O2} (h : ta Xd s M fun x M1 => tb Xd s M1 fun y M2 => o x y M2 Q) : dOp o ta tb Xd s M Q := h
theorem w_nil (h : L [] M) : dNil Xd s M L := h
theorem w_cons (h : te Xd s M fun d M1 => A Xd s M1 fun ds M2 => L (d :: ds) M2) : dCons te A Xd s M L := h
theorem w_tup (h : A Xd s M fun ds M1 => Q (.tup ds) M1) : dTup A Xd s M Q := h
theorem w_lst (h : A Xd s M fun ds M1 => Q (.lst ds) M1) : dLst A Xd s M Q := h
theorem w_lstO (h : A Xd s M fun ds M1 => ∀ p, M1 p = none → Q (.ref p) (M1.put p (.lst ds))) : dLstO A Xd s M Q := h
theorem w_cb {o : OC} (h : A Xd s M fun ds M1 => o ds M1 Q) : dCB o A Xd s M Q := h
theorem w_call {sp : SpD} (h : A Xd s M fun ds M1 => sp ds M1 Q Xd) : dCall sp [] A Xd s M Q := by
  unfold dCall
  have e : (fun ds M1 => sp (ds ++ []) M1 Q Xd) = fun ds M1 => sp ds M1 Q Xd := by funext ds M1; rw [List.append_nil]
  rw [e]; exact h
theorem w_ite (h : c Xd s M fun b M1 => if b = true then ta Xd s M1 Q else tb Xd s M1 Q) : dIte c ta tb Xd s M Q := h
theorem w_and (h : ta Xd s M (andK tb Xd s Q)) : dAnd ta tb Xd s M Q := h
theorem w_or (h : ta Xd s M (orK tb Xd s Q)) : dOr ta tb Xd s M Q := h
theorem w_not (h : ta Xd s M (notK Q)) : dNot ta Xd s M Q := h
theorem w_andT (h : tb Xd s M Q) : andK tb Xd s Q (.bl true) M := h
theorem w_andF (h : Q (.bl false) M) : andK tb Xd s Q (.bl false) M := h
theorem w_orT (h : Q (.bl true) M) : orK tb Xd s Q (.bl true) M := h
theorem w_orF (h : tb Xd s M Q) : orK tb Xd s Q (.bl false) M := h
theorem w_andB {b : Bool} (h : if b = true then tb Xd s M Q else Q (.bl false) M) : andK tb Xd s Q (.bl b) M := h
theorem w_orB {b : Bool} (h : if b = true then Q (.bl true) M else tb Xd s M Q) : orK tb Xd s Q (.bl b) M := h
theorem w_notB {b : Bool} (h : Q (.bl (!b)) M) : notK Q (.bl b) M := h
theorem w_neg (h : te Xd s M (unK (fun i => -i) Q)) : dNeg te Xd s M Q := h
theorem w_un {f : Int → Int} {i : Int} (h : Q (.int (f i)) M) : unK f Q (.int i) M := h
theorem w_tst (h : te Xd s M (tstB R)) : dTst te Xd s M R := h
theorem w_tstB {b : Bool} (h : R b M) : tstB R (.bl b) M := h
theorem w_tru (h : te Xd s M (truK R)) : dTru te Xd s M R := h
theorem w_truB {b : Bool} (h : R b M) : truK R (.bl b) M := h
theorem w_tAnd (h : c Xd s M fun b M1 => if b = true then d1 Xd s M1 R else R false M1) : tAndD c d1 Xd s M R := h
theorem w_tOr (h : c Xd s M fun b M1 => if b = true then R true M1 else d1 Xd s M1 R) : tOrD c d1 Xd s M R := h
theorem w_tNot (h : c Xd s M fun b M1 => R (!b) M1) : tNotD c Xd s M R := h
theorem w_chain {o o' : O2} (h : ta Xd s M fun x M1 => tb Xd s M1 fun y M2 => o x y M2 (chK o' y tc Xd s Q)) : dChain o o' ta tb tc Xd s M Q := h
theorem w_chT {o' : O2} (h : tc Xd s M fun z M1 => o' y z M1 Q) : chK o' y tc Xd s Q (.bl true) M := h
theorem w_chF {o' : O2} (h : Q (.bl false) M) : chK o' y tc Xd s Q (.bl false) M := h
theorem w_ifT {P U : Prop} (h : P) : if true = true then P else U := by rw [if_pos rfl]; exact h
theorem w_ifF {P U : Prop} (h : U) : if false = true then P else U := by rw [if_neg Bool.false_ne_true]; exact h
theorem w_ifnT {P U : Prop} (h : U) : if (!true) = true then P else U := w_ifF h
theorem w_ifnF {P U : Prop} (h : P) : if (!false) = true then P else U := w_ifT h
theorem w_ifdT {φ : Prop} [Decidable φ] {P U : Prop} (hφ : φ) (h : P) : if decide φ = true then P else U := by rw [if_pos (decide_eq_true hφ)]; exact h
theorem w_ifdF {φ : Prop} [Decidable φ] {P U : Prop} (hφ : ¬ φ) (h : U) : if decide φ = true then P else U := by rw [if_neg (fun z => hφ (of_decide_eq_true z))]; exact h
theorem w_ifd {φ : Prop} [Decidable φ] {P U : Prop} (h1 : φ → P) (h2 : ¬ φ → U) : if decide φ = true then P else U := by
  by_cases z : φ
  · exact w_ifdT z (h1 z)
  · exact w_ifdF z (h2 z)

theorem w_ifnd {φ : Prop} [Decidable φ] {P U : Prop} (h1 : ¬ φ → P) (h2 : φ → U) : if (!decide φ) = true then P else U := by
  by_cases z : φ
  · rw [decide_eq_true z]; exact w_ifF (h2 z)
  · rw [decide_eq_false z]; exact w_ifT (h1 z)
theorem w_ifb {b : Bool} {P U : Prop} (h1 : b = true → P) (h2 : b = false → U) : if b = true then P else U := by
  cases b
  · exact w_ifF (h2 rfl)
  · exact w_ifT (h1 rfl)

/-! ### operators -/
variable {i j : Int} {b b2 : Bool} {k : Str}
theorem w_addI (h : Q (.int (i + j)) M) : addD (.int i) (.int j) M Q := h
theorem w_addL (hl : ds.length + es.length ≤ sizeLine) (h : Q (.lst (ds ++ es)) M) : addD (.lst ds) (.lst es) M Q := ⟨hl, h⟩
theorem w_addT (hl : ds.length + es.length ≤ sizeLine) (h : Q (.tup (ds ++ es)) M) : addD (.tup ds) (.tup es) M Q := ⟨hl, h⟩
theorem w_subI (h : Q (.int (i - j)) M) : subD (.int i) (.int j) M Q := h
theorem w_mulI (hw : CMulW i j) (h : Q (.int (i * j)) M) : mulD (.int i) (.int j) M Q := ⟨hw, h⟩
theorem w_fdivI (hw : CDivW i j) (h : Q (.int (i / j)) M) : fdivD (.int i) (.int j) M Q := ⟨hw, h⟩
theorem w_modI (hw : 0 < j) (h : Q (.int (i % j)) M) : modD (.int i) (.int j) M Q := ⟨hw, h⟩
theorem w_powI (hw : CPow i j) (h : Q (.int (i ^ j.toNat)) M) : powD (.int i) (.int j) M Q := ⟨hw, h⟩
theorem w_lt (h : Q (.bl (decide (i < j))) M) : ltD (.int i) (.int j) M Q := h
theorem w_le (h : Q (.bl (decide (i ≤ j))) M) : leD (.int i) (.int j) M Q := h
theorem w_gt (h : Q (.bl (decide (j < i))) M) : gtD (.int i) (.int j) M Q := h
theorem w_ge (h : Q (.bl (decide (j ≤ i))) M) : geD (.int i) (.int j) M Q := h
theorem w_isN (h : Q (.bl (isN x)) M) : isD x .non M Q := ⟨rfl, h⟩
theorem w_isnN (h : Q (.bl (!isN x)) M) : isNotD x .non M Q := ⟨rfl, h⟩
theorem eq_ints : eqO (.int i) (.int j) = some (decide (i = j)) := by
  show (if SeqAt.shaped (.int i) = true ∧ SeqAt.shaped (.int j) = true then some (PyData.eqv (.int i) (.int j)) else none) = _
  rw [if_pos ⟨rfl, rfl⟩]
  rfl
theorem sh_str {k : Str} (h : PyData.strOk k = true) : SeqAt.shaped (.str k) = true := by
  unfold SeqAt.shaped; rw [show PyData.canLay0 (.str k) = PyData.strOk k from rfl, h]; rfl
theorem eq_strs {k l : Str} (h1 : PyData.strOk k = true) (h2 : PyData.strOk l = true) : eqO (.str k) (.str l) = some (decide (k = l)) := by
  show (if SeqAt.shaped (.str k) = true ∧ SeqAt.shaped (.str l) = true then some (PyData.eqv (.str k) (.str l)) else none) = _
  rw [if_pos ⟨sh_str h1, sh_str h2⟩]
  rfl
theorem w_eqI (h : Q (.bl (decide (i = j))) M) : eqD (.int i) (.int j) M Q := by
  unfold eqD; simp only [vw, eq_ints]; exact h
theorem w_neI (h : Q (.bl (!decide (i = j))) M) : neD (.int i) (.int j) M Q := by
  unfold neD; simp only [vw, eq_ints]; exact h
theorem w_eqS {k l : Str} (h1 : PyData.strOk k = true) (h2 : PyData.strOk l = true) (h : Q (.bl (decide (k = l))) M) : eqD (.str k) (.str l) M Q := by
  unfold eqD; simp only [vw, eq_strs h1 h2]; exact h
theorem w_neS {k l : Str} (h1 : PyData.strOk k = true) (h2 : PyData.strOk l = true) (h : Q (.bl (!decide (k = l))) M) : neD (.str k) (.str l) M Q := by
  unfold neD; simp only [vw, eq_strs h1 h2]; exact h
theorem w_eqO {x y : D} {b : Bool} (e : eqO (vw M x) (vw M y) = some b) (h : Q (.bl b) M) : eqD x y M Q := by
  unfold eqD; rw [e]; exact h
theorem w_neO {x y : D} {b : Bool} (e : eqO (vw M x) (vw M y) = some b) (h : Q (.bl (!b)) M) : neD x y M Q := by
  unfold neD; rw [e]; exact h
/-! ### subscripts -/
theorem w_ixL (e : atI ds i = some d) (h : Q d M) : ixD (.lst ds) (.int i) M Q := by
  unfold ixD; simp only [ixO, vw, e]; exact h
theorem w_ixT (e : atI ds i = some d) (h : Q d M) : ixD (.tup ds) (.int i) M Q := by
  unfold ixD; simp only [ixO, vw, e]; exact h
theorem w_ixRL (hM : M a = some (.lst ds)) (e : atI ds i = some d) (h : Q d M) : ixD (.ref a) (.int i) M Q := by
  unfold ixD; simp only [ixO, vw, vwO, hM, e]; exact h
theorem w_ixRD {ks : List Key} (hM : M a = some (.dct ks ds)) (e : valD ks ds (.inr k) = some d) (h : Q d M) : ixD (.ref a) (.str k) M Q := by
  unfold ixD; simp only [ixO, vw, vwO, hM, keyD, e]; exact h
theorem w_ixRDi {ks : List Key} (hM : M a = some (.dct ks ds)) (e : valD ks ds (.inl i) = some d) (h : Q d M) : ixD (.ref a) (.int i) M Q := by
  unfold ixD; simp only [ixO, vw, vwO, hM, keyD, e]; exact h

theorem w_ixT0 {x0 : D} (h : Q x0 M) : ixD (.tup (x0 :: ds)) (.int 0) M Q := w_ixT (by have z := atI_nat (xs := x0 :: ds) (j := 0) (v := x0) rfl; exact z) h
theorem w_ixL0 {x0 : D} (h : Q x0 M) : ixD (.lst (x0 :: ds)) (.int 0) M Q := w_ixL (by have z := atI_nat (xs := x0 :: ds) (j := 0) (v := x0) rfl; exact z) h
theorem w_ixT1 {x0 x1 : D} (h : Q x1 M) : ixD (.tup (x0 :: x1 :: ds)) (.int 1) M Q := w_ixT (by have z := atI_nat (xs := x0 :: x1 :: ds) (j := 1) (v := x1) rfl; exact z) h
theorem w_ixL1 {x0 x1 : D} (h : Q x1 M) : ixD (.lst (x0 :: x1 :: ds)) (.int 1) M Q := w_ixL (by have z := atI_nat (xs := x0 :: x1 :: ds) (j := 1) (v := x1) rfl; exact z) h
theorem w_ixT2 {x0 x1 x2 : D} (h : Q x2 M) : ixD (.tup (x0 :: x1 :: x2 :: ds)) (.int 2) M Q := w_ixT (by have z := atI_nat (xs := x0 :: x1 :: x2 :: ds) (j := 2) (v := x2) rfl; exact z) h
theorem w_ixL2 {x0 x1 x2 : D} (h : Q x2 M) : ixD (.lst (x0 :: x1 :: x2 :: ds)) (.int 2) M Q := w_ixL (by have z := atI_nat (xs := x0 :: x1 :: x2 :: ds) (j := 2) (v := x2) rfl; exact z) h
theorem w_ixT3 {x0 x1 x2 x3 : D} (h : Q x3 M) : ixD (.tup (x0 :: x1 :: x2 :: x3 :: ds)) (.int 3) M Q := w_ixT (by have z := atI_nat (xs := x0 :: x1 :: x2 :: x3 :: ds) (j := 3) (v := x3) rfl; exact z) h
theorem w_ixL3 {x0 x1 x2 x3 : D} (h : Q x3 M) : ixD (.lst (x0 :: x1 :: x2 :: x3 :: ds)) (.int 3) M Q := w_ixL (by have z := atI_nat (xs := x0 :: x1 :: x2 :: x3 :: ds) (j := 3) (v := x3) rfl; exact z) h
theorem w_ixT4 {x0 x1 x2 x3 x4 : D} (h : Q x4 M) : ixD (.tup (x0 :: x1 :: x2 :: x3 :: x4 :: ds)) (.int 4) M Q := w_ixT (by have z := atI_nat (xs := x0 :: x1 :: x2 :: x3 :: x4 :: ds) (j := 4) (v := x4) rfl; exact z) h
theorem w_ixL4 {x0 x1 x2 x3 x4 : D} (h : Q x4 M) : ixD (.lst (x0 :: x1 :: x2 :: x3 :: x4 :: ds)) (.int 4) M Q := w_ixL (by have z := atI_nat (xs := x0 :: x1 :: x2 :: x3 :: x4 :: ds) (j := 4) (v := x4) rfl; exact z) h
theorem w_ixT5 {x0 x1 x2 x3 x4 x5 : D} (h : Q x5 M) : ixD (.tup (x0 :: x1 :: x2 :: x3 :: x4 :: x5 :: ds)) (.int 5) M Q := w_ixT (by have z := atI_nat (xs := x0 :: x1 :: x2 :: x3 :: x4 :: x5 :: ds) (j := 5) (v := x5) rfl; exact z) h
theorem w_ixL5 {x0 x1 x2 x3 x4 x5 : D} (h : Q x5 M) : ixD (.lst (x0 :: x1 :: x2 :: x3 :: x4 :: x5 :: ds)) (.int 5) M Q := w_ixL (by have z := atI_nat (xs := x0 :: x1 :: x2 :: x3 :: x4 :: x5 :: ds) (j := 5) (v := x5) rfl; exact z) h
theorem w_ixT6 {x0 x1 x2 x3 x4 x5 x6 : D} (h : Q x6 M) : ixD (.tup (x0 :: x1 :: x2 :: x3 :: x4 :: x5 :: x6 :: ds)) (.int 6) M Q := w_ixT (by have z := atI_nat (xs := x0 :: x1 :: x2 :: x3 :: x4 :: x5 :: x6 :: ds) (j := 6) (v := x6) rfl; exact z) h
theorem w_ixL6 {x0 x1 x2 x3 x4 x5 x6 : D} (h : Q x6 M) : ixD (.lst (x0 :: x1 :: x2 :: x3 :: x4 :: x5 :: x6 :: ds)) (.int 6) M Q := w_ixL (by have z := atI_nat (xs := x0 :: x1 :: x2 :: x3 :: x4 :: x5 :: x6 :: ds) (j := 6) (v := x6) rfl; exact z) h
theorem w_ixT7 {x0 x1 x2 x3 x4 x5 x6 x7 : D} (h : Q x7 M) : ixD (.tup (x0 :: x1 :: x2 :: x3 :: x4 :: x5 :: x6 :: x7 :: ds)) (.int 7) M Q := w_ixT (by have z := atI_nat (xs := x0 :: x1 :: x2 :: x3 :: x4 :: x5 :: x6 :: x7 :: ds) (j := 7) (v := x7) rfl; exact z) h
theorem w_ixL7 {x0 x1 x2 x3 x4 x5 x6 x7 : D} (h : Q x7 M) : ixD (.lst (x0 :: x1 :: x2 :: x3 :: x4 :: x5 :: x6 :: x7 :: ds)) (.int 7) M Q := w_ixL (by have z := atI_nat (xs := x0 :: x1 :: x2 :: x3 :: x4 :: x5 :: x6 :: x7 :: ds) (j := 7) (v := x7) rfl; exact z) h

/-! ### built-ins -/
theorem w_lenL (h : Q (.int ds.length) M) : lenC [.lst ds] M Q := h
theorem w_lenT (h : Q (.int ds.length) M) : lenC [.tup ds] M Q := h
theorem w_lenR (hM : M a = some (.lst ds)) (h : Q (.int ds.length) M) : lenC [.ref a] M Q := by
  unfold lenC; simp only [lenO, vw, vwO, hM]; exact h
theorem w_int (h : Q (.int i) M) : intC [.int i] M Q := h
theorem w_intB {b : Bool} (h : Q (.int (if b then 1 else 0)) M) : intC [.bl b] M Q := h
theorem w_abs (h : Q (.int (if i < 0 then -i else i)) M) : absC [.int i] M Q := h
theorem w_listL (h : Q (.lst ds) M) : listC [.lst ds] M Q := h
theorem w_listT (h : Q (.lst ds) M) : listC [.tup ds] M Q := h
theorem w_listR (hM : M a = some (.lst ds)) (h : Q (.lst ds) M) : listC [.ref a] M Q := by
  unfold listC; simp only [itemsO, vw, vwO, hM]; exact h
theorem w_tupL (h : Q (.tup ds) M) : tupleC [.lst ds] M Q := h
theorem w_tupT (h : Q (.tup ds) M) : tupleC [.tup ds] M Q := h
theorem w_tupR (hM : M a = some (.lst ds)) (h : Q (.tup ds) M) : tupleC [.ref a] M Q := by
  unfold tupleC; simp only [itemsO, vw, vwO, hM]; exact h
theorem w_listOL (h : ∀ p, M p = none → Q (.ref p) (M.put p (.lst ds))) : listCO [.lst ds] M Q := h
theorem w_listOT (h : ∀ p, M p = none → Q (.ref p) (M.put p (.lst ds))) : listCO [.tup ds] M Q := h
theorem w_listOR (hM : M a = some (.lst ds)) (h : ∀ p, M p = none → Q (.ref p) (M.put p (.lst ds))) : listCO [.ref a] M Q := by
  unfold listCO; simp only [itemsO, vw, vwO, hM]; exact h
theorem w_int2 {f : Int → Int → Int} (h : Q (.int (f i j)) M) : int2C f [.int i, .int j] M Q := h
theorem w_gcd (h : Q (.int ((Nat.gcd i.natAbs j.natAbs : Nat) : Int)) M) : gcdC [.int i, .int j] M Q := h
def appO (te : TED) (Xd : XD) (s : SD) (Q : QD) : QD := fun o M1 => match o with
  | .ref p => match M1 p with
    | some (.lst _) => te Xd s M1 fun d M2 => appK d Q p M2
    | _ => False
  | _ => False
theorem w_app (h : to Xd s M (appO te Xd s Q)) : dApp to te Xd s M Q := h
theorem w_appO (hM : M p = some (.lst ds)) (h : te Xd s M fun d M2 => appK d Q p M2) : appO te Xd s Q (.ref p) M := by
  unfold appO; simp only [hM]; exact h
def rvsO (Q : QD) : QD := fun o M1 => match o with
  | .ref p => match M1 p with
    | some (.lst ds) => Q .non (M1.put p (.lst ds.reverse))
    | _ => False
  | _ => False
theorem w_rvs (h : to Xd s M (rvsO Q)) : dRvs to Xd s M Q := h
theorem w_rvsO (hM : M p = some (.lst ds)) (h : Q .non (M.put p (.lst ds.reverse))) : rvsO Q (.ref p) M := by
  unfold rvsO; simp only [hM]; exact h
theorem w_augK {f : Int → Int → Int} {z u : Int} (hM : M p = some (.lst ds)) (e : atI ds z = some (.int u)) (h : te ex s M (fun y M1 => match y with
        | .int w => setK (.ref p) (.int z) (.int (f u w)) (fun M2 => nx s M2) M1
        | _ => False)) : augK f te ⟨nx, rt, bk, ct, ex⟩ s (.ref p) (.int z) M := by
  unfold augK; simp only [hM, e]; exact h
theorem w_appK (hM : M p = some (.lst ds)) (hl : ds.length < sizeLine) (h : Q .non (M.put p (.lst (ds ++ [d])))) : appK d Q p M := by
  unfold appK; rw [hM]; exact ⟨hl, h⟩
/-! ### walks -/
variable {I : List D → Option Addr → Mem → Prop}
theorem w_iSeq (h : te Xd s M (itemK I)) : iSeqD te Xd s M I := h
theorem w_itemT (h : I ds none M) : itemK I (.tup ds) M := h
theorem w_itemL (h : I ds none M) : itemK I (.lst ds) M := h
theorem w_itemR (hM : M a = some (.lst ds)) (h : I ds (some a) M) : itemK I (.ref a) M := by
  unfold itemK; simp only [hM]; exact h
theorem w_iRng (h : A Xd s M (rngK I)) : iRngD A Xd s M I := h
theorem w_rng1 (hj : -(2 ^ 62) ≤ j ∧ j < 2 ^ 62) (h : I (rngL 0 j.toNat) none M) : rngK I [.int j] M := ⟨hj, h⟩
theorem w_rng2 (hj : -(2 ^ 62) ≤ i ∧ i < 2 ^ 62 ∧ -(2 ^ 62) ≤ j ∧ j < 2 ^ 62) (h : I (rngL i (j - i).toNat) none M) : rngK I [.int i, .int j] M := ⟨hj, h⟩
theorem w_iEnm (h : dCons te dNil Xd s M fun ds M1 => ∃ d, ds = [d] ∧ itemK (fun ds ow M1 => I (enmFrom 0 ds) ow M1) d M1) : iEnmB te Xd s M I := h
theorem w_sg1 {J : D → Prop} (h : J d) : ∃ e, [d] = [e] ∧ J e := ⟨d, rfl, h⟩
theorem w_iRev {T : XD → SD → Mem → (Int → Int → Mem → Prop) → Prop} (h : T Xd s M fun i j M1 => (-(2 ^ 62) ≤ i ∧ i < 2 ^ 62 ∧ -(2 ^ 62) ≤ j ∧ j < 2 ^ 62) ∧ I (rngL i (j - i).toNat).reverse none M1) : iRevD T Xd s M I := h
theorem w_rg1 {F : Int → Int → Mem → Prop} (h : te Xd s M (rg1K F)) : rg1 te Xd s M F := h
theorem w_rg1K {F : Int → Int → Mem → Prop} (h : F 0 i M) : rg1K F (.int i) M := h
end
end DL
set_option maxHeartbeats 1000000
namespace DL
open PySem PySem.Spec PyProof.Rows L2
def parK (i j : Nat) (nx : SD → Mem → Prop) (s : SD) : List D → Mem → Prop := fun ds M1 => match ds with
  | [d, e] => nx ((s.set i (some d)).set j (some e)) M1
  | _ => False
theorem w_par {i j : Nat} {ta : TAD} {s : SD} {M : Mem} {nx bk ct : SD → Mem → Prop} {rt : QD} {ex : XD} (h : ta ex s M (parK i j nx s)) : sPar i j ta ⟨nx, rt, bk, ct, ex⟩ s M := h
theorem w_parK {i j : Nat} {d e : D} {s s' : SD} {M : Mem} {nx : SD → Mem → Prop} (hs : (s.set i (some d)).set j (some e) = s') (h : nx s' M) : parK i j nx s [d, e] M := by
  subst hs; exact h
theorem w_while {c : TTD} {t : TSD} {s : SD} {M : Mem} {nx bk ct : SD → Mem → Prop} {rt : QD} {ex : XD} (m : Nat) (h : sWhN c t ⟨nx, rt, bk, ct, ex⟩ m s M) : sWhile c t ⟨nx, rt, bk, ct, ex⟩ s M := ⟨m, h⟩
theorem w_whS {c : TTD} {t : TSD} {s : SD} {M : Mem} {nx bk ct : SD → Mem → Prop} {rt : QD} {ex : XD} {m : Nat} (h : c ex s M fun b M1 => if b = true then t ⟨sWhN c t ⟨nx, rt, bk, ct, ex⟩ m, rt, nx, sWhN c t ⟨nx, rt, bk, ct, ex⟩ m, ex⟩ s M1 else nx s M1) : sWhN c t ⟨nx, rt, bk, ct, ex⟩ (m + 1) s M := h
theorem w_dRev {te : TED} {Xd : XD} {s : SD} {M : Mem} {Q : QD} (h : te Xd s M (revK Q)) : dRev te Xd s M Q := h
theorem w_revK {ds : List D} {M : Mem} {Q : QD} (h : Q (.lst ds.reverse) M) : revK Q (.lst ds) M := h
theorem w_lstRg {t : XD → SD → Mem → (Int → Int → Mem → Prop) → Prop} {Xd : XD} {s : SD} {M : Mem} {Q : QD} (h : t Xd s M fun i j M1 => RgOk i j ∧ Q (.lst (rngL i (j - i).toNat)) M1) : dLstRg t Xd s M Q := h
theorem w_dctN {Xd : XD} {s : SD} {M : Mem} {Q : QD} (h : ∀ p, M p = none → Q (.ref p) (M.put p (.dct [] []))) : dDctN Xd s M Q := h
/-! ### a dict that grows by new numbers -/
def kI (j : Nat) : Key := .inl (j : Int)
theorem val_nat (V : Nat → D) : ∀ (L : List Nat) (j : Nat), j ∈ L → valD (L.map kI) (L.map V) (kI j) = some (V j)
  | [], j, h => by cases h
  | i :: L, j, h => by
    unfold valD
    rw [List.map_cons, List.map_cons, List.zip_cons_cons, List.find?_cons]
    by_cases e : i = j
    · subst e; simp
    · have ne : ¬ (kI i = kI j) := fun z => e (by have := Sum.inl.inj z; omega)
      have hd : decide (kI i = kI j) = false := decide_eq_false ne
      simp only [hd]
      have := val_nat V L j (by
        rcases List.mem_cons.mp h with z | z
        · exact absurd z.symm e
        · exact z)
      exact this
theorem put_nat (V : Nat → D) (k : Nat) : ∀ (L : List Nat), k ∉ L → putD (L.map kI) (L.map V) (kI k) (V k) = ((L ++ [k]).map kI, (L ++ [k]).map V)
  | [], _ => rfl
  | i :: L, h => by
    have ne : ¬ (kI i = kI k) := fun z => h (by have := Sum.inl.inj z; have e : i = k := by omega
                                                subst e; exact List.mem_cons_self)
    have ih := put_nat V k L (fun z => h (List.mem_cons_of_mem _ z))
    rw [List.map_cons, List.map_cons]
    unfold putD
    simp only [ne, if_false, ih]
    rfl
theorem nodup_nat : ∀ {L : List Nat}, L.Nodup → (L.map kI).Nodup
  | [], _ => List.nodup_nil
  | i :: L, h => by
    rw [List.nodup_cons] at h
    rw [List.map_cons, List.nodup_cons]
    refine ⟨fun z => ?_, nodup_nat h.2⟩
    obtain ⟨j, hj, e⟩ := List.mem_map.mp z
    have := Sum.inl.inj e
    have e : j = i := by omega
    subst e; exact h.1 hj
theorem w_setDi {a : Addr} {d : D} {L : List Nat} {V : Nat → D} {k : Nat} {K : Mem → Prop} {M : Mem} (hM : M a = some (.dct (L.map kI) (L.map V))) (hn : L.Nodup) (hl : L.length < 1000) (hk : k ∉ L) (hd : d = V k) (h : K (M.put a (.dct ((L ++ [k]).map kI) ((L ++ [k]).map V)))) : setK (.ref a) (.int (k : Int)) d K M := by
  unfold setK
  simp only [hM, keyD]
  refine ⟨⟨nodup_nat hn, by rw [List.length_map]; exact hl⟩, ?_⟩
  have := put_nat V k L hk
  unfold kI at this
  subst hd
  rw [show (Sum.inl (k : Int) : Key) = kI k from rfl]
  rw [show putD (L.map kI) (L.map V) (kI k) (V k) = ((L ++ [k]).map kI, (L ++ [k]).map V) from put_nat V k L hk]
  exact h
theorem w_joinS {t u : TSD} {s : SD} {M : Mem} {nx bk ct : SD → Mem → Prop} {rt : QD} {ex : XD} {P : SD → Mem → Prop} (hu : ∀ s1 M1, P s1 M1 → u ⟨nx, rt, bk, ct, ex⟩ s1 M1) (h : (∀ s1 M1, P s1 M1 → u ⟨nx, rt, bk, ct, ex⟩ s1 M1) → sSeq t u ⟨nx, rt, bk, ct, ex⟩ s M) : sSeq t u ⟨nx, rt, bk, ct, ex⟩ s M := h hu
theorem w_yes {Xd : XD} {s : SD} {M : Mem} {R : Bool → Mem → Prop} (h : R true M) : tYesD Xd s M R := h
/-- [e for x in ds if c], without a change of what is owned -/
theorem lc_filt {g : TGD} {tt : TTD} {te : TED} {s0 : SD} {W : Mem → Prop} {p : Addr} {Q : QD} {M0 : Mem} (hp : M0 p = none) (f : D → Option D) (hW : ∀ acc, W (M0.put p (.lst acc))) : ∀ (ds acc : List D), acc.length + ds.length ≤ sizeLine →
    (∀ d ∈ ds, ∀ (acc : List D) (K1 : QD) (K0 : Mem → Prop), (∀ r, f d = some r → K1 r (M0.put p (.lst acc))) → (f d = none → K0 (M0.put p (.lst acc))) → g d X0 s0 (M0.put p (.lst acc)) fun s' M' => tt X0 s' M' fun b M2 => if b = true then te X0 s' M2 K1 else K0 M2) →
    Q (.lst (acc ++ ds.filterMap f)) M0 → dLcL g tt te s0 W p Q ds (M0.put p (.lst acc))
  | [], acc, _, _, h => ⟨hW acc, by
      unfold endK
      rw [Mem.put_same]
      rw [Mem.del_put hp]
      simpa using h⟩
  | d :: ds, acc, hl, st, h => ⟨hW acc, st d List.mem_cons_self acc _ _ (fun r hr => by
      unfold accK
      rw [Mem.put_same]
      rw [List.length_cons] at hl
      refine ⟨by omega, ?_⟩
      rw [Mem.put_put]
      refine lc_filt hp f hW ds (acc ++ [r]) (by rw [List.length_append, List.length_singleton]; omega) (fun e he => st e (List.mem_cons_of_mem _ he)) ?_
      rw [List.filterMap_cons_some hr] at h
      rw [List.append_assoc]; exact h) (fun hn => by
      rw [List.length_cons] at hl
      refine lc_filt hp f hW ds acc (by omega) (fun e he => st e (List.mem_cons_of_mem _ he)) ?_
      rw [List.filterMap_cons_none hn] at h
      exact h)⟩
theorem lc_map {g : TGD} {te : TED} {s0 : SD} {W : Mem → Prop} {p : Addr} {Q : QD} {M0 : Mem} (hp : M0 p = none) (f : D → D) (hW : ∀ acc, W (M0.put p (.lst acc))) {ds : List D} (hl : ds.length ≤ sizeLine)
    (st : ∀ d ∈ ds, ∀ (acc : List D) (K1 : QD) , K1 (f d) (M0.put p (.lst acc)) → g d X0 s0 (M0.put p (.lst acc)) fun s' M' => te X0 s' M' K1)
    (h : Q (.lst (ds.map f)) M0) : dLcL g tYesD te s0 W p Q ds (M0.put p (.lst [])) := by
  refine lc_filt hp (fun d => some (f d)) hW ds [] (by simpa using hl) (fun d hd acc K1 K0 h1 h0 => ?_) ?_
  · have := st d hd acc K1 (h1 _ rfl)
    refine (?_ : g d X0 s0 (M0.put p (.lst acc)) fun s' M' => if true = true then te X0 s' M' K1 else K0 M')
    simp only [if_true]
    exact this
  · simpa using h
/-- .. whose list is owned then -/
theorem lc_mapO {g : TGD} {te : TED} {s0 : SD} {W : Mem → Prop} {p : Addr} {Q : QD} {M0 : Mem} (f : D → D) (hW : ∀ acc, W (M0.put p (.lst acc))) : ∀ {ds : List D} (acc : List D) (hl : acc.length + ds.length ≤ sizeLine)
    (st : ∀ d ∈ ds, ∀ (acc : List D) (K1 : QD) , K1 (f d) (M0.put p (.lst acc)) → g d X0 s0 (M0.put p (.lst acc)) fun s' M' => te X0 s' M' K1)
    (h : Q (.ref p) (M0.put p (.lst (acc ++ ds.map f)))), dLcLO g tYesD te s0 W p Q ds (M0.put p (.lst acc))
  | [], acc, _, _, h => ⟨hW acc, by
      unfold endKO
      rw [Mem.put_same]
      simpa using h⟩
  | d :: ds, acc, hl, st, h => ⟨hW acc, by
      have := st d List.mem_cons_self acc (fun r => accK p r (dLcLO g tYesD te s0 W p Q ds)) (by
        unfold accK
        rw [Mem.put_same]
        rw [List.length_cons] at hl
        refine ⟨by omega, ?_⟩
        rw [Mem.put_put]
        refine lc_mapO f hW (acc ++ [f d]) (by rw [List.length_append, List.length_singleton]; omega) (fun e he => st e (List.mem_cons_of_mem _ he)) ?_
        rw [List.append_assoc]; exact h)
      refine (?_ : g d X0 s0 (M0.put p (.lst acc)) fun s' M' => if true = true then te X0 s' M' (fun r => accK p r (dLcLO g tYesD te s0 W p Q ds)) else dLcLO g tYesD te s0 W p Q ds M')
      simp only [if_true]
      exact this⟩
end DL
set_option maxHeartbeats 1000000
namespace DL
open PySem PySem.Spec PyProof.Rows L2
/-! ### instances of own classes: made, stored to while made, read -/
section
variable {X : Cx} {E : XK} {n k : Nat} {f x : Str} {p pos p' pos' tpos : Pos} {e o : Expr} {es : List Expr} {te to : TED} {ts : TAD}
/-- o.f -/
def atK (K : Fg) (f : Str) (Q : QD) : QD := fun d M => match d with
  | .ref a => match M a with
    | some (.ins C ns ds) => (Cls K C ∧ NoAttr K C f) ∧ ∃ d, (ns.zip ds).lookup f = some d ∧ Q d M
    | _ => False
  | _ => False
def dAt (K : Fg) (f : Str) (te : TED) : TED := fun Xd s M Q => te Xd s M (atK K f Q)
theorem de_at (he : DE X E e te) (hb : attributeBase e f X.env (eval e X.env) = eval e X.env := by rfl) : DE X E (.Attribute e f pos) (dAt X.K f te) :=
  ⟨PE.imp (pe_fld he.ok hb) fun σ H Q ⟨s, M, Qd, Xd, S, x, t, q⟩ => by
    refine useE S x t fun d v M1 H1 g1 S1 x1 r1 t1 => ?_
    unfold atK at t1
    split at t1
    · rename_i a
      have ev : v = .ref a := r1
      split at t1
      · rename_i C ns ds hm
        obtain ⟨⟨h1, h2⟩, d', hl, t1⟩ := t1
        obtain ⟨dx, xs, k1, k2, k3, k4, k5⟩ := S1.mem a _ hm
        obtain ⟨w, hw, rw'⟩ := zip_lookup k5 hl
        exact ⟨a, C, dx, ns.zip xs, w, ev, k1, h1, h2, hw, q _ _ ⟨d', M1, g1, S1.mem, rw', t1⟩⟩
      · exact t1.elim
    · exact t1.elim⟩
theorem putF_new {f : Str} {v : V} : ∀ {ns : List Str} {xs : List V}, ns.length = xs.length → f ∉ ns → putF f v (ns.zip xs) = (ns ++ [f]).zip (xs ++ [v])
  | [], [], _, _ => rfl
  | [], _ :: _, h, _ => by cases h
  | _ :: _, [], h, _ => by cases h
  | g :: ns, y :: xs, h, hn => by
    have ne : ¬ g = f := fun e => hn (by rw [e]; exact List.mem_cons_self)
    rw [List.zip_cons_cons, putF, if_neg ne, putF_new (by simpa using h) (fun z => hn (List.mem_cons_of_mem _ z))]
    rfl
/-- o.f = d, a field that is new -/
def atS (K : Fg) (f : Str) (o d : D) (k : Mem → Prop) : Mem → Prop := fun M => match o with
  | .ref a => match M a with
    | some (.ins C ns ds) => (Cls K C ∧ NoAttr K C f ∧ ns.length < 900 ∧ f ∉ ns) ∧ k (M.put a (.ins C (ns ++ [f]) (ds ++ [d])))
    | _ => False
  | _ => False
theorem atS_ok {pins : List (Addr × Obj)} {s : Shared} {σ : L2.St} {H : Hp} {M : Mem} {od dd : D} {ov v : V} {u uo : Value} {k : Mem → Prop} {Q : Unit → Shared → Prop} (I : Inv X pins σ H s) (mo : MOk X.K H M) (ro : Rv X.K H M od ov) (rd : Rv X.K H M dd v) (ru : RelV v u) (rou : RelV ov uo) (t : atS X.K f od dd k M)
    (q : ∀ H' M' s', Inv X pins σ H' s' → Gw H M H' M' → MOk X.K H' M' → k M' → Q () s') : wpAny (model X.prog X.w) X.A (setAttr uo f u) Q X.xe s := by
  unfold atS at t
  split at t
  · rename_i a
    have ev : ov = .ref a := ro
    subst ev
    obtain rfl : uo = Value.ref a := rou
    split at t
    · rename_i C ns ds hm
      obtain ⟨⟨h1, h2, h3, h4⟩, t⟩ := t
      obtain ⟨dx, xs, k1, k2, k3, k4, k5⟩ := mo a _ hm
      have hl : ns.length = xs.length := by rw [k2, Rs.len k5]
      refine setattr_ok I k1 h1 h2 (by rw [List.length_zip]; omega) ru fun s' I' => ?_
      have gp : Gw H M (upd H a (.ins C dx (putF f v (ns.zip xs)))) (M.put a (.ins C (ns ++ [f]) (ds ++ [dd]))) := gw_put hm
      have ne : dx ≠ a := fun e => by rw [e, k1] at k3; cases k3
      refine q _ _ s' I' gp (mok_put mo hm ⟨dx, xs ++ [v], ?_, by rw [List.length_append, List.length_append, k2]; rfl, ?_, ?_, Rs.grow gp _ _ (Rs.append k5 (Rs.cons rd Rs.nil))⟩) t
      · rw [putF_new hl h4]; exact upd_same
      · rw [upd_ne ne]; exact k3
      · rw [Mem.put_ne ne]; exact k4
    · exact t.elim
  · exact t.elim
def sAt (K : Fg) (f : Str) (to te : TED) : TSD := fun Y s M => te Y.ex s M fun d M1 => to Y.ex s M1 fun o M2 => atS K f o d (fun M3 => Y.nx s M3) M2
theorem ds_at (ho : DE X E o to) (he : DE X E e te) (hs : swapsWith e (some (.Attribute o f p')) pos.line X.env = pure false := by rfl) : DS X E (.Assign [.Attribute o f p'] e pos) (sAt X.K f to te) := by
  refine ⟨⟨fun pins s σ H Z I h => ?_⟩⟩
  obtain ⟨sd, M, Y, S, xt, t, hh⟩ := h
  refine plainObj_wpAny_Assign_Attribute (thn (he.ok.run pins s σ H (fun v H1 => ∃ d M1, Gw H M H1 M1 ∧ StOk X.K σ H1 sd M1 ∧ XTo X.K H1 M1 Y.ex E ∧ Rv X.K H1 M1 d v ∧ to Y.ex sd M1 fun o M2 => atS X.K f o d (fun M3 => Y.nx sd M3) M2) I (useE S xt t fun d v M1 H1 g1 S1 x1 r1 t1 => ⟨d, M1, g1, S1, x1, r1, t1⟩)) fun u s1 ⟨y, H1, I1, ry, d, M1, g1, S1, x1, r1, t1⟩ => ?_) hs
  refine thn (ho.ok.run pins s1 σ H1 (fun v2 H2 => ∃ od M2, Gw H1 M1 H2 M2 ∧ StOk X.K σ H2 sd M2 ∧ XTo X.K H2 M2 Y.ex E ∧ Rv X.K H2 M2 od v2 ∧ atS X.K f od d (fun M3 => Y.nx sd M3) M2) I1 (useE S1 x1 t1 fun od v M2 H2 g2 S2 x2 r2 t2 => ⟨od, M2, g2, S2, x2, r2, t2⟩)) fun uo s2 ⟨yo, H2, I2, ryo, od, M2, g2, S2, x2, r2, t2⟩ => ?_
  refine atS_ok I2 S2.mem r2 (Rv.grow g2 _ _ r1) ry ryo t2 fun H3 M3 s3 I3 g3 m3 t3 => ?_
  exact ⟨σ, H3, I3, hh.1 _ _ ⟨sd, M3, (g1.trans g2).trans g3, S2.grow (g3) m3, t3⟩⟩
def gAt (K : Fg) (f : Str) (to : TED) : TGD := fun d Xd s M Q => to Xd s M fun o M1 => atS K f o d (fun M2 => Q s M2) M1
theorem dg_at (ho : DE X E o to) : DG X E (.Attribute o f pos) (gAt X.K f to) := by
  refine ⟨fun v σ H Q => ∃ d s M Xd Qd, StOk X.K σ H s M ∧ XTo X.K H M Xd E ∧ Rv X.K H M d v ∧ gAt X.K f to d Xd s M Qd ∧ ∀ σ' H', upS X.K H M Qd σ' H' → Q σ' H', ⟨fun pins s σ H v u Q I ru h => ?_⟩, fun {v d σ H s M Xd Qd Q} S x r t q => ⟨d, s, M, Xd, Qd, S, x, r, t, q⟩⟩
  obtain ⟨d, sd, M, Xd, Qd, S, xt, r, t, q⟩ := h
  rw [assign_Attribute]
  refine wpAny_bind (wpAny_holding (thn (ho.ok.run pins s σ H (fun v2 H2 => ∃ od M2, Gw H M H2 M2 ∧ StOk X.K σ H2 sd M2 ∧ XTo X.K H2 M2 Xd E ∧ Rv X.K H2 M2 od v2 ∧ atS X.K f od d (fun M3 => Qd sd M3) M2) I (useE S xt t fun od v M2 H2 g2 S2 x2 r2 t2 => ⟨od, M2, g2, S2, x2, r2, t2⟩)) fun uo s2 ⟨yo, H2, I2, ryo, od, M2, g2, S2, x2, r2, t2⟩ => ?_))
  refine wpAny_bind (wpAny_standAt (wpAny_bind (wpAny_holding (atS_ok I2 S2.mem r2 (Rv.grow g2 _ _ r) ru ryo t2 fun H3 M3 s3 I3 g3 m3 t3 => ?_))))
  exact wpAny_release ⟨σ, H3, I3, q _ _ ⟨sd, M3, g2.trans g3, S2.grow g3 m3, t3⟩⟩
/-! ### C(e, ..) -/
theorem RoomG.make {k : Nat} {A : Around} (h : RoomG (k + 1) A) (C : Addr) (us : List Value) (kw : List (Str × Value)) : RoomG k (A.under (.builtin "type.__call__" ⟨.ref C :: us, kw⟩)) := ⟨h.r.make C us kw, h.g⟩
/-- a class with a def __init__ -/
def dNew (C : Addr) (sp : SpD) (t : TAD) : TED := fun Xd s M Q => t Xd s M fun ds M1 => ∀ p, M1 p = none → sp (.ref p :: ds) (M1.put p (.ins C [] [])) (fun d M2 => d = .non ∧ Q (.ref p) M2) Xd
theorem de_new {C fI : Addr} {fd : FuncData} {ps : List Str} {sp : SpD} (Mc : Mk X.K C fI) (F : DFn X.prog X.w X.K X.mg X.base k fI fd ps sp) (hr : RoomG (k + 1) X.A) (hg : Gl X x) (hm : X.mg x = some (.ref C)) (hb : Binds X.K fd ps []) (hx : Passes (L2.CX X.prog X.w) X E)
    (ha : DN X E n (e :: es) ts) (hn : n + 1 = ps.length := by rfl) (hdb : (x == ("__debug__" : Str)) = false := by decide) (he : starEach (e :: es) X.env = (false, eval e X.env) :: starEach es X.env := by rfl) (hpl : (backTo pos (starEach es X.env)).any (·.1) = false := by rfl) :
    DE X E (.Call (.Name x p) (e :: es) [] pos) (dNew C sp ts) := by
  refine ⟨⟨fun pins s σ H Q I ⟨sd, M, Qd, Xd, S, xt, t, q⟩ => ?_⟩⟩
  refine wpAny_Call_Name_kw (ld_glob I hg hm ?_ hdb)
  refine PySem.W.callWith_K (h₀ := X.base) I.ok.mod.kin Mc.kp (thn (ha.ok.run pos pins s σ H _ I (useN (n := n) (Q := fun vs H1 => vs.length = n ∧ ∃ ds M1, Gw H M H1 M1 ∧ StOk X.K σ H1 sd M1 ∧ XTo X.K H1 M1 Xd E ∧ Rs X.K H1 M1 ds vs ∧
      ∀ p, M1 p = none → sp (.ref p :: ds) (M1.put p (.ins C [] [])) (fun d M2 => d = .non ∧ Qd (.ref p) M2) Xd) S xt t
    fun ds vs M1 H1 hl g1 S1 x1 r1 t1 => ⟨hl, ds, M1, g1, S1, x1, r1, t1⟩)) fun us s1 ⟨vs, H1, I1, r, hl, ds, M1, g1, S1, x1, r1, t1⟩ => ⟨I1.kIn, ?_⟩) he hpl
  have h1 := I1.hok.fresh (Nat.le_succ s1.heap.objs.size)
  have h2 := I1.hok.fresh (Nat.le_refl s1.heap.objs.size)
  have ne : s1.heap.objs.size ≠ s1.heap.objs.size + 1 := Nat.ne_of_lt (Nat.lt_succ_self _)
  have m1 : M1 (s1.heap.objs.size + 1) = none := m_none S1.mem h1
  have m2 : M1 s1.heap.objs.size = none := m_none S1.mem h2
  have t2 := t1 _ m1
  have I2 := Inv.made (C := C) I1
  have r2 : Vals (V.ref (s1.heap.objs.size + 1) :: vs) (Value.ref (s1.heap.objs.size + 1) :: us) := .cons rfl r
  have ga : Gw H1 M1 (upd H1 s1.heap.objs.size (.own (s1.heap.objs.size + 1))) M1 := gw_new h2
  have ma : MOk X.K (upd H1 s1.heap.objs.size (.own (s1.heap.objs.size + 1))) M1 := mok_new S1.mem h2
  have h1' : (upd H1 s1.heap.objs.size (.own (s1.heap.objs.size + 1))) (s1.heap.objs.size + 1) = none := (upd_ne (Ne.symm ne)).trans h1
  have gb : Gw (upd H1 s1.heap.objs.size (.own (s1.heap.objs.size + 1))) M1 (upd (upd H1 s1.heap.objs.size (.own (s1.heap.objs.size + 1))) (s1.heap.objs.size + 1) (.ins C s1.heap.objs.size [])) (M1.put (s1.heap.objs.size + 1) (.ins C [] [])) := gw_own h1'
  have mb : MOk X.K (upd (upd H1 s1.heap.objs.size (.own (s1.heap.objs.size + 1))) (s1.heap.objs.size + 1) (.ins C s1.heap.objs.size [])) (M1.put (s1.heap.objs.size + 1) (.ins C [] [])) :=
    mok_own ma h1' ⟨s1.heap.objs.size, [], upd_same, rfl, by rw [upd_ne ne, upd_same], by rw [Mem.put_ne ne]; exact m2, rfl⟩
  have gg := ga.trans gb
  have hlen : (Value.ref (s1.heap.objs.size + 1) :: us).length = ps.length := by
    have e2 := r2.length
    rw [← e2, List.length_cons, hl, hn]
  have hlen2 : (D.ref (s1.heap.objs.size + 1) :: ds).length = ps.length := by rw [List.length_cons, Rs.len r1, hl, hn]
  have hbind := hb { s1 with heap := (s1.heap.push PySem.W.emptyDict).push (PySem.W.instObj C s1.heap.objs.size) } (Value.ref (s1.heap.objs.size + 1) :: us) I2.kIn (by simpa using hlen)
  refine wpAny_call (make_map (f := fI) I1.kIn Mc.makes Mc.init (beq_iff_eq.mp Mc.fn) (codeAny_mono (F.run _ X.stack _ _ (M1.put (s1.heap.objs.size + 1) (.ins C [] [])) ⟨Value.ref (s1.heap.objs.size + 1) :: us, []⟩ (Value.ref (s1.heap.objs.size + 1) :: us) _ (D.ref (s1.heap.objs.size + 1) :: ds) _ _ (fun v H2 => v = .non ∧ Q (.ref (s1.heap.objs.size + 1)) H2) E (hr.make C us [])
    (I2.env0.make C us []) hlen2 (by simpa using hbind) r2 mb (Rs.cons rfl (Rs.grow gg _ _ r1)) t2 (fun v H' ⟨d, M', g', m', rd, e0, z⟩ => ?_) (x1.grow gg)) fun r s' hq' => ?_))
  · subst e0
    exact ⟨rd, q _ _ ⟨.ref (s1.heap.objs.size + 1), M', (g1.trans gg).trans g', m', rfl, z⟩⟩
  · cases r with
    | error e => exact hx pins σ _ _ e s' I2 hq'
    | ok fl =>
      cases fl with
      | ret u =>
        obtain ⟨v, H', I3, rv, ev, q3⟩ := I2.after hq'
        subst ev
        exact ⟨rv, ⟨V.ref (s1.heap.objs.size + 1), H', I3, rfl, q3⟩⟩
      | next => exact False.elim hq'
      | brk => exact False.elim hq'
      | cont => exact False.elim hq'
end
end DL
set_option maxHeartbeats 1000000
namespace PySem
namespace HandSPX
open PySem.W
section
variable {M : Model} {A : Around} {E : Value → Shared → Prop} {s : Shared} {α β : Type}
theorem dy_loop {S : α → Prop} {f : α → β → Sem (ForInStep β)} {b : β} {Q : β → Shared → Prop} : ∀ {cs : List α} (hf : ∀ c ∈ cs, ∀ (Q' : ForInStep β → Shared → Prop), Q' (.yield b) s → wpAny M A (f c b) Q' E s) (q : Q b s), wpAny M A (forIn cs b f) Q E s
  | [], _, q => by
    simp only [List.forIn_nil]
    exact wpAny_pure q
  | c :: cs, hf, q => by
    simp only [List.forIn_cons]
    exact wpAny_bind (hf c List.mem_cons_self _ (dy_loop (S := S) (fun d hd => hf d (List.mem_cons_of_mem _ hd)) q))
theorem dy_find {g : α → Bool} {f : α → β → Sem (ForInStep β)} {b y : β} {Q : β → Shared → Prop} : ∀ {cs : List α} (hf : ∀ c ∈ cs, ∀ (Q' : ForInStep β → Shared → Prop), Q' (if g c = true then .done y else .yield b) s → wpAny M A (f c b) Q' E s) (q : Q (if cs.any g = true then y else b) s), wpAny M A (forIn cs b f) Q E s
  | [], _, q => by
    simp only [List.forIn_nil]
    exact wpAny_pure q
  | c :: cs, hf, q => by
    simp only [List.forIn_cons]
    refine wpAny_bind (hf c List.mem_cons_self _ ?_)
    cases h : g c with
    | true =>
      rw [if_pos rfl]
      rw [List.any_cons, h, Bool.true_or, if_pos rfl] at q
      exact wpAny_pure q
    | false =>
      rw [if_neg Bool.false_ne_true]
      rw [List.any_cons, h, Bool.false_or] at q
      exact dy_find (g := g) (y := y) (fun d hd => hf d (List.mem_cons_of_mem _ hd)) q
end
section
variable {M : Model} {K : Frag}
theorem exmAny_mem {cls : Value} : ∀ {cs : List Value} {b : Bool}, exmAny K cls cs = some b → ∃ g : Value → Bool, (∀ c ∈ cs, exmOne K cls c = some (g c)) ∧ b = cs.any g
  | [], b, h => ⟨fun _ => false, ⟨by simp, by cases h; rfl⟩⟩
  | c :: cs, b, h => by
    obtain ⟨b1, d1, x1, y1, z1⟩ := exmAny_cons h
    obtain ⟨g, h1, h2⟩ := exmAny_mem y1
    refine ⟨fun d => (exmOne K cls d).getD false, fun d hd => ?_, ?_⟩
    · rcases List.mem_cons.mp hd with e | e
      · show _ = some ((exmOne K cls d).getD false)
        rw [e, x1]; rfl
      · show _ = some ((exmOne K cls d).getD false)
        rw [h1 d e]; rfl
    · rw [z1, h2, List.any_cons, x1]
      congr 1
      rw [List.any_eq, List.any_eq]
      refine decide_eq_decide.mpr ⟨fun ⟨d, hd, e⟩ => ⟨d, hd, by rw [h1 d hd]; exact e⟩, fun ⟨d, hd, e⟩ => ⟨d, hd, by rw [h1 d hd] at e; exact e⟩⟩
theorem exm_tup {cs : List Value} {cls : Value} {tp e : Addr} {b : Bool} {h : Heap} (X : K.In h) (LT : Looks M h (typeOf (.ref e)) cls) (hp : h.get? tp = some { cls := .type "tuple", data := .seq cs.toArray }) (hx : exmAny K cls cs = some b) :
    Looks M h (excMatches (.ref e) (.ref tp)) b := by
  intro A Q E s k₀ q
  obtain ⟨hh, g, d, tk, os⟩ := s
  have k : ∀ b o, h.get? b = some o → hh.get? b = some o := k₀
  have LT0 : Looks M h (isInstance (.ref tp) (.type "tuple")) true := ((Looks.ld hp).andThen .now).andThen (Looks.of_pure isSubtype_tuple_tuple)
  obtain ⟨g, h1, h2⟩ := exmAny_mem hx
  have LT := LT.keeps k
  have LT0 := LT0.keeps k
  have hp' := k _ _ hp
  unfold excMatches
  refine wpAny_bind (LT0.at ?_)
  dsimp only
  rw [if_pos rfl]
  first
    | refine wpAny_bind (wpAny_seqItems hp' rfl ?_)
    | refine wpAny_bind (wpAny_bind (wpAny_seqItems hp' rfl (wpAny_pure ?_)))
  dsimp only [Option.getD_some, Option.getD]
  try refine wpAny_bind (wpAny_pure ?_)
  refine wpAny_bind (dy_loop (S := fun _ => True) (fun c hc Q' q' => ?_) ?_)
  · obtain ⟨e1, _⟩ := exm_cls (M := M) X (h1 c hc)
    refine wpAny_bind ((e1.keeps k).at ?_)
    first
      | exact wpAny_pure q'
      | (simp only [Bool.not_true, Bool.false_eq_true, if_false]; exact wpAny_pure q')
  · refine wpAny_bind (LT.at ?_)
    refine wpAny_bind (dy_find (g := g) (y := (some true, ())) (fun c hc Q' q' => ?_) ?_)
    · obtain ⟨_, S1⟩ := exm_cls (M := M) X (h1 c hc)
      refine wpAny_bind ((S1.keeps k).at ?_)
      cases h : g c with
      | true => rw [h, if_pos rfl] at q'; rw [if_pos rfl]; exact wpAny_pure q'
      | false => rw [h, if_neg Bool.false_ne_true] at q'; rw [if_neg Bool.false_ne_true]; exact wpAny_pure q'
    · rw [← h2]
      cases b with
      | true => rw [if_pos rfl]; exact wpAny_pure q
      | false => rw [if_neg Bool.false_ne_true]; exact wpAny_pure q
end
end HandSPX
end PySem
set_option maxHeartbeats 1000000
namespace DL
open PySem PySem.Spec PyProof.Rows L2
/-! ### try: the caught exception is tracked, and held as data -/
theorem exc_ok {P : Program} {w : World} {H : Hp} {h : Heap} {a C dx : Addr} {oe : Obj} {vs : Array Value} (e : h.get? a = some oe) (z : Zc (.ref C) (some dx) oe) (d : oe.data = .fields vs) : ObjOk P w H h a (exc a C dx) :=
  ⟨⟨oe, vs, e, z, d⟩, ⟨oe, e⟩, fun _ _ ⟨o, v, q, r⟩ k => ⟨o, v, k o q, r⟩⟩
section
variable {X : Cx} {pins : List (Addr × Obj)} {σ : L2.St} {H : Hp} {sI s s' : Shared} {B : Heap}
theorem landed_exc (I : Inv X pins σ H sI) (nb : ∀ b o, sI.heap.get? b = some o → b ∉ frs X.stack → B.get? b = some o) (st : B.StaysIn s'.heap) (up : sI.heap.UpToSlots s'.heap) (os : s'.os = sI.os) (ag : AllBare s'.gens)
    {a C dx : Addr} {oe : Obj} {vs : Array Value} (na : H a = none) (hB : B.get? a = none) (hF : a ∉ frs X.stack) (ha : s'.heap.get? a = some oe) (z : Zc (.ref C) (some dx) oe) (d : oe.data = .fields vs) : Inv X pins σ (upd H a (exc a C dx)) s' := by
  have hs : sI.heap.get? a = none := by
    cases q : sI.heap.get? a with
    | none => rfl
    | some o =>
      have e := nb a o q hF
      rw [hB] at e; cases e
  have ne : ∀ {b : Addr} {o : Obj}, sI.heap.get? b = some o → b ≠ a := fun {b o} e z => by rw [z, hs] at e; cases e
  have nf : ∀ b ∈ frs X.stack, ∀ o, sI.heap.get? b = some o → ∃ sl, s'.heap.get? b = some { o with slots := sl } := fun b hb o e => by
    obtain ⟨_, o', e', hd⟩ := I.stack.mem hb
    rw [e] at e'; cases e'
    exact up b o e hd
  have hok : HOk X.prog X.w (upd H a (exc a C dx)) s'.heap := fun b o q => by
    by_cases hb : b = a
    · subst hb
      rw [upd_same] at q; cases q
      exact exc_ok ha z d
    · rw [upd_ne hb] at q
      exact ((I.inGround nb).kept st b o q).stay (fun _ _ _ e => e) (fun c e => by rw [upd_ne (ne_of_none e na)]; exact e) fun c xs e => by rw [upd_ne (ne_of_none e na)]; exact e
  have J := I.call (ch := []) (h' := s'.heap) (g' := s'.gens) (t' := s'.toks) (d' := s'.drawn) (H' := upd H a (exc a C dx))
    ⟨fun b o e _ hb _ => st b o (nb b o e hb), fun b o e _ hb _ => nf b hb o e, fun b o e n _ => by rw [upd_ne (ne e)]; exact n, fun b o e _ => by
      by_cases hb : b ∈ frs X.stack
      · obtain ⟨sl, q⟩ := nf b hb o e
        exact ⟨_, q⟩
      · exact ⟨o, st b o (nb b o e hb)⟩, fun b xs e => by rw [upd_ne (ne_of_none e na)]; exact e, fun b o u e => by rw [upd_ne (ne_of_none e na)]; exact e, fun b ps e => ⟨#[], by rw [upd_ne (ne_of_none e na), e]; simp⟩⟩
    hok ag (fun _ z => nomatch z)
  obtain ⟨a1, a2, a3, a4, a5⟩ := s'
  have e5 : a5 = sI.os := os
  subst e5
  exact J
theorem to_sui (I : Inv X pins σ H s) (a : Addr) : Inv (X.suite a (X.pn ++ pins)) [] σ H s :=
  ⟨I.ok.suite _ _, I.os, I.bare, I.base, I.loc, I.cell, I.free, I.freeC, fun p hp => I.pin p (by simpa using hp), I.hok, I.len⟩
theorem of_sui {a : Addr} {pn' : List (Addr × Obj)} (I : Inv (X.suite a (X.pn ++ pins)) pn' σ H s) (ok : X.Ok) : Inv X pins σ H s :=
  ⟨ok, I.os, I.bare, I.base, I.loc, I.cell, I.free, I.freeC, fun p hp => I.pin p (List.mem_append_left _ hp), I.hok, I.len⟩
theorem flying_keeps {l : List Env} {a : Addr} {Z : Obj → Prop} {h h' : Heap} (k : ∀ b o, h.get? b = some o → h'.get? b = some o) (f : HandSPX.FlyingZ B l a Z h) : HandSPX.FlyingZ B l a Z h' := by
  obtain ⟨f1, f2, f3, oe, vs, T, oT, ts, h1, h2, h3, h4, h5, h6, h7, h8, h9⟩ := f
  exact ⟨fun b o e => k _ _ (f1 b o e), f2, Heap.FunFrames.of_keeps (fun b o e _ => ⟨o, k b o e, rfl⟩) f3, oe, vs, T, oT, ts, k _ _ h1, h2, h3, h4, h5, h6, k _ _ h7, h8, h9⟩
end
/-- the test of a clause, as it is evaluated: it names the classes cs -/
def Tst (X : Cx) (t : Expr) (cs : List Value) : Prop := ∀ (a : Addr) (pn pins : List (Addr × Obj)) (σ : L2.St) (H : Hp) (s : Shared) (cls : Value) (b : Bool) (Q : Bool → Shared → Prop) (E E2 : Value → Shared → Prop), Inv (X.suite a pn) pins σ H s →
  PySem.W.Looks (model X.prog X.w) s.heap (typeOf (.ref a)) cls → PySem.W.exmAny X.K cls cs = some b → (∀ h', (∀ q o, s.heap.get? q = some o → h'.get? q = some o) → Q b { s with heap := h' }) →
  wpAny (model X.prog X.w) (X.A.mark (some (.ref a))) (eval t X.env) (fun c s1 => wpAny (model X.prog X.w) (X.A.mark (some (.ref a))) (excMatches (.ref a) c) Q E s1) E2 s
section
variable {X : Cx} {x : Str} {c : Value} {np pos : Pos}
theorem nm_at {a : Addr} {pn pins : List (Addr × Obj)} {σ : L2.St} {H : Hp} {s : Shared} {Q : Value → Shared → Prop} {E : Value → Shared → Prop} (hc : Names X x c) (I : Inv (X.suite a pn) pins σ H s) (q : Q c s) :
    wpAny (model X.prog X.w) (X.A.mark (some (.ref a))) (eval (.Name x np) X.env) Q E s := by
  obtain ⟨hg, hdbg, hm | ⟨hm, hv, hnn⟩⟩ := hc
  · exact ld_glob (X := X.suite a pn) I hg hm q hdbg
  · exact ld_blt (X := X.suite a pn) I hg hm hv q hnn hdbg
theorem tst_name (hc : Names X x c) : Tst X (.Name x np) [c] := fun a pn pins σ H s cls b Q E E2 I LT hx q => by
  obtain ⟨b1, d1, x1, y1, z1⟩ := PySem.W.exmAny_cons hx
  cases y1
  rw [Bool.or_false] at z1
  subst z1
  exact nm_at hc I ((PySem.W.exm_one I.kIn LT x1).here (q s.heap fun _ _ e => e))
inductive NmsL (X : Cx) : List Expr → List Value → Prop
  | nil : NmsL X [] []
  | cons {x : Str} {np : Pos} {c : Value} {es : List Expr} {cs : List Value} (h : Names X x c) (r : NmsL X es cs) : NmsL X (.Name x np :: es) (c :: cs)
theorem tst_tup {k : Nat} {es : List Expr} {cs : List Value} (hn : NmsL X es cs) (hl : cs.length ≤ 1000) : Tst X (.Tuple es k pos) cs := fun a pn pins σ H s cls b Q E E2 I LT hx q => by
  refine wpAny_Tuple ?_
  have go : ∀ {es : List Expr} {cs : List Value}, NmsL X es cs → ∀ (Q' : List Value → Shared → Prop), Q' cs s → wpAny (model X.prog X.w) (X.A.mark (some (.ref a))) (spliced (backTo pos (starEach es X.env))) Q' E2 s := by
    intro es cs h
    induction h with
    | nil => intro Q' q; exact wpAny_items_nil q
    | cons h r ih => intro Q' q; exact wpAny_items_cons (nm_at h I (ih _ q)) (by rfl)
  refine go hn _ ⟨by rw [sizeLine_eq]; omega, ?_⟩
  have kp : ∀ q o, s.heap.get? q = some o → (s.heap.push { cls := .type "tuple", data := .seq cs.toArray }).get? q = some o := fun _ _ z => Heap.get?_push_of_some _ z
  exact (PySem.HandSPX.exm_tup (I.kIn.keeps kp) (LT.keeps kp) (Heap.get?_push_size s.heap rfl) hx).here (q _ kp)
end
/-- a clause: its classes, the slot of its name, what its suite says -/
structure Cl where
  cs : List Value
  nm : Option Nat
  ts : TS
def Cl.ends (c : Cl) (D : Ends) : Ends := match c.nm with
  | none => D
  | some i => { nx := fun σ' H' => D.nx (σ'.set i none) H', rt := D.rt, bk := fun σ' H' => D.bk (σ'.set i none) H', ct := fun σ' H' => D.ct (σ'.set i none) H' }
def Cl.at (c : Cl) (σ : L2.St) (a : Addr) : L2.St := match c.nm with
  | none => σ
  | some i => σ.set i (some (.ref a))
/-- what the clauses wish of an exception of the body -/
def wCl (K : PySem.W.Frag) (D : Ends) : List Cl → WX
  | [] => fun _ _ _ _ => False
  | c :: r => fun cls d σ H => ∃ b, PySem.W.exmAny K cls c.cs = some b ∧ (b = true → ∀ a, H a = none → ∃ C dx, cls = .ref C ∧ d = some dx ∧ c.ts (c.ends D) (c.at σ a) (upd H a (exc a C dx))) ∧ (b = false → wCl K D r cls d σ H)
inductive ClsOk (X : Cx) : List ExceptHandler → List Cl → Prop
  | nil : ClsOk X [] []
  | cons {t : Expr} {cs : List Value} {ts : TS} {b₀ : Stmt} {suite : List Stmt} {pos' : Pos} {hds : List ExceptHandler} {l : List Cl} (ht : Tst X t cs) (hsu : ∀ (a : Addr) (pn : List (Addr × Obj)), PSs (X.suite a pn) (b₀ :: suite) ts) (r : ClsOk X hds l) :
      ClsOk X (.ExceptHandler (some t) none (b₀ :: suite) pos' :: hds) (⟨cs, none, ts⟩ :: l)
  | as {t : Expr} {n : Str} {i : Nat} {cs : List Value} {ts : TS} {b₀ : Stmt} {suite : List Stmt} {pos' : Pos} {hds : List ExceptHandler} {l : List Cl} (ht : Tst X t cs) (hi : X.N[i]? = some n) (hln : X.env.kindOf n = some .local) (hsu : ∀ (a : Addr) (pn : List (Addr × Obj)), PSs (X.suite a pn) (b₀ :: suite) ts) (r : ClsOk X hds l) :
      ClsOk X (.ExceptHandler (some t) (some n) (b₀ :: suite) pos' :: hds) (⟨cs, some i, ts⟩ :: l)
section
variable {X : Cx} {body : List Stmt} {h₀ : ExceptHandler} {hds : List ExceptHandler} {l : List Cl} {pos : Pos} {tb : WX → TS}
theorem ps_tryD (hs : X.stack = X.env :: X.outer) (hf : X.env.frame = some X.env.locals) (hN : X.N.Nodup)
    (hb : ∀ (W : WX) (pn : List (Addr × Obj)) (xe : Value → Shared → Prop), Takes (X.tr pn xe) W → PassesOwn (model X.prog X.w) X.A X.env xe → PSs (X.tr pn xe) body (tb W))
    (hh : ClsOk X (h₀ :: hds) l) : PS X (.Try body (h₀ :: hds) [] [] pos) (fun D σ H => tb (wCl X.K D l) D σ H) := by
  refine ⟨fun pins s σ H D I h => ?_⟩
  have ok := I.ok
  have hfr : X.A.frames = some (X.env :: X.outer) := by rw [ok.frames, hs]
  refine wpAny_Try_except ?_
  refine wpAny_mono ((hb (wCl X.K D l) (X.pn ++ pins) (fun e s₁ => wpAny (model X.prog X.w) X.A (noteFrame e X.env) (fun _ s₂ => wpAny (model X.prog X.w) X.A (setFlight e none) (fun _ s₃ =>
    wpAny (model X.prog X.w) X.A (handleBy e X.env (h₀ :: hds)) (SP X pins D) X.xe s₃) X.xe s₂) X.xe s₁) (fun u s' xx => ?_) PassesOwn.looking).run [] s σ H D (I.toTry _) h) (fun f s1 hsp => ?_) (fun e s1 he => he)
  · obtain ⟨a, B, sI, pins', σ', H', cls, d, rfl, J', nb, up, sky, na, os, ag, w⟩ := xx
    have J : Inv X pins σ' H' sI := J'.ofTry ok
    have sky' : Sky B (X.env :: X.outer) a (Zc cls d) X.env.locals s'.heap := by rw [← hs]; exact sky
    show wpAny (model X.prog X.w) X.A (noteFrame (.ref a) X.env) _ _ _
    refine Sky.land Zc.steady hfr hf sky' fun h3 fl3 up3 => ?_
    have notFr : ∀ {h : Heap} {o : Obj} {vs : Array Value}, h.FunFrames B (X.env :: X.outer) → h.get? a = some o → o.data = .fields vs → a ∉ frs (X.env :: X.outer) := fun {h o vs} ff e dd hm => by
      obtain ⟨_, o', e', hnf⟩ := ff.mem hm
      rw [e] at e'; cases e'
      exact hnf _ dd
    have go : ∀ {hds' : List ExceptHandler} {l' : List Cl}, ClsOk X hds' l' → wCl X.K D l' cls d σ' H' → ∀ h3, HandSPX.FlyingZ B (X.env :: X.outer) a (Zc cls d) h3 → s'.heap.UpToSlots h3 →
        wpAny (model X.prog X.w) X.A (handleBy (.ref a) X.env hds') (SP X pins D) X.xe { s' with heap := h3 } := by
      intro hds' l' hk
      have test : ∀ {t : Expr} {cs : List Value} {b : Bool} {h3 : Heap} {Q : Bool → Shared → Prop} {E E2 : Value → Shared → Prop}, Tst X t cs → PySem.W.exmAny X.K cls cs = some b → HandSPX.FlyingZ B (X.env :: X.outer) a (Zc cls d) h3 → s'.heap.UpToSlots h3 →
          (∀ h4, HandSPX.FlyingZ B (X.env :: X.outer) a (Zc cls d) h4 → s'.heap.UpToSlots h4 → Q b { s' with heap := h4 }) →
          wpAny (model X.prog X.w) (X.A.mark (some (.ref a))) (eval t X.env) (fun c s1 => wpAny (model X.prog X.w) (X.A.mark (some (.ref a))) (excMatches (.ref a) c) Q E s1) E2 { s' with heap := h3 } := by
        intro t cs b h3 Q E E2 ht hx fl3 up3 q
        obtain ⟨oe3, vs3, he3, hz3, hd3⟩ := fl3.there
        have J3 : Inv X pins σ' H' { s' with heap := h3 } := J.landed nb fl3.1 (up.trans up3) os ag
        have LT : PySem.W.Looks (model X.prog X.w) h3 (typeOf (.ref a)) cls := fun A Q E s k q => wpAny_typeOf_ref (k _ _ he3) (by rw [hz3.1]; exact q)
        exact ht a _ [] _ _ _ _ _ _ _ _ (to_sui J3 a) LT hx fun h4 kp => q h4 (flying_keeps kp fl3) (up3.trans (Heap.UpToSlots.of_keeps kp))
      have enter : ∀ {h4 : Heap} {C dx : Addr}, cls = .ref C → d = some dx → HandSPX.FlyingZ B (X.env :: X.outer) a (Zc cls d) h4 → s'.heap.UpToSlots h4 → Inv (X.suite a (X.pn ++ pins)) [] σ' (upd H' a (exc a C dx)) { s' with heap := h4 } := by
        intro h4 C dx ec ed fl4 up4
        obtain ⟨oe4, vs4, he4, hz4, hd4⟩ := fl4.there
        subst ec ed
        exact to_sui (landed_exc (s' := { s' with heap := h4 }) J nb fl4.1 (up.trans up4) os ag na fl4.2.1 (by rw [hs]; exact notFr fl4.2.2.1 he4 hd4) he4 hz4 hd4) a
      induction hk with
      | nil => intro w; exact w.elim
      | @cons t cs ts b₀ suite pos' hds2 l2 ht hsu r ih =>
        intro w h3 fl3 up3
        obtain ⟨b, hb1, hyes, hno⟩ := w
        refine wpAny_handleBy_cons (codeAny_handlers_test ?_) (by intro q; cases q)
        refine test ht hb1 fl3 up3 fun h5 fl5 up5 => ?_
        cases b with
        | true =>
          refine codeAny_handlers_suite ?_
          refine HandSPX.lands_againZ fl5 fun h4 fl4 up4 => ?_
          obtain ⟨C, dx, ec, ed, q⟩ := hyes rfl a na
          refine wpAny_mono ((hsu a (X.pn ++ pins)).run [] _ _ _ _ (enter ec ed fl4 (up5.trans up4)) q) (fun f s6 hsp => ?_) (fun _ _ z => False.elim z)
          cases f with
          | next =>
            obtain ⟨σ6, H6, S6, q6⟩ := hsp
            exact ⟨_, _, of_sui S6 ok, q6⟩
          | brk =>
            obtain ⟨σ6, H6, S6, q6⟩ := hsp
            exact ⟨_, _, of_sui S6 ok, q6⟩
          | cont =>
            obtain ⟨σ6, H6, S6, q6⟩ := hsp
            exact ⟨_, _, of_sui S6 ok, q6⟩
          | ret u =>
            obtain ⟨v6, σ6, H6, S6, r6, q6⟩ := hsp
            exact ⟨_, _, _, of_sui S6 ok, r6, q6⟩
        | false =>
          show wpAny _ X.A (handleBy (.ref a) X.env hds2) _ _ _
          exact ih (hno rfl) h5 fl5 up5
      | @as t n i cs ts b₀ suite pos' hds2 l2 ht hi hln hsu r ih =>
        intro w h3 fl3 up3
        obtain ⟨b, hb1, hyes, hno⟩ := w
        refine wpAny_handleBy_cons (codeAny_handlers_test ?_) (by intro q; cases q)
        refine test ht hb1 fl3 up3 fun h5 fl5 up5 => ?_
        cases b with
        | true =>
          refine codeAny_handlers_suite_as ?_
          refine HandSPX.lands_againZ fl5 fun h4 fl4 up4 => ?_
          obtain ⟨C, dx, ec, ed, q⟩ := hyes rfl a na
          have hloc : Loc X.env.scope n := .inl hln
          refine store_ok (X := X.suite a (X.pn ++ pins)) (v := .ref a) (enter ec ed fl4 (up5.trans up4)) hN hi hloc rfl (fun s5 S5 => ?_) (.inr hln)
          refine wpAny_mono ((hsu a (X.pn ++ pins)).run [] s5 _ _ _ S5 q) (fun f s6 hsp => ?_) (fun _ _ z => False.elim z)
          have end_ : ∀ {σ6 : L2.St} {H6 : Hp} {Q : Shared → Prop}, Inv (X.suite a (X.pn ++ pins)) [] σ6 H6 s6 → (∀ s7, Inv X pins (σ6.set i none) H6 s7 → Q s7) →
              wpAny (model X.prog X.w) X.A (do bindName X.env n .none; unbindBehindTheSuite X.env n pos') (fun _ s7 => Q s7) X.xe s6 := fun {σ6 H6 Q} S6 hq => gone_ok (of_sui S6 ok) hN hi hln hq
          cases f with
          | next =>
            obtain ⟨σ6, H6, S6, q6⟩ := hsp
            exact end_ S6 fun s7 J7 => ⟨_, _, J7, q6⟩
          | brk =>
            obtain ⟨σ6, H6, S6, q6⟩ := hsp
            exact end_ S6 fun s7 J7 => ⟨_, _, J7, q6⟩
          | cont =>
            obtain ⟨σ6, H6, S6, q6⟩ := hsp
            exact end_ S6 fun s7 J7 => ⟨_, _, J7, q6⟩
          | ret u =>
            obtain ⟨v6, σ6, H6, S6, r6, q6⟩ := hsp
            exact end_ S6 fun s7 J7 => ⟨_, _, _, J7, r6, q6⟩
        | false =>
          show wpAny _ X.A (handleBy (.ref a) X.env hds2) _ _ _
          exact ih (hno rfl) h5 fl5 up5
    exact go hh w h3 fl3 up3
  · cases f with
    | next =>
      obtain ⟨σ', H', J', q⟩ := hsp
      exact wpAny_execs_nil ⟨σ', H', J'.ofTry ok, q⟩
    | brk =>
      obtain ⟨σ', H', J', q⟩ := hsp
      exact ⟨σ', H', J'.ofTry ok, q⟩
    | cont =>
      obtain ⟨σ', H', J', q⟩ := hsp
      exact ⟨σ', H', J'.ofTry ok, q⟩
    | ret u =>
      obtain ⟨v, σ', H', J', r, q⟩ := hsp
      exact ⟨v, σ', H', J'.ofTry ok, r, q⟩
end
end DL
set_option maxHeartbeats 1000000
namespace DL
open PySem PySem.Spec PyProof.Rows L2
/-! ### try, over data -/
structure ClD where
  cs : List Value
  nm : Option Nat
  ts : TSD
def ClD.ends (c : ClD) (Y : EndsD) : EndsD := match c.nm with
  | none => { Y with ex := fun _ _ _ _ => False }
  | some i => { nx := fun s M => Y.nx (s.set i none) M, rt := Y.rt, bk := fun s M => Y.bk (s.set i none) M, ct := fun s M => Y.ct (s.set i none) M, ex := fun _ _ _ _ => False }
def ClD.at (c : ClD) (s : SD) (d : D) : SD := match c.nm with
  | none => s
  | some i => s.set i (some d)
def xCl (K : Fg) (Y : EndsD) (s : SD) : List ClD → XD
  | [] => fun _ _ _ _ => False
  | c :: r => fun C ns ds M => ∃ b, PySem.W.exmAny K (.ref C) c.cs = some b ∧ (b = true → c.ts (c.ends Y) (c.at s (.exn C ns ds)) M) ∧ (b = false → xCl K Y s r C ns ds M)
def sTry (K : Fg) (tb : TSD) (cl : List ClD) : TSD := fun Y s M => tb { Y with ex := xCl K Y s cl } s M
theorem StOk.unset {K : Fg} {σ : L2.St} {H : Hp} {s : SD} {M : Mem} (S : StOk K σ H s M) (i : Nat) : StOk K (σ.set i none) H (s.set i none) M := by
  refine ⟨by rw [List.length_set, List.length_set]; exact S.len, fun j e h => ?_, S.mem⟩
  by_cases hj : j = i
  · subst hj
    by_cases hl : j < s.length
    · rw [List.getElem?_set_self hl] at h
      cases h
    · rw [List.getElem?_eq_none (by rw [List.length_set]; omega)] at h
      cases h
  · rw [List.getElem?_set_ne (Ne.symm hj)] at h
    obtain ⟨w, e1, e2⟩ := S.sl j e h
    exact ⟨w, by rw [List.getElem?_set_ne (Ne.symm hj)]; exact e1, e2⟩
def liftY (K : Fg) (W : WX) (t : TSD) : TS := fun Z σ H => liftS K (fun c d H' => W c d σ H') t Z σ H
/-- the body of a try -/
structure DB (X : Cx) (body : List Stmt) (t : TSD) : Prop where
  ok : ∀ (W : WX) (pn : List (Addr × Obj)) (xe : Value → Shared → Prop), Takes (X.tr pn xe) W → PassesOwn (model X.prog X.w) X.A X.env xe → PSs (X.tr pn xe) body (liftY X.K W t)
inductive ClsD (X : Cx) : List ExceptHandler → List ClD → Prop
  | nil : ClsD X [] []
  | cons {t : Expr} {cs : List Value} {ts : TSD} {b₀ : Stmt} {suite : List Stmt} {pos' : Pos} {hds : List ExceptHandler} {l : List ClD} (ht : Tst X t cs) (hsu : ∀ (a : Addr) (pn : List (Addr × Obj)), DSs (X.suite a pn) (fun _ _ _ => False) (b₀ :: suite) ts) (r : ClsD X hds l) :
      ClsD X (.ExceptHandler (some t) none (b₀ :: suite) pos' :: hds) (⟨cs, none, ts⟩ :: l)
  | as {t : Expr} {n : Str} {i : Nat} {cs : List Value} {ts : TSD} {b₀ : Stmt} {suite : List Stmt} {pos' : Pos} {hds : List ExceptHandler} {l : List ClD} (ht : Tst X t cs) (hi : X.N[i]? = some n) (hln : X.env.kindOf n = some .local) (hsu : ∀ (a : Addr) (pn : List (Addr × Obj)), DSs (X.suite a pn) (fun _ _ _ => False) (b₀ :: suite) ts) (r : ClsD X hds l) :
      ClsD X (.ExceptHandler (some t) (some n) (b₀ :: suite) pos' :: hds) (⟨cs, some i, ts⟩ :: l)
def ClD.low (K : Fg) (c : ClD) : Cl := ⟨c.cs, c.nm, liftS K (fun _ _ _ => False) c.ts⟩
theorem clsD_ok {X : Cx} {hds : List ExceptHandler} {l : List ClD} (h : ClsD X hds l) : ClsOk X hds (l.map (ClD.low X.K)) := by
  induction h with
  | nil => exact .nil
  | cons ht hsu r ih => exact .cons ht (fun a pn => (hsu a pn).ok) ih
  | as ht hi hln hsu r ih => exact .as ht hi hln (fun a pn => (hsu a pn).ok) ih
theorem cl_wish {K : Fg} {H H' : Hp} {M M' : Mem} {σ : L2.St} {s : SD} {Y : EndsD} {Z : Ends} {C d : Addr} {ns : List Str} {xs : List V} {ds : List D} (S : StOk K σ H s M) (g : Gw H M H' M') (mo : MOk K H' M') (hd : H' d = some (.xd (ns.zip xs))) (md : M' d = none) (hl : ns.length = ds.length) (rs : Rs K H' M' ds xs)
    (h : (∀ σ' H', upS K H M Y.nx σ' H' → Z.nx σ' H') ∧ (∀ v H', upE K H M Y.rt v H' → Z.rt v H') ∧ (∀ σ' H', upS K H M Y.bk σ' H' → Z.bk σ' H') ∧ (∀ σ' H', upS K H M Y.ct σ' H' → Z.ct σ' H')) :
    ∀ {l : List ClD}, xCl K Y s l C ns ds M' → wCl K Z (l.map (ClD.low K)) (.ref C) (some d) σ H'
  | [], w => w.elim
  | c :: r, ⟨b, hb, hy, hn⟩ => by
    refine ⟨b, hb, fun e a na => ⟨C, d, rfl, rfl, ?_⟩, fun e => cl_wish S g mo hd md hl rs h (hn e)⟩
    have g1 : Gw H' M' (upd H' a (exc a C d)) M' := gw_new na
    have S1 : StOk K σ (upd H' a (exc a C d)) s M' := S.grow (g.trans g1) (mok_new mo na)
    have rx : Rv K (upd H' a (exc a C d)) M' (.exn C ns ds) (.ref a) :=
      .inl ⟨a, d, xs, rfl, .inr upd_same, m_none mo na, .inr (by rw [upd_ne (ne_of_none hd na)]; exact hd), md, hl, Rs.grow g1 ds xs rs⟩
    have h2 := fwdE (g.trans g1) h
    obtain ⟨cs, nm, ts⟩ := c
    cases nm with
    | none => exact ⟨s, M', _, S1, fun _ _ _ ⟨_, _, _, _, _, _, _, _, _, _, _, _, _, _, z⟩ => z.elim, hy e, h2.1, h2.2.1, h2.2.2.1, h2.2.2.2⟩
    | some i =>
      exact ⟨s.set i (some (.exn C ns ds)), M', _, S1.set i rx, fun _ _ _ ⟨_, _, _, _, _, _, _, _, _, _, _, _, _, _, z⟩ => z.elim, hy e, fun σ' H2 ⟨s', M2, g2, S2, q⟩ => h2.1 _ _ ⟨_, M2, g2, S2.unset i, q⟩, h2.2.1,
        fun σ' H2 ⟨s', M2, g2, S2, q⟩ => h2.2.2.1 _ _ ⟨_, M2, g2, S2.unset i, q⟩, fun σ' H2 ⟨s', M2, g2, S2, q⟩ => h2.2.2.2 _ _ ⟨_, M2, g2, S2.unset i, q⟩⟩
theorem ds_try {X : Cx} {E : XK} {body : List Stmt} {h₀ : ExceptHandler} {hds : List ExceptHandler} {l : List ClD} {pos : Pos} {tb : TSD} (hs : X.stack = X.env :: X.outer) (hf : X.env.frame = some X.env.locals) (hN : X.N.Nodup) (hb : DB X body tb) (hc : ClsD X (h₀ :: hds) l) :
    DS X E (.Try body (h₀ :: hds) [] [] pos) (sTry X.K tb l) :=
  ⟨PS.imp (ps_tryD hs hf hN hb.ok (clsD_ok hc)) fun Z σ H ⟨s, M, Y, S, x, t, h⟩ => by
    refine ⟨s, M, { Y with ex := xCl X.K Y s l }, S, fun c od H' ⟨C, d, ns, xs, ds, M', e1, e2, hd, md, hl, rs, g, mo, w⟩ => ?_, t, h⟩
    subst e1 e2
    exact cl_wish S g mo hd md hl rs h w⟩
/-! ### bodies of one statement -/
/-- an expression in the body of a try -/
structure DXe (X : Cx) (e : Expr) (t : TED) : Prop where
  ok : ∀ (W : WX) (pn : List (Addr × Obj)) (xe : Value → Shared → Prop), Takes (X.tr pn xe) W → PE (X.tr pn xe) e (fun σ H Q => liftE X.K (fun c d H' => W c d σ H') t σ H Q)
section
variable {X : Cx} {e : Expr} {te : TED} {pos : Pos}
theorem pass_no {X : Cx} : Passes (L2.CX X.prog X.w) X (fun _ _ _ => False) := fun _ _ _ _ _ _ _ ⟨_, _, _, _, _, _, _, _, _, _, _, _, z⟩ => z.elim
def dCalm (te : TED) : TED := fun _ s M Q => te (fun _ _ _ _ => False) s M Q
theorem dx_of (h : ∀ pn xe, DE (X.tr pn xe) (fun _ _ _ => False) e te) : DXe X e (dCalm te) := ⟨fun W pn xe tk => PE.imp (h pn xe).ok fun σ H Q ⟨s, M, Qd, Xd, S, x, t, q⟩ =>
  ⟨s, M, Qd, fun _ _ _ _ => False, S, fun _ _ _ ⟨_, _, _, _, _, _, _, _, _, _, _, _, _, _, z⟩ => z.elim, t, q⟩⟩
theorem db_expr (he : DXe X e te) (hs : swapsWith e none pos.line X.env = pure false := by rfl) : DB X [.Expr e pos] (sExpr te) := ⟨fun W pn xe tk hp =>
  pss_one (PS.imp (ps_expr (X := X.tr pn xe) (he.ok W pn xe tk) hs) fun Z σ H ⟨s, M, Y, S, x, t, h⟩ => useE S x t fun d v M1 H1 g1 S1 x1 r1 t1 => h.1 _ _ ⟨s, M1, g1, S1, t1⟩)⟩
theorem db_ret (he : DXe X e te) : DB X [.Return (some e) pos] (sRet te) := ⟨fun W pn xe tk hp =>
  pss_one (PS.imp (ps_ret (X := X.tr pn xe) (he.ok W pn xe tk)) fun Z σ H ⟨s, M, Y, S, x, t, h⟩ => useE S x t fun d v M1 H1 g1 S1 x1 r1 t1 => h.2.1 _ _ ⟨d, M1, g1, S1.mem, r1, t1⟩)⟩
theorem db_set {i : Nat} {x : Str} {pos' : Pos} (hN : X.N.Nodup) (hi : X.N[i]? = some x) (hx : Loc X.env.scope x) (he : DXe X e te) (hs : swapsWith e (some (.Name x pos')) pos.line X.env = pure false := by rfl) (hf : X.fn x = true ∨ X.env.scope.names.lookup x = some .local := by first | exact .inl rfl | exact .inr rfl | assumption) :
    DB X [.Assign [.Name x pos'] e pos] (sSet i te) := ⟨fun W pn xe tk hp =>
  pss_one (PS.imp (ps_set (X := X.tr pn xe) hN hi hx (he.ok W pn xe tk) hs hf) fun Z σ H ⟨s, M, Y, S, x, t, h⟩ => useE S x t fun d v M1 H1 g1 S1 x1 r1 t1 => h.1 _ _ ⟨_, M1, g1, S1.set i r1, t1⟩)⟩
variable {n k : Nat} {C : Addr} {ns ps : List Str} {x : Str} {p : Pos} {es : List Expr} {ts : TAD}
theorem db_raise {pos' : Pos} (Z : MkOk X.prog X.w X.K X.mg X.base k C ns ps) (hr : RoomG (k + 1) X.A) (hc : X.calm = true) (hg : Gl X x) (hm : X.mg x = some (.ref C)) (ha : ∀ pn xe, DN (X.tr pn xe) (fun _ _ _ => False) n (e :: es) ts)
    (hn : n = ns.length := by rfl) (hz : n ≤ 1000 := by decide) (hdb : (x == ("__debug__" : Str)) = false := by decide) (he : starEach (e :: es) X.env = (false, eval e X.env) :: starEach es X.env := by rfl) (hpl : (backTo pos (starEach es X.env)).any (·.1) = false := by rfl) :
    DB X [.Raise (some (.Call (.Name x p) (e :: es) [] pos)) none pos'] (sRaise C ns fun _ s M Q => ts (fun _ _ _ _ => False) s M Q) := ⟨fun W pn xe tk hp => by
  refine pss_one (PS.imp (ps_raise (X := X.tr pn xe) hc tk (pmk_mkv (X := X.tr pn xe) Z hr.r pass_no hg hm (ha pn xe).ok hdb he hpl)) fun D σ H ⟨s, M, Y, S, xt, t, q⟩ => ?_)
  refine useN S (E := fun _ _ _ => False) (Xd := fun _ _ _ _ => False) (fun _ _ _ ⟨_, _, _, _, _, _, _, _, _, _, _, _, _, _, z⟩ => z.elim) t fun ds vs M1 H1 hl g1 S1 x1 r1 t1 => ⟨by rw [hl, hn], by rw [hl]; exact hz, fun d H2 hd h2 kp => ?_⟩
  have gw : Gw H1 M1 H2 M1 := fun b o z m => ⟨kp b o z, m⟩
  refine xt _ _ _ ⟨C, d, ns, vs.reverse, ds.reverse, M1, rfl, rfl, h2, m_none S1.mem hd, ?_, Rs.grow gw _ _ (Rs.reverse r1), g1.trans gw, mok_keep S1.mem kp, t1⟩
  rw [List.length_reverse, Rs.len r1, hl, hn]⟩
variable {E : XK} {f : Addr} {fd : FuncData} {sp : SpD}
/-- a call of a def that may raise, in the body of a try -/
def dCallX (sp : SpD) (t : TAD) : TED := fun Xd s M Q => t (fun _ _ _ _ => False) s M fun ds M1 => sp ds M1 Q Xd
theorem dx_call (F : DFn X.prog X.w X.K X.mg X.base k f fd ps sp) (hr : RoomG k X.A) (hg : Gl X x) (hm : X.mg x = some (.ref f)) (hk : PySem.W.keepIn X.K (.ref f) = true) (hb : Binds X.K fd ps [])
    (ha : ∀ pn xe, DN (X.tr pn xe) (fun _ _ _ => False) n (e :: es) ts) (hn : n = ps.length := by rfl) (hdb : (x == ("__debug__" : Str)) = false := by decide) (he : starEach (e :: es) X.env = (false, eval e X.env) :: starEach es X.env := by rfl) (hpl : (backTo pos (starEach es X.env)).any (·.1) = false := by rfl) :
    DXe X (.Call (.Name x p) (e :: es) [] pos) (dCallX sp ts) := by
  refine ⟨fun W pn xe tk => ⟨fun pins s σ H Q I ⟨sd, M, Qd, Xd, S, xt, t, q⟩ => ?_⟩⟩
  refine wpAny_Call_Name_kw (ld_glob (X := X.tr pn xe) I hg hm ?_ hdb)
  refine PySem.W.callWith_K (h₀ := X.base) I.ok.mod.kin hk (thn ((ha pn xe).ok.run pos pins s σ H _ I (useN (n := n) (Xd := fun _ _ _ _ => False) (Q := fun vs H1 => vs.length = n ∧ ∃ ds M1, Gw H M H1 M1 ∧ StOk X.K σ H1 sd M1 ∧ XTo X.K H1 M1 Xd (fun c d H' => W c d σ H') ∧ Rs X.K H1 M1 ds vs ∧ sp ds M1 Qd Xd) S
    (fun _ _ _ ⟨_, _, _, _, _, _, _, _, _, _, _, _, _, _, z⟩ => z.elim) t
    fun ds vs M1 H1 hl g1 S1 x1 r1 t1 => ⟨hl, ds, M1, g1, S1, xt.grow g1, r1, t1⟩)) fun us s1 ⟨vs, H1, I1, r, hl, ds, M1, g1, S1, x1, r1, t1⟩ => ⟨I1.kIn, ?_⟩) he hpl
  have hlen : ds.length = ps.length := by rw [Rs.len r1, hl]; exact hn
  have hlu : us.length = ps.length := by rw [← r.length, hl]; exact hn
  refine wpAny_call (codeAny_mono (F.run X.A X.stack s1 H1 M1 ⟨us, []⟩ (us ++ []) vs ds Qd Xd _ (fun c d H' => W c d σ H') hr I1.env0 hlen (hb s1 us I1.kIn (by rw [List.append_nil]; exact hlu)) (by rw [List.append_nil]; exact r) S1.mem r1 t1 (fwd g1 q) x1) fun r s' hq => ?_)
  cases r with
  | error e => exact tk e s' (XE.of_call I1 (fun cls d H' h => h) hq)
  | ok fl =>
    cases fl with
    | ret u => exact I1.after hq
    | next => exact False.elim hq
    | brk => exact False.elim hq
    | cont => exact False.elim hq
end
end DL
set_option maxHeartbeats 1000000
namespace DL
open PySem PySem.Spec PyProof.Rows L2
/-! ### repr of what holds dicts: only the dicts themselves must not be sys.modules -/
mutual
inductive Rn (h : Heap) : Value → PyData → Prop
  | none : Rn h .none .none
  | bool (b : Bool) : Rn h (.bool b) (.bool b)
  | int (i : Int) (t : Tok) : Rn h (.int i t) (.int i)
  | str (x : Str) (t : Tok) : Rn h (.str x t) (.str x)
  | list {a : Addr} {o : Obj} {vs : Array Value} {n : Nat} {xs : List PyData} (h1 : h.get? a = some o) (h2 : o.cls = .type "list") (h3 : o.data = .seq vs n) (h4 : RnAll h vs.toList xs) : Rn h (.ref a) (.list xs)
  | tuple {a : Addr} {o : Obj} {vs : Array Value} {n : Nat} {xs : List PyData} (h1 : h.get? a = some o) (h2 : o.cls = .type "tuple") (h3 : o.data = .seq vs n) (h4 : RnAll h vs.toList xs) : Rn h (.ref a) (.tuple xs)
  | dict {a : Addr} {o : Obj} {es : Array DictEntry} {n : Nat} {kvs : List (PyData × PyData)} (h1 : h.get? a = some o) (h2 : o.cls = .type "dict") (h3 : o.data = .dict es n) (hs : (a == sysModules) = false)
      (h4 : RnAll h (es.toList.map (·.key)) (kvs.map (·.1))) (h5 : RnAll h (es.toList.map (·.val)) (kvs.map (·.2))) : Rn h (.ref a) (.dict kvs)
inductive RnAll (h : Heap) : List Value → List PyData → Prop
  | nil : RnAll h [] []
  | cons {v : Value} {vs : List Value} {d : PyData} {ds : List PyData} (r : Rn h v d) (rs : RnAll h vs ds) : RnAll h (v :: vs) (d :: ds)
end
mutual
theorem Rn.reads {h : Heap} : ∀ {v : Value} {d : PyData}, Rn h v d → ∃ as, Reads h v d as
  | _, _, .none => ⟨_, .none⟩
  | _, _, .bool b => ⟨_, .bool b⟩
  | _, _, .int i t => ⟨_, .int i t⟩
  | _, _, .str x t => ⟨_, .str x t⟩
  | _, _, .list h1 h2 h3 h4 => let ⟨_, q⟩ := RnAll.reads h4; ⟨_, .list h1 h2 h3 q⟩
  | _, _, .tuple h1 h2 h3 h4 => let ⟨_, q⟩ := RnAll.reads h4; ⟨_, .tuple h1 h2 h3 q⟩
  | _, _, .dict h1 h2 h3 hs h4 h5 => let ⟨_, q⟩ := RnAll.reads h4; let ⟨_, q2⟩ := RnAll.reads h5; ⟨_, .dict h1 h2 h3 q q2⟩
theorem RnAll.reads {h : Heap} : ∀ {vs : List Value} {ds : List PyData}, RnAll h vs ds → ∃ as, ReadsAll h vs ds as
  | _, _, .nil => ⟨_, .nil⟩
  | _, _, .cons r rs => let ⟨_, q⟩ := Rn.reads r; let ⟨_, q2⟩ := RnAll.reads rs; ⟨_, .cons q q2⟩
end
section
variable {prog : Program} {w : World} {h₀ : Heap}
mutual
theorem Rn.shown {v : Value} {d : PyData} : Rn h₀ v d → d.showable = true → d.shown.length ≤ sizeLine → ∃ bs, ReadAtMost h₀ d.depth bs ∧ ReprK prog w bs h₀ d.depth v d.shown
  | .none, _, _ => ⟨[], (fun _ z => nomatch z), by simp only [PyData.shown]; exact .of_is ReprIs.none _ _ _⟩
  | .bool b, _, _ => ⟨[], (fun _ z => nomatch z), by simp only [PyData.shown]; exact .of_is (ReprIs.bool b) _ _ _⟩
  | .int i t, hw, _ => ⟨[], (fun _ z => nomatch z), by simp only [PyData.shown]; exact .of_is (ReprIs.int t (by simpa [PyData.showable] using hw)) _ _ _⟩
  | .str x t, _, hl => ⟨[], (fun _ z => nomatch z), by simp only [PyData.shown]; exact .of_is (ReprIs.str x t (by simpa only [PyData.shown] using hl)) _ _ _⟩
  | .list (a := a) (vs := vs) (xs := xs) h1 h2 h3 h4, hw, hl => by
    have lz : (listText (PyData.shownAll xs)).length ≤ sizeLine := by simpa only [PyData.shown] using hl
    obtain ⟨bs, q1, q2⟩ := RnAll.shown h4 (by simpa [PyData.showable] using hw) (fun t m => Nat.le_trans (listText_mem_le m) lz)
    obtain ⟨as, r⟩ := Rn.reads (.list h1 h2 h3 h4)
    have out : a ∉ bs := not_mem_of_deeper r (by simp only [PyData.depth]; omega) q1
    refine ⟨a :: bs, ReadAtMost.cons r (by simp only [PyData.depth]; omega) q1, ?_⟩
    simp only [PyData.shown]
    obtain ⟨l⟩ := vs
    cases l with
    | nil =>
      cases (show RnAll h₀ [] xs from h4)
      simp only [PyData.shownAll, listText_nil]
      exact ReprK.listEmpty h1 h2 h3
    | cons x l =>
      have e : (PyData.list xs).depth = PyData.depthAll xs + 1 := by simp only [PyData.depth]
      rw [e]
      exact ReprK.list h1 h2 h3 out (by simpa using q2.length_eq) fun i y z => q2.item i y (by simpa using z)
  | .tuple (a := a) (xs := xs) h1 h2 h3 h4, hw, hl => by
    have lz : (tupleText (PyData.shownAll xs)).length ≤ sizeLine := by simpa only [PyData.shown] using hl
    obtain ⟨bs, q1, q2⟩ := RnAll.shown h4 (by simpa [PyData.showable] using hw) (fun t m => Nat.le_trans (tupleText_mem_le m) lz)
    obtain ⟨as, r⟩ := Rn.reads (.tuple h1 h2 h3 h4)
    have out : a ∉ bs := not_mem_of_deeper r (by simp only [PyData.depth]; omega) q1
    refine ⟨a :: bs, ReadAtMost.cons r (by simp only [PyData.depth]; omega) q1, ?_⟩
    simp only [PyData.shown]
    have e : (PyData.tuple xs).depth = PyData.depthAll xs + 1 := by simp only [PyData.depth]
    rw [e]
    exact ReprK.tuple h1 h2 h3 out q2
  | .dict (a := a) (es := es) (kvs := kvs) h1 h2 h3 hs h4 h5, hw, hl => by
    have lz : (dictText (PyData.shownKv kvs)).length ≤ sizeLine := by simpa only [PyData.shown] using hl
    obtain ⟨w1, w2⟩ := PyData.showableKv_split kvs (by simpa [PyData.showable] using hw)
    obtain ⟨b1, q1, k1⟩ := RnAll.shown h4 w1 fun t m => by
      obtain ⟨p, hp, hl⟩ := PyData.shownKv_key_le kvs t m
      exact Nat.le_trans hl (Nat.le_trans (dictText_mem_le hp) lz)
    obtain ⟨b2, q2, k2⟩ := RnAll.shown h5 w2 fun t m => by
      obtain ⟨p, hp, hl⟩ := PyData.shownKv_val_le kvs t m
      exact Nat.le_trans hl (Nat.le_trans (dictText_mem_le hp) lz)
    obtain ⟨as, r⟩ := Rn.reads (.dict h1 h2 h3 hs h4 h5)
    have q : ReadAtMost h₀ (PyData.depthKv kvs) (b1 ++ b2) := ReadAtMost.append (q1.mono (PyData.depthAll_keys_le kvs)) (q2.mono (PyData.depthAll_vals_le kvs))
    have out : a ∉ b1 ++ b2 := not_mem_of_deeper r (by simp only [PyData.depth]; omega) q
    refine ⟨a :: (b1 ++ b2), ReadAtMost.cons r (by simp only [PyData.depth]; omega) q, ?_⟩
    simp only [PyData.shown, PyData.shownKv_eq]
    have e : (PyData.dict kvs).depth = PyData.depthKv kvs + 1 := by simp only [PyData.depth]
    rw [e]
    refine ReprK.dict h1 h2 h3 hs out (ReprEntriesK.of_two es.toList _ _ ?_ ?_)
    · exact k1.more_le (fun b hb => List.mem_append_left _ hb) (PyData.depthAll_keys_le kvs)
    · exact k2.more_le (fun b hb => List.mem_append_right _ hb) (PyData.depthAll_vals_le kvs)
theorem RnAll.shown {vs : List Value} {ds : List PyData} : RnAll h₀ vs ds → PyData.showableAll ds = true → (∀ t ∈ PyData.shownAll ds, t.length ≤ sizeLine) → ∃ bs, ReadAtMost h₀ (PyData.depthAll ds) bs ∧ ReprAllK prog w bs h₀ (PyData.depthAll ds) vs (PyData.shownAll ds)
  | .nil, _, _ => ⟨[], (fun _ z => nomatch z), .nil⟩
  | .cons (d := d) (ds := ds) r rs, hw, hl => by
    have hw2 : d.showable = true ∧ PyData.showableAll ds = true := by simpa [PyData.showableAll] using hw
    have sh : PyData.shownAll (d :: ds) = d.shown :: PyData.shownAll ds := by simp only [PyData.shownAll]
    have dp : PyData.depthAll (d :: ds) = max d.depth (PyData.depthAll ds) := by simp only [PyData.depthAll]
    rw [sh] at hl
    obtain ⟨b1, q1, k1⟩ := Rn.shown r hw2.1 (hl _ List.mem_cons_self)
    obtain ⟨b2, q2, k2⟩ := RnAll.shown rs hw2.2 fun t m => hl t (List.mem_cons_of_mem _ m)
    refine ⟨b1 ++ b2, ?_, ?_⟩
    · rw [dp]
      exact ReadAtMost.append (q1.mono (Nat.le_max_left _ _)) (q2.mono (Nat.le_max_right _ _))
    · rw [sh, dp]
      exact .cons ((k1.more fun b hb => List.mem_append_left _ hb).level_le (Nat.le_max_left _ _)) (k2.more_le (fun b hb => List.mem_append_right _ hb) (Nat.le_max_right _ _))
end
end
end DL
set_option maxHeartbeats 1000000
namespace DL
open PySem PySem.Spec PyProof.Rows L2
section
variable {prog : Program} {w : World} {h₀ : Heap} {A : Around} {E : Value → Shared → Prop} {s : Shared} {Q : Value → Shared → Prop}
theorem repr_rn {a : Addr} {d : PyData} (r : Rn h₀ (.ref a) d) (hw : d.showable = true) (hg : A.guards = some []) (hu : A.units + (d.depth + 1) < cLine) (k0 : ∀ b o, h₀.get? b = some o → s.heap.get? b = some o)
    (q : ∀ h' u tk, (∀ b o, s.heap.get? b = some o → h'.get? b = some o) → Q (.str d.shown u) { s with heap := h', toks := tk }) (hl : d.shown.length ≤ sizeLine) : wpAny (model prog w) A (call (.builtin "repr") [.ref a]) Q E s := by
  have q1 : ∀ h' u tk, (∀ b o, s.heap.get? b = some o → h'.get? b = some o) → ∃ x t, Value.str d.shown u = .str x t ∧ Q (.str d.shown u) { s with heap := h', toks := tk } := fun h' u tk k => ⟨_, _, rfl, q h' u tk k⟩
  have hu1 : A.units + 1 < cLine := by omega
  have hi : A.in1.units + d.depth < cLine := by show A.units + 1 + d.depth < cLine; omega
  cases r with
  | list h1 h2 h3 h4 =>
    rename_i o vs n xs
    have lz : (listText (PyData.shownAll xs)).length ≤ sizeLine := by simpa only [PyData.shown] using hl
    obtain ⟨bs, b1, b2⟩ := RnAll.shown (prog := prog) (w := w) h4 (by simpa [PyData.showable] using hw) (fun t m => Nat.le_trans (listText_mem_le m) lz)
    obtain ⟨as, r⟩ := Rn.reads (.list h1 h2 h3 h4)
    have out : a ∉ bs := not_mem_of_deeper r (by simp only [PyData.depth]; omega) b1
    refine call_repr_slot hu1 ⟨o, k0 _ _ h1, h2⟩ F.slot_list_repr.toG ?_
    simp only [PyData.depth] at hi
    simp only [PyData.shown] at q1
    obtain ⟨l⟩ := vs
    cases l with
    | nil =>
      cases (show RnAll h₀ [] xs from h4)
      simp only [PyData.shownAll, listText_nil] at q1
      exact call_list_repr_empty ⟨o, k0 _ _ h1, h2⟩ (k0 _ _ h1) h3 (q1 s.heap _ _ fun _ _ e => e)
    | cons x l => exact call_list_reprK h1 h2 h3 out (by simpa using b2.length_eq) (fun i y e => b2.item i y (by simpa using e)) hg (fun b _ => Clear.nil b) hi k0 q1 lz
  | tuple h1 h2 h3 h4 =>
    rename_i o vs n xs
    have lz : (tupleText (PyData.shownAll xs)).length ≤ sizeLine := by simpa only [PyData.shown] using hl
    obtain ⟨bs, b1, b2⟩ := RnAll.shown (prog := prog) (w := w) h4 (by simpa [PyData.showable] using hw) (fun t m => Nat.le_trans (tupleText_mem_le m) lz)
    obtain ⟨as, r⟩ := Rn.reads (.tuple h1 h2 h3 h4)
    have out : a ∉ bs := not_mem_of_deeper r (by simp only [PyData.depth]; omega) b1
    refine call_repr_slot hu1 ⟨o, k0 _ _ h1, h2⟩ F.slot_tuple_repr ?_
    simp only [PyData.depth] at hi
    simp only [PyData.shown] at q1
    exact call_tuple_reprK h1 h2 h3 out b2 hg (fun b _ => Clear.nil b) hi k0 q1 lz
  | dict h1 h2 h3 hs h4 h5 =>
    rename_i o es n kvs
    have lz : (dictText (PyData.shownKv kvs)).length ≤ sizeLine := by simpa only [PyData.shown] using hl
    obtain ⟨w1, w2⟩ := PyData.showableKv_split kvs (by simpa [PyData.showable] using hw)
    obtain ⟨b1, q3, k1⟩ := RnAll.shown (prog := prog) (w := w) h4 w1 fun t m => by
      obtain ⟨p, hp, hl⟩ := PyData.shownKv_key_le kvs t m
      exact Nat.le_trans hl (Nat.le_trans (dictText_mem_le hp) lz)
    obtain ⟨b2, q2, k2⟩ := RnAll.shown (prog := prog) (w := w) h5 w2 fun t m => by
      obtain ⟨p, hp, hl⟩ := PyData.shownKv_val_le kvs t m
      exact Nat.le_trans hl (Nat.le_trans (dictText_mem_le hp) lz)
    obtain ⟨as, r⟩ := Rn.reads (.dict h1 h2 h3 hs h4 h5)
    have qq : ReadAtMost h₀ (PyData.depthKv kvs) (b1 ++ b2) := ReadAtMost.append (q3.mono (PyData.depthAll_keys_le kvs)) (q2.mono (PyData.depthAll_vals_le kvs))
    have out : a ∉ b1 ++ b2 := not_mem_of_deeper r (by simp only [PyData.depth]; omega) qq
    refine call_repr_slot hu1 ⟨o, k0 _ _ h1, h2⟩ F.slot_dict_repr ?_
    simp only [PyData.depth] at hi
    simp only [PyData.shown, PyData.shownKv_eq] at q1
    refine call_dict_reprK h1 h2 h3 hs out (ReprEntriesK.of_two es.toList _ _ ?_ ?_) hg (fun b _ => Clear.nil b) hi k0 q1 (by rw [← PyData.shownKv_eq]; exact lz)
    · exact k1.more_le (fun b hb => List.mem_append_left _ hb) (PyData.depthAll_keys_le kvs)
    · exact k2.more_le (fun b hb => List.mem_append_right _ hb) (PyData.depthAll_vals_le kvs)
end
/-! ### over data -/
def kPy : Key → PyData
  | .inl i => .int i
  | .inr x => .str x
mutual
def toPyX : D → Option PyData
  | .non => some .none
  | .bl b => some (.bool b)
  | .int i => some (.int i)
  | .str x => some (.str x)
  | .tup ds => (toPyXs ds).map .tuple
  | .lst ds => (toPyXs ds).map .list
  | .fzn ds => (toPyXs ds).map .list
  | .dct ks ds => (toPyXs ds).map fun ps => .dict ((ks.map kPy).zip ps)
  | _ => none
def toPyXs : List D → Option (List PyData)
  | [] => some []
  | d :: ds => match toPyX d, toPyXs ds with
    | some p, some ps => some (p :: ps)
    | _, _ => none
end
section
variable {X : Cx} {pins : List (Addr × Obj)} {σ : L2.St} {H : Hp} {M : Mem} {s : Shared}
theorem pairs_keys {es : List DictEntry} {kvs : List (Key × Value)} (h : Pairs (mixKind X.prog X.w) es kvs) {hp : Heap} : RnAll hp (es.map (·.key)) (kvs.map fun q => kPy q.1) ∧ es.map (·.val) = kvs.map (·.2) := by
  induction h with
  | nil => exact ⟨.nil, rfl⟩
  | @cons e kv es kvs h1 h2 _ ih =>
    refine ⟨.cons ?_ ih.1, by rw [List.map_cons, List.map_cons, h2, ih.2]⟩
    rcases keyIs_shape (show keyIs kv.1 e.key = true from h1) with ⟨i, t, a, b⟩ | ⟨x, t, a, b⟩
    · show Rn hp e.key (kPy kv.1)
      rw [a, b]; exact .int i t
    · show Rn hp e.key (kPy kv.1)
      rw [a, b]; exact .str x t
theorem kv_both : ∀ {ks : List Key} {xs : List V} {vs : List (Key × Value)}, ks.length = xs.length → KV (ks.zip xs) vs → vs.map (·.1) = ks ∧ Vals xs (vs.map (·.2))
  | [], [], _, _, .nil => ⟨rfl, .nil⟩
  | k :: ks, x :: xs, _, hl, .cons (b := q) h t => by
    obtain ⟨a, b⟩ := kv_both (by simpa using hl) t
    exact ⟨by rw [List.map_cons, a, ← h.1], .cons h.2 b⟩
mutual
theorem Rv.rn (I : Inv X pins σ H s) : ∀ (d : D) (v : V) (u : Value) (p : PyData), Rv X.K H M d v → RelV v u → toPyX d = some p → Rn s.heap u p
  | .non, v, u, p, h, r, e => by
    obtain rfl : v = .non := h
    obtain rfl : u = .none := r
    cases (show some PyData.none = some p from e); exact .none
  | .bl b, v, u, p, h, r, e => by
    obtain rfl : v = .bl b := h
    obtain rfl : u = .bool b := r
    cases (show some (PyData.bool b) = some p from e); exact .bool b
  | .int b, v, u, p, h, r, e => by
    obtain rfl : v = .int b := h
    obtain ⟨t, rfl⟩ := r
    cases (show some (PyData.int b) = some p from e); exact .int b t
  | .str b, v, u, p, h, r, e => by
    obtain rfl : v = .str b := h
    obtain ⟨t, rfl⟩ := r
    cases (show some (PyData.str b) = some p from e); exact .str b t
  | .tup ds, v, u, p, ⟨a, xs, hv, rt, q⟩, r, e => by
    have e' : (toPyXs ds).map PyData.tuple = some p := e
    cases z : toPyXs ds with
    | none => rw [z] at e'; cases e'
    | some ps =>
      rw [z] at e'; cases e'; subst hv
      obtain rfl : u = .ref a := r
      obtain ⟨its, rv, ⟨o, ho, hc, n, hd⟩, _⟩ := I.tuple rt.sq
      exact .tuple ho hc hd (Rs.rn I ds xs _ ps q rv z)
  | .lst ds, v, u, p, ⟨a, xs, hv, rt, m, q⟩, r, e => by
    have e' : (toPyXs ds).map PyData.list = some p := e
    cases z : toPyXs ds with
    | none => rw [z] at e'; cases e'
    | some ps =>
      rw [z] at e'; cases e'; subst hv
      obtain rfl : u = .ref a := r
      obtain ⟨its, rv, ⟨o, n, ho, hc, _, hd⟩, _⟩ := I.list (SqL.of rt)
      exact .list ho hc hd (Rs.rn I ds xs _ ps q rv z)
  | .fzn ds, v, u, p, ⟨a, xs, hv, rt, q⟩, r, e => by
    have e' : (toPyXs ds).map PyData.list = some p := e
    cases z : toPyXs ds with
    | none => rw [z] at e'; cases e'
    | some ps =>
      rw [z] at e'; cases e'; subst hv
      obtain rfl : u = .ref a := r
      obtain ⟨its, rv, ⟨o, n, ho, hc, _, hd⟩, _⟩ := I.list rt.sq
      exact .list ho hc hd (Rs.rn I ds xs _ ps q rv z)
  | .dct ks ds, v, u, p, ⟨a, kvs, xs, hv, ha, m, ek, hl, q⟩, r, e => by
    have e' : (toPyXs ds).map (fun ps => PyData.dict ((ks.map kPy).zip ps)) = some p := e
    cases z : toPyXs ds with
    | none => rw [z] at e'; cases e'
    | some ps =>
      rw [z] at e'; cases e'; subst hv ek
      obtain rfl : u = .ref a := r
      obtain ⟨_, hs, vs, hkv, o, es, ep, ho, hx, hd, _, hp, _⟩ := (show ObjOk X.prog X.w H s.heap a (.dK (ks.zip xs)) from I.hok a _ ha)
      obtain ⟨k1, k2⟩ := kv_both (by rw [hl, Rs.len q]) hkv
      obtain ⟨p1, p2⟩ := pairs_keys hp (hp := s.heap)
      have hps := Rs.rn I ds xs _ ps q k2 z
      have lps : ps.length = ds.length := by
        have go : ∀ (ds : List D) (ps : List PyData), toPyXs ds = some ps → ps.length = ds.length := by
          intro ds
          induction ds with
          | nil => intro ps e; cases (show some [] = some ps from e); rfl
          | cons d ds ih =>
            intro ps e
            unfold toPyXs at e
            split at e
            · rename_i q qs _ h2
              cases e
              rw [List.length_cons, List.length_cons, ih _ h2]
            · cases e
        exact go ds ps z
      refine .dict ho hx.1 hd hs ?_ ?_
      · have e : ((ks.map kPy).zip ps).map (·.1) = vs.map fun q => kPy q.1 := by
          rw [List.map_fst_zip (by rw [List.length_map, lps, hl]; exact Nat.le_refl _), ← k1, List.map_map]; rfl
        rw [e]; exact p1
      · have e : ((ks.map kPy).zip ps).map (·.2) = ps := List.map_snd_zip (by rw [List.length_map, lps, hl]; exact Nat.le_refl _)
        rw [e, p2]; exact hps
  | .ref _, _, _, _, _, _, e => by cases (show (none : Option PyData) = some _ from e)
  | .ty _, _, _, _, _, _, e => by cases (show (none : Option PyData) = some _ from e)
  | .exn _ _ _, _, _, _, _, _, e => by cases (show (none : Option PyData) = some _ from e)
theorem Rs.rn (I : Inv X pins σ H s) : ∀ (ds : List D) (vs : List V) (us : List Value) (ps : List PyData), Rs X.K H M ds vs → Vals vs us → toPyXs ds = some ps → RnAll s.heap us ps
  | [], vs, us, ps, h, r, e => by
    obtain rfl : vs = [] := h
    cases r
    cases (show some [] = some ps from e); exact .nil
  | d :: ds, _, _, ps, ⟨v, r, rfl, h, q⟩, rv, e => by
    cases rv with
    | cons r1 r2 =>
      unfold toPyXs at e
      split at e
      · rename_i q1 qs h1 h2
        cases e
        exact .cons (Rv.rn I d v _ _ h r1 h1) (Rs.rn I ds r _ _ q r2 h2)
      · cases e
end
def reprX : OC := fun ds M Q => match ds with
  | [d] => match toPyX (vw M d) with
    | some p => ShOk p ∧ Q (.str p.shown) M
    | none => False
  | _ => False
theorem rn_vw (I : Inv X pins σ H s) {d : D} {v : V} {u : Value} {p : PyData} (mo : MOk X.K H M) (rd : Rv X.K H M d v) (ru : RelV v u) (e : toPyX (vw M d) = some p) : Rn s.heap u p := by
  cases d with
  | ref a =>
    have hv : v = .ref a := rd
    subst hv
    rw [vw_ref] at e
    cases q : M a with
    | none => rw [q] at e; cases (show (none : Option PyData) = some _ from e)
    | some o =>
      have z := mo a o q
      rw [q] at e
      obtain rfl : u = .ref a := ru
      cases o with
      | lst ds =>
        obtain ⟨xs, h1, h2⟩ := z
        have e' : (toPyXs ds).map PyData.list = some p := e
        cases z : toPyXs ds with
        | none => rw [z] at e'; cases e'
        | some ps =>
          rw [z] at e'; cases e'
          obtain ⟨its, rv, ⟨o, n, ho, hc, _, hd⟩, _⟩ := I.list (SqL.of h1)
          exact .list ho hc hd (Rs.rn I ds xs _ ps h2 rv z)
      | dct ks ds =>
        obtain ⟨xs, h1, h3, h2⟩ := z
        have g : Gw H M H (M.del a) := gw_less fun b e => by
          by_cases z : b = a
          · subst z; exact Mem.del_same
          · rw [Mem.del_ne z]; exact e
        exact Rv.rn I (M := M.del a) (.dct ks ds) (.ref a) (.ref a) p ⟨a, _, xs, rfl, h1, Mem.del_same, rfl, h3, Rs.grow g ds xs h2⟩ rfl e
      | ins C ns ds => cases (show (none : Option PyData) = some _ from e)
      | gen φ ds => cases (show (none : Option PyData) = some _ from e)
  | _ => exact Rv.rn I _ v u p rd ru e
theorem dc_reprX (hg : X.A.guards = some []) (hu : X.A.units + 64 < cLine) : DC X (.builtin "repr") reprX := by
  intro pins s σ H M xs ds us Q Qd I mo r rv t q
  unfold reprX at t
  split at t
  · rename_i d
    obtain ⟨v, rfl, rd⟩ := rs1 r
    split at t
    · rename_i py hp
      obtain ⟨⟨h1, h2, h3⟩, t⟩ := t
      obtain ⟨u, rfl, ru⟩ := vals1 rv
      have rn := rn_vw I mo rd ru hp
      have fin : ∀ (h' : Heap) (tk : Tok) (t' : Nat), (∀ b o, s.heap.get? b = some o → h'.get? b = some o) → EP X pins σ Q (.str py.shown tk) { s with heap := h', toks := t' } := fun h' tk t' hk =>
        ⟨.str py.shown, H, I.kept hk, ⟨_, rfl⟩, q _ _ (up_same mo t rfl)⟩
      cases rn with
      | none => exact PySem.P.repr_of_none (by have z := fin s.heap s.toks (s.toks + 1) (fun _ _ z => z); simpa only [PyData.shown] using z)
      | bool b => exact PySem.P.repr_of_bool (by have z := fin s.heap s.toks (s.toks + 1) (fun _ _ z => z); simpa only [PyData.shown] using z)
      | int i tk => exact PySem.P.repr_of_int (by simpa [PyData.showable] using h1) (by have z := fin s.heap s.toks (s.toks + 1) (fun _ _ z => z); simpa only [PyData.shown] using z)
      | str y tk => exact PySem.P.repr_of_str (by have z := fin s.heap s.toks (s.toks + 1) (fun _ _ z => z); simpa only [PyData.shown] using z) (by simpa only [PyData.shown] using h2)
      | list a1 a2 a3 a4 => exact repr_rn (.list a1 a2 a3 a4) h1 hg (by omega) (fun _ _ z => z) (fun h' u tk hk => fin h' u tk hk) h2
      | tuple a1 a2 a3 a4 => exact repr_rn (.tuple a1 a2 a3 a4) h1 hg (by omega) (fun _ _ z => z) (fun h' u tk hk => fin h' u tk hk) h2
      | dict a1 a2 a3 a4 a5 a6 => exact repr_rn (.dict a1 a2 a3 a4 a5 a6) h1 hg (by omega) (fun _ _ z => z) (fun h' u tk hk => fin h' u tk hk) h2
    · exact t.elim
  · exact t.elim
end
end DL
set_option maxHeartbeats 1000000
namespace DL
open PySem PySem.Spec PyProof.Rows L2
/-! ### isinstance of anything -/
def isaC (K : Fg) : OC := fun ds M Q => match ds with
  | [.exn C ns es, c] => isxC K [.exn C ns es, c] M Q
  | ds => isiC ds M Q
theorem dc_isa {X : Cx} : DC X (.builtin "isinstance") (isaC X.K) := by
  intro pins s σ H M xs ds us Q Qd I mo r rv t q
  unfold isaC at t
  split at t
  · exact dc_isx pins s σ H M _ _ us Q Qd I mo r rv t q
  · exact dc_isi pins s σ H M _ _ us Q Qd I mo r rv t q
/-! ### what the head tells of a class of exceptions -/
structure ClsF (K : Fg) (C : Addr) : Prop where
  T : OexG K C
  x : XfC K C
  e : ExcC K C
open PySem.W in
def clsBB (K : Fg) (C : Addr) : Bool := hasDictIn K C && (He.eqO (findIn K (.ref C) "__setattr__") (some (some (.builtin "object.__setattr__"))) && (decide (subIn K (.ref C) (.type "BaseException") = some true) && (decide (typeIn K (.ref C) = some (.type "type")) && (keepIn K (.ref C) &&
  (He.eqO (findIn K (.ref C) "__getattribute__") (some (some (.builtin "BaseException.__getattribute__"))) && (He.eqO (findIn K (.ref C) "__getattr__") (some none) && (He.eqO (findIn K (.ref C) "__class__") (some (some (.builtin "object.__class__"))) &&
  (He.eqO (specialIn K (.builtin "object.__class__") "__get__") (some (some (.builtin "getset_descriptor.__get__"))) && (decide (takesIn K (.builtin "object.__class__") = some true) && decide (mroIn K C (.type "object") = some true))))))))))
def leBase : List Value := [.type "LookupError", .type "Exception", .type "BaseException", .type "object"]
def clsVB (K : Fg) (C : Addr) : Bool := PySem.W.excInitIn K C He.veBase "ValueError.__new__" && (PySem.W.excOver K C He.veBase && clsBB K C)
def clsLB (K : Fg) (C : Addr) : Bool := PySem.W.excInitIn K C leBase "LookupError.__new__" && (PySem.W.excOver K C leBase && clsBB K C)
theorem clsBB_ok {K : Fg} {C : Addr} (h : clsBB K C = true) : PySem.W.hasDictIn K C = true ∧ PySem.W.findIn K (.ref C) "__setattr__" = some (some (.builtin "object.__setattr__")) ∧ PySem.W.subIn K (.ref C) (.type "BaseException") = some true ∧
    PySem.W.typeIn K (.ref C) = some (.type "type") ∧ PySem.W.keepIn K (.ref C) = true ∧ XfC K C ∧ ExcC K C := by
  obtain ⟨h1, h⟩ := He.ba h
  obtain ⟨h2, h⟩ := He.ba h
  obtain ⟨h3, h⟩ := He.ba h
  obtain ⟨h4, h⟩ := He.ba h
  obtain ⟨h5, h⟩ := He.ba h
  obtain ⟨h6, h⟩ := He.ba h
  obtain ⟨h7, h⟩ := He.ba h
  obtain ⟨h8, h⟩ := He.ba h
  obtain ⟨h9, h⟩ := He.ba h
  obtain ⟨h10, h11⟩ := He.ba h
  have a3 := of_decide_eq_true h3
  exact ⟨h1, He.eqO_ok h2, a3, of_decide_eq_true h4, h5, ⟨He.eqO_ok h6, He.eqO_ok h7, a3, h1⟩, ⟨He.eqO_ok h6, He.eqO_ok h7, a3, h1, He.eqO_ok h8, He.eqO_ok h9, of_decide_eq_true h10, of_decide_eq_true h11⟩⟩
theorem clsVB_ok {K : Fg} {C : Addr} (h : clsVB K C = true) : ClsF K C := by
  obtain ⟨h1, h⟩ := He.ba h
  obtain ⟨h2, h⟩ := He.ba h
  obtain ⟨a1, a2, a3, a4, a5, a6, a7⟩ := clsBB_ok h
  exact ⟨⟨⟨_, _, _, _, PySem.F.excBase_ValueError, PySem.F.store_ValueError, h1, h2⟩, a1, a2, a3, a4, a5⟩, a6, a7⟩
theorem clsLB_ok {K : Fg} {C : Addr} (h : clsLB K C = true) : ClsF K C := by
  obtain ⟨h1, h⟩ := He.ba h
  obtain ⟨h2, h⟩ := He.ba h
  obtain ⟨a1, a2, a3, a4, a5, a6, a7⟩ := clsBB_ok h
  exact ⟨⟨⟨_, _, _, _, PySem.F.excBase_LookupError, PySem.F.store_LookupError, h1, h2⟩, a1, a2, a3, a4, a5⟩, a6, a7⟩
/-- the classes by number: whether the i-th stands under the j-th, under built-in ones; what is asked of the fields' names -/
def kitBB (K : Fg) (c : Nat → Addr) (n : Nat) (tb : Nat → Nat → Bool) (tys : List (String × (Nat → Bool))) (fds : List Str) : Bool :=
  (List.range n).all fun i => ((List.range n).all fun j => decide (PySem.W.kitOne K (.ref (c i)) (.ref (c j)) = some (tb i j)) && decide (PySem.W.exmOne K (.ref (c i)) (.ref (c j)) = some (tb i j))) &&
    ((tys.all fun t => decide (PySem.W.kitOne K (.ref (c i)) (.type t.1) = some (t.2 i))) && fds.all fun f => He.eqO (PySem.W.findIn K (.ref (c i)) f) (some none))
structure KitF (K : Fg) (c : Nat → Addr) (n : Nat) (tb : Nat → Nat → Bool) (tys : List (String × (Nat → Bool))) (fds : List Str) : Prop where
  kit : ∀ {i j : Nat}, i < n → j < n → PySem.W.kitOne K (.ref (c i)) (.ref (c j)) = some (tb i j)
  exm : ∀ {i j : Nat}, i < n → j < n → PySem.W.exmOne K (.ref (c i)) (.ref (c j)) = some (tb i j)
  ty : ∀ {i : Nat} {t : String × (Nat → Bool)}, i < n → t ∈ tys → PySem.W.kitOne K (.ref (c i)) (.type t.1) = some (t.2 i)
  no : ∀ {i : Nat} {f : Str}, i < n → f ∈ fds → PySem.W.findIn K (.ref (c i)) f = some none
theorem kitBB_ok {K : Fg} {c : Nat → Addr} {n : Nat} {tb : Nat → Nat → Bool} {tys : List (String × (Nat → Bool))} {fds : List Str} (h : kitBB K c n tb tys fds = true) : KitF K c n tb tys fds := by
  have h := fun {i : Nat} (hi : i < n) => List.all_eq_true.mp h i (List.mem_range.mpr hi)
  refine ⟨fun hi hj => ?_, fun hi hj => ?_, fun hi ht => ?_, fun hi hf => ?_⟩
  · obtain ⟨a, _⟩ := He.ba (h hi)
    exact of_decide_eq_true (He.ba (List.all_eq_true.mp a _ (List.mem_range.mpr hj))).1
  · obtain ⟨a, _⟩ := He.ba (h hi)
    exact of_decide_eq_true (He.ba (List.all_eq_true.mp a _ (List.mem_range.mpr hj))).2
  · obtain ⟨_, a⟩ := He.ba (h hi)
    exact of_decide_eq_true (List.all_eq_true.mp (He.ba a).1 _ ht)
  · obtain ⟨_, a⟩ := He.ba (h hi)
    exact He.eqO_ok (List.all_eq_true.mp (He.ba a).2 _ hf)
/-- made by name: how the arguments lie -/
theorem binds_kw {K : Fg} {x qual : Str} {st : Stmt} {f : Addr} {fd : FuncData} {ps ks : List Str} {pm : Prm} (F : Fun K x qual st f fd)
    (h : ∀ (kV doc pv : Value) (an : Option Addr) (cdv ct self : Value) (ws : List Value), ws.length = ks.length → bindArgs (PySem.W.fnOf x qual (defArgs st) (defBody st) (defScope st) .none kV doc pv an cdv ct) ⟨[self], ks.zip ws⟩ = pure (ps.zip (self :: pm.f ws))) :
    ∀ (s : Shared) (self : Value) (ws : List Value), K.In s.heap → ws.length = ks.length → BindsTo s fd ⟨[self], ks.zip ws⟩ (ps.zip (self :: pm.f ws)) := by
  obtain ⟨oc, od, kV, doc, pv, an, cdv, ct, osl, rfl, lk, hcd⟩ := F.ex
  exact fun s self ws _ hl => .of_eq (h kV doc pv an cdv ct self ws hl)
/-! ### calls within an except suite: what is called there lets nothing out -/
structure RoomQ (k : Nat) (A : Around) : Prop where
  dp : A.depth + 3 * k + 5 < recursionLimit
  un : A.units + 16 * k + 200 < cLine
  g : A.guards = some []
theorem RoomG.q {k : Nat} {A : Around} (h : RoomG k A) : RoomQ k A := ⟨h.r.dp, h.r.un, h.g⟩
theorem RoomQ.mono {j k : Nat} {A : Around} (h : RoomQ k A) (le : j ≤ k) : RoomQ j A := ⟨by have := h.dp; omega, by have := h.un; omega, h.g⟩
theorem RoomQ.mark {k : Nat} {A : Around} (h : RoomQ k A) (v : Option Value) : RoomQ k (A.mark v) := ⟨h.dp, h.un, h.g⟩
theorem RoomQ.deeper {k : Nat} {A : Around} (h : RoomQ (k + 1) A) (env : Env) : RoomQ k (A.deeper env) :=
  ⟨by have := h.dp; show A.depth + 1 + 3 * k + 5 < _; omega, by have := h.un; show A.units + 3 + 16 * k + 200 < _; omega, h.g⟩
theorem RoomQ.units {k : Nat} {A : Around} (r : RoomQ k A) : A.units + 64 < cLine := by have := r.un; omega
structure DFnQ (P : Program) (w : World) (K : Fg) (mg : Str → Option Value) (base : Heap) (k : Nat) (f : Addr) (fd : FuncData) (ps : List Str) (sp : SpD) : Prop where
  run : ∀ (A : Around) (outer : List Env) (s : Shared) (H : Hp) (M : Mem) (args : Args) (us : List Value) (vs : List V) (ds : List D) (Qd : QD) (Xd : XD) (Q : VK) (E : XK), RoomQ k A → Env0 P w K mg base A outer s H → ds.length = ps.length → BindsTo s fd args (ps.zip us) → Vals vs us → MOk K H M → Rs K H M ds vs →
    sp ds M Qd Xd → (∀ v H', upE K H M Qd v H' → Q v H') → XTo K H M Xd E → codeAny (model P w) A (.call (.ref f) args) (CR (L2.CX P w) outer P w H s Q E) s
def cxQ (P : Program) (w : World) (K : Fg) (mg : Str → Option Value) (base : Heap) (N : List Str) (qual : Str) (scope : Scope) (f : Addr) (cd : Value) (A : Around) (outer : List Env) (s : Shared) (H : Hp) (E : XK) : Cx :=
  { cxOf (L2.CX P w) P w K mg base N qual scope f cd A outer s H E with calm := false }
theorem dfnq_of {P : Program} {w : World} {K : Fg} {mg : Str → Option Value} {base : Heap} {x qual : Str} {st : Stmt} {f : Addr} {fd : FuncData} {N ps : List Str} {k : Nat} {td : TSD} (F : Fun K x qual st f fd) (S : FnScope N ps (defScope st))
    (hbody : ∀ (cdv : Value) (A : Around) (outer : List Env) (s : Shared) (H : Hp) (E : XK), RoomQ k (A.deeper (envOfC qual (defScope st) s.heap.objs.size f cdv)) →
      DSs (cxQ P w K mg base N qual (defScope st) f cdv A outer s H E) E (defBody st) td) : DFnQ P w K mg base (k + 1) f fd ps (bodyD td N) := by
  obtain ⟨oc, od, kV, doc, pm, an, cdv, ct, osl, rfl, lk, hcd⟩ := F.ex
  refine ⟨fun A outer s H M args us vs ds Qd Xd Q E hr e0 hlen hb r mo rs hsp hq hx => ?_⟩
  have hl : vs.length = ps.length := (vlen rs).trans hlen
  have KX : K.In s.heap := e0.mod.kin.keeps fun b o e => (e0.bs b o e).1
  have lim : s.heap.NoLimit := e0.mod.nolimit.keeps fun b o e => (e0.bs b o e).1
  have hkind : ∀ y ∈ ps.zip us, (defScope st).names.lookup y.1 = some .local ∨ ((defScope st).names.lookup y.1 = some .cell ∧ ((cellsFrom (s.heap.objs.size + 1) (defScope st).names []).lookup y.1).isSome = true) := fun ⟨n, v⟩ hy => by
    rcases S.par n (List.of_mem_zip hy).1 with q | q
    · exact .inl q
    · exact .inr ⟨q, PySem.W.cellsFrom_some _ _ _ (.inl q)⟩
  refine codeAny_call_function (show A.depth < recursionLimit by have := hr.dp; omega) (KX _ _ lk) rfl S.co S.gen rfl (PySem.W.codeRec_of KX hcd) (hb _ _ _ _ ?_)
  refine wpAny_newFunctionEnv_cells S.kind hkind fun env he s1 x => ?_
  subst he
  refine ⟨lim.keeps x.toInCall.keep, codeAny_func ?_⟩
  have ht := hbody cdv A outer s H E (hr.deeper _)
  have I0 : Inv (cxOf (L2.CX P w) P w K mg base N qual (defScope st) f cdv { A with handled := none } outer s H E) [] (L2.start N vs) H s1 := inv_start (A := { A with handled := none }) S rfl ⟨e0.1, e0.2, e0.3, e0.4, e0.5, e0.6, e0.7, e0.8⟩ hl r x
  have I : Inv (cxQ P w K mg base N qual (defScope st) f cdv A outer s H E) [] (L2.start N vs) H s1 :=
    ⟨⟨I0.ok.mod, I0.ok.kind, I0.ok.glob, I0.ok.blt, I0.ok.above, I0.ok.inj, I0.ok.has, I0.ok.cab, (fun z => Bool.noConfusion (show false = true from z)), Around.frames_deeper e0.frames, I0.ok.stk, I0.ok.exf, I0.ok.bs, I0.ok.bsz, I0.ok.noex, I0.ok.exfs, I0.ok.funs, I0.ok.frf⟩,
      I0.os, I0.bare, I0.base, I0.loc, I0.cell, I0.free, I0.freeC, I0.pin, I0.hok, I0.len⟩
  refine wpAny_mono (ht.ok.run [] s1 (L2.start N vs) H { nx := fun _ H' => Q .non H', rt := Q } I ?_) (fun fl s' hs => ?_) fun e s' hs => hs
  · refine ⟨startD N ds, M, { nx := fun _ M' => Lo Qd .non M', rt := Lo Qd, bk := fun _ _ => False, ct := fun _ _ => False, ex := Xd }, start_ok mo rs, hx, hsp, fun σ' H' ⟨s', M', g, S', q⟩ => ?_, fun v H' ⟨d, M', g, m, rd, q⟩ => ?_, fun σ' H' ⟨s', M', g, S', q⟩ => q.elim, fun σ' H' ⟨s', M', g, S', q⟩ => q.elim⟩
    · obtain ⟨d2, M2, l, q⟩ := q
      exact hq _ _ (l.up g S'.mem rfl q)
    · obtain ⟨d2, M2, l, q⟩ := q
      exact hq _ _ (l.up g m rd q)
  have fin : ∀ {σ' : L2.St} {H' : Hp} {v : V} {u : Value}, Inv (cxQ P w K mg base N qual (defScope st) f cdv A outer s H E) [] σ' H' s' → RelV v u → Q v H' → CE outer P w H s Q u s' :=
    fun {σ' H' v u} J rv q => ⟨v, H', J.os, J.bare, J.base, J.hok, rv, q⟩
  cases fl with
  | ret u =>
    obtain ⟨v, σ', H', J, rv, q⟩ := hs
    exact fin J rv q
  | next =>
    obtain ⟨σ', H', J, q⟩ := hs
    exact fin (v := V.non) (u := Value.none) J rfl q
  | brk =>
    obtain ⟨_, _, _, q⟩ := hs
    exact False.elim q
  | cont =>
    obtain ⟨_, _, _, q⟩ := hs
    exact False.elim q
section
variable {X : Cx} {E : XK} {n k : Nat} {f : Addr} {fd : FuncData} {ps : List Str} {sp : SpD} {x : Str} {p pos : Pos} {e : Expr} {es : List Expr} {ts : TAD}
/-- a call within an except suite -/
theorem de_callQ (F : DFnQ X.prog X.w X.K X.mg X.base k f fd ps sp) (hr : RoomQ k X.A) (hg : Gl X x) (hm : X.mg x = some (.ref f)) (hk : PySem.W.keepIn X.K (.ref f) = true) (hb : Binds X.K fd ps [])
    (ha : DN X (fun _ _ _ => False) n (e :: es) ts) (hn : n = ps.length := by rfl) (hdb : (x == ("__debug__" : Str)) = false := by decide) (he : starEach (e :: es) X.env = (false, eval e X.env) :: starEach es X.env := by rfl) (hpl : (backTo pos (starEach es X.env)).any (·.1) = false := by rfl) :
    DE X (fun _ _ _ => False) (.Call (.Name x p) (e :: es) [] pos) (dCall sp [] ts) := by
  refine ⟨⟨fun pins s σ H Q I ⟨sd, M, Qd, Xd, S, xt, t, q⟩ => ?_⟩⟩
  refine wpAny_Call_Name_kw (ld_glob I hg hm ?_ hdb)
  refine PySem.W.callWith_K (h₀ := X.base) I.ok.mod.kin hk (thn (ha.ok.run pos pins s σ H _ I (useN (n := n) (Q := fun vs H1 => vs.length = n ∧ ∃ ds M1, Gw H M H1 M1 ∧ StOk X.K σ H1 sd M1 ∧ XTo X.K H1 M1 Xd (fun _ _ _ => False) ∧ Rs X.K H1 M1 ds vs ∧ sp (ds ++ []) M1 Qd Xd) S xt t
    fun ds vs M1 H1 hl g1 S1 x1 r1 t1 => ⟨hl, ds, M1, g1, S1, x1, r1, t1⟩)) fun us s1 ⟨vs, H1, I1, r, hl, ds, M1, g1, S1, x1, r1, t1⟩ => ⟨I1.kIn, ?_⟩) he hpl
  rw [List.append_nil] at t1
  have hlen : ds.length = ps.length := by rw [Rs.len r1, hl]; exact hn
  have hlu : us.length = ps.length := by rw [← r.length, hl]; exact hn
  refine wpAny_call (codeAny_mono (F.run X.A X.stack s1 H1 M1 ⟨us, []⟩ (us ++ []) vs ds Qd Xd _ (fun _ _ _ => False) hr I1.env0 hlen (hb s1 us I1.kIn (by rw [List.append_nil]; exact hlu)) (by rw [List.append_nil]; exact r) S1.mem r1 t1 (fwd g1 q) x1) fun r s' hq => ?_)
  cases r with
  | error e => obtain ⟨_, _, _, _, _, _, _, _, _, _, _, _, z⟩ := hq; exact z.elim
  | ok fl =>
    cases fl with
    | ret u => exact I1.after hq
    | next => exact False.elim hq
    | brk => exact False.elim hq
    | cont => exact False.elim hq
end
end DL
namespace DL
open PySem PySem.Spec PyProof.Rows L2
def sRaiseX (C : Addr) (ns : List Str) (t : TAD) : TSD := sRaise C ns fun _ s M Q => t (fun _ _ _ _ => False) s M Q
theorem huq {k : Nat} {A : Around} (h : RoomQ k A) : A.units + 1 < cLine := by have := h.un; omega
/-! ### a class of exceptions without own __init__, called with one thing -/
structure K0 (K : Fg) (C : Addr) : Prop where
  ex : ∃ (B newId initId : String) (bmB : List Value), ExcBaseFacts B newId initId bmB ∧ PySem.W.excIn K C bmB newId = true
  kp : PySem.W.keepIn K (.ref C) = true
def k0B (K : Fg) (C : Addr) (v : Bool) : Bool := (if v = true then PySem.W.excIn K C He.veBase "ValueError.__new__" else PySem.W.excIn K C leBase "LookupError.__new__") && PySem.W.keepIn K (.ref C)
theorem k0B_ok {K : Fg} {C : Addr} {v : Bool} (h : k0B K C v = true) : K0 K C := by
  obtain ⟨h1, h2⟩ := He.ba h
  cases v with
  | true => exact ⟨⟨_, _, _, _, PySem.F.excBase_ValueError, h1⟩, h2⟩
  | false => exact ⟨⟨_, _, _, _, PySem.F.excBase_LookupError, h1⟩, h2⟩
def dMk0 (C : Addr) (t : TED) : TED := fun Xd s M Q => t Xd s M fun _ M1 => Q (.exn C [] []) M1
theorem de_mk0 {X : Cx} {E : XK} {C : Addr} {x : Str} {e : Expr} {te : TED} {p pos : Pos} (Z : K0 X.K C) (hg : Gl X x) (hm : X.mg x = some (.ref C)) (he : DE X E e te)
    (hs : starEach [e] X.env = (false, eval e X.env) :: starEach [] X.env := by rfl) (hdb : (x == ("__debug__" : Str)) = false := by decide) : DE X E (.Call (.Name x p) [e] [] pos) (dMk0 C te) := by
  obtain ⟨B, newId, initId, bmB, F, q⟩ := Z.ex
  exact ⟨PE.imp (pe_exc1 F q hm Z.kp hg he.ok hs hdb) fun σ H Q ⟨s, M, Qd, Xd, S, xt, t, q⟩ => by
    refine useE S xt t fun d v M1 H1 g1 S1 x1 r1 t1 a ha => ?_
    exact q _ _ ⟨.exn C [] [], M1, g1.trans (gw_new ha), mok_new S1.mem ha, .inr ⟨rfl, rfl, a, rfl, upd_same, m_none S1.mem ha⟩, t1⟩⟩
end DL
namespace DL
open PySem PySem.Spec PyProof.Rows L2
/-! ### a display that is never changed is told whole -/
def dFz (te : TED) : TED := fun Xd s M Q => te Xd s M fun d M1 => match d with
  | .ref p => (match M1 p with
    | some (.dct ks ds) => Q (.dct ks ds) (M1.del p)
    | some (.lst ds) => Q (.lst ds) (M1.del p)
    | _ => False)
  | _ => False
theorem de_fz {X : Cx} {E : XK} {e : Expr} {te : TED} (he : DE X E e te) : DE X E e (dFz te) := ⟨PE.imp he.ok fun σ H Q ⟨s, M, Qd, Xd, S, x, t, q⟩ => by
  refine useE S x t fun d v M1 H1 g1 S1 x1 r1 t1 => ?_
  split at t1
  · rename_i p
    have sub : ∀ b o, (M1.del p) b = some o → M1 b = some o := fun b o e => by
      by_cases z : b = p
      · subst z; rw [Mem.del_same] at e; cases e
      · rw [Mem.del_ne z] at e; exact e
    have nn : ∀ b, M1 b = none → (M1.del p) b = none := fun b e => by
      by_cases z : b = p
      · subst z; exact Mem.del_same
      · rw [Mem.del_ne z]; exact e
    have g2 : Gw H1 M1 H1 (M1.del p) := gw_less nn
    have hv : v = .ref p := r1
    subst hv
    split at t1
    · rename_i ks ds hm
      obtain ⟨xs, h1, h2, h3⟩ := S1.mem p _ hm
      exact q _ _ ⟨.dct ks ds, M1.del p, g1.trans g2, mok_less sub nn S1.mem, ⟨p, _, xs, rfl, h1, Mem.del_same, rfl, h2, Rs.grow g2 _ _ h3⟩, t1⟩
    · rename_i ds hm
      obtain ⟨xs, h1, h3⟩ := S1.mem p _ hm
      exact q _ _ ⟨.lst ds, M1.del p, g1.trans g2, mok_less sub nn S1.mem, ⟨p, xs, rfl, h1, Mem.del_same, Rs.grow g2 _ _ h3⟩, t1⟩
    · exact t1.elim
  · exact t1.elim⟩
theorem put_del {M : Mem} {p : Addr} {o : MO} (h : M p = none) : (M.put p o).del p = M := by
  funext b
  by_cases z : b = p
  · subst z; rw [Mem.del_same, h]
  · rw [Mem.del_ne z, Mem.put_ne z]
theorem w_fzN {Xd : XD} {s : SD} {M : Mem} {Q : QD} (h : Q (.dct [] []) M) : dFz dDctN Xd s M Q := fun p hp => by
  show (match (M.put p (.dct [] [])) p with
    | some (.dct ks ds) => Q (.dct ks ds) ((M.put p (.dct [] [])).del p)
    | some (.lst ds) => Q (.lst ds) ((M.put p (.dct [] [])).del p)
    | _ => False)
  rw [Mem.put_same]
  show Q (.dct [] []) ((M.put p (.dct [] [])).del p)
  rw [put_del hp]; exact h
end DL
namespace DL
open PySem PySem.Spec PyProof.Rows L2
theorem de_cls {X : Cx} {E : XK} {x : Str} {a : Addr} {pos : Pos} (hg : Gl X x) (hm : X.mg x = some (.ref a)) (hd : (x == ("__debug__" : Str)) = false := by decide) : DE X E (.Name x pos) (dC (.ref a)) :=
  ⟨PE.imp (pe_glob (v := .ref a) hg hm rfl hd) fun σ H Q ⟨s, M, Qd, Xd, S, x, t, q⟩ => q (.ref a) H ⟨.ref a, M, Gw.refl, S.mem, rfl, t⟩⟩
end DL
set_option maxHeartbeats 4000000
namespace G_madeofhere_k01_errors
open PySem PySem.Spec PyProof.Rows L2 DL
def tb : Nat → Nat → Bool := fun i j => ([[0], [0, 1], [0, 2], [0, 3], [0, 4], [0, 5], [0, 6], [0, 7], [0, 8], [0, 9], [0, 10], [11]].getD i []).contains j
def tys : List (String × (Nat → Bool)) := [("ArithmeticError", fun i => [].contains i), ("LookupError", fun i => [11].contains i), ("TypeError", fun i => [].contains i), ("ValueError", fun i => [0, 1, 2, 3, 4, 5, 6, 7, 8, 9, 10].contains i)]
def fds : List Str := ["line", "number", "part", "value"]
structure CF (K : Fg) (c : Nat → Addr) : Prop where
  cf : ∀ {i : Nat}, i < 12 → ClsF K (c i)
  kf : KitF K c 12 tb tys fds
def N__law_begun : List Str := ["script", "great", "cell"]
def B_law_begun (K : Fg) (c : Nat → Addr) : TSD := sSeq (sSet 1 (dLc (iSeqD (dVar 0)) (gNm 2) (dTst (dOp geD (dVar 2) (dOp powD (dC (.int 10)) (dC (.int 18))))) (dVar 2) [2])) (sRet (dDct [(.inr "cells", dOp addD (dCB listC (dCons (dVar 0) (dNil))) (dLst (dCons (dCB lenC (dCons (dVar 0) (dNil))) (dNil)))), (.inr "left", dIte (dTst (dOp neD (dVar 1) (dLst (dNil)))) (dOp ixD (dVar 1) (dC (.int 0))) (dC (.int 0))), (.inr "spot", dC (.int 0))]))
def W_law_begun (K : Fg) (c : Nat → Addr) : SpD := bodyD (B_law_begun K c) N__law_begun
theorem E_law_begun {K : Fg} {c : Nat → Addr} {a0 : D} {M : Mem} {Q : QD} {Xd : XD} (h : (sSeq (sSet 1 (dLc (iSeqD (dVar 0)) (gNm 2) (dTst (dOp geD (dVar 2) (dOp powD (dC (.int 10)) (dC (.int 18))))) (dVar 2) [2])) (sRet (dDct [(.inr "cells", dOp addD (dCB listC (dCons (dVar 0) (dNil))) (dLst (dCons (dCB lenC (dCons (dVar 0) (dNil))) (dNil)))), (.inr "left", dIte (dTst (dOp neD (dVar 1) (dLst (dNil)))) (dOp ixD (dVar 1) (dC (.int 0))) (dC (.int 0))), (.inr "spot", dC (.int 0))]))) ⟨fun _ M' => Lo Q .non M', Lo Q, fun _ _ => False, fun _ _ => False, Xd⟩ [some a0, none, none] M) : W_law_begun K c [a0] M Q Xd := h
def N__law_draw : List Str := ["m", "limit", "found", "spot", "cell", "mixed"]
def B_law_draw (K : Fg) (c : Nat → Addr) : TSD := sSeq (sIf (dTst (dOp gtD (dOp ixD (dVar 0) (dC (.str "left"))) (dC (.int 0)))) (sSeq (sSet 2 (dOp modD (dCB intC (dCons (dOp ixD (dVar 0) (dC (.str "left"))) (dNil))) (dVar 1))) (sSeq (sAsg (dOp fdivD (dOp ixD (dVar 0) (dC (.str "left"))) (dVar 1)) (gSb (dVar 0) (dC (.str "left")))) (sRet (dVar 2)))) (sNx)) (sSeq (sSet 3 (dOp addD (dOp ixD (dVar 0) (dC (.str "spot"))) (dC (.int 1)))) (sSeq (sAsg (dVar 3) (gSb (dVar 0) (dC (.str "spot")))) (sSeq (sSet 4 (dOp ixD (dOp ixD (dVar 0) (dC (.str "cells"))) (dOp modD (dCB intC (dCons (dVar 3) (dNil))) (dCB lenC (dCons (dOp ixD (dVar 0) (dC (.str "cells"))) (dNil)))))) (sSeq (sSet 5 (dOp mulD (dCB intC (dCons (dOp addD (dOp addD (dOp modD (dCB intC (dCons (dVar 4) (dNil))) (dC (.int 2147483629))) (dOp mulD (dC (.int 6133)) (dVar 3))) (dOp mulD (dOp mulD (dC (.int 23)) (dVar 3)) (dVar 3))) (dNil))) (dC (.int 48271)))) (sSeq (sSet 5 (dOp mulD (dCB intC (dCons (dOp addD (dOp modD (dCB intC (dCons (dVar 5) (dNil))) (dC (.int 2147483647))) (dOp mulD (dC (.int 93241)) (dVar 3))) (dNil))) (dC (.int 69621)))) (sRet (dOp modD (dCB intC (dCons (dOp fdivD (dOp modD (dCB intC (dCons (dVar 5) (dNil))) (dC (.int 2147483587))) (dC (.int 13))) (dNil))) (dVar 1))))))))
def W_law_draw (K : Fg) (c : Nat → Addr) : SpD := bodyD (B_law_draw K c) N__law_draw
theorem E_law_draw {K : Fg} {c : Nat → Addr} {a0 a1 : D} {M : Mem} {Q : QD} {Xd : XD} (h : (sSeq (sIf (dTst (dOp gtD (dOp ixD (dVar 0) (dC (.str "left"))) (dC (.int 0)))) (sSeq (sSet 2 (dOp modD (dCB intC (dCons (dOp ixD (dVar 0) (dC (.str "left"))) (dNil))) (dVar 1))) (sSeq (sAsg (dOp fdivD (dOp ixD (dVar 0) (dC (.str "left"))) (dVar 1)) (gSb (dVar 0) (dC (.str "left")))) (sRet (dVar 2)))) (sNx)) (sSeq (sSet 3 (dOp addD (dOp ixD (dVar 0) (dC (.str "spot"))) (dC (.int 1)))) (sSeq (sAsg (dVar 3) (gSb (dVar 0) (dC (.str "spot")))) (sSeq (sSet 4 (dOp ixD (dOp ixD (dVar 0) (dC (.str "cells"))) (dOp modD (dCB intC (dCons (dVar 3) (dNil))) (dCB lenC (dCons (dOp ixD (dVar 0) (dC (.str "cells"))) (dNil)))))) (sSeq (sSet 5 (dOp mulD (dCB intC (dCons (dOp addD (dOp addD (dOp modD (dCB intC (dCons (dVar 4) (dNil))) (dC (.int 2147483629))) (dOp mulD (dC (.int 6133)) (dVar 3))) (dOp mulD (dOp mulD (dC (.int 23)) (dVar 3)) (dVar 3))) (dNil))) (dC (.int 48271)))) (sSeq (sSet 5 (dOp mulD (dCB intC (dCons (dOp addD (dOp modD (dCB intC (dCons (dVar 5) (dNil))) (dC (.int 2147483647))) (dOp mulD (dC (.int 93241)) (dVar 3))) (dNil))) (dC (.int 69621)))) (sRet (dOp modD (dCB intC (dCons (dOp fdivD (dOp modD (dCB intC (dCons (dVar 5) (dNil))) (dC (.int 2147483587))) (dC (.int 13))) (dNil))) (dVar 1))))))))) ⟨fun _ M' => Lo Q .non M', Lo Q, fun _ _ => False, fun _ _ => False, Xd⟩ [some a0, some a1, none, none, none, none] M) : W_law_draw K c [a0, a1] M Q Xd := h
def N__law_of : List Str := ["m", "some"]
def B_law_of (K : Fg) (c : Nat → Addr) : TSD := sRet (dOp ixD (dVar 1) (dCall (W_law_draw K c) [] (dCons (dVar 0) (dCons (dCB lenC (dCons (dVar 1) (dNil))) (dNil)))))
def W_law_of (K : Fg) (c : Nat → Addr) : SpD := bodyD (B_law_of K c) N__law_of
theorem E_law_of {K : Fg} {c : Nat → Addr} {a0 a1 : D} {M : Mem} {Q : QD} {Xd : XD} (h : (sRet (dOp ixD (dVar 1) (dCall (W_law_draw K c) [] (dCons (dVar 0) (dCons (dCB lenC (dCons (dVar 1) (dNil))) (dNil)))))) ⟨fun _ M' => Lo Q .non M', Lo Q, fun _ _ => False, fun _ _ => False, Xd⟩ [some a0, some a1] M) : W_law_of K c [a0, a1] M Q Xd := h
def N__law_pairs : List Str := ["thing", "found"]
def B_law_pairs (K : Fg) (c : Nat → Addr) : TSD := sSeq (sSet 1 (dLst (dCons (dTup (dCons (dMk (c 2) ["number"] (dCons (dVar 0) (dNil))) (dCons (dMkK (c 2) ["number"] prmId (dCons (dVar 0) (dNil))) (dNil)))) (dCons (dTup (dCons (dMk (c 9) ["number"] (dCons (dVar 0) (dNil))) (dCons (dMkK (c 9) ["number"] prmId (dCons (dVar 0) (dNil))) (dNil)))) (dNil))))) (sSeq (sSet 1 (dOp addD (dVar 1) (dLst (dCons (dTup (dCons (dMk (c 10) ["number"] (dCons (dVar 0) (dNil))) (dCons (dMkK (c 10) ["number"] prmId (dCons (dVar 0) (dNil))) (dNil)))) (dCons (dTup (dCons (dMk (c 3) ["value"] (dCons (dVar 0) (dNil))) (dCons (dMkK (c 3) ["value"] prmId (dCons (dVar 0) (dNil))) (dNil)))) (dNil)))))) (sSeq (sSet 1 (dOp addD (dVar 1) (dLst (dCons (dTup (dCons (dMk (c 4) ["value"] (dCons (dVar 0) (dNil))) (dCons (dMkK (c 4) ["value"] prmId (dCons (dVar 0) (dNil))) (dNil)))) (dCons (dTup (dCons (dMk (c 7) ["value"] (dCons (dVar 0) (dNil))) (dCons (dMkK (c 7) ["value"] prmId (dCons (dVar 0) (dNil))) (dNil)))) (dNil)))))) (sSeq (sSet 1 (dOp addD (dVar 1) (dLst (dCons (dTup (dCons (dMk (c 8) ["value"] (dCons (dVar 0) (dNil))) (dCons (dMkK (c 8) ["value"] prmId (dCons (dVar 0) (dNil))) (dNil)))) (dCons (dTup (dCons (dMk (c 11) ["value"] (dCons (dVar 0) (dNil))) (dCons (dMkK (c 11) ["value"] prmId (dCons (dVar 0) (dNil))) (dNil)))) (dNil)))))) (sRet (dOp addD (dVar 1) (dLst (dCons (dTup (dCons (dMk (c 5) ["part"] (dCons (dVar 0) (dNil))) (dCons (dMkK (c 5) ["part"] prmId (dCons (dVar 0) (dNil))) (dNil)))) (dCons (dTup (dCons (dMk (c 6) ["line"] (dCons (dVar 0) (dNil))) (dCons (dMkK (c 6) ["line"] prmId (dCons (dVar 0) (dNil))) (dNil)))) (dNil)))))))))
def W_law_pairs (K : Fg) (c : Nat → Addr) : SpD := bodyD (B_law_pairs K c) N__law_pairs
theorem E_law_pairs {K : Fg} {c : Nat → Addr} {a0 : D} {M : Mem} {Q : QD} {Xd : XD} (h : (sSeq (sSet 1 (dLst (dCons (dTup (dCons (dMk (c 2) ["number"] (dCons (dVar 0) (dNil))) (dCons (dMkK (c 2) ["number"] prmId (dCons (dVar 0) (dNil))) (dNil)))) (dCons (dTup (dCons (dMk (c 9) ["number"] (dCons (dVar 0) (dNil))) (dCons (dMkK (c 9) ["number"] prmId (dCons (dVar 0) (dNil))) (dNil)))) (dNil))))) (sSeq (sSet 1 (dOp addD (dVar 1) (dLst (dCons (dTup (dCons (dMk (c 10) ["number"] (dCons (dVar 0) (dNil))) (dCons (dMkK (c 10) ["number"] prmId (dCons (dVar 0) (dNil))) (dNil)))) (dCons (dTup (dCons (dMk (c 3) ["value"] (dCons (dVar 0) (dNil))) (dCons (dMkK (c 3) ["value"] prmId (dCons (dVar 0) (dNil))) (dNil)))) (dNil)))))) (sSeq (sSet 1 (dOp addD (dVar 1) (dLst (dCons (dTup (dCons (dMk (c 4) ["value"] (dCons (dVar 0) (dNil))) (dCons (dMkK (c 4) ["value"] prmId (dCons (dVar 0) (dNil))) (dNil)))) (dCons (dTup (dCons (dMk (c 7) ["value"] (dCons (dVar 0) (dNil))) (dCons (dMkK (c 7) ["value"] prmId (dCons (dVar 0) (dNil))) (dNil)))) (dNil)))))) (sSeq (sSet 1 (dOp addD (dVar 1) (dLst (dCons (dTup (dCons (dMk (c 8) ["value"] (dCons (dVar 0) (dNil))) (dCons (dMkK (c 8) ["value"] prmId (dCons (dVar 0) (dNil))) (dNil)))) (dCons (dTup (dCons (dMk (c 11) ["value"] (dCons (dVar 0) (dNil))) (dCons (dMkK (c 11) ["value"] prmId (dCons (dVar 0) (dNil))) (dNil)))) (dNil)))))) (sRet (dOp addD (dVar 1) (dLst (dCons (dTup (dCons (dMk (c 5) ["part"] (dCons (dVar 0) (dNil))) (dCons (dMkK (c 5) ["part"] prmId (dCons (dVar 0) (dNil))) (dNil)))) (dCons (dTup (dCons (dMk (c 6) ["line"] (dCons (dVar 0) (dNil))) (dCons (dMkK (c 6) ["line"] prmId (dCons (dVar 0) (dNil))) (dNil)))) (dNil)))))))))) ⟨fun _ M' => Lo Q .non M', Lo Q, fun _ _ => False, fun _ _ => False, Xd⟩ [some a0, none] M) : W_law_pairs K c [a0] M Q Xd := h
def N__law_marks : List Str := ["error", "found"]
def B_law_marks (K : Fg) (c : Nat → Addr) : TSD := sSeq (sSet 1 (dLst (dCons (dCB (isaC K) (dCons (dVar 0) (dCons (dC (.ref (c 2))) (dNil)))) (dCons (dCB (isaC K) (dCons (dVar 0) (dCons (dC (.ref (c 9))) (dNil)))) (dCons (dCB (isaC K) (dCons (dVar 0) (dCons (dC (.ref (c 10))) (dNil)))) (dNil)))))) (sSeq (sSet 1 (dOp addD (dVar 1) (dLst (dCons (dCB (isaC K) (dCons (dVar 0) (dCons (dC (.ref (c 3))) (dNil)))) (dCons (dCB (isaC K) (dCons (dVar 0) (dCons (dC (.ref (c 4))) (dNil)))) (dCons (dCB (isaC K) (dCons (dVar 0) (dCons (dC (.ref (c 7))) (dNil)))) (dNil))))))) (sSeq (sSet 1 (dOp addD (dVar 1) (dLst (dCons (dCB (isaC K) (dCons (dVar 0) (dCons (dC (.ref (c 8))) (dNil)))) (dCons (dCB (isaC K) (dCons (dVar 0) (dCons (dC (.ref (c 11))) (dNil)))) (dCons (dCB (isaC K) (dCons (dVar 0) (dCons (dC (.ref (c 5))) (dNil)))) (dNil))))))) (sRet (dOp addD (dVar 1) (dLst (dCons (dCB (isaC K) (dCons (dVar 0) (dCons (dC (.ref (c 6))) (dNil)))) (dCons (dCB (isaC K) (dCons (dVar 0) (dCons (dC (.ref (c 1))) (dNil)))) (dNil))))))))
def W_law_marks (K : Fg) (c : Nat → Addr) : SpD := bodyD (B_law_marks K c) N__law_marks
theorem E_law_marks {K : Fg} {c : Nat → Addr} {a0 : D} {M : Mem} {Q : QD} {Xd : XD} (h : (sSeq (sSet 1 (dLst (dCons (dCB (isaC K) (dCons (dVar 0) (dCons (dC (.ref (c 2))) (dNil)))) (dCons (dCB (isaC K) (dCons (dVar 0) (dCons (dC (.ref (c 9))) (dNil)))) (dCons (dCB (isaC K) (dCons (dVar 0) (dCons (dC (.ref (c 10))) (dNil)))) (dNil)))))) (sSeq (sSet 1 (dOp addD (dVar 1) (dLst (dCons (dCB (isaC K) (dCons (dVar 0) (dCons (dC (.ref (c 3))) (dNil)))) (dCons (dCB (isaC K) (dCons (dVar 0) (dCons (dC (.ref (c 4))) (dNil)))) (dCons (dCB (isaC K) (dCons (dVar 0) (dCons (dC (.ref (c 7))) (dNil)))) (dNil))))))) (sSeq (sSet 1 (dOp addD (dVar 1) (dLst (dCons (dCB (isaC K) (dCons (dVar 0) (dCons (dC (.ref (c 8))) (dNil)))) (dCons (dCB (isaC K) (dCons (dVar 0) (dCons (dC (.ref (c 11))) (dNil)))) (dCons (dCB (isaC K) (dCons (dVar 0) (dCons (dC (.ref (c 5))) (dNil)))) (dNil))))))) (sRet (dOp addD (dVar 1) (dLst (dCons (dCB (isaC K) (dCons (dVar 0) (dCons (dC (.ref (c 6))) (dNil)))) (dCons (dCB (isaC K) (dCons (dVar 0) (dCons (dC (.ref (c 1))) (dNil)))) (dNil))))))))) ⟨fun _ M' => Lo Q .non M', Lo Q, fun _ _ => False, fun _ _ => False, Xd⟩ [some a0, none] M) : W_law_marks K c [a0] M Q Xd := h
def N__law_above : List Str := ["error", "found"]
def B_law_above (K : Fg) (c : Nat → Addr) : TSD := sSeq (sSet 1 (dLst (dCons (dCB (isaC K) (dCons (dVar 0) (dCons (dC (.ref (c 0))) (dNil)))) (dCons (dCB (isaC K) (dCons (dVar 0) (dCons (dC (.ty "ValueError")) (dNil)))) (dCons (dCB (isaC K) (dCons (dVar 0) (dCons (dC (.ty "LookupError")) (dNil)))) (dNil)))))) (sRet (dOp addD (dVar 1) (dLst (dCons (dCB (isaC K) (dCons (dVar 0) (dCons (dC (.ty "TypeError")) (dNil)))) (dCons (dCB (isaC K) (dCons (dVar 0) (dCons (dC (.ty "ArithmeticError")) (dNil)))) (dNil))))))
def W_law_above (K : Fg) (c : Nat → Addr) : SpD := bodyD (B_law_above K c) N__law_above
theorem E_law_above {K : Fg} {c : Nat → Addr} {a0 : D} {M : Mem} {Q : QD} {Xd : XD} (h : (sSeq (sSet 1 (dLst (dCons (dCB (isaC K) (dCons (dVar 0) (dCons (dC (.ref (c 0))) (dNil)))) (dCons (dCB (isaC K) (dCons (dVar 0) (dCons (dC (.ty "ValueError")) (dNil)))) (dCons (dCB (isaC K) (dCons (dVar 0) (dCons (dC (.ty "LookupError")) (dNil)))) (dNil)))))) (sRet (dOp addD (dVar 1) (dLst (dCons (dCB (isaC K) (dCons (dVar 0) (dCons (dC (.ty "TypeError")) (dNil)))) (dCons (dCB (isaC K) (dCons (dVar 0) (dCons (dC (.ty "ArithmeticError")) (dNil)))) (dNil))))))) ⟨fun _ M' => Lo Q .non M', Lo Q, fun _ _ => False, fun _ _ => False, Xd⟩ [some a0, none] M) : W_law_above K c [a0] M Q Xd := h
def N__law_field : List Str := ["error", "spot"]
def B_law_field (K : Fg) (c : Nat → Addr) : TSD := sSeq (sIf (dTst (dOp ltD (dVar 1) (dC (.int 3)))) (sRet (dFd K "number" (dVar 0))) (sNx)) (sSeq (sIf (dTst (dOp ltD (dVar 1) (dC (.int 8)))) (sRet (dFd K "value" (dVar 0))) (sNx)) (sRet (dIte (dTst (dOp eqD (dVar 1) (dC (.int 8)))) (dFd K "part" (dVar 0)) (dFd K "line" (dVar 0)))))
def W_law_field (K : Fg) (c : Nat → Addr) : SpD := bodyD (B_law_field K c) N__law_field
theorem E_law_field {K : Fg} {c : Nat → Addr} {a0 a1 : D} {M : Mem} {Q : QD} {Xd : XD} (h : (sSeq (sIf (dTst (dOp ltD (dVar 1) (dC (.int 3)))) (sRet (dFd K "number" (dVar 0))) (sNx)) (sSeq (sIf (dTst (dOp ltD (dVar 1) (dC (.int 8)))) (sRet (dFd K "value" (dVar 0))) (sNx)) (sRet (dIte (dTst (dOp eqD (dVar 1) (dC (.int 8)))) (dFd K "part" (dVar 0)) (dFd K "line" (dVar 0)))))) ⟨fun _ M' => Lo Q .non M', Lo Q, fun _ _ => False, fun _ _ => False, Xd⟩ [some a0, some a1] M) : W_law_field K c [a0, a1] M Q Xd := h
def N__law_right : List Str := ["thing", "other", "pairs", "spot", "both", "above", "error", "k"]
def B_law_right (K : Fg) (c : Nat → Addr) : TSD := sSeq (sSet 2 (dCall (W_law_pairs K c) [] (dCons (dVar 0) (dNil)))) (sSeq (sFor (iEnmB (dVar 2)) (gTp 2 (gCo (gNm 3) (gCo (gNm 4) (gNi)))) (sSeq (sSet 5 (dIte (dTst (dOp eqD (dVar 3) (dC (.int 7)))) (dLst (dCons (dC (.bl false)) (dCons (dC (.bl false)) (dCons (dC (.bl true)) (dCons (dC (.bl false)) (dCons (dC (.bl false)) (dNil))))))) (dLst (dCons (dC (.bl true)) (dCons (dC (.bl true)) (dCons (dC (.bl false)) (dCons (dC (.bl false)) (dCons (dC (.bl false)) (dNil))))))))) (sFor (iSeqD (dVar 4)) (gNm 6) (sSeq (sIf (tOrD (dTst (dOp neD (dCall (W_law_marks K c) [] (dCons (dVar 6) (dNil))) (dLc (iRngD (dCons (dC (.int 11)) (dNil))) (gNm 7) (tYesD) (dOp eqD (dVar 7) (dVar 3)) [7]))) (dTst (dOp neD (dCall (W_law_above K c) [] (dCons (dVar 6) (dNil))) (dVar 5)))) (sRet (dC (.bl false))) (sNx)) (sIf (dTst (dOp neD (dCB reprX (dCons (dCall (W_law_field K c) [] (dCons (dVar 6) (dCons (dVar 3) (dNil)))) (dNil))) (dCB reprX (dCons (dVar 0) (dNil))))) (sRet (dC (.bl false))) (sNx)))))) (sSeq (sFor (iSeqD (dTup (dCons (dMk (c 1) ["part", "number"] (dCons (dVar 0) (dCons (dVar 1) (dNil)))) (dCons (dMkK (c 1) ["part", "number"] prmSw (dCons (dVar 1) (dCons (dVar 0) (dNil)))) (dNil))))) (gNm 6) (sSeq (sIf (tOrD (dTst (dOp neD (dCall (W_law_marks K c) [] (dCons (dVar 6) (dNil))) (dOp addD (dOp mulD (dLst (dCons (dC (.bl false)) (dNil))) (dC (.int 10))) (dLst (dCons (dC (.bl true)) (dNil)))))) (dTst (dOp neD (dCall (W_law_above K c) [] (dCons (dVar 6) (dNil))) (dLst (dCons (dC (.bl true)) (dCons (dC (.bl true)) (dCons (dC (.bl false)) (dCons (dC (.bl false)) (dCons (dC (.bl false)) (dNil)))))))))) (sRet (dC (.bl false))) (sNx)) (sIf (dTst (dOp neD (dCB reprX (dCons (dLst (dCons (dFd K "number" (dVar 6)) (dCons (dFd K "part" (dVar 6)) (dNil)))) (dNil))) (dCB reprX (dCons (dLst (dCons (dVar 0) (dCons (dVar 1) (dNil)))) (dNil))))) (sRet (dC (.bl false))) (sNx)))) (sRet (dOp eqD (dCB lenC (dCons (dVar 2) (dNil))) (dC (.int 10))))))
def W_law_right (K : Fg) (c : Nat → Addr) : SpD := bodyD (B_law_right K c) N__law_right
theorem E_law_right {K : Fg} {c : Nat → Addr} {a0 a1 : D} {M : Mem} {Q : QD} {Xd : XD} (h : (sSeq (sSet 2 (dCall (W_law_pairs K c) [] (dCons (dVar 0) (dNil)))) (sSeq (sFor (iEnmB (dVar 2)) (gTp 2 (gCo (gNm 3) (gCo (gNm 4) (gNi)))) (sSeq (sSet 5 (dIte (dTst (dOp eqD (dVar 3) (dC (.int 7)))) (dLst (dCons (dC (.bl false)) (dCons (dC (.bl false)) (dCons (dC (.bl true)) (dCons (dC (.bl false)) (dCons (dC (.bl false)) (dNil))))))) (dLst (dCons (dC (.bl true)) (dCons (dC (.bl true)) (dCons (dC (.bl false)) (dCons (dC (.bl false)) (dCons (dC (.bl false)) (dNil))))))))) (sFor (iSeqD (dVar 4)) (gNm 6) (sSeq (sIf (tOrD (dTst (dOp neD (dCall (W_law_marks K c) [] (dCons (dVar 6) (dNil))) (dLc (iRngD (dCons (dC (.int 11)) (dNil))) (gNm 7) (tYesD) (dOp eqD (dVar 7) (dVar 3)) [7]))) (dTst (dOp neD (dCall (W_law_above K c) [] (dCons (dVar 6) (dNil))) (dVar 5)))) (sRet (dC (.bl false))) (sNx)) (sIf (dTst (dOp neD (dCB reprX (dCons (dCall (W_law_field K c) [] (dCons (dVar 6) (dCons (dVar 3) (dNil)))) (dNil))) (dCB reprX (dCons (dVar 0) (dNil))))) (sRet (dC (.bl false))) (sNx)))))) (sSeq (sFor (iSeqD (dTup (dCons (dMk (c 1) ["part", "number"] (dCons (dVar 0) (dCons (dVar 1) (dNil)))) (dCons (dMkK (c 1) ["part", "number"] prmSw (dCons (dVar 1) (dCons (dVar 0) (dNil)))) (dNil))))) (gNm 6) (sSeq (sIf (tOrD (dTst (dOp neD (dCall (W_law_marks K c) [] (dCons (dVar 6) (dNil))) (dOp addD (dOp mulD (dLst (dCons (dC (.bl false)) (dNil))) (dC (.int 10))) (dLst (dCons (dC (.bl true)) (dNil)))))) (dTst (dOp neD (dCall (W_law_above K c) [] (dCons (dVar 6) (dNil))) (dLst (dCons (dC (.bl true)) (dCons (dC (.bl true)) (dCons (dC (.bl false)) (dCons (dC (.bl false)) (dCons (dC (.bl false)) (dNil)))))))))) (sRet (dC (.bl false))) (sNx)) (sIf (dTst (dOp neD (dCB reprX (dCons (dLst (dCons (dFd K "number" (dVar 6)) (dCons (dFd K "part" (dVar 6)) (dNil)))) (dNil))) (dCB reprX (dCons (dLst (dCons (dVar 0) (dCons (dVar 1) (dNil)))) (dNil))))) (sRet (dC (.bl false))) (sNx)))) (sRet (dOp eqD (dCB lenC (dCons (dVar 2) (dNil))) (dC (.int 10))))))) ⟨fun _ M' => Lo Q .non M', Lo Q, fun _ _ => False, fun _ _ => False, Xd⟩ [some a0, some a1, none, none, none, none, none, none] M) : W_law_right K c [a0, a1] M Q Xd := h
def N_law : List Str := ["script", "some", "m", "lap", "found", "e", "plain"]
def Blaw (K : Fg) (c : Nat → Addr) : TSD := sSeq (sSet 1 (dLst (dCons (dC .non) (dCons (dC (.int 0)) (dCons (dNeg (dC (.int 1))) (dCons (dC (.bl true)) (dCons (dC (.str "")) (dCons (dC (.str "form")) (dCons (dTup (dNil)) (dCons (dTup (dCons (dC (.int 1)) (dCons (dC (.int 2)) (dNil)))) (dCons (dTup (dCons (dTup (dCons (dC (.int 0)) (dCons (dC (.int 1)) (dNil)))) (dCons (dC (.int 0)) (dNil)))) (dCons (dLst (dCons (dC (.int 1)) (dNil))) (dCons (dLst (dCons (dLst (dNil)) (dNil))) (dCons (dFz (dDctN)) (dCons (dFz (dDct [(.inr "a", dC (.int 1))])) (dCons (dOp powD (dC (.int 10)) (dC (.int 30))) (dCons (dC (.str "a b")) (dNil)))))))))))))))))) (sSeq (sSet 2 (dCall (W_law_begun K c) [] (dCons (dVar 0) (dNil)))) (sSeq (sFor (iRngD (dCons (dOp addD (dC (.int 3)) (dCB (int2C (fun i j => if j < i then j else i)) (dCons (dC (.int 9)) (dCons (dCB lenC (dCons (dVar 0) (dNil))) (dNil))))) (dNil))) (gNm 3) (sSeq (sIf (tNotD (dTru (dCall (W_law_right K c) [] (dCons (dCall (W_law_of K c) [] (dCons (dVar 2) (dCons (dVar 1) (dNil)))) (dCons (dCall (W_law_of K c) [] (dCons (dVar 2) (dCons (dVar 1) (dNil)))) (dNil)))))) (sRet (dC (.bl false))) (sNx)) (sIf (tNotD (dTru (dCall (W_law_right K c) [] (dCons (dTup (dCons (dCall (W_law_draw K c) [] (dCons (dVar 2) (dCons (dC (.int 99)) (dNil)))) (dCons (dCall (W_law_of K c) [] (dCons (dVar 2) (dCons (dVar 1) (dNil)))) (dNil)))) (dCons (dCall (W_law_of K c) [] (dCons (dVar 2) (dCons (dVar 1) (dNil)))) (dNil)))))) (sRet (dC (.bl false))) (sNx)))) (sSeq (sSet 4 (dLstO (dNil))) (sSeq (sTry K (sRaiseX (c 1) ["part", "number"] (dCons (dC (.int 0)) (dCons (dC (.str "form")) (dNil)))) [⟨[.ref (c 0)], some 5, sExpr (dApp (dVar 4) (dVar 5))⟩]) (sSeq (sSet 6 (dMk0 (c 0) (dC (.str "no good")))) (sSeq (sIf (dTst (dOp neD (dCall (W_law_above K c) [] (dCons (dVar 6) (dNil))) (dLst (dCons (dC (.bl true)) (dCons (dC (.bl true)) (dCons (dC (.bl false)) (dCons (dC (.bl false)) (dCons (dC (.bl false)) (dNil))))))))) (sRet (dC (.bl false))) (sNx)) (sRet (dAnd (dOp eqD (dCall (W_law_marks K c) [] (dCons (dVar 6) (dNil))) (dOp mulD (dLst (dCons (dC (.bl false)) (dNil))) (dC (.int 11)))) (dOp eqD (dCB lenC (dCons (dVar 4) (dNil))) (dC (.int 1)))))))))))
def Wlaw (K : Fg) (c : Nat → Addr) : SpD := bodyD (Blaw K c) N_law
theorem Elaw {K : Fg} {c : Nat → Addr} {a0 : D} {M : Mem} {Q : QD} {Xd : XD} (h : (sSeq (sSet 1 (dLst (dCons (dC .non) (dCons (dC (.int 0)) (dCons (dNeg (dC (.int 1))) (dCons (dC (.bl true)) (dCons (dC (.str "")) (dCons (dC (.str "form")) (dCons (dTup (dNil)) (dCons (dTup (dCons (dC (.int 1)) (dCons (dC (.int 2)) (dNil)))) (dCons (dTup (dCons (dTup (dCons (dC (.int 0)) (dCons (dC (.int 1)) (dNil)))) (dCons (dC (.int 0)) (dNil)))) (dCons (dLst (dCons (dC (.int 1)) (dNil))) (dCons (dLst (dCons (dLst (dNil)) (dNil))) (dCons (dFz (dDctN)) (dCons (dFz (dDct [(.inr "a", dC (.int 1))])) (dCons (dOp powD (dC (.int 10)) (dC (.int 30))) (dCons (dC (.str "a b")) (dNil)))))))))))))))))) (sSeq (sSet 2 (dCall (W_law_begun K c) [] (dCons (dVar 0) (dNil)))) (sSeq (sFor (iRngD (dCons (dOp addD (dC (.int 3)) (dCB (int2C (fun i j => if j < i then j else i)) (dCons (dC (.int 9)) (dCons (dCB lenC (dCons (dVar 0) (dNil))) (dNil))))) (dNil))) (gNm 3) (sSeq (sIf (tNotD (dTru (dCall (W_law_right K c) [] (dCons (dCall (W_law_of K c) [] (dCons (dVar 2) (dCons (dVar 1) (dNil)))) (dCons (dCall (W_law_of K c) [] (dCons (dVar 2) (dCons (dVar 1) (dNil)))) (dNil)))))) (sRet (dC (.bl false))) (sNx)) (sIf (tNotD (dTru (dCall (W_law_right K c) [] (dCons (dTup (dCons (dCall (W_law_draw K c) [] (dCons (dVar 2) (dCons (dC (.int 99)) (dNil)))) (dCons (dCall (W_law_of K c) [] (dCons (dVar 2) (dCons (dVar 1) (dNil)))) (dNil)))) (dCons (dCall (W_law_of K c) [] (dCons (dVar 2) (dCons (dVar 1) (dNil)))) (dNil)))))) (sRet (dC (.bl false))) (sNx)))) (sSeq (sSet 4 (dLstO (dNil))) (sSeq (sTry K (sRaiseX (c 1) ["part", "number"] (dCons (dC (.int 0)) (dCons (dC (.str "form")) (dNil)))) [⟨[.ref (c 0)], some 5, sExpr (dApp (dVar 4) (dVar 5))⟩]) (sSeq (sSet 6 (dMk0 (c 0) (dC (.str "no good")))) (sSeq (sIf (dTst (dOp neD (dCall (W_law_above K c) [] (dCons (dVar 6) (dNil))) (dLst (dCons (dC (.bl true)) (dCons (dC (.bl true)) (dCons (dC (.bl false)) (dCons (dC (.bl false)) (dCons (dC (.bl false)) (dNil))))))))) (sRet (dC (.bl false))) (sNx)) (sRet (dAnd (dOp eqD (dCall (W_law_marks K c) [] (dCons (dVar 6) (dNil))) (dOp mulD (dLst (dCons (dC (.bl false)) (dNil))) (dC (.int 11)))) (dOp eqD (dCB lenC (dCons (dVar 4) (dNil))) (dC (.int 1)))))))))))) ⟨fun _ M' => Lo Q .non M', Lo Q, fun _ _ => False, fun _ _ => False, Xd⟩ [some a0, none, none, none, none, none, none] M) : Wlaw K c [a0] M Q Xd := h
end G_madeofhere_k01_errors
set_option maxHeartbeats 4000000
namespace G_madeofhere_k01_errors
open PySem PySem.Spec PyProof.Rows L2 DL
def topS (i : Nat) : Stmt := PySem.Challenge.pw_madeofhere_k01_errors.main.body.getD i (.Pass ⟨0, 0, 0, 0⟩)
def methS (i j : Nat) : Stmt := match topS i with
  | .ClassDef _ _ _ b _ _ _ _ _ _ _ => b.getD j (.Pass ⟨0, 0, 0, 0⟩)
  | s => s
abbrev st__law_begun : Stmt := topS 14
theorem sc__law_begun : FnScope N__law_begun ["script"] (defScope st__law_begun) := ⟨rfl, rfl, rfl, by decide +kernel, rfl, by decide +kernel, by decide +kernel⟩
abbrev st__law_draw : Stmt := topS 15
theorem sc__law_draw : FnScope N__law_draw ["m", "limit"] (defScope st__law_draw) := ⟨rfl, rfl, rfl, by decide +kernel, rfl, by decide +kernel, by decide +kernel⟩
abbrev st__law_of : Stmt := topS 16
theorem sc__law_of : FnScope N__law_of ["m", "some"] (defScope st__law_of) := ⟨rfl, rfl, rfl, by decide +kernel, rfl, by decide +kernel, by decide +kernel⟩
abbrev st__law_pairs : Stmt := topS 17
theorem sc__law_pairs : FnScope N__law_pairs ["thing"] (defScope st__law_pairs) := ⟨rfl, rfl, rfl, by decide +kernel, rfl, by decide +kernel, by decide +kernel⟩
abbrev st__law_marks : Stmt := topS 18
theorem sc__law_marks : FnScope N__law_marks ["error"] (defScope st__law_marks) := ⟨rfl, rfl, rfl, by decide +kernel, rfl, by decide +kernel, by decide +kernel⟩
abbrev st__law_above : Stmt := topS 19
theorem sc__law_above : FnScope N__law_above ["error"] (defScope st__law_above) := ⟨rfl, rfl, rfl, by decide +kernel, rfl, by decide +kernel, by decide +kernel⟩
abbrev st__law_field : Stmt := topS 20
theorem sc__law_field : FnScope N__law_field ["error", "spot"] (defScope st__law_field) := ⟨rfl, rfl, rfl, by decide +kernel, rfl, by decide +kernel, by decide +kernel⟩
abbrev st__law_right : Stmt := topS 21
theorem sc__law_right : FnScope N__law_right ["thing", "other"] (defScope st__law_right) := ⟨rfl, rfl, rfl, by decide +kernel, rfl, by decide +kernel, by decide +kernel⟩
abbrev st_law : Stmt := topS 22
theorem sc_law : FnScope N_law ["script"] (defScope st_law) := ⟨rfl, rfl, rfl, by decide +kernel, rfl, by decide +kernel, by decide +kernel⟩
abbrev st_BadGood : Stmt := methS 2 0
theorem sc_BadGood : FnScope ["self", "number", "part"] ["self", "number", "part"] (defScope st_BadGood) := ⟨rfl, rfl, rfl, by decide +kernel, rfl, by decide +kernel, by decide +kernel⟩
abbrev st_BadPrices : Stmt := methS 3 0
theorem sc_BadPrices : FnScope ["self", "number"] ["self", "number"] (defScope st_BadPrices) := ⟨rfl, rfl, rfl, by decide +kernel, rfl, by decide +kernel, by decide +kernel⟩
abbrev st_BadWords : Stmt := methS 4 0
theorem sc_BadWords : FnScope ["self", "value"] ["self", "value"] (defScope st_BadWords) := ⟨rfl, rfl, rfl, by decide +kernel, rfl, by decide +kernel, by decide +kernel⟩
abbrev st_BadNumber : Stmt := methS 5 0
theorem sc_BadNumber : FnScope ["self", "value"] ["self", "value"] (defScope st_BadNumber) := ⟨rfl, rfl, rfl, by decide +kernel, rfl, by decide +kernel, by decide +kernel⟩
abbrev st_BadPaper : Stmt := methS 6 0
theorem sc_BadPaper : FnScope ["self", "part"] ["self", "part"] (defScope st_BadPaper) := ⟨rfl, rfl, rfl, by decide +kernel, rfl, by decide +kernel, by decide +kernel⟩
abbrev st_BadText : Stmt := methS 7 0
theorem sc_BadText : FnScope ["self", "line"] ["self", "line"] (defScope st_BadText) := ⟨rfl, rfl, rfl, by decide +kernel, rfl, by decide +kernel, by decide +kernel⟩
abbrev st_BadFraction : Stmt := methS 8 0
theorem sc_BadFraction : FnScope ["self", "value"] ["self", "value"] (defScope st_BadFraction) := ⟨rfl, rfl, rfl, by decide +kernel, rfl, by decide +kernel, by decide +kernel⟩
abbrev st_BadChange : Stmt := methS 9 0
theorem sc_BadChange : FnScope ["self", "value"] ["self", "value"] (defScope st_BadChange) := ⟨rfl, rfl, rfl, by decide +kernel, rfl, by decide +kernel, by decide +kernel⟩
abbrev st_BadMenu : Stmt := methS 10 0
theorem sc_BadMenu : FnScope ["self", "number"] ["self", "number"] (defScope st_BadMenu) := ⟨rfl, rfl, rfl, by decide +kernel, rfl, by decide +kernel, by decide +kernel⟩
abbrev st_BadSeen : Stmt := methS 11 0
theorem sc_BadSeen : FnScope ["self", "number"] ["self", "number"] (defScope st_BadSeen) := ⟨rfl, rfl, rfl, by decide +kernel, rfl, by decide +kernel, by decide +kernel⟩
abbrev st_Nothing : Stmt := methS 12 0
theorem sc_Nothing : FnScope ["self", "value"] ["self", "value"] (defScope st_Nothing) := ⟨rfl, rfl, rfl, by decide +kernel, rfl, by decide +kernel, by decide +kernel⟩
structure Adr where
  cls : Nat → Addr
  a_BadGood : Addr
  d_BadGood : FuncData
  a_BadPrices : Addr
  d_BadPrices : FuncData
  a_BadWords : Addr
  d_BadWords : FuncData
  a_BadNumber : Addr
  d_BadNumber : FuncData
  a_BadPaper : Addr
  d_BadPaper : FuncData
  a_BadText : Addr
  d_BadText : FuncData
  a_BadFraction : Addr
  d_BadFraction : FuncData
  a_BadChange : Addr
  d_BadChange : FuncData
  a_BadMenu : Addr
  d_BadMenu : FuncData
  a_BadSeen : Addr
  d_BadSeen : FuncData
  a_Nothing : Addr
  d_Nothing : FuncData
  a__law_begun : Addr
  d__law_begun : FuncData
  a__law_draw : Addr
  d__law_draw : FuncData
  a__law_of : Addr
  d__law_of : FuncData
  a__law_pairs : Addr
  d__law_pairs : FuncData
  a__law_marks : Addr
  d__law_marks : FuncData
  a__law_above : Addr
  d__law_above : FuncData
  a__law_field : Addr
  d__law_field : FuncData
  a__law_right : Addr
  d__law_right : FuncData
  a_law : Addr
  d_law : FuncData
structure Txt (K : Fg) (mg : Str → Option Value) (A : Adr) : Prop where
  F__law_begun : Fun K "_law_begun" "_law_begun" st__law_begun A.a__law_begun A.d__law_begun
  g__law_begun : mg "_law_begun" = some (.ref A.a__law_begun)
  b__law_begun : Binds K A.d__law_begun ["script"] []
  F__law_draw : Fun K "_law_draw" "_law_draw" st__law_draw A.a__law_draw A.d__law_draw
  g__law_draw : mg "_law_draw" = some (.ref A.a__law_draw)
  b__law_draw : Binds K A.d__law_draw ["m", "limit"] []
  F__law_of : Fun K "_law_of" "_law_of" st__law_of A.a__law_of A.d__law_of
  g__law_of : mg "_law_of" = some (.ref A.a__law_of)
  b__law_of : Binds K A.d__law_of ["m", "some"] []
  F__law_pairs : Fun K "_law_pairs" "_law_pairs" st__law_pairs A.a__law_pairs A.d__law_pairs
  g__law_pairs : mg "_law_pairs" = some (.ref A.a__law_pairs)
  b__law_pairs : Binds K A.d__law_pairs ["thing"] []
  F__law_marks : Fun K "_law_marks" "_law_marks" st__law_marks A.a__law_marks A.d__law_marks
  g__law_marks : mg "_law_marks" = some (.ref A.a__law_marks)
  b__law_marks : Binds K A.d__law_marks ["error"] []
  F__law_above : Fun K "_law_above" "_law_above" st__law_above A.a__law_above A.d__law_above
  g__law_above : mg "_law_above" = some (.ref A.a__law_above)
  b__law_above : Binds K A.d__law_above ["error"] []
  F__law_field : Fun K "_law_field" "_law_field" st__law_field A.a__law_field A.d__law_field
  g__law_field : mg "_law_field" = some (.ref A.a__law_field)
  b__law_field : Binds K A.d__law_field ["error", "spot"] []
  F__law_right : Fun K "_law_right" "_law_right" st__law_right A.a__law_right A.d__law_right
  g__law_right : mg "_law_right" = some (.ref A.a__law_right)
  b__law_right : Binds K A.d__law_right ["thing", "other"] []
  F_law : Fun K "law" "law" st_law A.a_law A.d_law
  g_law : mg "law" = some (.ref A.a_law)
  b_law : Binds K A.d_law ["script"] []
  g_MakeError : mg "MakeError" = some (.ref (A.cls 0))
  g_BadGood : mg "BadGood" = some (.ref (A.cls 1))
  g_BadPrices : mg "BadPrices" = some (.ref (A.cls 2))
  g_BadWords : mg "BadWords" = some (.ref (A.cls 3))
  g_BadNumber : mg "BadNumber" = some (.ref (A.cls 4))
  g_BadPaper : mg "BadPaper" = some (.ref (A.cls 5))
  g_BadText : mg "BadText" = some (.ref (A.cls 6))
  g_BadFraction : mg "BadFraction" = some (.ref (A.cls 7))
  g_BadChange : mg "BadChange" = some (.ref (A.cls 8))
  g_BadMenu : mg "BadMenu" = some (.ref (A.cls 9))
  g_BadSeen : mg "BadSeen" = some (.ref (A.cls 10))
  g_Nothing : mg "Nothing" = some (.ref (A.cls 11))
  C : CF K A.cls
  k0_MakeError : K0 K (A.cls 0)
  F_BadGood : Fun K "__init__" "BadGood.__init__" st_BadGood A.a_BadGood A.d_BadGood
  i_BadGood : PySem.W.findIn K (.ref (A.cls 1)) "__init__" = some (some (.ref A.a_BadGood))
  t_BadGood : PySem.W.typeIn K (.ref A.a_BadGood) = some (.type "function")
  b_BadGood : Binds K A.d_BadGood ["self", "number", "part"] []
  F_BadPrices : Fun K "__init__" "BadPrices.__init__" st_BadPrices A.a_BadPrices A.d_BadPrices
  i_BadPrices : PySem.W.findIn K (.ref (A.cls 2)) "__init__" = some (some (.ref A.a_BadPrices))
  t_BadPrices : PySem.W.typeIn K (.ref A.a_BadPrices) = some (.type "function")
  b_BadPrices : Binds K A.d_BadPrices ["self", "number"] []
  F_BadWords : Fun K "__init__" "BadWords.__init__" st_BadWords A.a_BadWords A.d_BadWords
  i_BadWords : PySem.W.findIn K (.ref (A.cls 3)) "__init__" = some (some (.ref A.a_BadWords))
  t_BadWords : PySem.W.typeIn K (.ref A.a_BadWords) = some (.type "function")
  b_BadWords : Binds K A.d_BadWords ["self", "value"] []
  F_BadNumber : Fun K "__init__" "BadNumber.__init__" st_BadNumber A.a_BadNumber A.d_BadNumber
  i_BadNumber : PySem.W.findIn K (.ref (A.cls 4)) "__init__" = some (some (.ref A.a_BadNumber))
  t_BadNumber : PySem.W.typeIn K (.ref A.a_BadNumber) = some (.type "function")
  b_BadNumber : Binds K A.d_BadNumber ["self", "value"] []
  F_BadPaper : Fun K "__init__" "BadPaper.__init__" st_BadPaper A.a_BadPaper A.d_BadPaper
  i_BadPaper : PySem.W.findIn K (.ref (A.cls 5)) "__init__" = some (some (.ref A.a_BadPaper))
  t_BadPaper : PySem.W.typeIn K (.ref A.a_BadPaper) = some (.type "function")
  b_BadPaper : Binds K A.d_BadPaper ["self", "part"] []
  F_BadText : Fun K "__init__" "BadText.__init__" st_BadText A.a_BadText A.d_BadText
  i_BadText : PySem.W.findIn K (.ref (A.cls 6)) "__init__" = some (some (.ref A.a_BadText))
  t_BadText : PySem.W.typeIn K (.ref A.a_BadText) = some (.type "function")
  b_BadText : Binds K A.d_BadText ["self", "line"] []
  F_BadFraction : Fun K "__init__" "BadFraction.__init__" st_BadFraction A.a_BadFraction A.d_BadFraction
  i_BadFraction : PySem.W.findIn K (.ref (A.cls 7)) "__init__" = some (some (.ref A.a_BadFraction))
  t_BadFraction : PySem.W.typeIn K (.ref A.a_BadFraction) = some (.type "function")
  b_BadFraction : Binds K A.d_BadFraction ["self", "value"] []
  F_BadChange : Fun K "__init__" "BadChange.__init__" st_BadChange A.a_BadChange A.d_BadChange
  i_BadChange : PySem.W.findIn K (.ref (A.cls 8)) "__init__" = some (some (.ref A.a_BadChange))
  t_BadChange : PySem.W.typeIn K (.ref A.a_BadChange) = some (.type "function")
  b_BadChange : Binds K A.d_BadChange ["self", "value"] []
  F_BadMenu : Fun K "__init__" "BadMenu.__init__" st_BadMenu A.a_BadMenu A.d_BadMenu
  i_BadMenu : PySem.W.findIn K (.ref (A.cls 9)) "__init__" = some (some (.ref A.a_BadMenu))
  t_BadMenu : PySem.W.typeIn K (.ref A.a_BadMenu) = some (.type "function")
  b_BadMenu : Binds K A.d_BadMenu ["self", "number"] []
  F_BadSeen : Fun K "__init__" "BadSeen.__init__" st_BadSeen A.a_BadSeen A.d_BadSeen
  i_BadSeen : PySem.W.findIn K (.ref (A.cls 10)) "__init__" = some (some (.ref A.a_BadSeen))
  t_BadSeen : PySem.W.typeIn K (.ref A.a_BadSeen) = some (.type "function")
  b_BadSeen : Binds K A.d_BadSeen ["self", "number"] []
  F_Nothing : Fun K "__init__" "Nothing.__init__" st_Nothing A.a_Nothing A.d_Nothing
  i_Nothing : PySem.W.findIn K (.ref (A.cls 11)) "__init__" = some (some (.ref A.a_Nothing))
  t_Nothing : PySem.W.typeIn K (.ref A.a_Nothing) = some (.type "function")
  b_Nothing : Binds K A.d_Nothing ["self", "value"] []
  z_ArithmeticError : mg "ArithmeticError" = none
  z_LookupError : mg "LookupError" = none
  z_TypeError : mg "TypeError" = none
  z_ValueError : mg "ValueError" = none
  z_enumerate : mg "enumerate" = none
  z_int : mg "int" = none
  z_isinstance : mg "isinstance" = none
  z_len : mg "len" = none
  z_list : mg "list" = none
  z_min : mg "min" = none
  z_range : mg "range" = none
  z_repr : mg "repr" = none
section
variable {P : Program} {w : World} {K : Fg} {mg : Str → Option Value} {base : Heap} {Ad : Adr}
theorem mk_BadGood (T : Txt K mg Ad) : MkOk P w K mg base 1 (Ad.cls 1) ["part", "number"] ["self", "number", "part"] := ⟨(T.C.cf (i := 1) (by decide)).T, _, _, T.i_BadGood, T.t_BadGood, T.F_BadGood.okX sc_BadGood (spEx_len rfl) (fun cdv A outer s H vs Q E hr hsp => init_two (T.C.cf (i := 1) (by decide)).T rfl (T.C.kf.no (i := 1) (by decide) (by simp [fds])) (T.C.kf.no (i := 1) (by decide) (by simp [fds])) (pv 0) (pv 1) (pv 0) (pv 2) hsp), T.b_BadGood⟩
theorem mkk_BadGood_sw (T : Txt K mg Ad) : MkK P w K mg base 1 (Ad.cls 1) ["part", "number"] ["self", "number", "part"] ["part", "number"] prmSw := ⟨(T.C.cf (i := 1) (by decide)).T, _, _, T.i_BadGood, T.t_BadGood, T.F_BadGood.okX sc_BadGood (spEx_len rfl) (fun cdv A outer s H vs Q E hr hsp => init_two (T.C.cf (i := 1) (by decide)).T rfl (T.C.kf.no (i := 1) (by decide) (by simp [fds])) (T.C.kf.no (i := 1) (by decide) (by simp [fds])) (pv 0) (pv 1) (pv 0) (pv 2) hsp), binds_kw T.F_BadGood (fun _ _ _ _ _ _ _ ws hl => match ws, hl with | [_, _], _ => rfl)⟩
theorem mk_BadPrices (T : Txt K mg Ad) : MkOk P w K mg base 1 (Ad.cls 2) ["number"] ["self", "number"] := ⟨(T.C.cf (i := 2) (by decide)).T, _, _, T.i_BadPrices, T.t_BadPrices, T.F_BadPrices.okX sc_BadPrices (spEx_len rfl) (fun cdv A outer s H vs Q E hr hsp => init_one (T.C.cf (i := 2) (by decide)).T rfl (T.C.kf.no (i := 2) (by decide) (by simp [fds])) (pv 0) (pv 1) hsp), T.b_BadPrices⟩
theorem mkk_BadPrices (T : Txt K mg Ad) : MkK P w K mg base 1 (Ad.cls 2) ["number"] ["self", "number"] ["number"] prmId := ⟨(T.C.cf (i := 2) (by decide)).T, _, _, T.i_BadPrices, T.t_BadPrices, T.F_BadPrices.okX sc_BadPrices (spEx_len rfl) (fun cdv A outer s H vs Q E hr hsp => init_one (T.C.cf (i := 2) (by decide)).T rfl (T.C.kf.no (i := 2) (by decide) (by simp [fds])) (pv 0) (pv 1) hsp), binds_kw T.F_BadPrices (fun _ _ _ _ _ _ _ ws hl => match ws, hl with | [_], _ => rfl)⟩
theorem mk_BadWords (T : Txt K mg Ad) : MkOk P w K mg base 1 (Ad.cls 3) ["value"] ["self", "value"] := ⟨(T.C.cf (i := 3) (by decide)).T, _, _, T.i_BadWords, T.t_BadWords, T.F_BadWords.okX sc_BadWords (spEx_len rfl) (fun cdv A outer s H vs Q E hr hsp => init_one (T.C.cf (i := 3) (by decide)).T rfl (T.C.kf.no (i := 3) (by decide) (by simp [fds])) (pv 0) (pv 1) hsp), T.b_BadWords⟩
theorem mkk_BadWords (T : Txt K mg Ad) : MkK P w K mg base 1 (Ad.cls 3) ["value"] ["self", "value"] ["value"] prmId := ⟨(T.C.cf (i := 3) (by decide)).T, _, _, T.i_BadWords, T.t_BadWords, T.F_BadWords.okX sc_BadWords (spEx_len rfl) (fun cdv A outer s H vs Q E hr hsp => init_one (T.C.cf (i := 3) (by decide)).T rfl (T.C.kf.no (i := 3) (by decide) (by simp [fds])) (pv 0) (pv 1) hsp), binds_kw T.F_BadWords (fun _ _ _ _ _ _ _ ws hl => match ws, hl with | [_], _ => rfl)⟩
theorem mk_BadNumber (T : Txt K mg Ad) : MkOk P w K mg base 1 (Ad.cls 4) ["value"] ["self", "value"] := ⟨(T.C.cf (i := 4) (by decide)).T, _, _, T.i_BadNumber, T.t_BadNumber, T.F_BadNumber.okX sc_BadNumber (spEx_len rfl) (fun cdv A outer s H vs Q E hr hsp => init_one (T.C.cf (i := 4) (by decide)).T rfl (T.C.kf.no (i := 4) (by decide) (by simp [fds])) (pv 0) (pv 1) hsp), T.b_BadNumber⟩
theorem mkk_BadNumber (T : Txt K mg Ad) : MkK P w K mg base 1 (Ad.cls 4) ["value"] ["self", "value"] ["value"] prmId := ⟨(T.C.cf (i := 4) (by decide)).T, _, _, T.i_BadNumber, T.t_BadNumber, T.F_BadNumber.okX sc_BadNumber (spEx_len rfl) (fun cdv A outer s H vs Q E hr hsp => init_one (T.C.cf (i := 4) (by decide)).T rfl (T.C.kf.no (i := 4) (by decide) (by simp [fds])) (pv 0) (pv 1) hsp), binds_kw T.F_BadNumber (fun _ _ _ _ _ _ _ ws hl => match ws, hl with | [_], _ => rfl)⟩
theorem mk_BadPaper (T : Txt K mg Ad) : MkOk P w K mg base 1 (Ad.cls 5) ["part"] ["self", "part"] := ⟨(T.C.cf (i := 5) (by decide)).T, _, _, T.i_BadPaper, T.t_BadPaper, T.F_BadPaper.okX sc_BadPaper (spEx_len rfl) (fun cdv A outer s H vs Q E hr hsp => init_one (T.C.cf (i := 5) (by decide)).T rfl (T.C.kf.no (i := 5) (by decide) (by simp [fds])) (pv 0) (pv 1) hsp), T.b_BadPaper⟩
theorem mkk_BadPaper (T : Txt K mg Ad) : MkK P w K mg base 1 (Ad.cls 5) ["part"] ["self", "part"] ["part"] prmId := ⟨(T.C.cf (i := 5) (by decide)).T, _, _, T.i_BadPaper, T.t_BadPaper, T.F_BadPaper.okX sc_BadPaper (spEx_len rfl) (fun cdv A outer s H vs Q E hr hsp => init_one (T.C.cf (i := 5) (by decide)).T rfl (T.C.kf.no (i := 5) (by decide) (by simp [fds])) (pv 0) (pv 1) hsp), binds_kw T.F_BadPaper (fun _ _ _ _ _ _ _ ws hl => match ws, hl with | [_], _ => rfl)⟩
theorem mk_BadText (T : Txt K mg Ad) : MkOk P w K mg base 1 (Ad.cls 6) ["line"] ["self", "line"] := ⟨(T.C.cf (i := 6) (by decide)).T, _, _, T.i_BadText, T.t_BadText, T.F_BadText.okX sc_BadText (spEx_len rfl) (fun cdv A outer s H vs Q E hr hsp => init_one (T.C.cf (i := 6) (by decide)).T rfl (T.C.kf.no (i := 6) (by decide) (by simp [fds])) (pv 0) (pv 1) hsp), T.b_BadText⟩
theorem mkk_BadText (T : Txt K mg Ad) : MkK P w K mg base 1 (Ad.cls 6) ["line"] ["self", "line"] ["line"] prmId := ⟨(T.C.cf (i := 6) (by decide)).T, _, _, T.i_BadText, T.t_BadText, T.F_BadText.okX sc_BadText (spEx_len rfl) (fun cdv A outer s H vs Q E hr hsp => init_one (T.C.cf (i := 6) (by decide)).T rfl (T.C.kf.no (i := 6) (by decide) (by simp [fds])) (pv 0) (pv 1) hsp), binds_kw T.F_BadText (fun _ _ _ _ _ _ _ ws hl => match ws, hl with | [_], _ => rfl)⟩
theorem mk_BadFraction (T : Txt K mg Ad) : MkOk P w K mg base 1 (Ad.cls 7) ["value"] ["self", "value"] := ⟨(T.C.cf (i := 7) (by decide)).T, _, _, T.i_BadFraction, T.t_BadFraction, T.F_BadFraction.okX sc_BadFraction (spEx_len rfl) (fun cdv A outer s H vs Q E hr hsp => init_one (T.C.cf (i := 7) (by decide)).T rfl (T.C.kf.no (i := 7) (by decide) (by simp [fds])) (pv 0) (pv 1) hsp), T.b_BadFraction⟩
theorem mkk_BadFraction (T : Txt K mg Ad) : MkK P w K mg base 1 (Ad.cls 7) ["value"] ["self", "value"] ["value"] prmId := ⟨(T.C.cf (i := 7) (by decide)).T, _, _, T.i_BadFraction, T.t_BadFraction, T.F_BadFraction.okX sc_BadFraction (spEx_len rfl) (fun cdv A outer s H vs Q E hr hsp => init_one (T.C.cf (i := 7) (by decide)).T rfl (T.C.kf.no (i := 7) (by decide) (by simp [fds])) (pv 0) (pv 1) hsp), binds_kw T.F_BadFraction (fun _ _ _ _ _ _ _ ws hl => match ws, hl with | [_], _ => rfl)⟩
theorem mk_BadChange (T : Txt K mg Ad) : MkOk P w K mg base 1 (Ad.cls 8) ["value"] ["self", "value"] := ⟨(T.C.cf (i := 8) (by decide)).T, _, _, T.i_BadChange, T.t_BadChange, T.F_BadChange.okX sc_BadChange (spEx_len rfl) (fun cdv A outer s H vs Q E hr hsp => init_one (T.C.cf (i := 8) (by decide)).T rfl (T.C.kf.no (i := 8) (by decide) (by simp [fds])) (pv 0) (pv 1) hsp), T.b_BadChange⟩
theorem mkk_BadChange (T : Txt K mg Ad) : MkK P w K mg base 1 (Ad.cls 8) ["value"] ["self", "value"] ["value"] prmId := ⟨(T.C.cf (i := 8) (by decide)).T, _, _, T.i_BadChange, T.t_BadChange, T.F_BadChange.okX sc_BadChange (spEx_len rfl) (fun cdv A outer s H vs Q E hr hsp => init_one (T.C.cf (i := 8) (by decide)).T rfl (T.C.kf.no (i := 8) (by decide) (by simp [fds])) (pv 0) (pv 1) hsp), binds_kw T.F_BadChange (fun _ _ _ _ _ _ _ ws hl => match ws, hl with | [_], _ => rfl)⟩
theorem mk_BadMenu (T : Txt K mg Ad) : MkOk P w K mg base 1 (Ad.cls 9) ["number"] ["self", "number"] := ⟨(T.C.cf (i := 9) (by decide)).T, _, _, T.i_BadMenu, T.t_BadMenu, T.F_BadMenu.okX sc_BadMenu (spEx_len rfl) (fun cdv A outer s H vs Q E hr hsp => init_one (T.C.cf (i := 9) (by decide)).T rfl (T.C.kf.no (i := 9) (by decide) (by simp [fds])) (pv 0) (pv 1) hsp), T.b_BadMenu⟩
theorem mkk_BadMenu (T : Txt K mg Ad) : MkK P w K mg base 1 (Ad.cls 9) ["number"] ["self", "number"] ["number"] prmId := ⟨(T.C.cf (i := 9) (by decide)).T, _, _, T.i_BadMenu, T.t_BadMenu, T.F_BadMenu.okX sc_BadMenu (spEx_len rfl) (fun cdv A outer s H vs Q E hr hsp => init_one (T.C.cf (i := 9) (by decide)).T rfl (T.C.kf.no (i := 9) (by decide) (by simp [fds])) (pv 0) (pv 1) hsp), binds_kw T.F_BadMenu (fun _ _ _ _ _ _ _ ws hl => match ws, hl with | [_], _ => rfl)⟩
theorem mk_BadSeen (T : Txt K mg Ad) : MkOk P w K mg base 1 (Ad.cls 10) ["number"] ["self", "number"] := ⟨(T.C.cf (i := 10) (by decide)).T, _, _, T.i_BadSeen, T.t_BadSeen, T.F_BadSeen.okX sc_BadSeen (spEx_len rfl) (fun cdv A outer s H vs Q E hr hsp => init_one (T.C.cf (i := 10) (by decide)).T rfl (T.C.kf.no (i := 10) (by decide) (by simp [fds])) (pv 0) (pv 1) hsp), T.b_BadSeen⟩
theorem mkk_BadSeen (T : Txt K mg Ad) : MkK P w K mg base 1 (Ad.cls 10) ["number"] ["self", "number"] ["number"] prmId := ⟨(T.C.cf (i := 10) (by decide)).T, _, _, T.i_BadSeen, T.t_BadSeen, T.F_BadSeen.okX sc_BadSeen (spEx_len rfl) (fun cdv A outer s H vs Q E hr hsp => init_one (T.C.cf (i := 10) (by decide)).T rfl (T.C.kf.no (i := 10) (by decide) (by simp [fds])) (pv 0) (pv 1) hsp), binds_kw T.F_BadSeen (fun _ _ _ _ _ _ _ ws hl => match ws, hl with | [_], _ => rfl)⟩
theorem mk_Nothing (T : Txt K mg Ad) : MkOk P w K mg base 1 (Ad.cls 11) ["value"] ["self", "value"] := ⟨(T.C.cf (i := 11) (by decide)).T, _, _, T.i_Nothing, T.t_Nothing, T.F_Nothing.okX sc_Nothing (spEx_len rfl) (fun cdv A outer s H vs Q E hr hsp => init_one (T.C.cf (i := 11) (by decide)).T rfl (T.C.kf.no (i := 11) (by decide) (by simp [fds])) (pv 0) (pv 1) hsp), T.b_Nothing⟩
theorem mkk_Nothing (T : Txt K mg Ad) : MkK P w K mg base 1 (Ad.cls 11) ["value"] ["self", "value"] ["value"] prmId := ⟨(T.C.cf (i := 11) (by decide)).T, _, _, T.i_Nothing, T.t_Nothing, T.F_Nothing.okX sc_Nothing (spEx_len rfl) (fun cdv A outer s H vs Q E hr hsp => init_one (T.C.cf (i := 11) (by decide)).T rfl (T.C.kf.no (i := 11) (by decide) (by simp [fds])) (pv 0) (pv 1) hsp), binds_kw T.F_Nothing (fun _ _ _ _ _ _ _ ws hl => match ws, hl with | [_], _ => rfl)⟩
theorem ok__law_begun (T : Txt K mg Ad) : DFn P w K mg base 1 Ad.a__law_begun Ad.d__law_begun ["script"] (W_law_begun K Ad.cls) :=
  dfn_of T.F__law_begun sc__law_begun fun cdv A outer s H E hr => (dss_cons (ds_setComp (i := 1) [("cell", 2)] (gName 2) rfl sc__law_begun.nd rfl rfl (sw_true rfl rfl rfl (by decide +kernel)) (di_seq (de_var (pv 0))) (blkOk_by (N := N__law_begun) (sc := defScope st__law_begun) (by decide +kernel)) (fun _ _ _ _ _ => pg_name (i := 2) sc__law_begun.nd rfl (by first | exact .inl rfl | exact .inr rfl)) (gv_name (by decide)) (fun _ _ _ _ _ => dts_one (dt_cmp do_ge (de_var (pv 2)) (de_op do_pow (de_int) (de_int)) (nomark _))) (fun _ _ _ _ _ => de_var (pv 2))) (dss_one (ds_ret (de_dct (.str (de_op do_add (de_callTy dc_list (by rfl) T.z_list (by decide +kernel) (dn_cons (de_var (pv 0)) (dn_nil))) (de_lst (dn_cons (de_callB dc_len (by rfl) T.z_len (by decide +kernel) (dn_cons (de_var (pv 0)) (dn_nil))) (dn_nil)))) (.str (de_ite (dt_cmp (do_ne hr.r.units) (de_var (pv 1)) (de_lst (dn_nil)) (nomark _)) (de_ix (hu_of hr.r) (de_var (pv 1)) (de_int) (fun _ _ => rfl)) (de_int)) (.str (de_int) (.nil)))) (by rfl) (by rfl) (fun z => by cases z) (by decide) (by decide) (by decide +kernel)))))
theorem ok__law_draw (T : Txt K mg Ad) : DFn P w K mg base 1 Ad.a__law_draw Ad.d__law_draw ["m", "limit"] (W_law_draw K Ad.cls) :=
  dfn_of T.F__law_draw sc__law_draw fun cdv A outer s H E hr => (dss_cons (ds_if (dt_cmp do_gt (de_ix (hu_of hr.r) (de_var (pv 0)) (de_str) (fun _ _ => rfl)) (de_int) (nomark _)) (dss_cons (ds_set (i := 2) sc__law_draw.nd rfl (by first | exact .inl rfl | exact .inr rfl) (de_op do_mod (de_callTy dc_int (by rfl) T.z_int (by decide +kernel) (dn_cons (de_ix (hu_of hr.r) (de_var (pv 0)) (de_str) (fun _ _ => rfl)) (dn_nil))) (de_var (pv 1)))) (dss_cons (ds_asg (de_op do_fdiv (de_ix (hu_of hr.r) (de_var (pv 0)) (de_str) (fun _ _ => rfl)) (de_var (pv 1))) (dg_sub (hu_of hr.r) (de_var (pv 0)) (de_str))) (dss_one (ds_ret (de_var (pv 2)))))) (dss_nil)) (dss_cons (ds_set (i := 3) sc__law_draw.nd rfl (by first | exact .inl rfl | exact .inr rfl) (de_op do_add (de_ix (hu_of hr.r) (de_var (pv 0)) (de_str) (fun _ _ => rfl)) (de_int))) (dss_cons (ds_asg (de_var (pv 3)) (dg_sub (hu_of hr.r) (de_var (pv 0)) (de_str))) (dss_cons (ds_set (i := 4) sc__law_draw.nd rfl (by first | exact .inl rfl | exact .inr rfl) (de_ix (hu_of hr.r) (de_ix (hu_of hr.r) (de_var (pv 0)) (de_str) (fun _ _ => rfl)) (de_op do_mod (de_callTy dc_int (by rfl) T.z_int (by decide +kernel) (dn_cons (de_var (pv 3)) (dn_nil))) (de_callB dc_len (by rfl) T.z_len (by decide +kernel) (dn_cons (de_ix (hu_of hr.r) (de_var (pv 0)) (de_str) (fun _ _ => rfl)) (dn_nil)))) (fun _ _ => rfl))) (dss_cons (ds_set (i := 5) sc__law_draw.nd rfl (by first | exact .inl rfl | exact .inr rfl) (de_op do_mul (de_callTy dc_int (by rfl) T.z_int (by decide +kernel) (dn_cons (de_op do_add (de_op do_add (de_op do_mod (de_callTy dc_int (by rfl) T.z_int (by decide +kernel) (dn_cons (de_var (pv 4)) (dn_nil))) (de_int)) (de_op do_mul (de_int) (de_var (pv 3)))) (de_op do_mul (de_op do_mul (de_int) (de_var (pv 3))) (de_var (pv 3)))) (dn_nil))) (de_int))) (dss_cons (ds_set (i := 5) sc__law_draw.nd rfl (by first | exact .inl rfl | exact .inr rfl) (de_op do_mul (de_callTy dc_int (by rfl) T.z_int (by decide +kernel) (dn_cons (de_op do_add (de_op do_mod (de_callTy dc_int (by rfl) T.z_int (by decide +kernel) (dn_cons (de_var (pv 5)) (dn_nil))) (de_int)) (de_op do_mul (de_int) (de_var (pv 3)))) (dn_nil))) (de_int))) (dss_one (ds_ret (de_op do_mod (de_callTy dc_int (by rfl) T.z_int (by decide +kernel) (dn_cons (de_op do_fdiv (de_op do_mod (de_callTy dc_int (by rfl) T.z_int (by decide +kernel) (dn_cons (de_var (pv 5)) (dn_nil))) (de_int)) (de_int)) (dn_nil))) (de_var (pv 1)))))))))))
theorem ok__law_of (T : Txt K mg Ad) : DFn P w K mg base 2 Ad.a__law_of Ad.d__law_of ["m", "some"] (W_law_of K Ad.cls) :=
  dfn_of T.F__law_of sc__law_of fun cdv A outer s H E hr => (dss_one (ds_ret (de_ix (hu_of hr.r) (de_var (pv 1)) (de_call (ok__law_draw T) (hr.mono (by decide)) (by rfl) T.g__law_draw T.F__law_draw.kp T.b__law_draw .nil rs0 pBody (dn_cons (de_var (pv 0)) (dn_cons (de_callB dc_len (by rfl) T.z_len (by decide +kernel) (dn_cons (de_var (pv 1)) (dn_nil))) (dn_nil)))) (fun _ _ => rfl))))
theorem ok__law_pairs (T : Txt K mg Ad) : DFn P w K mg base 3 Ad.a__law_pairs Ad.d__law_pairs ["thing"] (W_law_pairs K Ad.cls) :=
  dfn_of T.F__law_pairs sc__law_pairs fun cdv A outer s H E hr => (dss_cons (ds_set (i := 1) sc__law_pairs.nd rfl (by first | exact .inl rfl | exact .inr rfl) (de_lst (dn_cons (de_tup (dn_cons (de_mk (mk_BadPrices T) (hr.mono (by decide)) pass_no (by rfl) T.g_BadPrices (dn_cons (de_var (pv 0)) (dn_nil))) (dn_cons (de_mkk (mkk_BadPrices T) (hr.mono (by decide)) pass_no (by rfl) T.g_BadPrices (dk_cons (de_var (pv 0)) (dk_nil))) (dn_nil)))) (dn_cons (de_tup (dn_cons (de_mk (mk_BadMenu T) (hr.mono (by decide)) pass_no (by rfl) T.g_BadMenu (dn_cons (de_var (pv 0)) (dn_nil))) (dn_cons (de_mkk (mkk_BadMenu T) (hr.mono (by decide)) pass_no (by rfl) T.g_BadMenu (dk_cons (de_var (pv 0)) (dk_nil))) (dn_nil)))) (dn_nil))))) (dss_cons (ds_set (i := 1) sc__law_pairs.nd rfl (by first | exact .inl rfl | exact .inr rfl) (de_op do_add (de_var (pv 1)) (de_lst (dn_cons (de_tup (dn_cons (de_mk (mk_BadSeen T) (hr.mono (by decide)) pass_no (by rfl) T.g_BadSeen (dn_cons (de_var (pv 0)) (dn_nil))) (dn_cons (de_mkk (mkk_BadSeen T) (hr.mono (by decide)) pass_no (by rfl) T.g_BadSeen (dk_cons (de_var (pv 0)) (dk_nil))) (dn_nil)))) (dn_cons (de_tup (dn_cons (de_mk (mk_BadWords T) (hr.mono (by decide)) pass_no (by rfl) T.g_BadWords (dn_cons (de_var (pv 0)) (dn_nil))) (dn_cons (de_mkk (mkk_BadWords T) (hr.mono (by decide)) pass_no (by rfl) T.g_BadWords (dk_cons (de_var (pv 0)) (dk_nil))) (dn_nil)))) (dn_nil)))))) (dss_cons (ds_set (i := 1) sc__law_pairs.nd rfl (by first | exact .inl rfl | exact .inr rfl) (de_op do_add (de_var (pv 1)) (de_lst (dn_cons (de_tup (dn_cons (de_mk (mk_BadNumber T) (hr.mono (by decide)) pass_no (by rfl) T.g_BadNumber (dn_cons (de_var (pv 0)) (dn_nil))) (dn_cons (de_mkk (mkk_BadNumber T) (hr.mono (by decide)) pass_no (by rfl) T.g_BadNumber (dk_cons (de_var (pv 0)) (dk_nil))) (dn_nil)))) (dn_cons (de_tup (dn_cons (de_mk (mk_BadFraction T) (hr.mono (by decide)) pass_no (by rfl) T.g_BadFraction (dn_cons (de_var (pv 0)) (dn_nil))) (dn_cons (de_mkk (mkk_BadFraction T) (hr.mono (by decide)) pass_no (by rfl) T.g_BadFraction (dk_cons (de_var (pv 0)) (dk_nil))) (dn_nil)))) (dn_nil)))))) (dss_cons (ds_set (i := 1) sc__law_pairs.nd rfl (by first | exact .inl rfl | exact .inr rfl) (de_op do_add (de_var (pv 1)) (de_lst (dn_cons (de_tup (dn_cons (de_mk (mk_BadChange T) (hr.mono (by decide)) pass_no (by rfl) T.g_BadChange (dn_cons (de_var (pv 0)) (dn_nil))) (dn_cons (de_mkk (mkk_BadChange T) (hr.mono (by decide)) pass_no (by rfl) T.g_BadChange (dk_cons (de_var (pv 0)) (dk_nil))) (dn_nil)))) (dn_cons (de_tup (dn_cons (de_mk (mk_Nothing T) (hr.mono (by decide)) pass_no (by rfl) T.g_Nothing (dn_cons (de_var (pv 0)) (dn_nil))) (dn_cons (de_mkk (mkk_Nothing T) (hr.mono (by decide)) pass_no (by rfl) T.g_Nothing (dk_cons (de_var (pv 0)) (dk_nil))) (dn_nil)))) (dn_nil)))))) (dss_one (ds_ret (de_op do_add (de_var (pv 1)) (de_lst (dn_cons (de_tup (dn_cons (de_mk (mk_BadPaper T) (hr.mono (by decide)) pass_no (by rfl) T.g_BadPaper (dn_cons (de_var (pv 0)) (dn_nil))) (dn_cons (de_mkk (mkk_BadPaper T) (hr.mono (by decide)) pass_no (by rfl) T.g_BadPaper (dk_cons (de_var (pv 0)) (dk_nil))) (dn_nil)))) (dn_cons (de_tup (dn_cons (de_mk (mk_BadText T) (hr.mono (by decide)) pass_no (by rfl) T.g_BadText (dn_cons (de_var (pv 0)) (dn_nil))) (dn_cons (de_mkk (mkk_BadText T) (hr.mono (by decide)) pass_no (by rfl) T.g_BadText (dk_cons (de_var (pv 0)) (dk_nil))) (dn_nil)))) (dn_nil)))))))))))
theorem ok__law_marks (T : Txt K mg Ad) : DFn P w K mg base 3 Ad.a__law_marks Ad.d__law_marks ["error"] (W_law_marks K Ad.cls) :=
  dfn_of T.F__law_marks sc__law_marks fun cdv A outer s H E hr => (dss_cons (ds_set (i := 1) sc__law_marks.nd rfl (by first | exact .inl rfl | exact .inr rfl) (de_lst (dn_cons (de_callB dc_isa (by rfl) T.z_isinstance (by decide +kernel) (dn_cons (de_var (pv 0)) (dn_cons (de_cls (by rfl) T.g_BadPrices) (dn_nil)))) (dn_cons (de_callB dc_isa (by rfl) T.z_isinstance (by decide +kernel) (dn_cons (de_var (pv 0)) (dn_cons (de_cls (by rfl) T.g_BadMenu) (dn_nil)))) (dn_cons (de_callB dc_isa (by rfl) T.z_isinstance (by decide +kernel) (dn_cons (de_var (pv 0)) (dn_cons (de_cls (by rfl) T.g_BadSeen) (dn_nil)))) (dn_nil)))))) (dss_cons (ds_set (i := 1) sc__law_marks.nd rfl (by first | exact .inl rfl | exact .inr rfl) (de_op do_add (de_var (pv 1)) (de_lst (dn_cons (de_callB dc_isa (by rfl) T.z_isinstance (by decide +kernel) (dn_cons (de_var (pv 0)) (dn_cons (de_cls (by rfl) T.g_BadWords) (dn_nil)))) (dn_cons (de_callB dc_isa (by rfl) T.z_isinstance (by decide +kernel) (dn_cons (de_var (pv 0)) (dn_cons (de_cls (by rfl) T.g_BadNumber) (dn_nil)))) (dn_cons (de_callB dc_isa (by rfl) T.z_isinstance (by decide +kernel) (dn_cons (de_var (pv 0)) (dn_cons (de_cls (by rfl) T.g_BadFraction) (dn_nil)))) (dn_nil))))))) (dss_cons (ds_set (i := 1) sc__law_marks.nd rfl (by first | exact .inl rfl | exact .inr rfl) (de_op do_add (de_var (pv 1)) (de_lst (dn_cons (de_callB dc_isa (by rfl) T.z_isinstance (by decide +kernel) (dn_cons (de_var (pv 0)) (dn_cons (de_cls (by rfl) T.g_BadChange) (dn_nil)))) (dn_cons (de_callB dc_isa (by rfl) T.z_isinstance (by decide +kernel) (dn_cons (de_var (pv 0)) (dn_cons (de_cls (by rfl) T.g_Nothing) (dn_nil)))) (dn_cons (de_callB dc_isa (by rfl) T.z_isinstance (by decide +kernel) (dn_cons (de_var (pv 0)) (dn_cons (de_cls (by rfl) T.g_BadPaper) (dn_nil)))) (dn_nil))))))) (dss_one (ds_ret (de_op do_add (de_var (pv 1)) (de_lst (dn_cons (de_callB dc_isa (by rfl) T.z_isinstance (by decide +kernel) (dn_cons (de_var (pv 0)) (dn_cons (de_cls (by rfl) T.g_BadText) (dn_nil)))) (dn_cons (de_callB dc_isa (by rfl) T.z_isinstance (by decide +kernel) (dn_cons (de_var (pv 0)) (dn_cons (de_cls (by rfl) T.g_BadGood) (dn_nil)))) (dn_nil))))))))))
theorem ok__law_above (T : Txt K mg Ad) : DFn P w K mg base 3 Ad.a__law_above Ad.d__law_above ["error"] (W_law_above K Ad.cls) :=
  dfn_of T.F__law_above sc__law_above fun cdv A outer s H E hr => (dss_cons (ds_set (i := 1) sc__law_above.nd rfl (by first | exact .inl rfl | exact .inr rfl) (de_lst (dn_cons (de_callB dc_isa (by rfl) T.z_isinstance (by decide +kernel) (dn_cons (de_var (pv 0)) (dn_cons (de_cls (by rfl) T.g_MakeError) (dn_nil)))) (dn_cons (de_callB dc_isa (by rfl) T.z_isinstance (by decide +kernel) (dn_cons (de_var (pv 0)) (dn_cons (de_bltn (by rfl) T.z_ValueError (by decide +kernel)) (dn_nil)))) (dn_cons (de_callB dc_isa (by rfl) T.z_isinstance (by decide +kernel) (dn_cons (de_var (pv 0)) (dn_cons (de_bltn (by rfl) T.z_LookupError (by decide +kernel)) (dn_nil)))) (dn_nil)))))) (dss_one (ds_ret (de_op do_add (de_var (pv 1)) (de_lst (dn_cons (de_callB dc_isa (by rfl) T.z_isinstance (by decide +kernel) (dn_cons (de_var (pv 0)) (dn_cons (de_bltn (by rfl) T.z_TypeError (by decide +kernel)) (dn_nil)))) (dn_cons (de_callB dc_isa (by rfl) T.z_isinstance (by decide +kernel) (dn_cons (de_var (pv 0)) (dn_cons (de_bltn (by rfl) T.z_ArithmeticError (by decide +kernel)) (dn_nil)))) (dn_nil))))))))
theorem ok__law_field (T : Txt K mg Ad) : DFn P w K mg base 1 Ad.a__law_field Ad.d__law_field ["error", "spot"] (W_law_field K Ad.cls) :=
  dfn_of T.F__law_field sc__law_field fun cdv A outer s H E hr => (dss_cons (ds_if (dt_cmp do_lt (de_var (pv 1)) (de_int) (nomark _)) (dss_one (ds_ret (de_fd (de_var (pv 0))))) (dss_nil)) (dss_cons (ds_if (dt_cmp do_lt (de_var (pv 1)) (de_int) (nomark _)) (dss_one (ds_ret (de_fd (de_var (pv 0))))) (dss_nil)) (dss_one (ds_ret (de_ite (dt_cmp (do_eq hr.r.units) (de_var (pv 1)) (de_int) (nomark _)) (de_fd (de_var (pv 0))) (de_fd (de_var (pv 0))))))))
theorem ok__law_right (T : Txt K mg Ad) : DFn P w K mg base 4 Ad.a__law_right Ad.d__law_right ["thing", "other"] (W_law_right K Ad.cls) :=
  dfn_of T.F__law_right sc__law_right fun cdv A outer s H E hr => (dss_cons (ds_set (i := 2) sc__law_right.nd rfl (by first | exact .inl rfl | exact .inr rfl) (de_call (ok__law_pairs T) (hr.mono (by decide)) (by rfl) T.g__law_pairs T.F__law_pairs.kp T.b__law_pairs .nil rs0 pBody (dn_cons (de_var (pv 0)) (dn_nil)))) (dss_cons (ds_for oBody rfl (di_enumB (by rfl) T.z_enumerate (de_var (pv 2))) (dg_tup rfl (dgs_cons (dg_name (i := 3) sc__law_right.nd rfl (by first | exact .inl rfl | exact .inr rfl)) (dgs_cons (dg_name (i := 4) sc__law_right.nd rfl (by first | exact .inl rfl | exact .inr rfl)) (dgs_nil)))) (dss_cons (ds_set (i := 5) sc__law_right.nd rfl (by first | exact .inl rfl | exact .inr rfl) (de_ite (dt_cmp (do_eq hr.r.units) (de_var (pv 3)) (de_int) (nomark _)) (de_lst (dn_cons (de_bl) (dn_cons (de_bl) (dn_cons (de_bl) (dn_cons (de_bl) (dn_cons (de_bl) (dn_nil))))))) (de_lst (dn_cons (de_bl) (dn_cons (de_bl) (dn_cons (de_bl) (dn_cons (de_bl) (dn_cons (de_bl) (dn_nil))))))))) (dss_one (ds_for oBody rfl (di_seq (de_var (pv 4))) (dg_name (i := 6) sc__law_right.nd rfl (by first | exact .inl rfl | exact .inr rfl)) (dss_cons (ds_if (DW.dt (dw_or (dt_cmp (do_ne hr.r.units) (de_call (ok__law_marks T) (hr.mono (by decide)) (by rfl) T.g__law_marks T.F__law_marks.kp T.b__law_marks .nil rs0 pBody (dn_cons (de_var (pv 6)) (dn_nil))) (de_comp [("k", 7)] (gName 7) rfl sc__law_right.nd (di_range1 (by rfl) T.z_range (dn_cons (de_int) (dn_nil))) (blkOk_by (N := N__law_right) (sc := defScope st__law_right) (by decide +kernel)) (fun _ _ _ _ _ => pg_name (i := 7) sc__law_right.nd rfl (by first | exact .inl rfl | exact .inr rfl)) (gv_name (by decide)) (fun _ _ _ _ _ => dts_nil) (fun _ _ _ _ _ => de_cmp (do_eq hr.r.units) (de_var (pv 7)) (de_var (pv 3)) (nomark _))) (nomark _)) (dw_or1 (dt_cmp (do_ne hr.r.units) (de_call (ok__law_above T) (hr.mono (by decide)) (by rfl) T.g__law_above T.F__law_above.kp T.b__law_above .nil rs0 pBody (dn_cons (de_var (pv 6)) (dn_nil))) (de_var (pv 5)) (nomark _))))) (dss_one (ds_ret (de_bl))) (dss_nil)) (dss_one (ds_if (dt_cmp (do_ne hr.r.units) (de_callB (dc_reprX hr.g hr.r.units) (by rfl) T.z_repr (by decide +kernel) (dn_cons (de_call (ok__law_field T) (hr.mono (by decide)) (by rfl) T.g__law_field T.F__law_field.kp T.b__law_field .nil rs0 pBody (dn_cons (de_var (pv 6)) (dn_cons (de_var (pv 3)) (dn_nil)))) (dn_nil))) (de_callB (dc_reprX hr.g hr.r.units) (by rfl) T.z_repr (by decide +kernel) (dn_cons (de_var (pv 0)) (dn_nil))) (nomark _)) (dss_one (ds_ret (de_bl))) (dss_nil)))))))) (dss_cons (ds_for oBody rfl (di_seq (de_tup (dn_cons (de_mk (mk_BadGood T) (hr.mono (by decide)) pass_no (by rfl) T.g_BadGood (dn_cons (de_var (pv 0)) (dn_cons (de_var (pv 1)) (dn_nil)))) (dn_cons (de_mkk (mkk_BadGood_sw T) (hr.mono (by decide)) pass_no (by rfl) T.g_BadGood (dk_cons (de_var (pv 1)) (dk_cons (de_var (pv 0)) (dk_nil)))) (dn_nil))))) (dg_name (i := 6) sc__law_right.nd rfl (by first | exact .inl rfl | exact .inr rfl)) (dss_cons (ds_if (DW.dt (dw_or (dt_cmp (do_ne hr.r.units) (de_call (ok__law_marks T) (hr.mono (by decide)) (by rfl) T.g__law_marks T.F__law_marks.kp T.b__law_marks .nil rs0 pBody (dn_cons (de_var (pv 6)) (dn_nil))) (de_op do_add (de_op do_mul (de_lst (dn_cons (de_bl) (dn_nil))) (de_int)) (de_lst (dn_cons (de_bl) (dn_nil)))) (nomark _)) (dw_or1 (dt_cmp (do_ne hr.r.units) (de_call (ok__law_above T) (hr.mono (by decide)) (by rfl) T.g__law_above T.F__law_above.kp T.b__law_above .nil rs0 pBody (dn_cons (de_var (pv 6)) (dn_nil))) (de_lst (dn_cons (de_bl) (dn_cons (de_bl) (dn_cons (de_bl) (dn_cons (de_bl) (dn_cons (de_bl) (dn_nil))))))) (nomark _))))) (dss_one (ds_ret (de_bl))) (dss_nil)) (dss_one (ds_if (dt_cmp (do_ne hr.r.units) (de_callB (dc_reprX hr.g hr.r.units) (by rfl) T.z_repr (by decide +kernel) (dn_cons (de_lst (dn_cons (de_fd (de_var (pv 6))) (dn_cons (de_fd (de_var (pv 6))) (dn_nil)))) (dn_nil))) (de_callB (dc_reprX hr.g hr.r.units) (by rfl) T.z_repr (by decide +kernel) (dn_cons (de_lst (dn_cons (de_var (pv 0)) (dn_cons (de_var (pv 1)) (dn_nil)))) (dn_nil))) (nomark _)) (dss_one (ds_ret (de_bl))) (dss_nil))))) (dss_one (ds_ret (de_cmp (do_eq hr.r.units) (de_callB dc_len (by rfl) T.z_len (by decide +kernel) (dn_cons (de_var (pv 2)) (dn_nil))) (de_int) (nomark _)))))))
theorem ok_law (T : Txt K mg Ad) : DFn P w K mg base 5 Ad.a_law Ad.d_law ["script"] (Wlaw K Ad.cls) :=
  dfn_of T.F_law sc_law fun cdv A outer s H E hr => (dss_cons (ds_set (i := 1) sc_law.nd rfl (by first | exact .inl rfl | exact .inr rfl) (de_lst (dn_cons (de_non) (dn_cons (de_int) (dn_cons (de_neg (de_int)) (dn_cons (de_bl) (dn_cons (de_str) (dn_cons (de_str) (dn_cons (de_tup (dn_nil)) (dn_cons (de_tup (dn_cons (de_int) (dn_cons (de_int) (dn_nil)))) (dn_cons (de_tup (dn_cons (de_tup (dn_cons (de_int) (dn_cons (de_int) (dn_nil)))) (dn_cons (de_int) (dn_nil)))) (dn_cons (de_lst (dn_cons (de_int) (dn_nil))) (dn_cons (de_lst (dn_cons (de_lst (dn_nil)) (dn_nil))) (dn_cons (de_fz (de_dctN)) (dn_cons (de_fz (de_dct (.str (de_int) (.nil)) (by rfl) (by rfl) (fun z => by cases z) (by decide) (by decide) (by decide +kernel))) (dn_cons (de_op do_pow (de_int) (de_int)) (dn_cons (de_str) (dn_nil)))))))))))))))))) (dss_cons (ds_set (i := 2) sc_law.nd rfl (by first | exact .inl rfl | exact .inr rfl) (de_call (ok__law_begun T) (hr.mono (by decide)) (by rfl) T.g__law_begun T.F__law_begun.kp T.b__law_begun .nil rs0 pBody (dn_cons (de_var (pv 0)) (dn_nil)))) (dss_cons (ds_for oBody rfl (di_range1 (by rfl) T.z_range (dn_cons (de_op do_add (de_int) (de_callB (dc_min2 rfl) (by rfl) T.z_min (by decide +kernel) (dn_cons (de_int) (dn_cons (de_callB dc_len (by rfl) T.z_len (by decide +kernel) (dn_cons (de_var (pv 0)) (dn_nil))) (dn_nil))))) (dn_nil))) (dg_name (i := 3) sc_law.nd rfl (by first | exact .inl rfl | exact .inr rfl)) (dss_cons (ds_if (dt_not (dt_tru (de_call (ok__law_right T) (hr.mono (by decide)) (by rfl) T.g__law_right T.F__law_right.kp T.b__law_right .nil rs0 pBody (dn_cons (de_call (ok__law_of T) (hr.mono (by decide)) (by rfl) T.g__law_of T.F__law_of.kp T.b__law_of .nil rs0 pBody (dn_cons (de_var (pv 2)) (dn_cons (de_var (pv 1)) (dn_nil)))) (dn_cons (de_call (ok__law_of T) (hr.mono (by decide)) (by rfl) T.g__law_of T.F__law_of.kp T.b__law_of .nil rs0 pBody (dn_cons (de_var (pv 2)) (dn_cons (de_var (pv 1)) (dn_nil)))) (dn_nil)))))) (dss_one (ds_ret (de_bl))) (dss_nil)) (dss_one (ds_if (dt_not (dt_tru (de_call (ok__law_right T) (hr.mono (by decide)) (by rfl) T.g__law_right T.F__law_right.kp T.b__law_right .nil rs0 pBody (dn_cons (de_tup (dn_cons (de_call (ok__law_draw T) (hr.mono (by decide)) (by rfl) T.g__law_draw T.F__law_draw.kp T.b__law_draw .nil rs0 pBody (dn_cons (de_var (pv 2)) (dn_cons (de_int) (dn_nil)))) (dn_cons (de_call (ok__law_of T) (hr.mono (by decide)) (by rfl) T.g__law_of T.F__law_of.kp T.b__law_of .nil rs0 pBody (dn_cons (de_var (pv 2)) (dn_cons (de_var (pv 1)) (dn_nil)))) (dn_nil)))) (dn_cons (de_call (ok__law_of T) (hr.mono (by decide)) (by rfl) T.g__law_of T.F__law_of.kp T.b__law_of .nil rs0 pBody (dn_cons (de_var (pv 2)) (dn_cons (de_var (pv 1)) (dn_nil)))) (dn_nil)))))) (dss_one (ds_ret (de_bl))) (dss_nil))))) (dss_cons (ds_set (i := 4) sc_law.nd rfl (by first | exact .inl rfl | exact .inr rfl) (de_lstO (dn_nil))) (dss_cons (ds_try rfl rfl sc_law.nd (db_raise (mk_BadGood T) (hr.mono (by decide)) rfl (by rfl) T.g_BadGood (fun _ _ => dn_cons (de_int) (dn_cons (de_str) (dn_nil)))) (.as (tst_name ⟨by rfl, by decide, .inl T.g_MakeError⟩) rfl rfl (fun a _ => have hrq := hr.q.mark (some (.ref a)); dss_one (ds_expr (de_app (de_var (pv 4)) (de_var (pv 5))))) (.nil))) (dss_cons (ds_set (i := 6) sc_law.nd rfl (by first | exact .inl rfl | exact .inr rfl) (de_mk0 T.k0_MakeError (by rfl) T.g_MakeError (de_str))) (dss_cons (ds_if (dt_cmp (do_ne hr.r.units) (de_call (ok__law_above T) (hr.mono (by decide)) (by rfl) T.g__law_above T.F__law_above.kp T.b__law_above .nil rs0 pBody (dn_cons (de_var (pv 6)) (dn_nil))) (de_lst (dn_cons (de_bl) (dn_cons (de_bl) (dn_cons (de_bl) (dn_cons (de_bl) (dn_cons (de_bl) (dn_nil))))))) (nomark _)) (dss_one (ds_ret (de_bl))) (dss_nil)) (dss_one (ds_ret (de_and (de_cmp (do_eq hr.r.units) (de_call (ok__law_marks T) (hr.mono (by decide)) (by rfl) T.g__law_marks T.F__law_marks.kp T.b__law_marks .nil rs0 pBody (dn_cons (de_var (pv 6)) (dn_nil))) (de_op do_mul (de_lst (dn_cons (de_bl) (dn_nil))) (de_int)) (nomark _)) (de_one (de_cmp (do_eq hr.r.units) (de_callB dc_len (by rfl) T.z_len (by decide +kernel) (dn_cons (de_var (pv 4)) (dn_nil))) (de_int) (nomark _)))))))))))))
end
end G_madeofhere_k01_errors
set_option maxHeartbeats 0
namespace G_madeofhere_k01_errors
open PySem PySem.Spec PyProof.Rows L2 DL
def dd_BadGood : He.DefD := ⟨("BadGood", some "__init__"), "__init__", "BadGood.__init__", defArgs st_BadGood, defBody st_BadGood, defScope st_BadGood, [], []⟩
def dd_BadPrices : He.DefD := ⟨("BadPrices", some "__init__"), "__init__", "BadPrices.__init__", defArgs st_BadPrices, defBody st_BadPrices, defScope st_BadPrices, [], []⟩
def dd_BadWords : He.DefD := ⟨("BadWords", some "__init__"), "__init__", "BadWords.__init__", defArgs st_BadWords, defBody st_BadWords, defScope st_BadWords, [], []⟩
def dd_BadNumber : He.DefD := ⟨("BadNumber", some "__init__"), "__init__", "BadNumber.__init__", defArgs st_BadNumber, defBody st_BadNumber, defScope st_BadNumber, [], []⟩
def dd_BadPaper : He.DefD := ⟨("BadPaper", some "__init__"), "__init__", "BadPaper.__init__", defArgs st_BadPaper, defBody st_BadPaper, defScope st_BadPaper, [], []⟩
def dd_BadText : He.DefD := ⟨("BadText", some "__init__"), "__init__", "BadText.__init__", defArgs st_BadText, defBody st_BadText, defScope st_BadText, [], []⟩
def dd_BadFraction : He.DefD := ⟨("BadFraction", some "__init__"), "__init__", "BadFraction.__init__", defArgs st_BadFraction, defBody st_BadFraction, defScope st_BadFraction, [], []⟩
def dd_BadChange : He.DefD := ⟨("BadChange", some "__init__"), "__init__", "BadChange.__init__", defArgs st_BadChange, defBody st_BadChange, defScope st_BadChange, [], []⟩
def dd_BadMenu : He.DefD := ⟨("BadMenu", some "__init__"), "__init__", "BadMenu.__init__", defArgs st_BadMenu, defBody st_BadMenu, defScope st_BadMenu, [], []⟩
def dd_BadSeen : He.DefD := ⟨("BadSeen", some "__init__"), "__init__", "BadSeen.__init__", defArgs st_BadSeen, defBody st_BadSeen, defScope st_BadSeen, [], []⟩
def dd_Nothing : He.DefD := ⟨("Nothing", some "__init__"), "__init__", "Nothing.__init__", defArgs st_Nothing, defBody st_Nothing, defScope st_Nothing, [], []⟩
def clsN : List Str := [("MakeError" : Str), ("BadGood" : Str), ("BadPrices" : Str), ("BadWords" : Str), ("BadNumber" : Str), ("BadPaper" : Str), ("BadText" : Str), ("BadFraction" : Str), ("BadChange" : Str), ("BadMenu" : Str), ("BadSeen" : Str), ("Nothing" : Str)]
def clsA (K : Fg) : Nat → Addr := fun i => He.ga K (clsN.getD i "")
def exC (K : Fg) : Bool := ((List.range 12).all fun i => if [true, true, true, true, true, true, true, true, true, true, true, false].getD i true = true then clsVB K (clsA K i) else clsLB K (clsA K i)) && (kitBB K (clsA K) 12 tb tys fds && (k0B K (clsA K 0) true && true))
theorem exC_cf {K : Fg} (h : exC K = true) : CF K (clsA K) := by
  obtain ⟨h1, h2⟩ := He.ba h
  refine ⟨fun {i} hi => ?_, kitBB_ok (He.ba h2).1⟩
  have q := List.all_eq_true.mp h1 i (List.mem_range.mpr hi)
  by_cases z : [true, true, true, true, true, true, true, true, true, true, true, false].getD i true = true
  · rw [if_pos z] at q; exact clsVB_ok q
  · rw [if_neg z] at q; exact clsLB_ok q
theorem exC_k0 {K : Fg} (h : exC K = true) : (k0B K (clsA K 0) true && true) = true := (He.ba (He.ba h).2).2
def dd__law_begun : He.DefD := ⟨("_law_begun", none), "_law_begun", "_law_begun", defArgs st__law_begun, defBody st__law_begun, defScope st__law_begun, [], []⟩
def dd__law_draw : He.DefD := ⟨("_law_draw", none), "_law_draw", "_law_draw", defArgs st__law_draw, defBody st__law_draw, defScope st__law_draw, [], []⟩
def dd__law_of : He.DefD := ⟨("_law_of", none), "_law_of", "_law_of", defArgs st__law_of, defBody st__law_of, defScope st__law_of, [], []⟩
def dd__law_pairs : He.DefD := ⟨("_law_pairs", none), "_law_pairs", "_law_pairs", defArgs st__law_pairs, defBody st__law_pairs, defScope st__law_pairs, [], []⟩
def dd__law_marks : He.DefD := ⟨("_law_marks", none), "_law_marks", "_law_marks", defArgs st__law_marks, defBody st__law_marks, defScope st__law_marks, [], []⟩
def dd__law_above : He.DefD := ⟨("_law_above", none), "_law_above", "_law_above", defArgs st__law_above, defBody st__law_above, defScope st__law_above, [], []⟩
def dd__law_field : He.DefD := ⟨("_law_field", none), "_law_field", "_law_field", defArgs st__law_field, defBody st__law_field, defScope st__law_field, [], []⟩
def dd__law_right : He.DefD := ⟨("_law_right", none), "_law_right", "_law_right", defArgs st__law_right, defBody st__law_right, defScope st__law_right, [], []⟩
def dd_law : He.DefD := ⟨("law", none), "law", "law", defArgs st_law, defBody st_law, defScope st_law, [], []⟩
def fn : List He.DefD := [dd__law_begun, dd__law_draw, dd__law_of, dd__law_pairs, dd__law_marks, dd__law_above, dd__law_field, dd__law_right, dd_law, dd_BadGood, dd_BadPrices, dd_BadWords, dd_BadNumber, dd_BadPaper, dd_BadText, dd_BadFraction, dd_BadChange, dd_BadMenu, dd_BadSeen, dd_Nothing]
def fa : List He.Fa := [.glo "_law_begun", .glo "_law_draw", .glo "_law_of", .glo "_law_pairs", .glo "_law_marks", .glo "_law_above", .glo "_law_field", .glo "_law_right", .glo "law", .free "ArithmeticError", .free "LookupError", .free "TypeError", .free "ValueError", .free "enumerate", .free "int", .free "isinstance", .free "len", .free "list", .free "min", .free "range", .free "repr", .glo "BadChange", .glo "BadFraction", .glo "BadGood", .glo "BadMenu", .glo "BadNumber", .glo "BadPaper", .glo "BadPrices", .glo "BadSeen", .glo "BadText", .glo "BadWords", .glo "MakeError", .glo "Nothing", .meth "BadGood" "__init__", .meth "BadPrices" "__init__", .meth "BadWords" "__init__", .meth "BadNumber" "__init__", .meth "BadPaper" "__init__", .meth "BadText" "__init__", .meth "BadFraction" "__init__", .meth "BadChange" "__init__", .meth "BadMenu" "__init__", .meth "BadSeen" "__init__", .meth "Nothing" "__init__"]
def exI (_ : Fg) : Bool := true
def ex (K : Fg) : Bool := exI K && exC K
abbrev R : PySem.W.OpenRow := PySem.W.OpenLaw.row PySem.Challenge.rw_madeofhere_k01_errors
abbrev hk : PySem.W.Hook := hookE 6 fa fn ex
def ob (s : PySem.W.SharedT) : AlE := obsE 6 fa fn ex (HandSHeadRun.getT s)
theorem ob_eq (s : PySem.W.SharedT) : ob s = hk.obs s.abs := obsE_eq (HandSHeadRun.getT_eq s)
def lo0 : List Str := [("__name__" : Str), ("MakeError" : Str), ("BadGood" : Str), ("BadPrices" : Str), ("BadWords" : Str), ("BadNumber" : Str), ("BadPaper" : Str), ("BadText" : Str), ("BadFraction" : Str), ("BadChange" : Str), ("BadMenu" : Str), ("BadSeen" : Str), ("Nothing" : Str), ("_law_begun" : Str), ("_law_draw" : Str), ("_law_of" : Str), ("_law_pairs" : Str), ("_law_marks" : Str), ("_law_above" : Str), ("_law_field" : Str), ("_law_right" : Str)]
def loose : List Str := lo0
theorem run (w : World) : HandSHeadRun.RunEq R (PySem.W.view R.prog [22]) hk ob 40000 loose w := by
  intro os
  kernel_rfl
theorem txt {K : Fg} {h : Heap} {mg : Str → Option Value} (X : K.In h) (G : h.Ns mainGlobals mg) (c : He.SaysD fa fn K) (e : ex K = true) : ∃ A : Adr, Txt K mg A ∧ A.a_law = He.ga K "law" := by
  obtain ⟨eI, eC⟩ := He.ba e
  obtain ⟨q0, F0⟩ := c.def_ 0 (d := dd__law_begun) rfl
  have F0 : Fun K "_law_begun" "_law_begun" st__law_begun (He.ga K "_law_begun") q0 := fun_ofD (st := st__law_begun) F0
  obtain ⟨q1, F1⟩ := c.def_ 1 (d := dd__law_draw) rfl
  have F1 : Fun K "_law_draw" "_law_draw" st__law_draw (He.ga K "_law_draw") q1 := fun_ofD (st := st__law_draw) F1
  obtain ⟨q2, F2⟩ := c.def_ 2 (d := dd__law_of) rfl
  have F2 : Fun K "_law_of" "_law_of" st__law_of (He.ga K "_law_of") q2 := fun_ofD (st := st__law_of) F2
  obtain ⟨q3, F3⟩ := c.def_ 3 (d := dd__law_pairs) rfl
  have F3 : Fun K "_law_pairs" "_law_pairs" st__law_pairs (He.ga K "_law_pairs") q3 := fun_ofD (st := st__law_pairs) F3
  obtain ⟨q4, F4⟩ := c.def_ 4 (d := dd__law_marks) rfl
  have F4 : Fun K "_law_marks" "_law_marks" st__law_marks (He.ga K "_law_marks") q4 := fun_ofD (st := st__law_marks) F4
  obtain ⟨q5, F5⟩ := c.def_ 5 (d := dd__law_above) rfl
  have F5 : Fun K "_law_above" "_law_above" st__law_above (He.ga K "_law_above") q5 := fun_ofD (st := st__law_above) F5
  obtain ⟨q6, F6⟩ := c.def_ 6 (d := dd__law_field) rfl
  have F6 : Fun K "_law_field" "_law_field" st__law_field (He.ga K "_law_field") q6 := fun_ofD (st := st__law_field) F6
  obtain ⟨q7, F7⟩ := c.def_ 7 (d := dd__law_right) rfl
  have F7 : Fun K "_law_right" "_law_right" st__law_right (He.ga K "_law_right") q7 := fun_ofD (st := st__law_right) F7
  obtain ⟨q8, F8⟩ := c.def_ 8 (d := dd_law) rfl
  have F8 : Fun K "law" "law" st_law (He.ga K "law") q8 := fun_ofD (st := st_law) F8
  obtain ⟨q9, F9⟩ := c.def_ 9 (d := dd_BadGood) rfl
  have F9 : Fun K "__init__" "BadGood.__init__" st_BadGood (He.ma K (clsA K 1) "__init__") q9 := fun_ofD (st := st_BadGood) F9
  obtain ⟨q10, F10⟩ := c.def_ 10 (d := dd_BadPrices) rfl
  have F10 : Fun K "__init__" "BadPrices.__init__" st_BadPrices (He.ma K (clsA K 2) "__init__") q10 := fun_ofD (st := st_BadPrices) F10
  obtain ⟨q11, F11⟩ := c.def_ 11 (d := dd_BadWords) rfl
  have F11 : Fun K "__init__" "BadWords.__init__" st_BadWords (He.ma K (clsA K 3) "__init__") q11 := fun_ofD (st := st_BadWords) F11
  obtain ⟨q12, F12⟩ := c.def_ 12 (d := dd_BadNumber) rfl
  have F12 : Fun K "__init__" "BadNumber.__init__" st_BadNumber (He.ma K (clsA K 4) "__init__") q12 := fun_ofD (st := st_BadNumber) F12
  obtain ⟨q13, F13⟩ := c.def_ 13 (d := dd_BadPaper) rfl
  have F13 : Fun K "__init__" "BadPaper.__init__" st_BadPaper (He.ma K (clsA K 5) "__init__") q13 := fun_ofD (st := st_BadPaper) F13
  obtain ⟨q14, F14⟩ := c.def_ 14 (d := dd_BadText) rfl
  have F14 : Fun K "__init__" "BadText.__init__" st_BadText (He.ma K (clsA K 6) "__init__") q14 := fun_ofD (st := st_BadText) F14
  obtain ⟨q15, F15⟩ := c.def_ 15 (d := dd_BadFraction) rfl
  have F15 : Fun K "__init__" "BadFraction.__init__" st_BadFraction (He.ma K (clsA K 7) "__init__") q15 := fun_ofD (st := st_BadFraction) F15
  obtain ⟨q16, F16⟩ := c.def_ 16 (d := dd_BadChange) rfl
  have F16 : Fun K "__init__" "BadChange.__init__" st_BadChange (He.ma K (clsA K 8) "__init__") q16 := fun_ofD (st := st_BadChange) F16
  obtain ⟨q17, F17⟩ := c.def_ 17 (d := dd_BadMenu) rfl
  have F17 : Fun K "__init__" "BadMenu.__init__" st_BadMenu (He.ma K (clsA K 9) "__init__") q17 := fun_ofD (st := st_BadMenu) F17
  obtain ⟨q18, F18⟩ := c.def_ 18 (d := dd_BadSeen) rfl
  have F18 : Fun K "__init__" "BadSeen.__init__" st_BadSeen (He.ma K (clsA K 10) "__init__") q18 := fun_ofD (st := st_BadSeen) F18
  obtain ⟨q19, F19⟩ := c.def_ 19 (d := dd_Nothing) rfl
  have F19 : Fun K "__init__" "Nothing.__init__" st_Nothing (He.ma K (clsA K 11) "__init__") q19 := fun_ofD (st := st_Nothing) F19
  exact ⟨{ cls := clsA K, a_BadGood := He.ma K (clsA K 1) "__init__", d_BadGood := q9, a_BadPrices := He.ma K (clsA K 2) "__init__", d_BadPrices := q10, a_BadWords := He.ma K (clsA K 3) "__init__", d_BadWords := q11, a_BadNumber := He.ma K (clsA K 4) "__init__", d_BadNumber := q12, a_BadPaper := He.ma K (clsA K 5) "__init__", d_BadPaper := q13, a_BadText := He.ma K (clsA K 6) "__init__", d_BadText := q14, a_BadFraction := He.ma K (clsA K 7) "__init__", d_BadFraction := q15, a_BadChange := He.ma K (clsA K 8) "__init__", d_BadChange := q16, a_BadMenu := He.ma K (clsA K 9) "__init__", d_BadMenu := q17, a_BadSeen := He.ma K (clsA K 10) "__init__", d_BadSeen := q18, a_Nothing := He.ma K (clsA K 11) "__init__", d_Nothing := q19, a__law_begun := He.ga K "_law_begun", d__law_begun := q0, a__law_draw := He.ga K "_law_draw", d__law_draw := q1, a__law_of := He.ga K "_law_of", d__law_of := q2, a__law_pairs := He.ga K "_law_pairs", d__law_pairs := q3, a__law_marks := He.ga K "_law_marks", d__law_marks := q4, a__law_above := He.ga K "_law_above", d__law_above := q5, a__law_field := He.ga K "_law_field", d__law_field := q6, a__law_right := He.ga K "_law_right", d__law_right := q7, a_law := He.ga K "law", d_law := q8 },
  { F__law_begun := F0,
    g__law_begun := He.glo_ok X G (c.fact 0 (f := .glo "_law_begun") rfl),
    b__law_begun := binds_of F0 (fun _ _ _ _ _ _ us hl => match us, hl with | [_], _ => rfl),
    F__law_draw := F1,
    g__law_draw := He.glo_ok X G (c.fact 1 (f := .glo "_law_draw") rfl),
    b__law_draw := binds_of F1 (fun _ _ _ _ _ _ us hl => match us, hl with | [_, _], _ => rfl),
    F__law_of := F2,
    g__law_of := He.glo_ok X G (c.fact 2 (f := .glo "_law_of") rfl),
    b__law_of := binds_of F2 (fun _ _ _ _ _ _ us hl => match us, hl with | [_, _], _ => rfl),
    F__law_pairs := F3,
    g__law_pairs := He.glo_ok X G (c.fact 3 (f := .glo "_law_pairs") rfl),
    b__law_pairs := binds_of F3 (fun _ _ _ _ _ _ us hl => match us, hl with | [_], _ => rfl),
    F__law_marks := F4,
    g__law_marks := He.glo_ok X G (c.fact 4 (f := .glo "_law_marks") rfl),
    b__law_marks := binds_of F4 (fun _ _ _ _ _ _ us hl => match us, hl with | [_], _ => rfl),
    F__law_above := F5,
    g__law_above := He.glo_ok X G (c.fact 5 (f := .glo "_law_above") rfl),
    b__law_above := binds_of F5 (fun _ _ _ _ _ _ us hl => match us, hl with | [_], _ => rfl),
    F__law_field := F6,
    g__law_field := He.glo_ok X G (c.fact 6 (f := .glo "_law_field") rfl),
    b__law_field := binds_of F6 (fun _ _ _ _ _ _ us hl => match us, hl with | [_, _], _ => rfl),
    F__law_right := F7,
    g__law_right := He.glo_ok X G (c.fact 7 (f := .glo "_law_right") rfl),
    b__law_right := binds_of F7 (fun _ _ _ _ _ _ us hl => match us, hl with | [_, _], _ => rfl),
    F_law := F8,
    g_law := He.glo_ok X G (c.fact 8 (f := .glo "law") rfl),
    b_law := binds_of F8 (fun _ _ _ _ _ _ us hl => match us, hl with | [_], _ => rfl),
    F_BadGood := F9,
    b_BadGood := binds_of F9 (fun _ _ _ _ _ _ us hl => match us, hl with | [_, _, _], _ => rfl),
    F_BadPrices := F10,
    b_BadPrices := binds_of F10 (fun _ _ _ _ _ _ us hl => match us, hl with | [_, _], _ => rfl),
    F_BadWords := F11,
    b_BadWords := binds_of F11 (fun _ _ _ _ _ _ us hl => match us, hl with | [_, _], _ => rfl),
    F_BadNumber := F12,
    b_BadNumber := binds_of F12 (fun _ _ _ _ _ _ us hl => match us, hl with | [_, _], _ => rfl),
    F_BadPaper := F13,
    b_BadPaper := binds_of F13 (fun _ _ _ _ _ _ us hl => match us, hl with | [_, _], _ => rfl),
    F_BadText := F14,
    b_BadText := binds_of F14 (fun _ _ _ _ _ _ us hl => match us, hl with | [_, _], _ => rfl),
    F_BadFraction := F15,
    b_BadFraction := binds_of F15 (fun _ _ _ _ _ _ us hl => match us, hl with | [_, _], _ => rfl),
    F_BadChange := F16,
    b_BadChange := binds_of F16 (fun _ _ _ _ _ _ us hl => match us, hl with | [_, _], _ => rfl),
    F_BadMenu := F17,
    b_BadMenu := binds_of F17 (fun _ _ _ _ _ _ us hl => match us, hl with | [_, _], _ => rfl),
    F_BadSeen := F18,
    b_BadSeen := binds_of F18 (fun _ _ _ _ _ _ us hl => match us, hl with | [_, _], _ => rfl),
    F_Nothing := F19,
    b_Nothing := binds_of F19 (fun _ _ _ _ _ _ us hl => match us, hl with | [_, _], _ => rfl),
    k0_MakeError := k0B_ok (He.ba (exC_k0 eC)).1,
    C := exC_cf eC,
    z_ArithmeticError := He.free_ok X G (c.fact 9 (f := .free "ArithmeticError") rfl),
    z_LookupError := He.free_ok X G (c.fact 10 (f := .free "LookupError") rfl),
    z_TypeError := He.free_ok X G (c.fact 11 (f := .free "TypeError") rfl),
    z_ValueError := He.free_ok X G (c.fact 12 (f := .free "ValueError") rfl),
    z_enumerate := He.free_ok X G (c.fact 13 (f := .free "enumerate") rfl),
    z_int := He.free_ok X G (c.fact 14 (f := .free "int") rfl),
    z_isinstance := He.free_ok X G (c.fact 15 (f := .free "isinstance") rfl),
    z_len := He.free_ok X G (c.fact 16 (f := .free "len") rfl),
    z_list := He.free_ok X G (c.fact 17 (f := .free "list") rfl),
    z_min := He.free_ok X G (c.fact 18 (f := .free "min") rfl),
    z_range := He.free_ok X G (c.fact 19 (f := .free "range") rfl),
    z_repr := He.free_ok X G (c.fact 20 (f := .free "repr") rfl),
    g_BadChange := He.glo_ok X G (c.fact 21 (f := .glo "BadChange") rfl),
    g_BadFraction := He.glo_ok X G (c.fact 22 (f := .glo "BadFraction") rfl),
    g_BadGood := He.glo_ok X G (c.fact 23 (f := .glo "BadGood") rfl),
    g_BadMenu := He.glo_ok X G (c.fact 24 (f := .glo "BadMenu") rfl),
    g_BadNumber := He.glo_ok X G (c.fact 25 (f := .glo "BadNumber") rfl),
    g_BadPaper := He.glo_ok X G (c.fact 26 (f := .glo "BadPaper") rfl),
    g_BadPrices := He.glo_ok X G (c.fact 27 (f := .glo "BadPrices") rfl),
    g_BadSeen := He.glo_ok X G (c.fact 28 (f := .glo "BadSeen") rfl),
    g_BadText := He.glo_ok X G (c.fact 29 (f := .glo "BadText") rfl),
    g_BadWords := He.glo_ok X G (c.fact 30 (f := .glo "BadWords") rfl),
    g_MakeError := He.glo_ok X G (c.fact 31 (f := .glo "MakeError") rfl),
    g_Nothing := He.glo_ok X G (c.fact 32 (f := .glo "Nothing") rfl),
    i_BadGood := (He.meth_ok (c.fact 33 (f := .meth "BadGood" "__init__") rfl)).at_,
    t_BadGood := beq_iff_eq.mp (He.meth_ok (c.fact 33 (f := .meth "BadGood" "__init__") rfl)).fn,
    i_BadPrices := (He.meth_ok (c.fact 34 (f := .meth "BadPrices" "__init__") rfl)).at_,
    t_BadPrices := beq_iff_eq.mp (He.meth_ok (c.fact 34 (f := .meth "BadPrices" "__init__") rfl)).fn,
    i_BadWords := (He.meth_ok (c.fact 35 (f := .meth "BadWords" "__init__") rfl)).at_,
    t_BadWords := beq_iff_eq.mp (He.meth_ok (c.fact 35 (f := .meth "BadWords" "__init__") rfl)).fn,
    i_BadNumber := (He.meth_ok (c.fact 36 (f := .meth "BadNumber" "__init__") rfl)).at_,
    t_BadNumber := beq_iff_eq.mp (He.meth_ok (c.fact 36 (f := .meth "BadNumber" "__init__") rfl)).fn,
    i_BadPaper := (He.meth_ok (c.fact 37 (f := .meth "BadPaper" "__init__") rfl)).at_,
    t_BadPaper := beq_iff_eq.mp (He.meth_ok (c.fact 37 (f := .meth "BadPaper" "__init__") rfl)).fn,
    i_BadText := (He.meth_ok (c.fact 38 (f := .meth "BadText" "__init__") rfl)).at_,
    t_BadText := beq_iff_eq.mp (He.meth_ok (c.fact 38 (f := .meth "BadText" "__init__") rfl)).fn,
    i_BadFraction := (He.meth_ok (c.fact 39 (f := .meth "BadFraction" "__init__") rfl)).at_,
    t_BadFraction := beq_iff_eq.mp (He.meth_ok (c.fact 39 (f := .meth "BadFraction" "__init__") rfl)).fn,
    i_BadChange := (He.meth_ok (c.fact 40 (f := .meth "BadChange" "__init__") rfl)).at_,
    t_BadChange := beq_iff_eq.mp (He.meth_ok (c.fact 40 (f := .meth "BadChange" "__init__") rfl)).fn,
    i_BadMenu := (He.meth_ok (c.fact 41 (f := .meth "BadMenu" "__init__") rfl)).at_,
    t_BadMenu := beq_iff_eq.mp (He.meth_ok (c.fact 41 (f := .meth "BadMenu" "__init__") rfl)).fn,
    i_BadSeen := (He.meth_ok (c.fact 42 (f := .meth "BadSeen" "__init__") rfl)).at_,
    t_BadSeen := beq_iff_eq.mp (He.meth_ok (c.fact 42 (f := .meth "BadSeen" "__init__") rfl)).fn,
    i_Nothing := (He.meth_ok (c.fact 43 (f := .meth "Nothing" "__init__") rfl)).at_,
    t_Nothing := beq_iff_eq.mp (He.meth_ok (c.fact 43 (f := .meth "Nothing" "__init__") rfl)).fn }, rfl⟩
end G_madeofhere_k01_errors
open PySem PySem.W PySem.Calls PyProof.Rows
theorem G_madeofhere_k01_errors.from_data (hl : ∀ (K : DL.Fg) (c : Nat → PySem.Addr), G_madeofhere_k01_errors.CF K c → DL.LawD 63 (G_madeofhere_k01_errors.Wlaw K c)) : PySem.Challenge.rw_madeofhere_k01_errors.Holds := by
  w_on; o_law
  refine HandSHeadRun.head_any (r := G_madeofhere_k01_errors.R) (q := view G_madeofhere_k01_errors.R.prog [22]) (H := G_madeofhere_k01_errors.hk) (ob := G_madeofhere_k01_errors.ob) (M := 40000) (loose := G_madeofhere_k01_errors.loose) (d := HandSHeadRun.topDef G_madeofhere_k01_errors.R.prog 22) (kwd := []) G_madeofhere_k01_errors.ob_eq
    (by kernel_rfl) (fun s => by kernel_rfl) G_madeofhere_k01_errors.run (by kernel_rfl) (by kernel_rfl) (by kernel_rfl) (by rfl) (by first | assumption | decide +kernel) (by decide +kernel) ⟨rfl, rfl, rfl, rfl, rfl, by decide +kernel⟩ ?hw ?hc
  case hw => w_witness2
  case hc =>
    refine DL.d_walk (l := PySem.Challenge.rw_madeofhere_k01_errors) (n := 63) (k := 5) (x := "script") rfl (by decide) (by kernel_rfl) ⟨⟨rfl, by decide, by decide⟩, rfl⟩ ?F
    intro w mg fa h Y G hmg0
    obtain ⟨K, KX, c, e⟩ := Y
    have hmg : mg ("law" : PySem.Str) = some (.ref fa) := by
      have e : (HandSHeadRun.topDef G_madeofhere_k01_errors.R.prog 22).name = ("law" : PySem.Str) := by kernel_rfl
      rw [← e]
      exact hmg0
    obtain ⟨A, T, eA⟩ := G_madeofhere_k01_errors.txt KX G c e
    have ef := hmg.symm.trans T.g_law
    cases ef
    exact ⟨K, A.d_law, G_madeofhere_k01_errors.Wlaw K A.cls, KX, fun s v => (by obtain ⟨_, _, _, _, _, _, _, _, _, e2, _, _⟩ := T.F_law.ex; rw [e2]; exact .of_eq rfl), hl K A.cls T.C, fun base _ _ => G_madeofhere_k01_errors.ok_law T⟩
set_option maxHeartbeats 1000000
namespace MH
open PySem PySem.Spec PyProof.Rows L2 DL

/-! ### things as trees -/
inductive Th where
  | raw (here : Bool) (lo hi : Int)
  | made (here : Bool) (lo hi share : Int) (up down : Bool) (parts : List Th)
  deriving Inhabited
def landS (b : Bool) : Str := if b then "here" else "away"
def upS (b : Bool) : Str := if b then "whole" else "own"
def dnS (b : Bool) : Str := if b then "own" else "none"
def landD (b : Bool) : D := .str (landS b)
def termD (share : Int) (up down : Bool) : D := .tup [.int share, .str (upS up), .str (dnS down)]
mutual
def Th.d : Th → D
  | .raw h lo hi => .tup [.str "raw", landD h, .int lo, .int hi]
  | .made h lo hi sh u w ps => .tup [.str "made", landD h, .int lo, .int hi, termD sh u w, .tup (Th.ds ps)]
def Th.ds : List Th → List D
  | [] => []
  | t :: ts => t.d :: Th.ds ts
end
theorem ds_map : ∀ ts : List Th, Th.ds ts = ts.map Th.d
  | [] => rfl
  | t :: ts => by rw [Th.ds, ds_map ts, List.map_cons]
mutual
def Th.sz : Th → Nat
  | .raw _ _ _ => 1
  | .made _ _ _ _ _ _ ps => 1 + Th.szs ps
def Th.szs : List Th → Nat
  | [] => 0
  | t :: ts => t.sz + Th.szs ts
end
mutual
/-- steps in it -/
def Th.st : Th → Nat
  | .raw _ _ _ => 0
  | .made _ _ _ _ _ _ ps => 1 + Th.sts ps
def Th.sts : List Th → Nat
  | [] => 0
  | t :: ts => t.st + Th.sts ts
end
def mv1 (lo hi : Int) : Nat := if lo < hi then 1 else 0
mutual
/-- how many move -/
def Th.mv : Th → Nat
  | .raw _ lo hi => mv1 lo hi
  | .made _ lo hi _ _ _ ps => mv1 lo hi + Th.mvs ps
def Th.mvs : List Th → Nat
  | [] => 0
  | t :: ts => t.mv + Th.mvs ts
end
def bnd (lo hi : Int) : Prop := 0 ≤ lo ∧ lo ≤ hi ∧ hi ≤ 1000000
mutual
/-- each thing by itself is as told -/
def Th.ok : Th → Prop
  | .raw _ lo hi => bnd lo hi
  | .made _ lo hi sh _ _ ps => bnd lo hi ∧ (0 ≤ sh ∧ sh ≤ 100) ∧ (1 ≤ ps.length ∧ ps.length ≤ 4) ∧ Th.oks ps
def Th.oks : List Th → Prop
  | [] => True
  | t :: ts => t.ok ∧ Th.oks ts
end
def Th.isMade : Th → Bool
  | .raw _ _ _ => false
  | .made _ _ _ _ _ _ _ => true
mutual
/-- some LOW is above 0 -/
def Th.any : Th → Bool
  | .raw _ lo _ => decide (0 < lo)
  | .made _ lo _ _ _ _ ps => decide (0 < lo) || Th.anys ps
def Th.anys : List Th → Bool
  | [] => false
  | t :: ts => t.any || Th.anys ts
end
/-- a good -/
structure Th.good (t : Th) : Prop where
  made : t.isMade = true
  ok : t.ok
  sz : t.sz ≤ 10
  st : t.st ≤ 4
  mv : t.mv ≤ 3
  any : t.any = true
theorem szs_app : ∀ a b : List Th, Th.szs (a ++ b) = Th.szs a + Th.szs b
  | [], b => by simp [Th.szs]
  | t :: a, b => by simp only [List.cons_append, Th.szs, szs_app a b]; omega
theorem sts_app : ∀ a b : List Th, Th.sts (a ++ b) = Th.sts a + Th.sts b
  | [], b => by simp [Th.sts]
  | t :: a, b => by simp only [List.cons_append, Th.sts, sts_app a b]; omega
theorem mvs_app : ∀ a b : List Th, Th.mvs (a ++ b) = Th.mvs a + Th.mvs b
  | [], b => by simp [Th.mvs]
  | t :: a, b => by simp only [List.cons_append, Th.mvs, mvs_app a b]; omega
theorem oks_app : ∀ a b : List Th, Th.oks (a ++ b) ↔ Th.oks a ∧ Th.oks b
  | [], b => by simp [Th.oks]
  | t :: a, b => by simp only [List.cons_append, Th.oks, oks_app a b, and_assoc]
theorem ds_app (a b : List Th) : Th.ds (a ++ b) = Th.ds a ++ Th.ds b := by rw [ds_map, ds_map, ds_map, List.map_append]
theorem sz_pos : ∀ t : Th, 1 ≤ t.sz
  | .raw _ _ _ => Nat.le_refl 1
  | .made _ _ _ _ _ _ ps => by unfold Th.sz; omega
theorem szs_ge : ∀ ts : List Th, ts.length ≤ Th.szs ts
  | [] => Nat.le_refl 0
  | t :: ts => by
    have := szs_ge ts
    have := sz_pos t
    simp only [Th.szs, List.length_cons]; omega
end MH
set_option maxHeartbeats 1000000
namespace MH
open PySem PySem.Spec PyProof.Rows L2 DL
/-- in least terms -/
def lt (p q : Int) : Int × Int := (p / (Int.gcd p q : Int), q / (Int.gcd p q : Int))
def frD (f : Int × Int) : D := .tup [.int f.1, .int f.2]
theorem gcd_pos' {p q : Int} (h : 0 < q) : (0 : Int) < (Int.gcd p q : Int) := by
  have : Int.gcd p q ≠ 0 := fun e => by
    have := Int.gcd_eq_zero_iff.mp e
    omega
  omega
theorem lt_mul {p q : Int} : (lt p q).1 * (Int.gcd p q : Int) = p ∧ (lt p q).2 * (Int.gcd p q : Int) = q := by
  refine ⟨Int.ediv_mul_cancel (Int.gcd_dvd_left ..), Int.ediv_mul_cancel (Int.gcd_dvd_right ..)⟩
theorem lt_pos {p q : Int} (h : 0 < q) : 0 < (lt p q).2 := by
  have g := gcd_pos' (p := p) h
  have e := (lt_mul (p := p) (q := q)).2
  by_cases z : 0 < (lt p q).2
  · exact z
  · have : (lt p q).2 * (Int.gcd p q : Int) ≤ 0 := Int.mul_nonpos_of_nonpos_of_nonneg (by omega) (by omega)
    omega
theorem lt_cross {p q : Int} : (lt p q).1 * q = p * (lt p q).2 := by
  have h := lt_mul (p := p) (q := q)
  generalize (lt p q).1 = a at h
  generalize (lt p q).2 = b at h
  generalize (Int.gcd p q : Int) = g at h
  obtain ⟨h1, h2⟩ := h
  rw [← h1, ← h2, Int.mul_assoc, Int.mul_comm g b]
theorem lt_cop {p q : Int} (h : 0 < q) : Int.gcd (lt p q).1 (lt p q).2 = 1 := by
  have g := gcd_pos' (p := p) h
  unfold lt
  exact Int.gcd_ediv_gcd_ediv_gcd (by omega)
theorem dvd_cop {a b c : Int} (h : b ∣ a * c) (g : Int.gcd a b = 1) : b ∣ c := by
  rw [← Int.natAbs_dvd_natAbs] at h ⊢
  rw [Int.natAbs_mul, Nat.mul_comm] at h
  exact Nat.Coprime.dvd_of_dvd_mul_right (n := a.natAbs) (by unfold Nat.Coprime; rw [Nat.gcd_comm]; exact g) h
/-- two in least terms that are one number are one -/
theorem cop_eq {a b c d : Int} (h : a * d = c * b) (b0 : 0 < b) (d0 : 0 < d) (h1 : Int.gcd a b = 1) (h2 : Int.gcd c d = 1) : (a, b) = (c, d) := by
  have e1 : b ∣ d := by
    have : b ∣ a * d := ⟨c, by rw [h, Int.mul_comm]⟩
    exact dvd_cop this h1
  have e2 : d ∣ b := by
    have : d ∣ c * b := ⟨a, by rw [← h, Int.mul_comm]⟩
    exact dvd_cop this h2
  have e3 : b = d := Int.dvd_antisymm (by omega) (by omega) e1 e2
  subst e3
  have e4 : a = c := Int.eq_of_mul_eq_mul_right (by omega) h
  rw [e4]
theorem lt_eq {p q p' q' : Int} (h : p * q' = p' * q) (q0 : 0 < q) (q1 : 0 < q') : lt p q = lt p' q' := by
  refine cop_eq (a := (lt p q).1) (b := (lt p q).2) (c := (lt p' q').1) (d := (lt p' q').2) ?_ (lt_pos q0) (lt_pos q1) (lt_cop q0) (lt_cop q1)
  have m1 := lt_mul (p := p) (q := q)
  have m2 := lt_mul (p := p') (q := q')
  have g1 := gcd_pos' (p := p) q0
  have g2 := gcd_pos' (p := p') q1
  generalize (lt p q).1 = a at m1 ⊢
  generalize (lt p q).2 = b at m1 ⊢
  generalize (lt p' q').1 = c at m2 ⊢
  generalize (lt p' q').2 = d at m2 ⊢
  generalize (Int.gcd p q : Int) = g at m1 g1
  generalize (Int.gcd p' q' : Int) = k at m2 g2
  obtain ⟨rfl, rfl⟩ := m1
  obtain ⟨rfl, rfl⟩ := m2
  have e : a * d * (g * k) = c * b * (g * k) := by
    have e1 : a * g * (d * k) = a * d * (g * k) := by
      simp only [Int.mul_assoc, Int.mul_comm, Int.mul_left_comm]
    have e2 : c * k * (b * g) = c * b * (g * k) := by
      simp only [Int.mul_assoc, Int.mul_comm, Int.mul_left_comm]
    rw [← e1, ← e2]; exact h
  have : 0 < g * k := Int.mul_pos g1 g2
  exact Int.eq_of_mul_eq_mul_right (by omega) e
theorem lt_self {p q : Int} (q0 : 0 < q) (h : Int.gcd p q = 1) : lt p q = (p, q) := by
  unfold lt; rw [h]; simp
theorem lt_idem {p q : Int} (q0 : 0 < q) : lt (lt p q).1 (lt p q).2 = lt p q := lt_self (lt_pos q0) (lt_cop q0)
theorem lt_le {p q : Int} (q0 : 0 < q) : (lt p q).2 ≤ q := by
  have e := (lt_mul (p := p) (q := q)).2
  have g := gcd_pos' (p := p) q0
  have b := lt_pos (p := p) q0
  have : (lt p q).2 * 1 ≤ (lt p q).2 * (Int.gcd p q : Int) := Int.mul_le_mul_of_nonneg_left (by omega) (by omega)
  omega
theorem lt_abs {p q : Int} (q0 : 0 < q) : (lt p q).1.natAbs ≤ p.natAbs := by
  have e := (lt_mul (p := p) (q := q)).1
  have g := gcd_pos' (p := p) q0
  have e2 : (lt p q).1.natAbs * Int.gcd p q = p.natAbs := by
    rw [← e, Int.natAbs_mul]; simp
    rw [e]
  have : (lt p q).1.natAbs * 1 ≤ (lt p q).1.natAbs * Int.gcd p q := Nat.mul_le_mul_left _ (by omega)
  omega
end MH
set_option maxHeartbeats 1000000
namespace MH
open PySem PySem.Spec PyProof.Rows L2 DL
/-! ### the rows of a thing: each with the numbers of its parts -/
def nums : Nat → List Th → List Nat
  | _, [] => []
  | b, t :: ts => b :: nums (b + t.sz) ts
mutual
def rows : Th → Nat → List (Th × List Nat)
  | .raw h lo hi, _ => [(.raw h lo hi, [])]
  | .made h lo hi sh u w ps, b => (.made h lo hi sh u w ps, nums (b + 1) ps) :: rowss ps (b + 1)
def rowss : List Th → Nat → List (Th × List Nat)
  | [], _ => []
  | t :: ts, b => rows t b ++ rowss ts (b + t.sz)
end
def rowD (r : Th × List Nat) : D := .tup [r.1.d, .lst (r.2.map fun (k : Nat) => D.int (k : Int))]
mutual
theorem rows_len : ∀ (t : Th) (b : Nat), (rows t b).length = t.sz
  | .raw _ _ _, _ => rfl
  | .made _ _ _ _ _ _ ps, b => by rw [rows, List.length_cons, rowss_len ps (b + 1), Th.sz]; omega
theorem rowss_len : ∀ (ts : List Th) (b : Nat), (rowss ts b).length = Th.szs ts
  | [], _ => rfl
  | t :: ts, b => by rw [rowss, List.length_append, rows_len t b, rowss_len ts _, Th.szs]
end
theorem nums_len : ∀ (ts : List Th) (b : Nat), (nums b ts).length = ts.length
  | [], _ => rfl
  | t :: ts, b => by rw [nums, List.length_cons, nums_len ts, List.length_cons]
theorem sz_st : ∀ t : Th, 1 ≤ t.sz := sz_pos
end MH
set_option maxHeartbeats 1000000
namespace MH
open PySem PySem.Spec PyProof.Rows L2 DL
theorem log2_le {n a : Nat} (h : n ≤ 2 ^ a) : n.log2 ≤ a := by
  by_cases z : n = 0
  · subst z; simp
  · have h2 : n < 2 ^ (a + 1) := by rw [Nat.pow_succ]; have := Nat.two_pow_pos a; omega
    have := (Nat.log2_lt z).mpr h2
    omega
theorem mulW2 {i j : Int} {a b : Nat} (h : i.natAbs ≤ 2 ^ a) (k : j.natAbs ≤ 2 ^ b) (ab : a + b < 1000000) : CMulW i j := by
  have := log2_le h
  have := log2_le k
  unfold CMulW; omega
theorem divW2 {j : Int} {b : Nat} (h : 0 < j) (k : j.natAbs ≤ 2 ^ b) (hb : b < 9000) : CDivW 0 j := by
  have := log2_le k
  exact ⟨h, by omega⟩
/-- the sum of fractions, not in least terms -/
def addF (f g : Int × Int) : Int × Int := (f.1 * g.2 + g.1 * f.2, f.2 * g.2)
def sumF (fs : List (Int × Int)) : Int × Int := fs.foldl addF (0, 1)
/-- what is a fraction within reach -/
def FOk (f : Int × Int) : Prop := f.1.natAbs ≤ 2 ^ 64 ∧ 0 < f.2 ∧ f.2.natAbs ≤ 2 ^ 64
def FB (k : Nat) (f : Int × Int) : Prop := f.1.natAbs ≤ 2 ^ (65 * k) ∧ 0 < f.2 ∧ f.2.natAbs ≤ 2 ^ (65 * k)
theorem natAbs_mul_le {x y : Int} {a b : Nat} (h : x.natAbs ≤ a) (k : y.natAbs ≤ b) : (x * y).natAbs ≤ a * b := by
  rw [Int.natAbs_mul]; exact Nat.mul_le_mul h k
theorem addF_ok {k : Nat} {f g : Int × Int} (h : FB k f) (w : FOk g) : FB (k + 1) (addF f g) := by
  obtain ⟨h1, h2, h3⟩ := h
  obtain ⟨w1, w2, w3⟩ := w
  have e : 2 ^ (65 * (k + 1)) = 2 ^ (65 * k) * 2 ^ 64 + 2 ^ (65 * k) * 2 ^ 64 := by
    rw [Nat.mul_add, Nat.pow_add]; omega
  have a1 := natAbs_mul_le h1 w3
  have a2 := natAbs_mul_le w1 h3
  have a3 := natAbs_mul_le h3 w3
  rw [Nat.mul_comm] at a2
  refine ⟨?_, Int.mul_pos h2 w2, ?_⟩
  · show (f.1 * g.2 + g.1 * f.2).natAbs ≤ _
    have := Int.natAbs_add_le (f.1 * g.2) (g.1 * f.2)
    omega
  · show (f.2 * g.2).natAbs ≤ _
    omega
/-- it is v divided by u -/
def Rep (u v : Int) (f : Int × Int) : Prop := 0 < f.2 ∧ f.1 * u = v * f.2
theorem Rep.add {u v w : Int} {f g : Int × Int} (h : Rep u v f) (k : Rep u w g) : Rep u (v + w) (addF f g) := by
  obtain ⟨h1, h2⟩ := h
  obtain ⟨k1, k2⟩ := k
  refine ⟨Int.mul_pos h1 k1, ?_⟩
  show (f.1 * g.2 + g.1 * f.2) * u = (v + w) * (f.2 * g.2)
  have e1 : (f.1 * g.2 + g.1 * f.2) * u = f.1 * u * g.2 + g.1 * u * f.2 := by
    rw [Int.add_mul, Int.mul_right_comm, Int.mul_right_comm g.1]
  rw [e1, h2, k2, Int.add_mul, Int.mul_assoc, Int.mul_assoc w, Int.mul_comm g.2 f.2]
inductive Reps (u : Int) : List (Int × Int) → List Int → Prop
  | nil : Reps u [] []
  | cons {f v fs vs} (h : Rep u v f) (r : Reps u fs vs) : Reps u (f :: fs) (v :: vs)
theorem Rep.fold {u : Int} : ∀ {fs : List (Int × Int)} {vs : List Int} {f : Int × Int} {v : Int}, Rep u v f → Reps u fs vs → Rep u (v + vs.sum) (fs.foldl addF f)
  | [], [], f, v, h, _ => by simpa using h
  | g :: fs, w :: vs, f, v, h, .cons k r => by
    have := Rep.fold (h.add k) r
    rw [List.foldl_cons, List.sum_cons, ← Int.add_assoc]
    exact this
theorem Rep.sum {u : Int} {fs : List (Int × Int)} {vs : List Int} (h : Reps u fs vs) : Rep u vs.sum (sumF fs) := by
  have := Rep.fold (u := u) (f := (0, 1)) (v := 0) ⟨by decide, by simp⟩ h
  simpa [sumF] using this
theorem Rep.lt {u v : Int} {f : Int × Int} (hu : 0 < u) (h : Rep u v f) : MH.lt f.1 f.2 = MH.lt v u := lt_eq h.2 h.1 hu
theorem rep_lt {u v : Int} (hu : 0 < u) : Rep u v (MH.lt v u) := ⟨lt_pos hu, lt_cross⟩
theorem fok_lt {u v : Int} (hu : 0 < u) (h1 : v.natAbs ≤ 2 ^ 64) (h2 : u.natAbs ≤ 2 ^ 64) : FOk (MH.lt v u) := by
  refine ⟨Nat.le_trans (lt_abs hu) h1, lt_pos hu, ?_⟩
  have := lt_le (p := v) hu
  have := lt_pos (p := v) hu
  omega
end MH
set_option maxHeartbeats 1000000
namespace MH
open PySem PySem.Spec PyProof.Rows L2 DL
/-! ### sums over a thing, its number and the prices being told -/
def own1 (h : Bool) (x : Int) : Int := if h then x else 0
def cnt1 (sh : Int) (u w : Bool) (o c : Int) : Int := if sh * c ≤ 100 * o then (if u then c else o) else (if w then o else 0)
mutual
def Th.cst : Th → Nat → (Nat → Int) → Int
  | .raw _ _ _, b, a => a b
  | .made _ _ _ _ _ _ ps, b, a => a b + Th.csts ps (b + 1) a
def Th.csts : List Th → Nat → (Nat → Int) → Int
  | [], _, _ => 0
  | t :: ts, b, a => t.cst b a + Th.csts ts (b + t.sz) a
end
mutual
def Th.cnt : Th → Nat → (Nat → Int) → Int
  | .raw h _ _, b, a => own1 h (a b)
  | .made h _ _ sh u w ps, b, a => cnt1 sh u w (own1 h (a b) + Th.cnts ps (b + 1) a) (a b + Th.csts ps (b + 1) a)
def Th.cnts : List Th → Nat → (Nat → Int) → Int
  | [], _, _ => 0
  | t :: ts, b, a => t.cnt b a + Th.cnts ts (b + t.sz) a
end
def Th.own : Th → Nat → (Nat → Int) → Int
  | .raw h _ _, b, a => own1 h (a b)
  | .made h _ _ _ _ _ ps, b, a => own1 h (a b) + Th.cnts ps (b + 1) a
def Th.word : Th → Nat → (Nat → Int) → Option Bool
  | .raw _ _ _, _, _ => none
  | .made h lo hi sh u w ps, b, a => some (decide (sh * (Th.made h lo hi sh u w ps).cst b a ≤ 100 * (Th.made h lo hi sh u w ps).own b a))
theorem cnt_made {h lo hi sh u w ps b a} : (Th.made h lo hi sh u w ps).cnt b a = cnt1 sh u w ((Th.made h lo hi sh u w ps).own b a) ((Th.made h lo hi sh u w ps).cst b a) := rfl
def Th.parts : Th → List Th
  | .raw _ _ _ => []
  | .made _ _ _ _ _ _ ps => ps
def Th.here : Th → Bool
  | .raw h _ _ => h
  | .made h _ _ _ _ _ _ => h
theorem cst_eq (t : Th) (b : Nat) (a : Nat → Int) : t.cst b a = a b + Th.csts t.parts (b + 1) a := by
  cases t with
  | raw _ _ _ => simp [Th.cst, Th.parts, Th.csts]
  | made _ _ _ _ _ _ _ => rfl
theorem own_eq (t : Th) (b : Nat) (a : Nat → Int) : t.own b a = own1 t.here (a b) + Th.cnts t.parts (b + 1) a := by
  cases t with
  | raw _ _ _ => simp [Th.own, Th.parts, Th.cnts, Th.here]
  | made _ _ _ _ _ _ _ => rfl
/-- the things of rows -/
def atR (R : List (Th × List Nat)) (i : Nat) : Th := match R[i]? with
  | some e => e.1
  | none => default
def numsT (t : Th) (b : Nat) : List Nat := nums (b + 1) t.parts
theorem rows_eq (t : Th) (b : Nat) : rows t b = (t, numsT t b) :: rowss t.parts (b + 1) := by
  cases t with
  | raw _ _ _ => rfl
  | made _ _ _ _ _ _ _ => rfl
mutual
theorem seg_of : ∀ (t : Th) (b i : Nat), i < t.sz → ∃ (t' : Th) (rest : List (Th × List Nat)), (rows t b).drop i = rows t' (b + i) ++ rest
  | t, b, 0, _ => ⟨t, [], by simp⟩
  | .raw h lo hi, b, i + 1, hi' => by simp [Th.sz] at hi'
  | .made h lo hi sh u w ps, b, i + 1, hi' => by
    obtain ⟨t', rest, e⟩ := segs_of ps (b + 1) i (by simp only [Th.sz] at hi'; omega)
    refine ⟨t', rest, ?_⟩
    rw [rows, List.drop_succ_cons, e]
    have : b + 1 + i = b + (i + 1) := by omega
    rw [this]
theorem segs_of : ∀ (ts : List Th) (b i : Nat), i < Th.szs ts → ∃ (t' : Th) (rest : List (Th × List Nat)), (rowss ts b).drop i = rows t' (b + i) ++ rest
  | [], b, i, hi => by simp [Th.szs] at hi
  | t :: ts, b, i, hi => by
    by_cases z : i < t.sz
    · obtain ⟨t', rest, e⟩ := seg_of t b i z
      refine ⟨t', rest ++ rowss ts (b + t.sz), ?_⟩
      rw [rowss, List.drop_append_of_le_length (by rw [rows_len]; omega), e, List.append_assoc]
    · obtain ⟨t', rest, e⟩ := segs_of ts (b + t.sz) (i - t.sz) (by simp only [Th.szs] at hi; omega)
      refine ⟨t', rest, ?_⟩
      have e1 : b + t.sz + (i - t.sz) = b + i := by omega
      rw [rowss, List.drop_append, rows_len, List.drop_eq_nil_of_le (by rw [rows_len]; omega), List.nil_append, e, e1]
end
/-- from its place on the rows are those of the thing there -/
theorem seg_at {t : Th} {i : Nat} (h : i < t.sz) : ∃ rest, (rows t 0).drop i = rows (atR (rows t 0) i) i ++ rest := by
  obtain ⟨t', rest, e⟩ := seg_of t 0 i h
  rw [Nat.zero_add] at e
  have e2 : (rows t 0)[i]? = some (t', numsT t' i) := by
    have : ((rows t 0).drop i)[0]? = some (t', numsT t' i) := by rw [e, rows_eq]; rfl
    rwa [List.getElem?_drop, Nat.add_zero] at this
  refine ⟨rest, ?_⟩
  unfold atR
  rw [e2]
  exact e
theorem at_row {t : Th} {i : Nat} (h : i < t.sz) : (rows t 0)[i]? = some (atR (rows t 0) i, numsT (atR (rows t 0) i) i) := by
  obtain ⟨rest, e⟩ := seg_at h
  have : ((rows t 0).drop i)[0]? = some (atR (rows t 0) i, numsT (atR (rows t 0) i) i) := by rw [e, rows_eq]; rfl
  rwa [List.getElem?_drop, Nat.add_zero] at this
def mapN {α : Type} (f : Th → Nat → α) : List Th → Nat → List α
  | [], _ => []
  | t :: ts, k => f t k :: mapN f ts (k + t.sz)
theorem seg_map {α : Type} (f : Th → Nat → α) {R : List (Th × List Nat)} : ∀ (ps : List Th) (k : Nat) (rest : List (Th × List Nat)), R.drop k = rowss ps k ++ rest → (nums k ps).map (fun j => f (atR R j) j) = mapN f ps k ∧ ∀ j ∈ nums k ps, k ≤ j ∧ j < R.length
  | [], k, rest, h => ⟨rfl, fun j hj => by simp [nums] at hj⟩
  | t :: ts, k, rest, h => by
    rw [rowss, List.append_assoc] at h
    have e0 : R[k]? = some (t, numsT t k) := by
      have : (R.drop k)[0]? = some (t, numsT t k) := by rw [h, rows_eq]; rfl
      rwa [List.getElem?_drop, Nat.add_zero] at this
    have e1 : atR R k = t := by unfold atR; rw [e0]
    have e2 : R.drop (k + t.sz) = rowss ts (k + t.sz) ++ rest := by
      rw [← List.drop_drop, h, List.drop_append_of_le_length (by rw [rows_len]; omega), List.drop_eq_nil_of_le (by rw [rows_len]; omega), List.nil_append]
    obtain ⟨i1, i2⟩ := seg_map f ts (k + t.sz) rest e2
    refine ⟨by rw [nums, List.map_cons, i1, mapN, e1], fun j hj => ?_⟩
    rw [nums, List.mem_cons] at hj
    rcases hj with rfl | hj
    · have := (List.getElem?_eq_some_iff.mp e0).1
      exact ⟨Nat.le_refl _, this⟩
    · have := i2 j hj
      omega
theorem sum_csts (a : Nat → Int) : ∀ (ps : List Th) (k : Nat), (mapN (fun t j => t.cst j a) ps k).sum = Th.csts ps k a
  | [], _ => rfl
  | t :: ts, k => by rw [mapN, List.sum_cons, sum_csts a ts, Th.csts]
theorem sum_cnts (a : Nat → Int) : ∀ (ps : List Th) (k : Nat), (mapN (fun t j => t.cnt j a) ps k).sum = Th.cnts ps k a
  | [], _ => rfl
  | t :: ts, k => by rw [mapN, List.sum_cons, sum_cnts a ts, Th.cnts]
/-- the parts' numbers are greater, and within -/
theorem parts_at {α : Type} (f : Th → Nat → α) {t : Th} {i : Nat} (h : i < t.sz) : (numsT (atR (rows t 0) i) i).map (fun j => f (atR (rows t 0) j) j) = mapN f (atR (rows t 0) i).parts (i + 1) ∧ ∀ j ∈ numsT (atR (rows t 0) i) i, i < j ∧ j < t.sz := by
  obtain ⟨rest, e⟩ := seg_at h
  have e2 : (rows t 0).drop (i + 1) = rowss (atR (rows t 0) i).parts (i + 1) ++ rest := by
    rw [← List.drop_drop, e, rows_eq]; rfl
  obtain ⟨h1, h2⟩ := seg_map f _ _ _ e2
  refine ⟨h1, fun j hj => ?_⟩
  have := h2 j hj
  rw [rows_len] at this
  omega
end MH
set_option maxHeartbeats 1000000
namespace MH
open PySem PySem.Spec PyProof.Rows L2 DL
section
variable {a : Nat → Int} {A : Int} (ha : ∀ k, 0 ≤ a k ∧ a k ≤ A)
include ha
mutual
theorem cst_bd : ∀ (t : Th) (b : Nat), 0 ≤ t.cst b a ∧ t.cst b a ≤ t.sz * A
  | .raw _ _ _, b => by
    have := ha b
    simp only [Th.cst, Th.sz]; omega
  | .made _ _ _ _ _ _ ps, b => by
    have h1 := ha b
    have h2 := csts_bd ps (b + 1)
    simp only [Th.cst, Th.sz]
    have e : ((1 + Th.szs ps : Nat) : Int) * A = A + (Th.szs ps : Int) * A := by
      rw [Int.natCast_add, Int.add_mul]; simp
    omega
theorem csts_bd : ∀ (ts : List Th) (b : Nat), 0 ≤ Th.csts ts b a ∧ Th.csts ts b a ≤ Th.szs ts * A
  | [], b => by simp [Th.csts, Th.szs]
  | t :: ts, b => by
    have h1 := cst_bd t b
    have h2 := csts_bd ts (b + t.sz)
    simp only [Th.csts, Th.szs]
    have e : ((t.sz + Th.szs ts : Nat) : Int) * A = (t.sz : Int) * A + (Th.szs ts : Int) * A := by
      rw [Int.natCast_add, Int.add_mul]
    omega
end
theorem own1_bd (h : Bool) (k : Nat) : 0 ≤ own1 h (a k) ∧ own1 h (a k) ≤ a k := by
  have := ha k
  unfold own1; split <;> omega
theorem cnt1_bd {sh : Int} {u w : Bool} {o c : Int} (h1 : 0 ≤ o) (h2 : o ≤ c) : 0 ≤ cnt1 sh u w o c ∧ cnt1 sh u w o c ≤ c := by
  unfold cnt1
  split
  · split <;> omega
  · split <;> omega
mutual
theorem cnt_bd : ∀ (t : Th) (b : Nat), (0 ≤ t.cnt b a ∧ t.cnt b a ≤ t.cst b a) ∧ (0 ≤ t.own b a ∧ t.own b a ≤ t.cst b a)
  | .raw h _ _, b => by
    have := own1_bd ha h b
    simp only [Th.cnt, Th.cst, Th.own]; omega
  | .made h _ _ sh u w ps, b => by
    have h1 := own1_bd ha h b
    have h2 := cnts_bd ps (b + 1)
    have h3 : 0 ≤ own1 h (a b) + Th.cnts ps (b + 1) a := by omega
    have h4 : own1 h (a b) + Th.cnts ps (b + 1) a ≤ a b + Th.csts ps (b + 1) a := by omega
    have h5 := cnt1_bd ha (sh := sh) (u := u) (w := w) h3 h4
    simp only [Th.cnt, Th.cst, Th.own]
    omega
theorem cnts_bd : ∀ (ts : List Th) (b : Nat), 0 ≤ Th.cnts ts b a ∧ Th.cnts ts b a ≤ Th.csts ts b a
  | [], b => by simp [Th.cnts, Th.csts]
  | t :: ts, b => by
    have h1 := (cnt_bd t b).1
    have h2 := cnts_bd ts (b + t.sz)
    simp only [Th.cnts, Th.csts]
    omega
end
end
/-- the word, by fractions -/
theorem word_fr {u O C sh : Int} {f g : Int × Int} (hu : 0 < u) (hf : Rep u O f) (hg : Rep u C g) : (sh * g.1 * f.2 ≤ 100 * f.1 * g.2) ↔ sh * C ≤ 100 * O := by
  obtain ⟨f0, f1⟩ := hf
  obtain ⟨g0, g1⟩ := hg
  have e1 : (sh * g.1 * f.2) * u = (sh * C) * (f.2 * g.2) := by
    have : (sh * g.1 * f.2) * u = sh * (g.1 * u) * f.2 := by
      simp only [Int.mul_assoc, Int.mul_comm, Int.mul_left_comm]
    rw [this, g1]
    simp only [Int.mul_assoc, Int.mul_comm, Int.mul_left_comm]
  have e2 : (100 * f.1 * g.2) * u = (100 * O) * (f.2 * g.2) := by
    have : (100 * f.1 * g.2) * u = 100 * (f.1 * u) * g.2 := by
      simp only [Int.mul_assoc, Int.mul_comm, Int.mul_left_comm]
    rw [this, f1]
    simp only [Int.mul_assoc, Int.mul_comm, Int.mul_left_comm]
  have p : 0 < f.2 * g.2 := Int.mul_pos f0 g0
  constructor
  · intro h
    have := Int.mul_le_mul_of_nonneg_right h (Int.le_of_lt hu)
    rw [e1, e2] at this
    exact Int.le_of_mul_le_mul_right this p
  · intro h
    have := Int.mul_le_mul_of_nonneg_right h (Int.le_of_lt p)
    rw [← e1, ← e2] at this
    exact Int.le_of_mul_le_mul_right this hu
theorem lt_zero {u : Int} (hu : 0 < u) : lt 0 u = (0, 1) := by
  unfold lt
  rw [show Int.gcd 0 u = u.natAbs from by simp]
  have e : (u.natAbs : Int) = u := by omega
  rw [e, Int.ediv_self (by omega)]; simp
end MH
set_option maxHeartbeats 1000000
namespace DL
open PySem PySem.Spec PyProof.Rows L2
section
variable {M : Mem} {Q : QD} {i : Int} {k : Str} {ds : List D} {b : Bool}
theorem w_isi {d : D} {n T : String} {b : Bool} (h1 : tyO M d = some T) (h2 : kitB T n = some b) (h : Q (.bl b) M) : isiC [d, .ty n] M Q := by
  unfold isiC; simp only [h1, h2]; exact h
theorem w_isiII (h : Q (.bl true) M) : isiC [.int i, .ty "int"] M Q := w_isi (T := "int") rfl (by decide +kernel) h
theorem w_isiIB (h : Q (.bl false) M) : isiC [.int i, .ty "bool"] M Q := w_isi (T := "int") rfl (by decide +kernel) h
theorem w_isiIS (h : Q (.bl false) M) : isiC [.int i, .ty "str"] M Q := w_isi (T := "int") rfl (by decide +kernel) h
theorem w_isiIT (h : Q (.bl false) M) : isiC [.int i, .ty "tuple"] M Q := w_isi (T := "int") rfl (by decide +kernel) h
theorem w_isiSI (h : Q (.bl false) M) : isiC [.str k, .ty "int"] M Q := w_isi (T := "str") rfl (by decide +kernel) h
theorem w_isiSB (h : Q (.bl false) M) : isiC [.str k, .ty "bool"] M Q := w_isi (T := "str") rfl (by decide +kernel) h
theorem w_isiSS (h : Q (.bl true) M) : isiC [.str k, .ty "str"] M Q := w_isi (T := "str") rfl (by decide +kernel) h
theorem w_isiST (h : Q (.bl false) M) : isiC [.str k, .ty "tuple"] M Q := w_isi (T := "str") rfl (by decide +kernel) h
theorem w_isiTI (h : Q (.bl false) M) : isiC [.tup ds, .ty "int"] M Q := w_isi (T := "tuple") rfl (by decide +kernel) h
theorem w_isiTB (h : Q (.bl false) M) : isiC [.tup ds, .ty "bool"] M Q := w_isi (T := "tuple") rfl (by decide +kernel) h
theorem w_isiTS (h : Q (.bl false) M) : isiC [.tup ds, .ty "str"] M Q := w_isi (T := "tuple") rfl (by decide +kernel) h
theorem w_isiTT (h : Q (.bl true) M) : isiC [.tup ds, .ty "tuple"] M Q := w_isi (T := "tuple") rfl (by decide +kernel) h
theorem w_isiNI (h : Q (.bl false) M) : isiC [.non, .ty "int"] M Q := w_isi (T := "NoneType") rfl (by decide +kernel) h
theorem w_isiNS (h : Q (.bl false) M) : isiC [.non, .ty "str"] M Q := w_isi (T := "NoneType") rfl (by decide +kernel) h
theorem w_isiNT (h : Q (.bl false) M) : isiC [.non, .ty "tuple"] M Q := w_isi (T := "NoneType") rfl (by decide +kernel) h
theorem w_isiBI (h : Q (.bl true) M) : isiC [.bl b, .ty "int"] M Q := w_isi (T := "bool") rfl (by decide +kernel) h
theorem w_isiBB (h : Q (.bl true) M) : isiC [.bl b, .ty "bool"] M Q := w_isi (T := "bool") rfl (by decide +kernel) h
theorem w_isiLT (h : Q (.bl false) M) : isiC [.lst ds, .ty "tuple"] M Q := w_isi (T := "list") rfl (by decide +kernel) h
theorem w_chd {φ : Prop} [Decidable φ] {o' : O2} {y : D} {tc : TED} {Xd : XD} {s : SD} (h1 : φ → tc Xd s M fun z M1 => o' y z M1 Q) (h2 : ¬ φ → Q (.bl false) M) : chK o' y tc Xd s Q (.bl (decide φ)) M := by
  by_cases z : φ
  · rw [decide_eq_true z]; exact h1 z
  · rw [decide_eq_false z]; exact h2 z
theorem w_chdT {φ : Prop} [Decidable φ] {o' : O2} {y : D} {tc : TED} {Xd : XD} {s : SD} (z : φ) (h1 : tc Xd s M fun z M1 => o' y z M1 Q) : chK o' y tc Xd s Q (.bl (decide φ)) M := by
  rw [decide_eq_true z]; exact h1
theorem w_ifndT {φ : Prop} [Decidable φ] {P U : Prop} (z : φ) (h2 : U) : if (!decide φ) = true then P else U := by
  rw [decide_eq_true z]; exact w_ifF h2
theorem w_andD {φ : Prop} [Decidable φ] {tb : TED} {Xd : XD} {s : SD} (z : φ) (h : tb Xd s M Q) : andK tb Xd s Q (.bl (decide φ)) M := by
  rw [decide_eq_true z]; exact w_andT h
theorem w_orD {φ : Prop} [Decidable φ] {tb : TED} {Xd : XD} {s : SD} (h1 : φ → Q (.bl true) M) (h2 : ¬ φ → tb Xd s M Q) : orK tb Xd s Q (.bl (decide φ)) M := by
  by_cases z : φ
  · rw [decide_eq_true z]; exact w_orT (h1 z)
  · rw [decide_eq_false z]; exact w_orF (h2 z)
def augY (f : Int → Int → Int) (p : Addr) (z u : Int) (nx : SD → Mem → Prop) (s : SD) : QD := fun y M1 => match y with
  | .int w => setK (.ref p) (.int z) (.int (f u w)) (fun M2 => nx s M2) M1
  | _ => False
theorem w_augKy {f : Int → Int → Int} {te : TED} {nx bk ct : SD → Mem → Prop} {rt : QD} {ex : XD} {s : SD} {p : Addr} {z u : Int} (hM : M p = some (.lst ds)) (e : atI ds z = some (.int u)) (h : te ex s M (augY f p z u nx s)) : augK f te ⟨nx, rt, bk, ct, ex⟩ s (.ref p) (.int z) M := w_augK hM e h
theorem w_augY {f : Int → Int → Int} {p : Addr} {z u w : Int} {nx : SD → Mem → Prop} {s : SD} (h : setK (.ref p) (.int z) (.int (f u w)) (fun M2 => nx s M2) M) : augY f p z u nx s (.int w) M := h
theorem w_iZip {te te2 : TED} {Xd : XD} {s : SD} {I : List D → Option Addr → Mem → Prop} (h : dCons te (dCons te2 dNil) Xd s M fun ds M1 => ∃ d e, ds = [d, e] ∧ zipK I d e M1) : iZipD te te2 Xd s M I := h
theorem w_sg2 {d e : D} {J : D → D → Prop} (h : J d e) : ∃ x y, [d, e] = [x, y] ∧ J x y := ⟨d, e, rfl, h⟩
theorem w_zipLL {es : List D} {I : List D → Option Addr → Mem → Prop} (h : I (zpD ds es) none M) : zipK I (.lst ds) (.lst es) M := ⟨ds, es, rfl, rfl, h⟩
theorem w_zipTT {es : List D} {I : List D → Option Addr → Mem → Prop} (h : I (zpD ds es) none M) : zipK I (.tup ds) (.tup es) M := h
theorem zp_map {α : Type} (F G : α → D) : ∀ L : List α, zpD (L.map F) (L.map G) = L.map fun j => .tup [F j, G j]
  | [] => rfl
  | x :: L => by rw [List.map_cons, List.map_cons, zpD, zp_map F G L]; rfl
theorem ixN_nat {n j : Nat} (h : j < n) : ixN n (j : Int) = some j := by
  unfold ixN
  rw [if_pos (by omega), if_pos (by omega)]; simp
theorem at_range {n j : Nat} {F : Nat → D} (h : j < n) : atI ((List.range n).map F) (j : Int) = some (F j) := atI_nat (by rw [List.getElem?_map, List.getElem?_range h]; rfl)
end
end DL
set_option maxHeartbeats 1000000
namespace DL
open PySem PySem.Spec PyProof.Rows L2
/-! ### repr of data of a known size -/
theorem ok_mem {x : Str} : PyData.strOk x = true ↔ ∀ c ∈ x.cps.toList, c < 0x110000 := by
  unfold PyData.strOk
  rw [Array.all_eq_true_iff_forall_mem]
  constructor
  · intro h c hc
    have := h c (Array.mem_toList_iff.mp hc)
    simpa using this
  · intro h c hc
    have := h c (Array.mem_toList_iff.mpr hc)
    simpa using this
theorem ok_app {x y : Str} (h : PyData.strOk x = true) (k : PyData.strOk y = true) : PyData.strOk (x ++ y) = true := by
  rw [ok_mem] at *
  intro c hc
  rcases mem_cps_append.mp hc with hc | hc
  · exact h c hc
  · exact k c hc
theorem ok_from : ∀ (ts : List Str) (k : Nat) (acc : Str), PyData.strOk acc = true → (∀ t ∈ ts, PyData.strOk t = true) → PyData.strOk (textFrom k acc ts) = true
  | [], k, acc, h, _ => h
  | t :: ts, k, acc, h, hs => ok_from ts (k + 1) _ (ok_app (ok_app h (by split <;> decide +kernel)) (hs t List.mem_cons_self)) fun x hx => hs x (List.mem_cons_of_mem _ hx)
theorem ok_list {ts : List Str} (hs : ∀ t ∈ ts, PyData.strOk t = true) : PyData.strOk (listText ts) = true := ok_app (ok_from ts 0 _ (by decide +kernel) hs) (by decide +kernel)
theorem ok_join {ts : List Str} (hs : ∀ t ∈ ts, PyData.strOk t = true) : PyData.strOk (Str.join ", " ts) = true := by
  rw [ok_mem]
  intro c hc
  rcases (mem_join _ _ _).mp hc with ⟨t, ht, h⟩ | ⟨_, h⟩
  · exact ok_mem.mp (hs t ht) c h
  · rw [signs_sep] at h
    simp only [List.mem_cons, List.not_mem_nil, or_false] at h
    omega
theorem ok_tuple {ts : List Str} (hs : ∀ t ∈ ts, PyData.strOk t = true) : PyData.strOk (tupleText ts) = true := by
  unfold tupleText
  refine ok_app (ok_app (by decide +kernel) (ok_join hs)) ?_
  split <;> decide +kernel
structure RB (m d : Nat) (p : PyData) : Prop where
  sh : p.showable = true
  len : p.shown.length ≤ m
  dep : p.depth ≤ d
  ok : PyData.strOk p.shown = true
theorem RB.mono {m m' d d' : Nat} {p : PyData} (h : RB m d p) (hm : m ≤ m') (hd : d ≤ d') : RB m' d' p := ⟨h.sh, Nat.le_trans h.len hm, Nat.le_trans h.dep hd, h.ok⟩
theorem rb_int {i : Int} (h : i.natAbs ≤ 2 ^ 64) : RB 66 0 (.int i) := by
  have hl : i.natAbs.log2 < 65 := by
    by_cases z : i.natAbs = 0
    · rw [z]; decide
    · exact (Nat.log2_lt z).mpr (by omega)
  refine ⟨decide_eq_true (by omega), ?_, Nat.le_refl _, ok_mem.mpr fun c hc => ?_⟩
  · show (Str.ofString (toString i)).length ≤ 66
    rw [PySem.ofString_length]; exact int_text_length_le (by decide) hl
  · by_cases z : c < 0x110000
    · exact z
    · exact absurd hc (shown_int_free' (by omega) i)
theorem rb_bl {b : Bool} : RB 5 0 (.bool b) := ⟨rfl, by cases b <;> decide, Nat.le_refl _, by cases b <;> decide +kernel⟩
theorem rb_non : RB 4 0 .none := ⟨rfl, by decide, Nat.le_refl _, by decide +kernel⟩
theorem rb_str {x : Str} {m : Nat} (h : PyData.strOk (reprText x) = true) (hl : (reprText x).length ≤ m) : RB m 0 (.str x) := ⟨rfl, hl, Nat.le_refl _, h⟩
theorem rb_all {m d : Nat} : ∀ {xs : List PyData}, (∀ x ∈ xs, RB m d x) → PyData.showableAll xs = true ∧ ((PyData.shownAll xs).map (·.length)).sum ≤ xs.length * m ∧ PyData.depthAll xs ≤ d ∧ (∀ t ∈ PyData.shownAll xs, PyData.strOk t = true) ∧ (PyData.shownAll xs).length = xs.length
  | [], _ => ⟨rfl, by simp [PyData.shownAll], Nat.zero_le _, fun t h => by simp [PyData.shownAll] at h, rfl⟩
  | x :: xs, h => by
    have hx := h x List.mem_cons_self
    obtain ⟨h1, h2, h3, h4, h5⟩ := rb_all fun y hy => h y (List.mem_cons_of_mem _ hy)
    refine ⟨by simp only [PyData.showableAll, hx.sh, h1, Bool.and_self], ?_, ?_, ?_, ?_⟩
    · simp only [PyData.shownAll, List.map_cons, List.sum_cons, List.length_cons]
      have := hx.len
      rw [Nat.add_mul]; omega
    · simp only [PyData.depthAll]
      have := hx.dep
      omega
    · intro t ht
      simp only [PyData.shownAll, List.mem_cons] at ht
      rcases ht with rfl | ht
      · exact hx.ok
      · exact h4 t ht
    · simp only [PyData.shownAll, List.length_cons, h5]
theorem rb_tup {m d k : Nat} {xs : List PyData} (h : ∀ x ∈ xs, RB m d x) (hk : xs.length ≤ k) : RB (k * (m + 2) + 3) (d + 1) (.tuple xs) := by
  obtain ⟨h1, h2, h3, h4, h5⟩ := rb_all h
  have hl := tupleText_len_le (PyData.shownAll xs)
  have hm : xs.length * (m + 2) ≤ k * (m + 2) := Nat.mul_le_mul_right _ hk
  have e : xs.length * (m + 2) = xs.length * m + xs.length * 2 := Nat.mul_add _ _ _
  refine ⟨by simp only [PyData.showable]; exact h1, ?_, by simp only [PyData.depth]; omega, by simp only [PyData.shown]; exact ok_tuple h4⟩
  simp only [PyData.shown]; omega
theorem rb_lst {m d k : Nat} {xs : List PyData} (h : ∀ x ∈ xs, RB m d x) (hk : xs.length ≤ k) : RB (k * (m + 2) + 3) (d + 1) (.list xs) := by
  obtain ⟨h1, h2, h3, h4, h5⟩ := rb_all h
  have hl := listText_len_le (PyData.shownAll xs)
  have hm : xs.length * (m + 2) ≤ k * (m + 2) := Nat.mul_le_mul_right _ hk
  have e : xs.length * (m + 2) = xs.length * m + xs.length * 2 := Nat.mul_add _ _ _
  refine ⟨by simp only [PyData.showable]; exact h1, ?_, by simp only [PyData.depth]; omega, by simp only [PyData.shown]; exact ok_list h4⟩
  simp only [PyData.shown]; omega
/-- data that can be shown within m signs -/
def RD (m d : Nat) (x : D) : Prop := ∃ p, toPy x = some p ∧ RB m d p
theorem RD.mono {m m' d d' : Nat} {x : D} (h : RD m d x) (hm : m ≤ m') (hd : d ≤ d') : RD m' d' x := by
  obtain ⟨p, h1, h2⟩ := h
  exact ⟨p, h1, h2.mono hm hd⟩
theorem rd_int {i : Int} (h : i.natAbs ≤ 2 ^ 64) : RD 66 0 (.int i) := ⟨_, rfl, rb_int h⟩
theorem rd_bl {b : Bool} : RD 5 0 (.bl b) := ⟨_, rfl, rb_bl⟩
theorem rd_non : RD 4 0 .non := ⟨_, rfl, rb_non⟩
theorem rd_str {x : Str} {m : Nat} (h : PyData.strOk (reprText x) = true) (hl : (reprText x).length ≤ m) : RD m 0 (.str x) := ⟨_, rfl, rb_str h hl⟩
theorem rd_all {m d : Nat} : ∀ {xs : List D}, (∀ x ∈ xs, RD m d x) → ∃ ps, toPys xs = some ps ∧ (∀ p ∈ ps, RB m d p) ∧ ps.length = xs.length
  | [], _ => ⟨[], rfl, (fun p h => by cases h), rfl⟩
  | x :: xs, h => by
    obtain ⟨p, h1, h2⟩ := h x List.mem_cons_self
    obtain ⟨ps, k1, k2, k3⟩ := rd_all fun y hy => h y (List.mem_cons_of_mem _ hy)
    refine ⟨p :: ps, by rw [toPys, h1, k1], fun q hq => ?_, by rw [List.length_cons, List.length_cons, k3]⟩
    rcases List.mem_cons.mp hq with rfl | hq
    · exact h2
    · exact k2 q hq
theorem rd_tup {m d k : Nat} {xs : List D} (h : ∀ x ∈ xs, RD m d x) (hk : xs.length ≤ k) : RD (k * (m + 2) + 3) (d + 1) (.tup xs) := by
  obtain ⟨ps, h1, h2, h3⟩ := rd_all h
  exact ⟨.tuple ps, by rw [toPy, h1]; rfl, rb_tup h2 (by omega)⟩
theorem rd_lst {m d k : Nat} {xs : List D} (h : ∀ x ∈ xs, RD m d x) (hk : xs.length ≤ k) : RD (k * (m + 2) + 3) (d + 1) (.lst xs) := by
  obtain ⟨ps, h1, h2, h3⟩ := rd_all h
  exact ⟨.list ps, by rw [toPy, h1]; rfl, rb_lst h2 (by omega)⟩
/-- of several, with the sum of their signs -/
structure RBs (m d : Nat) (xs : List PyData) : Prop where
  sh : PyData.showableAll xs = true
  len : ((PyData.shownAll xs).map (·.length)).sum ≤ m
  dep : PyData.depthAll xs ≤ d
  ok : ∀ t ∈ PyData.shownAll xs, PyData.strOk t = true
  n : (PyData.shownAll xs).length = xs.length
theorem rbs_nil {d : Nat} : RBs 0 d [] := ⟨rfl, by simp [PyData.shownAll], Nat.zero_le _, fun t h => by simp [PyData.shownAll] at h, rfl⟩
theorem rbs_cons {m m' d : Nat} {x : PyData} {xs : List PyData} (hx : RB m d x) (h : RBs m' d xs) : RBs (m + m') d (x :: xs) := by
  refine ⟨by simp only [PyData.showableAll, hx.sh, h.sh, Bool.and_self], ?_, ?_, ?_, ?_⟩
  · simp only [PyData.shownAll, List.map_cons, List.sum_cons]
    have := hx.len
    have := h.len
    omega
  · simp only [PyData.depthAll]
    have := hx.dep
    have := h.dep
    omega
  · intro t ht
    simp only [PyData.shownAll, List.mem_cons] at ht
    rcases ht with rfl | ht
    · exact hx.ok
    · exact h.ok t ht
  · simp only [PyData.shownAll, List.length_cons, h.n]
def RDs (m d : Nat) (xs : List D) : Prop := ∃ ps, toPys xs = some ps ∧ RBs m d ps ∧ ps.length = xs.length
theorem rds_nil {d : Nat} : RDs 0 d [] := ⟨[], rfl, rbs_nil, rfl⟩
theorem rds_cons {m m' d : Nat} {x : D} {xs : List D} (hx : RD m d x) (h : RDs m' d xs) : RDs (m + m') d (x :: xs) := by
  obtain ⟨p, h1, h2⟩ := hx
  obtain ⟨ps, k1, k2, k3⟩ := h
  exact ⟨p :: ps, by rw [toPys, h1, k1], rbs_cons h2 k2, by rw [List.length_cons, List.length_cons, k3]⟩
theorem rds_tup {m d : Nat} {xs : List D} (h : RDs m d xs) : RD (m + 2 * xs.length + 3) (d + 1) (.tup xs) := by
  obtain ⟨ps, h1, h2, h3⟩ := h
  have hl := tupleText_len_le (PyData.shownAll ps)
  have := h2.len
  have := h2.n
  have := h2.dep
  refine ⟨.tuple ps, by rw [toPy, h1]; rfl, by simp only [PyData.showable]; exact h2.sh, ?_, by simp only [PyData.depth]; omega, by simp only [PyData.shown]; exact ok_tuple h2.ok⟩
  simp only [PyData.shown]; omega
theorem rds_lst {m d : Nat} {xs : List D} (h : RDs m d xs) : RD (m + 2 * xs.length + 3) (d + 1) (.lst xs) := by
  obtain ⟨ps, h1, h2, h3⟩ := h
  have hl := listText_len_le (PyData.shownAll ps)
  have := h2.len
  have := h2.n
  have := h2.dep
  refine ⟨.list ps, by rw [toPy, h1]; rfl, by simp only [PyData.showable]; exact h2.sh, ?_, by simp only [PyData.depth]; omega, by simp only [PyData.shown]; exact ok_list h2.ok⟩
  simp only [PyData.shown]; omega
/-- what is shown -/
def shD (x : D) : Str := match toPy x with
  | some p => p.shown
  | none => ""
theorem w_repr {m n : Nat} {x : D} {M : Mem} {Q : QD} (hr : RD m n x) (hv : vw M x = x) (hm : m ≤ 16777216) (hn : n ≤ 60) (h : Q (.str (shD x)) M) : reprC [x] M Q := by
  obtain ⟨p, h1, h2⟩ := hr
  unfold reprC
  simp only [hv, h1]
  refine ⟨⟨h2.sh, by rw [sizeLine_eq]; exact Nat.le_trans h2.len hm, Nat.le_trans h2.dep hn⟩, ?_⟩
  unfold shD at h
  rw [h1] at h; exact h
theorem sh_ok {m n : Nat} {x : D} (hr : RD m n x) : PyData.strOk (shD x) = true := by
  obtain ⟨p, h1, h2⟩ := hr
  unfold shD
  rw [h1]; exact h2.ok
/-- the same shown: not unlike -/
theorem w_neSh {m n : Nat} {x : D} {M : Mem} {Q : QD} (hr : RD m n x) (h : Q (.bl false) M) : neD (.str (shD x)) (.str (shD x)) M Q := by
  refine w_neS (sh_ok hr) (sh_ok hr) ?_
  rw [decide_eq_true rfl]; exact h
theorem w_eqSh {m n : Nat} {x : D} {M : Mem} {Q : QD} (hr : RD m n x) (h : Q (.bl true) M) : eqD (.str (shD x)) (.str (shD x)) M Q := by
  refine w_eqS (sh_ok hr) (sh_ok hr) ?_
  rw [decide_eq_true rfl]; exact h
end DL
set_option maxHeartbeats 1000000
namespace MH
open PySem PySem.Spec PyProof.Rows L2 DL
theorem rd_land (b : Bool) : RD 8 0 (landD b) := by cases b <;> exact rd_str (by decide +kernel) (by decide +kernel)
theorem rd_up (b : Bool) : RD 8 0 (.str (upS b)) := by cases b <;> exact rd_str (by decide +kernel) (by decide +kernel)
theorem rd_dn (b : Bool) : RD 8 0 (.str (dnS b)) := by cases b <;> exact rd_str (by decide +kernel) (by decide +kernel)
theorem rd_term {sh : Int} {u w : Bool} (h : 0 ≤ sh ∧ sh ≤ 100) : RD 100 1 (termD sh u w) :=
  (rds_tup (rds_cons (rd_int (by omega)) (rds_cons (rd_up u) (rds_cons (rd_dn w) rds_nil)))).mono (by simp) (by decide)
mutual
/-- a thing can be shown -/
theorem rd_th : ∀ t : Th, t.ok → RD (600 * t.sz) (2 * t.st + 1) t.d
  | .raw h lo hi, hk => by
    obtain ⟨h1, h2, h3⟩ := hk
    rw [Th.d]
    exact (rds_tup (rds_cons (rd_str (m := 8) (by decide +kernel) (by decide +kernel)) (rds_cons (rd_land h) (rds_cons (rd_int (by omega)) (rds_cons (rd_int (by omega)) rds_nil))))).mono (by simp [Th.sz]) (by simp [Th.st])
  | .made h lo hi sh u w ps, hk => by
    obtain ⟨⟨h1, h2, h3⟩, h4, h5, h6⟩ := hk
    have hp := rds_tup (rds_ths ps h6)
    rw [Th.d]
    have hl : (Th.ds ps).length ≤ 4 := by rw [ds_map, List.length_map]; exact h5.2
    have hm : ∀ {m : Nat} {x : D}, RD m 0 x → RD m (2 * Th.sts ps + 2) x := fun h => h.mono (Nat.le_refl _) (Nat.zero_le _)
    refine (rds_tup (rds_cons (hm (rd_str (m := 8) (by decide +kernel) (by decide +kernel))) (rds_cons (hm (rd_land h)) (rds_cons (hm (rd_int (by omega))) (rds_cons (hm (rd_int (by omega))) (rds_cons ((rd_term h4).mono (Nat.le_refl _) (by omega)) (rds_cons hp rds_nil))))))).mono ?_ ?_
    · simp only [Th.sz, List.length_cons, List.length_nil]; omega
    · simp only [Th.st]; omega
theorem rds_ths : ∀ ts : List Th, Th.oks ts → RDs (600 * Th.szs ts) (2 * Th.sts ts + 1) (Th.ds ts)
  | [], _ => by
    obtain ⟨ps, h1, h2, h3⟩ := (rds_nil (d := 1))
    exact ⟨ps, h1, h2, h3⟩
  | t :: ts, hk => by
    have h1 := rd_th t hk.1
    have h2 := rds_ths ts hk.2
    obtain ⟨ps, k1, k2, k3⟩ := h2
    have h2' : RDs (600 * Th.szs ts) (2 * (t.st + Th.sts ts) + 1) (Th.ds ts) := ⟨ps, k1, ⟨k2.sh, k2.len, Nat.le_trans k2.dep (by omega), k2.ok, k2.n⟩, k3⟩
    have h3 := rds_cons (h1.mono (Nat.le_refl _) (show 2 * t.st + 1 ≤ 2 * (t.st + Th.sts ts) + 1 by omega)) h2'
    simp only [Th.szs, Th.sts, Th.ds]
    rw [Nat.mul_add]
    exact h3
end
end MH
set_option maxHeartbeats 4000000
namespace G_madeofhere_k01_errors
open PySem PySem.Spec PyProof.Rows L2 DL MH
local macro_rules | `(tactic| fail) => `(tactic| first | with_reducible refine w_seq ?_ | with_reducible refine w_nx ?_ | with_reducible refine w_ret ?_ | with_reducible refine w_retN ?_ | with_reducible refine w_expr ?_ | with_reducible refine w_ifS ?_ | with_reducible refine w_asg ?_ | with_reducible refine w_augS ?_ | with_reducible refine w_for ?_ | with_reducible refine w_bk ?_ | with_reducible refine w_ct ?_ | with_reducible refine w_set0 ?_ | with_reducible refine w_set1 ?_ | with_reducible refine w_set2 ?_ | with_reducible refine w_set3 ?_ | with_reducible refine w_set4 ?_ | with_reducible refine w_set5 ?_ | with_reducible refine w_set6 ?_ | with_reducible refine w_set7 ?_ | with_reducible refine w_set8 ?_ | with_reducible refine w_set9 ?_ | with_reducible refine w_set10 ?_ | with_reducible refine w_set11 ?_ | with_reducible refine w_set12 ?_ | with_reducible refine w_set13 ?_ | with_reducible refine w_set14 ?_ | with_reducible refine w_set15 ?_ | with_reducible refine w_set16 ?_ | with_reducible refine w_set17 ?_ | with_reducible refine w_var0 ?_ | with_reducible refine w_var1 ?_ | with_reducible refine w_var2 ?_ | with_reducible refine w_var3 ?_ | with_reducible refine w_var4 ?_ | with_reducible refine w_var5 ?_ | with_reducible refine w_var6 ?_ | with_reducible refine w_var7 ?_ | with_reducible refine w_var8 ?_ | with_reducible refine w_var9 ?_ | with_reducible refine w_var10 ?_ | with_reducible refine w_var11 ?_ | with_reducible refine w_var12 ?_ | with_reducible refine w_var13 ?_ | with_reducible refine w_var14 ?_ | with_reducible refine w_var15 ?_ | with_reducible refine w_var16 ?_ | with_reducible refine w_var17 ?_ | with_reducible refine w_gnm0 ?_ | with_reducible refine w_gnm1 ?_ | with_reducible refine w_gnm2 ?_ | with_reducible refine w_gnm3 ?_ | with_reducible refine w_gnm4 ?_ | with_reducible refine w_gnm5 ?_ | with_reducible refine w_gnm6 ?_ | with_reducible refine w_gnm7 ?_ | with_reducible refine w_gnm8 ?_ | with_reducible refine w_gnm9 ?_ | with_reducible refine w_gnm10 ?_ | with_reducible refine w_gnm11 ?_ | with_reducible refine w_gnm12 ?_ | with_reducible refine w_gnm13 ?_ | with_reducible refine w_gnm14 ?_ | with_reducible refine w_gnm15 ?_ | with_reducible refine w_gnm16 ?_ | with_reducible refine w_gnm17 ?_ | with_reducible refine w_gTp rfl ?_ | with_reducible refine w_gCo ?_ | with_reducible refine w_gNi ?_ | with_reducible refine w_gSb ?_ | with_reducible refine w_c ?_ | with_reducible refine w_op ?_ | with_reducible refine w_nil ?_ | with_reducible refine w_cons ?_ | with_reducible refine w_tup ?_ | with_reducible refine w_lst ?_ | with_reducible refine w_cb ?_ | with_reducible refine w_call ?_ | with_reducible refine w_ite ?_ | with_reducible refine w_and ?_ | with_reducible refine w_or ?_ | with_reducible refine w_not ?_ | with_reducible refine w_andT ?_ | with_reducible refine w_andF ?_ | with_reducible refine w_orT ?_ | with_reducible refine w_orF ?_ | with_reducible refine w_neg ?_ | with_reducible refine w_un ?_ | with_reducible refine w_tst ?_ | with_reducible refine w_tstB ?_ | with_reducible refine w_tru ?_ | with_reducible refine w_truB ?_ | with_reducible refine w_tAnd ?_ | with_reducible refine w_tOr ?_ | with_reducible refine w_tNot ?_ | with_reducible refine w_chain ?_ | with_reducible refine w_chT ?_ | with_reducible refine w_chF ?_ | with_reducible refine w_ifT ?_ | with_reducible refine w_ifF ?_ | with_reducible refine w_ifnT ?_ | with_reducible refine w_ifnF ?_ | with_reducible refine w_rvs ?_ | with_reducible refine w_yes ?_ | with_reducible refine w_iZip ?_ | with_reducible refine w_sg2 ?_ | with_reducible refine w_zipLL ?_ | with_reducible refine w_zipTT ?_ | with_reducible refine w_augY ?_ | with_reducible refine w_isiII ?_ | with_reducible refine w_isiIB ?_ | with_reducible refine w_isiSS ?_ | with_reducible refine w_isiTT ?_ | with_reducible refine w_isiIT ?_ | with_reducible refine w_isiIS ?_ | with_reducible refine w_isiSI ?_ | with_reducible refine w_isiSB ?_ | with_reducible refine w_isiST ?_ | with_reducible refine w_isiTI ?_ | with_reducible refine w_isiTB ?_ | with_reducible refine w_isiTS ?_ | with_reducible refine w_isiNI ?_ | with_reducible refine w_isiNS ?_ | with_reducible refine w_isiNT ?_ | with_reducible refine w_isiBI ?_ | with_reducible refine w_isiBB ?_ | with_reducible refine w_isiLT ?_ | with_reducible refine w_dRev ?_ | with_reducible refine w_revK ?_ | with_reducible refine w_lstRg ?_ | with_reducible refine w_par ?_ | with_reducible refine w_parK (by dsimp only [List.set] <;> rfl) ?_ | with_reducible refine w_sl ?_ | with_reducible refine w_slT ?_ | with_reducible refine w_slL ?_ | with_reducible refine w_oNo ?_ | with_reducible refine w_oSo ?_ | with_reducible refine w_oSoK ?_ | with_reducible refine w_prN ?_ | with_reducible refine w_prC ?_ | with_reducible refine w_addI ?_ | with_reducible refine w_subI ?_ | with_reducible refine w_lt ?_ | with_reducible refine w_le ?_ | with_reducible refine w_gt ?_ | with_reducible refine w_ge ?_ | with_reducible refine w_isN ?_ | with_reducible refine w_isnN ?_ | with_reducible refine w_eqI ?_ | with_reducible refine w_neI ?_ | with_reducible refine w_ixT0 ?_ | with_reducible refine w_ixT1 ?_ | with_reducible refine w_ixT2 ?_ | with_reducible refine w_ixT3 ?_ | with_reducible refine w_ixT4 ?_ | with_reducible refine w_ixT5 ?_ | with_reducible refine w_lenL ?_ | with_reducible refine w_lenT ?_ | with_reducible refine w_int ?_ | with_reducible refine w_intB ?_ | with_reducible refine w_abs ?_ | with_reducible refine w_listL ?_ | with_reducible refine w_listT ?_ | with_reducible refine w_tupL ?_ | with_reducible refine w_tupT ?_ | with_reducible refine w_int2 ?_ | with_reducible refine w_gcd ?_ | with_reducible refine w_app ?_ | with_reducible refine w_iSeq ?_ | with_reducible refine w_itemT ?_ | with_reducible refine w_itemL ?_ | with_reducible refine w_iRng ?_ | with_reducible refine w_iEnm ?_ | with_reducible refine w_sg1 ?_ | with_reducible refine w_iRev ?_ | with_reducible refine w_rg1 ?_ | with_reducible refine w_rg1K ?_ | with_reducible refine w_notB ?_)
section
variable {K : Fg} {c : Nat → Addr}
def mK : List Key := [.inr "cells", .inr "left", .inr "spot"]
def mV (cells : List Int) (left spot : Int) : List D := [.lst (cells.map D.int), .int left, .int spot]
theorem vl_l (c : List Int) (l s : Int) : valD mK (mV c l s) (.inr "left") = some (.int l) := by rfl
theorem vl_s (c : List Int) (l s : Int) : valD mK (mV c l s) (.inr "spot") = some (.int s) := by rfl
theorem vl_c (c : List Int) (l s : Int) : valD mK (mV c l s) (.inr "cells") = some (.lst (c.map D.int)) := by rfl
theorem pt_l (c : List Int) (l s l' : Int) : putD mK (mV c l s) (.inr "left") (.int l') = (mK, mV c l' s) := by rfl
theorem pt_s (c : List Int) (l s s' : Int) : putD mK (mV c l s) (.inr "spot") (.int s') = (mK, mV c l s') := by rfl
theorem mK_nd : mK.Nodup := by decide
theorem ix_d {M : Mem} {a : Addr} {ks : List Key} {ds : List D} {x : Str} {Q : QD} (h : M a = some (.dct ks ds)) : ixD (.ref a) (.str x) M Q = match valD ks ds (.inr x) with | some d => Q d M | none => False := by
  simp only [ixD, ixO, vw, vwO, h, keyD]
  all_goals (cases valD ks ds (.inr x) <;> rfl)
theorem set_d {M : Mem} {a : Addr} {ks : List Key} {ds : List D} {x : Str} {v : D} {k : Mem → Prop} (h : M a = some (.dct ks ds)) : setK (.ref a) (.str x) v k M = ((ks.Nodup ∧ ks.length < 1000) ∧ k (M.put a (.dct (putD ks ds (.inr x) v).1 (putD ks ds (.inr x) v).2))) := by
  simp [setK, h, keyD]
theorem put_at {M : Mem} {a : Addr} {o : MO} : (M.put a o) a = some o := Mem.put_same
theorem put_put {M : Mem} {a : Addr} {o u : MO} : (M.put a o).put a u = M.put a u := by
  funext b
  by_cases h : b = a
  · subst h; rw [Mem.put_same, Mem.put_same]
  · rw [Mem.put_ne h, Mem.put_ne h, Mem.put_ne h]
theorem mod_i {i j : Int} {M : Mem} {Q : QD} : modD (.int i) (.int j) M Q = (0 < j ∧ Q (.int (i % j)) M) := rfl
theorem fdiv_i {i j : Int} {M : Mem} {Q : QD} : fdivD (.int i) (.int j) M Q = (CDivW i j ∧ Q (.int (i / j)) M) := rfl
theorem mul_i {i j : Int} {M : Mem} {Q : QD} : mulD (.int i) (.int j) M Q = (CMulW i j ∧ Q (.int (i * j)) M) := rfl
theorem add_i {i j : Int} {M : Mem} {Q : QD} : addD (.int i) (.int j) M Q = Q (.int (i + j)) M := rfl
theorem int_i {i : Int} {M : Mem} {Q : QD} : intC [.int i] M Q = Q (.int i) M := rfl
theorem gt_i {i j : Int} {M : Mem} {Q : QD} : gtD (.int i) (.int j) M Q = Q (.bl (decide (i > j))) M := rfl
theorem len_l {ds : List D} {M : Mem} {Q : QD} : lenC [.lst ds] M Q = Q (.int ds.length) M := rfl
theorem ix_l {ns : List Int} {j : Int} {M : Mem} {Q : QD} (h0 : 0 ≤ j) (h1 : j < ns.length) : ixD (.lst (ns.map D.int)) (.int j) M Q = Q (.int (ns[j.toNat]'(by omega))) M := by
  have e : atI (ns.map D.int) j = some (.int (ns[j.toNat]'(by omega))) := by
    have z := atI_nat (xs := ns.map D.int) (j := j.toNat) (v := .int (ns[j.toNat]'(by omega))) (by rw [List.getElem?_map, List.getElem?_eq_getElem (by omega)]; rfl)
    rwa [Int.toNat_of_nonneg h0] at z
  simp only [ixD, ixO, vw, e]
theorem divW {i j : Int} (h : 0 < j) (h2 : j < 2 ^ 60) : CDivW i j := ⟨h, by
  have : j.natAbs.log2 < 60 := (Nat.log2_lt (by omega)).mpr (by omega)
  omega⟩
theorem mulW {i j : Int} (h : i.natAbs < 2 ^ 200) (h2 : j.natAbs < 2 ^ 200) : CMulW i j := by
  unfold CMulW
  have a : ∀ n : Nat, n < 2 ^ 200 → n.log2 ≤ 200 := fun n hn => by
    by_cases z : n = 0
    · subst z; decide
    · exact Nat.le_of_lt ((Nat.log2_lt z).mpr hn)
  have := a _ h
  have := a _ h2
  omega
theorem draw_ok (a : Addr) (M : Mem) (cells : List Int) (left spot limit : Int) (hc : cells ≠ []) (hl : 0 < limit) (hl2 : limit < 2 ^ 60) (hs : 0 ≤ spot) (hs2 : spot < 2 ^ 60) (hM : M a = some (.dct mK (mV cells left spot))) (Q : QD) (Xd : XD)
    (h : ∀ r l' s' : Int, 0 ≤ r → r < limit → spot ≤ s' → s' ≤ spot + 1 → Q (.int r) (M.put a (.dct mK (mV cells l' s')))) : W_law_draw K c [.ref a, .int limit] M Q Xd := by
  unfold W_law_draw bodyD B_law_draw
  simp only [sSeq, sIf, dTst, dOp, dVar, dC, startD, N__law_draw, List.map, List.length, List.replicate, List.getElem?_cons_zero, List.getElem?_cons_succ, List.cons_append, List.nil_append, sNx, sSet, sAsg, sRet, gSb, dCB, dCons, dNil, List.set,
    ix_d hM, vl_l, vl_s, vl_c, gt_i, tstB, int_i, mod_i, fdiv_i, set_d hM, pt_l, pt_s]
  by_cases z : left > 0
  · rw [decide_eq_true z, if_pos rfl]
    refine ⟨hl, divW hl hl2, ⟨mK_nd, by decide⟩, lo_same (h _ _ _ (Int.emod_nonneg _ (by omega)) (Int.emod_lt_of_pos _ hl) (Int.le_refl _) (by omega))⟩
  · rw [decide_eq_false z, if_neg Bool.false_ne_true]
    have hlen : 0 < cells.length := List.length_pos_iff.mpr hc
    have j0 : 0 ≤ (spot + 1) % (cells.length : Int) := Int.emod_nonneg _ (by omega)
    have j1 : (spot + 1) % (cells.length : Int) < cells.length := Int.emod_lt_of_pos _ (by omega)
    simp only [add_i, set_d hM, pt_s, ix_d put_at, vl_c, int_i, len_l, mod_i, List.length_map, ix_l j0 j1, mul_i, fdiv_i]
    generalize cells[((spot + 1) % (cells.length : Int)).toNat]'(by omega) = c
    have b1 : 0 ≤ c % 2147483629 := Int.emod_nonneg _ (by decide)
    have b2 : c % 2147483629 < 2147483629 := Int.emod_lt_of_pos _ (by decide)
    generalize c % 2147483629 = c1 at b1 b2
    have e0 : 23 * (spot + 1) * (spot + 1) = 23 * ((spot + 1) * (spot + 1)) := Int.mul_assoc _ _ _
    have q0 : 0 ≤ (spot + 1) * (spot + 1) := Int.mul_nonneg (by omega) (by omega)
    have q1 : (spot + 1) * (spot + 1) ≤ 2 ^ 60 * 2 ^ 60 := Int.mul_le_mul (by omega) (by omega) (by omega) (by decide)
    rw [e0]
    generalize (spot + 1) * (spot + 1) = sq at q0 q1
    have r1 : 0 ≤ (c1 + 6133 * (spot + 1) + 23 * sq) * 48271 % 2147483647 := Int.emod_nonneg _ (by decide)
    have r2 : (c1 + 6133 * (spot + 1) + 23 * sq) * 48271 % 2147483647 < 2147483647 := Int.emod_lt_of_pos _ (by decide)
    refine ⟨⟨mK_nd, by decide⟩, by omega, by decide, mulW (by omega) (by omega), mulW (by omega) (by omega), mulW (by omega) (by omega), mulW (by omega) (by omega), by decide, mulW (by omega) (by omega), mulW (by omega) (by omega), by decide, divW (by decide) (by decide), hl,
      lo_same (h _ _ _ (Int.emod_nonneg _ (by omega)) (Int.emod_lt_of_pos _ hl) (by omega) (by omega))⟩
/-- the state of the draws stands, its counter not far -/
def Dr (a : Addr) (cells : List Int) (b : Int) (M : Mem) : Prop := ∃ l s : Int, M a = some (.dct mK (mV cells l s)) ∧ 0 ≤ s ∧ s ≤ b
/-- all but the state of the draws stays -/
def Sm (a : Addr) (M M' : Mem) : Prop := ∀ b, b ≠ a → M' b = M b
theorem Sm.refl {a : Addr} {M : Mem} : Sm a M M := fun _ _ => rfl
theorem Sm.trans {a : Addr} {M M1 M2 : Mem} (h : Sm a M M1) (k : Sm a M1 M2) : Sm a M M2 := fun b z => (k b z).trans (h b z)
theorem draw_k {a : Addr} {M : Mem} {cells : List Int} {b limit : Int} (hc : cells ≠ []) (hl : 0 < limit) (hl2 : limit < 2 ^ 60) (hb : b < 2 ^ 50) (hM : Dr a cells b M) {Q : QD} {Xd : XD}
    (h : ∀ (r : Int) (M' : Mem), 0 ≤ r → r < limit → Dr a cells (b + 1) M' → Sm a M M' → Q (.int r) M') : W_law_draw K c [.ref a, .int limit] M Q Xd := by
  obtain ⟨l, s, h1, h2, h3⟩ := hM
  exact draw_ok a M cells l s limit hc hl hl2 h2 (by omega) h1 Q Xd fun r l' s' r0 r1 s0 s1 => h r _ r0 r1 ⟨l', s', Mem.put_same, by omega, by omega⟩ fun b z => Mem.put_ne z
theorem atI_mem {ds : List D} {i : Int} (h0 : 0 ≤ i) (h1 : i < ds.length) : ∃ d, atI ds i = some d ∧ d ∈ ds := by
  have hi : i.toNat < ds.length := by omega
  have z := atI_nat (xs := ds) (j := i.toNat) (v := ds[i.toNat]) (List.getElem?_eq_getElem hi)
  rw [Int.toNat_of_nonneg h0] at z
  exact ⟨_, z, List.getElem_mem hi⟩

theorem of_k {a : Addr} {M : Mem} {cells : List Int} {b : Int} {ds : List D} (hc : cells ≠ []) (hb : b < 2 ^ 50) (hd : 0 < ds.length) (hd2 : ds.length < 2 ^ 24) (hM : Dr a cells b M) {Q : QD} {Xd : XD}
    (h : ∀ (d : D) (M' : Mem), d ∈ ds → Dr a cells (b + 1) M' → Sm a M M' → Q d M') : W_law_of K c [.ref a, .lst ds] M Q Xd := by
  refine E_law_of ?_
  repeat fail
  refine draw_k hc (by omega) (by omega) hb hM fun r M' r0 r1 hD hS => ?_
  obtain ⟨d, e, hm⟩ := atI_mem r0 r1
  exact w_ixL e (lo_same (h d M' hm hD hS))
theorem Dr.le {a : Addr} {cells : List Int} {b c : Int} {M : Mem} (h : Dr a cells b M) (k : b ≤ c) : Dr a cells c M := by
  obtain ⟨l, s, h1, h2, h3⟩ := h
  exact ⟨l, s, h1, h2, by omega⟩
theorem w_itemF {ds : List D} {M : Mem} {I : List D → Option Addr → Mem → Prop} (h : I ds none M) : itemK I (.fzn ds) M := h
theorem w_lenF {ds : List D} {M : Mem} {Q : QD} (h : Q (.int ds.length) M) : lenC [.fzn ds] M Q := h
theorem w_listF {ds : List D} {M : Mem} {Q : QD} (h : Q (.lst ds) M) : listC [.fzn ds] M Q := h
theorem toPys_ints : ∀ ns : List Int, toPys (ns.map D.int) = some (ns.map PyData.int)
  | [] => rfl
  | n :: ns => by rw [List.map_cons, toPys, toPys_ints ns]; rfl
theorem lay_ints : ∀ ns : List Int, PyData.canLayAll0 (ns.map PyData.int) = true ∧ PyData.depthAll (ns.map PyData.int) = 0
  | [] => ⟨rfl, rfl⟩
  | n :: ns => by
    obtain ⟨h1, h2⟩ := lay_ints ns
    refine ⟨by rw [List.map_cons]; simp only [PyData.canLayAll0, PyData.canLay0, h1, Bool.and_self], by rw [List.map_cons]; simp only [PyData.depthAll, PyData.depth, h2]; rfl⟩
theorem eq_nil (ns : List Int) : eqO (.lst (ns.map D.int)) (.lst []) = some (decide (ns = [])) := by
  have e : toPy (.lst (ns.map D.int)) = some (.list (ns.map PyData.int)) := by rw [toPy, toPys_ints]; rfl
  have e0 : toPy (.lst []) = some (.list []) := rfl
  obtain ⟨h1, h2⟩ := lay_ints ns
  have s1 : SeqAt.shaped (.list (ns.map PyData.int)) = true := by
    unfold SeqAt.shaped
    simp only [PyData.canLay0, h1, PyData.depth, h2]; rfl
  have s2 : SeqAt.shaped (.list []) = true := rfl
  unfold eqO
  simp only [e, e0, s1, s2, and_self, if_true]
  cases ns with
  | nil => rfl
  | cons n ns => rfl
def greatD : D → Option D
  | .int i => if (10 : Int) ^ 18 ≤ i then some (.int i) else none
  | _ => none
theorem begun_k {ns : List Int} (hl : ns.length ≤ 1000) {M : Mem} {Q : QD} {Xd : XD}
    (h : ∀ (p : Addr) (M' : Mem) (cells : List Int), cells ≠ [] → Dr p cells 0 M' → Sm p M M' → Q (.ref p) M') : W_law_begun K c [.fzn (ns.map D.int)] M Q Xd := by
  refine E_law_begun ?_
  repeat fail
  refine w_lc ?_
  repeat fail
  refine w_itemF ?_
  intro q hq
  have hwp : ∀ x0 x1 x2 : Option D, wipeD [x0, x1, x2] [2] = [x0, x1, none] := fun _ _ _ => rfl
  rw [hwp]
  refine lc_filt hq greatD (fun _ => wat_none) _ [] (by simp [sizeLine_eq]; omega) (fun d hd acc K1 K0 h1 h0 => ?_) ?_
  · obtain ⟨i, hi, rfl⟩ := List.mem_map.mp hd
    repeat fail
    refine w_powI ⟨by decide, by decide, by decide⟩ ?_
    repeat fail
    have e18 : (10 : Int) ^ (18 : Int).toNat = 10 ^ 18 := rfl
    rw [e18]
    refine w_ifd (fun z => ?_) fun z => ?_
    · repeat fail
      exact h1 _ (if_pos z)
    · exact h0 (if_neg z)
  have eg : ∃ gs : List Int, ([] : List D) ++ (ns.map D.int).filterMap greatD = gs.map D.int := by
    rw [List.nil_append]
    clear hl h hq
    induction ns with
    | nil => exact ⟨[], rfl⟩
    | cons n ns ih =>
      obtain ⟨gs, hg⟩ := ih
      rw [List.map_cons, List.filterMap_cons]
      by_cases z : (10 : Int) ^ 18 ≤ n
      · have : greatD (.int n) = some (.int n) := if_pos z
        rw [this]
        exact ⟨n :: gs, by simp only [hg, List.map_cons]⟩
      · have : greatD (.int n) = none := if_neg z
        rw [this]
        exact ⟨gs, hg⟩
  obtain ⟨gs, hgs⟩ := eg
  rw [hgs]
  repeat fail
  refine w_dct ?_
  intro p hp
  repeat fail
  refine w_listF ?_
  repeat fail
  refine w_lenF ?_
  repeat fail
  refine w_addL (by simp [sizeLine_eq]; omega) ?_
  repeat fail
  have fin : ∀ left : Int, (M.put p (.dct [] [])) p = some (.dct [] []) ∧ Lo Q (.ref p) ((M.put p (.dct [] [])).put p (.dct mK [.lst (ns.map D.int ++ [.int ((ns.map D.int).length : Int)]), .int left, .int 0])) := fun left => by
    refine ⟨Mem.put_same, lo_same (h p _ (ns ++ [(ns.length : Int)]) (by simp) ⟨left, 0, ?_, by decide, by decide⟩ fun x hx => ?_)⟩
    · rw [Mem.put_same]
      have e : ns.map D.int ++ [.int ((ns.map D.int).length : Int)] = (ns ++ [(ns.length : Int)]).map D.int := by simp
      rw [e]; rfl
    · rw [Mem.put_ne hx, Mem.put_ne hx]
  refine w_neO (eq_nil gs) ?_
  repeat fail
  refine w_ifnd (fun z => ?_) fun z => ?_
  · cases gs with
    | nil => exact absurd rfl z
    | cons g gs =>
      repeat fail
      refine w_ixL (by have y := atI_nat (xs := (g :: gs).map D.int) (j := 0) (v := .int g) rfl; exact y) ?_
      repeat fail
      exact fin g
  · repeat fail
    exact fin 0
end
end G_madeofhere_k01_errors
set_option maxHeartbeats 1000000
namespace DL
open PySem PySem.Spec PyProof.Rows L2
/-! ### one step of a reading each: exceptions -/
section
variable {K : Fg} {C : Addr} {ns : List Str} {ds : List D} {M : Mem} {Q : QD} {Xd : XD} {s : SD} {te : TED} {t : TAD} {tb : TSD} {nx bk ct : SD → Mem → Prop} {rt : QD} {ex : XD} {f : Str} {d : D}
theorem w_isxR {B : Addr} {b : Bool} (Z : ExcC K C) (k : PySem.W.kitOne K (.ref C) (.ref B) = some b) (h : Q (.bl b) M) : isaC K [.exn C ns ds, .ref B] M Q := ⟨Z, b, k, h⟩
theorem w_isxT {n : String} {b : Bool} (Z : ExcC K C) (k : PySem.W.kitOne K (.ref C) (.type n) = some b) (h : Q (.bl b) M) : isaC K [.exn C ns ds, .ty n] M Q := ⟨Z, b, k, h⟩
theorem w_mk (h : t Xd s M fun ds M1 => Q (.exn C ns ds.reverse) M1) : dMk C ns t Xd s M Q := h
theorem w_mkK {pm : Prm} (h : t Xd s M fun ds M1 => Q (.exn C ns (pm.f ds).reverse) M1) : dMkK C ns pm t Xd s M Q := h
theorem w_mk0 (h : te Xd s M fun _ M1 => Q (.exn C [] []) M1) : dMk0 C te Xd s M Q := h
def fdK (K : Fg) (f : Str) (Q : QD) : QD := fun d M1 => match d with
  | .exn C ns ds => FdOk K C f ∧ ∃ d, (ns.zip ds).lookup f = some d ∧ Q d M1
  | _ => False
theorem w_fd (h : te Xd s M (fdK K f Q)) : dFd K f te Xd s M Q := h
theorem w_fdK (F : FdOk K C f) (hl : (ns.zip ds).lookup f = some d) (h : Q d M) : fdK K f Q (.exn C ns ds) M := ⟨F, d, hl, h⟩
theorem w_raise (h : t ex s M fun ds M1 => ex C ns ds.reverse M1) : sRaise C ns t ⟨nx, rt, bk, ct, ex⟩ s M := h
theorem w_raiseX (h : t (fun _ _ _ _ => False) s M fun ds M1 => ex C ns ds.reverse M1) : sRaiseX C ns t ⟨nx, rt, bk, ct, ex⟩ s M := h
theorem w_try {cl : List ClD} (h : tb ⟨nx, rt, bk, ct, xCl K ⟨nx, rt, bk, ct, ex⟩ s cl⟩ s M) : sTry K tb cl ⟨nx, rt, bk, ct, ex⟩ s M := h
theorem w_callX {sp : SpD} (h : t (fun _ _ _ _ => False) s M fun ds M1 => sp ds M1 Q Xd) : dCallX sp t Xd s M Q := h
theorem w_xclN {Y : EndsD} {c : ClD} {r : List ClD} (e : PySem.W.exmAny K (.ref C) c.cs = some false) (h : xCl K Y s r C ns ds M) : xCl K Y s (c :: r) C ns ds M := ⟨false, e, (fun z => Bool.noConfusion z), fun _ => h⟩
theorem w_xclY {cs : List Value} {i : Nat} {ts : TSD} {r : List ClD} (e : PySem.W.exmAny K (.ref C) cs = some true)
    (h : ts ⟨fun s M => nx (s.set i none) M, rt, fun s M => bk (s.set i none) M, fun s M => ct (s.set i none) M, fun _ _ _ _ => False⟩ (s.set i (some (.exn C ns ds))) M) : xCl K ⟨nx, rt, bk, ct, ex⟩ s (⟨cs, some i, ts⟩ :: r) C ns ds M := ⟨true, e, (fun _ => h), fun z => Bool.noConfusion z⟩
theorem w_xclY0 {cs : List Value} {ts : TSD} {r : List ClD} (e : PySem.W.exmAny K (.ref C) cs = some true)
    (h : ts ⟨nx, rt, bk, ct, fun _ _ _ _ => False⟩ s M) : xCl K ⟨nx, rt, bk, ct, ex⟩ s (⟨cs, none, ts⟩ :: r) C ns ds M := ⟨true, e, (fun _ => h), fun z => Bool.noConfusion z⟩
theorem exm_list {c : Nat → Addr} {n i : Nat} {tb : Nat → Nat → Bool} {tys : List (String × (Nat → Bool))} {fds : List Str} (F : KitF K c n tb tys fds) (hi : i < n) : ∀ (js : List Nat), (∀ j ∈ js, j < n) → PySem.W.exmAny K (.ref (c i)) (js.map fun j => Value.ref (c j)) = some (js.any (tb i))
  | [], _ => rfl
  | j :: js, h => by
    rw [List.map_cons, List.any_cons]
    unfold PySem.W.exmAny
    rw [F.exm hi (h j List.mem_cons_self), exm_list F hi js fun k hk => h k (List.mem_cons_of_mem _ hk)]
theorem w_fz (h : te Xd s M fun d M1 => match d with
  | .ref p => (match M1 p with
    | some (.dct ks ds) => Q (.dct ks ds) (M1.del p)
    | some (.lst ds) => Q (.lst ds) (M1.del p)
    | _ => False)
  | _ => False) : dFz te Xd s M Q := h
end
/-! ### shown, with dicts -/
def RX (m d : Nat) (x : D) : Prop := ∃ p, toPyX x = some p ∧ RB m d p
theorem RX.mono {m m' d d' : Nat} {x : D} (h : RX m d x) (hm : m ≤ m') (hd : d ≤ d') : RX m' d' x := by
  obtain ⟨p, h1, h2⟩ := h
  exact ⟨p, h1, h2.mono hm hd⟩
theorem rx_int {i : Int} (h : i.natAbs ≤ 2 ^ 64) : RX 66 0 (.int i) := ⟨_, rfl, rb_int h⟩
theorem rx_all {m d : Nat} : ∀ {xs : List D}, (∀ x ∈ xs, RX m d x) → ∃ ps, toPyXs xs = some ps ∧ (∀ p ∈ ps, RB m d p) ∧ ps.length = xs.length
  | [], _ => ⟨[], rfl, (fun p h => by cases h), rfl⟩
  | x :: xs, h => by
    obtain ⟨p, h1, h2⟩ := h x List.mem_cons_self
    obtain ⟨ps, k1, k2, k3⟩ := rx_all fun y hy => h y (List.mem_cons_of_mem _ hy)
    refine ⟨p :: ps, by rw [toPyXs, h1, k1], fun q hq => ?_, by rw [List.length_cons, List.length_cons, k3]⟩
    rcases List.mem_cons.mp hq with rfl | hq
    · exact h2
    · exact k2 q hq
theorem rx_tup {m d k : Nat} {xs : List D} (h : ∀ x ∈ xs, RX m d x) (hk : xs.length ≤ k) : RX (k * (m + 2) + 3) (d + 1) (.tup xs) := by
  obtain ⟨ps, h1, h2, h3⟩ := rx_all h
  exact ⟨.tuple ps, by rw [toPyX, h1]; rfl, rb_tup h2 (by omega)⟩
theorem rx_lst {m d k : Nat} {xs : List D} (h : ∀ x ∈ xs, RX m d x) (hk : xs.length ≤ k) : RX (k * (m + 2) + 3) (d + 1) (.lst xs) := by
  obtain ⟨ps, h1, h2, h3⟩ := rx_all h
  exact ⟨.list ps, by rw [toPyX, h1]; rfl, rb_lst h2 (by omega)⟩
def rbB (m d : Nat) (p : PyData) : Bool := p.showable && (decide (p.shown.length ≤ m) && (decide (p.depth ≤ d) && PyData.strOk p.shown))
theorem rbB_ok {m d : Nat} {p : PyData} (h : rbB m d p = true) : RB m d p := by
  obtain ⟨h1, h⟩ := He.ba h
  obtain ⟨h2, h⟩ := He.ba h
  obtain ⟨h3, h4⟩ := He.ba h
  exact ⟨h1, of_decide_eq_true h2, of_decide_eq_true h3, h4⟩
def rxB (m d : Nat) (x : D) : Bool := match toPyX x with
  | some p => rbB m d p
  | none => false
theorem rxB_ok {m d : Nat} {x : D} (h : rxB m d x = true) : RX m d x := by
  unfold rxB at h
  cases e : toPyX x with
  | none => rw [e] at h; cases h
  | some p => rw [e] at h; exact ⟨p, e, rbB_ok h⟩
def shX (x : D) : Str := match toPyX x with
  | some p => p.shown
  | none => ""
theorem w_reprX {m n : Nat} {x : D} {M : Mem} {Q : QD} (hr : RX m n x) (hv : vw M x = x) (hm : m ≤ 16777216) (hn : n ≤ 60) (h : Q (.str (shX x)) M) : reprX [x] M Q := by
  obtain ⟨p, h1, h2⟩ := hr
  unfold reprX
  simp only [hv, h1]
  refine ⟨⟨h2.sh, by rw [sizeLine_eq]; exact Nat.le_trans h2.len hm, Nat.le_trans h2.dep hn⟩, ?_⟩
  unfold shX at h
  rw [h1] at h; exact h
theorem shX_ok {m n : Nat} {x : D} (hr : RX m n x) : PyData.strOk (shX x) = true := by
  obtain ⟨p, h1, h2⟩ := hr
  unfold shX
  rw [h1]; exact h2.ok
theorem w_neShX {m n : Nat} {x : D} {M : Mem} {Q : QD} (hr : RX m n x) (h : Q (.bl false) M) : neD (.str (shX x)) (.str (shX x)) M Q := by
  refine w_neS (shX_ok hr) (shX_ok hr) ?_
  rw [decide_eq_true rfl]; exact h
theorem w_mulLI {ds : List D} {k : Int} {M : Mem} {Q : QD} (hk : -(2 ^ 63) ≤ k ∧ k < 2 ^ 63 ∧ ds.length * k.toNat ≤ sizeLine) (h : Q (.lst (repL k.toNat ds)) M) : mulD (.lst ds) (.int k) M Q := ⟨hk, h⟩
theorem w_mulSI {x : Str} {k : Int} {M : Mem} {Q : QD} (hk : MulOk x k) (h : Q (.str (Txt.mul x k)) M) : mulD (.str x) (.int k) M Q := ⟨hk, h⟩
theorem w_inO {x y : D} {b : Bool} {M : Mem} {Q : QD} (e : inO M x y = some b) (h : Q (.bl b) M) : inD x y M Q := by unfold inD; rw [e]; exact h
end DL
namespace DL
theorem w_ifDt {p P U : Prop} [Decidable p] (hp : p) (h : P) : if decide p = true then P else U := by rw [decide_eq_true hp, if_pos rfl]; exact h
theorem w_ifDf {p P U : Prop} [Decidable p] (hp : ¬ p) (h : U) : if decide p = true then P else U := by rw [decide_eq_false hp, if_neg Bool.false_ne_true]; exact h
end DL
namespace DL
open PySem PySem.Spec PyProof.Rows L2
theorem w_fz1 {k : Key} {v : D} {Xd : XD} {s : SD} {M : Mem} {Q : QD} (h : Q (.dct [k] [v]) M) : dFz (dDct [(k, dC v)]) Xd s M Q := fun p hp => by
  show (M.put p (.dct [] [])) p = some (.dct [] []) ∧ _
  refine ⟨Mem.put_same, ?_⟩
  show (match ((M.put p (.dct [] [])).put p (.dct [k] [v])) p with
    | some (.dct ks ds) => Q (.dct ks ds) (((M.put p (.dct [] [])).put p (.dct [k] [v])).del p)
    | some (.lst ds) => Q (.lst ds) (((M.put p (.dct [] [])).put p (.dct [k] [v])).del p)
    | _ => False)
  rw [Mem.put_same]
  show Q (.dct [k] [v]) (((M.put p (.dct [] [])).put p (.dct [k] [v])).del p)
  have e : ((M.put p (.dct [] [])).put p (.dct [k] [v])).del p = M := by
    funext b
    by_cases z : b = p
    · subst z; rw [Mem.del_same, hp]
    · rw [Mem.del_ne z, Mem.put_ne z, Mem.put_ne z]
  rw [e]; exact h
end DL
set_option maxHeartbeats 4000000
namespace G_madeofhere_k01_errors
open PySem PySem.Spec PyProof.Rows L2 DL MH
local macro_rules | `(tactic| fail) => `(tactic| first | with_reducible refine w_seq ?_ | with_reducible refine w_nx ?_ | with_reducible refine w_ret ?_ | with_reducible refine w_retN ?_ | with_reducible refine w_expr ?_ | with_reducible refine w_ifS ?_ | with_reducible refine w_asg ?_ | with_reducible refine w_augS ?_ | with_reducible refine w_for ?_ | with_reducible refine w_bk ?_ | with_reducible refine w_ct ?_ | with_reducible refine w_set0 ?_ | with_reducible refine w_set1 ?_ | with_reducible refine w_set2 ?_ | with_reducible refine w_set3 ?_ | with_reducible refine w_set4 ?_ | with_reducible refine w_set5 ?_ | with_reducible refine w_set6 ?_ | with_reducible refine w_set7 ?_ | with_reducible refine w_set8 ?_ | with_reducible refine w_set9 ?_ | with_reducible refine w_set10 ?_ | with_reducible refine w_set11 ?_ | with_reducible refine w_set12 ?_ | with_reducible refine w_set13 ?_ | with_reducible refine w_set14 ?_ | with_reducible refine w_set15 ?_ | with_reducible refine w_set16 ?_ | with_reducible refine w_set17 ?_ | with_reducible refine w_var0 ?_ | with_reducible refine w_var1 ?_ | with_reducible refine w_var2 ?_ | with_reducible refine w_var3 ?_ | with_reducible refine w_var4 ?_ | with_reducible refine w_var5 ?_ | with_reducible refine w_var6 ?_ | with_reducible refine w_var7 ?_ | with_reducible refine w_var8 ?_ | with_reducible refine w_var9 ?_ | with_reducible refine w_var10 ?_ | with_reducible refine w_var11 ?_ | with_reducible refine w_var12 ?_ | with_reducible refine w_var13 ?_ | with_reducible refine w_var14 ?_ | with_reducible refine w_var15 ?_ | with_reducible refine w_var16 ?_ | with_reducible refine w_var17 ?_ | with_reducible refine w_gnm0 ?_ | with_reducible refine w_gnm1 ?_ | with_reducible refine w_gnm2 ?_ | with_reducible refine w_gnm3 ?_ | with_reducible refine w_gnm4 ?_ | with_reducible refine w_gnm5 ?_ | with_reducible refine w_gnm6 ?_ | with_reducible refine w_gnm7 ?_ | with_reducible refine w_gnm8 ?_ | with_reducible refine w_gnm9 ?_ | with_reducible refine w_gnm10 ?_ | with_reducible refine w_gnm11 ?_ | with_reducible refine w_gnm12 ?_ | with_reducible refine w_gnm13 ?_ | with_reducible refine w_gnm14 ?_ | with_reducible refine w_gnm15 ?_ | with_reducible refine w_gnm16 ?_ | with_reducible refine w_gnm17 ?_ | with_reducible refine w_mk ?_ | with_reducible refine w_mkK ?_ | with_reducible refine w_mk0 ?_ | with_reducible refine w_fd ?_ | with_reducible refine w_raise ?_ | with_reducible refine w_raiseX ?_ | with_reducible refine w_try ?_ | with_reducible refine w_callX ?_ | with_reducible refine w_fzN ?_ | with_reducible refine w_gTp rfl ?_ | with_reducible refine w_gCo ?_ | with_reducible refine w_gNi ?_ | with_reducible refine w_gSb ?_ | with_reducible refine w_c ?_ | with_reducible refine w_op ?_ | with_reducible refine w_nil ?_ | with_reducible refine w_cons ?_ | with_reducible refine w_tup ?_ | with_reducible refine w_lst ?_ | with_reducible refine w_cb ?_ | with_reducible refine w_call ?_ | with_reducible refine w_ite ?_ | with_reducible refine w_and ?_ | with_reducible refine w_or ?_ | with_reducible refine w_not ?_ | with_reducible refine w_andT ?_ | with_reducible refine w_andF ?_ | with_reducible refine w_orT ?_ | with_reducible refine w_orF ?_ | with_reducible refine w_neg ?_ | with_reducible refine w_un ?_ | with_reducible refine w_tst ?_ | with_reducible refine w_tstB ?_ | with_reducible refine w_tru ?_ | with_reducible refine w_truB ?_ | with_reducible refine w_tAnd ?_ | with_reducible refine w_tOr ?_ | with_reducible refine w_tNot ?_ | with_reducible refine w_chain ?_ | with_reducible refine w_chT ?_ | with_reducible refine w_chF ?_ | with_reducible refine w_ifT ?_ | with_reducible refine w_ifF ?_ | with_reducible refine w_ifnT ?_ | with_reducible refine w_ifnF ?_ | with_reducible refine w_rvs ?_ | with_reducible refine w_yes ?_ | with_reducible refine w_iZip ?_ | with_reducible refine w_sg2 ?_ | with_reducible refine w_zipLL ?_ | with_reducible refine w_zipTT ?_ | with_reducible refine w_augY ?_ | with_reducible refine w_isiII ?_ | with_reducible refine w_isiIB ?_ | with_reducible refine w_isiSS ?_ | with_reducible refine w_isiTT ?_ | with_reducible refine w_isiIT ?_ | with_reducible refine w_isiIS ?_ | with_reducible refine w_isiSI ?_ | with_reducible refine w_isiSB ?_ | with_reducible refine w_isiST ?_ | with_reducible refine w_isiTI ?_ | with_reducible refine w_isiTB ?_ | with_reducible refine w_isiTS ?_ | with_reducible refine w_isiNI ?_ | with_reducible refine w_isiNS ?_ | with_reducible refine w_isiNT ?_ | with_reducible refine w_isiBI ?_ | with_reducible refine w_isiBB ?_ | with_reducible refine w_isiLT ?_ | with_reducible refine w_dRev ?_ | with_reducible refine w_revK ?_ | with_reducible refine w_lstRg ?_ | with_reducible refine w_par ?_ | with_reducible refine w_parK (by dsimp only [List.set] <;> rfl) ?_ | with_reducible refine w_sl ?_ | with_reducible refine w_slT ?_ | with_reducible refine w_slL ?_ | with_reducible refine w_oNo ?_ | with_reducible refine w_oSo ?_ | with_reducible refine w_oSoK ?_ | with_reducible refine w_prN ?_ | with_reducible refine w_prC ?_ | with_reducible refine w_addI ?_ | with_reducible refine w_subI ?_ | with_reducible refine w_lt ?_ | with_reducible refine w_le ?_ | with_reducible refine w_gt ?_ | with_reducible refine w_ge ?_ | with_reducible refine w_isN ?_ | with_reducible refine w_isnN ?_ | with_reducible refine w_eqI ?_ | with_reducible refine w_neI ?_ | with_reducible refine w_ixT0 ?_ | with_reducible refine w_ixT1 ?_ | with_reducible refine w_ixT2 ?_ | with_reducible refine w_ixT3 ?_ | with_reducible refine w_ixT4 ?_ | with_reducible refine w_ixT5 ?_ | with_reducible refine w_lenL ?_ | with_reducible refine w_lenT ?_ | with_reducible refine w_int ?_ | with_reducible refine w_intB ?_ | with_reducible refine w_abs ?_ | with_reducible refine w_listL ?_ | with_reducible refine w_listT ?_ | with_reducible refine w_tupL ?_ | with_reducible refine w_tupT ?_ | with_reducible refine w_int2 ?_ | with_reducible refine w_gcd ?_ | with_reducible refine w_app ?_ | with_reducible refine w_iSeq ?_ | with_reducible refine w_itemT ?_ | with_reducible refine w_itemL ?_ | with_reducible refine w_iRng ?_ | with_reducible refine w_iEnm ?_ | with_reducible refine w_sg1 ?_ | with_reducible refine w_iRev ?_ | with_reducible refine w_rg1 ?_ | with_reducible refine w_rg1K ?_ | with_reducible refine w_notB ?_)
section
variable {K : Fg} {c : Nat → Addr}
theorem i12 {i : Nat} (hi : i < 12) : i = 0 ∨ i = 1 ∨ i = 2 ∨ i = 3 ∨ i = 4 ∨ i = 5 ∨ i = 6 ∨ i = 7 ∨ i = 8 ∨ i = 9 ∨ i = 10 ∨ i = 11 := by omega
theorem ty_V (hC : CF K c) {i : Nat} (hi : i < 12) : PySem.W.kitOne K (.ref (c i)) (.type "ValueError") = some (decide (i < 11)) := by
  have z := hC.kf.ty (i := i) (t := ("ValueError", fun i => [0, 1, 2, 3, 4, 5, 6, 7, 8, 9, 10].contains i)) hi (by simp [tys])
  rw [z]
  rcases i12 hi with rfl | rfl | rfl | rfl | rfl | rfl | rfl | rfl | rfl | rfl | rfl | rfl <;> rfl
theorem ty_L (hC : CF K c) {i : Nat} (hi : i < 12) : PySem.W.kitOne K (.ref (c i)) (.type "LookupError") = some (decide (i = 11)) := by
  have z := hC.kf.ty (i := i) (t := ("LookupError", fun i => [11].contains i)) hi (by simp [tys])
  rw [z]
  rcases i12 hi with rfl | rfl | rfl | rfl | rfl | rfl | rfl | rfl | rfl | rfl | rfl | rfl <;> rfl
theorem ty_T (hC : CF K c) {i : Nat} (hi : i < 12) : PySem.W.kitOne K (.ref (c i)) (.type "TypeError") = some false := by
  have z := hC.kf.ty (i := i) (t := ("TypeError", fun i => [].contains i)) hi (by simp [tys])
  rw [z]; rfl
theorem ty_A (hC : CF K c) {i : Nat} (hi : i < 12) : PySem.W.kitOne K (.ref (c i)) (.type "ArithmeticError") = some false := by
  have z := hC.kf.ty (i := i) (t := ("ArithmeticError", fun i => [].contains i)) hi (by simp [tys])
  rw [z]; rfl
def mkL (i : Nat) : List D := [.bl (tb i 2), .bl (tb i 9), .bl (tb i 10), .bl (tb i 3), .bl (tb i 4), .bl (tb i 7), .bl (tb i 8), .bl (tb i 11), .bl (tb i 5), .bl (tb i 6), .bl (tb i 1)]
def abL (i : Nat) : List D := [.bl (tb i 0), .bl (decide (i < 11)), .bl (decide (i = 11)), .bl false, .bl false]
theorem marks_k (hC : CF K c) {i : Nat} (hi : i < 12) {ns : List Str} {ds : List D} {M : Mem} {Q : QD} {Xd : XD} (h : Q (.lst (mkL i)) M) : W_law_marks K c [.exn (c i) ns ds] M Q Xd := by
  have Z := (hC.cf (i := i) hi).e
  have kk : ∀ {j : Nat}, j < 12 → PySem.W.kitOne K (.ref (c i)) (.ref (c j)) = some (tb i j) := fun hj => hC.kf.kit hi hj
  refine E_law_marks ?_
  repeat (first | fail | with_reducible refine w_isxR Z (kk (by decide)) ?_ | with_reducible refine w_addL (Nat.le_trans (Nat.le_of_ble_eq_true (rfl : Nat.ble _ 100 = true)) (by decide)) ?_)
  exact lo_same h
theorem above_k (hC : CF K c) {i : Nat} (hi : i < 12) {ns : List Str} {ds : List D} {M : Mem} {Q : QD} {Xd : XD} (h : Q (.lst (abL i)) M) : W_law_above K c [.exn (c i) ns ds] M Q Xd := by
  have Z := (hC.cf (i := i) hi).e
  have kk : ∀ {j : Nat}, j < 12 → PySem.W.kitOne K (.ref (c i)) (.ref (c j)) = some (tb i j) := fun hj => hC.kf.kit hi hj
  refine E_law_above ?_
  repeat (first | fail | with_reducible refine w_isxR Z (kk (by decide)) ?_ | with_reducible refine w_isxT Z (ty_V hC hi) ?_ | with_reducible refine w_isxT Z (ty_L hC hi) ?_ | with_reducible refine w_isxT Z (ty_T hC hi) ?_ | with_reducible refine w_isxT Z (ty_A hC hi) ?_ | with_reducible refine w_addL (Nat.le_trans (Nat.le_of_ble_eq_true (rfl : Nat.ble _ 100 = true)) (by decide)) ?_)
  exact lo_same h
/-- the class, the field of the s-th pair -/
def cl (s : Nat) : Nat := [2, 9, 10, 3, 4, 7, 8, 11, 5, 6].getD s 0
def fnm (s : Nat) : Str := if s < 3 then "number" else if s < 8 then "value" else if s = 8 then "part" else "line"
def exq (c : Nat → Addr) (s : Nat) (d : D) : D := .exn (c (cl s)) [fnm s] [d]
theorem fn0 {s : Nat} (h : s < 3) : fnm s = "number" := if_pos h
theorem fn1 {s : Nat} (h : 3 ≤ s) (h2 : s < 8) : fnm s = "value" := by unfold fnm; rw [if_neg (by omega), if_pos h2]
theorem fn2 : fnm 8 = "part" := by unfold fnm; rw [if_neg (by decide), if_neg (by decide), if_pos rfl]
theorem fn3 : fnm 9 = "line" := by unfold fnm; rw [if_neg (by decide), if_neg (by decide), if_neg (by decide)]
theorem rev1 {d : D} : [d].reverse = [d] := rfl
theorem revi {d : D} : (prmId.f [d]).reverse = [d] := rfl
theorem rev2 {d e : D} : [d, e].reverse = [e, d] := rfl
theorem revs {d e : D} : (prmSw.f [e, d]).reverse = [e, d] := rfl
theorem clb {s : Nat} (hs : s < 10) : cl s < 12 := by
  have : s = 0 ∨ s = 1 ∨ s = 2 ∨ s = 3 ∨ s = 4 ∨ s = 5 ∨ s = 6 ∨ s = 7 ∨ s = 8 ∨ s = 9 := by omega
  rcases this with rfl | rfl | rfl | rfl | rfl | rfl | rfl | rfl | rfl | rfl <;> decide
theorem fdok (hC : CF K c) {i : Nat} (hi : i < 12) {f : Str} (hf : f ∈ fds) : FdOk K (c i) f := ⟨(hC.cf hi).x, hC.kf.no hi hf⟩
theorem lk1 {f : Str} {d : D} : ([f].zip [d]).lookup f = some d := by simp [List.lookup]
theorem field_k (hC : CF K c) {s : Nat} (hs : s < 10) {d : D} {M : Mem} {Q : QD} {Xd : XD} (h : Q d M) : W_law_field K c [exq c s d, .int s] M Q Xd := by
  refine E_law_field ?_
  unfold exq
  by_cases h3 : s < 3
  · rw [fn0 h3]
    repeat fail
    refine w_ifDt (by omega) ?_
    repeat fail
    refine w_fdK (fdok hC (clb hs) (by simp [fds])) lk1 ?_
    exact lo_same h
  · by_cases h8 : s < 8
    · rw [fn1 (by omega) h8]
      repeat fail
      refine w_ifDf (by omega) ?_
      repeat fail
      refine w_ifDt (by omega) ?_
      repeat fail
      refine w_fdK (fdok hC (clb hs) (by simp [fds])) lk1 ?_
      exact lo_same h
    · by_cases z : s = 8
      · subst z
        rw [fn2]
        repeat fail
        refine w_ifDf (by omega) ?_
        repeat fail
        refine w_ifDf (by omega) ?_
        repeat fail
        refine w_ifDt (by omega) ?_
        repeat fail
        refine w_fdK (fdok hC (clb hs) (by simp [fds])) lk1 ?_
        exact lo_same h
      · have e : s = 9 := by omega
        subst e
        rw [fn3]
        repeat fail
        refine w_ifDf (by omega) ?_
        repeat fail
        refine w_ifDf (by omega) ?_
        repeat fail
        refine w_ifDf (by omega) ?_
        repeat fail
        refine w_fdK (fdok hC (clb hs) (by simp [fds])) lk1 ?_
        exact lo_same h
def prL (c : Nat → Addr) (d : D) : List D := (List.range 10).map fun s => .tup [exq c s d, exq c s d]
theorem prL_eq {d : D} : prL c d = [.tup [.exn (c 2) ["number"] [d], .exn (c 2) ["number"] [d]], .tup [.exn (c 9) ["number"] [d], .exn (c 9) ["number"] [d]], .tup [.exn (c 10) ["number"] [d], .exn (c 10) ["number"] [d]],
    .tup [.exn (c 3) ["value"] [d], .exn (c 3) ["value"] [d]], .tup [.exn (c 4) ["value"] [d], .exn (c 4) ["value"] [d]], .tup [.exn (c 7) ["value"] [d], .exn (c 7) ["value"] [d]], .tup [.exn (c 8) ["value"] [d], .exn (c 8) ["value"] [d]],
    .tup [.exn (c 11) ["value"] [d], .exn (c 11) ["value"] [d]], .tup [.exn (c 5) ["part"] [d], .exn (c 5) ["part"] [d]], .tup [.exn (c 6) ["line"] [d], .exn (c 6) ["line"] [d]]] := by
  have e : ∀ s, exq c s d = .exn (c (cl s)) [fnm s] [d] := fun _ => rfl
  unfold prL
  simp only [show List.range 10 = [0, 1, 2, 3, 4, 5, 6, 7, 8, 9] from rfl, List.map_cons, List.map_nil, e, fn0 (by decide : 0 < 3), fn0 (by decide : 1 < 3), fn0 (by decide : 2 < 3), fn1 (by decide : 3 ≤ 3) (by decide), fn1 (by decide : 3 ≤ 4) (by decide),
    fn1 (by decide : 3 ≤ 5) (by decide), fn1 (by decide : 3 ≤ 6) (by decide), fn1 (by decide : 3 ≤ 7) (by decide), fn2, fn3]
  rfl
theorem pairs_k {d : D} {M : Mem} {Q : QD} {Xd : XD} (h : Q (.lst (prL c d)) M) : W_law_pairs K c [d] M Q Xd := by
  refine E_law_pairs ?_
  repeat (first | fail | with_reducible refine w_addL (Nat.le_trans (Nat.le_of_ble_eq_true (rfl : Nat.ble _ 100 = true)) (by decide)) ?_)
  simp only [rev1, revi, List.cons_append, List.nil_append]
  rw [prL_eq] at h
  exact lo_same h
end
end G_madeofhere_k01_errors
set_option maxHeartbeats 4000000
namespace G_madeofhere_k01_errors
open PySem PySem.Spec PyProof.Rows L2 DL MH
local macro_rules | `(tactic| fail) => `(tactic| first | with_reducible refine w_seq ?_ | with_reducible refine w_nx ?_ | with_reducible refine w_ret ?_ | with_reducible refine w_retN ?_ | with_reducible refine w_expr ?_ | with_reducible refine w_ifS ?_ | with_reducible refine w_asg ?_ | with_reducible refine w_augS ?_ | with_reducible refine w_for ?_ | with_reducible refine w_bk ?_ | with_reducible refine w_ct ?_ | with_reducible refine w_set0 ?_ | with_reducible refine w_set1 ?_ | with_reducible refine w_set2 ?_ | with_reducible refine w_set3 ?_ | with_reducible refine w_set4 ?_ | with_reducible refine w_set5 ?_ | with_reducible refine w_set6 ?_ | with_reducible refine w_set7 ?_ | with_reducible refine w_set8 ?_ | with_reducible refine w_set9 ?_ | with_reducible refine w_set10 ?_ | with_reducible refine w_set11 ?_ | with_reducible refine w_set12 ?_ | with_reducible refine w_set13 ?_ | with_reducible refine w_set14 ?_ | with_reducible refine w_set15 ?_ | with_reducible refine w_set16 ?_ | with_reducible refine w_set17 ?_ | with_reducible refine w_var0 ?_ | with_reducible refine w_var1 ?_ | with_reducible refine w_var2 ?_ | with_reducible refine w_var3 ?_ | with_reducible refine w_var4 ?_ | with_reducible refine w_var5 ?_ | with_reducible refine w_var6 ?_ | with_reducible refine w_var7 ?_ | with_reducible refine w_var8 ?_ | with_reducible refine w_var9 ?_ | with_reducible refine w_var10 ?_ | with_reducible refine w_var11 ?_ | with_reducible refine w_var12 ?_ | with_reducible refine w_var13 ?_ | with_reducible refine w_var14 ?_ | with_reducible refine w_var15 ?_ | with_reducible refine w_var16 ?_ | with_reducible refine w_var17 ?_ | with_reducible refine w_gnm0 ?_ | with_reducible refine w_gnm1 ?_ | with_reducible refine w_gnm2 ?_ | with_reducible refine w_gnm3 ?_ | with_reducible refine w_gnm4 ?_ | with_reducible refine w_gnm5 ?_ | with_reducible refine w_gnm6 ?_ | with_reducible refine w_gnm7 ?_ | with_reducible refine w_gnm8 ?_ | with_reducible refine w_gnm9 ?_ | with_reducible refine w_gnm10 ?_ | with_reducible refine w_gnm11 ?_ | with_reducible refine w_gnm12 ?_ | with_reducible refine w_gnm13 ?_ | with_reducible refine w_gnm14 ?_ | with_reducible refine w_gnm15 ?_ | with_reducible refine w_gnm16 ?_ | with_reducible refine w_gnm17 ?_ | with_reducible refine w_mk ?_ | with_reducible refine w_mkK ?_ | with_reducible refine w_mk0 ?_ | with_reducible refine w_fd ?_ | with_reducible refine w_raise ?_ | with_reducible refine w_raiseX ?_ | with_reducible refine w_try ?_ | with_reducible refine w_callX ?_ | with_reducible refine w_fzN ?_ | with_reducible refine w_gTp rfl ?_ | with_reducible refine w_gCo ?_ | with_reducible refine w_gNi ?_ | with_reducible refine w_gSb ?_ | with_reducible refine w_c ?_ | with_reducible refine w_op ?_ | with_reducible refine w_nil ?_ | with_reducible refine w_cons ?_ | with_reducible refine w_tup ?_ | with_reducible refine w_lst ?_ | with_reducible refine w_cb ?_ | with_reducible refine w_call ?_ | with_reducible refine w_ite ?_ | with_reducible refine w_and ?_ | with_reducible refine w_or ?_ | with_reducible refine w_not ?_ | with_reducible refine w_andT ?_ | with_reducible refine w_andF ?_ | with_reducible refine w_orT ?_ | with_reducible refine w_orF ?_ | with_reducible refine w_neg ?_ | with_reducible refine w_un ?_ | with_reducible refine w_tst ?_ | with_reducible refine w_tstB ?_ | with_reducible refine w_tru ?_ | with_reducible refine w_truB ?_ | with_reducible refine w_tAnd ?_ | with_reducible refine w_tOr ?_ | with_reducible refine w_tNot ?_ | with_reducible refine w_chain ?_ | with_reducible refine w_chT ?_ | with_reducible refine w_chF ?_ | with_reducible refine w_ifT ?_ | with_reducible refine w_ifF ?_ | with_reducible refine w_ifnT ?_ | with_reducible refine w_ifnF ?_ | with_reducible refine w_rvs ?_ | with_reducible refine w_yes ?_ | with_reducible refine w_iZip ?_ | with_reducible refine w_sg2 ?_ | with_reducible refine w_zipLL ?_ | with_reducible refine w_zipTT ?_ | with_reducible refine w_augY ?_ | with_reducible refine w_isiII ?_ | with_reducible refine w_isiIB ?_ | with_reducible refine w_isiSS ?_ | with_reducible refine w_isiTT ?_ | with_reducible refine w_isiIT ?_ | with_reducible refine w_isiIS ?_ | with_reducible refine w_isiSI ?_ | with_reducible refine w_isiSB ?_ | with_reducible refine w_isiST ?_ | with_reducible refine w_isiTI ?_ | with_reducible refine w_isiTB ?_ | with_reducible refine w_isiTS ?_ | with_reducible refine w_isiNI ?_ | with_reducible refine w_isiNS ?_ | with_reducible refine w_isiNT ?_ | with_reducible refine w_isiBI ?_ | with_reducible refine w_isiBB ?_ | with_reducible refine w_isiLT ?_ | with_reducible refine w_dRev ?_ | with_reducible refine w_revK ?_ | with_reducible refine w_lstRg ?_ | with_reducible refine w_par ?_ | with_reducible refine w_parK (by dsimp only [List.set] <;> rfl) ?_ | with_reducible refine w_sl ?_ | with_reducible refine w_slT ?_ | with_reducible refine w_slL ?_ | with_reducible refine w_oNo ?_ | with_reducible refine w_oSo ?_ | with_reducible refine w_oSoK ?_ | with_reducible refine w_prN ?_ | with_reducible refine w_prC ?_ | with_reducible refine w_addI ?_ | with_reducible refine w_subI ?_ | with_reducible refine w_lt ?_ | with_reducible refine w_le ?_ | with_reducible refine w_gt ?_ | with_reducible refine w_ge ?_ | with_reducible refine w_isN ?_ | with_reducible refine w_isnN ?_ | with_reducible refine w_eqI ?_ | with_reducible refine w_neI ?_ | with_reducible refine w_ixT0 ?_ | with_reducible refine w_ixT1 ?_ | with_reducible refine w_ixT2 ?_ | with_reducible refine w_ixT3 ?_ | with_reducible refine w_ixT4 ?_ | with_reducible refine w_ixT5 ?_ | with_reducible refine w_lenL ?_ | with_reducible refine w_lenT ?_ | with_reducible refine w_int ?_ | with_reducible refine w_intB ?_ | with_reducible refine w_abs ?_ | with_reducible refine w_listL ?_ | with_reducible refine w_listT ?_ | with_reducible refine w_tupL ?_ | with_reducible refine w_tupT ?_ | with_reducible refine w_int2 ?_ | with_reducible refine w_gcd ?_ | with_reducible refine w_app ?_ | with_reducible refine w_iSeq ?_ | with_reducible refine w_itemT ?_ | with_reducible refine w_itemL ?_ | with_reducible refine w_iRng ?_ | with_reducible refine w_iEnm ?_ | with_reducible refine w_sg1 ?_ | with_reducible refine w_iRev ?_ | with_reducible refine w_rg1 ?_ | with_reducible refine w_rg1K ?_ | with_reducible refine w_notB ?_)
section
variable {K : Fg} {c : Nat → Addr}
theorem w_neC {x y : D} {b : Bool} {M : Mem} {Q : QD} (e : eqO x y = some b) (hx : vw M x = x) (hy : vw M y = y) (h : Q (.bl (!b)) M) : neD x y M Q := w_neO (by rw [hx, hy]; exact e) h
theorem w_eqC {x y : D} {b : Bool} {M : Mem} {Q : QD} (e : eqO x y = some b) (hx : vw M x = x) (hy : vw M y = y) (h : Q (.bl b) M) : eqD x y M Q := by
  unfold eqD; rw [hx, hy, e]; exact h
def isK (s : Nat) : D → D
  | .int k => .bl (decide (k = (s : Int)))
  | d => d
theorem due_ok {s : Nat} (hs : s < 10) : eqO (.lst (mkL (cl s))) (.lst ((rngL 0 11).map (isK s))) = some true := by
  have : s = 0 ∨ s = 1 ∨ s = 2 ∨ s = 3 ∨ s = 4 ∨ s = 5 ∨ s = 6 ∨ s = 7 ∨ s = 8 ∨ s = 9 := by omega
  rcases this with rfl | rfl | rfl | rfl | rfl | rfl | rfl | rfl | rfl | rfl <;> decide +kernel
def abv (s : Nat) : D := if s = 7 then .lst [.bl false, .bl false, .bl true, .bl false, .bl false] else .lst [.bl true, .bl true, .bl false, .bl false, .bl false]
theorem abv_vw {s : Nat} {M : Mem} : vw M (abv s) = abv s := by unfold abv; split <;> rfl
theorem abv_ok {s : Nat} (hs : s < 10) : eqO (.lst (abL (cl s))) (abv s) = some true := by
  have : s = 0 ∨ s = 1 ∨ s = 2 ∨ s = 3 ∨ s = 4 ∨ s = 5 ∨ s = 6 ∨ s = 7 ∨ s = 8 ∨ s = 9 := by omega
  rcases this with rfl | rfl | rfl | rfl | rfl | rfl | rfl | rfl | rfl | rfl <;> decide +kernel
theorem inner_k (hC : CF K c) {s : Nat} (hs : s < 10) {d : D} {m : Nat} (hm : m ≤ 1000) (hd : RX m 9 d) (hv : ∀ M, vw M d = d) {x1 x2 x4 x6 : Option D} {M : Mem} {rt : QD} {nx bk ct : SD → Mem → Prop} {xx : XD}
    (h : nx [some d, x1, x2, some (.int s), x4, some (abv s), some (exq c s d), none] M) (_ : True) :
    gNm 6 (exq c s d) xx [some d, x1, x2, some (.int s), x4, some (abv s), x6, none] M (fun s' M' =>
      (sSeq (sIf (tOrD (dTst (dOp neD (dCall (W_law_marks K c) [] (dCons (dVar 6) (dNil))) (dLc (iRngD (dCons (dC (.int 11)) (dNil))) (gNm 7) (tYesD) (dOp eqD (dVar 7) (dVar 3)) [7]))) (dTst (dOp neD (dCall (W_law_above K c) [] (dCons (dVar 6) (dNil))) (dVar 5)))) (sRet (dC (.bl false))) (sNx)) (sIf (dTst (dOp neD (dCB reprX (dCons (dCall (W_law_field K c) [] (dCons (dVar 6) (dCons (dVar 3) (dNil)))) (dNil))) (dCB reprX (dCons (dVar 0) (dNil))))) (sRet (dC (.bl false))) (sNx))) ⟨nx, rt, bk, ct, xx⟩ s' M') := by
  repeat fail
  refine marks_k hC (clb hs) ?_
  repeat fail
  refine w_lc ?_
  repeat fail
  refine w_rng1 (by decide) ?_
  intro p hp
  have e11 : (11 : Int).toNat = 11 := rfl
  rw [e11]
  have hw : ∀ x0 x1 x2 x3 x4 x5 x6 x7 : Option D, wipeD [x0, x1, x2, x3, x4, x5, x6, x7] [7] = [x0, x1, x2, x3, x4, x5, x6, none] := fun _ _ _ _ _ _ _ _ => rfl
  rw [hw]
  refine lc_map hp (isK s) (fun _ => wat_none) (by decide) (fun e he acc K1 hK => ?_) ?_
  · obtain ⟨k, _, rfl⟩ := List.mem_map.mp (show e ∈ (List.range 11).map fun k : Nat => D.int ((0 : Int) + k) from he)
    repeat fail
    exact hK
  repeat fail
  refine w_neC (due_ok hs) rfl rfl ?_
  repeat fail
  refine above_k hC (clb hs) ?_
  repeat fail
  refine w_neC (abv_ok hs) rfl abv_vw ?_
  repeat fail
  refine field_k hC hs ?_
  repeat fail
  refine w_reprX hd (hv _) (by omega) (by decide) ?_
  repeat fail
  refine w_reprX hd (hv _) (by omega) (by decide) ?_
  repeat fail
  refine w_neShX hd ?_
  repeat fail
  exact h
end
end G_madeofhere_k01_errors
set_option maxHeartbeats 4000000
namespace G_madeofhere_k01_errors
open PySem PySem.Spec PyProof.Rows L2 DL MH
local macro_rules | `(tactic| fail) => `(tactic| first | with_reducible refine w_seq ?_ | with_reducible refine w_nx ?_ | with_reducible refine w_ret ?_ | with_reducible refine w_retN ?_ | with_reducible refine w_expr ?_ | with_reducible refine w_ifS ?_ | with_reducible refine w_asg ?_ | with_reducible refine w_augS ?_ | with_reducible refine w_for ?_ | with_reducible refine w_bk ?_ | with_reducible refine w_ct ?_ | with_reducible refine w_set0 ?_ | with_reducible refine w_set1 ?_ | with_reducible refine w_set2 ?_ | with_reducible refine w_set3 ?_ | with_reducible refine w_set4 ?_ | with_reducible refine w_set5 ?_ | with_reducible refine w_set6 ?_ | with_reducible refine w_set7 ?_ | with_reducible refine w_set8 ?_ | with_reducible refine w_set9 ?_ | with_reducible refine w_set10 ?_ | with_reducible refine w_set11 ?_ | with_reducible refine w_set12 ?_ | with_reducible refine w_set13 ?_ | with_reducible refine w_set14 ?_ | with_reducible refine w_set15 ?_ | with_reducible refine w_set16 ?_ | with_reducible refine w_set17 ?_ | with_reducible refine w_var0 ?_ | with_reducible refine w_var1 ?_ | with_reducible refine w_var2 ?_ | with_reducible refine w_var3 ?_ | with_reducible refine w_var4 ?_ | with_reducible refine w_var5 ?_ | with_reducible refine w_var6 ?_ | with_reducible refine w_var7 ?_ | with_reducible refine w_var8 ?_ | with_reducible refine w_var9 ?_ | with_reducible refine w_var10 ?_ | with_reducible refine w_var11 ?_ | with_reducible refine w_var12 ?_ | with_reducible refine w_var13 ?_ | with_reducible refine w_var14 ?_ | with_reducible refine w_var15 ?_ | with_reducible refine w_var16 ?_ | with_reducible refine w_var17 ?_ | with_reducible refine w_gnm0 ?_ | with_reducible refine w_gnm1 ?_ | with_reducible refine w_gnm2 ?_ | with_reducible refine w_gnm3 ?_ | with_reducible refine w_gnm4 ?_ | with_reducible refine w_gnm5 ?_ | with_reducible refine w_gnm6 ?_ | with_reducible refine w_gnm7 ?_ | with_reducible refine w_gnm8 ?_ | with_reducible refine w_gnm9 ?_ | with_reducible refine w_gnm10 ?_ | with_reducible refine w_gnm11 ?_ | with_reducible refine w_gnm12 ?_ | with_reducible refine w_gnm13 ?_ | with_reducible refine w_gnm14 ?_ | with_reducible refine w_gnm15 ?_ | with_reducible refine w_gnm16 ?_ | with_reducible refine w_gnm17 ?_ | with_reducible refine w_mk ?_ | with_reducible refine w_mkK ?_ | with_reducible refine w_mk0 ?_ | with_reducible refine w_fd ?_ | with_reducible refine w_raise ?_ | with_reducible refine w_raiseX ?_ | with_reducible refine w_try ?_ | with_reducible refine w_callX ?_ | with_reducible refine w_fzN ?_ | with_reducible refine w_gTp rfl ?_ | with_reducible refine w_gCo ?_ | with_reducible refine w_gNi ?_ | with_reducible refine w_gSb ?_ | with_reducible refine w_c ?_ | with_reducible refine w_op ?_ | with_reducible refine w_nil ?_ | with_reducible refine w_cons ?_ | with_reducible refine w_tup ?_ | with_reducible refine w_lst ?_ | with_reducible refine w_cb ?_ | with_reducible refine w_call ?_ | with_reducible refine w_ite ?_ | with_reducible refine w_and ?_ | with_reducible refine w_or ?_ | with_reducible refine w_not ?_ | with_reducible refine w_andT ?_ | with_reducible refine w_andF ?_ | with_reducible refine w_orT ?_ | with_reducible refine w_orF ?_ | with_reducible refine w_neg ?_ | with_reducible refine w_un ?_ | with_reducible refine w_tst ?_ | with_reducible refine w_tstB ?_ | with_reducible refine w_tru ?_ | with_reducible refine w_truB ?_ | with_reducible refine w_tAnd ?_ | with_reducible refine w_tOr ?_ | with_reducible refine w_tNot ?_ | with_reducible refine w_chain ?_ | with_reducible refine w_chT ?_ | with_reducible refine w_chF ?_ | with_reducible refine w_ifT ?_ | with_reducible refine w_ifF ?_ | with_reducible refine w_ifnT ?_ | with_reducible refine w_ifnF ?_ | with_reducible refine w_rvs ?_ | with_reducible refine w_yes ?_ | with_reducible refine w_iZip ?_ | with_reducible refine w_sg2 ?_ | with_reducible refine w_zipLL ?_ | with_reducible refine w_zipTT ?_ | with_reducible refine w_augY ?_ | with_reducible refine w_isiII ?_ | with_reducible refine w_isiIB ?_ | with_reducible refine w_isiSS ?_ | with_reducible refine w_isiTT ?_ | with_reducible refine w_isiIT ?_ | with_reducible refine w_isiIS ?_ | with_reducible refine w_isiSI ?_ | with_reducible refine w_isiSB ?_ | with_reducible refine w_isiST ?_ | with_reducible refine w_isiTI ?_ | with_reducible refine w_isiTB ?_ | with_reducible refine w_isiTS ?_ | with_reducible refine w_isiNI ?_ | with_reducible refine w_isiNS ?_ | with_reducible refine w_isiNT ?_ | with_reducible refine w_isiBI ?_ | with_reducible refine w_isiBB ?_ | with_reducible refine w_isiLT ?_ | with_reducible refine w_dRev ?_ | with_reducible refine w_revK ?_ | with_reducible refine w_lstRg ?_ | with_reducible refine w_par ?_ | with_reducible refine w_parK (by dsimp only [List.set] <;> rfl) ?_ | with_reducible refine w_sl ?_ | with_reducible refine w_slT ?_ | with_reducible refine w_slL ?_ | with_reducible refine w_oNo ?_ | with_reducible refine w_oSo ?_ | with_reducible refine w_oSoK ?_ | with_reducible refine w_prN ?_ | with_reducible refine w_prC ?_ | with_reducible refine w_addI ?_ | with_reducible refine w_subI ?_ | with_reducible refine w_lt ?_ | with_reducible refine w_le ?_ | with_reducible refine w_gt ?_ | with_reducible refine w_ge ?_ | with_reducible refine w_isN ?_ | with_reducible refine w_isnN ?_ | with_reducible refine w_eqI ?_ | with_reducible refine w_neI ?_ | with_reducible refine w_ixT0 ?_ | with_reducible refine w_ixT1 ?_ | with_reducible refine w_ixT2 ?_ | with_reducible refine w_ixT3 ?_ | with_reducible refine w_ixT4 ?_ | with_reducible refine w_ixT5 ?_ | with_reducible refine w_lenL ?_ | with_reducible refine w_lenT ?_ | with_reducible refine w_int ?_ | with_reducible refine w_intB ?_ | with_reducible refine w_abs ?_ | with_reducible refine w_listL ?_ | with_reducible refine w_listT ?_ | with_reducible refine w_tupL ?_ | with_reducible refine w_tupT ?_ | with_reducible refine w_int2 ?_ | with_reducible refine w_gcd ?_ | with_reducible refine w_app ?_ | with_reducible refine w_iSeq ?_ | with_reducible refine w_itemT ?_ | with_reducible refine w_itemL ?_ | with_reducible refine w_iRng ?_ | with_reducible refine w_iEnm ?_ | with_reducible refine w_sg1 ?_ | with_reducible refine w_iRev ?_ | with_reducible refine w_rg1 ?_ | with_reducible refine w_rg1K ?_ | with_reducible refine w_notB ?_)
section
variable {K : Fg} {c : Nat → Addr}
theorem abv7 : abv 7 = .lst [.bl false, .bl false, .bl true, .bl false, .bl false] := if_pos rfl
theorem abvn {s : Nat} (h : ¬ s = 7) : abv s = .lst [.bl true, .bl true, .bl false, .bl false, .bl false] := if_neg h
def inB (K : Fg) (c : Nat → Addr) : TSD := sFor (iSeqD (dVar 4)) (gNm 6) (sSeq (sIf (tOrD (dTst (dOp neD (dCall (W_law_marks K c) [] (dCons (dVar 6) (dNil))) (dLc (iRngD (dCons (dC (.int 11)) (dNil))) (gNm 7) (tYesD) (dOp eqD (dVar 7) (dVar 3)) [7]))) (dTst (dOp neD (dCall (W_law_above K c) [] (dCons (dVar 6) (dNil))) (dVar 5)))) (sRet (dC (.bl false))) (sNx)) (sIf (dTst (dOp neD (dCB reprX (dCons (dCall (W_law_field K c) [] (dCons (dVar 6) (dCons (dVar 3) (dNil)))) (dNil))) (dCB reprX (dCons (dVar 0) (dNil))))) (sRet (dC (.bl false))) (sNx)))
theorem both_k (hC : CF K c) {s : Nat} (hs : s < 10) {d : D} {m : Nat} (hm : m ≤ 1000) (hd : RX m 9 d) (hv : ∀ M, vw M d = d) {x1 x2 x6 : Option D} {M : Mem} {rt : QD} {nx bk ct : SD → Mem → Prop} {xx : XD}
    (h : ∀ x6, nx [some d, x1, x2, some (.int s), some (.tup [exq c s d, exq c s d]), some (abv s), x6, none] M) :
    inB K c ⟨nx, rt, bk, ct, xx⟩ [some d, x1, x2, some (.int s), some (.tup [exq c s d, exq c s d]), some (abv s), x6, none] M := by
  unfold inB
  repeat fail
  refine w_forCons wat_none ?_
  refine inner_k hC hs hm hd hv ?_ True.intro
  refine w_forCons wat_none ?_
  refine inner_k hC hs hm hd hv ?_ True.intro
  refine w_forNil wat_none ?_
  exact h _
theorem turn_k (hC : CF K c) {s : Nat} (hs : s < 10) {d : D} {m : Nat} (hm : m ≤ 1000) (hd : RX m 9 d) (hv : ∀ M, vw M d = d) {x1 x2 x3 x4 x5 x6 : Option D} {M : Mem} {rt : QD} {nx bk ct : SD → Mem → Prop} {xx : XD}
    (h : ∀ x3 x4 x5 x6, nx [some d, x1, x2, x3, x4, x5, x6, none] M) :
    gTp 2 (gCo (gNm 3) (gCo (gNm 4) (gNi))) (.tup [.int s, .tup [exq c s d, exq c s d]]) xx [some d, x1, x2, x3, x4, x5, x6, none] M (fun s' M' => (sSeq (sSet 5 (dIte (dTst (dOp eqD (dVar 3) (dC (.int 7)))) (dLst (dCons (dC (.bl false)) (dCons (dC (.bl false)) (dCons (dC (.bl true)) (dCons (dC (.bl false)) (dCons (dC (.bl false)) (dNil))))))) (dLst (dCons (dC (.bl true)) (dCons (dC (.bl true)) (dCons (dC (.bl false)) (dCons (dC (.bl false)) (dCons (dC (.bl false)) (dNil))))))))) (inB K c)) ⟨nx, rt, bk, ct, xx⟩ s' M') := by
  repeat fail
  by_cases z : s = 7
  · subst z
    refine w_ifDt (by omega) ?_
    repeat fail
    rw [← abv7]
    exact both_k hC hs hm hd hv fun _ => h _ _ _ _
  · refine w_ifDf (by omega) ?_
    repeat fail
    rw [← abvn z]
    exact both_k hC hs hm hd hv fun _ => h _ _ _ _
theorem enm10 {d : D} : enmFrom 0 (prL c d) = (List.range 10).map fun (s : Nat) => D.tup [.int s, .tup [exq c s d, exq c s d]] := rfl
theorem loop_k (hC : CF K c) {d : D} {m : Nat} (hm : m ≤ 1000) (hd : RX m 9 d) (hv : ∀ M, vw M d = d) {x1 x2 : Option D} {M : Mem} {rt : QD} {nx bk ct : SD → Mem → Prop} {xx : XD} (h : ∀ x3 x4 x5 x6, nx [some d, x1, x2, x3, x4, x5, x6, none] M) :
    ∀ (L : List Nat) (x3 x4 x5 x6 : Option D), (∀ s ∈ L, s < 10) → sForL (gTp 2 (gCo (gNm 3) (gCo (gNm 4) (gNi)))) (sSeq (sSet 5 (dIte (dTst (dOp eqD (dVar 3) (dC (.int 7)))) (dLst (dCons (dC (.bl false)) (dCons (dC (.bl false)) (dCons (dC (.bl true)) (dCons (dC (.bl false)) (dCons (dC (.bl false)) (dNil))))))) (dLst (dCons (dC (.bl true)) (dCons (dC (.bl true)) (dCons (dC (.bl false)) (dCons (dC (.bl false)) (dCons (dC (.bl false)) (dNil))))))))) (inB K c)) ⟨nx, rt, bk, ct, xx⟩ (wat none M)
      (L.map fun (s : Nat) => D.tup [.int s, .tup [exq c s d, exq c s d]]) [some d, x1, x2, x3, x4, x5, x6, none] M
  | [], _, _, _, _, _ => w_forNil wat_none (h _ _ _ _)
  | s :: L, _, _, _, _, hL => by
    rw [List.map_cons]
    refine w_forCons wat_none ?_
    refine turn_k hC (hL s List.mem_cons_self) hm hd hv fun _ _ _ _ => ?_
    exact loop_k hC hm hd hv h L _ _ _ _ fun k hk => hL k (List.mem_cons_of_mem _ hk)
theorem lkA {a b : D} : ([("part" : Str), "number"].zip [b, a]).lookup ("number" : Str) = some a := by
  simp only [List.zip_cons_cons, List.zip_nil_right, List.lookup]
  rfl
theorem lkB {a b : D} : ([("part" : Str), "number"].zip [b, a]).lookup ("part" : Str) = some b := by
  simp only [List.zip_cons_cons, List.zip_nil_right, List.lookup]
  rfl
theorem rep10 : repL (10 : Int).toNat [D.bl false] = List.replicate 10 (.bl false) := rfl
theorem good_ok : eqO (.lst (mkL 1)) (.lst (List.replicate 10 (.bl false) ++ [.bl true])) = some true := by decide +kernel
theorem good_ab : eqO (.lst (abL 1)) (.lst [.bl true, .bl true, .bl false, .bl false, .bl false]) = some true := by decide +kernel
theorem good_k (hC : CF K c) {d e : D} {m : Nat} (hm : m ≤ 1000) (hd : RX m 9 d) (he : RX m 9 e) {x2 x3 x4 x5 x6 : Option D} {M : Mem} {rt : QD} {nx bk ct : SD → Mem → Prop} {xx : XD}
    (h : nx [some d, some e, x2, x3, x4, x5, some (.exn (c 1) ["part", "number"] [e, d]), none] M) :
    gNm 6 (.exn (c 1) ["part", "number"] [e, d]) xx [some d, some e, x2, x3, x4, x5, x6, none] M (fun s' M' =>
     (sSeq (sIf (tOrD (dTst (dOp neD (dCall (W_law_marks K c) [] (dCons (dVar 6) (dNil))) (dOp addD (dOp mulD (dLst (dCons (dC (.bl false)) (dNil))) (dC (.int 10))) (dLst (dCons (dC (.bl true)) (dNil)))))) (dTst (dOp neD (dCall (W_law_above K c) [] (dCons (dVar 6) (dNil))) (dLst (dCons (dC (.bl true)) (dCons (dC (.bl true)) (dCons (dC (.bl false)) (dCons (dC (.bl false)) (dCons (dC (.bl false)) (dNil)))))))))) (sRet (dC (.bl false))) (sNx)) (sIf (dTst (dOp neD (dCB reprX (dCons (dLst (dCons (dFd K "number" (dVar 6)) (dCons (dFd K "part" (dVar 6)) (dNil)))) (dNil))) (dCB reprX (dCons (dLst (dCons (dVar 0) (dCons (dVar 1) (dNil)))) (dNil))))) (sRet (dC (.bl false))) (sNx))) ⟨nx, rt, bk, ct, xx⟩ s' M') := by
  have r2 : RX (2 * (m + 2) + 3) 10 (.lst [d, e]) := rx_lst (xs := [d, e]) (fun x hx => by
    have : x = d ∨ x = e := by simpa using hx
    rcases this with rfl | rfl
    · exact hd
    · exact he) (Nat.le_of_ble_eq_true rfl)
  repeat fail
  refine marks_k hC (i := 1) (by decide) ?_
  repeat fail
  refine w_mulLI ⟨by decide, by decide, by show 1 * 10 ≤ sizeLine; decide⟩ ?_
  rw [rep10]
  repeat fail
  refine w_addL (by show 10 + 1 ≤ sizeLine; decide) ?_
  repeat fail
  refine w_neC good_ok rfl rfl ?_
  repeat fail
  refine above_k hC (i := 1) (by decide) ?_
  repeat fail
  refine w_neC good_ab rfl rfl ?_
  repeat fail
  refine w_fdK (fdok hC (by decide) (by simp [fds])) lkA ?_
  repeat fail
  refine w_fdK (fdok hC (by decide) (by simp [fds])) lkB ?_
  repeat fail
  refine w_reprX (x := .lst [d, e]) r2 rfl (by omega) (by decide) ?_
  repeat fail
  refine w_reprX (x := .lst [d, e]) r2 rfl (by omega) (by decide) ?_
  repeat fail
  refine w_neShX r2 ?_
  repeat fail
  exact h
theorem right_k (hC : CF K c) {d e : D} {m : Nat} (hm : m ≤ 1000) (hd : RX m 9 d) (he : RX m 9 e) (hv : ∀ M, vw M d = d) {M : Mem} {Q : QD} {Xd : XD} (h : Q (.bl true) M) : W_law_right K c [d, e] M Q Xd := by
  refine E_law_right ?_
  repeat fail
  refine pairs_k ?_
  repeat fail
  rw [enm10]
  refine loop_k hC hm hd hv (fun x3 x4 x5 x6 => ?_) _ _ _ _ _ fun s hs => List.mem_range.mp hs
  repeat fail
  simp only [rev2, revs]
  refine w_forCons wat_none ?_
  refine good_k hC hm hd he ?_
  refine w_forCons wat_none ?_
  refine good_k hC hm hd he ?_
  refine w_forNil wat_none ?_
  repeat fail
  exact lo_same h
end
end G_madeofhere_k01_errors
set_option maxHeartbeats 4000000
namespace G_madeofhere_k01_errors
open PySem PySem.Spec PyProof.Rows L2 DL MH
local macro_rules | `(tactic| fail) => `(tactic| first | with_reducible refine w_seq ?_ | with_reducible refine w_nx ?_ | with_reducible refine w_ret ?_ | with_reducible refine w_retN ?_ | with_reducible refine w_expr ?_ | with_reducible refine w_ifS ?_ | with_reducible refine w_asg ?_ | with_reducible refine w_augS ?_ | with_reducible refine w_for ?_ | with_reducible refine w_bk ?_ | with_reducible refine w_ct ?_ | with_reducible refine w_set0 ?_ | with_reducible refine w_set1 ?_ | with_reducible refine w_set2 ?_ | with_reducible refine w_set3 ?_ | with_reducible refine w_set4 ?_ | with_reducible refine w_set5 ?_ | with_reducible refine w_set6 ?_ | with_reducible refine w_set7 ?_ | with_reducible refine w_set8 ?_ | with_reducible refine w_set9 ?_ | with_reducible refine w_set10 ?_ | with_reducible refine w_set11 ?_ | with_reducible refine w_set12 ?_ | with_reducible refine w_set13 ?_ | with_reducible refine w_set14 ?_ | with_reducible refine w_set15 ?_ | with_reducible refine w_set16 ?_ | with_reducible refine w_set17 ?_ | with_reducible refine w_var0 ?_ | with_reducible refine w_var1 ?_ | with_reducible refine w_var2 ?_ | with_reducible refine w_var3 ?_ | with_reducible refine w_var4 ?_ | with_reducible refine w_var5 ?_ | with_reducible refine w_var6 ?_ | with_reducible refine w_var7 ?_ | with_reducible refine w_var8 ?_ | with_reducible refine w_var9 ?_ | with_reducible refine w_var10 ?_ | with_reducible refine w_var11 ?_ | with_reducible refine w_var12 ?_ | with_reducible refine w_var13 ?_ | with_reducible refine w_var14 ?_ | with_reducible refine w_var15 ?_ | with_reducible refine w_var16 ?_ | with_reducible refine w_var17 ?_ | with_reducible refine w_gnm0 ?_ | with_reducible refine w_gnm1 ?_ | with_reducible refine w_gnm2 ?_ | with_reducible refine w_gnm3 ?_ | with_reducible refine w_gnm4 ?_ | with_reducible refine w_gnm5 ?_ | with_reducible refine w_gnm6 ?_ | with_reducible refine w_gnm7 ?_ | with_reducible refine w_gnm8 ?_ | with_reducible refine w_gnm9 ?_ | with_reducible refine w_gnm10 ?_ | with_reducible refine w_gnm11 ?_ | with_reducible refine w_gnm12 ?_ | with_reducible refine w_gnm13 ?_ | with_reducible refine w_gnm14 ?_ | with_reducible refine w_gnm15 ?_ | with_reducible refine w_gnm16 ?_ | with_reducible refine w_gnm17 ?_ | with_reducible refine w_mk ?_ | with_reducible refine w_mkK ?_ | with_reducible refine w_mk0 ?_ | with_reducible refine w_fd ?_ | with_reducible refine w_raise ?_ | with_reducible refine w_raiseX ?_ | with_reducible refine w_try ?_ | with_reducible refine w_callX ?_ | with_reducible refine w_fzN ?_ | with_reducible refine w_gTp rfl ?_ | with_reducible refine w_gCo ?_ | with_reducible refine w_gNi ?_ | with_reducible refine w_gSb ?_ | with_reducible refine w_c ?_ | with_reducible refine w_op ?_ | with_reducible refine w_nil ?_ | with_reducible refine w_cons ?_ | with_reducible refine w_tup ?_ | with_reducible refine w_lst ?_ | with_reducible refine w_cb ?_ | with_reducible refine w_call ?_ | with_reducible refine w_ite ?_ | with_reducible refine w_and ?_ | with_reducible refine w_or ?_ | with_reducible refine w_not ?_ | with_reducible refine w_andT ?_ | with_reducible refine w_andF ?_ | with_reducible refine w_orT ?_ | with_reducible refine w_orF ?_ | with_reducible refine w_neg ?_ | with_reducible refine w_un ?_ | with_reducible refine w_tst ?_ | with_reducible refine w_tstB ?_ | with_reducible refine w_tru ?_ | with_reducible refine w_truB ?_ | with_reducible refine w_tAnd ?_ | with_reducible refine w_tOr ?_ | with_reducible refine w_tNot ?_ | with_reducible refine w_chain ?_ | with_reducible refine w_chT ?_ | with_reducible refine w_chF ?_ | with_reducible refine w_ifT ?_ | with_reducible refine w_ifF ?_ | with_reducible refine w_ifnT ?_ | with_reducible refine w_ifnF ?_ | with_reducible refine w_rvs ?_ | with_reducible refine w_yes ?_ | with_reducible refine w_iZip ?_ | with_reducible refine w_sg2 ?_ | with_reducible refine w_zipLL ?_ | with_reducible refine w_zipTT ?_ | with_reducible refine w_augY ?_ | with_reducible refine w_isiII ?_ | with_reducible refine w_isiIB ?_ | with_reducible refine w_isiSS ?_ | with_reducible refine w_isiTT ?_ | with_reducible refine w_isiIT ?_ | with_reducible refine w_isiIS ?_ | with_reducible refine w_isiSI ?_ | with_reducible refine w_isiSB ?_ | with_reducible refine w_isiST ?_ | with_reducible refine w_isiTI ?_ | with_reducible refine w_isiTB ?_ | with_reducible refine w_isiTS ?_ | with_reducible refine w_isiNI ?_ | with_reducible refine w_isiNS ?_ | with_reducible refine w_isiNT ?_ | with_reducible refine w_isiBI ?_ | with_reducible refine w_isiBB ?_ | with_reducible refine w_isiLT ?_ | with_reducible refine w_dRev ?_ | with_reducible refine w_revK ?_ | with_reducible refine w_lstRg ?_ | with_reducible refine w_par ?_ | with_reducible refine w_parK (by dsimp only [List.set] <;> rfl) ?_ | with_reducible refine w_sl ?_ | with_reducible refine w_slT ?_ | with_reducible refine w_slL ?_ | with_reducible refine w_oNo ?_ | with_reducible refine w_oSo ?_ | with_reducible refine w_oSoK ?_ | with_reducible refine w_prN ?_ | with_reducible refine w_prC ?_ | with_reducible refine w_addI ?_ | with_reducible refine w_subI ?_ | with_reducible refine w_lt ?_ | with_reducible refine w_le ?_ | with_reducible refine w_gt ?_ | with_reducible refine w_ge ?_ | with_reducible refine w_isN ?_ | with_reducible refine w_isnN ?_ | with_reducible refine w_eqI ?_ | with_reducible refine w_neI ?_ | with_reducible refine w_ixT0 ?_ | with_reducible refine w_ixT1 ?_ | with_reducible refine w_ixT2 ?_ | with_reducible refine w_ixT3 ?_ | with_reducible refine w_ixT4 ?_ | with_reducible refine w_ixT5 ?_ | with_reducible refine w_lenL ?_ | with_reducible refine w_lenT ?_ | with_reducible refine w_int ?_ | with_reducible refine w_intB ?_ | with_reducible refine w_abs ?_ | with_reducible refine w_listL ?_ | with_reducible refine w_listT ?_ | with_reducible refine w_tupL ?_ | with_reducible refine w_tupT ?_ | with_reducible refine w_int2 ?_ | with_reducible refine w_gcd ?_ | with_reducible refine w_app ?_ | with_reducible refine w_iSeq ?_ | with_reducible refine w_itemT ?_ | with_reducible refine w_itemL ?_ | with_reducible refine w_iRng ?_ | with_reducible refine w_iEnm ?_ | with_reducible refine w_sg1 ?_ | with_reducible refine w_iRev ?_ | with_reducible refine w_rg1 ?_ | with_reducible refine w_rg1K ?_ | with_reducible refine w_notB ?_)
section
variable {K : Fg} {c : Nat → Addr}
def someL : List D := [.non, .int 0, .int (-1), .bl true, .str "", .str "form", .tup [], .tup [.int 1, .int 2], .tup [.tup [.int 0, .int 1], .int 0], .lst [.int 1], .lst [.lst []], .dct [] [], .dct [.inr "a"] [.int 1], .int (10 ^ 30), .str "a b"]
theorem rx_some : ∀ x ∈ someL, RX 100 6 x := by
  intro x hx
  simp only [someL, List.mem_cons, List.not_mem_nil, or_false] at hx
  rcases hx with rfl | rfl | rfl | rfl | rfl | rfl | rfl | rfl | rfl | rfl | rfl | rfl | rfl | rfl | rfl <;> exact rxB_ok (by decide +kernel)
theorem vw_some : ∀ x ∈ someL, ∀ M, vw M x = x := by
  intro x hx M
  simp only [someL, List.mem_cons, List.not_mem_nil, or_false] at hx
  rcases hx with rfl | rfl | rfl | rfl | rfl | rfl | rfl | rfl | rfl | rfl | rfl | rfl | rfl | rfl | rfl <;> rfl
theorem loop2_k (hC : CF K c) {a : Addr} {cells : List Int} (hc : cells ≠ []) {x0 : D} {o4 o5 o6 : Option D} {rt : QD} {nx bk ct : SD → Mem → Prop} {xx : XD} {B : Int} (hB : B < 2 ^ 40) : ∀ (is : List D) (M : Mem) (o3 : Option D), is.length ≤ 100 → Dr a cells (B - 300 * is.length) M →
    (∀ (M : Mem) (o3 : Option D), Dr a cells B M → nx [some x0, some (.lst someL), some (.ref a), o3, o4, o5, o6] M) →
    sForL (gNm 3) (sSeq (sIf (tNotD (dTru (dCall (W_law_right K c) [] (dCons (dCall (W_law_of K c) [] (dCons (dVar 2) (dCons (dVar 1) (dNil)))) (dCons (dCall (W_law_of K c) [] (dCons (dVar 2) (dCons (dVar 1) (dNil)))) (dNil)))))) (sRet (dC (.bl false))) (sNx)) (sIf (tNotD (dTru (dCall (W_law_right K c) [] (dCons (dTup (dCons (dCall (W_law_draw K c) [] (dCons (dVar 2) (dCons (dC (.int 99)) (dNil)))) (dCons (dCall (W_law_of K c) [] (dCons (dVar 2) (dCons (dVar 1) (dNil)))) (dNil)))) (dCons (dCall (W_law_of K c) [] (dCons (dVar 2) (dCons (dVar 1) (dNil)))) (dNil)))))) (sRet (dC (.bl false))) (sNx))) ⟨nx, rt, bk, ct, xx⟩ (wat none M) is [some x0, some (.lst someL), some (.ref a), o3, o4, o5, o6] M
  | [], M, o3, hl, hD, h => w_forNil wat_none (h M o3 (hD.le (by simp)))
  | j :: is, M, o3, hl, hD, h => by
    rw [List.length_cons] at hl hD
    refine w_forCons wat_none ?_
    repeat fail
    refine of_k hc (by omega) (by simp [someL]) (by simp [someL]) hD fun d1 M1 hd1 hD1 hS1 => ?_
    repeat fail
    refine of_k hc (by omega) (by simp [someL]) (by simp [someL]) hD1 fun d2 M2 hd2 hD2 hS2 => ?_
    repeat fail
    refine right_k hC (m := 500) (by decide) ((rx_some d1 hd1).mono (by decide) (by decide)) ((rx_some d2 hd2).mono (by decide) (by decide)) (vw_some d1 hd1) ?_
    repeat fail
    refine draw_k hc (by decide) (by decide) (by omega) hD2 fun r M3 r0 r1 hD3 hS3 => ?_
    repeat fail
    refine of_k hc (by omega) (by simp [someL]) (by simp [someL]) hD3 fun d4 M4 hd4 hD4 hS4 => ?_
    repeat fail
    refine of_k hc (by omega) (by simp [someL]) (by simp [someL]) hD4 fun d5 M5 hd5 hD5 hS5 => ?_
    repeat fail
    have r4 : RX (2 * (100 + 2) + 3) 7 (.tup [.int r, d4]) := rx_tup (xs := [.int r, d4]) (fun x hx => by
      have : x = .int r ∨ x = d4 := by simpa using hx
      rcases this with rfl | rfl
      · exact (rx_int (by omega)).mono (by decide) (by decide)
      · exact rx_some _ hd4) (Nat.le_of_ble_eq_true rfl)
    refine right_k hC (m := 500) (by decide) (r4.mono (by decide) (by decide)) ((rx_some d5 hd5).mono (by decide) (by decide)) (fun _ => rfl) ?_
    repeat fail
    exact loop2_k hC hc hB is M5 _ (by omega) (hD5.le (by omega)) h
theorem plain_ab : eqO (.lst (abL 0)) (.lst [.bl true, .bl true, .bl false, .bl false, .bl false]) = some true := by decide +kernel
theorem plain_ok : eqO (.lst (mkL 0)) (.lst (List.replicate 11 (.bl false))) = some true := by decide +kernel
theorem rep11 : repL (11 : Int).toNat [D.bl false] = List.replicate 11 (.bl false) := rfl
theorem law_k (hC : CF K c) {ns : List Int} (hl : ns.length ≤ 63) {M : Mem} {Q : QD} {Xd : XD} (h : ∀ M', Q (.bl true) M') : Wlaw K c [.fzn (ns.map D.int)] M Q Xd := by
  refine Elaw ?_
  repeat fail
  refine w_fz1 ?_
  repeat fail
  refine w_powI ⟨by decide, by decide, by decide⟩ ?_
  repeat fail
  have e10 : (D.int ((10 : Int) ^ (30 : Int).toNat)) = .int (10 ^ 30) := rfl
  rw [e10]
  refine begun_k (by omega) fun a M1 cells hc hD hS => ?_
  repeat fail
  refine w_lenF ?_
  repeat fail
  refine w_rng1 (by split <;> omega) ?_
  refine loop2_k hC hc (x0 := .fzn (ns.map D.int)) (B := 300 * 100) (by decide) _ _ _ ?_ (hD.le ?_) fun M2 o3 hD2 => ?_
  · unfold rngL
    rw [List.length_map, List.length_range]
    split <;> omega
  · unfold rngL
    rw [List.length_map, List.length_range]
    split <;> omega
  repeat fail
  intro p hp
  repeat fail
  refine w_xclY (e := by
    refine (exm_list hC.kf (i := 1) (by decide) [0] (by decide)).trans (congrArg some (by decide))) ?_
  dsimp only [List.set]
  repeat fail
  refine w_appO Mem.put_same ?_
  repeat fail
  refine w_appK Mem.put_same (by show 0 < sizeLine; decide) ?_
  repeat fail
  dsimp only [List.set]
  repeat fail
  refine above_k hC (i := 0) (by decide) ?_
  repeat fail
  refine w_neC plain_ab rfl rfl ?_
  repeat fail
  refine marks_k hC (i := 0) (by decide) ?_
  repeat fail
  refine w_mulLI ⟨by decide, by decide, by show 1 * 11 ≤ sizeLine; decide⟩ ?_
  rw [rep11]
  refine w_eqC plain_ok rfl rfl ?_
  repeat fail
  refine w_lenR Mem.put_same ?_
  repeat fail
  have e1 : decide ((([] ++ [D.exn (c 1) [("part" : Str), "number"] [D.int 0, D.str "form"].reverse]).length : Int) = 1) = true := rfl
  rw [e1]
  exact lo_same (h _)
theorem law_d (K : Fg) (c : Nat → Addr) (hC : CF K c) : DL.LawD 63 (Wlaw K c) := fun ns hl => law_k hC hl fun _ => rfl
end
end G_madeofhere_k01_errors
theorem PySem.Challenge.cw_madeofhere_k01_errors_holds : PySem.Challenge.rw_madeofhere_k01_errors.Holds := by
  exact G_madeofhere_k01_errors.from_data G_madeofhere_k01_errors.law_d
