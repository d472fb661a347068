import PyProof.Rows.All
import Wide.All
import OpenK.AllK
import Wide.FinOn
import HandS.ForMost
import HandS.Exc
import HandS.IsInst
import HandS.WordsExc
import HandS.ExcInit
import HandS.ExcValue
import HandS.Lambda
import HandS.TupAny
import HandS.TupMul
import HandS.Wide
import HandS.Gcd
import HandS.Flow
import PyProof.StrBlock2
import HandS.Style
import HandS.Comp
import HandS.Iter
import HandS.RevRange
import KE.KMathGC
import PyProof.Rows.ReprR
import HandS.ExcField
import HandS.ExcIs
import KE.KExcInit
import HandS.Zip
import HandS.Star
import HandS.Ends
import HandS.More
import HandS.Words
import HandS.Defaults
import HandS.Head0
import HandS.Head1
import HandS.Head2
import HandS.HeadEnd
import HandS.HeadHook1
import HandS.HeadHook2
import KE.GoesMore
import PyProof.EnumMake
import PyProof.Draws
import HandS.TryOnly
import PyProof.CollectIter
import HandS.List
import HandS.Call
import KE.KTryMore
import PyProof.ReprRoads
import PyProof.ReprReads
import HandS.HotCalls
import KE.GoesZip
import KE.KDictZip
import PyProof.ListNew
import KE.SortData
import HandS.Rev
import PyProof.EqAt
import PyProof.NeKinds
import KE.KRevSl
import HandS.HeadHook3
import HandS.HeadHook4
import HandS.EndTab
import HandS.Head3
import PyProof.ReprLen
import PyProof.Rows.ReprOcc
import PySem.Challenge.RW_madeofhere_k02_whole_goods_judged
set_option Elab.async false
set_option linter.all false
set_option maxRecDepth 100000
set_option maxHeartbeats 1000000
namespace DL
open PySem PySem.Spec PyProof.Rows L2
/-! ### data -/
/-- a value as data: what is immutable (or never changed any more) is told whole; what is owned (still changed) is a reference -/
inductive D where
  | non | bl (b : Bool) | int (i : Int) | str (x : Str) | ref (a : Addr) | ty (n : String)
  | tup (ds : List D) | lst (ds : List D) | fzn (ds : List D) | dct (ks : List Key) (ds : List D) | exn (C : Addr) (ns : List Str) (ds : List D) | kdt (ks : List (List Int)) (ds : List D) | lam (f cc : Addr) (q : Str) (σ : L2.St) (js : List Nat) (ds : List D)
  deriving Inhabited
/-- what stands at an owned address -/
inductive MO where
  | lst (ds : List D) | dct (ks : List Key) (ds : List D) | ins (C : Addr) (ns : List Str) (ds : List D) | gen (φ : List V → HO) (ds : List D) | tab (q : Str)
abbrev Mem := Addr → Option MO
abbrev Fg := PySem.W.Frag
/-- a list of the written part -/
def KL (K : Fg) (a : Addr) (xs : List V) : Prop := ∃ (o : Obj) (its : Array Value) (n : Nat), K.lookup a = some o ∧ o.cls = .type "list" ∧ o.dict = none ∧ o.data = .seq its n ∧ its.size ≤ sizeLine ∧ Vals xs its.toList
def KT (K : Fg) (a : Addr) (xs : List V) : Prop := ∃ (o : Obj) (its : Array Value) (n : Nat), K.lookup a = some o ∧ o.cls = .type "tuple" ∧ o.data = .seq its n ∧ its.size ≤ sizeLine ∧ Vals xs its.toList
/-- read, and not owned -/
def RL (K : Fg) (H : Hp) (M : Mem) (a : Addr) (xs : List V) : Prop := (L2.Rd H a (.lst xs) ∧ M a = none) ∨ KL K a xs
def RT (K : Fg) (H : Hp) (M : Mem) (a : Addr) (xs : List V) : Prop := (L2.Rd H a (.tup xs) ∧ M a = none) ∨ KT K a xs
theorem RL.sq {K : Fg} {H : Hp} {M : Mem} {a : Addr} {xs : List V} (h : RL K H M a xs) : SqL K H a xs := h.elim (fun h => .inl h.1) .inr
theorem RT.sq {K : Fg} {H : Hp} {M : Mem} {a : Addr} {xs : List V} (h : RT K H M a xs) : SqT K H a xs := h.elim (fun h => .inl h.1) .inr
/-- a caught exception of the class C with its dict at dx -/
def exc (a C dx : Addr) : HO := .ext fun h => ∃ (oe : Obj) (vs : Array Value), h.get? a = some oe ∧ Zc (.ref C) (some dx) oe ∧ oe.data = .fields vs
/-- an exception, held since it was made, or caught -/
def ExAt (H : Hp) (a C dx : Addr) : Prop := H a = some (exo a C (some dx)) ∨ H a = some (exc a C dx)
/-- its fields -/
def EdAt (H : Hp) (dx : Addr) (fs : List (Str × V)) : Prop := H dx = some (exd dx fs) ∨ H dx = some (.xd fs)
/-- a dict whose keys are tuples of ints, never changed: its one object -/
structure KdOk (a : Addr) (o : Obj) (es : Array DictEntry) (ep : Nat) (ks : List (List Int)) (qs : List Addr) (us : List Value) : Prop where
  sys : (a == sysModules) = false
  ex : o.ExactDict
  dat : o.data = .dict es ep
  ent : ∀ (P : Program) (w : World), es.toList = (ks.zip (qs.zip us)).map (entryOfKey (tupleKind (PySem.intKind P w)))
  nd : ks.Nodup
  lq : qs.length = ks.length
  sz : ks.length ≤ sizeLine
inductive KdKeys (K : Fg) (H : Hp) (M : Mem) : List (List Int) → List Addr → Prop
  | nil : KdKeys K H M [] []
  | cons {k : List Int} {q : Addr} {ks : List (List Int)} {qs : List Addr} (h : RT K H M q (k.map V.int)) (r : KdKeys K H M ks qs) : KdKeys K H M (k :: ks) (q :: qs)
/-- what a lambda's free names hold -/
def Caught (σ : L2.St) (js : List Nat) (xs : List V) : Prop := ∀ (i j : Nat) (x : V), js[i]? = some j → xs[i]? = some x → σ[j]? = some (some x)
mutual
/-- the value v reads as the data d -/
def Rv (K : Fg) (H : Hp) (M : Mem) : D → V → Prop
  | .non, v => v = .non
  | .bl b, v => v = .bl b
  | .int i, v => v = .int i
  | .str x, v => v = .str x
  | .ref a, v => v = .ref a
  | .ty n, v => v = .ty n
  | .tup ds, v => ∃ a xs, v = .ref a ∧ RT K H M a xs ∧ Rs K H M ds xs
  | .lst ds, v => ∃ a xs, v = .ref a ∧ H a = some (.lst xs) ∧ M a = none ∧ Rs K H M ds xs
  | .fzn ds, v => ∃ a xs, v = .ref a ∧ RL K H M a xs ∧ Rs K H M ds xs
  | .dct ks ds, v => ∃ a kvs xs, v = .ref a ∧ H a = some (.dK kvs) ∧ M a = none ∧ kvs = ks.zip xs ∧ ks.length = ds.length ∧ Rs K H M ds xs
  | .exn C ns ds, v => (∃ a dx xs, v = .ref a ∧ ExAt H a C dx ∧ M a = none ∧ EdAt H dx (ns.zip xs) ∧ M dx = none ∧ ns.length = ds.length ∧ Rs K H M ds xs) ∨ (ns = [] ∧ ds = [] ∧ ∃ a, v = .ref a ∧ H a = some (ExO (.ref C) a) ∧ M a = none)
  | .kdt ks ds, v => ∃ (a : Addr) (o : Obj) (es : Array DictEntry) (ep : Nat) (qs : List Addr) (us : List Value) (xs : List V), v = .ref a ∧ H a = some (.ext fun h => h.get? a = some o) ∧ M a = none ∧ KdOk a o es ep ks qs us ∧ KdKeys K H M ks qs ∧ ks.length = ds.length ∧ Vals xs us ∧ Rs K H M ds xs
  | .lam f cc q σ js ds, v => v = .ref f ∧ H cc = some (LamX.CodeO cc q) ∧ M cc = none ∧ js.length = ds.length ∧ ∃ xs, Caught σ js xs ∧ Rs K H M ds xs
def Rs (K : Fg) (H : Hp) (M : Mem) : List D → List V → Prop
  | [], vs => vs = []
  | d :: ds, vs => ∃ v r, vs = v :: r ∧ Rv K H M d v ∧ Rs K H M ds r
end
/-- a table of code objects, owned by the def that makes lambdas -/
def TabAt (H : Hp) (M : Mem) (a : Addr) (q : Str) : Prop := ∃ ps : Array Value, H a = some (.tbl ps) ∧ TriplesOk ps.toList ∧ ∀ (pos : Pos) (cv : Value), codeAmong pos ps.toList = some cv → ∃ cc, cv = .ref cc ∧ H cc = some (LamX.CodeO cc q) ∧ M cc = none
/-- what is owned stands so -/
def MObj (K : Fg) (H : Hp) (M : Mem) (a : Addr) : MO → Prop
  | .lst ds => ∃ xs, H a = some (.lst xs) ∧ Rs K H M ds xs
  | .dct ks ds => ∃ xs, H a = some (.dK (ks.zip xs)) ∧ ks.length = ds.length ∧ Rs K H M ds xs
  | .ins C ns ds => ∃ dx xs, H a = some (.ins C dx (ns.zip xs)) ∧ ns.length = ds.length ∧ H dx = some (.own a) ∧ M dx = none ∧ Rs K H M ds xs
  | .gen _ _ => False
  | .tab q => TabAt H M a q
def MOk (K : Fg) (H : Hp) (M : Mem) : Prop := ∀ a o, M a = some o → MObj K H M a o
/-- what was tracked and not owned stands as it was, not owned -/
def NoT (o : HO) : Prop := ∀ ps, o ≠ .tbl ps
def Gw (H : Hp) (M : Mem) (H' : Hp) (M' : Mem) : Prop := ∀ a o, H a = some o → M a = none → NoT o → H' a = some o ∧ M' a = none
theorem Gw.at {H H' : Hp} {M M' : Mem} {a : Addr} {o : HO} (g : Gw H M H' M') (h : H a = some o) (m : M a = none) (n : NoT o := by intro ps z; cases z) : H' a = some o ∧ M' a = none := g a o h m n
theorem TabAt.keep {H H' : Hp} {M M' : Mem} {a : Addr} {q : Str} (h : TabAt H M a q) (ha : H' a = H a) (g : Gw H M H' M') : TabAt H' M' a q := by
  obtain ⟨ps, h1, h2, h3⟩ := h
  refine ⟨ps, ha.trans h1, h2, fun pos cv hc => ?_⟩
  obtain ⟨cc, e, z1, z2⟩ := h3 pos cv hc
  exact ⟨cc, e, g.at z1 z2 LamX.codeO_ne⟩
theorem Gw.refl {H : Hp} {M : Mem} : Gw H M H M := fun _ _ h m _ => ⟨h, m⟩
theorem Gw.trans {H H1 H2 : Hp} {M M1 M2 : Mem} (a : Gw H M H1 M1) (b : Gw H1 M1 H2 M2) : Gw H M H2 M2 := fun x o h m n => b x o (a x o h m n).1 (a x o h m n).2 n
section
variable {K : Fg} {H H' : Hp} {M M' : Mem}
theorem Gw.rd {a : Addr} {u : HO} (g : Gw H M H' M') (h : L2.Rd H a u) (m : M a = none) (n : NoT u := by intro ps z; cases z) : L2.Rd H' a u ∧ M' a = none := by
  rcases h with h | ⟨o, h⟩
  · exact ⟨.inl (g.at h m n).1, (g.at h m n).2⟩
  · exact ⟨.inr ⟨o, (g.at h m).1⟩, (g.at h m).2⟩
theorem Gw.ex {a C dx : Addr} (g : Gw H M H' M') (h : ExAt H a C dx) (m : M a = none) : ExAt H' a C dx ∧ M' a = none := by
  rcases h with h | h
  · exact ⟨.inl (g.at h m).1, (g.at h m).2⟩
  · exact ⟨.inr (g.at h m).1, (g.at h m).2⟩
theorem Gw.ed {dx : Addr} {fs : List (Str × V)} (g : Gw H M H' M') (h : EdAt H dx fs) (m : M dx = none) : EdAt H' dx fs ∧ M' dx = none := by
  rcases h with h | h
  · exact ⟨.inl (g.at h m).1, (g.at h m).2⟩
  · exact ⟨.inr (g.at h m).1, (g.at h m).2⟩
theorem Gw.rl {a : Addr} {xs : List V} (g : Gw H M H' M') (h : RL K H M a xs) : RL K H' M' a xs := by
  rcases h with ⟨h, m⟩ | h
  · exact .inl (g.rd h m)
  · exact .inr h
theorem Gw.rt {a : Addr} {xs : List V} (g : Gw H M H' M') (h : RT K H M a xs) : RT K H' M' a xs := by
  rcases h with ⟨h, m⟩ | h
  · exact .inl (g.rd h m)
  · exact .inr h
theorem KdKeys.grow {ks : List (List Int)} {qs : List Addr} (h : KdKeys K H M ks qs) (g : Gw H M H' M') : KdKeys K H' M' ks qs := by
  induction h with
  | nil => exact .nil
  | cons h _ ih => exact .cons (g.rt h) ih
mutual
theorem Rv.grow (g : Gw H M H' M') : ∀ (d : D) (v : V), Rv K H M d v → Rv K H' M' d v
  | .non, v, h => h
  | .bl b, v, h => h
  | .int i, v, h => h
  | .str x, v, h => h
  | .ref a, v, h => h
  | .ty n, v, h => h
  | .tup ds, v, ⟨a, xs, e, r, q⟩ => ⟨a, xs, e, g.rt r, Rs.grow g ds xs q⟩
  | .lst ds, v, ⟨a, xs, e, r, m, q⟩ => ⟨a, xs, e, (g.at r m).1, (g.at r m).2, Rs.grow g ds xs q⟩
  | .fzn ds, v, ⟨a, xs, e, r, q⟩ => ⟨a, xs, e, g.rl r, Rs.grow g ds xs q⟩
  | .dct ks ds, v, ⟨a, kvs, xs, e, r, m, z, l, q⟩ => ⟨a, kvs, xs, e, (g.at r m).1, (g.at r m).2, z, l, Rs.grow g ds xs q⟩
  | .kdt ks ds, v, ⟨a, o, es, ep, qs, us, xs, e, r, m, z, y, l, vv, q⟩ => ⟨a, o, es, ep, qs, us, xs, e, (g.at r m).1, (g.at r m).2, z, y.grow g, l, vv, Rs.grow g ds xs q⟩
  | .lam f cc q σ js ds, v, ⟨e, h1, h2, l, xs, cx, r⟩ => ⟨e, (g.at h1 h2 (LamX.codeO_ne)).1, (g.at h1 h2 (LamX.codeO_ne)).2, l, xs, cx, Rs.grow g ds xs r⟩
  | .exn C ns ds, v, .inl ⟨a, dx, xs, e, r, m, r2, m2, l, q⟩ => .inl ⟨a, dx, xs, e, (g.ex r m).1, (g.ex r m).2, (g.ed r2 m2).1, (g.ed r2 m2).2, l, Rs.grow g ds xs q⟩
  | .exn C ns ds, v, .inr ⟨e1, e2, a, e, r, m⟩ => .inr ⟨e1, e2, a, e, (g.at r m).1, (g.at r m).2⟩
theorem Rs.grow (g : Gw H M H' M') : ∀ (ds : List D) (vs : List V), Rs K H M ds vs → Rs K H' M' ds vs
  | [], vs, h => h
  | d :: ds, vs, ⟨v, r, e, h, q⟩ => ⟨v, r, e, Rv.grow g d v h, Rs.grow g ds r q⟩
end
theorem Rs.len : ∀ {ds : List D} {vs : List V}, Rs K H M ds vs → ds.length = vs.length
  | [], vs, h => by
    have e : vs = [] := h
    rw [e]; rfl
  | d :: ds, vs, ⟨v, r, e, h, q⟩ => by
    rw [e, List.length_cons, List.length_cons, Rs.len q]
theorem Rs.get : ∀ {ds : List D} {vs : List V} {i : Nat} {d : D}, Rs K H M ds vs → ds[i]? = some d → ∃ v, vs[i]? = some v ∧ Rv K H M d v
  | [], _, _, _, _, e => by simp at e
  | d :: ds, _, 0, _, ⟨v, r, rfl, h, q⟩, e => by
    simp at e; subst e; exact ⟨v, rfl, h⟩
  | d :: ds, _, i + 1, _, ⟨v, r, rfl, h, q⟩, e => by
    obtain ⟨w, e1, e2⟩ := Rs.get (i := i) q (by simpa using e)
    exact ⟨w, by simpa using e1, e2⟩
theorem Rs.nil : Rs K H M [] [] := rfl
theorem Rs.cons {d : D} {v : V} {ds : List D} {vs : List V} (h : Rv K H M d v) (q : Rs K H M ds vs) : Rs K H M (d :: ds) (v :: vs) := ⟨v, vs, rfl, h, q⟩
theorem Rs.append : ∀ {ds es : List D} {vs ws : List V}, Rs K H M ds vs → Rs K H M es ws → Rs K H M (ds ++ es) (vs ++ ws)
  | [], _, vs, _, h, q => by
    have e : vs = [] := h
    subst e
    exact q
  | d :: ds, _, _, _, ⟨v, r, rfl, h, q⟩, z => Rs.cons h (Rs.append q z)
theorem Rs.drop : ∀ {ds : List D} {vs : List V} (n : Nat), Rs K H M ds vs → Rs K H M (ds.drop n) (vs.drop n)
  | _, _, 0, h => h
  | [], vs, n + 1, h => by
    have e : vs = [] := h
    subst e; rfl
  | d :: ds, _, n + 1, ⟨v, r, rfl, h, q⟩ => Rs.drop n q
theorem Rs.take : ∀ {ds : List D} {vs : List V} (n : Nat), Rs K H M ds vs → Rs K H M (ds.take n) (vs.take n)
  | _, _, 0, h => rfl
  | [], vs, n + 1, h => by
    have e : vs = [] := h
    subst e; rfl
  | d :: ds, _, n + 1, ⟨v, r, rfl, h, q⟩ => Rs.cons h (Rs.take n q)
theorem Rs.reverse : ∀ {ds : List D} {vs : List V}, Rs K H M ds vs → Rs K H M ds.reverse vs.reverse
  | [], vs, h => by
    have e : vs = [] := h
    subst e; rfl
  | d :: ds, _, ⟨v, r, rfl, h, q⟩ => by
    rw [List.reverse_cons, List.reverse_cons]
    exact Rs.append (Rs.reverse q) (Rs.cons h Rs.nil)
theorem Rs.set {d : D} {v : V} (h : Rv K H M d v) : ∀ {ds : List D} {vs : List V} (i : Nat), Rs K H M ds vs → Rs K H M (ds.set i d) (vs.set i v)
  | [], vs, _, q => by
    have e : vs = [] := q
    subst e; rfl
  | _ :: _, _, 0, ⟨_, _, rfl, _, q⟩ => Rs.cons h q
  | _ :: _, _, i + 1, ⟨_, _, rfl, h', q⟩ => Rs.cons h' (Rs.set h i q)
end
/-! ### the states -/
abbrev SD := List (Option D)
structure StOk (K : Fg) (σ : L2.St) (H : Hp) (s : SD) (M : Mem) : Prop where
  len : s.length = σ.length
  sl : ∀ (i : Nat) (d : D), s[i]? = some (some d) → ∃ v, σ[i]? = some (some v) ∧ Rv K H M d v
  mem : MOk K H M
theorem StOk.grow {K : Fg} {σ : L2.St} {H H' : Hp} {s : SD} {M M' : Mem} (S : StOk K σ H s M) (g : Gw H M H' M') (m : MOk K H' M') : StOk K σ H' s M' :=
  ⟨S.len, fun i d e => let ⟨v, e1, e2⟩ := S.sl i d e; ⟨v, e1, Rv.grow g d v e2⟩, m⟩
theorem StOk.set {K : Fg} {σ : L2.St} {H : Hp} {s : SD} {M : Mem} {d : D} {v : V} (S : StOk K σ H s M) (i : Nat) (r : Rv K H M d v) : StOk K (σ.set i (some v)) H (s.set i (some d)) M := by
  refine ⟨by rw [List.length_set, List.length_set]; exact S.len, fun j e h => ?_, S.mem⟩
  by_cases hj : j = i
  · subst hj
    by_cases hl : j < s.length
    · rw [List.getElem?_set_self hl] at h
      cases h
      exact ⟨v, List.getElem?_set_self (by rw [← S.len]; exact hl), r⟩
    · rw [List.getElem?_eq_none (by rw [List.length_set]; omega)] at h
      cases h
  · rw [List.getElem?_set_ne (Ne.symm hj)] at h
    obtain ⟨w, e1, e2⟩ := S.sl j e h
    exact ⟨w, by rw [List.getElem?_set_ne (Ne.symm hj)]; exact e1, e2⟩
/-- what is wanted of an exception: its class, its fields -/
abbrev XD := Addr → List Str → List D → Mem → Prop
abbrev QD := D → Mem → Prop
abbrev TED := XD → SD → Mem → QD → Prop
abbrev TTD := XD → SD → Mem → (Bool → Mem → Prop) → Prop
abbrev TAD := XD → SD → Mem → (List D → Mem → Prop) → Prop
structure EndsD where
  nx : SD → Mem → Prop
  rt : QD
  bk : SD → Mem → Prop
  ct : SD → Mem → Prop
  ex : XD
abbrev TSD := EndsD → SD → Mem → Prop
def upE (K : Fg) (H : Hp) (M : Mem) (Q : QD) : VK := fun v H' => ∃ d M', Gw H M H' M' ∧ MOk K H' M' ∧ Rv K H' M' d v ∧ Q d M'
def upT (K : Fg) (H : Hp) (M : Mem) (Q : Bool → Mem → Prop) : Bool → Hp → Prop := fun b H' => ∃ M', Gw H M H' M' ∧ MOk K H' M' ∧ Q b M'
def upA (K : Fg) (H : Hp) (M : Mem) (Q : List D → Mem → Prop) : List V → Hp → Prop := fun vs H' => ∃ ds M', Gw H M H' M' ∧ MOk K H' M' ∧ Rs K H' M' ds vs ∧ Q ds M'
def upS (K : Fg) (H : Hp) (M : Mem) (Q : SD → Mem → Prop) : L2.St → Hp → Prop := fun σ' H' => ∃ s' M', Gw H M H' M' ∧ StOk K σ' H' s' M' ∧ Q s' M'
def upX (K : Fg) (H : Hp) (M : Mem) (Q : XD) : XK := fun c od H' => ∃ C d ns xs ds M', c = .ref C ∧ od = some d ∧ H' d = some (.xd (ns.zip xs)) ∧ M' d = none ∧ ns.length = ds.length ∧ Rs K H' M' ds xs ∧ Gw H M H' M' ∧ MOk K H' M' ∧ Q C ns ds M'
/-- the wish about exceptions of the data stands over that of the heap -/
def XTo (K : Fg) (H : Hp) (M : Mem) (Xd : XD) (E : XK) : Prop := ∀ c od H', upX K H M Xd c od H' → E c od H'
theorem XTo.grow {K : Fg} {H H' : Hp} {M M' : Mem} {Xd : XD} {E : XK} (x : XTo K H M Xd E) (g : Gw H M H' M') : XTo K H' M' Xd E := fun c od H2 ⟨C, d, ns, xs, ds, M2, a1, a2, a3, a4, a5, a6, a7, a8, a9⟩ =>
  x c od H2 ⟨C, d, ns, xs, ds, M2, a1, a2, a3, a4, a5, a6, g.trans a7, a8, a9⟩
def liftE (K : Fg) (E : XK) (t : TED) : TE := fun σ H Q => ∃ s M Qd Xd, StOk K σ H s M ∧ XTo K H M Xd E ∧ t Xd s M Qd ∧ ∀ v H', upE K H M Qd v H' → Q v H'
def liftT (K : Fg) (E : XK) (t : TTD) : TT := fun σ H Q => ∃ s M Qd Xd, StOk K σ H s M ∧ XTo K H M Xd E ∧ t Xd s M Qd ∧ ∀ v H', upT K H M Qd v H' → Q v H'
def liftS (K : Fg) (E : XK) (t : TSD) : TS := fun Z σ H => ∃ s M Y, StOk K σ H s M ∧ XTo K H M Y.ex E ∧ t Y s M ∧ (∀ σ' H', upS K H M Y.nx σ' H' → Z.nx σ' H') ∧ (∀ v H', upE K H M Y.rt v H' → Z.rt v H') ∧
  (∀ σ' H', upS K H M Y.bk σ' H' → Z.bk σ' H') ∧ (∀ σ' H', upS K H M Y.ct σ' H' → Z.ct σ' H')
structure DE (X : Cx) (E : XK) (e : Expr) (t : TED) : Prop where
  ok : PE X e (liftE X.K E t)
structure DT (X : Cx) (E : XK) (e : Expr) (t : TTD) : Prop where
  ok : PT X e (liftT X.K E t)
structure DS (X : Cx) (E : XK) (st : Stmt) (t : TSD) : Prop where
  ok : PS X st (liftS X.K E t)
structure DSs (X : Cx) (E : XK) (st : List Stmt) (t : TSD) : Prop where
  ok : PSs X st (liftS X.K E t)
section
variable {X : Cx} {e : Expr}
theorem PE.imp {t t' : TE} (h : PE X e t) (i : ∀ σ H Q, t' σ H Q → t σ H Q) : PE X e t' := ⟨fun pins s σ H Q I q => h.run pins s σ H Q I (i σ H Q q)⟩
theorem PT.imp {t t' : TT} (h : PT X e t) (i : ∀ σ H Q, t' σ H Q → t σ H Q) : PT X e t' := ⟨fun pins s σ H Q I q => h.run pins s σ H Q I (i σ H Q q)⟩
theorem PW.imp {t t' : TT} (h : PW X e t) (i : ∀ σ H Q, t' σ H Q → t σ H Q) : PW X e t' := ⟨fun wh pins s σ H Q I q => h.run wh pins s σ H Q I (i σ H Q q)⟩
theorem PA.imp {es : List Expr} {t t' : TA} (h : PA X es t) (i : ∀ σ H Q, t' σ H Q → t σ H Q) : PA X es t' := ⟨fun pos pins s σ H Q I q => h.run pos pins s σ H Q I (i σ H Q q)⟩
theorem PS.imp {st : Stmt} {t t' : TS} (h : PS X st t) (i : ∀ Z σ H, t' Z σ H → t Z σ H) : PS X st t' := ⟨fun pins s σ H Z I q => h.run pins s σ H Z I (i Z σ H q)⟩
theorem PSs.imp {st : List Stmt} {t t' : TS} (h : PSs X st t) (i : ∀ Z σ H, t' Z σ H → t Z σ H) : PSs X st t' := ⟨fun pins s σ H Z I q => h.run pins s σ H Z I (i Z σ H q)⟩
end
/-- use of a lifted reading from a state of data -/
theorem useE {K : Fg} {E : XK} {t : TED} {σ : L2.St} {H : Hp} {s : SD} {M : Mem} {Xd : XD} {Qd : QD} {Q : VK} (S : StOk K σ H s M) (x : XTo K H M Xd E) (h : t Xd s M Qd)
    (q : ∀ d v M' H', Gw H M H' M' → StOk K σ H' s M' → XTo K H' M' Xd E → Rv K H' M' d v → Qd d M' → Q v H') : liftE K E t σ H Q :=
  ⟨s, M, Qd, Xd, S, x, h, fun v H' ⟨d, M', g, m, r, z⟩ => q d v M' H' g (S.grow g m) (x.grow g) r z⟩
theorem useT {K : Fg} {E : XK} {t : TTD} {σ : L2.St} {H : Hp} {s : SD} {M : Mem} {Xd : XD} {Qd : Bool → Mem → Prop} {Q : Bool → Hp → Prop} (S : StOk K σ H s M) (x : XTo K H M Xd E) (h : t Xd s M Qd)
    (q : ∀ b M' H', Gw H M H' M' → StOk K σ H' s M' → XTo K H' M' Xd E → Qd b M' → Q b H') : liftT K E t σ H Q :=
  ⟨s, M, Qd, Xd, S, x, h, fun v H' ⟨M', g, m, z⟩ => q v M' H' g (S.grow g m) (x.grow g) z⟩
end DL
set_option maxHeartbeats 1000000
namespace DL
open PySem PySem.Spec PyProof.Rows L2
/-- an owned list or dict as it stands -/
def vwO (a : Addr) : Option MO → D
  | some (.lst ds) => .lst ds
  | some (.dct ks ds) => .dct ks ds
  | some (.ins _ _ _) => .ref a
  | some (.gen _ _) => .ref a
  | some (.tab _) => .ref a
  | none => .ref a
def vw (M : Mem) : D → D
  | .ref a => vwO a (M a)
  | d => d
theorem vw_ref {M : Mem} {a : Addr} : vw M (.ref a) = vwO a (M a) := rfl
section
variable {K : Fg} {H : Hp} {M : Mem} {v : V}
theorem Rv.non (h : Rv K H M .non v) : v = .non := h
theorem vw_lst {d : D} {ds : List D} (mo : MOk K H M) (r : Rv K H M d v) (e : vw M d = .lst ds) : ∃ a xs, v = .ref a ∧ H a = some (.lst xs) ∧ Rs K H M ds xs := by
  cases d with
  | lst es =>
    have e' : es = ds := by simpa [vw] using e
    subst e'
    obtain ⟨a, xs, h1, h2, _, h3⟩ := r
    exact ⟨a, xs, h1, h2, h3⟩
  | ref a =>
    have r' : v = .ref a := r
    rw [vw_ref] at e
    cases q : M a with
    | none => rw [q] at e; cases e
    | some o =>
      rw [q] at e
      cases o with
      | lst es =>
        have e' : es = ds := by simpa [vwO] using e
        subst e'
        obtain ⟨xs, h2, h3⟩ := mo a _ q
        exact ⟨a, xs, r', h2, h3⟩
      | dct ks es => cases e
      | ins C ns es => cases e
      | gen φ es => cases e
      | tab q => cases e
  | _ => cases e
theorem vw_tup {d : D} {ds : List D} (r : Rv K H M d v) (e : vw M d = .tup ds) : ∃ a xs, v = .ref a ∧ RT K H M a xs ∧ Rs K H M ds xs := by
  cases d with
  | tup es =>
    have e' : es = ds := by simpa [vw] using e
    subst e'
    exact r
  | ref a =>
    rw [vw_ref] at e
    cases q : M a with
    | none => rw [q] at e; cases e
    | some o => rw [q] at e; cases o <;> cases e
  | _ => cases e
theorem vw_fzn {d : D} {ds : List D} (r : Rv K H M d v) (e : vw M d = .fzn ds) : ∃ a xs, v = .ref a ∧ RL K H M a xs ∧ Rs K H M ds xs := by
  cases d with
  | fzn es =>
    have e' : es = ds := by simpa [vw] using e
    subst e'
    exact r
  | ref a =>
    rw [vw_ref] at e
    cases q : M a with
    | none => rw [q] at e; cases e
    | some o => rw [q] at e; cases o <;> cases e
  | _ => cases e
theorem vw_dct {d : D} {ks : List Key} {ds : List D} (mo : MOk K H M) (r : Rv K H M d v) (e : vw M d = .dct ks ds) : ∃ a xs, v = .ref a ∧ H a = some (.dK (ks.zip xs)) ∧ ks.length = ds.length ∧ Rs K H M ds xs := by
  cases d with
  | dct ls es =>
    have e' : ls = ks ∧ es = ds := by simpa [vw] using e
    obtain ⟨rfl, rfl⟩ := e'
    obtain ⟨a, kvs, xs, h1, h2, _, rfl, h4, h3⟩ := r
    exact ⟨a, xs, h1, h2, h4, h3⟩
  | ref a =>
    have r' : v = .ref a := r
    rw [vw_ref] at e
    cases q : M a with
    | none => rw [q] at e; cases e
    | some o =>
      rw [q] at e
      cases o with
      | lst es => cases e
      | dct ls es =>
        have e' : ls = ks ∧ es = ds := by simpa [vwO] using e
        obtain ⟨rfl, rfl⟩ := e'
        obtain ⟨xs, h2, h4, h3⟩ := mo a _ q
        exact ⟨a, xs, r', h2, h4, h3⟩
      | ins C ns es => cases e
      | gen φ es => cases e
      | tab q => cases e
  | _ => cases e
theorem vw_int {d : D} {i : Int} (r : Rv K H M d v) (e : vw M d = .int i) : v = .int i := by
  cases d with
  | int j =>
    have e' : j = i := by simpa [vw] using e
    subst e'
    exact r
  | ref a =>
    rw [vw_ref] at e
    cases q : M a with
    | none => rw [q] at e; cases e
    | some o => rw [q] at e; cases o <;> cases e
  | _ => cases e
theorem vw_str {d : D} {x : Str} (r : Rv K H M d v) (e : vw M d = .str x) : v = .str x := by
  cases d with
  | str j =>
    have e' : j = x := by simpa [vw] using e
    subst e'
    exact r
  | ref a =>
    rw [vw_ref] at e
    cases q : M a with
    | none => rw [q] at e; cases e
    | some o => rw [q] at e; cases o <;> cases e
  | _ => cases e
theorem vw_bl {d : D} {b : Bool} (r : Rv K H M d v) (e : vw M d = .bl b) : v = .bl b := by
  cases d with
  | bl j =>
    have e' : j = b := by simpa [vw] using e
    subst e'
    exact r
  | ref a =>
    rw [vw_ref] at e
    cases q : M a with
    | none => rw [q] at e; cases e
    | some o => rw [q] at e; cases o <;> cases e
  | _ => cases e
theorem vw_non {d : D} (r : Rv K H M d v) (e : vw M d = .non) : v = .non := by
  cases d with
  | non => exact r
  | ref a =>
    rw [vw_ref] at e
    cases q : M a with
    | none => rw [q] at e; cases e
    | some o => rw [q] at e; cases o <;> cases e
  | _ => cases e
/-- what is new and not tracked ahead -/
theorem gw_new {p : Addr} {o : HO} (hp : H p = none) : Gw H M (upd H p o) M := fun a u h m _ => ⟨by rw [upd_ne (ne_of_none h hp)]; exact h, m⟩
theorem mok_new {p : Addr} {o : HO} (mo : MOk K H M) (hp : H p = none) : MOk K (upd H p o) M := fun a m e => by
  have g : Gw H M (upd H p o) M := gw_new hp
  have q := mo a m e
  cases m with
  | lst ds =>
    obtain ⟨xs, h1, h2⟩ := q
    exact ⟨xs, by rw [upd_ne (ne_of_none h1 hp)]; exact h1, Rs.grow g ds xs h2⟩
  | dct ks ds =>
    obtain ⟨xs, h1, h3, h2⟩ := q
    exact ⟨xs, by rw [upd_ne (ne_of_none h1 hp)]; exact h1, h3, Rs.grow g ds xs h2⟩
  | ins C ns ds =>
    obtain ⟨dx, xs, h1, h3, h4, h5, h2⟩ := q
    exact ⟨dx, xs, by rw [upd_ne (ne_of_none h1 hp)]; exact h1, h3, by rw [upd_ne (ne_of_none h4 hp)]; exact h4, h5, Rs.grow g ds xs h2⟩
  | gen φ ds => exact q.elim
  | tab q0 =>
    obtain ⟨ps, h1, _⟩ := id q
    exact TabAt.keep q (upd_ne (ne_of_none h1 hp)) g
theorem m_none {p : Addr} (mo : MOk K H M) (hp : H p = none) : M p = none := by
  cases q : M p with
  | none => rfl
  | some o =>
    have z := mo p o q
    cases o with
    | lst ds => obtain ⟨xs, h1, _⟩ := z; rw [hp] at h1; cases h1
    | dct ks ds => obtain ⟨xs, h1, _⟩ := z; rw [hp] at h1; cases h1
    | ins C ns ds => obtain ⟨dx, xs, h1, _⟩ := z; rw [hp] at h1; cases h1
    | gen φ ds => exact z.elim
    | tab q => obtain ⟨xs, h1, _⟩ := z; rw [hp] at h1; cases h1
/-- a new tuple as data -/
theorem new_tup {p : Addr} {ds : List D} {xs : List V} (mo : MOk K H M) (hp : H p = none) (r : Rs K H M ds xs) : Rv K (upd H p (.tup xs)) M (.tup ds) (.ref p) :=
  ⟨p, xs, rfl, .inl ⟨.inl upd_same, m_none mo hp⟩, Rs.grow (gw_new hp) ds xs r⟩
theorem new_lst {p : Addr} {ds : List D} {xs : List V} (mo : MOk K H M) (hp : H p = none) (r : Rs K H M ds xs) : Rv K (upd H p (.lst xs)) M (.lst ds) (.ref p) :=
  ⟨p, xs, rfl, upd_same, m_none mo hp, Rs.grow (gw_new hp) ds xs r⟩
end
/-! ### expressions -/
def dVar (i : Nat) : TED := fun _ s M Q => match s[i]? with
  | some (some d) => Q d M
  | _ => False
def dC (d : D) : TED := fun _ _ M Q => Q d M
section
variable {X : Cx} {E : XK} {e a b c : Expr} {pos : Pos} {ta tb tc : TED}
theorem de_var {i : Nat} (h : PE X e (tVar i)) : DE X E e (dVar i) := ⟨PE.imp h fun σ H Q ⟨s, M, Qd, Xd, S, x, t, q⟩ => by
  unfold dVar at t
  split at t
  · rename_i d hd
    obtain ⟨v, e1, e2⟩ := S.sl i d hd
    exact ⟨v, e1, q v H ⟨d, M, Gw.refl, S.mem, e2, t⟩⟩
  · exact t.elim⟩
/-- a reading that gives a constant -/
theorem de_const {v : V} {d : D} (h : PE X e (tC v)) (r : ∀ H M, Rv X.K H M d v) : DE X E e (dC d) := ⟨PE.imp h fun σ H Q ⟨s, M, Qd, Xd, S, x, t, q⟩ => q v H ⟨d, M, Gw.refl, S.mem, r H M, t⟩⟩
theorem de_int {i j} : DE X E (.Constant (.int i) j pos) (dC (.int i)) := de_const pe_int fun _ _ => rfl
theorem de_bl {i j} : DE X E (.Constant (.bool i) j pos) (dC (.bl i)) := de_const pe_bl fun _ _ => rfl
theorem de_non {j} : DE X E (.Constant .none j pos) (dC .non) := de_const pe_non fun _ _ => rfl
theorem de_str {i j} : DE X E (.Constant (.str i) j pos) (dC (.str i)) := de_const pe_str fun _ _ => rfl
/-! ### operators by values -/
abbrev O2 := D → D → Mem → QD → Prop
def DOp (X : Cx) (f : Value → Value → Sem Value) (o : O2) : Prop :=
  ∀ (pins : List (Addr × Obj)) (s : Shared) (σ : L2.St) (H : Hp) (M : Mem) (x y : V) (dx dy : D) (v u : Value) (Q : VK) (Qd : QD), Inv X pins σ H s → MOk X.K H M → Rv X.K H M dx x → Rv X.K H M dy y → RelV x v → RelV y u → o dx dy M Qd →
    (∀ v H', upE X.K H M Qd v H' → Q v H') → wpAny (model X.prog X.w) X.A (f v u) (EP X pins σ Q) X.xe s
def dOp (o : O2) (ta tb : TED) : TED := fun Xd s M Q => ta Xd s M fun x M1 => tb Xd s M1 fun y M2 => o x y M2 Q
theorem DOp.toR {f : Value → Value → Sem Value} {o : O2} (h : DOp X f o) : OpR X f (fun x y H Q => ∃ M dx dy Qd, MOk X.K H M ∧ Rv X.K H M dx x ∧ Rv X.K H M dy y ∧ o dx dy M Qd ∧ ∀ v H', upE X.K H M Qd v H' → Q v H') :=
  fun pins s σ H x y v u Q I rx ry ⟨M, dx, dy, Qd, mo, r1, r2, t, q⟩ => h pins s σ H M x y dx dy v u Q Qd I mo r1 r2 rx ry t q
/-- two readings in a row -/
theorem lift2 {o : O2} {r : R2} (hr : ∀ {x y : V} {H : Hp} {Q : VK} {M : Mem} {dx dy : D} {Qd : QD}, MOk X.K H M → Rv X.K H M dx x → Rv X.K H M dy y → o dx dy M Qd → (∀ v H', upE X.K H M Qd v H' → Q v H') → r x y H Q)
    {σ : L2.St} {H : Hp} {Q : VK} (h : liftE X.K E (dOp o ta tb) σ H Q) : tOp r (liftE X.K E ta) (liftE X.K E tb) σ H Q := by
  obtain ⟨s, M, Qd, Xd, S, x, t, q⟩ := h
  refine useE S x t fun dx v M1 H1 g1 S1 x1 r1 t1 => ?_
  refine useE S1 x1 t1 fun dy u M2 H2 g2 S2 x2 r2 t2 => ?_
  exact hr S2.mem (Rv.grow g2 _ _ r1) r2 t2 fun w H' ⟨d, M', g, m, r, z⟩ => q w H' ⟨d, M', (g1.trans g2).trans g, m, r, z⟩
theorem de_op {op : Operator} {o : O2} (h : DOp X (binaryOp op) o) (ha : DE X E a ta) (hb : DE X E b tb) : DE X E (.BinOp a op b pos) (dOp o ta tb) :=
  ⟨PE.imp (pe_op h.toR ha.ok hb.ok) fun σ H Q z => lift2 (fun mo r1 r2 t q => ⟨_, _, _, _, mo, r1, r2, t, q⟩) z⟩
theorem de_cmp {op : CmpOp} {o : O2} (h : DOp X (compareOp op) o) (ha : DE X E a ta) (hb : DE X E b tb) (hm : behindInMarks op b = false) : DE X E (.Compare a [op] [b] pos) (dOp o ta tb) :=
  ⟨PE.imp (pe_cmpR h.toR ha.ok hb.ok hm) fun σ H Q z => lift2 (fun mo r1 r2 t q => ⟨_, _, _, _, mo, r1, r2, t, q⟩) z⟩
/-- a value as a test -/
def tstB (Q : Bool → Mem → Prop) : QD := fun d M => match d with
  | .bl b => Q b M
  | _ => False
def dTst (t : TED) : TTD := fun Xd s M Q => t Xd s M (tstB Q)
theorem liftB {t : TED} {σ : L2.St} {H : Hp} {Q : Bool → Hp → Prop} (h : liftT X.K E (dTst t) σ H Q) : tTest (liftE X.K E t) σ H Q := by
  obtain ⟨s, M, Qd, Xd, S, x, z, q⟩ := h
  refine useE S x z fun d v M1 H1 g1 S1 x1 r1 t1 => ?_
  unfold tstB at t1
  split at t1
  · rename_i b
    exact ⟨b, r1, q b H1 ⟨M1, g1, S1.mem, t1⟩⟩
  · exact t1.elim
theorem dt_cmp {op : CmpOp} {o : O2} (h : DOp X (compareOp op) o) (ha : DE X E a ta) (hb : DE X E b tb) (hm : behindInMarks op b = false) : DT X E (.Compare a [op] [b] pos) (dTst (dOp o ta tb)) :=
  ⟨PT.imp (pt_cmpR h.toR ha.ok hb.ok hm) fun σ H Q z => by
    refine (?_ : tTest (tOp _ _ _) σ H Q)
    obtain ⟨k1, k2⟩ := (⟨liftB z, trivial⟩ : tTest (liftE X.K E (dOp o ta tb)) σ H Q ∧ True)
    exact lift2 (fun mo r1 r2 t q => ⟨_, _, _, _, mo, r1, r2, t, q⟩) k1⟩
end
end DL
set_option maxHeartbeats 1000000
namespace DL
open PySem PySem.Spec PyProof.Rows L2
/-! ### data as the library tells it -/
mutual
def toPy : D → Option PyData
  | .non => some .none
  | .bl b => some (.bool b)
  | .int i => some (.int i)
  | .str x => some (.str x)
  | .tup ds => (toPys ds).map PyData.tuple
  | .lst ds => (toPys ds).map PyData.list
  | .fzn ds => (toPys ds).map PyData.list
  | _ => none
def toPys : List D → Option (List PyData)
  | [] => some []
  | d :: ds => match toPy d, toPys ds with
    | some p, some ps => some (p :: ps)
    | _, _ => none
end
section
variable {K : Fg} {H : Hp} {M : Mem}
mutual
theorem Rv.dp : ∀ (d : D) (v : V) (p : PyData), Rv K H M d v → toPy d = some p → Dp K H v p
  | .non, v, p, h, e => by
    have h' : v = .non := h
    have e' : some PyData.none = some p := e
    cases e'; subst h'; exact .non
  | .bl b, v, p, h, e => by
    have h' : v = .bl b := h
    have e' : some (PyData.bool b) = some p := e
    cases e'; subst h'; exact .bl b
  | .int b, v, p, h, e => by
    have h' : v = .int b := h
    have e' : some (PyData.int b) = some p := e
    cases e'; subst h'; exact .int b
  | .str b, v, p, h, e => by
    have h' : v = .str b := h
    have e' : some (PyData.str b) = some p := e
    cases e'; subst h'; exact .str b
  | .tup ds, v, p, ⟨a, xs, hv, r, q⟩, e => by
    have e' : (toPys ds).map PyData.tuple = some p := e
    cases z : toPys ds with
    | none => rw [z] at e'; cases e'
    | some ps =>
      rw [z] at e'; cases e'; subst hv
      exact .tup r.sq (Rs.dp ds xs ps q z)
  | .lst ds, v, p, ⟨a, xs, hv, r, m, q⟩, e => by
    have e' : (toPys ds).map PyData.list = some p := e
    cases z : toPys ds with
    | none => rw [z] at e'; cases e'
    | some ps =>
      rw [z] at e'; cases e'; subst hv
      exact .lst (SqL.of r) (Rs.dp ds xs ps q z)
  | .fzn ds, v, p, ⟨a, xs, hv, r, q⟩, e => by
    have e' : (toPys ds).map PyData.list = some p := e
    cases z : toPys ds with
    | none => rw [z] at e'; cases e'
    | some ps =>
      rw [z] at e'; cases e'; subst hv
      exact .lst r.sq (Rs.dp ds xs ps q z)
  | .ref _, _, _, _, e => by cases (show (none : Option PyData) = some _ from e)
  | .ty _, _, _, _, e => by cases (show (none : Option PyData) = some _ from e)
  | .dct _ _, _, _, _, e => by cases (show (none : Option PyData) = some _ from e)
  | .exn _ _ _, _, _, _, e => by cases (show (none : Option PyData) = some _ from e)
  | .kdt _ _, _, _, _, e => by cases (show (none : Option PyData) = some _ from e)
theorem Rs.dp : ∀ (ds : List D) (vs : List V) (ps : List PyData), Rs K H M ds vs → toPys ds = some ps → DpAll K H vs ps
  | [], vs, ps, h, e => by
    have h' : vs = [] := h
    have e' : some [] = some ps := e
    cases e'; subst h'; exact .nil
  | d :: ds, _, ps, ⟨v, r, rfl, h, q⟩, e => by
    unfold toPys at e
    split at e
    · rename_i p qs h1 h2
      cases e
      exact .cons (Rv.dp d v p h h1) (Rs.dp ds r qs q h2)
    · cases e
end
/-- owned on top, seen as it stands -/
theorem vw_dp {d : D} {v : V} {p : PyData} (mo : MOk K H M) (r : Rv K H M d v) (e : toPy (vw M d) = some p) : Dp K H v p := by
  cases q : vw M d with
  | lst ds =>
    rw [q] at e
    obtain ⟨a, xs, rfl, h1, h2⟩ := vw_lst mo r q
    have e' : (toPys ds).map PyData.list = some p := e
    cases z : toPys ds with
    | none => rw [z] at e'; cases e'
    | some ps => rw [z] at e'; cases e'; exact .lst (SqL.of h1) (Rs.dp ds xs ps h2 z)
  | tup ds =>
    rw [q] at e
    obtain ⟨a, xs, rfl, h1, h2⟩ := vw_tup r q
    exact Rv.dp (M := M) (.tup ds) _ _ ⟨a, xs, rfl, h1, h2⟩ e
  | fzn ds =>
    rw [q] at e
    obtain ⟨a, xs, rfl, h1, h2⟩ := vw_fzn r q
    exact Rv.dp (M := M) (.fzn ds) _ _ ⟨a, xs, rfl, h1, h2⟩ e
  | int i => rw [q] at e; rw [vw_int r q]; exact Rv.dp (M := M) (.int i) _ _ rfl e
  | bl i => rw [q] at e; rw [vw_bl r q]; exact Rv.dp (M := M) (.bl i) _ _ rfl e
  | str i => rw [q] at e; rw [vw_str r q]; exact Rv.dp (M := M) (.str i) _ _ rfl e
  | non => rw [q] at e; rw [vw_non r q]; exact Rv.dp (M := M) .non _ _ rfl e
  | _ => rw [q] at e; cases e
end
/-- equality of data, where it is shaped -/
def eqO (x y : D) : Option Bool := match toPy x, toPy y with
  | some p, some q => if SeqAt.shaped p = true ∧ SeqAt.shaped q = true then some (PyData.eqv p q) else none
  | _, _ => none
theorem eqO_of {x y : D} {b : Bool} (h : eqO x y = some b) : ∃ p q, toPy x = some p ∧ toPy y = some q ∧ SeqAt.shaped p = true ∧ SeqAt.shaped q = true ∧ b = PyData.eqv p q := by
  unfold eqO at h
  split at h
  · rename_i p q h1 h2
    split at h
    · rename_i z
      exact ⟨p, q, h1, h2, z.1, z.2, (Option.some.inj h).symm⟩
    · cases h
  · cases h
/-! ### the operators -/
def addD : O2 := fun x y M Q => match vw M x, vw M y with
  | .int i, .int j => Q (.int (i + j)) M
  | .int i, .bl b => Q (.int (i + b2i b)) M
  | .str a, .str b => a.length + b.length ≤ sizeLine ∧ Q (.str (a ++ b)) M
  | .tup a, .tup b => a.length + b.length ≤ sizeLine ∧ Q (.tup (a ++ b)) M
  | .lst a, .lst b => a.length + b.length ≤ sizeLine ∧ Q (.lst (a ++ b)) M
  | _, _ => False
def subD : O2 := fun x y M Q => match vw M x, vw M y with
  | .int i, .int j => Q (.int (i - j)) M
  | _, _ => False
def repL (k : Nat) (ds : List D) : List D := (List.replicate k ds).flatten
def mulD : O2 := fun x y M Q => match vw M x, vw M y with
  | .int i, .int j => CMulW i j ∧ Q (.int (i * j)) M
  | .lst a, .int k => (-(2 ^ 63) ≤ k ∧ k < 2 ^ 63 ∧ a.length * k.toNat ≤ sizeLine) ∧ Q (.lst (repL k.toNat a)) M
  | .tup a, .int k => (a ≠ [] ∧ 2 ≤ k ∧ k ≤ 1000 ∧ a.length ≤ 1000) ∧ Q (.tup (repL k.toNat a)) M
  | .str x, .int k => MulOk x k ∧ Q (.str (Txt.mul x k)) M
  | _, _ => False
def fdivD : O2 := fun x y M Q => match vw M x, vw M y with
  | .int i, .int j => CDivW i j ∧ Q (.int (i / j)) M
  | _, _ => False
def modD : O2 := fun x y M Q => match vw M x, vw M y with
  | .int i, .int j => 0 < j ∧ Q (.int (i % j)) M
  | _, _ => False
def powD : O2 := fun x y M Q => match vw M x, vw M y with
  | .int i, .int j => CPow i j ∧ Q (.int (i ^ j.toNat)) M
  | _, _ => False
def cmpD (p : Int → Int → Bool) : O2 := fun x y M Q => match vw M x, vw M y with
  | .int i, .int j => Q (.bl (p i j)) M
  | _, _ => False
abbrev ltD : O2 := cmpD fun i j => decide (i < j)
abbrev leD : O2 := cmpD fun i j => decide (i ≤ j)
abbrev gtD : O2 := cmpD fun i j => decide (j < i)
abbrev geD : O2 := cmpD fun i j => decide (j ≤ i)
def eqD : O2 := fun x y M Q => match eqO (vw M x) (vw M y) with
  | some b => Q (.bl b) M
  | none => False
def neD : O2 := fun x y M Q => match eqO (vw M x) (vw M y) with
  | some b => Q (.bl (!b)) M
  | none => False
def isN : D → Bool
  | .non => true
  | _ => false
def isD : O2 := fun x y M Q => y = .non ∧ Q (.bl (isN x)) M
def isNotD : O2 := fun x y M Q => y = .non ∧ Q (.bl (!isN x)) M
theorem vlen {K : Fg} {H : Hp} {M : Mem} {ds : List D} {vs : List V} (r : Rs K H M ds vs) : vs.length = ds.length := (Rs.len r).symm
theorem rs_rep {K : Fg} {H : Hp} {M : Mem} {ds : List D} {vs : List V} (r : Rs K H M ds vs) : ∀ k, Rs K H M (repL k ds) (List.replicate k vs).flatten
  | 0 => rfl
  | k + 1 => by
    unfold repL
    rw [List.replicate_succ, List.replicate_succ, List.flatten_cons, List.flatten_cons]
    exact Rs.append r (rs_rep r k)
section
variable {X : Cx}
theorem up_same {K : Fg} {H : Hp} {M : Mem} {Q : QD} {d : D} {v : V} (mo : MOk K H M) (q : Q d M) (r : Rv K H M d v) : upE K H M Q v H := ⟨d, M, Gw.refl, mo, r, q⟩
theorem up_new_tup {K : Fg} {H : Hp} {M : Mem} {Q : QD} {ds : List D} {xs : List V} {p : Addr} (mo : MOk K H M) (hp : H p = none) (r : Rs K H M ds xs) (q : Q (.tup ds) M) : upE K H M Q (.ref p) (upd H p (.tup xs)) :=
  ⟨_, M, gw_new hp, mok_new mo hp, new_tup mo hp r, q⟩
theorem up_new_lst {K : Fg} {H : Hp} {M : Mem} {Q : QD} {ds : List D} {xs : List V} {p : Addr} (mo : MOk K H M) (hp : H p = none) (r : Rs K H M ds xs) (q : Q (.lst ds) M) : upE K H M Q (.ref p) (upd H p (.lst xs)) :=
  ⟨_, M, gw_new hp, mok_new mo hp, new_lst mo hp r, q⟩
theorem do_add : DOp X (binaryOp .Add) addD := by
  intro pins s σ H M x y dx dy v u Q Qd I mo r1 r2 rx ry t q
  unfold addD at t
  split at t
  · rename_i i j h1 h2
    exact op_add pins s σ H x y v u Q I rx ry ⟨i, j, vw_int r1 h1, vw_int r2 h2, q _ _ (up_same mo t rfl)⟩
  · rename_i i j h1 h2
    exact op_add_ib pins s σ H x y v u Q I rx ry ⟨i, j, vw_int r1 h1, vw_bl r2 h2, q _ _ (up_same mo t rfl)⟩
  · rename_i i j h1 h2
    exact op_add_str pins s σ H x y v u Q I rx ry ⟨i, j, vw_str r1 h1, vw_str r2 h2, t.1, q _ _ (up_same mo t.2 rfl)⟩
  · rename_i i j h1 h2
    obtain ⟨a, xs, rfl, ha, sa⟩ := vw_tup r1 h1
    obtain ⟨b, ys, rfl, hb, sb⟩ := vw_tup r2 h2
    refine op_catA pins s σ H _ _ v u Q I rx ry ⟨a, b, xs, ys, rfl, rfl, ha.sq, hb.sq, by rw [vlen sa, vlen sb]; exact t.1, fun e => ?_, fun _ e => ?_, fun _ _ p hp => ?_⟩
    · have e1 : i = [] := by
        have := Rs.len sa
        rw [e] at this
        exact List.eq_nil_of_length_eq_zero this
      subst e1
      exact q _ _ (up_same mo t.2 ⟨b, ys, rfl, hb, sb⟩)
    · have e1 : j = [] := by
        have := Rs.len sb
        rw [e] at this
        exact List.eq_nil_of_length_eq_zero this
      subst e1
      have t2 := t.2
      rw [List.append_nil] at t2
      exact q _ _ (up_same mo t2 ⟨a, xs, rfl, ha, sa⟩)
    · exact q _ _ (up_new_tup mo hp (Rs.append sa sb) t.2)
  · rename_i i j h1 h2
    obtain ⟨a, xs, rfl, ha, sa⟩ := vw_lst mo r1 h1
    obtain ⟨b, ys, rfl, hb, sb⟩ := vw_lst mo r2 h2
    exact op_cat pins s σ H _ _ v u Q I rx ry ⟨a, b, xs, ys, rfl, rfl, ha, hb, by rw [vlen sa, vlen sb]; exact t.1, fun p hp => q _ _ (up_new_lst mo hp (Rs.append sa sb) t.2)⟩
  · exact t.elim
theorem do_int {f : Value → Value → Sem Value} {C : Int → Int → Prop} {g : Int → Int → V} {gd : Int → Int → D} (h : OpR X f (rI C g)) (hg : ∀ i j (H : Hp) (M : Mem), Rv X.K H M (gd i j) (g i j)) :
    DOp X f (fun x y M Q => match vw M x, vw M y with
      | .int i, .int j => C i j ∧ Q (gd i j) M
      | _, _ => False) := by
  intro pins s σ H M x y dx dy v u Q Qd I mo r1 r2 rx ry t q
  split at t
  · rename_i i j h1 h2
    exact h pins s σ H x y v u Q I rx ry ⟨i, j, vw_int r1 h1, vw_int r2 h2, t.1, q _ _ (up_same mo t.2 (hg i j H M))⟩
  · exact t.elim
theorem do_int0 {f : Value → Value → Sem Value} {g : Int → Int → V} {gd : Int → Int → D} (h : OpR X f (rI0 g)) (hg : ∀ i j (H : Hp) (M : Mem), Rv X.K H M (gd i j) (g i j)) :
    DOp X f (fun x y M Q => match vw M x, vw M y with
      | .int i, .int j => Q (gd i j) M
      | _, _ => False) := by
  intro pins s σ H M x y dx dy v u Q Qd I mo r1 r2 rx ry t q
  split at t
  · rename_i i j h1 h2
    exact h pins s σ H x y v u Q I rx ry ⟨i, j, vw_int r1 h1, vw_int r2 h2, q _ _ (up_same mo t (hg i j H M))⟩
  · exact t.elim
theorem do_sub : DOp X (binaryOp .Sub) subD := do_int0 (gd := fun i j => .int (i - j)) op_sub fun _ _ _ _ => rfl
theorem do_fdiv : DOp X (binaryOp .FloorDiv) fdivD := do_int (gd := fun i j => .int (i / j)) op_fdivW fun _ _ _ _ => rfl
theorem do_mod : DOp X (binaryOp .Mod) modD := do_int (C := fun _ j => 0 < j) (gd := fun i j => .int (i % j)) op_mod fun _ _ _ _ => rfl
theorem do_pow : DOp X (binaryOp .Pow) powD := do_int (gd := fun i j => .int (i ^ j.toNat)) op_pow fun _ _ _ _ => rfl
theorem do_lt : DOp X (compareOp .Lt) ltD := do_int0 (gd := fun i j => .bl (decide (i < j))) op_lt fun _ _ _ _ => rfl
theorem do_le : DOp X (compareOp .LtE) leD := do_int0 (gd := fun i j => .bl (decide (i ≤ j))) op_le fun _ _ _ _ => rfl
theorem do_gt : DOp X (compareOp .Gt) gtD := do_int0 (gd := fun i j => .bl (decide (j < i))) op_gt fun _ _ _ _ => rfl
theorem do_ge : DOp X (compareOp .GtE) geD := do_int0 (gd := fun i j => .bl (decide (j ≤ i))) op_ge fun _ _ _ _ => rfl
theorem do_mul : DOp X (binaryOp .Mult) mulD := by
  intro pins s σ H M x y dx dy v u Q Qd I mo r1 r2 rx ry t q
  unfold mulD at t
  split at t
  · rename_i i j h1 h2
    exact op_mulW pins s σ H x y v u Q I rx ry ⟨i, j, vw_int r1 h1, vw_int r2 h2, t.1, q _ _ (up_same mo t.2 rfl)⟩
  · rename_i a k h1 h2
    obtain ⟨p, xs, rfl, ha, sa⟩ := vw_lst mo r1 h1
    exact op_rep pins s σ H _ _ v u Q I rx ry ⟨p, k, xs, rfl, vw_int r2 h2, ha, t.1.1, t.1.2.1, by rw [vlen sa]; exact t.1.2.2, fun l hl => q _ _ (up_new_lst mo hl (rs_rep sa _) t.2)⟩
  · rename_i a k h1 h2
    obtain ⟨p, xs, rfl, ha, sa⟩ := vw_tup r1 h1
    refine op_repT pins s σ H _ _ v u Q I rx ry ⟨p, k, xs, rfl, vw_int r2 h2, ha.sq, fun e => ?_, t.1.2.1, t.1.2.2.1, by rw [vlen sa]; exact t.1.2.2.2, fun l hl => q _ _ (up_new_tup mo hl (rs_rep sa _) t.2)⟩
    have := Rs.len sa
    rw [e] at this
    exact t.1.1 (List.eq_nil_of_length_eq_zero this)
  · rename_i x k h1 h2
    have e1 := vw_str r1 h1
    have e2 := vw_int r2 h2
    subst e1 e2
    obtain ⟨tk, rfl⟩ := rx
    obtain ⟨tk2, rfl⟩ := ry
    exact SB.mul t.1 fun t' k => ⟨.str _, H, I.tok k, ⟨t', rfl⟩, q _ _ (up_same mo t.2 rfl)⟩
  · exact t.elim
theorem do_eq (hu : X.A.units + 64 < cLine) : DOp X (compareOp .Eq) eqD := by
  intro pins s σ H M x y dx dy v u Q Qd I mo r1 r2 rx ry t q
  unfold eqD at t
  split at t
  · rename_i b hb
    obtain ⟨p, p', h1, h2, s1, s2, rfl⟩ := eqO_of hb
    exact op_eqD hu pins s σ H x y v u Q I rx ry ⟨p, p', vw_dp mo r1 h1, vw_dp mo r2 h2, s1, s2, q _ _ (up_same mo t rfl)⟩
  · exact t.elim
theorem do_ne (hu : X.A.units + 64 < cLine) : DOp X (compareOp .NotEq) neD := by
  intro pins s σ H M x y dx dy v u Q Qd I mo r1 r2 rx ry t q
  unfold neD at t
  split at t
  · rename_i b hb
    obtain ⟨p, p', h1, h2, s1, s2, rfl⟩ := eqO_of hb
    exact op_neD hu pins s σ H x y v u Q I rx ry ⟨p, p', vw_dp mo r1 h1, vw_dp mo r2 h2, s1, s2, q _ _ (up_same mo t rfl)⟩
  · exact t.elim
theorem isN_of {K : Fg} {H : Hp} {M : Mem} {d : D} {v : V} (r : Rv K H M d v) : decide (v = .non) = isN d := by
  cases d with
  | non => have e : v = .non := r; rw [e]; rfl
  | bl b => have e : v = .bl b := r; rw [e]; exact decide_eq_false (fun z => nomatch z)
  | int b => have e : v = .int b := r; rw [e]; exact decide_eq_false (fun z => nomatch z)
  | str b => have e : v = .str b := r; rw [e]; exact decide_eq_false (fun z => nomatch z)
  | ref b => have e : v = .ref b := r; rw [e]; exact decide_eq_false (fun z => nomatch z)
  | ty b => have e : v = .ty b := r; rw [e]; exact decide_eq_false (fun z => nomatch z)
  | tup b => obtain ⟨a, xs, e, _⟩ := r; rw [e]; exact decide_eq_false (fun z => nomatch z)
  | lst b => obtain ⟨a, xs, e, _⟩ := r; rw [e]; exact decide_eq_false (fun z => nomatch z)
  | fzn b => obtain ⟨a, xs, e, _⟩ := r; rw [e]; exact decide_eq_false (fun z => nomatch z)
  | dct b c => obtain ⟨a, _, xs, e, _⟩ := r; rw [e]; exact decide_eq_false (fun z => nomatch z)
  | kdt b c => obtain ⟨a, _, _, _, _, _, _, e, _⟩ := r; rw [e]; exact decide_eq_false (fun z => nomatch z)
  | lam f cc q st js b => obtain ⟨e, _⟩ := r; rw [e]; exact decide_eq_false (fun z => nomatch z)
  | exn b c d => rcases r with ⟨a, _, xs, e, _⟩ | ⟨_, _, a, e, _⟩ <;> (rw [e]; exact decide_eq_false (fun z => nomatch z))
theorem do_is : DOp X (compareOp .Is) isD := by
  intro pins s σ H M x y dx dy v u Q Qd I mo r1 r2 rx ry t q
  obtain ⟨rfl, t⟩ := t
  exact op_isN pins s σ H x y v u Q I rx ry ⟨r2, by rw [isN_of r1]; exact q _ _ (up_same mo t rfl)⟩
theorem do_isnot : DOp X (compareOp .IsNot) isNotD := by
  intro pins s σ H M x y dx dy v u Q Qd I mo r1 r2 rx ry t q
  obtain ⟨rfl, t⟩ := t
  exact op_notN pins s σ H x y v u Q I rx ry ⟨r2, by rw [isN_of r1]; exact q _ _ (up_same mo t rfl)⟩
end
end DL
set_option maxHeartbeats 1000000
namespace DL
open PySem PySem.Spec PyProof.Rows L2
def Mem.put (M : Mem) (a : Addr) (o : MO) : Mem := fun b => if b = a then some o else M b
def Mem.del (M : Mem) (a : Addr) : Mem := fun b => if b = a then none else M b
theorem Mem.put_same {M : Mem} {a : Addr} {o : MO} : M.put a o a = some o := by unfold Mem.put; rw [if_pos rfl]
theorem Mem.put_ne {M : Mem} {a b : Addr} {o : MO} (h : b ≠ a) : M.put a o b = M b := by unfold Mem.put; rw [if_neg h]
theorem Mem.del_same {M : Mem} {a : Addr} : M.del a a = none := by unfold Mem.del; rw [if_pos rfl]
theorem Mem.del_ne {M : Mem} {a b : Addr} (h : b ≠ a) : M.del a b = M b := by unfold Mem.del; rw [if_neg h]
theorem Mem.put_put {M : Mem} {a : Addr} {o u : MO} : (M.put a o).put a u = M.put a u := by funext b; unfold Mem.put; split <;> rfl
theorem Mem.del_put {M : Mem} {a : Addr} {o : MO} (h : M a = none) : (M.put a o).del a = M := by
  funext b; unfold Mem.del Mem.put
  by_cases e : b = a
  · rw [if_pos e, e, h]
  · rw [if_neg e, if_neg e]
section
variable {K : Fg} {H H' : Hp} {M M' : Mem}
/-- what MObj says is kept by growth where the object itself stands -/
theorem MObj.grow {a : Addr} {o : MO} (g : Gw H M H' M') (ha : H' a = H a) (hd : ∀ dx, H dx = some (.own a) → M dx = none → H' dx = some (.own a) ∧ M' dx = none) (h : MObj K H M a o) : MObj K H' M' a o := by
  cases o with
  | lst ds =>
    obtain ⟨xs, h1, h2⟩ := h
    exact ⟨xs, ha.trans h1, Rs.grow g ds xs h2⟩
  | dct ks ds =>
    obtain ⟨xs, h1, h3, h2⟩ := h
    exact ⟨xs, ha.trans h1, h3, Rs.grow g ds xs h2⟩
  | ins C ns ds =>
    obtain ⟨dx, xs, h1, h3, h4, h5, h2⟩ := h
    exact ⟨dx, xs, ha.trans h1, h3, (hd dx h4 h5).1, (hd dx h4 h5).2, Rs.grow g ds xs h2⟩
  | gen φ ds => exact h.elim
  | tab q => exact TabAt.keep h ha g
/-- an owned object is written -/
theorem gw_put {a : Addr} {o : HO} {mo mo' : MO} (h : M a = some mo) : Gw H M (upd H a o) (M.put a mo') := fun b u hb m _ => by
  have ne : b ≠ a := fun e => by rw [e, h] at m; cases m
  exact ⟨by rw [upd_ne ne]; exact hb, by rw [Mem.put_ne ne]; exact m⟩
theorem mok_put {a : Addr} {o : HO} {mo mo' : MO} (ok : MOk K H M) (h : M a = some mo) (new : MObj K (upd H a o) (M.put a mo') a mo') : MOk K (upd H a o) (M.put a mo') := fun b u e => by
  by_cases q : b = a
  · subst q
    rw [Mem.put_same] at e
    cases e
    exact new
  · rw [Mem.put_ne q] at e
    refine MObj.grow (gw_put h) (upd_ne q) (fun dx h1 h2 => ?_) (ok b u e)
    exact (gw_put h).at h1 h2
/-- a new owned object -/
theorem gw_own {p : Addr} {o : HO} {mo : MO} (hp : H p = none) : Gw H M (upd H p o) (M.put p mo) := fun b u hb m _ => by
  have ne : b ≠ p := ne_of_none hb hp
  exact ⟨by rw [upd_ne ne]; exact hb, by rw [Mem.put_ne ne]; exact m⟩
theorem mok_own {p : Addr} {o : HO} {mo : MO} (ok : MOk K H M) (hp : H p = none) (new : MObj K (upd H p o) (M.put p mo) p mo) : MOk K (upd H p o) (M.put p mo) := fun b u e => by
  by_cases q : b = p
  · subst q
    rw [Mem.put_same] at e
    cases e
    exact new
  · rw [Mem.put_ne q] at e
    exact MObj.grow (gw_own hp) (upd_ne q) (fun dx h1 h2 => (gw_own hp).at h1 h2) (ok b u e)
/-- less is owned: dropped, or frozen -/
theorem gw_less (h : ∀ a, M a = none → M' a = none) : Gw H M H M' := fun b u hb m _ => ⟨hb, h b m⟩
theorem mok_less (h : ∀ a o, M' a = some o → M a = some o) (hn : ∀ a, M a = none → M' a = none) (ok : MOk K H M) : MOk K H M' := fun b u e =>
  MObj.grow (gw_less hn) rfl (fun dx h1 h2 => ⟨h1, hn dx h2⟩) (ok b u (h b u e))
theorem up_own_lst {Q : QD} {ds : List D} {xs : List V} {p : Addr} (mo : MOk K H M) (hp : H p = none) (r : Rs K H M ds xs) (q : Q (.ref p) (M.put p (.lst ds))) : upE K H M Q (.ref p) (upd H p (.lst xs)) :=
  ⟨.ref p, M.put p (.lst ds), gw_own hp, mok_own mo hp (show MObj K (upd H p (.lst xs)) (M.put p (.lst ds)) p (.lst ds) from ⟨xs, upd_same, Rs.grow (gw_own hp) ds xs r⟩), rfl, q⟩
end
/-! ### arguments, displays -/
def dNil : TAD := fun _ _ M Q => Q [] M
def dCons (te : TED) (ta : TAD) : TAD := fun Xd s M Q => te Xd s M fun d M1 => ta Xd s M1 fun ds M2 => Q (d :: ds) M2
/-- arguments, n of them -/
structure DN (X : Cx) (E : XK) (n : Nat) (es : List Expr) (t : TAD) : Prop where
  ok : PA X es (fun σ H Q => ∃ s M Qd Xd, StOk X.K σ H s M ∧ XTo X.K H M Xd E ∧ t Xd s M Qd ∧ ∀ vs H', vs.length = n → upA X.K H M Qd vs H' → Q vs H')
section
variable {X : Cx} {E : XK} {n : Nat} {e a b c : Expr} {es : List Expr} {pos : Pos} {ta tb te : TED} {ts : TAD}
theorem dn_nil : DN X E 0 [] dNil := ⟨PA.imp pa_nil fun σ H Q ⟨s, M, Qd, Xd, S, x, t, q⟩ => q [] H rfl ⟨[], M, Gw.refl, S.mem, rfl, t⟩⟩
theorem dn_cons (h1 : DE X E e te) (h2 : DN X E n es ts) (hs : starEach (e :: es) X.env = (false, eval e X.env) :: starEach es X.env := by rfl) : DN X E (n + 1) (e :: es) (dCons te ts) :=
  ⟨PA.imp (pa_cons h1.ok h2.ok hs) fun σ H Q ⟨s, M, Qd, Xd, S, x, t, q⟩ => by
    refine useE S x t fun d v M1 H1 g1 S1 x1 r1 t1 => ?_
    refine ⟨s, M1, _, Xd, S1, x1, t1, fun vs H2 hl ⟨ds, M2, g2, m2, r2, t2⟩ => ?_⟩
    exact q _ _ (by rw [List.length_cons, hl]) ⟨d :: ds, M2, g1.trans g2, m2, Rs.cons (Rv.grow g2 _ _ r1) r2, t2⟩⟩
/-- what is known of arguments -/
theorem useN {σ : L2.St} {H : Hp} {s : SD} {M : Mem} {Xd : XD} {Qd : List D → Mem → Prop} {Q : List V → Hp → Prop} (S : StOk X.K σ H s M) (x : XTo X.K H M Xd E) (h : ts Xd s M Qd)
    (q : ∀ ds vs M' H', vs.length = n → Gw H M H' M' → StOk X.K σ H' s M' → XTo X.K H' M' Xd E → Rs X.K H' M' ds vs → Qd ds M' → Q vs H') :
    ∃ s M Qd Xd, StOk X.K σ H s M ∧ XTo X.K H M Xd E ∧ ts Xd s M Qd ∧ ∀ vs H', vs.length = n → upA X.K H M Qd vs H' → Q vs H' :=
  ⟨s, M, Qd, Xd, S, x, h, fun vs H' hl ⟨ds, M', g, m, r, z⟩ => q ds vs M' H' hl g (S.grow g m) (x.grow g) r z⟩
def dTup (t : TAD) : TED := fun Xd s M Q => t Xd s M fun ds M1 => Q (.tup ds) M1
def dLst (t : TAD) : TED := fun Xd s M Q => t Xd s M fun ds M1 => Q (.lst ds) M1
/-- a list that will be changed -/
def dLstO (t : TAD) : TED := fun Xd s M Q => t Xd s M fun ds M1 => ∀ p, M1 p = none → Q (.ref p) (M1.put p (.lst ds))
theorem de_tup {k} (h : DN X E n es ts) (hz : n ≤ sizeLine := by decide) : DE X E (.Tuple es k pos) (dTup ts) := ⟨PE.imp (pe_tup h.ok) fun σ H Q ⟨s, M, Qd, Xd, S, x, t, q⟩ => by
  refine useN S x t fun ds vs M1 H1 hl g1 S1 x1 r1 t1 => ⟨by rw [hl]; exact hz, fun p hp => ?_⟩
  exact q _ _ ⟨.tup ds, M1, g1.trans (gw_new hp), mok_new S1.mem hp, new_tup S1.mem hp r1, t1⟩⟩
theorem de_lst (h : DN X E n es ts) (hz : n ≤ sizeLine := by decide) : DE X E (.List es pos) (dLst ts) := ⟨PE.imp (pe_lst h.ok) fun σ H Q ⟨s, M, Qd, Xd, S, x, t, q⟩ => by
  refine useN S x t fun ds vs M1 H1 hl g1 S1 x1 r1 t1 => ⟨by rw [hl]; exact hz, fun p hp => ?_⟩
  exact q _ _ ⟨.lst ds, M1, g1.trans (gw_new hp), mok_new S1.mem hp, new_lst S1.mem hp r1, t1⟩⟩
theorem de_lstO (h : DN X E n es ts) (hz : n ≤ sizeLine := by decide) : DE X E (.List es pos) (dLstO ts) := ⟨PE.imp (pe_lst h.ok) fun σ H Q ⟨s, M, Qd, Xd, S, x, t, q⟩ => by
  refine useN S x t fun ds vs M1 H1 hl g1 S1 x1 r1 t1 => ⟨by rw [hl]; exact hz, fun p hp => ?_⟩
  obtain ⟨d, M', g, m, r, z⟩ := up_own_lst S1.mem hp r1 (t1 p (m_none S1.mem hp))
  exact q _ _ ⟨d, M', g1.trans g, m, r, z⟩⟩
/-! ### calls of built-ins by values -/
abbrev OC := List D → Mem → QD → Prop
def DC (X : Cx) (f : Value) (o : OC) : Prop :=
  ∀ (pins : List (Addr × Obj)) (s : Shared) (σ : L2.St) (H : Hp) (M : Mem) (xs : List V) (ds : List D) (us : List Value) (Q : VK) (Qd : QD), Inv X pins σ H s → MOk X.K H M → Rs X.K H M ds xs → Vals xs us → o ds M Qd →
    (∀ v H', upE X.K H M Qd v H' → Q v H') → wpAny (model X.prog X.w) X.A (call f us) (EP X pins σ Q) X.xe s
theorem DC.toR {f : Value} {o : OC} (h : DC X f o) : CallR X f (fun xs H Q => ∃ M ds Qd, MOk X.K H M ∧ Rs X.K H M ds xs ∧ o ds M Qd ∧ ∀ v H', upE X.K H M Qd v H' → Q v H') :=
  fun pins s σ H xs us Q I r ⟨M, ds, Qd, mo, r1, t, q⟩ => h pins s σ H M xs ds us Q Qd I mo r1 r t q
def dCB (o : OC) (t : TAD) : TED := fun Xd s M Q => t Xd s M fun ds M1 => o ds M1 Q
theorem liftCB {o : OC} {σ : L2.St} {H : Hp} {Q : VK} (z : liftE X.K E (dCB o ts) σ H Q) : tCB (fun xs H Q => ∃ M ds Qd, MOk X.K H M ∧ Rs X.K H M ds xs ∧ o ds M Qd ∧ ∀ v H', upE X.K H M Qd v H' → Q v H')
    (fun σ H Q => ∃ s M Qd Xd, StOk X.K σ H s M ∧ XTo X.K H M Xd E ∧ ts Xd s M Qd ∧ ∀ vs H', vs.length = n → upA X.K H M Qd vs H' → Q vs H') σ H Q := by
  obtain ⟨s, M, Qd, Xd, S, x, t, q⟩ := z
  refine useN S x t fun ds vs M1 H1 hl g1 S1 x1 r1 t1 => ?_
  exact ⟨M1, ds, Qd, S1.mem, r1, t1, fun v H' ⟨d, M', g, m, r, z⟩ => q v H' ⟨d, M', g1.trans g, m, r, z⟩⟩
theorem de_callB {id : String} {x : Str} {p : Pos} {o : OC} (hc : DC X (.builtin id) o) (hg : Gl X x) (hm : X.mg x = none) (hv : bootBuiltins x = some (.builtin id)) (ha : DN X E n (e :: es) ts) (hn : x ≠ "__name__" := by decide) (hdb : (x == ("__debug__" : Str)) = false := by decide)
    (he : starEach (e :: es) X.env = (false, eval e X.env) :: starEach es X.env := by rfl) (hpl : (backTo pos (starEach es X.env)).any (·.1) = false := by rfl) : DE X E (.Call (.Name x p) (e :: es) [] pos) (dCB o ts) :=
  ⟨PE.imp (pe_callB hc.toR hg hm hv ha.ok hn hdb he hpl) fun σ H Q z => liftCB z⟩
theorem de_callTy {T : String} {x : Str} {p : Pos} {o : OC} (hc : DC X (.type T) o) (hg : Gl X x) (hm : X.mg x = none) (hv : bootBuiltins x = some (.type T)) (ha : DN X E n (e :: es) ts) (hn : x ≠ "__name__" := by decide) (hdb : (x == ("__debug__" : Str)) = false := by decide)
    (he : starEach (e :: es) X.env = (false, eval e X.env) :: starEach es X.env := by rfl) (hpl : (backTo pos (starEach es X.env)).any (·.1) = false := by rfl) : DE X E (.Call (.Name x p) (e :: es) [] pos) (dCB o ts) :=
  ⟨PE.imp (pe_callTy hc.toR hg hm hv ha.ok hn hdb he hpl) fun σ H Q z => liftCB z⟩
/-! ### built-ins -/
theorem rs1 {K : Fg} {H : Hp} {M : Mem} {d : D} {xs : List V} (r : Rs K H M [d] xs) : ∃ v, xs = [v] ∧ Rv K H M d v := by
  obtain ⟨v, r, rfl, h, q⟩ := r
  have e : r = [] := q
  subst e
  exact ⟨v, rfl, h⟩
theorem rs2 {K : Fg} {H : Hp} {M : Mem} {d d2 : D} {xs : List V} (r : Rs K H M [d, d2] xs) : ∃ v w, xs = [v, w] ∧ Rv K H M d v ∧ Rv K H M d2 w := by
  obtain ⟨v, r, rfl, h, q⟩ := r
  obtain ⟨w, rfl, z⟩ := rs1 q
  exact ⟨v, w, rfl, h, z⟩
def lenO (M : Mem) (d : D) : Option Nat := match vw M d with
  | .tup ds => some ds.length
  | .lst ds => some ds.length
  | .fzn ds => some ds.length
  | .str x => if x.length ≤ sizeLine then some x.length else none
  | _ => none
def lenC : OC := fun ds M Q => match ds with
  | [d] => match lenO M d with
    | some n => Q (.int n) M
    | none => False
  | _ => False
theorem dc_len : DC X (.builtin "len") lenC := by
  intro pins s σ H M xs ds us Q Qd I mo r rv t q
  unfold lenC at t
  split at t
  · rename_i d
    obtain ⟨v, rfl, rd⟩ := rs1 r
    split at t
    · rename_i n hn
      unfold lenO at hn
      split at hn
      · rename_i es h
        obtain ⟨a, ys, rfl, ha, sa⟩ := vw_tup rd h
        cases hn
        exact call_len_seq pins s σ H _ us Q I rv ⟨a, ys, rfl, .inr ha.sq, q _ _ ⟨_, M, Gw.refl, mo, by rw [vlen sa]; exact rfl, t⟩⟩
      · rename_i es h
        obtain ⟨a, ys, rfl, ha, sa⟩ := vw_lst mo rd h
        cases hn
        exact call_len_seq pins s σ H _ us Q I rv ⟨a, ys, rfl, .inl (SqL.of ha), q _ _ ⟨_, M, Gw.refl, mo, by rw [vlen sa]; exact rfl, t⟩⟩
      · rename_i es h
        obtain ⟨a, ys, rfl, ha, sa⟩ := vw_fzn rd h
        cases hn
        exact call_len_seq pins s σ H _ us Q I rv ⟨a, ys, rfl, .inl ha.sq, q _ _ ⟨_, M, Gw.refl, mo, by rw [vlen sa]; exact rfl, t⟩⟩
      · rename_i x h
        split at hn
        · rename_i hz
          cases hn
          exact call_len_str pins s σ H _ us Q I rv ⟨x, by rw [vw_str rd h], hz, q _ _ (up_same mo t rfl)⟩
        · cases hn
      · cases hn
    · exact t.elim
  · exact t.elim
/-- the items of a list or tuple -/
def itemsO (M : Mem) (d : D) : Option (List D) := match vw M d with
  | .tup ds => some ds
  | .lst ds => some ds
  | .fzn ds => some ds
  | _ => none
theorem items_of {K : Fg} {H : Hp} {M : Mem} {d : D} {ds : List D} {v : V} (mo : MOk K H M) (r : Rv K H M d v) (e : itemsO M d = some ds) : ∃ a xs, v = .ref a ∧ (SqL K H a xs ∨ SqT K H a xs) ∧ Rs K H M ds xs := by
  unfold itemsO at e
  split at e
  · rename_i es h
    cases e
    obtain ⟨a, ys, rfl, ha, sa⟩ := vw_tup r h
    exact ⟨a, ys, rfl, .inr ha.sq, sa⟩
  · rename_i es h
    cases e
    obtain ⟨a, ys, rfl, ha, sa⟩ := vw_lst mo r h
    exact ⟨a, ys, rfl, .inl (SqL.of ha), sa⟩
  · rename_i es h
    cases e
    obtain ⟨a, ys, rfl, ha, sa⟩ := vw_fzn r h
    exact ⟨a, ys, rfl, .inl ha.sq, sa⟩
  · cases e
def listC : OC := fun ds M Q => match ds with
  | [d] => match itemsO M d with
    | some es => Q (.lst es) M
    | none => False
  | _ => False
theorem dc_list : DC X (.type "list") listC := by
  intro pins s σ H M xs ds us Q Qd I mo r rv t q
  unfold listC at t
  split at t
  · rename_i d
    obtain ⟨v, rfl, rd⟩ := rs1 r
    split at t
    · rename_i es he
      obtain ⟨a, ys, rfl, ha, sa⟩ := items_of mo rd he
      exact call_list_of pins s σ H _ us Q I rv ⟨a, ys, rfl, ha, fun l hl => q _ _ (up_new_lst mo hl sa t)⟩
    · exact t.elim
  · exact t.elim
def tupleC : OC := fun ds M Q => match ds with
  | [d] => match itemsO M d with
    | some es => Q (.tup es) M
    | none => False
  | _ => False
theorem dc_tuple : DC X (.type "tuple") tupleC := by
  intro pins s σ H M xs ds us Q Qd I mo r rv t q
  unfold tupleC at t
  split at t
  · rename_i d
    obtain ⟨v, rfl, rd⟩ := rs1 r
    split at t
    · rename_i es he
      unfold itemsO at he
      split at he
      · rename_i es h
        cases he
        obtain ⟨a, ys, rfl, ha, sa⟩ := vw_tup rd h
        exact call_tuple_of pins s σ H _ us Q I rv ⟨a, ys, rfl, .inr ⟨ha.sq, q _ _ (up_same mo t ⟨a, ys, rfl, ha, sa⟩)⟩⟩
      · rename_i es h
        cases he
        obtain ⟨a, ys, rfl, ha, sa⟩ := vw_lst mo rd h
        exact call_tuple_of pins s σ H _ us Q I rv ⟨a, ys, rfl, .inl ⟨SqL.of ha, fun l hl => q _ _ (up_new_tup mo hl sa t)⟩⟩
      · rename_i es h
        cases he
        obtain ⟨a, ys, rfl, ha, sa⟩ := vw_fzn rd h
        exact call_tuple_of pins s σ H _ us Q I rv ⟨a, ys, rfl, .inl ⟨ha.sq, fun l hl => q _ _ (up_new_tup mo hl sa t)⟩⟩
      · cases he
    · exact t.elim
  · exact t.elim
def intC : OC := fun ds M Q => match ds with
  | [d] => match vw M d with
    | .int i => Q (.int i) M
    | .bl b => Q (.int (if b then 1 else 0)) M
    | _ => False
  | _ => False
theorem dc_int : DC X (.type "int") intC := by
  intro pins s σ H M xs ds us Q Qd I mo r rv t q
  unfold intC at t
  split at t
  · rename_i d
    obtain ⟨v, rfl, rd⟩ := rs1 r
    split at t
    · rename_i i h
      exact call_int1 pins s σ H _ us Q I rv (.inl ⟨i, by rw [vw_int rd h], q _ _ (up_same mo t rfl)⟩)
    · rename_i i h
      exact call_int1 pins s σ H _ us Q I rv (.inr ⟨i, by rw [vw_bl rd h], q _ _ (up_same mo t rfl)⟩)
    · exact t.elim
  · exact t.elim
def absC : OC := fun ds M Q => match ds with
  | [d] => match vw M d with
    | .int i => Q (.int (if i < 0 then -i else i)) M
    | _ => False
  | _ => False
def int2C (f : Int → Int → Int) : OC := fun ds M Q => match ds with
  | [d, e] => match vw M d, vw M e with
    | .int i, .int j => Q (.int (f i j)) M
    | _, _ => False
  | _ => False
theorem dc_int2 {id : Value} {f : Int → Int → Int} (h : CallR X id (fun xs H Q => ∃ i j, xs = [.int i, .int j] ∧ Q (.int (f i j)) H)) : DC X id (int2C f) := by
  intro pins s σ H M xs ds us Q Qd I mo r rv t q
  unfold int2C at t
  split at t
  · rename_i d e
    obtain ⟨v, w, rfl, rd, re⟩ := rs2 r
    split at t
    · rename_i i j h1 h2
      exact h pins s σ H _ us Q I rv ⟨i, j, by rw [vw_int rd h1, vw_int re h2], q _ _ (up_same mo t rfl)⟩
    · exact t.elim
  · exact t.elim
theorem dc_max2 (hc : X.calm = true) : DC X (.builtin "max") (int2C fun i j => if j > i then j else i) := dc_int2 (call_max2 hc)
theorem dc_min2 (hc : X.calm = true) : DC X (.builtin "min") (int2C fun i j => if j < i then j else i) := dc_int2 (call_min2 hc)
end
end DL
set_option maxHeartbeats 1000000
namespace DL
open PySem PySem.Spec PyProof.Rows L2
section
variable {X : Cx} {E : XK} {n : Nat} {e a b c o i : Expr} {es : List Expr} {pos p2 : Pos} {ta tb te : TED} {ts : TAD}
/-! ### a built-in's name as a value -/
theorem de_bltn {x : Str} {T : String} (hg : Gl X x) (hm : X.mg x = none) (hv : bootBuiltins x = some (.type T)) (hn : x ≠ "__name__" := by decide) (hd : (x == ("__debug__" : Str)) = false := by decide) : DE X E (.Name x pos) (dC (.ty T)) :=
  de_const (pe_bltn (v := .ty T) hg hm hv rfl hn hd) fun _ _ => rfl
/-- a module's constant, a class, a def, as a value -/
theorem de_glob {x : Str} {d : D} {v : V} {u : Value} (hg : Gl X x) (hm : X.mg x = some u) (r : RelV v u) (rd : ∀ H M, Rv X.K H M d v) (hd : (x == ("__debug__" : Str)) = false := by decide) : DE X E (.Name x pos) (dC d) :=
  de_const (pe_glob hg hm r hd) rd
/-! ### and, or, not, if else -/
def andK (tb : TED) (Xd : XD) (s : SD) (Q : QD) : QD := fun d M => match d with
  | .bl c => if c = true then tb Xd s M Q else Q (.bl false) M
  | _ => False
def orK (tb : TED) (Xd : XD) (s : SD) (Q : QD) : QD := fun d M => match d with
  | .bl c => if c = true then Q (.bl true) M else tb Xd s M Q
  | _ => False
def dAnd (ta tb : TED) : TED := fun Xd s M Q => ta Xd s M (andK tb Xd s Q)
def dOr (ta tb : TED) : TED := fun Xd s M Q => ta Xd s M (orK tb Xd s Q)
def notK (Q : QD) : QD := fun d M => match d with
  | .bl c => Q (.bl (!c)) M
  | _ => False
def dNot (ta : TED) : TED := fun Xd s M Q => ta Xd s M (notK Q)
theorem fwd {K : Fg} {H H1 : Hp} {M M1 : Mem} {Qd : QD} {Q : VK} (g : Gw H M H1 M1) (q : ∀ v H', upE K H M Qd v H' → Q v H') : ∀ v H', upE K H1 M1 Qd v H' → Q v H' :=
  fun v H' ⟨d, M', g', m, r, z⟩ => q v H' ⟨d, M', g.trans g', m, r, z⟩
theorem fwdT {K : Fg} {H H1 : Hp} {M M1 : Mem} {Qd : Bool → Mem → Prop} {Q : Bool → Hp → Prop} (g : Gw H M H1 M1) (q : ∀ v H', upT K H M Qd v H' → Q v H') : ∀ v H', upT K H1 M1 Qd v H' → Q v H' :=
  fun v H' ⟨M', g', m, z⟩ => q v H' ⟨M', g.trans g', m, z⟩
theorem fwdS {K : Fg} {H H1 : Hp} {M M1 : Mem} {Qd : SD → Mem → Prop} {Q : L2.St → Hp → Prop} (g : Gw H M H1 M1) (q : ∀ v H', upS K H M Qd v H' → Q v H') : ∀ v H', upS K H1 M1 Qd v H' → Q v H' :=
  fun v H' ⟨s', M', g', m, z⟩ => q v H' ⟨s', M', g.trans g', m, z⟩
theorem de_one {op} (h : DE X E a ta) : DE X E (.BoolOp op [a] pos) ta := ⟨pe_one h.ok⟩
theorem de_and {rest : List Expr} (ha : DE X E a ta) (hb : DE X E (.BoolOp .And (b :: rest) pos) tb) : DE X E (.BoolOp .And (a :: b :: rest) pos) (dAnd ta tb) :=
  ⟨PE.imp (pe_and ha.ok hb.ok) fun σ H Q ⟨s, M, Qd, Xd, S, x, t, q⟩ => by
    refine useE S x t fun d v M1 H1 g1 S1 x1 r1 t1 => ?_
    unfold andK at t1
    split at t1
    · rename_i c
      refine ⟨c, r1, ?_⟩
      cases c with
      | true => exact ⟨s, M1, Qd, Xd, S1, x1, t1, fwd g1 q⟩
      | false => exact q _ _ ⟨.bl false, M1, g1, S1.mem, rfl, t1⟩
    · exact t1.elim⟩
theorem de_or {rest : List Expr} (ha : DE X E a ta) (hb : DE X E (.BoolOp .Or (b :: rest) pos) tb) : DE X E (.BoolOp .Or (a :: b :: rest) pos) (dOr ta tb) :=
  ⟨PE.imp (pe_or ha.ok hb.ok) fun σ H Q ⟨s, M, Qd, Xd, S, x, t, q⟩ => by
    refine useE S x t fun d v M1 H1 g1 S1 x1 r1 t1 => ?_
    unfold orK at t1
    split at t1
    · rename_i c
      refine ⟨c, r1, ?_⟩
      cases c with
      | true => exact q _ _ ⟨.bl true, M1, g1, S1.mem, rfl, t1⟩
      | false => exact ⟨s, M1, Qd, Xd, S1, x1, t1, fwd g1 q⟩
    · exact t1.elim⟩
theorem de_not (ha : DE X E a ta) : DE X E (.UnaryOp .Not a pos) (dNot ta) :=
  ⟨PE.imp (pe_not ha.ok) fun σ H Q ⟨s, M, Qd, Xd, S, x, t, q⟩ => by
    refine useE S x t fun d v M1 H1 g1 S1 x1 r1 t1 => ?_
    unfold notK at t1
    split at t1
    · rename_i c
      exact ⟨c, r1, q _ _ ⟨.bl (!c), M1, g1, S1.mem, rfl, t1⟩⟩
    · exact t1.elim⟩
def unK (f : Int → Int) (Q : QD) : QD := fun d M => match d with
  | .int i => Q (.int (f i)) M
  | _ => False
def dNeg (ta : TED) : TED := fun Xd s M Q => ta Xd s M (unK (fun i => -i) Q)
theorem de_neg (ha : DE X E a ta) : DE X E (.UnaryOp .USub a pos) (dNeg ta) :=
  ⟨PE.imp (pe_un un_neg ha.ok) fun σ H Q ⟨s, M, Qd, Xd, S, x, t, q⟩ => by
    refine useE S x t fun d v M1 H1 g1 S1 x1 r1 t1 => ?_
    unfold unK at t1
    split at t1
    · rename_i c
      exact ⟨c, r1, q _ _ ⟨.int (-c), M1, g1, S1.mem, rfl, t1⟩⟩
    · exact t1.elim⟩
def dIte (t : TTD) (ta tb : TED) : TED := fun Xd s M Q => t Xd s M fun c M1 => if c = true then ta Xd s M1 Q else tb Xd s M1 Q
theorem de_ite {t : TTD} (hc : DT X E c t) (ha : DE X E a ta) (hb : DE X E b tb) : DE X E (.IfExp c a b pos) (dIte t ta tb) :=
  ⟨PE.imp (pe_ifExp hc.ok ha.ok hb.ok) fun σ H Q ⟨s, M, Qd, Xd, S, x, z, q⟩ => by
    refine useT S x z fun k M1 H1 g1 S1 x1 t1 => ?_
    cases k with
    | true => exact ⟨s, M1, Qd, Xd, S1, x1, t1, fwd g1 q⟩
    | false => exact ⟨s, M1, Qd, Xd, S1, x1, t1, fwd g1 q⟩⟩
/-! ### tests -/
structure DW (X : Cx) (E : XK) (e : Expr) (t : TTD) : Prop where
  ok : PW X e (liftT X.K E t)
theorem DW.dt {t : TTD} (h : DW X E e t) : DT X E e t := ⟨h.ok.pt⟩
def tAndD (t u : TTD) : TTD := fun Xd s M Q => t Xd s M fun c M1 => if c = true then u Xd s M1 Q else Q false M1
def tOrD (t u : TTD) : TTD := fun Xd s M Q => t Xd s M fun c M1 => if c = true then Q true M1 else u Xd s M1 Q
def tNotD (t : TTD) : TTD := fun Xd s M Q => t Xd s M fun c M1 => Q (!c) M1
theorem dw_and1 {t : TTD} (h : DT X E a t) : DW X E (.BoolOp .And [a] pos) t := ⟨pw_and1 h.ok⟩
theorem dw_or1 {t : TTD} (h : DT X E a t) : DW X E (.BoolOp .Or [a] pos) t := ⟨pw_or1 h.ok⟩
theorem dw_and {t u : TTD} {rest : List Expr} (ha : DT X E a t) (hb : DW X E (.BoolOp .And (b :: rest) pos) u) : DW X E (.BoolOp .And (a :: b :: rest) pos) (tAndD t u) :=
  ⟨PW.imp (pw_and ha.ok hb.ok) fun σ H Q ⟨s, M, Qd, Xd, S, x, z, q⟩ => by
    refine useT S x z fun k M1 H1 g1 S1 x1 t1 => ?_
    cases k with
    | true => exact ⟨s, M1, Qd, Xd, S1, x1, t1, fwdT g1 q⟩
    | false => exact q _ _ ⟨M1, g1, S1.mem, t1⟩⟩
theorem dw_or {t u : TTD} {rest : List Expr} (ha : DT X E a t) (hb : DW X E (.BoolOp .Or (b :: rest) pos) u) : DW X E (.BoolOp .Or (a :: b :: rest) pos) (tOrD t u) :=
  ⟨PW.imp (pw_or ha.ok hb.ok) fun σ H Q ⟨s, M, Qd, Xd, S, x, z, q⟩ => by
    refine useT S x z fun k M1 H1 g1 S1 x1 t1 => ?_
    cases k with
    | true => exact q _ _ ⟨M1, g1, S1.mem, t1⟩
    | false => exact ⟨s, M1, Qd, Xd, S1, x1, t1, fwdT g1 q⟩⟩
theorem dt_not {t : TTD} (h : DT X E a t) : DT X E (.UnaryOp .Not a pos) (tNotD t) :=
  ⟨PT.imp (pt_not h.ok) fun σ H Q ⟨s, M, Qd, Xd, S, x, z, q⟩ => useT S x z fun k M1 H1 g1 S1 x1 t1 => q _ _ ⟨M1, g1, S1.mem, t1⟩⟩
/-- a value's truth -/
def truO (M : Mem) (d : D) : Option Bool := match vw M d with
  | .non => some false
  | .bl b => some b
  | .int i => some (i != 0)
  | .str x => if x.length ≤ sizeLine then some ((x.length : Int) != 0) else none
  | .tup ds => some (!ds.isEmpty)
  | .lst ds => some (!ds.isEmpty)
  | .fzn ds => some (!ds.isEmpty)
  | _ => none
def truK (Q : Bool → Mem → Prop) : QD := fun d M => match truO M d with
  | some b => Q b M
  | none => False
def dTru (t : TED) : TTD := fun Xd s M Q => t Xd s M (truK Q)
theorem emp_of {K : Fg} {H : Hp} {M : Mem} {ds : List D} {xs : List V} (r : Rs K H M ds xs) : xs.isEmpty = ds.isEmpty := by
  have h := Rs.len r
  cases ds with
  | nil =>
    have e : xs = [] := List.eq_nil_of_length_eq_zero (by simpa using h.symm)
    subst e
    rfl
  | cons d ds =>
    cases xs with
    | nil => simp at h
    | cons x xs => rfl
theorem dt_tru (h : DE X E a ta) (he : ∀ whole, isTrue a X.env whole = (do let v ← whole; standAt a.pos; holding [v] (truthy v)) := by intro _; rfl) : DT X E a (dTru ta) :=
  ⟨PT.imp (pt_truth h.ok he) fun σ H Q ⟨s, M, Qd, Xd, S, x, z, q⟩ => by
    refine useE S x z fun d v M1 H1 g1 S1 x1 r1 t1 => ?_
    unfold truK at t1
    split at t1
    · rename_i k hk
      refine ⟨k, ?_, q k H1 ⟨M1, g1, S1.mem, t1⟩⟩
      unfold truO at hk
      split at hk
      · rename_i h; cases hk; rw [vw_non r1 h]; exact rfl
      · rename_i b h; cases hk; rw [vw_bl r1 h]; exact rfl
      · rename_i b h; cases hk; rw [vw_int r1 h]; exact rfl
      · rename_i b h
        split at hk
        · rename_i hz; cases hk; rw [vw_str r1 h]; exact ⟨hz, rfl⟩
        · cases hk
      · rename_i ds h
        cases hk
        obtain ⟨p, ys, rfl, ha, sa⟩ := vw_tup r1 h
        exact .inr (.inl ⟨ys, ha.sq, by rw [emp_of sa]⟩)
      · rename_i ds h
        cases hk
        obtain ⟨p, ys, rfl, ha, sa⟩ := vw_lst S1.mem r1 h
        exact .inl ⟨ys, SqL.of ha, by rw [emp_of sa]⟩
      · rename_i ds h
        cases hk
        obtain ⟨p, ys, rfl, ha, sa⟩ := vw_fzn r1 h
        exact .inl ⟨ys, ha.sq, by rw [emp_of sa]⟩
      · cases hk
    · exact t1.elim⟩
/-- a op1 b op2 c -/
def chK (o : O2) (y : D) (tc : TED) (Xd : XD) (s : SD) (Q : QD) : QD := fun d M => match d with
  | .bl k => if k = true then tc Xd s M fun z M2 => o y z M2 Q else Q (.bl false) M
  | _ => False
def dChain (o o' : O2) (ta tb tc : TED) : TED := fun Xd s M Q => ta Xd s M fun x M1 => tb Xd s M1 fun y M2 => o x y M2 (chK o' y tc Xd s Q)
theorem lift_chain {o1 o2 : O2} {r r' : R2} {tc : TED} (hr : ∀ {x y : V} {H : Hp} {Q : VK} {M : Mem} {dx dy : D} {Qd : QD}, MOk X.K H M → Rv X.K H M dx x → Rv X.K H M dy y → o1 dx dy M Qd → (∀ v H', upE X.K H M Qd v H' → Q v H') → r x y H Q)
    (hr' : ∀ {x y : V} {H : Hp} {Q : VK} {M : Mem} {dx dy : D} {Qd : QD}, MOk X.K H M → Rv X.K H M dx x → Rv X.K H M dy y → o2 dx dy M Qd → (∀ v H', upE X.K H M Qd v H' → Q v H') → r' x y H Q)
    {σ : L2.St} {H : Hp} {Q : VK} (z : liftE X.K E (dChain o1 o2 ta tb tc) σ H Q) : tChain r r' (liftE X.K E ta) (liftE X.K E tb) (liftE X.K E tc) σ H Q := by
  obtain ⟨s, M, Qd, Xd, S, x, t, q⟩ := z
  refine useE S x t fun dx v M1 H1 g1 S1 x1 r1 t1 => ?_
  refine useE S1 x1 t1 fun dy u M2 H2 g2 S2 x2 r2 t2 => ?_
  refine hr S2.mem (Rv.grow g2 _ _ r1) r2 t2 fun w H' ⟨d, M', g, m, rd, z⟩ => ?_
  unfold chK at z
  split at z
  · rename_i k
    refine ⟨k, rd, ?_⟩
    cases k with
    | false => exact q _ _ ⟨.bl false, M', (g1.trans g2).trans g, m, rfl, z⟩
    | true =>
      refine useE (S2.grow g m) (x2.grow g) z fun dz w M3 H3 g3 S3 x3 r3 t3 => ?_
      exact hr' S3.mem (Rv.grow g3 _ _ (Rv.grow g _ _ r2)) r3 t3 (fwd (((g1.trans g2).trans g).trans g3) q)
  · exact z.elim
theorem de_chain {op op' : CmpOp} {o1 o2 : O2} {tc : TED} (h : DOp X (compareOp op) o1) (h' : DOp X (compareOp op') o2) (ha : DE X E a ta) (hb : DE X E b tb) (hc : DE X E c tc) (hm : lastMarks [op, op'] [b, c] = false := by with_unfolding_all rfl) :
    DE X E (.Compare a [op, op'] [b, c] pos) (dChain o1 o2 ta tb tc) :=
  ⟨PE.imp (pe_chain h.toR h'.toR ha.ok hb.ok hc.ok hm) fun σ H Q z => lift_chain (fun mo r1 r2 t q => ⟨_, _, _, _, mo, r1, r2, t, q⟩) (fun mo r1 r2 t q => ⟨_, _, _, _, mo, r1, r2, t, q⟩) z⟩
theorem dt_chain {op op' : CmpOp} {o1 o2 : O2} {tc : TED} (h : DOp X (compareOp op) o1) (h' : DOp X (compareOp op') o2) (ha : DE X E a ta) (hb : DE X E b tb) (hc : DE X E c tc) (hm : lastMarks [op, op'] [b, c] = false := by with_unfolding_all rfl) :
    DT X E (.Compare a [op, op'] [b, c] pos) (dTst (dChain o1 o2 ta tb tc)) :=
  ⟨PT.imp (pt_chain h.toR h'.toR ha.ok hb.ok hc.ok hm) fun σ H Q z => lift_chain (fun mo r1 r2 t q => ⟨_, _, _, _, mo, r1, r2, t, q⟩) (fun mo r1 r2 t q => ⟨_, _, _, _, mo, r1, r2, t, q⟩) (liftB z)⟩
/-! ### subscripts -/
def valD (ks : List Key) (ds : List D) (k : Key) : Option D := ((ks.zip ds).find? fun kv => decide (kv.1 = k)).map (·.2)
def keyD : D → Option Key
  | .int i => some (.inl i)
  | .str x => some (.inr x)
  | _ => none
theorem zip_val {K : Fg} {H : Hp} {M : Mem} (k : Key) : ∀ {ks : List Key} {ds : List D} {xs : List V}, Rs K H M ds xs → ∀ {d : D}, valD ks ds k = some d → ∃ v, valV (ks.zip xs) k = some v ∧ Rv K H M d v
  | [], ds, xs, r, d, e => by cases e
  | j :: ks, [], xs, r, d, e => by
    have : valD (j :: ks) [] k = none := rfl
    rw [this] at e; cases e
  | j :: ks, d0 :: ds, _, ⟨v, rr, rfl, h, q⟩, d, e => by
    by_cases hj : j = k
    · have e1 : valD (j :: ks) (d0 :: ds) k = some d0 := by
        unfold valD
        rw [List.zip_cons_cons, List.find?_cons]
        simp [hj]
      rw [e1] at e; cases e
      exact ⟨v, by rw [List.zip_cons_cons]; exact valV_pos hj, h⟩
    · have e1 : valD (j :: ks) (d0 :: ds) k = valD ks ds k := by
        unfold valD
        rw [List.zip_cons_cons, List.find?_cons]
        simp [hj]
      rw [e1] at e
      obtain ⟨w, h1, h2⟩ := zip_val k q e
      exact ⟨w, by rw [List.zip_cons_cons, valV_neg hj]; exact h1, h2⟩
theorem zip_none {K : Fg} {H : Hp} {M : Mem} (k : Key) : ∀ {ks : List Key} {ds : List D} {xs : List V}, Rs K H M ds xs → (valV (ks.zip xs) k).isSome = (valD ks ds k).isSome
  | [], ds, xs, r => rfl
  | j :: ks, [], xs, r => by
    have e : xs = [] := r
    subst e; rfl
  | j :: ks, d0 :: ds, _, ⟨v, rr, rfl, h, q⟩ => by
    by_cases hj : j = k
    · have e1 : valD (j :: ks) (d0 :: ds) k = some d0 := by
        unfold valD
        rw [List.zip_cons_cons, List.find?_cons]
        simp [hj]
      rw [e1, List.zip_cons_cons, valV_pos hj]; rfl
    · have e1 : valD (j :: ks) (d0 :: ds) k = valD ks ds k := by
        unfold valD
        rw [List.zip_cons_cons, List.find?_cons]
        simp [hj]
      rw [e1, List.zip_cons_cons, valV_neg hj]
      exact zip_none k q
theorem key_of_d {K : Fg} {H : Hp} {M : Mem} {d : D} {k : Key} {v : V} (r : Rv K H M d v) (e : keyD d = some k) : v = kV k := by
  cases d with
  | int i => have e' : some (Sum.inl i) = some k := e; cases e'; exact r
  | str x => have e' : some (Sum.inr x) = some k := e; cases e'; exact r
  | _ => cases e
theorem ix_dict (hu : X.A.units + 1 < cLine) : IxR X (fun x y H Q => ∃ a v, x = .ref a ∧ DGet H a y (some v) ∧ Q v H) := by
  intro value slice pins s σ H x y v u Q I rx ry h hs
  obtain ⟨p, w, rfl, g, q⟩ := h
  cases rx
  exact tail_any (dict_typeIs I g) PySem.F.slot_dict_getitem.lookup (d_getItem hu I g ry fun w' s3 I3 rw' => ⟨w, H, I3, rw', q⟩) hs
def ixO (M : Mem) (x y : D) : Option D := match vw M x with
  | .tup ds => match y with
    | .int i => atI ds i
    | _ => none
  | .lst ds => match y with
    | .int i => atI ds i
    | _ => none
  | .fzn ds => match y with
    | .int i => atI ds i
    | _ => none
  | .dct ks ds => match keyD y with
    | some k => valD ks ds k
    | none => none
  | .str z => match y with
    | .int i => if z.length ≤ sizeLine then (atI z.cps.toList i).map fun c => .str ⟨#[c]⟩ else none
    | _ => none
  | _ => none
def ixD : O2 := fun x y M Q => match ixO M x y with
  | some d => Q d M
  | none => False
theorem atI_rs {K : Fg} {H : Hp} {M : Mem} {ds : List D} {xs : List V} {i : Int} {d : D} (r : Rs K H M ds xs) (e : atI ds i = some d) : ∃ v, atI xs i = some v ∧ Rv K H M d v := by
  unfold atI at e ⊢
  rw [← Rs.len r]
  cases q : ixN ds.length i with
  | none => rw [q] at e; cases e
  | some j =>
    rw [q] at e
    exact Rs.get r e
theorem de_ix (hu : X.A.units + 1 < cLine) (ha : DE X E a ta) (hb : DE X E b tb) (hs : PlainIx b) : DE X E (.Subscript a b pos) (dOp ixD ta tb) :=
  ⟨PE.imp (pe_ix (ix_seq.or (ix_dict hu)) ha.ok hb.ok hs) fun σ H Q z => lift2 (fun {x y H Q M dx dy Qd} mo r1 r2 t q => by
    unfold ixD at t
    split at t
    · rename_i d hd
      unfold ixO at hd
      split at hd
      · rename_i ds h
        split at hd
        · rename_i i
          obtain ⟨p, xs, rfl, hp, sp⟩ := vw_tup r1 h
          obtain ⟨v, hv, rv⟩ := atI_rs sp hd
          exact .inl (.inr (.inl ⟨p, xs, i, v, rfl, r2, hp.sq, hv, q _ _ ⟨d, M, Gw.refl, mo, rv, t⟩⟩))
        · cases hd
      · rename_i ds h
        split at hd
        · rename_i i
          obtain ⟨p, xs, rfl, hp, sp⟩ := vw_lst mo r1 h
          obtain ⟨v, hv, rv⟩ := atI_rs sp hd
          exact .inl (.inl ⟨p, xs, i, v, rfl, r2, SqL.of hp, hv, q _ _ ⟨d, M, Gw.refl, mo, rv, t⟩⟩)
        · cases hd
      · rename_i ds h
        split at hd
        · rename_i i
          obtain ⟨p, xs, rfl, hp, sp⟩ := vw_fzn r1 h
          obtain ⟨v, hv, rv⟩ := atI_rs sp hd
          exact .inl (.inl ⟨p, xs, i, v, rfl, r2, hp.sq, hv, q _ _ ⟨d, M, Gw.refl, mo, rv, t⟩⟩)
        · cases hd
      · rename_i ks ds h
        split at hd
        · rename_i k hk
          obtain ⟨p, xs, rfl, hp, hl, sp⟩ := vw_dct mo r1 h
          obtain ⟨v, hv, rv⟩ := zip_val k sp hd
          refine .inr ⟨p, v, rfl, ?_, q _ _ ⟨d, M, Gw.refl, mo, rv, t⟩⟩
          rw [key_of_d r2 hk, ← hv]
          exact DGet.k hp
        · cases hd
      · rename_i z h
        split at hd
        · rename_i i
          split at hd
          · rename_i hz
            cases hc : atI z.cps.toList i with
            | none => rw [hc] at hd; cases hd
            | some c =>
              rw [hc] at hd
              cases hd
              exact .inl (.inr (.inr ⟨z, i, c, vw_str r1 h, r2, hz, hc, q _ _ ⟨.str ⟨#[c]⟩, M, Gw.refl, mo, rfl, t⟩⟩))
          · cases hd
        · cases hd
      · cases hd
    · exact t.elim) z⟩
end
end DL
set_option maxHeartbeats 1000000
namespace DL
open PySem PySem.Spec PyProof.Rows L2
/-! ### defs -/
structure RoomG (k : Nat) (A : Around) : Prop where
  r : Room k A
  g : A.guards = some []
theorem RoomG.mono {j k : Nat} {A : Around} (h : RoomG k A) (le : j ≤ k) : RoomG j A := ⟨h.r.mono le, h.g⟩
theorem RoomG.deeper {k : Nat} {A : Around} (h : RoomG (k + 1) A) (env : Env) : RoomG k (A.deeper env) := ⟨h.r.deeper env, h.g⟩
abbrev SpD := List D → Mem → QD → XD → Prop
structure DFn (P : Program) (w : World) (K : Fg) (mg : Str → Option Value) (base : Heap) (k : Nat) (f : Addr) (fd : FuncData) (ps : List Str) (sp : SpD) : Prop where
  run : ∀ (A : Around) (outer : List Env) (s : Shared) (H : Hp) (M : Mem) (args : Args) (us : List Value) (vs : List V) (ds : List D) (Qd : QD) (Xd : XD) (Q : VK) (E : XK), RoomG k A → Env0 P w K mg base A outer s H → ds.length = ps.length → BindsTo s fd args (ps.zip us) → Vals vs us → MOk K H M → Rs K H M ds vs →
    sp ds M Qd Xd → (∀ v H', upE K H M Qd v H' → Q v H') → XTo K H M Xd E → codeAny (model P w) A (.call (.ref f) args) (CR (L2.CX P w) outer P w H s Q E) s
theorem DFn.mono {P : Program} {w : World} {K : Fg} {mg : Str → Option Value} {base : Heap} {j k : Nat} {f : Addr} {fd : FuncData} {ps : List Str} {sp : SpD} (F : DFn P w K mg base j f fd ps sp) (h : j ≤ k) : DFn P w K mg base k f fd ps sp :=
  ⟨fun A outer s H M args us vs ds Qd Xd Q E hr => F.run A outer s H M args us vs ds Qd Xd Q E (hr.mono h)⟩
/-- the result may be read as other data, of less that is owned -/
structure Le (M M2 : Mem) (d d2 : D) : Prop where
  sub : ∀ a o, M2 a = some o → M a = some o
  nn : ∀ a, M a = none → M2 a = none
  rv : ∀ (K : Fg) (H : Hp) (v : V), MOk K H M → Rv K H M d v → Rv K H M2 d2 v
def Lo (Q : QD) : QD := fun d M => ∃ d2 M2, Le M M2 d d2 ∧ Q d2 M2
theorem Le.refl {M : Mem} {d : D} : Le M M d d := ⟨fun _ _ h => h, fun _ h => h, fun _ _ _ _ h => h⟩
theorem lo_same {Q : QD} {d : D} {M : Mem} (h : Q d M) : Lo Q d M := ⟨d, M, .refl, h⟩
/-- drop what is owned at a -/
theorem lo_drop {Q : QD} {d : D} {M : Mem} (a : Addr) (h : Lo Q d (M.del a)) : Lo Q d M := by
  obtain ⟨d2, M2, l, q⟩ := h
  have hs : ∀ b o, (M.del a) b = some o → M b = some o := fun b o e => by
    by_cases z : b = a
    · subst z; rw [Mem.del_same] at e; cases e
    · rw [Mem.del_ne z] at e; exact e
  have hn : ∀ b, M b = none → (M.del a) b = none := fun b e => by
    by_cases z : b = a
    · subst z; exact Mem.del_same
    · rw [Mem.del_ne z]; exact e
  exact ⟨d2, M2, ⟨fun b o e => hs b o (l.sub b o e), fun b e => l.nn b (hn b e), fun K H v mo r => l.rv K H v (mok_less hs hn mo) (Rv.grow (gw_less hn) d v r)⟩, q⟩
theorem Le.up {K : Fg} {H H' : Hp} {M M1 M2 : Mem} {d d2 : D} {v : V} {Q : QD} (l : Le M1 M2 d d2) (g : Gw H M H' M1) (m : MOk K H' M1) (r : Rv K H' M1 d v) (q : Q d2 M2) : upE K H M Q v H' :=
  ⟨d2, M2, g.trans (gw_less l.nn), mok_less l.sub l.nn m, l.rv K H' v m r, q⟩
/-- the names' values at the entry, as data -/
def startD (N : List Str) (ds : List D) : SD := ds.map some ++ List.replicate (N.length - ds.length) none
theorem start_ok {K : Fg} {H : Hp} {M : Mem} {N : List Str} {ds : List D} {vs : List V} (mo : MOk K H M) (r : Rs K H M ds vs) : StOk K (L2.start N vs) H (startD N ds) M := by
  have hl := Rs.len r
  refine ⟨by unfold L2.start startD; rw [List.length_append, List.length_append, List.length_map, List.length_map, List.length_replicate, List.length_replicate, hl], fun i d e => ?_, mo⟩
  unfold startD at e
  by_cases hi : i < ds.length
  · rw [List.getElem?_append_left (by simpa using hi), List.getElem?_map] at e
    cases q : ds[i]? with
    | none => rw [q] at e; cases e
    | some d' =>
      rw [q] at e
      cases e
      obtain ⟨v, h1, h2⟩ := Rs.get r q
      refine ⟨v, ?_, h2⟩
      unfold L2.start
      rw [List.getElem?_append_left (by rw [List.length_map, ← hl]; exact hi), List.getElem?_map, h1]
      rfl
  · rw [List.getElem?_append_right (by simpa using hi), List.getElem?_replicate] at e
    split at e <;> cases e
/-- a def's body, read as td, keeps sp -/
def bodyD (td : TSD) (N : List Str) : SpD := fun ds M Q Xd => td { nx := fun _ M' => Lo Q .non M', rt := Lo Q, bk := fun _ _ => False, ct := fun _ _ => False, ex := Xd } (startD N ds) M
theorem dfn_of {P : Program} {w : World} {K : Fg} {mg : Str → Option Value} {base : Heap} {x qual : Str} {st : Stmt} {f : Addr} {fd : FuncData} {N ps : List Str} {k : Nat} {td : TSD} (F : Fun K x qual st f fd) (S : FnScope N ps (defScope st))
    (hbody : ∀ (cdv : Value) (A : Around) (outer : List Env) (s : Shared) (H : Hp) (E : XK), RoomG k (A.deeper (envOfC qual (defScope st) s.heap.objs.size f cdv)) →
      DSs (cxOf (L2.CX P w) P w K mg base N qual (defScope st) f cdv A outer s H E) E (defBody st) td) : DFn P w K mg base (k + 1) f fd ps (bodyD td N) := by
  obtain ⟨oc, od, kV, doc, pm, an, cdv, ct, osl, rfl, lk, hcd⟩ := F.ex
  refine ⟨fun A outer s H M args us vs ds Qd Xd Q E hr e0 hlen hb r mo rs hsp hq hx => ?_⟩
  have hl : vs.length = ps.length := (vlen rs).trans hlen
  have KX : K.In s.heap := e0.mod.kin.keeps fun b o e => (e0.bs b o e).1
  have lim : s.heap.NoLimit := e0.mod.nolimit.keeps fun b o e => (e0.bs b o e).1
  have hkind : ∀ y ∈ ps.zip us, (defScope st).names.lookup y.1 = some .local ∨ ((defScope st).names.lookup y.1 = some .cell ∧ ((cellsFrom (s.heap.objs.size + 1) (defScope st).names []).lookup y.1).isSome = true) := fun ⟨n, v⟩ hy => by
    rcases S.par n (List.of_mem_zip hy).1 with q | q
    · exact .inl q
    · exact .inr ⟨q, PySem.W.cellsFrom_some _ _ _ (.inl q)⟩
  refine codeAny_call_function hr.r.depth (KX _ _ lk) rfl S.co S.gen rfl (PySem.W.codeRec_of KX hcd) (hb _ _ _ _ ?_)
  refine wpAny_newFunctionEnv_cells S.kind hkind fun env he s1 x => ?_
  subst he
  refine ⟨lim.keeps x.toInCall.keep, codeAny_func ?_⟩
  have ht := hbody cdv A outer s H E (hr.deeper _)
  have I : Inv (cxOf (L2.CX P w) P w K mg base N qual (defScope st) f cdv A outer s H E) [] (L2.start N vs) H s1 := inv_start S hr.r.hd e0 hl r x
  refine wpAny_mono (ht.ok.run [] s1 (L2.start N vs) H { nx := fun _ H' => Q .non H', rt := Q } I ?_) (fun fl s' hs => ?_) fun e s' hs => hs
  · refine ⟨startD N ds, M, { nx := fun _ M' => Lo Qd .non M', rt := Lo Qd, bk := fun _ _ => False, ct := fun _ _ => False, ex := Xd }, start_ok mo rs, hx, hsp, fun σ' H' ⟨s', M', g, S', q⟩ => ?_, fun v H' ⟨d, M', g, m, rd, q⟩ => ?_, fun σ' H' ⟨s', M', g, S', q⟩ => q.elim, fun σ' H' ⟨s', M', g, S', q⟩ => q.elim⟩
    · obtain ⟨d2, M2, l, q⟩ := q
      exact hq _ _ (l.up g S'.mem rfl q)
    · obtain ⟨d2, M2, l, q⟩ := q
      exact hq _ _ (l.up g m rd q)
  have fin : ∀ {σ' : L2.St} {H' : Hp} {v : V} {u : Value}, Inv (cxOf (L2.CX P w) P w K mg base N qual (defScope st) f cdv A outer s H E) [] σ' H' s' → RelV v u → Q v H' → CE outer P w H s Q u s' :=
    fun {σ' H' v u} J rv q => ⟨v, H', J.os, J.bare, J.base, J.hok, rv, q⟩
  cases fl with
  | ret u =>
    obtain ⟨v, σ', H', J, rv, q⟩ := hs
    exact fin J rv q
  | next =>
    obtain ⟨σ', H', J, q⟩ := hs
    exact fin (v := V.non) (u := Value.none) J rfl q
  | brk =>
    obtain ⟨_, _, _, q⟩ := hs
    exact False.elim q
  | cont =>
    obtain ⟨_, _, _, q⟩ := hs
    exact False.elim q
section
variable {X : Cx} {E : XK} {n k : Nat} {f : Addr} {fd : FuncData} {ps : List Str} {sp : SpD} {ds0 : List Value} {dvs : List V} {dd : List D} {x : Str} {p pos : Pos} {e a b c : Expr} {es : List Expr} {ts : TAD} {te ta tb : TED}
theorem run_fnD {pins : List (Addr × Obj)} {σ : L2.St} {H : Hp} {M : Mem} {s : Shared} {Q : VK} {Qd : QD} {Xd : XD} {us : List Value} {vs : List V} {ds : List D} (F : DFn X.prog X.w X.K X.mg X.base k f fd ps sp) (hr : RoomG k X.A) (hb : Binds X.K fd ps ds0) (hd : Vals dvs ds0) (hx : Passes (L2.CX X.prog X.w) X E)
    (I : Inv X pins σ H s) (r : Vals vs us) (mo : MOk X.K H M) (rs : Rs X.K H M ds vs) (rd : Rs X.K H M dd dvs) (hlen : (ds ++ dd).length = ps.length) (h : sp (ds ++ dd) M Qd Xd) (q : ∀ v H', upE X.K H M Qd v H' → Q v H') (xt : XTo X.K H M Xd E) :
    wpAny (model X.prog X.w) X.A (call (.ref f) us) (EP X pins σ Q) X.xe s := by
  have r2 : Vals (vs ++ dvs) (us ++ ds0) := r.append hd
  have hl : (us ++ ds0).length = ps.length := by rw [← r2.length, ← hlen]; exact vlen (Rs.append rs rd)
  refine wpAny_call (codeAny_mono (F.run X.A X.stack s H M ⟨us, []⟩ (us ++ ds0) (vs ++ dvs) (ds ++ dd) Qd Xd Q E hr I.env0 hlen (hb s us I.kIn hl) r2 mo (Rs.append rs rd) h q xt) fun r s' hq => ?_)
  cases r with
  | error e => exact hx pins σ H s e s' I hq
  | ok fl =>
    cases fl with
    | ret u => exact I.after hq
    | next => exact False.elim hq
    | brk => exact False.elim hq
    | cont => exact False.elim hq
def dCall (sp : SpD) (dd : List D) (t : TAD) : TED := fun Xd s M Q => t Xd s M fun ds M1 => sp (ds ++ dd) M1 Q Xd
theorem de_call (F : DFn X.prog X.w X.K X.mg X.base k f fd ps sp) (hr : RoomG k X.A) (hg : Gl X x) (hm : X.mg x = some (.ref f)) (hk : PySem.W.keepIn X.K (.ref f) = true) (hb : Binds X.K fd ps ds0) (hd : Vals dvs ds0) (rd : ∀ H M, Rs X.K H M dd dvs) (hx : Passes (L2.CX X.prog X.w) X E)
    (ha : DN X E n (e :: es) ts) (hn : n + dvs.length = ps.length := by rfl) (hdb : (x == ("__debug__" : Str)) = false := by decide) (he : starEach (e :: es) X.env = (false, eval e X.env) :: starEach es X.env := by rfl) (hpl : (backTo pos (starEach es X.env)).any (·.1) = false := by rfl) :
    DE X E (.Call (.Name x p) (e :: es) [] pos) (dCall sp dd ts) := by
  refine ⟨⟨fun pins s σ H Q I ⟨sd, M, Qd, Xd, S, xt, t, q⟩ => ?_⟩⟩
  refine wpAny_Call_Name_kw (ld_glob I hg hm ?_ hdb)
  refine PySem.W.callWith_K (h₀ := X.base) I.ok.mod.kin hk (thn (ha.ok.run pos pins s σ H _ I (useN (n := n) (Q := fun vs H1 => vs.length = n ∧ ∃ ds M1, Gw H M H1 M1 ∧ StOk X.K σ H1 sd M1 ∧ XTo X.K H1 M1 Xd E ∧ Rs X.K H1 M1 ds vs ∧ sp (ds ++ dd) M1 Qd Xd) S xt t
    fun ds vs M1 H1 hl g1 S1 x1 r1 t1 => ⟨hl, ds, M1, g1, S1, x1, r1, t1⟩)) fun us s1 ⟨vs, H1, I1, r, hl, ds, M1, g1, S1, x1, r1, t1⟩ => ⟨I1.kIn, ?_⟩) he hpl
  refine run_fnD F hr hb hd hx I1 r S1.mem r1 (rd H1 M1) ?_ t1 (fwd g1 q) x1
  have h1 : ds.length = n := by rw [Rs.len r1, hl]
  have h2 : dd.length = dvs.length := Rs.len (rd H1 M1)
  rw [List.length_append, h1, h2]
  exact hn
theorem de_call0 (F : DFn X.prog X.w X.K X.mg X.base k f fd ps sp) (hr : RoomG k X.A) (hg : Gl X x) (hm : X.mg x = some (.ref f)) (hk : PySem.W.keepIn X.K (.ref f) = true) (hb : Binds X.K fd ps ds0) (hd : Vals dvs ds0) (rd : ∀ H M, Rs X.K H M dd dvs) (hx : Passes (L2.CX X.prog X.w) X E)
    (hn : dvs.length = ps.length := by rfl) (hdb : (x == ("__debug__" : Str)) = false := by decide) : DE X E (.Call (.Name x p) [] [] pos) (dCall sp dd dNil) := by
  refine ⟨⟨fun pins s σ H Q I ⟨sd, M, Qd, Xd, S, xt, t, q⟩ => ?_⟩⟩
  refine wpAny_Call_Name_kw (ld_glob I hg hm ?_ hdb)
  refine PySem.W.callWith_K0 I.kIn hk (run_fnD (us := []) (vs := []) (ds := []) F hr hb hd hx I .nil S.mem rfl (rd H M) ?_ t q xt)
  rw [List.nil_append, Rs.len (rd H M)]
  exact hn
/-! ### statements -/
theorem fwdE {K : Fg} {H H1 : Hp} {M M1 : Mem} {Y : EndsD} {Z : Ends} (g : Gw H M H1 M1)
    (h : (∀ σ' H', upS K H M Y.nx σ' H' → Z.nx σ' H') ∧ (∀ v H', upE K H M Y.rt v H' → Z.rt v H') ∧ (∀ σ' H', upS K H M Y.bk σ' H' → Z.bk σ' H') ∧ (∀ σ' H', upS K H M Y.ct σ' H' → Z.ct σ' H')) :
    (∀ σ' H', upS K H1 M1 Y.nx σ' H' → Z.nx σ' H') ∧ (∀ v H', upE K H1 M1 Y.rt v H' → Z.rt v H') ∧ (∀ σ' H', upS K H1 M1 Y.bk σ' H' → Z.bk σ' H') ∧ (∀ σ' H', upS K H1 M1 Y.ct σ' H' → Z.ct σ' H') :=
  ⟨fwdS g h.1, fwd g h.2.1, fwdS g h.2.2.1, fwdS g h.2.2.2⟩
theorem upS_here {K : Fg} {σ : L2.St} {H : Hp} {M : Mem} {s : SD} {Q : SD → Mem → Prop} (S : StOk K σ H s M) (q : Q s M) : upS K H M Q σ H := ⟨s, M, Gw.refl, S, q⟩
variable {st : Stmt} {rest body orelse : List Stmt} {t u : TSD}
def sNx : TSD := fun Y s M => Y.nx s M
def sSeq (t u : TSD) : TSD := fun Y s M => t { Y with nx := u Y } s M
theorem dss_nil : DSs X E [] sNx := ⟨PSs.imp pss_nil fun Z σ H ⟨s, M, Y, S, x, t, h⟩ => h.1 _ _ (upS_here S t)⟩
theorem dss_cons (h1 : DS X E st t) (h2 : DSs X E rest u) : DSs X E (st :: rest) (sSeq t u) :=
  ⟨PSs.imp (pss_cons h1.ok h2.ok) fun Z σ H ⟨s, M, Y, S, x, z, h⟩ => by
    refine ⟨s, M, { Y with nx := u Y }, S, x, z, fun σ' H' ⟨s', M', g, S', z'⟩ => ?_, h.2.1, h.2.2.1, h.2.2.2⟩
    exact ⟨s', M', Y, S', x.grow g, z', fwdE g h⟩⟩
theorem dss_one (h1 : DS X E st t) : DSs X E [st] t := ⟨pss_one h1.ok⟩
def sBk : TSD := fun Y s M => Y.bk s M
def sCt : TSD := fun Y s M => Y.ct s M
def sExpr (te : TED) : TSD := fun Y s M => te Y.ex s M fun _ M1 => Y.nx s M1
theorem ds_expr (he : DE X E e te) (hs : swapsWith e none pos.line X.env = pure false := by rfl) : DS X E (.Expr e pos) (sExpr te) :=
  ⟨PS.imp (ps_expr he.ok hs) fun Z σ H ⟨s, M, Y, S, x, t, h⟩ => useE S x t fun d v M1 H1 g1 S1 x1 r1 t1 => h.1 _ _ ⟨s, M1, g1, S1, t1⟩⟩
def sRet (te : TED) : TSD := fun Y s M => te Y.ex s M Y.rt
theorem ds_ret (he : DE X E e te) : DS X E (.Return (some e) pos) (sRet te) :=
  ⟨PS.imp (ps_ret he.ok) fun Z σ H ⟨s, M, Y, S, x, t, h⟩ => useE S x t fun d v M1 H1 g1 S1 x1 r1 t1 => h.2.1 _ _ ⟨d, M1, g1, S1.mem, r1, t1⟩⟩
def sRetN : TSD := fun Y s M => Y.rt .non M
def sIf (c : TTD) (t u : TSD) : TSD := fun Y s M => c Y.ex s M fun b M1 => if b = true then t Y s M1 else u Y s M1
theorem ds_if {tc : TTD} (hc : DT X E c tc) (ha : DSs X E body t) (hb : DSs X E orelse u) : DS X E (.If c body orelse pos) (sIf tc t u) :=
  ⟨PS.imp (ps_if hc.ok ha.ok hb.ok) fun Z σ H ⟨s, M, Y, S, x, z, h⟩ => useT S x z fun k M1 H1 g1 S1 x1 t1 => by
    cases k with
    | true => exact ⟨s, M1, Y, S1, x1, t1, fwdE g1 h⟩
    | false => exact ⟨s, M1, Y, S1, x1, t1, fwdE g1 h⟩⟩
/-! ### targets -/
abbrev TGD := D → XD → SD → Mem → (SD → Mem → Prop) → Prop
abbrev TGsD := List D → XD → SD → Mem → (SD → Mem → Prop) → Prop
structure DG (X : Cx) (E : XK) (target : Expr) (t : TGD) : Prop where
  ok : ∃ g, PG X target g ∧ ∀ {v : V} {d : D} {σ : L2.St} {H : Hp} {s : SD} {M : Mem} {Xd : XD} {Qd : SD → Mem → Prop} {Q : L2.St → Hp → Prop}, StOk X.K σ H s M → XTo X.K H M Xd E → Rv X.K H M d v → t d Xd s M Qd →
    (∀ σ' H', upS X.K H M Qd σ' H' → Q σ' H') → g v σ H Q
structure DGs (X : Cx) (E : XK) (targets : List Expr) (n : Nat) (t : TGsD) : Prop where
  ok : ∃ g, PGs X targets g ∧ ∀ {vs : List V} {ds : List D} {σ : L2.St} {H : Hp} {s : SD} {M : Mem} {Xd : XD} {Qd : SD → Mem → Prop} {Q : L2.St → Hp → Prop}, StOk X.K σ H s M → XTo X.K H M Xd E → Rs X.K H M ds vs → t ds Xd s M Qd →
    (∀ σ' H', upS X.K H M Qd σ' H' → Q σ' H') → g vs σ H Q
def gNm (i : Nat) : TGD := fun d _ s M Q => Q (s.set i (some d)) M
theorem dg_name {i : Nat} {x : Str} (hN : X.N.Nodup) (hi : X.N[i]? = some x) (hx : Loc X.env.scope x) (hf : X.fn x = true ∨ X.env.scope.names.lookup x = some .local := by first | exact .inl rfl | exact .inr rfl | assumption) : DG X E (.Name x pos) (gNm i) :=
  ⟨gName i, pg_name hN hi hx hf, fun S x r t q => q _ _ ⟨_, _, Gw.refl, S.set i r, t⟩⟩
def gNi : TGsD := fun ds _ s M Q => match ds with
  | [] => Q s M
  | _ => False
def gCo (t : TGD) (u : TGsD) : TGsD := fun ds Xd s M Q => match ds with
  | [] => False
  | d :: r => t d Xd s M fun s' M' => u r Xd s' M' Q
theorem dgs_nil : DGs X E [] 0 gNi := ⟨gNil, pgs_nil, fun {vs ds σ H s M Xd Qd Q} S x r t q => by
  cases ds with
  | nil => exact ⟨r, q _ _ (upS_here S t)⟩
  | cons d ds => exact t.elim⟩
theorem dgs_cons {t : TGD} {u : TGsD} (h1 : DG X E e t) (h2 : DGs X E es n u) (hs : (assignEach (e :: es) X.env).map (·.2) = assign e X.env :: (assignEach es X.env).map (·.2) := by rfl) : DGs X E (e :: es) (n + 1) (gCo t u) := by
  obtain ⟨g1, p1, q1⟩ := h1.ok
  obtain ⟨g2, p2, q2⟩ := h2.ok
  refine ⟨gCons g1 g2, pgs_cons p1 p2 hs, fun {vs ds σ H s M Xd Qd Q} S x r t q => ?_⟩
  cases ds with
  | nil => exact t.elim
  | cons d ds =>
    obtain ⟨v, vr, rfl, rd, rr⟩ := r
    refine ⟨v, vr, rfl, q1 S x rd t fun σ' H' ⟨s', M', g, S', z⟩ => ?_⟩
    exact q2 S' (x.grow g) (Rs.grow g _ _ rr) z (fwdS g q)
def gTp (n : Nat) (t : TGsD) : TGD := fun d Xd s M Q => match vw M d with
  | .tup ds => ds.length = n ∧ t ds Xd s M Q
  | _ => False
theorem dg_tup {k : Nat} {t : TGsD} (hc : X.calm = true) (h : DGs X E es n t) (hn : (assignEach es X.env).length = n := by rfl) (hst : (assignEach es X.env).findIdx? (·.1) = none := by rfl) : DG X E (.Tuple es k pos) (gTp n t) := by
  obtain ⟨g1, p1, q1⟩ := h.ok
  refine ⟨gTup X.K n g1, pg_tup hc p1 hn hst, fun {v d σ H s M Xd Qd Q} S x r t q => ?_⟩
  unfold gTp at t
  split at t
  · rename_i ds hd
    obtain ⟨a, xs, rfl, ha, sa⟩ := vw_tup r hd
    exact ⟨a, xs, rfl, ha.sq, by rw [vlen sa]; exact t.1, q1 S x sa t.2 q⟩
  · exact t.elim
def sAsg (te : TED) (g : TGD) : TSD := fun Y s M => te Y.ex s M fun d M1 => g d Y.ex s M1 Y.nx
theorem ds_asg {tg : Expr} {g : TGD} (he : DE X E e te) (hg : DG X E tg g) (hs : swapsWithSole [tg] e pos.line X.env = pure false := by rfl) (hw : swappedStores [tg] e X.env = pure none := by rfl)
    (h1 : (assignEach [tg] X.env).map (·.2) = [assign tg X.env] := by rfl) : DS X E (.Assign [tg] e pos) (sAsg te g) := by
  obtain ⟨g1, p1, q1⟩ := hg.ok
  exact ⟨PS.imp (ps_asg he.ok p1 hs hw h1) fun Z σ H ⟨s, M, Y, S, x, t, h⟩ => useE S x t fun d v M1 H1 gr S1 x1 r1 t1 => q1 S1 x1 r1 t1 (fwdS gr h.1)⟩
def sSet (i : Nat) (te : TED) : TSD := fun Y s M => te Y.ex s M fun d M1 => Y.nx (s.set i (some d)) M1
theorem ds_set {i : Nat} {x : Str} {pos' : Pos} (hN : X.N.Nodup) (hi : X.N[i]? = some x) (hx : Loc X.env.scope x) (he : DE X E e te) (hs : swapsWith e (some (.Name x pos')) pos.line X.env = pure false := by rfl) (hf : X.fn x = true ∨ X.env.scope.names.lookup x = some .local := by first | exact .inl rfl | exact .inr rfl | assumption) :
    DS X E (.Assign [.Name x pos'] e pos) (sSet i te) :=
  ⟨PS.imp (ps_set hN hi hx he.ok hs hf) fun Z σ H ⟨s, M, Y, S, x, t, h⟩ => useE S x t fun d v M1 H1 g1 S1 x1 r1 t1 => h.1 _ _ ⟨_, M1, g1, S1.set i r1, t1⟩⟩
/-- a, b = x, y -/
def sPar (i j : Nat) (ta : TAD) : TSD := fun Y s M => ta Y.ex s M fun ds M1 => match ds with
  | [d, e] => Y.nx ((s.set i (some d)).set j (some e)) M1
  | _ => False
/-! ### loops -/
/-- a walk gives the items ds, one by one, while what is watched stands -/
structure ItOk (K : Fg) (J : It) (H0 : Hp) (M0 : Mem) (ow : Option Addr) (ds : List D) : Prop where
  go : ∀ i H M, Gw H0 M0 H M → MOk K H M → (∀ a, ow = some a → M a = M0 a) → i < ds.length → J.go i H ∧ ∀ x H', J.yld i H x H' → ∃ d, ds[i]? = some d ∧ Gw H M H' M ∧ MOk K H' M ∧ Rv K H' M d x
  stop : ∀ H M, Gw H0 M0 H M → MOk K H M → (∀ a, ow = some a → M a = M0 a) → J.stop ds.length H
abbrev TID := XD → SD → Mem → (List D → Option Addr → Mem → Prop) → Prop
structure DI (X : Cx) (E : XK) (tg iter : Expr) (ti : TID) : Prop where
  ok : ∃ wi, PI X tg iter wi ∧ ∀ {σ : L2.St} {H : Hp} {s : SD} {M : Mem} {Xd : XD} {Qd : List D → Option Addr → Mem → Prop} {R : It → Hp → Prop}, StOk X.K σ H s M → XTo X.K H M Xd E → ti Xd s M Qd →
    (∀ J H' M' ow ds, Gw H M H' M' → MOk X.K H' M' → ItOk X.K J H' M' ow ds → Qd ds ow M' → R J H') → wi σ H R
def wat (ow : Option Addr) (M0 M : Mem) : Prop := match ow with
  | some a => M a = M0 a
  | none => True
theorem wat_of {ow : Option Addr} {M0 M : Mem} (h : wat ow M0 M) : ∀ a, ow = some a → M a = M0 a := fun a e => by subst e; exact h
def sForL (g : TGD) (tb : TSD) (Y : EndsD) (W : Mem → Prop) : List D → SD → Mem → Prop
  | [], s, M => W M ∧ Y.nx s M
  | d :: ds, s, M => W M ∧ g d Y.ex s M fun s' M' => tb { Y with nx := sForL g tb Y W ds, ct := sForL g tb Y W ds, bk := Y.nx } s' M'
def sFor (ti : TID) (g : TGD) (tb : TSD) : TSD := fun Y s M => ti Y.ex s M fun ds ow M1 => sForL g tb Y (wat ow M1) ds s M1
theorem ds_for {iter tg : Expr} {ti : TID} {g : TGD} {tb : TSD} (hp : PassesOwn (model X.prog X.w) X.A X.env X.xe) (hc : X.calm = true) (hi : DI X E tg iter ti) (hg : DG X E tg g) (hb : DSs X E body tb)
    (hs : ∀ x, foldedSetIterable iter X.env x = pure x := by intro _; rfl) : DS X E (.For tg iter body [] pos) (sFor ti g tb) := by
  obtain ⟨wi, pi, qi⟩ := hi.ok
  obtain ⟨g1, p1, q1⟩ := hg.ok
  refine ⟨PS.imp (ps_for hp hc pi p1 hb.ok hs) fun Z σ H ⟨s, M, Y, S, x, t, h⟩ => ?_⟩
  refine qi S x t fun J H1 M1 ow ds gr mo io td => ?_
  refine ⟨fun i m σ' H' => m = ds.length - i ∧ i ≤ ds.length ∧ ∃ s' M', Gw H1 M1 H' M' ∧ StOk X.K σ' H' s' M' ∧ sForL g tb Y (wat ow M1) (ds.drop i) s' M', ⟨ds.length, rfl, Nat.zero_le _, s, M1, Gw.refl, S.grow gr mo, td⟩, fun i m σ' H' hW => ?_⟩
  obtain ⟨em, hi', s', M', g', S', td'⟩ := hW
  by_cases hlt : i < ds.length
  · rw [List.drop_eq_getElem_cons hlt] at td'
    obtain ⟨hw, td'⟩ := td'
    obtain ⟨hgo, hy⟩ := io.go i H' M' g' S'.mem (wat_of hw) hlt
    refine .inr ⟨hgo, fun σ2 H2 => ∃ s2 M2, Gw H1 M1 H2 M2 ∧ StOk X.K σ2 H2 s2 M2 ∧ sForL g tb Y (wat ow M1) (ds.drop (i + 1)) s2 M2, fun σ2 H2 ⟨s2, M2, a1, a2, a3⟩ => ⟨ds.length - (i + 1), by omega, rfl, by omega, s2, M2, a1, a2, a3⟩, fun v H2 hyl => ?_⟩
    obtain ⟨d, hd, g2, m2, r2⟩ := hy v H2 hyl
    have ed : d = ds[i] := by rw [List.getElem?_eq_getElem hlt] at hd; exact (Option.some.inj hd).symm
    subst ed
    refine q1 (S'.grow g2 m2) (((x.grow gr).grow g').grow g2) r2 td' fun σ3 H3 ⟨s3, M3, g3, S3, z3⟩ => ?_
    have gg : Gw H1 M1 H3 M3 := (g'.trans g2).trans g3
    refine ⟨s3, M3, { Y with nx := sForL g tb Y (wat ow M1) (ds.drop (i + 1)), ct := sForL g tb Y (wat ow M1) (ds.drop (i + 1)), bk := Y.nx }, S3, ((x.grow gr).grow gg), z3, fun σ4 H4 ⟨s4, M4, g4, S4, z4⟩ => ⟨s4, M4, gg.trans g4, S4, z4⟩, fwd (gr.trans gg) h.2.1, fwdS (gr.trans gg) h.1, fun σ4 H4 ⟨s4, M4, g4, S4, z4⟩ => ⟨s4, M4, gg.trans g4, S4, z4⟩⟩
  · have e : i = ds.length := by omega
    subst e
    rw [List.drop_length] at td'
    obtain ⟨hw, td'⟩ := td'
    exact .inl ⟨io.stop H' M' g' S'.mem (wat_of hw), h.1 _ _ ⟨s', M', gr.trans g', S', td'⟩⟩
end
end DL
set_option maxHeartbeats 1000000
namespace DL
open PySem PySem.Spec PyProof.Rows L2
section
variable {X : Cx} {E : XK} {n k : Nat} {x : Str} {p pos : Pos} {e a b c tg : Expr} {es : List Expr} {ts : TAD} {te ta tb : TED}
/-! ### what is walked -/
/-- a list or a tuple -/
def iSeq (K : Fg) (tl : TE) : TI := fun σ H R => tl σ H fun x H1 => ∃ a, x = .ref a ∧ (((∃ xs, SqL K H1 a xs) ∧ R (Itl K a) H1) ∨ ((∃ xs, SqT K H1 a xs) ∧ R (Itt K a) H1))
theorem pi_seq {l : Expr} {tl : TE} (hl : PE X l tl) : PI X tg l (iSeq X.K tl) := by
  refine ⟨fun pins s σ H R I h => ?_⟩
  refine thn (hl.run pins s σ H _ I h) fun v s1 ⟨x, H1, I1, r1, q1⟩ => ?_
  obtain ⟨a, e, q1⟩ := q1
  subst e
  cases r1
  have hf : ∀ b ∈ [s1.heap.objs.size], FpOk X pins H1 b := fun b hb => by
    have e : b = s1.heap.objs.size := by simpa using hb
    subst e
    exact I1.fpOk (Nat.le_refl _) (I1.hok.fresh (Nat.le_refl _))
  rcases q1 with ⟨⟨xs, hq⟩, q⟩ | ⟨⟨xs, hq⟩, q⟩
  · obtain ⟨its, rv, p, hz⟩ := I1.list hq
    refine wpAny_pyIter_list p.isList ?_
    exact ⟨s1.heap.objs.size, [s1.heap.objs.size], _, _, H1, rfl, I1.kept (t' := s1.toks) fun b o e => Heap.get?_push_of_some _ e, turn_list a _, ⟨_, Heap.get?_push_size _ rfl, rfl, rfl⟩, hf, q⟩
  · obtain ⟨its, rv, p, hz⟩ := I1.tuple hq
    refine wpAny_pyIter_tuple (show s1.heap.IsTuple a its.toArray from p) ?_
    exact ⟨s1.heap.objs.size, [s1.heap.objs.size], _, _, H1, rfl, I1.kept (t' := s1.toks) fun b o e => Heap.get?_push_of_some _ e, turn_tuple a _, ⟨_, Heap.get?_push_size _ rfl, rfl, rfl⟩, hf, q⟩
theorem ItOk.list {K : Fg} {H0 : Hp} {M0 : Mem} {ow : Option Addr} {ds : List D} {a : Addr} (hs : ∀ H M, Gw H0 M0 H M → MOk K H M → (∀ a, ow = some a → M a = M0 a) → ∃ xs, SqL K H a xs ∧ Rs K H M ds xs) : ItOk K (Itl K a) H0 M0 ow ds := by
  refine ⟨fun i H M g mo hw hi => ?_, fun H M g mo hw => ?_⟩
  · obtain ⟨xs, h1, h2⟩ := hs H M g mo hw
    obtain ⟨v, e1, e2⟩ := Rs.get h2 (List.getElem?_eq_getElem hi)
    refine ⟨⟨xs, v, h1, e1⟩, fun y H' ⟨eH, hy⟩ => ?_⟩
    subst eH
    have e3 := hy xs h1
    rw [e1] at e3; cases e3
    exact ⟨_, List.getElem?_eq_getElem hi, Gw.refl, mo, e2⟩
  · obtain ⟨xs, h1, h2⟩ := hs H M g mo hw
    exact ⟨xs, h1, by rw [vlen h2]; exact Nat.le_refl _⟩
theorem ItOk.tup {K : Fg} {H0 : Hp} {M0 : Mem} {ow : Option Addr} {ds : List D} {a : Addr} (hs : ∀ H M, Gw H0 M0 H M → MOk K H M → (∀ a, ow = some a → M a = M0 a) → ∃ xs, SqT K H a xs ∧ Rs K H M ds xs) : ItOk K (Itt K a) H0 M0 ow ds := by
  refine ⟨fun i H M g mo hw hi => ?_, fun H M g mo hw => ?_⟩
  · obtain ⟨xs, h1, h2⟩ := hs H M g mo hw
    obtain ⟨v, e1, e2⟩ := Rs.get h2 (List.getElem?_eq_getElem hi)
    refine ⟨⟨xs, v, h1, e1⟩, fun y H' ⟨eH, hy⟩ => ?_⟩
    subst eH
    have e3 := hy xs h1
    rw [e1] at e3; cases e3
    exact ⟨_, List.getElem?_eq_getElem hi, Gw.refl, mo, e2⟩
  · obtain ⟨xs, h1, h2⟩ := hs H M g mo hw
    exact ⟨xs, h1, by rw [vlen h2]; exact Nat.le_refl _⟩
theorem ItOk.rng1 {K : Fg} {H0 : Hp} {M0 : Mem} {lo : Int} {n : Nat} : ItOk K (Itr lo n) H0 M0 none ((List.range n).map fun i => D.int (lo + (i : Nat))) := by
  have hl : ((List.range n).map fun i => D.int (lo + (i : Nat))).length = n := by rw [List.length_map, List.length_range]
  refine ⟨fun i H M g mo hw hi => ?_, fun H M g mo hw => ?_⟩
  · rw [hl] at hi
    refine ⟨hi, fun y H' ⟨eH, hy⟩ => ?_⟩
    subst eH; subst hy
    exact ⟨.int (lo + (i : Nat)), by rw [List.getElem?_map, List.getElem?_range hi]; rfl, Gw.refl, mo, rfl⟩
  · rw [hl]; exact Nat.le_refl n
/-- the items of a value, and what is to stand while they are walked -/
def itemK (R : List D → Option Addr → Mem → Prop) : QD := fun d M => match d with
  | .tup ds => R ds none M
  | .lst ds => R ds none M
  | .fzn ds => R ds none M
  | .ref a => match M a with
    | some (.lst ds) => R ds (some a) M
    | _ => False
  | _ => False
def iSeqD (te : TED) : TID := fun Xd s M R => te Xd s M (itemK R)
theorem di_seq (h : DE X E e te) : DI X E tg e (iSeqD te) := by
  refine ⟨_, pi_seq h.ok, fun {σ H s M Xd Qd R} S x t q => ?_⟩
  refine useE S x t fun d v M1 H1 g1 S1 x1 r1 t1 => ?_
  unfold itemK at t1
  split at t1
  · rename_i ds
    obtain ⟨p, xs, rfl, hp, sp⟩ := r1
    exact ⟨p, rfl, .inr ⟨⟨xs, hp.sq⟩, q _ _ _ _ _ g1 S1.mem (ItOk.tup fun H M g mo _ => ⟨xs, (g.rt hp).sq, Rs.grow g ds xs sp⟩) t1⟩⟩
  · rename_i ds
    obtain ⟨p, xs, rfl, hp, hm, sp⟩ := r1
    exact ⟨p, rfl, .inl ⟨⟨xs, SqL.of hp⟩, q _ _ _ _ _ g1 S1.mem (ItOk.list fun H M g mo _ => ⟨xs, SqL.of (g.at hp hm).1, Rs.grow g ds xs sp⟩) t1⟩⟩
  · rename_i ds
    obtain ⟨p, xs, rfl, hp, sp⟩ := r1
    exact ⟨p, rfl, .inl ⟨⟨xs, hp.sq⟩, q _ _ _ _ _ g1 S1.mem (ItOk.list fun H M g mo _ => ⟨xs, (g.rl hp).sq, Rs.grow g ds xs sp⟩) t1⟩⟩
  · rename_i p
    split at t1
    · rename_i ds hm
      have hv : v = .ref p := r1
      obtain ⟨xs, hp, sp⟩ := S1.mem p _ hm
      refine ⟨p, hv, .inl ⟨⟨xs, SqL.of hp⟩, q _ _ _ (some p) _ g1 S1.mem (ItOk.list fun H M g mo hw => ?_) t1⟩⟩
      have e := hw p rfl
      rw [hm] at e
      obtain ⟨ys, h1, h2⟩ := mo p _ e
      exact ⟨ys, SqL.of h1, h2⟩
    · exact t1.elim
  · exact t1.elim
def rngL (lo : Int) (n : Nat) : List D := (List.range n).map fun i => D.int (lo + (i : Nat))
def rngK (R : List D → Option Addr → Mem → Prop) : List D → Mem → Prop := fun ds M => match ds with
  | [.int j] => (-(2 ^ 62) ≤ j ∧ j < 2 ^ 62) ∧ R (rngL 0 j.toNat) none M
  | [.int i, .int j] => (-(2 ^ 62) ≤ i ∧ i < 2 ^ 62 ∧ -(2 ^ 62) ≤ j ∧ j < 2 ^ 62) ∧ R (rngL i (j - i).toNat) none M
  | _ => False
def iRngD (t : TAD) : TID := fun Xd s M R => t Xd s M (rngK R)
theorem di_range1 (hg : Gl X "range") (hm : X.mg "range" = none) (h : DN X E 1 [a] ts) (hs : starEach [a] X.env = [(false, eval a X.env)] := by rfl) : DI X E tg (.Call (.Name "range" p) [a] [] pos) (iRngD ts) := by
  refine ⟨_, pi_range1 hg hm h.ok hs, fun {σ H s M Xd Qd R} S x t q => ?_⟩
  refine useN S x t fun ds vs M1 H1 hl g1 S1 x1 r1 t1 => ?_
  unfold rngK at t1
  split at t1
  · rename_i j
    obtain ⟨v, rfl, rd⟩ := rs1 r1
    exact ⟨j, by rw [show v = V.int j from rd], t1.1.1, t1.1.2, q _ _ _ _ _ g1 S1.mem ItOk.rng1 t1.2⟩
  · obtain ⟨v, w, rfl, _, _⟩ := rs2 r1
    simp at hl
  · exact t1.elim
/-! ### comprehensions -/
def wipeD (s : SD) : List Nat → SD
  | [] => s
  | i :: r => (wipeD s r).set i none
theorem StOk.wipe {K : Fg} {H : Hp} {M : Mem} {σ : L2.St} {s : SD} (S : StOk K σ H s M) : ∀ vs : List Nat, StOk K (L2.wipe σ vs) H (wipeD s vs) M
  | [] => S
  | i :: r => by
    have S1 := StOk.wipe S r
    refine ⟨by show ((wipeD s r).set i none).length = ((L2.wipe σ r).set i none).length; rw [List.length_set, List.length_set]; exact S1.len, fun j d e => ?_, S.mem⟩
    have e : ((wipeD s r).set i none)[j]? = some (some d) := e
    show ∃ v, ((L2.wipe σ r).set i none)[j]? = some (some v) ∧ Rv K H M d v
    by_cases hj : j = i
    · subst hj
      by_cases hl : j < (wipeD s r).length
      · rw [List.getElem?_set_self hl] at e; cases e
      · rw [List.getElem?_eq_none (by rw [List.length_set]; omega)] at e; cases e
    · rw [List.getElem?_set_ne (Ne.symm hj)] at e
      obtain ⟨v, e1, e2⟩ := S1.sl j d e
      exact ⟨v, by rw [List.getElem?_set_ne (Ne.symm hj)]; exact e1, e2⟩
theorem wipe_at (σ : L2.St) (j : Nat) : ∀ vs : List Nat, (L2.wipe σ vs)[j]? = if j ∈ vs then (σ[j]?).map (fun _ => none) else σ[j]?
  | [] => by rw [if_neg (by simp)]; rfl
  | i :: r => by
    have ih := wipe_at σ j r
    show ((L2.wipe σ r).set i none)[j]? = _
    by_cases hj : i = j
    · subst hj
      rw [if_pos List.mem_cons_self]
      by_cases hl : i < σ.length
      · rw [List.getElem?_set_self (by rw [L2.wipe_length]; exact hl), List.getElem?_eq_getElem hl]; rfl
      · rw [List.getElem?_eq_none (by rw [List.length_set, L2.wipe_length]; omega), List.getElem?_eq_none (by omega)]; rfl
    · rw [List.getElem?_set_ne hj, ih]
      by_cases hr : j ∈ r
      · rw [if_pos hr, if_pos (List.mem_cons_of_mem _ hr)]
      · rw [if_neg hr, if_neg (fun z => (List.mem_cons.mp z).elim (fun z => hj z.symm) hr)]
theorem wipe_set {o : Option V} {i : Nat} {vs : List Nat} {σ : L2.St} (h : i ∈ vs) : L2.wipe (σ.set i o) vs = L2.wipe σ vs := by
  apply List.ext_getElem?
  intro j
  rw [wipe_at, wipe_at]
  by_cases hj : i = j
  · subst hj
    rw [if_pos h, if_pos h]
    by_cases hl : i < σ.length
    · rw [List.getElem?_set_self hl, List.getElem?_eq_getElem hl]; rfl
    · rw [List.getElem?_eq_none (by rw [List.length_set]; omega), List.getElem?_eq_none (by omega)]
  · rw [List.getElem?_set_ne hj]
theorem wipe_wipe (σ : L2.St) (vs : List Nat) : L2.wipe (L2.wipe σ vs) vs = L2.wipe σ vs := by
  apply List.ext_getElem?
  intro j
  rw [wipe_at, wipe_at]
  by_cases hj : j ∈ vs
  · rw [if_pos hj, if_pos hj, Option.map_map]; rfl
  · rw [if_neg hj, if_neg hj]
def X0 : XD := fun _ _ _ _ => False
theorem x0_to {K : Fg} {H : Hp} {M : Mem} : XTo K H M X0 E0 := fun c od H' ⟨_, _, _, _, _, _, _, _, _, _, _, _, _, _, z⟩ => z
/-- the tests of a clause -/
structure DTs (X : Cx) (E : XK) (ifs : List Expr) (t : TTD) : Prop where
  ok : PTs X ifs (liftT X.K E t)
def tYesD : TTD := fun _ _ M Q => Q true M
theorem dts_nil : DTs X E [] tYesD := ⟨⟨fun pins s σ H Q I ⟨sd, M, Qd, Xd, S, x, t, q⟩ => pts_nil.run pins s σ H Q I (q true H ⟨M, Gw.refl, S.mem, t⟩)⟩⟩
theorem dts_one {t : TTD} (h : DT X E c t) : DTs X E [c] t := ⟨pts_one h.ok⟩
/-- what stands at the growing list -/
def accK (p : Addr) (r : D) (k : Mem → Prop) : Mem → Prop := fun M => match M p with
  | some (.lst acc) => acc.length < sizeLine ∧ k (M.put p (.lst (acc ++ [r])))
  | _ => False
def endK (p : Addr) (Q : QD) : Mem → Prop := fun M => match M p with
  | some (.lst acc) => Q (.lst acc) (M.del p)
  | _ => False
def dLcL (g : TGD) (tt : TTD) (te : TED) (s0 : SD) (W : Mem → Prop) (p : Addr) (Q : QD) : List D → Mem → Prop
  | [], M => W M ∧ endK p Q M
  | d :: ds, M => W M ∧ g d X0 s0 M fun s' M' => tt X0 s' M' fun b M2 => if b = true then te X0 s' M2 (fun r => accK p r (dLcL g tt te s0 W p Q ds)) else dLcL g tt te s0 W p Q ds M2
def dLc (ti : TID) (g : TGD) (tt : TTD) (te : TED) (vs : List Nat) : TED := fun Xd s M Q => ti Xd s M fun ds ow M1 => ∀ p, M1 p = none → dLcL g tt te (wipeD s vs) (wat ow M1) p Q ds (M1.put p (.lst []))
theorem lift_lc {J : It} {ow : Option Addr} {g : TGD} {g1 : TG} {tt : TTD} {Y : Cx} {vs : List Nat} {σ : L2.St} {s : SD} {H0 H1 : Hp} {M0 M1 : Mem} {ds : List D} {Qd : QD} {Q : VK} {p : Addr} (hK : Y.K = X.K)
    (q1 : ∀ {v : V} {d : D} {σ : L2.St} {H : Hp} {s : SD} {M : Mem} {Xd : XD} {Qd : SD → Mem → Prop} {Q : L2.St → Hp → Prop}, StOk X.K σ H s M → XTo X.K H M Xd E0 → Rv X.K H M d v → g d Xd s M Qd →
      (∀ σ' H', upS X.K H M Qd σ' H' → L2.wipe σ' vs = L2.wipe σ vs → Q σ' H') → g1 v σ H Q)
    (S : StOk X.K σ H1 s M1) (io : ItOk X.K J H1 M1 ow ds) (hp : H1 p = none) (td : dLcL g tt te (wipeD s vs) (wat ow M1) p Qd ds (M1.put p (.lst []))) (g0 : Gw H0 M0 H1 M1) (q : ∀ v H', upE X.K H0 M0 Qd v H' → Q v H') :
    ∃ W : Nat → Nat → Hp → Prop, (∃ m, W 0 m (upd H1 p (.lst []))) ∧ ∀ i m H, W i m H →
      (J.stop i H ∧ Q (.ref p) H) ∨ (J.go i H ∧ ∃ Nx : Hp → Prop, (∀ H', Nx H' → ∃ m', m' < m ∧ W (i + 1) m' H') ∧ ∀ x H', J.yld i H x H' → g1 x (L2.wipe σ vs) H' fun σ2 H2 => L2.wipe σ2 vs = L2.wipe σ vs ∧ liftT X.K E0 tt σ2 H2 fun b H3 =>
        if b = true then liftE X.K E0 te σ2 H3 fun y H4 => ∃ acc, H4 p = some (.lst acc) ∧ acc.length < sizeLine ∧ Nx (upd H4 p (.lst (acc ++ [y]))) else Nx H3) := by
  have ew : ∀ σ2 : L2.St, L2.wipe σ2 vs = L2.wipe (L2.wipe σ vs) vs → L2.wipe σ2 vs = L2.wipe σ vs := fun σ2 e => by rw [e, wipe_wipe]
  have S0 : StOk X.K (L2.wipe σ vs) H1 (wipeD s vs) M1 := S.wipe vs
  have gp : Gw H1 M1 (upd H1 p (.lst [])) (M1.put p (.lst [])) := gw_own hp
  have mp : MOk X.K (upd H1 p (.lst [])) (M1.put p (.lst [])) := mok_own S.mem hp (show MObj X.K (upd H1 p (.lst [])) (M1.put p (.lst [])) p (.lst []) from ⟨[], upd_same, rfl⟩)
  refine ⟨fun i m H => m = ds.length - i ∧ i ≤ ds.length ∧ ∃ M, Gw H1 M1 H M ∧ MOk X.K H M ∧ dLcL g tt te (wipeD s vs) (wat ow M1) p Qd (ds.drop i) M, ⟨ds.length, rfl, Nat.zero_le _, M1.put p (.lst []), gp, mp, td⟩, fun i m H hW => ?_⟩
  obtain ⟨em, hi', M, gM, mo, td'⟩ := hW
  by_cases hlt : i < ds.length
  · rw [List.drop_eq_getElem_cons hlt] at td'
    obtain ⟨hw, td'⟩ := td'
    obtain ⟨hgo, hy⟩ := io.go i H M gM mo (wat_of hw) hlt
    have back : ∀ H2 M2, Gw H1 M1 H2 M2 → MOk X.K H2 M2 → dLcL g tt te (wipeD s vs) (wat ow M1) p Qd (ds.drop (i + 1)) M2 → ∃ m', m' < m ∧ (m' = ds.length - (i + 1) ∧ i + 1 ≤ ds.length ∧ ∃ M, Gw H1 M1 H2 M ∧ MOk X.K H2 M ∧ dLcL g tt te (wipeD s vs) (wat ow M1) p Qd (ds.drop (i + 1)) M) :=
      fun H2 M2 a1 a2 a3 => ⟨ds.length - (i + 1), by omega, rfl, by omega, M2, a1, a2, a3⟩
    refine .inr ⟨hgo, fun H2 => ∃ M2, Gw H1 M1 H2 M2 ∧ MOk X.K H2 M2 ∧ dLcL g tt te (wipeD s vs) (wat ow M1) p Qd (ds.drop (i + 1)) M2, fun H2 ⟨M2, a1, a2, a3⟩ => back H2 M2 a1 a2 a3, fun v H2 hyl => ?_⟩
    obtain ⟨d, hd, g2, m2, r2⟩ := hy v H2 hyl
    have ed : d = ds[i] := by rw [List.getElem?_eq_getElem hlt] at hd; exact (Option.some.inj hd).symm
    subst ed
    have S2 : StOk X.K (L2.wipe σ vs) H2 (wipeD s vs) M := S0.grow (gM.trans g2) m2
    refine q1 S2 x0_to r2 td' fun σ3 H3 ⟨s3, M3, g3, S3, z3⟩ e3 => ⟨ew σ3 e3, ?_⟩
    refine useT S3 x0_to z3 fun bb M4 H4 g4 S4 x4 z4 => ?_
    have gg : Gw H1 M1 H4 M4 := ((gM.trans g2).trans g3).trans g4
    cases bb with
    | false =>
      rw [if_neg Bool.false_ne_true] at z4 ⊢
      exact ⟨M4, gg, S4.mem, z4⟩
    | true =>
      rw [if_pos rfl] at z4 ⊢
      refine useE S4 x4 z4 fun r y M5 H5 g5 S5 x5 r5 z5 => ?_
      unfold accK at z5
      split at z5
      · rename_i acc hacc
        obtain ⟨xs, h1, h2⟩ := S5.mem p _ hacc
        refine ⟨xs, h1, by rw [vlen h2]; exact z5.1, M5.put p (.lst (acc ++ [r])), (gg.trans g5).trans (gw_put hacc), mok_put S5.mem hacc ?_, z5.2⟩
        exact ⟨xs ++ [y], upd_same, Rs.grow (gw_put hacc) _ _ (Rs.append h2 (Rs.cons r5 Rs.nil))⟩
      · exact z5.elim
  · have e : i = ds.length := by omega
    subst e
    rw [List.drop_length] at td'
    obtain ⟨hw, td'⟩ := td'
    refine .inl ⟨io.stop H M gM mo (wat_of hw), ?_⟩
    unfold endK at td'
    split at td'
    · rename_i acc hacc
      obtain ⟨xs, h1, h2⟩ := mo p _ hacc
      have hs : ∀ b o, (M.del p) b = some o → M b = some o := fun b o e => by
        by_cases z : b = p
        · subst z; rw [Mem.del_same] at e; cases e
        · rw [Mem.del_ne z] at e; exact e
      have hn : ∀ b, M b = none → (M.del p) b = none := fun b e => by
        by_cases z : b = p
        · subst z; exact Mem.del_same
        · rw [Mem.del_ne z]; exact e
      exact q _ _ ⟨.lst acc, M.del p, (g0.trans gM).trans (gw_less hn), mok_less hs hn mo, ⟨p, xs, rfl, h1, Mem.del_same, Rs.grow (gw_less hn) _ _ h2⟩, td'⟩
    · exact td'.elim
theorem de_lc {elt iter : Expr} {ifs : List Expr} {scope : Scope} {own : List (Str × Nat)} {ti : TID} {g : TGD} {tt : TTD} (hc : X.calm = true) (hN : X.N.Nodup) (hi : DI X E tg iter ti) (ok : BlkOk X.N X.env.scope scope own) (g1 : TG)
    (hg : ∀ (s : Shared) (H : Hp) (C : Addr) (cl : List (Str × Addr)) (fp : List Addr), PG (X.blk s H scope (compEnvC scope cl C X.env) fp) tg g1)
    (hq : ∀ {v : V} {d : D} {σ : L2.St} {H : Hp} {s : SD} {M : Mem} {Xd : XD} {Qd : SD → Mem → Prop} {Q : L2.St → Hp → Prop}, StOk X.K σ H s M → XTo X.K H M Xd E0 → Rv X.K H M d v → g d Xd s M Qd →
      (∀ σ' H', upS X.K H M Qd σ' H' → L2.wipe σ' (own.map (·.2)) = L2.wipe σ (own.map (·.2)) → Q σ' H') → g1 v σ H Q)
    (ht : ∀ (s : Shared) (H : Hp) (C : Addr) (cl : List (Str × Addr)) (fp : List Addr), DTs (X.blk s H scope (compEnvC scope cl C X.env) fp) E0 ifs tt)
    (he : ∀ (s : Shared) (H : Hp) (C : Addr) (cl : List (Str × Addr)) (fp : List Addr), DE (X.blk s H scope (compEnvC scope cl C X.env) fp) E0 elt te) (hs : ∀ x, foldedSetIterable iter X.env x = pure x := by intro _; rfl) :
    DE X E (.ListComp elt [⟨tg, iter, ifs, 0⟩] scope pos) (dLc ti g tt te (own.map (·.2))) := by
  obtain ⟨wi, pi, qi⟩ := hi.ok
  refine ⟨PE.imp (pe_lc (tt := liftT X.K E0 tt) (te := liftE X.K E0 te) hc hN pi ok hg (fun s H C cl fp => (ht s H C cl fp).ok) (fun s H C cl fp => (he s H C cl fp).ok) hs) fun σ H Q ⟨s, M, Qd, Xd, S, x, t, q⟩ => ?_⟩
  refine qi S x t fun J H1 M1 ow ds gr mo io td p hp => ?_
  exact lift_lc (Y := X) rfl hq (S.grow gr mo) io hp (td p (m_none mo hp)) gr q
theorem ds_setLc {i : Nat} {y : Str} {py spos : Pos} {elt iter : Expr} {ifs : List Expr} {scope : Scope} {own : List (Str × Nat)} {ti : TID} {g : TGD} {tt : TTD} (hc : X.calm = true) (hN : X.N.Nodup) (hy : X.N[i]? = some y) (hyl : X.env.scope.names.lookup y = some .local)
    (hsw : swapsWith (.ListComp elt [⟨tg, iter, ifs, 0⟩] scope pos) (some (.Name y py)) spos.line X.env = pure true) (hi : DI X E tg iter ti) (ok : BlkOk X.N X.env.scope scope own) (g1 : TG)
    (hg : ∀ (s : Shared) (H : Hp) (C : Addr) (cl : List (Str × Addr)) (fp : List Addr), PG (X.blk s H scope (compEnvC scope cl C X.env) fp) tg g1)
    (hq : ∀ {v : V} {d : D} {σ : L2.St} {H : Hp} {s : SD} {M : Mem} {Xd : XD} {Qd : SD → Mem → Prop} {Q : L2.St → Hp → Prop}, StOk X.K σ H s M → XTo X.K H M Xd E0 → Rv X.K H M d v → g d Xd s M Qd →
      (∀ σ' H', upS X.K H M Qd σ' H' → L2.wipe σ' (own.map (·.2)) = L2.wipe σ (own.map (·.2)) → Q σ' H') → g1 v σ H Q)
    (ht : ∀ (s : Shared) (H : Hp) (C : Addr) (cl : List (Str × Addr)) (fp : List Addr), DTs (X.blk s H scope (compEnvC scope cl C X.env) fp) E0 ifs tt)
    (he : ∀ (s : Shared) (H : Hp) (C : Addr) (cl : List (Str × Addr)) (fp : List Addr), DE (X.blk s H scope (compEnvC scope cl C X.env) fp) E0 elt te) (hs : ∀ x, foldedSetIterable iter X.env x = pure x := by intro _; rfl) :
    DS X E (.Assign [.Name y py] (.ListComp elt [⟨tg, iter, ifs, 0⟩] scope pos) spos) (sSet i (dLc ti g tt te (own.map (·.2)))) := by
  obtain ⟨wi, pi, qi⟩ := hi.ok
  refine ⟨PS.imp (ps_setLc (tt := liftT X.K E0 tt) (te := liftE X.K E0 te) hc hN hy hyl hsw pi ok hg (fun s H C cl fp => (ht s H C cl fp).ok) (fun s H C cl fp => (he s H C cl fp).ok) hs) fun Z σ H ⟨s, M, Y, S, x, t, h⟩ => ?_⟩
  refine qi S x t fun J H1 M1 ow ds gr mo io td p hp => ?_
  refine lift_lc (Y := X) (Q := fun v H' => Z.nx (σ.set i (some v)) H') rfl hq (S.grow gr mo) io hp (td p (m_none mo hp)) gr fun v H' ⟨d, M', g, m, r, z⟩ => ?_
  exact h.1 _ _ ⟨s.set i (some d), M', g, (S.grow g m).set i r, z⟩
end
end DL
set_option maxHeartbeats 1000000
namespace DL
open PySem PySem.Spec PyProof.Rows L2
section
variable {X : Cx} {E : XK} {n k : Nat} {x : Str} {p pos : Pos} {e a b c tg o i value : Expr} {es : List Expr} {ts : TAD} {te ta tb td tv : TED}
/-- a, b = x, y with plain local names -/
theorem ds_par {i j : Nat} {x y : Str} {px py pt : Pos} {kt k2 pt2} (hc : X.calm = true) (hN : X.N.Nodup) (hi : X.N[i]? = some x) (hj : X.N[j]? = some y) (hij : i ≠ j)
    (hx : X.env.scope.names.lookup x = some .local) (hy : X.env.scope.names.lookup y = some .local) (ha : DN X E 2 [a, b] ts)
    (hw : swappedStores [.Tuple [.Name x px, .Name y py] kt pt] (.Tuple [a, b] k2 pt2) X.env = pure (some [x, y]))
    (hs : swapsWithSole [.Tuple [.Name x px, .Name y py] kt pt] (.Tuple [a, b] k2 pt2) pos.line X.env = pure false := by rfl) :
    DS X E (.Assign [.Tuple [.Name x px, .Name y py] kt pt] (.Tuple [a, b] k2 pt2) pos) (sPar i j ts) :=
  ⟨PS.imp (ps_par hc hN hi hj hij hx hy ha.ok hw hs) fun Z σ H ⟨s, M, Y, S, x, t, h⟩ => by
    refine useN S x t fun ds vs M1 H1 hl g1 S1 x1 r1 t1 => ?_
    split at t1
    · rename_i d e
      obtain ⟨v, w, rfl, rd, re⟩ := rs2 r1
      exact ⟨v, w, rfl, h.1 _ _ ⟨_, M1, g1, (S1.set i rd).set j re, t1⟩⟩
    · exact t1.elim⟩
/-! ### isinstance -/
def tyO (M : Mem) (d : D) : Option String := match vw M d with
  | .non => some "NoneType"
  | .bl _ => some "bool"
  | .int _ => some "int"
  | .str _ => some "str"
  | .tup _ => some "tuple"
  | .lst _ => some "list"
  | .fzn _ => some "list"
  | .dct _ _ => some "dict"
  | _ => none
theorem ty_of {K : Fg} {H : Hp} {M : Mem} {d : D} {v : V} {T : String} (mo : MOk K H M) (r : Rv K H M d v) (e : tyO M d = some T) : TyX K H v (.type T) := by
  unfold tyO at e
  split at e
  · rename_i h; cases e; rw [vw_non r h]; exact .base .non
  · rename_i b h; cases e; rw [vw_bl r h]; exact .base (.bl b)
  · rename_i b h; cases e; rw [vw_int r h]; exact .base (.int b)
  · rename_i b h; cases e; rw [vw_str r h]; exact .base (.str b)
  · rename_i ds h
    cases e
    obtain ⟨a, xs, rfl, ha, sa⟩ := vw_tup r h
    rcases ha with ⟨h1 | ⟨ob, h1⟩, _⟩ | ⟨ob, its, n, h1, h2, _⟩
    · exact .base (.tup h1)
    · exact .fTuple h1
    · exact .kTuple h1 h2
  · rename_i ds h
    cases e
    obtain ⟨a, xs, rfl, ha, sa⟩ := vw_lst mo r h
    exact .base (.lst ha)
  · rename_i ds h
    cases e
    obtain ⟨a, xs, rfl, ha, sa⟩ := vw_fzn r h
    rcases ha with ⟨h1 | ⟨ob, h1⟩, _⟩ | ⟨ob, its, n, h1, h2, _⟩
    · exact .base (.lst h1)
    · exact .base (.frz h1)
    · exact .kList h1 h2
  · rename_i ks ds h
    cases e
    obtain ⟨a, xs, rfl, ha, _⟩ := vw_dct mo r h
    exact .base (.dK ha)
  · cases e
def isiC : OC := fun ds M Q => match ds with
  | [d, .ty n] => match tyO M d with
    | some T => match kitB T n with
      | some b => Q (.bl b) M
      | none => False
    | none => False
  | _ => False
theorem dc_isi : DC X (.builtin "isinstance") isiC := by
  intro pins s σ H M xs ds us Q Qd I mo r rv t q
  unfold isiC at t
  split at t
  · rename_i d n
    obtain ⟨v, w, rfl, rd, re⟩ := rs2 r
    split at t
    · rename_i T hT
      split at t
      · rename_i b hb
        have ew : w = .ty n := re
        exact call_isi pins s σ H _ us Q I rv ⟨v, w, _, _, b, rfl, by rw [ew]; exact .ty n, ty_of mo rd hT, kit_ty hb, q _ _ (up_same mo t rfl)⟩
      · exact t.elim
    · exact t.elim
  · exact t.elim
/-! ### gcd, lcm -/
def gcdC : OC := fun ds M Q => match ds with
  | [d, e] => match vw M d, vw M e with
    | .int i, .int j => Q (.int ((Nat.gcd i.natAbs j.natAbs : Nat) : Int)) M
    | _, _ => False
  | _ => False
/-! ### sum, max, min of ints -/
def lstO (M : Mem) (d : D) : Option (List D) := match vw M d with
  | .lst ds => some ds
  | .fzn ds => some ds
  | _ => none
/-! ### in -/
def flD : D → Option V
  | .non => some .non
  | .bl b => some (.bl b)
  | .int i => some (.int i)
  | .str x => some (.str x)
  | _ => none
theorem fl_of {K : Fg} {H : Hp} {M : Mem} {d : D} {u v : V} (r : Rv K H M d v) (e : flD d = some u) : v = u ∧ flatV v = true := by
  cases d with
  | non => have e' : some V.non = some u := e; cases e'; rw [show v = V.non from r]; exact ⟨rfl, rfl⟩
  | bl b => have e' : some (V.bl b) = some u := e; cases e'; rw [show v = V.bl b from r]; exact ⟨rfl, rfl⟩
  | int b => have e' : some (V.int b) = some u := e; cases e'; rw [show v = V.int b from r]; exact ⟨rfl, rfl⟩
  | str b => have e' : some (V.str b) = some u := e; cases e'; rw [show v = V.str b from r]; exact ⟨rfl, rfl⟩
  | _ => cases e
def flsD : List D → Option (List V)
  | [] => some []
  | d :: ds => match flD d, flsD ds with
    | some v, some vs => some (v :: vs)
    | _, _ => none
theorem fls_of {K : Fg} {H : Hp} {M : Mem} : ∀ {ds : List D} {us vs : List V}, Rs K H M ds vs → flsD ds = some us → vs = us ∧ vs.all flatV = true
  | [], us, vs, r, e => by
    have e' : some [] = some us := e
    cases e'
    have r' : vs = [] := r
    subst r'
    exact ⟨rfl, rfl⟩
  | d :: ds, us, vs, ⟨v, rr, ex, h, q⟩, e => by
    unfold flsD at e
    split at e
    · rename_i w ws h1 h2
      cases e
      obtain ⟨e1, f1⟩ := fl_of h h1
      obtain ⟨e2, f2⟩ := fls_of q h2
      subst ex
      exact ⟨by rw [e1, e2], by rw [List.all_cons, f1, f2]; rfl⟩
    · cases e
def inO (M : Mem) (x y : D) : Option Bool := match vw M y with
  | .dct ks ds => match keyD (vw M x) with
    | some k => some (valD ks ds k).isSome
    | none => none
  | _ => match itemsO M y with
    | some ds => match flD (vw M x), flsD ds with
      | some v, some vs => some (inV v vs)
      | _, _ => none
    | none => none
def inD : O2 := fun x y M Q => match inO M x y with
  | some b => Q (.bl b) M
  | none => False
end
end DL
set_option maxHeartbeats 1000000
namespace DL
open PySem PySem.Spec PyProof.Rows L2
section
variable {X : Cx} {E : XK} {n k : Nat} {x : Str} {p pos p2 pos' : Pos} {e a b c tg o i value : Expr} {es : List Expr} {ts : TAD} {te ta tb td tv : TED}
theorem vw_fl {K : Fg} {H : Hp} {M : Mem} {d : D} {u v : V} (r : Rv K H M d v) (e : flD (vw M d) = some u) : v = u ∧ flatV v = true := by
  cases q : vw M d with
  | non => rw [q] at e; rw [vw_non r q]; exact fl_of (K := K) (H := H) (M := M) (d := .non) rfl e
  | bl b => rw [q] at e; rw [vw_bl r q]; exact fl_of (K := K) (H := H) (M := M) (d := .bl b) rfl e
  | int b => rw [q] at e; rw [vw_int r q]; exact fl_of (K := K) (H := H) (M := M) (d := .int b) rfl e
  | str b => rw [q] at e; rw [vw_str r q]; exact fl_of (K := K) (H := H) (M := M) (d := .str b) rfl e
  | _ => rw [q] at e; cases e
theorem vw_key {K : Fg} {H : Hp} {M : Mem} {d : D} {k : Key} {v : V} (r : Rv K H M d v) (e : keyD (vw M d) = some k) : v = kV k := by
  cases q : vw M d with
  | int b => rw [q] at e; rw [vw_int r q]; exact key_of_d (K := K) (H := H) (M := M) (d := .int b) rfl e
  | str b => rw [q] at e; rw [vw_str r q]; exact key_of_d (K := K) (H := H) (M := M) (d := .str b) rfl e
  | _ => rw [q] at e; cases e
theorem in_cases {M : Mem} {dx dy : D} {b : Bool} (h : inO M dx dy = some b) :
    (∃ ks ds k, vw M dy = .dct ks ds ∧ keyD (vw M dx) = some k ∧ b = (valD ks ds k).isSome) ∨ ∃ ds v vs, itemsO M dy = some ds ∧ flD (vw M dx) = some v ∧ flsD ds = some vs ∧ b = inV v vs := by
  unfold inO at h
  split at h
  · rename_i ks ds hq
    split at h
    · rename_i k hk
      exact .inl ⟨ks, ds, k, hq, hk, (Option.some.inj h).symm⟩
    · cases h
  · split at h
    · rename_i ds hi
      split at h
      · rename_i v vs h1 h2
        exact .inr ⟨ds, v, vs, hi, h1, h2, (Option.some.inj h).symm⟩
      · cases h
    · cases h
theorem do_in (hu : X.A.units + 1 < cLine) : DOp X (compareOp .In) inD := by
  intro pins s σ H M x y dx dy v u Q Qd I mo r1 r2 rx ry t q
  unfold inD at t
  split at t
  · rename_i bb hb
    rcases in_cases hb with ⟨ks, ds, k, h1, h2, rfl⟩ | ⟨ds, w, ws, h1, h2, h3, rfl⟩
    · obtain ⟨p, xs, rfl, hp, hl, sp⟩ := vw_dct mo r2 h1
      have ex := vw_key r1 h2
      subst ex
      obtain rfl : u = Value.ref p := ry
      refine d_in hu I (DGet.k (k := k) hp) rx fun s3 I3 => ⟨.bl _, H, I3, rfl, ?_⟩
      rw [zip_none k sp]
      exact q _ _ (up_same mo t rfl)
    · obtain ⟨a, ys, rfl, ha, sa⟩ := items_of mo r2 h1
      obtain ⟨e1, f1⟩ := vw_fl r1 h2
      obtain ⟨e2, f2⟩ := fls_of sa h3
      subst e1 e2
      exact op_in_seq pins s σ H _ _ v u Q I rx ry ⟨a, _, rfl, ha, f1, f2, q _ _ (up_same mo t rfl)⟩
  · exact t.elim
/-! ### slices -/
abbrev TOD := XD → SD → Mem → (Option Int → Mem → Prop) → Prop
structure DO (X : Cx) (E : XK) (e : Option Expr) (t : TOD) : Prop where
  ok : PO X e (fun σ H Q => ∃ s M Qd Xd, StOk X.K σ H s M ∧ XTo X.K H M Xd E ∧ t Xd s M Qd ∧ ∀ l H', (∃ M', Gw H M H' M' ∧ MOk X.K H' M' ∧ Qd l M') → Q l H')
def oNo : TOD := fun _ _ M Q => Q none M
def oSoK (Q : Option Int → Mem → Prop) : QD := fun d M => match vw M d with
  | .int i => Q (some i) M
  | _ => False
def oSo (te : TED) : TOD := fun Xd s M Q => te Xd s M (oSoK Q)
theorem PO.imp {eo : Option Expr} {t t' : TO} (h : PO X eo t) (i : ∀ σ H Q, t' σ H Q → t σ H Q) : PO X eo t' := ⟨fun pins s σ H Q I q => h.run pins s σ H Q I (i σ H Q q)⟩
theorem do_none : DO X E none oNo := ⟨PO.imp po_none fun σ H Q ⟨s, M, Qd, Xd, S, x, t, q⟩ => q none H ⟨M, Gw.refl, S.mem, t⟩⟩
theorem do_some (h : DE X E e te) : DO X E (some e) (oSo te) := ⟨PO.imp (po_some h.ok) fun σ H Q ⟨s, M, Qd, Xd, S, x, t, q⟩ => by
  refine useE S x t fun d v M1 H1 g1 S1 x1 r1 t1 => ?_
  unfold oSoK at t1
  split at t1
  · rename_i i h
    exact ⟨i, vw_int r1 h, q (some i) H1 ⟨M1, g1, S1.mem, t1⟩⟩
  · exact t1.elim⟩
def cutD {α : Type} (xs : List α) (lo hi : Option Int) : List α := (xs.drop (HT.sIx xs.length 0 lo)).take (HT.sIx xs.length xs.length hi - HT.sIx xs.length 0 lo)
theorem rs_cut {K : Fg} {H : Hp} {M : Mem} {ds : List D} {xs : List V} (r : Rs K H M ds xs) (lo hi : Option Int) : Rs K H M (cutD ds lo hi) (cutV xs lo hi) := by
  unfold cutD cutV
  rw [vlen r]
  exact Rs.take _ (Rs.drop _ r)
def slO (M : Mem) (d : D) (lo hi : Option Int) : Option D := match vw M d with
  | .tup ds => some (.tup (cutD ds lo hi))
  | .lst ds => some (.lst (cutD ds lo hi))
  | .fzn ds => some (.lst (cutD ds lo hi))
  | _ => none
def slK (l u : Option Int) (d : D) (Q : QD) : Mem → Prop := fun M => match slO M d l u with
  | some r => Q r M
  | none => False
def dSl (te : TED) (tl tu : TOD) : TED := fun Xd s M Q => te Xd s M fun d M1 => tl Xd s M1 fun l M2 => tu Xd s M2 fun u M3 => slK l u d Q M3
theorem de_sl {lo hi : Option Expr} {tl tu : TOD} (he : DE X E e te) (hl : DO X E lo tl) (hu : DO X E hi tu) : DE X E (.Subscript e (.Slice lo hi none p2) pos) (dSl te tl tu) :=
  ⟨PE.imp (pe_slice (sl_list.or sl_tupA) he.ok hl.ok hu.ok) fun σ H Q ⟨s, M, Qd, Xd, S, x, t, q⟩ => by
    refine useE S x t fun d v M1 H1 g1 S1 x1 r1 t1 => ?_
    refine ⟨s, M1, _, Xd, S1, x1, t1, fun l H2 ⟨M2, g2, m2, t2⟩ => ?_⟩
    refine ⟨s, M2, _, Xd, S1.grow g2 m2, x1.grow g2, t2, fun u H3 ⟨M3, g3, m3, t3⟩ => ?_⟩
    have r3 : Rv X.K H3 M3 d v := Rv.grow g3 _ _ (Rv.grow g2 _ _ r1)
    have gg := (g1.trans g2).trans g3
    unfold slK at t3
    split at t3
    · rename_i r hr
      unfold slO at hr
      split at hr
      · rename_i ds h
        cases hr
        obtain ⟨p, ys, rfl, ha, sa⟩ := vw_tup r3 h
        refine .inr ⟨p, ys, rfl, ha.sq, fun hw => ?_, fun _ pp hl => q _ _ ⟨_, M3, gg.trans (gw_new hl), mok_new m3 hl, new_tup m3 hl (rs_cut sa l u), t3⟩⟩
        have e : cutD ds l u = ds := by
          unfold cutD
          rw [vlen sa] at hw
          rw [hw.1, hw.2, List.drop_zero, Nat.sub_zero, List.take_length]
        rw [e] at t3
        exact q _ _ ⟨.tup ds, M3, gg, m3, ⟨p, ys, rfl, ha, sa⟩, t3⟩
      · rename_i ds h
        cases hr
        obtain ⟨p, ys, rfl, ha, sa⟩ := vw_lst m3 r3 h
        exact .inl ⟨p, ys, rfl, SqL.of ha, fun pp hl => q _ _ ⟨_, M3, gg.trans (gw_new hl), mok_new m3 hl, new_lst m3 hl (rs_cut sa l u), t3⟩⟩
      · rename_i ds h
        cases hr
        obtain ⟨p, ys, rfl, ha, sa⟩ := vw_fzn r3 h
        exact .inl ⟨p, ys, rfl, ha.sq, fun pp hl => q _ _ ⟨_, M3, gg.trans (gw_new hl), mok_new m3 hl, new_lst m3 hl (rs_cut sa l u), t3⟩⟩
      · cases hr
    · exact t3.elim⟩
/-! ### dicts that are changed -/
/-- a key put, at its place or at the end -/
def putD : List Key → List D → Key → D → List Key × List D
  | [], [], k, v => ([k], [v])
  | j :: ks, d :: ds, k, v => if j = k then (j :: ks, v :: ds) else ((j :: (putD ks ds k v).1), (d :: (putD ks ds k v).2))
  | ks, ds, k, v => (ks, ds)
theorem putK_cons {p : Key × V} {r : List (Key × V)} {k : Key} {v : V} (hn : ¬ p.1 = k) : putK (p :: r) k v = p :: putK r k v := by
  unfold putK
  rw [List.any_cons, show decide (p.1 = k) = false from decide_eq_false hn, Bool.false_or]
  by_cases ha : (r.any fun kv => decide (kv.1 = k)) = true
  · rw [if_pos ha, if_pos ha, List.map_cons, if_neg hn]
  · rw [if_neg ha, if_neg ha]; rfl
theorem putK_head {p : Key × V} {r : List (Key × V)} {k : Key} {v : V} (hp : p.1 = k) (hr : ∀ q ∈ r, ¬ q.1 = k) : putK (p :: r) k v = (k, v) :: r := by
  unfold putK
  rw [List.any_cons, show decide (p.1 = k) = true from decide_eq_true hp, Bool.true_or, if_pos rfl, List.map_cons, if_pos hp, hp]
  congr 1
  have : ∀ l : List (Key × V), (∀ q ∈ l, ¬ q.1 = k) → (l.map fun kv => if kv.1 = k then (kv.1, v) else kv) = l := by
    intro l
    induction l with
    | nil => intro _; rfl
    | cons q r ih =>
      intro h
      rw [List.map_cons, if_neg (h q List.mem_cons_self), ih fun z hz => h z (List.mem_cons_of_mem _ hz)]
  exact this r hr
theorem put_rs {K : Fg} {H : Hp} {M : Mem} {k : Key} {d : D} {v : V} (rv : Rv K H M d v) : ∀ {ks : List Key} {ds : List D} {xs : List V}, ks.Nodup → ks.length = ds.length → Rs K H M ds xs →
    ∃ ys, Rs K H M (putD ks ds k d).2 ys ∧ putK (ks.zip xs) k v = (putD ks ds k d).1.zip ys ∧ (putD ks ds k d).1.length = (putD ks ds k d).2.length
  | [], [], xs, _, _, r => by
    have e : xs = [] := r
    subst e
    exact ⟨[v], Rs.cons rv Rs.nil, rfl, rfl⟩
  | [], _ :: _, _, _, hl, _ => by simp at hl
  | _ :: _, [], _, _, hl, _ => by simp at hl
  | j :: ks, d0 :: ds, _, nd, hl, ⟨v0, rr, rfl, h, q⟩ => by
    have nd' := List.nodup_cons.mp nd
    by_cases hj : j = k
    · have e1 : putD (j :: ks) (d0 :: ds) k d = (j :: ks, d :: ds) := by show (if j = k then _ else _) = _; rw [if_pos hj]
      rw [e1]
      refine ⟨v :: rr, Rs.cons rv q, ?_, hl⟩
      rw [List.zip_cons_cons, List.zip_cons_cons, putK_head hj (fun z hz e => ?_), hj]
      have : z.1 ∈ ks := (List.of_mem_zip (show (z.1, z.2) ∈ ks.zip rr from hz)).1
      rw [e, ← hj] at this
      exact nd'.1 this
    · have e1 : putD (j :: ks) (d0 :: ds) k d = ((j :: (putD ks ds k d).1), (d0 :: (putD ks ds k d).2)) := by show (if j = k then _ else _) = _; rw [if_neg hj]
      obtain ⟨ys, h1, h2, h3⟩ := put_rs rv nd'.2 (by simpa using hl) q
      rw [e1]
      refine ⟨v0 :: ys, Rs.cons h h1, ?_, by simp [h3]⟩
      rw [List.zip_cons_cons, putK_cons hj, h2, List.zip_cons_cons]
/-- o[i] = v -/
def setK (o i v : D) (k : Mem → Prop) : Mem → Prop := fun M => match o with
  | .ref a => match M a with
    | some (.lst ds) => match i with
      | .int z => match ixN ds.length z with
        | some j => k (M.put a (.lst (ds.set j v)))
        | none => False
      | _ => False
    | some (.dct ks ds) => match keyD i with
      | some key => (ks.Nodup ∧ ks.length < 1000) ∧ k (M.put a (.dct (putD ks ds key v).1 (putD ks ds key v).2))
      | none => False
    | _ => False
  | _ => False
def rSetA : V → V → V → Hp → (Hp → Prop) → Prop := fun o i v H Q => rSetL o i v H Q ∨ ∃ a H', o = .ref a ∧ DPut H a i v H' ∧ Q H'
theorem set_any (hu : X.A.units + 1 < cLine) : PSet X rSetA := by
  intro pins s σ H o i v ov iv u Q I ro ri rv h
  rcases h with h | ⟨a, H', rfl, g, q⟩
  · exact set_list pins s σ H o i v ov iv u Q I ro ri rv h
  · obtain rfl : ov = Value.ref a := ro
    exact d_setItem hu I g ri rv fun s4 I4 => ⟨H', I4, q⟩
theorem setK_ok {H H0 : Hp} {M M0 : Mem} {do_ di dv : D} {o i v : V} {k : Mem → Prop} {Q : Hp → Prop} (mo : MOk X.K H M) (ro : Rv X.K H M do_ o) (ri : Rv X.K H M di i) (rv : Rv X.K H M dv v) (t : setK do_ di dv k M)
    (q : ∀ H' M', Gw H M H' M' → MOk X.K H' M' → k M' → Q H') : rSetA o i v H Q := by
  unfold setK at t
  split at t
  · rename_i a
    have eo : o = .ref a := ro
    split at t
    · rename_i ds hm
      split at t
      · rename_i z
        split at t
        · rename_i j hj
          obtain ⟨xs, h1, h2⟩ := mo a _ hm
          refine .inl ⟨a, xs, z, j, eo, ri, h1, by rw [vlen h2]; exact hj, q (upd H a (.lst (xs.set j v))) (M.put a (.lst (ds.set j dv))) (gw_put hm) (mok_put mo hm ⟨xs.set j v, upd_same, Rs.grow (gw_put hm) _ _ (Rs.set rv j h2)⟩) t⟩
        · exact t.elim
      · exact t.elim
    · rename_i ks ds hm
      split at t
      · rename_i key hk
        obtain ⟨xs, h1, h3, h2⟩ := mo a _ hm
        obtain ⟨ys, e1, e2, e3⟩ := put_rs (k := key) rv t.1.1 h3 h2
        have hlen : (ks.zip xs).length < sizeLine := by
          rw [List.length_zip, sizeLine_eq]
          have := t.1.2
          omega
        refine .inr ⟨a, _, eo, ?_, q (upd H a (.dK ((putD ks ds key dv).1.zip ys))) (M.put a (.dct (putD ks ds key dv).1 (putD ks ds key dv).2)) (gw_put hm) (mok_put mo hm ⟨ys, upd_same, e3, Rs.grow (gw_put hm) _ _ e1⟩) t.2⟩
        rw [key_of_d ri hk, ← e2]
        exact DPut.k h1 hlen
      · exact t.elim
    · exact t.elim
  · exact t.elim
def gSb (to ti : TED) : TGD := fun d Xd s M Q => to Xd s M fun o M1 => ti Xd s M1 fun i M2 => setK o i d (fun M3 => Q s M3) M2
theorem dg_sub {to ti : TED} (hu : X.A.units + 1 < cLine) (ho : DE X E o to) (hi : DE X E i ti)
    (ha : ∀ v, assign (.Subscript o i pos) X.env v = (do
      let ov ← holding [v] (eval o X.env)
      let iv ← holding [v, ov] (eval i X.env)
      standAt pos
      holding [v, ov, iv] (setItem ov iv v)
      release [v, ov, iv] []) := by intro _; rfl) : DG X E (.Subscript o i pos) (gSb to ti) := by
  refine ⟨_, pg_sub ho.ok hi.ok (set_any hu) ha, fun {v d σ H s M Xd Qd Q} S x r t q => ?_⟩
  refine useE S x t fun od ov M1 H1 g1 S1 x1 r1 t1 => ?_
  refine useE S1 x1 t1 fun di iv M2 H2 g2 S2 x2 r2 t2 => ?_
  exact setK_ok (H0 := H) (M0 := M) S2.mem (Rv.grow g2 _ _ r1) r2 (Rv.grow g2 _ _ (Rv.grow g1 _ _ r)) t2 fun H3 M3 g3 m3 t3 => q _ _ ⟨s, M3, (g1.trans g2).trans g3, S2.grow g3 m3, t3⟩
/-- {k: v, ..}, changed later -/
def dPairs : List (Key × TED) → XD → SD → Mem → (List D → Mem → Prop) → Prop
  | [], _, _, M, Q => Q [] M
  | (_, t) :: r, Xd, s, M, Q => t Xd s M fun d M1 => dPairs r Xd s M1 fun ds M2 => Q (d :: ds) M2
def dDct (trs : List (Key × TED)) : TED := fun Xd s M Q => ∀ p, M p = none → dPairs trs Xd s (M.put p (.dct [] [])) fun ds M1 => M1 p = some (.dct [] []) ∧ Q (.ref p) (M1.put p (.dct (trs.map (·.1)) ds))
inductive DPs (X : Cx) (E : XK) (pos : Pos) : List (Option Expr) → List Expr → List (Key × TED) → List (TE × TE) → Prop
  | nil : DPs X E pos [] [] [] []
  | str {x : Str} {j : Nat} {p : Pos} {v : Expr} {t : TED} {ks : List (Option Expr)} {vs : List Expr} {r : List (Key × TED)} {q : List (TE × TE)} (hv : DE X E v t) (h : DPs X E pos ks vs r q) :
      DPs X E pos (some (.Constant (.str x) j p) :: ks) (v :: vs) ((.inr x, t) :: r) ((tC (.str x), liftE X.K E t) :: q)
theorem DPs.pps {ks : List (Option Expr)} {vs : List Expr} {r : List (Key × TED)} {q : List (TE × TE)} (h : DPs X E pos ks vs r q) : PPs X pos ks vs q := by
  induction h with
  | nil => exact pps_nil
  | str hv _ ih => exact pps_cons pe_str hv.ok ih
theorem DPs.lift {ks : List (Option Expr)} {vs : List Expr} {r : List (Key × TED)} {qs : List (TE × TE)} (h : DPs X E pos ks vs r qs) : ∀ {σ : L2.St} {H : Hp} {s : SD} {M : Mem} {Xd : XD} {Qd : List D → Mem → Prop} {Q : List (V × V) → Hp → Prop},
    StOk X.K σ H s M → XTo X.K H M Xd E → dPairs r Xd s M Qd → (∀ ds xs M' H', ds.length = r.length → Gw H M H' M' → StOk X.K σ H' s M' → Rs X.K H' M' ds xs → Qd ds M' → Q (((r.map (·.1)).zip xs).map fun kv => (kV kv.1, kv.2)) H') → tPairs qs σ H Q := by
  induction h with
  | nil =>
    intro σ H s M Xd Qd Q S x t q
    exact q [] [] M H rfl Gw.refl S rfl t
  | @str y j p v tt ks vs r qs hv _ ih =>
    intro σ H s M Xd Qd Q S x t q
    show tPairs ((tC (.str y), liftE X.K E tt) :: qs) σ H Q
    refine useE S x t fun d w M1 H1 g1 S1 x1 r1 t1 => ?_
    refine ih S1 x1 t1 fun ds xs M2 H2 e1 g2 S2 r2 t2 => ?_
    exact q (d :: ds) (w :: xs) M2 H2 (by simp [e1]) (g1.trans g2) S2 (Rs.cons (Rv.grow g2 _ _ r1) r2) t2
theorem merge_nodup : ∀ {more acc : List (Key × V)}, ((acc ++ more).map (·.1)).Nodup → mergeK acc more = acc ++ more
  | [], acc, _ => by show acc = acc ++ []; rw [List.append_nil]
  | p :: r, acc, nd => by
    have hn : valV acc p.1 = none := by
      cases e : valV acc p.1 with
      | none => rfl
      | some v =>
        exfalso
        unfold valV at e
        rw [Option.map_eq_some_iff] at e
        obtain ⟨kv, h1, _⟩ := e
        have hm := List.mem_of_find?_eq_some h1
        have hk : kv.1 = p.1 := by simpa using List.find?_some h1
        rw [List.map_append, List.map_cons] at nd
        have := (List.nodup_append.mp nd).2.2 kv.1 (List.mem_map.mpr ⟨kv, hm, rfl⟩) p.1 List.mem_cons_self
        exact this hk
    show mergeK (putK acc p.1 p.2) r = _
    rw [putK_new p.2 hn, merge_nodup (by rw [List.append_assoc]; exact nd), List.append_assoc]; rfl
theorem de_dct {keys : List (Option Expr)} {values : List Expr} {trs : List (Key × TED)} {qs : List (TE × TE)} (h : DPs X E pos keys values trs qs) (hall : keys.all (·.isSome) = true) (hl : keys.length = values.length) (h0 : keys ≠ []) (h15 : keys.length ≤ 15) (ht : trs.length ≤ 15)
    (nd : (trs.map (·.1)).Nodup) : DE X E (.Dict keys values pos) (dDct trs) :=
  ⟨PE.imp (pe_disp h.pps hall hl h0 h15) fun σ H Q ⟨s, M, Qd, Xd, S, x, t, q⟩ => fun p hp => by
    have t1 := t p (m_none S.mem hp)
    have gp : Gw H M (upd H p (.dK [])) (M.put p (.dct [] [])) := gw_own hp
    have mp : MOk X.K (upd H p (.dK [])) (M.put p (.dct [] [])) := mok_own S.mem hp (show MObj X.K (upd H p (.dK [])) (M.put p (.dct [] [])) p (.dct [] []) from ⟨[], upd_same, rfl, rfl⟩)
    refine h.lift (S.grow gp mp) (x.grow gp) t1 fun ds xs M2 H2 e1 g2 S2 r2 t2 => ?_
    obtain ⟨hm, t2⟩ := t2
    obtain ⟨ys, h1, _, h2⟩ := S2.mem p _ hm
    have e2 : (trs.map (·.1)).length = ds.length := by rw [List.length_map, e1]
    refine ⟨h1, (trs.map (·.1)).zip xs, rfl, ?_, ?_⟩
    · rw [List.length_zip, List.length_map]; omega
    · have hz : mergeK [] ((trs.map (·.1)).zip xs) = (trs.map (·.1)).zip xs := by
        rw [merge_nodup, List.nil_append]
        rw [List.nil_append, List.map_fst_zip (by rw [vlen r2, e2]; exact Nat.le_refl _)]
        exact nd
      rw [hz]
      exact q _ _ ⟨.ref p, M2.put p (.dct (trs.map (·.1)) ds), (gp.trans g2).trans (gw_put hm), mok_put S2.mem hm ⟨xs, upd_same, e2, Rs.grow (gw_put hm) _ _ r2⟩, rfl, t2⟩⟩
end
end DL
set_option maxHeartbeats 1000000
namespace DL
open PySem PySem.Spec PyProof.Rows L2
section
variable {X : Cx} {E : XK} {n k : Nat} {x : Str} {p pos p2 pos' apos : Pos} {e a b c tg o i value : Expr} {es : List Expr} {ts : TAD} {te ta tb td tv to : TED}
/-! ### append -/
def appK (d : D) (Q : QD) (p : Addr) : Mem → Prop := fun M => match M p with
  | some (.lst ds) => ds.length < sizeLine ∧ Q .non (M.put p (.lst (ds ++ [d])))
  | _ => False
def dApp (to te : TED) : TED := fun Xd s M Q => to Xd s M fun o M1 => match o with
  | .ref p => match M1 p with
    | some (.lst _) => te Xd s M1 fun d M2 => appK d Q p M2
    | _ => False
  | _ => False
theorem de_app (ho : DE X E o to) (he : DE X E e te) (hbase : attributeBase o "append" X.env (eval o X.env) = eval o X.env := by rfl)
    (hfew : ((backTo pos (starEach (e :: []) X.env)).all (fun x => !x.1) && (backToKw pos (keywordEach [] X.env)).all (fun x => x.1.isSome)
      && decide ((e :: []).length + ([] : List Keyword).length + (if ([] : List Keyword).isEmpty then 0 else 1) < 30)) = true := by rfl)
    (hline : (apos.endLine == pos.line) = true := by rfl) (hs : starEach (e :: []) X.env = (false, eval e X.env) :: starEach [] X.env := by rfl) : DE X E (.Call (.Attribute o "append" apos) [e] [] pos) (dApp to te) :=
  ⟨PE.imp (pe_bm PySem.F.plainAttrs_list PySem.F.slot_list_append PySem.F.type_list_append mt_append ho.ok (pa_cons he.ok pa_nil hs) hbase hfew hline hs (by rfl)) fun σ H Q ⟨s, M, Qd, Xd, S, x, t, q⟩ => by
    refine useE S x t fun od v M1 H1 g1 S1 x1 r1 t1 => ?_
    split at t1
    · rename_i l
      have ev : v = .ref l := r1
      split at t1
      · rename_i ds hm
        obtain ⟨xs, h1, h2⟩ := S1.mem l _ hm
        subst ev
        refine ⟨.inl ⟨rfl, xs, SqL.of h1⟩, ?_⟩
        refine useE S1 x1 t1 fun d w M2 H2 g2 S2 x2 r2 t2 => ?_
        unfold appK at t2
        split at t2
        · rename_i es he2
          obtain ⟨ys, h3, h4⟩ := S2.mem l _ he2
          refine ⟨l, ys, w, rfl, rfl, h3, by rw [vlen h4]; exact t2.1, q _ _ ⟨.non, M2.put l (.lst (es ++ [d])), (g1.trans g2).trans (gw_put he2), mok_put S2.mem he2 ⟨ys ++ [w], upd_same, Rs.grow (gw_put he2) _ _ (Rs.append h4 (Rs.cons r2 Rs.nil))⟩, rfl, t2.2⟩⟩
        · exact t2.elim
      · exact t1.elim
    · exact t1.elim⟩
/-! ### an empty dict -/
def dDctN : TED := fun _ _ M Q => ∀ p, M p = none → Q (.ref p) (M.put p (.dct [] []))
theorem de_dctN : DE X E (.Dict [] [] pos) dDctN := ⟨PE.imp pe_dnewK fun σ H Q ⟨s, M, Qd, Xd, S, x, t, q⟩ => fun p hp =>
  q _ _ ⟨.ref p, M.put p (.dct [] []), gw_own hp, mok_own S.mem hp (show MObj X.K (upd H p (.dK [])) (M.put p (.dct [] [])) p (.dct [] []) from ⟨[], upd_same, rfl, rfl⟩), rfl, t p (m_none S.mem hp)⟩⟩
/-! ### xs[::-1] of a list -/
def revK (Q : QD) : QD := fun d M => match lstO M d with
  | some ds => Q (.lst ds.reverse) M
  | none => False
def dRev (te : TED) : TED := fun Xd s M Q => te Xd s M (revK Q)
/-! ### ranges as values -/
def rg1K (Q : Int → Int → Mem → Prop) : QD := fun d M => match d with
  | .int n => Q 0 n M
  | _ => False
def rg1 (te : TED) : XD → SD → Mem → (Int → Int → Mem → Prop) → Prop := fun Xd s M Q => te Xd s M (rg1K Q)
def dLstRg (t : XD → SD → Mem → (Int → Int → Mem → Prop) → Prop) : TED := fun Xd s M Q => t Xd s M fun i j M1 => RgOk i j ∧ Q (.lst (rngL i (j - i).toNat)) M1
def iRevD (t : XD → SD → Mem → (Int → Int → Mem → Prop) → Prop) : TID := fun Xd s M R => t Xd s M fun i j M1 => (-(2 ^ 62) ≤ i ∧ i < 2 ^ 62 ∧ -(2 ^ 62) ≤ j ∧ j < 2 ^ 62) ∧ R (rngL i (j - i).toNat).reverse none M1
/-! ### repr -/
/-- it can be shown -/
def ShOk (p : PyData) : Prop := p.showable = true ∧ p.shown.length ≤ sizeLine ∧ p.depth ≤ 60
end
end DL
set_option maxHeartbeats 1000000
namespace DL
open PySem PySem.Spec PyProof.Rows L2
/-! ### targets of clauses, by place -/
def GV (K : Fg) (vs : List Nat) (g : TGD) (g1 : TG) : Prop := ∀ {v : V} {d : D} {σ : L2.St} {H : Hp} {s : SD} {M : Mem} {Xd : XD} {Qd : SD → Mem → Prop} {Q : L2.St → Hp → Prop}, StOk K σ H s M → XTo K H M Xd E0 → Rv K H M d v → g d Xd s M Qd →
  (∀ σ' H', upS K H M Qd σ' H' → L2.wipe σ' vs = L2.wipe σ vs → Q σ' H') → g1 v σ H Q
def GVs (K : Fg) (vs : List Nat) (g : TGsD) (g1 : TGs) : Prop := ∀ {ws : List V} {ds : List D} {σ : L2.St} {H : Hp} {s : SD} {M : Mem} {Xd : XD} {Qd : SD → Mem → Prop} {Q : L2.St → Hp → Prop}, StOk K σ H s M → XTo K H M Xd E0 → Rs K H M ds ws → g ds Xd s M Qd →
  (∀ σ' H', upS K H M Qd σ' H' → L2.wipe σ' vs = L2.wipe σ vs → Q σ' H') → g1 ws σ H Q
section
variable {K : Fg} {vs : List Nat}
theorem gv_name {i : Nat} (h : i ∈ vs) : GV K vs (gNm i) (gName i) := fun S x r t q => q _ _ ⟨_, _, Gw.refl, S.set i r, t⟩ (wipe_set h)
theorem gvs_nil : GVs K vs gNi gNil := fun {ws ds σ H s M Xd Qd Q} S x r t q => by
  cases ds with
  | nil => exact ⟨r, q _ _ (upS_here S t) rfl⟩
  | cons d ds => exact t.elim
theorem gvs_cons {t : TGD} {u : TGsD} {g1 : TG} {g2 : TGs} (h1 : GV K vs t g1) (h2 : GVs K vs u g2) : GVs K vs (gCo t u) (gCons g1 g2) := fun {ws ds σ H s M Xd Qd Q} S x r t q => by
  cases ds with
  | nil => exact t.elim
  | cons d ds =>
    obtain ⟨v, vr, rfl, rd, rr⟩ := r
    refine ⟨v, vr, rfl, h1 S x rd t fun σ' H' ⟨s', M', g, S', z⟩ ew => ?_⟩
    exact h2 S' (x.grow g) (Rs.grow g _ _ rr) z fun σ2 H2 hu e2 => q σ2 H2 (fwdS (Q := fun a b => upS K H M Qd a b) g (fun _ _ c => c) σ2 H2 hu) (e2.trans ew)
theorem gv_tup {n : Nat} {t : TGsD} {g1 : TGs} (h : GVs K vs t g1) : GV K vs (gTp n t) (gTup K n g1) := fun {v d σ H s M Xd Qd Q} S x r t q => by
  unfold gTp at t
  split at t
  · rename_i ds hd
    obtain ⟨a, xs, rfl, ha, sa⟩ := vw_tup r hd
    exact ⟨a, xs, rfl, ha.sq, by rw [vlen sa]; exact t.1, h S x sa t.2 q⟩
  · exact t.elim
end
section
variable {X : Cx} {E : XK} {pos : Pos} {tg : Expr} {te : TED}
theorem de_comp {elt iter : Expr} {ifs : List Expr} {scope : Scope} (own : List (Str × Nat)) {ti : TID} {g : TGD} {tt : TTD} (g1 : TG) (hc : X.calm = true) (hN : X.N.Nodup) (hi : DI X E tg iter ti) (ok : BlkOk X.N X.env.scope scope own)
    (hg : ∀ (s : Shared) (H : Hp) (C : Addr) (cl : List (Str × Addr)) (fp : List Addr), PG (X.blk s H scope (compEnvC scope cl C X.env) fp) tg g1) (hq : GV X.K (own.map (·.2)) g g1)
    (ht : ∀ (s : Shared) (H : Hp) (C : Addr) (cl : List (Str × Addr)) (fp : List Addr), DTs (X.blk s H scope (compEnvC scope cl C X.env) fp) E0 ifs tt)
    (he : ∀ (s : Shared) (H : Hp) (C : Addr) (cl : List (Str × Addr)) (fp : List Addr), DE (X.blk s H scope (compEnvC scope cl C X.env) fp) E0 elt te) (hs : ∀ x, foldedSetIterable iter X.env x = pure x := by intro _; rfl) :
    DE X E (.ListComp elt [⟨tg, iter, ifs, 0⟩] scope pos) (dLc ti g tt te (own.map (·.2))) := de_lc hc hN hi ok g1 hg hq ht he hs
theorem ds_setComp {i : Nat} {y : Str} {py spos : Pos} {elt iter : Expr} {ifs : List Expr} {scope : Scope} (own : List (Str × Nat)) {ti : TID} {g : TGD} {tt : TTD} (g1 : TG) (hc : X.calm = true) (hN : X.N.Nodup) (hy : X.N[i]? = some y) (hyl : X.env.scope.names.lookup y = some .local)
    (hsw : swapsWith (.ListComp elt [⟨tg, iter, ifs, 0⟩] scope pos) (some (.Name y py)) spos.line X.env = pure true) (hi : DI X E tg iter ti) (ok : BlkOk X.N X.env.scope scope own)
    (hg : ∀ (s : Shared) (H : Hp) (C : Addr) (cl : List (Str × Addr)) (fp : List Addr), PG (X.blk s H scope (compEnvC scope cl C X.env) fp) tg g1) (hq : GV X.K (own.map (·.2)) g g1)
    (ht : ∀ (s : Shared) (H : Hp) (C : Addr) (cl : List (Str × Addr)) (fp : List Addr), DTs (X.blk s H scope (compEnvC scope cl C X.env) fp) E0 ifs tt)
    (he : ∀ (s : Shared) (H : Hp) (C : Addr) (cl : List (Str × Addr)) (fp : List Addr), DE (X.blk s H scope (compEnvC scope cl C X.env) fp) E0 elt te) (hs : ∀ x, foldedSetIterable iter X.env x = pure x := by intro _; rfl) :
    DS X E (.Assign [.Name y py] (.ListComp elt [⟨tg, iter, ifs, 0⟩] scope pos) spos) (sSet i (dLc ti g tt te (own.map (·.2)))) := ds_setLc hc hN hy hyl hsw hi ok g1 hg hq ht he hs
end
/-- what a callee lets out leaves the def -/
theorem pBody {P : Program} {w : World} {K : Fg} {mg : Str → Option Value} {base : Heap} {N : List Str} {qual : Str} {sc : Scope} {f : Addr} {cdv : Value} {A : Around} {outer : List Env} {s : Shared} {H : Hp} {E : XK} :
    Passes (L2.CX P w) (cxOf (L2.CX P w) P w K mg base N qual sc f cdv A outer s H E) E :=
  passes_call (takes_of rfl rfl rfl rfl) fun _ _ _ _ h => h
theorem oBody {P : Program} {w : World} {K : Fg} {mg : Str → Option Value} {base : Heap} {N : List Str} {qual : Str} {sc : Scope} {f : Addr} {cdv : Value} {A : Around} {outer : List Env} {s : Shared} {H : Hp} {E : XK} :
    PassesOwn (model P w) (cxOf (L2.CX P w) P w K mg base N qual sc f cdv A outer s H E).A (cxOf (L2.CX P w) P w K mg base N qual sc f cdv A outer s H E).env (cxOf (L2.CX P w) P w K mg base N qual sc f cdv A outer s H E).xe :=
  passes_of rfl
theorem dfn0 {P : Program} {w : World} {K : Fg} {mg : Str → Option Value} {base : Heap} {k : Nat} {f : Addr} {fd : FuncData} {ps : List Str} : DFn P w K mg base k f fd ps (fun _ _ _ _ => False) :=
  ⟨fun A outer s H M args us vs ds Qd Xd Q E hr e0 hl hb hv mo rs t => t.elim⟩
theorem rs0 {K : Fg} (H : Hp) (M : Mem) : Rs K H M [] [] := rfl
end DL
set_option maxHeartbeats 1000000
namespace PySem
namespace HandSPX
open Builtin Builtin.ObjectAttr
section
variable {M : Model} {A : Around} {E : Value → Shared → Prop} {h : Heap} {g : Array GenState} {d : Drawn} {t : Nat} {os : OsState}
variable {nm q : Str} {C N : Addr} {bs bm bmB : List Value} {hdct : Bool} {sn : List Str} {sub : List Value} {ab : Bool} {col : Option Bool} {dd : Option Addr} {k0 k1 k2 k3 k5 : Option Value} {B newId initId : String}
variable {prog : Program} {w : World} {R : Result → Shared → Prop} {kw : List (Str × Value)}
theorem dlk_check (F : ExcBaseFacts B newId initId bmB) (hT : ∀ X : String, bm.contains (.type X) = bmB.contains (.type X)) {rest : List Value} {Q : Unit → Shared → Prop}
    (hC : h.get? C = some (excClassObj nm q C N bs bm hdct sn sub ab col dd k0 k1 k2 k3 k5 newId)) (hq : Q () ⟨h, g, d, t, os⟩) : wpAny M A (checkBuiltinCall newId ⟨.ref C :: rest, kw⟩) Q E ⟨h, g, d, t, os⟩ := by
  have hc1 : (Value.ref C :: bm).contains (.type B) = true := by rw [List.contains_cons, hT, F.hasB, Bool.or_true]
  have hs1 := F.noStar
  simp only [checkBuiltinCall, F.newKind, F.newSplit, F.newRow]
  repeat (first | refine wpAny_loadPart_at hC ?_ | (refine wpAny_isSubtype_exc hC ?_; rw [hc1]) | refine wpAny_staticBase_exc hC ?_ | refine wpAny_madeBy_exc hC ?_ | simp only [bne_self_eq_false, Bool.false_eq_true, if_false] | wp_step)
  exact hq
theorem dlk_new (F : ExcBaseFacts B newId initId bmB) (hT : ∀ X : String, bm.contains (.type X) = bmB.contains (.type X)) {rest : List Value}
    (hC : h.get? C = some (excClassObj nm q C N bs bm hdct sn sub ab col dd k0 k1 k2 k3 k5 newId))
    (hq : R (.ok (.ret (.ref (h.objs.size + 1)))) ⟨(h.push (W.kdv_tup rest)).push (excO C h.objs.size), g, d, t, os⟩) (hz : rest.length ≤ sizeLine) :
    codeAny (model prog w) A (.builtin newId ⟨.ref C :: rest, kw⟩) R ⟨h, g, d, t, os⟩ := by
  have hends := F.ends
  have c1 : (Value.ref C :: bm).contains (.type B) = true := by rw [List.contains_cons, hT, F.hasB, Bool.or_true]
  have c2 : (Value.ref C :: bm).contains (.type "AttributeError") = false := by rw [List.contains_cons, hT, F.noAttr]; rfl
  have c3 : (Value.ref C :: bm).contains (.type "NameError") = false := by rw [List.contains_cons, hT, F.noName]; rfl
  refine codeAny_builtinAt F.entry ?_
  unfold Builtin.«BaseException.__new__»
  refine wpAt_bind ?_
  show wpAt _ _ _ (stack >>= _) _ _ _
  refine wpAt_bind (wpAt_stack fun p below => wpAt_of_wpAny ?_)
  wp_walk
  refine wpAt_of_wpAny ?_
  rw [F.owner]
  repeat (first | with_reducible refine wpAny_madeHere_exc F.canon hC ?_ | with_reducible refine wpAny_loadPart_at hC ?_ | (with_reducible refine wpAny_isSubtype_exc hC ?_; first | rw [c1] | rw [c2] | rw [c3]) | wp_step)
  show R _ _
  rw [Heap.size_push]; exact hq
theorem dlk_type (F : ExcBaseFacts B newId initId bmB) (hT : ∀ X : String, bm.contains (.type X) = bmB.contains (.type X)) {rest : List Value} {fI : Addr} {Q : Fin → Shared → Prop}
    (hC : h.get? C = some (excClassObj nm q C N bs bm hdct sn sub ab col dd k0 k1 k2 k3 k5 newId))
    (hi : W.Looks (model prog w) h (typeLookup (.ref C) "__init__") (some (.ref fI))) (hb : ∀ self, W.Looks (model prog w) h (bindSpecial (.ref fI) self) (.ref fI, [self])) (hz : rest.length ≤ sizeLine)
    (hq : codeAny (model prog w) A (.call (.ref fI) ⟨.ref (h.objs.size + 1) :: rest, kw⟩)
      (fun r s' => match r with | .ok (.ret v) => v = .none ∧ Q (.done (.ret (.ref (h.objs.size + 1)))) s' | .ok _ => False | .error e => E e s') ⟨(h.push (W.kdv_tup rest)).push (excO C h.objs.size), g, d, t, os⟩) :
    wpAny (model prog w) A (Builtin.«type.__call__» ⟨.ref C :: rest, kw⟩) Q E ⟨h, g, d, t, os⟩ := by
  have hF := F.toExcCallFacts
  repeat (first | with_reducible refine wpAny_loadPart_at hC ?_ | with_reducible refine wpAny_madeBy_exc hC ?_ | wp_step)
  refine codeAny_call_builtin_code (Code.quiet_builtin _ F.quiet) (dlk_check F hT hC ?_)
  refine dlk_new F hT hC ?_ hz
  show wpAny _ _ _ _ _ _
  have kp : ∀ b o, h.get? b = some o → ((h.push (W.kdv_tup rest)).push (excO C h.objs.size)).get? b = some o := fun b o e => Heap.get?_push_of_some _ (Heap.get?_push_of_some _ e)
  have hC1 := kp _ _ hC
  have hg1 : ((h.push (W.kdv_tup rest)).push (excO C h.objs.size)).get? (h.objs.size + 1) = some (excO C h.objs.size) := by heap_get
  have hcc : (Value.ref C :: bm).contains (.ref C) = true := by simp
  have i1 := hi.keeps kp
  have b1 := (hb (.ref (h.objs.size + 1))).keeps kp
  unfold isInstance
  repeat (first | with_reducible refine wpAny_loadPart_at hg1 ?_ | (with_reducible refine wpAny_isSubtype_exc hC1 ?_; rw [hcc]) | wp_step)
  show wpAny _ _ (typeLookup (.ref C) _) _ _ _
  refine i1.at (wpAny_holding (wpAny_bind (b1.at (wpAny_bind (wpAny_call (codeAny_mono hq fun r s' z => ?_))))))
  rcases r with e | (v | _ | _ | _) <;> first | exact z | exact z.elim | skip
  obtain ⟨rfl, z⟩ := z
  first
    | exact wpAny_pure (wpAny_pure z)
    | (wp_walk; exact z)
theorem dlk_call (F : ExcBaseFacts B newId initId bmB) (hT : ∀ X : String, bm.contains (.type X) = bmB.contains (.type X)) {rest : List Value} {fI : Addr}
    (hC : h.get? C = some (excClassObj nm q C N bs bm hdct sn sub ab col dd k0 k1 k2 k3 k5 newId))
    (hi : W.Looks (model prog w) h (typeLookup (.ref C) "__init__") (some (.ref fI))) (hb : ∀ self, W.Looks (model prog w) h (bindSpecial (.ref fI) self) (.ref fI, [self])) (hz : rest.length ≤ sizeLine)
    (hq : codeAny (model prog w) (A.under (.builtin "type.__call__" ⟨.ref C :: rest, kw⟩)) (.call (.ref fI) ⟨.ref (h.objs.size + 1) :: rest, kw⟩) (W.InitBack (h.objs.size + 1) R) ⟨(h.push (W.kdv_tup rest)).push (excO C h.objs.size), g, d, t, os⟩) :
    codeAny (model prog w) A (.call (.ref C) ⟨rest, kw⟩) R ⟨h, g, d, t, os⟩ := by
  have f1 := tc_lookup
  have f2 := tc_bind (.ref C)
  have hTy : (⟨h, g, d, t, os⟩ : Shared).TypeIs (.ref C) "type" := ⟨_, hC, rfl⟩
  refine codeAny_of_tree ?_
  show wpAny _ _ (callAny (.ref C) _) _ _ _
  repeat (any_goals (first | assumption | with_reducible refine wpAny_loadPart_at hC ?_ | wp_step))
  refine ⟨rfl, codeAny_call_builtin_at (Code.quiet_builtin _ (by decide +kernel)) entry_typeCall (wpAny_check_type_call_sub hC (dlk_type F hT hC hi hb hz ?_))⟩
  refine codeAny_mono hq fun r s' z => ?_
  rcases r with e | (v | _ | _ | _) <;> exact z
end
end HandSPX
end PySem
namespace DL
open PySem PySem.Spec PyProof.Rows L2
/-! ### an own class of exceptions over any built-in one -/
structure OexG (K : Fg) (C : Addr) : Prop where
  ex : ∃ B newId initId bmB, ExcBaseFacts B newId initId bmB ∧ StoreFacts B bmB "object.__setattr__" "object" ∧ PySem.W.excInitIn K C bmB newId = true ∧ PySem.W.excOver K C bmB = true
  hd : PySem.W.hasDictIn K C = true
  sa : PySem.W.findIn K (.ref C) "__setattr__" = some (some (.builtin "object.__setattr__"))
  exC : PySem.W.subIn K (.ref C) (.type "BaseException") = some true
  tyC : PySem.W.typeIn K (.ref C) = some (.type "type")
  kC : PySem.W.keepIn K (.ref C) = true
section
open PySem.W PySem.HandSPX Builtin Builtin.ObjectAttr
variable {prog : Program} {w : World} {A : Around} {E : Value → Shared → Prop} {R : Result → Shared → Prop} {hp : Heap} {g : Array GenState} {d : Drawn} {t : Nat} {os : OsState}
theorem osg_new {K : Fg} {name : Str} {tk : Tok} {v : Value} {x C : Addr} {fv : Array Value} (T : OexG K C) (X : K.In hp) (hx : hp.get? x = some { cls := .ref C, data := .fields fv }) (ha : findIn K (.ref C) name = some none)
    (hq : ∀ h' tk' dx, (∀ b o, b ≠ x → hp.get? b = some o → h'.get? b = some o) → hp.objs.size ≤ dx → dx ≠ x → h'.get? x = some { cls := .ref C, dict := some dx, data := .fields fv } → h'.Ns1 dx (fun y => if y = name then some v else none) → R (.ok (.ret .none)) ⟨h', g, d, tk', os⟩) :
    codeAny (model prog w) A (.call (.builtin "object.__setattr__") ⟨[.ref x, .str name tk, v], []⟩) R ⟨hp, g, d, t, os⟩ := by
  obtain ⟨B, newId, initId, bmB, F1, SF, _, ov⟩ := T.ex
  have I : InstAt hp x { cls := .ref C, data := .fields fv } C none := ⟨hx, rfl, rfl, trivial⟩
  have hxs : x ≠ hp.objs.size := Nat.ne_of_lt (Heap.lt_size hx)
  obtain ⟨cd, hcd, hh⟩ := any_some T.hd
  refine osa_openX SF X I ov (r := none) (by unfold takerIn; rw [ha]; rfl) fun b => ?_
  have hcls : Looks (model prog w) hp (classData C) cd := looks_clsIn X hcd
  show wpAny _ _ (storeInOwnDict (.ref x) (.ref C) (.str name tk) name v b) _ _ _
  obtain ⟨nm, bs, mro, ns, qn, hd, sn, sb, ab, col, del⟩ := cd
  dsimp only at hh
  subst hh
  unfold storeInOwnDict ownDictForStores
  repeat (first | with_reducible refine store_in_new ?_ ?_ | with_reducible refine wpAny_loadPart_at hx ?_ | with_reducible refine hcls.at ?_ | wp_step)
  · exact ⟨_, #[], _, (Heap.get?_update_ne _ _ _ _ hxs.symm).trans (Heap.get?_push_at rfl rfl), rfl, fun e he => absurd he (by simp), fun _ => rfl⟩
  · intro h' tk' hn' hs
    have hx1 : (hp.push { cls := .type "dict", data := .dict #[] }).get? x = some { cls := .ref C, data := .fields fv } := Heap.get?_push_of_some _ hx
    refine hq h' tk' hp.objs.size (fun b o hb ho => ?_) (Nat.le_refl _) hxs.symm ?_ hn'
    · exact (hs.2 b (Nat.ne_of_lt (Heap.lt_size ho))).trans ((Heap.get?_update_ne _ _ _ _ hb).trans (Heap.get?_push_of_some _ ho))
    · exact (hs.2 x hxs).trans (Heap.get?_update_self _ hx1 rfl)
theorem osg_old {K : Fg} {name : Str} {tk : Tok} {v : Value} {x C dx : Addr} {fv : Array Value} {m0 : Str → Option Value} {nl : List Str} (T : OexG K C)
    (X : K.In hp) (hx : hp.get? x = some { cls := .ref C, dict := some dx, data := .fields fv }) (hns : hp.Ns1 dx m0) (hw : Within m0 nl) (hz : nl.length ≤ 1000) (ha : findIn K (.ref C) name = some none)
    (hq : ∀ h' tk', (∀ b o, b ≠ dx → hp.get? b = some o → h'.get? b = some o) → h'.Ns1 dx (fun y => if y = name then some v else m0 y) → R (.ok (.ret .none)) ⟨h', g, d, tk', os⟩) :
    codeAny (model prog w) A (.call (.builtin "object.__setattr__") ⟨[.ref x, .str name tk, v], []⟩) R ⟨hp, g, d, t, os⟩ := by
  obtain ⟨B, newId, initId, bmB, F1, SF, _, ov⟩ := T.ex
  obtain ⟨oD, esD, epD, hoD, hdD, _⟩ := hns.count hw
  have I : InstAt hp x { cls := .ref C, dict := some dx, data := .fields fv } C (some oD) := ⟨hx, rfl, rfl, hoD⟩
  obtain ⟨cd, hcd, hh⟩ := any_some T.hd
  refine osa_openX SF X I ov (r := none) (by unfold takerIn; rw [ha]; rfl) fun b => ?_
  have hcls : Looks (model prog w) hp (classData C) cd := looks_clsIn X hcd
  show wpAny _ _ (storeInOwnDict (.ref x) (.ref C) (.str name tk) name v b) _ _ _
  obtain ⟨nm, bs, mro, ns, qn, hd, sn, sb, ab, col, del⟩ := cd
  dsimp only at hh
  subst hh
  unfold storeInOwnDict ownDictForStores
  repeat (first | with_reducible refine PySem.OEX.store_in_old hns hw hz ?_ | with_reducible refine wpAny_loadPart_at hx ?_ | with_reducible refine hcls.at ?_ | wp_step)
  intro h' tk' hn' hs
  exact hq h' tk' (fun b o hb ho => (hs.2 b hb).trans ho) hn'
end
end DL
set_option maxHeartbeats 1000000
namespace DL
open PySem PySem.Spec PyProof.Rows L2
/-! ### fields stored -/
section
variable {X : Cx} {pins : List (Addr × Obj)} {σ : L2.St} {H : Hp} {s : Shared} {a C dx : Addr} {f : Str} {y : V} {u : Value} {fs : List (Str × V)} {Q : Unit → Shared → Prop} {E : Value → Shared → Prop} {A : Around}
theorem osv_new (T : OexG X.K C) (I : Inv X pins σ H s) (e : H a = some (exo a C none)) (hno : PySem.W.findIn X.K (.ref C) f = some none) (ry : RelV y u)
    (h : ∀ dx s', H dx = none → dx ≠ a → Inv X pins σ (upd (upd H dx (exd dx [(f, y)])) a (exo a C (some dx))) s' → Q () s') : wpAny (model X.prog X.w) A (setAttr (.ref a) f u) Q E s := by
  obtain ⟨t1, ho⟩ := exo_at I.hok e
  obtain ⟨hp, ge, d, tk, os⟩ := s
  refine PySem.W.set_plain I.kIn (ox := { cls := .ref C, dict := none, data := .fields #[.ref t1, .none, .none, .none, .bool false, .none] }) (od := none) ⟨ho, rfl, rfl, trivial⟩ T.sa (osg_new T I.kIn ho hno fun h' tk' dx k dn dne hx hn => ?_)
  have hnd : H dx = none := I.hok.fresh dn
  have nd : ∀ {b : Addr} {o : Obj}, hp.get? b = some o → b ≠ dx := fun {b o} q => Nat.ne_of_lt (Nat.lt_of_lt_of_le (Heap.lt_size q) dn)
  have na : ∀ {b : Addr}, H b = none → b ≠ a := fun {b} n z => by rw [z, e] at n; cases n
  have U : Un X.fs [] H (upd (upd H dx (exd dx [(f, y)])) a (exo a C (some dx))) hp h' :=
    ⟨fun b o q n _ _ => k b o (na n) q, fun b o q n _ _ => ⟨o.slots, k b o (na n) q⟩, fun b o q n _ => by rw [upd_ne (na n), upd_ne (nd q)]; exact n,
      fun b o q _ => by
        by_cases hb : b = a
        · exact ⟨_, by rw [hb]; exact hx⟩
        · exact ⟨o, k b o hb q⟩,
      fun b xs q => by rw [upd_ne (at_ne e q exo_tup), upd_ne (ne_of_none q hnd)]; exact q, fun b o v q => by rw [upd_ne (at_ne e q exo_frz), upd_ne (ne_of_none q hnd)]; exact q,
      fun b ps q => ⟨#[], by rw [upd_ne (at_ne e q exo_tbl), upd_ne (ne_of_none q hnd), q]; simp⟩⟩
  refine h dx _ hnd dne (I.un (t' := tk') U fun b o q => ?_)
  by_cases hb : b = a
  · subst hb; rw [upd_same] at q; cases q; exact exo_ok hx
  · rw [upd_ne hb] at q
    by_cases hd : b = dx
    · subst hd; rw [upd_same] at q; cases q; exact exd_ok hn (relO_put (fs := []) ry fun g => True.intro)
    · rw [upd_ne hd] at q
      exact (I.hok b o q).stay (fun c v hc z => k c v (hc.elim (fun hc => by rw [hc]; exact hb) fun hc => at_ne e hc exo_own) z)
        (fun c hc => by rw [upd_ne (at_ne e hc exo_own), upd_ne (ne_of_none hc hnd)]; exact hc) (fun c xs hc => by rw [upd_ne (at_ne e hc exo_tup), upd_ne (ne_of_none hc hnd)]; exact hc)
theorem osv_old (T : OexG X.K C) (I : Inv X pins σ H s) (e : H a = some (exo a C (some dx))) (ed : H dx = some (exd dx fs)) (hl : fs.length ≤ 900) (hno : PySem.W.findIn X.K (.ref C) f = some none) (ry : RelV y u)
    (h : ∀ s', Inv X pins σ (upd H dx (exd dx ((f, y) :: fs))) s' → Q () s') : wpAny (model X.prog X.w) A (setAttr (.ref a) f u) Q E s := by
  obtain ⟨t1, ho⟩ := exo_at I.hok e
  obtain ⟨mA, hns, rel⟩ := exd_at I.hok ed
  obtain ⟨hp, ge, d, tk, os⟩ := s
  obtain ⟨oD, _, _, hoD, _, _⟩ := hns.count (within_of rel)
  refine PySem.W.set_plain I.kIn (ox := { cls := .ref C, dict := some dx, data := .fields #[.ref t1, .none, .none, .none, .bool false, .none] }) (od := some oD) ⟨ho, rfl, rfl, hoD⟩ T.sa
    (osg_old T I.kIn ho hns (within_of rel) (by rw [List.length_map]; omega) hno fun h' tk' k hn => ?_)
  have hd : ∃ o, h'.get? dx = some o := by obtain ⟨o, _, _, e', _⟩ := hn; exact ⟨o, e'⟩
  exact h _ (I.write (t' := tk') (x := dx) (e := dx) (o := exd dx ((f, y) :: fs)) (by rw [ed]; exact True.intro) (.inl rfl) k hd (exd_ok hn (relO_put ry rel)))
def tOsg (K : Fg) (f : Str) (to te : TE) : TS := fun D σ H => te σ H fun y H1 => to σ H1 fun x H2 => ∃ a C : Addr, x = .ref a ∧ OexG K C ∧ PySem.W.findIn K (.ref C) f = some none ∧
  ((H2 a = some (exo a C none) ∧ ∀ dx, H2 dx = none → dx ≠ a → D.nx σ (upd (upd H2 dx (exd dx [(f, y)])) a (exo a C (some dx)))) ∨
    ∃ (dx : Addr) (fs : List (Str × V)), H2 a = some (exo a C (some dx)) ∧ H2 dx = some (exd dx fs) ∧ fs.length ≤ 900 ∧ D.nx σ (upd H2 dx (exd dx ((f, y) :: fs))))
theorem ps_osg {o e : Expr} {to te : TE} {p' pos : Pos} (ho : PE X o to) (he : PE X e te) (hs : swapsWith e (some (.Attribute o f p')) pos.line X.env = pure false := by rfl) : PS X (.Assign [.Attribute o f p'] e pos) (tOsg X.K f to te) := by
  refine ⟨fun pins s σ H D I h => plainObj_wpAny_Assign_Attribute (thn (he.run pins s σ H _ I h) fun v s1 ⟨y, H1, I1, r1, q1⟩ => thn (ho.run pins s1 σ H1 _ I1 q1) fun u s2 ⟨x, H2, I2, r2, a, C, ex, T, hno, q⟩ => ?_) hs⟩
  subst ex
  obtain rfl : u = Value.ref a := r2
  rcases q with ⟨ea, q⟩ | ⟨dx, fs, ea, ed, hl, q⟩
  · exact osv_new T I2 ea hno r1 fun dx s' n ne J => ⟨σ, _, J, q dx n ne⟩
  · exact osv_old T I2 ea ed hl hno r1 fun s' J => ⟨σ, _, J, q⟩
end
/-! ### what an own __init__ of an exception leaves -/
/-- the exception at its address gets a dict of its fields ns, the last one stored first -/
def spEx (C : Addr) (ns : List Str) : Sp := fun vs H Q _ => ∃ a xs, vs = .ref a :: xs ∧ xs.length = ns.length ∧ H a = some (exo a C none) ∧
  ∀ d H', H d = none → d ≠ a → H' a = some (exo a C (some d)) → H' d = some (exd d (ns.zip xs.reverse)) → (∀ b, b ≠ a → b ≠ d → H' b = H b) → Q .non H'
theorem spEx_len {C : Addr} {ns ps : List Str} (h : ps.length = ns.length + 1) : ∀ vs H Q E, spEx C ns vs H Q E → vs.length = ps.length := fun vs H Q E ⟨a, xs, e, l, _⟩ => by
  rw [e, List.length_cons, l, h]
section
variable {X : Cx} {K : Fg} {C : Addr} {f g : Str} {p1 p2 p3 p4 p5 p6 p7 p8 : Pos}
theorem init_two {x y : Str} (T : OexG X.K C) (hN : X.N = [("self" : Str), x, y]) (hf : PySem.W.findIn X.K (.ref C) f = some none) (hg : PySem.W.findIn X.K (.ref C) g = some none) (ps : PE X (.Name "self" p1) (tVar 0)) (px : PE X (.Name x p3) (tVar 1))
    (ps2 : PE X (.Name "self" p5) (tVar 0)) (py : PE X (.Name y p7) (tVar 2)) {vs : List V} {H : Hp} {Q : VK} {E : XK} (h : spEx C [g, f] vs H Q E) :
    ∃ t, PSs X [.Assign [.Attribute (.Name "self" p1) f p2] (.Name x p3) p4, .Assign [.Attribute (.Name "self" p5) g p6] (.Name y p7) p8] t ∧ t { nx := fun _ H' => Q .non H', rt := Q } (start X.N vs) H := by
  obtain ⟨a, xs, e, l, ha, q⟩ := h
  obtain ⟨v, u, rfl⟩ : ∃ v u, xs = [v, u] := by
    match xs, l with
    | [v, u], _ => exact ⟨v, u, rfl⟩
  subst e
  refine ⟨_, pss_cons (ps_osg ps px) (pss_one (ps_osg ps2 py)), ?_⟩
  rw [hN]
  refine ⟨v, rfl, .ref a, rfl, a, C, rfl, T, hf, .inl ⟨ha, fun dx hn ne => ?_⟩⟩
  refine ⟨u, rfl, .ref a, rfl, a, C, rfl, T, hg, .inr ⟨dx, [(f, v)], upd_same, ?_, (by show 1 ≤ 900; decide), ?_⟩⟩
  · rw [upd_ne ne, upd_same]
  · refine q dx _ hn ne ?_ ?_ fun b h1 h2 => ?_
    · rw [upd_ne (Ne.symm ne), upd_same]
    · rw [upd_same]; rfl
    · rw [upd_ne h2, upd_ne h1, upd_ne h2]
end
/-! ### made and held -/
theorem mok_keep {K : Fg} {H H' : Hp} {M : Mem} (mo : MOk K H M) (k : ∀ a o, H a = some o → H' a = some o) : MOk K H' M := fun a m e => by
  have gw : Gw H M H' M := fun b u h z _ => ⟨k b u h, z⟩
  have q := mo a m e
  cases m with
  | lst ds => obtain ⟨xs, h1, h2⟩ := q; exact ⟨xs, k _ _ h1, Rs.grow gw ds xs h2⟩
  | dct ks ds => obtain ⟨xs, h1, h2, h3⟩ := q; exact ⟨xs, k _ _ h1, h2, Rs.grow gw ds xs h3⟩
  | ins C ns ds => obtain ⟨dx, xs, h1, h2, h3, h4, h5⟩ := q; exact ⟨dx, xs, k _ _ h1, h2, k _ _ h3, h4, Rs.grow gw ds xs h5⟩
  | gen φ ds => exact q.elim
  | tab q0 => obtain ⟨ps, h1, _⟩ := id q; exact TabAt.keep q ((k _ _ h1).trans h1.symm) gw
/-- what stands of a class of exceptions with an own __init__ that keeps the fields ns -/
structure MkOk (P : Program) (w : World) (K : Fg) (mg : Str → Option Value) (base : Heap) (k : Nat) (C : Addr) (ns ps : List Str) : Prop where
  T : OexG K C
  ex : ∃ (fI : Addr) (fd : FuncData), PySem.W.findIn K (.ref C) "__init__" = some (some (.ref fI)) ∧ PySem.W.typeIn K (.ref fI) = some (.type "function") ∧
    FnOk P w K mg base (L2.CX P w) k fI fd ps (spEx C ns) ∧ Binds K fd ps []
def dMk (C : Addr) (ns : List Str) (t : TAD) : TED := fun Xd s M Q => t Xd s M fun ds M1 => Q (.exn C ns ds.reverse) M1
def sRaise (C : Addr) (ns : List Str) (t : TAD) : TSD := fun Y s M => t Y.ex s M fun ds M1 => Y.ex C ns ds.reverse M1
section
variable {X : Cx} {E : XK} {n k : Nat} {C : Addr} {ns ps : List Str} {x : Str} {p pos : Pos} {e : Expr} {es : List Expr} {ts : TAD}
theorem pmk_mkv {ta : TA} (Z : MkOk X.prog X.w X.K X.mg X.base k C ns ps) (hr : Room (k + 1) X.A) (hx : Passes (L2.CX X.prog X.w) X (fun _ _ _ => False)) (hg : Gl X x) (hm : X.mg x = some (.ref C)) (ha : PA X (e :: es) ta)
    (hdb : (x == ("__debug__" : Str)) = false := by decide) (he : starEach (e :: es) X.env = (false, eval e X.env) :: starEach es X.env := by rfl) (hpl : (backTo pos (starEach es X.env)).any (·.1) = false := by rfl) :
    PMk X (.Call (.Name x p) (e :: es) [] pos) (fun σ H Q => ta σ H fun vs H1 => vs.length = ns.length ∧ vs.length ≤ 1000 ∧ ∀ d H2, H1 d = none → H2 d = some (.xd (ns.zip vs.reverse)) → (∀ b o, H1 b = some o → H2 b = some o) → Q (.ref C) (some d) H2) := by
  intro pins s σ H Q I h
  obtain ⟨fI, fd, iC, tI, F1, hb⟩ := Z.ex
  obtain ⟨B, newId, initId, bmB, FB, SF, xi, ov⟩ := Z.T.ex
  refine wpAny_Call_Name_kw (ld_glob I hg hm (PySem.W.callWith_K (h₀ := X.base) I.ok.mod.kin Z.T.kC (thn (ha.run pos pins s σ H _ I h) fun us s1 ⟨vs, H1, I1, r1, hl, hz, q1⟩ => ⟨I1.kIn, ?_⟩) he hpl) hdb)
  obtain ⟨hp, ge, dr, tk, os⟩ := s1
  have hsz := Nat.le_succ hp.objs.size
  have hn : H1 (hp.objs.size + 1) = none := I1.hok.fresh hsz
  have I2 := I1.laid (t' := tk) (a := hp.objs.size + 1) (o := exo (hp.objs.size + 1) C none) (h' := (hp.push (PySem.W.kdv_tup us)).push (PySem.HandSPX.excO C hp.objs.size)) (fun b o z => Heap.get?_push_of_some _ (Heap.get?_push_of_some _ z)) hsz (exo_ok (t1 := hp.objs.size) (by heap_get))
  have hl2 : (Value.ref (hp.objs.size + 1) :: us ++ []).length = ps.length := by
    rw [List.append_nil, List.length_cons, ← r1.length]
    have z := F1.len (.ref (hp.objs.size + 1) :: vs) (upd H1 (hp.objs.size + 1) (exo (hp.objs.size + 1) C none)) (fun _ _ => True) (fun _ _ _ => False) ⟨_, vs, rfl, hl, upd_same, fun _ _ _ _ _ _ _ => True.intro⟩
    rw [← z, List.length_cons]
  have hsp : spEx C ns (.ref (hp.objs.size + 1) :: vs) (upd H1 (hp.objs.size + 1) (exo (hp.objs.size + 1) C none)) (fun v H2 => v = .non ∧ ∃ d, H1 d = none ∧ d ≠ hp.objs.size + 1 ∧ H2 (hp.objs.size + 1) = some (exo (hp.objs.size + 1) C (some d)) ∧ H2 d = some (exd d (ns.zip vs.reverse)) ∧ ∀ b, b ≠ hp.objs.size + 1 → b ≠ d → H2 b = H1 b) (fun _ _ _ => False) :=
    ⟨_, vs, rfl, hl, upd_same, fun d H2 hd hne h1 h2 h3 => ⟨rfl, d, by rw [upd_ne hne] at hd; exact hd, hne, h1, h2, fun b hb hbd => (h3 b hb hbd).trans (upd_ne hb)⟩⟩
  have hus : us.length ≤ sizeLine := by rw [← r1.length, sizeLine_eq]; omega
  have e2 := I2.env0.make C us []
  obtain ⟨nm, N, qn, bs, bm, hdct, sn, sub, ab, col, dd, k0, k1, k2, k3, k5, hC, hbm⟩ := PySem.W.excInit_of I1.kIn xi
  show wpAny _ _ (call (.ref C) us) _ _ _
  refine wpAny_call (PySem.HandSPX.dlk_call FB hbm hC (PySem.W.looks_findIn I1.kIn iC) (fun self => PySem.W.bind_fn I1.kIn self tI) hus
    (codeAny_mono (F1.run _ X.stack _ _ ⟨.ref (hp.objs.size + 1) :: us, []⟩ (.ref (hp.objs.size + 1) :: us ++ []) (.ref (hp.objs.size + 1) :: vs) _ _ (hr.make C us []) e2 (hb _ (.ref (hp.objs.size + 1) :: us) I2.kIn hl2) (by rw [List.append_nil]; exact .cons rfl r1) hsp) ?_))
  · intro r s' hq'
    cases r with
    | error er => exact hx pins σ _ _ er s' I2 hq'
    | ok fl =>
      cases fl with
      | ret u =>
        obtain ⟨v, H2, os2, bare2, un2, hok2, rv, ev, d, hd1, hne, h1, h2, h3⟩ := hq'
        subst ev
        obtain ⟨hp2, g2, d2, t2, os'⟩ := s'
        refine ⟨rv, mk_end (raises_own Z.T.exC Z.T.tyC) I1 hsz (fun b o z => Heap.get?_push_of_some _ (Heap.get?_push_of_some _ z)) un2 hok2 os2 bare2 h1 h2 hd1 (q1 d _ hd1 upd_same fun b o z => ?_)⟩
        have z1 := ne_of_none z hn
        have z2 := ne_of_none z hd1
        rw [upd_ne z2, del_ne z1, h3 b z1 z2]; exact z
      | next => exact hq'.elim
      | brk => exact hq'.elim
      | cont => exact hq'.elim
theorem ds_raise {pos' : Pos} (Z : MkOk X.prog X.w X.K X.mg X.base k C ns ps) (hr : RoomG (k + 1) X.A) (hc : X.calm = true) (tk : Takes X (fun cls d _ H => E cls d H)) (hx : Passes (L2.CX X.prog X.w) X (fun _ _ _ => False)) (hg : Gl X x) (hm : X.mg x = some (.ref C)) (ha : DN X E n (e :: es) ts)
    (hn : n = ns.length := by rfl) (hz : n ≤ 1000 := by decide) (hdb : (x == ("__debug__" : Str)) = false := by decide) (he : starEach (e :: es) X.env = (false, eval e X.env) :: starEach es X.env := by rfl) (hpl : (backTo pos (starEach es X.env)).any (·.1) = false := by rfl) :
    DS X E (.Raise (some (.Call (.Name x p) (e :: es) [] pos)) none pos') (sRaise C ns ts) := by
  refine ⟨PS.imp (ps_raise hc tk (pmk_mkv Z hr.r hx hg hm ha.ok hdb he hpl)) fun D σ H ⟨s, M, Y, S, xt, t, q⟩ => ?_⟩
  refine useN S xt t fun ds vs M1 H1 hl g1 S1 x1 r1 t1 => ⟨by rw [hl, hn], by rw [hl]; exact hz, fun d H2 hd h2 kp => ?_⟩
  have gw : Gw H1 M1 H2 M1 := fun b o z m _ => ⟨kp b o z, m⟩
  refine x1 _ _ _ ⟨C, d, ns, vs.reverse, ds.reverse, M1, rfl, rfl, h2, m_none S1.mem hd, ?_, Rs.grow gw _ _ (Rs.reverse r1), gw, mok_keep S1.mem kp, t1⟩
  rw [List.length_reverse, Rs.len r1, hl, hn]
end
end DL
set_option maxHeartbeats 1000000
namespace DL
open PySem PySem.Spec PyProof.Rows L2
/-! ### isinstance of an exception that is held -/
section
open PySem.W PySem.Calls
variable {prog : Program} {w : World} {A : Around} {E : Value → Shared → Prop} {s : Shared} {K : Fg} {x D : Addr} {ox : Obj} {od : Option Obj}
theorem fo_data {C : Addr} {name : Str} {a g : Value} (hc : (clsIn K C).isSome = true) (ha : findIn K (.ref C) name = some (some a)) (hg : specialIn K a "__get__" = some (some g)) (ht : takesIn K a = some true) : findObj K C od name = some (.bind g a) := by
  obtain ⟨cd, hc⟩ := Option.isSome_iff_exists.mp hc
  unfold findObj
  rw [hc, Option.bind_some, ha, Option.bind_some]; simp [hg, ht]
theorem ex_class {Q : Option Value → Shared → Prop} (Z : ExcC K D) (X : K.In s.heap) (I : InstAt s.heap x ox D od) (h : Q (some (.ref D)) { s with toks := s.toks + 1 }) : wpAny (model prog w) A (getAttr? (.ref x) "__class__") Q E s := by
  have hf : findObj K D od "__class__" = some (.bind (.builtin "getset_descriptor.__get__") (.builtin "object.__class__")) := fo_data (by obtain ⟨cd, hc, _⟩ := any_some Z.hd; rw [hc]; rfl) Z.ha Z.hn Z.ht
  obtain ⟨hp, ge, dr, tk, os⟩ := s
  have t0 := I.type (M := model prog w)
  have t1 := looks_findIn (M := model prog w) X Z.hg
  have t2 := looks_findIn (M := model prog w) X Z.hk
  have t3 := looks_find (M := model prog w) X I hf
  have sb : Looks (model prog w) hp (isInstance (.ref x) (.type "BaseException")) true := t0.andThen (looks_subIn X Z.hs)
  have e2 : (Value.builtin "BaseException.__getattribute__" == Value.builtin "object.__getattribute__") = false := by decide +kernel
  have e0 : (false && onTheHeap (Value.builtin "BaseException.__getattribute__")) = false := rfl
  have e1 : (onTheHeap (Value.ref D) && Value.builtin "BaseException.__getattribute__" == Value.builtin "object.__getattribute__") = false := by rw [e2]; rfl
  unfold getAttr? getAttrBy? getAttrBy
  refine wpAny_bind (wpAny_mkText (wpAny_bind (wpAny_attempt (wpAny_holding (wpAny_bind (t0.at (wpAny_bind (t1.at ?_))))))))
  show wpAny _ _ (if (onTheHeap (Value.ref D) && Value.builtin "BaseException.__getattribute__" == Value.builtin "object.__getattribute__") = true then _ else _) _ _ _
  rw [e1, if_neg Bool.false_ne_true]
  unfold getAttrByItsOwn hookBefore
  refine wpAny_bind ?_
  rw [if_pos (show onTheHeap (Value.ref D) = true from rfl)]
  refine t2.at (wpAny_bind (wpAny_attempt (wpAny_holding ?_)))
  unfold callGetattribute
  rw [e0, if_neg Bool.false_ne_true]
  unfold boundAndCalled
  rw [PySem.F.excAttr_ValueError.ga.bind (.ref x)]
  refine wpAny_bind (wpAny_pure ?_)
  show wpAny _ _ (call (.builtin "BaseException.__getattribute__") [.ref x, .str "__class__" tk]) _ _ _
  refine wpAny_call (codeAny_call_builtin PySem.F.excAttr_ValueError.ga.plain PySem.F.entry_bexc_ga ?_)
  refine @check_slot (model prog w) _ _ ⟨hp, ge, dr, tk + 1, os⟩ "BaseException.__getattribute__" "BaseException" "__getattribute__" (.ref x) [.str "__class__" tk] [] _ (by decide +kernel) (by decide +kernel) sb (PySem.F.args_bexc_ga (.ref x) (.str "__class__" tk)) ?_
  unfold Builtin.«object.__getattribute__»
  refine wpAny_bind (wpAny_of_eq (a := ((Value.ref x : Value), [Value.str "__class__" tk])) (by first | rfl | (simp only [slotArgs]; rfl)) (wpAny_bind (wpAny_pure (wpAny_bind (t0.at (wpAny_bind (t3.at ?_)))))))
  show wpAny _ _ (holding [Value.builtin "object.__class__"] (call (.builtin "getset_descriptor.__get__") [.builtin "object.__class__", .ref x, .ref D]) >>= ret) _ _ _
  refine wpAny_bind (wpAny_holding (wpAny_call (class_get (s := ⟨hp, ge, dr, tk + 1, os⟩) (ox := ox) (od := od) X I Z.hm (wpAny_pure ?_))))
  show wpAny _ _ (handedOut (.ref D)) _ _ _
  rw [handedOut_of (v := .ref D) rfl]
  first
    | exact wpAny_pure (wpAny_pure h)
    | exact wpAny_pure h
    | exact wpAny_pure (wpAny_bind (wpAny_pure (wpAny_pure h)))
theorem kit_ex (Z : ExcC K D) : KitX K (.ref x) (.ref D) (fun h => InstAt h x ox D od) where
  ty := fun _ _ _ I => I.type
  it := fun M h X _ => by
    obtain ⟨cd, hc, _⟩ := any_some Z.hd
    unfold clsIn at hc
    split at hc
    · rename_i ho
      intro A' Q' E' s' k q
      unfold isType loadHead
      exact wpAny_bind (wpAny_loadPart (k _ _ (X _ _ ho)) (wpAny_pure q))
    · cases hc
  ne := (handS_kitx_exc (x := x) (ox := ox) Z.hg Z.hk Z.hs Z.hd Z.ha Z.hn Z.ht Z.hm).ne
  ca := fun X I k => ex_class Z X I k
end
section
variable {X : Cx} {pins : List (Addr × Obj)} {σ : L2.St} {H : Hp} {M : Mem} {s : Shared}
/-- where a held exception lies -/
theorem exn_at {a C dx : Addr} {ns : List Str} {xs : List V} (I : Inv X pins σ H s) (ha : ExAt H a C dx) (hd : EdAt H dx (ns.zip xs)) :
    ∃ (ox : Obj) (oD : Obj) (mA : Str → Option Value), PySem.W.InstAt s.heap a ox C (some oD) ∧ s.heap.Ns1 dx mA ∧ (∀ f, RelO ((ns.zip xs).lookup f) (mA f)) ∧ s.heap.get? dx = some oD ∧ ∀ n, PySem.W.lookIn n oD = some (mA n) := by
  obtain ⟨mA, hns, rel⟩ : ∃ mA, s.heap.Ns1 dx mA ∧ ∀ f, RelO ((ns.zip xs).lookup f) (mA f) := by
    rcases hd with hd | hd
    · exact exd_at I.hok hd
    · exact (show ObjOk X.prog X.w H s.heap dx (.xd (ns.zip xs)) from I.hok dx _ hd)
  obtain ⟨oD, hoD, hl⟩ := lookIn_ns hns
  rcases ha with ha | ha
  · obtain ⟨t1, ho⟩ := exo_at I.hok ha
    exact ⟨_, oD, mA, ⟨ho, rfl, rfl, hoD⟩, hns, rel, hoD, hl⟩
  · obtain ⟨⟨oe, vs, h1, h2, h3⟩, _⟩ := (show ObjOk X.prog X.w H s.heap a (exc a C dx) from I.hok a _ ha)
    refine ⟨oe, oD, mA, ⟨h1, h2.1, ?_, ?_⟩, hns, rel, hoD, hl⟩
    · unfold PySem.W.notCls; rw [h3]
    · rw [h2.2]; exact hoD
/-- isinstance(e, C), e a held exception, C a class, own or built in -/
def isxC (K : Fg) : OC := fun ds M Q => match ds with
  | [.exn C _ _, c] => ExcC K C ∧ match c with
    | .ty n => ∃ b, PySem.W.kitOne K (.ref C) (.type n) = some b ∧ Q (.bl b) M
    | .ref B => ∃ b, PySem.W.kitOne K (.ref C) (.ref B) = some b ∧ Q (.bl b) M
    | _ => False
  | _ => False
theorem dc_isx : DC X (.builtin "isinstance") (isxC X.K) := by
  intro pins s σ H M xs ds us Q Qd I mo r rv t q
  unfold isxC at t
  split at t
  · rename_i C ns es c
    obtain ⟨v, w, rfl, rd, re⟩ := rs2 r
    obtain ⟨u1, u2, rfl, r1, r2⟩ := vals2 rv
    obtain ⟨Z, t⟩ := t
    obtain ⟨a, ox, od, rfl, J⟩ : ∃ a ox od, v = .ref a ∧ PySem.W.InstAt s.heap a ox C od := by
      rcases rd with ⟨a, dx, xs, rfl, ha, _, hd, _, _, _⟩ | ⟨_, _, a, rfl, ha, _⟩
      · obtain ⟨t1, oD, mA, J, _⟩ := exn_at I ha hd
        exact ⟨a, _, _, rfl, J⟩
      · obtain ⟨⟨oe, vs, h1, h2, h3, _⟩, _⟩ := (show ObjOk X.prog X.w H s.heap a (ExO (.ref C) a) from I.hok a _ ha)
        refine ⟨a, oe, none, rfl, h1, h2.1, ?_, ?_⟩
        · unfold PySem.W.notCls; rw [h3]
        · rw [h2.2]; trivial
    obtain rfl : u1 = .ref a := r1
    have fin : ∀ {cv : Value} {b : Bool}, u2 = cv → PySem.W.kitOne X.K (.ref C) cv = some b → Qd (.bl b) M → wpAny (model X.prog X.w) X.A (call (.builtin "isinstance") [.ref a, u2]) (EP X pins σ Q) X.xe s := fun {cv b} e k z => by
      subst e
      exact PySem.W.kia_one (kit_ex Z) I.kIn J k (fun z => nomatch z) fun tk => ⟨.bl b, H, I.tok tk, rfl, q _ _ (up_same mo z rfl)⟩
    split at t
    · rename_i n
      obtain ⟨b, k, z⟩ := t
      have e2 : w = .ty n := re
      subst e2
      exact fin r2 k z
    · rename_i B
      obtain ⟨b, k, z⟩ := t
      have e2 : w = .ref B := re
      subst e2
      exact fin r2 k z
    · exact t.elim
  · exact t.elim
theorem lookup_putD (f g : Str) (y : D) (fs : List (Str × D)) : ((f, y) :: fs).lookup g = if g = f then some y else fs.lookup g := by
  by_cases h : g = f
  · subst h; simp [List.lookup]
  · have e : (g == f) = false := by simpa using h
    rw [if_neg h]; simp [List.lookup, e]
/-- the facts by which fields are read -/
structure FdOk (K : Fg) (C : Addr) (f : Str) : Prop where
  x : XfC K C
  no : PySem.W.findIn K (.ref C) f = some none
def dFd (K : Fg) (f : Str) (te : TED) : TED := fun Xd s M Q => te Xd s M fun d M1 => match d with
  | .exn C ns ds => FdOk K C f ∧ ∃ d, (ns.zip ds).lookup f = some d ∧ Q d M1
  | _ => False
theorem zip_lookup {K : Fg} {H : Hp} {M : Mem} {f : Str} {d : D} : ∀ {ns : List Str} {ds : List D} {xs : List V}, Rs K H M ds xs → (ns.zip ds).lookup f = some d → ∃ v, (ns.zip xs).lookup f = some v ∧ Rv K H M d v
  | [], _, _, _, e => by cases e
  | _ :: _, [], _, _, e => by cases e
  | n :: ns, d' :: ds, _, ⟨v, r, rfl, h, q⟩, e => by
    rw [List.zip_cons_cons, lookup_putD] at e
    rw [List.zip_cons_cons, lookup_put]
    by_cases z : f = n
    · rw [if_pos z] at e ⊢; cases e; exact ⟨v, rfl, h⟩
    · rw [if_neg z] at e ⊢; exact zip_lookup q e
theorem de_fd {E : XK} {e : Expr} {te : TED} {pos : Pos} {f : Str} (he : DE X E e te) (hb : attributeBase e f X.env (eval e X.env) = eval e X.env := by rfl) : DE X E (.Attribute e f pos) (dFd X.K f te) := by
  refine ⟨⟨fun pins s σ H Q I ⟨sd, M, Qd, Xd, S, xt, t, q⟩ => ?_⟩⟩
  refine attr_of hb (thn (he.ok.run pins s σ H (fun v H1 => ∃ d M1, Gw H M H1 M1 ∧ MOk X.K H1 M1 ∧ Rv X.K H1 M1 d v ∧ (match d with | .exn C ns ds => FdOk X.K C f ∧ ∃ d, (ns.zip ds).lookup f = some d ∧ Qd d M1 | _ => False)) I (useE S xt t fun d v M1 H1 g1 S1 x1 r1 t1 => ⟨d, M1, g1, S1.mem, r1, t1⟩)) fun u s1 ⟨v, H1, I1, rv, d, M1, g1, m1, rd, z⟩ => ?_)
  split at z
  · rename_i C ns ds
    obtain ⟨F, d, hl, z⟩ := z
    have rd' := rd.resolve_right fun ⟨e1, e2, _⟩ => by rw [e1, e2] at hl; cases hl
    obtain ⟨a, dx, xs, rfl, ha, _, hd, _, _, rs⟩ := rd'
    obtain rfl : u = .ref a := rv
    obtain ⟨t1, oD, mA, J, hns, rel, hoD, hlk⟩ := exn_at I1 ha hd
    obtain ⟨v, hv, rdv⟩ := zip_lookup rs hl
    obtain ⟨u, hu, ru⟩ := RelO.some_of (v := v) (o := mA f) (by rw [← hv]; exact rel f)
    exact PySem.HandSPX.exc_get I1.kIn J F.x.ga F.x.gg F.x.exC (PySem.W.findObj_own F.x.hdC F.no rfl (by rw [hlk, hu])) (handed_of ru) ⟨v, H1, I1.tok _, ru, q _ _ ⟨d, M1, g1, m1, rdv, z⟩⟩
  · exact z.elim
end
end DL
set_option maxHeartbeats 1000000
namespace DL
open PySem PySem.Spec PyProof.Rows L2
/-! ### arguments by name -/
/-- an order of things -/
structure Prm where
  f : {α : Type} → List α → List α
  rel : ∀ {zs : List V} {ws : List Value}, Vals zs ws → Vals (f zs) (f ws)
  rs : ∀ {K : Fg} {H : Hp} {M : Mem} {ds : List D} {vs : List V}, Rs K H M ds vs → Rs K H M (f ds) (f vs)
  len : ∀ {α : Type} (l : List α), (f l).length = l.length
def dMkK (C : Addr) (ns : List Str) (pm : Prm) (t : TAD) : TED := fun Xd s M Q => t Xd s M fun ds M1 => Q (.exn C ns (pm.f ds).reverse) M1
end DL
set_option maxHeartbeats 1000000
namespace DL
open PySem PySem.Spec PyProof.Rows L2
/-! ### enumerate and zip of lists -/
def enmFrom : Nat → List D → List D
  | _, [] => []
  | i, d :: ds => .tup [.int (i : Nat), d] :: enmFrom (i + 1) ds
/-! ### displays with stars -/
def seqK (R : List D → Mem → Prop) : QD := fun d M => match vw M d with
  | .tup ds => R ds M
  | .lst ds => R ds M
  | .fzn ds => R ds M
  | _ => False
def dStar (te : TED) (ta : TAD) : TAD := fun Xd s M Q => te Xd s M (seqK fun ds M1 => ta Xd s M1 fun es M2 => Q (ds ++ es) M2)
def dTupS (t : TAD) : TED := fun Xd s M Q => t Xd s M fun ds M1 => ds.length ≤ sizeLine ∧ Q (.tup ds) M1
end DL
set_option maxHeartbeats 1000000
namespace DL
open PySem PySem.Spec PyProof.Rows L2
/-! ### the end of a row whose law is read over data -/
theorem rs_ints {K : Fg} {H : Hp} {M : Mem} : ∀ ns : List Int, Rs K H M (ns.map D.int) (ns.map V.int)
  | [] => rfl
  | i :: r => Rs.cons rfl (rs_ints r)
/-- a def as the head tells it -/
theorem fun_ofD {K : Fg} {x qual : Str} {st : Stmt} {f : Addr} {fd : FuncData} (F : FunD K x qual (defArgs st) (defBody st) (defScope st) [] [] f fd) : Fun K x qual st f fd := by
  obtain ⟨oc, od, dV, kV, doc, pm, an, cdv, ct, osl, e, lk, hcd, hD, hK⟩ := F.ex
  have e2 : dV = .none := by
    rcases hD with ⟨_, e⟩ | ⟨e, _⟩
    · exact e
    · exact absurd rfl e
  subst e2
  exact ⟨⟨oc, od, kV, doc, pm, an, cdv, ct, osl, e, lk, hcd⟩, F.kp⟩
end DL
set_option maxHeartbeats 1000000
namespace DL
open PySem PySem.Spec PyProof.Rows L2
/-! ### facts of the head: by names, and by one Bool more -/
theorem binds_of {K : Fg} {x qual : Str} {st : Stmt} {f : Addr} {fd : FuncData} {ps : List Str} (F : Fun K x qual st f fd)
    (h : ∀ (kV doc pm : Value) (an : Option Addr) (cdv ct : Value) (us : List Value), us.length = ps.length → bindArgs (PySem.W.fnOf x qual (defArgs st) (defBody st) (defScope st) .none kV doc pm an cdv ct) ⟨us, []⟩ = pure (ps.zip us)) : Binds K fd ps [] := F.binds h
end DL
set_option maxHeartbeats 1000000
namespace PySem
open AutoSeq1 (wpAny_loadPart')
end PySem
namespace DL
open PySem PySem.Spec PyProof.Rows L2
/-! ### enumerate of tuples -/
def iEnmB (te : TED) : TID := fun Xd s M R => dCons te dNil Xd s M fun ds M1 => ∃ d, ds = [d] ∧ itemK (fun ds ow M1 => R (enmFrom 0 ds) ow M1) d M1
end DL
set_option maxHeartbeats 1000000
namespace DL
open PySem PySem.Spec PyProof.Rows L2 RZ
/-! ### zip of two lists, or of two tuples -/
def zpD : List D → List D → List D
  | d :: ds, e :: es => .tup [d, e] :: zpD ds es
  | _, _ => []
theorem zpD_get : ∀ (ds es : List D) (i : Nat), (zpD ds es)[i]? = match ds[i]?, es[i]? with | some d, some e => some (D.tup [d, e]) | _, _ => none
  | [], es, i => by simp [zpD]
  | d :: ds, [], i => by
    simp only [zpD, List.getElem?_nil]
    split <;> simp_all
  | d :: ds, e :: es, 0 => by simp [zpD]
  | d :: ds, e :: es, i + 1 => by
    simp only [zpD, List.getElem?_cons_succ]
    exact zpD_get ds es i
theorem zpD_len : ∀ (ds es : List D), (zpD ds es).length = min ds.length es.length
  | [], es => by simp [zpD]
  | d :: ds, [] => by simp [zpD]
  | d :: ds, e :: es => by
    simp only [zpD, List.length_cons, zpD_len ds es]; omega
theorem ItOk.zip {K : Fg} {H0 : Hp} {M0 : Mem} {ds es : List D} {a b : Addr} (hs : ∀ H M, Gw H0 M0 H M → ∃ xs, SqL K H a xs ∧ Rs K H M ds xs) (ht : ∀ H M, Gw H0 M0 H M → ∃ ys, SqL K H b ys ∧ Rs K H M es ys) : ItOk K (Itz K a b) H0 M0 none (zpD ds es) := by
  refine ⟨fun i H M g mo hw hi => ?_, fun H M g mo hw => ?_⟩
  · rw [zpD_len] at hi
    have i1 : i < ds.length := by omega
    have i2 : i < es.length := by omega
    obtain ⟨xs, h1, h2⟩ := hs H M g
    obtain ⟨ys, k1, k2⟩ := ht H M g
    obtain ⟨v, e1, e2⟩ := Rs.get h2 (List.getElem?_eq_getElem i1)
    obtain ⟨u, f1, f2⟩ := Rs.get k2 (List.getElem?_eq_getElem i2)
    refine ⟨⟨xs, ys, v, u, h1, k1, e1, f1⟩, fun z H' ⟨T, x, y, eT, hT, eH, hx, hy⟩ => ?_⟩
    subst eT; subst eH
    have e3 := hx xs h1
    rw [e1] at e3; cases e3
    have f3 := hy ys k1
    rw [f1] at f3; cases f3
    exact ⟨.tup [ds[i], es[i]], by rw [zpD_get, List.getElem?_eq_getElem i1, List.getElem?_eq_getElem i2], gw_new hT, mok_new mo hT, new_tup mo hT (Rs.cons e2 (Rs.cons f2 Rs.nil))⟩
  · rw [zpD_len]
    obtain ⟨xs, h1, h2⟩ := hs H M g
    obtain ⟨ys, k1, k2⟩ := ht H M g
    exact ⟨xs, ys, h1, k1, by rw [vlen h2, vlen k2]; omega⟩
/-- the items of a list that is not changed -/
def lsdO : D → Option (List D)
  | .lst ds => some ds
  | .fzn ds => some ds
  | _ => none
def zipK (R : List D → Option Addr → Mem → Prop) (d e : D) (M : Mem) : Prop := match d, e with
  | .tup ds, .tup es => R (zpD ds es) none M
  | d, e => ∃ ds es, lsdO d = some ds ∧ lsdO e = some es ∧ R (zpD ds es) none M
def iZipD (te te2 : TED) : TID := fun Xd s M R => dCons te (dCons te2 dNil) Xd s M fun ds M1 => ∃ d e, ds = [d, e] ∧ zipK R d e M1
end DL
set_option maxHeartbeats 1000000
namespace DL
open PySem PySem.Spec PyProof.Rows L2
/-! ### xs.index(i), a list of integers -/
end DL
set_option maxHeartbeats 1000000
namespace PySem
end PySem
namespace DL
open PySem PySem.Spec PyProof.Rows L2
/-! ### first, *rest = a list -/
end DL
set_option maxHeartbeats 1000000
namespace DL
open PySem PySem.Spec PyProof.Rows L2
section
variable {X : Cx} {E E0' : XK} {n k : Nat} {x : Str} {p pos p2 pos' apos tpos : Pos} {e a b c tg o i value iter elt : Expr} {es : List Expr} {ts : TAD} {te ta tb td tv to ti : TED}
/-! ### list(x), to be changed -/
/-! ### xs.reverse() -/
def dRvs (to : TED) : TED := fun Xd s M Q => to Xd s M fun o M1 => match o with
  | .ref p => match M1 p with
    | some (.lst ds) => Q .non (M1.put p (.lst ds.reverse))
    | _ => False
  | _ => False
/-! ### xs[i] += e -/
/-- the list at an owned place -/
def augK (f : Int → Int → Int) (te : TED) (Y : EndsD) (s : SD) (o i : D) : Mem → Prop := fun M => match o, i with
  | .ref p, .int z => match M p with
    | some (.lst ds) => match atI ds z with
      | some (.int u) => te Y.ex s M fun y M1 => match y with
        | .int w => setK (.ref p) (.int z) (.int (f u w)) (fun M2 => Y.nx s M2) M1
        | _ => False
      | _ => False
    | _ => False
  | _, _ => False
def sAugS (f : Int → Int → Int) (to ti te : TED) : TSD := fun Y s M => to Y.ex s M fun o M1 => ti Y.ex s M1 fun i M2 => augK f te Y s o i M2
/-! ### x += e of an int -/
end
/-! ### freezing within a tuple -/
theorem rs_setf {K : Fg} {H : Hp} {M : Mem} {a : Addr} {ds : List D} {xs : List V} (h1 : H a = some (.lst xs)) (h2 : Rs K H (M.del a) ds xs) : ∀ {ts : List D} {vs : List V} {i : Nat}, Rs K H (M.del a) ts vs → ts[i]? = some (.ref a) → Rs K H (M.del a) (ts.set i (.lst ds)) vs
  | [], _, _, _, e => by simp at e
  | t :: ts, _, 0, ⟨v, r, rfl, q, w⟩, e => by
    simp at e; subst e
    exact Rs.cons ⟨a, xs, q, h1, Mem.del_same, h2⟩ w
  | t :: ts, _, i + 1, ⟨v, r, rfl, q, w⟩, e => Rs.cons q (rs_setf h1 h2 w (by simpa using e))
theorem lo_frzT {Q : QD} {M : Mem} {a : Addr} {ds ts : List D} (i : Nat) (hi : ts[i]? = some (.ref a)) (e : M a = some (.lst ds)) (h : Lo Q (.tup (ts.set i (.lst ds))) (M.del a)) : Lo Q (.tup ts) M := by
  obtain ⟨d2, M2, l, q⟩ := h
  have hs : ∀ b o, (M.del a) b = some o → M b = some o := fun b o e => by
    by_cases z : b = a
    · subst z; rw [Mem.del_same] at e; cases e
    · rw [Mem.del_ne z] at e; exact e
  have hn : ∀ b, M b = none → (M.del a) b = none := fun b e => by
    by_cases z : b = a
    · subst z; exact Mem.del_same
    · rw [Mem.del_ne z]; exact e
  refine ⟨d2, M2, ⟨fun b o e => hs b o (l.sub b o e), fun b e => l.nn b (hn b e), fun K H v mo r => ?_⟩, q⟩
  obtain ⟨xs, h1, h2⟩ := mo a _ e
  obtain ⟨p, vs, rfl, rt, rs⟩ := r
  have mo2 := mok_less hs hn mo
  refine l.rv K H _ mo2 ⟨p, vs, rfl, (gw_less hn).rt rt, rs_setf h1 (Rs.grow (gw_less hn) ds xs h2) (Rs.grow (gw_less hn) _ _ rs) hi⟩
/-! ### a comprehension whose list will be changed -/
end DL
set_option maxHeartbeats 1000000
namespace DL
open PySem PySem.Spec PyProof.Rows L2
section
variable {Xd : XD} {s : SD} {M : Mem} {Q : QD} {te ta tb tc to ti t1 : TED} {A : TAD} {t u : TSD} {c d1 : TTD} {d e x y : D} {nx bk ct : SD → Mem → Prop} {rt : QD} {ex : XD} {ds es : List D} {a p : Addr} {R : Bool → Mem → Prop} {L : List D → Mem → Prop}
/-! ### statements -/
theorem w_seq (h : t ⟨u ⟨nx, rt, bk, ct, ex⟩, rt, bk, ct, ex⟩ s M) : sSeq t u ⟨nx, rt, bk, ct, ex⟩ s M := h
theorem w_nx (h : nx s M) : sNx ⟨nx, rt, bk, ct, ex⟩ s M := h
theorem w_bk (h : bk s M) : sBk ⟨nx, rt, bk, ct, ex⟩ s M := h
theorem w_ct (h : ct s M) : sCt ⟨nx, rt, bk, ct, ex⟩ s M := h
theorem w_ret (h : te ex s M rt) : sRet te ⟨nx, rt, bk, ct, ex⟩ s M := h
theorem w_retN (h : rt .non M) : sRetN ⟨nx, rt, bk, ct, ex⟩ s M := h
theorem w_expr (h : te ex s M fun _ M1 => nx s M1) : sExpr te ⟨nx, rt, bk, ct, ex⟩ s M := h
theorem w_ifS (h : c ex s M fun b M1 => if b = true then t ⟨nx, rt, bk, ct, ex⟩ s M1 else u ⟨nx, rt, bk, ct, ex⟩ s M1) : sIf c t u ⟨nx, rt, bk, ct, ex⟩ s M := h
theorem w_asg {g : TGD} (h : te ex s M fun d M1 => g d ex s M1 nx) : sAsg te g ⟨nx, rt, bk, ct, ex⟩ s M := h
theorem w_augS {f} (h : to ex s M fun o M1 => ti ex s M1 fun i M2 => augK f te ⟨nx, rt, bk, ct, ex⟩ s o i M2) : sAugS f to ti te ⟨nx, rt, bk, ct, ex⟩ s M := h
theorem w_for {ti : TID} {g : TGD} (h : ti ex s M fun ds ow M1 => sForL g t ⟨nx, rt, bk, ct, ex⟩ (wat ow M1) ds s M1) : sFor ti g t ⟨nx, rt, bk, ct, ex⟩ s M := h
theorem w_forNil {g : TGD} {W : Mem → Prop} (hW : W M) (h : nx s M) : sForL g t ⟨nx, rt, bk, ct, ex⟩ W [] s M := ⟨hW, h⟩
theorem w_forCons {g : TGD} {W : Mem → Prop} (hW : W M) (h : g d ex s M fun s' M' => t ⟨sForL g t ⟨nx, rt, bk, ct, ex⟩ W ds, rt, nx, sForL g t ⟨nx, rt, bk, ct, ex⟩ W ds, ex⟩ s' M') : sForL g t ⟨nx, rt, bk, ct, ex⟩ W (d :: ds) s M := ⟨hW, h⟩
/-- what comes behind a statement, once for all its ways -/
theorem w_join {P : Mem → Prop} (hu : ∀ M1, P M1 → u ⟨nx, rt, bk, ct, ex⟩ s M1) (h : (∀ M1, P M1 → u ⟨nx, rt, bk, ct, ex⟩ s M1) → sSeq t u ⟨nx, rt, bk, ct, ex⟩ s M) : sSeq t u ⟨nx, rt, bk, ct, ex⟩ s M := h hu
theorem w_sl {l h : TOD} (H : te Xd s M fun d M1 => l Xd s M1 fun x M2 => h Xd s M2 fun y M3 => slK x y d Q M3) : dSl te l h Xd s M Q := H
theorem w_oNo {F : Option Int → Mem → Prop} (h : F none M) : oNo Xd s M F := h
theorem w_oSo {F : Option Int → Mem → Prop} (h : te Xd s M (oSoK F)) : oSo te Xd s M F := h
theorem w_oSoK {F : Option Int → Mem → Prop} {i : Int} (h : F (some i) M) : oSoK F (.int i) M := h
theorem w_slT {l h : Option Int} (H : Q (.tup (cutD ds l h)) M) : slK l h (.tup ds) Q M := H
theorem w_slL {l h : Option Int} (H : Q (.lst (cutD ds l h)) M) : slK l h (.lst ds) Q M := H
theorem w_dct {trs : List (Key × TED)} (h : ∀ p, M p = none → dPairs trs Xd s (M.put p (.dct [] [])) fun ds M1 => M1 p = some (.dct [] []) ∧ Q (.ref p) (M1.put p (.dct (trs.map (·.1)) ds))) : dDct trs Xd s M Q := h
theorem w_prN (h : L [] M) : dPairs [] Xd s M L := h
theorem w_prC {k : Key} {r : List (Key × TED)} (h : te Xd s M fun d M1 => dPairs r Xd s M1 fun ds M2 => L (d :: ds) M2) : dPairs ((k, te) :: r) Xd s M L := h
theorem w_lc {ti : TID} {g : TGD} {tt : TTD} {vs : List Nat} (h : ti Xd s M fun ds ow M1 => ∀ p, M1 p = none → dLcL g tt te (wipeD s vs) (wat ow M1) p Q ds (M1.put p (.lst []))) : dLc ti g tt te vs Xd s M Q := h
theorem wat_none {M0 : Mem} : wat none M0 M := True.intro
theorem wat_some {M0 : Mem} (h : M a = M0 a) : wat (some a) M0 M := h
theorem w_set0 {x0 : Option D} (h : te ex (x0 :: s) M fun d M1 => nx (some d :: s) M1) : sSet 0 te ⟨nx, rt, bk, ct, ex⟩ (x0 :: s) M := h
theorem w_gnm0 {x0 : Option D} {K : SD → Mem → Prop} (h : K (some d :: s) M) : gNm 0 d Xd (x0 :: s) M K := h
theorem w_var0 (h : Q d M) : dVar 0 Xd (some d :: s) M Q := h
theorem w_set1 {x0 x1 : Option D} (h : te ex (x0 :: x1 :: s) M fun d M1 => nx (x0 :: some d :: s) M1) : sSet 1 te ⟨nx, rt, bk, ct, ex⟩ (x0 :: x1 :: s) M := h
theorem w_gnm1 {x0 x1 : Option D} {K : SD → Mem → Prop} (h : K (x0 :: some d :: s) M) : gNm 1 d Xd (x0 :: x1 :: s) M K := h
theorem w_var1 {x0 : Option D} (h : Q d M) : dVar 1 Xd (x0 :: some d :: s) M Q := h
theorem w_set2 {x0 x1 x2 : Option D} (h : te ex (x0 :: x1 :: x2 :: s) M fun d M1 => nx (x0 :: x1 :: some d :: s) M1) : sSet 2 te ⟨nx, rt, bk, ct, ex⟩ (x0 :: x1 :: x2 :: s) M := h
theorem w_gnm2 {x0 x1 x2 : Option D} {K : SD → Mem → Prop} (h : K (x0 :: x1 :: some d :: s) M) : gNm 2 d Xd (x0 :: x1 :: x2 :: s) M K := h
theorem w_var2 {x0 x1 : Option D} (h : Q d M) : dVar 2 Xd (x0 :: x1 :: some d :: s) M Q := h
theorem w_set3 {x0 x1 x2 x3 : Option D} (h : te ex (x0 :: x1 :: x2 :: x3 :: s) M fun d M1 => nx (x0 :: x1 :: x2 :: some d :: s) M1) : sSet 3 te ⟨nx, rt, bk, ct, ex⟩ (x0 :: x1 :: x2 :: x3 :: s) M := h
theorem w_gnm3 {x0 x1 x2 x3 : Option D} {K : SD → Mem → Prop} (h : K (x0 :: x1 :: x2 :: some d :: s) M) : gNm 3 d Xd (x0 :: x1 :: x2 :: x3 :: s) M K := h
theorem w_var3 {x0 x1 x2 : Option D} (h : Q d M) : dVar 3 Xd (x0 :: x1 :: x2 :: some d :: s) M Q := h
theorem w_set4 {x0 x1 x2 x3 x4 : Option D} (h : te ex (x0 :: x1 :: x2 :: x3 :: x4 :: s) M fun d M1 => nx (x0 :: x1 :: x2 :: x3 :: some d :: s) M1) : sSet 4 te ⟨nx, rt, bk, ct, ex⟩ (x0 :: x1 :: x2 :: x3 :: x4 :: s) M := h
theorem w_gnm4 {x0 x1 x2 x3 x4 : Option D} {K : SD → Mem → Prop} (h : K (x0 :: x1 :: x2 :: x3 :: some d :: s) M) : gNm 4 d Xd (x0 :: x1 :: x2 :: x3 :: x4 :: s) M K := h
theorem w_var4 {x0 x1 x2 x3 : Option D} (h : Q d M) : dVar 4 Xd (x0 :: x1 :: x2 :: x3 :: some d :: s) M Q := h
theorem w_set5 {x0 x1 x2 x3 x4 x5 : Option D} (h : te ex (x0 :: x1 :: x2 :: x3 :: x4 :: x5 :: s) M fun d M1 => nx (x0 :: x1 :: x2 :: x3 :: x4 :: some d :: s) M1) : sSet 5 te ⟨nx, rt, bk, ct, ex⟩ (x0 :: x1 :: x2 :: x3 :: x4 :: x5 :: s) M := h
theorem w_gnm5 {x0 x1 x2 x3 x4 x5 : Option D} {K : SD → Mem → Prop} (h : K (x0 :: x1 :: x2 :: x3 :: x4 :: some d :: s) M) : gNm 5 d Xd (x0 :: x1 :: x2 :: x3 :: x4 :: x5 :: s) M K := h
theorem w_var5 {x0 x1 x2 x3 x4 : Option D} (h : Q d M) : dVar 5 Xd (x0 :: x1 :: x2 :: x3 :: x4 :: some d :: s) M Q := h
theorem w_set6 {x0 x1 x2 x3 x4 x5 x6 : Option D} (h : te ex (x0 :: x1 :: x2 :: x3 :: x4 :: x5 :: x6 :: s) M fun d M1 => nx (x0 :: x1 :: x2 :: x3 :: x4 :: x5 :: some d :: s) M1) : sSet 6 te ⟨nx, rt, bk, ct, ex⟩ (x0 :: x1 :: x2 :: x3 :: x4 :: x5 :: x6 :: s) M := h
theorem w_gnm6 {x0 x1 x2 x3 x4 x5 x6 : Option D} {K : SD → Mem → Prop} (h : K (x0 :: x1 :: x2 :: x3 :: x4 :: x5 :: some d :: s) M) : gNm 6 d Xd (x0 :: x1 :: x2 :: x3 :: x4 :: x5 :: x6 :: s) M K := h
theorem w_var6 {x0 x1 x2 x3 x4 x5 : Option D} (h : Q d M) : dVar 6 Xd (x0 :: x1 :: x2 :: x3 :: x4 :: x5 :: some d :: s) M Q := h
theorem w_set7 {x0 x1 x2 x3 x4 x5 x6 x7 : Option D} (h : te ex (x0 :: x1 :: x2 :: x3 :: x4 :: x5 :: x6 :: x7 :: s) M fun d M1 => nx (x0 :: x1 :: x2 :: x3 :: x4 :: x5 :: x6 :: some d :: s) M1) : sSet 7 te ⟨nx, rt, bk, ct, ex⟩ (x0 :: x1 :: x2 :: x3 :: x4 :: x5 :: x6 :: x7 :: s) M := h
theorem w_gnm7 {x0 x1 x2 x3 x4 x5 x6 x7 : Option D} {K : SD → Mem → Prop} (h : K (x0 :: x1 :: x2 :: x3 :: x4 :: x5 :: x6 :: some d :: s) M) : gNm 7 d Xd (x0 :: x1 :: x2 :: x3 :: x4 :: x5 :: x6 :: x7 :: s) M K := h
theorem w_var7 {x0 x1 x2 x3 x4 x5 x6 : Option D} (h : Q d M) : dVar 7 Xd (x0 :: x1 :: x2 :: x3 :: x4 :: x5 :: x6 :: some d :: s) M Q := h
theorem w_set8 {x0 x1 x2 x3 x4 x5 x6 x7 x8 : Option D} (h : te ex (x0 :: x1 :: x2 :: x3 :: x4 :: x5 :: x6 :: x7 :: x8 :: s) M fun d M1 => nx (x0 :: x1 :: x2 :: x3 :: x4 :: x5 :: x6 :: x7 :: some d :: s) M1) : sSet 8 te ⟨nx, rt, bk, ct, ex⟩ (x0 :: x1 :: x2 :: x3 :: x4 :: x5 :: x6 :: x7 :: x8 :: s) M := h
theorem w_gnm8 {x0 x1 x2 x3 x4 x5 x6 x7 x8 : Option D} {K : SD → Mem → Prop} (h : K (x0 :: x1 :: x2 :: x3 :: x4 :: x5 :: x6 :: x7 :: some d :: s) M) : gNm 8 d Xd (x0 :: x1 :: x2 :: x3 :: x4 :: x5 :: x6 :: x7 :: x8 :: s) M K := h
theorem w_var8 {x0 x1 x2 x3 x4 x5 x6 x7 : Option D} (h : Q d M) : dVar 8 Xd (x0 :: x1 :: x2 :: x3 :: x4 :: x5 :: x6 :: x7 :: some d :: s) M Q := h
theorem w_set9 {x0 x1 x2 x3 x4 x5 x6 x7 x8 x9 : Option D} (h : te ex (x0 :: x1 :: x2 :: x3 :: x4 :: x5 :: x6 :: x7 :: x8 :: x9 :: s) M fun d M1 => nx (x0 :: x1 :: x2 :: x3 :: x4 :: x5 :: x6 :: x7 :: x8 :: some d :: s) M1) : sSet 9 te ⟨nx, rt, bk, ct, ex⟩ (x0 :: x1 :: x2 :: x3 :: x4 :: x5 :: x6 :: x7 :: x8 :: x9 :: s) M := h
theorem w_gnm9 {x0 x1 x2 x3 x4 x5 x6 x7 x8 x9 : Option D} {K : SD → Mem → Prop} (h : K (x0 :: x1 :: x2 :: x3 :: x4 :: x5 :: x6 :: x7 :: x8 :: some d :: s) M) : gNm 9 d Xd (x0 :: x1 :: x2 :: x3 :: x4 :: x5 :: x6 :: x7 :: x8 :: x9 :: s) M K := h
theorem w_var9 {x0 x1 x2 x3 x4 x5 x6 x7 x8 : Option D} (h : Q d M) : dVar 9 Xd (x0 :: x1 :: x2 :: x3 :: x4 :: x5 :: x6 :: x7 :: x8 :: some d :: s) M Q := h
theorem w_set10 {x0 x1 x2 x3 x4 x5 x6 x7 x8 x9 x10 : Option D} (h : te ex (x0 :: x1 :: x2 :: x3 :: x4 :: x5 :: x6 :: x7 :: x8 :: x9 :: x10 :: s) M fun d M1 => nx (x0 :: x1 :: x2 :: x3 :: x4 :: x5 :: x6 :: x7 :: x8 :: x9 :: some d :: s) M1) : sSet 10 te ⟨nx, rt, bk, ct, ex⟩ (x0 :: x1 :: x2 :: x3 :: x4 :: x5 :: x6 :: x7 :: x8 :: x9 :: x10 :: s) M := h
theorem w_gnm10 {x0 x1 x2 x3 x4 x5 x6 x7 x8 x9 x10 : Option D} {K : SD → Mem → Prop} (h : K (x0 :: x1 :: x2 :: x3 :: x4 :: x5 :: x6 :: x7 :: x8 :: x9 :: some d :: s) M) : gNm 10 d Xd (x0 :: x1 :: x2 :: x3 :: x4 :: x5 :: x6 :: x7 :: x8 :: x9 :: x10 :: s) M K := h
theorem w_var10 {x0 x1 x2 x3 x4 x5 x6 x7 x8 x9 : Option D} (h : Q d M) : dVar 10 Xd (x0 :: x1 :: x2 :: x3 :: x4 :: x5 :: x6 :: x7 :: x8 :: x9 :: some d :: s) M Q := h
theorem w_set11 {x0 x1 x2 x3 x4 x5 x6 x7 x8 x9 x10 x11 : Option D} (h : te ex (x0 :: x1 :: x2 :: x3 :: x4 :: x5 :: x6 :: x7 :: x8 :: x9 :: x10 :: x11 :: s) M fun d M1 => nx (x0 :: x1 :: x2 :: x3 :: x4 :: x5 :: x6 :: x7 :: x8 :: x9 :: x10 :: some d :: s) M1) : sSet 11 te ⟨nx, rt, bk, ct, ex⟩ (x0 :: x1 :: x2 :: x3 :: x4 :: x5 :: x6 :: x7 :: x8 :: x9 :: x10 :: x11 :: s) M := h
theorem w_gnm11 {x0 x1 x2 x3 x4 x5 x6 x7 x8 x9 x10 x11 : Option D} {K : SD → Mem → Prop} (h : K (x0 :: x1 :: x2 :: x3 :: x4 :: x5 :: x6 :: x7 :: x8 :: x9 :: x10 :: some d :: s) M) : gNm 11 d Xd (x0 :: x1 :: x2 :: x3 :: x4 :: x5 :: x6 :: x7 :: x8 :: x9 :: x10 :: x11 :: s) M K := h
theorem w_var11 {x0 x1 x2 x3 x4 x5 x6 x7 x8 x9 x10 : Option D} (h : Q d M) : dVar 11 Xd (x0 :: x1 :: x2 :: x3 :: x4 :: x5 :: x6 :: x7 :: x8 :: x9 :: x10 :: some d :: s) M Q := h
theorem w_set12 {x0 x1 x2 x3 x4 x5 x6 x7 x8 x9 x10 x11 x12 : Option D} (h : te ex (x0 :: x1 :: x2 :: x3 :: x4 :: x5 :: x6 :: x7 :: x8 :: x9 :: x10 :: x11 :: x12 :: s) M fun d M1 => nx (x0 :: x1 :: x2 :: x3 :: x4 :: x5 :: x6 :: x7 :: x8 :: x9 :: x10 :: x11 :: some d :: s) M1) : sSet 12 te ⟨nx, rt, bk, ct, ex⟩ (x0 :: x1 :: x2 :: x3 :: x4 :: x5 :: x6 :: x7 :: x8 :: x9 :: x10 :: x11 :: x12 :: s) M := h
theorem w_gnm12 {x0 x1 x2 x3 x4 x5 x6 x7 x8 x9 x10 x11 x12 : Option D} {K : SD → Mem → Prop} (h : K (x0 :: x1 :: x2 :: x3 :: x4 :: x5 :: x6 :: x7 :: x8 :: x9 :: x10 :: x11 :: some d :: s) M) : gNm 12 d Xd (x0 :: x1 :: x2 :: x3 :: x4 :: x5 :: x6 :: x7 :: x8 :: x9 :: x10 :: x11 :: x12 :: s) M K := h
theorem w_var12 {x0 x1 x2 x3 x4 x5 x6 x7 x8 x9 x10 x11 : Option D} (h : Q d M) : dVar 12 Xd (x0 :: x1 :: x2 :: x3 :: x4 :: x5 :: x6 :: x7 :: x8 :: x9 :: x10 :: x11 :: some d :: s) M Q := h
theorem w_set13 {x0 x1 x2 x3 x4 x5 x6 x7 x8 x9 x10 x11 x12 x13 : Option D} (h : te ex (x0 :: x1 :: x2 :: x3 :: x4 :: x5 :: x6 :: x7 :: x8 :: x9 :: x10 :: x11 :: x12 :: x13 :: s) M fun d M1 => nx (x0 :: x1 :: x2 :: x3 :: x4 :: x5 :: x6 :: x7 :: x8 :: x9 :: x10 :: x11 :: x12 :: some d :: s) M1) : sSet 13 te ⟨nx, rt, bk, ct, ex⟩ (x0 :: x1 :: x2 :: x3 :: x4 :: x5 :: x6 :: x7 :: x8 :: x9 :: x10 :: x11 :: x12 :: x13 :: s) M := h
theorem w_gnm13 {x0 x1 x2 x3 x4 x5 x6 x7 x8 x9 x10 x11 x12 x13 : Option D} {K : SD → Mem → Prop} (h : K (x0 :: x1 :: x2 :: x3 :: x4 :: x5 :: x6 :: x7 :: x8 :: x9 :: x10 :: x11 :: x12 :: some d :: s) M) : gNm 13 d Xd (x0 :: x1 :: x2 :: x3 :: x4 :: x5 :: x6 :: x7 :: x8 :: x9 :: x10 :: x11 :: x12 :: x13 :: s) M K := h
theorem w_var13 {x0 x1 x2 x3 x4 x5 x6 x7 x8 x9 x10 x11 x12 : Option D} (h : Q d M) : dVar 13 Xd (x0 :: x1 :: x2 :: x3 :: x4 :: x5 :: x6 :: x7 :: x8 :: x9 :: x10 :: x11 :: x12 :: some d :: s) M Q := h
theorem w_set14 {x0 x1 x2 x3 x4 x5 x6 x7 x8 x9 x10 x11 x12 x13 x14 : Option D} (h : te ex (x0 :: x1 :: x2 :: x3 :: x4 :: x5 :: x6 :: x7 :: x8 :: x9 :: x10 :: x11 :: x12 :: x13 :: x14 :: s) M fun d M1 => nx (x0 :: x1 :: x2 :: x3 :: x4 :: x5 :: x6 :: x7 :: x8 :: x9 :: x10 :: x11 :: x12 :: x13 :: some d :: s) M1) : sSet 14 te ⟨nx, rt, bk, ct, ex⟩ (x0 :: x1 :: x2 :: x3 :: x4 :: x5 :: x6 :: x7 :: x8 :: x9 :: x10 :: x11 :: x12 :: x13 :: x14 :: s) M := h
theorem w_gnm14 {x0 x1 x2 x3 x4 x5 x6 x7 x8 x9 x10 x11 x12 x13 x14 : Option D} {K : SD → Mem → Prop} (h : K (x0 :: x1 :: x2 :: x3 :: x4 :: x5 :: x6 :: x7 :: x8 :: x9 :: x10 :: x11 :: x12 :: x13 :: some d :: s) M) : gNm 14 d Xd (x0 :: x1 :: x2 :: x3 :: x4 :: x5 :: x6 :: x7 :: x8 :: x9 :: x10 :: x11 :: x12 :: x13 :: x14 :: s) M K := h
theorem w_var14 {x0 x1 x2 x3 x4 x5 x6 x7 x8 x9 x10 x11 x12 x13 : Option D} (h : Q d M) : dVar 14 Xd (x0 :: x1 :: x2 :: x3 :: x4 :: x5 :: x6 :: x7 :: x8 :: x9 :: x10 :: x11 :: x12 :: x13 :: some d :: s) M Q := h
theorem w_set15 {x0 x1 x2 x3 x4 x5 x6 x7 x8 x9 x10 x11 x12 x13 x14 x15 : Option D} (h : te ex (x0 :: x1 :: x2 :: x3 :: x4 :: x5 :: x6 :: x7 :: x8 :: x9 :: x10 :: x11 :: x12 :: x13 :: x14 :: x15 :: s) M fun d M1 => nx (x0 :: x1 :: x2 :: x3 :: x4 :: x5 :: x6 :: x7 :: x8 :: x9 :: x10 :: x11 :: x12 :: x13 :: x14 :: some d :: s) M1) : sSet 15 te ⟨nx, rt, bk, ct, ex⟩ (x0 :: x1 :: x2 :: x3 :: x4 :: x5 :: x6 :: x7 :: x8 :: x9 :: x10 :: x11 :: x12 :: x13 :: x14 :: x15 :: s) M := h
theorem w_gnm15 {x0 x1 x2 x3 x4 x5 x6 x7 x8 x9 x10 x11 x12 x13 x14 x15 : Option D} {K : SD → Mem → Prop} (h : K (x0 :: x1 :: x2 :: x3 :: x4 :: x5 :: x6 :: x7 :: x8 :: x9 :: x10 :: x11 :: x12 :: x13 :: x14 :: some d :: s) M) : gNm 15 d Xd (x0 :: x1 :: x2 :: x3 :: x4 :: x5 :: x6 :: x7 :: x8 :: x9 :: x10 :: x11 :: x12 :: x13 :: x14 :: x15 :: s) M K := h
theorem w_var15 {x0 x1 x2 x3 x4 x5 x6 x7 x8 x9 x10 x11 x12 x13 x14 : Option D} (h : Q d M) : dVar 15 Xd (x0 :: x1 :: x2 :: x3 :: x4 :: x5 :: x6 :: x7 :: x8 :: x9 :: x10 :: x11 :: x12 :: x13 :: x14 :: some d :: s) M Q := h
theorem w_set16 {x0 x1 x2 x3 x4 x5 x6 x7 x8 x9 x10 x11 x12 x13 x14 x15 x16 : Option D} (h : te ex (x0 :: x1 :: x2 :: x3 :: x4 :: x5 :: x6 :: x7 :: x8 :: x9 :: x10 :: x11 :: x12 :: x13 :: x14 :: x15 :: x16 :: s) M fun d M1 => nx (x0 :: x1 :: x2 :: x3 :: x4 :: x5 :: x6 :: x7 :: x8 :: x9 :: x10 :: x11 :: x12 :: x13 :: x14 :: x15 :: some d :: s) M1) : sSet 16 te ⟨nx, rt, bk, ct, ex⟩ (x0 :: x1 :: x2 :: x3 :: x4 :: x5 :: x6 :: x7 :: x8 :: x9 :: x10 :: x11 :: x12 :: x13 :: x14 :: x15 :: x16 :: s) M := h
theorem w_gnm16 {x0 x1 x2 x3 x4 x5 x6 x7 x8 x9 x10 x11 x12 x13 x14 x15 x16 : Option D} {K : SD → Mem → Prop} (h : K (x0 :: x1 :: x2 :: x3 :: x4 :: x5 :: x6 :: x7 :: x8 :: x9 :: x10 :: x11 :: x12 :: x13 :: x14 :: x15 :: some d :: s) M) : gNm 16 d Xd (x0 :: x1 :: x2 :: x3 :: x4 :: x5 :: x6 :: x7 :: x8 :: x9 :: x10 :: x11 :: x12 :: x13 :: x14 :: x15 :: x16 :: s) M K := h
theorem w_var16 {x0 x1 x2 x3 x4 x5 x6 x7 x8 x9 x10 x11 x12 x13 x14 x15 : Option D} (h : Q d M) : dVar 16 Xd (x0 :: x1 :: x2 :: x3 :: x4 :: x5 :: x6 :: x7 :: x8 :: x9 :: x10 :: x11 :: x12 :: x13 :: x14 :: x15 :: some d :: s) M Q := h
theorem w_set17 {x0 x1 x2 x3 x4 x5 x6 x7 x8 x9 x10 x11 x12 x13 x14 x15 x16 x17 : Option D} (h : te ex (x0 :: x1 :: x2 :: x3 :: x4 :: x5 :: x6 :: x7 :: x8 :: x9 :: x10 :: x11 :: x12 :: x13 :: x14 :: x15 :: x16 :: x17 :: s) M fun d M1 => nx (x0 :: x1 :: x2 :: x3 :: x4 :: x5 :: x6 :: x7 :: x8 :: x9 :: x10 :: x11 :: x12 :: x13 :: x14 :: x15 :: x16 :: some d :: s) M1) : sSet 17 te ⟨nx, rt, bk, ct, ex⟩ (x0 :: x1 :: x2 :: x3 :: x4 :: x5 :: x6 :: x7 :: x8 :: x9 :: x10 :: x11 :: x12 :: x13 :: x14 :: x15 :: x16 :: x17 :: s) M := h
theorem w_gnm17 {x0 x1 x2 x3 x4 x5 x6 x7 x8 x9 x10 x11 x12 x13 x14 x15 x16 x17 : Option D} {K : SD → Mem → Prop} (h : K (x0 :: x1 :: x2 :: x3 :: x4 :: x5 :: x6 :: x7 :: x8 :: x9 :: x10 :: x11 :: x12 :: x13 :: x14 :: x15 :: x16 :: some d :: s) M) : gNm 17 d Xd (x0 :: x1 :: x2 :: x3 :: x4 :: x5 :: x6 :: x7 :: x8 :: x9 :: x10 :: x11 :: x12 :: x13 :: x14 :: x15 :: x16 :: x17 :: s) M K := h
theorem w_var17 {x0 x1 x2 x3 x4 x5 x6 x7 x8 x9 x10 x11 x12 x13 x14 x15 x16 : Option D} (h : Q d M) : dVar 17 Xd (x0 :: x1 :: x2 :: x3 :: x4 :: x5 :: x6 :: x7 :: x8 :: x9 :: x10 :: x11 :: x12 :: x13 :: x14 :: x15 :: x16 :: some d :: s) M Q := h
theorem w_set18 {x0 x1 x2 x3 x4 x5 x6 x7 x8 x9 x10 x11 x12 x13 x14 x15 x16 x17 x18 : Option D} (h : te ex (x0 :: x1 :: x2 :: x3 :: x4 :: x5 :: x6 :: x7 :: x8 :: x9 :: x10 :: x11 :: x12 :: x13 :: x14 :: x15 :: x16 :: x17 :: x18 :: s) M fun d M1 => nx (x0 :: x1 :: x2 :: x3 :: x4 :: x5 :: x6 :: x7 :: x8 :: x9 :: x10 :: x11 :: x12 :: x13 :: x14 :: x15 :: x16 :: x17 :: some d :: s) M1) : sSet 18 te ⟨nx, rt, bk, ct, ex⟩ (x0 :: x1 :: x2 :: x3 :: x4 :: x5 :: x6 :: x7 :: x8 :: x9 :: x10 :: x11 :: x12 :: x13 :: x14 :: x15 :: x16 :: x17 :: x18 :: s) M := h
theorem w_gnm18 {x0 x1 x2 x3 x4 x5 x6 x7 x8 x9 x10 x11 x12 x13 x14 x15 x16 x17 x18 : Option D} {K : SD → Mem → Prop} (h : K (x0 :: x1 :: x2 :: x3 :: x4 :: x5 :: x6 :: x7 :: x8 :: x9 :: x10 :: x11 :: x12 :: x13 :: x14 :: x15 :: x16 :: x17 :: some d :: s) M) : gNm 18 d Xd (x0 :: x1 :: x2 :: x3 :: x4 :: x5 :: x6 :: x7 :: x8 :: x9 :: x10 :: x11 :: x12 :: x13 :: x14 :: x15 :: x16 :: x17 :: x18 :: s) M K := h
theorem w_var18 {x0 x1 x2 x3 x4 x5 x6 x7 x8 x9 x10 x11 x12 x13 x14 x15 x16 x17 : Option D} (h : Q d M) : dVar 18 Xd (x0 :: x1 :: x2 :: x3 :: x4 :: x5 :: x6 :: x7 :: x8 :: x9 :: x10 :: x11 :: x12 :: x13 :: x14 :: x15 :: x16 :: x17 :: some d :: s) M Q := h
theorem w_set19 {x0 x1 x2 x3 x4 x5 x6 x7 x8 x9 x10 x11 x12 x13 x14 x15 x16 x17 x18 x19 : Option D} (h : te ex (x0 :: x1 :: x2 :: x3 :: x4 :: x5 :: x6 :: x7 :: x8 :: x9 :: x10 :: x11 :: x12 :: x13 :: x14 :: x15 :: x16 :: x17 :: x18 :: x19 :: s) M fun d M1 => nx (x0 :: x1 :: x2 :: x3 :: x4 :: x5 :: x6 :: x7 :: x8 :: x9 :: x10 :: x11 :: x12 :: x13 :: x14 :: x15 :: x16 :: x17 :: x18 :: some d :: s) M1) : sSet 19 te ⟨nx, rt, bk, ct, ex⟩ (x0 :: x1 :: x2 :: x3 :: x4 :: x5 :: x6 :: x7 :: x8 :: x9 :: x10 :: x11 :: x12 :: x13 :: x14 :: x15 :: x16 :: x17 :: x18 :: x19 :: s) M := h
theorem w_gnm19 {x0 x1 x2 x3 x4 x5 x6 x7 x8 x9 x10 x11 x12 x13 x14 x15 x16 x17 x18 x19 : Option D} {K : SD → Mem → Prop} (h : K (x0 :: x1 :: x2 :: x3 :: x4 :: x5 :: x6 :: x7 :: x8 :: x9 :: x10 :: x11 :: x12 :: x13 :: x14 :: x15 :: x16 :: x17 :: x18 :: some d :: s) M) : gNm 19 d Xd (x0 :: x1 :: x2 :: x3 :: x4 :: x5 :: x6 :: x7 :: x8 :: x9 :: x10 :: x11 :: x12 :: x13 :: x14 :: x15 :: x16 :: x17 :: x18 :: x19 :: s) M K := h
theorem w_var19 {x0 x1 x2 x3 x4 x5 x6 x7 x8 x9 x10 x11 x12 x13 x14 x15 x16 x17 x18 : Option D} (h : Q d M) : dVar 19 Xd (x0 :: x1 :: x2 :: x3 :: x4 :: x5 :: x6 :: x7 :: x8 :: x9 :: x10 :: x11 :: x12 :: x13 :: x14 :: x15 :: x16 :: x17 :: x18 :: some d :: s) M Q := h
/-! ### targets -/
variable {K : SD → Mem → Prop} {g : TGD} {G : TGsD}
theorem w_gTp {n} (hl : ds.length = n) (h : G ds Xd s M K) : gTp n G (.tup ds) Xd s M K := ⟨hl, h⟩
theorem w_gCo (h : g d Xd s M fun s' M' => G ds Xd s' M' K) : gCo g G (d :: ds) Xd s M K := h
theorem w_gNi (h : K s M) : gNi [] Xd s M K := h
theorem w_gSb (h : to Xd s M fun o M1 => ti Xd s M1 fun i M2 => setK o i d (fun M3 => K s M3) M2) : gSb to ti d Xd s M K := h
theorem w_setD {ks : List Key} {kk : Str} {k : Mem → Prop} (hM : M a = some (.dct ks ds)) (hn : ks.Nodup ∧ ks.length < 1000) (h : k (M.put a (.dct (putD ks ds (.inr kk) d).1 (putD ks ds (.inr kk) d).2))) : setK (.ref a) (.str kk) d k M := by
  unfold setK; simp only [hM, keyD]; exact ⟨hn, h⟩
/-! ### expressions -/
theorem w_c (h : Q d M) : dC d Xd s M Q := h
theorem w_op {o : O2} (h : ta Xd s M fun x M1 => tb Xd s M1 fun y M2 => o x y M2 Q) : dOp o ta tb Xd s M Q := h
theorem w_nil (h : L [] M) : dNil Xd s M L := h
theorem w_cons (h : te Xd s M fun d M1 => A Xd s M1 fun ds M2 => L (d :: ds) M2) : dCons te A Xd s M L := h
theorem w_tup (h : A Xd s M fun ds M1 => Q (.tup ds) M1) : dTup A Xd s M Q := h
theorem w_lst (h : A Xd s M fun ds M1 => Q (.lst ds) M1) : dLst A Xd s M Q := h
theorem w_lstO (h : A Xd s M fun ds M1 => ∀ p, M1 p = none → Q (.ref p) (M1.put p (.lst ds))) : dLstO A Xd s M Q := h
theorem w_cb {o : OC} (h : A Xd s M fun ds M1 => o ds M1 Q) : dCB o A Xd s M Q := h
theorem w_call {sp : SpD} (h : A Xd s M fun ds M1 => sp ds M1 Q Xd) : dCall sp [] A Xd s M Q := by
  unfold dCall
  have e : (fun ds M1 => sp (ds ++ []) M1 Q Xd) = fun ds M1 => sp ds M1 Q Xd := by funext ds M1; rw [List.append_nil]
  rw [e]; exact h
theorem w_ite (h : c Xd s M fun b M1 => if b = true then ta Xd s M1 Q else tb Xd s M1 Q) : dIte c ta tb Xd s M Q := h
theorem w_and (h : ta Xd s M (andK tb Xd s Q)) : dAnd ta tb Xd s M Q := h
theorem w_or (h : ta Xd s M (orK tb Xd s Q)) : dOr ta tb Xd s M Q := h
theorem w_not (h : ta Xd s M (notK Q)) : dNot ta Xd s M Q := h
theorem w_andT (h : tb Xd s M Q) : andK tb Xd s Q (.bl true) M := h
theorem w_andF (h : Q (.bl false) M) : andK tb Xd s Q (.bl false) M := h
theorem w_orT (h : Q (.bl true) M) : orK tb Xd s Q (.bl true) M := h
theorem w_orF (h : tb Xd s M Q) : orK tb Xd s Q (.bl false) M := h
theorem w_andB {b : Bool} (h : if b = true then tb Xd s M Q else Q (.bl false) M) : andK tb Xd s Q (.bl b) M := h
theorem w_orB {b : Bool} (h : if b = true then Q (.bl true) M else tb Xd s M Q) : orK tb Xd s Q (.bl b) M := h
theorem w_notB {b : Bool} (h : Q (.bl (!b)) M) : notK Q (.bl b) M := h
theorem w_neg (h : te Xd s M (unK (fun i => -i) Q)) : dNeg te Xd s M Q := h
theorem w_un {f : Int → Int} {i : Int} (h : Q (.int (f i)) M) : unK f Q (.int i) M := h
theorem w_tst (h : te Xd s M (tstB R)) : dTst te Xd s M R := h
theorem w_tstB {b : Bool} (h : R b M) : tstB R (.bl b) M := h
theorem w_tru (h : te Xd s M (truK R)) : dTru te Xd s M R := h
theorem w_truB {b : Bool} (h : R b M) : truK R (.bl b) M := h
theorem w_tAnd (h : c Xd s M fun b M1 => if b = true then d1 Xd s M1 R else R false M1) : tAndD c d1 Xd s M R := h
theorem w_tOr (h : c Xd s M fun b M1 => if b = true then R true M1 else d1 Xd s M1 R) : tOrD c d1 Xd s M R := h
theorem w_tNot (h : c Xd s M fun b M1 => R (!b) M1) : tNotD c Xd s M R := h
theorem w_chain {o o' : O2} (h : ta Xd s M fun x M1 => tb Xd s M1 fun y M2 => o x y M2 (chK o' y tc Xd s Q)) : dChain o o' ta tb tc Xd s M Q := h
theorem w_chT {o' : O2} (h : tc Xd s M fun z M1 => o' y z M1 Q) : chK o' y tc Xd s Q (.bl true) M := h
theorem w_chF {o' : O2} (h : Q (.bl false) M) : chK o' y tc Xd s Q (.bl false) M := h
theorem w_ifT {P U : Prop} (h : P) : if true = true then P else U := by rw [if_pos rfl]; exact h
theorem w_ifF {P U : Prop} (h : U) : if false = true then P else U := by rw [if_neg Bool.false_ne_true]; exact h
theorem w_ifnT {P U : Prop} (h : U) : if (!true) = true then P else U := w_ifF h
theorem w_ifnF {P U : Prop} (h : P) : if (!false) = true then P else U := w_ifT h
theorem w_ifdT {φ : Prop} [Decidable φ] {P U : Prop} (hφ : φ) (h : P) : if decide φ = true then P else U := by rw [if_pos (decide_eq_true hφ)]; exact h
theorem w_ifdF {φ : Prop} [Decidable φ] {P U : Prop} (hφ : ¬ φ) (h : U) : if decide φ = true then P else U := by rw [if_neg (fun z => hφ (of_decide_eq_true z))]; exact h
theorem w_ifd {φ : Prop} [Decidable φ] {P U : Prop} (h1 : φ → P) (h2 : ¬ φ → U) : if decide φ = true then P else U := by
  by_cases z : φ
  · exact w_ifdT z (h1 z)
  · exact w_ifdF z (h2 z)
theorem w_ifnd {φ : Prop} [Decidable φ] {P U : Prop} (h1 : ¬ φ → P) (h2 : φ → U) : if (!decide φ) = true then P else U := by
  by_cases z : φ
  · rw [decide_eq_true z]; exact w_ifF (h2 z)
  · rw [decide_eq_false z]; exact w_ifT (h1 z)
/-! ### operators -/
variable {i j : Int} {b b2 : Bool} {k : Str}
theorem w_addI (h : Q (.int (i + j)) M) : addD (.int i) (.int j) M Q := h
theorem w_addL (hl : ds.length + es.length ≤ sizeLine) (h : Q (.lst (ds ++ es)) M) : addD (.lst ds) (.lst es) M Q := ⟨hl, h⟩
theorem w_addT (hl : ds.length + es.length ≤ sizeLine) (h : Q (.tup (ds ++ es)) M) : addD (.tup ds) (.tup es) M Q := ⟨hl, h⟩
theorem w_subI (h : Q (.int (i - j)) M) : subD (.int i) (.int j) M Q := h
theorem w_powI (hw : CPow i j) (h : Q (.int (i ^ j.toNat)) M) : powD (.int i) (.int j) M Q := ⟨hw, h⟩
theorem w_lt (h : Q (.bl (decide (i < j))) M) : ltD (.int i) (.int j) M Q := h
theorem w_le (h : Q (.bl (decide (i ≤ j))) M) : leD (.int i) (.int j) M Q := h
theorem w_gt (h : Q (.bl (decide (j < i))) M) : gtD (.int i) (.int j) M Q := h
theorem w_ge (h : Q (.bl (decide (j ≤ i))) M) : geD (.int i) (.int j) M Q := h
theorem w_isN (h : Q (.bl (isN x)) M) : isD x .non M Q := ⟨rfl, h⟩
theorem w_isnN (h : Q (.bl (!isN x)) M) : isNotD x .non M Q := ⟨rfl, h⟩
theorem eq_ints : eqO (.int i) (.int j) = some (decide (i = j)) := by
  show (if SeqAt.shaped (.int i) = true ∧ SeqAt.shaped (.int j) = true then some (PyData.eqv (.int i) (.int j)) else none) = _
  rw [if_pos ⟨rfl, rfl⟩]
  rfl
theorem sh_str {k : Str} (h : PyData.strOk k = true) : SeqAt.shaped (.str k) = true := by
  unfold SeqAt.shaped; rw [show PyData.canLay0 (.str k) = PyData.strOk k from rfl, h]; rfl
theorem eq_strs {k l : Str} (h1 : PyData.strOk k = true) (h2 : PyData.strOk l = true) : eqO (.str k) (.str l) = some (decide (k = l)) := by
  show (if SeqAt.shaped (.str k) = true ∧ SeqAt.shaped (.str l) = true then some (PyData.eqv (.str k) (.str l)) else none) = _
  rw [if_pos ⟨sh_str h1, sh_str h2⟩]
  rfl
theorem w_eqI (h : Q (.bl (decide (i = j))) M) : eqD (.int i) (.int j) M Q := by
  unfold eqD; simp only [vw, eq_ints]; exact h
theorem w_neI (h : Q (.bl (!decide (i = j))) M) : neD (.int i) (.int j) M Q := by
  unfold neD; simp only [vw, eq_ints]; exact h
theorem w_eqS {k l : Str} (h1 : PyData.strOk k = true) (h2 : PyData.strOk l = true) (h : Q (.bl (decide (k = l))) M) : eqD (.str k) (.str l) M Q := by
  unfold eqD; simp only [vw, eq_strs h1 h2]; exact h
theorem w_neS {k l : Str} (h1 : PyData.strOk k = true) (h2 : PyData.strOk l = true) (h : Q (.bl (!decide (k = l))) M) : neD (.str k) (.str l) M Q := by
  unfold neD; simp only [vw, eq_strs h1 h2]; exact h
theorem w_neO {x y : D} {b : Bool} (e : eqO (vw M x) (vw M y) = some b) (h : Q (.bl (!b)) M) : neD x y M Q := by
  unfold neD; rw [e]; exact h
/-! ### subscripts -/
theorem w_ixL (e : atI ds i = some d) (h : Q d M) : ixD (.lst ds) (.int i) M Q := by
  unfold ixD; simp only [ixO, vw, e]; exact h
theorem w_ixT (e : atI ds i = some d) (h : Q d M) : ixD (.tup ds) (.int i) M Q := by
  unfold ixD; simp only [ixO, vw, e]; exact h
theorem w_ixRD {ks : List Key} (hM : M a = some (.dct ks ds)) (e : valD ks ds (.inr k) = some d) (h : Q d M) : ixD (.ref a) (.str k) M Q := by
  unfold ixD; simp only [ixO, vw, vwO, hM, keyD, e]; exact h
theorem w_ixT0 {x0 : D} (h : Q x0 M) : ixD (.tup (x0 :: ds)) (.int 0) M Q := w_ixT (by have z := atI_nat (xs := x0 :: ds) (j := 0) (v := x0) rfl; exact z) h
theorem w_ixT1 {x0 x1 : D} (h : Q x1 M) : ixD (.tup (x0 :: x1 :: ds)) (.int 1) M Q := w_ixT (by have z := atI_nat (xs := x0 :: x1 :: ds) (j := 1) (v := x1) rfl; exact z) h
theorem w_ixT2 {x0 x1 x2 : D} (h : Q x2 M) : ixD (.tup (x0 :: x1 :: x2 :: ds)) (.int 2) M Q := w_ixT (by have z := atI_nat (xs := x0 :: x1 :: x2 :: ds) (j := 2) (v := x2) rfl; exact z) h
theorem w_ixT3 {x0 x1 x2 x3 : D} (h : Q x3 M) : ixD (.tup (x0 :: x1 :: x2 :: x3 :: ds)) (.int 3) M Q := w_ixT (by have z := atI_nat (xs := x0 :: x1 :: x2 :: x3 :: ds) (j := 3) (v := x3) rfl; exact z) h
theorem w_ixT4 {x0 x1 x2 x3 x4 : D} (h : Q x4 M) : ixD (.tup (x0 :: x1 :: x2 :: x3 :: x4 :: ds)) (.int 4) M Q := w_ixT (by have z := atI_nat (xs := x0 :: x1 :: x2 :: x3 :: x4 :: ds) (j := 4) (v := x4) rfl; exact z) h
theorem w_ixT5 {x0 x1 x2 x3 x4 x5 : D} (h : Q x5 M) : ixD (.tup (x0 :: x1 :: x2 :: x3 :: x4 :: x5 :: ds)) (.int 5) M Q := w_ixT (by have z := atI_nat (xs := x0 :: x1 :: x2 :: x3 :: x4 :: x5 :: ds) (j := 5) (v := x5) rfl; exact z) h
/-! ### built-ins -/
theorem w_lenL (h : Q (.int ds.length) M) : lenC [.lst ds] M Q := h
theorem w_lenT (h : Q (.int ds.length) M) : lenC [.tup ds] M Q := h
theorem w_lenR (hM : M a = some (.lst ds)) (h : Q (.int ds.length) M) : lenC [.ref a] M Q := by
  unfold lenC; simp only [lenO, vw, vwO, hM]; exact h
theorem w_int (h : Q (.int i) M) : intC [.int i] M Q := h
theorem w_intB {b : Bool} (h : Q (.int (if b then 1 else 0)) M) : intC [.bl b] M Q := h
theorem w_abs (h : Q (.int (if i < 0 then -i else i)) M) : absC [.int i] M Q := h
theorem w_listL (h : Q (.lst ds) M) : listC [.lst ds] M Q := h
theorem w_listT (h : Q (.lst ds) M) : listC [.tup ds] M Q := h
theorem w_tupL (h : Q (.tup ds) M) : tupleC [.lst ds] M Q := h
theorem w_tupT (h : Q (.tup ds) M) : tupleC [.tup ds] M Q := h
theorem w_tupR (hM : M a = some (.lst ds)) (h : Q (.tup ds) M) : tupleC [.ref a] M Q := by
  unfold tupleC; simp only [itemsO, vw, vwO, hM]; exact h
theorem w_int2 {f : Int → Int → Int} (h : Q (.int (f i j)) M) : int2C f [.int i, .int j] M Q := h
theorem w_gcd (h : Q (.int ((Nat.gcd i.natAbs j.natAbs : Nat) : Int)) M) : gcdC [.int i, .int j] M Q := h
def appO (te : TED) (Xd : XD) (s : SD) (Q : QD) : QD := fun o M1 => match o with
  | .ref p => match M1 p with
    | some (.lst _) => te Xd s M1 fun d M2 => appK d Q p M2
    | _ => False
  | _ => False
theorem w_app (h : to Xd s M (appO te Xd s Q)) : dApp to te Xd s M Q := h
theorem w_appO (hM : M p = some (.lst ds)) (h : te Xd s M fun d M2 => appK d Q p M2) : appO te Xd s Q (.ref p) M := by
  unfold appO; simp only [hM]; exact h
def rvsO (Q : QD) : QD := fun o M1 => match o with
  | .ref p => match M1 p with
    | some (.lst ds) => Q .non (M1.put p (.lst ds.reverse))
    | _ => False
  | _ => False
theorem w_rvs (h : to Xd s M (rvsO Q)) : dRvs to Xd s M Q := h
theorem w_appK (hM : M p = some (.lst ds)) (hl : ds.length < sizeLine) (h : Q .non (M.put p (.lst (ds ++ [d])))) : appK d Q p M := by
  unfold appK; rw [hM]; exact ⟨hl, h⟩
/-! ### walks -/
variable {I : List D → Option Addr → Mem → Prop}
theorem w_iSeq (h : te Xd s M (itemK I)) : iSeqD te Xd s M I := h
theorem w_itemT (h : I ds none M) : itemK I (.tup ds) M := h
theorem w_itemL (h : I ds none M) : itemK I (.lst ds) M := h
theorem w_itemR (hM : M a = some (.lst ds)) (h : I ds (some a) M) : itemK I (.ref a) M := by
  unfold itemK; simp only [hM]; exact h
theorem w_iRng (h : A Xd s M (rngK I)) : iRngD A Xd s M I := h
theorem w_rng1 (hj : -(2 ^ 62) ≤ j ∧ j < 2 ^ 62) (h : I (rngL 0 j.toNat) none M) : rngK I [.int j] M := ⟨hj, h⟩
theorem w_iEnm (h : dCons te dNil Xd s M fun ds M1 => ∃ d, ds = [d] ∧ itemK (fun ds ow M1 => I (enmFrom 0 ds) ow M1) d M1) : iEnmB te Xd s M I := h
theorem w_sg1 {J : D → Prop} (h : J d) : ∃ e, [d] = [e] ∧ J e := ⟨d, rfl, h⟩
theorem w_iRev {T : XD → SD → Mem → (Int → Int → Mem → Prop) → Prop} (h : T Xd s M fun i j M1 => (-(2 ^ 62) ≤ i ∧ i < 2 ^ 62 ∧ -(2 ^ 62) ≤ j ∧ j < 2 ^ 62) ∧ I (rngL i (j - i).toNat).reverse none M1) : iRevD T Xd s M I := h
theorem w_rg1 {F : Int → Int → Mem → Prop} (h : te Xd s M (rg1K F)) : rg1 te Xd s M F := h
theorem w_rg1K {F : Int → Int → Mem → Prop} (h : F 0 i M) : rg1K F (.int i) M := h
end
end DL
set_option maxHeartbeats 1000000
namespace DL
open PySem PySem.Spec PyProof.Rows L2
def parK (i j : Nat) (nx : SD → Mem → Prop) (s : SD) : List D → Mem → Prop := fun ds M1 => match ds with
  | [d, e] => nx ((s.set i (some d)).set j (some e)) M1
  | _ => False
theorem w_par {i j : Nat} {ta : TAD} {s : SD} {M : Mem} {nx bk ct : SD → Mem → Prop} {rt : QD} {ex : XD} (h : ta ex s M (parK i j nx s)) : sPar i j ta ⟨nx, rt, bk, ct, ex⟩ s M := h
theorem w_parK {i j : Nat} {d e : D} {s s' : SD} {M : Mem} {nx : SD → Mem → Prop} (hs : (s.set i (some d)).set j (some e) = s') (h : nx s' M) : parK i j nx s [d, e] M := by
  subst hs; exact h
theorem w_dRev {te : TED} {Xd : XD} {s : SD} {M : Mem} {Q : QD} (h : te Xd s M (revK Q)) : dRev te Xd s M Q := h
theorem w_revK {ds : List D} {M : Mem} {Q : QD} (h : Q (.lst ds.reverse) M) : revK Q (.lst ds) M := h
theorem w_lstRg {t : XD → SD → Mem → (Int → Int → Mem → Prop) → Prop} {Xd : XD} {s : SD} {M : Mem} {Q : QD} (h : t Xd s M fun i j M1 => RgOk i j ∧ Q (.lst (rngL i (j - i).toNat)) M1) : dLstRg t Xd s M Q := h
/-! ### a dict that grows by new numbers -/
theorem w_joinS {t u : TSD} {s : SD} {M : Mem} {nx bk ct : SD → Mem → Prop} {rt : QD} {ex : XD} {P : SD → Mem → Prop} (hu : ∀ s1 M1, P s1 M1 → u ⟨nx, rt, bk, ct, ex⟩ s1 M1) (h : (∀ s1 M1, P s1 M1 → u ⟨nx, rt, bk, ct, ex⟩ s1 M1) → sSeq t u ⟨nx, rt, bk, ct, ex⟩ s M) : sSeq t u ⟨nx, rt, bk, ct, ex⟩ s M := h hu
theorem w_yes {Xd : XD} {s : SD} {M : Mem} {R : Bool → Mem → Prop} (h : R true M) : tYesD Xd s M R := h
/-- [e for x in ds if c], without a change of what is owned -/
theorem lc_filt {g : TGD} {tt : TTD} {te : TED} {s0 : SD} {W : Mem → Prop} {p : Addr} {Q : QD} {M0 : Mem} (hp : M0 p = none) (f : D → Option D) (hW : ∀ acc, W (M0.put p (.lst acc))) : ∀ (ds acc : List D), acc.length + ds.length ≤ sizeLine →
    (∀ d ∈ ds, ∀ (acc : List D) (K1 : QD) (K0 : Mem → Prop), (∀ r, f d = some r → K1 r (M0.put p (.lst acc))) → (f d = none → K0 (M0.put p (.lst acc))) → g d X0 s0 (M0.put p (.lst acc)) fun s' M' => tt X0 s' M' fun b M2 => if b = true then te X0 s' M2 K1 else K0 M2) →
    Q (.lst (acc ++ ds.filterMap f)) M0 → dLcL g tt te s0 W p Q ds (M0.put p (.lst acc))
  | [], acc, _, _, h => ⟨hW acc, by
      unfold endK
      rw [Mem.put_same]
      rw [Mem.del_put hp]
      simpa using h⟩
  | d :: ds, acc, hl, st, h => ⟨hW acc, st d List.mem_cons_self acc _ _ (fun r hr => by
      unfold accK
      rw [Mem.put_same]
      rw [List.length_cons] at hl
      refine ⟨by omega, ?_⟩
      rw [Mem.put_put]
      refine lc_filt hp f hW ds (acc ++ [r]) (by rw [List.length_append, List.length_singleton]; omega) (fun e he => st e (List.mem_cons_of_mem _ he)) ?_
      rw [List.filterMap_cons_some hr] at h
      rw [List.append_assoc]; exact h) (fun hn => by
      rw [List.length_cons] at hl
      refine lc_filt hp f hW ds acc (by omega) (fun e he => st e (List.mem_cons_of_mem _ he)) ?_
      rw [List.filterMap_cons_none hn] at h
      exact h)⟩
end DL
set_option maxHeartbeats 1000000
namespace DL
open PySem PySem.Spec PyProof.Rows L2
/-! ### instances of own classes: made, stored to while made, read -/
section
variable {X : Cx} {E : XK} {n k : Nat} {f x : Str} {p pos p' pos' tpos : Pos} {e o : Expr} {es : List Expr} {te to : TED} {ts : TAD}
/-- o.f -/
def atK (K : Fg) (f : Str) (Q : QD) : QD := fun d M => match d with
  | .ref a => match M a with
    | some (.ins C ns ds) => (Cls K C ∧ NoAttr K C f) ∧ ∃ d, (ns.zip ds).lookup f = some d ∧ Q d M
    | _ => False
  | _ => False
def dAt (K : Fg) (f : Str) (te : TED) : TED := fun Xd s M Q => te Xd s M (atK K f Q)
/-- o.f = d, a field that is new -/
def atS (K : Fg) (f : Str) (o d : D) (k : Mem → Prop) : Mem → Prop := fun M => match o with
  | .ref a => match M a with
    | some (.ins C ns ds) => (Cls K C ∧ NoAttr K C f ∧ ns.length < 900 ∧ f ∉ ns) ∧ k (M.put a (.ins C (ns ++ [f]) (ds ++ [d])))
    | _ => False
  | _ => False
def sAt (K : Fg) (f : Str) (to te : TED) : TSD := fun Y s M => te Y.ex s M fun d M1 => to Y.ex s M1 fun o M2 => atS K f o d (fun M3 => Y.nx s M3) M2
def gAt (K : Fg) (f : Str) (to : TED) : TGD := fun d Xd s M Q => to Xd s M fun o M1 => atS K f o d (fun M2 => Q s M2) M1
/-! ### C(e, ..) -/
theorem RoomG.make {k : Nat} {A : Around} (h : RoomG (k + 1) A) (C : Addr) (us : List Value) (kw : List (Str × Value)) : RoomG k (A.under (.builtin "type.__call__" ⟨.ref C :: us, kw⟩)) := ⟨h.r.make C us kw, h.g⟩
end
end DL
set_option maxHeartbeats 1000000
namespace PySem
namespace HandSPX
open PySem.W
end HandSPX
end PySem
set_option maxHeartbeats 1000000
namespace DL
open PySem PySem.Spec PyProof.Rows L2
/-! ### try: the caught exception is tracked, and held as data -/
theorem exc_ok {P : Program} {w : World} {H : Hp} {h : Heap} {a C dx : Addr} {oe : Obj} {vs : Array Value} (e : h.get? a = some oe) (z : Zc (.ref C) (some dx) oe) (d : oe.data = .fields vs) : ObjOk P w H h a (exc a C dx) :=
  ⟨⟨oe, vs, e, z, d⟩, ⟨oe, e⟩, fun _ _ ⟨o, v, q, r⟩ k => ⟨o, v, k o q, r⟩⟩
section
variable {X : Cx} {pins : List (Addr × Obj)} {σ : L2.St} {H : Hp} {sI s s' : Shared} {B : Heap}
theorem landed_exc (I : Inv X pins σ H sI) (nb : ∀ b o, sI.heap.get? b = some o → b ∉ frs X.stack → B.get? b = some o) (st : B.StaysIn s'.heap) (up : sI.heap.UpToSlots s'.heap) (os : s'.os = sI.os) (ag : AllBare s'.gens)
    {a C dx : Addr} {oe : Obj} {vs : Array Value} (na : H a = none) (hB : B.get? a = none) (hF : a ∉ frs X.stack) (ha : s'.heap.get? a = some oe) (z : Zc (.ref C) (some dx) oe) (d : oe.data = .fields vs) : Inv X pins σ (upd H a (exc a C dx)) s' := by
  have hs : sI.heap.get? a = none := by
    cases q : sI.heap.get? a with
    | none => rfl
    | some o =>
      have e := nb a o q hF
      rw [hB] at e; cases e
  have ne : ∀ {b : Addr} {o : Obj}, sI.heap.get? b = some o → b ≠ a := fun {b o} e z => by rw [z, hs] at e; cases e
  have nf : ∀ b ∈ frs X.stack, ∀ o, sI.heap.get? b = some o → ∃ sl, s'.heap.get? b = some { o with slots := sl } := fun b hb o e => by
    obtain ⟨_, o', e', hd⟩ := I.stack.mem hb
    rw [e] at e'; cases e'
    exact up b o e hd
  have hok : HOk X.prog X.w (upd H a (exc a C dx)) s'.heap := fun b o q => by
    by_cases hb : b = a
    · subst hb
      rw [upd_same] at q; cases q
      exact exc_ok ha z d
    · rw [upd_ne hb] at q
      exact ((I.inGround nb).kept st b o q).stay (fun _ _ _ e => e) (fun c e => by rw [upd_ne (ne_of_none e na)]; exact e) fun c xs e => by rw [upd_ne (ne_of_none e na)]; exact e
  have J := I.call (ch := []) (h' := s'.heap) (g' := s'.gens) (t' := s'.toks) (d' := s'.drawn) (H' := upd H a (exc a C dx))
    ⟨fun b o e _ hb _ => st b o (nb b o e hb), fun b o e _ hb _ => nf b hb o e, fun b o e n _ => by rw [upd_ne (ne e)]; exact n, fun b o e _ => by
      by_cases hb : b ∈ frs X.stack
      · obtain ⟨sl, q⟩ := nf b hb o e
        exact ⟨_, q⟩
      · exact ⟨o, st b o (nb b o e hb)⟩, fun b xs e => by rw [upd_ne (ne_of_none e na)]; exact e, fun b o u e => by rw [upd_ne (ne_of_none e na)]; exact e, fun b ps e => ⟨#[], by rw [upd_ne (ne_of_none e na), e]; simp⟩⟩
    hok ag (fun _ z => nomatch z)
  obtain ⟨a1, a2, a3, a4, a5⟩ := s'
  have e5 : a5 = sI.os := os
  subst e5
  exact J
theorem to_sui (I : Inv X pins σ H s) (a : Addr) : Inv (X.suite a (X.pn ++ pins)) [] σ H s :=
  ⟨I.ok.suite _ _, I.os, I.bare, I.base, I.loc, I.cell, I.free, I.freeC, fun p hp => I.pin p (by simpa using hp), I.hok, I.len⟩
theorem of_sui {a : Addr} {pn' : List (Addr × Obj)} (I : Inv (X.suite a (X.pn ++ pins)) pn' σ H s) (ok : X.Ok) : Inv X pins σ H s :=
  ⟨ok, I.os, I.bare, I.base, I.loc, I.cell, I.free, I.freeC, fun p hp => I.pin p (List.mem_append_left _ hp), I.hok, I.len⟩
theorem flying_keeps {l : List Env} {a : Addr} {Z : Obj → Prop} {h h' : Heap} (k : ∀ b o, h.get? b = some o → h'.get? b = some o) (f : HandSPX.FlyingZ B l a Z h) : HandSPX.FlyingZ B l a Z h' := by
  obtain ⟨f1, f2, f3, oe, vs, T, oT, ts, h1, h2, h3, h4, h5, h6, h7, h8, h9⟩ := f
  exact ⟨fun b o e => k _ _ (f1 b o e), f2, Heap.FunFrames.of_keeps (fun b o e _ => ⟨o, k b o e, rfl⟩) f3, oe, vs, T, oT, ts, k _ _ h1, h2, h3, h4, h5, h6, k _ _ h7, h8, h9⟩
end
/-- the test of a clause, as it is evaluated: it names the classes cs -/
def Tst (X : Cx) (t : Expr) (cs : List Value) : Prop := ∀ (a : Addr) (pn pins : List (Addr × Obj)) (σ : L2.St) (H : Hp) (s : Shared) (cls : Value) (b : Bool) (Q : Bool → Shared → Prop) (E E2 : Value → Shared → Prop), Inv (X.suite a pn) pins σ H s →
  PySem.W.Looks (model X.prog X.w) s.heap (typeOf (.ref a)) cls → PySem.W.exmAny X.K cls cs = some b → (∀ h', (∀ q o, s.heap.get? q = some o → h'.get? q = some o) → Q b { s with heap := h' }) →
  wpAny (model X.prog X.w) (X.A.mark (some (.ref a))) (eval t X.env) (fun c s1 => wpAny (model X.prog X.w) (X.A.mark (some (.ref a))) (excMatches (.ref a) c) Q E s1) E2 s
section
variable {X : Cx} {x : Str} {c : Value} {np pos : Pos}
theorem nm_at {a : Addr} {pn pins : List (Addr × Obj)} {σ : L2.St} {H : Hp} {s : Shared} {Q : Value → Shared → Prop} {E : Value → Shared → Prop} (hc : Names X x c) (I : Inv (X.suite a pn) pins σ H s) (q : Q c s) :
    wpAny (model X.prog X.w) (X.A.mark (some (.ref a))) (eval (.Name x np) X.env) Q E s := by
  obtain ⟨hg, hdbg, hm | ⟨hm, hv, hnn⟩⟩ := hc
  · exact ld_glob (X := X.suite a pn) I hg hm q hdbg
  · exact ld_blt (X := X.suite a pn) I hg hm hv q hnn hdbg
theorem tst_name (hc : Names X x c) : Tst X (.Name x np) [c] := fun a pn pins σ H s cls b Q E E2 I LT hx q => by
  obtain ⟨b1, d1, x1, y1, z1⟩ := PySem.W.exmAny_cons hx
  cases y1
  rw [Bool.or_false] at z1
  subst z1
  exact nm_at hc I ((PySem.W.exm_one I.kIn LT x1).here (q s.heap fun _ _ e => e))
end
/-- a clause: its classes, the slot of its name, what its suite says -/
structure Cl where
  cs : List Value
  nm : Option Nat
  ts : TS
def Cl.ends (c : Cl) (D : Ends) : Ends := match c.nm with
  | none => D
  | some i => { nx := fun σ' H' => D.nx (σ'.set i none) H', rt := D.rt, bk := fun σ' H' => D.bk (σ'.set i none) H', ct := fun σ' H' => D.ct (σ'.set i none) H' }
def Cl.at (c : Cl) (σ : L2.St) (a : Addr) : L2.St := match c.nm with
  | none => σ
  | some i => σ.set i (some (.ref a))
/-- what the clauses wish of an exception of the body -/
def wCl (K : PySem.W.Frag) (D : Ends) : List Cl → WX
  | [] => fun _ _ _ _ => False
  | c :: r => fun cls d σ H => ∃ b, PySem.W.exmAny K cls c.cs = some b ∧ (b = true → ∀ a, H a = none → ∃ C dx, cls = .ref C ∧ d = some dx ∧ c.ts (c.ends D) (c.at σ a) (upd H a (exc a C dx))) ∧ (b = false → wCl K D r cls d σ H)
inductive ClsOk (X : Cx) : List ExceptHandler → List Cl → Prop
  | nil : ClsOk X [] []
  | cons {t : Expr} {cs : List Value} {ts : TS} {b₀ : Stmt} {suite : List Stmt} {pos' : Pos} {hds : List ExceptHandler} {l : List Cl} (ht : Tst X t cs) (hsu : ∀ (a : Addr) (pn : List (Addr × Obj)), PSs (X.suite a pn) (b₀ :: suite) ts) (r : ClsOk X hds l) :
      ClsOk X (.ExceptHandler (some t) none (b₀ :: suite) pos' :: hds) (⟨cs, none, ts⟩ :: l)
  | as {t : Expr} {n : Str} {i : Nat} {cs : List Value} {ts : TS} {b₀ : Stmt} {suite : List Stmt} {pos' : Pos} {hds : List ExceptHandler} {l : List Cl} (ht : Tst X t cs) (hi : X.N[i]? = some n) (hln : X.env.kindOf n = some .local) (hsu : ∀ (a : Addr) (pn : List (Addr × Obj)), PSs (X.suite a pn) (b₀ :: suite) ts) (r : ClsOk X hds l) :
      ClsOk X (.ExceptHandler (some t) (some n) (b₀ :: suite) pos' :: hds) (⟨cs, some i, ts⟩ :: l)
section
variable {X : Cx} {body : List Stmt} {h₀ : ExceptHandler} {hds : List ExceptHandler} {l : List Cl} {pos : Pos} {tb : WX → TS}
theorem ps_tryD (hs : X.stack = X.env :: X.outer) (hf : X.env.frame = some X.env.locals) (hN : X.N.Nodup)
    (hb : ∀ (W : WX) (pn : List (Addr × Obj)) (xe : Value → Shared → Prop), Takes (X.tr pn xe) W → PassesOwn (model X.prog X.w) X.A X.env xe → PSs (X.tr pn xe) body (tb W))
    (hh : ClsOk X (h₀ :: hds) l) : PS X (.Try body (h₀ :: hds) [] [] pos) (fun D σ H => tb (wCl X.K D l) D σ H) := by
  refine ⟨fun pins s σ H D I h => ?_⟩
  have ok := I.ok
  have hfr : X.A.frames = some (X.env :: X.outer) := by rw [ok.frames, hs]
  refine wpAny_Try_except ?_
  refine wpAny_mono ((hb (wCl X.K D l) (X.pn ++ pins) (fun e s₁ => wpAny (model X.prog X.w) X.A (noteFrame e X.env) (fun _ s₂ => wpAny (model X.prog X.w) X.A (setFlight e none) (fun _ s₃ =>
    wpAny (model X.prog X.w) X.A (handleBy e X.env (h₀ :: hds)) (SP X pins D) X.xe s₃) X.xe s₂) X.xe s₁) (fun u s' xx => ?_) PassesOwn.looking).run [] s σ H D (I.toTry _) h) (fun f s1 hsp => ?_) (fun e s1 he => he)
  · obtain ⟨a, B, sI, pins', σ', H', cls, d, rfl, J', nb, up, sky, na, os, ag, w⟩ := xx
    have J : Inv X pins σ' H' sI := J'.ofTry ok
    have sky' : Sky B (X.env :: X.outer) a (Zc cls d) X.env.locals s'.heap := by rw [← hs]; exact sky
    show wpAny (model X.prog X.w) X.A (noteFrame (.ref a) X.env) _ _ _
    refine Sky.land Zc.steady hfr hf sky' fun h3 fl3 up3 => ?_
    have notFr : ∀ {h : Heap} {o : Obj} {vs : Array Value}, h.FunFrames B (X.env :: X.outer) → h.get? a = some o → o.data = .fields vs → a ∉ frs (X.env :: X.outer) := fun {h o vs} ff e dd hm => by
      obtain ⟨_, o', e', hnf⟩ := ff.mem hm
      rw [e] at e'; cases e'
      exact hnf _ dd
    have go : ∀ {hds' : List ExceptHandler} {l' : List Cl}, ClsOk X hds' l' → wCl X.K D l' cls d σ' H' → ∀ h3, HandSPX.FlyingZ B (X.env :: X.outer) a (Zc cls d) h3 → s'.heap.UpToSlots h3 →
        wpAny (model X.prog X.w) X.A (handleBy (.ref a) X.env hds') (SP X pins D) X.xe { s' with heap := h3 } := by
      intro hds' l' hk
      have test : ∀ {t : Expr} {cs : List Value} {b : Bool} {h3 : Heap} {Q : Bool → Shared → Prop} {E E2 : Value → Shared → Prop}, Tst X t cs → PySem.W.exmAny X.K cls cs = some b → HandSPX.FlyingZ B (X.env :: X.outer) a (Zc cls d) h3 → s'.heap.UpToSlots h3 →
          (∀ h4, HandSPX.FlyingZ B (X.env :: X.outer) a (Zc cls d) h4 → s'.heap.UpToSlots h4 → Q b { s' with heap := h4 }) →
          wpAny (model X.prog X.w) (X.A.mark (some (.ref a))) (eval t X.env) (fun c s1 => wpAny (model X.prog X.w) (X.A.mark (some (.ref a))) (excMatches (.ref a) c) Q E s1) E2 { s' with heap := h3 } := by
        intro t cs b h3 Q E E2 ht hx fl3 up3 q
        obtain ⟨oe3, vs3, he3, hz3, hd3⟩ := fl3.there
        have J3 : Inv X pins σ' H' { s' with heap := h3 } := J.landed nb fl3.1 (up.trans up3) os ag
        have LT : PySem.W.Looks (model X.prog X.w) h3 (typeOf (.ref a)) cls := fun A Q E s k q => wpAny_typeOf_ref (k _ _ he3) (by rw [hz3.1]; exact q)
        exact ht a _ [] _ _ _ _ _ _ _ _ (to_sui J3 a) LT hx fun h4 kp => q h4 (flying_keeps kp fl3) (up3.trans (Heap.UpToSlots.of_keeps kp))
      have enter : ∀ {h4 : Heap} {C dx : Addr}, cls = .ref C → d = some dx → HandSPX.FlyingZ B (X.env :: X.outer) a (Zc cls d) h4 → s'.heap.UpToSlots h4 → Inv (X.suite a (X.pn ++ pins)) [] σ' (upd H' a (exc a C dx)) { s' with heap := h4 } := by
        intro h4 C dx ec ed fl4 up4
        obtain ⟨oe4, vs4, he4, hz4, hd4⟩ := fl4.there
        subst ec ed
        exact to_sui (landed_exc (s' := { s' with heap := h4 }) J nb fl4.1 (up.trans up4) os ag na fl4.2.1 (by rw [hs]; exact notFr fl4.2.2.1 he4 hd4) he4 hz4 hd4) a
      induction hk with
      | nil => intro w; exact w.elim
      | @cons t cs ts b₀ suite pos' hds2 l2 ht hsu r ih =>
        intro w h3 fl3 up3
        obtain ⟨b, hb1, hyes, hno⟩ := w
        refine wpAny_handleBy_cons (codeAny_handlers_test ?_) (by intro q; cases q)
        refine test ht hb1 fl3 up3 fun h5 fl5 up5 => ?_
        cases b with
        | true =>
          refine codeAny_handlers_suite ?_
          refine HandSPX.lands_againZ fl5 fun h4 fl4 up4 => ?_
          obtain ⟨C, dx, ec, ed, q⟩ := hyes rfl a na
          refine wpAny_mono ((hsu a (X.pn ++ pins)).run [] _ _ _ _ (enter ec ed fl4 (up5.trans up4)) q) (fun f s6 hsp => ?_) (fun _ _ z => False.elim z)
          cases f with
          | next =>
            obtain ⟨σ6, H6, S6, q6⟩ := hsp
            exact ⟨_, _, of_sui S6 ok, q6⟩
          | brk =>
            obtain ⟨σ6, H6, S6, q6⟩ := hsp
            exact ⟨_, _, of_sui S6 ok, q6⟩
          | cont =>
            obtain ⟨σ6, H6, S6, q6⟩ := hsp
            exact ⟨_, _, of_sui S6 ok, q6⟩
          | ret u =>
            obtain ⟨v6, σ6, H6, S6, r6, q6⟩ := hsp
            exact ⟨_, _, _, of_sui S6 ok, r6, q6⟩
        | false =>
          show wpAny _ X.A (handleBy (.ref a) X.env hds2) _ _ _
          exact ih (hno rfl) h5 fl5 up5
      | @as t n i cs ts b₀ suite pos' hds2 l2 ht hi hln hsu r ih =>
        intro w h3 fl3 up3
        obtain ⟨b, hb1, hyes, hno⟩ := w
        refine wpAny_handleBy_cons (codeAny_handlers_test ?_) (by intro q; cases q)
        refine test ht hb1 fl3 up3 fun h5 fl5 up5 => ?_
        cases b with
        | true =>
          refine codeAny_handlers_suite_as ?_
          refine HandSPX.lands_againZ fl5 fun h4 fl4 up4 => ?_
          obtain ⟨C, dx, ec, ed, q⟩ := hyes rfl a na
          have hloc : Loc X.env.scope n := .inl hln
          refine store_ok (X := X.suite a (X.pn ++ pins)) (v := .ref a) (enter ec ed fl4 (up5.trans up4)) hN hi hloc rfl (fun s5 S5 => ?_) (.inr hln)
          refine wpAny_mono ((hsu a (X.pn ++ pins)).run [] s5 _ _ _ S5 q) (fun f s6 hsp => ?_) (fun _ _ z => False.elim z)
          have end_ : ∀ {σ6 : L2.St} {H6 : Hp} {Q : Shared → Prop}, Inv (X.suite a (X.pn ++ pins)) [] σ6 H6 s6 → (∀ s7, Inv X pins (σ6.set i none) H6 s7 → Q s7) →
              wpAny (model X.prog X.w) X.A (do bindName X.env n .none; unbindBehindTheSuite X.env n pos') (fun _ s7 => Q s7) X.xe s6 := fun {σ6 H6 Q} S6 hq => gone_ok (of_sui S6 ok) hN hi hln hq
          cases f with
          | next =>
            obtain ⟨σ6, H6, S6, q6⟩ := hsp
            exact end_ S6 fun s7 J7 => ⟨_, _, J7, q6⟩
          | brk =>
            obtain ⟨σ6, H6, S6, q6⟩ := hsp
            exact end_ S6 fun s7 J7 => ⟨_, _, J7, q6⟩
          | cont =>
            obtain ⟨σ6, H6, S6, q6⟩ := hsp
            exact end_ S6 fun s7 J7 => ⟨_, _, J7, q6⟩
          | ret u =>
            obtain ⟨v6, σ6, H6, S6, r6, q6⟩ := hsp
            exact end_ S6 fun s7 J7 => ⟨_, _, _, J7, r6, q6⟩
        | false =>
          show wpAny _ X.A (handleBy (.ref a) X.env hds2) _ _ _
          exact ih (hno rfl) h5 fl5 up5
    exact go hh w h3 fl3 up3
  · cases f with
    | next =>
      obtain ⟨σ', H', J', q⟩ := hsp
      exact wpAny_execs_nil ⟨σ', H', J'.ofTry ok, q⟩
    | brk =>
      obtain ⟨σ', H', J', q⟩ := hsp
      exact ⟨σ', H', J'.ofTry ok, q⟩
    | cont =>
      obtain ⟨σ', H', J', q⟩ := hsp
      exact ⟨σ', H', J'.ofTry ok, q⟩
    | ret u =>
      obtain ⟨v, σ', H', J', r, q⟩ := hsp
      exact ⟨v, σ', H', J'.ofTry ok, r, q⟩
end
end DL
set_option maxHeartbeats 1000000
namespace DL
open PySem PySem.Spec PyProof.Rows L2
/-! ### try, over data -/
structure ClD where
  cs : List Value
  nm : Option Nat
  ts : TSD
def ClD.ends (c : ClD) (Y : EndsD) : EndsD := match c.nm with
  | none => { Y with ex := fun _ _ _ _ => False }
  | some i => { nx := fun s M => Y.nx (s.set i none) M, rt := Y.rt, bk := fun s M => Y.bk (s.set i none) M, ct := fun s M => Y.ct (s.set i none) M, ex := fun _ _ _ _ => False }
def ClD.at (c : ClD) (s : SD) (d : D) : SD := match c.nm with
  | none => s
  | some i => s.set i (some d)
def xCl (K : Fg) (Y : EndsD) (s : SD) : List ClD → XD
  | [] => fun _ _ _ _ => False
  | c :: r => fun C ns ds M => ∃ b, PySem.W.exmAny K (.ref C) c.cs = some b ∧ (b = true → c.ts (c.ends Y) (c.at s (.exn C ns ds)) M) ∧ (b = false → xCl K Y s r C ns ds M)
def sTry (K : Fg) (tb : TSD) (cl : List ClD) : TSD := fun Y s M => tb { Y with ex := xCl K Y s cl } s M
theorem StOk.unset {K : Fg} {σ : L2.St} {H : Hp} {s : SD} {M : Mem} (S : StOk K σ H s M) (i : Nat) : StOk K (σ.set i none) H (s.set i none) M := by
  refine ⟨by rw [List.length_set, List.length_set]; exact S.len, fun j e h => ?_, S.mem⟩
  by_cases hj : j = i
  · subst hj
    by_cases hl : j < s.length
    · rw [List.getElem?_set_self hl] at h
      cases h
    · rw [List.getElem?_eq_none (by rw [List.length_set]; omega)] at h
      cases h
  · rw [List.getElem?_set_ne (Ne.symm hj)] at h
    obtain ⟨w, e1, e2⟩ := S.sl j e h
    exact ⟨w, by rw [List.getElem?_set_ne (Ne.symm hj)]; exact e1, e2⟩
def liftY (K : Fg) (W : WX) (t : TSD) : TS := fun Z σ H => liftS K (fun c d H' => W c d σ H') t Z σ H
/-- the body of a try -/
structure DB (X : Cx) (body : List Stmt) (t : TSD) : Prop where
  ok : ∀ (W : WX) (pn : List (Addr × Obj)) (xe : Value → Shared → Prop), Takes (X.tr pn xe) W → PassesOwn (model X.prog X.w) X.A X.env xe → PSs (X.tr pn xe) body (liftY X.K W t)
inductive ClsD (X : Cx) : List ExceptHandler → List ClD → Prop
  | nil : ClsD X [] []
  | cons {t : Expr} {cs : List Value} {ts : TSD} {b₀ : Stmt} {suite : List Stmt} {pos' : Pos} {hds : List ExceptHandler} {l : List ClD} (ht : Tst X t cs) (hsu : ∀ (a : Addr) (pn : List (Addr × Obj)), DSs (X.suite a pn) (fun _ _ _ => False) (b₀ :: suite) ts) (r : ClsD X hds l) :
      ClsD X (.ExceptHandler (some t) none (b₀ :: suite) pos' :: hds) (⟨cs, none, ts⟩ :: l)
  | as {t : Expr} {n : Str} {i : Nat} {cs : List Value} {ts : TSD} {b₀ : Stmt} {suite : List Stmt} {pos' : Pos} {hds : List ExceptHandler} {l : List ClD} (ht : Tst X t cs) (hi : X.N[i]? = some n) (hln : X.env.kindOf n = some .local) (hsu : ∀ (a : Addr) (pn : List (Addr × Obj)), DSs (X.suite a pn) (fun _ _ _ => False) (b₀ :: suite) ts) (r : ClsD X hds l) :
      ClsD X (.ExceptHandler (some t) (some n) (b₀ :: suite) pos' :: hds) (⟨cs, some i, ts⟩ :: l)
def ClD.low (K : Fg) (c : ClD) : Cl := ⟨c.cs, c.nm, liftS K (fun _ _ _ => False) c.ts⟩
theorem clsD_ok {X : Cx} {hds : List ExceptHandler} {l : List ClD} (h : ClsD X hds l) : ClsOk X hds (l.map (ClD.low X.K)) := by
  induction h with
  | nil => exact .nil
  | cons ht hsu r ih => exact .cons ht (fun a pn => (hsu a pn).ok) ih
  | as ht hi hln hsu r ih => exact .as ht hi hln (fun a pn => (hsu a pn).ok) ih
theorem cl_wish {K : Fg} {H H' : Hp} {M M' : Mem} {σ : L2.St} {s : SD} {Y : EndsD} {Z : Ends} {C d : Addr} {ns : List Str} {xs : List V} {ds : List D} (S : StOk K σ H s M) (g : Gw H M H' M') (mo : MOk K H' M') (hd : H' d = some (.xd (ns.zip xs))) (md : M' d = none) (hl : ns.length = ds.length) (rs : Rs K H' M' ds xs)
    (h : (∀ σ' H', upS K H M Y.nx σ' H' → Z.nx σ' H') ∧ (∀ v H', upE K H M Y.rt v H' → Z.rt v H') ∧ (∀ σ' H', upS K H M Y.bk σ' H' → Z.bk σ' H') ∧ (∀ σ' H', upS K H M Y.ct σ' H' → Z.ct σ' H')) :
    ∀ {l : List ClD}, xCl K Y s l C ns ds M' → wCl K Z (l.map (ClD.low K)) (.ref C) (some d) σ H'
  | [], w => w.elim
  | c :: r, ⟨b, hb, hy, hn⟩ => by
    refine ⟨b, hb, fun e a na => ⟨C, d, rfl, rfl, ?_⟩, fun e => cl_wish S g mo hd md hl rs h (hn e)⟩
    have g1 : Gw H' M' (upd H' a (exc a C d)) M' := gw_new na
    have S1 : StOk K σ (upd H' a (exc a C d)) s M' := S.grow (g.trans g1) (mok_new mo na)
    have rx : Rv K (upd H' a (exc a C d)) M' (.exn C ns ds) (.ref a) :=
      .inl ⟨a, d, xs, rfl, .inr upd_same, m_none mo na, .inr (by rw [upd_ne (ne_of_none hd na)]; exact hd), md, hl, Rs.grow g1 ds xs rs⟩
    have h2 := fwdE (g.trans g1) h
    obtain ⟨cs, nm, ts⟩ := c
    cases nm with
    | none => exact ⟨s, M', _, S1, fun _ _ _ ⟨_, _, _, _, _, _, _, _, _, _, _, _, _, _, z⟩ => z.elim, hy e, h2.1, h2.2.1, h2.2.2.1, h2.2.2.2⟩
    | some i =>
      exact ⟨s.set i (some (.exn C ns ds)), M', _, S1.set i rx, fun _ _ _ ⟨_, _, _, _, _, _, _, _, _, _, _, _, _, _, z⟩ => z.elim, hy e, fun σ' H2 ⟨s', M2, g2, S2, q⟩ => h2.1 _ _ ⟨_, M2, g2, S2.unset i, q⟩, h2.2.1,
        fun σ' H2 ⟨s', M2, g2, S2, q⟩ => h2.2.2.1 _ _ ⟨_, M2, g2, S2.unset i, q⟩, fun σ' H2 ⟨s', M2, g2, S2, q⟩ => h2.2.2.2 _ _ ⟨_, M2, g2, S2.unset i, q⟩⟩
theorem ds_try {X : Cx} {E : XK} {body : List Stmt} {h₀ : ExceptHandler} {hds : List ExceptHandler} {l : List ClD} {pos : Pos} {tb : TSD} (hs : X.stack = X.env :: X.outer) (hf : X.env.frame = some X.env.locals) (hN : X.N.Nodup) (hb : DB X body tb) (hc : ClsD X (h₀ :: hds) l) :
    DS X E (.Try body (h₀ :: hds) [] [] pos) (sTry X.K tb l) :=
  ⟨PS.imp (ps_tryD hs hf hN hb.ok (clsD_ok hc)) fun Z σ H ⟨s, M, Y, S, x, t, h⟩ => by
    refine ⟨s, M, { Y with ex := xCl X.K Y s l }, S, fun c od H' ⟨C, d, ns, xs, ds, M', e1, e2, hd, md, hl, rs, g, mo, w⟩ => ?_, t, h⟩
    subst e1 e2
    exact cl_wish S g mo hd md hl rs h w⟩
/-! ### bodies of one statement -/
/-- an expression in the body of a try -/
structure DXe (X : Cx) (e : Expr) (t : TED) : Prop where
  ok : ∀ (W : WX) (pn : List (Addr × Obj)) (xe : Value → Shared → Prop), Takes (X.tr pn xe) W → PE (X.tr pn xe) e (fun σ H Q => liftE X.K (fun c d H' => W c d σ H') t σ H Q)
section
variable {X : Cx} {e : Expr} {te : TED} {pos : Pos}
theorem pass_no {X : Cx} : Passes (L2.CX X.prog X.w) X (fun _ _ _ => False) := fun _ _ _ _ _ _ _ ⟨_, _, _, _, _, _, _, _, _, _, _, _, z⟩ => z.elim
theorem db_set {i : Nat} {x : Str} {pos' : Pos} (hN : X.N.Nodup) (hi : X.N[i]? = some x) (hx : Loc X.env.scope x) (he : DXe X e te) (hs : swapsWith e (some (.Name x pos')) pos.line X.env = pure false := by rfl) (hf : X.fn x = true ∨ X.env.scope.names.lookup x = some .local := by first | exact .inl rfl | exact .inr rfl | assumption) :
    DB X [.Assign [.Name x pos'] e pos] (sSet i te) := ⟨fun W pn xe tk hp =>
  pss_one (PS.imp (ps_set (X := X.tr pn xe) hN hi hx (he.ok W pn xe tk) hs hf) fun Z σ H ⟨s, M, Y, S, x, t, h⟩ => useE S x t fun d v M1 H1 g1 S1 x1 r1 t1 => h.1 _ _ ⟨_, M1, g1, S1.set i r1, t1⟩)⟩
variable {n k : Nat} {C : Addr} {ns ps : List Str} {x : Str} {p : Pos} {es : List Expr} {ts : TAD}
variable {E : XK} {f : Addr} {fd : FuncData} {sp : SpD}
/-- a call of a def that may raise, in the body of a try -/
def dCallX (sp : SpD) (t : TAD) : TED := fun Xd s M Q => t (fun _ _ _ _ => False) s M fun ds M1 => sp ds M1 Q Xd
end
end DL
set_option maxHeartbeats 1000000
namespace DL
open PySem PySem.Spec PyProof.Rows L2
/-! ### repr of what holds dicts: only the dicts themselves must not be sys.modules -/
mutual
inductive Rn (h : Heap) : Value → PyData → Prop
  | none : Rn h .none .none
  | bool (b : Bool) : Rn h (.bool b) (.bool b)
  | int (i : Int) (t : Tok) : Rn h (.int i t) (.int i)
  | str (x : Str) (t : Tok) : Rn h (.str x t) (.str x)
  | list {a : Addr} {o : Obj} {vs : Array Value} {n : Nat} {xs : List PyData} (h1 : h.get? a = some o) (h2 : o.cls = .type "list") (h3 : o.data = .seq vs n) (h4 : RnAll h vs.toList xs) : Rn h (.ref a) (.list xs)
  | tuple {a : Addr} {o : Obj} {vs : Array Value} {n : Nat} {xs : List PyData} (h1 : h.get? a = some o) (h2 : o.cls = .type "tuple") (h3 : o.data = .seq vs n) (h4 : RnAll h vs.toList xs) : Rn h (.ref a) (.tuple xs)
  | dict {a : Addr} {o : Obj} {es : Array DictEntry} {n : Nat} {kvs : List (PyData × PyData)} (h1 : h.get? a = some o) (h2 : o.cls = .type "dict") (h3 : o.data = .dict es n) (hs : (a == sysModules) = false)
      (h4 : RnAll h (es.toList.map (·.key)) (kvs.map (·.1))) (h5 : RnAll h (es.toList.map (·.val)) (kvs.map (·.2))) : Rn h (.ref a) (.dict kvs)
inductive RnAll (h : Heap) : List Value → List PyData → Prop
  | nil : RnAll h [] []
  | cons {v : Value} {vs : List Value} {d : PyData} {ds : List PyData} (r : Rn h v d) (rs : RnAll h vs ds) : RnAll h (v :: vs) (d :: ds)
end
mutual
theorem Rn.reads {h : Heap} : ∀ {v : Value} {d : PyData}, Rn h v d → ∃ as, Reads h v d as
  | _, _, .none => ⟨_, .none⟩
  | _, _, .bool b => ⟨_, .bool b⟩
  | _, _, .int i t => ⟨_, .int i t⟩
  | _, _, .str x t => ⟨_, .str x t⟩
  | _, _, .list h1 h2 h3 h4 => let ⟨_, q⟩ := RnAll.reads h4; ⟨_, .list h1 h2 h3 q⟩
  | _, _, .tuple h1 h2 h3 h4 => let ⟨_, q⟩ := RnAll.reads h4; ⟨_, .tuple h1 h2 h3 q⟩
  | _, _, .dict h1 h2 h3 hs h4 h5 => let ⟨_, q⟩ := RnAll.reads h4; let ⟨_, q2⟩ := RnAll.reads h5; ⟨_, .dict h1 h2 h3 q q2⟩
theorem RnAll.reads {h : Heap} : ∀ {vs : List Value} {ds : List PyData}, RnAll h vs ds → ∃ as, ReadsAll h vs ds as
  | _, _, .nil => ⟨_, .nil⟩
  | _, _, .cons r rs => let ⟨_, q⟩ := Rn.reads r; let ⟨_, q2⟩ := RnAll.reads rs; ⟨_, .cons q q2⟩
end
section
variable {prog : Program} {w : World} {h₀ : Heap}
mutual
theorem Rn.shown {v : Value} {d : PyData} : Rn h₀ v d → d.showable = true → d.shown.length ≤ sizeLine → ∃ bs, ReadAtMost h₀ d.depth bs ∧ ReprK prog w bs h₀ d.depth v d.shown
  | .none, _, _ => ⟨[], (fun _ z => nomatch z), by simp only [PyData.shown]; exact .of_is ReprIs.none _ _ _⟩
  | .bool b, _, _ => ⟨[], (fun _ z => nomatch z), by simp only [PyData.shown]; exact .of_is (ReprIs.bool b) _ _ _⟩
  | .int i t, hw, _ => ⟨[], (fun _ z => nomatch z), by simp only [PyData.shown]; exact .of_is (ReprIs.int t (by simpa [PyData.showable] using hw)) _ _ _⟩
  | .str x t, _, hl => ⟨[], (fun _ z => nomatch z), by simp only [PyData.shown]; exact .of_is (ReprIs.str x t (by simpa only [PyData.shown] using hl)) _ _ _⟩
  | .list (a := a) (vs := vs) (xs := xs) h1 h2 h3 h4, hw, hl => by
    have lz : (listText (PyData.shownAll xs)).length ≤ sizeLine := by simpa only [PyData.shown] using hl
    obtain ⟨bs, q1, q2⟩ := RnAll.shown h4 (by simpa [PyData.showable] using hw) (fun t m => Nat.le_trans (listText_mem_le m) lz)
    obtain ⟨as, r⟩ := Rn.reads (.list h1 h2 h3 h4)
    have out : a ∉ bs := not_mem_of_deeper r (by simp only [PyData.depth]; omega) q1
    refine ⟨a :: bs, ReadAtMost.cons r (by simp only [PyData.depth]; omega) q1, ?_⟩
    simp only [PyData.shown]
    obtain ⟨l⟩ := vs
    cases l with
    | nil =>
      cases (show RnAll h₀ [] xs from h4)
      simp only [PyData.shownAll, listText_nil]
      exact ReprK.listEmpty h1 h2 h3
    | cons x l =>
      have e : (PyData.list xs).depth = PyData.depthAll xs + 1 := by simp only [PyData.depth]
      rw [e]
      exact ReprK.list h1 h2 h3 out (by simpa using q2.length_eq) fun i y z => q2.item i y (by simpa using z)
  | .tuple (a := a) (xs := xs) h1 h2 h3 h4, hw, hl => by
    have lz : (tupleText (PyData.shownAll xs)).length ≤ sizeLine := by simpa only [PyData.shown] using hl
    obtain ⟨bs, q1, q2⟩ := RnAll.shown h4 (by simpa [PyData.showable] using hw) (fun t m => Nat.le_trans (tupleText_mem_le m) lz)
    obtain ⟨as, r⟩ := Rn.reads (.tuple h1 h2 h3 h4)
    have out : a ∉ bs := not_mem_of_deeper r (by simp only [PyData.depth]; omega) q1
    refine ⟨a :: bs, ReadAtMost.cons r (by simp only [PyData.depth]; omega) q1, ?_⟩
    simp only [PyData.shown]
    have e : (PyData.tuple xs).depth = PyData.depthAll xs + 1 := by simp only [PyData.depth]
    rw [e]
    exact ReprK.tuple h1 h2 h3 out q2
  | .dict (a := a) (es := es) (kvs := kvs) h1 h2 h3 hs h4 h5, hw, hl => by
    have lz : (dictText (PyData.shownKv kvs)).length ≤ sizeLine := by simpa only [PyData.shown] using hl
    obtain ⟨w1, w2⟩ := PyData.showableKv_split kvs (by simpa [PyData.showable] using hw)
    obtain ⟨b1, q1, k1⟩ := RnAll.shown h4 w1 fun t m => by
      obtain ⟨p, hp, hl⟩ := PyData.shownKv_key_le kvs t m
      exact Nat.le_trans hl (Nat.le_trans (dictText_mem_le hp) lz)
    obtain ⟨b2, q2, k2⟩ := RnAll.shown h5 w2 fun t m => by
      obtain ⟨p, hp, hl⟩ := PyData.shownKv_val_le kvs t m
      exact Nat.le_trans hl (Nat.le_trans (dictText_mem_le hp) lz)
    obtain ⟨as, r⟩ := Rn.reads (.dict h1 h2 h3 hs h4 h5)
    have q : ReadAtMost h₀ (PyData.depthKv kvs) (b1 ++ b2) := ReadAtMost.append (q1.mono (PyData.depthAll_keys_le kvs)) (q2.mono (PyData.depthAll_vals_le kvs))
    have out : a ∉ b1 ++ b2 := not_mem_of_deeper r (by simp only [PyData.depth]; omega) q
    refine ⟨a :: (b1 ++ b2), ReadAtMost.cons r (by simp only [PyData.depth]; omega) q, ?_⟩
    simp only [PyData.shown, PyData.shownKv_eq]
    have e : (PyData.dict kvs).depth = PyData.depthKv kvs + 1 := by simp only [PyData.depth]
    rw [e]
    refine ReprK.dict h1 h2 h3 hs out (ReprEntriesK.of_two es.toList _ _ ?_ ?_)
    · exact k1.more_le (fun b hb => List.mem_append_left _ hb) (PyData.depthAll_keys_le kvs)
    · exact k2.more_le (fun b hb => List.mem_append_right _ hb) (PyData.depthAll_vals_le kvs)
theorem RnAll.shown {vs : List Value} {ds : List PyData} : RnAll h₀ vs ds → PyData.showableAll ds = true → (∀ t ∈ PyData.shownAll ds, t.length ≤ sizeLine) → ∃ bs, ReadAtMost h₀ (PyData.depthAll ds) bs ∧ ReprAllK prog w bs h₀ (PyData.depthAll ds) vs (PyData.shownAll ds)
  | .nil, _, _ => ⟨[], (fun _ z => nomatch z), .nil⟩
  | .cons (d := d) (ds := ds) r rs, hw, hl => by
    have hw2 : d.showable = true ∧ PyData.showableAll ds = true := by simpa [PyData.showableAll] using hw
    have sh : PyData.shownAll (d :: ds) = d.shown :: PyData.shownAll ds := by simp only [PyData.shownAll]
    have dp : PyData.depthAll (d :: ds) = max d.depth (PyData.depthAll ds) := by simp only [PyData.depthAll]
    rw [sh] at hl
    obtain ⟨b1, q1, k1⟩ := Rn.shown r hw2.1 (hl _ List.mem_cons_self)
    obtain ⟨b2, q2, k2⟩ := RnAll.shown rs hw2.2 fun t m => hl t (List.mem_cons_of_mem _ m)
    refine ⟨b1 ++ b2, ?_, ?_⟩
    · rw [dp]
      exact ReadAtMost.append (q1.mono (Nat.le_max_left _ _)) (q2.mono (Nat.le_max_right _ _))
    · rw [sh, dp]
      exact .cons ((k1.more fun b hb => List.mem_append_left _ hb).level_le (Nat.le_max_left _ _)) (k2.more_le (fun b hb => List.mem_append_right _ hb) (Nat.le_max_right _ _))
end
end
end DL
set_option maxHeartbeats 1000000
namespace DL
open PySem PySem.Spec PyProof.Rows L2
section
variable {prog : Program} {w : World} {h₀ : Heap} {A : Around} {E : Value → Shared → Prop} {s : Shared} {Q : Value → Shared → Prop}
theorem repr_rn {a : Addr} {d : PyData} (r : Rn h₀ (.ref a) d) (hw : d.showable = true) (hg : A.guards = some []) (hu : A.units + (d.depth + 1) < cLine) (k0 : ∀ b o, h₀.get? b = some o → s.heap.get? b = some o)
    (q : ∀ h' u tk, (∀ b o, s.heap.get? b = some o → h'.get? b = some o) → Q (.str d.shown u) { s with heap := h', toks := tk }) (hl : d.shown.length ≤ sizeLine) : wpAny (model prog w) A (call (.builtin "repr") [.ref a]) Q E s := by
  have q1 : ∀ h' u tk, (∀ b o, s.heap.get? b = some o → h'.get? b = some o) → ∃ x t, Value.str d.shown u = .str x t ∧ Q (.str d.shown u) { s with heap := h', toks := tk } := fun h' u tk k => ⟨_, _, rfl, q h' u tk k⟩
  have hu1 : A.units + 1 < cLine := by omega
  have hi : A.in1.units + d.depth < cLine := by show A.units + 1 + d.depth < cLine; omega
  cases r with
  | list h1 h2 h3 h4 =>
    rename_i o vs n xs
    have lz : (listText (PyData.shownAll xs)).length ≤ sizeLine := by simpa only [PyData.shown] using hl
    obtain ⟨bs, b1, b2⟩ := RnAll.shown (prog := prog) (w := w) h4 (by simpa [PyData.showable] using hw) (fun t m => Nat.le_trans (listText_mem_le m) lz)
    obtain ⟨as, r⟩ := Rn.reads (.list h1 h2 h3 h4)
    have out : a ∉ bs := not_mem_of_deeper r (by simp only [PyData.depth]; omega) b1
    refine call_repr_slot hu1 ⟨o, k0 _ _ h1, h2⟩ F.slot_list_repr.toG ?_
    simp only [PyData.depth] at hi
    simp only [PyData.shown] at q1
    obtain ⟨l⟩ := vs
    cases l with
    | nil =>
      cases (show RnAll h₀ [] xs from h4)
      simp only [PyData.shownAll, listText_nil] at q1
      exact call_list_repr_empty ⟨o, k0 _ _ h1, h2⟩ (k0 _ _ h1) h3 (q1 s.heap _ _ fun _ _ e => e)
    | cons x l => exact call_list_reprK h1 h2 h3 out (by simpa using b2.length_eq) (fun i y e => b2.item i y (by simpa using e)) hg (fun b _ => Clear.nil b) hi k0 q1 lz
  | tuple h1 h2 h3 h4 =>
    rename_i o vs n xs
    have lz : (tupleText (PyData.shownAll xs)).length ≤ sizeLine := by simpa only [PyData.shown] using hl
    obtain ⟨bs, b1, b2⟩ := RnAll.shown (prog := prog) (w := w) h4 (by simpa [PyData.showable] using hw) (fun t m => Nat.le_trans (tupleText_mem_le m) lz)
    obtain ⟨as, r⟩ := Rn.reads (.tuple h1 h2 h3 h4)
    have out : a ∉ bs := not_mem_of_deeper r (by simp only [PyData.depth]; omega) b1
    refine call_repr_slot hu1 ⟨o, k0 _ _ h1, h2⟩ F.slot_tuple_repr ?_
    simp only [PyData.depth] at hi
    simp only [PyData.shown] at q1
    exact call_tuple_reprK h1 h2 h3 out b2 hg (fun b _ => Clear.nil b) hi k0 q1 lz
  | dict h1 h2 h3 hs h4 h5 =>
    rename_i o es n kvs
    have lz : (dictText (PyData.shownKv kvs)).length ≤ sizeLine := by simpa only [PyData.shown] using hl
    obtain ⟨w1, w2⟩ := PyData.showableKv_split kvs (by simpa [PyData.showable] using hw)
    obtain ⟨b1, q3, k1⟩ := RnAll.shown (prog := prog) (w := w) h4 w1 fun t m => by
      obtain ⟨p, hp, hl⟩ := PyData.shownKv_key_le kvs t m
      exact Nat.le_trans hl (Nat.le_trans (dictText_mem_le hp) lz)
    obtain ⟨b2, q2, k2⟩ := RnAll.shown (prog := prog) (w := w) h5 w2 fun t m => by
      obtain ⟨p, hp, hl⟩ := PyData.shownKv_val_le kvs t m
      exact Nat.le_trans hl (Nat.le_trans (dictText_mem_le hp) lz)
    obtain ⟨as, r⟩ := Rn.reads (.dict h1 h2 h3 hs h4 h5)
    have qq : ReadAtMost h₀ (PyData.depthKv kvs) (b1 ++ b2) := ReadAtMost.append (q3.mono (PyData.depthAll_keys_le kvs)) (q2.mono (PyData.depthAll_vals_le kvs))
    have out : a ∉ b1 ++ b2 := not_mem_of_deeper r (by simp only [PyData.depth]; omega) qq
    refine call_repr_slot hu1 ⟨o, k0 _ _ h1, h2⟩ F.slot_dict_repr ?_
    simp only [PyData.depth] at hi
    simp only [PyData.shown, PyData.shownKv_eq] at q1
    refine call_dict_reprK h1 h2 h3 hs out (ReprEntriesK.of_two es.toList _ _ ?_ ?_) hg (fun b _ => Clear.nil b) hi k0 q1 (by rw [← PyData.shownKv_eq]; exact lz)
    · exact k1.more_le (fun b hb => List.mem_append_left _ hb) (PyData.depthAll_keys_le kvs)
    · exact k2.more_le (fun b hb => List.mem_append_right _ hb) (PyData.depthAll_vals_le kvs)
end
/-! ### over data -/
def kPy : Key → PyData
  | .inl i => .int i
  | .inr x => .str x
mutual
def toPyX : D → Option PyData
  | .non => some .none
  | .bl b => some (.bool b)
  | .int i => some (.int i)
  | .str x => some (.str x)
  | .tup ds => (toPyXs ds).map .tuple
  | .lst ds => (toPyXs ds).map .list
  | .fzn ds => (toPyXs ds).map .list
  | .dct ks ds => (toPyXs ds).map fun ps => .dict ((ks.map kPy).zip ps)
  | _ => none
def toPyXs : List D → Option (List PyData)
  | [] => some []
  | d :: ds => match toPyX d, toPyXs ds with
    | some p, some ps => some (p :: ps)
    | _, _ => none
end
section
variable {X : Cx} {pins : List (Addr × Obj)} {σ : L2.St} {H : Hp} {M : Mem} {s : Shared}
theorem pairs_keys {es : List DictEntry} {kvs : List (Key × Value)} (h : Pairs (mixKind X.prog X.w) es kvs) {hp : Heap} : RnAll hp (es.map (·.key)) (kvs.map fun q => kPy q.1) ∧ es.map (·.val) = kvs.map (·.2) := by
  induction h with
  | nil => exact ⟨.nil, rfl⟩
  | @cons e kv es kvs h1 h2 _ ih =>
    refine ⟨.cons ?_ ih.1, by rw [List.map_cons, List.map_cons, h2, ih.2]⟩
    rcases keyIs_shape (show keyIs kv.1 e.key = true from h1) with ⟨i, t, a, b⟩ | ⟨x, t, a, b⟩
    · show Rn hp e.key (kPy kv.1)
      rw [a, b]; exact .int i t
    · show Rn hp e.key (kPy kv.1)
      rw [a, b]; exact .str x t
theorem kv_both : ∀ {ks : List Key} {xs : List V} {vs : List (Key × Value)}, ks.length = xs.length → KV (ks.zip xs) vs → vs.map (·.1) = ks ∧ Vals xs (vs.map (·.2))
  | [], [], _, _, .nil => ⟨rfl, .nil⟩
  | k :: ks, x :: xs, _, hl, .cons (b := q) h t => by
    obtain ⟨a, b⟩ := kv_both (by simpa using hl) t
    exact ⟨by rw [List.map_cons, a, ← h.1], .cons h.2 b⟩
mutual
theorem Rv.rn (I : Inv X pins σ H s) : ∀ (d : D) (v : V) (u : Value) (p : PyData), Rv X.K H M d v → RelV v u → toPyX d = some p → Rn s.heap u p
  | .non, v, u, p, h, r, e => by
    obtain rfl : v = .non := h
    obtain rfl : u = .none := r
    cases (show some PyData.none = some p from e); exact .none
  | .bl b, v, u, p, h, r, e => by
    obtain rfl : v = .bl b := h
    obtain rfl : u = .bool b := r
    cases (show some (PyData.bool b) = some p from e); exact .bool b
  | .int b, v, u, p, h, r, e => by
    obtain rfl : v = .int b := h
    obtain ⟨t, rfl⟩ := r
    cases (show some (PyData.int b) = some p from e); exact .int b t
  | .str b, v, u, p, h, r, e => by
    obtain rfl : v = .str b := h
    obtain ⟨t, rfl⟩ := r
    cases (show some (PyData.str b) = some p from e); exact .str b t
  | .tup ds, v, u, p, ⟨a, xs, hv, rt, q⟩, r, e => by
    have e' : (toPyXs ds).map PyData.tuple = some p := e
    cases z : toPyXs ds with
    | none => rw [z] at e'; cases e'
    | some ps =>
      rw [z] at e'; cases e'; subst hv
      obtain rfl : u = .ref a := r
      obtain ⟨its, rv, ⟨o, ho, hc, n, hd⟩, _⟩ := I.tuple rt.sq
      exact .tuple ho hc hd (Rs.rn I ds xs _ ps q rv z)
  | .lst ds, v, u, p, ⟨a, xs, hv, rt, m, q⟩, r, e => by
    have e' : (toPyXs ds).map PyData.list = some p := e
    cases z : toPyXs ds with
    | none => rw [z] at e'; cases e'
    | some ps =>
      rw [z] at e'; cases e'; subst hv
      obtain rfl : u = .ref a := r
      obtain ⟨its, rv, ⟨o, n, ho, hc, _, hd⟩, _⟩ := I.list (SqL.of rt)
      exact .list ho hc hd (Rs.rn I ds xs _ ps q rv z)
  | .fzn ds, v, u, p, ⟨a, xs, hv, rt, q⟩, r, e => by
    have e' : (toPyXs ds).map PyData.list = some p := e
    cases z : toPyXs ds with
    | none => rw [z] at e'; cases e'
    | some ps =>
      rw [z] at e'; cases e'; subst hv
      obtain rfl : u = .ref a := r
      obtain ⟨its, rv, ⟨o, n, ho, hc, _, hd⟩, _⟩ := I.list rt.sq
      exact .list ho hc hd (Rs.rn I ds xs _ ps q rv z)
  | .dct ks ds, v, u, p, ⟨a, kvs, xs, hv, ha, m, ek, hl, q⟩, r, e => by
    have e' : (toPyXs ds).map (fun ps => PyData.dict ((ks.map kPy).zip ps)) = some p := e
    cases z : toPyXs ds with
    | none => rw [z] at e'; cases e'
    | some ps =>
      rw [z] at e'; cases e'; subst hv ek
      obtain rfl : u = .ref a := r
      obtain ⟨_, hs, vs, hkv, o, es, ep, ho, hx, hd, _, hp, _⟩ := (show ObjOk X.prog X.w H s.heap a (.dK (ks.zip xs)) from I.hok a _ ha)
      obtain ⟨k1, k2⟩ := kv_both (by rw [hl, Rs.len q]) hkv
      obtain ⟨p1, p2⟩ := pairs_keys hp (hp := s.heap)
      have hps := Rs.rn I ds xs _ ps q k2 z
      have lps : ps.length = ds.length := by
        have go : ∀ (ds : List D) (ps : List PyData), toPyXs ds = some ps → ps.length = ds.length := by
          intro ds
          induction ds with
          | nil => intro ps e; cases (show some [] = some ps from e); rfl
          | cons d ds ih =>
            intro ps e
            unfold toPyXs at e
            split at e
            · rename_i q qs _ h2
              cases e
              rw [List.length_cons, List.length_cons, ih _ h2]
            · cases e
        exact go ds ps z
      refine .dict ho hx.1 hd hs ?_ ?_
      · have e : ((ks.map kPy).zip ps).map (·.1) = vs.map fun q => kPy q.1 := by
          rw [List.map_fst_zip (by rw [List.length_map, lps, hl]; exact Nat.le_refl _), ← k1, List.map_map]; rfl
        rw [e]; exact p1
      · have e : ((ks.map kPy).zip ps).map (·.2) = ps := List.map_snd_zip (by rw [List.length_map, lps, hl]; exact Nat.le_refl _)
        rw [e, p2]; exact hps
  | .ref _, _, _, _, _, _, e => by cases (show (none : Option PyData) = some _ from e)
  | .ty _, _, _, _, _, _, e => by cases (show (none : Option PyData) = some _ from e)
  | .exn _ _ _, _, _, _, _, _, e => by cases (show (none : Option PyData) = some _ from e)
  | .kdt _ _, _, _, _, _, _, e => by cases (show (none : Option PyData) = some _ from e)
theorem Rs.rn (I : Inv X pins σ H s) : ∀ (ds : List D) (vs : List V) (us : List Value) (ps : List PyData), Rs X.K H M ds vs → Vals vs us → toPyXs ds = some ps → RnAll s.heap us ps
  | [], vs, us, ps, h, r, e => by
    obtain rfl : vs = [] := h
    cases r
    cases (show some [] = some ps from e); exact .nil
  | d :: ds, _, _, ps, ⟨v, r, rfl, h, q⟩, rv, e => by
    cases rv with
    | cons r1 r2 =>
      unfold toPyXs at e
      split at e
      · rename_i q1 qs h1 h2
        cases e
        exact .cons (Rv.rn I d v _ _ h r1 h1) (Rs.rn I ds r _ _ q r2 h2)
      · cases e
end
def reprX : OC := fun ds M Q => match ds with
  | [d] => match toPyX (vw M d) with
    | some p => ShOk p ∧ Q (.str p.shown) M
    | none => False
  | _ => False
theorem rn_vw (I : Inv X pins σ H s) {d : D} {v : V} {u : Value} {p : PyData} (mo : MOk X.K H M) (rd : Rv X.K H M d v) (ru : RelV v u) (e : toPyX (vw M d) = some p) : Rn s.heap u p := by
  cases d with
  | ref a =>
    have hv : v = .ref a := rd
    subst hv
    rw [vw_ref] at e
    cases q : M a with
    | none => rw [q] at e; cases (show (none : Option PyData) = some _ from e)
    | some o =>
      have z := mo a o q
      rw [q] at e
      obtain rfl : u = .ref a := ru
      cases o with
      | lst ds =>
        obtain ⟨xs, h1, h2⟩ := z
        have e' : (toPyXs ds).map PyData.list = some p := e
        cases z : toPyXs ds with
        | none => rw [z] at e'; cases e'
        | some ps =>
          rw [z] at e'; cases e'
          obtain ⟨its, rv, ⟨o, n, ho, hc, _, hd⟩, _⟩ := I.list (SqL.of h1)
          exact .list ho hc hd (Rs.rn I ds xs _ ps h2 rv z)
      | dct ks ds =>
        obtain ⟨xs, h1, h3, h2⟩ := z
        have g : Gw H M H (M.del a) := gw_less fun b e => by
          by_cases z : b = a
          · subst z; exact Mem.del_same
          · rw [Mem.del_ne z]; exact e
        exact Rv.rn I (M := M.del a) (.dct ks ds) (.ref a) (.ref a) p ⟨a, _, xs, rfl, h1, Mem.del_same, rfl, h3, Rs.grow g ds xs h2⟩ rfl e
      | ins C ns ds => cases (show (none : Option PyData) = some _ from e)
      | gen φ ds => cases (show (none : Option PyData) = some _ from e)
      | tab q => cases (show (none : Option PyData) = some _ from e)
  | _ => exact Rv.rn I _ v u p rd ru e
theorem dc_reprX (hg : X.A.guards = some []) (hu : X.A.units + 64 < cLine) : DC X (.builtin "repr") reprX := by
  intro pins s σ H M xs ds us Q Qd I mo r rv t q
  unfold reprX at t
  split at t
  · rename_i d
    obtain ⟨v, rfl, rd⟩ := rs1 r
    split at t
    · rename_i py hp
      obtain ⟨⟨h1, h2, h3⟩, t⟩ := t
      obtain ⟨u, rfl, ru⟩ := vals1 rv
      have rn := rn_vw I mo rd ru hp
      have fin : ∀ (h' : Heap) (tk : Tok) (t' : Nat), (∀ b o, s.heap.get? b = some o → h'.get? b = some o) → EP X pins σ Q (.str py.shown tk) { s with heap := h', toks := t' } := fun h' tk t' hk =>
        ⟨.str py.shown, H, I.kept hk, ⟨_, rfl⟩, q _ _ (up_same mo t rfl)⟩
      cases rn with
      | none => exact PySem.P.repr_of_none (by have z := fin s.heap s.toks (s.toks + 1) (fun _ _ z => z); simpa only [PyData.shown] using z)
      | bool b => exact PySem.P.repr_of_bool (by have z := fin s.heap s.toks (s.toks + 1) (fun _ _ z => z); simpa only [PyData.shown] using z)
      | int i tk => exact PySem.P.repr_of_int (by simpa [PyData.showable] using h1) (by have z := fin s.heap s.toks (s.toks + 1) (fun _ _ z => z); simpa only [PyData.shown] using z)
      | str y tk => exact PySem.P.repr_of_str (by have z := fin s.heap s.toks (s.toks + 1) (fun _ _ z => z); simpa only [PyData.shown] using z) (by simpa only [PyData.shown] using h2)
      | list a1 a2 a3 a4 => exact repr_rn (.list a1 a2 a3 a4) h1 hg (by omega) (fun _ _ z => z) (fun h' u tk hk => fin h' u tk hk) h2
      | tuple a1 a2 a3 a4 => exact repr_rn (.tuple a1 a2 a3 a4) h1 hg (by omega) (fun _ _ z => z) (fun h' u tk hk => fin h' u tk hk) h2
      | dict a1 a2 a3 a4 a5 a6 => exact repr_rn (.dict a1 a2 a3 a4 a5 a6) h1 hg (by omega) (fun _ _ z => z) (fun h' u tk hk => fin h' u tk hk) h2
    · exact t.elim
  · exact t.elim
end
end DL
set_option maxHeartbeats 1000000
namespace DL
open PySem PySem.Spec PyProof.Rows L2
/-! ### isinstance of anything -/
def isaC (K : Fg) : OC := fun ds M Q => match ds with
  | [.exn C ns es, c] => isxC K [.exn C ns es, c] M Q
  | ds => isiC ds M Q
theorem dc_isa {X : Cx} : DC X (.builtin "isinstance") (isaC X.K) := by
  intro pins s σ H M xs ds us Q Qd I mo r rv t q
  unfold isaC at t
  split at t
  · exact dc_isx pins s σ H M _ _ us Q Qd I mo r rv t q
  · exact dc_isi pins s σ H M _ _ us Q Qd I mo r rv t q
/-! ### what the head tells of a class of exceptions -/
structure ClsF (K : Fg) (C : Addr) : Prop where
  T : OexG K C
  x : XfC K C
  e : ExcC K C
open PySem.W in
def clsBB (K : Fg) (C : Addr) : Bool := hasDictIn K C && (He.eqO (findIn K (.ref C) "__setattr__") (some (some (.builtin "object.__setattr__"))) && (decide (subIn K (.ref C) (.type "BaseException") = some true) && (decide (typeIn K (.ref C) = some (.type "type")) && (keepIn K (.ref C) &&
  (He.eqO (findIn K (.ref C) "__getattribute__") (some (some (.builtin "BaseException.__getattribute__"))) && (He.eqO (findIn K (.ref C) "__getattr__") (some none) && (He.eqO (findIn K (.ref C) "__class__") (some (some (.builtin "object.__class__"))) &&
  (He.eqO (specialIn K (.builtin "object.__class__") "__get__") (some (some (.builtin "getset_descriptor.__get__"))) && (decide (takesIn K (.builtin "object.__class__") = some true) && decide (mroIn K C (.type "object") = some true))))))))))
def leBase : List Value := [.type "LookupError", .type "Exception", .type "BaseException", .type "object"]
def clsVB (K : Fg) (C : Addr) : Bool := PySem.W.excInitIn K C He.veBase "ValueError.__new__" && (PySem.W.excOver K C He.veBase && clsBB K C)
def clsLB (K : Fg) (C : Addr) : Bool := PySem.W.excInitIn K C leBase "LookupError.__new__" && (PySem.W.excOver K C leBase && clsBB K C)
theorem clsBB_ok {K : Fg} {C : Addr} (h : clsBB K C = true) : PySem.W.hasDictIn K C = true ∧ PySem.W.findIn K (.ref C) "__setattr__" = some (some (.builtin "object.__setattr__")) ∧ PySem.W.subIn K (.ref C) (.type "BaseException") = some true ∧
    PySem.W.typeIn K (.ref C) = some (.type "type") ∧ PySem.W.keepIn K (.ref C) = true ∧ XfC K C ∧ ExcC K C := by
  obtain ⟨h1, h⟩ := He.ba h
  obtain ⟨h2, h⟩ := He.ba h
  obtain ⟨h3, h⟩ := He.ba h
  obtain ⟨h4, h⟩ := He.ba h
  obtain ⟨h5, h⟩ := He.ba h
  obtain ⟨h6, h⟩ := He.ba h
  obtain ⟨h7, h⟩ := He.ba h
  obtain ⟨h8, h⟩ := He.ba h
  obtain ⟨h9, h⟩ := He.ba h
  obtain ⟨h10, h11⟩ := He.ba h
  have a3 := of_decide_eq_true h3
  exact ⟨h1, He.eqO_ok h2, a3, of_decide_eq_true h4, h5, ⟨He.eqO_ok h6, He.eqO_ok h7, a3, h1⟩, ⟨He.eqO_ok h6, He.eqO_ok h7, a3, h1, He.eqO_ok h8, He.eqO_ok h9, of_decide_eq_true h10, of_decide_eq_true h11⟩⟩
theorem clsVB_ok {K : Fg} {C : Addr} (h : clsVB K C = true) : ClsF K C := by
  obtain ⟨h1, h⟩ := He.ba h
  obtain ⟨h2, h⟩ := He.ba h
  obtain ⟨a1, a2, a3, a4, a5, a6, a7⟩ := clsBB_ok h
  exact ⟨⟨⟨_, _, _, _, PySem.F.excBase_ValueError, PySem.F.store_ValueError, h1, h2⟩, a1, a2, a3, a4, a5⟩, a6, a7⟩
theorem clsLB_ok {K : Fg} {C : Addr} (h : clsLB K C = true) : ClsF K C := by
  obtain ⟨h1, h⟩ := He.ba h
  obtain ⟨h2, h⟩ := He.ba h
  obtain ⟨a1, a2, a3, a4, a5, a6, a7⟩ := clsBB_ok h
  exact ⟨⟨⟨_, _, _, _, PySem.F.excBase_LookupError, PySem.F.store_LookupError, h1, h2⟩, a1, a2, a3, a4, a5⟩, a6, a7⟩
/-- the classes by number: whether the i-th stands under the j-th, under built-in ones; what is asked of the fields' names -/
def kitBB (K : Fg) (c : Nat → Addr) (n : Nat) (tb : Nat → Nat → Bool) (tys : List (String × (Nat → Bool))) (fds : List Str) : Bool :=
  (List.range n).all fun i => ((List.range n).all fun j => decide (PySem.W.kitOne K (.ref (c i)) (.ref (c j)) = some (tb i j)) && decide (PySem.W.exmOne K (.ref (c i)) (.ref (c j)) = some (tb i j))) &&
    ((tys.all fun t => decide (PySem.W.kitOne K (.ref (c i)) (.type t.1) = some (t.2 i))) && fds.all fun f => He.eqO (PySem.W.findIn K (.ref (c i)) f) (some none))
structure KitF (K : Fg) (c : Nat → Addr) (n : Nat) (tb : Nat → Nat → Bool) (tys : List (String × (Nat → Bool))) (fds : List Str) : Prop where
  kit : ∀ {i j : Nat}, i < n → j < n → PySem.W.kitOne K (.ref (c i)) (.ref (c j)) = some (tb i j)
  exm : ∀ {i j : Nat}, i < n → j < n → PySem.W.exmOne K (.ref (c i)) (.ref (c j)) = some (tb i j)
  ty : ∀ {i : Nat} {t : String × (Nat → Bool)}, i < n → t ∈ tys → PySem.W.kitOne K (.ref (c i)) (.type t.1) = some (t.2 i)
  no : ∀ {i : Nat} {f : Str}, i < n → f ∈ fds → PySem.W.findIn K (.ref (c i)) f = some none
theorem kitBB_ok {K : Fg} {c : Nat → Addr} {n : Nat} {tb : Nat → Nat → Bool} {tys : List (String × (Nat → Bool))} {fds : List Str} (h : kitBB K c n tb tys fds = true) : KitF K c n tb tys fds := by
  have h := fun {i : Nat} (hi : i < n) => List.all_eq_true.mp h i (List.mem_range.mpr hi)
  refine ⟨fun hi hj => ?_, fun hi hj => ?_, fun hi ht => ?_, fun hi hf => ?_⟩
  · obtain ⟨a, _⟩ := He.ba (h hi)
    exact of_decide_eq_true (He.ba (List.all_eq_true.mp a _ (List.mem_range.mpr hj))).1
  · obtain ⟨a, _⟩ := He.ba (h hi)
    exact of_decide_eq_true (He.ba (List.all_eq_true.mp a _ (List.mem_range.mpr hj))).2
  · obtain ⟨_, a⟩ := He.ba (h hi)
    exact of_decide_eq_true (List.all_eq_true.mp (He.ba a).1 _ ht)
  · obtain ⟨_, a⟩ := He.ba (h hi)
    exact He.eqO_ok (List.all_eq_true.mp (He.ba a).2 _ hf)
/-! ### calls within an except suite: what is called there lets nothing out -/
structure RoomQ (k : Nat) (A : Around) : Prop where
  dp : A.depth + 3 * k + 5 < recursionLimit
  un : A.units + 16 * k + 200 < cLine
  g : A.guards = some []
theorem RoomG.q {k : Nat} {A : Around} (h : RoomG k A) : RoomQ k A := ⟨h.r.dp, h.r.un, h.g⟩
theorem RoomQ.mono {j k : Nat} {A : Around} (h : RoomQ k A) (le : j ≤ k) : RoomQ j A := ⟨by have := h.dp; omega, by have := h.un; omega, h.g⟩
theorem RoomQ.mark {k : Nat} {A : Around} (h : RoomQ k A) (v : Option Value) : RoomQ k (A.mark v) := ⟨h.dp, h.un, h.g⟩
theorem RoomQ.deeper {k : Nat} {A : Around} (h : RoomQ (k + 1) A) (env : Env) : RoomQ k (A.deeper env) :=
  ⟨by have := h.dp; show A.depth + 1 + 3 * k + 5 < _; omega, by have := h.un; show A.units + 3 + 16 * k + 200 < _; omega, h.g⟩
theorem RoomQ.units {k : Nat} {A : Around} (r : RoomQ k A) : A.units + 64 < cLine := by have := r.un; omega
end DL
namespace DL
open PySem PySem.Spec PyProof.Rows L2
def sRaiseX (C : Addr) (ns : List Str) (t : TAD) : TSD := sRaise C ns fun _ s M Q => t (fun _ _ _ _ => False) s M Q
/-! ### a class of exceptions without own __init__, called with one thing -/
structure K0 (K : Fg) (C : Addr) : Prop where
  ex : ∃ (B newId initId : String) (bmB : List Value), ExcBaseFacts B newId initId bmB ∧ PySem.W.excIn K C bmB newId = true
  kp : PySem.W.keepIn K (.ref C) = true
def k0B (K : Fg) (C : Addr) (v : Bool) : Bool := (if v = true then PySem.W.excIn K C He.veBase "ValueError.__new__" else PySem.W.excIn K C leBase "LookupError.__new__") && PySem.W.keepIn K (.ref C)
theorem k0B_ok {K : Fg} {C : Addr} {v : Bool} (h : k0B K C v = true) : K0 K C := by
  obtain ⟨h1, h2⟩ := He.ba h
  cases v with
  | true => exact ⟨⟨_, _, _, _, PySem.F.excBase_ValueError, h1⟩, h2⟩
  | false => exact ⟨⟨_, _, _, _, PySem.F.excBase_LookupError, h1⟩, h2⟩
def dMk0 (C : Addr) (t : TED) : TED := fun Xd s M Q => t Xd s M fun _ M1 => Q (.exn C [] []) M1
end DL
namespace DL
open PySem PySem.Spec PyProof.Rows L2
/-! ### a display that is never changed is told whole -/
def dFz (te : TED) : TED := fun Xd s M Q => te Xd s M fun d M1 => match d with
  | .ref p => (match M1 p with
    | some (.dct ks ds) => Q (.dct ks ds) (M1.del p)
    | some (.lst ds) => Q (.lst ds) (M1.del p)
    | _ => False)
  | _ => False
theorem de_fz {X : Cx} {E : XK} {e : Expr} {te : TED} (he : DE X E e te) : DE X E e (dFz te) := ⟨PE.imp he.ok fun σ H Q ⟨s, M, Qd, Xd, S, x, t, q⟩ => by
  refine useE S x t fun d v M1 H1 g1 S1 x1 r1 t1 => ?_
  split at t1
  · rename_i p
    have sub : ∀ b o, (M1.del p) b = some o → M1 b = some o := fun b o e => by
      by_cases z : b = p
      · subst z; rw [Mem.del_same] at e; cases e
      · rw [Mem.del_ne z] at e; exact e
    have nn : ∀ b, M1 b = none → (M1.del p) b = none := fun b e => by
      by_cases z : b = p
      · subst z; exact Mem.del_same
      · rw [Mem.del_ne z]; exact e
    have g2 : Gw H1 M1 H1 (M1.del p) := gw_less nn
    have hv : v = .ref p := r1
    subst hv
    split at t1
    · rename_i ks ds hm
      obtain ⟨xs, h1, h2, h3⟩ := S1.mem p _ hm
      exact q _ _ ⟨.dct ks ds, M1.del p, g1.trans g2, mok_less sub nn S1.mem, ⟨p, _, xs, rfl, h1, Mem.del_same, rfl, h2, Rs.grow g2 _ _ h3⟩, t1⟩
    · rename_i ds hm
      obtain ⟨xs, h1, h3⟩ := S1.mem p _ hm
      exact q _ _ ⟨.lst ds, M1.del p, g1.trans g2, mok_less sub nn S1.mem, ⟨p, xs, rfl, h1, Mem.del_same, Rs.grow g2 _ _ h3⟩, t1⟩
    · exact t1.elim
  · exact t1.elim⟩
theorem put_del {M : Mem} {p : Addr} {o : MO} (h : M p = none) : (M.put p o).del p = M := by
  funext b
  by_cases z : b = p
  · subst z; rw [Mem.del_same, h]
  · rw [Mem.del_ne z, Mem.put_ne z]
theorem w_fzN {Xd : XD} {s : SD} {M : Mem} {Q : QD} (h : Q (.dct [] []) M) : dFz dDctN Xd s M Q := fun p hp => by
  show (match (M.put p (.dct [] [])) p with
    | some (.dct ks ds) => Q (.dct ks ds) ((M.put p (.dct [] [])).del p)
    | some (.lst ds) => Q (.lst ds) ((M.put p (.dct [] [])).del p)
    | _ => False)
  rw [Mem.put_same]
  show Q (.dct [] []) ((M.put p (.dct [] [])).del p)
  rw [put_del hp]; exact h
end DL
namespace DL
open PySem PySem.Spec PyProof.Rows L2
theorem de_cls {X : Cx} {E : XK} {x : Str} {a : Addr} {pos : Pos} (hg : Gl X x) (hm : X.mg x = some (.ref a)) (hd : (x == ("__debug__" : Str)) = false := by decide) : DE X E (.Name x pos) (dC (.ref a)) :=
  ⟨PE.imp (pe_glob (v := .ref a) hg hm rfl hd) fun σ H Q ⟨s, M, Qd, Xd, S, x, t, q⟩ => q (.ref a) H ⟨.ref a, M, Gw.refl, S.mem, rfl, t⟩⟩
end DL
set_option maxHeartbeats 2000000
namespace DL
open PySem PySem.Spec PyProof.Rows L2 LamX
/-! ### what a lambda holds, as data -/
def fillD : SD → List Nat → List D → SD
  | s, j :: js, d :: ds => fillD (s.set j (some d)) js ds
  | s, _, _ => s
/-- the names' values a lambda sees: those it holds -/
def capS (n : Nat) (js : List Nat) (ds : List D) : SD := fillD (List.replicate n none) js ds
section
variable {K : Fg} {H : Hp} {M : Mem} {σ : L2.St}
theorem set_same {v : V} : ∀ {σ : L2.St} {j : Nat}, σ[j]? = some (some v) → σ.set j (some v) = σ
  | [], j, e => by simp at e
  | x :: σ, 0, e => by simp at e; rw [e]; rfl
  | x :: σ, j + 1, e => by
    rw [List.set_cons_succ, set_same (σ := σ) (by simpa using e)]
theorem fill_ok : ∀ {js : List Nat} {ds : List D} {xs : List V} {s : SD}, js.length = ds.length → Caught σ js xs → Rs K H M ds xs → StOk K σ H s M → StOk K σ H (fillD s js ds) M
  | [], ds, xs, s, _, _, _, S => by cases ds <;> exact S
  | j :: js, [], xs, s, hl, _, _, _ => by cases hl
  | j :: js, d :: ds, xs, s, hl, hc, hr, S => by
    obtain ⟨v, r, rfl, h1, h2⟩ := hr
    have e := set_same (hc 0 j v rfl rfl)
    have S1 := S.set j h1
    rw [e] at S1
    exact fill_ok (js := js) (ds := ds) (by simpa using hl) (fun i k x z1 z2 => hc (i + 1) k x (by simpa using z1) (by simpa using z2)) h2 S1
theorem cap_ok {js : List Nat} {ds : List D} {xs : List V} (hl : js.length = ds.length) (hc : Caught σ js xs) (hr : Rs K H M ds xs) (mo : MOk K H M) : StOk K σ H (capS σ.length js ds) M :=
  fill_ok hl hc hr ⟨List.length_replicate, fun i d e => by
    rw [List.getElem?_replicate] at e
    by_cases z : i < σ.length
    · rw [if_pos z] at e; cases e
    · rw [if_neg z] at e; exact absurd e (by simp), mo⟩
end
/-! ### a(), where a holds a lambda -/
section
variable {X : Cx} {pins : List (Addr × Obj)} {σ : L2.St} {H : Hp} {s : Shared}
theorem act_lam {Ng : List Str} {qg : Str} {sg : Scope} {g f cc : Addr} {cdg pm ctv : Value} {params : Arguments} {body : Expr} {scope : Scope} {k i : Nat} {a : Str} {pn : List (Addr × Obj)} {xe : Value → Shared → Prop} {W : WX} {t : XK → TE} {p1 p2 : Pos}
    (I : Inv X pins σ H s) (L : LamS X.env.scope scope) (own : s.heap.get? f = some (PySem.W.kla_obj "<lambda>" (X.env.qual ++ "<lambda>") params body scope (cloFrom X.env.cells scope.names []) pm cc ctv)) (new : H f = none) (off : f ∉ frs X.stack)
    (args : bindArgs (PySem.W.kla_fn "<lambda>" (X.env.qual ++ "<lambda>") params body scope (cloFrom X.env.cells scope.names []) pm (.ref cc) ctv) ⟨[], []⟩ = pure [])
    (tk : Takes ((cxOf C8.CX0 X.prog X.w X.K X.mg X.base Ng qg sg g cdg X.A X.stack s H C8.E0).tr pn xe) W) (room : RoomG (k + 1) (X.A.deeper (envOfC qg sg s.heap.objs.size g cdg)))
    (inner : ∀ (E : XK) (A : Around) (outer : List Env) (s : Shared) (H : Hp), RoomG k (A.deeper (lamEnv X scope s.heap.objs.size f cc)) → PE (lamCx X A outer s H E scope f cc) body (t E))
    (hN : Ng[i]? = some a) (hv : Vis sg a) (hd : (a == ("__debug__" : Str)) = false) (hcd : (a == ("__classdict__" : Str)) = false) :
    PE ((cxOf C8.CX0 X.prog X.w X.K X.mg X.base Ng qg sg g cdg X.A X.stack s H C8.E0).tr pn xe) (.Call (.Name a p1) [] [] p2)
      (fun σZ HZ Q => σZ[i]? = some (some (.ref f)) ∧ HZ cc = some (CodeO cc (X.env.qual ++ "<lambda>")) ∧ ∃ E : XK, (∀ cls d H', E cls d H' → W cls d σZ H') ∧ t E σ HZ Q) := by
  constructor
  intro pz sz σZ HZ Q IZ hyp
  rcases hyp with ⟨slot, code, E, into, reads⟩
  have look := (pe_var (pos := p1) (i := i) hN hv hd hcd).run pz sz σZ HZ (fun v H1 => v = .ref f ∧ H1 = HZ) IZ ⟨.ref f, slot, rfl, rfl⟩
  refine wpAny_Call_Name_kw (thn look ?_)
  rintro u s1 ⟨v, H1, J, rel, ev, eH⟩
  subst ev eH
  obtain rfl : u = Value.ref f := rel
  have there := J.base.keep f _ own new off fun z => nomatch (show f ∈ ([] : List Addr) from z)
  refine PySem.W.callWith_F0 ⟨_, _, _, _, there⟩ ?_
  obtain ⟨⟨oc, vs, tok, c1, c2, c3⟩, _⟩ := J.hok cc _ code
  have ran : codeAny (model X.prog X.w) (X.A.deeper (envOfC qg sg s.heap.objs.size g cdg)) (.call (.ref f) ⟨[], []⟩) (CR (L2.CX X.prog X.w) (envOfC qg sg s.heap.objs.size g cdg :: X.stack) X.prog X.w H1 s1 Q E) s1 := by
    apply PySem.W.kla_callFunE room.r.depth there rfl L.co L.gen rfl ⟨cc, oc, vs, tok, rfl, c1, c2, c3⟩
    rw [args]
    apply wpAny_pure
    apply wpAny_newFunctionEnv (fun y hy => (L.own y hy).2) (fun y hy => by cases hy) _ L.kind
    intro hp names same
    have stays : ∀ b o, s1.heap.get? b = some o → hp.get? b = some o := fun b o e => same.extBut b o (Nat.ne_of_lt (Heap.lt_size e)) (Heap.get?_push_of_some _ e)
    refine ⟨J.nolimit.fresh _ same, ?_⟩
    have JL : Inv (lamCx X (X.A.deeper (envOfC qg sg s.heap.objs.size g cdg)) (envOfC qg sg s.heap.objs.size g cdg :: X.stack) s1 H1 E scope f cc) [] σ H1 { s1 with heap := hp, toks := s1.toks + ([] : List (Str × Value)).length } :=
      lam_start2 I L J.env0 room.r.hd J.base names stays
    apply PySem.W.kla_codeExpr
    have go := (inner E _ _ s1 H1 (room.deeper _)).run [] _ _ H1 Q JL reads
    exact wpAny_mono go (fun w sw ⟨w', Hw, Jw, rw_, qw⟩ => ⟨w', Hw, Jw.os, Jw.bare, Jw.base, Jw.hok, rw_, qw⟩) fun e sw z => z
  refine wpAny_call (codeAny_mono ran fun r s2 fin => ?_)
  match r, fin with
  | .error e, fin => exact tk e s2 (XE.of_call J (fun cls d H' z => into cls d H' z) fin)
  | .ok (.ret u), fin => exact J.after fin
  | .ok .next, fin => exact False.elim fin
  | .ok .brk, fin => exact False.elim fin
  | .ok .cont, fin => exact False.elim fin
end
end DL
namespace DL
open PySem PySem.Spec PyProof.Rows L2 LamX
/-! ### x(lambda: body) -/
/-- all tables that are owned are those of T -/
def TabsM (T : List (Addr × Str)) (M : Mem) : Prop := (∀ p ∈ T, M p.1 = some (.tab p.2)) ∧ ∀ a q, M a = some (.tab q) → (a, q) ∈ T
def CapD (s : SD) (js : List Nat) (ds : List D) : Prop := js.length = ds.length ∧ ∀ (i j : Nat) (d : D), js[i]? = some j → ds[i]? = some d → s[j]? = some (some d)
def dAct (i : Nat) (L : D) (tl : XD → Mem → QD → Prop) : TED := fun Xd s M Q => s[i]? = some (some L) ∧ tl Xd M Q
abbrev gcx (X : Cx) (Ng : List Str) (x : Str) (sg : Scope) (g : Addr) (cdg : Value) (s : Shared) (H : Hp) : Cx := (cxOf C8.CX0 X.prog X.w X.K X.mg X.base Ng x sg g cdg X.A X.stack s H C8.E0).nox
/-- the def that calls what it got: its body read with that call's reading -/
structure GiveD (X : Cx) (k : Nat) (Ng : List Str) (x : Str) (sg : Scope) (g : Addr) (cdg : Value) (bg : List Stmt) (a : Str) (B : TED → TSD) : Prop where
  ok : ∀ (s : Shared) (H : Hp) (te : TED), RoomG k (gcx X Ng x sg g cdg s H).A → (∀ p1 p2, DXe (gcx X Ng x sg g cdg s H) (.Call (.Name a p1) [] [] p2) te) → DSs (gcx X Ng x sg g cdg s H) (fun _ _ _ => False) bg (B te)
def dLamC (T : List (Addr × Str)) (js : List Nat) (Ng : List Str) (B : TED → TSD) (te : TED) : TED := fun _ s M Q => TabsM T M ∧ ∃ ds, CapD s js ds ∧
  ∀ L : D, bodyD (B (dAct 0 L fun Xd' M' Q' => te Xd' (capS s.length js ds) M' Q')) Ng [L] M Q (fun _ _ _ _ => False)
section
variable {K : Fg} {H H1 : Hp} {M : Mem} {σ : L2.St} {s : SD}
theorem cap_of (S : StOk K σ H s M) : ∀ {js : List Nat} {ds : List D}, CapD s js ds → ∃ xs, Caught σ js xs ∧ Rs K H M ds xs
  | [], [], _ => ⟨[], fun i j x e => by simp at e, rfl⟩
  | [], d :: ds, h => by cases h.1
  | j :: js, [], h => by cases h.1
  | j :: js, d :: ds, h => by
    obtain ⟨v, h1, h2⟩ := S.sl j d (h.2 0 j d rfl rfl)
    obtain ⟨xs, h3, h4⟩ := cap_of S (js := js) (ds := ds) ⟨by simpa using h.1, fun i k d' z1 z2 => h.2 (i + 1) k d' (by simpa using z1) (by simpa using z2)⟩
    refine ⟨v :: xs, fun i k x z1 z2 => ?_, Rs.cons h2 h4⟩
    cases i with
    | zero => simp at z1 z2; rw [← z1, ← z2]; exact h1
    | succ i => exact h3 i k x (by simpa using z1) (by simpa using z2)
theorem tabs_of {T : List (Addr × Str)} (mo : MOk K H M) (tm : TabsM T M) : Tabs T H := fun p hp => by
  obtain ⟨ps, h1, h2, h3⟩ := (show TabAt H M p.1 p.2 from mo _ _ (tm.1 p hp))
  exact ⟨ps, h1, h2, fun pos cv hc => let ⟨cc, e1, e2, _⟩ := h3 pos cv hc; ⟨cc, e1, e2⟩⟩
/-- an object of code is not owned -/
theorem code_free {T : List (Addr × Str)} {cc : Addr} {q : Str} (mo : MOk K H M) (tm : TabsM T M) (eN : ExtN H H1) (T1 : Tabs T H1) (h : H1 cc = some (CodeO cc q)) : M cc = none := by
  cases e : M cc with
  | none => rfl
  | some o =>
    exfalso
    have z := mo _ _ e
    cases o with
    | lst ds =>
      obtain ⟨xs, h1, _⟩ := z
      have := eN _ _ h1 fun ps z => by cases z
      rw [h] at this; cases this
    | dct ks ds =>
      obtain ⟨xs, h1, _⟩ := z
      have := eN _ _ h1 fun ps z => by cases z
      rw [h] at this; cases this
    | ins C ns ds =>
      obtain ⟨dx, xs, h1, _⟩ := z
      have := eN _ _ h1 fun ps z => by cases z
      rw [h] at this; cases this
    | gen φ ds => exact z.elim
    | tab q2 =>
      obtain ⟨ps, h1, _⟩ := T1 _ (tm.2 _ _ e)
      rw [h] at h1; cases h1
theorem mok_ext {T : List (Addr × Str)} (mo : MOk K H M) (tm : TabsM T M) (eN : ExtN H H1) (T1 : Tabs T H1) : MOk K H1 M := fun a o e => by
  have gw : Gw H M H1 M := fun b u h m n => ⟨eN b u h n, m⟩
  have z := mo _ _ e
  cases o with
  | lst ds =>
    obtain ⟨xs, h1, h2⟩ := z
    exact ⟨xs, eN _ _ h1 (fun ps z => by cases z), Rs.grow gw ds xs h2⟩
  | dct ks ds =>
    obtain ⟨xs, h1, h3, h2⟩ := z
    exact ⟨xs, eN _ _ h1 (fun ps z => by cases z), h3, Rs.grow gw ds xs h2⟩
  | ins C ns ds =>
    obtain ⟨dx, xs, h1, h3, h4, h5, h2⟩ := z
    exact ⟨dx, xs, eN _ _ h1 (fun ps z => by cases z), h3, eN _ _ h4 (fun ps z => by cases z), h5, Rs.grow gw ds xs h2⟩
  | gen φ ds => exact z.elim
  | tab q =>
    obtain ⟨ps, h1, h2, h3⟩ := T1 _ (tm.2 _ _ e)
    refine ⟨ps, h1, h2, fun pos cv hc => ?_⟩
    obtain ⟨cc, e1, e2⟩ := h3 pos cv hc
    exact ⟨cc, e1, e2, code_free mo tm eN T1 e2⟩
end
end DL
namespace DL
open PySem PySem.Spec PyProof.Rows L2 LamX
theorem fwdGw {K : Fg} {H H1 : Hp} {M M1 : Mem} {Q : QD} {v : V} {H' : Hp} (g : Gw H M H1 M1) (h : upE K H1 M1 Q v H') : upE K H M Q v H' := by
  obtain ⟨d, M', g', m', r, q⟩ := h
  exact ⟨d, M', g.trans g', m', r, q⟩
theorem de_lamcall {X : Cx} {E : XK} {T : List (Addr × Str)} {x a : Str} {st : Stmt} {g c P : Addr} {fd : FuncData} {k : Nat} {Ng : List Str} {B : TED → TSD} {params : Arguments} {body : Expr} {scope : Scope} {js : List Nat} {te : TED} {p lpos pos : Pos}
    (hg : Gl X x) (hm : X.mg x = some (.ref g)) (F : Fun X.K x x st g fd) (hb : Binds X.K fd [a] []) (Sg : FnScope Ng [a] (defScope st)) (hNg : Ng[0]? = some a) (hva : Vis (defScope st) a)
    (G : ∀ cdg, GiveD X (k + 1) Ng x (defScope st) g cdg (defBody st) a B) (TB : TabB X.base X.mg c P) (hcode : X.env.code = .ref c) (hmT : (P, X.env.qual ++ "<lambda>") ∈ T) (hu : ∀ p ∈ T, p.1 = P → p.2 = X.env.qual ++ "<lambda>")
    (hr : RoomG (k + 2) X.A) (Ls : LamS X.env.scope scope) (hdef : defaultsOf params X.env = ([], []))
    (hbind : ∀ (q : Str) (cl : List (Str × Addr)) (pm cv ctv : Value), bindArgs (PySem.W.kla_fn "<lambda>" q params body scope cl pm cv ctv) ⟨[], []⟩ = pure [])
    (hbody : ∀ (A : Around) (outer : List Env) (s : Shared) (H : Hp) (E : XK) (f cc : Addr), RoomG k (A.deeper (lamEnv X scope s.heap.objs.size f cc)) → DE (lamCx X A outer s H E scope f cc) E body te)
    (hdb : (x == ("__debug__" : Str)) = false := by decide) (hd : (a == ("__debug__" : Str)) = false := by decide) (hcd : (a == ("__classdict__" : Str)) = false := by decide) :
    DE X E (.Call (.Name x p) [.Lambda params body scope lpos] [] pos) (dLamC T js Ng B te) := by
  obtain ⟨oc, od, kV, doc, pm0, an, cdv, ct, osl, rfl, lk, hcg⟩ := F.ex
  refine ⟨⟨fun pins s σ H Q I hyp => ?_⟩⟩
  obtain ⟨sd, M, Qd, Xd, S, xt, ⟨tm, ds, cd, reads⟩, q⟩ := hyp
  refine wpAny_Call_Name_kw (ld_glob I hg hm ?_ hdb)
  refine PySem.W.callWith_K (h₀ := X.base) I.ok.mod.kin F.kp ?_ (by rfl) (by rfl)
  show wpAny _ _ (spliced ((false, eval (.Lambda params body scope lpos) X.env) :: backTo pos (starEach [] X.env))) _ _ s
  have hT := tabs_of S.mem tm
  refine Calls.spliced_cons (lam_make2 I TB hcode hmT hu hT hdef (Ls.has I.ok) fun f cc pm ctv H1 s1 J eN T1 own new off code => ?_)
  refine Calls.spliced_nil ⟨J.kIn, ?_⟩
  have mo := mok_ext S.mem tm eN T1
  have gw : Gw H M H1 M := fun b u h m n => ⟨eN b u h n, m⟩
  have S1 := S.grow gw mo
  obtain ⟨xs, caught, rxs⟩ := cap_of S1 cd
  let Ld : D := .lam f cc (X.env.qual ++ "<lambda>") σ js ds
  have rL : Rv X.K H1 M Ld (.ref f) := ⟨rfl, code, code_free S.mem tm eN T1 code, cd.1, xs, caught, rxs⟩
  have ran : codeAny (model X.prog X.w) X.A (.call (.ref g) ⟨[.ref f], []⟩) (CR C8.CX0 X.stack X.prog X.w H1 s1 Q C8.E0) s1 := by
    refine run_ofS (N := Ng) (ps := [a]) (us := [.ref f]) (vs := [.ref f]) lk hcg Sg hr.r J.env0 (hb s1 [.ref f] J.kIn rfl) (.cons rfl .nil) rfl fun hr' => ?_
    have room : RoomG (k + 1) (X.A.deeper (envOfC x (defScope st) s1.heap.objs.size g cdv)) := hr.deeper _
    have dx : ∀ p1 p2, DXe (gcx X Ng x (defScope st) g cdv s1 H1) (.Call (.Name a p1) [] [] p2) (dAct 0 Ld fun Xd' M' Q' => te Xd' (capS sd.length js ds) M' Q') := fun p1 p2 => ⟨fun W pn xe tk => by
      refine PE.imp (act_lam (k := k) (t := fun E => liftE X.K E te) J Ls own new off (hbind _ _ _ _ _) tk room (fun E A outer s H rm => (hbody A outer s H E f cc rm).ok) hNg hva hd hcd) fun σZ HZ Q' hyp' => ?_
      obtain ⟨sz, Mz, Qz, Xz, Sz, xz, ⟨e0, tz⟩, qz⟩ := hyp'
      obtain ⟨v, e1, rv⟩ := Sz.sl 0 Ld e0
      obtain ⟨rfl, h1, h2, h3, ys, h4, h5⟩ := rv
      refine ⟨e1, h1, fun cls d H' => W cls d σZ H', fun cls d H' z => z, capS sd.length js ds, Mz, Qz, Xz, ?_, xz, tz, qz⟩
      rw [S.len]
      exact cap_ok h3 h4 h5 Sz.mem⟩
    refine ⟨_, ((G cdv).ok s1 H1 _ room dx).ok.nox, ?_⟩
    refine ⟨startD Ng [Ld], M, { nx := fun _ M' => Lo Qd .non M', rt := Lo Qd, bk := fun _ _ => False, ct := fun _ _ => False, ex := fun _ _ _ _ => False }, start_ok mo (Rs.cons rL Rs.nil), ?_, reads Ld, fun σ' H' hz => ?_, fun v H' hz => ?_, fun σ' H' hz => ?_, fun σ' H' hz => ?_⟩
    · exact fun _ _ _ ⟨_, _, _, _, _, _, _, _, _, _, _, _, _, _, z⟩ => z.elim
    · obtain ⟨s', M', g', S', d2, M2, l, qq⟩ := hz
      exact q _ _ (fwdGw gw (l.up g' S'.mem rfl qq))
    · obtain ⟨d, M', g', m', rd, d2, M2, l, qq⟩ := hz
      exact q _ _ (fwdGw gw (l.up g' m' rd qq))
    · obtain ⟨_, _, _, _, z⟩ := hz; exact z.elim
    · obtain ⟨_, _, _, _, z⟩ := hz; exact z.elim
  refine wpAny_call (codeAny_mono ran fun r s2 fin => ?_)
  match r, fin with
  | .error e, fin => exact (show False from fin).elim
  | .ok (.ret u), fin => exact J.after fin
  | .ok .next, fin => exact False.elim fin
  | .ok .brk, fin => exact False.elim fin
  | .ok .cont, fin => exact False.elim fin
end DL
namespace DL
open PySem PySem.Spec PyProof.Rows L2 LamX
theorem passLam {X : Cx} {A : Around} {outer : List Env} {s : Shared} {H : Hp} {E : XK} {scope : Scope} {f cc : Addr} : Passes (L2.CX (lamCx X A outer s H E scope f cc).prog (lamCx X A outer s H E scope f cc).w) (lamCx X A outer s H E scope f cc) E :=
  passes_call (takes_of rfl rfl rfl rfl) fun _ _ _ _ h => h
/-- a def's body, its code object known -/
theorem dfn_ofC {P : Program} {w : World} {K : Fg} {mg : Str → Option Value} {base : Heap} {x qual : Str} {st : Stmt} {f : Addr} {fd : FuncData} {N ps : List Str} {k : Nat} {td : TSD} (F : Fun K x qual st f fd) (S : FnScope N ps (defScope st))
    (hbody : ∀ (cdv : Value) (_ : fd.code = cdv) (A : Around) (outer : List Env) (s : Shared) (H : Hp) (E : XK), RoomG k (A.deeper (envOfC qual (defScope st) s.heap.objs.size f cdv)) →
      DSs (cxOf (L2.CX P w) P w K mg base N qual (defScope st) f cdv A outer s H E) E (defBody st) td) : DFn P w K mg base (k + 1) f fd ps (bodyD td N) := by
  obtain ⟨oc, od, kV, doc, pm, an, cdv, ct, osl, rfl, lk, hcd⟩ := F.ex
  refine ⟨fun A outer s H M args us vs ds Qd Xd Q E hr e0 hlen hb r mo rs hsp hq hx => ?_⟩
  have hl : vs.length = ps.length := (vlen rs).trans hlen
  have KX : K.In s.heap := e0.mod.kin.keeps fun b o e => (e0.bs b o e).1
  have lim : s.heap.NoLimit := e0.mod.nolimit.keeps fun b o e => (e0.bs b o e).1
  have hkind : ∀ y ∈ ps.zip us, (defScope st).names.lookup y.1 = some .local ∨ ((defScope st).names.lookup y.1 = some .cell ∧ ((cellsFrom (s.heap.objs.size + 1) (defScope st).names []).lookup y.1).isSome = true) := fun ⟨n, v⟩ hy => by
    rcases S.par n (List.of_mem_zip hy).1 with q | q
    · exact .inl q
    · exact .inr ⟨q, PySem.W.cellsFrom_some _ _ _ (.inl q)⟩
  refine codeAny_call_function hr.r.depth (KX _ _ lk) rfl S.co S.gen rfl (PySem.W.codeRec_of KX hcd) (hb _ _ _ _ ?_)
  refine wpAny_newFunctionEnv_cells S.kind hkind fun env he s1 x => ?_
  subst he
  refine ⟨lim.keeps x.toInCall.keep, codeAny_func ?_⟩
  have ht := hbody cdv rfl A outer s H E (hr.deeper _)
  have I : Inv (cxOf (L2.CX P w) P w K mg base N qual (defScope st) f cdv A outer s H E) [] (L2.start N vs) H s1 := inv_start S hr.r.hd e0 hl r x
  refine wpAny_mono (ht.ok.run [] s1 (L2.start N vs) H { nx := fun _ H' => Q .non H', rt := Q } I ?_) (fun fl s' hs => ?_) fun e s' hs => hs
  · refine ⟨startD N ds, M, { nx := fun _ M' => Lo Qd .non M', rt := Lo Qd, bk := fun _ _ => False, ct := fun _ _ => False, ex := Xd }, start_ok mo rs, hx, hsp, fun σ' H' ⟨s', M', g, S', q⟩ => ?_, fun v H' ⟨d, M', g, m, rd, q⟩ => ?_, fun σ' H' ⟨s', M', g, S', q⟩ => q.elim, fun σ' H' ⟨s', M', g, S', q⟩ => q.elim⟩
    · obtain ⟨d2, M2, l, q⟩ := q
      exact hq _ _ (l.up g S'.mem rfl q)
    · obtain ⟨d2, M2, l, q⟩ := q
      exact hq _ _ (l.up g m rd q)
  have fin : ∀ {σ' : L2.St} {H' : Hp} {v : V} {u : Value}, Inv (cxOf (L2.CX P w) P w K mg base N qual (defScope st) f cdv A outer s H E) [] σ' H' s' → RelV v u → Q v H' → CE outer P w H s Q u s' :=
    fun {σ' H' v u} J rv q => ⟨v, H', J.os, J.bare, J.base, J.hok, rv, q⟩
  cases fl with
  | ret u =>
    obtain ⟨v, σ', H', J, rv, q⟩ := hs
    exact fin J rv q
  | next =>
    obtain ⟨σ', H', J, q⟩ := hs
    exact fin (v := V.non) (u := Value.none) J rfl q
  | brk =>
    obtain ⟨_, _, _, q⟩ := hs
    exact False.elim q
  | cont =>
    obtain ⟨_, _, _, q⟩ := hs
    exact False.elim q
end DL
set_option maxHeartbeats 1000000
namespace DL
open PySem PySem.Spec PyProof.Rows L2
/-! ### a module's constant of ints, texts and tuples, as data -/
end DL
set_option maxHeartbeats 1000000
namespace PySem
open AutoSeq1 (wpAny_loadPart')
end PySem
namespace DL
open PySem PySem.Spec PyProof.Rows L2 RZ
/-! ### zip of lists and tuples, mixed -/
/-- the items of a list or tuple that is not changed -/
def sqdO : D → Option (List D)
  | .lst ds => some ds
  | .fzn ds => some ds
  | .tup ds => some ds
  | _ => none
def zipMK (R : List D → Option Addr → Mem → Prop) : List D → Mem → Prop := fun l M => match l with
  | [d, e] => ∃ ds es, sqdO d = some ds ∧ sqdO e = some es ∧ R (zpD ds es) none M
  | _ => False
def iZipMD (te te2 : TED) : TID := fun Xd s M R => dCons te (dCons te2 dNil) Xd s M (zipMK R)
end DL
set_option maxHeartbeats 4000000
namespace DL
open PySem PySem.Spec PyProof.Rows L2 DL
section
variable {X : Cx} {E : XK} {n k : Nat} {f x : Str} {p pos p' pos' tpos : Pos} {e o : Expr} {es : List Expr} {te to : TED} {ts : TAD}
/-- a class with a def __init__ -/
def dNewD (C : Addr) (sp : SpD) (dd : List D) (t : TAD) : TED := fun Xd s M Q => t Xd s M fun ds M1 => ∀ p, M1 p = none → sp (.ref p :: (ds ++ dd)) (M1.put p (.ins C [] [])) (fun d M2 => d = .non ∧ Q (.ref p) M2) Xd
end
end DL
set_option maxHeartbeats 4000000
/-! list(zip(a, b)): the tuples stay out -/
namespace PySem
open PySem.Spec PyProof.Rows
/-! ### list(it): the loop with a state of one's own -/
end PySem
set_option maxHeartbeats 4000000
namespace DL
open PySem PySem.Spec PyProof.Rows L2 RZ
/-! ### list(zip(a, b)) -/
end DL
set_option maxHeartbeats 4000000
namespace DL
open PySem PySem.Spec PyProof.Rows L2 RZ
def dLstZip (te te2 : TED) : TED := fun Xd s M Q => dCons te (dCons te2 dNil) Xd s M (zipMK fun l _ M1 => Q (.lst l) M1)
end DL
set_option maxHeartbeats 4000000
namespace DL
open PySem PySem.Spec PyProof.Rows L2 PySem.W
/-! ### sorted(xs): numbers, texts, tuples of these; reversed(xs) walked -/
section
variable {X : Cx} {pins : List (Addr × Obj)} {σ : L2.St} {H : Hp} {M : Mem} {s : Shared}
/-! reversed(xs) walked -/
def revIK (R : List D → Option Addr → Mem → Prop) : QD := fun d M => ∃ ds, sqdO d = some ds ∧ R ds.reverse none M
def iRevSD (te : TED) : TID := fun Xd s M R => te Xd s M (revIK R)
end
/-! range(a, b) as a value -/
def rg2K (x : D) (Q : Int → Int → Mem → Prop) : QD := fun y M => match x, y with
  | .int i, .int j => Q i j M
  | _, _ => False
def rg2 (ta tb : TED) : XD → SD → Mem → (Int → Int → Mem → Prop) → Prop := fun Xd s M Q => ta Xd s M fun x M1 => tb Xd s M1 (rg2K x Q)
end DL
set_option maxHeartbeats 4000000
/-! enumerate over an iterator that makes things as it turns -/
namespace PySem
open PySem.Spec PyProof.Rows
end PySem
set_option maxHeartbeats 4000000
/-! zip's next with its own tuple free, be it that none was handed out or that the last one is gone -/
namespace PySem
open PySem.Spec PyProof.Rows
def zObj (TI TO : Addr) (f0 : Value) (f : Bool) : Obj := { cls := .type "zip", dict := none, data := .fields #[f0, .bool f, .bool false, .ref TI, .ref TO], slots := #[] }
end PySem
set_option maxHeartbeats 4000000
/-! one turn of a zip, whatever became of its tuple -/
namespace PySem
open PySem.Spec PyProof.Rows
section
variable {prog : Program} {w : World} {A : Around} {E : Value → Shared → Prop} {s : Shared} {z TI TO i1 i2 : Addr} {f0 : Value} {f : Bool} {fp1 fp2 : List Addr} {n1 n2 i : Nat} {P1 P2 : Nat → Value → Prop} {St1 St2 : Nat → Heap → Prop} {a1 a2 : Value}
/-- a zip between two turns -/
def ZSt (h : Heap) (z TI TO i1 i2 : Addr) : Prop := (∃ f0 f, h.get? z = some (zObj TI TO f0 f) ∧ (f0 = .none ∨ ∃ T : Addr, f0 = rawInt T)) ∧ IsTupOf2 h TI (.ref i1) (.ref i2) ∧ ∃ a1 a2, IsTupOf2 h TO a1 a2
theorem ZSt.type {h : Heap} (x : ZSt s.heap z TI TO i1 i2) : s.TypeIs (.ref z) "zip" := by
  obtain ⟨⟨f0, f, hz, _⟩, _⟩ := x
  exact ⟨_, hz, rfl⟩
end
end PySem
set_option maxHeartbeats 4000000
namespace PySem
open PySem.Spec PyProof.Rows
end PySem
namespace DL
open PySem PySem.Spec PyProof.Rows L2 RZ
/-! ### enumerate(zip(a, b)) -/
end DL
set_option maxHeartbeats 4000000
namespace PySem
open AutoSeq1 (wpAny_loadPart')
open PySem.Spec PyProof.Rows
end PySem
set_option maxHeartbeats 4000000
namespace DL
open PySem PySem.Spec PyProof.Rows L2 RZ
def iEZD (te te2 : TED) : TID := fun Xd s M R => dCons te (dCons te2 dNil) Xd s M (zipMK fun l _ M1 => R (enmFrom 0 l) none M1)
end DL
set_option maxHeartbeats 4000000
namespace DL
open PySem PySem.Spec PyProof.Rows L2
/-! ### zip(xs, ys) walked where xs may be a list that we own -/
/-- the items of a list or tuple, and where it is if we own it -/
def sqwO (M : Mem) : D → Option (List D × Option Addr)
  | .ref a => match M a with
    | some (.lst ds) => some (ds, some a)
    | _ => none
  | d => (sqdO d).map fun ds => (ds, none)
def zipOK (R : List D → Option Addr → Mem → Prop) : List D → Mem → Prop := fun l M => match l with
  | [d, e] => ∃ ds ow es, sqwO M d = some (ds, ow) ∧ sqdO e = some es ∧ R (zpD ds es) ow M
  | _ => False
def iZipOD (te te2 : TED) : TID := fun Xd s M R => dCons te (dCons te2 dNil) Xd s M (zipOK R)
/-! ### xs + ys, a list that will be changed -/
def addDO : O2 := fun x y M Q => match vw M x, vw M y with
  | .lst ds, .lst es => ds.length + es.length ≤ sizeLine ∧ ∀ p, M p = none → Q (.ref p) (M.put p (.lst (ds ++ es)))
  | _, _ => False
theorem do_addO {X : Cx} : DOp X (binaryOp .Add) addDO := by
  intro pins s σ H M x y dx dy v u Q Qd I mo r1 r2 rx ry t q
  unfold addDO at t
  split at t
  · rename_i ds es h1 h2
    obtain ⟨a, xs, rfl, pa, ra⟩ := vw_lst mo r1 h1
    obtain ⟨b, ys, rfl, pb, rb⟩ := vw_lst mo r2 h2
    have hl : xs.length + ys.length ≤ sizeLine := by rw [vlen ra, vlen rb]; exact t.1
    exact op_cat pins s σ H _ _ v u Q I rx ry ⟨a, b, xs, ys, rfl, rfl, pa, pb, hl, fun p hp => q _ _ (up_own_lst mo hp (Rs.append ra rb) (t.2 p (m_none mo hp)))⟩
  · exact t.elim
/-! ### what a def leaves: all that it made is let go -/
/-- what was owned is still so -/
def Ext (M0 M : Mem) : Prop := ∀ a o, M0 a = some o → M a = some o
theorem Ext.refl {M : Mem} : Ext M M := fun _ _ h => h
theorem Ext.trans {M0 M1 M2 : Mem} (h : Ext M0 M1) (k : Ext M1 M2) : Ext M0 M2 := fun a o e => k a o (h a o e)
theorem Ext.put {M0 M : Mem} {p : Addr} {o : MO} (h : Ext M0 M) (hp : M0 p = none) : Ext M0 (M.put p o) := fun a u e => by
  have ne : a ≠ p := fun z => by subst z; rw [hp] at e; cases e
  rw [Mem.put_ne ne]; exact h a u e
theorem Ext.none {M0 M : Mem} {p : Addr} (h : Ext M0 M) (hp : M p = none) : M0 p = none := by
  cases e : M0 p with
  | none => rfl
  | some o => rw [h p o e] at hp; cases hp
theorem lo_less {Q : QD} {d : D} {M M0 : Mem} (h : Ext M0 M) (q : Q d M0) : Lo Q d M :=
  have hn : ∀ a, M a = none → M0 a = none := fun _ e => h.none e
  ⟨d, M0, ⟨h, hn, fun K H v mo r => Rv.grow (gw_less hn) d v r⟩, q⟩
end DL
set_option maxHeartbeats 2000000
namespace DL
open PySem PySem.Spec PyProof.Rows L2
/-! ### t == (), t != () of any tuple -/
def eqE : O2 := fun x y M Q => match vw M x, y with
  | .tup ds, .tup [] => Q (.bl ds.isEmpty) M
  | _, _ => eqD x y M Q
def neE : O2 := fun x y M Q => match vw M x, y with
  | .tup ds, .tup [] => Q (.bl (!ds.isEmpty)) M
  | _, _ => neD x y M Q
section
variable {X : Cx} {pins : List (Addr × Obj)} {σ : L2.St} {H : Hp} {M : Mem} {s : Shared}
theorem two_tup (I : Inv X pins σ H s) {dx : D} {ds : List D} {x y : V} {v u : Value} (r1 : Rv X.K H M dx x) (r2 : Rv X.K H M (.tup []) y) (rx : RelV x v) (ry : RelV y u) (e : vw M dx = .tup ds) :
    ∃ (a b : Addr) (its : Array Value), v = .ref a ∧ u = .ref b ∧ s.heap.IsTuple a its ∧ s.heap.IsTuple b #[] ∧ (its.size = 0 ↔ ds = []) := by
  obtain ⟨a, xs, rfl, ta, ra⟩ := vw_tup r1 e
  obtain ⟨b, ys, rfl, tb, rb⟩ := r2
  obtain rfl : v = .ref a := rx
  obtain rfl : u = .ref b := ry
  obtain rfl : ys = [] := rb
  obtain ⟨its, h1, h2, _⟩ := I.tuple ta.sq
  obtain ⟨js, h3, h4, _⟩ := I.tuple tb.sq
  have ej : js = [] := by
    have := h3.length
    exact List.length_eq_zero_iff.mp this.symm
  subst ej
  refine ⟨a, b, its.toArray, rfl, rfl, h2, h4, ?_⟩
  have l1 := h1.length
  have l2 := Rs.len ra
  rw [List.size_toArray, ← l1, ← l2]
  exact List.length_eq_zero_iff
theorem do_eqE (hu : X.A.units + 64 < cLine) : DOp X (compareOp .Eq) eqE := by
  intro pins s σ H M x y dx dy v u Q Qd I mo r1 r2 rx ry t q
  unfold eqE at t
  split at t
  · rename_i ds e
    obtain ⟨a, b, its, rfl, rfl, h1, h2, hz⟩ := two_tup I r1 r2 rx ry e
    refine SeqAt.RcAt.tuples (e := fun _ => true) h1 h2 (by omega) (fun j _ z => absurd z (Nat.not_lt_zero _)) X.prog X.w _ _ ?_
    refine ⟨.bl ds.isEmpty, H, I, ?_, q _ _ (up_same mo t rfl)⟩
    show _ = _
    by_cases z : ds = []
    · subst z
      have : its.size = 0 := hz.mpr rfl
      simp [this]
    · have n0 : its.size ≠ 0 := fun w => z (hz.mp w)
      cases ds with
      | nil => exact absurd rfl z
      | cons d ds => simp [n0]
  · exact do_eq hu pins s σ H M x y dx _ v u Q Qd I mo r1 r2 rx ry t q
theorem do_neE (hu : X.A.units + 64 < cLine) : DOp X (compareOp .NotEq) neE := by
  intro pins s σ H M x y dx dy v u Q Qd I mo r1 r2 rx ry t q
  unfold neE at t
  split at t
  · rename_i ds e
    obtain ⟨a, b, its, rfl, rfl, h1, h2, hz⟩ := two_tup I r1 r2 rx ry e
    refine SeqAt.RcNeAt.tuples (e := fun _ => true) h1 h2 (by omega) (fun j _ z => absurd z (Nat.not_lt_zero _)) X.prog X.w _ _ ?_
    refine ⟨.bl (!ds.isEmpty), H, I, ?_, q _ _ (up_same mo t rfl)⟩
    show _ = _
    by_cases z : ds = []
    · subst z
      have : its.size = 0 := hz.mpr rfl
      simp [this]
    · have n0 : its.size ≠ 0 := fun w => z (hz.mp w)
      cases ds with
      | nil => exact absurd rfl z
      | cons d ds => simp [n0]
  · exact do_ne hu pins s σ H M x y dx _ v u Q Qd I mo r1 r2 rx ry t q
theorem w_eqE {ds : List D} {Q : QD} (h : Q (.bl ds.isEmpty) M) : eqE (.tup ds) (.tup []) M Q := h
theorem w_neE {ds : List D} {Q : QD} (h : Q (.bl (!ds.isEmpty)) M) : neE (.tup ds) (.tup []) M Q := h
end
end DL
set_option maxHeartbeats 2000000
namespace DL
open PySem PySem.Spec PyProof.Rows L2
/-! ### t[::-1] of a tuple -/
section
variable {prog : Program} {w : World} {A : Around} {E : Value → Shared → Prop} {s : Shared}
theorem back_adjust (n : Nat) : Builtin.Slice.sliceAdjust none none (-1) (n : Int) = ((n : Int) - 1, -1) := rfl
theorem back_places (n : Nat) : Builtin.Slice.slicePlaces ((n : Int) - 1) (-1) (-1) = n := by
  unfold Builtin.Slice.slicePlaces
  rw [if_neg (by decide)]
  cases n with
  | zero => rfl
  | succ k =>
    rw [if_pos (by omega)]
    have e : ((((k + 1 : Nat) : Int) - 1 - -1 - 1) / (- -1) + 1) = ((k + 1 : Nat) : Int) := by
      rw [show (- -1 : Int) = 1 from rfl, Int.ediv_one]; omega
    rw [e]; rfl
theorem back_pick (xs : Array Value) : ((List.range xs.size).filterMap fun (m : Nat) => xs[(((xs.size : Int) - 1) + (m : Int) * -1).toNat]?).toArray = xs.toList.reverse.toArray := by
  have e : ∀ n : Nat, n ≤ xs.size → (List.range n).filterMap (fun (m : Nat) => xs[(((xs.size : Int) - 1) + (m : Int) * -1).toNat]?) = (xs.toList.drop (xs.size - n)).reverse := by
    intro n
    induction n with
    | zero => intro _; rw [Nat.sub_zero, List.drop_eq_nil_of_le (by rw [Array.length_toList]; exact Nat.le_refl _)]; rfl
    | succ n ih =>
      intro h
      have hk : xs.size - (n + 1) < xs.toList.length := by rw [Array.length_toList]; omega
      have ex : (((xs.size : Int) - 1) + (n : Int) * -1).toNat = xs.size - (n + 1) := by omega
      have h2 : xs.size - (n + 1) + 1 = xs.size - n := by omega
      rw [List.range_succ, List.filterMap_append, ih (by omega), ← List.getElem_cons_drop hk, List.reverse_cons, h2]
      congr 1
      simp only [List.filterMap_cons, List.filterMap_nil, ex]
      rw [Array.getElem?_eq_getElem (by omega)]
      simp
  have := e xs.size (Nat.le_refl _)
  rw [Nat.sub_self, List.drop_zero] at this
  rw [this]
theorem applied_back {sl : Addr} {n : Nat} {u : Tok} {R : Int × Int × Nat → Shared → Prop} (hs : s.heap.IsSliceOf sl .none .none (.int (-1) u)) (hR : R ((n : Int) - 1, -1, n) s) : wpAny (model prog w) A (Builtin.Slice.sliceApplied (.ref sl) (pure (n : Int))) R E s := by
  obtain ⟨so, so1, so2, so3⟩ := id hs
  unfold Builtin.Slice.sliceApplied Builtin.Slice.sliceFields
  refine wpAny_bind (wpAny_bind (wpAny_field so1 so3 (x := .none) rfl (wpAny_bind (wpAny_field so1 so3 (x := .none) rfl (wpAny_bind (wpAny_field so1 so3 (x := .int (-1) u) rfl (wpAny_pure ?_)))))))
  refine wpAny_bind (HT.slicePart_ (.int (-1) u) ?_)
  show wpAny _ _ (if ((-1 : Int) == 0) = true then _ else _) _ _ s
  rw [if_neg (by decide)]
  refine wpAny_bind (HT.slicePart_ .none (wpAny_bind (HT.slicePart_ .none (wpAny_bind (wpAny_pure ?_)))))
  show wpAny _ _ (match Builtin.Slice.sliceAdjust none none (-1) (n : Int) with | (lo, hi) => pure (lo, (-1 : Int), Builtin.Slice.slicePlaces lo hi (-1))) _ _ s
  rw [back_adjust]
  show wpAny _ _ (pure ((n : Int) - 1, (-1 : Int), Builtin.Slice.slicePlaces ((n : Int) - 1) (-1) (-1))) _ _ s
  rw [back_places]
  exact wpAny_pure hR
theorem tuple_back {t sl : Addr} {items : Array Value} {u : Tok} {Q : Value → Shared → Prop} (ht : IsTup s.heap t items) (hs : s.heap.IsSliceOf sl .none .none (.int (-1) u)) (hz : items.size ≤ sizeLine)
    (h : Q (.ref s.heap.objs.size) { s with heap := s.heap.push { cls := .type "tuple", data := .seq items.toList.reverse.toArray } }) : wpAny (model prog w) A (getItem (.ref t) (.ref sl)) Q E s := by
  have fits : sizeOk (.seq items.toList.reverse.toArray) := by
    show items.toList.reverse.toArray.size ≤ sizeLine
    rw [List.size_toArray, List.length_reverse, Array.length_toList]; exact hz
  obtain ⟨so, so1, so2, so3⟩ := id hs
  have kind : s.TypeIs (.ref sl) "slice" := ⟨so, so1, so2⟩
  unfold getItem
  try with_reducible refine wpAny_holding ?_
  first | refine wpAny_bind (wpAny_pure ?_) | skip
  apply wpAny_bind
  apply wpAny_sequenceKey ht.typeIs (by decide)
  apply wpAny_bind
  apply wpAny_callSpecial?_slot (name := Str.ofString "__getitem__") ht.typeIs PyProof.Rows.slot_tuple_getitem
  apply wpAny_call_entry PyProof.Rows.slot_tuple_getitem ht.typeIs PyProof.Rows.entry_tuple_getitem ?_ (PyProof.Rows.args_tuple_getitem _ _)
  show wpAny _ _ (Builtin.Tuple.tupleItemsOf (.ref t) >>= _) _ _ s
  apply wpAny_bind
  apply tupleItemsOf_ ht
  apply wpAny_bind
  apply wpAny_typeOf kind
  rw [if_pos (by decide)]
  apply wpAny_bind
  apply applied_back hs
  have other : ¬ ((((items.size : Int) - 1) == 0 && (-1 : Int) == 1 && items.size == items.size) = true) := by
    rw [show ((-1 : Int) == 1) = false from rfl, Bool.and_false, Bool.false_and]; exact Bool.false_ne_true
  show wpAny _ _ (if (((items.size : Int) - 1) == 0 && (-1 : Int) == 1 && items.size == items.size) = true then _ else _) _ _ s
  rw [if_neg other, back_pick]
  first
    | exact wpAny_bind (m := Builtin.Tuple.tupleExact _) (wpAny_newObj_type (wpAny_pure ⟨_, rfl, wpAny_pure h⟩) fits)
    | exact wpAny_bind (m := Builtin.Tuple.tupleExact _) (wpAny_newObj_type (wpAny_bind (wpAny_pure (wpAny_pure ⟨_, rfl, wpAny_pure h⟩))) fits)
    | exact wpAny_bind (wpAny_bind (m := Builtin.Tuple.tupleExact _) (wpAny_newObj_type (wpAny_pure (wpAny_pure ⟨_, rfl, wpAny_pure h⟩)) fits))
    | exact wpAny_bind (wpAny_bind (m := Builtin.Tuple.tupleExact _) (wpAny_newObj_type (wpAny_pure ⟨_, rfl, wpAny_pure h⟩) fits))
end
/-- the reading -/
def tBackT (K : Fg) (te : TE) : TE := fun σ H Q => te σ H fun x H1 => ∃ a xs, x = .ref a ∧ SqT K H1 a xs ∧ ∀ p, H1 p = none → Q (.ref p) (upd H1 p (.tup xs.reverse))
theorem pe_backT {X : Cx} {e : Expr} {te : TE} {k : Nat} {p1 p2 p3 pos : Pos} (he : PE X e te) : PE X (.Subscript e (.Slice none none (some (.UnaryOp .USub (.Constant (.int 1) k p1) p2)) p3) pos) (tBackT X.K te) := by
  constructor
  intro pins s σ H Q I want
  refine Subscript_ (thn (he.run pins s σ H _ I want) ?_)
  rintro v s1 ⟨x, H1, I1, rel, a, xs, rfl, hx, q⟩
  obtain rfl : v = .ref a := rel
  have step : PO X (some (.UnaryOp .USub (.Constant (.int 1) k p1) p2)) (tPart (tUn (rU fun i => .int (-i)) (tC (.int 1)))) := po_some (pe_un un_neg pe_int)
  refine wpAny_Slice (thn (po_none.run pins s1 σ H1 (fun o H2 => o = none ∧ H2 = H1) I1 ⟨rfl, rfl⟩) ?_)
  rintro vl s2 ⟨l, H2, I2, pl, rfl, rfl⟩
  refine thn (po_none.run pins s2 σ H2 (fun o H3 => o = none ∧ H3 = H2) I2 ⟨rfl, rfl⟩) ?_
  rintro vu s3 ⟨u, H3, I3, pu, rfl, rfl⟩
  refine thn (step.run pins s3 σ H3 (fun o H4 => o = some (-1) ∧ H4 = H3) I3 ⟨1, rfl, -1, rfl, rfl, rfl⟩) ?_
  rintro vs s4 ⟨o, H4, I4, ps, rfl, rfl⟩
  cases pl
  cases pu
  cases ps
  rename_i tk
  have I5 : Inv X pins σ H4 { s4 with heap := s4.heap.push { cls := .type "slice", data := .fields #[.none, .none, .int (-1) tk] } } := I4.kept (t' := s4.toks) fun b ob z => Heap.get?_push_of_some _ z
  obtain ⟨its, rv, ht, hz⟩ := I5.tuple hx
  have hl := rv.length
  show wpAny (model X.prog X.w) X.A (subscriptTail e (.Slice none none (some (.UnaryOp .USub (.Constant (.int 1) k p1) p2)) p3) (.ref a) (.ref s4.heap.objs.size)) (EP X pins σ Q) X.xe { s4 with heap := s4.heap.push { cls := .type "slice", data := .fields #[.none, .none, .int (-1) tk] } }
  refine tail_any (ops := [.ref a, .ref s4.heap.objs.size]) ht.typeIs (PyProof.Rows.slot_tuple_getitem.lookup) ?_ (by with_unfolding_all rfl)
  refine tuple_back ht (Heap.IsSliceOf.new _ .none .none (.int (-1) tk)) (by rw [List.size_toArray]; omega) ?_
  refine ⟨.ref _, _, I5.laid (t' := s4.toks) (o := .tup xs.reverse) (fun b ob z => Heap.get?_push_of_some _ z) (Nat.le_refl _) ?_, rfl, q _ (I5.hok.fresh (Nat.le_refl _))⟩
  exact ⟨by rw [List.length_reverse]; exact hz, _, rv.reverse, IsTup.new _ _⟩
def revTK (Q : QD) : QD := fun d M => match vw M d with
  | .tup ds => Q (.tup ds.reverse) M
  | _ => False
def dRevT (te : TED) : TED := fun Xd s M Q => te Xd s M (revTK Q)
theorem de_revT {X : Cx} {E : XK} {e : Expr} {te : TED} {j : Nat} {p1 p2 p3 pos : Pos} (he : DE X E e te) : DE X E (.Subscript e (.Slice none none (some (.UnaryOp .USub (.Constant (.int 1) j p1) p2)) p3) pos) (dRevT te) :=
  ⟨PE.imp (pe_backT he.ok) fun σ H Q ⟨s, M, Qd, Xd, S, x, t, q⟩ => by
    refine useE S x t fun d v M1 H1 g1 S1 x1 r1 t1 => ?_
    unfold revTK at t1
    split at t1
    · rename_i ds hd
      obtain ⟨a, xs, rfl, ta, ra⟩ := vw_tup r1 hd
      exact ⟨a, xs, rfl, ta.sq, fun l hl => q _ _ ⟨_, M1, g1.trans (gw_new hl), mok_new S1.mem hl, new_tup S1.mem hl (Rs.reverse ra), t1⟩⟩
    · exact t1.elim⟩
theorem w_revT {te : TED} {Xd : XD} {s : SD} {M : Mem} {Q : QD} (h : te Xd s M (revTK Q)) : dRevT te Xd s M Q := h
theorem w_revTK {ds : List D} {M : Mem} {Q : QD} (h : Q (.tup ds.reverse) M) : revTK Q (.tup ds) M := h
end DL
set_option maxHeartbeats 4000000
namespace G_madeofhere_k02_whole_goods_judged
open PySem PySem.Spec PyProof.Rows L2 DL
def tabT (c : Nat → Addr) : List (Addr × Str) := [(c 2, ("law" ++ ".<locals>." : Str) ++ "<lambda>")]
def tb : Nat → Nat → Bool := fun i j => ([[0], [0, 1]].getD i []).contains j
def tys : List (String × (Nat → Bool)) := [("ValueError", fun i => [0, 1].contains i)]
def fds : List Str := ["number", "part"]
structure CF (K : Fg) (c : Nat → Addr) : Prop where
  cf : ∀ {i : Nat}, i < 2 → ClsF K (c i)
  kf : KitF K c 2 tb tys fds
def N_is_rule : List Str := ["value", "share", "up", "down"]
def Bis_rule (K : Fg) (c : Nat → Addr) : TSD := sSeq (sIf (tOrD (tNotD (dTru (dCB isiC (dCons (dVar 0) (dCons (dC (.ty "tuple")) (dNil)))))) (dTst (dOp neD (dCB lenC (dCons (dVar 0) (dNil))) (dC (.int 3))))) (sRet (dC (.bl false))) (sNx)) (sSeq (sAsg (dVar 0) (gTp 3 (gCo (gNm 1) (gCo (gNm 2) (gCo (gNm 3) (gNi)))))) (sSeq (sIf (tOrD (tNotD (dTru (dCB isiC (dCons (dVar 1) (dCons (dC (.ty "int")) (dNil)))))) (tOrD (dTru (dCB isiC (dCons (dVar 1) (dCons (dC (.ty "bool")) (dNil))))) (tNotD (dTst (dChain leD leD (dC (.int 0)) (dVar 1) (dC (.int 100))))))) (sRet (dC (.bl false))) (sNx)) (sSeq (sIf (tOrD (tNotD (dTru (dCB isiC (dCons (dVar 2) (dCons (dC (.ty "str")) (dNil)))))) (tNotD (dTru (dCB isiC (dCons (dVar 3) (dCons (dC (.ty "str")) (dNil))))))) (sRet (dC (.bl false))) (sNx)) (sRet (dAnd (dOr (dOp eqD (dVar 2) (dC (.str "whole"))) (dOp eqD (dVar 2) (dC (.str "own")))) (dOr (dOp eqD (dVar 3) (dC (.str "own"))) (dOp eqD (dVar 3) (dC (.str "none")))))))))
def Wis_rule (K : Fg) (c : Nat → Addr) : SpD := bodyD (Bis_rule K c) N_is_rule
theorem Eis_rule {K : Fg} {c : Nat → Addr} {a0 : D} {M : Mem} {Q : QD} {Xd : XD} (h : (sSeq (sIf (tOrD (tNotD (dTru (dCB isiC (dCons (dVar 0) (dCons (dC (.ty "tuple")) (dNil)))))) (dTst (dOp neD (dCB lenC (dCons (dVar 0) (dNil))) (dC (.int 3))))) (sRet (dC (.bl false))) (sNx)) (sSeq (sAsg (dVar 0) (gTp 3 (gCo (gNm 1) (gCo (gNm 2) (gCo (gNm 3) (gNi)))))) (sSeq (sIf (tOrD (tNotD (dTru (dCB isiC (dCons (dVar 1) (dCons (dC (.ty "int")) (dNil)))))) (tOrD (dTru (dCB isiC (dCons (dVar 1) (dCons (dC (.ty "bool")) (dNil))))) (tNotD (dTst (dChain leD leD (dC (.int 0)) (dVar 1) (dC (.int 100))))))) (sRet (dC (.bl false))) (sNx)) (sSeq (sIf (tOrD (tNotD (dTru (dCB isiC (dCons (dVar 2) (dCons (dC (.ty "str")) (dNil)))))) (tNotD (dTru (dCB isiC (dCons (dVar 3) (dCons (dC (.ty "str")) (dNil))))))) (sRet (dC (.bl false))) (sNx)) (sRet (dAnd (dOr (dOp eqD (dVar 2) (dC (.str "whole"))) (dOp eqD (dVar 2) (dC (.str "own")))) (dOr (dOp eqD (dVar 3) (dC (.str "own"))) (dOp eqD (dVar 3) (dC (.str "none")))))))))) ⟨fun _ M' => Lo Q .non M', Lo Q, fun _ _ => False, fun _ _ => False, Xd⟩ [some a0, none, none, none] M) : Wis_rule K c [a0] M Q Xd := h
def N__need_bounds : List Str := ["number", "land", "low", "high"]
def B_need_bounds (K : Fg) (c : Nat → Addr) : TSD := sSeq (sIf (tOrD (tNotD (dTru (dCB isiC (dCons (dVar 1) (dCons (dC (.ty "str")) (dNil)))))) (tAndD (dTst (dOp neD (dVar 1) (dC (.str "here")))) (dTst (dOp neD (dVar 1) (dC (.str "away")))))) (sRaise (c 1) ["part", "number"] (dCons (dVar 0) (dCons (dC (.str "land")) (dNil)))) (sNx)) (sSeq (sIf (tOrD (tNotD (dTru (dCB isiC (dCons (dVar 2) (dCons (dC (.ty "int")) (dNil)))))) (tOrD (dTru (dCB isiC (dCons (dVar 2) (dCons (dC (.ty "bool")) (dNil))))) (tNotD (dTst (dChain leD leD (dC (.int 0)) (dVar 2) (dC (.int 1000000))))))) (sRaise (c 1) ["part", "number"] (dCons (dVar 0) (dCons (dC (.str "low")) (dNil)))) (sNx)) (sIf (tOrD (tNotD (dTru (dCB isiC (dCons (dVar 3) (dCons (dC (.ty "int")) (dNil)))))) (tOrD (dTru (dCB isiC (dCons (dVar 3) (dCons (dC (.ty "bool")) (dNil))))) (tNotD (dTst (dChain leD leD (dVar 2) (dVar 3) (dC (.int 1000000))))))) (sRaise (c 1) ["part", "number"] (dCons (dVar 0) (dCons (dC (.str "high")) (dNil)))) (sNx)))
def W_need_bounds (K : Fg) (c : Nat → Addr) : SpD := bodyD (B_need_bounds K c) N__need_bounds
theorem E_need_bounds {K : Fg} {c : Nat → Addr} {a0 a1 a2 a3 : D} {M : Mem} {Q : QD} {Xd : XD} (h : (sSeq (sIf (tOrD (tNotD (dTru (dCB isiC (dCons (dVar 1) (dCons (dC (.ty "str")) (dNil)))))) (tAndD (dTst (dOp neD (dVar 1) (dC (.str "here")))) (dTst (dOp neD (dVar 1) (dC (.str "away")))))) (sRaise (c 1) ["part", "number"] (dCons (dVar 0) (dCons (dC (.str "land")) (dNil)))) (sNx)) (sSeq (sIf (tOrD (tNotD (dTru (dCB isiC (dCons (dVar 2) (dCons (dC (.ty "int")) (dNil)))))) (tOrD (dTru (dCB isiC (dCons (dVar 2) (dCons (dC (.ty "bool")) (dNil))))) (tNotD (dTst (dChain leD leD (dC (.int 0)) (dVar 2) (dC (.int 1000000))))))) (sRaise (c 1) ["part", "number"] (dCons (dVar 0) (dCons (dC (.str "low")) (dNil)))) (sNx)) (sIf (tOrD (tNotD (dTru (dCB isiC (dCons (dVar 3) (dCons (dC (.ty "int")) (dNil)))))) (tOrD (dTru (dCB isiC (dCons (dVar 3) (dCons (dC (.ty "bool")) (dNil))))) (tNotD (dTst (dChain leD leD (dVar 2) (dVar 3) (dC (.int 1000000))))))) (sRaise (c 1) ["part", "number"] (dCons (dVar 0) (dCons (dC (.str "high")) (dNil)))) (sNx)))) ⟨fun _ M' => Lo Q .non M', Lo Q, fun _ _ => False, fun _ _ => False, Xd⟩ [some a0, some a1, some a2, some a3] M) : W_need_bounds K c [a0, a1, a2, a3] M Q Xd := h
def N__need_making : List Str := ["number", "rule", "parts"]
def B_need_making (K : Fg) (c : Nat → Addr) : TSD := sSeq (sIf (tNotD (dTru (dCall (Wis_rule K c) [] (dCons (dVar 1) (dNil))))) (sRaise (c 1) ["part", "number"] (dCons (dVar 0) (dCons (dC (.str "rule")) (dNil)))) (sNx)) (sIf (tOrD (tNotD (dTru (dCB isiC (dCons (dVar 2) (dCons (dC (.ty "tuple")) (dNil)))))) (tNotD (dTst (dChain leD leD (dC (.int 1)) (dCB lenC (dCons (dVar 2) (dNil))) (dC (.int 4)))))) (sRaise (c 1) ["part", "number"] (dCons (dVar 0) (dCons (dC (.str "parts")) (dNil)))) (sNx))
def W_need_making (K : Fg) (c : Nat → Addr) : SpD := bodyD (B_need_making K c) N__need_making
theorem E_need_making {K : Fg} {c : Nat → Addr} {a0 a1 a2 : D} {M : Mem} {Q : QD} {Xd : XD} (h : (sSeq (sIf (tNotD (dTru (dCall (Wis_rule K c) [] (dCons (dVar 1) (dNil))))) (sRaise (c 1) ["part", "number"] (dCons (dVar 0) (dCons (dC (.str "rule")) (dNil)))) (sNx)) (sIf (tOrD (tNotD (dTru (dCB isiC (dCons (dVar 2) (dCons (dC (.ty "tuple")) (dNil)))))) (tNotD (dTst (dChain leD leD (dC (.int 1)) (dCB lenC (dCons (dVar 2) (dNil))) (dC (.int 4)))))) (sRaise (c 1) ["part", "number"] (dCons (dVar 0) (dCons (dC (.str "parts")) (dNil)))) (sNx))) ⟨fun _ M' => Lo Q .non M', Lo Q, fun _ _ => False, fun _ _ => False, Xd⟩ [some a0, some a1, some a2] M) : W_need_making K c [a0, a1, a2] M Q Xd := h
def N__look_at : List Str := ["thing", "whole", "found", "wholes", "made", "moving", "number", "word", "is_step", "parts", "_", "land", "low", "high", "rule", "part"]
def B_look_at (K : Fg) (c : Nat → Addr) (self : SpD) : TSD := sSeq (sSet 6 (dCB lenC (dCons (dVar 2) (dNil)))) (sSeq (sSet 7 (dIte (tAndD (dTru (dCB isiC (dCons (dVar 0) (dCons (dC (.ty "tuple")) (dNil))))) (dTst (dOp gtD (dCB lenC (dCons (dVar 0) (dNil))) (dC (.int 0))))) (dOp ixD (dVar 0) (dC (.int 0))) (dC .non))) (sSeq (sSet 8 (dAnd (dCB isiC (dCons (dVar 7) (dCons (dC (.ty "str")) (dNil)))) (dOp eqD (dVar 7) (dC (.str "made"))))) (sSeq (sIf (dTru (dVar 8)) (sExpr (dApp (dVar 4) (dVar 6))) (sNx)) (sSeq (sIf (tOrD (dTst (dOp eqD (dVar 6) (dC (.int 10)))) (dTst (dOp gtD (dCB lenC (dCons (dVar 4) (dNil))) (dC (.int 4))))) (sRaise (c 1) ["part", "number"] (dCons (dVar 6) (dCons (dC (.str "many")) (dNil)))) (sNx)) (sSeq (sSet 9 (dTup (dNil))) (sSeq (sIf (tAndD (dTru (dVar 8)) (dTst (dOp eqD (dCB lenC (dCons (dVar 0) (dNil))) (dC (.int 6))))) (sSeq (sAsg (dVar 0) (gTp 6 (gCo (gNm 10) (gCo (gNm 11) (gCo (gNm 12) (gCo (gNm 13) (gCo (gNm 14) (gCo (gNm 9) (gNi))))))))) (sSeq (sExpr (dCall (W_need_bounds K c) [] (dCons (dVar 6) (dCons (dVar 11) (dCons (dVar 12) (dCons (dVar 13) (dNil))))))) (sExpr (dCall (W_need_making K c) [] (dCons (dVar 6) (dCons (dVar 14) (dCons (dVar 9) (dNil)))))))) (sIf (tAndD (dTru (dCB isiC (dCons (dVar 7) (dCons (dC (.ty "str")) (dNil))))) (tAndD (dTst (dOp eqD (dVar 7) (dC (.str "raw")))) (dTst (dOp eqD (dCB lenC (dCons (dVar 0) (dNil))) (dC (.int 4)))))) (sSeq (sAsg (dVar 0) (gTp 4 (gCo (gNm 10) (gCo (gNm 11) (gCo (gNm 12) (gCo (gNm 13) (gNi))))))) (sExpr (dCall (W_need_bounds K c) [] (dCons (dVar 6) (dCons (dVar 11) (dCons (dVar 12) (dCons (dVar 13) (dNil)))))))) (sRaise (c 1) ["part", "number"] (dCons (dVar 6) (dCons (dC (.str "form")) (dNil)))))) (sSeq (sExpr (dApp (dVar 2) (dVar 0))) (sSeq (sExpr (dApp (dVar 3) (dVar 1))) (sSeq (sIf (dTst (dOp ltD (dVar 12) (dVar 13))) (sExpr (dApp (dVar 5) (dVar 6))) (sNx)) (sFor (iSeqD (dVar 9)) (gNm 15) (sExpr (dCall self [] (dCons (dVar 15) (dCons (dVar 6) (dCons (dVar 2) (dCons (dVar 3) (dCons (dVar 4) (dCons (dVar 5) (dNil)))))))))))))))))))
def W_look_at (K : Fg) (c : Nat → Addr) : Nat → SpD
  | 0 => fun _ _ _ _ => False
  | n + 1 => bodyD (B_look_at K c (W_look_at K c n)) N__look_at
theorem E_look_at {K : Fg} {c : Nat → Addr} {a0 a1 a2 a3 a4 a5 : D} {n : Nat} {M : Mem} {Q : QD} {Xd : XD} (h : (sSeq (sSet 6 (dCB lenC (dCons (dVar 2) (dNil)))) (sSeq (sSet 7 (dIte (tAndD (dTru (dCB isiC (dCons (dVar 0) (dCons (dC (.ty "tuple")) (dNil))))) (dTst (dOp gtD (dCB lenC (dCons (dVar 0) (dNil))) (dC (.int 0))))) (dOp ixD (dVar 0) (dC (.int 0))) (dC .non))) (sSeq (sSet 8 (dAnd (dCB isiC (dCons (dVar 7) (dCons (dC (.ty "str")) (dNil)))) (dOp eqD (dVar 7) (dC (.str "made"))))) (sSeq (sIf (dTru (dVar 8)) (sExpr (dApp (dVar 4) (dVar 6))) (sNx)) (sSeq (sIf (tOrD (dTst (dOp eqD (dVar 6) (dC (.int 10)))) (dTst (dOp gtD (dCB lenC (dCons (dVar 4) (dNil))) (dC (.int 4))))) (sRaise (c 1) ["part", "number"] (dCons (dVar 6) (dCons (dC (.str "many")) (dNil)))) (sNx)) (sSeq (sSet 9 (dTup (dNil))) (sSeq (sIf (tAndD (dTru (dVar 8)) (dTst (dOp eqD (dCB lenC (dCons (dVar 0) (dNil))) (dC (.int 6))))) (sSeq (sAsg (dVar 0) (gTp 6 (gCo (gNm 10) (gCo (gNm 11) (gCo (gNm 12) (gCo (gNm 13) (gCo (gNm 14) (gCo (gNm 9) (gNi))))))))) (sSeq (sExpr (dCall (W_need_bounds K c) [] (dCons (dVar 6) (dCons (dVar 11) (dCons (dVar 12) (dCons (dVar 13) (dNil))))))) (sExpr (dCall (W_need_making K c) [] (dCons (dVar 6) (dCons (dVar 14) (dCons (dVar 9) (dNil)))))))) (sIf (tAndD (dTru (dCB isiC (dCons (dVar 7) (dCons (dC (.ty "str")) (dNil))))) (tAndD (dTst (dOp eqD (dVar 7) (dC (.str "raw")))) (dTst (dOp eqD (dCB lenC (dCons (dVar 0) (dNil))) (dC (.int 4)))))) (sSeq (sAsg (dVar 0) (gTp 4 (gCo (gNm 10) (gCo (gNm 11) (gCo (gNm 12) (gCo (gNm 13) (gNi))))))) (sExpr (dCall (W_need_bounds K c) [] (dCons (dVar 6) (dCons (dVar 11) (dCons (dVar 12) (dCons (dVar 13) (dNil)))))))) (sRaise (c 1) ["part", "number"] (dCons (dVar 6) (dCons (dC (.str "form")) (dNil)))))) (sSeq (sExpr (dApp (dVar 2) (dVar 0))) (sSeq (sExpr (dApp (dVar 3) (dVar 1))) (sSeq (sIf (dTst (dOp ltD (dVar 12) (dVar 13))) (sExpr (dApp (dVar 5) (dVar 6))) (sNx)) (sFor (iSeqD (dVar 9)) (gNm 15) (sExpr (dCall (W_look_at K c n) [] (dCons (dVar 15) (dCons (dVar 6) (dCons (dVar 2) (dCons (dVar 3) (dCons (dVar 4) (dCons (dVar 5) (dNil)))))))))))))))))))) ⟨fun _ M' => Lo Q .non M', Lo Q, fun _ _ => False, fun _ _ => False, Xd⟩ [some a0, some a1, some a2, some a3, some a4, some a5, none, none, none, none, none, none, none, none, none, none] M) : W_look_at K c (n + 1) [a0, a1, a2, a3, a4, a5] M Q Xd := h
def N_look_over : List Str := ["good", "found", "wholes", "made", "moving", "thing"]
def Blook_over (K : Fg) (c : Nat → Addr) : TSD := sSeq (sAsg (dTup (dCons (dLstO (dNil)) (dCons (dLstO (dNil)) (dCons (dLstO (dNil)) (dCons (dLstO (dNil)) (dNil)))))) (gTp 4 (gCo (gNm 1) (gCo (gNm 2) (gCo (gNm 3) (gCo (gNm 4) (gNi))))))) (sSeq (sExpr (dCall (W_look_at K c 8) [] (dCons (dVar 0) (dCons (dC .non) (dCons (dVar 1) (dCons (dVar 2) (dCons (dVar 3) (dCons (dVar 4) (dNil))))))))) (sSeq (sIf (dTst (dOp eqD (dCB lenC (dCons (dVar 3) (dNil))) (dC (.int 0)))) (sRaise (c 1) ["part", "number"] (dCons (dC (.int 0)) (dCons (dC (.str "raw")) (dNil)))) (sNx)) (sSeq (sIf (dTst (dOp gtD (dCB lenC (dCons (dVar 4) (dNil))) (dC (.int 3)))) (sRaise (c 1) ["part", "number"] (dCons (dC (.int 0)) (dCons (dC (.str "moves")) (dNil)))) (sNx)) (sSeq (sFor (iSeqD (dVar 1)) (gNm 5) (sIf (dTst (dOp gtD (dOp ixD (dVar 5) (dC (.int 2))) (dC (.int 0)))) (sRet (dTup (dCons (dVar 1) (dCons (dVar 2) (dCons (dVar 3) (dCons (dVar 4) (dNil))))))) (sNx))) (sRaise (c 1) ["part", "number"] (dCons (dC (.int 0)) (dCons (dC (.str "nothing")) (dNil))))))))
def Wlook_over (K : Fg) (c : Nat → Addr) : SpD := bodyD (Blook_over K c) N_look_over
theorem Elook_over {K : Fg} {c : Nat → Addr} {a0 : D} {M : Mem} {Q : QD} {Xd : XD} (h : (sSeq (sAsg (dTup (dCons (dLstO (dNil)) (dCons (dLstO (dNil)) (dCons (dLstO (dNil)) (dCons (dLstO (dNil)) (dNil)))))) (gTp 4 (gCo (gNm 1) (gCo (gNm 2) (gCo (gNm 3) (gCo (gNm 4) (gNi))))))) (sSeq (sExpr (dCall (W_look_at K c 8) [] (dCons (dVar 0) (dCons (dC .non) (dCons (dVar 1) (dCons (dVar 2) (dCons (dVar 3) (dCons (dVar 4) (dNil))))))))) (sSeq (sIf (dTst (dOp eqD (dCB lenC (dCons (dVar 3) (dNil))) (dC (.int 0)))) (sRaise (c 1) ["part", "number"] (dCons (dC (.int 0)) (dCons (dC (.str "raw")) (dNil)))) (sNx)) (sSeq (sIf (dTst (dOp gtD (dCB lenC (dCons (dVar 4) (dNil))) (dC (.int 3)))) (sRaise (c 1) ["part", "number"] (dCons (dC (.int 0)) (dCons (dC (.str "moves")) (dNil)))) (sNx)) (sSeq (sFor (iSeqD (dVar 1)) (gNm 5) (sIf (dTst (dOp gtD (dOp ixD (dVar 5) (dC (.int 2))) (dC (.int 0)))) (sRet (dTup (dCons (dVar 1) (dCons (dVar 2) (dCons (dVar 3) (dCons (dVar 4) (dNil))))))) (sNx))) (sRaise (c 1) ["part", "number"] (dCons (dC (.int 0)) (dCons (dC (.str "nothing")) (dNil))))))))) ⟨fun _ M' => Lo Q .non M', Lo Q, fun _ _ => False, fun _ _ => False, Xd⟩ [some a0, none, none, none, none, none] M) : Wlook_over K c [a0] M Q Xd := h
def N_need_good : List Str := ["thing"]
def Bneed_good (K : Fg) (c : Nat → Addr) : TSD := sSeq (sExpr (dCall (Wlook_over K c) [] (dCons (dVar 0) (dNil)))) (sRet (dVar 0))
def Wneed_good (K : Fg) (c : Nat → Addr) : SpD := bodyD (Bneed_good K c) N_need_good
theorem Eneed_good {K : Fg} {c : Nat → Addr} {a0 : D} {M : Mem} {Q : QD} {Xd : XD} (h : (sSeq (sExpr (dCall (Wlook_over K c) [] (dCons (dVar 0) (dNil)))) (sRet (dVar 0))) ⟨fun _ M' => Lo Q .non M', Lo Q, fun _ _ => False, fun _ _ => False, Xd⟩ [some a0] M) : Wneed_good K c [a0] M Q Xd := h
def N_things : List Str := ["good", "found", "_"]
def Bthings (K : Fg) (c : Nat → Addr) : TSD := sSeq (sAsg (dCall (Wlook_over K c) [] (dCons (dVar 0) (dNil))) (gTp 4 (gCo (gNm 1) (gCo (gNm 2) (gCo (gNm 2) (gCo (gNm 2) (gNi))))))) (sRet (dCB tupleC (dCons (dVar 1) (dNil))))
def Wthings (K : Fg) (c : Nat → Addr) : SpD := bodyD (Bthings K c) N_things
theorem Ethings {K : Fg} {c : Nat → Addr} {a0 : D} {M : Mem} {Q : QD} {Xd : XD} (h : (sSeq (sAsg (dCall (Wlook_over K c) [] (dCons (dVar 0) (dNil))) (gTp 4 (gCo (gNm 1) (gCo (gNm 2) (gCo (gNm 2) (gCo (gNm 2) (gNi))))))) (sRet (dCB tupleC (dCons (dVar 1) (dNil))))) ⟨fun _ M' => Lo Q .non M', Lo Q, fun _ _ => False, fun _ _ => False, Xd⟩ [some a0, none, none] M) : Wthings K c [a0] M Q Xd := h
def N_steps : List Str := ["good", "_", "made"]
def Bsteps (K : Fg) (c : Nat → Addr) : TSD := sSeq (sAsg (dCall (Wlook_over K c) [] (dCons (dVar 0) (dNil))) (gTp 4 (gCo (gNm 1) (gCo (gNm 1) (gCo (gNm 2) (gCo (gNm 1) (gNi))))))) (sRet (dCB tupleC (dCons (dVar 2) (dNil))))
def Wsteps (K : Fg) (c : Nat → Addr) : SpD := bodyD (Bsteps K c) N_steps
theorem Esteps {K : Fg} {c : Nat → Addr} {a0 : D} {M : Mem} {Q : QD} {Xd : XD} (h : (sSeq (sAsg (dCall (Wlook_over K c) [] (dCons (dVar 0) (dNil))) (gTp 4 (gCo (gNm 1) (gCo (gNm 1) (gCo (gNm 2) (gCo (gNm 1) (gNi))))))) (sRet (dCB tupleC (dCons (dVar 2) (dNil))))) ⟨fun _ M' => Lo Q .non M', Lo Q, fun _ _ => False, fun _ _ => False, Xd⟩ [some a0, none, none] M) : Wsteps K c [a0] M Q Xd := h
def N_moves : List Str := ["good", "_", "moving"]
def Bmoves (K : Fg) (c : Nat → Addr) : TSD := sSeq (sAsg (dCall (Wlook_over K c) [] (dCons (dVar 0) (dNil))) (gTp 4 (gCo (gNm 1) (gCo (gNm 1) (gCo (gNm 1) (gCo (gNm 2) (gNi))))))) (sRet (dCB tupleC (dCons (dVar 2) (dNil))))
def Wmoves (K : Fg) (c : Nat → Addr) : SpD := bodyD (Bmoves K c) N_moves
theorem Emoves {K : Fg} {c : Nat → Addr} {a0 : D} {M : Mem} {Q : QD} {Xd : XD} (h : (sSeq (sAsg (dCall (Wlook_over K c) [] (dCons (dVar 0) (dNil))) (gTp 4 (gCo (gNm 1) (gCo (gNm 1) (gCo (gNm 1) (gCo (gNm 2) (gNi))))))) (sRet (dCB tupleC (dCons (dVar 2) (dNil))))) ⟨fun _ M' => Lo Q .non M', Lo Q, fun _ _ => False, fun _ _ => False, Xd⟩ [some a0, none, none] M) : Wmoves K c [a0] M Q Xd := h
def N_lows : List Str := ["good", "thing"]
def Blows (K : Fg) (c : Nat → Addr) : TSD := sRet (dCB tupleC (dCons (dLc (iSeqD (dCall (Wthings K c) [] (dCons (dVar 0) (dNil)))) (gNm 1) (tYesD) (dTup (dCons (dOp ixD (dVar 1) (dC (.int 2))) (dCons (dC (.int 1)) (dNil)))) [1]) (dNil)))
def Wlows (K : Fg) (c : Nat → Addr) : SpD := bodyD (Blows K c) N_lows
theorem Elows {K : Fg} {c : Nat → Addr} {a0 : D} {M : Mem} {Q : QD} {Xd : XD} (h : (sRet (dCB tupleC (dCons (dLc (iSeqD (dCall (Wthings K c) [] (dCons (dVar 0) (dNil)))) (gNm 1) (tYesD) (dTup (dCons (dOp ixD (dVar 1) (dC (.int 2))) (dCons (dC (.int 1)) (dNil)))) [1]) (dNil)))) ⟨fun _ M' => Lo Q .non M', Lo Q, fun _ _ => False, fun _ _ => False, Xd⟩ [some a0, none] M) : Wlows K c [a0] M Q Xd := h
def N_highs : List Str := ["good", "thing"]
def Bhighs (K : Fg) (c : Nat → Addr) : TSD := sRet (dCB tupleC (dCons (dLc (iSeqD (dCall (Wthings K c) [] (dCons (dVar 0) (dNil)))) (gNm 1) (tYesD) (dTup (dCons (dOp ixD (dVar 1) (dC (.int 3))) (dCons (dC (.int 1)) (dNil)))) [1]) (dNil)))
def Whighs (K : Fg) (c : Nat → Addr) : SpD := bodyD (Bhighs K c) N_highs
theorem Ehighs {K : Fg} {c : Nat → Addr} {a0 : D} {M : Mem} {Q : QD} {Xd : XD} (h : (sRet (dCB tupleC (dCons (dLc (iSeqD (dCall (Wthings K c) [] (dCons (dVar 0) (dNil)))) (gNm 1) (tYesD) (dTup (dCons (dOp ixD (dVar 1) (dC (.int 3))) (dCons (dC (.int 1)) (dNil)))) [1]) (dNil)))) ⟨fun _ M' => Lo Q .non M', Lo Q, fun _ _ => False, fun _ _ => False, Xd⟩ [some a0, none] M) : Whighs K c [a0] M Q Xd := h
def N__law_begun : List Str := ["script", "great", "cell"]
def B_law_begun (K : Fg) (c : Nat → Addr) : TSD := sSeq (sSet 1 (dLc (iSeqD (dVar 0)) (gNm 2) (dTst (dOp geD (dVar 2) (dOp powD (dC (.int 10)) (dC (.int 18))))) (dVar 2) [2])) (sRet (dDct [(.inr "cells", dOp addD (dCB listC (dCons (dVar 0) (dNil))) (dLst (dCons (dCB lenC (dCons (dVar 0) (dNil))) (dNil)))), (.inr "left", dIte (dTst (dOp neD (dVar 1) (dLst (dNil)))) (dOp ixD (dVar 1) (dC (.int 0))) (dC (.int 0))), (.inr "spot", dC (.int 0))]))
def W_law_begun (K : Fg) (c : Nat → Addr) : SpD := bodyD (B_law_begun K c) N__law_begun
theorem E_law_begun {K : Fg} {c : Nat → Addr} {a0 : D} {M : Mem} {Q : QD} {Xd : XD} (h : (sSeq (sSet 1 (dLc (iSeqD (dVar 0)) (gNm 2) (dTst (dOp geD (dVar 2) (dOp powD (dC (.int 10)) (dC (.int 18))))) (dVar 2) [2])) (sRet (dDct [(.inr "cells", dOp addD (dCB listC (dCons (dVar 0) (dNil))) (dLst (dCons (dCB lenC (dCons (dVar 0) (dNil))) (dNil)))), (.inr "left", dIte (dTst (dOp neD (dVar 1) (dLst (dNil)))) (dOp ixD (dVar 1) (dC (.int 0))) (dC (.int 0))), (.inr "spot", dC (.int 0))]))) ⟨fun _ M' => Lo Q .non M', Lo Q, fun _ _ => False, fun _ _ => False, Xd⟩ [some a0, none, none] M) : W_law_begun K c [a0] M Q Xd := h
def N__law_draw : List Str := ["m", "limit", "found", "spot", "cell", "mixed"]
def B_law_draw (K : Fg) (c : Nat → Addr) : TSD := sSeq (sIf (dTst (dOp gtD (dOp ixD (dVar 0) (dC (.str "left"))) (dC (.int 0)))) (sSeq (sSet 2 (dOp modD (dCB intC (dCons (dOp ixD (dVar 0) (dC (.str "left"))) (dNil))) (dVar 1))) (sSeq (sAsg (dOp fdivD (dOp ixD (dVar 0) (dC (.str "left"))) (dVar 1)) (gSb (dVar 0) (dC (.str "left")))) (sRet (dVar 2)))) (sNx)) (sSeq (sSet 3 (dOp addD (dOp ixD (dVar 0) (dC (.str "spot"))) (dC (.int 1)))) (sSeq (sAsg (dVar 3) (gSb (dVar 0) (dC (.str "spot")))) (sSeq (sSet 4 (dOp ixD (dOp ixD (dVar 0) (dC (.str "cells"))) (dOp modD (dCB intC (dCons (dVar 3) (dNil))) (dCB lenC (dCons (dOp ixD (dVar 0) (dC (.str "cells"))) (dNil)))))) (sSeq (sSet 5 (dOp mulD (dCB intC (dCons (dOp addD (dOp addD (dOp modD (dCB intC (dCons (dVar 4) (dNil))) (dC (.int 2147483629))) (dOp mulD (dC (.int 6133)) (dVar 3))) (dOp mulD (dOp mulD (dC (.int 23)) (dVar 3)) (dVar 3))) (dNil))) (dC (.int 48271)))) (sSeq (sSet 5 (dOp mulD (dCB intC (dCons (dOp addD (dOp modD (dCB intC (dCons (dVar 5) (dNil))) (dC (.int 2147483647))) (dOp mulD (dC (.int 93241)) (dVar 3))) (dNil))) (dC (.int 69621)))) (sRet (dOp modD (dCB intC (dCons (dOp fdivD (dOp modD (dCB intC (dCons (dVar 5) (dNil))) (dC (.int 2147483587))) (dC (.int 13))) (dNil))) (dVar 1))))))))
def W_law_draw (K : Fg) (c : Nat → Addr) : SpD := bodyD (B_law_draw K c) N__law_draw
def N__law_of : List Str := ["m", "some"]
def B_law_of (K : Fg) (c : Nat → Addr) : TSD := sRet (dOp ixD (dVar 1) (dCall (W_law_draw K c) [] (dCons (dVar 0) (dCons (dCB lenC (dCons (dVar 1) (dNil))) (dNil)))))
def W_law_of (K : Fg) (c : Nat → Addr) : SpD := bodyD (B_law_of K c) N__law_of
theorem E_law_of {K : Fg} {c : Nat → Addr} {a0 a1 : D} {M : Mem} {Q : QD} {Xd : XD} (h : (sRet (dOp ixD (dVar 1) (dCall (W_law_draw K c) [] (dCons (dVar 0) (dCons (dCB lenC (dCons (dVar 1) (dNil))) (dNil)))))) ⟨fun _ M' => Lo Q .non M', Lo Q, fun _ _ => False, fun _ _ => False, Xd⟩ [some a0, some a1] M) : W_law_of K c [a0, a1] M Q Xd := h
def N__law_span : List Str := ["m", "left", "low"]
def B_law_span (K : Fg) (c : Nat → Addr) : TSD := sSeq (sSet 2 (dCall (W_law_of K c) [] (dCons (dVar 0) (dCons (dLst (dCons (dC (.int 0)) (dCons (dC (.int 1)) (dCons (dC (.int 2)) (dCons (dC (.int 5)) (dCons (dC (.int 10)) (dCons (dCall (W_law_draw K c) [] (dCons (dVar 0) (dCons (dC (.int 50)) (dNil)))) (dCons (dCall (W_law_draw K c) [] (dCons (dVar 0) (dCons (dOp subD (dOp powD (dC (.int 10)) (dC (.int 6))) (dC (.int 40))) (dNil)))) (dNil))))))))) (dNil))))) (sSeq (sIf (tOrD (dTst (dOp eqD (dOp ixD (dVar 1) (dC (.str "moves"))) (dC (.int 0)))) (dTst (dOp eqD (dCall (W_law_draw K c) [] (dCons (dVar 0) (dCons (dC (.int 2)) (dNil)))) (dC (.int 0))))) (sRet (dTup (dCons (dVar 2) (dCons (dVar 2) (dNil))))) (sNx)) (sSeq (sAsg (dOp subD (dOp ixD (dVar 1) (dC (.str "moves"))) (dC (.int 1))) (gSb (dVar 1) (dC (.str "moves")))) (sRet (dTup (dCons (dVar 2) (dCons (dOp addD (dOp addD (dVar 2) (dC (.int 1))) (dCall (W_law_of K c) [] (dCons (dVar 0) (dCons (dLst (dCons (dC (.int 0)) (dCons (dC (.int 1)) (dCons (dCall (W_law_draw K c) [] (dCons (dVar 0) (dCons (dC (.int 30)) (dNil)))) (dNil))))) (dNil))))) (dNil)))))))
def W_law_span (K : Fg) (c : Nat → Addr) : SpD := bodyD (B_law_span K c) N__law_span
theorem E_law_span {K : Fg} {c : Nat → Addr} {a0 a1 : D} {M : Mem} {Q : QD} {Xd : XD} (h : (sSeq (sSet 2 (dCall (W_law_of K c) [] (dCons (dVar 0) (dCons (dLst (dCons (dC (.int 0)) (dCons (dC (.int 1)) (dCons (dC (.int 2)) (dCons (dC (.int 5)) (dCons (dC (.int 10)) (dCons (dCall (W_law_draw K c) [] (dCons (dVar 0) (dCons (dC (.int 50)) (dNil)))) (dCons (dCall (W_law_draw K c) [] (dCons (dVar 0) (dCons (dOp subD (dOp powD (dC (.int 10)) (dC (.int 6))) (dC (.int 40))) (dNil)))) (dNil))))))))) (dNil))))) (sSeq (sIf (tOrD (dTst (dOp eqD (dOp ixD (dVar 1) (dC (.str "moves"))) (dC (.int 0)))) (dTst (dOp eqD (dCall (W_law_draw K c) [] (dCons (dVar 0) (dCons (dC (.int 2)) (dNil)))) (dC (.int 0))))) (sRet (dTup (dCons (dVar 2) (dCons (dVar 2) (dNil))))) (sNx)) (sSeq (sAsg (dOp subD (dOp ixD (dVar 1) (dC (.str "moves"))) (dC (.int 1))) (gSb (dVar 1) (dC (.str "moves")))) (sRet (dTup (dCons (dVar 2) (dCons (dOp addD (dOp addD (dVar 2) (dC (.int 1))) (dCall (W_law_of K c) [] (dCons (dVar 0) (dCons (dLst (dCons (dC (.int 0)) (dCons (dC (.int 1)) (dCons (dCall (W_law_draw K c) [] (dCons (dVar 0) (dCons (dC (.int 30)) (dNil)))) (dNil))))) (dNil))))) (dNil)))))))) ⟨fun _ M' => Lo Q .non M', Lo Q, fun _ _ => False, fun _ _ => False, Xd⟩ [some a0, some a1, none] M) : W_law_span K c [a0, a1] M Q Xd := h
def N__law_term : List Str := ["m", "share"]
def B_law_term (K : Fg) (c : Nat → Addr) : TSD := sSeq (sSet 1 (dCall (W_law_of K c) [] (dCons (dVar 0) (dCons (dLst (dCons (dC (.int 0)) (dCons (dC (.int 30)) (dCons (dC (.int 50)) (dCons (dC (.int 60)) (dCons (dC (.int 100)) (dCons (dCall (W_law_draw K c) [] (dCons (dVar 0) (dCons (dC (.int 101)) (dNil)))) (dNil)))))))) (dNil))))) (sRet (dTup (dCons (dVar 1) (dCons (dCall (W_law_of K c) [] (dCons (dVar 0) (dCons (dLst (dCons (dC (.str "whole")) (dCons (dC (.str "whole")) (dCons (dC (.str "own")) (dNil))))) (dNil)))) (dCons (dCall (W_law_of K c) [] (dCons (dVar 0) (dCons (dLst (dCons (dC (.str "own")) (dCons (dC (.str "own")) (dCons (dC (.str "none")) (dNil))))) (dNil)))) (dNil))))))
def W_law_term (K : Fg) (c : Nat → Addr) : SpD := bodyD (B_law_term K c) N__law_term
theorem E_law_term {K : Fg} {c : Nat → Addr} {a0 : D} {M : Mem} {Q : QD} {Xd : XD} (h : (sSeq (sSet 1 (dCall (W_law_of K c) [] (dCons (dVar 0) (dCons (dLst (dCons (dC (.int 0)) (dCons (dC (.int 30)) (dCons (dC (.int 50)) (dCons (dC (.int 60)) (dCons (dC (.int 100)) (dCons (dCall (W_law_draw K c) [] (dCons (dVar 0) (dCons (dC (.int 101)) (dNil)))) (dNil)))))))) (dNil))))) (sRet (dTup (dCons (dVar 1) (dCons (dCall (W_law_of K c) [] (dCons (dVar 0) (dCons (dLst (dCons (dC (.str "whole")) (dCons (dC (.str "whole")) (dCons (dC (.str "own")) (dNil))))) (dNil)))) (dCons (dCall (W_law_of K c) [] (dCons (dVar 0) (dCons (dLst (dCons (dC (.str "own")) (dCons (dC (.str "own")) (dCons (dC (.str "none")) (dNil))))) (dNil)))) (dNil))))))) ⟨fun _ M' => Lo Q .non M', Lo Q, fun _ _ => False, fun _ _ => False, Xd⟩ [some a0, none] M) : W_law_term K c [a0] M Q Xd := h
def N__law_thing : List Str := ["m", "left", "must", "low", "high", "land", "size", "rows", "k"]
def B_law_thing (K : Fg) (c : Nat → Addr) (self : SpD) : TSD := sSeq (sAsg (dCall (W_law_span K c) [] (dCons (dVar 0) (dCons (dVar 1) (dNil)))) (gTp 2 (gCo (gNm 3) (gCo (gNm 4) (gNi))))) (sSeq (sSet 5 (dCall (W_law_of K c) [] (dCons (dVar 0) (dCons (dLst (dCons (dC (.str "here")) (dCons (dC (.str "away")) (dNil)))) (dNil))))) (sSeq (sIf (tAndD (tNotD (dTru (dVar 2))) (tOrD (dTst (dOp eqD (dOp ixD (dVar 1) (dC (.str "steps"))) (dC (.int 0)))) (tOrD (dTst (dOp eqD (dOp ixD (dVar 1) (dC (.str "things"))) (dC (.int 0)))) (dTst (dOp gtD (dCall (W_law_draw K c) [] (dCons (dVar 0) (dCons (dC (.int 3)) (dNil)))) (dC (.int 0))))))) (sRet (dTup (dCons (dC (.str "raw")) (dCons (dVar 5) (dCons (dVar 3) (dCons (dVar 4) (dNil))))))) (sNx)) (sSeq (sAsg (dOp subD (dOp ixD (dVar 1) (dC (.str "steps"))) (dC (.int 1))) (gSb (dVar 1) (dC (.str "steps")))) (sSeq (sSet 6 (dOp addD (dC (.int 1)) (dCall (W_law_draw K c) [] (dCons (dVar 0) (dCons (dCB (int2C (fun i j => if j < i then j else i)) (dCons (dC (.int 3)) (dCons (dOp ixD (dVar 1) (dC (.str "things"))) (dNil)))) (dNil)))))) (sSeq (sAsg (dTup (dCons (dOp subD (dOp ixD (dVar 1) (dC (.str "things"))) (dVar 6)) (dCons (dLstO (dNil)) (dNil)))) (gTp 2 (gCo (gSb (dVar 1) (dC (.str "things"))) (gCo (gNm 7) (gNi))))) (sSeq (sFor (iRngD (dCons (dVar 6) (dNil))) (gNm 8) (sExpr (dApp (dVar 7) (dCall self [] (dCons (dVar 0) (dCons (dVar 1) (dCons (dC (.bl false)) (dNil)))))))) (sRet (dTup (dCons (dC (.str "made")) (dCons (dVar 5) (dCons (dVar 3) (dCons (dVar 4) (dCons (dCall (W_law_term K c) [] (dCons (dVar 0) (dNil))) (dCons (dCB tupleC (dCons (dVar 7) (dNil))) (dNil)))))))))))))))
def W_law_thing (K : Fg) (c : Nat → Addr) : Nat → SpD
  | 0 => fun _ _ _ _ => False
  | n + 1 => bodyD (B_law_thing K c (W_law_thing K c n)) N__law_thing
theorem E_law_thing {K : Fg} {c : Nat → Addr} {a0 a1 a2 : D} {n : Nat} {M : Mem} {Q : QD} {Xd : XD} (h : (sSeq (sAsg (dCall (W_law_span K c) [] (dCons (dVar 0) (dCons (dVar 1) (dNil)))) (gTp 2 (gCo (gNm 3) (gCo (gNm 4) (gNi))))) (sSeq (sSet 5 (dCall (W_law_of K c) [] (dCons (dVar 0) (dCons (dLst (dCons (dC (.str "here")) (dCons (dC (.str "away")) (dNil)))) (dNil))))) (sSeq (sIf (tAndD (tNotD (dTru (dVar 2))) (tOrD (dTst (dOp eqD (dOp ixD (dVar 1) (dC (.str "steps"))) (dC (.int 0)))) (tOrD (dTst (dOp eqD (dOp ixD (dVar 1) (dC (.str "things"))) (dC (.int 0)))) (dTst (dOp gtD (dCall (W_law_draw K c) [] (dCons (dVar 0) (dCons (dC (.int 3)) (dNil)))) (dC (.int 0))))))) (sRet (dTup (dCons (dC (.str "raw")) (dCons (dVar 5) (dCons (dVar 3) (dCons (dVar 4) (dNil))))))) (sNx)) (sSeq (sAsg (dOp subD (dOp ixD (dVar 1) (dC (.str "steps"))) (dC (.int 1))) (gSb (dVar 1) (dC (.str "steps")))) (sSeq (sSet 6 (dOp addD (dC (.int 1)) (dCall (W_law_draw K c) [] (dCons (dVar 0) (dCons (dCB (int2C (fun i j => if j < i then j else i)) (dCons (dC (.int 3)) (dCons (dOp ixD (dVar 1) (dC (.str "things"))) (dNil)))) (dNil)))))) (sSeq (sAsg (dTup (dCons (dOp subD (dOp ixD (dVar 1) (dC (.str "things"))) (dVar 6)) (dCons (dLstO (dNil)) (dNil)))) (gTp 2 (gCo (gSb (dVar 1) (dC (.str "things"))) (gCo (gNm 7) (gNi))))) (sSeq (sFor (iRngD (dCons (dVar 6) (dNil))) (gNm 8) (sExpr (dApp (dVar 7) (dCall (W_law_thing K c n) [] (dCons (dVar 0) (dCons (dVar 1) (dCons (dC (.bl false)) (dNil)))))))) (sRet (dTup (dCons (dC (.str "made")) (dCons (dVar 5) (dCons (dVar 3) (dCons (dVar 4) (dCons (dCall (W_law_term K c) [] (dCons (dVar 0) (dNil))) (dCons (dCB tupleC (dCons (dVar 7) (dNil))) (dNil)))))))))))))))) ⟨fun _ M' => Lo Q .non M', Lo Q, fun _ _ => False, fun _ _ => False, Xd⟩ [some a0, some a1, some a2, none, none, none, none, none, none] M) : W_law_thing K c (n + 1) [a0, a1, a2] M Q Xd := h
def N__law_good : List Str := ["m", "moving", "making", "left", "found"]
def B_law_good (K : Fg) (c : Nat → Addr) : TSD := sSeq (sSet 3 (dDct [(.inr "moves", dCall (W_law_draw K c) [] (dCons (dVar 0) (dCons (dOp addD (dVar 1) (dC (.int 1))) (dNil)))), (.inr "steps", dOp addD (dC (.int 1)) (dCall (W_law_draw K c) [] (dCons (dVar 0) (dCons (dVar 2) (dNil))))), (.inr "things", dC (.int 9))])) (sSeq (sSet 4 (dCall (W_law_thing K c 8) [] (dCons (dVar 0) (dCons (dVar 3) (dCons (dC (.bl true)) (dNil)))))) (sRet (dOp addD (dOp addD (dSl (dVar 4) (oNo) (oSo (dC (.int 2)))) (dTup (dCons (dCB (int2C (fun i j => if j > i then j else i)) (dCons (dC (.int 1)) (dCons (dOp ixD (dVar 4) (dC (.int 2))) (dNil)))) (dCons (dCB (int2C (fun i j => if j > i then j else i)) (dCons (dC (.int 1)) (dCons (dOp ixD (dVar 4) (dC (.int 3))) (dNil)))) (dNil))))) (dSl (dVar 4) (oSo (dC (.int 4))) (oNo)))))
def W_law_good (K : Fg) (c : Nat → Addr) : SpD := bodyD (B_law_good K c) N__law_good
theorem E_law_good {K : Fg} {c : Nat → Addr} {a0 a1 a2 : D} {M : Mem} {Q : QD} {Xd : XD} (h : (sSeq (sSet 3 (dDct [(.inr "moves", dCall (W_law_draw K c) [] (dCons (dVar 0) (dCons (dOp addD (dVar 1) (dC (.int 1))) (dNil)))), (.inr "steps", dOp addD (dC (.int 1)) (dCall (W_law_draw K c) [] (dCons (dVar 0) (dCons (dVar 2) (dNil))))), (.inr "things", dC (.int 9))])) (sSeq (sSet 4 (dCall (W_law_thing K c 8) [] (dCons (dVar 0) (dCons (dVar 3) (dCons (dC (.bl true)) (dNil)))))) (sRet (dOp addD (dOp addD (dSl (dVar 4) (oNo) (oSo (dC (.int 2)))) (dTup (dCons (dCB (int2C (fun i j => if j > i then j else i)) (dCons (dC (.int 1)) (dCons (dOp ixD (dVar 4) (dC (.int 2))) (dNil)))) (dCons (dCB (int2C (fun i j => if j > i then j else i)) (dCons (dC (.int 1)) (dCons (dOp ixD (dVar 4) (dC (.int 3))) (dNil)))) (dNil))))) (dSl (dVar 4) (oSo (dC (.int 4))) (oNo)))))) ⟨fun _ M' => Lo Q .non M', Lo Q, fun _ _ => False, fun _ _ => False, Xd⟩ [some a0, some a1, some a2, none, none] M) : W_law_good K c [a0, a1, a2] M Q Xd := h
def N__law_rows : List Str := ["thing", "begin", "found", "numbers", "part"]
def B_law_rows (K : Fg) (c : Nat → Addr) (self : SpD) : TSD := sSeq (sPar 2 3 (dCons (dLst (dNil)) (dCons (dLst (dNil)) (dNil)))) (sSeq (sFor (iSeqD (dIte (dTst (dOp eqD (dOp ixD (dVar 0) (dC (.int 0))) (dC (.str "made")))) (dOp ixD (dVar 0) (dC (.int 5))) (dTup (dNil)))) (gNm 4) (sSeq (sSet 3 (dOp addD (dVar 3) (dLst (dCons (dOp addD (dOp addD (dVar 1) (dC (.int 1))) (dCB lenC (dCons (dVar 2) (dNil)))) (dNil))))) (sSet 2 (dOp addD (dVar 2) (dCall self [] (dCons (dVar 4) (dCons (dOp addD (dOp addD (dVar 1) (dC (.int 1))) (dCB lenC (dCons (dVar 2) (dNil)))) (dNil)))))))) (sRet (dOp addD (dLst (dCons (dTup (dCons (dVar 0) (dCons (dVar 3) (dNil)))) (dNil))) (dVar 2))))
def W_law_rows (K : Fg) (c : Nat → Addr) : Nat → SpD
  | 0 => fun _ _ _ _ => False
  | n + 1 => bodyD (B_law_rows K c (W_law_rows K c n)) N__law_rows
theorem E_law_rows {K : Fg} {c : Nat → Addr} {a0 a1 : D} {n : Nat} {M : Mem} {Q : QD} {Xd : XD} (h : (sSeq (sPar 2 3 (dCons (dLst (dNil)) (dCons (dLst (dNil)) (dNil)))) (sSeq (sFor (iSeqD (dIte (dTst (dOp eqD (dOp ixD (dVar 0) (dC (.int 0))) (dC (.str "made")))) (dOp ixD (dVar 0) (dC (.int 5))) (dTup (dNil)))) (gNm 4) (sSeq (sSet 3 (dOp addD (dVar 3) (dLst (dCons (dOp addD (dOp addD (dVar 1) (dC (.int 1))) (dCB lenC (dCons (dVar 2) (dNil)))) (dNil))))) (sSet 2 (dOp addD (dVar 2) (dCall (W_law_rows K c n) [] (dCons (dVar 4) (dCons (dOp addD (dOp addD (dVar 1) (dC (.int 1))) (dCB lenC (dCons (dVar 2) (dNil)))) (dNil)))))))) (sRet (dOp addD (dLst (dCons (dTup (dCons (dVar 0) (dCons (dVar 3) (dNil)))) (dNil))) (dVar 2))))) ⟨fun _ M' => Lo Q .non M', Lo Q, fun _ _ => False, fun _ _ => False, Xd⟩ [some a0, some a1, none, none, none] M) : W_law_rows K c (n + 1) [a0, a1] M Q Xd := h
def N__law_outcome : List Str := ["call", "found", "error", "e"]
def B_law_outcome (K : Fg) (c : Nat → Addr) (hot : TED) : TSD := sSeq (sAsg (dTup (dCons (dC .non) (dCons (dC .non) (dNil)))) (gTp 2 (gCo (gNm 1) (gCo (gNm 2) (gNi))))) (sSeq (sTry K (sSet 1 (hot)) [⟨[.ref (c 0)], some 3, sSet 2 (dVar 3)⟩]) (sSeq (sIf (dTst (dOp isD (dVar 2) (dC .non))) (sRet (dLst (dCons (dVar 1) (dNil)))) (sNx)) (sRet (dIte (dTru (dCB (isaC K) (dCons (dVar 2) (dCons (dC (.ref (c 1))) (dNil))))) (dTup (dCons (dFd K "number" (dVar 2)) (dCons (dFd K "part" (dVar 2)) (dNil)))) (dTup (dCons (dC (.str "other")) (dCons (dC .non) (dNil))))))))
theorem E_law_outcome {K : Fg} {c : Nat → Addr} {L : D} {tl : XD → Mem → QD → Prop} {M : Mem} {Q : QD} {Xd : XD} (h : (sSeq (sAsg (dTup (dCons (dC .non) (dCons (dC .non) (dNil)))) (gTp 2 (gCo (gNm 1) (gCo (gNm 2) (gNi))))) (sSeq (sTry K (sSet 1 (dAct 0 L tl)) [⟨[.ref (c 0)], some 3, sSet 2 (dVar 3)⟩]) (sSeq (sIf (dTst (dOp isD (dVar 2) (dC .non))) (sRet (dLst (dCons (dVar 1) (dNil)))) (sNx)) (sRet (dIte (dTru (dCB (isaC K) (dCons (dVar 2) (dCons (dC (.ref (c 1))) (dNil))))) (dTup (dCons (dFd K "number" (dVar 2)) (dCons (dFd K "part" (dVar 2)) (dNil)))) (dTup (dCons (dC (.str "other")) (dCons (dC .non) (dNil))))))))) ⟨fun _ M' => Lo Q .non M', Lo Q, fun _ _ => False, fun _ _ => False, Xd⟩ [some L, none, none, none] M) : bodyD (B_law_outcome K c (dAct 0 L tl)) N__law_outcome [L] M Q Xd := h
def N__law_is_int : List Str := ["thing", "low", "high"]
def B_law_is_int (K : Fg) (c : Nat → Addr) : TSD := sRet (dAnd (dCB isiC (dCons (dVar 0) (dCons (dC (.ty "int")) (dNil)))) (dAnd (dNot (dCB isiC (dCons (dVar 0) (dCons (dC (.ty "bool")) (dNil))))) (dChain leD leD (dVar 1) (dVar 0) (dVar 2))))
def W_law_is_int (K : Fg) (c : Nat → Addr) : SpD := bodyD (B_law_is_int K c) N__law_is_int
theorem E_law_is_int {K : Fg} {c : Nat → Addr} {a0 a1 a2 : D} {M : Mem} {Q : QD} {Xd : XD} (h : (sRet (dAnd (dCB isiC (dCons (dVar 0) (dCons (dC (.ty "int")) (dNil)))) (dAnd (dNot (dCB isiC (dCons (dVar 0) (dCons (dC (.ty "bool")) (dNil))))) (dChain leD leD (dVar 1) (dVar 0) (dVar 2))))) ⟨fun _ M' => Lo Q .non M', Lo Q, fun _ _ => False, fun _ _ => False, Xd⟩ [some a0, some a1, some a2] M) : W_law_is_int K c [a0, a1, a2] M Q Xd := h
def N__law_is_word : List Str := ["thing", "some"]
def B_law_is_word (K : Fg) (c : Nat → Addr) : TSD := sRet (dAnd (dCB isiC (dCons (dVar 0) (dCons (dC (.ty "str")) (dNil)))) (dOp inD (dVar 0) (dVar 1)))
def W_law_is_word (K : Fg) (c : Nat → Addr) : SpD := bodyD (B_law_is_word K c) N__law_is_word
theorem E_law_is_word {K : Fg} {c : Nat → Addr} {a0 a1 : D} {M : Mem} {Q : QD} {Xd : XD} (h : (sRet (dAnd (dCB isiC (dCons (dVar 0) (dCons (dC (.ty "str")) (dNil)))) (dOp inD (dVar 0) (dVar 1)))) ⟨fun _ M' => Lo Q .non M', Lo Q, fun _ _ => False, fun _ _ => False, Xd⟩ [some a0, some a1] M) : W_law_is_word K c [a0, a1] M Q Xd := h
def N__law_wrong : List Str := ["thing", "sizes"]
def B_law_wrong (K : Fg) (c : Nat → Addr) : TSD := sSeq (sSet 1 (dDct [(.inr "raw", dC (.int 4)), (.inr "made", dC (.int 6))])) (sSeq (sIf (tOrD (tNotD (dTru (dCB isiC (dCons (dVar 0) (dCons (dC (.ty "tuple")) (dNil)))))) (tOrD (dTst (dOp eqE (dVar 0) (dTup (dNil)))) (tNotD (dTru (dCall (W_law_is_word K c) [] (dCons (dOp ixD (dVar 0) (dC (.int 0))) (dCons (dLst (dCons (dC (.str "raw")) (dCons (dC (.str "made")) (dNil)))) (dNil)))))))) (sRet (dC (.str "form"))) (sNx)) (sSeq (sIf (dTst (dOp neD (dCB lenC (dCons (dVar 0) (dNil))) (dOp ixD (dVar 1) (dOp ixD (dVar 0) (dC (.int 0)))))) (sRet (dC (.str "form"))) (sNx)) (sSeq (sIf (tNotD (dTru (dCall (W_law_is_word K c) [] (dCons (dOp ixD (dVar 0) (dC (.int 1))) (dCons (dLst (dCons (dC (.str "here")) (dCons (dC (.str "away")) (dNil)))) (dNil)))))) (sRet (dC (.str "land"))) (sNx)) (sSeq (sIf (tNotD (dTru (dCall (W_law_is_int K c) [] (dCons (dOp ixD (dVar 0) (dC (.int 2))) (dCons (dC (.int 0)) (dCons (dOp powD (dC (.int 10)) (dC (.int 6))) (dNil))))))) (sRet (dC (.str "low"))) (sNx)) (sSeq (sIf (tNotD (dTru (dCall (W_law_is_int K c) [] (dCons (dOp ixD (dVar 0) (dC (.int 3))) (dCons (dOp ixD (dVar 0) (dC (.int 2))) (dCons (dOp powD (dC (.int 10)) (dC (.int 6))) (dNil))))))) (sRet (dC (.str "high"))) (sNx)) (sSeq (sIf (dTst (dOp eqD (dOp ixD (dVar 0) (dC (.int 0))) (dC (.str "raw")))) (sRet (dC .non)) (sNx)) (sSeq (sIf (tOrD (tNotD (dTru (dCB isiC (dCons (dOp ixD (dVar 0) (dC (.int 4))) (dCons (dC (.ty "tuple")) (dNil)))))) (tOrD (dTst (dOp neD (dCB lenC (dCons (dOp ixD (dVar 0) (dC (.int 4))) (dNil))) (dC (.int 3)))) (tNotD (dTru (dCall (W_law_is_int K c) [] (dCons (dOp ixD (dOp ixD (dVar 0) (dC (.int 4))) (dC (.int 0))) (dCons (dC (.int 0)) (dCons (dC (.int 100)) (dNil))))))))) (sRet (dC (.str "rule"))) (sNx)) (sSeq (sIf (tOrD (tNotD (dTru (dCall (W_law_is_word K c) [] (dCons (dOp ixD (dOp ixD (dVar 0) (dC (.int 4))) (dC (.int 1))) (dCons (dLst (dCons (dC (.str "whole")) (dCons (dC (.str "own")) (dNil)))) (dNil)))))) (tNotD (dTru (dCall (W_law_is_word K c) [] (dCons (dOp ixD (dOp ixD (dVar 0) (dC (.int 4))) (dC (.int 2))) (dCons (dLst (dCons (dC (.str "own")) (dCons (dC (.str "none")) (dNil)))) (dNil))))))) (sRet (dC (.str "rule"))) (sNx)) (sRet (dIte (tAndD (dTru (dCB isiC (dCons (dOp ixD (dVar 0) (dC (.int 5))) (dCons (dC (.ty "tuple")) (dNil))))) (dTst (dChain leD leD (dC (.int 1)) (dCB lenC (dCons (dOp ixD (dVar 0) (dC (.int 5))) (dNil))) (dC (.int 4))))) (dC .non) (dC (.str "parts"))))))))))))
def W_law_wrong (K : Fg) (c : Nat → Addr) : SpD := bodyD (B_law_wrong K c) N__law_wrong
theorem E_law_wrong {K : Fg} {c : Nat → Addr} {a0 : D} {M : Mem} {Q : QD} {Xd : XD} (h : (sSeq (sSet 1 (dDct [(.inr "raw", dC (.int 4)), (.inr "made", dC (.int 6))])) (sSeq (sIf (tOrD (tNotD (dTru (dCB isiC (dCons (dVar 0) (dCons (dC (.ty "tuple")) (dNil)))))) (tOrD (dTst (dOp eqE (dVar 0) (dTup (dNil)))) (tNotD (dTru (dCall (W_law_is_word K c) [] (dCons (dOp ixD (dVar 0) (dC (.int 0))) (dCons (dLst (dCons (dC (.str "raw")) (dCons (dC (.str "made")) (dNil)))) (dNil)))))))) (sRet (dC (.str "form"))) (sNx)) (sSeq (sIf (dTst (dOp neD (dCB lenC (dCons (dVar 0) (dNil))) (dOp ixD (dVar 1) (dOp ixD (dVar 0) (dC (.int 0)))))) (sRet (dC (.str "form"))) (sNx)) (sSeq (sIf (tNotD (dTru (dCall (W_law_is_word K c) [] (dCons (dOp ixD (dVar 0) (dC (.int 1))) (dCons (dLst (dCons (dC (.str "here")) (dCons (dC (.str "away")) (dNil)))) (dNil)))))) (sRet (dC (.str "land"))) (sNx)) (sSeq (sIf (tNotD (dTru (dCall (W_law_is_int K c) [] (dCons (dOp ixD (dVar 0) (dC (.int 2))) (dCons (dC (.int 0)) (dCons (dOp powD (dC (.int 10)) (dC (.int 6))) (dNil))))))) (sRet (dC (.str "low"))) (sNx)) (sSeq (sIf (tNotD (dTru (dCall (W_law_is_int K c) [] (dCons (dOp ixD (dVar 0) (dC (.int 3))) (dCons (dOp ixD (dVar 0) (dC (.int 2))) (dCons (dOp powD (dC (.int 10)) (dC (.int 6))) (dNil))))))) (sRet (dC (.str "high"))) (sNx)) (sSeq (sIf (dTst (dOp eqD (dOp ixD (dVar 0) (dC (.int 0))) (dC (.str "raw")))) (sRet (dC .non)) (sNx)) (sSeq (sIf (tOrD (tNotD (dTru (dCB isiC (dCons (dOp ixD (dVar 0) (dC (.int 4))) (dCons (dC (.ty "tuple")) (dNil)))))) (tOrD (dTst (dOp neD (dCB lenC (dCons (dOp ixD (dVar 0) (dC (.int 4))) (dNil))) (dC (.int 3)))) (tNotD (dTru (dCall (W_law_is_int K c) [] (dCons (dOp ixD (dOp ixD (dVar 0) (dC (.int 4))) (dC (.int 0))) (dCons (dC (.int 0)) (dCons (dC (.int 100)) (dNil))))))))) (sRet (dC (.str "rule"))) (sNx)) (sSeq (sIf (tOrD (tNotD (dTru (dCall (W_law_is_word K c) [] (dCons (dOp ixD (dOp ixD (dVar 0) (dC (.int 4))) (dC (.int 1))) (dCons (dLst (dCons (dC (.str "whole")) (dCons (dC (.str "own")) (dNil)))) (dNil)))))) (tNotD (dTru (dCall (W_law_is_word K c) [] (dCons (dOp ixD (dOp ixD (dVar 0) (dC (.int 4))) (dC (.int 2))) (dCons (dLst (dCons (dC (.str "own")) (dCons (dC (.str "none")) (dNil)))) (dNil))))))) (sRet (dC (.str "rule"))) (sNx)) (sRet (dIte (tAndD (dTru (dCB isiC (dCons (dOp ixD (dVar 0) (dC (.int 5))) (dCons (dC (.ty "tuple")) (dNil))))) (dTst (dChain leD leD (dC (.int 1)) (dCB lenC (dCons (dOp ixD (dVar 0) (dC (.int 5))) (dNil))) (dC (.int 4))))) (dC .non) (dC (.str "parts"))))))))))))) ⟨fun _ M' => Lo Q .non M', Lo Q, fun _ _ => False, fun _ _ => False, Xd⟩ [some a0, none] M) : W_law_wrong K c [a0] M Q Xd := h
def N__law_starts : List Str := ["thing"]
def B_law_starts (K : Fg) (c : Nat → Addr) : TSD := sRet (dAnd (dCB isiC (dCons (dVar 0) (dCons (dC (.ty "tuple")) (dNil)))) (dAnd (dOp neE (dVar 0) (dTup (dNil))) (dCall (W_law_is_word K c) [] (dCons (dOp ixD (dVar 0) (dC (.int 0))) (dCons (dLst (dCons (dC (.str "made")) (dNil))) (dNil))))))
def W_law_starts (K : Fg) (c : Nat → Addr) : SpD := bodyD (B_law_starts K c) N__law_starts
theorem E_law_starts {K : Fg} {c : Nat → Addr} {a0 : D} {M : Mem} {Q : QD} {Xd : XD} (h : (sRet (dAnd (dCB isiC (dCons (dVar 0) (dCons (dC (.ty "tuple")) (dNil)))) (dAnd (dOp neE (dVar 0) (dTup (dNil))) (dCall (W_law_is_word K c) [] (dCons (dOp ixD (dVar 0) (dC (.int 0))) (dCons (dLst (dCons (dC (.str "made")) (dNil))) (dNil))))))) ⟨fun _ M' => Lo Q .non M', Lo Q, fun _ _ => False, fun _ _ => False, Xd⟩ [some a0] M) : W_law_starts K c [a0] M Q Xd := h
def N__law_first_wrong : List Str := ["thing", "seen", "number", "part", "one", "fault"]
def B_law_first_wrong (K : Fg) (c : Nat → Addr) (self : SpD) : TSD := sSeq (sSet 2 (dOp ixD (dVar 1) (dC (.str "things")))) (sSeq (sAsg (dTup (dCons (dOp addD (dVar 2) (dC (.int 1))) (dCons (dOp addD (dOp ixD (dVar 1) (dC (.str "made"))) (dCB intC (dCons (dCall (W_law_starts K c) [] (dCons (dVar 0) (dNil))) (dNil)))) (dNil)))) (gTp 2 (gCo (gSb (dVar 1) (dC (.str "things"))) (gCo (gSb (dVar 1) (dC (.str "made"))) (gNi))))) (sSeq (sIf (tOrD (dTst (dOp eqD (dVar 2) (dC (.int 10)))) (tAndD (dTru (dCall (W_law_starts K c) [] (dCons (dVar 0) (dNil)))) (dTst (dOp gtD (dOp ixD (dVar 1) (dC (.str "made"))) (dC (.int 4)))))) (sRet (dTup (dCons (dVar 2) (dCons (dC (.str "many")) (dNil))))) (sNx)) (sSeq (sSet 3 (dCall (W_law_wrong K c) [] (dCons (dVar 0) (dNil)))) (sSeq (sIf (dTst (dOp isNotD (dVar 3) (dC .non))) (sRet (dTup (dCons (dVar 2) (dCons (dVar 3) (dNil))))) (sNx)) (sSeq (sFor (iSeqD (dIte (dTst (dOp eqD (dOp ixD (dVar 0) (dC (.int 0))) (dC (.str "made")))) (dOp ixD (dVar 0) (dC (.int 5))) (dTup (dNil)))) (gNm 4) (sSeq (sSet 5 (dCall self [] (dCons (dVar 4) (dCons (dVar 1) (dNil))))) (sIf (dTst (dOp isNotD (dVar 5) (dC .non))) (sRet (dVar 5)) (sNx)))) (sRet (dC .non)))))))
def W_law_first_wrong (K : Fg) (c : Nat → Addr) : Nat → SpD
  | 0 => fun _ _ _ _ => False
  | n + 1 => bodyD (B_law_first_wrong K c (W_law_first_wrong K c n)) N__law_first_wrong
theorem E_law_first_wrong {K : Fg} {c : Nat → Addr} {a0 a1 : D} {n : Nat} {M : Mem} {Q : QD} {Xd : XD} (h : (sSeq (sSet 2 (dOp ixD (dVar 1) (dC (.str "things")))) (sSeq (sAsg (dTup (dCons (dOp addD (dVar 2) (dC (.int 1))) (dCons (dOp addD (dOp ixD (dVar 1) (dC (.str "made"))) (dCB intC (dCons (dCall (W_law_starts K c) [] (dCons (dVar 0) (dNil))) (dNil)))) (dNil)))) (gTp 2 (gCo (gSb (dVar 1) (dC (.str "things"))) (gCo (gSb (dVar 1) (dC (.str "made"))) (gNi))))) (sSeq (sIf (tOrD (dTst (dOp eqD (dVar 2) (dC (.int 10)))) (tAndD (dTru (dCall (W_law_starts K c) [] (dCons (dVar 0) (dNil)))) (dTst (dOp gtD (dOp ixD (dVar 1) (dC (.str "made"))) (dC (.int 4)))))) (sRet (dTup (dCons (dVar 2) (dCons (dC (.str "many")) (dNil))))) (sNx)) (sSeq (sSet 3 (dCall (W_law_wrong K c) [] (dCons (dVar 0) (dNil)))) (sSeq (sIf (dTst (dOp isNotD (dVar 3) (dC .non))) (sRet (dTup (dCons (dVar 2) (dCons (dVar 3) (dNil))))) (sNx)) (sSeq (sFor (iSeqD (dIte (dTst (dOp eqD (dOp ixD (dVar 0) (dC (.int 0))) (dC (.str "made")))) (dOp ixD (dVar 0) (dC (.int 5))) (dTup (dNil)))) (gNm 4) (sSeq (sSet 5 (dCall (W_law_first_wrong K c n) [] (dCons (dVar 4) (dCons (dVar 1) (dNil))))) (sIf (dTst (dOp isNotD (dVar 5) (dC .non))) (sRet (dVar 5)) (sNx)))) (sRet (dC .non)))))))) ⟨fun _ M' => Lo Q .non M', Lo Q, fun _ _ => False, fun _ _ => False, Xd⟩ [some a0, some a1, none, none, none, none] M) : W_law_first_wrong K c (n + 1) [a0, a1] M Q Xd := h
def N__law_due : List Str := ["thing", "fault", "some", "one", "numbers"]
def B_law_due (K : Fg) (c : Nat → Addr) : TSD := sSeq (sSet 1 (dCall (W_law_first_wrong K c 10) [] (dCons (dVar 0) (dCons (dDct [(.inr "things", dC (.int 0)), (.inr "made", dC (.int 0))]) (dNil))))) (sSeq (sIf (dTst (dOp isNotD (dVar 1) (dC .non))) (sRet (dVar 1)) (sNx)) (sSeq (sIf (dTst (dOp eqD (dOp ixD (dVar 0) (dC (.int 0))) (dC (.str "raw")))) (sRet (dTup (dCons (dC (.int 0)) (dCons (dC (.str "raw")) (dNil))))) (sNx)) (sSeq (sSet 2 (dLc (iSeqD (dCall (W_law_rows K c 8) [] (dCons (dVar 0) (dCons (dC (.int 0)) (dNil))))) (gTp 2 (gCo (gNm 3) (gCo (gNm 4) (gNi)))) (tYesD) (dVar 3) [3, 4])) (sSeq (sIf (dTst (dOp gtD (dCB lenC (dCons (dLc (iSeqD (dVar 2)) (gNm 3) (dTst (dOp ltD (dOp ixD (dVar 3) (dC (.int 2))) (dOp ixD (dVar 3) (dC (.int 3))))) (dC (.int 1)) [3]) (dNil))) (dC (.int 3)))) (sRet (dTup (dCons (dC (.int 0)) (dCons (dC (.str "moves")) (dNil))))) (sNx)) (sRet (dIte (dTst (dOp neD (dLc (iSeqD (dVar 2)) (gNm 3) (dTst (dOp gtD (dOp ixD (dVar 3) (dC (.int 2))) (dC (.int 0)))) (dC (.int 1)) [3]) (dLst (dNil)))) (dLst (dCons (dVar 0) (dNil))) (dTup (dCons (dC (.int 0)) (dCons (dC (.str "nothing")) (dNil))))))))))
def W_law_due (K : Fg) (c : Nat → Addr) : SpD := bodyD (B_law_due K c) N__law_due
theorem E_law_due {K : Fg} {c : Nat → Addr} {a0 : D} {M : Mem} {Q : QD} {Xd : XD} (h : (sSeq (sSet 1 (dCall (W_law_first_wrong K c 10) [] (dCons (dVar 0) (dCons (dDct [(.inr "things", dC (.int 0)), (.inr "made", dC (.int 0))]) (dNil))))) (sSeq (sIf (dTst (dOp isNotD (dVar 1) (dC .non))) (sRet (dVar 1)) (sNx)) (sSeq (sIf (dTst (dOp eqD (dOp ixD (dVar 0) (dC (.int 0))) (dC (.str "raw")))) (sRet (dTup (dCons (dC (.int 0)) (dCons (dC (.str "raw")) (dNil))))) (sNx)) (sSeq (sSet 2 (dLc (iSeqD (dCall (W_law_rows K c 8) [] (dCons (dVar 0) (dCons (dC (.int 0)) (dNil))))) (gTp 2 (gCo (gNm 3) (gCo (gNm 4) (gNi)))) (tYesD) (dVar 3) [3, 4])) (sSeq (sIf (dTst (dOp gtD (dCB lenC (dCons (dLc (iSeqD (dVar 2)) (gNm 3) (dTst (dOp ltD (dOp ixD (dVar 3) (dC (.int 2))) (dOp ixD (dVar 3) (dC (.int 3))))) (dC (.int 1)) [3]) (dNil))) (dC (.int 3)))) (sRet (dTup (dCons (dC (.int 0)) (dCons (dC (.str "moves")) (dNil))))) (sNx)) (sRet (dIte (dTst (dOp neD (dLc (iSeqD (dVar 2)) (gNm 3) (dTst (dOp gtD (dOp ixD (dVar 3) (dC (.int 2))) (dC (.int 0)))) (dC (.int 1)) [3]) (dLst (dNil)))) (dLst (dCons (dVar 0) (dNil))) (dTup (dCons (dC (.int 0)) (dCons (dC (.str "nothing")) (dNil))))))))))) ⟨fun _ M' => Lo Q .non M', Lo Q, fun _ _ => False, fun _ _ => False, Xd⟩ [some a0, none, none, none, none] M) : W_law_due K c [a0] M Q Xd := h
def N__law_odd : List Str := ["m", "some"]
def B_law_odd (K : Fg) (c : Nat → Addr) : TSD := sSeq (sSet 1 (dLst (dCons (dC .non) (dCons (dC (.bl true)) (dCons (dC (.int 0)) (dCons (dC (.int 1)) (dCons (dNeg (dC (.int 1))) (dCons (dC (.int 101)) (dCons (dOp addD (dOp powD (dC (.int 10)) (dC (.int 6))) (dC (.int 1))) (dCons (dC (.str "")) (dCons (dC (.str "raw")) (dCons (dC (.str "made")) (dCons (dC (.str "here")) (dCons (dC (.str "whole")) (dCons (dC (.str "none")) (dCons (dTup (dNil)) (dCons (dTup (dCons (dC (.str "raw")) (dNil))) (dCons (dLst (dNil)) (dCons (dFz (dDctN)) (dNil)))))))))))))))))))) (sSeq (sSet 1 (dOp addD (dVar 1) (dLst (dCons (dTup (dCons (dC (.str "raw")) (dCons (dC (.str "here")) (dCons (dC (.int 1)) (dCons (dC (.int 1)) (dNil)))))) (dCons (dTup (dCons (dC (.str "raw")) (dCons (dC (.str "away")) (dCons (dC (.int 0)) (dCons (dC (.int 5)) (dNil)))))) (dCons (dTup (dCons (dC (.int 50)) (dCons (dC (.str "whole")) (dCons (dC (.str "own")) (dNil))))) (dCons (dOp mulD (dTup (dCons (dTup (dCons (dC (.str "raw")) (dCons (dC (.str "here")) (dCons (dC (.int 0)) (dCons (dC (.int 0)) (dNil)))))) (dNil))) (dC (.int 5))) (dNil)))))))) (sRet (dCall (W_law_of K c) [] (dCons (dVar 0) (dCons (dOp addD (dVar 1) (dLst (dCons (dTup (dCons (dC (.str "made")) (dNil))) (dCons (dTup (dCons (dC (.str "made")) (dCons (dC (.str "here")) (dCons (dC (.int 0)) (dCons (dC (.int 0)) (dCons (dTup (dCons (dC (.int 0)) (dCons (dC (.str "own")) (dCons (dC (.str "own")) (dNil))))) (dCons (dTup (dCons (dTup (dCons (dC (.str "raw")) (dCons (dC (.str "here")) (dCons (dC (.int 1)) (dCons (dC (.int 2)) (dNil)))))) (dNil))) (dNil)))))))) (dNil))))) (dNil))))))
def W_law_odd (K : Fg) (c : Nat → Addr) : SpD := bodyD (B_law_odd K c) N__law_odd
theorem E_law_odd {K : Fg} {c : Nat → Addr} {a0 : D} {M : Mem} {Q : QD} {Xd : XD} (h : (sSeq (sSet 1 (dLst (dCons (dC .non) (dCons (dC (.bl true)) (dCons (dC (.int 0)) (dCons (dC (.int 1)) (dCons (dNeg (dC (.int 1))) (dCons (dC (.int 101)) (dCons (dOp addD (dOp powD (dC (.int 10)) (dC (.int 6))) (dC (.int 1))) (dCons (dC (.str "")) (dCons (dC (.str "raw")) (dCons (dC (.str "made")) (dCons (dC (.str "here")) (dCons (dC (.str "whole")) (dCons (dC (.str "none")) (dCons (dTup (dNil)) (dCons (dTup (dCons (dC (.str "raw")) (dNil))) (dCons (dLst (dNil)) (dCons (dFz (dDctN)) (dNil)))))))))))))))))))) (sSeq (sSet 1 (dOp addD (dVar 1) (dLst (dCons (dTup (dCons (dC (.str "raw")) (dCons (dC (.str "here")) (dCons (dC (.int 1)) (dCons (dC (.int 1)) (dNil)))))) (dCons (dTup (dCons (dC (.str "raw")) (dCons (dC (.str "away")) (dCons (dC (.int 0)) (dCons (dC (.int 5)) (dNil)))))) (dCons (dTup (dCons (dC (.int 50)) (dCons (dC (.str "whole")) (dCons (dC (.str "own")) (dNil))))) (dCons (dOp mulD (dTup (dCons (dTup (dCons (dC (.str "raw")) (dCons (dC (.str "here")) (dCons (dC (.int 0)) (dCons (dC (.int 0)) (dNil)))))) (dNil))) (dC (.int 5))) (dNil)))))))) (sRet (dCall (W_law_of K c) [] (dCons (dVar 0) (dCons (dOp addD (dVar 1) (dLst (dCons (dTup (dCons (dC (.str "made")) (dNil))) (dCons (dTup (dCons (dC (.str "made")) (dCons (dC (.str "here")) (dCons (dC (.int 0)) (dCons (dC (.int 0)) (dCons (dTup (dCons (dC (.int 0)) (dCons (dC (.str "own")) (dCons (dC (.str "own")) (dNil))))) (dCons (dTup (dCons (dTup (dCons (dC (.str "raw")) (dCons (dC (.str "here")) (dCons (dC (.int 1)) (dCons (dC (.int 2)) (dNil)))))) (dNil))) (dNil)))))))) (dNil))))) (dNil))))))) ⟨fun _ M' => Lo Q .non M', Lo Q, fun _ _ => False, fun _ _ => False, Xd⟩ [some a0, none] M) : W_law_odd K c [a0] M Q Xd := h
def N__law_bent : List Str := ["m", "thing", "place", "way"]
def B_law_bent (K : Fg) (c : Nat → Addr) (self : SpD) : TSD := sSeq (sIf (tAndD (dTru (dCB isiC (dCons (dVar 1) (dCons (dC (.ty "int")) (dNil))))) (tAndD (tNotD (dTru (dCB isiC (dCons (dVar 1) (dCons (dC (.ty "bool")) (dNil)))))) (dTst (dOp gtD (dCall (W_law_draw K c) [] (dCons (dVar 0) (dCons (dC (.int 3)) (dNil)))) (dC (.int 0)))))) (sRet (dOp addD (dVar 1) (dCall (W_law_of K c) [] (dCons (dVar 0) (dCons (dLst (dCons (dC (.int 1)) (dCons (dNeg (dC (.int 1))) (dCons (dC (.int 100)) (dCons (dOp powD (dC (.int 10)) (dC (.int 6))) (dNil)))))) (dNil)))))) (sNx)) (sSeq (sIf (tOrD (tNotD (dTru (dCB isiC (dCons (dVar 1) (dCons (dC (.ty "tuple")) (dNil)))))) (tOrD (dTst (dOp eqE (dVar 1) (dTup (dNil)))) (dTst (dOp eqD (dCall (W_law_draw K c) [] (dCons (dVar 0) (dCons (dC (.int 7)) (dNil)))) (dC (.int 0)))))) (sRet (dCall (W_law_odd K c) [] (dCons (dVar 0) (dNil)))) (sNx)) (sSeq (sPar 2 3 (dCons (dCall (W_law_draw K c) [] (dCons (dVar 0) (dCons (dCB lenC (dCons (dVar 1) (dNil))) (dNil)))) (dCons (dCall (W_law_draw K c) [] (dCons (dVar 0) (dCons (dC (.int 10)) (dNil)))) (dNil)))) (sSeq (sIf (dTst (dOp eqD (dVar 3) (dC (.int 0)))) (sRet (dOp addD (dSl (dVar 1) (oNo) (oSo (dVar 2))) (dSl (dVar 1) (oSo (dOp addD (dVar 2) (dC (.int 1)))) (oNo)))) (sNx)) (sSeq (sIf (dTst (dOp eqD (dVar 3) (dC (.int 1)))) (sRet (dOp addD (dOp addD (dSl (dVar 1) (oNo) (oSo (dVar 2))) (dTup (dCons (dOp ixD (dVar 1) (dVar 2)) (dNil)))) (dSl (dVar 1) (oSo (dVar 2)) (oNo)))) (sNx)) (sSeq (sIf (dTst (dOp eqD (dVar 3) (dC (.int 2)))) (sRet (dOp addD (dOp addD (dSl (dVar 1) (oNo) (oSo (dVar 2))) (dTup (dCons (dCall (W_law_odd K c) [] (dCons (dVar 0) (dNil))) (dNil)))) (dSl (dVar 1) (oSo (dVar 2)) (oNo)))) (sNx)) (sSeq (sIf (dTst (dOp eqD (dVar 3) (dC (.int 3)))) (sRet (dRevT (dVar 1))) (sNx)) (sRet (dOp addD (dOp addD (dSl (dVar 1) (oNo) (oSo (dVar 2))) (dTup (dCons (dCall self [] (dCons (dVar 0) (dCons (dOp ixD (dVar 1) (dVar 2)) (dNil)))) (dNil)))) (dSl (dVar 1) (oSo (dOp addD (dVar 2) (dC (.int 1)))) (oNo))))))))))
def W_law_bent (K : Fg) (c : Nat → Addr) : Nat → SpD
  | 0 => fun _ _ _ _ => False
  | n + 1 => bodyD (B_law_bent K c (W_law_bent K c n)) N__law_bent
theorem E_law_bent {K : Fg} {c : Nat → Addr} {a0 a1 : D} {n : Nat} {M : Mem} {Q : QD} {Xd : XD} (h : (sSeq (sIf (tAndD (dTru (dCB isiC (dCons (dVar 1) (dCons (dC (.ty "int")) (dNil))))) (tAndD (tNotD (dTru (dCB isiC (dCons (dVar 1) (dCons (dC (.ty "bool")) (dNil)))))) (dTst (dOp gtD (dCall (W_law_draw K c) [] (dCons (dVar 0) (dCons (dC (.int 3)) (dNil)))) (dC (.int 0)))))) (sRet (dOp addD (dVar 1) (dCall (W_law_of K c) [] (dCons (dVar 0) (dCons (dLst (dCons (dC (.int 1)) (dCons (dNeg (dC (.int 1))) (dCons (dC (.int 100)) (dCons (dOp powD (dC (.int 10)) (dC (.int 6))) (dNil)))))) (dNil)))))) (sNx)) (sSeq (sIf (tOrD (tNotD (dTru (dCB isiC (dCons (dVar 1) (dCons (dC (.ty "tuple")) (dNil)))))) (tOrD (dTst (dOp eqE (dVar 1) (dTup (dNil)))) (dTst (dOp eqD (dCall (W_law_draw K c) [] (dCons (dVar 0) (dCons (dC (.int 7)) (dNil)))) (dC (.int 0)))))) (sRet (dCall (W_law_odd K c) [] (dCons (dVar 0) (dNil)))) (sNx)) (sSeq (sPar 2 3 (dCons (dCall (W_law_draw K c) [] (dCons (dVar 0) (dCons (dCB lenC (dCons (dVar 1) (dNil))) (dNil)))) (dCons (dCall (W_law_draw K c) [] (dCons (dVar 0) (dCons (dC (.int 10)) (dNil)))) (dNil)))) (sSeq (sIf (dTst (dOp eqD (dVar 3) (dC (.int 0)))) (sRet (dOp addD (dSl (dVar 1) (oNo) (oSo (dVar 2))) (dSl (dVar 1) (oSo (dOp addD (dVar 2) (dC (.int 1)))) (oNo)))) (sNx)) (sSeq (sIf (dTst (dOp eqD (dVar 3) (dC (.int 1)))) (sRet (dOp addD (dOp addD (dSl (dVar 1) (oNo) (oSo (dVar 2))) (dTup (dCons (dOp ixD (dVar 1) (dVar 2)) (dNil)))) (dSl (dVar 1) (oSo (dVar 2)) (oNo)))) (sNx)) (sSeq (sIf (dTst (dOp eqD (dVar 3) (dC (.int 2)))) (sRet (dOp addD (dOp addD (dSl (dVar 1) (oNo) (oSo (dVar 2))) (dTup (dCons (dCall (W_law_odd K c) [] (dCons (dVar 0) (dNil))) (dNil)))) (dSl (dVar 1) (oSo (dVar 2)) (oNo)))) (sNx)) (sSeq (sIf (dTst (dOp eqD (dVar 3) (dC (.int 3)))) (sRet (dRevT (dVar 1))) (sNx)) (sRet (dOp addD (dOp addD (dSl (dVar 1) (oNo) (oSo (dVar 2))) (dTup (dCons (dCall (W_law_bent K c n) [] (dCons (dVar 0) (dCons (dOp ixD (dVar 1) (dVar 2)) (dNil)))) (dNil)))) (dSl (dVar 1) (oSo (dOp addD (dVar 2) (dC (.int 1)))) (oNo))))))))))) ⟨fun _ M' => Lo Q .non M', Lo Q, fun _ _ => False, fun _ _ => False, Xd⟩ [some a0, some a1, none, none] M) : W_law_bent K c (n + 1) [a0, a1] M Q Xd := h
def N__law_borders : List Str := ["one", "rule_so", "four", "deep", "found", "k", "nine", "move", "wide"]
def B_law_borders (K : Fg) (c : Nat → Addr) : TSD := sSeq (sAsg (dTup (dCons (dTup (dCons (dC (.str "raw")) (dCons (dC (.str "here")) (dCons (dC (.int 1)) (dCons (dC (.int 1)) (dNil)))))) (dCons (dTup (dCons (dC (.int 50)) (dCons (dC (.str "whole")) (dCons (dC (.str "own")) (dNil))))) (dNil)))) (gTp 2 (gCo (gNm 0) (gCo (gNm 1) (gNi))))) (sSeq (sSet 2 (dTup (dCons (dC (.str "made")) (dCons (dC (.str "here")) (dCons (dC (.int 0)) (dCons (dC (.int 0)) (dCons (dVar 1) (dCons (dOp mulD (dTup (dCons (dVar 0) (dNil))) (dC (.int 4))) (dNil))))))))) (sSeq (sSet 3 (dVar 0)) (sSeq (sSet 4 (dLstO (dCons (dVar 2) (dCons (dOp addD (dSl (dVar 2) (oNo) (oSo (dC (.int 5)))) (dTup (dCons (dOp mulD (dTup (dCons (dVar 0) (dNil))) (dC (.int 5))) (dNil)))) (dCons (dOp addD (dSl (dVar 2) (oNo) (oSo (dC (.int 4)))) (dTup (dCons (dTup (dCons (dC (.int 101)) (dCons (dC (.str "whole")) (dCons (dC (.str "own")) (dNil))))) (dCons (dTup (dCons (dVar 0) (dNil))) (dNil))))) (dCons (dVar 0) (dNil))))))) (sSeq (sFor (iRngD (dCons (dC (.int 5)) (dNil))) (gNm 5) (sSeq (sSet 3 (dTup (dCons (dC (.str "made")) (dCons (dC (.str "away")) (dCons (dC (.int 0)) (dCons (dC (.int 0)) (dCons (dVar 1) (dCons (dTup (dCons (dVar 3) (dNil))) (dNil))))))))) (sExpr (dApp (dVar 4) (dVar 3))))) (sSeq (sPar 6 7 (dCons (dOp addD (dSl (dVar 2) (oNo) (oSo (dC (.int 5)))) (dTup (dCons (dTup (dCons (dOp addD (dSl (dVar 2) (oNo) (oSo (dC (.int 5)))) (dTup (dCons (dOp mulD (dTup (dCons (dVar 0) (dNil))) (dC (.int 4))) (dNil)))) (dCons (dVar 0) (dCons (dVar 0) (dCons (dVar 0) (dNil)))))) (dNil)))) (dCons (dTup (dCons (dC (.str "raw")) (dCons (dC (.str "away")) (dCons (dC (.int 0)) (dCons (dC (.int 1)) (dNil)))))) (dNil)))) (sSeq (sSet 4 (dOp addDO (dVar 4) (dLst (dCons (dVar 6) (dCons (dOp addD (dSl (dVar 2) (oNo) (oSo (dC (.int 5)))) (dTup (dCons (dTup (dCons (dVar 2) (dCons (dVar 2) (dNil)))) (dNil)))) (dCons (dOp addD (dSl (dVar 2) (oNo) (oSo (dC (.int 5)))) (dTup (dCons (dOp mulD (dTup (dCons (dVar 7) (dNil))) (dC (.int 3))) (dNil)))) (dCons (dOp addD (dSl (dVar 2) (oNo) (oSo (dC (.int 5)))) (dTup (dCons (dOp mulD (dTup (dCons (dVar 7) (dNil))) (dC (.int 4))) (dNil)))) (dNil)))))))) (sSeq (sSet 8 (dOp addD (dSl (dVar 2) (oNo) (oSo (dC (.int 5)))) (dTup (dCons (dTup (dCons (dOp addD (dSl (dVar 2) (oNo) (oSo (dC (.int 5)))) (dTup (dCons (dOp mulD (dTup (dCons (dVar 0) (dNil))) (dC (.int 4))) (dNil)))) (dCons (dVar 0) (dCons (dVar 0) (dCons (dOp addD (dSl (dVar 2) (oNo) (oSo (dC (.int 5)))) (dTup (dCons (dTup (dCons (dVar 0) (dNil))) (dNil)))) (dNil)))))) (dNil))))) (sSeq (sSet 4 (dOp addDO (dVar 4) (dLst (dCons (dOp addD (dOp addD (dSl (dVar 2) (oNo) (oSo (dC (.int 2)))) (dTup (dCons (dC (.int 2)) (dCons (dC (.int 1)) (dNil))))) (dSl (dVar 2) (oSo (dC (.int 4))) (oNo))) (dCons (dOp addD (dSl (dVar 2) (oNo) (oSo (dC (.int 5)))) (dTup (dCons (dTup (dCons (dC .non) (dCons (dVar 0) (dNil)))) (dNil)))) (dCons (dOp addD (dSl (dVar 2) (oNo) (oSo (dC (.int 5)))) (dTup (dCons (dTup (dCons (dVar 0) (dCons (dC .non) (dCons (dC (.int 5)) (dNil))))) (dNil)))) (dNil))))))) (sRet (dOp addD (dVar 4) (dLst (dCons (dVar 8) (dCons (dOp addD (dOp addD (dSl (dVar 2) (oNo) (oSo (dC (.int 2)))) (dTup (dCons (dC (.int 0)) (dCons (dOp powD (dC (.int 10)) (dC (.int 6))) (dNil))))) (dSl (dVar 2) (oSo (dC (.int 4))) (oNo))) (dCons (dOp addD (dSl (dVar 2) (oNo) (oSo (dC (.int 5)))) (dTup (dCons (dTup (dCons (dTup (dCons (dC (.str "raw")) (dCons (dC (.str "here")) (dCons (dC (.int 0)) (dCons (dC (.int 0)) (dNil)))))) (dNil))) (dNil)))) (dNil)))))))))))))))
def W_law_borders (K : Fg) (c : Nat → Addr) : SpD := bodyD (B_law_borders K c) N__law_borders
theorem E_law_borders {K : Fg} {c : Nat → Addr} {M : Mem} {Q : QD} {Xd : XD} (h : (sSeq (sAsg (dTup (dCons (dTup (dCons (dC (.str "raw")) (dCons (dC (.str "here")) (dCons (dC (.int 1)) (dCons (dC (.int 1)) (dNil)))))) (dCons (dTup (dCons (dC (.int 50)) (dCons (dC (.str "whole")) (dCons (dC (.str "own")) (dNil))))) (dNil)))) (gTp 2 (gCo (gNm 0) (gCo (gNm 1) (gNi))))) (sSeq (sSet 2 (dTup (dCons (dC (.str "made")) (dCons (dC (.str "here")) (dCons (dC (.int 0)) (dCons (dC (.int 0)) (dCons (dVar 1) (dCons (dOp mulD (dTup (dCons (dVar 0) (dNil))) (dC (.int 4))) (dNil))))))))) (sSeq (sSet 3 (dVar 0)) (sSeq (sSet 4 (dLstO (dCons (dVar 2) (dCons (dOp addD (dSl (dVar 2) (oNo) (oSo (dC (.int 5)))) (dTup (dCons (dOp mulD (dTup (dCons (dVar 0) (dNil))) (dC (.int 5))) (dNil)))) (dCons (dOp addD (dSl (dVar 2) (oNo) (oSo (dC (.int 4)))) (dTup (dCons (dTup (dCons (dC (.int 101)) (dCons (dC (.str "whole")) (dCons (dC (.str "own")) (dNil))))) (dCons (dTup (dCons (dVar 0) (dNil))) (dNil))))) (dCons (dVar 0) (dNil))))))) (sSeq (sFor (iRngD (dCons (dC (.int 5)) (dNil))) (gNm 5) (sSeq (sSet 3 (dTup (dCons (dC (.str "made")) (dCons (dC (.str "away")) (dCons (dC (.int 0)) (dCons (dC (.int 0)) (dCons (dVar 1) (dCons (dTup (dCons (dVar 3) (dNil))) (dNil))))))))) (sExpr (dApp (dVar 4) (dVar 3))))) (sSeq (sPar 6 7 (dCons (dOp addD (dSl (dVar 2) (oNo) (oSo (dC (.int 5)))) (dTup (dCons (dTup (dCons (dOp addD (dSl (dVar 2) (oNo) (oSo (dC (.int 5)))) (dTup (dCons (dOp mulD (dTup (dCons (dVar 0) (dNil))) (dC (.int 4))) (dNil)))) (dCons (dVar 0) (dCons (dVar 0) (dCons (dVar 0) (dNil)))))) (dNil)))) (dCons (dTup (dCons (dC (.str "raw")) (dCons (dC (.str "away")) (dCons (dC (.int 0)) (dCons (dC (.int 1)) (dNil)))))) (dNil)))) (sSeq (sSet 4 (dOp addDO (dVar 4) (dLst (dCons (dVar 6) (dCons (dOp addD (dSl (dVar 2) (oNo) (oSo (dC (.int 5)))) (dTup (dCons (dTup (dCons (dVar 2) (dCons (dVar 2) (dNil)))) (dNil)))) (dCons (dOp addD (dSl (dVar 2) (oNo) (oSo (dC (.int 5)))) (dTup (dCons (dOp mulD (dTup (dCons (dVar 7) (dNil))) (dC (.int 3))) (dNil)))) (dCons (dOp addD (dSl (dVar 2) (oNo) (oSo (dC (.int 5)))) (dTup (dCons (dOp mulD (dTup (dCons (dVar 7) (dNil))) (dC (.int 4))) (dNil)))) (dNil)))))))) (sSeq (sSet 8 (dOp addD (dSl (dVar 2) (oNo) (oSo (dC (.int 5)))) (dTup (dCons (dTup (dCons (dOp addD (dSl (dVar 2) (oNo) (oSo (dC (.int 5)))) (dTup (dCons (dOp mulD (dTup (dCons (dVar 0) (dNil))) (dC (.int 4))) (dNil)))) (dCons (dVar 0) (dCons (dVar 0) (dCons (dOp addD (dSl (dVar 2) (oNo) (oSo (dC (.int 5)))) (dTup (dCons (dTup (dCons (dVar 0) (dNil))) (dNil)))) (dNil)))))) (dNil))))) (sSeq (sSet 4 (dOp addDO (dVar 4) (dLst (dCons (dOp addD (dOp addD (dSl (dVar 2) (oNo) (oSo (dC (.int 2)))) (dTup (dCons (dC (.int 2)) (dCons (dC (.int 1)) (dNil))))) (dSl (dVar 2) (oSo (dC (.int 4))) (oNo))) (dCons (dOp addD (dSl (dVar 2) (oNo) (oSo (dC (.int 5)))) (dTup (dCons (dTup (dCons (dC .non) (dCons (dVar 0) (dNil)))) (dNil)))) (dCons (dOp addD (dSl (dVar 2) (oNo) (oSo (dC (.int 5)))) (dTup (dCons (dTup (dCons (dVar 0) (dCons (dC .non) (dCons (dC (.int 5)) (dNil))))) (dNil)))) (dNil))))))) (sRet (dOp addD (dVar 4) (dLst (dCons (dVar 8) (dCons (dOp addD (dOp addD (dSl (dVar 2) (oNo) (oSo (dC (.int 2)))) (dTup (dCons (dC (.int 0)) (dCons (dOp powD (dC (.int 10)) (dC (.int 6))) (dNil))))) (dSl (dVar 2) (oSo (dC (.int 4))) (oNo))) (dCons (dOp addD (dSl (dVar 2) (oNo) (oSo (dC (.int 5)))) (dTup (dCons (dTup (dCons (dTup (dCons (dC (.str "raw")) (dCons (dC (.str "here")) (dCons (dC (.int 0)) (dCons (dC (.int 0)) (dNil)))))) (dNil))) (dNil)))) (dNil)))))))))))))))) ⟨fun _ M' => Lo Q .non M', Lo Q, fun _ _ => False, fun _ _ => False, Xd⟩ [none, none, none, none, none, none, none, none, none] M) : W_law_borders K c [] M Q Xd := h
def N_law : List Str := ["script", "m", "thing", "lap", "good", "rows", "told", "due", "one", "numbers", "k", "ends", "bent", "kept", "again"]
def Blaw (K : Fg) (c : Nat → Addr) : TSD := sSeq (sSet 1 (dCall (W_law_begun K c) [] (dCons (dVar 0) (dNil)))) (sSeq (sFor (iSeqD (dCall (W_law_borders K c) [] dNil)) (gNm 2) (sIf (dTst (dOp neD (dCB reprX (dCons (dLamC (tabT c) [2] N__law_outcome (B_law_outcome K c) (dCall (Wneed_good K c) [] (dCons (dVar 2) (dNil)))) (dNil))) (dCB reprX (dCons (dCall (W_law_due K c) [] (dCons (dVar 2) (dNil))) (dNil))))) (sRet (dC (.bl false))) (sNx))) (sSeq (sFor (iRngD (dCons (dOp addD (dC (.int 10)) (dCB (int2C (fun i j => if j < i then j else i)) (dCons (dCB lenC (dCons (dVar 0) (dNil))) (dCons (dC (.int 20)) (dNil))))) (dNil))) (gNm 3) (sSeq (sSet 4 (dCall (W_law_good K c) [] (dCons (dVar 1) (dCons (dC (.int 3)) (dCons (dC (.int 4)) (dNil)))))) (sSeq (sSet 5 (dCall (W_law_rows K c 8) [] (dCons (dVar 4) (dCons (dC (.int 0)) (dNil))))) (sSeq (sSet 6 (dLst (dCons (dCall (Wthings K c) [] (dCons (dVar 4) (dNil))) (dCons (dCall (Wsteps K c) [] (dCons (dVar 4) (dNil))) (dCons (dCall (Wmoves K c) [] (dCons (dVar 4) (dNil))) (dNil)))))) (sSeq (sSet 7 (dLstO (dCons (dCB tupleC (dCons (dLc (iSeqD (dVar 5)) (gTp 2 (gCo (gNm 8) (gCo (gNm 9) (gNi)))) (tYesD) (dVar 8) [8, 9]) (dNil))) (dCons (dCB tupleC (dCons (dLc (iRngD (dCons (dCB lenC (dCons (dVar 5) (dNil))) (dNil))) (gNm 10) (dTst (dOp eqD (dOp ixD (dOp ixD (dOp ixD (dVar 5) (dVar 10)) (dC (.int 0))) (dC (.int 0))) (dC (.str "made")))) (dVar 10) [10]) (dNil))) (dNil))))) (sSeq (sExpr (dApp (dVar 7) (dCB tupleC (dCons (dLc (iRngD (dCons (dCB lenC (dCons (dVar 5) (dNil))) (dNil))) (gNm 10) (dTst (dOp ltD (dOp ixD (dOp ixD (dOp ixD (dVar 5) (dVar 10)) (dC (.int 0))) (dC (.int 2))) (dOp ixD (dOp ixD (dOp ixD (dVar 5) (dVar 10)) (dC (.int 0))) (dC (.int 3))))) (dVar 10) [10]) (dNil))))) (sSeq (sSet 11 (dLst (dCons (dCB tupleC (dCons (dLc (iSeqD (dVar 5)) (gTp 2 (gCo (gNm 8) (gCo (gNm 9) (gNi)))) (tYesD) (dTup (dCons (dOp ixD (dVar 8) (dC (.int 2))) (dCons (dC (.int 1)) (dNil)))) [8, 9]) (dNil))) (dCons (dCB tupleC (dCons (dLc (iSeqD (dVar 5)) (gTp 2 (gCo (gNm 8) (gCo (gNm 9) (gNi)))) (tYesD) (dTup (dCons (dOp ixD (dVar 8) (dC (.int 3))) (dCons (dC (.int 1)) (dNil)))) [8, 9]) (dNil))) (dNil))))) (sSeq (sIf (dTst (dOp neD (dCB reprX (dCons (dOp addD (dVar 6) (dLst (dCons (dCall (Wlows K c) [] (dCons (dVar 4) (dNil))) (dCons (dCall (Whighs K c) [] (dCons (dVar 4) (dNil))) (dNil))))) (dNil))) (dCB reprX (dCons (dOp addD (dVar 7) (dVar 11)) (dNil))))) (sRet (dC (.bl false))) (sNx)) (sSeq (sSet 12 (dCall (W_law_bent K c 16) [] (dCons (dVar 1) (dCons (dVar 4) (dNil))))) (sFor (iSeqD (dTup (dCons (dVar 4) (dCons (dVar 12) (dCons (dCall (W_law_bent K c 16) [] (dCons (dVar 1) (dCons (dVar 12) (dNil)))) (dCons (dCall (W_law_odd K c) [] (dCons (dVar 1) (dNil))) (dCons (dCB listC (dCons (dVar 4) (dNil))) (dCons (dRevT (dVar 4)) (dCons (dOp ixD (dOp ixD (dVar 4) (dC (.int 5))) (dC (.int 0))) (dNil)))))))))) (gNm 2) (sSeq (sSet 13 (dCB reprX (dCons (dVar 2) (dNil)))) (sFor (iRngD (dCons (dC (.int 2)) (dNil))) (gNm 14) (sIf (tOrD (dTst (dOp neD (dCB reprX (dCons (dLamC (tabT c) [2] N__law_outcome (B_law_outcome K c) (dCall (Wneed_good K c) [] (dCons (dVar 2) (dNil)))) (dNil))) (dCB reprX (dCons (dCall (W_law_due K c) [] (dCons (dVar 2) (dNil))) (dNil))))) (dTst (dOp neD (dCB reprX (dCons (dVar 2) (dNil))) (dVar 13)))) (sRet (dC (.bl false))) (sNx)))))))))))))) (sRet (dC (.bl true)))))
def Wlaw (K : Fg) (c : Nat → Addr) : SpD := bodyD (Blaw K c) N_law
theorem Elaw {K : Fg} {c : Nat → Addr} {a0 : D} {M : Mem} {Q : QD} {Xd : XD} (h : (sSeq (sSet 1 (dCall (W_law_begun K c) [] (dCons (dVar 0) (dNil)))) (sSeq (sFor (iSeqD (dCall (W_law_borders K c) [] dNil)) (gNm 2) (sIf (dTst (dOp neD (dCB reprX (dCons (dLamC (tabT c) [2] N__law_outcome (B_law_outcome K c) (dCall (Wneed_good K c) [] (dCons (dVar 2) (dNil)))) (dNil))) (dCB reprX (dCons (dCall (W_law_due K c) [] (dCons (dVar 2) (dNil))) (dNil))))) (sRet (dC (.bl false))) (sNx))) (sSeq (sFor (iRngD (dCons (dOp addD (dC (.int 10)) (dCB (int2C (fun i j => if j < i then j else i)) (dCons (dCB lenC (dCons (dVar 0) (dNil))) (dCons (dC (.int 20)) (dNil))))) (dNil))) (gNm 3) (sSeq (sSet 4 (dCall (W_law_good K c) [] (dCons (dVar 1) (dCons (dC (.int 3)) (dCons (dC (.int 4)) (dNil)))))) (sSeq (sSet 5 (dCall (W_law_rows K c 8) [] (dCons (dVar 4) (dCons (dC (.int 0)) (dNil))))) (sSeq (sSet 6 (dLst (dCons (dCall (Wthings K c) [] (dCons (dVar 4) (dNil))) (dCons (dCall (Wsteps K c) [] (dCons (dVar 4) (dNil))) (dCons (dCall (Wmoves K c) [] (dCons (dVar 4) (dNil))) (dNil)))))) (sSeq (sSet 7 (dLstO (dCons (dCB tupleC (dCons (dLc (iSeqD (dVar 5)) (gTp 2 (gCo (gNm 8) (gCo (gNm 9) (gNi)))) (tYesD) (dVar 8) [8, 9]) (dNil))) (dCons (dCB tupleC (dCons (dLc (iRngD (dCons (dCB lenC (dCons (dVar 5) (dNil))) (dNil))) (gNm 10) (dTst (dOp eqD (dOp ixD (dOp ixD (dOp ixD (dVar 5) (dVar 10)) (dC (.int 0))) (dC (.int 0))) (dC (.str "made")))) (dVar 10) [10]) (dNil))) (dNil))))) (sSeq (sExpr (dApp (dVar 7) (dCB tupleC (dCons (dLc (iRngD (dCons (dCB lenC (dCons (dVar 5) (dNil))) (dNil))) (gNm 10) (dTst (dOp ltD (dOp ixD (dOp ixD (dOp ixD (dVar 5) (dVar 10)) (dC (.int 0))) (dC (.int 2))) (dOp ixD (dOp ixD (dOp ixD (dVar 5) (dVar 10)) (dC (.int 0))) (dC (.int 3))))) (dVar 10) [10]) (dNil))))) (sSeq (sSet 11 (dLst (dCons (dCB tupleC (dCons (dLc (iSeqD (dVar 5)) (gTp 2 (gCo (gNm 8) (gCo (gNm 9) (gNi)))) (tYesD) (dTup (dCons (dOp ixD (dVar 8) (dC (.int 2))) (dCons (dC (.int 1)) (dNil)))) [8, 9]) (dNil))) (dCons (dCB tupleC (dCons (dLc (iSeqD (dVar 5)) (gTp 2 (gCo (gNm 8) (gCo (gNm 9) (gNi)))) (tYesD) (dTup (dCons (dOp ixD (dVar 8) (dC (.int 3))) (dCons (dC (.int 1)) (dNil)))) [8, 9]) (dNil))) (dNil))))) (sSeq (sIf (dTst (dOp neD (dCB reprX (dCons (dOp addD (dVar 6) (dLst (dCons (dCall (Wlows K c) [] (dCons (dVar 4) (dNil))) (dCons (dCall (Whighs K c) [] (dCons (dVar 4) (dNil))) (dNil))))) (dNil))) (dCB reprX (dCons (dOp addD (dVar 7) (dVar 11)) (dNil))))) (sRet (dC (.bl false))) (sNx)) (sSeq (sSet 12 (dCall (W_law_bent K c 16) [] (dCons (dVar 1) (dCons (dVar 4) (dNil))))) (sFor (iSeqD (dTup (dCons (dVar 4) (dCons (dVar 12) (dCons (dCall (W_law_bent K c 16) [] (dCons (dVar 1) (dCons (dVar 12) (dNil)))) (dCons (dCall (W_law_odd K c) [] (dCons (dVar 1) (dNil))) (dCons (dCB listC (dCons (dVar 4) (dNil))) (dCons (dRevT (dVar 4)) (dCons (dOp ixD (dOp ixD (dVar 4) (dC (.int 5))) (dC (.int 0))) (dNil)))))))))) (gNm 2) (sSeq (sSet 13 (dCB reprX (dCons (dVar 2) (dNil)))) (sFor (iRngD (dCons (dC (.int 2)) (dNil))) (gNm 14) (sIf (tOrD (dTst (dOp neD (dCB reprX (dCons (dLamC (tabT c) [2] N__law_outcome (B_law_outcome K c) (dCall (Wneed_good K c) [] (dCons (dVar 2) (dNil)))) (dNil))) (dCB reprX (dCons (dCall (W_law_due K c) [] (dCons (dVar 2) (dNil))) (dNil))))) (dTst (dOp neD (dCB reprX (dCons (dVar 2) (dNil))) (dVar 13)))) (sRet (dC (.bl false))) (sNx)))))))))))))) (sRet (dC (.bl true)))))) ⟨fun _ M' => Lo Q .non M', Lo Q, fun _ _ => False, fun _ _ => False, Xd⟩ [some a0, none, none, none, none, none, none, none, none, none, none, none, none, none, none] M) : Wlaw K c [a0] M Q Xd := h
end G_madeofhere_k02_whole_goods_judged
set_option maxHeartbeats 4000000
namespace G_madeofhere_k02_whole_goods_judged
open PySem PySem.Spec PyProof.Rows L2 DL
def topS (i : Nat) : Stmt := PySem.Challenge.pw_madeofhere_k02_whole_goods_judged.main.body.getD i (.Pass ⟨0, 0, 0, 0⟩)
def methS (i j : Nat) : Stmt := match topS i with
  | .ClassDef _ _ _ b _ _ _ _ _ _ _ => b.getD j (.Pass ⟨0, 0, 0, 0⟩)
  | s => s
abbrev st_is_rule : Stmt := topS 13
theorem sc_is_rule : FnScope N_is_rule ["value"] (defScope st_is_rule) := ⟨rfl, rfl, rfl, by decide +kernel, rfl, by decide +kernel, by decide +kernel⟩
abbrev st__need_bounds : Stmt := topS 14
theorem sc__need_bounds : FnScope N__need_bounds ["number", "land", "low", "high"] (defScope st__need_bounds) := ⟨rfl, rfl, rfl, by decide +kernel, rfl, by decide +kernel, by decide +kernel⟩
abbrev st__need_making : Stmt := topS 15
theorem sc__need_making : FnScope N__need_making ["number", "rule", "parts"] (defScope st__need_making) := ⟨rfl, rfl, rfl, by decide +kernel, rfl, by decide +kernel, by decide +kernel⟩
abbrev st__look_at : Stmt := topS 16
theorem sc__look_at : FnScope N__look_at ["thing", "whole", "found", "wholes", "made", "moving"] (defScope st__look_at) := ⟨rfl, rfl, rfl, by decide +kernel, rfl, by decide +kernel, by decide +kernel⟩
abbrev st_look_over : Stmt := topS 17
theorem sc_look_over : FnScope N_look_over ["good"] (defScope st_look_over) := ⟨rfl, rfl, rfl, by decide +kernel, rfl, by decide +kernel, by decide +kernel⟩
abbrev st_need_good : Stmt := topS 18
theorem sc_need_good : FnScope N_need_good ["thing"] (defScope st_need_good) := ⟨rfl, rfl, rfl, by decide +kernel, rfl, by decide +kernel, by decide +kernel⟩
abbrev st_things : Stmt := topS 19
theorem sc_things : FnScope N_things ["good"] (defScope st_things) := ⟨rfl, rfl, rfl, by decide +kernel, rfl, by decide +kernel, by decide +kernel⟩
abbrev st_steps : Stmt := topS 20
theorem sc_steps : FnScope N_steps ["good"] (defScope st_steps) := ⟨rfl, rfl, rfl, by decide +kernel, rfl, by decide +kernel, by decide +kernel⟩
abbrev st_moves : Stmt := topS 21
theorem sc_moves : FnScope N_moves ["good"] (defScope st_moves) := ⟨rfl, rfl, rfl, by decide +kernel, rfl, by decide +kernel, by decide +kernel⟩
abbrev st_lows : Stmt := topS 22
theorem sc_lows : FnScope N_lows ["good"] (defScope st_lows) := ⟨rfl, rfl, rfl, by decide +kernel, rfl, by decide +kernel, by decide +kernel⟩
abbrev st_highs : Stmt := topS 23
theorem sc_highs : FnScope N_highs ["good"] (defScope st_highs) := ⟨rfl, rfl, rfl, by decide +kernel, rfl, by decide +kernel, by decide +kernel⟩
abbrev st__law_begun : Stmt := topS 25
theorem sc__law_begun : FnScope N__law_begun ["script"] (defScope st__law_begun) := ⟨rfl, rfl, rfl, by decide +kernel, rfl, by decide +kernel, by decide +kernel⟩
abbrev st__law_draw : Stmt := topS 26
theorem sc__law_draw : FnScope N__law_draw ["m", "limit"] (defScope st__law_draw) := ⟨rfl, rfl, rfl, by decide +kernel, rfl, by decide +kernel, by decide +kernel⟩
abbrev st__law_of : Stmt := topS 27
theorem sc__law_of : FnScope N__law_of ["m", "some"] (defScope st__law_of) := ⟨rfl, rfl, rfl, by decide +kernel, rfl, by decide +kernel, by decide +kernel⟩
abbrev st__law_span : Stmt := topS 28
theorem sc__law_span : FnScope N__law_span ["m", "left"] (defScope st__law_span) := ⟨rfl, rfl, rfl, by decide +kernel, rfl, by decide +kernel, by decide +kernel⟩
abbrev st__law_term : Stmt := topS 29
theorem sc__law_term : FnScope N__law_term ["m"] (defScope st__law_term) := ⟨rfl, rfl, rfl, by decide +kernel, rfl, by decide +kernel, by decide +kernel⟩
abbrev st__law_thing : Stmt := topS 30
theorem sc__law_thing : FnScope N__law_thing ["m", "left", "must"] (defScope st__law_thing) := ⟨rfl, rfl, rfl, by decide +kernel, rfl, by decide +kernel, by decide +kernel⟩
abbrev st__law_good : Stmt := topS 31
theorem sc__law_good : FnScope N__law_good ["m", "moving", "making"] (defScope st__law_good) := ⟨rfl, rfl, rfl, by decide +kernel, rfl, by decide +kernel, by decide +kernel⟩
abbrev st__law_rows : Stmt := topS 32
theorem sc__law_rows : FnScope N__law_rows ["thing", "begin"] (defScope st__law_rows) := ⟨rfl, rfl, rfl, by decide +kernel, rfl, by decide +kernel, by decide +kernel⟩
abbrev st__law_outcome : Stmt := topS 33
theorem sc__law_outcome : FnScope N__law_outcome ["call"] (defScope st__law_outcome) := ⟨rfl, rfl, rfl, by decide +kernel, rfl, by decide +kernel, by decide +kernel⟩
abbrev st__law_is_int : Stmt := topS 34
theorem sc__law_is_int : FnScope N__law_is_int ["thing", "low", "high"] (defScope st__law_is_int) := ⟨rfl, rfl, rfl, by decide +kernel, rfl, by decide +kernel, by decide +kernel⟩
abbrev st__law_is_word : Stmt := topS 35
theorem sc__law_is_word : FnScope N__law_is_word ["thing", "some"] (defScope st__law_is_word) := ⟨rfl, rfl, rfl, by decide +kernel, rfl, by decide +kernel, by decide +kernel⟩
abbrev st__law_wrong : Stmt := topS 36
theorem sc__law_wrong : FnScope N__law_wrong ["thing"] (defScope st__law_wrong) := ⟨rfl, rfl, rfl, by decide +kernel, rfl, by decide +kernel, by decide +kernel⟩
abbrev st__law_starts : Stmt := topS 37
theorem sc__law_starts : FnScope N__law_starts ["thing"] (defScope st__law_starts) := ⟨rfl, rfl, rfl, by decide +kernel, rfl, by decide +kernel, by decide +kernel⟩
abbrev st__law_first_wrong : Stmt := topS 38
theorem sc__law_first_wrong : FnScope N__law_first_wrong ["thing", "seen"] (defScope st__law_first_wrong) := ⟨rfl, rfl, rfl, by decide +kernel, rfl, by decide +kernel, by decide +kernel⟩
abbrev st__law_due : Stmt := topS 39
theorem sc__law_due : FnScope N__law_due ["thing"] (defScope st__law_due) := ⟨rfl, rfl, rfl, by decide +kernel, rfl, by decide +kernel, by decide +kernel⟩
abbrev st__law_odd : Stmt := topS 40
theorem sc__law_odd : FnScope N__law_odd ["m"] (defScope st__law_odd) := ⟨rfl, rfl, rfl, by decide +kernel, rfl, by decide +kernel, by decide +kernel⟩
abbrev st__law_bent : Stmt := topS 41
theorem sc__law_bent : FnScope N__law_bent ["m", "thing"] (defScope st__law_bent) := ⟨rfl, rfl, rfl, by decide +kernel, rfl, by decide +kernel, by decide +kernel⟩
abbrev st__law_borders : Stmt := topS 42
theorem sc__law_borders : FnScope N__law_borders [] (defScope st__law_borders) := ⟨rfl, rfl, rfl, by decide +kernel, rfl, by decide +kernel, by decide +kernel⟩
abbrev st_law : Stmt := topS 43
theorem sc_law : FnScope N_law ["script"] (defScope st_law) := ⟨rfl, rfl, rfl, by decide +kernel, rfl, by decide +kernel, by decide +kernel⟩
abbrev st_BadGood : Stmt := methS 2 0
theorem sc_BadGood : FnScope ["self", "number", "part"] ["self", "number", "part"] (defScope st_BadGood) := ⟨rfl, rfl, rfl, by decide +kernel, rfl, by decide +kernel, by decide +kernel⟩
structure Adr where
  cls : Nat → Addr
  cod_law : Addr
  a_BadGood : Addr
  d_BadGood : FuncData
  a_is_rule : Addr
  d_is_rule : FuncData
  a__need_bounds : Addr
  d__need_bounds : FuncData
  a__need_making : Addr
  d__need_making : FuncData
  a__look_at : Addr
  d__look_at : FuncData
  a_look_over : Addr
  d_look_over : FuncData
  a_need_good : Addr
  d_need_good : FuncData
  a_things : Addr
  d_things : FuncData
  a_steps : Addr
  d_steps : FuncData
  a_moves : Addr
  d_moves : FuncData
  a_lows : Addr
  d_lows : FuncData
  a_highs : Addr
  d_highs : FuncData
  a__law_begun : Addr
  d__law_begun : FuncData
  a__law_draw : Addr
  d__law_draw : FuncData
  a__law_of : Addr
  d__law_of : FuncData
  a__law_span : Addr
  d__law_span : FuncData
  a__law_term : Addr
  d__law_term : FuncData
  a__law_thing : Addr
  d__law_thing : FuncData
  a__law_good : Addr
  d__law_good : FuncData
  a__law_rows : Addr
  d__law_rows : FuncData
  a__law_outcome : Addr
  d__law_outcome : FuncData
  a__law_is_int : Addr
  d__law_is_int : FuncData
  a__law_is_word : Addr
  d__law_is_word : FuncData
  a__law_wrong : Addr
  d__law_wrong : FuncData
  a__law_starts : Addr
  d__law_starts : FuncData
  a__law_first_wrong : Addr
  d__law_first_wrong : FuncData
  a__law_due : Addr
  d__law_due : FuncData
  a__law_odd : Addr
  d__law_odd : FuncData
  a__law_bent : Addr
  d__law_bent : FuncData
  a__law_borders : Addr
  d__law_borders : FuncData
  a_law : Addr
  d_law : FuncData
structure Txt (K : Fg) (mg : Str → Option Value) (A : Adr) : Prop where
  F_is_rule : Fun K "is_rule" "is_rule" st_is_rule A.a_is_rule A.d_is_rule
  b_is_rule : Binds K A.d_is_rule ["value"] []
  g_is_rule : mg "is_rule" = some (.ref A.a_is_rule)
  F__need_bounds : Fun K "_need_bounds" "_need_bounds" st__need_bounds A.a__need_bounds A.d__need_bounds
  b__need_bounds : Binds K A.d__need_bounds ["number", "land", "low", "high"] []
  g__need_bounds : mg "_need_bounds" = some (.ref A.a__need_bounds)
  F__need_making : Fun K "_need_making" "_need_making" st__need_making A.a__need_making A.d__need_making
  b__need_making : Binds K A.d__need_making ["number", "rule", "parts"] []
  g__need_making : mg "_need_making" = some (.ref A.a__need_making)
  F__look_at : Fun K "_look_at" "_look_at" st__look_at A.a__look_at A.d__look_at
  b__look_at : Binds K A.d__look_at ["thing", "whole", "found", "wholes", "made", "moving"] []
  g__look_at : mg "_look_at" = some (.ref A.a__look_at)
  F_look_over : Fun K "look_over" "look_over" st_look_over A.a_look_over A.d_look_over
  b_look_over : Binds K A.d_look_over ["good"] []
  g_look_over : mg "look_over" = some (.ref A.a_look_over)
  F_need_good : Fun K "need_good" "need_good" st_need_good A.a_need_good A.d_need_good
  b_need_good : Binds K A.d_need_good ["thing"] []
  g_need_good : mg "need_good" = some (.ref A.a_need_good)
  F_things : Fun K "things" "things" st_things A.a_things A.d_things
  b_things : Binds K A.d_things ["good"] []
  g_things : mg "things" = some (.ref A.a_things)
  F_steps : Fun K "steps" "steps" st_steps A.a_steps A.d_steps
  b_steps : Binds K A.d_steps ["good"] []
  g_steps : mg "steps" = some (.ref A.a_steps)
  F_moves : Fun K "moves" "moves" st_moves A.a_moves A.d_moves
  b_moves : Binds K A.d_moves ["good"] []
  g_moves : mg "moves" = some (.ref A.a_moves)
  F_lows : Fun K "lows" "lows" st_lows A.a_lows A.d_lows
  b_lows : Binds K A.d_lows ["good"] []
  g_lows : mg "lows" = some (.ref A.a_lows)
  F_highs : Fun K "highs" "highs" st_highs A.a_highs A.d_highs
  b_highs : Binds K A.d_highs ["good"] []
  g_highs : mg "highs" = some (.ref A.a_highs)
  F__law_begun : Fun K "_law_begun" "_law_begun" st__law_begun A.a__law_begun A.d__law_begun
  b__law_begun : Binds K A.d__law_begun ["script"] []
  g__law_begun : mg "_law_begun" = some (.ref A.a__law_begun)
  F__law_draw : Fun K "_law_draw" "_law_draw" st__law_draw A.a__law_draw A.d__law_draw
  b__law_draw : Binds K A.d__law_draw ["m", "limit"] []
  g__law_draw : mg "_law_draw" = some (.ref A.a__law_draw)
  F__law_of : Fun K "_law_of" "_law_of" st__law_of A.a__law_of A.d__law_of
  b__law_of : Binds K A.d__law_of ["m", "some"] []
  g__law_of : mg "_law_of" = some (.ref A.a__law_of)
  F__law_span : Fun K "_law_span" "_law_span" st__law_span A.a__law_span A.d__law_span
  b__law_span : Binds K A.d__law_span ["m", "left"] []
  g__law_span : mg "_law_span" = some (.ref A.a__law_span)
  F__law_term : Fun K "_law_term" "_law_term" st__law_term A.a__law_term A.d__law_term
  b__law_term : Binds K A.d__law_term ["m"] []
  g__law_term : mg "_law_term" = some (.ref A.a__law_term)
  F__law_thing : Fun K "_law_thing" "_law_thing" st__law_thing A.a__law_thing A.d__law_thing
  b__law_thing : Binds K A.d__law_thing ["m", "left", "must"] []
  g__law_thing : mg "_law_thing" = some (.ref A.a__law_thing)
  F__law_good : Fun K "_law_good" "_law_good" st__law_good A.a__law_good A.d__law_good
  b__law_good : Binds K A.d__law_good ["m", "moving", "making"] []
  g__law_good : mg "_law_good" = some (.ref A.a__law_good)
  F__law_rows : Fun K "_law_rows" "_law_rows" st__law_rows A.a__law_rows A.d__law_rows
  b__law_rows : Binds K A.d__law_rows ["thing", "begin"] []
  g__law_rows : mg "_law_rows" = some (.ref A.a__law_rows)
  F__law_outcome : Fun K "_law_outcome" "_law_outcome" st__law_outcome A.a__law_outcome A.d__law_outcome
  b__law_outcome : Binds K A.d__law_outcome ["call"] []
  g__law_outcome : mg "_law_outcome" = some (.ref A.a__law_outcome)
  F__law_is_int : Fun K "_law_is_int" "_law_is_int" st__law_is_int A.a__law_is_int A.d__law_is_int
  b__law_is_int : Binds K A.d__law_is_int ["thing", "low", "high"] []
  g__law_is_int : mg "_law_is_int" = some (.ref A.a__law_is_int)
  F__law_is_word : Fun K "_law_is_word" "_law_is_word" st__law_is_word A.a__law_is_word A.d__law_is_word
  b__law_is_word : Binds K A.d__law_is_word ["thing", "some"] []
  g__law_is_word : mg "_law_is_word" = some (.ref A.a__law_is_word)
  F__law_wrong : Fun K "_law_wrong" "_law_wrong" st__law_wrong A.a__law_wrong A.d__law_wrong
  b__law_wrong : Binds K A.d__law_wrong ["thing"] []
  g__law_wrong : mg "_law_wrong" = some (.ref A.a__law_wrong)
  F__law_starts : Fun K "_law_starts" "_law_starts" st__law_starts A.a__law_starts A.d__law_starts
  b__law_starts : Binds K A.d__law_starts ["thing"] []
  g__law_starts : mg "_law_starts" = some (.ref A.a__law_starts)
  F__law_first_wrong : Fun K "_law_first_wrong" "_law_first_wrong" st__law_first_wrong A.a__law_first_wrong A.d__law_first_wrong
  b__law_first_wrong : Binds K A.d__law_first_wrong ["thing", "seen"] []
  g__law_first_wrong : mg "_law_first_wrong" = some (.ref A.a__law_first_wrong)
  F__law_due : Fun K "_law_due" "_law_due" st__law_due A.a__law_due A.d__law_due
  b__law_due : Binds K A.d__law_due ["thing"] []
  g__law_due : mg "_law_due" = some (.ref A.a__law_due)
  F__law_odd : Fun K "_law_odd" "_law_odd" st__law_odd A.a__law_odd A.d__law_odd
  b__law_odd : Binds K A.d__law_odd ["m"] []
  g__law_odd : mg "_law_odd" = some (.ref A.a__law_odd)
  F__law_bent : Fun K "_law_bent" "_law_bent" st__law_bent A.a__law_bent A.d__law_bent
  b__law_bent : Binds K A.d__law_bent ["m", "thing"] []
  g__law_bent : mg "_law_bent" = some (.ref A.a__law_bent)
  F__law_borders : Fun K "_law_borders" "_law_borders" st__law_borders A.a__law_borders A.d__law_borders
  b__law_borders : Binds K A.d__law_borders [] []
  g__law_borders : mg "_law_borders" = some (.ref A.a__law_borders)
  F_law : Fun K "law" "law" st_law A.a_law A.d_law
  b_law : Binds K A.d_law ["script"] []
  g_law : mg "law" = some (.ref A.a_law)
  g_MakeError : mg "MakeError" = some (.ref (A.cls 0))
  g_BadGood : mg "BadGood" = some (.ref (A.cls 1))
  C : CF K A.cls
  k0_MakeError : K0 K (A.cls 0)
  F_BadGood : Fun K "__init__" "BadGood.__init__" st_BadGood A.a_BadGood A.d_BadGood
  i_BadGood : PySem.W.findIn K (.ref (A.cls 1)) "__init__" = some (some (.ref A.a_BadGood))
  t_BadGood : PySem.W.typeIn K (.ref A.a_BadGood) = some (.type "function")
  b_BadGood : Binds K A.d_BadGood ["self", "number", "part"] []
  z_bool : mg "bool" = none
  z_int : mg "int" = none
  z_isinstance : mg "isinstance" = none
  z_len : mg "len" = none
  z_list : mg "list" = none
  z_max : mg "max" = none
  z_min : mg "min" = none
  z_range : mg "range" = none
  z_repr : mg "repr" = none
  z_str : mg "str" = none
  z_tuple : mg "tuple" = none
  c_HIGH : ∃ u, mg "HIGH" = some u ∧ RelV (.int 3) u
  c_LOW : ∃ u, mg "LOW" = some u ∧ RelV (.int 2) u
  c_MAKING : ∃ u, mg "MAKING" = some u ∧ RelV (.int 0) u
  c_MOST_MOVES : ∃ u, mg "MOST_MOVES" = some u ∧ RelV (.int 3) u
  c_MOST_PARTS : ∃ u, mg "MOST_PARTS" = some u ∧ RelV (.int 4) u
  c_MOST_PRICE : ∃ u, mg "MOST_PRICE" = some u ∧ RelV (.int 1000000) u
  c_MOST_SHARE : ∃ u, mg "MOST_SHARE" = some u ∧ RelV (.int 100) u
  c_MOST_STEPS : ∃ u, mg "MOST_STEPS" = some u ∧ RelV (.int 4) u
  c_MOST_THINGS : ∃ u, mg "MOST_THINGS" = some u ∧ RelV (.int 10) u
  co_law : ∀ cdv, A.d_law.code = cdv → cdv = .ref A.cod_law
section
variable {P : Program} {w : World} {K : Fg} {mg : Str → Option Value} {base : Heap} {Ad : Adr}
theorem mk_BadGood (T : Txt K mg Ad) : MkOk P w K mg base 1 (Ad.cls 1) ["part", "number"] ["self", "number", "part"] := ⟨(T.C.cf (i := 1) (by decide)).T, _, _, T.i_BadGood, T.t_BadGood, T.F_BadGood.okX sc_BadGood (spEx_len rfl) (fun cdv A outer s H vs Q E hr hsp => init_two (T.C.cf (i := 1) (by decide)).T rfl (T.C.kf.no (i := 1) (by decide) (by simp [fds])) (T.C.kf.no (i := 1) (by decide) (by simp [fds])) (pv 0) (pv 1) (pv 0) (pv 2) hsp), T.b_BadGood⟩
theorem ok_is_rule (T : Txt K mg Ad) : DFn P w K mg base 1 Ad.a_is_rule Ad.d_is_rule ["value"] (Wis_rule K Ad.cls) :=
  dfn_of T.F_is_rule sc_is_rule fun cdv A outer s H E hr => (dss_cons (ds_if (DW.dt (dw_or (dt_not (dt_tru (de_callB dc_isi (by rfl) T.z_isinstance (by decide +kernel) (dn_cons (de_var (pv 0)) (dn_cons (de_bltn (by rfl) T.z_tuple (by decide +kernel)) (dn_nil)))))) (dw_or1 (dt_cmp (do_ne hr.r.units) (de_callB dc_len (by rfl) T.z_len (by decide +kernel) (dn_cons (de_var (pv 0)) (dn_nil))) (de_int) (nomark _))))) (dss_one (ds_ret (de_bl))) (dss_nil)) (dss_cons (ds_asg (de_var (pv 0)) (dg_tup rfl (dgs_cons (dg_name (i := 1) sc_is_rule.nd rfl (by first | exact .inl rfl | exact .inr rfl)) (dgs_cons (dg_name (i := 2) sc_is_rule.nd rfl (by first | exact .inl rfl | exact .inr rfl)) (dgs_cons (dg_name (i := 3) sc_is_rule.nd rfl (by first | exact .inl rfl | exact .inr rfl)) (dgs_nil)))))) (dss_cons (ds_if (DW.dt (dw_or (dt_not (dt_tru (de_callB dc_isi (by rfl) T.z_isinstance (by decide +kernel) (dn_cons (de_var (pv 1)) (dn_cons (de_bltn (by rfl) T.z_int (by decide +kernel)) (dn_nil)))))) (dw_or (dt_tru (de_callB dc_isi (by rfl) T.z_isinstance (by decide +kernel) (dn_cons (de_var (pv 1)) (dn_cons (de_bltn (by rfl) T.z_bool (by decide +kernel)) (dn_nil))))) (dw_or1 (dt_not (dt_chain do_le do_le (de_int) (de_var (pv 1)) ((T.c_MOST_SHARE.elim fun _ h => de_glob (by rfl) h.1 h.2 fun _ _ => rfl)))))))) (dss_one (ds_ret (de_bl))) (dss_nil)) (dss_cons (ds_if (DW.dt (dw_or (dt_not (dt_tru (de_callB dc_isi (by rfl) T.z_isinstance (by decide +kernel) (dn_cons (de_var (pv 2)) (dn_cons (de_bltn (by rfl) T.z_str (by decide +kernel)) (dn_nil)))))) (dw_or1 (dt_not (dt_tru (de_callB dc_isi (by rfl) T.z_isinstance (by decide +kernel) (dn_cons (de_var (pv 3)) (dn_cons (de_bltn (by rfl) T.z_str (by decide +kernel)) (dn_nil))))))))) (dss_one (ds_ret (de_bl))) (dss_nil)) (dss_one (ds_ret (de_and (de_or (de_cmp (do_eq hr.r.units) (de_var (pv 2)) (de_str) (nomark _)) (de_one (de_cmp (do_eq hr.r.units) (de_var (pv 2)) (de_str) (nomark _)))) (de_one (de_or (de_cmp (do_eq hr.r.units) (de_var (pv 3)) (de_str) (nomark _)) (de_one (de_cmp (do_eq hr.r.units) (de_var (pv 3)) (de_str) (nomark _))))))))))))
theorem ok__need_bounds (T : Txt K mg Ad) : DFn P w K mg base 3 Ad.a__need_bounds Ad.d__need_bounds ["number", "land", "low", "high"] (W_need_bounds K Ad.cls) :=
  dfn_of T.F__need_bounds sc__need_bounds fun cdv A outer s H E hr => (dss_cons (ds_if (DW.dt (dw_or (dt_not (dt_tru (de_callB dc_isi (by rfl) T.z_isinstance (by decide +kernel) (dn_cons (de_var (pv 1)) (dn_cons (de_bltn (by rfl) T.z_str (by decide +kernel)) (dn_nil)))))) (dw_or1 (DW.dt (dw_and (dt_cmp (do_ne hr.r.units) (de_var (pv 1)) (de_str) (nomark _)) (dw_and1 (dt_cmp (do_ne hr.r.units) (de_var (pv 1)) (de_str) (nomark _)))))))) (dss_one (ds_raise (mk_BadGood T) (hr.mono (by first | decide | omega | (simp only [Nat.add_eq]; omega))) rfl (takes_of rfl rfl rfl rfl) pass_no (by rfl) T.g_BadGood (dn_cons (de_var (pv 0)) (dn_cons (de_str) (dn_nil))))) (dss_nil)) (dss_cons (ds_if (DW.dt (dw_or (dt_not (dt_tru (de_callB dc_isi (by rfl) T.z_isinstance (by decide +kernel) (dn_cons (de_var (pv 2)) (dn_cons (de_bltn (by rfl) T.z_int (by decide +kernel)) (dn_nil)))))) (dw_or (dt_tru (de_callB dc_isi (by rfl) T.z_isinstance (by decide +kernel) (dn_cons (de_var (pv 2)) (dn_cons (de_bltn (by rfl) T.z_bool (by decide +kernel)) (dn_nil))))) (dw_or1 (dt_not (dt_chain do_le do_le (de_int) (de_var (pv 2)) ((T.c_MOST_PRICE.elim fun _ h => de_glob (by rfl) h.1 h.2 fun _ _ => rfl)))))))) (dss_one (ds_raise (mk_BadGood T) (hr.mono (by first | decide | omega | (simp only [Nat.add_eq]; omega))) rfl (takes_of rfl rfl rfl rfl) pass_no (by rfl) T.g_BadGood (dn_cons (de_var (pv 0)) (dn_cons (de_str) (dn_nil))))) (dss_nil)) (dss_one (ds_if (DW.dt (dw_or (dt_not (dt_tru (de_callB dc_isi (by rfl) T.z_isinstance (by decide +kernel) (dn_cons (de_var (pv 3)) (dn_cons (de_bltn (by rfl) T.z_int (by decide +kernel)) (dn_nil)))))) (dw_or (dt_tru (de_callB dc_isi (by rfl) T.z_isinstance (by decide +kernel) (dn_cons (de_var (pv 3)) (dn_cons (de_bltn (by rfl) T.z_bool (by decide +kernel)) (dn_nil))))) (dw_or1 (dt_not (dt_chain do_le do_le (de_var (pv 2)) (de_var (pv 3)) ((T.c_MOST_PRICE.elim fun _ h => de_glob (by rfl) h.1 h.2 fun _ _ => rfl)))))))) (dss_one (ds_raise (mk_BadGood T) (hr.mono (by first | decide | omega | (simp only [Nat.add_eq]; omega))) rfl (takes_of rfl rfl rfl rfl) pass_no (by rfl) T.g_BadGood (dn_cons (de_var (pv 0)) (dn_cons (de_str) (dn_nil))))) (dss_nil)))))
theorem ok__need_making (T : Txt K mg Ad) : DFn P w K mg base 3 Ad.a__need_making Ad.d__need_making ["number", "rule", "parts"] (W_need_making K Ad.cls) :=
  dfn_of T.F__need_making sc__need_making fun cdv A outer s H E hr => (dss_cons (ds_if (dt_not (dt_tru (de_call (ok_is_rule T) (hr.mono (by decide)) (by rfl) T.g_is_rule T.F_is_rule.kp T.b_is_rule .nil rs0 pBody (dn_cons (de_var (pv 1)) (dn_nil))))) (dss_one (ds_raise (mk_BadGood T) (hr.mono (by first | decide | omega | (simp only [Nat.add_eq]; omega))) rfl (takes_of rfl rfl rfl rfl) pass_no (by rfl) T.g_BadGood (dn_cons (de_var (pv 0)) (dn_cons (de_str) (dn_nil))))) (dss_nil)) (dss_one (ds_if (DW.dt (dw_or (dt_not (dt_tru (de_callB dc_isi (by rfl) T.z_isinstance (by decide +kernel) (dn_cons (de_var (pv 2)) (dn_cons (de_bltn (by rfl) T.z_tuple (by decide +kernel)) (dn_nil)))))) (dw_or1 (dt_not (dt_chain do_le do_le (de_int) (de_callB dc_len (by rfl) T.z_len (by decide +kernel) (dn_cons (de_var (pv 2)) (dn_nil))) ((T.c_MOST_PARTS.elim fun _ h => de_glob (by rfl) h.1 h.2 fun _ _ => rfl))))))) (dss_one (ds_raise (mk_BadGood T) (hr.mono (by first | decide | omega | (simp only [Nat.add_eq]; omega))) rfl (takes_of rfl rfl rfl rfl) pass_no (by rfl) T.g_BadGood (dn_cons (de_var (pv 0)) (dn_cons (de_str) (dn_nil))))) (dss_nil))))
theorem ok__look_at (T : Txt K mg Ad) : ∀ n : Nat, DFn P w K mg base (3 + n) Ad.a__look_at Ad.d__look_at ["thing", "whole", "found", "wholes", "made", "moving"] (W_look_at K Ad.cls n)
  | 0 => dfn0
  | n + 1 => by
    have ih := ok__look_at T n
    exact dfn_of T.F__look_at sc__look_at fun cdv A outer s H E hr => (dss_cons (ds_set (i := 6) sc__look_at.nd rfl (by first | exact .inl rfl | exact .inr rfl) (de_callB dc_len (by rfl) T.z_len (by decide +kernel) (dn_cons (de_var (pv 2)) (dn_nil)))) (dss_cons (ds_set (i := 7) sc__look_at.nd rfl (by first | exact .inl rfl | exact .inr rfl) (de_ite (DW.dt (dw_and (dt_tru (de_callB dc_isi (by rfl) T.z_isinstance (by decide +kernel) (dn_cons (de_var (pv 0)) (dn_cons (de_bltn (by rfl) T.z_tuple (by decide +kernel)) (dn_nil))))) (dw_and1 (dt_cmp do_gt (de_callB dc_len (by rfl) T.z_len (by decide +kernel) (dn_cons (de_var (pv 0)) (dn_nil))) (de_int) (nomark _))))) (de_ix (hu_of hr.r) (de_var (pv 0)) ((T.c_MAKING.elim fun _ h => de_glob (by rfl) h.1 h.2 fun _ _ => rfl)) (fun _ _ => rfl)) (de_non))) (dss_cons (ds_set (i := 8) sc__look_at.nd rfl (by first | exact .inl rfl | exact .inr rfl) (de_and (de_callB dc_isi (by rfl) T.z_isinstance (by decide +kernel) (dn_cons (de_var (pv 7)) (dn_cons (de_bltn (by rfl) T.z_str (by decide +kernel)) (dn_nil)))) (de_one (de_cmp (do_eq hr.r.units) (de_var (pv 7)) (de_str) (nomark _))))) (dss_cons (ds_if (dt_tru (de_var (pv 8))) (dss_one (ds_expr (de_app (de_var (pv 4)) (de_var (pv 6))))) (dss_nil)) (dss_cons (ds_if (DW.dt (dw_or (dt_cmp (do_eq hr.r.units) (de_var (pv 6)) ((T.c_MOST_THINGS.elim fun _ h => de_glob (by rfl) h.1 h.2 fun _ _ => rfl)) (nomark _)) (dw_or1 (dt_cmp do_gt (de_callB dc_len (by rfl) T.z_len (by decide +kernel) (dn_cons (de_var (pv 4)) (dn_nil))) ((T.c_MOST_STEPS.elim fun _ h => de_glob (by rfl) h.1 h.2 fun _ _ => rfl)) (nomark _))))) (dss_one (ds_raise (mk_BadGood T) (hr.mono (by first | decide | omega | (simp only [Nat.add_eq]; omega))) rfl (takes_of rfl rfl rfl rfl) pass_no (by rfl) T.g_BadGood (dn_cons (de_var (pv 6)) (dn_cons (de_str) (dn_nil))))) (dss_nil)) (dss_cons (ds_set (i := 9) sc__look_at.nd rfl (by first | exact .inl rfl | exact .inr rfl) (de_tup (dn_nil))) (dss_cons (ds_if (DW.dt (dw_and (dt_tru (de_var (pv 8))) (dw_and1 (dt_cmp (do_eq hr.r.units) (de_callB dc_len (by rfl) T.z_len (by decide +kernel) (dn_cons (de_var (pv 0)) (dn_nil))) (de_int) (nomark _))))) (dss_cons (ds_asg (de_var (pv 0)) (dg_tup rfl (dgs_cons (dg_name (i := 10) sc__look_at.nd rfl (by first | exact .inl rfl | exact .inr rfl)) (dgs_cons (dg_name (i := 11) sc__look_at.nd rfl (by first | exact .inl rfl | exact .inr rfl)) (dgs_cons (dg_name (i := 12) sc__look_at.nd rfl (by first | exact .inl rfl | exact .inr rfl)) (dgs_cons (dg_name (i := 13) sc__look_at.nd rfl (by first | exact .inl rfl | exact .inr rfl)) (dgs_cons (dg_name (i := 14) sc__look_at.nd rfl (by first | exact .inl rfl | exact .inr rfl)) (dgs_cons (dg_name (i := 9) sc__look_at.nd rfl (by first | exact .inl rfl | exact .inr rfl)) (dgs_nil))))))))) (dss_cons (ds_expr (de_call (ok__need_bounds T) (hr.mono (by first | omega | (simp only [Nat.add_eq]; omega))) (by rfl) T.g__need_bounds T.F__need_bounds.kp T.b__need_bounds .nil rs0 pBody (dn_cons (de_var (pv 6)) (dn_cons (de_var (pv 11)) (dn_cons (de_var (pv 12)) (dn_cons (de_var (pv 13)) (dn_nil))))))) (dss_one (ds_expr (de_call (ok__need_making T) (hr.mono (by first | omega | (simp only [Nat.add_eq]; omega))) (by rfl) T.g__need_making T.F__need_making.kp T.b__need_making .nil rs0 pBody (dn_cons (de_var (pv 6)) (dn_cons (de_var (pv 14)) (dn_cons (de_var (pv 9)) (dn_nil))))))))) (dss_one (ds_if (DW.dt (dw_and (dt_tru (de_callB dc_isi (by rfl) T.z_isinstance (by decide +kernel) (dn_cons (de_var (pv 7)) (dn_cons (de_bltn (by rfl) T.z_str (by decide +kernel)) (dn_nil))))) (dw_and (dt_cmp (do_eq hr.r.units) (de_var (pv 7)) (de_str) (nomark _)) (dw_and1 (dt_cmp (do_eq hr.r.units) (de_callB dc_len (by rfl) T.z_len (by decide +kernel) (dn_cons (de_var (pv 0)) (dn_nil))) (de_int) (nomark _)))))) (dss_cons (ds_asg (de_var (pv 0)) (dg_tup rfl (dgs_cons (dg_name (i := 10) sc__look_at.nd rfl (by first | exact .inl rfl | exact .inr rfl)) (dgs_cons (dg_name (i := 11) sc__look_at.nd rfl (by first | exact .inl rfl | exact .inr rfl)) (dgs_cons (dg_name (i := 12) sc__look_at.nd rfl (by first | exact .inl rfl | exact .inr rfl)) (dgs_cons (dg_name (i := 13) sc__look_at.nd rfl (by first | exact .inl rfl | exact .inr rfl)) (dgs_nil))))))) (dss_one (ds_expr (de_call (ok__need_bounds T) (hr.mono (by first | omega | (simp only [Nat.add_eq]; omega))) (by rfl) T.g__need_bounds T.F__need_bounds.kp T.b__need_bounds .nil rs0 pBody (dn_cons (de_var (pv 6)) (dn_cons (de_var (pv 11)) (dn_cons (de_var (pv 12)) (dn_cons (de_var (pv 13)) (dn_nil))))))))) (dss_one (ds_raise (mk_BadGood T) (hr.mono (by first | decide | omega | (simp only [Nat.add_eq]; omega))) rfl (takes_of rfl rfl rfl rfl) pass_no (by rfl) T.g_BadGood (dn_cons (de_var (pv 6)) (dn_cons (de_str) (dn_nil)))))))) (dss_cons (ds_expr (de_app (de_var (pv 2)) (de_var (pv 0)))) (dss_cons (ds_expr (de_app (de_var (pv 3)) (de_var (pv 1)))) (dss_cons (ds_if (dt_cmp do_lt (de_var (pv 12)) (de_var (pv 13)) (nomark _)) (dss_one (ds_expr (de_app (de_var (pv 5)) (de_var (pv 6))))) (dss_nil)) (dss_one (ds_for oBody rfl (di_seq (de_var (pv 9))) (dg_name (i := 15) sc__look_at.nd rfl (by first | exact .inl rfl | exact .inr rfl)) (dss_one (ds_expr (de_call ih (hr.mono (by first | omega | (simp only [Nat.add_eq]; omega))) (by rfl) T.g__look_at T.F__look_at.kp T.b__look_at .nil rs0 pBody (dn_cons (de_var (pv 15)) (dn_cons (de_var (pv 6)) (dn_cons (de_var (pv 2)) (dn_cons (de_var (pv 3)) (dn_cons (de_var (pv 4)) (dn_cons (de_var (pv 5)) (dn_nil))))))))))))))))))))))
theorem ok_look_over (T : Txt K mg Ad) : DFn P w K mg base 12 Ad.a_look_over Ad.d_look_over ["good"] (Wlook_over K Ad.cls) :=
  dfn_of T.F_look_over sc_look_over fun cdv A outer s H E hr => (dss_cons (ds_asg (de_tup (dn_cons (de_lstO (dn_nil)) (dn_cons (de_lstO (dn_nil)) (dn_cons (de_lstO (dn_nil)) (dn_cons (de_lstO (dn_nil)) (dn_nil)))))) (dg_tup rfl (dgs_cons (dg_name (i := 1) sc_look_over.nd rfl (by first | exact .inl rfl | exact .inr rfl)) (dgs_cons (dg_name (i := 2) sc_look_over.nd rfl (by first | exact .inl rfl | exact .inr rfl)) (dgs_cons (dg_name (i := 3) sc_look_over.nd rfl (by first | exact .inl rfl | exact .inr rfl)) (dgs_cons (dg_name (i := 4) sc_look_over.nd rfl (by first | exact .inl rfl | exact .inr rfl)) (dgs_nil))))))) (dss_cons (ds_expr (de_call (ok__look_at T 8) (hr.mono (by decide)) (by rfl) T.g__look_at T.F__look_at.kp T.b__look_at .nil rs0 pBody (dn_cons (de_var (pv 0)) (dn_cons (de_non) (dn_cons (de_var (pv 1)) (dn_cons (de_var (pv 2)) (dn_cons (de_var (pv 3)) (dn_cons (de_var (pv 4)) (dn_nil))))))))) (dss_cons (ds_if (dt_cmp (do_eq hr.r.units) (de_callB dc_len (by rfl) T.z_len (by decide +kernel) (dn_cons (de_var (pv 3)) (dn_nil))) (de_int) (nomark _)) (dss_one (ds_raise (mk_BadGood T) (hr.mono (by first | decide | omega | (simp only [Nat.add_eq]; omega))) rfl (takes_of rfl rfl rfl rfl) pass_no (by rfl) T.g_BadGood (dn_cons (de_int) (dn_cons (de_str) (dn_nil))))) (dss_nil)) (dss_cons (ds_if (dt_cmp do_gt (de_callB dc_len (by rfl) T.z_len (by decide +kernel) (dn_cons (de_var (pv 4)) (dn_nil))) ((T.c_MOST_MOVES.elim fun _ h => de_glob (by rfl) h.1 h.2 fun _ _ => rfl)) (nomark _)) (dss_one (ds_raise (mk_BadGood T) (hr.mono (by first | decide | omega | (simp only [Nat.add_eq]; omega))) rfl (takes_of rfl rfl rfl rfl) pass_no (by rfl) T.g_BadGood (dn_cons (de_int) (dn_cons (de_str) (dn_nil))))) (dss_nil)) (dss_cons (ds_for oBody rfl (di_seq (de_var (pv 1))) (dg_name (i := 5) sc_look_over.nd rfl (by first | exact .inl rfl | exact .inr rfl)) (dss_one (ds_if (dt_cmp do_gt (de_ix (hu_of hr.r) (de_var (pv 5)) ((T.c_LOW.elim fun _ h => de_glob (by rfl) h.1 h.2 fun _ _ => rfl)) (fun _ _ => rfl)) (de_int) (nomark _)) (dss_one (ds_ret (de_tup (dn_cons (de_var (pv 1)) (dn_cons (de_var (pv 2)) (dn_cons (de_var (pv 3)) (dn_cons (de_var (pv 4)) (dn_nil)))))))) (dss_nil)))) (dss_one (ds_raise (mk_BadGood T) (hr.mono (by first | decide | omega | (simp only [Nat.add_eq]; omega))) rfl (takes_of rfl rfl rfl rfl) pass_no (by rfl) T.g_BadGood (dn_cons (de_int) (dn_cons (de_str) (dn_nil))))))))))
theorem ok_need_good (T : Txt K mg Ad) : DFn P w K mg base 13 Ad.a_need_good Ad.d_need_good ["thing"] (Wneed_good K Ad.cls) :=
  dfn_of T.F_need_good sc_need_good fun cdv A outer s H E hr => (dss_cons (ds_expr (de_call (ok_look_over T) (hr.mono (by decide)) (by rfl) T.g_look_over T.F_look_over.kp T.b_look_over .nil rs0 pBody (dn_cons (de_var (pv 0)) (dn_nil)))) (dss_one (ds_ret (de_var (pv 0)))))
theorem ok_things (T : Txt K mg Ad) : DFn P w K mg base 13 Ad.a_things Ad.d_things ["good"] (Wthings K Ad.cls) :=
  dfn_of T.F_things sc_things fun cdv A outer s H E hr => (dss_cons (ds_asg (de_call (ok_look_over T) (hr.mono (by decide)) (by rfl) T.g_look_over T.F_look_over.kp T.b_look_over .nil rs0 pBody (dn_cons (de_var (pv 0)) (dn_nil))) (dg_tup rfl (dgs_cons (dg_name (i := 1) sc_things.nd rfl (by first | exact .inl rfl | exact .inr rfl)) (dgs_cons (dg_name (i := 2) sc_things.nd rfl (by first | exact .inl rfl | exact .inr rfl)) (dgs_cons (dg_name (i := 2) sc_things.nd rfl (by first | exact .inl rfl | exact .inr rfl)) (dgs_cons (dg_name (i := 2) sc_things.nd rfl (by first | exact .inl rfl | exact .inr rfl)) (dgs_nil))))))) (dss_one (ds_ret (de_callTy dc_tuple (by rfl) T.z_tuple (by decide +kernel) (dn_cons (de_var (pv 1)) (dn_nil))))))
theorem ok_steps (T : Txt K mg Ad) : DFn P w K mg base 13 Ad.a_steps Ad.d_steps ["good"] (Wsteps K Ad.cls) :=
  dfn_of T.F_steps sc_steps fun cdv A outer s H E hr => (dss_cons (ds_asg (de_call (ok_look_over T) (hr.mono (by decide)) (by rfl) T.g_look_over T.F_look_over.kp T.b_look_over .nil rs0 pBody (dn_cons (de_var (pv 0)) (dn_nil))) (dg_tup rfl (dgs_cons (dg_name (i := 1) sc_steps.nd rfl (by first | exact .inl rfl | exact .inr rfl)) (dgs_cons (dg_name (i := 1) sc_steps.nd rfl (by first | exact .inl rfl | exact .inr rfl)) (dgs_cons (dg_name (i := 2) sc_steps.nd rfl (by first | exact .inl rfl | exact .inr rfl)) (dgs_cons (dg_name (i := 1) sc_steps.nd rfl (by first | exact .inl rfl | exact .inr rfl)) (dgs_nil))))))) (dss_one (ds_ret (de_callTy dc_tuple (by rfl) T.z_tuple (by decide +kernel) (dn_cons (de_var (pv 2)) (dn_nil))))))
theorem ok_moves (T : Txt K mg Ad) : DFn P w K mg base 13 Ad.a_moves Ad.d_moves ["good"] (Wmoves K Ad.cls) :=
  dfn_of T.F_moves sc_moves fun cdv A outer s H E hr => (dss_cons (ds_asg (de_call (ok_look_over T) (hr.mono (by decide)) (by rfl) T.g_look_over T.F_look_over.kp T.b_look_over .nil rs0 pBody (dn_cons (de_var (pv 0)) (dn_nil))) (dg_tup rfl (dgs_cons (dg_name (i := 1) sc_moves.nd rfl (by first | exact .inl rfl | exact .inr rfl)) (dgs_cons (dg_name (i := 1) sc_moves.nd rfl (by first | exact .inl rfl | exact .inr rfl)) (dgs_cons (dg_name (i := 1) sc_moves.nd rfl (by first | exact .inl rfl | exact .inr rfl)) (dgs_cons (dg_name (i := 2) sc_moves.nd rfl (by first | exact .inl rfl | exact .inr rfl)) (dgs_nil))))))) (dss_one (ds_ret (de_callTy dc_tuple (by rfl) T.z_tuple (by decide +kernel) (dn_cons (de_var (pv 2)) (dn_nil))))))
theorem ok_lows (T : Txt K mg Ad) : DFn P w K mg base 14 Ad.a_lows Ad.d_lows ["good"] (Wlows K Ad.cls) :=
  dfn_of T.F_lows sc_lows fun cdv A outer s H E hr => (dss_one (ds_ret (de_callTy dc_tuple (by rfl) T.z_tuple (by decide +kernel) (dn_cons (de_comp [("thing", 1)] (gName 1) rfl sc_lows.nd (di_seq (de_call (ok_things T) (hr.mono (by decide)) (by rfl) T.g_things T.F_things.kp T.b_things .nil rs0 pBody (dn_cons (de_var (pv 0)) (dn_nil)))) (blkOk_by (N := N_lows) (sc := defScope st_lows) (by decide +kernel)) (fun _ _ _ _ _ => pg_name (i := 1) sc_lows.nd rfl (by first | exact .inl rfl | exact .inr rfl)) (gv_name (by decide)) (fun _ _ _ _ _ => dts_nil) (fun _ _ _ _ _ => de_tup (dn_cons (de_ix (hu_of hr.r) (de_var (pv 1)) ((T.c_LOW.elim fun _ h => de_glob (by rfl) h.1 h.2 fun _ _ => rfl)) (fun _ _ => rfl)) (dn_cons (de_int) (dn_nil))))) (dn_nil)))))
theorem ok_highs (T : Txt K mg Ad) : DFn P w K mg base 14 Ad.a_highs Ad.d_highs ["good"] (Whighs K Ad.cls) :=
  dfn_of T.F_highs sc_highs fun cdv A outer s H E hr => (dss_one (ds_ret (de_callTy dc_tuple (by rfl) T.z_tuple (by decide +kernel) (dn_cons (de_comp [("thing", 1)] (gName 1) rfl sc_highs.nd (di_seq (de_call (ok_things T) (hr.mono (by decide)) (by rfl) T.g_things T.F_things.kp T.b_things .nil rs0 pBody (dn_cons (de_var (pv 0)) (dn_nil)))) (blkOk_by (N := N_highs) (sc := defScope st_highs) (by decide +kernel)) (fun _ _ _ _ _ => pg_name (i := 1) sc_highs.nd rfl (by first | exact .inl rfl | exact .inr rfl)) (gv_name (by decide)) (fun _ _ _ _ _ => dts_nil) (fun _ _ _ _ _ => de_tup (dn_cons (de_ix (hu_of hr.r) (de_var (pv 1)) ((T.c_HIGH.elim fun _ h => de_glob (by rfl) h.1 h.2 fun _ _ => rfl)) (fun _ _ => rfl)) (dn_cons (de_int) (dn_nil))))) (dn_nil)))))
theorem ok__law_begun (T : Txt K mg Ad) : DFn P w K mg base 1 Ad.a__law_begun Ad.d__law_begun ["script"] (W_law_begun K Ad.cls) :=
  dfn_of T.F__law_begun sc__law_begun fun cdv A outer s H E hr => (dss_cons (ds_setComp (i := 1) [("cell", 2)] (gName 2) rfl sc__law_begun.nd rfl rfl (sw_true rfl rfl rfl (by decide +kernel)) (di_seq (de_var (pv 0))) (blkOk_by (N := N__law_begun) (sc := defScope st__law_begun) (by decide +kernel)) (fun _ _ _ _ _ => pg_name (i := 2) sc__law_begun.nd rfl (by first | exact .inl rfl | exact .inr rfl)) (gv_name (by decide)) (fun _ _ _ _ _ => dts_one (dt_cmp do_ge (de_var (pv 2)) (de_op do_pow (de_int) (de_int)) (nomark _))) (fun _ _ _ _ _ => de_var (pv 2))) (dss_one (ds_ret (de_dct (.str (de_op do_add (de_callTy dc_list (by rfl) T.z_list (by decide +kernel) (dn_cons (de_var (pv 0)) (dn_nil))) (de_lst (dn_cons (de_callB dc_len (by rfl) T.z_len (by decide +kernel) (dn_cons (de_var (pv 0)) (dn_nil))) (dn_nil)))) (.str (de_ite (dt_cmp (do_ne hr.r.units) (de_var (pv 1)) (de_lst (dn_nil)) (nomark _)) (de_ix (hu_of hr.r) (de_var (pv 1)) (de_int) (fun _ _ => rfl)) (de_int)) (.str (de_int) (.nil)))) (by rfl) (by rfl) (fun z => by cases z) (by decide) (Nat.le_of_ble_eq_true rfl) (by first | decide +kernel | (simp only [List.map_cons, List.map_nil]; decide +kernel))))))
theorem ok__law_draw (T : Txt K mg Ad) : DFn P w K mg base 1 Ad.a__law_draw Ad.d__law_draw ["m", "limit"] (W_law_draw K Ad.cls) :=
  dfn_of T.F__law_draw sc__law_draw fun cdv A outer s H E hr => (dss_cons (ds_if (dt_cmp do_gt (de_ix (hu_of hr.r) (de_var (pv 0)) (de_str) (fun _ _ => rfl)) (de_int) (nomark _)) (dss_cons (ds_set (i := 2) sc__law_draw.nd rfl (by first | exact .inl rfl | exact .inr rfl) (de_op do_mod (de_callTy dc_int (by rfl) T.z_int (by decide +kernel) (dn_cons (de_ix (hu_of hr.r) (de_var (pv 0)) (de_str) (fun _ _ => rfl)) (dn_nil))) (de_var (pv 1)))) (dss_cons (ds_asg (de_op do_fdiv (de_ix (hu_of hr.r) (de_var (pv 0)) (de_str) (fun _ _ => rfl)) (de_var (pv 1))) (dg_sub (hu_of hr.r) (de_var (pv 0)) (de_str))) (dss_one (ds_ret (de_var (pv 2)))))) (dss_nil)) (dss_cons (ds_set (i := 3) sc__law_draw.nd rfl (by first | exact .inl rfl | exact .inr rfl) (de_op do_add (de_ix (hu_of hr.r) (de_var (pv 0)) (de_str) (fun _ _ => rfl)) (de_int))) (dss_cons (ds_asg (de_var (pv 3)) (dg_sub (hu_of hr.r) (de_var (pv 0)) (de_str))) (dss_cons (ds_set (i := 4) sc__law_draw.nd rfl (by first | exact .inl rfl | exact .inr rfl) (de_ix (hu_of hr.r) (de_ix (hu_of hr.r) (de_var (pv 0)) (de_str) (fun _ _ => rfl)) (de_op do_mod (de_callTy dc_int (by rfl) T.z_int (by decide +kernel) (dn_cons (de_var (pv 3)) (dn_nil))) (de_callB dc_len (by rfl) T.z_len (by decide +kernel) (dn_cons (de_ix (hu_of hr.r) (de_var (pv 0)) (de_str) (fun _ _ => rfl)) (dn_nil)))) (fun _ _ => rfl))) (dss_cons (ds_set (i := 5) sc__law_draw.nd rfl (by first | exact .inl rfl | exact .inr rfl) (de_op do_mul (de_callTy dc_int (by rfl) T.z_int (by decide +kernel) (dn_cons (de_op do_add (de_op do_add (de_op do_mod (de_callTy dc_int (by rfl) T.z_int (by decide +kernel) (dn_cons (de_var (pv 4)) (dn_nil))) (de_int)) (de_op do_mul (de_int) (de_var (pv 3)))) (de_op do_mul (de_op do_mul (de_int) (de_var (pv 3))) (de_var (pv 3)))) (dn_nil))) (de_int))) (dss_cons (ds_set (i := 5) sc__law_draw.nd rfl (by first | exact .inl rfl | exact .inr rfl) (de_op do_mul (de_callTy dc_int (by rfl) T.z_int (by decide +kernel) (dn_cons (de_op do_add (de_op do_mod (de_callTy dc_int (by rfl) T.z_int (by decide +kernel) (dn_cons (de_var (pv 5)) (dn_nil))) (de_int)) (de_op do_mul (de_int) (de_var (pv 3)))) (dn_nil))) (de_int))) (dss_one (ds_ret (de_op do_mod (de_callTy dc_int (by rfl) T.z_int (by decide +kernel) (dn_cons (de_op do_fdiv (de_op do_mod (de_callTy dc_int (by rfl) T.z_int (by decide +kernel) (dn_cons (de_var (pv 5)) (dn_nil))) (de_int)) (de_int)) (dn_nil))) (de_var (pv 1)))))))))))
theorem ok__law_of (T : Txt K mg Ad) : DFn P w K mg base 2 Ad.a__law_of Ad.d__law_of ["m", "some"] (W_law_of K Ad.cls) :=
  dfn_of T.F__law_of sc__law_of fun cdv A outer s H E hr => (dss_one (ds_ret (de_ix (hu_of hr.r) (de_var (pv 1)) (de_call (ok__law_draw T) (hr.mono (by decide)) (by rfl) T.g__law_draw T.F__law_draw.kp T.b__law_draw .nil rs0 pBody (dn_cons (de_var (pv 0)) (dn_cons (de_callB dc_len (by rfl) T.z_len (by decide +kernel) (dn_cons (de_var (pv 1)) (dn_nil))) (dn_nil)))) (fun _ _ => rfl))))
theorem ok__law_span (T : Txt K mg Ad) : DFn P w K mg base 3 Ad.a__law_span Ad.d__law_span ["m", "left"] (W_law_span K Ad.cls) :=
  dfn_of T.F__law_span sc__law_span fun cdv A outer s H E hr => (dss_cons (ds_set (i := 2) sc__law_span.nd rfl (by first | exact .inl rfl | exact .inr rfl) (de_call (ok__law_of T) (hr.mono (by decide)) (by rfl) T.g__law_of T.F__law_of.kp T.b__law_of .nil rs0 pBody (dn_cons (de_var (pv 0)) (dn_cons (de_lst (dn_cons (de_int) (dn_cons (de_int) (dn_cons (de_int) (dn_cons (de_int) (dn_cons (de_int) (dn_cons (de_call (ok__law_draw T) (hr.mono (by decide)) (by rfl) T.g__law_draw T.F__law_draw.kp T.b__law_draw .nil rs0 pBody (dn_cons (de_var (pv 0)) (dn_cons (de_int) (dn_nil)))) (dn_cons (de_call (ok__law_draw T) (hr.mono (by decide)) (by rfl) T.g__law_draw T.F__law_draw.kp T.b__law_draw .nil rs0 pBody (dn_cons (de_var (pv 0)) (dn_cons (de_op do_sub (de_op do_pow (de_int) (de_int)) (de_int)) (dn_nil)))) (dn_nil))))))))) (dn_nil))))) (dss_cons (ds_if (DW.dt (dw_or (dt_cmp (do_eq hr.r.units) (de_ix (hu_of hr.r) (de_var (pv 1)) (de_str) (fun _ _ => rfl)) (de_int) (nomark _)) (dw_or1 (dt_cmp (do_eq hr.r.units) (de_call (ok__law_draw T) (hr.mono (by decide)) (by rfl) T.g__law_draw T.F__law_draw.kp T.b__law_draw .nil rs0 pBody (dn_cons (de_var (pv 0)) (dn_cons (de_int) (dn_nil)))) (de_int) (nomark _))))) (dss_one (ds_ret (de_tup (dn_cons (de_var (pv 2)) (dn_cons (de_var (pv 2)) (dn_nil)))))) (dss_nil)) (dss_cons (ds_asg (de_op do_sub (de_ix (hu_of hr.r) (de_var (pv 1)) (de_str) (fun _ _ => rfl)) (de_int)) (dg_sub (hu_of hr.r) (de_var (pv 1)) (de_str))) (dss_one (ds_ret (de_tup (dn_cons (de_var (pv 2)) (dn_cons (de_op do_add (de_op do_add (de_var (pv 2)) (de_int)) (de_call (ok__law_of T) (hr.mono (by decide)) (by rfl) T.g__law_of T.F__law_of.kp T.b__law_of .nil rs0 pBody (dn_cons (de_var (pv 0)) (dn_cons (de_lst (dn_cons (de_int) (dn_cons (de_int) (dn_cons (de_call (ok__law_draw T) (hr.mono (by decide)) (by rfl) T.g__law_draw T.F__law_draw.kp T.b__law_draw .nil rs0 pBody (dn_cons (de_var (pv 0)) (dn_cons (de_int) (dn_nil)))) (dn_nil))))) (dn_nil))))) (dn_nil)))))))))
theorem ok__law_term (T : Txt K mg Ad) : DFn P w K mg base 3 Ad.a__law_term Ad.d__law_term ["m"] (W_law_term K Ad.cls) :=
  dfn_of T.F__law_term sc__law_term fun cdv A outer s H E hr => (dss_cons (ds_set (i := 1) sc__law_term.nd rfl (by first | exact .inl rfl | exact .inr rfl) (de_call (ok__law_of T) (hr.mono (by decide)) (by rfl) T.g__law_of T.F__law_of.kp T.b__law_of .nil rs0 pBody (dn_cons (de_var (pv 0)) (dn_cons (de_lst (dn_cons (de_int) (dn_cons (de_int) (dn_cons (de_int) (dn_cons (de_int) (dn_cons (de_int) (dn_cons (de_call (ok__law_draw T) (hr.mono (by decide)) (by rfl) T.g__law_draw T.F__law_draw.kp T.b__law_draw .nil rs0 pBody (dn_cons (de_var (pv 0)) (dn_cons (de_int) (dn_nil)))) (dn_nil)))))))) (dn_nil))))) (dss_one (ds_ret (de_tup (dn_cons (de_var (pv 1)) (dn_cons (de_call (ok__law_of T) (hr.mono (by decide)) (by rfl) T.g__law_of T.F__law_of.kp T.b__law_of .nil rs0 pBody (dn_cons (de_var (pv 0)) (dn_cons (de_lst (dn_cons (de_str) (dn_cons (de_str) (dn_cons (de_str) (dn_nil))))) (dn_nil)))) (dn_cons (de_call (ok__law_of T) (hr.mono (by decide)) (by rfl) T.g__law_of T.F__law_of.kp T.b__law_of .nil rs0 pBody (dn_cons (de_var (pv 0)) (dn_cons (de_lst (dn_cons (de_str) (dn_cons (de_str) (dn_cons (de_str) (dn_nil))))) (dn_nil)))) (dn_nil))))))))
theorem ok__law_thing (T : Txt K mg Ad) : ∀ n : Nat, DFn P w K mg base (3 + n) Ad.a__law_thing Ad.d__law_thing ["m", "left", "must"] (W_law_thing K Ad.cls n)
  | 0 => dfn0
  | n + 1 => by
    have ih := ok__law_thing T n
    exact dfn_of T.F__law_thing sc__law_thing fun cdv A outer s H E hr => (dss_cons (ds_asg (de_call (ok__law_span T) (hr.mono (by first | omega | (simp only [Nat.add_eq]; omega))) (by rfl) T.g__law_span T.F__law_span.kp T.b__law_span .nil rs0 pBody (dn_cons (de_var (pv 0)) (dn_cons (de_var (pv 1)) (dn_nil)))) (dg_tup rfl (dgs_cons (dg_name (i := 3) sc__law_thing.nd rfl (by first | exact .inl rfl | exact .inr rfl)) (dgs_cons (dg_name (i := 4) sc__law_thing.nd rfl (by first | exact .inl rfl | exact .inr rfl)) (dgs_nil))))) (dss_cons (ds_set (i := 5) sc__law_thing.nd rfl (by first | exact .inl rfl | exact .inr rfl) (de_call (ok__law_of T) (hr.mono (by first | omega | (simp only [Nat.add_eq]; omega))) (by rfl) T.g__law_of T.F__law_of.kp T.b__law_of .nil rs0 pBody (dn_cons (de_var (pv 0)) (dn_cons (de_lst (dn_cons (de_str) (dn_cons (de_str) (dn_nil)))) (dn_nil))))) (dss_cons (ds_if (DW.dt (dw_and (dt_not (dt_tru (de_var (pv 2)))) (dw_and1 (DW.dt (dw_or (dt_cmp (do_eq hr.r.units) (de_ix (hu_of hr.r) (de_var (pv 1)) (de_str) (fun _ _ => rfl)) (de_int) (nomark _)) (dw_or (dt_cmp (do_eq hr.r.units) (de_ix (hu_of hr.r) (de_var (pv 1)) (de_str) (fun _ _ => rfl)) (de_int) (nomark _)) (dw_or1 (dt_cmp do_gt (de_call (ok__law_draw T) (hr.mono (by first | omega | (simp only [Nat.add_eq]; omega))) (by rfl) T.g__law_draw T.F__law_draw.kp T.b__law_draw .nil rs0 pBody (dn_cons (de_var (pv 0)) (dn_cons (de_int) (dn_nil)))) (de_int) (nomark _))))))))) (dss_one (ds_ret (de_tup (dn_cons (de_str) (dn_cons (de_var (pv 5)) (dn_cons (de_var (pv 3)) (dn_cons (de_var (pv 4)) (dn_nil)))))))) (dss_nil)) (dss_cons (ds_asg (de_op do_sub (de_ix (hu_of hr.r) (de_var (pv 1)) (de_str) (fun _ _ => rfl)) (de_int)) (dg_sub (hu_of hr.r) (de_var (pv 1)) (de_str))) (dss_cons (ds_set (i := 6) sc__law_thing.nd rfl (by first | exact .inl rfl | exact .inr rfl) (de_op do_add (de_int) (de_call (ok__law_draw T) (hr.mono (by first | omega | (simp only [Nat.add_eq]; omega))) (by rfl) T.g__law_draw T.F__law_draw.kp T.b__law_draw .nil rs0 pBody (dn_cons (de_var (pv 0)) (dn_cons (de_callB (dc_min2 rfl) (by rfl) T.z_min (by decide +kernel) (dn_cons (de_int) (dn_cons (de_ix (hu_of hr.r) (de_var (pv 1)) (de_str) (fun _ _ => rfl)) (dn_nil)))) (dn_nil)))))) (dss_cons (ds_asg (de_tup (dn_cons (de_op do_sub (de_ix (hu_of hr.r) (de_var (pv 1)) (de_str) (fun _ _ => rfl)) (de_var (pv 6))) (dn_cons (de_lstO (dn_nil)) (dn_nil)))) (dg_tup rfl (dgs_cons (dg_sub (hu_of hr.r) (de_var (pv 1)) (de_str)) (dgs_cons (dg_name (i := 7) sc__law_thing.nd rfl (by first | exact .inl rfl | exact .inr rfl)) (dgs_nil))))) (dss_cons (ds_for oBody rfl (di_range1 (by rfl) T.z_range (dn_cons (de_var (pv 6)) (dn_nil))) (dg_name (i := 8) sc__law_thing.nd rfl (by first | exact .inl rfl | exact .inr rfl)) (dss_one (ds_expr (de_app (de_var (pv 7)) (de_call ih (hr.mono (by first | omega | (simp only [Nat.add_eq]; omega))) (by rfl) T.g__law_thing T.F__law_thing.kp T.b__law_thing .nil rs0 pBody (dn_cons (de_var (pv 0)) (dn_cons (de_var (pv 1)) (dn_cons (de_bl) (dn_nil))))))))) (dss_one (ds_ret (de_tup (dn_cons (de_str) (dn_cons (de_var (pv 5)) (dn_cons (de_var (pv 3)) (dn_cons (de_var (pv 4)) (dn_cons (de_call (ok__law_term T) (hr.mono (by first | omega | (simp only [Nat.add_eq]; omega))) (by rfl) T.g__law_term T.F__law_term.kp T.b__law_term .nil rs0 pBody (dn_cons (de_var (pv 0)) (dn_nil))) (dn_cons (de_callTy dc_tuple (by rfl) T.z_tuple (by decide +kernel) (dn_cons (de_var (pv 7)) (dn_nil))) (dn_nil)))))))))))))))))
theorem ok__law_good (T : Txt K mg Ad) : DFn P w K mg base 12 Ad.a__law_good Ad.d__law_good ["m", "moving", "making"] (W_law_good K Ad.cls) :=
  dfn_of T.F__law_good sc__law_good fun cdv A outer s H E hr => (dss_cons (ds_set (i := 3) sc__law_good.nd rfl (by first | exact .inl rfl | exact .inr rfl) (de_dct (.str (de_call (ok__law_draw T) (hr.mono (by decide)) (by rfl) T.g__law_draw T.F__law_draw.kp T.b__law_draw .nil rs0 pBody (dn_cons (de_var (pv 0)) (dn_cons (de_op do_add (de_var (pv 1)) (de_int)) (dn_nil)))) (.str (de_op do_add (de_int) (de_call (ok__law_draw T) (hr.mono (by decide)) (by rfl) T.g__law_draw T.F__law_draw.kp T.b__law_draw .nil rs0 pBody (dn_cons (de_var (pv 0)) (dn_cons (de_var (pv 2)) (dn_nil))))) (.str (de_int) (.nil)))) (by rfl) (by rfl) (fun z => by cases z) (by decide) (Nat.le_of_ble_eq_true rfl) (by first | decide +kernel | (simp only [List.map_cons, List.map_nil]; decide +kernel)))) (dss_cons (ds_set (i := 4) sc__law_good.nd rfl (by first | exact .inl rfl | exact .inr rfl) (de_call (ok__law_thing T 8) (hr.mono (by decide)) (by rfl) T.g__law_thing T.F__law_thing.kp T.b__law_thing .nil rs0 pBody (dn_cons (de_var (pv 0)) (dn_cons (de_var (pv 3)) (dn_cons (de_bl) (dn_nil)))))) (dss_one (ds_ret (de_op do_add (de_op do_add (de_sl (de_var (pv 4)) (DL.do_none) (DL.do_some (de_int))) (de_tup (dn_cons (de_callB (dc_max2 rfl) (by rfl) T.z_max (by decide +kernel) (dn_cons (de_int) (dn_cons (de_ix (hu_of hr.r) (de_var (pv 4)) (de_int) (fun _ _ => rfl)) (dn_nil)))) (dn_cons (de_callB (dc_max2 rfl) (by rfl) T.z_max (by decide +kernel) (dn_cons (de_int) (dn_cons (de_ix (hu_of hr.r) (de_var (pv 4)) (de_int) (fun _ _ => rfl)) (dn_nil)))) (dn_nil))))) (de_sl (de_var (pv 4)) (DL.do_some (de_int)) (DL.do_none)))))))
theorem ok__law_rows (T : Txt K mg Ad) : ∀ n : Nat, DFn P w K mg base (0 + n) Ad.a__law_rows Ad.d__law_rows ["thing", "begin"] (W_law_rows K Ad.cls n)
  | 0 => dfn0
  | n + 1 => by
    have ih := ok__law_rows T n
    exact dfn_of T.F__law_rows sc__law_rows fun cdv A outer s H E hr => (dss_cons (ds_par (i := 2) (j := 3) rfl sc__law_rows.nd rfl rfl (by decide) rfl rfl (dn_cons (de_lst (dn_nil)) (dn_cons (de_lst (dn_nil)) (dn_nil))) (by rfl)) (dss_cons (ds_for oBody rfl (di_seq (de_ite (dt_cmp (do_eq hr.r.units) (de_ix (hu_of hr.r) (de_var (pv 0)) (de_int) (fun _ _ => rfl)) (de_str) (nomark _)) (de_ix (hu_of hr.r) (de_var (pv 0)) (de_int) (fun _ _ => rfl)) (de_tup (dn_nil)))) (dg_name (i := 4) sc__law_rows.nd rfl (by first | exact .inl rfl | exact .inr rfl)) (dss_cons (ds_set (i := 3) sc__law_rows.nd rfl (by first | exact .inl rfl | exact .inr rfl) (de_op do_add (de_var (pv 3)) (de_lst (dn_cons (de_op do_add (de_op do_add (de_var (pv 1)) (de_int)) (de_callB dc_len (by rfl) T.z_len (by decide +kernel) (dn_cons (de_var (pv 2)) (dn_nil)))) (dn_nil))))) (dss_one (ds_set (i := 2) sc__law_rows.nd rfl (by first | exact .inl rfl | exact .inr rfl) (de_op do_add (de_var (pv 2)) (de_call ih (hr.mono (by first | omega | (simp only [Nat.add_eq]; omega))) (by rfl) T.g__law_rows T.F__law_rows.kp T.b__law_rows .nil rs0 pBody (dn_cons (de_var (pv 4)) (dn_cons (de_op do_add (de_op do_add (de_var (pv 1)) (de_int)) (de_callB dc_len (by rfl) T.z_len (by decide +kernel) (dn_cons (de_var (pv 2)) (dn_nil)))) (dn_nil))))))))) (dss_one (ds_ret (de_op do_add (de_lst (dn_cons (de_tup (dn_cons (de_var (pv 0)) (dn_cons (de_var (pv 3)) (dn_nil)))) (dn_nil))) (de_var (pv 2)))))))
theorem ok__law_is_int (T : Txt K mg Ad) : DFn P w K mg base 1 Ad.a__law_is_int Ad.d__law_is_int ["thing", "low", "high"] (W_law_is_int K Ad.cls) :=
  dfn_of T.F__law_is_int sc__law_is_int fun cdv A outer s H E hr => (dss_one (ds_ret (de_and (de_callB dc_isi (by rfl) T.z_isinstance (by decide +kernel) (dn_cons (de_var (pv 0)) (dn_cons (de_bltn (by rfl) T.z_int (by decide +kernel)) (dn_nil)))) (de_and (de_not (de_callB dc_isi (by rfl) T.z_isinstance (by decide +kernel) (dn_cons (de_var (pv 0)) (dn_cons (de_bltn (by rfl) T.z_bool (by decide +kernel)) (dn_nil))))) (de_one (de_chain do_le do_le (de_var (pv 1)) (de_var (pv 0)) (de_var (pv 2))))))))
theorem ok__law_is_word (T : Txt K mg Ad) : DFn P w K mg base 1 Ad.a__law_is_word Ad.d__law_is_word ["thing", "some"] (W_law_is_word K Ad.cls) :=
  dfn_of T.F__law_is_word sc__law_is_word fun cdv A outer s H E hr => (dss_one (ds_ret (de_and (de_callB dc_isi (by rfl) T.z_isinstance (by decide +kernel) (dn_cons (de_var (pv 0)) (dn_cons (de_bltn (by rfl) T.z_str (by decide +kernel)) (dn_nil)))) (de_one (de_cmp (do_in (hu_of hr.r)) (de_var (pv 0)) (de_var (pv 1)) (by with_unfolding_all rfl))))))
theorem ok__law_wrong (T : Txt K mg Ad) : DFn P w K mg base 2 Ad.a__law_wrong Ad.d__law_wrong ["thing"] (W_law_wrong K Ad.cls) :=
  dfn_of T.F__law_wrong sc__law_wrong fun cdv A outer s H E hr => (dss_cons (ds_set (i := 1) sc__law_wrong.nd rfl (by first | exact .inl rfl | exact .inr rfl) (de_dct (.str (de_int) (.str (de_int) (.nil))) (by rfl) (by rfl) (fun z => by cases z) (by decide) (Nat.le_of_ble_eq_true rfl) (by first | decide +kernel | (simp only [List.map_cons, List.map_nil]; decide +kernel)))) (dss_cons (ds_if (DW.dt (dw_or (dt_not (dt_tru (de_callB dc_isi (by rfl) T.z_isinstance (by decide +kernel) (dn_cons (de_var (pv 0)) (dn_cons (de_bltn (by rfl) T.z_tuple (by decide +kernel)) (dn_nil)))))) (dw_or (dt_cmp (do_eqE hr.r.units) (de_var (pv 0)) (de_tup (dn_nil)) (nomark _)) (dw_or1 (dt_not (dt_tru (de_call (ok__law_is_word T) (hr.mono (by decide)) (by rfl) T.g__law_is_word T.F__law_is_word.kp T.b__law_is_word .nil rs0 pBody (dn_cons (de_ix (hu_of hr.r) (de_var (pv 0)) (de_int) (fun _ _ => rfl)) (dn_cons (de_lst (dn_cons (de_str) (dn_cons (de_str) (dn_nil)))) (dn_nil)))))))))) (dss_one (ds_ret (de_str))) (dss_nil)) (dss_cons (ds_if (dt_cmp (do_ne hr.r.units) (de_callB dc_len (by rfl) T.z_len (by decide +kernel) (dn_cons (de_var (pv 0)) (dn_nil))) (de_ix (hu_of hr.r) (de_var (pv 1)) (de_ix (hu_of hr.r) (de_var (pv 0)) (de_int) (fun _ _ => rfl)) (fun _ _ => rfl)) (nomark _)) (dss_one (ds_ret (de_str))) (dss_nil)) (dss_cons (ds_if (dt_not (dt_tru (de_call (ok__law_is_word T) (hr.mono (by decide)) (by rfl) T.g__law_is_word T.F__law_is_word.kp T.b__law_is_word .nil rs0 pBody (dn_cons (de_ix (hu_of hr.r) (de_var (pv 0)) (de_int) (fun _ _ => rfl)) (dn_cons (de_lst (dn_cons (de_str) (dn_cons (de_str) (dn_nil)))) (dn_nil)))))) (dss_one (ds_ret (de_str))) (dss_nil)) (dss_cons (ds_if (dt_not (dt_tru (de_call (ok__law_is_int T) (hr.mono (by decide)) (by rfl) T.g__law_is_int T.F__law_is_int.kp T.b__law_is_int .nil rs0 pBody (dn_cons (de_ix (hu_of hr.r) (de_var (pv 0)) (de_int) (fun _ _ => rfl)) (dn_cons (de_int) (dn_cons (de_op do_pow (de_int) (de_int)) (dn_nil))))))) (dss_one (ds_ret (de_str))) (dss_nil)) (dss_cons (ds_if (dt_not (dt_tru (de_call (ok__law_is_int T) (hr.mono (by decide)) (by rfl) T.g__law_is_int T.F__law_is_int.kp T.b__law_is_int .nil rs0 pBody (dn_cons (de_ix (hu_of hr.r) (de_var (pv 0)) (de_int) (fun _ _ => rfl)) (dn_cons (de_ix (hu_of hr.r) (de_var (pv 0)) (de_int) (fun _ _ => rfl)) (dn_cons (de_op do_pow (de_int) (de_int)) (dn_nil))))))) (dss_one (ds_ret (de_str))) (dss_nil)) (dss_cons (ds_if (dt_cmp (do_eq hr.r.units) (de_ix (hu_of hr.r) (de_var (pv 0)) (de_int) (fun _ _ => rfl)) (de_str) (nomark _)) (dss_one (ds_ret (de_non))) (dss_nil)) (dss_cons (ds_if (DW.dt (dw_or (dt_not (dt_tru (de_callB dc_isi (by rfl) T.z_isinstance (by decide +kernel) (dn_cons (de_ix (hu_of hr.r) (de_var (pv 0)) (de_int) (fun _ _ => rfl)) (dn_cons (de_bltn (by rfl) T.z_tuple (by decide +kernel)) (dn_nil)))))) (dw_or (dt_cmp (do_ne hr.r.units) (de_callB dc_len (by rfl) T.z_len (by decide +kernel) (dn_cons (de_ix (hu_of hr.r) (de_var (pv 0)) (de_int) (fun _ _ => rfl)) (dn_nil))) (de_int) (nomark _)) (dw_or1 (dt_not (dt_tru (de_call (ok__law_is_int T) (hr.mono (by decide)) (by rfl) T.g__law_is_int T.F__law_is_int.kp T.b__law_is_int .nil rs0 pBody (dn_cons (de_ix (hu_of hr.r) (de_ix (hu_of hr.r) (de_var (pv 0)) (de_int) (fun _ _ => rfl)) (de_int) (fun _ _ => rfl)) (dn_cons (de_int) (dn_cons (de_int) (dn_nil))))))))))) (dss_one (ds_ret (de_str))) (dss_nil)) (dss_cons (ds_if (DW.dt (dw_or (dt_not (dt_tru (de_call (ok__law_is_word T) (hr.mono (by decide)) (by rfl) T.g__law_is_word T.F__law_is_word.kp T.b__law_is_word .nil rs0 pBody (dn_cons (de_ix (hu_of hr.r) (de_ix (hu_of hr.r) (de_var (pv 0)) (de_int) (fun _ _ => rfl)) (de_int) (fun _ _ => rfl)) (dn_cons (de_lst (dn_cons (de_str) (dn_cons (de_str) (dn_nil)))) (dn_nil)))))) (dw_or1 (dt_not (dt_tru (de_call (ok__law_is_word T) (hr.mono (by decide)) (by rfl) T.g__law_is_word T.F__law_is_word.kp T.b__law_is_word .nil rs0 pBody (dn_cons (de_ix (hu_of hr.r) (de_ix (hu_of hr.r) (de_var (pv 0)) (de_int) (fun _ _ => rfl)) (de_int) (fun _ _ => rfl)) (dn_cons (de_lst (dn_cons (de_str) (dn_cons (de_str) (dn_nil)))) (dn_nil))))))))) (dss_one (ds_ret (de_str))) (dss_nil)) (dss_one (ds_ret (de_ite (DW.dt (dw_and (dt_tru (de_callB dc_isi (by rfl) T.z_isinstance (by decide +kernel) (dn_cons (de_ix (hu_of hr.r) (de_var (pv 0)) (de_int) (fun _ _ => rfl)) (dn_cons (de_bltn (by rfl) T.z_tuple (by decide +kernel)) (dn_nil))))) (dw_and1 (dt_chain do_le do_le (de_int) (de_callB dc_len (by rfl) T.z_len (by decide +kernel) (dn_cons (de_ix (hu_of hr.r) (de_var (pv 0)) (de_int) (fun _ _ => rfl)) (dn_nil))) (de_int))))) (de_non) (de_str)))))))))))))
theorem ok__law_starts (T : Txt K mg Ad) : DFn P w K mg base 2 Ad.a__law_starts Ad.d__law_starts ["thing"] (W_law_starts K Ad.cls) :=
  dfn_of T.F__law_starts sc__law_starts fun cdv A outer s H E hr => (dss_one (ds_ret (de_and (de_callB dc_isi (by rfl) T.z_isinstance (by decide +kernel) (dn_cons (de_var (pv 0)) (dn_cons (de_bltn (by rfl) T.z_tuple (by decide +kernel)) (dn_nil)))) (de_and (de_cmp (do_neE hr.r.units) (de_var (pv 0)) (de_tup (dn_nil)) (nomark _)) (de_one (de_call (ok__law_is_word T) (hr.mono (by decide)) (by rfl) T.g__law_is_word T.F__law_is_word.kp T.b__law_is_word .nil rs0 pBody (dn_cons (de_ix (hu_of hr.r) (de_var (pv 0)) (de_int) (fun _ _ => rfl)) (dn_cons (de_lst (dn_cons (de_str) (dn_nil))) (dn_nil)))))))))
theorem ok__law_first_wrong (T : Txt K mg Ad) : ∀ n : Nat, DFn P w K mg base (2 + n) Ad.a__law_first_wrong Ad.d__law_first_wrong ["thing", "seen"] (W_law_first_wrong K Ad.cls n)
  | 0 => dfn0
  | n + 1 => by
    have ih := ok__law_first_wrong T n
    exact dfn_of T.F__law_first_wrong sc__law_first_wrong fun cdv A outer s H E hr => (dss_cons (ds_set (i := 2) sc__law_first_wrong.nd rfl (by first | exact .inl rfl | exact .inr rfl) (de_ix (hu_of hr.r) (de_var (pv 1)) (de_str) (fun _ _ => rfl))) (dss_cons (ds_asg (de_tup (dn_cons (de_op do_add (de_var (pv 2)) (de_int)) (dn_cons (de_op do_add (de_ix (hu_of hr.r) (de_var (pv 1)) (de_str) (fun _ _ => rfl)) (de_callTy dc_int (by rfl) T.z_int (by decide +kernel) (dn_cons (de_call (ok__law_starts T) (hr.mono (by first | omega | (simp only [Nat.add_eq]; omega))) (by rfl) T.g__law_starts T.F__law_starts.kp T.b__law_starts .nil rs0 pBody (dn_cons (de_var (pv 0)) (dn_nil))) (dn_nil)))) (dn_nil)))) (dg_tup rfl (dgs_cons (dg_sub (hu_of hr.r) (de_var (pv 1)) (de_str)) (dgs_cons (dg_sub (hu_of hr.r) (de_var (pv 1)) (de_str)) (dgs_nil))))) (dss_cons (ds_if (DW.dt (dw_or (dt_cmp (do_eq hr.r.units) (de_var (pv 2)) (de_int) (nomark _)) (dw_or1 (DW.dt (dw_and (dt_tru (de_call (ok__law_starts T) (hr.mono (by first | omega | (simp only [Nat.add_eq]; omega))) (by rfl) T.g__law_starts T.F__law_starts.kp T.b__law_starts .nil rs0 pBody (dn_cons (de_var (pv 0)) (dn_nil)))) (dw_and1 (dt_cmp do_gt (de_ix (hu_of hr.r) (de_var (pv 1)) (de_str) (fun _ _ => rfl)) (de_int) (nomark _)))))))) (dss_one (ds_ret (de_tup (dn_cons (de_var (pv 2)) (dn_cons (de_str) (dn_nil)))))) (dss_nil)) (dss_cons (ds_set (i := 3) sc__law_first_wrong.nd rfl (by first | exact .inl rfl | exact .inr rfl) (de_call (ok__law_wrong T) (hr.mono (by first | omega | (simp only [Nat.add_eq]; omega))) (by rfl) T.g__law_wrong T.F__law_wrong.kp T.b__law_wrong .nil rs0 pBody (dn_cons (de_var (pv 0)) (dn_nil)))) (dss_cons (ds_if (dt_cmp do_isnot (de_var (pv 3)) (de_non) (nomark _)) (dss_one (ds_ret (de_tup (dn_cons (de_var (pv 2)) (dn_cons (de_var (pv 3)) (dn_nil)))))) (dss_nil)) (dss_cons (ds_for oBody rfl (di_seq (de_ite (dt_cmp (do_eq hr.r.units) (de_ix (hu_of hr.r) (de_var (pv 0)) (de_int) (fun _ _ => rfl)) (de_str) (nomark _)) (de_ix (hu_of hr.r) (de_var (pv 0)) (de_int) (fun _ _ => rfl)) (de_tup (dn_nil)))) (dg_name (i := 4) sc__law_first_wrong.nd rfl (by first | exact .inl rfl | exact .inr rfl)) (dss_cons (ds_set (i := 5) sc__law_first_wrong.nd rfl (by first | exact .inl rfl | exact .inr rfl) (de_call ih (hr.mono (by first | omega | (simp only [Nat.add_eq]; omega))) (by rfl) T.g__law_first_wrong T.F__law_first_wrong.kp T.b__law_first_wrong .nil rs0 pBody (dn_cons (de_var (pv 4)) (dn_cons (de_var (pv 1)) (dn_nil))))) (dss_one (ds_if (dt_cmp do_isnot (de_var (pv 5)) (de_non) (nomark _)) (dss_one (ds_ret (de_var (pv 5)))) (dss_nil))))) (dss_one (ds_ret (de_non)))))))))
theorem ok__law_due (T : Txt K mg Ad) : DFn P w K mg base 13 Ad.a__law_due Ad.d__law_due ["thing"] (W_law_due K Ad.cls) :=
  dfn_of T.F__law_due sc__law_due fun cdv A outer s H E hr => (dss_cons (ds_set (i := 1) sc__law_due.nd rfl (by first | exact .inl rfl | exact .inr rfl) (de_call (ok__law_first_wrong T 10) (hr.mono (by decide)) (by rfl) T.g__law_first_wrong T.F__law_first_wrong.kp T.b__law_first_wrong .nil rs0 pBody (dn_cons (de_var (pv 0)) (dn_cons (de_dct (.str (de_int) (.str (de_int) (.nil))) (by rfl) (by rfl) (fun z => by cases z) (by decide) (Nat.le_of_ble_eq_true rfl) (by first | decide +kernel | (simp only [List.map_cons, List.map_nil]; decide +kernel))) (dn_nil))))) (dss_cons (ds_if (dt_cmp do_isnot (de_var (pv 1)) (de_non) (nomark _)) (dss_one (ds_ret (de_var (pv 1)))) (dss_nil)) (dss_cons (ds_if (dt_cmp (do_eq hr.r.units) (de_ix (hu_of hr.r) (de_var (pv 0)) (de_int) (fun _ _ => rfl)) (de_str) (nomark _)) (dss_one (ds_ret (de_tup (dn_cons (de_int) (dn_cons (de_str) (dn_nil)))))) (dss_nil)) (dss_cons (ds_setComp (i := 2) [("one", 3), ("numbers", 4)] (gTup K 2 (gCons (gName 3) (gCons (gName 4) (gNil)))) rfl sc__law_due.nd rfl rfl (sw_true rfl rfl rfl (by decide +kernel)) (di_seq (de_call (ok__law_rows T 8) (hr.mono (by decide)) (by rfl) T.g__law_rows T.F__law_rows.kp T.b__law_rows .nil rs0 pBody (dn_cons (de_var (pv 0)) (dn_cons (de_int) (dn_nil))))) (blkOk_by (N := N__law_due) (sc := defScope st__law_due) (by decide +kernel)) (fun _ _ _ _ _ => pg_tup rfl (pgs_cons (pg_name (i := 3) sc__law_due.nd rfl (by first | exact .inl rfl | exact .inr rfl)) (pgs_cons (pg_name (i := 4) sc__law_due.nd rfl (by first | exact .inl rfl | exact .inr rfl)) (pgs_nil)))) (gv_tup (gvs_cons (gv_name (by decide)) (gvs_cons (gv_name (by decide)) (gvs_nil)))) (fun _ _ _ _ _ => dts_nil) (fun _ _ _ _ _ => de_var (pv 3))) (dss_cons (ds_if (dt_cmp do_gt (de_callB dc_len (by rfl) T.z_len (by decide +kernel) (dn_cons (de_comp [("one", 3)] (gName 3) rfl sc__law_due.nd (di_seq (de_var (pv 2))) (blkOk_by (N := N__law_due) (sc := defScope st__law_due) (by decide +kernel)) (fun _ _ _ _ _ => pg_name (i := 3) sc__law_due.nd rfl (by first | exact .inl rfl | exact .inr rfl)) (gv_name (by decide)) (fun _ _ _ _ _ => dts_one (dt_cmp do_lt (de_ix (hu_of hr.r) (de_var (pv 3)) (de_int) (fun _ _ => rfl)) (de_ix (hu_of hr.r) (de_var (pv 3)) (de_int) (fun _ _ => rfl)) (nomark _))) (fun _ _ _ _ _ => de_int)) (dn_nil))) (de_int) (nomark _)) (dss_one (ds_ret (de_tup (dn_cons (de_int) (dn_cons (de_str) (dn_nil)))))) (dss_nil)) (dss_one (ds_ret (de_ite (dt_cmp (do_ne hr.r.units) (de_comp [("one", 3)] (gName 3) rfl sc__law_due.nd (di_seq (de_var (pv 2))) (blkOk_by (N := N__law_due) (sc := defScope st__law_due) (by decide +kernel)) (fun _ _ _ _ _ => pg_name (i := 3) sc__law_due.nd rfl (by first | exact .inl rfl | exact .inr rfl)) (gv_name (by decide)) (fun _ _ _ _ _ => dts_one (dt_cmp do_gt (de_ix (hu_of hr.r) (de_var (pv 3)) (de_int) (fun _ _ => rfl)) (de_int) (nomark _))) (fun _ _ _ _ _ => de_int)) (de_lst (dn_nil)) (nomark _)) (de_lst (dn_cons (de_var (pv 0)) (dn_nil))) (de_tup (dn_cons (de_int) (dn_cons (de_str) (dn_nil))))))))))))
theorem ok__law_odd (T : Txt K mg Ad) : DFn P w K mg base 3 Ad.a__law_odd Ad.d__law_odd ["m"] (W_law_odd K Ad.cls) :=
  dfn_of T.F__law_odd sc__law_odd fun cdv A outer s H E hr => (dss_cons (ds_set (i := 1) sc__law_odd.nd rfl (by first | exact .inl rfl | exact .inr rfl) (de_lst (dn_cons (de_non) (dn_cons (de_bl) (dn_cons (de_int) (dn_cons (de_int) (dn_cons (de_neg (de_int)) (dn_cons (de_int) (dn_cons (de_op do_add (de_op do_pow (de_int) (de_int)) (de_int)) (dn_cons (de_str) (dn_cons (de_str) (dn_cons (de_str) (dn_cons (de_str) (dn_cons (de_str) (dn_cons (de_str) (dn_cons (de_tup (dn_nil)) (dn_cons (de_tup (dn_cons (de_str) (dn_nil))) (dn_cons (de_lst (dn_nil)) (dn_cons (de_fz (de_dctN)) (dn_nil)))))))))))))))))))) (dss_cons (ds_set (i := 1) sc__law_odd.nd rfl (by first | exact .inl rfl | exact .inr rfl) (de_op do_add (de_var (pv 1)) (de_lst (dn_cons (de_tup (dn_cons (de_str) (dn_cons (de_str) (dn_cons (de_int) (dn_cons (de_int) (dn_nil)))))) (dn_cons (de_tup (dn_cons (de_str) (dn_cons (de_str) (dn_cons (de_int) (dn_cons (de_int) (dn_nil)))))) (dn_cons (de_tup (dn_cons (de_int) (dn_cons (de_str) (dn_cons (de_str) (dn_nil))))) (dn_cons (de_op do_mul (de_tup (dn_cons (de_tup (dn_cons (de_str) (dn_cons (de_str) (dn_cons (de_int) (dn_cons (de_int) (dn_nil)))))) (dn_nil))) (de_int)) (dn_nil)))))))) (dss_one (ds_ret (de_call (ok__law_of T) (hr.mono (by decide)) (by rfl) T.g__law_of T.F__law_of.kp T.b__law_of .nil rs0 pBody (dn_cons (de_var (pv 0)) (dn_cons (de_op do_add (de_var (pv 1)) (de_lst (dn_cons (de_tup (dn_cons (de_str) (dn_nil))) (dn_cons (de_tup (dn_cons (de_str) (dn_cons (de_str) (dn_cons (de_int) (dn_cons (de_int) (dn_cons (de_tup (dn_cons (de_int) (dn_cons (de_str) (dn_cons (de_str) (dn_nil))))) (dn_cons (de_tup (dn_cons (de_tup (dn_cons (de_str) (dn_cons (de_str) (dn_cons (de_int) (dn_cons (de_int) (dn_nil)))))) (dn_nil))) (dn_nil)))))))) (dn_nil))))) (dn_nil))))))))
theorem ok__law_bent (T : Txt K mg Ad) : ∀ n : Nat, DFn P w K mg base (3 + n) Ad.a__law_bent Ad.d__law_bent ["m", "thing"] (W_law_bent K Ad.cls n)
  | 0 => dfn0
  | n + 1 => by
    have ih := ok__law_bent T n
    exact dfn_of T.F__law_bent sc__law_bent fun cdv A outer s H E hr => (dss_cons (ds_if (DW.dt (dw_and (dt_tru (de_callB dc_isi (by rfl) T.z_isinstance (by decide +kernel) (dn_cons (de_var (pv 1)) (dn_cons (de_bltn (by rfl) T.z_int (by decide +kernel)) (dn_nil))))) (dw_and (dt_not (dt_tru (de_callB dc_isi (by rfl) T.z_isinstance (by decide +kernel) (dn_cons (de_var (pv 1)) (dn_cons (de_bltn (by rfl) T.z_bool (by decide +kernel)) (dn_nil)))))) (dw_and1 (dt_cmp do_gt (de_call (ok__law_draw T) (hr.mono (by first | omega | (simp only [Nat.add_eq]; omega))) (by rfl) T.g__law_draw T.F__law_draw.kp T.b__law_draw .nil rs0 pBody (dn_cons (de_var (pv 0)) (dn_cons (de_int) (dn_nil)))) (de_int) (nomark _)))))) (dss_one (ds_ret (de_op do_add (de_var (pv 1)) (de_call (ok__law_of T) (hr.mono (by first | omega | (simp only [Nat.add_eq]; omega))) (by rfl) T.g__law_of T.F__law_of.kp T.b__law_of .nil rs0 pBody (dn_cons (de_var (pv 0)) (dn_cons (de_lst (dn_cons (de_int) (dn_cons (de_neg (de_int)) (dn_cons (de_int) (dn_cons (de_op do_pow (de_int) (de_int)) (dn_nil)))))) (dn_nil))))))) (dss_nil)) (dss_cons (ds_if (DW.dt (dw_or (dt_not (dt_tru (de_callB dc_isi (by rfl) T.z_isinstance (by decide +kernel) (dn_cons (de_var (pv 1)) (dn_cons (de_bltn (by rfl) T.z_tuple (by decide +kernel)) (dn_nil)))))) (dw_or (dt_cmp (do_eqE hr.r.units) (de_var (pv 1)) (de_tup (dn_nil)) (nomark _)) (dw_or1 (dt_cmp (do_eq hr.r.units) (de_call (ok__law_draw T) (hr.mono (by first | omega | (simp only [Nat.add_eq]; omega))) (by rfl) T.g__law_draw T.F__law_draw.kp T.b__law_draw .nil rs0 pBody (dn_cons (de_var (pv 0)) (dn_cons (de_int) (dn_nil)))) (de_int) (nomark _)))))) (dss_one (ds_ret (de_call (ok__law_odd T) (hr.mono (by first | omega | (simp only [Nat.add_eq]; omega))) (by rfl) T.g__law_odd T.F__law_odd.kp T.b__law_odd .nil rs0 pBody (dn_cons (de_var (pv 0)) (dn_nil))))) (dss_nil)) (dss_cons (ds_par (i := 2) (j := 3) rfl sc__law_bent.nd rfl rfl (by decide) rfl rfl (dn_cons (de_call (ok__law_draw T) (hr.mono (by first | omega | (simp only [Nat.add_eq]; omega))) (by rfl) T.g__law_draw T.F__law_draw.kp T.b__law_draw .nil rs0 pBody (dn_cons (de_var (pv 0)) (dn_cons (de_callB dc_len (by rfl) T.z_len (by decide +kernel) (dn_cons (de_var (pv 1)) (dn_nil))) (dn_nil)))) (dn_cons (de_call (ok__law_draw T) (hr.mono (by first | omega | (simp only [Nat.add_eq]; omega))) (by rfl) T.g__law_draw T.F__law_draw.kp T.b__law_draw .nil rs0 pBody (dn_cons (de_var (pv 0)) (dn_cons (de_int) (dn_nil)))) (dn_nil))) (by rfl)) (dss_cons (ds_if (dt_cmp (do_eq hr.r.units) (de_var (pv 3)) (de_int) (nomark _)) (dss_one (ds_ret (de_op do_add (de_sl (de_var (pv 1)) (DL.do_none) (DL.do_some (de_var (pv 2)))) (de_sl (de_var (pv 1)) (DL.do_some (de_op do_add (de_var (pv 2)) (de_int))) (DL.do_none))))) (dss_nil)) (dss_cons (ds_if (dt_cmp (do_eq hr.r.units) (de_var (pv 3)) (de_int) (nomark _)) (dss_one (ds_ret (de_op do_add (de_op do_add (de_sl (de_var (pv 1)) (DL.do_none) (DL.do_some (de_var (pv 2)))) (de_tup (dn_cons (de_ix (hu_of hr.r) (de_var (pv 1)) (de_var (pv 2)) (fun _ _ => rfl)) (dn_nil)))) (de_sl (de_var (pv 1)) (DL.do_some (de_var (pv 2))) (DL.do_none))))) (dss_nil)) (dss_cons (ds_if (dt_cmp (do_eq hr.r.units) (de_var (pv 3)) (de_int) (nomark _)) (dss_one (ds_ret (de_op do_add (de_op do_add (de_sl (de_var (pv 1)) (DL.do_none) (DL.do_some (de_var (pv 2)))) (de_tup (dn_cons (de_call (ok__law_odd T) (hr.mono (by first | omega | (simp only [Nat.add_eq]; omega))) (by rfl) T.g__law_odd T.F__law_odd.kp T.b__law_odd .nil rs0 pBody (dn_cons (de_var (pv 0)) (dn_nil))) (dn_nil)))) (de_sl (de_var (pv 1)) (DL.do_some (de_var (pv 2))) (DL.do_none))))) (dss_nil)) (dss_cons (ds_if (dt_cmp (do_eq hr.r.units) (de_var (pv 3)) (de_int) (nomark _)) (dss_one (ds_ret (de_revT (de_var (pv 1))))) (dss_nil)) (dss_one (ds_ret (de_op do_add (de_op do_add (de_sl (de_var (pv 1)) (DL.do_none) (DL.do_some (de_var (pv 2)))) (de_tup (dn_cons (de_call ih (hr.mono (by first | omega | (simp only [Nat.add_eq]; omega))) (by rfl) T.g__law_bent T.F__law_bent.kp T.b__law_bent .nil rs0 pBody (dn_cons (de_var (pv 0)) (dn_cons (de_ix (hu_of hr.r) (de_var (pv 1)) (de_var (pv 2)) (fun _ _ => rfl)) (dn_nil)))) (dn_nil)))) (de_sl (de_var (pv 1)) (DL.do_some (de_op do_add (de_var (pv 2)) (de_int))) (DL.do_none))))))))))))
theorem ok__law_borders (T : Txt K mg Ad) : DFn P w K mg base 1 Ad.a__law_borders Ad.d__law_borders [] (W_law_borders K Ad.cls) :=
  dfn_of T.F__law_borders sc__law_borders fun cdv A outer s H E hr => (dss_cons (ds_asg (de_tup (dn_cons (de_tup (dn_cons (de_str) (dn_cons (de_str) (dn_cons (de_int) (dn_cons (de_int) (dn_nil)))))) (dn_cons (de_tup (dn_cons (de_int) (dn_cons (de_str) (dn_cons (de_str) (dn_nil))))) (dn_nil)))) (dg_tup rfl (dgs_cons (dg_name (i := 0) sc__law_borders.nd rfl (by first | exact .inl rfl | exact .inr rfl)) (dgs_cons (dg_name (i := 1) sc__law_borders.nd rfl (by first | exact .inl rfl | exact .inr rfl)) (dgs_nil))))) (dss_cons (ds_set (i := 2) sc__law_borders.nd rfl (by first | exact .inl rfl | exact .inr rfl) (de_tup (dn_cons (de_str) (dn_cons (de_str) (dn_cons (de_int) (dn_cons (de_int) (dn_cons (de_var (pv 1)) (dn_cons (de_op do_mul (de_tup (dn_cons (de_var (pv 0)) (dn_nil))) (de_int)) (dn_nil))))))))) (dss_cons (ds_set (i := 3) sc__law_borders.nd rfl (by first | exact .inl rfl | exact .inr rfl) (de_var (pv 0))) (dss_cons (ds_set (i := 4) sc__law_borders.nd rfl (by first | exact .inl rfl | exact .inr rfl) (de_lstO (dn_cons (de_var (pv 2)) (dn_cons (de_op do_add (de_sl (de_var (pv 2)) (DL.do_none) (DL.do_some (de_int))) (de_tup (dn_cons (de_op do_mul (de_tup (dn_cons (de_var (pv 0)) (dn_nil))) (de_int)) (dn_nil)))) (dn_cons (de_op do_add (de_sl (de_var (pv 2)) (DL.do_none) (DL.do_some (de_int))) (de_tup (dn_cons (de_tup (dn_cons (de_int) (dn_cons (de_str) (dn_cons (de_str) (dn_nil))))) (dn_cons (de_tup (dn_cons (de_var (pv 0)) (dn_nil))) (dn_nil))))) (dn_cons (de_var (pv 0)) (dn_nil))))))) (dss_cons (ds_for oBody rfl (di_range1 (by rfl) T.z_range (dn_cons (de_int) (dn_nil))) (dg_name (i := 5) sc__law_borders.nd rfl (by first | exact .inl rfl | exact .inr rfl)) (dss_cons (ds_set (i := 3) sc__law_borders.nd rfl (by first | exact .inl rfl | exact .inr rfl) (de_tup (dn_cons (de_str) (dn_cons (de_str) (dn_cons (de_int) (dn_cons (de_int) (dn_cons (de_var (pv 1)) (dn_cons (de_tup (dn_cons (de_var (pv 3)) (dn_nil))) (dn_nil))))))))) (dss_one (ds_expr (de_app (de_var (pv 4)) (de_var (pv 3))))))) (dss_cons (ds_par (i := 6) (j := 7) rfl sc__law_borders.nd rfl rfl (by decide) rfl rfl (dn_cons (de_op do_add (de_sl (de_var (pv 2)) (DL.do_none) (DL.do_some (de_int))) (de_tup (dn_cons (de_tup (dn_cons (de_op do_add (de_sl (de_var (pv 2)) (DL.do_none) (DL.do_some (de_int))) (de_tup (dn_cons (de_op do_mul (de_tup (dn_cons (de_var (pv 0)) (dn_nil))) (de_int)) (dn_nil)))) (dn_cons (de_var (pv 0)) (dn_cons (de_var (pv 0)) (dn_cons (de_var (pv 0)) (dn_nil)))))) (dn_nil)))) (dn_cons (de_tup (dn_cons (de_str) (dn_cons (de_str) (dn_cons (de_int) (dn_cons (de_int) (dn_nil)))))) (dn_nil))) (by rfl)) (dss_cons (ds_set (i := 4) sc__law_borders.nd rfl (by first | exact .inl rfl | exact .inr rfl) (de_op do_addO (de_var (pv 4)) (de_lst (dn_cons (de_var (pv 6)) (dn_cons (de_op do_add (de_sl (de_var (pv 2)) (DL.do_none) (DL.do_some (de_int))) (de_tup (dn_cons (de_tup (dn_cons (de_var (pv 2)) (dn_cons (de_var (pv 2)) (dn_nil)))) (dn_nil)))) (dn_cons (de_op do_add (de_sl (de_var (pv 2)) (DL.do_none) (DL.do_some (de_int))) (de_tup (dn_cons (de_op do_mul (de_tup (dn_cons (de_var (pv 7)) (dn_nil))) (de_int)) (dn_nil)))) (dn_cons (de_op do_add (de_sl (de_var (pv 2)) (DL.do_none) (DL.do_some (de_int))) (de_tup (dn_cons (de_op do_mul (de_tup (dn_cons (de_var (pv 7)) (dn_nil))) (de_int)) (dn_nil)))) (dn_nil)))))))) (dss_cons (ds_set (i := 8) sc__law_borders.nd rfl (by first | exact .inl rfl | exact .inr rfl) (de_op do_add (de_sl (de_var (pv 2)) (DL.do_none) (DL.do_some (de_int))) (de_tup (dn_cons (de_tup (dn_cons (de_op do_add (de_sl (de_var (pv 2)) (DL.do_none) (DL.do_some (de_int))) (de_tup (dn_cons (de_op do_mul (de_tup (dn_cons (de_var (pv 0)) (dn_nil))) (de_int)) (dn_nil)))) (dn_cons (de_var (pv 0)) (dn_cons (de_var (pv 0)) (dn_cons (de_op do_add (de_sl (de_var (pv 2)) (DL.do_none) (DL.do_some (de_int))) (de_tup (dn_cons (de_tup (dn_cons (de_var (pv 0)) (dn_nil))) (dn_nil)))) (dn_nil)))))) (dn_nil))))) (dss_cons (ds_set (i := 4) sc__law_borders.nd rfl (by first | exact .inl rfl | exact .inr rfl) (de_op do_addO (de_var (pv 4)) (de_lst (dn_cons (de_op do_add (de_op do_add (de_sl (de_var (pv 2)) (DL.do_none) (DL.do_some (de_int))) (de_tup (dn_cons (de_int) (dn_cons (de_int) (dn_nil))))) (de_sl (de_var (pv 2)) (DL.do_some (de_int)) (DL.do_none))) (dn_cons (de_op do_add (de_sl (de_var (pv 2)) (DL.do_none) (DL.do_some (de_int))) (de_tup (dn_cons (de_tup (dn_cons (de_non) (dn_cons (de_var (pv 0)) (dn_nil)))) (dn_nil)))) (dn_cons (de_op do_add (de_sl (de_var (pv 2)) (DL.do_none) (DL.do_some (de_int))) (de_tup (dn_cons (de_tup (dn_cons (de_var (pv 0)) (dn_cons (de_non) (dn_cons (de_int) (dn_nil))))) (dn_nil)))) (dn_nil))))))) (dss_one (ds_ret (de_op do_add (de_var (pv 4)) (de_lst (dn_cons (de_var (pv 8)) (dn_cons (de_op do_add (de_op do_add (de_sl (de_var (pv 2)) (DL.do_none) (DL.do_some (de_int))) (de_tup (dn_cons (de_int) (dn_cons (de_op do_pow (de_int) (de_int)) (dn_nil))))) (de_sl (de_var (pv 2)) (DL.do_some (de_int)) (DL.do_none))) (dn_cons (de_op do_add (de_sl (de_var (pv 2)) (DL.do_none) (DL.do_some (de_int))) (de_tup (dn_cons (de_tup (dn_cons (de_tup (dn_cons (de_str) (dn_cons (de_str) (dn_cons (de_int) (dn_cons (de_int) (dn_nil)))))) (dn_nil))) (dn_nil)))) (dn_nil)))))))))))))))))
theorem ok_law (T : Txt K mg Ad) (hTB : LamX.TabB base mg Ad.cod_law (Ad.cls 2)) : DFn P w K mg base 20 Ad.a_law Ad.d_law ["script"] (Wlaw K Ad.cls) :=
  dfn_ofC T.F_law sc_law fun cdv hcv A outer s H E hr => by
    have hcode := T.co_law cdv hcv
    subst hcode
    exact (dss_cons (ds_set (i := 1) sc_law.nd rfl (by first | exact .inl rfl | exact .inr rfl) (de_call (ok__law_begun T) (hr.mono (by decide)) (by rfl) T.g__law_begun T.F__law_begun.kp T.b__law_begun .nil rs0 pBody (dn_cons (de_var (pv 0)) (dn_nil)))) (dss_cons (ds_for oBody rfl (di_seq (de_call0 (ok__law_borders T) (hr.mono (by decide)) (by rfl) T.g__law_borders T.F__law_borders.kp T.b__law_borders .nil rs0 pBody)) (dg_name (i := 2) sc_law.nd rfl (by first | exact .inl rfl | exact .inr rfl)) (dss_one (ds_if (dt_cmp (do_ne hr.r.units) (de_callB (dc_reprX hr.g hr.r.units) (by rfl) T.z_repr (by decide +kernel) (dn_cons (de_lamcall (T := tabT Ad.cls) (k := 13) (js := [2]) (by rfl) T.g__law_outcome T.F__law_outcome T.b__law_outcome sc__law_outcome rfl (by first | exact .inl rfl | exact .inr (.inl rfl)) (fun cdg => ⟨fun s H te hr hx => (dss_cons (ds_asg (de_tup (dn_cons (de_non) (dn_cons (de_non) (dn_nil)))) (dg_tup rfl (dgs_cons (dg_name (i := 1) sc__law_outcome.nd rfl (by first | exact .inl rfl | exact .inr rfl)) (dgs_cons (dg_name (i := 2) sc__law_outcome.nd rfl (by first | exact .inl rfl | exact .inr rfl)) (dgs_nil))))) (dss_cons (ds_try rfl rfl sc__law_outcome.nd (db_set (i := 1) sc__law_outcome.nd rfl (by first | exact .inl rfl | exact .inr rfl) (hx _ _)) (.as (tst_name ⟨by rfl, by decide, .inl T.g_MakeError⟩) rfl rfl (fun a _ => have hrq := hr.q.mark (some (.ref a)); dss_one (ds_set (i := 2) sc__law_outcome.nd rfl (by first | exact .inl rfl | exact .inr rfl) (de_var (pv 3)))) (.nil))) (dss_cons (ds_if (dt_cmp do_is (de_var (pv 2)) (de_non) (nomark _)) (dss_one (ds_ret (de_lst (dn_cons (de_var (pv 1)) (dn_nil))))) (dss_nil)) (dss_one (ds_ret (de_ite (dt_tru (de_callB dc_isa (by rfl) T.z_isinstance (by decide +kernel) (dn_cons (de_var (pv 2)) (dn_cons (de_cls (by rfl) T.g_BadGood) (dn_nil))))) (de_tup (dn_cons (de_fd (de_var (pv 2))) (dn_cons (de_fd (de_var (pv 2))) (dn_nil)))) (de_tup (dn_cons (de_str) (dn_cons (de_non) (dn_nil))))))))))⟩) hTB rfl (by exact List.mem_singleton.mpr rfl) (fun p hp _ => by rw [List.mem_singleton.mp hp]; rfl) (hr.mono (by decide)) (LamX.lamS_by (show LamX.lamSB (defScope st_law) _ = true from by decide +kernel)) rfl (fun _ _ _ _ _ => rfl) (fun A outer s H E f cc hr => (de_call (ok_need_good T) (hr.mono (by decide)) (by rfl) T.g_need_good T.F_need_good.kp T.b_need_good .nil rs0 passLam (dn_cons (de_var (pv 2)) (dn_nil))))) (dn_nil))) (de_callB (dc_reprX hr.g hr.r.units) (by rfl) T.z_repr (by decide +kernel) (dn_cons (de_call (ok__law_due T) (hr.mono (by decide)) (by rfl) T.g__law_due T.F__law_due.kp T.b__law_due .nil rs0 pBody (dn_cons (de_var (pv 2)) (dn_nil))) (dn_nil))) (nomark _)) (dss_one (ds_ret (de_bl))) (dss_nil)))) (dss_cons (ds_for oBody rfl (di_range1 (by rfl) T.z_range (dn_cons (de_op do_add (de_int) (de_callB (dc_min2 rfl) (by rfl) T.z_min (by decide +kernel) (dn_cons (de_callB dc_len (by rfl) T.z_len (by decide +kernel) (dn_cons (de_var (pv 0)) (dn_nil))) (dn_cons (de_int) (dn_nil))))) (dn_nil))) (dg_name (i := 3) sc_law.nd rfl (by first | exact .inl rfl | exact .inr rfl)) (dss_cons (ds_set (i := 4) sc_law.nd rfl (by first | exact .inl rfl | exact .inr rfl) (de_call (ok__law_good T) (hr.mono (by decide)) (by rfl) T.g__law_good T.F__law_good.kp T.b__law_good .nil rs0 pBody (dn_cons (de_var (pv 1)) (dn_cons (de_int) (dn_cons (de_int) (dn_nil)))))) (dss_cons (ds_set (i := 5) sc_law.nd rfl (by first | exact .inl rfl | exact .inr rfl) (de_call (ok__law_rows T 8) (hr.mono (by decide)) (by rfl) T.g__law_rows T.F__law_rows.kp T.b__law_rows .nil rs0 pBody (dn_cons (de_var (pv 4)) (dn_cons (de_int) (dn_nil))))) (dss_cons (ds_set (i := 6) sc_law.nd rfl (by first | exact .inl rfl | exact .inr rfl) (de_lst (dn_cons (de_call (ok_things T) (hr.mono (by decide)) (by rfl) T.g_things T.F_things.kp T.b_things .nil rs0 pBody (dn_cons (de_var (pv 4)) (dn_nil))) (dn_cons (de_call (ok_steps T) (hr.mono (by decide)) (by rfl) T.g_steps T.F_steps.kp T.b_steps .nil rs0 pBody (dn_cons (de_var (pv 4)) (dn_nil))) (dn_cons (de_call (ok_moves T) (hr.mono (by decide)) (by rfl) T.g_moves T.F_moves.kp T.b_moves .nil rs0 pBody (dn_cons (de_var (pv 4)) (dn_nil))) (dn_nil)))))) (dss_cons (ds_set (i := 7) sc_law.nd rfl (by first | exact .inl rfl | exact .inr rfl) (de_lstO (dn_cons (de_callTy dc_tuple (by rfl) T.z_tuple (by decide +kernel) (dn_cons (de_comp [("one", 8), ("numbers", 9)] (gTup K 2 (gCons (gName 8) (gCons (gName 9) (gNil)))) rfl sc_law.nd (di_seq (de_var (pv 5))) (blkOk_by (N := N_law) (sc := defScope st_law) (by decide +kernel)) (fun _ _ _ _ _ => pg_tup rfl (pgs_cons (pg_name (i := 8) sc_law.nd rfl (by first | exact .inl rfl | exact .inr rfl)) (pgs_cons (pg_name (i := 9) sc_law.nd rfl (by first | exact .inl rfl | exact .inr rfl)) (pgs_nil)))) (gv_tup (gvs_cons (gv_name (by decide)) (gvs_cons (gv_name (by decide)) (gvs_nil)))) (fun _ _ _ _ _ => dts_nil) (fun _ _ _ _ _ => de_var (pv 8))) (dn_nil))) (dn_cons (de_callTy dc_tuple (by rfl) T.z_tuple (by decide +kernel) (dn_cons (de_comp [("k", 10)] (gName 10) rfl sc_law.nd (di_range1 (by rfl) T.z_range (dn_cons (de_callB dc_len (by rfl) T.z_len (by decide +kernel) (dn_cons (de_var (pv 5)) (dn_nil))) (dn_nil))) (blkOk_by (N := N_law) (sc := defScope st_law) (by decide +kernel)) (fun _ _ _ _ _ => pg_name (i := 10) sc_law.nd rfl (by first | exact .inl rfl | exact .inr rfl)) (gv_name (by decide)) (fun _ _ _ _ _ => dts_one (dt_cmp (do_eq hr.r.units) (de_ix (hu_of hr.r) (de_ix (hu_of hr.r) (de_ix (hu_of hr.r) (de_var (pv 5)) (de_var (pv 10)) (fun _ _ => rfl)) (de_int) (fun _ _ => rfl)) (de_int) (fun _ _ => rfl)) (de_str) (nomark _))) (fun _ _ _ _ _ => de_var (pv 10))) (dn_nil))) (dn_nil))))) (dss_cons (ds_expr (de_app (de_var (pv 7)) (de_callTy dc_tuple (by rfl) T.z_tuple (by decide +kernel) (dn_cons (de_comp [("k", 10)] (gName 10) rfl sc_law.nd (di_range1 (by rfl) T.z_range (dn_cons (de_callB dc_len (by rfl) T.z_len (by decide +kernel) (dn_cons (de_var (pv 5)) (dn_nil))) (dn_nil))) (blkOk_by (N := N_law) (sc := defScope st_law) (by decide +kernel)) (fun _ _ _ _ _ => pg_name (i := 10) sc_law.nd rfl (by first | exact .inl rfl | exact .inr rfl)) (gv_name (by decide)) (fun _ _ _ _ _ => dts_one (dt_cmp do_lt (de_ix (hu_of hr.r) (de_ix (hu_of hr.r) (de_ix (hu_of hr.r) (de_var (pv 5)) (de_var (pv 10)) (fun _ _ => rfl)) (de_int) (fun _ _ => rfl)) (de_int) (fun _ _ => rfl)) (de_ix (hu_of hr.r) (de_ix (hu_of hr.r) (de_ix (hu_of hr.r) (de_var (pv 5)) (de_var (pv 10)) (fun _ _ => rfl)) (de_int) (fun _ _ => rfl)) (de_int) (fun _ _ => rfl)) (nomark _))) (fun _ _ _ _ _ => de_var (pv 10))) (dn_nil))))) (dss_cons (ds_set (i := 11) sc_law.nd rfl (by first | exact .inl rfl | exact .inr rfl) (de_lst (dn_cons (de_callTy dc_tuple (by rfl) T.z_tuple (by decide +kernel) (dn_cons (de_comp [("one", 8), ("numbers", 9)] (gTup K 2 (gCons (gName 8) (gCons (gName 9) (gNil)))) rfl sc_law.nd (di_seq (de_var (pv 5))) (blkOk_by (N := N_law) (sc := defScope st_law) (by decide +kernel)) (fun _ _ _ _ _ => pg_tup rfl (pgs_cons (pg_name (i := 8) sc_law.nd rfl (by first | exact .inl rfl | exact .inr rfl)) (pgs_cons (pg_name (i := 9) sc_law.nd rfl (by first | exact .inl rfl | exact .inr rfl)) (pgs_nil)))) (gv_tup (gvs_cons (gv_name (by decide)) (gvs_cons (gv_name (by decide)) (gvs_nil)))) (fun _ _ _ _ _ => dts_nil) (fun _ _ _ _ _ => de_tup (dn_cons (de_ix (hu_of hr.r) (de_var (pv 8)) (de_int) (fun _ _ => rfl)) (dn_cons (de_int) (dn_nil))))) (dn_nil))) (dn_cons (de_callTy dc_tuple (by rfl) T.z_tuple (by decide +kernel) (dn_cons (de_comp [("one", 8), ("numbers", 9)] (gTup K 2 (gCons (gName 8) (gCons (gName 9) (gNil)))) rfl sc_law.nd (di_seq (de_var (pv 5))) (blkOk_by (N := N_law) (sc := defScope st_law) (by decide +kernel)) (fun _ _ _ _ _ => pg_tup rfl (pgs_cons (pg_name (i := 8) sc_law.nd rfl (by first | exact .inl rfl | exact .inr rfl)) (pgs_cons (pg_name (i := 9) sc_law.nd rfl (by first | exact .inl rfl | exact .inr rfl)) (pgs_nil)))) (gv_tup (gvs_cons (gv_name (by decide)) (gvs_cons (gv_name (by decide)) (gvs_nil)))) (fun _ _ _ _ _ => dts_nil) (fun _ _ _ _ _ => de_tup (dn_cons (de_ix (hu_of hr.r) (de_var (pv 8)) (de_int) (fun _ _ => rfl)) (dn_cons (de_int) (dn_nil))))) (dn_nil))) (dn_nil))))) (dss_cons (ds_if (dt_cmp (do_ne hr.r.units) (de_callB (dc_reprX hr.g hr.r.units) (by rfl) T.z_repr (by decide +kernel) (dn_cons (de_op do_add (de_var (pv 6)) (de_lst (dn_cons (de_call (ok_lows T) (hr.mono (by decide)) (by rfl) T.g_lows T.F_lows.kp T.b_lows .nil rs0 pBody (dn_cons (de_var (pv 4)) (dn_nil))) (dn_cons (de_call (ok_highs T) (hr.mono (by decide)) (by rfl) T.g_highs T.F_highs.kp T.b_highs .nil rs0 pBody (dn_cons (de_var (pv 4)) (dn_nil))) (dn_nil))))) (dn_nil))) (de_callB (dc_reprX hr.g hr.r.units) (by rfl) T.z_repr (by decide +kernel) (dn_cons (de_op do_add (de_var (pv 7)) (de_var (pv 11))) (dn_nil))) (nomark _)) (dss_one (ds_ret (de_bl))) (dss_nil)) (dss_cons (ds_set (i := 12) sc_law.nd rfl (by first | exact .inl rfl | exact .inr rfl) (de_call (ok__law_bent T 16) (hr.mono (by decide)) (by rfl) T.g__law_bent T.F__law_bent.kp T.b__law_bent .nil rs0 pBody (dn_cons (de_var (pv 1)) (dn_cons (de_var (pv 4)) (dn_nil))))) (dss_one (ds_for oBody rfl (di_seq (de_tup (dn_cons (de_var (pv 4)) (dn_cons (de_var (pv 12)) (dn_cons (de_call (ok__law_bent T 16) (hr.mono (by decide)) (by rfl) T.g__law_bent T.F__law_bent.kp T.b__law_bent .nil rs0 pBody (dn_cons (de_var (pv 1)) (dn_cons (de_var (pv 12)) (dn_nil)))) (dn_cons (de_call (ok__law_odd T) (hr.mono (by decide)) (by rfl) T.g__law_odd T.F__law_odd.kp T.b__law_odd .nil rs0 pBody (dn_cons (de_var (pv 1)) (dn_nil))) (dn_cons (de_callTy dc_list (by rfl) T.z_list (by decide +kernel) (dn_cons (de_var (pv 4)) (dn_nil))) (dn_cons (de_revT (de_var (pv 4))) (dn_cons (de_ix (hu_of hr.r) (de_ix (hu_of hr.r) (de_var (pv 4)) (de_int) (fun _ _ => rfl)) (de_int) (fun _ _ => rfl)) (dn_nil)))))))))) (dg_name (i := 2) sc_law.nd rfl (by first | exact .inl rfl | exact .inr rfl)) (dss_cons (ds_set (i := 13) sc_law.nd rfl (by first | exact .inl rfl | exact .inr rfl) (de_callB (dc_reprX hr.g hr.r.units) (by rfl) T.z_repr (by decide +kernel) (dn_cons (de_var (pv 2)) (dn_nil)))) (dss_one (ds_for oBody rfl (di_range1 (by rfl) T.z_range (dn_cons (de_int) (dn_nil))) (dg_name (i := 14) sc_law.nd rfl (by first | exact .inl rfl | exact .inr rfl)) (dss_one (ds_if (DW.dt (dw_or (dt_cmp (do_ne hr.r.units) (de_callB (dc_reprX hr.g hr.r.units) (by rfl) T.z_repr (by decide +kernel) (dn_cons (de_lamcall (T := tabT Ad.cls) (k := 13) (js := [2]) (by rfl) T.g__law_outcome T.F__law_outcome T.b__law_outcome sc__law_outcome rfl (by first | exact .inl rfl | exact .inr (.inl rfl)) (fun cdg => ⟨fun s H te hr hx => (dss_cons (ds_asg (de_tup (dn_cons (de_non) (dn_cons (de_non) (dn_nil)))) (dg_tup rfl (dgs_cons (dg_name (i := 1) sc__law_outcome.nd rfl (by first | exact .inl rfl | exact .inr rfl)) (dgs_cons (dg_name (i := 2) sc__law_outcome.nd rfl (by first | exact .inl rfl | exact .inr rfl)) (dgs_nil))))) (dss_cons (ds_try rfl rfl sc__law_outcome.nd (db_set (i := 1) sc__law_outcome.nd rfl (by first | exact .inl rfl | exact .inr rfl) (hx _ _)) (.as (tst_name ⟨by rfl, by decide, .inl T.g_MakeError⟩) rfl rfl (fun a _ => have hrq := hr.q.mark (some (.ref a)); dss_one (ds_set (i := 2) sc__law_outcome.nd rfl (by first | exact .inl rfl | exact .inr rfl) (de_var (pv 3)))) (.nil))) (dss_cons (ds_if (dt_cmp do_is (de_var (pv 2)) (de_non) (nomark _)) (dss_one (ds_ret (de_lst (dn_cons (de_var (pv 1)) (dn_nil))))) (dss_nil)) (dss_one (ds_ret (de_ite (dt_tru (de_callB dc_isa (by rfl) T.z_isinstance (by decide +kernel) (dn_cons (de_var (pv 2)) (dn_cons (de_cls (by rfl) T.g_BadGood) (dn_nil))))) (de_tup (dn_cons (de_fd (de_var (pv 2))) (dn_cons (de_fd (de_var (pv 2))) (dn_nil)))) (de_tup (dn_cons (de_str) (dn_cons (de_non) (dn_nil))))))))))⟩) hTB rfl (by exact List.mem_singleton.mpr rfl) (fun p hp _ => by rw [List.mem_singleton.mp hp]; rfl) (hr.mono (by decide)) (LamX.lamS_by (show LamX.lamSB (defScope st_law) _ = true from by decide +kernel)) rfl (fun _ _ _ _ _ => rfl) (fun A outer s H E f cc hr => (de_call (ok_need_good T) (hr.mono (by decide)) (by rfl) T.g_need_good T.F_need_good.kp T.b_need_good .nil rs0 passLam (dn_cons (de_var (pv 2)) (dn_nil))))) (dn_nil))) (de_callB (dc_reprX hr.g hr.r.units) (by rfl) T.z_repr (by decide +kernel) (dn_cons (de_call (ok__law_due T) (hr.mono (by decide)) (by rfl) T.g__law_due T.F__law_due.kp T.b__law_due .nil rs0 pBody (dn_cons (de_var (pv 2)) (dn_nil))) (dn_nil))) (nomark _)) (dw_or1 (dt_cmp (do_ne hr.r.units) (de_callB (dc_reprX hr.g hr.r.units) (by rfl) T.z_repr (by decide +kernel) (dn_cons (de_var (pv 2)) (dn_nil))) (de_var (pv 13)) (nomark _))))) (dss_one (ds_ret (de_bl))) (dss_nil))))))))))))))))) (dss_one (ds_ret (de_bl))))))
end
end G_madeofhere_k02_whole_goods_judged
set_option maxHeartbeats 2000000
namespace DL
open PySem PySem.Spec PyProof.Rows L2 LamX
/-! ### the end of a row whose law makes lambdas: its tables of code objects are owned from the start -/
/-- the memory at the entry: the tables T -/
def tabM (T : List (Addr × Str)) : Mem := fun a => (T.lookup a).map MO.tab
theorem tabM_ok {T : List (Addr × Str)} (hn : (T.map (·.1)).Nodup) : TabsM T (tabM T) := by
  constructor
  · intro p hp
    have e : T.lookup p.1 = some p.2 := by
      induction T with
      | nil => cases hp
      | cons x T ih =>
        rw [List.map_cons, List.nodup_cons] at hn
        rcases List.mem_cons.mp hp with rfl | hp
        · simp [List.lookup]
        · have ne : (p.1 == x.1) = false := by
            rw [beq_eq_false_iff_ne]
            exact fun z => hn.1 (by rw [← z]; exact List.mem_map.mpr ⟨p, hp, rfl⟩)
          rw [List.lookup, ne]
          exact ih hn.2 hp
    show (T.lookup p.1).map MO.tab = _
    rw [e]; rfl
  · intro a q e
    have e2 : (T.lookup a).map MO.tab = some (.tab q) := e
    cases z : T.lookup a with
    | none => rw [z] at e2; cases e2
    | some q2 =>
      rw [z] at e2
      cases e2
      clear e hn
      induction T with
      | nil => cases z
      | cons x T ih =>
        rw [List.lookup] at z
        split at z
        · rename_i h
          cases z
          rw [beq_iff_eq.mp h]
          exact List.mem_cons_self
        · exact List.mem_cons_of_mem _ (ih z)
def LawDT (n : Nat) (T : List (Addr × Str)) (sp : SpD) : Prop := ∀ ns : List Int, ns.length ≤ n → sp [.fzn (ns.map D.int)] (tabM T) (fun d _ => d = .bl true) (fun _ _ _ _ => False)
section
variable {P : Program} {w : World} {K : Fg} {mg mb : Str → Option Value} {k n : Nat} {fa a : Addr} {fd : FuncData} {x : Str} {sp : SpD} {s1 : Shared} {vs : List Value} {ns : List Int} {cs : List (Addr × Addr)} {qs : List Str}
theorem d_enter {H : Hp} (KX : K.In s1.heap) (hns : s1.heap.Ns mainGlobals mg) (hb : s1.heap.Ns builtinsNs mb) (hbb : ∀ x : Str, x ≠ "__name__" → mb x = bootBuiltins x) (hlim : s1.heap.NoLimit) (hg : s1.gens = #[])
    (hT : ∀ p ∈ cs, s1.heap.get? p.2 = some { cls := .none, data := .fields #[] }) (nT : ∀ p ∈ cs, K.lookup p.2 = none) (C : ∀ p ∈ cs, PySem.W.CodeHd s1.heap p.1 p.2)
    (hbm : ∃ (bm : Addr) (ob : Obj), mg "__builtins__" = some (.ref bm) ∧ bm ≠ builtinsNs ∧ s1.heap.get? bm = some ob ∧ ob.cls = .type "module" ∧ ob.dict = some builtinsNs ∧ ob.data = .plain)
    (ha : s1.heap.get? a = some { cls := .type "list", data := .seq vs.toArray }) (hln : ns.length ≤ n) (hr : RoomG k callerA)
    (lq : qs.length = cs.length) (nd : (cs.map (·.2)).Nodup)
    (F : ∀ base : Heap, K.In base → base.Ns mainGlobals mg → (∀ p ∈ cs, TabB base mg p.1 p.2) → DFn P w K mg base k fa fd [x] sp) (hbind : ∀ (s : Shared) (u : Value), BindsTo s fd ⟨[u], []⟩ [(x, u)]) (hsp : LawDT n ((cs.map (·.2)).zip qs) sp)
    (tracked : ∀ b u, H b = some u → (b ∈ cs.map (·.2) ∧ u = .tbl #[]) ∨ (b = a ∧ ∃ o xs, u = .frz o (.lst xs))) (tables : ∀ p ∈ cs, H p.2 = some (.tbl #[])) (script : SqL K H a (ns.map V.int)) (notK : H a ≠ none → K.lookup a = none) (hok : HOk P w H s1.heap) :
    codeAny (model P w) callerA (.call (.ref fa) ⟨[.ref a], []⟩) (fun r s' => r = .ok (.ret (.bool true)) ∧ OldK s1.heap s'.heap ∧ s'.os = s1.os ∧ AllBare s'.gens) s1 := by
  have tabAt : ∀ {b}, b ∈ cs.map (·.2) → s1.heap.get? b = some { cls := .none, data := .fields #[] } := fun {b} h => by
    obtain ⟨p, hp, rfl⟩ := List.mem_map.mp h
    exact hT p hp
  have plain : ∀ {b : Addr} {o : Obj}, s1.heap.get? b = some o → (∀ us m, o.data ≠ .seq us m) → o.data ≠ .fields #[] → H b = none := fun {b o} e h1 h2 => by
    cases q : H b with
    | none => rfl
    | some u =>
      exfalso
      rcases tracked b u q with ⟨z, _⟩ | ⟨rfl, _⟩
      · rw [tabAt z] at e; cases e; exact h2 rfl
      · rw [ha] at e; cases e; exact h1 _ _ rfl
  have kept : ∀ {b : Addr} {o : Obj}, s1.heap.get? b = some o → H b = none → (hidT s1.heap H).get? b = some o := fun e z => hidT_get e z
  have names : ∀ {b : Addr} {m : Str → Option Value}, s1.heap.Ns b m → (hidT s1.heap H).Ns b m := fun {b m} ⟨o, es, ep, e, d, r⟩ =>
    ⟨o, es, ep, kept e (plain e (fun us m z => by rw [d] at z; cases z) fun z => by rw [d] at z; cases z), d, r⟩
  have inK : K.In (hidT s1.heap H) := fun b o e => kept (KX b o e) (by
    cases q : H b with
    | none => rfl
    | some u =>
      exfalso
      rcases tracked b u q with ⟨z, _⟩ | ⟨rfl, _⟩
      · obtain ⟨p, hp, rfl⟩ := List.mem_map.mp z
        rw [nT p hp] at e; cases e
      · rw [notK (by rw [q]; exact fun z => nomatch z)] at e; cases e)
  have world : Mod K mg (hidT s1.heap H) := ⟨inK, names hns, ⟨mb, names hb, hbb⟩, hlim.elim fun mc h => ⟨mc, names h.1, h.2⟩⟩
  have boards : ∀ p ∈ cs, TabB (hidT s1.heap H) mg p.1 p.2 := fun p hp => by
    obtain ⟨go, ges, gep, ge, gd, _⟩ := hns
    constructor
    · obtain ⟨o, us, file, tf, flags, tg, inF, text, tt, e1, r1, r2, r3, r4⟩ := C p hp
      exact ⟨o, us, file, tf, flags, tg, inF, text, tt, kept e1 (plain e1 (fun us m z => by rw [r2] at z; cases z) fun z => by rw [r2] at z; cases z; simp at r3), r1, r2, r3, r4⟩
    · obtain ⟨bm, ob, b1, b2, b3, b4, b5, b6⟩ := hbm
      refine ⟨bm, ob, b1, b2, fun z => ?_, fun z => ?_, kept b3 (plain b3 (fun us m z => by rw [b6] at z; cases z) fun z => by rw [b6] at z; cases z), b4, b5, b6⟩
      · subst z; rw [ge] at b3; cases b3; rw [gd] at b6; cases b6
      · subst z; rw [hT p hp] at b3; cases b3; cases b6
    · intro z
      rw [z, hT p hp] at ge; cases ge; cases gd
  have env : Env0 P w K mg (hidT s1.heap H) callerA [] s1 H := ⟨rfl, world, fun b o e => of_hidT e, Nat.le_of_eq (hidT_size _ _), trivial, fun b z => (by cases (show b ∈ ([] : List Addr) from z)), hok, .of_eq hg⟩
  have lz : (cs.map (·.2)).length = qs.length := by rw [List.length_map, lq]
  have mt : ∀ {b q}, tabM ((cs.map (·.2)).zip qs) b = some (.tab q) → b ∈ cs.map (·.2) := fun {b q} e => by
    have nd2 : (((cs.map (·.2)).zip qs).map (·.1)).Nodup := by rw [List.map_fst_zip (by omega)]; exact nd
    exact (List.of_mem_zip ((tabM_ok nd2).2 _ _ e)).1
  have tabs : ∀ {b : Addr} {o : MO}, tabM ((cs.map (·.2)).zip qs) b = some o → ∃ q, o = .tab q := fun {b o} e => by
    have e2 : (((cs.map (·.2)).zip qs).lookup b).map MO.tab = some o := e
    obtain ⟨q, _, z⟩ := Option.map_eq_some_iff.mp e2
    exact ⟨q, z.symm⟩
  have aNot : a ∉ cs.map (·.2) := fun z => by
    have := tabAt z
    rw [ha] at this
    injection this with this
    injection this with _ _ d
    cases d
  have mo : MOk K H (tabM ((cs.map (·.2)).zip qs)) := fun b o e => by
    obtain ⟨q, rfl⟩ := tabs e
    obtain ⟨p, hp, rfl⟩ := List.mem_map.mp (mt e)
    exact ⟨#[], tables p hp, trivial, fun pos cv z => by
      have z2 : codeAmong pos [] = some cv := z
      simp [codeAmong] at z2⟩
  have aM : tabM ((cs.map (·.2)).zip qs) a = none := by
    cases e : tabM ((cs.map (·.2)).zip qs) a with
    | none => rfl
    | some o =>
      obtain ⟨q, rfl⟩ := tabs e
      exact absurd (mt e) aNot
  have arg : Rv K H (tabM ((cs.map (·.2)).zip qs)) (.fzn (ns.map D.int)) (.ref a) := by
    refine ⟨a, _, rfl, ?_, DL.rs_ints ns⟩
    rcases script with z | z
    · exact .inl ⟨z, aM⟩
    · exact .inr z
  have ran := (F _ inK (names hns) boards).run callerA [] s1 H _ ⟨[.ref a], []⟩ [.ref a] [.ref a] [.fzn (ns.map D.int)] (fun d _ => d = .bl true) (fun _ _ _ _ => False) (fun v _ => v = .bl true) (fun _ _ _ => False) hr env rfl (hbind s1 (.ref a)) (.cons rfl .nil) mo (Rs.cons arg Rs.nil) (hsp ns hln)
    (fun v H' ⟨d, M', _, _, rd, e⟩ => by subst e; exact rd) (fun c od H' ⟨_, _, _, _, _, _, _, _, _, _, _, _, _, _, z⟩ => z)
  refine codeAny_mono ran fun r s' fin => ?_
  match r, fin with
  | .error e, fin => obtain ⟨_, _, _, _, _, _, _, _, _, _, _, _, z⟩ := fin; exact z.elim
  | .ok .next, fin => exact False.elim fin
  | .ok .brk, fin => exact False.elim fin
  | .ok .cont, fin => exact False.elim fin
  | .ok (.ret u), fin =>
    obtain ⟨v, H', os, bare, un, ok', rv, q⟩ := fin
    obtain rfl : v = .bl true := q
    obtain rfl : u = Value.bool true := rv
    have others : ∀ b o, b ∉ cs.map (·.2) → s1.heap.get? b = some o → s'.heap.get? b = some o := fun b o nb e => by
      cases q : H b with
      | none => exact un.keep b o e q (fun z => by cases (show b ∈ ([] : List Addr) from z)) (by simp)
      | some u =>
        rcases tracked b u q with ⟨z, _⟩ | ⟨rfl, oo, xs, rfl⟩
        · exact absurd z nb
        · have before := (hok b _ q).1
          have behind := (ok' b _ (un.frzs b oo _ q)).1
          rw [e] at before; cases before; exact behind
    have wider : ∀ p ∈ cs, ∃ more : Array Value, s'.heap.get? p.2 = some { cls := .none, data := .fields more } := fun p hp => by
      obtain ⟨more, z⟩ := un.tbls p.2 #[] (tables p hp)
      exact ⟨_, ok' p.2 _ z⟩
    refine ⟨rfl, ⟨fun b o e => ?_, fun b o e => ?_⟩, os, bare⟩
    · by_cases z : b ∈ cs.map (·.2)
      · obtain ⟨p, hp, rfl⟩ := List.mem_map.mp z
        obtain ⟨more, hm⟩ := wider p hp
        rw [hT p hp] at e; cases e
        exact .inr (.inl ⟨((C p hp).tab (hT p hp)).isCodeTable, rfl, #[], more, rfl, by rw [Array.empty_append]; exact hm⟩)
      · exact .inl (others b o z e)
    · by_cases z : b ∈ cs.map (·.2)
      · obtain ⟨p, hp, rfl⟩ := List.mem_map.mp z
        obtain ⟨more, hm⟩ := wider p hp
        exact ⟨_, hm⟩
      · exact ⟨o, others b o z e⟩
theorem d_callT (KX : K.In s1.heap) (hns : s1.heap.Ns mainGlobals mg) (hb : s1.heap.Ns builtinsNs mb) (hbb : ∀ x : Str, x ≠ "__name__" → mb x = bootBuiltins x) (hlim : s1.heap.NoLimit) (hg : s1.gens = #[])
    (hT : ∀ p ∈ cs, s1.heap.get? p.2 = some { cls := .none, data := .fields #[] }) (nT : ∀ p ∈ cs, K.lookup p.2 = none) (C : ∀ p ∈ cs, PySem.W.CodeHd s1.heap p.1 p.2)
    (hbm : ∃ (bm : Addr) (ob : Obj), mg "__builtins__" = some (.ref bm) ∧ bm ≠ builtinsNs ∧ s1.heap.get? bm = some ob ∧ ob.cls = .type "module" ∧ ob.dict = some builtinsNs ∧ ob.data = .plain)
    (ha : s1.heap.get? a = some { cls := .type "list", data := .seq vs.toArray }) (hi : IntsAre vs ns) (hl : ns.length ≤ sizeLine) (hln : ns.length ≤ n) (hr : RoomG k callerA)
    (lq : qs.length = cs.length) (nd : (cs.map (·.2)).Nodup)
    (F : ∀ base : Heap, K.In base → base.Ns mainGlobals mg → (∀ p ∈ cs, TabB base mg p.1 p.2) → DFn P w K mg base k fa fd [x] sp) (hbind : ∀ (s : Shared) (u : Value), BindsTo s fd ⟨[u], []⟩ [(x, u)]) (hsp : LawDT n ((cs.map (·.2)).zip qs) sp) :
    codeAny (model P w) callerA (.call (.ref fa) ⟨[.ref a], []⟩) (fun r s' => r = .ok (.ret (.bool true)) ∧ OldK s1.heap s'.heap ∧ s'.os = s1.os ∧ AllBare s'.gens) s1 := by
  have rv := vals_ints hi
  have lv := hi.length
  have apart : a ∉ cs.map (·.2) := fun z => by
    obtain ⟨p, hp, rfl⟩ := List.mem_map.mp z
    have := hT p hp
    rw [ha] at this
    injection this with this
    injection this with _ _ d
    cases d
  have inT : ∀ p ∈ cs, p.2 ∈ cs.map (·.2) := fun p hp => List.mem_map.mpr ⟨p, hp, rfl⟩
  cases hk : K.lookup a with
  | some o =>
    have e := KX a o hk
    rw [ha] at e; cases e
    refine d_enter (H := fun b => if b ∈ cs.map (·.2) then some (.tbl #[]) else none) KX hns hb hbb hlim hg hT nT C hbm ha hln hr lq nd F hbind hsp (fun b u z => ?_) (fun p hp => if_pos (inT p hp)) (.inr ⟨_, vs.toArray, _, hk, rfl, rfl, rfl, by rw [List.size_toArray, lv]; exact hl, by simpa using rv⟩) (fun z => absurd (if_neg apart) z) fun b u z => ?_
    · by_cases q : b ∈ cs.map (·.2)
      · exact .inl ⟨q, Option.some.inj (((if_pos q).symm.trans z).symm)⟩
      · exact nomatch (if_neg q).symm.trans z
    · by_cases q : b ∈ cs.map (·.2)
      · have := (if_pos q).symm.trans z
        cases this
        obtain ⟨p, hp, rfl⟩ := List.mem_map.mp q
        exact hT p hp
      · exact nomatch (if_neg q).symm.trans z
  | none =>
    have other : ∀ {b}, b ∈ cs.map (·.2) → b ≠ a := fun {b} q z => apart (z ▸ q)
    refine d_enter (H := fun b => if b = a then some (.frz { cls := .type "list", data := .seq vs.toArray } (.lst (ns.map V.int))) else if b ∈ cs.map (·.2) then some (.tbl #[]) else none) KX hns hb hbb hlim hg hT nT C hbm ha hln hr lq nd F hbind hsp (fun b u z => ?_) (fun p hp => (if_neg (other (inT p hp))).trans (if_pos (inT p hp))) (.inl (.inr ⟨_, if_pos rfl⟩)) (fun _ => hk) fun b u z => ?_
    · by_cases q : b = a
      · exact .inr ⟨q, _, _, Option.some.inj (((if_pos q).symm.trans z).symm)⟩
      · have z := (if_neg q).symm.trans z
        by_cases q2 : b ∈ cs.map (·.2)
        · exact .inl ⟨q2, Option.some.inj (((if_pos q2).symm.trans z).symm)⟩
        · exact nomatch (if_neg q2).symm.trans z
    · by_cases q : b = a
      · have := (if_pos q).symm.trans z
        cases this
        subst q
        exact ⟨ha, by rw [List.length_map]; exact hl, vs, _, rv, ha⟩
      · have z := (if_neg q).symm.trans z
        by_cases q2 : b ∈ cs.map (·.2)
        · have := (if_pos q2).symm.trans z
          cases this
          obtain ⟨p, hp, rfl⟩ := List.mem_map.mp q2
          exact hT p hp
        · exact nomatch (if_neg q2).symm.trans z
end
end DL
namespace DL
open PySem PySem.Spec PyProof.Rows L2 LamX
/-- the module of the built-ins stands behind the globals -/
def bmB (K : Fg) : Bool := match PySem.W.nsIn K mainGlobals "__builtins__" with
  | some (some (.ref bm)) => decide (bm ≠ builtinsNs) && (match K.lookup bm with
    | some o => decide (o.cls = .type "module") && decide (o.dict = some builtinsNs) && (match o.data with
      | .plain => true
      | _ => false)
    | none => false)
  | _ => false
theorem bmB_ok {K : Fg} {h : Heap} {mg : Str → Option Value} (X : K.In h) (G : h.Ns mainGlobals mg) (e : bmB K = true) :
    ∃ (bm : Addr) (ob : Obj), mg "__builtins__" = some (.ref bm) ∧ bm ≠ builtinsNs ∧ h.get? bm = some ob ∧ ob.cls = .type "module" ∧ ob.dict = some builtinsNs ∧ ob.data = .plain := by
  unfold bmB at e
  split at e
  · rename_i bm hbm
    obtain ⟨e1, e2⟩ := He.ba e
    split at e2
    · rename_i o ho
      obtain ⟨e3, e4⟩ := He.ba e2
      obtain ⟨e5, e6⟩ := He.ba e3
      split at e4
      · rename_i hd
        exact ⟨bm, o, PySem.W.mg_of X G hbm, of_decide_eq_true e1, X _ _ ho, of_decide_eq_true e5, of_decide_eq_true e6, hd⟩
      · cases e4
    · cases e2
  · cases e
theorem code_known {K : Fg} {x qual : Str} {st : Stmt} {p : Str × Option Str} {fd : FuncData} (F : Fun K x qual st (He.fAd K p) fd) : ∀ cdv, fd.code = cdv → cdv = .ref (He.codeOf K p) := by
  obtain ⟨oc, od, kV, doc, pm, an, cd, ct, osl, rfl, lk, hcg⟩ := F.ex
  obtain ⟨c, rfl⟩ := He.codeIn_ref hcg
  intro cdv e
  rw [← e]
  exact congrArg Value.ref (He.codeOf_eq lk rfl).symm
theorem d_walkT {l : PySem.W.OpenLaw} {n k : Nat} {q : Program} {loose : List Str} {XP : (Str → Option Value) → Heap → Prop} {YP : World → Heap → Prop} {d : DefRec} {x : Str} (hn : l.most = some n) (hn2 : n ≤ sizeLine) (hdf : d.params.defaults = []) (hr : RoomG k callerA)
    (F : ∀ (w : World) (mg : Str → Option Value) (fa : Addr) (h : Heap), YP w h → h.Ns mainGlobals mg → mg d.name = some (.ref fa) →
      ∃ (K : Fg) (fd : FuncData) (sp : SpD) (cs : List (Addr × Addr)) (qs : List Str), K.In h ∧ (∀ p ∈ cs, h.get? p.2 = some { cls := .none, data := .fields #[] }) ∧ (∀ p ∈ cs, K.lookup p.2 = none) ∧ (∀ p ∈ cs, PySem.W.CodeHd h p.1 p.2) ∧
        (∃ (bm : Addr) (ob : Obj), mg "__builtins__" = some (.ref bm) ∧ bm ≠ builtinsNs ∧ h.get? bm = some ob ∧ ob.cls = .type "module" ∧ ob.dict = some builtinsNs ∧ ob.data = .plain) ∧ qs.length = cs.length ∧ (cs.map (·.2)).Nodup ∧
        (∀ (s : Shared) (u : Value), BindsTo s fd ⟨[u], []⟩ [(x, u)]) ∧ LawDT n ((cs.map (·.2)).zip qs) sp ∧ ∀ base : Heap, K.In base → base.Ns mainGlobals mg → (∀ p ∈ cs, TabB base mg p.1 p.2) → DFn l.prog w K mg base k fa fd [x] sp) :
    PySem.W.WalkO q loose XP YP l.row.toRowW d [] (fun f vs => PySem.call f vs) := by
  apply Att.attach_call hn hdf
  intro w s0 s1 mg mb fa o pm cd doc a vs ns G Y ho hd hcd hmg hobj hints hlen hg
  obtain ⟨K, fd, sp, cs, qs, KX, t1, t2, t3, hbm, lq, nd, hb, hsp, hF⟩ := F w mg fa _ Y G.T.g hmg
  exact d_callT KX G.T.g G.T.b G.T.builtins G.T.nolimit hg t1 t2 t3 hbm hobj hints (Nat.le_trans hlen hn2) hlen hr lq nd hF hb hsp
end DL
set_option maxHeartbeats 0
namespace G_madeofhere_k02_whole_goods_judged
open PySem PySem.Spec PyProof.Rows L2 DL
def dd_BadGood : He.DefD := ⟨("BadGood", some "__init__"), "__init__", "BadGood.__init__", defArgs st_BadGood, defBody st_BadGood, defScope st_BadGood, [], []⟩
def clsN : List Str := [("MakeError" : Str), ("BadGood" : Str)]
def clsA (K : Fg) : Nat → Addr := fun i => if i = 2 then (He.cT K ("law", none)).2 else He.ga K (clsN.getD i "")
def exC (K : Fg) : Bool := ((List.range 2).all fun i => if [true, true].getD i true = true then clsVB K (clsA K i) else clsLB K (clsA K i)) && (kitBB K (clsA K) 2 tb tys fds && (k0B K (clsA K 0) true && true))
theorem exC_cf {K : Fg} (h : exC K = true) : CF K (clsA K) := by
  obtain ⟨h1, h2⟩ := He.ba h
  refine ⟨fun {i} hi => ?_, kitBB_ok (He.ba h2).1⟩
  have q := List.all_eq_true.mp h1 i (List.mem_range.mpr hi)
  by_cases z : [true, true].getD i true = true
  · rw [if_pos z] at q; exact clsVB_ok q
  · rw [if_neg z] at q; exact clsLB_ok q
theorem exC_k0 {K : Fg} (h : exC K = true) : (k0B K (clsA K 0) true && true) = true := (He.ba (He.ba h).2).2
def dd_is_rule : He.DefD := ⟨("is_rule", none), "is_rule", "is_rule", defArgs st_is_rule, defBody st_is_rule, defScope st_is_rule, [], []⟩
def dd__need_bounds : He.DefD := ⟨("_need_bounds", none), "_need_bounds", "_need_bounds", defArgs st__need_bounds, defBody st__need_bounds, defScope st__need_bounds, [], []⟩
def dd__need_making : He.DefD := ⟨("_need_making", none), "_need_making", "_need_making", defArgs st__need_making, defBody st__need_making, defScope st__need_making, [], []⟩
def dd__look_at : He.DefD := ⟨("_look_at", none), "_look_at", "_look_at", defArgs st__look_at, defBody st__look_at, defScope st__look_at, [], []⟩
def dd_look_over : He.DefD := ⟨("look_over", none), "look_over", "look_over", defArgs st_look_over, defBody st_look_over, defScope st_look_over, [], []⟩
def dd_need_good : He.DefD := ⟨("need_good", none), "need_good", "need_good", defArgs st_need_good, defBody st_need_good, defScope st_need_good, [], []⟩
def dd_things : He.DefD := ⟨("things", none), "things", "things", defArgs st_things, defBody st_things, defScope st_things, [], []⟩
def dd_steps : He.DefD := ⟨("steps", none), "steps", "steps", defArgs st_steps, defBody st_steps, defScope st_steps, [], []⟩
def dd_moves : He.DefD := ⟨("moves", none), "moves", "moves", defArgs st_moves, defBody st_moves, defScope st_moves, [], []⟩
def dd_lows : He.DefD := ⟨("lows", none), "lows", "lows", defArgs st_lows, defBody st_lows, defScope st_lows, [], []⟩
def dd_highs : He.DefD := ⟨("highs", none), "highs", "highs", defArgs st_highs, defBody st_highs, defScope st_highs, [], []⟩
def dd__law_begun : He.DefD := ⟨("_law_begun", none), "_law_begun", "_law_begun", defArgs st__law_begun, defBody st__law_begun, defScope st__law_begun, [], []⟩
def dd__law_draw : He.DefD := ⟨("_law_draw", none), "_law_draw", "_law_draw", defArgs st__law_draw, defBody st__law_draw, defScope st__law_draw, [], []⟩
def dd__law_of : He.DefD := ⟨("_law_of", none), "_law_of", "_law_of", defArgs st__law_of, defBody st__law_of, defScope st__law_of, [], []⟩
def dd__law_span : He.DefD := ⟨("_law_span", none), "_law_span", "_law_span", defArgs st__law_span, defBody st__law_span, defScope st__law_span, [], []⟩
def dd__law_term : He.DefD := ⟨("_law_term", none), "_law_term", "_law_term", defArgs st__law_term, defBody st__law_term, defScope st__law_term, [], []⟩
def dd__law_thing : He.DefD := ⟨("_law_thing", none), "_law_thing", "_law_thing", defArgs st__law_thing, defBody st__law_thing, defScope st__law_thing, [], []⟩
def dd__law_good : He.DefD := ⟨("_law_good", none), "_law_good", "_law_good", defArgs st__law_good, defBody st__law_good, defScope st__law_good, [], []⟩
def dd__law_rows : He.DefD := ⟨("_law_rows", none), "_law_rows", "_law_rows", defArgs st__law_rows, defBody st__law_rows, defScope st__law_rows, [], []⟩
def dd__law_outcome : He.DefD := ⟨("_law_outcome", none), "_law_outcome", "_law_outcome", defArgs st__law_outcome, defBody st__law_outcome, defScope st__law_outcome, [], []⟩
def dd__law_is_int : He.DefD := ⟨("_law_is_int", none), "_law_is_int", "_law_is_int", defArgs st__law_is_int, defBody st__law_is_int, defScope st__law_is_int, [], []⟩
def dd__law_is_word : He.DefD := ⟨("_law_is_word", none), "_law_is_word", "_law_is_word", defArgs st__law_is_word, defBody st__law_is_word, defScope st__law_is_word, [], []⟩
def dd__law_wrong : He.DefD := ⟨("_law_wrong", none), "_law_wrong", "_law_wrong", defArgs st__law_wrong, defBody st__law_wrong, defScope st__law_wrong, [], []⟩
def dd__law_starts : He.DefD := ⟨("_law_starts", none), "_law_starts", "_law_starts", defArgs st__law_starts, defBody st__law_starts, defScope st__law_starts, [], []⟩
def dd__law_first_wrong : He.DefD := ⟨("_law_first_wrong", none), "_law_first_wrong", "_law_first_wrong", defArgs st__law_first_wrong, defBody st__law_first_wrong, defScope st__law_first_wrong, [], []⟩
def dd__law_due : He.DefD := ⟨("_law_due", none), "_law_due", "_law_due", defArgs st__law_due, defBody st__law_due, defScope st__law_due, [], []⟩
def dd__law_odd : He.DefD := ⟨("_law_odd", none), "_law_odd", "_law_odd", defArgs st__law_odd, defBody st__law_odd, defScope st__law_odd, [], []⟩
def dd__law_bent : He.DefD := ⟨("_law_bent", none), "_law_bent", "_law_bent", defArgs st__law_bent, defBody st__law_bent, defScope st__law_bent, [], []⟩
def dd__law_borders : He.DefD := ⟨("_law_borders", none), "_law_borders", "_law_borders", defArgs st__law_borders, defBody st__law_borders, defScope st__law_borders, [], []⟩
def dd_law : He.DefD := ⟨("law", none), "law", "law", defArgs st_law, defBody st_law, defScope st_law, [], []⟩
def fn : List He.DefD := [dd_is_rule, dd__need_bounds, dd__need_making, dd__look_at, dd_look_over, dd_need_good, dd_things, dd_steps, dd_moves, dd_lows, dd_highs, dd__law_begun, dd__law_draw, dd__law_of, dd__law_span, dd__law_term, dd__law_thing, dd__law_good, dd__law_rows, dd__law_outcome, dd__law_is_int, dd__law_is_word, dd__law_wrong, dd__law_starts, dd__law_first_wrong, dd__law_due, dd__law_odd, dd__law_bent, dd__law_borders, dd_law, dd_BadGood]
def fa : List He.Fa := [.glo "is_rule", .glo "_need_bounds", .glo "_need_making", .glo "_look_at", .glo "look_over", .glo "need_good", .glo "things", .glo "steps", .glo "moves", .glo "lows", .glo "highs", .glo "_law_begun", .glo "_law_draw", .glo "_law_of", .glo "_law_span", .glo "_law_term", .glo "_law_thing", .glo "_law_good", .glo "_law_rows", .glo "_law_outcome", .glo "_law_is_int", .glo "_law_is_word", .glo "_law_wrong", .glo "_law_starts", .glo "_law_first_wrong", .glo "_law_due", .glo "_law_odd", .glo "_law_bent", .glo "_law_borders", .glo "law", .free "bool", .free "int", .free "isinstance", .free "len", .free "list", .free "max", .free "min", .free "range", .free "repr", .free "str", .free "tuple", .int "HIGH" 3, .int "LOW" 2, .int "MAKING" 0, .int "MOST_MOVES" 3, .int "MOST_PARTS" 4, .int "MOST_PRICE" 1000000, .int "MOST_SHARE" 100, .int "MOST_STEPS" 4, .int "MOST_THINGS" 10, .glo "BadGood", .glo "MakeError", .meth "BadGood" "__init__"]
def exI (_ : Fg) : Bool := true
def ex (K : Fg) : Bool := exI K && exC K
abbrev R : PySem.W.OpenRow := PySem.W.OpenLaw.row PySem.Challenge.rw_madeofhere_k02_whole_goods_judged
def exX (K : Fg) : Bool := ex K && bmB K
def tf : List He.Defn := [("law", none)]
abbrev hk : PySem.W.Hook := He.hookX 6 fa fn [] tf exX
def ob (s : PySem.W.SharedT) : He.AlX := He.obsX 6 fa fn [] tf exX (HandSHeadRun.getT s)
theorem ob_eq (s : PySem.W.SharedT) : ob s = hk.obs s.abs := He.obsX_eq (HandSHeadRun.getT_eq s)
def lo0 : List Str := [("__name__" : Str), ("MakeError" : Str), ("BadGood" : Str), ("MAKING" : Str), ("LOW" : Str), ("HIGH" : Str), ("MOST_PRICE" : Str), ("MOST_SHARE" : Str), ("MOST_PARTS" : Str), ("MOST_THINGS" : Str), ("MOST_STEPS" : Str), ("MOST_MOVES" : Str), ("is_rule" : Str), ("_need_bounds" : Str), ("_need_making" : Str), ("_look_at" : Str), ("look_over" : Str), ("need_good" : Str), ("things" : Str), ("steps" : Str), ("moves" : Str), ("lows" : Str), ("highs" : Str), ("_law_begun" : Str), ("_law_draw" : Str), ("_law_of" : Str), ("_law_span" : Str), ("_law_term" : Str), ("_law_thing" : Str), ("_law_good" : Str), ("_law_rows" : Str), ("_law_outcome" : Str), ("_law_is_int" : Str), ("_law_is_word" : Str), ("_law_wrong" : Str), ("_law_starts" : Str), ("_law_first_wrong" : Str), ("_law_due" : Str), ("_law_odd" : Str), ("_law_bent" : Str)]
def lo1 : List Str := [("_law_borders" : Str)]
def loose : List Str := lo0 ++ lo1
theorem run (w : World) : HandSHeadRun.RunEq R (PySem.W.view R.prog [43]) hk ob 40000 loose w := by
  intro os
  kernel_rfl
theorem txt {K : Fg} {h : Heap} {mg : Str → Option Value} (X : K.In h) (G : h.Ns mainGlobals mg) (c : He.SaysD fa fn K) (e : ex K = true) : ∃ A : Adr, Txt K mg A ∧ A.a_law = He.ga K "law" ∧ A.cls = clsA K ∧ A.cod_law = He.codeOf K ("law", none) := by
  obtain ⟨eI, eC⟩ := He.ba e
  obtain ⟨q0, F0⟩ := c.def_ 0 (d := dd_is_rule) rfl
  have F0 : Fun K "is_rule" "is_rule" st_is_rule (He.ga K "is_rule") q0 := fun_ofD (st := st_is_rule) F0
  obtain ⟨q1, F1⟩ := c.def_ 1 (d := dd__need_bounds) rfl
  have F1 : Fun K "_need_bounds" "_need_bounds" st__need_bounds (He.ga K "_need_bounds") q1 := fun_ofD (st := st__need_bounds) F1
  obtain ⟨q2, F2⟩ := c.def_ 2 (d := dd__need_making) rfl
  have F2 : Fun K "_need_making" "_need_making" st__need_making (He.ga K "_need_making") q2 := fun_ofD (st := st__need_making) F2
  obtain ⟨q3, F3⟩ := c.def_ 3 (d := dd__look_at) rfl
  have F3 : Fun K "_look_at" "_look_at" st__look_at (He.ga K "_look_at") q3 := fun_ofD (st := st__look_at) F3
  obtain ⟨q4, F4⟩ := c.def_ 4 (d := dd_look_over) rfl
  have F4 : Fun K "look_over" "look_over" st_look_over (He.ga K "look_over") q4 := fun_ofD (st := st_look_over) F4
  obtain ⟨q5, F5⟩ := c.def_ 5 (d := dd_need_good) rfl
  have F5 : Fun K "need_good" "need_good" st_need_good (He.ga K "need_good") q5 := fun_ofD (st := st_need_good) F5
  obtain ⟨q6, F6⟩ := c.def_ 6 (d := dd_things) rfl
  have F6 : Fun K "things" "things" st_things (He.ga K "things") q6 := fun_ofD (st := st_things) F6
  obtain ⟨q7, F7⟩ := c.def_ 7 (d := dd_steps) rfl
  have F7 : Fun K "steps" "steps" st_steps (He.ga K "steps") q7 := fun_ofD (st := st_steps) F7
  obtain ⟨q8, F8⟩ := c.def_ 8 (d := dd_moves) rfl
  have F8 : Fun K "moves" "moves" st_moves (He.ga K "moves") q8 := fun_ofD (st := st_moves) F8
  obtain ⟨q9, F9⟩ := c.def_ 9 (d := dd_lows) rfl
  have F9 : Fun K "lows" "lows" st_lows (He.ga K "lows") q9 := fun_ofD (st := st_lows) F9
  obtain ⟨q10, F10⟩ := c.def_ 10 (d := dd_highs) rfl
  have F10 : Fun K "highs" "highs" st_highs (He.ga K "highs") q10 := fun_ofD (st := st_highs) F10
  obtain ⟨q11, F11⟩ := c.def_ 11 (d := dd__law_begun) rfl
  have F11 : Fun K "_law_begun" "_law_begun" st__law_begun (He.ga K "_law_begun") q11 := fun_ofD (st := st__law_begun) F11
  obtain ⟨q12, F12⟩ := c.def_ 12 (d := dd__law_draw) rfl
  have F12 : Fun K "_law_draw" "_law_draw" st__law_draw (He.ga K "_law_draw") q12 := fun_ofD (st := st__law_draw) F12
  obtain ⟨q13, F13⟩ := c.def_ 13 (d := dd__law_of) rfl
  have F13 : Fun K "_law_of" "_law_of" st__law_of (He.ga K "_law_of") q13 := fun_ofD (st := st__law_of) F13
  obtain ⟨q14, F14⟩ := c.def_ 14 (d := dd__law_span) rfl
  have F14 : Fun K "_law_span" "_law_span" st__law_span (He.ga K "_law_span") q14 := fun_ofD (st := st__law_span) F14
  obtain ⟨q15, F15⟩ := c.def_ 15 (d := dd__law_term) rfl
  have F15 : Fun K "_law_term" "_law_term" st__law_term (He.ga K "_law_term") q15 := fun_ofD (st := st__law_term) F15
  obtain ⟨q16, F16⟩ := c.def_ 16 (d := dd__law_thing) rfl
  have F16 : Fun K "_law_thing" "_law_thing" st__law_thing (He.ga K "_law_thing") q16 := fun_ofD (st := st__law_thing) F16
  obtain ⟨q17, F17⟩ := c.def_ 17 (d := dd__law_good) rfl
  have F17 : Fun K "_law_good" "_law_good" st__law_good (He.ga K "_law_good") q17 := fun_ofD (st := st__law_good) F17
  obtain ⟨q18, F18⟩ := c.def_ 18 (d := dd__law_rows) rfl
  have F18 : Fun K "_law_rows" "_law_rows" st__law_rows (He.ga K "_law_rows") q18 := fun_ofD (st := st__law_rows) F18
  obtain ⟨q19, F19⟩ := c.def_ 19 (d := dd__law_outcome) rfl
  have F19 : Fun K "_law_outcome" "_law_outcome" st__law_outcome (He.ga K "_law_outcome") q19 := fun_ofD (st := st__law_outcome) F19
  obtain ⟨q20, F20⟩ := c.def_ 20 (d := dd__law_is_int) rfl
  have F20 : Fun K "_law_is_int" "_law_is_int" st__law_is_int (He.ga K "_law_is_int") q20 := fun_ofD (st := st__law_is_int) F20
  obtain ⟨q21, F21⟩ := c.def_ 21 (d := dd__law_is_word) rfl
  have F21 : Fun K "_law_is_word" "_law_is_word" st__law_is_word (He.ga K "_law_is_word") q21 := fun_ofD (st := st__law_is_word) F21
  obtain ⟨q22, F22⟩ := c.def_ 22 (d := dd__law_wrong) rfl
  have F22 : Fun K "_law_wrong" "_law_wrong" st__law_wrong (He.ga K "_law_wrong") q22 := fun_ofD (st := st__law_wrong) F22
  obtain ⟨q23, F23⟩ := c.def_ 23 (d := dd__law_starts) rfl
  have F23 : Fun K "_law_starts" "_law_starts" st__law_starts (He.ga K "_law_starts") q23 := fun_ofD (st := st__law_starts) F23
  obtain ⟨q24, F24⟩ := c.def_ 24 (d := dd__law_first_wrong) rfl
  have F24 : Fun K "_law_first_wrong" "_law_first_wrong" st__law_first_wrong (He.ga K "_law_first_wrong") q24 := fun_ofD (st := st__law_first_wrong) F24
  obtain ⟨q25, F25⟩ := c.def_ 25 (d := dd__law_due) rfl
  have F25 : Fun K "_law_due" "_law_due" st__law_due (He.ga K "_law_due") q25 := fun_ofD (st := st__law_due) F25
  obtain ⟨q26, F26⟩ := c.def_ 26 (d := dd__law_odd) rfl
  have F26 : Fun K "_law_odd" "_law_odd" st__law_odd (He.ga K "_law_odd") q26 := fun_ofD (st := st__law_odd) F26
  obtain ⟨q27, F27⟩ := c.def_ 27 (d := dd__law_bent) rfl
  have F27 : Fun K "_law_bent" "_law_bent" st__law_bent (He.ga K "_law_bent") q27 := fun_ofD (st := st__law_bent) F27
  obtain ⟨q28, F28⟩ := c.def_ 28 (d := dd__law_borders) rfl
  have F28 : Fun K "_law_borders" "_law_borders" st__law_borders (He.ga K "_law_borders") q28 := fun_ofD (st := st__law_borders) F28
  obtain ⟨q29, F29⟩ := c.def_ 29 (d := dd_law) rfl
  have F29 : Fun K "law" "law" st_law (He.ga K "law") q29 := fun_ofD (st := st_law) F29
  obtain ⟨q30, F30⟩ := c.def_ 30 (d := dd_BadGood) rfl
  have F30 : Fun K "__init__" "BadGood.__init__" st_BadGood (He.ma K (clsA K 1) "__init__") q30 := fun_ofD (st := st_BadGood) F30
  exact ⟨{ cls := clsA K, cod_law := He.codeOf K ("law", none), a_BadGood := He.ma K (clsA K 1) "__init__", d_BadGood := q30, a_is_rule := (He.ga K "is_rule"), d_is_rule := q0, a__need_bounds := (He.ga K "_need_bounds"), d__need_bounds := q1, a__need_making := (He.ga K "_need_making"), d__need_making := q2, a__look_at := (He.ga K "_look_at"), d__look_at := q3, a_look_over := (He.ga K "look_over"), d_look_over := q4, a_need_good := (He.ga K "need_good"), d_need_good := q5, a_things := (He.ga K "things"), d_things := q6, a_steps := (He.ga K "steps"), d_steps := q7, a_moves := (He.ga K "moves"), d_moves := q8, a_lows := (He.ga K "lows"), d_lows := q9, a_highs := (He.ga K "highs"), d_highs := q10, a__law_begun := (He.ga K "_law_begun"), d__law_begun := q11, a__law_draw := (He.ga K "_law_draw"), d__law_draw := q12, a__law_of := (He.ga K "_law_of"), d__law_of := q13, a__law_span := (He.ga K "_law_span"), d__law_span := q14, a__law_term := (He.ga K "_law_term"), d__law_term := q15, a__law_thing := (He.ga K "_law_thing"), d__law_thing := q16, a__law_good := (He.ga K "_law_good"), d__law_good := q17, a__law_rows := (He.ga K "_law_rows"), d__law_rows := q18, a__law_outcome := (He.ga K "_law_outcome"), d__law_outcome := q19, a__law_is_int := (He.ga K "_law_is_int"), d__law_is_int := q20, a__law_is_word := (He.ga K "_law_is_word"), d__law_is_word := q21, a__law_wrong := (He.ga K "_law_wrong"), d__law_wrong := q22, a__law_starts := (He.ga K "_law_starts"), d__law_starts := q23, a__law_first_wrong := (He.ga K "_law_first_wrong"), d__law_first_wrong := q24, a__law_due := (He.ga K "_law_due"), d__law_due := q25, a__law_odd := (He.ga K "_law_odd"), d__law_odd := q26, a__law_bent := (He.ga K "_law_bent"), d__law_bent := q27, a__law_borders := (He.ga K "_law_borders"), d__law_borders := q28, a_law := (He.ga K "law"), d_law := q29 },
  { F_is_rule := F0,
    g_is_rule := He.glo_ok X G (c.fact 0 (f := .glo "is_rule") rfl),
    b_is_rule := binds_of F0 (fun _ _ _ _ _ _ us hl => match us, hl with | [_], _ => rfl),
    F__need_bounds := F1,
    g__need_bounds := He.glo_ok X G (c.fact 1 (f := .glo "_need_bounds") rfl),
    b__need_bounds := binds_of F1 (fun _ _ _ _ _ _ us hl => match us, hl with | [_, _, _, _], _ => rfl),
    F__need_making := F2,
    g__need_making := He.glo_ok X G (c.fact 2 (f := .glo "_need_making") rfl),
    b__need_making := binds_of F2 (fun _ _ _ _ _ _ us hl => match us, hl with | [_, _, _], _ => rfl),
    F__look_at := F3,
    g__look_at := He.glo_ok X G (c.fact 3 (f := .glo "_look_at") rfl),
    b__look_at := binds_of F3 (fun _ _ _ _ _ _ us hl => match us, hl with | [_, _, _, _, _, _], _ => rfl),
    F_look_over := F4,
    g_look_over := He.glo_ok X G (c.fact 4 (f := .glo "look_over") rfl),
    b_look_over := binds_of F4 (fun _ _ _ _ _ _ us hl => match us, hl with | [_], _ => rfl),
    F_need_good := F5,
    g_need_good := He.glo_ok X G (c.fact 5 (f := .glo "need_good") rfl),
    b_need_good := binds_of F5 (fun _ _ _ _ _ _ us hl => match us, hl with | [_], _ => rfl),
    F_things := F6,
    g_things := He.glo_ok X G (c.fact 6 (f := .glo "things") rfl),
    b_things := binds_of F6 (fun _ _ _ _ _ _ us hl => match us, hl with | [_], _ => rfl),
    F_steps := F7,
    g_steps := He.glo_ok X G (c.fact 7 (f := .glo "steps") rfl),
    b_steps := binds_of F7 (fun _ _ _ _ _ _ us hl => match us, hl with | [_], _ => rfl),
    F_moves := F8,
    g_moves := He.glo_ok X G (c.fact 8 (f := .glo "moves") rfl),
    b_moves := binds_of F8 (fun _ _ _ _ _ _ us hl => match us, hl with | [_], _ => rfl),
    F_lows := F9,
    g_lows := He.glo_ok X G (c.fact 9 (f := .glo "lows") rfl),
    b_lows := binds_of F9 (fun _ _ _ _ _ _ us hl => match us, hl with | [_], _ => rfl),
    F_highs := F10,
    g_highs := He.glo_ok X G (c.fact 10 (f := .glo "highs") rfl),
    b_highs := binds_of F10 (fun _ _ _ _ _ _ us hl => match us, hl with | [_], _ => rfl),
    F__law_begun := F11,
    g__law_begun := He.glo_ok X G (c.fact 11 (f := .glo "_law_begun") rfl),
    b__law_begun := binds_of F11 (fun _ _ _ _ _ _ us hl => match us, hl with | [_], _ => rfl),
    F__law_draw := F12,
    g__law_draw := He.glo_ok X G (c.fact 12 (f := .glo "_law_draw") rfl),
    b__law_draw := binds_of F12 (fun _ _ _ _ _ _ us hl => match us, hl with | [_, _], _ => rfl),
    F__law_of := F13,
    g__law_of := He.glo_ok X G (c.fact 13 (f := .glo "_law_of") rfl),
    b__law_of := binds_of F13 (fun _ _ _ _ _ _ us hl => match us, hl with | [_, _], _ => rfl),
    F__law_span := F14,
    g__law_span := He.glo_ok X G (c.fact 14 (f := .glo "_law_span") rfl),
    b__law_span := binds_of F14 (fun _ _ _ _ _ _ us hl => match us, hl with | [_, _], _ => rfl),
    F__law_term := F15,
    g__law_term := He.glo_ok X G (c.fact 15 (f := .glo "_law_term") rfl),
    b__law_term := binds_of F15 (fun _ _ _ _ _ _ us hl => match us, hl with | [_], _ => rfl),
    F__law_thing := F16,
    g__law_thing := He.glo_ok X G (c.fact 16 (f := .glo "_law_thing") rfl),
    b__law_thing := binds_of F16 (fun _ _ _ _ _ _ us hl => match us, hl with | [_, _, _], _ => rfl),
    F__law_good := F17,
    g__law_good := He.glo_ok X G (c.fact 17 (f := .glo "_law_good") rfl),
    b__law_good := binds_of F17 (fun _ _ _ _ _ _ us hl => match us, hl with | [_, _, _], _ => rfl),
    F__law_rows := F18,
    g__law_rows := He.glo_ok X G (c.fact 18 (f := .glo "_law_rows") rfl),
    b__law_rows := binds_of F18 (fun _ _ _ _ _ _ us hl => match us, hl with | [_, _], _ => rfl),
    F__law_outcome := F19,
    g__law_outcome := He.glo_ok X G (c.fact 19 (f := .glo "_law_outcome") rfl),
    b__law_outcome := binds_of F19 (fun _ _ _ _ _ _ us hl => match us, hl with | [_], _ => rfl),
    F__law_is_int := F20,
    g__law_is_int := He.glo_ok X G (c.fact 20 (f := .glo "_law_is_int") rfl),
    b__law_is_int := binds_of F20 (fun _ _ _ _ _ _ us hl => match us, hl with | [_, _, _], _ => rfl),
    F__law_is_word := F21,
    g__law_is_word := He.glo_ok X G (c.fact 21 (f := .glo "_law_is_word") rfl),
    b__law_is_word := binds_of F21 (fun _ _ _ _ _ _ us hl => match us, hl with | [_, _], _ => rfl),
    F__law_wrong := F22,
    g__law_wrong := He.glo_ok X G (c.fact 22 (f := .glo "_law_wrong") rfl),
    b__law_wrong := binds_of F22 (fun _ _ _ _ _ _ us hl => match us, hl with | [_], _ => rfl),
    F__law_starts := F23,
    g__law_starts := He.glo_ok X G (c.fact 23 (f := .glo "_law_starts") rfl),
    b__law_starts := binds_of F23 (fun _ _ _ _ _ _ us hl => match us, hl with | [_], _ => rfl),
    F__law_first_wrong := F24,
    g__law_first_wrong := He.glo_ok X G (c.fact 24 (f := .glo "_law_first_wrong") rfl),
    b__law_first_wrong := binds_of F24 (fun _ _ _ _ _ _ us hl => match us, hl with | [_, _], _ => rfl),
    F__law_due := F25,
    g__law_due := He.glo_ok X G (c.fact 25 (f := .glo "_law_due") rfl),
    b__law_due := binds_of F25 (fun _ _ _ _ _ _ us hl => match us, hl with | [_], _ => rfl),
    F__law_odd := F26,
    g__law_odd := He.glo_ok X G (c.fact 26 (f := .glo "_law_odd") rfl),
    b__law_odd := binds_of F26 (fun _ _ _ _ _ _ us hl => match us, hl with | [_], _ => rfl),
    F__law_bent := F27,
    g__law_bent := He.glo_ok X G (c.fact 27 (f := .glo "_law_bent") rfl),
    b__law_bent := binds_of F27 (fun _ _ _ _ _ _ us hl => match us, hl with | [_, _], _ => rfl),
    F__law_borders := F28,
    g__law_borders := He.glo_ok X G (c.fact 28 (f := .glo "_law_borders") rfl),
    b__law_borders := binds_of F28 (fun _ _ _ _ _ _ us hl => match us, hl with | [], _ => rfl),
    F_law := F29,
    co_law := code_known F29,
    g_law := He.glo_ok X G (c.fact 29 (f := .glo "law") rfl),
    b_law := binds_of F29 (fun _ _ _ _ _ _ us hl => match us, hl with | [_], _ => rfl),
    F_BadGood := F30,
    b_BadGood := binds_of F30 (fun _ _ _ _ _ _ us hl => match us, hl with | [_, _, _], _ => rfl),
    k0_MakeError := k0B_ok (He.ba (exC_k0 eC)).1,
    C := exC_cf eC,
    z_bool := He.free_ok X G (c.fact 30 (f := .free "bool") rfl),
    z_int := He.free_ok X G (c.fact 31 (f := .free "int") rfl),
    z_isinstance := He.free_ok X G (c.fact 32 (f := .free "isinstance") rfl),
    z_len := He.free_ok X G (c.fact 33 (f := .free "len") rfl),
    z_list := He.free_ok X G (c.fact 34 (f := .free "list") rfl),
    z_max := He.free_ok X G (c.fact 35 (f := .free "max") rfl),
    z_min := He.free_ok X G (c.fact 36 (f := .free "min") rfl),
    z_range := He.free_ok X G (c.fact 37 (f := .free "range") rfl),
    z_repr := He.free_ok X G (c.fact 38 (f := .free "repr") rfl),
    z_str := He.free_ok X G (c.fact 39 (f := .free "str") rfl),
    z_tuple := He.free_ok X G (c.fact 40 (f := .free "tuple") rfl),
    c_HIGH := (He.int_ok X G (c.fact 41 (f := .int "HIGH" 3) rfl)).elim fun t e => ⟨_, e, t, rfl⟩,
    c_LOW := (He.int_ok X G (c.fact 42 (f := .int "LOW" 2) rfl)).elim fun t e => ⟨_, e, t, rfl⟩,
    c_MAKING := (He.int_ok X G (c.fact 43 (f := .int "MAKING" 0) rfl)).elim fun t e => ⟨_, e, t, rfl⟩,
    c_MOST_MOVES := (He.int_ok X G (c.fact 44 (f := .int "MOST_MOVES" 3) rfl)).elim fun t e => ⟨_, e, t, rfl⟩,
    c_MOST_PARTS := (He.int_ok X G (c.fact 45 (f := .int "MOST_PARTS" 4) rfl)).elim fun t e => ⟨_, e, t, rfl⟩,
    c_MOST_PRICE := (He.int_ok X G (c.fact 46 (f := .int "MOST_PRICE" 1000000) rfl)).elim fun t e => ⟨_, e, t, rfl⟩,
    c_MOST_SHARE := (He.int_ok X G (c.fact 47 (f := .int "MOST_SHARE" 100) rfl)).elim fun t e => ⟨_, e, t, rfl⟩,
    c_MOST_STEPS := (He.int_ok X G (c.fact 48 (f := .int "MOST_STEPS" 4) rfl)).elim fun t e => ⟨_, e, t, rfl⟩,
    c_MOST_THINGS := (He.int_ok X G (c.fact 49 (f := .int "MOST_THINGS" 10) rfl)).elim fun t e => ⟨_, e, t, rfl⟩,
    g_BadGood := He.glo_ok X G (c.fact 50 (f := .glo "BadGood") rfl),
    g_MakeError := He.glo_ok X G (c.fact 51 (f := .glo "MakeError") rfl),
    i_BadGood := (He.meth_ok (c.fact 52 (f := .meth "BadGood" "__init__") rfl)).at_,
    t_BadGood := beq_iff_eq.mp (He.meth_ok (c.fact 52 (f := .meth "BadGood" "__init__") rfl)).fn }, rfl, rfl, rfl⟩
end G_madeofhere_k02_whole_goods_judged
open PySem PySem.W PySem.Calls PyProof.Rows
theorem G_madeofhere_k02_whole_goods_judged.from_data (hl : ∀ (K : DL.Fg) (c : Nat → PySem.Addr), G_madeofhere_k02_whole_goods_judged.CF K c → DL.LawDT 63 (G_madeofhere_k02_whole_goods_judged.tabT c) (G_madeofhere_k02_whole_goods_judged.Wlaw K c)) : PySem.Challenge.rw_madeofhere_k02_whole_goods_judged.Holds := by
  w_on; o_law
  refine HandSHeadRun.head_any (r := G_madeofhere_k02_whole_goods_judged.R) (q := view G_madeofhere_k02_whole_goods_judged.R.prog [43]) (H := G_madeofhere_k02_whole_goods_judged.hk) (ob := G_madeofhere_k02_whole_goods_judged.ob) (M := 40000) (loose := G_madeofhere_k02_whole_goods_judged.loose) (d := HandSHeadRun.topDef G_madeofhere_k02_whole_goods_judged.R.prog 43) (kwd := []) G_madeofhere_k02_whole_goods_judged.ob_eq
    (by kernel_rfl) (fun s => by kernel_rfl) G_madeofhere_k02_whole_goods_judged.run (by kernel_rfl) (by kernel_rfl) (by kernel_rfl) (by rfl) (by first | assumption | decide +kernel) (by decide +kernel) ⟨rfl, rfl, rfl, rfl, rfl, by decide +kernel⟩ ?hw ?hc
  case hw => w_witness2
  case hc =>
    refine DL.d_walkT (l := PySem.Challenge.rw_madeofhere_k02_whole_goods_judged) (n := 63) (k := 20) (x := "script") rfl (by decide) (by kernel_rfl) ⟨⟨rfl, by decide, by decide⟩, rfl⟩ ?F
    intro w mg fa h Y G hmg0
    obtain ⟨K, KX, c⟩ := Y
    have hmg : mg ("law" : PySem.Str) = some (.ref fa) := by
      have e : (HandSHeadRun.topDef G_madeofhere_k02_whole_goods_judged.R.prog 43).name = ("law" : PySem.Str) := by kernel_rfl
      rw [← e]
      exact hmg0
    obtain ⟨A, T, eA, eK, eC⟩ := G_madeofhere_k02_whole_goods_judged.txt KX G c.t.d (He.ba c.more).1
    have ef := hmg.symm.trans T.g_law
    cases ef
    have e1 : A.cod_law = (He.cT K (("law" : PySem.Str), none)).1 := eC
    refine ⟨K, A.d_law, G_madeofhere_k02_whole_goods_judged.Wlaw K A.cls, G_madeofhere_k02_whole_goods_judged.tf.map (He.cT K), ["law" ++ ".<locals>." ++ "<lambda>"], KX, fun p hp => ?_, fun p hp => ?_, fun p hp => ?_, DL.bmB_ok KX G (He.ba c.more).2, rfl, by simp [G_madeofhere_k02_whole_goods_judged.tf], fun s v => (by obtain ⟨_, _, _, _, _, _, _, _, _, e2, _, _⟩ := T.F_law.ex; rw [e2]; exact .of_eq rfl), ?_, fun base _ _ tb => ?_⟩
    · obtain ⟨p', hp', rfl⟩ := List.mem_map.mp hp
      exact c.empty p' hp'
    · obtain ⟨p', hp', rfl⟩ := List.mem_map.mp hp
      exact c.out p' hp'
    · obtain ⟨p', hp', rfl⟩ := List.mem_map.mp hp
      exact PySem.W.codeHd_of_K KX (c.hd p' hp')
    · rw [eK]
      exact hl K (G_madeofhere_k02_whole_goods_judged.clsA K) (by rw [← eK]; exact T.C)
    · refine G_madeofhere_k02_whole_goods_judged.ok_law T ?_
      rw [e1, eK]
      exact tb _ (List.mem_map.mpr ⟨_, List.mem_singleton.mpr rfl, rfl⟩)
set_option maxHeartbeats 1000000
namespace MH
open PySem PySem.Spec PyProof.Rows L2 DL
/-! ### things as trees -/
inductive Th where
  | raw (here : Bool) (lo hi : Int)
  | made (here : Bool) (lo hi share : Int) (up down : Bool) (parts : List Th)
  deriving Inhabited
def landS (b : Bool) : Str := if b then "here" else "away"
def upS (b : Bool) : Str := if b then "whole" else "own"
def dnS (b : Bool) : Str := if b then "own" else "none"
def landD (b : Bool) : D := .str (landS b)
def termD (share : Int) (up down : Bool) : D := .tup [.int share, .str (upS up), .str (dnS down)]
mutual
def Th.d : Th → D
  | .raw h lo hi => .tup [.str "raw", landD h, .int lo, .int hi]
  | .made h lo hi sh u w ps => .tup [.str "made", landD h, .int lo, .int hi, termD sh u w, .tup (Th.ds ps)]
def Th.ds : List Th → List D
  | [] => []
  | t :: ts => t.d :: Th.ds ts
end
theorem ds_map : ∀ ts : List Th, Th.ds ts = ts.map Th.d
  | [] => rfl
  | t :: ts => by rw [Th.ds, ds_map ts, List.map_cons]
mutual
def Th.sz : Th → Nat
  | .raw _ _ _ => 1
  | .made _ _ _ _ _ _ ps => 1 + Th.szs ps
def Th.szs : List Th → Nat
  | [] => 0
  | t :: ts => t.sz + Th.szs ts
end
mutual
/-- steps in it -/
def Th.st : Th → Nat
  | .raw _ _ _ => 0
  | .made _ _ _ _ _ _ ps => 1 + Th.sts ps
def Th.sts : List Th → Nat
  | [] => 0
  | t :: ts => t.st + Th.sts ts
end
def mv1 (lo hi : Int) : Nat := if lo < hi then 1 else 0
mutual
/-- how many move -/
def Th.mv : Th → Nat
  | .raw _ lo hi => mv1 lo hi
  | .made _ lo hi _ _ _ ps => mv1 lo hi + Th.mvs ps
def Th.mvs : List Th → Nat
  | [] => 0
  | t :: ts => t.mv + Th.mvs ts
end
def bnd (lo hi : Int) : Prop := 0 ≤ lo ∧ lo ≤ hi ∧ hi ≤ 1000000
mutual
/-- each thing by itself is as told -/
def Th.ok : Th → Prop
  | .raw _ lo hi => bnd lo hi
  | .made _ lo hi sh _ _ ps => bnd lo hi ∧ (0 ≤ sh ∧ sh ≤ 100) ∧ (1 ≤ ps.length ∧ ps.length ≤ 4) ∧ Th.oks ps
def Th.oks : List Th → Prop
  | [] => True
  | t :: ts => t.ok ∧ Th.oks ts
end
def Th.isMade : Th → Bool
  | .raw _ _ _ => false
  | .made _ _ _ _ _ _ _ => true
mutual
/-- some LOW is above 0 -/
def Th.any : Th → Bool
  | .raw _ lo _ => decide (0 < lo)
  | .made _ lo _ _ _ _ ps => decide (0 < lo) || Th.anys ps
def Th.anys : List Th → Bool
  | [] => false
  | t :: ts => t.any || Th.anys ts
end
/-- a good -/
structure Th.good (t : Th) : Prop where
  made : t.isMade = true
  ok : t.ok
  sz : t.sz ≤ 10
  st : t.st ≤ 4
  mv : t.mv ≤ 3
  any : t.any = true
theorem szs_app : ∀ a b : List Th, Th.szs (a ++ b) = Th.szs a + Th.szs b
  | [], b => by simp [Th.szs]
  | t :: a, b => by simp only [List.cons_append, Th.szs, szs_app a b]; omega
theorem sts_app : ∀ a b : List Th, Th.sts (a ++ b) = Th.sts a + Th.sts b
  | [], b => by simp [Th.sts]
  | t :: a, b => by simp only [List.cons_append, Th.sts, sts_app a b]; omega
theorem mvs_app : ∀ a b : List Th, Th.mvs (a ++ b) = Th.mvs a + Th.mvs b
  | [], b => by simp [Th.mvs]
  | t :: a, b => by simp only [List.cons_append, Th.mvs, mvs_app a b]; omega
theorem oks_app : ∀ a b : List Th, Th.oks (a ++ b) ↔ Th.oks a ∧ Th.oks b
  | [], b => by simp [Th.oks]
  | t :: a, b => by simp only [List.cons_append, Th.oks, oks_app a b, and_assoc]
theorem ds_app (a b : List Th) : Th.ds (a ++ b) = Th.ds a ++ Th.ds b := by rw [ds_map, ds_map, ds_map, List.map_append]
theorem sz_pos : ∀ t : Th, 1 ≤ t.sz
  | .raw _ _ _ => Nat.le_refl 1
  | .made _ _ _ _ _ _ ps => by unfold Th.sz; omega
theorem szs_ge : ∀ ts : List Th, ts.length ≤ Th.szs ts
  | [] => Nat.le_refl 0
  | t :: ts => by
    have := szs_ge ts
    have := sz_pos t
    simp only [Th.szs, List.length_cons]; omega
end MH
set_option maxHeartbeats 1000000
namespace MH
open PySem PySem.Spec PyProof.Rows L2 DL
/-- in least terms -/
def lt (p q : Int) : Int × Int := (p / (Int.gcd p q : Int), q / (Int.gcd p q : Int))
end MH
set_option maxHeartbeats 1000000
namespace MH
open PySem PySem.Spec PyProof.Rows L2 DL
/-! ### the rows of a thing: each with the numbers of its parts -/
def nums : Nat → List Th → List Nat
  | _, [] => []
  | b, t :: ts => b :: nums (b + t.sz) ts
mutual
def rows : Th → Nat → List (Th × List Nat)
  | .raw h lo hi, _ => [(.raw h lo hi, [])]
  | .made h lo hi sh u w ps, b => (.made h lo hi sh u w ps, nums (b + 1) ps) :: rowss ps (b + 1)
def rowss : List Th → Nat → List (Th × List Nat)
  | [], _ => []
  | t :: ts, b => rows t b ++ rowss ts (b + t.sz)
end
def rowD (r : Th × List Nat) : D := .tup [r.1.d, .lst (r.2.map fun (k : Nat) => D.int (k : Int))]
mutual
theorem rows_len : ∀ (t : Th) (b : Nat), (rows t b).length = t.sz
  | .raw _ _ _, _ => rfl
  | .made _ _ _ _ _ _ ps, b => by rw [rows, List.length_cons, rowss_len ps (b + 1), Th.sz]; omega
theorem rowss_len : ∀ (ts : List Th) (b : Nat), (rowss ts b).length = Th.szs ts
  | [], _ => rfl
  | t :: ts, b => by rw [rowss, List.length_append, rows_len t b, rowss_len ts _, Th.szs]
end
end MH
set_option maxHeartbeats 1000000
namespace MH
open PySem PySem.Spec PyProof.Rows L2 DL
/-- the sum of fractions, not in least terms -/
def addF (f g : Int × Int) : Int × Int := (f.1 * g.2 + g.1 * f.2, f.2 * g.2)
def sumF (fs : List (Int × Int)) : Int × Int := fs.foldl addF (0, 1)
def FB (k : Nat) (f : Int × Int) : Prop := f.1.natAbs ≤ 2 ^ (65 * k) ∧ 0 < f.2 ∧ f.2.natAbs ≤ 2 ^ (65 * k)
/-- it is v divided by u -/
def Rep (u v : Int) (f : Int × Int) : Prop := 0 < f.2 ∧ f.1 * u = v * f.2
theorem Rep.add {u v w : Int} {f g : Int × Int} (h : Rep u v f) (k : Rep u w g) : Rep u (v + w) (addF f g) := by
  obtain ⟨h1, h2⟩ := h
  obtain ⟨k1, k2⟩ := k
  refine ⟨Int.mul_pos h1 k1, ?_⟩
  show (f.1 * g.2 + g.1 * f.2) * u = (v + w) * (f.2 * g.2)
  have e1 : (f.1 * g.2 + g.1 * f.2) * u = f.1 * u * g.2 + g.1 * u * f.2 := by
    rw [Int.add_mul, Int.mul_right_comm, Int.mul_right_comm g.1]
  rw [e1, h2, k2, Int.add_mul, Int.mul_assoc, Int.mul_assoc w, Int.mul_comm g.2 f.2]
inductive Reps (u : Int) : List (Int × Int) → List Int → Prop
  | nil : Reps u [] []
  | cons {f v fs vs} (h : Rep u v f) (r : Reps u fs vs) : Reps u (f :: fs) (v :: vs)
theorem Rep.fold {u : Int} : ∀ {fs : List (Int × Int)} {vs : List Int} {f : Int × Int} {v : Int}, Rep u v f → Reps u fs vs → Rep u (v + vs.sum) (fs.foldl addF f)
  | [], [], f, v, h, _ => by simpa using h
  | g :: fs, w :: vs, f, v, h, .cons k r => by
    have := Rep.fold (h.add k) r
    rw [List.foldl_cons, List.sum_cons, ← Int.add_assoc]
    exact this
theorem Rep.sum {u : Int} {fs : List (Int × Int)} {vs : List Int} (h : Reps u fs vs) : Rep u vs.sum (sumF fs) := by
  have := Rep.fold (u := u) (f := (0, 1)) (v := 0) ⟨by decide, by simp⟩ h
  simpa [sumF] using this
end MH
set_option maxHeartbeats 1000000
namespace MH
open PySem PySem.Spec PyProof.Rows L2 DL
/-! ### sums over a thing, its number and the prices being told -/
def own1 (h : Bool) (x : Int) : Int := if h then x else 0
def cnt1 (sh : Int) (u w : Bool) (o c : Int) : Int := if sh * c ≤ 100 * o then (if u then c else o) else (if w then o else 0)
mutual
def Th.cst : Th → Nat → (Nat → Int) → Int
  | .raw _ _ _, b, a => a b
  | .made _ _ _ _ _ _ ps, b, a => a b + Th.csts ps (b + 1) a
def Th.csts : List Th → Nat → (Nat → Int) → Int
  | [], _, _ => 0
  | t :: ts, b, a => t.cst b a + Th.csts ts (b + t.sz) a
end
mutual
def Th.cnt : Th → Nat → (Nat → Int) → Int
  | .raw h _ _, b, a => own1 h (a b)
  | .made h _ _ sh u w ps, b, a => cnt1 sh u w (own1 h (a b) + Th.cnts ps (b + 1) a) (a b + Th.csts ps (b + 1) a)
def Th.cnts : List Th → Nat → (Nat → Int) → Int
  | [], _, _ => 0
  | t :: ts, b, a => t.cnt b a + Th.cnts ts (b + t.sz) a
end
def Th.own : Th → Nat → (Nat → Int) → Int
  | .raw h _ _, b, a => own1 h (a b)
  | .made h _ _ _ _ _ ps, b, a => own1 h (a b) + Th.cnts ps (b + 1) a
def Th.parts : Th → List Th
  | .raw _ _ _ => []
  | .made _ _ _ _ _ _ ps => ps
def Th.here : Th → Bool
  | .raw h _ _ => h
  | .made h _ _ _ _ _ _ => h
/-- the things of rows -/
def atR (R : List (Th × List Nat)) (i : Nat) : Th := match R[i]? with
  | some e => e.1
  | none => default
def numsT (t : Th) (b : Nat) : List Nat := nums (b + 1) t.parts
theorem rows_eq (t : Th) (b : Nat) : rows t b = (t, numsT t b) :: rowss t.parts (b + 1) := by
  cases t with
  | raw _ _ _ => rfl
  | made _ _ _ _ _ _ _ => rfl
mutual
theorem seg_of : ∀ (t : Th) (b i : Nat), i < t.sz → ∃ (t' : Th) (rest : List (Th × List Nat)), (rows t b).drop i = rows t' (b + i) ++ rest
  | t, b, 0, _ => ⟨t, [], by simp⟩
  | .raw h lo hi, b, i + 1, hi' => by simp [Th.sz] at hi'
  | .made h lo hi sh u w ps, b, i + 1, hi' => by
    obtain ⟨t', rest, e⟩ := segs_of ps (b + 1) i (by simp only [Th.sz] at hi'; omega)
    refine ⟨t', rest, ?_⟩
    rw [rows, List.drop_succ_cons, e]
    have : b + 1 + i = b + (i + 1) := by omega
    rw [this]
theorem segs_of : ∀ (ts : List Th) (b i : Nat), i < Th.szs ts → ∃ (t' : Th) (rest : List (Th × List Nat)), (rowss ts b).drop i = rows t' (b + i) ++ rest
  | [], b, i, hi => by simp [Th.szs] at hi
  | t :: ts, b, i, hi => by
    by_cases z : i < t.sz
    · obtain ⟨t', rest, e⟩ := seg_of t b i z
      refine ⟨t', rest ++ rowss ts (b + t.sz), ?_⟩
      rw [rowss, List.drop_append_of_le_length (by rw [rows_len]; omega), e, List.append_assoc]
    · obtain ⟨t', rest, e⟩ := segs_of ts (b + t.sz) (i - t.sz) (by simp only [Th.szs] at hi; omega)
      refine ⟨t', rest, ?_⟩
      have e1 : b + t.sz + (i - t.sz) = b + i := by omega
      rw [rowss, List.drop_append, rows_len, List.drop_eq_nil_of_le (by rw [rows_len]; omega), List.nil_append, e, e1]
end
/-- from its place on the rows are those of the thing there -/
theorem seg_at {t : Th} {i : Nat} (h : i < t.sz) : ∃ rest, (rows t 0).drop i = rows (atR (rows t 0) i) i ++ rest := by
  obtain ⟨t', rest, e⟩ := seg_of t 0 i h
  rw [Nat.zero_add] at e
  have e2 : (rows t 0)[i]? = some (t', numsT t' i) := by
    have : ((rows t 0).drop i)[0]? = some (t', numsT t' i) := by rw [e, rows_eq]; rfl
    rwa [List.getElem?_drop, Nat.add_zero] at this
  refine ⟨rest, ?_⟩
  unfold atR
  rw [e2]
  exact e
theorem at_row {t : Th} {i : Nat} (h : i < t.sz) : (rows t 0)[i]? = some (atR (rows t 0) i, numsT (atR (rows t 0) i) i) := by
  obtain ⟨rest, e⟩ := seg_at h
  have : ((rows t 0).drop i)[0]? = some (atR (rows t 0) i, numsT (atR (rows t 0) i) i) := by rw [e, rows_eq]; rfl
  rwa [List.getElem?_drop, Nat.add_zero] at this
end MH
set_option maxHeartbeats 1000000
namespace MH
open PySem PySem.Spec PyProof.Rows L2 DL
end MH
set_option maxHeartbeats 1000000
namespace DL
open PySem PySem.Spec PyProof.Rows L2
section
variable {M : Mem} {Q : QD} {i : Int} {k : Str} {ds : List D} {b : Bool}
theorem w_isi {d : D} {n T : String} {b : Bool} (h1 : tyO M d = some T) (h2 : kitB T n = some b) (h : Q (.bl b) M) : isiC [d, .ty n] M Q := by
  unfold isiC; simp only [h1, h2]; exact h
theorem w_isiII (h : Q (.bl true) M) : isiC [.int i, .ty "int"] M Q := w_isi (T := "int") rfl (by decide +kernel) h
theorem w_isiIB (h : Q (.bl false) M) : isiC [.int i, .ty "bool"] M Q := w_isi (T := "int") rfl (by decide +kernel) h
theorem w_isiIS (h : Q (.bl false) M) : isiC [.int i, .ty "str"] M Q := w_isi (T := "int") rfl (by decide +kernel) h
theorem w_isiIT (h : Q (.bl false) M) : isiC [.int i, .ty "tuple"] M Q := w_isi (T := "int") rfl (by decide +kernel) h
theorem w_isiSI (h : Q (.bl false) M) : isiC [.str k, .ty "int"] M Q := w_isi (T := "str") rfl (by decide +kernel) h
theorem w_isiSB (h : Q (.bl false) M) : isiC [.str k, .ty "bool"] M Q := w_isi (T := "str") rfl (by decide +kernel) h
theorem w_isiSS (h : Q (.bl true) M) : isiC [.str k, .ty "str"] M Q := w_isi (T := "str") rfl (by decide +kernel) h
theorem w_isiST (h : Q (.bl false) M) : isiC [.str k, .ty "tuple"] M Q := w_isi (T := "str") rfl (by decide +kernel) h
theorem w_isiTI (h : Q (.bl false) M) : isiC [.tup ds, .ty "int"] M Q := w_isi (T := "tuple") rfl (by decide +kernel) h
theorem w_isiTB (h : Q (.bl false) M) : isiC [.tup ds, .ty "bool"] M Q := w_isi (T := "tuple") rfl (by decide +kernel) h
theorem w_isiTS (h : Q (.bl false) M) : isiC [.tup ds, .ty "str"] M Q := w_isi (T := "tuple") rfl (by decide +kernel) h
theorem w_isiTT (h : Q (.bl true) M) : isiC [.tup ds, .ty "tuple"] M Q := w_isi (T := "tuple") rfl (by decide +kernel) h
theorem w_isiNI (h : Q (.bl false) M) : isiC [.non, .ty "int"] M Q := w_isi (T := "NoneType") rfl (by decide +kernel) h
theorem w_isiNS (h : Q (.bl false) M) : isiC [.non, .ty "str"] M Q := w_isi (T := "NoneType") rfl (by decide +kernel) h
theorem w_isiNT (h : Q (.bl false) M) : isiC [.non, .ty "tuple"] M Q := w_isi (T := "NoneType") rfl (by decide +kernel) h
theorem w_isiBI (h : Q (.bl true) M) : isiC [.bl b, .ty "int"] M Q := w_isi (T := "bool") rfl (by decide +kernel) h
theorem w_isiBB (h : Q (.bl true) M) : isiC [.bl b, .ty "bool"] M Q := w_isi (T := "bool") rfl (by decide +kernel) h
theorem w_isiLT (h : Q (.bl false) M) : isiC [.lst ds, .ty "tuple"] M Q := w_isi (T := "list") rfl (by decide +kernel) h
theorem w_chd {φ : Prop} [Decidable φ] {o' : O2} {y : D} {tc : TED} {Xd : XD} {s : SD} (h1 : φ → tc Xd s M fun z M1 => o' y z M1 Q) (h2 : ¬ φ → Q (.bl false) M) : chK o' y tc Xd s Q (.bl (decide φ)) M := by
  by_cases z : φ
  · rw [decide_eq_true z]; exact h1 z
  · rw [decide_eq_false z]; exact h2 z
theorem w_chdT {φ : Prop} [Decidable φ] {o' : O2} {y : D} {tc : TED} {Xd : XD} {s : SD} (z : φ) (h1 : tc Xd s M fun z M1 => o' y z M1 Q) : chK o' y tc Xd s Q (.bl (decide φ)) M := by
  rw [decide_eq_true z]; exact h1
theorem w_ifndT {φ : Prop} [Decidable φ] {P U : Prop} (z : φ) (h2 : U) : if (!decide φ) = true then P else U := by
  rw [decide_eq_true z]; exact w_ifF h2
def augY (f : Int → Int → Int) (p : Addr) (z u : Int) (nx : SD → Mem → Prop) (s : SD) : QD := fun y M1 => match y with
  | .int w => setK (.ref p) (.int z) (.int (f u w)) (fun M2 => nx s M2) M1
  | _ => False
theorem w_augY {f : Int → Int → Int} {p : Addr} {z u w : Int} {nx : SD → Mem → Prop} {s : SD} (h : setK (.ref p) (.int z) (.int (f u w)) (fun M2 => nx s M2) M) : augY f p z u nx s (.int w) M := h
theorem w_iZip {te te2 : TED} {Xd : XD} {s : SD} {I : List D → Option Addr → Mem → Prop} (h : dCons te (dCons te2 dNil) Xd s M fun ds M1 => ∃ d e, ds = [d, e] ∧ zipK I d e M1) : iZipD te te2 Xd s M I := h
theorem w_sg2 {d e : D} {J : D → D → Prop} (h : J d e) : ∃ x y, [d, e] = [x, y] ∧ J x y := ⟨d, e, rfl, h⟩
theorem w_zipLL {es : List D} {I : List D → Option Addr → Mem → Prop} (h : I (zpD ds es) none M) : zipK I (.lst ds) (.lst es) M := ⟨ds, es, rfl, rfl, h⟩
theorem w_zipTT {es : List D} {I : List D → Option Addr → Mem → Prop} (h : I (zpD ds es) none M) : zipK I (.tup ds) (.tup es) M := h
end
end DL
set_option maxHeartbeats 1000000
namespace DL
open PySem PySem.Spec PyProof.Rows L2
/-! ### repr of data of a known size -/
theorem ok_mem {x : Str} : PyData.strOk x = true ↔ ∀ c ∈ x.cps.toList, c < 0x110000 := by
  unfold PyData.strOk
  rw [Array.all_eq_true_iff_forall_mem]
  constructor
  · intro h c hc
    have := h c (Array.mem_toList_iff.mp hc)
    simpa using this
  · intro h c hc
    have := h c (Array.mem_toList_iff.mpr hc)
    simpa using this
theorem ok_app {x y : Str} (h : PyData.strOk x = true) (k : PyData.strOk y = true) : PyData.strOk (x ++ y) = true := by
  rw [ok_mem] at *
  intro c hc
  rcases mem_cps_append.mp hc with hc | hc
  · exact h c hc
  · exact k c hc
theorem ok_from : ∀ (ts : List Str) (k : Nat) (acc : Str), PyData.strOk acc = true → (∀ t ∈ ts, PyData.strOk t = true) → PyData.strOk (textFrom k acc ts) = true
  | [], k, acc, h, _ => h
  | t :: ts, k, acc, h, hs => ok_from ts (k + 1) _ (ok_app (ok_app h (by split <;> decide +kernel)) (hs t List.mem_cons_self)) fun x hx => hs x (List.mem_cons_of_mem _ hx)
theorem ok_list {ts : List Str} (hs : ∀ t ∈ ts, PyData.strOk t = true) : PyData.strOk (listText ts) = true := ok_app (ok_from ts 0 _ (by decide +kernel) hs) (by decide +kernel)
theorem ok_join {ts : List Str} (hs : ∀ t ∈ ts, PyData.strOk t = true) : PyData.strOk (Str.join ", " ts) = true := by
  rw [ok_mem]
  intro c hc
  rcases (mem_join _ _ _).mp hc with ⟨t, ht, h⟩ | ⟨_, h⟩
  · exact ok_mem.mp (hs t ht) c h
  · rw [signs_sep] at h
    simp only [List.mem_cons, List.not_mem_nil, or_false] at h
    omega
theorem ok_tuple {ts : List Str} (hs : ∀ t ∈ ts, PyData.strOk t = true) : PyData.strOk (tupleText ts) = true := by
  unfold tupleText
  refine ok_app (ok_app (by decide +kernel) (ok_join hs)) ?_
  split <;> decide +kernel
structure RB (m d : Nat) (p : PyData) : Prop where
  sh : p.showable = true
  len : p.shown.length ≤ m
  dep : p.depth ≤ d
  ok : PyData.strOk p.shown = true
theorem RB.mono {m m' d d' : Nat} {p : PyData} (h : RB m d p) (hm : m ≤ m') (hd : d ≤ d') : RB m' d' p := ⟨h.sh, Nat.le_trans h.len hm, Nat.le_trans h.dep hd, h.ok⟩
theorem rb_int {i : Int} (h : i.natAbs ≤ 2 ^ 64) : RB 66 0 (.int i) := by
  have hl : i.natAbs.log2 < 65 := by
    by_cases z : i.natAbs = 0
    · rw [z]; decide
    · exact (Nat.log2_lt z).mpr (by omega)
  refine ⟨decide_eq_true (by omega), ?_, Nat.le_refl _, ok_mem.mpr fun c hc => ?_⟩
  · show (Str.ofString (toString i)).length ≤ 66
    rw [PySem.ofString_length]; exact int_text_length_le (by decide) hl
  · by_cases z : c < 0x110000
    · exact z
    · exact absurd hc (shown_int_free' (by omega) i)
theorem rb_str {x : Str} {m : Nat} (h : PyData.strOk (reprText x) = true) (hl : (reprText x).length ≤ m) : RB m 0 (.str x) := ⟨rfl, hl, Nat.le_refl _, h⟩
/-- data that can be shown within m signs -/
def RD (m d : Nat) (x : D) : Prop := ∃ p, toPy x = some p ∧ RB m d p
theorem RD.mono {m m' d d' : Nat} {x : D} (h : RD m d x) (hm : m ≤ m') (hd : d ≤ d') : RD m' d' x := by
  obtain ⟨p, h1, h2⟩ := h
  exact ⟨p, h1, h2.mono hm hd⟩
/-- of several, with the sum of their signs -/
structure RBs (m d : Nat) (xs : List PyData) : Prop where
  sh : PyData.showableAll xs = true
  len : ((PyData.shownAll xs).map (·.length)).sum ≤ m
  dep : PyData.depthAll xs ≤ d
  ok : ∀ t ∈ PyData.shownAll xs, PyData.strOk t = true
  n : (PyData.shownAll xs).length = xs.length
theorem rbs_nil {d : Nat} : RBs 0 d [] := ⟨rfl, by simp [PyData.shownAll], Nat.zero_le _, fun t h => by simp [PyData.shownAll] at h, rfl⟩
theorem rbs_cons {m m' d : Nat} {x : PyData} {xs : List PyData} (hx : RB m d x) (h : RBs m' d xs) : RBs (m + m') d (x :: xs) := by
  refine ⟨by simp only [PyData.showableAll, hx.sh, h.sh, Bool.and_self], ?_, ?_, ?_, ?_⟩
  · simp only [PyData.shownAll, List.map_cons, List.sum_cons]
    have := hx.len
    have := h.len
    omega
  · simp only [PyData.depthAll]
    have := hx.dep
    have := h.dep
    omega
  · intro t ht
    simp only [PyData.shownAll, List.mem_cons] at ht
    rcases ht with rfl | ht
    · exact hx.ok
    · exact h.ok t ht
  · simp only [PyData.shownAll, List.length_cons, h.n]
end DL
set_option maxHeartbeats 1000000
namespace MH
open PySem PySem.Spec PyProof.Rows L2 DL
end MH
set_option maxHeartbeats 1000000
namespace DL
open PySem PySem.Spec PyProof.Rows L2
/-! ### one step of a reading each: exceptions -/
section
variable {K : Fg} {C : Addr} {ns : List Str} {ds : List D} {M : Mem} {Q : QD} {Xd : XD} {s : SD} {te : TED} {t : TAD} {tb : TSD} {nx bk ct : SD → Mem → Prop} {rt : QD} {ex : XD} {f : Str} {d : D}
theorem w_isxR {B : Addr} {b : Bool} (Z : ExcC K C) (k : PySem.W.kitOne K (.ref C) (.ref B) = some b) (h : Q (.bl b) M) : isaC K [.exn C ns ds, .ref B] M Q := ⟨Z, b, k, h⟩
theorem w_mk (h : t Xd s M fun ds M1 => Q (.exn C ns ds.reverse) M1) : dMk C ns t Xd s M Q := h
theorem w_mkK {pm : Prm} (h : t Xd s M fun ds M1 => Q (.exn C ns (pm.f ds).reverse) M1) : dMkK C ns pm t Xd s M Q := h
theorem w_mk0 (h : te Xd s M fun _ M1 => Q (.exn C [] []) M1) : dMk0 C te Xd s M Q := h
def fdK (K : Fg) (f : Str) (Q : QD) : QD := fun d M1 => match d with
  | .exn C ns ds => FdOk K C f ∧ ∃ d, (ns.zip ds).lookup f = some d ∧ Q d M1
  | _ => False
theorem w_fd (h : te Xd s M (fdK K f Q)) : dFd K f te Xd s M Q := h
theorem w_fdK (F : FdOk K C f) (hl : (ns.zip ds).lookup f = some d) (h : Q d M) : fdK K f Q (.exn C ns ds) M := ⟨F, d, hl, h⟩
theorem w_raise (h : t ex s M fun ds M1 => ex C ns ds.reverse M1) : sRaise C ns t ⟨nx, rt, bk, ct, ex⟩ s M := h
theorem w_raiseX (h : t (fun _ _ _ _ => False) s M fun ds M1 => ex C ns ds.reverse M1) : sRaiseX C ns t ⟨nx, rt, bk, ct, ex⟩ s M := h
theorem w_try {cl : List ClD} (h : tb ⟨nx, rt, bk, ct, xCl K ⟨nx, rt, bk, ct, ex⟩ s cl⟩ s M) : sTry K tb cl ⟨nx, rt, bk, ct, ex⟩ s M := h
theorem w_callX {sp : SpD} (h : t (fun _ _ _ _ => False) s M fun ds M1 => sp ds M1 Q Xd) : dCallX sp t Xd s M Q := h
theorem w_xclY {cs : List Value} {i : Nat} {ts : TSD} {r : List ClD} (e : PySem.W.exmAny K (.ref C) cs = some true)
    (h : ts ⟨fun s M => nx (s.set i none) M, rt, fun s M => bk (s.set i none) M, fun s M => ct (s.set i none) M, fun _ _ _ _ => False⟩ (s.set i (some (.exn C ns ds))) M) : xCl K ⟨nx, rt, bk, ct, ex⟩ s (⟨cs, some i, ts⟩ :: r) C ns ds M := ⟨true, e, (fun _ => h), fun z => Bool.noConfusion z⟩
theorem exm_list {c : Nat → Addr} {n i : Nat} {tb : Nat → Nat → Bool} {tys : List (String × (Nat → Bool))} {fds : List Str} (F : KitF K c n tb tys fds) (hi : i < n) : ∀ (js : List Nat), (∀ j ∈ js, j < n) → PySem.W.exmAny K (.ref (c i)) (js.map fun j => Value.ref (c j)) = some (js.any (tb i))
  | [], _ => rfl
  | j :: js, h => by
    rw [List.map_cons, List.any_cons]
    unfold PySem.W.exmAny
    rw [F.exm hi (h j List.mem_cons_self), exm_list F hi js fun k hk => h k (List.mem_cons_of_mem _ hk)]
end
/-! ### shown, with dicts -/
def RX (m d : Nat) (x : D) : Prop := ∃ p, toPyX x = some p ∧ RB m d p
theorem RX.mono {m m' d d' : Nat} {x : D} (h : RX m d x) (hm : m ≤ m') (hd : d ≤ d') : RX m' d' x := by
  obtain ⟨p, h1, h2⟩ := h
  exact ⟨p, h1, h2.mono hm hd⟩
theorem rx_int {i : Int} (h : i.natAbs ≤ 2 ^ 64) : RX 66 0 (.int i) := ⟨_, rfl, rb_int h⟩
def rbB (m d : Nat) (p : PyData) : Bool := p.showable && (decide (p.shown.length ≤ m) && (decide (p.depth ≤ d) && PyData.strOk p.shown))
theorem rbB_ok {m d : Nat} {p : PyData} (h : rbB m d p = true) : RB m d p := by
  obtain ⟨h1, h⟩ := He.ba h
  obtain ⟨h2, h⟩ := He.ba h
  obtain ⟨h3, h4⟩ := He.ba h
  exact ⟨h1, of_decide_eq_true h2, of_decide_eq_true h3, h4⟩
def rxB (m d : Nat) (x : D) : Bool := match toPyX x with
  | some p => rbB m d p
  | none => false
theorem rxB_ok {m d : Nat} {x : D} (h : rxB m d x = true) : RX m d x := by
  unfold rxB at h
  cases e : toPyX x with
  | none => rw [e] at h; cases h
  | some p => rw [e] at h; exact ⟨p, e, rbB_ok h⟩
def shX (x : D) : Str := match toPyX x with
  | some p => p.shown
  | none => ""
theorem w_reprX {m n : Nat} {x : D} {M : Mem} {Q : QD} (hr : RX m n x) (hv : vw M x = x) (hm : m ≤ 16777216) (hn : n ≤ 60) (h : Q (.str (shX x)) M) : reprX [x] M Q := by
  obtain ⟨p, h1, h2⟩ := hr
  unfold reprX
  simp only [hv, h1]
  refine ⟨⟨h2.sh, by rw [sizeLine_eq]; exact Nat.le_trans h2.len hm, Nat.le_trans h2.dep hn⟩, ?_⟩
  unfold shX at h
  rw [h1] at h; exact h
theorem shX_ok {m n : Nat} {x : D} (hr : RX m n x) : PyData.strOk (shX x) = true := by
  obtain ⟨p, h1, h2⟩ := hr
  unfold shX
  rw [h1]; exact h2.ok
theorem w_neShX {m n : Nat} {x : D} {M : Mem} {Q : QD} (hr : RX m n x) (h : Q (.bl false) M) : neD (.str (shX x)) (.str (shX x)) M Q := by
  refine w_neS (shX_ok hr) (shX_ok hr) ?_
  rw [decide_eq_true rfl]; exact h
theorem w_inO {x y : D} {b : Bool} {M : Mem} {Q : QD} (e : inO M x y = some b) (h : Q (.bl b) M) : inD x y M Q := by unfold inD; rw [e]; exact h
end DL
namespace DL
end DL
namespace DL
open PySem PySem.Spec PyProof.Rows L2
end DL
set_option maxHeartbeats 1000000
namespace DL
open PySem PySem.Spec PyProof.Rows L2
/-! ### one step of a reading each: own classes, zip, sorted, stars -/
section
variable {K : Fg} {C p a : Addr} {ns fs : List Str} {ds es : List D} {M : Mem} {Q : QD} {Xd : XD} {s : SD} {te te2 to ta tb : TED} {t : TAD} {nx bk ct : SD → Mem → Prop} {rt : QD} {ex : XD} {f : Str} {d e x y : D} {R : List D → Option Addr → Mem → Prop} {i j : Int}
theorem w_at (h : te Xd s M (atK K f Q)) : dAt K f te Xd s M Q := h
theorem w_sAt (h : te ex s M fun d M1 => to ex s M1 fun o M2 => atS K f o d (fun M3 => nx s M3) M2) : sAt K f to te ⟨nx, rt, bk, ct, ex⟩ s M := h
theorem w_gAt {Kx : SD → Mem → Prop} (h : to Xd s M fun o M1 => atS K f o d (fun M2 => Kx s M2) M1) : gAt K f to d Xd s M Kx := h
theorem w_newD {sp : SpD} {dd : List D} (h : t Xd s M fun ds M1 => ∀ p, M1 p = none → sp (.ref p :: (ds ++ dd)) (M1.put p (.ins C [] [])) (fun d M2 => d = .non ∧ Q (.ref p) M2) Xd) : dNewD C sp dd t Xd s M Q := h
theorem w_iZipM (h : dCons te (dCons te2 dNil) Xd s M (zipMK R)) : iZipMD te te2 Xd s M R := h
theorem w_zmLL (h : R (zpD ds es) none M) : zipMK R [.lst ds, .lst es] M := ⟨_, _, rfl, rfl, h⟩
theorem w_zmLT (h : R (zpD ds es) none M) : zipMK R [.lst ds, .tup es] M := ⟨_, _, rfl, rfl, h⟩
theorem w_zmTL (h : R (zpD ds es) none M) : zipMK R [.tup ds, .lst es] M := ⟨_, _, rfl, rfl, h⟩
theorem w_zmTT (h : R (zpD ds es) none M) : zipMK R [.tup ds, .tup es] M := ⟨_, _, rfl, rfl, h⟩
theorem w_iZipO (h : dCons te (dCons te2 dNil) Xd s M (zipOK R)) : iZipOD te te2 Xd s M R := h
theorem w_lstZip (h : dCons te (dCons te2 dNil) Xd s M (zipMK fun l _ M1 => Q (.lst l) M1)) : dLstZip te te2 Xd s M Q := h
theorem w_iRevS (h : te Xd s M (revIK R)) : iRevSD te Xd s M R := h
theorem w_revIL (h : R ds.reverse none M) : revIK R (.lst ds) M := ⟨ds, rfl, h⟩
theorem w_iEZ (h : dCons te (dCons te2 dNil) Xd s M (zipMK fun l _ M1 => R (enmFrom 0 l) none M1)) : iEZD te te2 Xd s M R := h
theorem w_rg2 {F : Int → Int → Mem → Prop} (h : ta Xd s M fun x M1 => tb Xd s M1 (rg2K x F)) : rg2 ta tb Xd s M F := h
theorem w_rg2K {F : Int → Int → Mem → Prop} (h : F i j M) : rg2K (.int i) F (.int j) M := h
theorem w_tupS (h : t Xd s M fun ds M1 => ds.length ≤ sizeLine ∧ Q (.tup ds) M1) : dTupS t Xd s M Q := h
theorem w_star {L : List D → Mem → Prop} (h : te Xd s M (seqK fun ds M1 => t Xd s M1 fun es M2 => L (ds ++ es) M2)) : dStar te t Xd s M L := h
theorem w_seqT {L : List D → Mem → Prop} (h : L ds M) : seqK L (.tup ds) M := h
theorem w_seqL {L : List D → Mem → Prop} (h : L ds M) : seqK L (.lst ds) M := h
theorem w_addRL (hM : M a = some (.lst ds)) (hl : ds.length + es.length ≤ sizeLine) (h : ∀ p, M p = none → Q (.ref p) (M.put p (.lst (ds ++ es)))) : addDO (.ref a) (.lst es) M Q := by
  unfold addDO; simp only [vw, vwO, hM]; exact ⟨hl, h⟩
end
end DL
set_option maxHeartbeats 1000000
namespace MH
open PySem PySem.Spec PyProof.Rows L2 DL
/-! ### what the program keeps of a good: lists by numbers -/
def nI (k : Nat) : D := .int (k : Int)
mutual
def Th.fl : Th → List Th
  | .raw h lo hi => [.raw h lo hi]
  | .made h lo hi sh u w ps => .made h lo hi sh u w ps :: Th.fls ps
def Th.fls : List Th → List Th
  | [] => []
  | t :: ts => t.fl ++ Th.fls ts
end
mutual
def Th.whs : Th → Nat → D → List D
  | .raw _ _ _, _, p => [p]
  | .made _ _ _ _ _ _ ps, k, p => p :: Th.whss ps (k + 1) (nI k)
def Th.whss : List Th → Nat → D → List D
  | [], _, _ => []
  | t :: ts, k, p => t.whs k p ++ Th.whss ts (k + t.sz) p
end
mutual
def Th.mds : Th → Nat → List Nat
  | .raw _ _ _, _ => []
  | .made _ _ _ _ _ _ ps, k => k :: Th.mdss ps (k + 1)
def Th.mdss : List Th → Nat → List Nat
  | [], _ => []
  | t :: ts, k => t.mds k ++ Th.mdss ts (k + t.sz)
end
def mvn1 (lo hi : Int) (k : Nat) : List Nat := if lo < hi then [k] else []
mutual
def Th.mvn : Th → Nat → List Nat
  | .raw _ lo hi, k => mvn1 lo hi k
  | .made _ lo hi _ _ _ ps, k => mvn1 lo hi k ++ Th.mvns ps (k + 1)
def Th.mvns : List Th → Nat → List Nat
  | [], _ => []
  | t :: ts, k => t.mvn k ++ Th.mvns ts (k + t.sz)
end
mutual
theorem fl_len : ∀ t : Th, t.fl.length = t.sz
  | .raw _ _ _ => rfl
  | .made _ _ _ _ _ _ ps => by rw [Th.fl, List.length_cons, fls_len ps, Th.sz]; omega
theorem fls_len : ∀ ts : List Th, (Th.fls ts).length = Th.szs ts
  | [] => rfl
  | t :: ts => by rw [Th.fls, List.length_append, fl_len t, fls_len ts, Th.szs]
end
mutual
theorem mds_len : ∀ (t : Th) (k : Nat), (t.mds k).length = t.st
  | .raw _ _ _, _ => rfl
  | .made _ _ _ _ _ _ ps, k => by rw [Th.mds, List.length_cons, mdss_len ps, Th.st]; omega
theorem mdss_len : ∀ (ts : List Th) (k : Nat), (Th.mdss ts k).length = Th.sts ts
  | [], _ => rfl
  | t :: ts, k => by rw [Th.mdss, List.length_append, mds_len t, mdss_len ts, Th.sts]
end
theorem mvn1_len (lo hi : Int) (k : Nat) : (mvn1 lo hi k).length = mv1 lo hi := by unfold mvn1 mv1; split <;> rfl
mutual
theorem mvn_len : ∀ (t : Th) (k : Nat), (t.mvn k).length = t.mv
  | .raw _ _ _, _ => by rw [Th.mvn, mvn1_len, Th.mv]
  | .made _ _ _ _ _ _ ps, k => by rw [Th.mvn, List.length_append, mvn1_len, mvns_len ps, Th.mv]
theorem mvns_len : ∀ (ts : List Th) (k : Nat), (Th.mvns ts k).length = Th.mvs ts
  | [], _ => rfl
  | t :: ts, k => by rw [Th.mvns, List.length_append, mvn_len t, mvns_len ts, Th.mvs]
end
mutual
theorem whs_len : ∀ (t : Th) (k : Nat) (p : D), (t.whs k p).length = t.sz
  | .raw _ _ _, _, _ => rfl
  | .made _ _ _ _ _ _ ps, k, p => by rw [Th.whs, List.length_cons, whss_len ps, Th.sz]; omega
theorem whss_len : ∀ (ts : List Th) (k : Nat) (p : D), (Th.whss ts k p).length = Th.szs ts
  | [], _, _ => rfl
  | t :: ts, k, p => by rw [Th.whss, List.length_append, whs_len t, whss_len ts, Th.szs]
end
theorem mv1_le (lo hi : Int) : mv1 lo hi ≤ 1 := by unfold mv1; split <;> omega
mutual
theorem mv_le_sz : ∀ t : Th, t.mv ≤ t.sz
  | .raw _ lo hi => by simp only [Th.mv, Th.sz]; exact mv1_le lo hi
  | .made _ lo hi _ _ _ ps => by
    have := mv1_le lo hi
    have := mvs_le_szs ps
    simp only [Th.mv, Th.sz]; omega
theorem mvs_le_szs : ∀ ts : List Th, Th.mvs ts ≤ Th.szs ts
  | [] => Nat.le_refl 0
  | t :: ts => by
    have := mv_le_sz t
    have := mvs_le_szs ts
    simp only [Th.mvs, Th.szs]; omega
end
/-- four lists that are owned -/
structure S4 (M0 : Mem) (f w m v : Addr) (F W : List D) (Dd V : List D) (M : Mem) : Prop where
  hf : M f = some (.lst F)
  hw : M w = some (.lst W)
  hm : M m = some (.lst Dd)
  hv : M v = some (.lst V)
  o : ∀ x, x ≠ f → x ≠ w → x ≠ m → x ≠ v → M x = M0 x
structure Ne4 (f w m v : Addr) : Prop where
  fw : f ≠ w
  fm : f ≠ m
  fv : f ≠ v
  wm : w ≠ m
  wv : w ≠ v
  mv : m ≠ v
section
variable {M0 M : Mem} {f w m v : Addr} {F W Dd V X : List D}
theorem S4.putF (h : S4 M0 f w m v F W Dd V M) (n : Ne4 f w m v) : S4 M0 f w m v X W Dd V (M.put f (.lst X)) :=
  ⟨Mem.put_same, (Mem.put_ne (Ne.symm n.fw)).trans h.hw, (Mem.put_ne (Ne.symm n.fm)).trans h.hm, (Mem.put_ne (Ne.symm n.fv)).trans h.hv, fun x a b c d => (Mem.put_ne a).trans (h.o x a b c d)⟩
theorem S4.putW (h : S4 M0 f w m v F W Dd V M) (n : Ne4 f w m v) : S4 M0 f w m v F X Dd V (M.put w (.lst X)) :=
  ⟨(Mem.put_ne n.fw).trans h.hf, Mem.put_same, (Mem.put_ne (Ne.symm n.wm)).trans h.hm, (Mem.put_ne (Ne.symm n.wv)).trans h.hv, fun x a b c d => (Mem.put_ne b).trans (h.o x a b c d)⟩
theorem S4.putM (h : S4 M0 f w m v F W Dd V M) (n : Ne4 f w m v) : S4 M0 f w m v F W X V (M.put m (.lst X)) :=
  ⟨(Mem.put_ne n.fm).trans h.hf, (Mem.put_ne n.wm).trans h.hw, Mem.put_same, (Mem.put_ne (Ne.symm n.mv)).trans h.hv, fun x a b c d => (Mem.put_ne c).trans (h.o x a b c d)⟩
theorem S4.putV (h : S4 M0 f w m v F W Dd V M) (n : Ne4 f w m v) : S4 M0 f w m v F W Dd X (M.put v (.lst X)) :=
  ⟨(Mem.put_ne n.fv).trans h.hf, (Mem.put_ne n.wv).trans h.hw, (Mem.put_ne n.mv).trans h.hm, Mem.put_same, fun x a b c d => (Mem.put_ne d).trans (h.o x a b c d)⟩
end
end MH
set_option maxHeartbeats 1000000
namespace DL
open PySem PySem.Spec PyProof.Rows L2
/-! ### a comprehension over what is told by a function -/
section
variable {g : TGD} {tt : TTD} {te : TED} {s0 : SD} {W : Mem → Prop} {p : Addr} {Q : QD} {M0 M : Mem} {acc : List D}
theorem w_lcNil (hW : W M) (hM : M p = some (.lst acc)) (h : Q (.lst acc) (M.del p)) : dLcL g tt te s0 W p Q [] M := ⟨hW, by unfold endK; rw [hM]; exact h⟩
theorem w_accK {r : D} {k : Mem → Prop} (hM : M p = some (.lst acc)) (hl : acc.length < sizeLine) (h : k (M.put p (.lst (acc ++ [r])))) : accK p r k M := by
  unfold accK; rw [hM]; exact ⟨hl, h⟩
theorem lc_genF {α : Type} {F h : α → D} {P : α → Bool} (hp : M0 p = none) (hW : ∀ acc, W (M0.put p (.lst acc))) : ∀ (xs : List α) (acc : List D), acc.length + xs.length ≤ sizeLine →
    (∀ x ∈ xs, ∀ (acc : List D) (K1 : QD) (K0 : Mem → Prop), (P x = true → K1 (h x) (M0.put p (.lst acc))) → (P x = false → K0 (M0.put p (.lst acc))) → g (F x) X0 s0 (M0.put p (.lst acc)) fun s' M' => tt X0 s' M' fun b M2 => if b = true then te X0 s' M2 K1 else K0 M2) →
    Q (.lst (acc ++ (xs.filter P).map h)) M0 → dLcL g tt te s0 W p Q (xs.map F) (M0.put p (.lst acc))
  | [], acc, _, _, q => w_lcNil (hW acc) Mem.put_same (by rw [put_del hp]; simpa using q)
  | x :: xs, acc, hl, st, q => by
    rw [List.length_cons] at hl
    refine ⟨hW acc, st x List.mem_cons_self acc _ _ (fun hx => ?_) (fun hx => ?_)⟩
    · refine w_accK Mem.put_same (by omega) ?_
      rw [Mem.put_put]
      refine lc_genF hp hW xs _ (by rw [List.length_append, List.length_singleton]; omega) (fun y hy => st y (List.mem_cons_of_mem _ hy)) ?_
      rw [List.filter_cons_of_pos hx, List.map_cons] at q
      rw [List.append_assoc]; exact q
    · refine lc_genF hp hW xs _ (by omega) (fun y hy => st y (List.mem_cons_of_mem _ hy)) ?_
      rw [List.filter_cons_of_neg (by rw [hx]; exact Bool.false_ne_true)] at q
      exact q
theorem lc_gen {α : Type} {F h : α → D} (hp : M0 p = none) (hW : ∀ acc, W (M0.put p (.lst acc))) (xs : List α) (hl : xs.length ≤ sizeLine)
    (st : ∀ x ∈ xs, ∀ (acc : List D) (K1 : QD), K1 (h x) (M0.put p (.lst acc)) → g (F x) X0 s0 (M0.put p (.lst acc)) fun s' M' => te X0 s' M' K1)
    (q : Q (.lst (xs.map h)) M0) : dLcL g tYesD te s0 W p Q (xs.map F) (M0.put p (.lst [])) := by
  refine lc_genF (P := fun _ => true) (h := h) hp hW xs [] (by simpa using hl) (fun x hx acc K1 K0 h1 _ => ?_) ?_
  · refine (?_ : g (F x) X0 s0 (M0.put p (.lst acc)) fun s' M' => if true = true then te X0 s' M' K1 else K0 M')
    simp only [if_true]
    exact st x hx acc K1 (h1 rfl)
  · rw [List.nil_append, List.filter_eq_self.mpr fun _ _ => rfl]; exact q
end
end DL
set_option maxHeartbeats 1000000
namespace MH
open PySem PySem.Spec PyProof.Rows L2 DL
mutual
theorem fl_rows : ∀ (t : Th) (b : Nat), t.fl = (rows t b).map (·.1)
  | .raw _ _ _, _ => rfl
  | .made _ _ _ _ _ _ ps, b => by rw [Th.fl, rows, List.map_cons, fls_rows ps (b + 1)]
theorem fls_rows : ∀ (ts : List Th) (b : Nat), Th.fls ts = (rowss ts b).map (·.1)
  | [], _ => rfl
  | t :: ts, b => by rw [Th.fls, rowss, List.map_append, fl_rows t b, fls_rows ts (b + t.sz)]
end
/-! ### what has been added up to a number -/
end MH
set_option maxHeartbeats 1000000
namespace MH
open PySem PySem.Spec PyProof.Rows L2 DL
/-! ### a thing, its words being told -/
abbrev TT (t : Th) (j : Nat) : Th := atR (rows t 0) j
theorem fl_at (t : Th) : t.fl = (List.range t.sz).map fun j => TT t j := by
  rw [fl_rows t 0]
  apply List.ext_getElem?
  intro i
  by_cases hi : i < t.sz
  · rw [List.getElem?_map, at_row hi, List.getElem?_map, List.getElem?_range hi]; rfl
  · rw [List.getElem?_eq_none (by rw [List.length_map, rows_len]; omega), List.getElem?_eq_none (by rw [List.length_map, List.length_range]; omega)]
def Th.up : Th → Bool
  | .raw _ _ _ => false
  | .made _ _ _ _ u _ _ => u
/-! ### sums over the parts, from a number on -/
/-! ### linear -/
/-! ### just the words that are there fit -/
theorem down {P : Nat → Prop} {n : Nat} (h : ∀ j, j < n → (∀ i, j < i → i < n → P i) → P j) : ∀ j, j < n → P j := by
  have key : ∀ m j, j < n → n ≤ j + m → P j := by
    intro m
    induction m with
    | zero => intro j h1 h2; omega
    | succ m ih => exact fun j h1 h2 => h j h1 fun i h3 h4 => ih i h4 (by omega)
  exact fun j hj => key n j hj (by omega)
end MH
set_option maxHeartbeats 4000000
namespace G_madeofhere_k02_whole_goods_judged
open PySem PySem.Spec PyProof.Rows L2 DL MH
local macro_rules | `(tactic| fail) => `(tactic| first | with_reducible refine w_seq ?_ | with_reducible refine w_nx ?_ | with_reducible refine w_ret ?_ | with_reducible refine w_retN ?_ | with_reducible refine w_expr ?_ | with_reducible refine w_ifS ?_ | with_reducible refine w_asg ?_ | with_reducible refine w_augS ?_ | with_reducible refine w_for ?_ | with_reducible refine w_bk ?_ | with_reducible refine w_ct ?_ | with_reducible refine w_set0 ?_ | with_reducible refine w_set1 ?_ | with_reducible refine w_set2 ?_ | with_reducible refine w_set3 ?_ | with_reducible refine w_set4 ?_ | with_reducible refine w_set5 ?_ | with_reducible refine w_set6 ?_ | with_reducible refine w_set7 ?_ | with_reducible refine w_set8 ?_ | with_reducible refine w_set9 ?_ | with_reducible refine w_set10 ?_ | with_reducible refine w_set11 ?_ | with_reducible refine w_set12 ?_ | with_reducible refine w_set13 ?_ | with_reducible refine w_set14 ?_ | with_reducible refine w_set15 ?_ | with_reducible refine w_set16 ?_ | with_reducible refine w_set17 ?_ | with_reducible refine w_set18 ?_ | with_reducible refine w_set19 ?_ | with_reducible refine w_var0 ?_ | with_reducible refine w_var1 ?_ | with_reducible refine w_var2 ?_ | with_reducible refine w_var3 ?_ | with_reducible refine w_var4 ?_ | with_reducible refine w_var5 ?_ | with_reducible refine w_var6 ?_ | with_reducible refine w_var7 ?_ | with_reducible refine w_var8 ?_ | with_reducible refine w_var9 ?_ | with_reducible refine w_var10 ?_ | with_reducible refine w_var11 ?_ | with_reducible refine w_var12 ?_ | with_reducible refine w_var13 ?_ | with_reducible refine w_var14 ?_ | with_reducible refine w_var15 ?_ | with_reducible refine w_var16 ?_ | with_reducible refine w_var17 ?_ | with_reducible refine w_var18 ?_ | with_reducible refine w_var19 ?_ | with_reducible refine w_gnm0 ?_ | with_reducible refine w_gnm1 ?_ | with_reducible refine w_gnm2 ?_ | with_reducible refine w_gnm3 ?_ | with_reducible refine w_gnm4 ?_ | with_reducible refine w_gnm5 ?_ | with_reducible refine w_gnm6 ?_ | with_reducible refine w_gnm7 ?_ | with_reducible refine w_gnm8 ?_ | with_reducible refine w_gnm9 ?_ | with_reducible refine w_gnm10 ?_ | with_reducible refine w_gnm11 ?_ | with_reducible refine w_gnm12 ?_ | with_reducible refine w_gnm13 ?_ | with_reducible refine w_gnm14 ?_ | with_reducible refine w_gnm15 ?_ | with_reducible refine w_gnm16 ?_ | with_reducible refine w_gnm17 ?_ | with_reducible refine w_gnm18 ?_ | with_reducible refine w_gnm19 ?_ | with_reducible refine w_mk ?_ | with_reducible refine w_mkK ?_ | with_reducible refine w_mk0 ?_ | with_reducible refine w_fd ?_ | with_reducible refine w_raise ?_ | with_reducible refine w_raiseX ?_ | with_reducible refine w_try ?_ | with_reducible refine w_callX ?_ | with_reducible refine w_fzN ?_ | with_reducible refine w_gTp rfl ?_ | with_reducible refine w_gCo ?_ | with_reducible refine w_gNi ?_ | with_reducible refine w_gSb ?_ | with_reducible refine w_c ?_ | with_reducible refine w_op ?_ | with_reducible refine w_nil ?_ | with_reducible refine w_cons ?_ | with_reducible refine w_tup ?_ | with_reducible refine w_lst ?_ | with_reducible refine w_cb ?_ | with_reducible refine w_call ?_ | with_reducible refine w_ite ?_ | with_reducible refine w_and ?_ | with_reducible refine w_or ?_ | with_reducible refine w_not ?_ | with_reducible refine w_andT ?_ | with_reducible refine w_andF ?_ | with_reducible refine w_orT ?_ | with_reducible refine w_orF ?_ | with_reducible refine w_neg ?_ | with_reducible refine w_un ?_ | with_reducible refine w_tst ?_ | with_reducible refine w_tstB ?_ | with_reducible refine w_tru ?_ | with_reducible refine w_truB ?_ | with_reducible refine w_tAnd ?_ | with_reducible refine w_tOr ?_ | with_reducible refine w_tNot ?_ | with_reducible refine w_chain ?_ | with_reducible refine w_chT ?_ | with_reducible refine w_chF ?_ | with_reducible refine w_ifT ?_ | with_reducible refine w_ifF ?_ | with_reducible refine w_ifnT ?_ | with_reducible refine w_ifnF ?_ | with_reducible refine w_rvs ?_ | with_reducible refine w_yes ?_ | with_reducible refine w_iZip ?_ | with_reducible refine w_sg2 ?_ | with_reducible refine w_zipLL ?_ | with_reducible refine w_zipTT ?_ | with_reducible refine w_augY ?_ | with_reducible refine w_isiII ?_ | with_reducible refine w_isiIB ?_ | with_reducible refine w_isiSS ?_ | with_reducible refine w_isiTT ?_ | with_reducible refine w_isiIT ?_ | with_reducible refine w_isiIS ?_ | with_reducible refine w_isiSI ?_ | with_reducible refine w_isiSB ?_ | with_reducible refine w_isiST ?_ | with_reducible refine w_isiTI ?_ | with_reducible refine w_isiTB ?_ | with_reducible refine w_isiTS ?_ | with_reducible refine w_isiNI ?_ | with_reducible refine w_isiNS ?_ | with_reducible refine w_isiNT ?_ | with_reducible refine w_isiBI ?_ | with_reducible refine w_isiBB ?_ | with_reducible refine w_isiLT ?_ | with_reducible refine w_dRev ?_ | with_reducible refine w_revK ?_ | with_reducible refine w_lstRg ?_ | with_reducible refine w_par ?_ | with_reducible refine w_parK (by dsimp only [List.set] <;> rfl) ?_ | with_reducible refine w_sl ?_ | with_reducible refine w_slT ?_ | with_reducible refine w_slL ?_ | with_reducible refine w_oNo ?_ | with_reducible refine w_oSo ?_ | with_reducible refine w_oSoK ?_ | with_reducible refine w_prN ?_ | with_reducible refine w_prC ?_ | with_reducible refine w_addI ?_ | with_reducible refine w_subI ?_ | with_reducible refine w_lt ?_ | with_reducible refine w_le ?_ | with_reducible refine w_gt ?_ | with_reducible refine w_ge ?_ | with_reducible refine w_isN ?_ | with_reducible refine w_isnN ?_ | with_reducible refine w_eqI ?_ | with_reducible refine w_neI ?_ | with_reducible refine w_ixT0 ?_ | with_reducible refine w_ixT1 ?_ | with_reducible refine w_ixT2 ?_ | with_reducible refine w_ixT3 ?_ | with_reducible refine w_ixT4 ?_ | with_reducible refine w_ixT5 ?_ | with_reducible refine w_lenL ?_ | with_reducible refine w_lenT ?_ | with_reducible refine w_int ?_ | with_reducible refine w_intB ?_ | with_reducible refine w_abs ?_ | with_reducible refine w_listL ?_ | with_reducible refine w_listT ?_ | with_reducible refine w_tupL ?_ | with_reducible refine w_tupT ?_ | with_reducible refine w_int2 ?_ | with_reducible refine w_gcd ?_ | with_reducible refine w_app ?_ | with_reducible refine w_iSeq ?_ | with_reducible refine w_itemT ?_ | with_reducible refine w_itemL ?_ | with_reducible refine w_iRng ?_ | with_reducible refine w_iEnm ?_ | with_reducible refine w_sg1 ?_ | with_reducible refine w_iRev ?_ | with_reducible refine w_rg1 ?_ | with_reducible refine w_rg1K ?_ | with_reducible refine w_notB ?_ | with_reducible refine w_at ?_ | with_reducible refine w_sAt ?_ | with_reducible refine w_gAt ?_ | with_reducible refine w_newD ?_ | with_reducible refine w_iZipM ?_ | with_reducible refine w_zmLL ?_ | with_reducible refine w_zmLT ?_ | with_reducible refine w_zmTL ?_ | with_reducible refine w_zmTT ?_ | with_reducible refine w_iZipO ?_ | with_reducible refine w_lstZip ?_ | with_reducible refine w_iRevS ?_ | with_reducible refine w_revIL ?_ | with_reducible refine w_iEZ ?_ | with_reducible refine w_rg2 ?_ | with_reducible refine w_rg2K ?_ | with_reducible refine w_tupS ?_ | with_reducible refine w_revT ?_ | with_reducible refine w_revTK ?_ | with_reducible refine w_star ?_ | with_reducible refine w_seqT ?_ | with_reducible refine w_seqL ?_)
section
variable {K : Fg} {c : Nat → Addr}
def mK : List Key := [.inr "cells", .inr "left", .inr "spot"]
def mV (cells : List Int) (left spot : Int) : List D := [.lst (cells.map D.int), .int left, .int spot]
theorem vl_l (c : List Int) (l s : Int) : valD mK (mV c l s) (.inr "left") = some (.int l) := by rfl
theorem vl_s (c : List Int) (l s : Int) : valD mK (mV c l s) (.inr "spot") = some (.int s) := by rfl
theorem vl_c (c : List Int) (l s : Int) : valD mK (mV c l s) (.inr "cells") = some (.lst (c.map D.int)) := by rfl
theorem pt_l (c : List Int) (l s l' : Int) : putD mK (mV c l s) (.inr "left") (.int l') = (mK, mV c l' s) := by rfl
theorem pt_s (c : List Int) (l s s' : Int) : putD mK (mV c l s) (.inr "spot") (.int s') = (mK, mV c l s') := by rfl
theorem mK_nd : mK.Nodup := by decide
theorem ix_d {M : Mem} {a : Addr} {ks : List Key} {ds : List D} {x : Str} {Q : QD} (h : M a = some (.dct ks ds)) : ixD (.ref a) (.str x) M Q = match valD ks ds (.inr x) with | some d => Q d M | none => False := by
  simp only [ixD, ixO, vw, vwO, h, DL.keyD]
  all_goals (cases valD ks ds (.inr x) <;> rfl)
theorem set_d {M : Mem} {a : Addr} {ks : List Key} {ds : List D} {x : Str} {v : D} {k : Mem → Prop} (h : M a = some (.dct ks ds)) : setK (.ref a) (.str x) v k M = ((ks.Nodup ∧ ks.length < 1000) ∧ k (M.put a (.dct (putD ks ds (.inr x) v).1 (putD ks ds (.inr x) v).2))) := by
  simp [setK, h, DL.keyD]
theorem put_at {M : Mem} {a : Addr} {o : MO} : (M.put a o) a = some o := Mem.put_same
theorem mod_i {i j : Int} {M : Mem} {Q : QD} : modD (.int i) (.int j) M Q = (0 < j ∧ Q (.int (i % j)) M) := rfl
theorem fdiv_i {i j : Int} {M : Mem} {Q : QD} : fdivD (.int i) (.int j) M Q = (CDivW i j ∧ Q (.int (i / j)) M) := rfl
theorem mul_i {i j : Int} {M : Mem} {Q : QD} : mulD (.int i) (.int j) M Q = (CMulW i j ∧ Q (.int (i * j)) M) := rfl
theorem add_i {i j : Int} {M : Mem} {Q : QD} : addD (.int i) (.int j) M Q = Q (.int (i + j)) M := rfl
theorem int_i {i : Int} {M : Mem} {Q : QD} : intC [.int i] M Q = Q (.int i) M := rfl
theorem gt_i {i j : Int} {M : Mem} {Q : QD} : gtD (.int i) (.int j) M Q = Q (.bl (decide (i > j))) M := rfl
theorem len_l {ds : List D} {M : Mem} {Q : QD} : lenC [.lst ds] M Q = Q (.int ds.length) M := rfl
theorem ix_l {ns : List Int} {j : Int} {M : Mem} {Q : QD} (h0 : 0 ≤ j) (h1 : j < ns.length) : ixD (.lst (ns.map D.int)) (.int j) M Q = Q (.int (ns[j.toNat]'(by omega))) M := by
  have e : atI (ns.map D.int) j = some (.int (ns[j.toNat]'(by omega))) := by
    have z := atI_nat (xs := ns.map D.int) (j := j.toNat) (v := .int (ns[j.toNat]'(by omega))) (by rw [List.getElem?_map, List.getElem?_eq_getElem (by omega)]; rfl)
    rwa [Int.toNat_of_nonneg h0] at z
  simp only [ixD, ixO, vw, e]
theorem divW {i j : Int} (h : 0 < j) (h2 : j < 2 ^ 60) : CDivW i j := ⟨h, by
  have : j.natAbs.log2 < 60 := (Nat.log2_lt (by omega)).mpr (by omega)
  omega⟩
theorem mulW {i j : Int} (h : i.natAbs < 2 ^ 200) (h2 : j.natAbs < 2 ^ 200) : CMulW i j := by
  unfold CMulW
  have a : ∀ n : Nat, n < 2 ^ 200 → n.log2 ≤ 200 := fun n hn => by
    by_cases z : n = 0
    · subst z; decide
    · exact Nat.le_of_lt ((Nat.log2_lt z).mpr hn)
  have := a _ h
  have := a _ h2
  omega
theorem draw_ok (a : Addr) (M : Mem) (cells : List Int) (left spot limit : Int) (hc : cells ≠ []) (hl : 0 < limit) (hl2 : limit < 2 ^ 60) (hs : 0 ≤ spot) (hs2 : spot < 2 ^ 60) (hM : M a = some (.dct mK (mV cells left spot))) (Q : QD) (Xd : XD)
    (h : ∀ r l' s' : Int, 0 ≤ r → r < limit → spot ≤ s' → s' ≤ spot + 1 → Q (.int r) (M.put a (.dct mK (mV cells l' s')))) : W_law_draw K c [.ref a, .int limit] M Q Xd := by
  unfold W_law_draw bodyD B_law_draw
  simp only [sSeq, sIf, dTst, dOp, dVar, dC, startD, N__law_draw, List.map, List.length, List.replicate, List.getElem?_cons_zero, List.getElem?_cons_succ, List.cons_append, List.nil_append, sNx, sSet, sAsg, sRet, gSb, dCB, dCons, dNil, List.set,
    ix_d hM, vl_l, vl_s, vl_c, gt_i, tstB, int_i, mod_i, fdiv_i, set_d hM, pt_l, pt_s]
  by_cases z : left > 0
  · rw [decide_eq_true z, if_pos rfl]
    refine ⟨hl, divW hl hl2, ⟨mK_nd, by decide⟩, lo_same (h _ _ _ (Int.emod_nonneg _ (by omega)) (Int.emod_lt_of_pos _ hl) (Int.le_refl _) (by omega))⟩
  · rw [decide_eq_false z, if_neg Bool.false_ne_true]
    have hlen : 0 < cells.length := List.length_pos_iff.mpr hc
    have j0 : 0 ≤ (spot + 1) % (cells.length : Int) := Int.emod_nonneg _ (by omega)
    have j1 : (spot + 1) % (cells.length : Int) < cells.length := Int.emod_lt_of_pos _ (by omega)
    simp only [add_i, set_d hM, pt_s, ix_d put_at, vl_c, int_i, len_l, mod_i, List.length_map, ix_l j0 j1, mul_i, fdiv_i]
    generalize cells[((spot + 1) % (cells.length : Int)).toNat]'(by omega) = c
    have b1 : 0 ≤ c % 2147483629 := Int.emod_nonneg _ (by decide)
    have b2 : c % 2147483629 < 2147483629 := Int.emod_lt_of_pos _ (by decide)
    generalize c % 2147483629 = c1 at b1 b2
    have e0 : 23 * (spot + 1) * (spot + 1) = 23 * ((spot + 1) * (spot + 1)) := Int.mul_assoc _ _ _
    have q0 : 0 ≤ (spot + 1) * (spot + 1) := Int.mul_nonneg (by omega) (by omega)
    have q1 : (spot + 1) * (spot + 1) ≤ 2 ^ 60 * 2 ^ 60 := Int.mul_le_mul (by omega) (by omega) (by omega) (by decide)
    rw [e0]
    generalize (spot + 1) * (spot + 1) = sq at q0 q1
    have r1 : 0 ≤ (c1 + 6133 * (spot + 1) + 23 * sq) * 48271 % 2147483647 := Int.emod_nonneg _ (by decide)
    have r2 : (c1 + 6133 * (spot + 1) + 23 * sq) * 48271 % 2147483647 < 2147483647 := Int.emod_lt_of_pos _ (by decide)
    refine ⟨⟨mK_nd, by decide⟩, by omega, by decide, mulW (by omega) (by omega), mulW (by omega) (by omega), mulW (by omega) (by omega), mulW (by omega) (by omega), by decide, mulW (by omega) (by omega), mulW (by omega) (by omega), by decide, divW (by decide) (by decide), hl,
      lo_same (h _ _ _ (Int.emod_nonneg _ (by omega)) (Int.emod_lt_of_pos _ hl) (by omega) (by omega))⟩
/-- the state of the draws stands, its counter not far -/
def Dr (a : Addr) (cells : List Int) (b : Int) (M : Mem) : Prop := ∃ l s : Int, M a = some (.dct mK (mV cells l s)) ∧ 0 ≤ s ∧ s ≤ b
/-- all but the state of the draws stays -/
def Sm (a : Addr) (M M' : Mem) : Prop := ∀ b, b ≠ a → M' b = M b
theorem Sm.refl {a : Addr} {M : Mem} : Sm a M M := fun _ _ => rfl
theorem Sm.trans {a : Addr} {M M1 M2 : Mem} (h : Sm a M M1) (k : Sm a M1 M2) : Sm a M M2 := fun b z => (k b z).trans (h b z)
theorem draw_k {a : Addr} {M : Mem} {cells : List Int} {b limit : Int} (hc : cells ≠ []) (hl : 0 < limit) (hl2 : limit < 2 ^ 60) (hb : b < 2 ^ 50) (hM : Dr a cells b M) {Q : QD} {Xd : XD}
    (h : ∀ (r : Int) (M' : Mem), 0 ≤ r → r < limit → Dr a cells (b + 1) M' → Sm a M M' → Q (.int r) M') : W_law_draw K c [.ref a, .int limit] M Q Xd := by
  obtain ⟨l, s, h1, h2, h3⟩ := hM
  exact draw_ok a M cells l s limit hc hl hl2 h2 (by omega) h1 Q Xd fun r l' s' r0 r1 s0 s1 => h r _ r0 r1 ⟨l', s', Mem.put_same, by omega, by omega⟩ fun b z => Mem.put_ne z
theorem atI_mem {ds : List D} {i : Int} (h0 : 0 ≤ i) (h1 : i < ds.length) : ∃ d, atI ds i = some d ∧ d ∈ ds := by
  have hi : i.toNat < ds.length := by omega
  have z := atI_nat (xs := ds) (j := i.toNat) (v := ds[i.toNat]) (List.getElem?_eq_getElem hi)
  rw [Int.toNat_of_nonneg h0] at z
  exact ⟨_, z, List.getElem_mem hi⟩
theorem of_k {a : Addr} {M : Mem} {cells : List Int} {b : Int} {ds : List D} (hc : cells ≠ []) (hb : b < 2 ^ 50) (hd : 0 < ds.length) (hd2 : ds.length < 2 ^ 24) (hM : Dr a cells b M) {Q : QD} {Xd : XD}
    (h : ∀ (d : D) (M' : Mem), d ∈ ds → Dr a cells (b + 1) M' → Sm a M M' → Q d M') : W_law_of K c [.ref a, .lst ds] M Q Xd := by
  refine E_law_of ?_
  repeat fail
  refine draw_k hc (by omega) (by omega) hb hM fun r M' r0 r1 hD hS => ?_
  obtain ⟨d, e, hm⟩ := atI_mem r0 r1
  exact w_ixL e (lo_same (h d M' hm hD hS))
theorem Dr.le {a : Addr} {cells : List Int} {b c : Int} {M : Mem} (h : Dr a cells b M) (k : b ≤ c) : Dr a cells c M := by
  obtain ⟨l, s, h1, h2, h3⟩ := h
  exact ⟨l, s, h1, h2, by omega⟩
theorem w_itemF {ds : List D} {M : Mem} {I : List D → Option Addr → Mem → Prop} (h : I ds none M) : itemK I (.fzn ds) M := h
theorem w_lenF {ds : List D} {M : Mem} {Q : QD} (h : Q (.int ds.length) M) : lenC [.fzn ds] M Q := h
theorem w_listF {ds : List D} {M : Mem} {Q : QD} (h : Q (.lst ds) M) : listC [.fzn ds] M Q := h
theorem toPys_ints : ∀ ns : List Int, toPys (ns.map D.int) = some (ns.map PyData.int)
  | [] => rfl
  | n :: ns => by rw [List.map_cons, toPys, toPys_ints ns]; rfl
theorem lay_ints : ∀ ns : List Int, PyData.canLayAll0 (ns.map PyData.int) = true ∧ PyData.depthAll (ns.map PyData.int) = 0
  | [] => ⟨rfl, rfl⟩
  | n :: ns => by
    obtain ⟨h1, h2⟩ := lay_ints ns
    refine ⟨by rw [List.map_cons]; simp only [PyData.canLayAll0, PyData.canLay0, h1, Bool.and_self], by rw [List.map_cons]; simp only [PyData.depthAll, PyData.depth, h2]; rfl⟩
theorem eq_nil (ns : List Int) : eqO (.lst (ns.map D.int)) (.lst []) = some (decide (ns = [])) := by
  have e : toPy (.lst (ns.map D.int)) = some (.list (ns.map PyData.int)) := by rw [toPy, toPys_ints]; rfl
  have e0 : toPy (.lst []) = some (.list []) := rfl
  obtain ⟨h1, h2⟩ := lay_ints ns
  have s1 : SeqAt.shaped (.list (ns.map PyData.int)) = true := by
    unfold SeqAt.shaped
    simp only [PyData.canLay0, h1, PyData.depth, h2]; rfl
  have s2 : SeqAt.shaped (.list []) = true := rfl
  unfold eqO
  simp only [e, e0, s1, s2, and_self, if_true]
  cases ns with
  | nil => rfl
  | cons n ns => rfl
def greatD : D → Option D
  | .int i => if (10 : Int) ^ 18 ≤ i then some (.int i) else none
  | _ => none
end
set_option maxHeartbeats 4000000
section
variable {K : Fg} {c : Nat → Addr}
theorem rule_k {sh : Int} {u w : Bool} {M : Mem} {Q : QD} {Xd : XD} (h0 : 0 ≤ sh ∧ sh ≤ 100) (h : Q (.bl true) M) : Wis_rule K c [termD sh u w] M Q Xd := by
  refine Eis_rule ?_
  unfold termD
  repeat fail
  refine w_ifF ?_
  repeat fail
  refine w_chdT h0.1 ?_
  repeat fail
  refine w_ifndT h0.2 ?_
  repeat fail
  cases u <;> cases w
  all_goals
    repeat fail
    refine w_eqS (by decide +kernel) (by decide +kernel) ?_
    first
    | rw [show decide (upS true = (Str.ofString "whole")) = true from by decide +kernel]
    | rw [show decide (upS false = (Str.ofString "whole")) = false from by decide +kernel]
    repeat fail
    try
      refine w_eqS (by decide +kernel) (by decide +kernel) ?_
      rw [show decide (upS false = (Str.ofString "own")) = true from by decide +kernel]
      repeat fail
    refine w_eqS (by decide +kernel) (by decide +kernel) ?_
    first
    | rw [show decide (dnS true = (Str.ofString "own")) = true from by decide +kernel]
    | rw [show decide (dnS false = (Str.ofString "own")) = false from by decide +kernel]
    repeat fail
    try
      refine w_eqS (by decide +kernel) (by decide +kernel) ?_
      rw [show decide (dnS false = (Str.ofString "none")) = true from by decide +kernel]
      repeat fail
    exact lo_same h
end
set_option maxHeartbeats 4000000
section
variable {K : Fg} {c : Nat → Addr}
theorem bounds_k {n : D} {hr : Bool} {lo hi : Int} {M : Mem} {Q : QD} {Xd : XD} (h0 : bnd lo hi) (h : Q .non M) : W_need_bounds K c [n, landD hr, .int lo, .int hi] M Q Xd := by
  obtain ⟨b1, b2, b3⟩ := h0
  refine E_need_bounds ?_
  refine w_join (P := fun M1 => M1 = M) (fun M1 e => ?_) fun join => ?_
  · subst e
    repeat fail
    refine w_chdT b1 ?_
    repeat fail
    refine w_ifndT (by omega) ?_
    repeat fail
    refine w_chdT b2 ?_
    repeat fail
    refine w_ifndT b3 ?_
    repeat fail
    exact lo_same h
  · unfold landD
    repeat fail
    cases hr
    · refine w_neS (by decide +kernel) (by decide +kernel) ?_
      rw [show decide (landS false = (Str.ofString "here")) = false from by decide +kernel]
      repeat fail
      refine w_neS (by decide +kernel) (by decide +kernel) ?_
      rw [show decide (landS false = (Str.ofString "away")) = true from by decide +kernel]
      repeat fail
      exact join M rfl
    · refine w_neS (by decide +kernel) (by decide +kernel) ?_
      rw [show decide (landS true = (Str.ofString "here")) = true from by decide +kernel]
      repeat fail
      exact join M rfl
theorem making_k {n : D} {sh : Int} {u w : Bool} {ps : List Th} {M : Mem} {Q : QD} {Xd : XD} (h0 : 0 ≤ sh ∧ sh ≤ 100) (h1 : 1 ≤ ps.length ∧ ps.length ≤ 4) (h : Q .non M) : W_need_making K c [n, termD sh u w, .tup (Th.ds ps)] M Q Xd := by
  refine E_need_making ?_
  repeat fail
  refine rule_k h0 ?_
  repeat fail
  have e : (Th.ds ps).length = ps.length := by rw [ds_map, List.length_map]
  refine w_chdT (by rw [e]; omega) ?_
  repeat fail
  refine w_ifndT (by rw [e]; omega) ?_
  repeat fail
  exact lo_same h
def LookOk (K : Fg) (c : Nat → Addr) (n : Nat) : Prop := ∀ (t : Th) (par : D) (f w m v : Addr) (F W : List D) (Dd V : List Nat) (M0 M : Mem) (Q : QD) (Xd : XD), Ne4 f w m v → t.ok → t.st + 1 ≤ n → F.length + t.sz ≤ 10 → W.length ≤ 10 → W.length = F.length → V.length ≤ F.length → Dd.length + t.st ≤ 4 → S4 M0 f w m v F W (Dd.map nI) (V.map nI) M →
  (∀ M', S4 M0 f w m v (F ++ Th.ds t.fl) (W ++ t.whs F.length par) ((Dd ++ t.mds F.length).map nI) ((V ++ t.mvn F.length).map nI) M' → Q .non M') → W_look_at K c n [t.d, par, .ref f, .ref w, .ref m, .ref v] M Q Xd
theorem look_loop {n : Nat} (ih : LookOk K c n) {f w m v : Addr} (ne : Ne4 f w m v) {M0 : Mem} {nx bk ct : SD → Mem → Prop} {rt : QD} {Xd : XD} {Wt : Mem → Prop} (hW : ∀ M, Wt M) {k : Nat} {d0 d1 x7 x8 x9 x10 x11 x12 x13 x14 : Option D} :
    ∀ (ts : List Th) (F W : List D) (Dd V : List Nat) (M : Mem) (o : Option D), Th.oks ts → Th.sts ts + 1 ≤ n → F.length + Th.szs ts ≤ 10 → W.length = F.length → V.length ≤ F.length → Dd.length + Th.sts ts ≤ 4 → S4 M0 f w m v F W (Dd.map nI) (V.map nI) M →
      (∀ M' o, S4 M0 f w m v (F ++ Th.ds (Th.fls ts)) (W ++ Th.whss ts F.length (nI k)) ((Dd ++ Th.mdss ts F.length).map nI) ((V ++ Th.mvns ts F.length).map nI) M' → nx [d0, d1, some (.ref f), some (.ref w), some (.ref m), some (.ref v), some (.int (k : Int)), x7, x8, x9, x10, x11, x12, x13, x14, o] M') →
      sForL (gNm 15) (sExpr (dCall (W_look_at K c n) [] (dCons (dVar 15) (dCons (dVar 6) (dCons (dVar 2) (dCons (dVar 3) (dCons (dVar 4) (dCons (dVar 5) (dNil))))))))) ⟨nx, rt, bk, ct, Xd⟩ Wt (Th.ds ts) [d0, d1, some (.ref f), some (.ref w), some (.ref m), some (.ref v), some (.int (k : Int)), x7, x8, x9, x10, x11, x12, x13, x14, o] M
  | [], F, W, Dd, V, M, o, h1, h2, h3, h4, h4', h5, h6, h => w_forNil (hW _) (h M o (by simpa [Th.ds, Th.fls, Th.whss, Th.mdss, Th.mvns] using h6))
  | t :: ts, F, W, Dd, V, M, o, h1, h2, h3, h4, h4', h5, h6, h => by
    simp only [Th.sts, Th.szs] at h2 h3 h5
    have := sz_pos t
    refine w_forCons (hW _) ?_
    repeat fail
    refine ih t (nI k) f w m v F W Dd V M0 M _ _ ne h1.1 (by omega) (by omega) (by omega) h4 h4' (by omega) h6 fun M' h7 => ?_
    have hm := mv_le_sz t
    refine look_loop ih ne hW ts _ _ _ _ M' _ h1.2 (by omega) (by rw [List.length_append, ds_map, List.length_map, fl_len]; omega) (by rw [List.length_append, List.length_append, whs_len, ds_map, List.length_map, fl_len, h4]) (by rw [List.length_append, List.length_append, mvn_len, ds_map, List.length_map, fl_len]; omega) (by rw [List.length_append, mds_len]; omega) h7 fun M2 o h8 => h M2 o ?_
    have e : (F ++ Th.ds t.fl).length = F.length + t.sz := by rw [List.length_append, ds_map, List.length_map, fl_len]
    rw [e] at h8
    simp only [Th.fls, Th.whss, Th.mdss, Th.mvns, ds_app]
    simp only [List.append_assoc] at h8
    exact h8
theorem look_k : ∀ n : Nat, LookOk K c n
  | 0 => fun _ _ _ _ _ _ _ _ _ _ _ _ _ _ _ _ h _ _ _ _ _ _ => by omega
  | n + 1 => fun t par f w m v F W Dd V M0 M Q Xd ne hok hn hF hW0 hWF hVF hD hS h => by
    refine E_look_at ?_
    cases t with
    | raw hr lo hi =>
      simp only [Th.sz, Th.st] at hF hD hn
      rw [Th.d]
      repeat fail
      refine w_lenR hS.hf ?_
      repeat fail
      refine w_ifT ?_
      repeat fail
      refine w_eqS (by decide +kernel) (by decide +kernel) ?_
      rw [show decide ((Str.ofString "raw") = (Str.ofString "made")) = false from by decide +kernel]
      repeat fail
      refine w_ifdF (by omega) ?_
      repeat fail
      refine w_lenR hS.hm ?_
      repeat fail
      refine w_ifdF (by rw [List.length_map]; omega) ?_
      repeat fail
      refine w_eqS (by decide +kernel) (by decide +kernel) ?_
      rw [show decide ((Str.ofString "raw") = (Str.ofString "raw")) = true from by decide +kernel]
      repeat fail
      refine w_ifT ?_
      repeat fail
      refine bounds_k hok ?_
      repeat fail
      refine w_appO hS.hf ?_
      repeat fail
      refine w_appK hS.hf (by rw [sizeLine_eq]; omega) ?_
      have hS2 := hS.putF (X := F ++ [(Th.raw hr lo hi).d]) ne
      rw [Th.d] at hS2
      generalize M.put f _ = M2 at hS2 ⊢
      repeat fail
      refine w_appO hS2.hw ?_
      repeat fail
      refine w_appK hS2.hw (by rw [sizeLine_eq]; omega) ?_
      have hS3 := hS2.putW (X := W ++ [par]) ne
      generalize M2.put w _ = M3 at hS3 ⊢
      repeat fail
      refine w_ifd (fun z => ?_) fun z => ?_
      · repeat fail
        refine w_appO hS3.hv ?_
        repeat fail
        refine w_appK hS3.hv (by rw [sizeLine_eq, List.length_map]; omega) ?_
        have hS4 := hS3.putV (X := V.map nI ++ [D.int (F.length : Int)]) ne
        generalize M3.put v _ = M4 at hS4 ⊢
        repeat fail
        refine w_forNil wat_none ?_
        refine lo_same (h M4 ?_)
        simp only [Th.fl, Th.ds, Th.whs, Th.mds, Th.mvn, mvn1, if_pos z, List.append_nil, List.map_append, List.map_cons, List.map_nil]
        exact hS4
      · repeat fail
        refine w_forNil wat_none ?_
        refine lo_same (h M3 ?_)
        simp only [Th.fl, Th.ds, Th.whs, Th.mds, Th.mvn, mvn1, if_neg z, List.append_nil, List.map_append, List.map_cons, List.map_nil]
        exact hS3
    | made hr lo hi sh up dn ps =>
      simp only [Th.sz, Th.st] at hF hD hn
      obtain ⟨q1, q2, q3, q4⟩ := hok
      rw [Th.d]
      repeat fail
      refine w_lenR hS.hf ?_
      repeat fail
      refine w_ifT ?_
      repeat fail
      refine w_eqS (by decide +kernel) (by decide +kernel) ?_
      rw [show decide ((Str.ofString "made") = (Str.ofString "made")) = true from by decide +kernel]
      repeat fail
      refine w_appO hS.hm ?_
      repeat fail
      refine w_appK hS.hm (by rw [sizeLine_eq, List.length_map]; omega) ?_
      have hS1 := hS.putM (X := Dd.map nI ++ [D.int (F.length : Int)]) ne
      generalize M.put m _ = M1 at hS1 ⊢
      repeat fail
      refine w_ifdF (by omega) ?_
      repeat fail
      refine w_lenR hS1.hm ?_
      repeat fail
      refine w_ifdF (by rw [List.length_append, List.length_map, List.length_singleton]; omega) ?_
      repeat fail
      refine w_ifT ?_
      repeat fail
      refine bounds_k q1 ?_
      repeat fail
      refine making_k q2 q3 ?_
      repeat fail
      refine w_appO hS1.hf ?_
      repeat fail
      refine w_appK hS1.hf (by rw [sizeLine_eq]; omega) ?_
      have hS2 := hS1.putF (X := F ++ [(Th.made hr lo hi sh up dn ps).d]) ne
      rw [Th.d] at hS2
      generalize M1.put f _ = M2 at hS2 ⊢
      repeat fail
      refine w_appO hS2.hw ?_
      repeat fail
      refine w_appK hS2.hw (by rw [sizeLine_eq]; omega) ?_
      have hS3 := hS2.putW (X := W ++ [par]) ne
      generalize M2.put w _ = M3 at hS3 ⊢
      refine w_joinS (P := fun s1 M1 => S4 M0 f w m v (F ++ [(Th.made hr lo hi sh up dn ps).d]) (W ++ [par]) ((Dd ++ [F.length]).map nI) ((V ++ mvn1 lo hi F.length).map nI) M1 ∧
        ∃ x7 x8 x10 x11 x12 x13 x14 x15, s1 = [some (Th.made hr lo hi sh up dn ps).d, some par, some (.ref f), some (.ref w), some (.ref m), some (.ref v), some (.int (F.length : Int)), x7, x8, some (.tup (Th.ds ps)), x10, x11, x12, x13, x14, x15]) (fun s1 M1 ⟨hS4, x7, x8, x10, x11, x12, x13, x14, x15, es⟩ => ?_) fun join => ?_
      · subst es
        repeat fail
        have e1 : (F ++ [(Th.made hr lo hi sh up dn ps).d]).length = F.length + 1 := by rw [List.length_append, List.length_singleton]
        have hm1 : (mvn1 lo hi F.length).length ≤ 1 := by rw [mvn1_len]; unfold mv1; split <;> omega
        refine look_loop (look_k n) ne (fun _ => wat_none) ps _ _ _ _ M1 _ q4 (by omega) (by rw [e1]; omega) (by rw [e1, List.length_append, List.length_singleton, hWF]) (by rw [e1, List.length_append]; omega) (by rw [List.length_append, List.length_singleton]; omega) hS4 fun M' o h8 => ?_
        refine lo_same (h M' ?_)
        rw [e1] at h8
        simp only [Th.fl, Th.ds, Th.whs, Th.mds, Th.mvn]
        simp only [List.append_assoc, List.singleton_append] at h8
        exact h8
      · repeat fail
        refine w_ifd (fun z => ?_) fun z => ?_
        · repeat fail
          refine w_appO hS3.hv ?_
          repeat fail
          refine w_appK hS3.hv (by rw [sizeLine_eq, List.length_map]; omega) ?_
          have hS4 := hS3.putV (X := V.map nI ++ [D.int (F.length : Int)]) ne
          generalize M3.put v _ = M4 at hS4 ⊢
          refine join _ M4 ⟨?_, _, _, _, _, _, _, _, _, by rw [Th.d]⟩
          simp only [mvn1, if_pos z, List.map_append, List.map_cons, List.map_nil]
          rw [Th.d]
          exact hS4
        · repeat fail
          refine join _ M3 ⟨?_, _, _, _, _, _, _, _, _, by rw [Th.d]⟩
          simp only [mvn1, if_neg z, List.map_append, List.map_cons, List.map_nil, List.append_nil]
          rw [Th.d]
          exact hS3
end
set_option maxHeartbeats 4000000
section
variable {K : Fg} {c : Nat → Addr}
def lowOf : Th → Int
  | .raw _ lo _ => lo
  | .made _ lo _ _ _ _ _ => lo
def higOf : Th → Int
  | .raw _ _ hi => hi
  | .made _ _ hi _ _ _ _ => hi
theorem d_ix2' {t : Th} {M : Mem} {Q : QD} (h : Q (.int (lowOf t)) M) : ixD t.d (.int 2) M Q := by
  cases t with
  | raw _ _ _ => rw [Th.d]; exact w_ixT2 h
  | made _ _ _ _ _ _ _ => rw [Th.d]; exact w_ixT2 h
theorem d_ix3' {t : Th} {M : Mem} {Q : QD} (h : Q (.int (higOf t)) M) : ixD t.d (.int 3) M Q := by
  cases t with
  | raw _ _ _ => rw [Th.d]; exact w_ixT3 h
  | made _ _ _ _ _ _ _ => rw [Th.d]; exact w_ixT3 h
mutual
theorem any_fl : ∀ t : Th, t.any = true → ∃ x ∈ t.fl, 0 < lowOf x
  | .raw h lo hi, e => ⟨_, List.mem_singleton.mpr rfl, by have e : decide (0 < lo) = true := e; exact of_decide_eq_true e⟩
  | .made h lo hi sh u w ps, e => by
    simp only [Th.any, Bool.or_eq_true, decide_eq_true_eq] at e
    rcases e with e | e
    · exact ⟨_, List.mem_cons_self, e⟩
    · obtain ⟨x, h1, h2⟩ := any_fls ps e
      exact ⟨x, List.mem_cons_of_mem _ h1, h2⟩
theorem any_fls : ∀ ts : List Th, Th.anys ts = true → ∃ x ∈ Th.fls ts, 0 < lowOf x
  | [], e => by cases e
  | t :: ts, e => by
    simp only [Th.anys, Bool.or_eq_true] at e
    rcases e with e | e
    · obtain ⟨x, h1, h2⟩ := any_fl t e
      exact ⟨x, List.mem_append_left _ h1, h2⟩
    · obtain ⟨x, h1, h2⟩ := any_fls ts e
      exact ⟨x, List.mem_append_right _ h1, h2⟩
end
theorem low_loop {nx bk ct : SD → Mem → Prop} {rt : QD} {Xd : XD} {d0 : Option D} {f w m v : Addr} {W : Mem → Prop} {M : Mem} (hW : W M) (h : rt (.tup [.ref f, .ref w, .ref m, .ref v]) M) : ∀ (ts : List Th) (o : Option D), (∃ x ∈ ts, 0 < lowOf x) →
    sForL (gNm 5) (sIf (dTst (dOp gtD (dOp ixD (dVar 5) (dC (.int 2))) (dC (.int 0)))) (sRet (dTup (dCons (dVar 1) (dCons (dVar 2) (dCons (dVar 3) (dCons (dVar 4) (dNil))))))) (sNx)) ⟨nx, rt, bk, ct, Xd⟩ W (Th.ds ts) [d0, some (.ref f), some (.ref w), some (.ref m), some (.ref v), o] M
  | [], _, ⟨x, hx, _⟩ => by cases hx
  | t :: ts, o, ⟨x, hx, hl⟩ => by
    refine w_forCons hW ?_
    repeat fail
    refine d_ix2' ?_
    repeat fail
    refine w_ifd (fun z => ?_) fun z => ?_
    · repeat fail
      exact h
    · repeat fail
      refine low_loop hW h ts _ ?_
      rcases List.mem_cons.mp hx with rfl | hx
      · exact absurd hl z
      · exact ⟨x, hx, hl⟩
theorem over_k {t : Th} (hg : t.good) {M : Mem} {Q : QD} {Xd : XD} (h : Q (.tup [.lst (Th.ds t.fl), .lst (t.whs 0 .non), .lst ((t.mds 0).map nI), .lst ((t.mvn 0).map nI)]) M) : Wlook_over K c [t.d] M Q Xd := by
  obtain ⟨h1, h2, h3, h4, h5, h6⟩ := hg
  refine Elook_over ?_
  repeat fail
  refine w_lstO ?_
  repeat fail
  intro f hf
  repeat fail
  refine w_lstO ?_
  repeat fail
  intro w hw
  repeat fail
  refine w_lstO ?_
  repeat fail
  intro m hm
  repeat fail
  refine w_lstO ?_
  repeat fail
  intro v hv
  repeat fail
  have nfw : f ≠ w := fun e => by rw [← e, Mem.put_same] at hw; cases hw
  have nfm : f ≠ m := fun e => by rw [← e, Mem.put_ne nfw, Mem.put_same] at hm; cases hm
  have nwm : w ≠ m := fun e => by rw [← e, Mem.put_same] at hm; cases hm
  have nfv : f ≠ v := fun e => by rw [← e, Mem.put_ne nfm, Mem.put_ne nfw, Mem.put_same] at hv; cases hv
  have nwv : w ≠ v := fun e => by rw [← e, Mem.put_ne nwm, Mem.put_same] at hv; cases hv
  have nmv : m ≠ v := fun e => by rw [← e, Mem.put_same] at hv; cases hv
  rw [Mem.put_ne (Ne.symm nfw)] at hw
  rw [Mem.put_ne (Ne.symm nwm), Mem.put_ne (Ne.symm nfm)] at hm
  rw [Mem.put_ne (Ne.symm nmv), Mem.put_ne (Ne.symm nwv), Mem.put_ne (Ne.symm nfv)] at hv
  have ne : Ne4 f w m v := ⟨nfw, nfm, nfv, nwm, nwv, nmv⟩
  have S : S4 M f w m v [] [] (([] : List Nat).map nI) (([] : List Nat).map nI) ((((M.put f (.lst [])).put w (.lst [])).put m (.lst [])).put v (.lst [])) :=
    ⟨by rw [Mem.put_ne nfv, Mem.put_ne nfm, Mem.put_ne nfw, Mem.put_same], by rw [Mem.put_ne nwv, Mem.put_ne nwm, Mem.put_same], by rw [Mem.put_ne nmv, Mem.put_same]; rfl, Mem.put_same, fun x a b c d => by rw [Mem.put_ne d, Mem.put_ne c, Mem.put_ne b, Mem.put_ne a]⟩
  generalize (((M.put f (.lst [])).put w (.lst [])).put m (.lst [])).put v (.lst []) = M1 at S
  refine look_k 8 t .non f w m v [] [] [] [] M M1 _ _ ne h2 (by omega) (by simp; omega) (by simp) rfl (by simp) (by simp; omega) S fun M2 S2 => ?_
  simp only [List.nil_append, List.length_nil] at S2
  repeat fail
  refine w_lenR S2.hm ?_
  repeat fail
  have hst : 0 < (t.mds 0).length := by
    rw [mds_len]
    cases t with
    | raw _ _ _ => cases h1
    | made _ _ _ _ _ _ ps => simp only [Th.st]; omega
  refine w_ifdF (by rw [List.length_map]; omega) ?_
  repeat fail
  refine w_lenR S2.hv ?_
  repeat fail
  refine w_ifdF (by rw [List.length_map, mvn_len]; omega) ?_
  repeat fail
  refine w_itemR S2.hf ?_
  refine low_loop (wat_some rfl) ?_ _ none (any_fl t h6)
  refine lo_frzT 0 (by rfl) S2.hf ?_
  refine lo_frzT 1 (by rfl) ((Mem.del_ne (Ne.symm nfw)).trans S2.hw) ?_
  refine lo_frzT 2 (by rfl) ((Mem.del_ne (Ne.symm nwm)).trans ((Mem.del_ne (Ne.symm nfm)).trans S2.hm)) ?_
  refine lo_frzT 3 (by rfl) ((Mem.del_ne (Ne.symm nmv)).trans ((Mem.del_ne (Ne.symm nwv)).trans ((Mem.del_ne (Ne.symm nfv)).trans S2.hv))) ?_
  have eM : (((M2.del f).del w).del m).del v = M := by
    funext x
    by_cases ev : x = v
    · subst ev; rw [Mem.del_same, hv]
    rw [Mem.del_ne ev]
    by_cases em : x = m
    · subst em; rw [Mem.del_same, hm]
    rw [Mem.del_ne em]
    by_cases ew : x = w
    · subst ew; rw [Mem.del_same, hw]
    rw [Mem.del_ne ew]
    by_cases ef : x = f
    · subst ef; rw [Mem.del_same, hf]
    rw [Mem.del_ne ef]
    exact S2.o x ef ew em ev
  rw [eM]
  exact lo_same h
end
set_option maxHeartbeats 4000000
section
variable {K : Fg} {c : Nat → Addr}
theorem term_k {a : Addr} {M : Mem} {cells : List Int} {b : Int} (hc : cells ≠ []) (hb : b < 2 ^ 49) (hM : Dr a cells b M) {Q : QD} {Xd : XD}
    (h : ∀ (sh : Int) (u w : Bool) (M' : Mem), 0 ≤ sh → sh ≤ 100 → Dr a cells (b + 4) M' → Sm a M M' → Q (termD sh u w) M') : W_law_term K c [.ref a] M Q Xd := by
  refine E_law_term ?_
  repeat fail
  refine draw_k hc (by omega) (by omega) (by omega) hM fun r1 M1 a1 a2 hD1 hS1 => ?_
  repeat fail
  refine of_k hc (by omega) (by simp) (by simp) hD1 fun d M2 hd hD2 hS2 => ?_
  obtain ⟨sh, rfl, b1, b2⟩ : ∃ sh : Int, d = .int sh ∧ 0 ≤ sh ∧ sh ≤ 100 := by
    simp only [List.mem_cons, List.not_mem_nil, or_false] at hd
    rcases hd with rfl | rfl | rfl | rfl | rfl | rfl <;> exact ⟨_, rfl, by omega, by omega⟩
  repeat fail
  refine of_k hc (by omega) (by simp) (by simp) hD2 fun d M3 hd hD3 hS3 => ?_
  obtain ⟨u, rfl⟩ : ∃ u : Bool, d = .str (upS u) := by
    simp only [List.mem_cons, List.not_mem_nil, or_false] at hd
    rcases hd with rfl | rfl | rfl
    · exact ⟨true, rfl⟩
    · exact ⟨true, rfl⟩
    · exact ⟨false, rfl⟩
  repeat fail
  refine of_k hc (by omega) (by simp) (by simp) hD3 fun d M4 hd hD4 hS4 => ?_
  obtain ⟨w, rfl⟩ : ∃ u : Bool, d = .str (dnS u) := by
    simp only [List.mem_cons, List.not_mem_nil, or_false] at hd
    rcases hd with rfl | rfl | rfl
    · exact ⟨true, rfl⟩
    · exact ⟨true, rfl⟩
    · exact ⟨false, rfl⟩
  repeat fail
  exact lo_same (h sh u w M4 b1 b2 (by have e : b + 4 = b + 1 + 1 + 1 + 1 := by omega
                                       rw [e]; exact hD4) (((hS1.trans hS2).trans hS3).trans hS4))
def lK : List Key := [.inr "moves", .inr "steps", .inr "things"]
def lV (mv st th : Nat) : List D := [.int mv, .int st, .int th]
def Lf (l : Addr) (mv st th : Nat) (M : Mem) : Prop := M l = some (.dct lK (lV mv st th))
theorem lK_nd : lK.Nodup ∧ lK.length < 1000 := by decide
theorem Sm.lf {a l : Addr} {M M' : Mem} {mv st th : Nat} (h : Sm a M M') (ne : l ≠ a) (k : Lf l mv st th M) : Lf l mv st th M' := (h l ne).trans k
theorem vl_m (mv st th : Nat) : valD lK (lV mv st th) (.inr "moves") = some (.int mv) := rfl
theorem vl_st (mv st th : Nat) : valD lK (lV mv st th) (.inr "steps") = some (.int st) := rfl
theorem vl_th (mv st th : Nat) : valD lK (lV mv st th) (.inr "things") = some (.int th) := rfl
def Sm2 (a l : Addr) (M M' : Mem) : Prop := ∀ b, b ≠ a → b ≠ l → M' b = M b
theorem Sm2.refl {a l : Addr} {M : Mem} : Sm2 a l M M := fun _ _ _ => rfl
theorem Sm2.trans {a l : Addr} {M M1 M2 : Mem} (h : Sm2 a l M M1) (k : Sm2 a l M1 M2) : Sm2 a l M M2 := fun b y z => (k b y z).trans (h b y z)
theorem Sm.two {a l : Addr} {M M' : Mem} (h : Sm a M M') : Sm2 a l M M' := fun b y _ => h b y
theorem Dr.put {a l : Addr} {cells : List Int} {b : Int} {M : Mem} {o : MO} (h : Dr a cells b M) (ne : a ≠ l) : Dr a cells b (M.put l o) := by
  obtain ⟨x, s, h1, h2, h3⟩ := h
  exact ⟨x, s, by rw [Mem.put_ne ne]; exact h1, h2, h3⟩
theorem span_k {a l : Addr} {M : Mem} {cells : List Int} {b : Int} {mv st th : Nat} (hc : cells ≠ []) (hb : b < 2 ^ 49) (ne : l ≠ a) (hM : Dr a cells b M) (hL : Lf l mv st th M) {Q : QD} {Xd : XD}
    (h : ∀ (lo hi : Int) (mv' : Nat) (M' : Mem), bnd lo hi → mv' + mv1 lo hi = mv → Dr a cells (b + 6) M' → Lf l mv' st th M' → Sm2 a l M M' → Q (.tup [.int lo, .int hi]) M') : W_law_span K c [.ref a, .ref l] M Q Xd := by
  refine E_law_span ?_
  repeat fail
  refine draw_k hc (by omega) (by omega) (by omega) hM fun r1 M1 a1 a2 hD1 hS1 => ?_
  repeat fail
  refine w_powI ⟨by decide, by decide, by decide⟩ ?_
  repeat fail
  refine draw_k hc (by decide) (by decide) (by omega) hD1 fun r2 M2 a3 a4 hD2 hS2 => ?_
  have a4 : r2 < 999960 := a4
  repeat fail
  refine of_k hc (by omega) (by simp) (by simp) hD2 fun d M3 hd hD3 hS3 => ?_
  obtain ⟨lo, rfl, b1, b2⟩ : ∃ sh : Int, d = .int sh ∧ 0 ≤ sh ∧ sh ≤ 999960 := by
    simp only [List.mem_cons, List.not_mem_nil, or_false] at hd
    rcases hd with rfl | rfl | rfl | rfl | rfl | rfl | rfl <;> exact ⟨_, rfl, by omega, by omega⟩
  have hL3 : Lf l mv st th M3 := hS3.lf ne (hS2.lf ne (hS1.lf ne hL))
  have s3 : Sm2 a l M M3 := ((hS1.trans hS2).trans hS3).two
  repeat fail
  refine w_ixRD hL3 (vl_m _ _ _) ?_
  repeat fail
  refine w_ifd (fun z => ?_) fun z => ?_
  · repeat fail
    refine lo_same (h lo lo mv M3 ⟨b1, Int.le_refl _, by omega⟩ (by unfold mv1; rw [if_neg (Int.lt_irrefl _)]; rfl) (hD3.le (by omega)) hL3 s3)
  repeat fail
  refine draw_k hc (by omega) (by omega) (by omega) hD3 fun r4 M4 a5 a6 hD4 hS4 => ?_
  have hL4 := hS4.lf ne hL3
  repeat fail
  by_cases z2 : r4 = 0
  · rw [decide_eq_true z2]
    repeat fail
    refine lo_same (h lo lo mv M4 ⟨b1, Int.le_refl _, by omega⟩ (by unfold mv1; rw [if_neg (Int.lt_irrefl _)]; rfl) (hD4.le (by omega)) hL4 (s3.trans hS4.two))
  rw [decide_eq_false z2]
  repeat fail
  refine w_ixRD hL4 (vl_m _ _ _) ?_
  repeat fail
  obtain ⟨k, rfl⟩ : ∃ k : Nat, mv = k + 1 := ⟨mv - 1, by omega⟩
  refine w_setD hL4 lK_nd ?_
  have e5 : M4.put l (.dct (putD lK (lV (k + 1) st th) (.inr "moves") (.int (((k + 1 : Nat) : Int) - 1))).1 (putD lK (lV (k + 1) st th) (.inr "moves") (.int (((k + 1 : Nat) : Int) - 1))).2) = M4.put l (.dct lK (lV k st th)) := by
    have : ((k + 1 : Nat) : Int) - 1 = (k : Int) := by omega
    rw [this]; rfl
  refine (congrArg _ e5).mpr ?_
  have hL5 : Lf l k st th (M4.put l (.dct lK (lV k st th))) := Mem.put_same
  have hD5 : Dr a cells _ (M4.put l (.dct lK (lV k st th))) := hD4.put (Ne.symm ne)
  have s5 : Sm2 a l M4 (M4.put l (.dct lK (lV k st th))) := fun b y z => Mem.put_ne z
  generalize M4.put l (.dct lK (lV k st th)) = M5 at hL5 hD5 s5
  repeat fail
  refine draw_k hc (by omega) (by omega) (by omega) hD5 fun r6 M6 a7 a8 hD6 hS6 => ?_
  repeat fail
  refine of_k hc (by omega) (by simp) (by simp) hD6 fun d M7 hd hD7 hS7 => ?_
  obtain ⟨up, rfl, c1, c2⟩ : ∃ sh : Int, d = .int sh ∧ 0 ≤ sh ∧ sh ≤ 29 := by
    simp only [List.mem_cons, List.not_mem_nil, or_false] at hd
    rcases hd with rfl | rfl | rfl <;> exact ⟨_, rfl, by omega, by omega⟩
  repeat fail
  refine lo_same (h lo (lo + 1 + up) k M7 ⟨b1, by omega, by omega⟩ (by unfold mv1; rw [if_pos (by omega)]) (hD7.le (by omega)) (hS7.lf ne (hS6.lf ne hL5)) (((s3.trans hS4.two).trans s5).trans (hS6.trans hS7).two))
end
set_option maxHeartbeats 4000000
section
variable {K : Fg} {c : Nat → Addr}
theorem Lf.put_st (mv st th : Nat) (l : Addr) (M : Mem) : M.put l (.dct (putD lK (lV mv (st + 1) th) (.inr "steps") (.int (((st + 1 : Nat) : Int) - 1))).1 (putD lK (lV mv (st + 1) th) (.inr "steps") (.int (((st + 1 : Nat) : Int) - 1))).2) = M.put l (.dct lK (lV mv st th)) := by
  have : ((st + 1 : Nat) : Int) - 1 = (st : Int) := by omega
  rw [this]; rfl
theorem Lf.put_th (mv st th k : Nat) (l : Addr) (M : Mem) : M.put l (.dct (putD lK (lV mv st (th + k)) (.inr "things") (.int (((th + k : Nat) : Int) - (k : Nat)))).1 (putD lK (lV mv st (th + k)) (.inr "things") (.int (((th + k : Nat) : Int) - (k : Nat)))).2) = M.put l (.dct lK (lV mv st th)) := by
  have : ((th + k : Nat) : Int) - (k : Nat) = (th : Int) := by omega
  rw [this]; rfl
theorem Sm2.drop {a l p : Addr} {M M' : Mem} (hp : M p = none) (h : ∀ b, b ≠ a → b ≠ l → b ≠ p → M' b = M b) : Sm2 a l M (M'.del p) := fun b y z => by
  by_cases e : b = p
  · subst e; rw [Mem.del_same, hp]
  · rw [Mem.del_ne e]; exact h b y z e
def ThingOk (K : Fg) (c : Nat → Addr) (a l : Addr) (cells : List Int) (n : Nat) : Prop := ∀ (M : Mem) (b : Int) (mv st th : Nat) (must : Bool) (Q : QD) (Xd : XD), st + 1 ≤ n → (must = true → 1 ≤ st ∧ 1 ≤ th) → th < 1000 → b + 14 * (th + 1) < 2 ^ 48 → Dr a cells b M → Lf l mv st th M →
    (∀ (t : Th) (mv' st' th' : Nat) (M' : Mem), t.ok → mv' + t.mv = mv → st' + t.st = st → th' + t.sz = th + 1 → (must = true → t.isMade = true) → Dr a cells (b + 14 * t.sz) M' → Lf l mv' st' th' M' → Sm2 a l M M' → Q t.d M') → W_law_thing K c n [.ref a, .ref l, .bl must] M Q Xd
theorem thing_loop {a l p : Addr} {cells : List Int} (ne : l ≠ a) (np : p ≠ l) (npa : p ≠ a) {n : Nat} (ih : ThingOk K c a l cells n) {M0 : Mem} {b : Int} {mv st th k : Nat} {d2 d3 d4 d5 d6 : D} {Xd : XD} {nx bk ct : SD → Mem → Prop} {rt : QD} {W : Mem → Prop} (hW : ∀ M, W M)
    (hn : st + 1 ≤ n) (hth : th < 1000) (hb : b + 14 * (th + k) < 2 ^ 48)
    (fin : ∀ (ts : List Th) (mv' st' th' : Nat) (M' : Mem) (o : Option D), ts.length = k → Th.oks ts → mv' + Th.mvs ts = mv → st' + Th.sts ts = st → th' + Th.szs ts = th + k → Dr a cells (b + 14 * Th.szs ts) M' → Lf l mv' st' th' M' → (∀ x, x ≠ a → x ≠ l → x ≠ p → M' x = M0 x) → M' p = some (.lst (Th.ds ts)) →
      nx [some (.ref a), some (.ref l), some d2, some d3, some d4, some d5, some d6, some (.ref p), o] M') :
    ∀ (is : List D) (ts : List Th) (mv' st' th' : Nat) (M' : Mem) (o : Option D), ts.length + is.length = k → k ≤ 3 → Th.oks ts → mv' + Th.mvs ts = mv → st' + Th.sts ts = st → th' + Th.szs ts = th + ts.length → Dr a cells (b + 14 * Th.szs ts) M' → Lf l mv' st' th' M' → (∀ x, x ≠ a → x ≠ l → x ≠ p → M' x = M0 x) → M' p = some (.lst (Th.ds ts)) →
      sForL (gNm 8) (sExpr (dApp (dVar 7) (dCall (W_law_thing K c n) [] (dCons (dVar 0) (dCons (dVar 1) (dCons (dC (.bl false)) dNil)))))) ⟨nx, rt, bk, ct, Xd⟩ W is [some (.ref a), some (.ref l), some d2, some d3, some d4, some d5, some d6, some (.ref p), o] M'
  | [], ts, mv', st', th', M', o, e, hk, h1, h2, h3, h4, h5, h6, h7, h8 => by
    have e : ts.length = k := by simpa using e
    exact w_forNil (hW _) (fin ts mv' st' th' M' o e h1 h2 h3 (by omega) h5 h6 h7 h8)
  | i :: is, ts, mv', st', th', M', o, e, hk, h1, h2, h3, h4, h5, h6, h7, h8 => by
    rw [List.length_cons] at e
    refine w_forCons (hW _) ?_
    repeat fail
    refine w_appO h8 ?_
    repeat fail
    have hge := szs_ge ts
    refine ih M' (b + 14 * Th.szs ts) mv' st' th' false _ _ (by omega) (fun z => by cases z) (by omega) (by omega) h5 h6 fun t mv2 st2 th2 M2 q1 q2 q3 q4 _ q5 q6 q7 => ?_
    have hp2 : M2 p = some (.lst (Th.ds ts)) := (q7 p npa np).trans h8
    refine w_appK hp2 (by rw [ds_map, List.length_map, sizeLine_eq]; omega) ?_
    have e1 : Th.ds ts ++ [t.d] = Th.ds (ts ++ [t]) := by rw [ds_app]; rfl
    rw [e1]
    refine thing_loop ne np npa ih hW hn hth hb fin is (ts ++ [t]) mv2 st2 th2 _ _ (by rw [List.length_append, List.length_singleton]; omega) hk ((oks_app _ _).mpr ⟨h1, q1, trivial⟩) (by rw [mvs_app]; simp only [Th.mvs]; omega) (by rw [sts_app]; simp only [Th.sts]; omega)
      (by rw [szs_app, List.length_append, List.length_singleton]; simp only [Th.szs]; omega) ((q5.put (Ne.symm npa)).le (by rw [szs_app]; simp only [Th.szs]; omega)) ((Mem.put_ne (Ne.symm np)).trans q6)
      (fun x z1 z2 z3 => by rw [Mem.put_ne z3, q7 x z1 z2]; exact h7 x z1 z2 z3) Mem.put_same
theorem thing_k {a l : Addr} {cells : List Int} (hc : cells ≠ []) (ne : l ≠ a) : ∀ (n : Nat), ThingOk K c a l cells n
  | 0 => fun _ _ _ _ _ _ _ _ hn _ _ _ _ _ _ => by omega
  | n + 1 => fun M b mv st th must Q Xd hn hm hth hb hD hL h => by
    refine E_law_thing ?_
    repeat fail
    refine span_k hc (by omega) ne hD hL fun lo hi mv1' M1 hbd hmv hD1 hL1 s1 => ?_
    repeat fail
    refine of_k hc (by omega) (by simp) (by simp) hD1 fun d M2 hd hD2 hS2 => ?_
    obtain ⟨hr, rfl⟩ : ∃ u : Bool, d = landD u := by
      simp only [List.mem_cons, List.not_mem_nil, or_false] at hd
      rcases hd with rfl | rfl
      · exact ⟨true, rfl⟩
      · exact ⟨false, rfl⟩
    have hL2 := hS2.lf ne hL1
    have s2 := s1.trans hS2.two
    -- what comes of a raw one
    have raw : ∀ (M' : Mem), must = false → Dr a cells (b + 8) M' → Lf l mv1' st th M' → Sm2 a l M M' → Lo Q (.tup [.str "raw", landD hr, .int lo, .int hi]) M' := fun M' hmu hD' hL' s' =>
      lo_same (h (.raw hr lo hi) mv1' st th M' hbd hmv (by show st + 0 = st; rfl) (by show th + 1 = th + 1; rfl) (fun z => by rw [hmu] at z; cases z) (hD'.le (by show b + 8 ≤ b + 14 * ((1 : Nat) : Int); omega)) hL' s')
    refine w_join (P := fun M3 => 1 ≤ st ∧ 1 ≤ th ∧ Dr a cells (b + 8) M3 ∧ Lf l mv1' st th M3 ∧ Sm2 a l M M3) (fun M3 ⟨st1, th1, hD3, hL3, s3⟩ => ?_) (fun join => ?_)
    · obtain ⟨st, rfl⟩ : ∃ k, st = k + 1 := ⟨st - 1, by omega⟩
      repeat fail
      refine w_ixRD hL3 (vl_st _ _ _) ?_
      repeat fail
      refine w_setD hL3 lK_nd ?_
      refine (congrArg _ (Lf.put_st mv1' st th l M3)).mpr ?_
      have hL4 : Lf l mv1' st th (M3.put l (.dct lK (lV mv1' st th))) := Mem.put_same
      have hD4 : Dr a cells _ (M3.put l (.dct lK (lV mv1' st th))) := hD3.put (Ne.symm ne)
      have s4 : Sm2 a l M (M3.put l (.dct lK (lV mv1' st th))) := s3.trans fun b y z => Mem.put_ne z
      generalize M3.put l (.dct lK (lV mv1' st th)) = M4 at hL4 hD4 s4
      repeat fail
      refine w_ixRD hL4 (vl_th _ _ _) ?_
      repeat fail
      refine draw_k hc (by split <;> omega) (by split <;> omega) (by omega) hD4 fun r M5 r0 r1 hD5 hS5 => ?_
      have hL5 := hS5.lf ne hL4
      have s5 := s4.trans hS5.two
      obtain ⟨k, rfl⟩ : ∃ k : Nat, r = (k : Int) := ⟨r.toNat, by omega⟩
      have hk : k + 1 ≤ 3 ∧ k + 1 ≤ th := by split at r1 <;> omega
      clear r1
      obtain ⟨th, rfl⟩ : ∃ j, th = j + (k + 1) := ⟨th - (k + 1), by omega⟩
      have ek : (1 : Int) + (k : Int) = ((k + 1 : Nat) : Int) := by omega
      refine w_addI ?_
      rw [ek]
      repeat fail
      refine w_ixRD hL5 (vl_th _ _ _) ?_
      repeat fail
      refine w_lstO ?_
      repeat fail
      intro p hp
      repeat fail
      have np : p ≠ l := fun e => by rw [e] at hp; rw [show M5 l = _ from hL5] at hp; cases hp
      have npa : p ≠ a := fun e => by obtain ⟨_, _, z, _⟩ := hD5; rw [← e, hp] at z; cases z
      have hpM : M p = none := (s5 p npa np).symm.trans hp
      have hL6 : Lf l mv1' st (th + (k + 1)) (M5.put p (.lst [])) := (Mem.put_ne (Ne.symm np)).trans hL5
      refine w_setD hL6 lK_nd ?_
      rw [Lf.put_th mv1' st th (k + 1) l]
      have hL7 : Lf l mv1' st th ((M5.put p (.lst [])).put l (.dct lK (lV mv1' st th))) := Mem.put_same
      have hD7 : Dr a cells _ ((M5.put p (.lst [])).put l (.dct lK (lV mv1' st th))) := (hD5.put (Ne.symm npa)).put (Ne.symm ne)
      have s7 : ∀ b, b ≠ a → b ≠ l → b ≠ p → ((M5.put p (.lst [])).put l (.dct lK (lV mv1' st th))) b = M b := fun b y z w => by
        rw [Mem.put_ne z, Mem.put_ne w]; exact s5 b y z
      have hp7 : ((M5.put p (.lst [])).put l (.dct lK (lV mv1' st th))) p = some (.lst (Th.ds [])) := by rw [Mem.put_ne np]; exact Mem.put_same
      generalize (M5.put p (.lst [])).put l (.dct lK (lV mv1' st th)) = M7 at hL7 hD7 s7 hp7
      repeat fail
      refine w_rng1 (by omega) ?_
      rw [Int.toNat_natCast]
      refine thing_loop (th := th) (mv := mv1') (st := st) (b := b + 9) (k := k + 1) (M0 := M) ne np npa (thing_k hc ne n) (fun _ => wat_none) (by omega) (by omega) (by omega) (fun ts mv' st' th' M' o g1 g2 g3 g4 g5 g6 g7 g8 g9 => ?_) (rngL 0 (k + 1)) [] mv1' st th M7 none (by unfold rngL; simp) hk.1 True.intro (by simp [Th.mvs]) (by simp [Th.sts]) (by simp [Th.szs]) (hD7.le (by simp only [Th.szs]; omega)) hL7 s7 hp7
      repeat fail
      refine term_k hc (by omega) g6 fun sh u w M8 b1 b2 hD8 hS8 => ?_
      repeat fail
      refine w_tupR ((hS8 p npa).trans g9) ?_
      repeat fail
      refine lo_drop p (lo_same ?_)
      have hD9 : Dr a cells (b + 9 + 14 * Th.szs ts + 4) (M8.del p) := by
        obtain ⟨x, s, z1, z2, z3⟩ := hD8
        exact ⟨x, s, (Mem.del_ne (Ne.symm npa)).trans z1, z2, z3⟩
      exact h (.made hr lo hi sh u w ts) mv' st' th' (M8.del p) ⟨hbd, ⟨b1, b2⟩, ⟨by omega, by omega⟩, g2⟩ (by simp only [Th.mv]; omega) (by simp only [Th.st]; omega) (by simp only [Th.sz]; omega) (fun _ => rfl) (hD9.le (by simp only [Th.sz]; omega)) ((Mem.del_ne (Ne.symm np)).trans ((hS8 l ne).trans g7))
        (Sm2.drop hpM fun x z1 z2 z3 => (hS8 x z1).trans (g8 x z1 z2 z3))
    · cases must with
      | true =>
        repeat fail
        exact join M2 ⟨(hm rfl).1, (hm rfl).2, hD2.le (by omega), hL2, s2⟩
      | false =>
        repeat fail
        refine w_ixRD hL2 (vl_st _ _ _) ?_
        repeat fail
        refine w_ifd (fun z => ?_) fun z => ?_
        · repeat fail
          exact raw M2 rfl (hD2.le (by omega)) hL2 s2
        repeat fail
        refine w_ixRD hL2 (vl_th _ _ _) ?_
        repeat fail
        refine w_ifd (fun z => ?_) fun z2 => ?_
        · repeat fail
          exact raw M2 rfl (hD2.le (by omega)) hL2 s2
        repeat fail
        refine draw_k hc (by omega) (by omega) (by omega) hD2 fun r M3 r0 r1 hD3 hS3 => ?_
        repeat fail
        refine w_ifd (fun z => ?_) fun z3 => ?_
        · repeat fail
          exact raw M3 rfl (hD3.le (by omega)) (hS3.lf ne hL2) (s2.trans hS3.two)
        repeat fail
        exact join M3 ⟨by omega, by omega, hD3.le (by omega), hS3.lf ne hL2, s2.trans hS3.two⟩
theorem mv1_max {lo hi : Int} : mv1 (if (lo : Int) > 1 then lo else 1) (if hi > 1 then hi else 1) ≤ mv1 lo hi := by
  unfold mv1
  split <;> split <;> split <;> omega
theorem good_k {a : Addr} {M : Mem} {cells : List Int} {b : Int} {moving making : Nat} (hc : cells ≠ []) (hb : b < 2 ^ 47) (hmo : moving ≤ 3) (hma : 1 ≤ making ∧ making ≤ 4) (hM : Dr a cells b M) {Q : QD} {Xd : XD}
    (h : ∀ (t : Th) (M' : Mem), t.good → t.mv ≤ moving → t.st ≤ making → Dr a cells (b + 150) M' → Sm a M M' → Q t.d M') : W_law_good K c [.ref a, .int moving, .int making] M Q Xd := by
  refine E_law_good ?_
  repeat fail
  refine w_dct ?_
  intro p hp
  have npa : p ≠ a := fun e => by obtain ⟨_, _, z, _⟩ := hM; rw [← e, hp] at z; cases z
  have hM1 : Dr a cells b (M.put p (.dct [] [])) := hM.put (Ne.symm npa)
  have s1 : ∀ x, x ≠ a → x ≠ p → (M.put p (.dct [] [])) x = M x := fun x _ z => Mem.put_ne z
  have e1 : (M.put p (.dct [] [])) p = some (.dct [] []) := Mem.put_same
  generalize M.put p (.dct [] []) = M1 at hM1 s1 e1
  repeat fail
  refine draw_k hc (by omega) (by omega) (by omega) hM1 fun r1 M2 a1 a2 hD2 hS2 => ?_
  repeat fail
  refine draw_k hc (by omega) (by omega) (by omega) hD2 fun r2 M3 a3 a4 hD3 hS3 => ?_
  have hS := hS2.trans hS3
  repeat fail
  refine ⟨(hS p npa).trans e1, ?_⟩
  obtain ⟨mv, rfl⟩ : ∃ k : Nat, r1 = (k : Int) := ⟨r1.toNat, by omega⟩
  obtain ⟨st, hst⟩ : ∃ k : Nat, 1 + r2 = (k : Int) := ⟨(1 + r2).toNat, by omega⟩
  rw [hst]
  have hL4 : Lf p mv st 9 (M3.put p (.dct lK (lV mv st 9))) := Mem.put_same
  have hD4 : Dr a cells _ (M3.put p (.dct lK (lV mv st 9))) := hD3.put (Ne.symm npa)
  have s4 : ∀ x, x ≠ a → x ≠ p → (M3.put p (.dct lK (lV mv st 9))) x = M x := fun x y z => by rw [Mem.put_ne z, hS x y, s1 x y z]
  show sSeq _ _ _ _ (M3.put p (.dct lK (lV mv st 9)))
  generalize M3.put p (.dct lK (lV mv st 9)) = M4 at hL4 hD4 s4
  repeat fail
  refine thing_k hc npa 8 M4 (b + 1 + 1) mv st 9 true _ _ (by omega) (fun _ => ⟨by omega, by omega⟩) (by omega) (by omega) hD4 hL4 fun t mv' st' th' M5 t1 t2 t3 t4 t5 hD5 hL5 hS5 => ?_
  have s5 : ∀ x, x ≠ a → x ≠ p → M5 x = M x := fun x y z => (hS5 x y z).trans (s4 x y z)
  cases t with
  | raw _ _ _ => cases t5 rfl
  | made hr lo hi sh u w ps =>
    rw [Th.d]
    repeat fail
    refine w_addT ?_ ?_
    · show 2 + 2 ≤ sizeLine; decide
    repeat fail
    refine w_addT ?_ ?_
    · show 4 + 2 ≤ sizeLine; decide
    obtain ⟨q1, q2, q3, q4⟩ := t1
    simp only [Th.mv, Th.st, Th.sz] at t2 t3 t4
    have hm1 := mv1_max (lo := lo) (hi := hi)
    refine lo_drop p (lo_same (h (.made hr (if lo > 1 then lo else 1) (if hi > 1 then hi else 1) sh u w ps) (M5.del p) ⟨rfl, ⟨?_, q2, q3, q4⟩, by simp only [Th.sz]; omega, by simp only [Th.st]; omega, by simp only [Th.mv]; omega, ?_⟩ (by simp only [Th.mv]; omega) (by simp only [Th.st]; omega) ?_ ?_))
    · obtain ⟨c1, c2, c3⟩ := q1
      unfold bnd
      split <;> split <;> omega
    · simp only [Th.any, Bool.or_eq_true, decide_eq_true_eq]
      left; split <;> omega
    · obtain ⟨x, s, z1, z2, z3⟩ := hD5
      exact ⟨x, s, (Mem.del_ne (Ne.symm npa)).trans z1, z2, by simp only [Th.sz] at z3; omega⟩
    · intro x hx
      by_cases e : x = p
      · subst e; rw [Mem.del_same, hp]
      · rw [Mem.del_ne e]; exact s5 x hx e
end
set_option maxHeartbeats 4000000
section
variable {K : Fg} {c : Nat → Addr}
def RowsOk (K : Fg) (c : Nat → Addr) (n : Nat) : Prop := ∀ (t : Th) (b : Nat) (M : Mem) (Q : QD) (Xd : XD), t.st + 1 ≤ n → t.sz ≤ 1000 → Q (.lst ((rows t b).map rowD)) M → W_law_rows K c n [t.d, .int b] M Q Xd
theorem rows_loop {n : Nat} (ih : RowsOk K c n) {d0 : D} {b : Nat} {nx bk ct : SD → Mem → Prop} {rt : QD} {Xd : XD} {M : Mem} {W : Mem → Prop} (hW : W M) :
    ∀ (ts : List Th) (nn : List Nat) (rr : List (Th × List Nat)) (o : Option D), rr.length + Th.szs ts ≤ 1000 → nn.length ≤ rr.length → Th.sts ts + 1 ≤ n + 0 → 
    (∀ o, nx [some d0, some (.int b), some (.lst ((rr ++ rowss ts (b + 1 + rr.length)).map rowD)), some (.lst ((nn ++ nums (b + 1 + rr.length) ts).map fun (k : Nat) => D.int (k : Int))), o] M) →
    sForL (gNm 4) (sSeq (sSet 3 (dOp addD (dVar 3) (dLst (dCons (dOp addD (dOp addD (dVar 1) (dC (.int 1))) (dCB lenC (dCons (dVar 2) (dNil)))) (dNil))))) (sSet 2 (dOp addD (dVar 2) (dCall (W_law_rows K c n) [] (dCons (dVar 4) (dCons (dOp addD (dOp addD (dVar 1) (dC (.int 1))) (dCB lenC (dCons (dVar 2) (dNil)))) (dNil))))))) ⟨nx, rt, bk, ct, Xd⟩ W (Th.ds ts)
      [some d0, some (.int b), some (.lst (rr.map rowD)), some (.lst (nn.map fun (k : Nat) => D.int (k : Int))), o] M
  | [], nn, rr, o, h1, h2, h3, h => w_forNil hW (by have := h o; simpa [rowss, nums] using this)
  | t :: ts, nn, rr, o, h1, h2, h3, h => by
    simp only [Th.szs, Th.sts] at h1 h3
    have := sz_pos t
    refine w_forCons hW ?_
    repeat fail
    refine w_addL (by simp only [List.length_map, List.length_singleton, sizeLine_eq]; omega) ?_
    repeat fail
    have e0 : (b : Int) + 1 + (((rr.map rowD).length : Nat) : Int) = ((b + 1 + rr.length : Nat) : Int) := by rw [List.length_map]; omega
    rw [e0]
    refine ih t _ M _ _ (by omega) (by omega) ?_
    repeat fail
    refine w_addL (by simp only [List.length_map, sizeLine_eq, rows_len]; omega) ?_
    have e1 : (nn.map fun (k : Nat) => D.int (k : Int)) ++ [D.int ((b + 1 + rr.length : Nat) : Int)] = ((nn ++ [b + 1 + rr.length]).map fun (k : Nat) => D.int (k : Int)) := by simp
    have e2 : rr.map rowD ++ (rows t (b + 1 + rr.length)).map rowD = (rr ++ rows t (b + 1 + rr.length)).map rowD := by simp
    rw [e1, e2]
    refine rows_loop ih hW ts _ _ _ (by rw [List.length_append, rows_len]; omega) (by rw [List.length_append, List.length_append, List.length_singleton, rows_len]; omega) (by omega) ?_
    intro o
    have := h o
    rw [rowss, nums, ← List.append_assoc] at this
    rw [List.append_assoc nn, List.length_append, rows_len]
    have e3 : b + 1 + (rr.length + t.sz) = b + 1 + rr.length + t.sz := by omega
    rw [e3]
    exact this
theorem rows_k : ∀ n : Nat, RowsOk K c n
  | 0 => fun _ _ _ _ _ h _ _ => by omega
  | n + 1 => fun t b M Q Xd h hz q => by
    refine E_law_rows ?_
    cases t with
    | raw hr lo hi =>
      repeat fail
      refine w_eqS (by decide +kernel) (by decide +kernel) ?_
      rw [show decide ((Str.ofString "raw") = (Str.ofString "made")) = false from by decide +kernel]
      repeat fail
      refine w_forNil wat_none ?_
      repeat fail
      refine w_addL (by simp [sizeLine_eq]) ?_
      exact lo_same q
    | made hr lo hi sh u w ps =>
      simp only [Th.st, Th.sz] at h hz
      repeat fail
      refine w_eqS (by decide +kernel) (by decide +kernel) ?_
      rw [show decide ((Str.ofString "made") = (Str.ofString "made")) = true from by decide +kernel]
      repeat fail
      refine rows_loop (rows_k n) (b := b) wat_none ps [] [] none (by simp; omega) (by simp) (by omega) ?_
      intro o
      repeat fail
      refine w_addL (by simp only [List.length_map, List.length_singleton, sizeLine_eq, List.nil_append, rowss_len]; omega) ?_
      exact lo_same q
end
set_option maxHeartbeats 4000000
/-! ### any data -/
inductive Va : D → Prop
  | non : Va .non
  | bl (b : Bool) : Va (.bl b)
  | int (i : Int) : Va (.int i)
  | str (x : Str) (h : PyData.strOk x = true) : Va (.str x)
  | tup (ds : List D) (h : ∀ d ∈ ds, Va d) : Va (.tup ds)
  | lst (ds : List D) : Va (.lst ds)
  | dct (ks : List Key) (ds : List D) : Va (.dct ks ds)
def isTup : D → Bool
  | .tup _ => true
  | _ => false
def isInt : D → Bool
  | .int _ => true
  | .bl _ => true
  | _ => false
def isBl : D → Bool
  | .bl _ => true
  | _ => false
def isStr : D → Bool
  | .str _ => true
  | _ => false
section
variable {M : Mem} {Q : QD} {d : D}
theorem isi_tup (v : Va d) (h : Q (.bl (isTup d)) M) : isiC [d, .ty "tuple"] M Q := by
  cases v
  · exact w_isi (T := "NoneType") (b := false) rfl (by decide +kernel) h
  · exact w_isi (T := "bool") (b := false) rfl (by decide +kernel) h
  · exact w_isi (T := "int") (b := false) rfl (by decide +kernel) h
  · exact w_isi (T := "str") (b := false) rfl (by decide +kernel) h
  · exact w_isi (T := "tuple") (b := true) rfl (by decide +kernel) h
  · exact w_isi (T := "list") (b := false) rfl (by decide +kernel) h
  · exact w_isi (T := "dict") (b := false) rfl (by decide +kernel) h
theorem isi_int (v : Va d) (h : Q (.bl (isInt d)) M) : isiC [d, .ty "int"] M Q := by
  cases v
  · exact w_isi (T := "NoneType") (b := false) rfl (by decide +kernel) h
  · exact w_isi (T := "bool") (b := true) rfl (by decide +kernel) h
  · exact w_isi (T := "int") (b := true) rfl (by decide +kernel) h
  · exact w_isi (T := "str") (b := false) rfl (by decide +kernel) h
  · exact w_isi (T := "tuple") (b := false) rfl (by decide +kernel) h
  · exact w_isi (T := "list") (b := false) rfl (by decide +kernel) h
  · exact w_isi (T := "dict") (b := false) rfl (by decide +kernel) h
theorem isi_bl (v : Va d) (h : Q (.bl (isBl d)) M) : isiC [d, .ty "bool"] M Q := by
  cases v
  · exact w_isi (T := "NoneType") (b := false) rfl (by decide +kernel) h
  · exact w_isi (T := "bool") (b := true) rfl (by decide +kernel) h
  · exact w_isi (T := "int") (b := false) rfl (by decide +kernel) h
  · exact w_isi (T := "str") (b := false) rfl (by decide +kernel) h
  · exact w_isi (T := "tuple") (b := false) rfl (by decide +kernel) h
  · exact w_isi (T := "list") (b := false) rfl (by decide +kernel) h
  · exact w_isi (T := "dict") (b := false) rfl (by decide +kernel) h
theorem isi_str (v : Va d) (h : Q (.bl (isStr d)) M) : isiC [d, .ty "str"] M Q := by
  cases v
  · exact w_isi (T := "NoneType") (b := false) rfl (by decide +kernel) h
  · exact w_isi (T := "bool") (b := false) rfl (by decide +kernel) h
  · exact w_isi (T := "int") (b := false) rfl (by decide +kernel) h
  · exact w_isi (T := "str") (b := true) rfl (by decide +kernel) h
  · exact w_isi (T := "tuple") (b := false) rfl (by decide +kernel) h
  · exact w_isi (T := "list") (b := false) rfl (by decide +kernel) h
  · exact w_isi (T := "dict") (b := false) rfl (by decide +kernel) h
theorem int_of (v : Va d) (h1 : isInt d = true) (h2 : isBl d = false) : ∃ i, d = .int i := by
  cases v <;> first | exact ⟨_, rfl⟩ | (exfalso; revert h1 h2; simp [isInt, isBl])
theorem str_of (v : Va d) (h1 : isStr d = true) : ∃ x, d = .str x ∧ PyData.strOk x = true := by
  cases v <;> first | exact ⟨_, rfl, by assumption⟩ | (exfalso; revert h1; simp [isStr])
theorem tup_of (v : Va d) (h1 : isTup d = true) : ∃ ds, d = .tup ds ∧ ∀ d ∈ ds, Va d := by
  cases v <;> first | exact ⟨_, rfl, by assumption⟩ | (exfalso; revert h1; simp [isTup])
end
/-! ### what is wrong with a thing by itself -/
def wordIn (a b : Str) : D → Bool
  | .str x => decide (x = a) || decide (x = b)
  | _ => false
def intIn (a b : Int) : D → Bool
  | .int i => decide (a ≤ i) && decide (i ≤ b)
  | _ => false
def hiOk : D → D → Bool
  | .int l, .int h => decide (l ≤ h) && decide (h ≤ 1000000)
  | _, _ => false
def bndW (land lo hi : D) : Option Str :=
  if wordIn "here" "away" land = true then (if intIn 0 1000000 lo = true then (if hiOk lo hi = true then none else some "high") else some "low") else some "land"
def ruleOk : D → Bool
  | .tup [sh, up, dn] => intIn 0 100 sh && (wordIn "whole" "own" up && wordIn "own" "none" dn)
  | _ => false
def partsOk : D → Bool
  | .tup ps => decide (1 ≤ ps.length) && decide (ps.length ≤ 4)
  | _ => false
section
variable {K : Fg} {c : Nat → Addr} {M : Mem} {Q : QD} {Xd : XD}
theorem bounds_x {n land lo hi : D} (vl : Va land) (vlo : Va lo) (vhi : Va hi) (hg : bndW land lo hi = none → Q .non M) (hb : ∀ p, bndW land lo hi = some p → Xd (c 1) ["part", "number"] [.str p, n] M) : W_need_bounds K c [n, land, lo, hi] M Q Xd := by
  refine E_need_bounds ?_
  refine w_join (P := fun M1 => M1 = M ∧ wordIn "here" "away" land = true) (fun M1 ⟨e, z1⟩ => ?_) fun join => ?_
  · subst e
    refine w_join (P := fun M2 => M2 = M1 ∧ intIn 0 1000000 lo = true) (fun M2 ⟨e, z2⟩ => ?_) fun join => ?_
    · subst e
      have bad : hiOk lo hi = false → Xd (c 1) ["part", "number"] [.str "high", n] M2 := fun z => hb _ (by unfold bndW; rw [if_pos z1, if_pos z2, if_neg (by rw [z]; exact Bool.false_ne_true)])
      have good : hiOk lo hi = true → Q .non M2 := fun z => hg (by unfold bndW; rw [if_pos z1, if_pos z2, if_pos z])
      obtain ⟨l, rfl⟩ : ∃ l, lo = .int l := by cases lo <;> first | exact ⟨_, rfl⟩ | cases z2
      repeat fail
      refine isi_int vhi ?_
      cases z : isInt hi
      · repeat fail
        exact bad (by cases hi <;> first | rfl | cases z)
      · repeat fail
        refine isi_bl vhi ?_
        cases z' : isBl hi
        · obtain ⟨h, rfl⟩ := int_of vhi z z'
          repeat fail
          refine w_chd (fun q1 => ?_) fun q1 => ?_
          · repeat fail
            refine w_ifnd (fun q2 => ?_) fun q2 => ?_
            · repeat fail
              exact bad (by show (decide (l ≤ h) && decide (h ≤ 1000000)) = _; rw [decide_eq_false q2, Bool.and_false])
            · repeat fail
              exact lo_same (good (by show (decide (l ≤ h) && decide (h ≤ 1000000)) = _; rw [decide_eq_true q1, decide_eq_true q2]; rfl))
          · repeat fail
            exact bad (by show (decide (l ≤ h) && decide (h ≤ 1000000)) = _; rw [decide_eq_false q1, Bool.false_and])
        · repeat fail
          exact bad (by cases hi <;> first | rfl | cases z')
    · have bad : intIn 0 1000000 lo = false → Xd (c 1) ["part", "number"] [.str "low", n] M1 := fun z => hb _ (by unfold bndW; rw [if_pos z1, if_neg (by rw [z]; exact Bool.false_ne_true)])
      repeat fail
      refine isi_int vlo ?_
      cases z : isInt lo
      · repeat fail
        exact bad (by cases lo <;> first | rfl | cases z)
      · repeat fail
        refine isi_bl vlo ?_
        cases z' : isBl lo
        · obtain ⟨h, rfl⟩ := int_of vlo z z'
          repeat fail
          refine w_chd (fun q1 => ?_) fun q1 => ?_
          · repeat fail
            refine w_ifnd (fun q2 => ?_) fun q2 => ?_
            · repeat fail
              exact bad (by show (decide (0 ≤ h) && decide (h ≤ 1000000)) = _; rw [decide_eq_false q2, Bool.and_false])
            · repeat fail
              exact join M1 ⟨rfl, by show (decide (0 ≤ h) && decide (h ≤ 1000000)) = _; rw [decide_eq_true q1, decide_eq_true q2]; rfl⟩
          · repeat fail
            exact bad (by show (decide (0 ≤ h) && decide (h ≤ 1000000)) = _; rw [decide_eq_false q1, Bool.false_and])
        · repeat fail
          exact bad (by cases lo <;> first | rfl | cases z')
  · have bad : wordIn "here" "away" land = false → Xd (c 1) ["part", "number"] [.str "land", n] M := fun z => hb _ (by unfold bndW; rw [if_neg (by rw [z]; exact Bool.false_ne_true)])
    repeat fail
    refine isi_str vl ?_
    cases z : isStr land
    · repeat fail
      exact bad (by cases land <;> first | rfl | cases z)
    · obtain ⟨x, rfl, ok⟩ := str_of vl z
      repeat fail
      refine w_neS ok (by decide +kernel) ?_
      refine w_ifnd (fun q1 => ?_) fun q1 => ?_
      · repeat fail
        refine w_neS ok (by decide +kernel) ?_
        refine w_ifnd (fun q2 => ?_) fun q2 => ?_
        · repeat fail
          exact bad (by show (decide (x = "here") || decide (x = "away")) = _; rw [decide_eq_false q1, decide_eq_false q2]; rfl)
        · repeat fail
          exact join M ⟨rfl, by show (decide (x = "here") || decide (x = "away")) = _; rw [decide_eq_true q2, Bool.or_true]⟩
      · repeat fail
        exact join M ⟨rfl, by show (decide (x = "here") || decide (x = "away")) = _; rw [decide_eq_true q1, Bool.true_or]⟩
end
set_option maxHeartbeats 4000000
def mkW (rule parts : D) : Option Str := if ruleOk rule = true then (if partsOk parts = true then none else some "parts") else some "rule"
section
variable {K : Fg} {c : Nat → Addr} {M : Mem} {Q : QD} {Xd : XD}
theorem three {α : Type} {ds : List α} (h : ds.length = 3) : ∃ x y z, ds = [x, y, z] := by
  match ds, h with
  | [x, y, z], _ => exact ⟨x, y, z, rfl⟩
theorem ruleOk_no {d : D} (h : ∀ x y z, d ≠ .tup [x, y, z]) : ruleOk d = false := by
  unfold ruleOk
  split
  · exact absurd rfl (h _ _ _)
  · rfl
theorem rule_x {d : D} (v : Va d) (h : Q (.bl (ruleOk d)) M) : Wis_rule K c [d] M Q Xd := by
  have no : ruleOk d = false → Q (.bl false) M := fun z => by rw [← z]; exact h
  have yes : ruleOk d = true → Q (.bl true) M := fun z => by rw [← z]; exact h
  refine Eis_rule ?_
  repeat fail
  refine isi_tup v ?_
  cases z : isTup d
  · repeat fail
    exact lo_same (no (ruleOk_no fun x y z' e => by rw [e] at z; cases z))
  · obtain ⟨ds, rfl, va⟩ := tup_of v z
    repeat fail
    refine w_ifnd (fun q => ?_) fun q => ?_
    · repeat fail
      exact lo_same (no (ruleOk_no fun x y z' e => by cases e; exact q rfl))
    · obtain ⟨sh, up, dn, rfl⟩ := three (show ds.length = 3 by omega)
      have v1 := va sh (by simp)
      have v2 := va up (by simp)
      have v3 := va dn (by simp)
      have key : ruleOk (.tup [sh, up, dn]) = (intIn 0 100 sh && (wordIn "whole" "own" up && wordIn "own" "none" dn)) := rfl
      have bad1 : intIn 0 100 sh = false → Q (.bl false) M := fun z => no (by rw [key, z]; rfl)
      have bad2 : wordIn "whole" "own" up = false → Q (.bl false) M := fun z => no (by rw [key, z, Bool.false_and, Bool.and_false])
      have bad3 : wordIn "own" "none" dn = false → Q (.bl false) M := fun z => no (by rw [key, z, Bool.and_false, Bool.and_false])
      have join : intIn 0 100 sh = true → (sSeq (sIf (tOrD (tNotD (dTru (dCB isiC (dCons (dVar 2) (dCons (dC (.ty "str")) (dNil)))))) (tNotD (dTru (dCB isiC (dCons (dVar 3) (dCons (dC (.ty "str")) (dNil))))))) (sRet (dC (.bl false))) (sNx)) (sRet (dAnd (dOr (dOp eqD (dVar 2) (dC (.str "whole"))) (dOp eqD (dVar 2) (dC (.str "own")))) (dOr (dOp eqD (dVar 3) (dC (.str "own"))) (dOp eqD (dVar 3) (dC (.str "none"))))))) ⟨fun _ M' => Lo Q .non M', Lo Q, fun _ _ => False, fun _ _ => False, Xd⟩ [some (.tup [sh, up, dn]), some sh, some up, some dn] M := fun z1 => by
        repeat fail
        refine isi_str v2 ?_
        cases zu : isStr up
        · repeat fail
          exact lo_same (bad2 (by cases up <;> first | rfl | cases zu))
        · obtain ⟨x, rfl, okx⟩ := str_of v2 zu
          repeat fail
          refine isi_str v3 ?_
          cases zd : isStr dn
          · repeat fail
            exact lo_same (bad3 (by cases dn <;> first | rfl | cases zd))
          · obtain ⟨y, rfl, oky⟩ := str_of v3 zd
            have tail : (decide (x = "whole") || decide (x = "own")) = true → (dOr (dOp eqD (dVar 3) (dC (.str "own"))) (dOp eqD (dVar 3) (dC (.str "none")))) Xd [some (.tup [sh, .str x, .str y]), some sh, some (.str x), some (.str y)] M (Lo Q) := fun zx => by
              repeat fail
              refine w_eqS oky (by decide +kernel) ?_
              refine w_orB ?_
              refine w_ifd (fun q1 => ?_) fun q1 => ?_
              · exact lo_same (yes (by rw [key, z1]; show (true && ((decide (x = "whole") || decide (x = "own")) && (decide (y = "own") || decide (y = "none")))) = true; rw [zx, decide_eq_true q1]; rfl))
              · repeat fail
                refine w_eqS oky (by decide +kernel) ?_
                refine lo_same ?_
                have e : ruleOk (.tup [sh, .str x, .str y]) = decide (y = "none") := by
                  rw [key, z1]; show (true && ((decide (x = "whole") || decide (x = "own")) && (decide (y = "own") || decide (y = "none")))) = _
                  rw [zx, decide_eq_false q1]; simp
                rw [← e]; exact h
            repeat fail
            refine w_eqS okx (by decide +kernel) ?_
            refine w_orB ?_
            refine w_ifd (fun q1 => ?_) fun q1 => ?_
            · refine w_andT ?_
              exact tail (by rw [decide_eq_true q1]; rfl)
            · repeat fail
              refine w_eqS okx (by decide +kernel) ?_
              refine w_andB ?_
              refine w_ifd (fun q2 => ?_) fun q2 => ?_
              · exact tail (by rw [decide_eq_true q2, Bool.or_true])
              · exact lo_same (bad2 (by show (decide (x = "whole") || decide (x = "own")) = _; rw [decide_eq_false q1, decide_eq_false q2]; rfl))
      repeat fail
      refine isi_int v1 ?_
      cases zi : isInt sh
      · repeat fail
        exact lo_same (bad1 (by cases sh <;> first | rfl | cases zi))
      · repeat fail
        refine isi_bl v1 ?_
        cases zb : isBl sh
        · obtain ⟨i, rfl⟩ := int_of v1 zi zb
          repeat fail
          refine w_chd (fun q1 => ?_) fun q1 => ?_
          · repeat fail
            refine w_ifnd (fun q2 => ?_) fun q2 => ?_
            · repeat fail
              exact lo_same (bad1 (by show (decide (0 ≤ i) && decide (i ≤ 100)) = _; rw [decide_eq_false q2, Bool.and_false]))
            · repeat fail
              exact join (by show (decide (0 ≤ i) && decide (i ≤ 100)) = _; rw [decide_eq_true q1, decide_eq_true q2]; rfl)
          · repeat fail
            exact lo_same (bad1 (by show (decide (0 ≤ i) && decide (i ≤ 100)) = _; rw [decide_eq_false q1, Bool.false_and]))
        · repeat fail
          exact lo_same (bad1 (by cases sh <;> first | rfl | cases zb))
theorem making_x {n rule parts : D} (v1 : Va rule) (v2 : Va parts) (hg : mkW rule parts = none → Q .non M) (hb : ∀ p, mkW rule parts = some p → Xd (c 1) ["part", "number"] [.str p, n] M) : W_need_making K c [n, rule, parts] M Q Xd := by
  refine E_need_making ?_
  repeat fail
  refine rule_x v1 ?_
  cases zr : ruleOk rule
  · repeat fail
    exact hb _ (by unfold mkW; rw [if_neg (by rw [zr]; exact Bool.false_ne_true)])
  · have bad : partsOk parts = false → Xd (c 1) ["part", "number"] [.str "parts", n] M := fun z => hb _ (by unfold mkW; rw [if_pos zr, if_neg (by rw [z]; exact Bool.false_ne_true)])
    repeat fail
    refine isi_tup v2 ?_
    cases z : isTup parts
    · repeat fail
      exact bad (by cases parts <;> first | rfl | cases z)
    · obtain ⟨ds, rfl, va⟩ := tup_of v2 z
      repeat fail
      refine w_chd (fun q1 => ?_) fun q1 => ?_
      · repeat fail
        refine w_ifnd (fun q2 => ?_) fun q2 => ?_
        · repeat fail
          exact bad (by show (decide (1 ≤ ds.length) && decide (ds.length ≤ 4)) = _; rw [decide_eq_false (by omega : ¬ ds.length ≤ 4), Bool.and_false])
        · repeat fail
          exact lo_same (hg (by
            have : partsOk (.tup ds) = true := by show (decide (1 ≤ ds.length) && decide (ds.length ≤ 4)) = _; rw [decide_eq_true (by omega), decide_eq_true (by omega)]; rfl
            unfold mkW; rw [if_pos zr, if_pos this]))
      · repeat fail
        exact bad (by show (decide (1 ≤ ds.length) && decide (ds.length ≤ 4)) = _; rw [decide_eq_false (by omega : ¬ 1 ≤ ds.length), Bool.false_and])
end
set_option maxHeartbeats 4000000
/-! ### which thing is wrong first -/
def startsD : D → Bool
  | .tup (.str w :: _) => decide (w = "made")
  | _ => false
def wrongD : D → Option Str
  | .tup [.str w, land, lo, hi] => if w = "raw" then bndW land lo hi else some "form"
  | .tup [.str w, land, lo, hi, rule, parts] => if w = "made" then (match bndW land lo hi with | some p => some p | none => mkW rule parts) else some "form"
  | _ => some "form"
def madeD (land lo hi rule parts : D) : D := .tup [.str "made", land, lo, hi, rule, parts]
inductive Fault : D → Nat → Nat → Nat → Str → Prop
  | many {d : D} {n k : Nat} (hn : n ≤ 10) (hk : k ≤ 4) (h : n = 10 ∨ (startsD d = true ∧ k = 4)) : Fault d n k n "many"
  | own {d : D} {n k : Nat} {p : Str} (hn : n < 10) (hk : k ≤ 4) (hs : startsD d = true → k < 4) (h : wrongD d = some p) : Fault d n k n p
  | inner {land lo hi rule e : D} {ts : List Th} {rest : List D} {n k n' : Nat} {p : Str} (hn : n < 10) (hk : k < 4) (hw : wrongD (madeD land lo hi rule (.tup (Th.ds ts ++ e :: rest))) = none) (ho : Th.oks ts)
      (h1 : n + 1 + Th.szs ts ≤ 10) (h2 : k + 1 + Th.sts ts ≤ 4) (h : Fault e (n + 1 + Th.szs ts) (k + 1 + Th.sts ts) n' p) : Fault (madeD land lo hi rule (.tup (Th.ds ts ++ e :: rest))) n k n' p
theorem land_of {d : D} (h : wordIn "here" "away" d = true) : ∃ b, d = landD b := by
  cases d with
  | str x =>
    have h' : (decide (x = "here") || decide (x = "away")) = true := h
    rcases Bool.or_eq_true_iff.mp h' with z | z
    · exact ⟨true, by rw [of_decide_eq_true z]; rfl⟩
    · exact ⟨false, by rw [of_decide_eq_true z]; rfl⟩
  | _ => cases h
theorem bnd_of {land lo hi : D} (h : bndW land lo hi = none) : ∃ b l r, land = landD b ∧ lo = .int l ∧ hi = .int r ∧ bnd l r := by
  unfold bndW at h
  by_cases z1 : wordIn "here" "away" land = true
  · rw [if_pos z1] at h
    by_cases z2 : intIn 0 1000000 lo = true
    · rw [if_pos z2] at h
      by_cases z3 : hiOk lo hi = true
      · obtain ⟨b, rfl⟩ := land_of z1
        cases lo with
        | int l =>
          cases hi with
          | int r =>
            have z2' : (decide (0 ≤ l) && decide (l ≤ 1000000)) = true := z2
            have z3' : (decide (l ≤ r) && decide (r ≤ 1000000)) = true := z3
            obtain ⟨a1, a2⟩ := Bool.and_eq_true_iff.mp z2'
            obtain ⟨a3, a4⟩ := Bool.and_eq_true_iff.mp z3'
            exact ⟨b, l, r, rfl, rfl, rfl, of_decide_eq_true a1, of_decide_eq_true a3, of_decide_eq_true a4⟩
          | _ => cases z3
        | _ => cases z2
      · rw [if_neg z3] at h; cases h
    · rw [if_neg z2] at h; cases h
  · rw [if_neg z1] at h; cases h
theorem rule_of {d : D} (h : ruleOk d = true) : ∃ sh u w, d = termD sh u w ∧ 0 ≤ sh ∧ sh ≤ 100 := by
  unfold ruleOk at h
  split at h
  · rename_i sh up dn
    obtain ⟨h1, h2⟩ := Bool.and_eq_true_iff.mp h
    obtain ⟨h2, h3⟩ := Bool.and_eq_true_iff.mp h2
    cases sh with
    | int i =>
      have h1' : (decide (0 ≤ i) && decide (i ≤ 100)) = true := h1
      obtain ⟨a1, a2⟩ := Bool.and_eq_true_iff.mp h1'
      cases up with
      | str x =>
        have h2' : (decide (x = "whole") || decide (x = "own")) = true := h2
        cases dn with
        | str y =>
          have h3' : (decide (y = "own") || decide (y = "none")) = true := h3
          obtain ⟨u, hu⟩ : ∃ u, x = MH.upS u := by
            rcases Bool.or_eq_true_iff.mp h2' with z | z
            · exact ⟨true, of_decide_eq_true z⟩
            · exact ⟨false, of_decide_eq_true z⟩
          obtain ⟨w, hw⟩ : ∃ w, y = dnS w := by
            rcases Bool.or_eq_true_iff.mp h3' with z | z
            · exact ⟨true, of_decide_eq_true z⟩
            · exact ⟨false, of_decide_eq_true z⟩
          exact ⟨i, u, w, by rw [hu, hw]; rfl, of_decide_eq_true a1, of_decide_eq_true a2⟩
        | _ => cases h3
      | _ => cases h2
    | _ => cases h1
  · cases h
/-- nothing wrong with the thing by itself -/
theorem right_of {d : D} (h : wrongD d = none) : (∃ b l r, d = (Th.raw b l r).d ∧ bnd l r) ∨ ∃ b l r sh u w ps, d = madeD (landD b) (.int l) (.int r) (termD sh u w) (.tup ps) ∧ bnd l r ∧ (0 ≤ sh ∧ sh ≤ 100) ∧ 1 ≤ ps.length ∧ ps.length ≤ 4 := by
  unfold wrongD at h
  split at h
  · rename_i w land lo hi
    by_cases z : w = "raw"
    · rw [if_pos z] at h
      obtain ⟨b, l, r, rfl, rfl, rfl, hb⟩ := bnd_of h
      exact .inl ⟨b, l, r, by rw [z]; rfl, hb⟩
    · rw [if_neg z] at h; cases h
  · rename_i w land lo hi rule parts
    by_cases z : w = "made"
    · rw [if_pos z] at h
      split at h
      · cases h
      · rename_i hb
        obtain ⟨b, l, r, rfl, rfl, rfl, hbd⟩ := bnd_of hb
        unfold mkW at h
        by_cases z1 : ruleOk rule = true
        · rw [if_pos z1] at h
          by_cases z2 : partsOk parts = true
          · obtain ⟨sh, u, dn, rfl, s1, s2⟩ := rule_of z1
            cases parts with
            | tup ps =>
              have z2' : (decide (1 ≤ ps.length) && decide (ps.length ≤ 4)) = true := z2
              obtain ⟨a1, a2⟩ := Bool.and_eq_true_iff.mp z2'
              exact .inr ⟨b, l, r, sh, u, dn, ps, by rw [z]; rfl, hbd, ⟨s1, s2⟩, of_decide_eq_true a1, of_decide_eq_true a2⟩
            | _ => cases z2
          · rw [if_neg z2] at h; cases h
        · rw [if_neg z1] at h; cases h
    · rw [if_neg z] at h; cases h
  · cases h
/-- a thing is all right, or some thing in it is wrong first -/
def Fine (d : D) (n k : Nat) : Prop := ∃ t : Th, d = t.d ∧ t.ok ∧ n + t.sz ≤ 10 ∧ k + t.st ≤ 4
theorem parts_look : ∀ (ps : List D) (n k : Nat), n ≤ 10 → k ≤ 4 → (∀ d ∈ ps, ∀ n k, n ≤ 10 → k ≤ 4 → Fine d n k ∨ ∃ n' p, Fault d n k n' p) →
    (∃ ts, ps = Th.ds ts ∧ Th.oks ts ∧ n + Th.szs ts ≤ 10 ∧ k + Th.sts ts ≤ 4) ∨ ∃ ts e rest n' p, ps = Th.ds ts ++ e :: rest ∧ Th.oks ts ∧ n + Th.szs ts ≤ 10 ∧ k + Th.sts ts ≤ 4 ∧ Fault e (n + Th.szs ts) (k + Th.sts ts) n' p
  | [], n, k, hn, hk, _ => .inl ⟨[], rfl, trivial, hn, hk⟩
  | d :: ps, n, k, hn, hk, ih => by
    rcases ih d List.mem_cons_self n k hn hk with ⟨t, rfl, h1, h2, h3⟩ | ⟨n', p, hf⟩
    · rcases parts_look ps (n + t.sz) (k + t.st) h2 h3 (fun d hd => ih d (List.mem_cons_of_mem _ hd)) with ⟨ts, rfl, q1, q2, q3⟩ | ⟨ts, e, rest, n', p, rfl, q1, q2, q3, q4⟩
      · exact .inl ⟨t :: ts, rfl, ⟨h1, q1⟩, by simp only [Th.szs]; omega, by simp only [Th.sts]; omega⟩
      · refine .inr ⟨t :: ts, e, rest, n', p, rfl, ⟨h1, q1⟩, by simp only [Th.szs]; omega, by simp only [Th.sts]; omega, ?_⟩
        simp only [Th.szs, Th.sts]
        rw [← Nat.add_assoc, ← Nat.add_assoc]; exact q4
    · exact .inr ⟨[], d, ps, n', p, rfl, trivial, by simp only [Th.szs]; omega, by simp only [Th.sts]; omega, by simp only [Th.szs, Th.sts]; exact hf⟩
def Told (d : D) : Prop := ∀ n k : Nat, n ≤ 10 → k ≤ 4 → Fine d n k ∨ ∃ n' p, Fault d n k n' p
theorem look_or2 {d : D} (v : Va d) : Told d ∧ ∀ ps, d = .tup ps → ∀ e ∈ ps, Told e := by
  have flat : ∀ {d : D}, startsD d = false → wrongD d = some "form" → (∀ ps, d ≠ .tup ps) → Told d ∧ ∀ ps, d = .tup ps → ∀ e ∈ ps, Told e := fun {d} h1 h2 h3 => ⟨fun n k hn hk => by
    by_cases z : n = 10
    · exact .inr ⟨_, _, .many hn hk (.inl z)⟩
    · exact .inr ⟨_, _, .own (by omega) hk (fun z => by rw [h1] at z; cases z) h2⟩, fun ps e => absurd e (h3 ps)⟩
  induction v with
  | non => exact flat rfl rfl (fun _ z => by cases z)
  | bl b => exact flat rfl rfl (fun _ z => by cases z)
  | int i => exact flat rfl rfl (fun _ z => by cases z)
  | str x h => exact flat rfl rfl (fun _ z => by cases z)
  | lst ds => exact flat rfl rfl (fun _ z => by cases z)
  | dct ks ds => exact flat rfl rfl (fun _ z => by cases z)
  | tup ds h ih =>
    refine ⟨fun n k hn hk => ?_, fun ps e => by cases e; exact fun e he => (ih e he).1⟩
    by_cases z1 : n = 10 ∨ (startsD (.tup ds) = true ∧ k = 4)
    · exact .inr ⟨_, _, .many hn hk z1⟩
    · have hn' : n < 10 := by
        by_cases z : n = 10
        · exact absurd (.inl z) z1
        · omega
      have hs : startsD (.tup ds) = true → k < 4 := fun s => by
        by_cases z : k = 4
        · exact absurd (.inr ⟨s, z⟩) z1
        · omega
      cases hw : wrongD (.tup ds) with
      | some p => exact .inr ⟨_, _, .own hn' hk hs hw⟩
      | none =>
        rcases right_of hw with ⟨b, l, r, e, hb⟩ | ⟨b, l, r, sh, u, w, ps, e, hb, hsh, hp⟩
        · exact .inl ⟨.raw b l r, e, hb, by simp only [Th.sz]; omega, by simp only [Th.st]; omega⟩
        · rw [e] at hs hw ⊢
          unfold madeD at e
          cases e
          have hk' : k < 4 := hs (by rfl)
          have vps := h (.tup ps) (by simp)
          rcases parts_look ps (n + 1) (k + 1) (by omega) (by omega) (fun d hd => (ih (.tup ps) (by simp)).2 ps rfl d hd) with ⟨ts, rfl, q1, q2, q3⟩ | ⟨ts, e, rest, n', p, rfl, q1, q2, q3, q4⟩
          · rw [ds_map, List.length_map] at hp
            exact .inl ⟨.made b l r sh u w ts, rfl, ⟨hb, hsh, hp, q1⟩, by simp only [Th.sz]; omega, by simp only [Th.st]; omega⟩
          · exact .inr ⟨_, _, .inner hn' hk' hw q1 q2 q3 q4⟩
theorem look_or {d : D} (v : Va d) : Told d := (look_or2 v).1
set_option maxHeartbeats 4000000
def wordD : D → D
  | .tup (w :: _) => w
  | _ => .non
theorem va_word {d : D} (v : Va d) : Va (wordD d) := by
  cases v with
  | tup ds h =>
    cases ds with
    | nil => exact .non
    | cons w r => exact h w List.mem_cons_self
  | _ => exact .non
theorem five {α : Type} {r : List α} (h : r.length = 5) : ∃ a b x y z, r = [a, b, x, y, z] := by
  match r, h with
  | [a, b, x, y, z], _ => exact ⟨a, b, x, y, z, rfl⟩
theorem wrong_form1 {d : D} (h : isStr (wordD d) = false) : wrongD d = some ("form" : Str) := by
  unfold wrongD
  split
  · cases h
  · cases h
  · rfl
section
variable {K : Fg} {c : Nat → Addr} {M : Mem} {Q : QD} {Xd : XD}
theorem own_x {d par : D} {f w m v : Addr} {q : Int} {n : Nat} {p : Str} (va : Va d) (hw : wrongD d = some p) (hb : Xd (c 1) ["part", "number"] [.str p, .int q] M) :
    (sSeq (sSet 9 (dTup (dNil))) (sSeq (sIf (tAndD (dTru (dVar 8)) (dTst (dOp eqD (dCB lenC (dCons (dVar 0) (dNil))) (dC (.int 6))))) (sSeq (sAsg (dVar 0) (gTp 6 (gCo (gNm 10) (gCo (gNm 11) (gCo (gNm 12) (gCo (gNm 13) (gCo (gNm 14) (gCo (gNm 9) (gNi))))))))) (sSeq (sExpr (dCall (W_need_bounds K c) [] (dCons (dVar 6) (dCons (dVar 11) (dCons (dVar 12) (dCons (dVar 13) (dNil))))))) (sExpr (dCall (W_need_making K c) [] (dCons (dVar 6) (dCons (dVar 14) (dCons (dVar 9) (dNil)))))))) (sIf (tAndD (dTru (dCB isiC (dCons (dVar 7) (dCons (dC (.ty "str")) (dNil))))) (tAndD (dTst (dOp eqD (dVar 7) (dC (.str "raw")))) (dTst (dOp eqD (dCB lenC (dCons (dVar 0) (dNil))) (dC (.int 4)))))) (sSeq (sAsg (dVar 0) (gTp 4 (gCo (gNm 10) (gCo (gNm 11) (gCo (gNm 12) (gCo (gNm 13) (gNi))))))) (sExpr (dCall (W_need_bounds K c) [] (dCons (dVar 6) (dCons (dVar 11) (dCons (dVar 12) (dCons (dVar 13) (dNil)))))))) (sRaise (c 1) ["part", "number"] (dCons (dVar 6) (dCons (dC (.str "form")) (dNil)))))) (sSeq (sExpr (dApp (dVar 2) (dVar 0))) (sSeq (sExpr (dApp (dVar 3) (dVar 1))) (sSeq (sIf (dTst (dOp ltD (dVar 12) (dVar 13))) (sExpr (dApp (dVar 5) (dVar 6))) (sNx)) (sFor (iSeqD (dVar 9)) (gNm 15) (sExpr (dCall (W_look_at K c n) [] (dCons (dVar 15) (dCons (dVar 6) (dCons (dVar 2) (dCons (dVar 3) (dCons (dVar 4) (dCons (dVar 5) (dNil))))))))))))))) ⟨fun _ M' => Lo Q .non M', Lo Q, fun _ _ => False, fun _ _ => False, Xd⟩ [some d, some par, some (.ref f), some (.ref w), some (.ref m), some (.ref v), some (.int q), some (wordD d), some (.bl (startsD d)), none, none, none, none, none, none, none] M := by
  cases hs : startsD d
  · repeat fail
    refine isi_str (va_word va) ?_
    cases zs : isStr (wordD d)
    · repeat fail
      rw [wrong_form1 zs] at hw
      cases hw
      exact hb
    · obtain ⟨x, ex, okx⟩ := str_of (va_word va) zs
      obtain ⟨r, rfl⟩ : ∃ r, d = .tup (.str x :: r) := by
        cases d with
        | tup ds =>
          cases ds with
          | nil => cases ex
          | cons w r => exact ⟨r, by rw [show w = .str x from ex]⟩
        | _ => cases ex
      have vr : ∀ d ∈ r, Va d := by
        cases va with
        | tup _ h => exact fun d hd => h d (List.mem_cons_of_mem _ hd)
      have nm : x ≠ "made" := fun e => by
        have : decide (x = "made") = false := hs
        rw [decide_eq_true e] at this; cases this
      rw [ex]
      repeat fail
      refine w_eqS okx (by decide +kernel) ?_
      refine w_ifd (fun q1 => ?_) fun q1 => ?_
      · subst q1
        repeat fail
        refine w_ifd (fun q2 => ?_) fun q2 => ?_
        · obtain ⟨a, b, z, rfl⟩ := three (show r.length = 3 by simp only [List.length_cons] at q2; omega)
          have hw' : bndW a b z = some p := hw
          repeat fail
          refine bounds_x (vr a (by simp)) (vr b (by simp)) (vr z (by simp)) (fun e => by rw [e] at hw'; cases hw') fun p' e => ?_
          rw [hw'] at e; cases e
          exact hb
        · have : wrongD (.tup (.str "raw" :: r)) = some ("form" : Str) := by
            unfold wrongD
            split
            · rename_i e; cases e; exact absurd rfl q2
            · rename_i e; cases e; rw [if_neg (by decide)]
            · rfl
          rw [this] at hw; cases hw
          repeat fail
          exact hb
      · have : wrongD (.tup (.str x :: r)) = some ("form" : Str) := by
          unfold wrongD
          split
          · rename_i e; cases e; rw [if_neg q1]
          · rename_i e; cases e; rw [if_neg nm]
          · rfl
        rw [this] at hw; cases hw
        repeat fail
        exact hb
  · obtain ⟨r, rfl⟩ : ∃ r, d = .tup (.str "made" :: r) := by
      unfold startsD at hs
      split at hs
      · rename_i w r
        exact ⟨r, by rw [of_decide_eq_true hs]⟩
      · cases hs
    have vr : ∀ d ∈ r, Va d := by
      cases va with
      | tup _ h => exact fun d hd => h d (List.mem_cons_of_mem _ hd)
    repeat fail
    refine w_ifd (fun q1 => ?_) fun q1 => ?_
    · obtain ⟨a, b, x, y, z, rfl⟩ := five (show r.length = 5 by simp only [List.length_cons] at q1; omega)
      have hw' : (match bndW a b x with | some p => some p | none => mkW y z) = some p := hw
      repeat fail
      refine bounds_x (vr a (by simp)) (vr b (by simp)) (vr x (by simp)) (fun e => ?_) fun p' e => ?_
      · rw [e] at hw'
        repeat fail
        refine making_x (vr y (by simp)) (vr z (by simp)) (fun e2 => by rw [e2] at hw'; cases hw') fun p' e2 => ?_
        rw [e2] at hw'; cases hw'
        exact hb
      · rw [e] at hw'; cases hw'
        exact hb
    · have : wrongD (.tup (.str "made" :: r)) = some ("form" : Str) := by
        unfold wrongD
        split
        · rename_i e; cases e; rw [if_neg (by decide)]
        · rename_i e; cases e; exact absurd rfl q1
        · rfl
      rw [this] at hw; cases hw
      repeat fail
      rw [show wordD (D.tup (D.str (Str.ofString "made") :: r)) = D.str (Str.ofString "made") from rfl]
      repeat fail
      refine w_eqS (by decide +kernel) (by decide +kernel) ?_
      rw [show decide ((Str.ofString "made") = (Str.ofString "raw")) = false from by decide +kernel]
      repeat fail
      exact hb
theorem pre_x {d par : D} {f w m v : Addr} {n u k : Nat} {F W V : List D} {Dd : List Nat} {M0 : Mem} (ne : Ne4 f w m v) (va : Va d) (hF : F.length = u) (hn : u ≤ 10) (hD : Dd.length = k) (hk : k ≤ 4) (S : S4 M0 f w m v F W (Dd.map nI) V M)
    (hmany : (u = 10 ∨ (startsD d = true ∧ k = 4)) → ∀ M' X, S4 M0 f w m v F W X V M' → Xd (c 1) ["part", "number"] [.str "many", .int (u : Int)] M')
    (hgo : ¬ (u = 10 ∨ (startsD d = true ∧ k = 4)) → ∀ M', S4 M0 f w m v F W ((Dd ++ if startsD d = true then [u] else []).map nI) V M' →
      (sSeq (sSet 9 (dTup (dNil))) (sSeq (sIf (tAndD (dTru (dVar 8)) (dTst (dOp eqD (dCB lenC (dCons (dVar 0) (dNil))) (dC (.int 6))))) (sSeq (sAsg (dVar 0) (gTp 6 (gCo (gNm 10) (gCo (gNm 11) (gCo (gNm 12) (gCo (gNm 13) (gCo (gNm 14) (gCo (gNm 9) (gNi))))))))) (sSeq (sExpr (dCall (W_need_bounds K c) [] (dCons (dVar 6) (dCons (dVar 11) (dCons (dVar 12) (dCons (dVar 13) (dNil))))))) (sExpr (dCall (W_need_making K c) [] (dCons (dVar 6) (dCons (dVar 14) (dCons (dVar 9) (dNil)))))))) (sIf (tAndD (dTru (dCB isiC (dCons (dVar 7) (dCons (dC (.ty "str")) (dNil))))) (tAndD (dTst (dOp eqD (dVar 7) (dC (.str "raw")))) (dTst (dOp eqD (dCB lenC (dCons (dVar 0) (dNil))) (dC (.int 4)))))) (sSeq (sAsg (dVar 0) (gTp 4 (gCo (gNm 10) (gCo (gNm 11) (gCo (gNm 12) (gCo (gNm 13) (gNi))))))) (sExpr (dCall (W_need_bounds K c) [] (dCons (dVar 6) (dCons (dVar 11) (dCons (dVar 12) (dCons (dVar 13) (dNil)))))))) (sRaise (c 1) ["part", "number"] (dCons (dVar 6) (dCons (dC (.str "form")) (dNil)))))) (sSeq (sExpr (dApp (dVar 2) (dVar 0))) (sSeq (sExpr (dApp (dVar 3) (dVar 1))) (sSeq (sIf (dTst (dOp ltD (dVar 12) (dVar 13))) (sExpr (dApp (dVar 5) (dVar 6))) (sNx)) (sFor (iSeqD (dVar 9)) (gNm 15) (sExpr (dCall (W_look_at K c n) [] (dCons (dVar 15) (dCons (dVar 6) (dCons (dVar 2) (dCons (dVar 3) (dCons (dVar 4) (dCons (dVar 5) (dNil))))))))))))))) ⟨fun _ M' => Lo Q .non M', Lo Q, fun _ _ => False, fun _ _ => False, Xd⟩ [some d, some par, some (.ref f), some (.ref w), some (.ref m), some (.ref v), some (.int (u : Int)), some (wordD d), some (.bl (startsD d)), none, none, none, none, none, none, none] M') : W_look_at K c (n + 1) [d, par, .ref f, .ref w, .ref m, .ref v] M Q Xd := by
  refine E_look_at ?_
  repeat fail
  refine w_lenR S.hf ?_
  rw [hF]
  repeat fail
  have step : (sSeq (sSet 8 (dAnd (dCB isiC (dCons (dVar 7) (dCons (dC (.ty "str")) (dNil)))) (dOp eqD (dVar 7) (dC (.str "made"))))) (sSeq (sIf (dTru (dVar 8)) (sExpr (dApp (dVar 4) (dVar 6))) (sNx)) (sSeq (sIf (tOrD (dTst (dOp eqD (dVar 6) (dC (.int 10)))) (dTst (dOp gtD (dCB lenC (dCons (dVar 4) (dNil))) (dC (.int 4))))) (sRaise (c 1) ["part", "number"] (dCons (dVar 6) (dCons (dC (.str "many")) (dNil)))) (sNx)) (sSeq (sSet 9 (dTup (dNil))) (sSeq (sIf (tAndD (dTru (dVar 8)) (dTst (dOp eqD (dCB lenC (dCons (dVar 0) (dNil))) (dC (.int 6))))) (sSeq (sAsg (dVar 0) (gTp 6 (gCo (gNm 10) (gCo (gNm 11) (gCo (gNm 12) (gCo (gNm 13) (gCo (gNm 14) (gCo (gNm 9) (gNi))))))))) (sSeq (sExpr (dCall (W_need_bounds K c) [] (dCons (dVar 6) (dCons (dVar 11) (dCons (dVar 12) (dCons (dVar 13) (dNil))))))) (sExpr (dCall (W_need_making K c) [] (dCons (dVar 6) (dCons (dVar 14) (dCons (dVar 9) (dNil)))))))) (sIf (tAndD (dTru (dCB isiC (dCons (dVar 7) (dCons (dC (.ty "str")) (dNil))))) (tAndD (dTst (dOp eqD (dVar 7) (dC (.str "raw")))) (dTst (dOp eqD (dCB lenC (dCons (dVar 0) (dNil))) (dC (.int 4)))))) (sSeq (sAsg (dVar 0) (gTp 4 (gCo (gNm 10) (gCo (gNm 11) (gCo (gNm 12) (gCo (gNm 13) (gNi))))))) (sExpr (dCall (W_need_bounds K c) [] (dCons (dVar 6) (dCons (dVar 11) (dCons (dVar 12) (dCons (dVar 13) (dNil)))))))) (sRaise (c 1) ["part", "number"] (dCons (dVar 6) (dCons (dC (.str "form")) (dNil)))))) (sSeq (sExpr (dApp (dVar 2) (dVar 0))) (sSeq (sExpr (dApp (dVar 3) (dVar 1))) (sSeq (sIf (dTst (dOp ltD (dVar 12) (dVar 13))) (sExpr (dApp (dVar 5) (dVar 6))) (sNx)) (sFor (iSeqD (dVar 9)) (gNm 15) (sExpr (dCall (W_look_at K c n) [] (dCons (dVar 15) (dCons (dVar 6) (dCons (dVar 2) (dCons (dVar 3) (dCons (dVar 4) (dCons (dVar 5) (dNil)))))))))))))))))) ⟨fun _ M' => Lo Q .non M', Lo Q, fun _ _ => False, fun _ _ => False, Xd⟩ [some d, some par, some (.ref f), some (.ref w), some (.ref m), some (.ref v), some (.int (u : Int)), some (wordD d), none, none, none, none, none, none, none, none] M := by
    have mark : (sSeq (sIf (dTru (dVar 8)) (sExpr (dApp (dVar 4) (dVar 6))) (sNx)) (sSeq (sIf (tOrD (dTst (dOp eqD (dVar 6) (dC (.int 10)))) (dTst (dOp gtD (dCB lenC (dCons (dVar 4) (dNil))) (dC (.int 4))))) (sRaise (c 1) ["part", "number"] (dCons (dVar 6) (dCons (dC (.str "many")) (dNil)))) (sNx)) (sSeq (sSet 9 (dTup (dNil))) (sSeq (sIf (tAndD (dTru (dVar 8)) (dTst (dOp eqD (dCB lenC (dCons (dVar 0) (dNil))) (dC (.int 6))))) (sSeq (sAsg (dVar 0) (gTp 6 (gCo (gNm 10) (gCo (gNm 11) (gCo (gNm 12) (gCo (gNm 13) (gCo (gNm 14) (gCo (gNm 9) (gNi))))))))) (sSeq (sExpr (dCall (W_need_bounds K c) [] (dCons (dVar 6) (dCons (dVar 11) (dCons (dVar 12) (dCons (dVar 13) (dNil))))))) (sExpr (dCall (W_need_making K c) [] (dCons (dVar 6) (dCons (dVar 14) (dCons (dVar 9) (dNil)))))))) (sIf (tAndD (dTru (dCB isiC (dCons (dVar 7) (dCons (dC (.ty "str")) (dNil))))) (tAndD (dTst (dOp eqD (dVar 7) (dC (.str "raw")))) (dTst (dOp eqD (dCB lenC (dCons (dVar 0) (dNil))) (dC (.int 4)))))) (sSeq (sAsg (dVar 0) (gTp 4 (gCo (gNm 10) (gCo (gNm 11) (gCo (gNm 12) (gCo (gNm 13) (gNi))))))) (sExpr (dCall (W_need_bounds K c) [] (dCons (dVar 6) (dCons (dVar 11) (dCons (dVar 12) (dCons (dVar 13) (dNil)))))))) (sRaise (c 1) ["part", "number"] (dCons (dVar 6) (dCons (dC (.str "form")) (dNil)))))) (sSeq (sExpr (dApp (dVar 2) (dVar 0))) (sSeq (sExpr (dApp (dVar 3) (dVar 1))) (sSeq (sIf (dTst (dOp ltD (dVar 12) (dVar 13))) (sExpr (dApp (dVar 5) (dVar 6))) (sNx)) (sFor (iSeqD (dVar 9)) (gNm 15) (sExpr (dCall (W_look_at K c n) [] (dCons (dVar 15) (dCons (dVar 6) (dCons (dVar 2) (dCons (dVar 3) (dCons (dVar 4) (dCons (dVar 5) (dNil))))))))))))))))) ⟨fun _ M' => Lo Q .non M', Lo Q, fun _ _ => False, fun _ _ => False, Xd⟩ [some d, some par, some (.ref f), some (.ref w), some (.ref m), some (.ref v), some (.int (u : Int)), some (wordD d), some (.bl (startsD d)), none, none, none, none, none, none, none] M := by
      cases hs : startsD d
      · repeat fail
        refine w_ifd (fun q1 => ?_) fun q1 => ?_
        · repeat fail
          exact hmany (.inl (by omega)) _ _ S
        · repeat fail
          refine w_lenR S.hm ?_
          repeat fail
          refine w_ifdF (by rw [List.length_map]; omega) ?_
          rw [hs] at hgo
          refine hgo (fun z => ?_) M (by simpa using S)
          rcases z with z | ⟨z, _⟩
          · omega
          · cases z
      · repeat fail
        refine w_appO S.hm ?_
        repeat fail
        refine w_appK S.hm (by rw [sizeLine_eq, List.length_map]; omega) ?_
        have S1 := S.putM (X := Dd.map nI ++ [D.int (u : Int)]) ne
        generalize M.put m _ = M1 at S1 ⊢
        repeat fail
        refine w_ifd (fun q1 => ?_) fun q1 => ?_
        · repeat fail
          exact hmany (.inl (by omega)) _ _ S1
        · repeat fail
          refine w_lenR S1.hm ?_
          repeat fail
          refine w_ifd (fun q2 => ?_) fun q2 => ?_
          · repeat fail
            exact hmany (.inr ⟨hs, by rw [List.length_append, List.length_map, List.length_singleton] at q2; omega⟩) _ _ S1
          · rw [hs] at hgo
            refine hgo (fun z => ?_) M1 (by rw [if_pos rfl, List.map_append]; exact S1)
            rw [List.length_append, List.length_map, List.length_singleton] at q2
            rcases z with z | ⟨_, z⟩
            · omega
            · omega
    repeat fail
    refine isi_str (va_word va) ?_
    cases zs : isStr (wordD d)
    · repeat fail
      have e : startsD d = false := by
        unfold startsD
        split
        · cases zs
        · rfl
      rw [e] at mark
      exact mark
    · obtain ⟨x, ex, okx⟩ := str_of (va_word va) zs
      have e : startsD d = decide (x = "made") := by
        cases d with
        | tup ds =>
          cases ds with
          | nil => cases ex
          | cons w r => rw [show w = .str x from ex]; rfl
        | _ => cases ex
      rw [ex] at mark ⊢
      repeat fail
      refine w_eqS okx (by decide +kernel) ?_
      rw [e] at mark
      exact mark
  refine isi_tup va ?_
  cases zt : isTup d
  · have e : wordD d = .non := by cases d <;> first | rfl | cases zt
    rw [e] at step
    repeat fail
    exact step
  · obtain ⟨ds, rfl, _⟩ := tup_of va zt
    repeat fail
    refine w_ifd (fun q1 => ?_) fun q1 => ?_
    · cases ds with
      | nil => exact absurd q1 (by decide)
      | cons w r =>
        repeat fail
        exact step
    · cases ds with
      | nil =>
        repeat fail
        exact step
      | cons w r => exact absurd (show ((w :: r).length : Int) > 0 by simp only [List.length_cons]; omega) q1
end
set_option maxHeartbeats 4000000
section
variable {K : Fg} {c : Nat → Addr} {M : Mem} {Q : QD} {Xd : XD}
theorem loop_x {e : D} {rest : List D} {n : Nat} {f w m v : Addr} (ne : Ne4 f w m v) {M0 : Mem} {nx bk ct : SD → Mem → Prop} {rt : QD} {Wt : Mem → Prop} (hW : ∀ M, Wt M) {k : Nat} {d0 d1 x7 x8 x9 x10 x11 x12 x13 x14 : Option D} {u kk : Nat}
    (he : ∀ (F W : List D) (V Dd : List Nat) (M : Mem) (Q : QD), F.length = u → W.length = F.length → V.length ≤ F.length → Dd.length = kk → S4 M0 f w m v F W (Dd.map nI) (V.map nI) M → W_look_at K c n [e, nI k, .ref f, .ref w, .ref m, .ref v] M Q Xd) :
    ∀ (ts : List Th) (F W : List D) (Dd V : List Nat) (M : Mem) (o : Option D), Th.oks ts → Th.sts ts + 1 ≤ n → F.length + Th.szs ts = u → u ≤ 10 → W.length = F.length → V.length ≤ F.length → Dd.length + Th.sts ts = kk → kk ≤ 4 → S4 M0 f w m v F W (Dd.map nI) (V.map nI) M →
      sForL (gNm 15) (sExpr (dCall (W_look_at K c n) [] (dCons (dVar 15) (dCons (dVar 6) (dCons (dVar 2) (dCons (dVar 3) (dCons (dVar 4) (dCons (dVar 5) (dNil))))))))) ⟨nx, rt, bk, ct, Xd⟩ Wt (Th.ds ts ++ e :: rest) [d0, d1, some (.ref f), some (.ref w), some (.ref m), some (.ref v), some (.int (k : Int)), x7, x8, x9, x10, x11, x12, x13, x14, o] M
  | [], F, W, Dd, V, M, o, h1, h2, h3, hu, h4, h4', h5, hk, h6 => by
    simp only [Th.szs, Th.sts, Nat.add_zero] at h3 h5
    refine w_forCons (hW _) ?_
    repeat fail
    exact he F W V Dd M _ h3 h4 h4' h5 h6
  | t :: ts, F, W, Dd, V, M, o, h1, h2, h3, hu, h4, h4', h5, hk, h6 => by
    simp only [Th.sts, Th.szs] at h2 h3 h5
    have := sz_pos t
    refine w_forCons (hW _) ?_
    repeat fail
    refine look_k n t (nI k) f w m v F W Dd V M0 M _ _ ne h1.1 (by omega) (by omega) (by omega) h4 h4' (by omega) h6 fun M' h7 => ?_
    have hm := mv_le_sz t
    exact loop_x ne hW he ts _ _ _ _ M' _ h1.2 (by omega) (by rw [List.length_append, ds_map, List.length_map, fl_len]; omega) hu (by rw [List.length_append, List.length_append, whs_len, ds_map, List.length_map, fl_len, h4]) (by rw [List.length_append, List.length_append, mvn_len, ds_map, List.length_map, fl_len]; omega) (by rw [List.length_append, mds_len]; omega) hk h7
theorem look_x {d : D} {u k n' : Nat} {p : Str} (h : Fault d u k n' p) : ∀ (va : Va d) (n : Nat) (par : D) (f w m v : Addr) (F W V : List D) (Dd : List Nat) (M0 M : Mem) (Q : QD), 6 ≤ n + k → Ne4 f w m v → F.length = u → W.length = F.length → V.length ≤ F.length → Dd.length = k → (∃ Vn : List Nat, V = Vn.map nI) → S4 M0 f w m v F W (Dd.map nI) V M →
    (∀ M', (∀ x, x ≠ f → x ≠ w → x ≠ m → x ≠ v → M' x = M0 x) → Xd (c 1) ["part", "number"] [.str p, .int (n' : Int)] M') → W_look_at K c n [d, par, .ref f, .ref w, .ref m, .ref v] M Q Xd := by
  induction h with
  | many hn hk hm =>
    intro va n par f w m v F W V Dd M0 M Q hf ne hF hW hV hD hVn S hb
    obtain ⟨n, rfl⟩ : ∃ j, n = j + 1 := ⟨n - 1, by omega⟩
    exact pre_x ne va hF hn hD hk S (fun _ M' X S' => hb M' S'.o) fun z => absurd hm z
  | own hn hk hs hw =>
    intro va n par f w m v F W V Dd M0 M Q hf ne hF hW hV hD hVn S hb
    obtain ⟨n, rfl⟩ : ∃ j, n = j + 1 := ⟨n - 1, by omega⟩
    refine pre_x ne va hF (by omega) hD hk S (fun z => ?_) fun _ M' S' => own_x va hw (hb M' S'.o)
    rcases z with z | ⟨z, z2⟩
    · omega
    · have := hs z; omega
  | @inner land lo hi rule e ts rest u k n' p hn hk hw ho h1 h2 hf' ih =>
    intro va n par f w m v F W V Dd M0 M Q hf ne hF hW hV hD hVn S hb
    obtain ⟨n, rfl⟩ : ∃ j, n = j + 1 := ⟨n - 1, by omega⟩
    refine pre_x ne va hF (by omega) hD (by omega) S (fun z => ?_) fun _ M' S' => ?_
    · rcases z with z | ⟨_, z⟩ <;> omega
    · have vp : ∀ d ∈ [D.str "made", land, lo, hi, rule, .tup (Th.ds ts ++ e :: rest)], Va d := by
        unfold madeD at va
        cases va with
        | tup _ h => exact h
      have ve : Va e := by
        have := vp (.tup (Th.ds ts ++ e :: rest)) (by simp)
        cases this with
        | tup _ h => exact h e (by simp)
      have hst : startsD (madeD land lo hi rule (.tup (Th.ds ts ++ e :: rest))) = true := rfl
      rw [hst] at S' ⊢
      rw [if_pos rfl] at S'
      have hw' : (match bndW land lo hi with | some p => some p | none => mkW rule (.tup (Th.ds ts ++ e :: rest))) = none := hw
      have b0 : bndW land lo hi = none := by
        cases z : bndW land lo hi with
        | none => rfl
        | some p => rw [z] at hw'; cases hw'
      rw [b0] at hw'
      have hw2 : mkW rule (.tup (Th.ds ts ++ e :: rest)) = none := hw'
      unfold madeD
      repeat fail
      refine w_ifT ?_
      repeat fail
      refine bounds_x (vp land (by simp)) (vp lo (by simp)) (vp hi (by simp)) (fun _ => ?_) fun p' z => by rw [b0] at z; cases z
      repeat fail
      refine making_x (vp rule (by simp)) (vp _ (by simp)) (fun _ => ?_) fun p' z => by rw [hw2] at z; cases z
      obtain ⟨b, l, r, rfl, rfl, rfl, hbd⟩ := bnd_of b0
      repeat fail
      refine w_appO S'.hf ?_
      repeat fail
      refine w_appK S'.hf (by rw [sizeLine_eq]; omega) ?_
      have S2 := S'.putF (X := F ++ [madeD (landD b) (.int l) (.int r) rule (.tup (Th.ds ts ++ e :: rest))]) ne
      unfold madeD at S2
      generalize M'.put f _ = M2 at S2 ⊢
      repeat fail
      refine w_appO S2.hw ?_
      repeat fail
      refine w_appK S2.hw (by rw [sizeLine_eq]; omega) ?_
      have S3 := S2.putW (X := W ++ [par]) ne
      generalize M2.put w _ = M3 at S3 ⊢
      obtain ⟨Vn, rfl⟩ := hVn
      rw [List.length_map] at hV
      have tail : ∀ (Vm : List Nat) (M4 : Mem), Vm.length ≤ F.length + 1 → S4 M0 f w m v (F ++ [.tup [.str "made", landD b, .int l, .int r, rule, .tup (Th.ds ts ++ e :: rest)]]) (W ++ [par]) ((Dd ++ [u]).map nI) (Vm.map nI) M4 →
          ∀ o, sForL (gNm 15) (sExpr (dCall (W_look_at K c n) [] (dCons (dVar 15) (dCons (dVar 6) (dCons (dVar 2) (dCons (dVar 3) (dCons (dVar 4) (dCons (dVar 5) (dNil))))))))) ⟨fun _ M' => Lo Q .non M', Lo Q, fun _ _ => False, fun _ _ => False, Xd⟩ (wat none M4) (Th.ds ts ++ e :: rest) [some (.tup [.str "made", landD b, .int l, .int r, rule, .tup (Th.ds ts ++ e :: rest)]), some par, some (.ref f), some (.ref w), some (.ref m), some (.ref v), some (.int (u : Int)), some (.str "made"), some (.bl true), some (.tup (Th.ds ts ++ e :: rest)), some (.str "made"), some (landD b), some (.int l), some (.int r), some rule, o] M4 := fun Vm M4 hVm S4' o => by
        refine loop_x (u := u + 1 + Th.szs ts) (kk := k + 1 + Th.sts ts) ne (fun _ => wat_none) (fun F W V Dd M Q q1 q2 q3 q4 q5 => ?_) ts _ _ _ Vm M4 o ho (by omega) (by rw [List.length_append, List.length_singleton]; omega) (by omega) (by rw [List.length_append, List.length_append, List.length_singleton, List.length_singleton, hW]) (by rw [List.length_append, List.length_singleton]; exact hVm) (by rw [List.length_append, List.length_singleton]; omega) (by omega) S4'
        exact ih ve n (nI u) f w m v F W (V.map nI) Dd M0 M Q (by omega) ne q1 q2 (by rw [List.length_map]; exact q3) q4 ⟨V, rfl⟩ q5 hb
      refine w_ifd (fun z => ?_) fun z => ?_
      · repeat fail
        refine w_appO S3.hv ?_
        repeat fail
        refine w_appK S3.hv (by rw [sizeLine_eq, List.length_map]; omega) ?_
        have S4' := S3.putV (X := Vn.map nI ++ [D.int (u : Int)]) ne
        generalize M3.put v _ = M4 at S4' ⊢
        repeat fail
        exact tail (Vn ++ [u]) M4 (by rw [List.length_append, List.length_singleton]; omega) (by rw [show (Vn ++ [u]).map nI = Vn.map nI ++ [D.int (u : Int)] from by rw [List.map_append]; rfl]; exact S4') _
      · repeat fail
        exact tail Vn M3 (by omega) S3 _
end
set_option maxHeartbeats 4000000
/-! ### what is said of any data -/
def dueT (t : Th) : Option Str := if t.isMade = false then some ("raw" : Str) else if 3 < t.mv then some ("moves" : Str) else if t.any = false then some ("nothing" : Str) else none
def Bad (d : D) (n : Nat) (p : Str) : Prop := Fault d 0 0 n p ∨ ∃ t : Th, d = t.d ∧ t.ok ∧ t.sz ≤ 10 ∧ t.st ≤ 4 ∧ dueT t = some p ∧ n = 0
inductive Vd : D → D → Prop
  | bad {d : D} {n : Nat} {p : Str} (h : Bad d n p) : Vd d (.tup [.int (n : Int), .str p])
  | good (t : Th) (h : t.good) : Vd t.d (.lst [t.d])
theorem verdict {d : D} (v : Va d) : ∃ r, Vd d r := by
  rcases look_or v 0 0 (by decide) (by decide) with ⟨t, rfl, h1, h2, h3⟩ | ⟨n', p, h⟩
  · cases e : dueT t with
    | some p => exact ⟨_, .bad (.inr ⟨t, rfl, h1, by omega, by omega, e, rfl⟩)⟩
    | none =>
      unfold dueT at e
      by_cases z1 : t.isMade = false
      · rw [if_pos z1] at e; cases e
      · rw [if_neg z1] at e
        by_cases z2 : 3 < t.mv
        · rw [if_pos z2] at e; cases e
        · rw [if_neg z2] at e
          by_cases z3 : t.any = false
          · rw [if_pos z3] at e; cases e
          · exact ⟨_, .good t ⟨by simpa using z1, h1, by omega, by omega, by omega, by simpa using z3⟩⟩
  · exact ⟨_, .bad (.inl h)⟩
section
variable {K : Fg} {c : Nat → Addr} {M : Mem} {Q : QD} {Xd : XD}
theorem low_none {nx bk ct : SD → Mem → Prop} {rt : QD} {d0 : Option D} {f w m v : Addr} {W : Mem → Prop} (hW : W M) (h : ∀ o, nx [d0, some (.ref f), some (.ref w), some (.ref m), some (.ref v), o] M) : ∀ (ts : List Th) (o : Option D), (∀ x ∈ ts, lowOf x ≤ 0) →
    sForL (gNm 5) (sIf (dTst (dOp gtD (dOp ixD (dVar 5) (dC (.int 2))) (dC (.int 0)))) (sRet (dTup (dCons (dVar 1) (dCons (dVar 2) (dCons (dVar 3) (dCons (dVar 4) (dNil))))))) (sNx)) ⟨nx, rt, bk, ct, Xd⟩ W (Th.ds ts) [d0, some (.ref f), some (.ref w), some (.ref m), some (.ref v), o] M
  | [], o, _ => w_forNil hW (h o)
  | t :: ts, o, hx => by
    refine w_forCons hW ?_
    repeat fail
    refine d_ix2' ?_
    repeat fail
    refine w_ifdF (by have := hx t List.mem_cons_self; omega) ?_
    repeat fail
    exact low_none hW h ts _ fun x h => hx x (List.mem_cons_of_mem _ h)
theorem none_fl : ∀ t : Th, t.any = false → ∀ x ∈ t.fl, lowOf x ≤ 0
  | .raw h lo hi, e, x, hx => by
    simp only [Th.fl, List.mem_singleton] at hx
    subst hx
    have : decide (0 < lo) = false := e
    have := of_decide_eq_false this
    show lo ≤ 0
    omega
  | .made h lo hi sh u w ps, e, x, hx => by
    have e' : (decide (0 < lo) || Th.anys ps) = false := e
    obtain ⟨e1, e2⟩ := Bool.or_eq_false_iff.mp e'
    simp only [Th.fl, List.mem_cons] at hx
    rcases hx with rfl | hx
    · have := of_decide_eq_false e1
      show lo ≤ 0
      omega
    · exact none_fls ps e2 x hx
where
  none_fls : ∀ ts : List Th, Th.anys ts = false → ∀ x ∈ Th.fls ts, lowOf x ≤ 0
  | [], _, x, hx => by simp [Th.fls] at hx
  | t :: ts, e, x, hx => by
    have e' : (t.any || Th.anys ts) = false := e
    obtain ⟨e1, e2⟩ := Bool.or_eq_false_iff.mp e'
    simp only [Th.fls, List.mem_append] at hx
    rcases hx with hx | hx
    · exact none_fl t e1 x hx
    · exact none_fls ts e2 x hx
theorem over_bad {d : D} {n : Nat} {p : Str} (va : Va d) (hv : Bad d n p) (hb : ∀ M', Ext M M' → Xd (c 1) ["part", "number"] [.str p, .int (n : Int)] M') : Wlook_over K c [d] M Q Xd := by
  refine Elook_over ?_
  repeat fail
  refine w_lstO ?_
  repeat fail
  intro f hf
  repeat fail
  refine w_lstO ?_
  repeat fail
  intro w hw
  repeat fail
  refine w_lstO ?_
  repeat fail
  intro m hm
  repeat fail
  refine w_lstO ?_
  repeat fail
  intro v hv'
  repeat fail
  have nfw : f ≠ w := fun e => by rw [← e, Mem.put_same] at hw; cases hw
  have nfm : f ≠ m := fun e => by rw [← e, Mem.put_ne nfw, Mem.put_same] at hm; cases hm
  have nwm : w ≠ m := fun e => by rw [← e, Mem.put_same] at hm; cases hm
  have nfv : f ≠ v := fun e => by rw [← e, Mem.put_ne nfm, Mem.put_ne nfw, Mem.put_same] at hv'; cases hv'
  have nwv : w ≠ v := fun e => by rw [← e, Mem.put_ne nwm, Mem.put_same] at hv'; cases hv'
  have nmv : m ≠ v := fun e => by rw [← e, Mem.put_same] at hv'; cases hv'
  rw [Mem.put_ne (Ne.symm nfw)] at hw
  rw [Mem.put_ne (Ne.symm nwm), Mem.put_ne (Ne.symm nfm)] at hm
  rw [Mem.put_ne (Ne.symm nmv), Mem.put_ne (Ne.symm nwv), Mem.put_ne (Ne.symm nfv)] at hv'
  have ne : Ne4 f w m v := ⟨nfw, nfm, nfv, nwm, nwv, nmv⟩
  have S : S4 M f w m v [] [] (([] : List Nat).map nI) (([] : List Nat).map nI) ((((M.put f (.lst [])).put w (.lst [])).put m (.lst [])).put v (.lst [])) :=
    ⟨by rw [Mem.put_ne nfv, Mem.put_ne nfm, Mem.put_ne nfw, Mem.put_same], by rw [Mem.put_ne nwv, Mem.put_ne nwm, Mem.put_same], by rw [Mem.put_ne nmv, Mem.put_same]; rfl, Mem.put_same, fun x a b c d => by rw [Mem.put_ne d, Mem.put_ne c, Mem.put_ne b, Mem.put_ne a]⟩
  generalize (((M.put f (.lst [])).put w (.lst [])).put m (.lst [])).put v (.lst []) = M1 at S
  have ext : ∀ M', (∀ x, x ≠ f → x ≠ w → x ≠ m → x ≠ v → M' x = M x) → Ext M M' := fun M' h x o e => by
    rw [h x (fun z => by subst z; rw [hf] at e; cases e) (fun z => by subst z; rw [hw] at e; cases e) (fun z => by subst z; rw [hm] at e; cases e) (fun z => by subst z; rw [hv'] at e; cases e)]
    exact e
  rcases hv with hx | ⟨t, rfl, h2, h3, h4, h5, rfl⟩
  · exact look_x hx va 8 .non f w m v [] [] _ [] M M1 _ (by decide) ne rfl rfl (by simp) rfl ⟨[], rfl⟩ S fun M' h => hb M' (ext M' h)
  · refine look_k 8 t .non f w m v [] [] [] [] M M1 _ _ ne h2 (by omega) (by simp; omega) (by simp) rfl (by simp) (by simp; omega) S fun M2 S2 => ?_
    simp only [List.nil_append, List.length_nil] at S2
    have e2 := ext M2 S2.o
    repeat fail
    refine w_lenR S2.hm ?_
    repeat fail
    unfold dueT at h5
    by_cases z1 : t.isMade = false
    · rw [if_pos z1] at h5
      cases h5
      have : t.st = 0 := by
        cases t with
        | raw _ _ _ => rfl
        | made _ _ _ _ _ _ _ => cases z1
      refine w_ifdT (by rw [List.length_map, mds_len, this]; rfl) ?_
      repeat fail
      exact hb M2 e2
    · rw [if_neg z1] at h5
      have hst : 0 < (t.mds 0).length := by
        rw [mds_len]
        cases t with
        | raw _ _ _ => exact absurd rfl z1
        | made _ _ _ _ _ _ ps => simp only [Th.st]; omega
      refine w_ifdF (by rw [List.length_map]; omega) ?_
      repeat fail
      refine w_lenR S2.hv ?_
      repeat fail
      by_cases z2 : 3 < t.mv
      · rw [if_pos z2] at h5
        cases h5
        refine w_ifdT (by rw [List.length_map, mvn_len]; omega) ?_
        repeat fail
        exact hb M2 e2
      · rw [if_neg z2] at h5
        refine w_ifdF (by rw [List.length_map, mvn_len]; omega) ?_
        by_cases z3 : t.any = false
        · rw [if_pos z3] at h5
          cases h5
          repeat fail
          refine w_itemR S2.hf ?_
          refine low_none (wat_some rfl) (fun o => ?_) _ none (none_fl t z3)
          repeat fail
          exact hb M2 e2
        · rw [if_neg z3] at h5; cases h5
theorem need_bad {d : D} {n : Nat} {p : Str} (va : Va d) (hv : Bad d n p) (hb : ∀ M', Ext M M' → Xd (c 1) ["part", "number"] [.str p, .int (n : Int)] M') : Wneed_good K c [d] M Q Xd := by
  refine Eneed_good ?_
  repeat fail
  exact over_bad va hv hb
theorem need_fine {t : Th} (hg : t.good) (h : Q t.d M) : Wneed_good K c [t.d] M Q Xd := by
  refine Eneed_good ?_
  repeat fail
  refine over_k hg ?_
  repeat fail
  exact lo_same h
end
set_option maxHeartbeats 4000000
section
variable {K : Fg} {c : Nat → Addr} {M : Mem} {Q : QD} {Xd : XD}
theorem lkN {a b : D} : ([("part" : Str), "number"].zip [b, a]).lookup ("number" : Str) = some a := by
  rw [show ([("part" : Str), "number"].zip [b, a]) = [(("part" : Str), b), (("number" : Str), a)] from rfl]
  simp only [List.lookup, show (("number" : Str) == ("part" : Str)) = false from by decide +kernel, show (("number" : Str) == ("number" : Str)) = true from by decide +kernel]
theorem lkP {a b : D} : ([("part" : Str), "number"].zip [b, a]).lookup ("part" : Str) = some b := by
  rw [show ([("part" : Str), "number"].zip [b, a]) = [(("part" : Str), b), (("number" : Str), a)] from rfl]
  simp only [List.lookup, show (("part" : Str) == ("part" : Str)) = true from by decide +kernel]
theorem outcome_k (F : CF K c) {d r L : D} (va : Va d) (vd : Vd d r) (h : Q r M) : bodyD (B_law_outcome K c (dAct 0 L fun Xd' M' Q' => Wneed_good K c [d] M' Q' Xd')) N__law_outcome [L] M Q (fun _ _ _ _ => False) := by
  have Z := (F.cf (i := 1) (by decide)).e
  have fdok : ∀ {f : Str}, f ∈ fds → FdOk K (c 1) f := fun hf => ⟨(F.cf (i := 1) (by decide)).x, F.kf.no (by decide) hf⟩
  refine E_law_outcome ?_
  repeat fail
  refine ⟨rfl, ?_⟩
  cases vd with
  | @bad _ n p hb =>
    refine need_bad va hb fun M' e => ?_
    refine w_xclY (e := by
      refine (exm_list F.kf (i := 1) (by decide) [0] (by decide)).trans (congrArg some (by decide))) ?_
    dsimp only [List.set]
    repeat fail
    dsimp only [List.set]
    repeat fail
    refine w_isxR (ns := ["part", "number"]) (ds := [.str p, .int (n : Int)]) Z (F.kf.kit (i := 1) (j := 1) (by decide) (by decide)) ?_
    rw [show tb 1 1 = true from rfl]
    repeat fail
    refine w_fdK (fdok (by simp [fds])) lkN ?_
    repeat fail
    refine w_fdK (fdok (by simp [fds])) lkP ?_
    repeat fail
    exact lo_less e h
  | good t hg =>
    refine need_fine hg ?_
    repeat fail
    exact lo_same h
/-! ### the law's own look -/
theorem is_int_k {d : D} {lo hi : Int} (v : Va d) (h : Q (.bl (intIn lo hi d)) M) : W_law_is_int K c [d, .int lo, .int hi] M Q Xd := by
  refine E_law_is_int ?_
  repeat fail
  refine isi_int v ?_
  cases z : isInt d
  · repeat fail
    rw [show intIn lo hi d = false from by cases d <;> first | rfl | cases z] at h
    exact lo_same h
  · repeat fail
    refine isi_bl v ?_
    cases z' : isBl d
    · obtain ⟨i, rfl⟩ := int_of v z z'
      have h' : Q (.bl (decide (lo ≤ i) && decide (i ≤ hi))) M := h
      repeat fail
      refine w_chd (fun q1 => ?_) fun q1 => ?_
      · repeat fail
        rw [decide_eq_true q1, Bool.true_and] at h'
        exact lo_same h'
      · rw [decide_eq_false q1, Bool.false_and] at h'
        exact lo_same h'
    · repeat fail
      rw [show intIn lo hi d = false from by cases d <;> first | rfl | cases z'] at h
      exact lo_same h
end
set_option maxHeartbeats 4000000
section
variable {K : Fg} {c : Nat → Addr} {M : Mem} {Q : QD} {Xd : XD}
theorem fls_str : ∀ L : List Str, flsD (L.map D.str) = some (L.map V.str)
  | [] => rfl
  | x :: L => by rw [List.map_cons, flsD, fls_str L]; rfl
theorem in_str {L : List Str} {x : Str} {M : Mem} : inO M (.str x) (.lst (L.map D.str)) = some (decide (x ∈ L)) := by
  unfold inO
  simp only [vw, itemsO, fls_str, flD]
  refine congrArg some ?_
  unfold L2.inV
  rw [List.any_map]
  by_cases z : x ∈ L
  · rw [decide_eq_true z, List.any_eq_true]
    exact ⟨x, z, by simp [L2.eqV]⟩
  · rw [decide_eq_false z, List.any_eq_false]
    intro y hy e
    have : y = x := by simpa [L2.eqV] using e
    subst this; exact z hy
def wordL (L : List Str) : D → Bool
  | .str x => decide (x ∈ L)
  | _ => false
theorem word_k {d : D} {L : List Str} (v : Va d) (h : Q (.bl (wordL L d)) M) : W_law_is_word K c [d, .lst (L.map D.str)] M Q Xd := by
  refine E_law_is_word ?_
  repeat fail
  refine isi_str v ?_
  cases z : isStr d
  · repeat fail
    rw [show wordL L d = false from by cases d <;> first | rfl | cases z] at h
    exact lo_same h
  · obtain ⟨x, rfl, ok⟩ := str_of v z
    repeat fail
    exact w_inO in_str (lo_same h)
theorem wordL2 {a b : Str} {d : D} : wordL [a, b] d = wordIn a b d := by
  cases d with
  | str x =>
    show decide (x ∈ [a, b]) = (decide (x = a) || decide (x = b))
    by_cases z1 : x = a
    · rw [decide_eq_true z1, decide_eq_true (by rw [z1]; simp)]; rfl
    · by_cases z2 : x = b
      · rw [decide_eq_true z2, decide_eq_true (by rw [z2]; simp), Bool.or_true]
      · rw [decide_eq_false z1, decide_eq_false z2, decide_eq_false (by simp [z1, z2])]; rfl
  | _ => rfl
theorem word2_k {d : D} {a b : Str} (v : Va d) (h : Q (.bl (wordIn a b d)) M) : W_law_is_word K c [d, .lst [.str a, .str b]] M Q Xd :=
  word_k (L := [a, b]) v (by rw [wordL2]; exact h)
def resD : Option Str → D
  | some p => .str p
  | none => .non
theorem pow6 : (10 : Int) ^ (6 : Int).toNat = 1000000 := by decide
theorem bnd_law {w land lo hi o1 : D} {tl : List D} {tail : TSD} (va : ∀ d ∈ [land, lo, hi], Va d) (hb : ∀ p, bndW land lo hi = some p → Lo Q (.str p) M)
    (hg : bndW land lo hi = none → tail ⟨fun _ M' => Lo Q .non M', Lo Q, fun _ _ => False, fun _ _ => False, Xd⟩ [some (.tup (w :: land :: lo :: hi :: tl)), some o1] M) : (sSeq (sIf (tNotD (dTru (dCall (W_law_is_word K c) [] (dCons (dOp ixD (dVar 0) (dC (.int 1))) (dCons (dLst (dCons (dC (.str "here")) (dCons (dC (.str "away")) (dNil)))) (dNil)))))) (sRet (dC (.str "land"))) (sNx)) (sSeq (sIf (tNotD (dTru (dCall (W_law_is_int K c) [] (dCons (dOp ixD (dVar 0) (dC (.int 2))) (dCons (dC (.int 0)) (dCons (dOp powD (dC (.int 10)) (dC (.int 6))) (dNil))))))) (sRet (dC (.str "low"))) (sNx)) (sSeq (sIf (tNotD (dTru (dCall (W_law_is_int K c) [] (dCons (dOp ixD (dVar 0) (dC (.int 3))) (dCons (dOp ixD (dVar 0) (dC (.int 2))) (dCons (dOp powD (dC (.int 10)) (dC (.int 6))) (dNil))))))) (sRet (dC (.str "high"))) (sNx)) tail))) ⟨fun _ M' => Lo Q .non M', Lo Q, fun _ _ => False, fun _ _ => False, Xd⟩ [some (.tup (w :: land :: lo :: hi :: tl)), some o1] M := by
  have v1 := va land (by simp)
  have v2 := va lo (by simp)
  have v3 := va hi (by simp)
  unfold bndW at hb hg
  repeat fail
  refine word2_k v1 ?_
  cases z1 : wordIn "here" "away" land
  · repeat fail
    exact hb _ (by rw [if_neg (by rw [z1]; exact Bool.false_ne_true)])
  · rw [if_pos z1] at hb hg
    repeat fail
    refine w_powI ⟨by decide, by decide, by decide⟩ ?_
    rw [pow6]
    repeat fail
    refine is_int_k v2 ?_
    cases z2 : intIn 0 1000000 lo
    · repeat fail
      exact hb _ (by rw [if_neg (by rw [z2]; exact Bool.false_ne_true)])
    · rw [if_pos z2] at hb hg
      obtain ⟨l, rfl⟩ : ∃ l, lo = .int l := by cases lo <;> first | exact ⟨_, rfl⟩ | cases z2
      repeat fail
      refine w_powI ⟨by decide, by decide, by decide⟩ ?_
      rw [pow6]
      repeat fail
      refine is_int_k v3 ?_
      have e : intIn l 1000000 hi = hiOk (.int l) hi := by cases hi <;> rfl
      rw [e]
      cases z3 : hiOk (.int l) hi
      · repeat fail
        exact hb _ (by rw [if_neg (by rw [z3]; exact Bool.false_ne_true)])
      · rw [if_pos z3] at hg
        repeat fail
        exact hg rfl
end
set_option maxHeartbeats 4000000
section
variable {K : Fg} {c : Nat → Addr} {M : Mem} {Q : QD} {Xd : XD}
theorem rule_law {land lo hi rule parts o1 : D} (v1 : Va rule) (v2 : Va parts) (h : Lo Q (resD (mkW rule parts)) M) : (sSeq (sIf (dTst (dOp eqD (dOp ixD (dVar 0) (dC (.int 0))) (dC (.str "raw")))) (sRet (dC .non)) (sNx)) (sSeq (sIf (tOrD (tNotD (dTru (dCB isiC (dCons (dOp ixD (dVar 0) (dC (.int 4))) (dCons (dC (.ty "tuple")) (dNil)))))) (tOrD (dTst (dOp neD (dCB lenC (dCons (dOp ixD (dVar 0) (dC (.int 4))) (dNil))) (dC (.int 3)))) (tNotD (dTru (dCall (W_law_is_int K c) [] (dCons (dOp ixD (dOp ixD (dVar 0) (dC (.int 4))) (dC (.int 0))) (dCons (dC (.int 0)) (dCons (dC (.int 100)) (dNil))))))))) (sRet (dC (.str "rule"))) (sNx)) (sSeq (sIf (tOrD (tNotD (dTru (dCall (W_law_is_word K c) [] (dCons (dOp ixD (dOp ixD (dVar 0) (dC (.int 4))) (dC (.int 1))) (dCons (dLst (dCons (dC (.str "whole")) (dCons (dC (.str "own")) (dNil)))) (dNil)))))) (tNotD (dTru (dCall (W_law_is_word K c) [] (dCons (dOp ixD (dOp ixD (dVar 0) (dC (.int 4))) (dC (.int 2))) (dCons (dLst (dCons (dC (.str "own")) (dCons (dC (.str "none")) (dNil)))) (dNil))))))) (sRet (dC (.str "rule"))) (sNx)) (sRet (dIte (tAndD (dTru (dCB isiC (dCons (dOp ixD (dVar 0) (dC (.int 5))) (dCons (dC (.ty "tuple")) (dNil))))) (dTst (dChain leD leD (dC (.int 1)) (dCB lenC (dCons (dOp ixD (dVar 0) (dC (.int 5))) (dNil))) (dC (.int 4))))) (dC .non) (dC (.str "parts"))))))) ⟨fun _ M' => Lo Q .non M', Lo Q, fun _ _ => False, fun _ _ => False, Xd⟩ [some (.tup [.str "made", land, lo, hi, rule, parts]), some o1] M := by
  have bad : ruleOk rule = false → Lo Q (.str "rule") M := fun z => by
    rw [show mkW rule parts = some ("rule" : Str) from by unfold mkW; rw [if_neg (by rw [z]; exact Bool.false_ne_true)]] at h
    exact h
  repeat fail
  refine w_eqS (by decide +kernel) (by decide +kernel) ?_
  rw [show decide ((Str.ofString "made") = (Str.ofString "raw")) = false from by decide +kernel]
  repeat fail
  refine isi_tup v1 ?_
  cases z : isTup rule
  · repeat fail
    exact bad (ruleOk_no fun x y z' e => by rw [e] at z; cases z)
  · obtain ⟨ds, rfl, va⟩ := tup_of v1 z
    repeat fail
    refine w_ifnd (fun q => ?_) fun q => ?_
    · repeat fail
      exact bad (ruleOk_no fun x y z' e => by cases e; exact q rfl)
    · obtain ⟨sh, up, dn, rfl⟩ := three (show ds.length = 3 by omega)
      have w1 := va sh (by simp)
      have w2 := va up (by simp)
      have w3 := va dn (by simp)
      have key : ruleOk (.tup [sh, up, dn]) = (intIn 0 100 sh && (wordIn "whole" "own" up && wordIn "own" "none" dn)) := rfl
      repeat fail
      refine is_int_k w1 ?_
      cases z1 : intIn 0 100 sh
      · repeat fail
        exact bad (by rw [key, z1]; rfl)
      · repeat fail
        refine word2_k w2 ?_
        cases z2 : wordIn "whole" "own" up
        · repeat fail
          exact bad (by rw [key, z2, Bool.false_and, Bool.and_false])
        · repeat fail
          refine word2_k w3 ?_
          cases z3 : wordIn "own" "none" dn
          · repeat fail
            exact bad (by rw [key, z3, Bool.and_false, Bool.and_false])
          · have good : ruleOk (.tup [sh, up, dn]) = true := by rw [key, z1, z2, z3]; rfl
            have no : partsOk parts = false → Lo Q (.str "parts") M := fun z => by
              rw [show mkW (.tup [sh, up, dn]) parts = some ("parts" : Str) from by unfold mkW; rw [if_pos good, if_neg (by rw [z]; exact Bool.false_ne_true)]] at h
              exact h
            have yes : partsOk parts = true → Lo Q .non M := fun z => by
              rw [show mkW (.tup [sh, up, dn]) parts = none from by unfold mkW; rw [if_pos good, if_pos z]] at h
              exact h
            repeat fail
            refine isi_tup v2 ?_
            cases zt : isTup parts
            · repeat fail
              exact no (by cases parts <;> first | rfl | cases zt)
            · obtain ⟨ps, rfl, vp⟩ := tup_of v2 zt
              repeat fail
              refine w_chd (fun q1 => ?_) fun q1 => ?_
              · repeat fail
                refine w_ifd (fun q2 => ?_) fun q2 => ?_
                · repeat fail
                  exact yes (by show (decide (1 ≤ ps.length) && decide (ps.length ≤ 4)) = _; rw [decide_eq_true (by omega), decide_eq_true (by omega)]; rfl)
                · repeat fail
                  exact no (by show (decide (1 ≤ ps.length) && decide (ps.length ≤ 4)) = _; rw [decide_eq_false (by omega : ¬ ps.length ≤ 4), Bool.and_false])
              · repeat fail
                exact no (by show (decide (1 ≤ ps.length) && decide (ps.length ≤ 4)) = _; rw [decide_eq_false (by omega : ¬ 1 ≤ ps.length), Bool.false_and])
theorem ix_szR {p : Addr} {ds : List D} (hM : M p = some (.dct [.inr "raw", .inr "made"] [.int 4, .int 6])) (h : Q (.int 4) M) : ixD (.ref p) (.str "raw") M Q := by
  rw [ix_d hM]; exact h
theorem ix_szM {p : Addr} {ds : List D} (hM : M p = some (.dct [.inr "raw", .inr "made"] [.int 4, .int 6])) (h : Q (.int 6) M) : ixD (.ref p) (.str "made") M Q := by
  rw [ix_d hM]; exact h
theorem wrong_k {d : D} (v : Va d) (h : Q (resD (wrongD d)) M) : W_law_wrong K c [d] M Q Xd := by
  refine E_law_wrong ?_
  repeat fail
  refine w_dct ?_
  intro p hp
  repeat fail
  refine ⟨Mem.put_same, ?_⟩
  rw [Mem.put_put]
  have hM : (M.put p (.dct [.inr "raw", .inr "made"] [.int 4, .int 6])) p = some (.dct [.inr "raw", .inr "made"] [.int 4, .int 6]) := Mem.put_same
  have ext : Ext M (M.put p (.dct [.inr "raw", .inr "made"] [.int 4, .int 6])) := fun x o e => by
    rw [Mem.put_ne (fun z => by subst z; rw [hp] at e; cases e)]; exact e
  dsimp only [List.map]
  generalize M.put p (.dct [.inr "raw", .inr "made"] [.int 4, .int 6]) = M1 at hM ext ⊢
  have fin : ∀ r, resD (wrongD d) = r → Lo Q r M1 := fun r e => by rw [← e]; exact lo_less ext h
  repeat fail
  refine isi_tup v ?_
  cases zt : isTup d
  · repeat fail
    exact fin _ (by cases d <;> first | rfl | cases zt)
  · obtain ⟨ds, rfl, va⟩ := tup_of v zt
    repeat fail
    refine w_eqE ?_
    cases ds with
    | nil =>
      rw [show ([] : List D).isEmpty = true from rfl]
      repeat fail
      exact fin _ rfl
    | cons w r =>
      have vw' := va w List.mem_cons_self
      have vr : ∀ d ∈ r, Va d := fun d hd => va d (List.mem_cons_of_mem _ hd)
      rw [show (w :: r).isEmpty = false from rfl]
      repeat fail
      refine word2_k vw' ?_
      cases zw : wordIn "raw" "made" w
      · repeat fail
        refine fin _ ?_
        have : wrongD (.tup (w :: r)) = some ("form" : Str) := by
          unfold wrongD
          split
          · rename_i x _ _ _ e
            cases e
            have zw' : (decide (x = "raw") || decide (x = "made")) = false := zw
            rw [if_neg (of_decide_eq_false (Bool.or_eq_false_iff.mp zw').1)]
          · rename_i x _ _ _ _ _ e
            cases e
            have zw' : (decide (x = "raw") || decide (x = "made")) = false := zw
            rw [if_neg (of_decide_eq_false (Bool.or_eq_false_iff.mp zw').2)]
          · rfl
        rw [this]; rfl
      · obtain ⟨x, rfl⟩ : ∃ x, w = .str x := by cases w <;> first | exact ⟨_, rfl⟩ | cases zw
        have zw' : (decide (x = "raw") || decide (x = "made")) = true := zw
        rcases Bool.or_eq_true_iff.mp zw' with e | e
        · have e := of_decide_eq_true e
          subst e
          repeat fail
          refine ix_szR (ds := r) hM ?_
          repeat fail
          refine w_ifnd (fun q => ?_) fun q => ?_
          · repeat fail
            refine fin _ ?_
            have : wrongD (.tup (.str "raw" :: r)) = some ("form" : Str) := by
              unfold wrongD
              split
              · rename_i e; cases e; exact absurd rfl q
              · rename_i e; cases e; rw [if_neg (by decide)]
              · rfl
            rw [this]; rfl
          · obtain ⟨a, b, z, rfl⟩ := three (show r.length = 3 by simp only [List.length_cons] at q; omega)
            have e3 : wrongD (.tup [.str "raw", a, b, z]) = bndW a b z := rfl
            refine w_nx ?_
            refine bnd_law vr (fun p' e => fin _ (by rw [e3, e]; rfl)) fun e => ?_
            repeat fail
            refine w_eqS (by decide +kernel) (by decide +kernel) ?_
            rw [show decide ((Str.ofString "raw") = (Str.ofString "raw")) = true from by decide +kernel]
            repeat fail
            exact fin _ (by rw [e3, e]; rfl)
        · have e := of_decide_eq_true e
          subst e
          repeat fail
          refine ix_szM (ds := r) hM ?_
          repeat fail
          refine w_ifnd (fun q => ?_) fun q => ?_
          · repeat fail
            refine fin _ ?_
            have : wrongD (.tup (.str "made" :: r)) = some ("form" : Str) := by
              unfold wrongD
              split
              · rename_i e; cases e; rw [if_neg (by decide)]
              · rename_i e; cases e; exact absurd rfl q
              · rfl
            rw [this]; rfl
          · obtain ⟨a, b, z, y, ps, rfl⟩ := five (show r.length = 5 by simp only [List.length_cons] at q; omega)
            have e3 : wrongD (.tup [.str "made", a, b, z, y, ps]) = (match bndW a b z with | some p => some p | none => mkW y ps) := rfl
            refine w_nx ?_
            refine bnd_law (tl := [y, ps]) (fun d hd => vr d (by simp only [List.mem_cons, List.not_mem_nil, or_false] at hd ⊢; rcases hd with h | h | h <;> simp [h])) (fun p' e => fin _ (by rw [e3, e]; rfl)) fun e => ?_
            refine rule_law (vr y (by simp)) (vr ps (by simp)) (fin _ (by rw [e3, e]))
end
set_option maxHeartbeats 2000000
def sK : List Key := [.inr "things", .inr "made"]
def sV (n k : Nat) : List D := [.int n, .int k]
def Sn (p : Addr) (n k : Nat) (M : Mem) : Prop := M p = some (.dct sK (sV n k))
section
variable {K : Fg} {c : Nat → Addr} {M : Mem} {Q : QD} {Xd : XD}
theorem starts_k {d : D} (v : Va d) (h : Q (.bl (startsD d)) M) : W_law_starts K c [d] M Q Xd := by
  refine E_law_starts ?_
  repeat fail
  refine isi_tup v ?_
  cases zt : isTup d
  · repeat fail
    rw [show startsD d = false from by cases d <;> first | rfl | cases zt] at h
    exact lo_same h
  · obtain ⟨ds, rfl, va⟩ := tup_of v zt
    repeat fail
    refine w_neE ?_
    cases ds with
    | nil =>
      rw [show (!([] : List D).isEmpty) = false from rfl]
      repeat fail
      exact lo_same h
    | cons w r =>
      rw [show (!(w :: r).isEmpty) = true from rfl]
      repeat fail
      refine word_k (L := [("made" : Str)]) (va w List.mem_cons_self) ?_
      have e : wordL [("made" : Str)] w = startsD (.tup (w :: r)) := by
        cases w with
        | str x =>
          show decide (x ∈ [("made" : Str)]) = decide (x = "made")
          by_cases z : x = "made"
          · rw [decide_eq_true z, decide_eq_true (by rw [z]; simp)]
          · rw [decide_eq_false z, decide_eq_false (by simpa using z)]
        | _ => rfl
      rw [e]
      exact lo_same h
theorem sn_th {p : Addr} {n k : Nat} (S : Sn p n k M) (h : Q (.int (n : Int)) M) : ixD (.ref p) (.str "things") M Q := by
  rw [ix_d S]; exact h
theorem sn_md {p : Addr} {n k : Nat} (S : Sn p n k M) (h : Q (.int (k : Int)) M) : ixD (.ref p) (.str "made") M Q := by
  rw [ix_d S]; exact h
theorem sn_set1 {p : Addr} {n k : Nat} {x : Int} {kk : Mem → Prop} (S : Sn p n k M) (e : x = (n : Int) + 1) (h : ∀ M', Sn p (n + 1) k M' → (∀ y, y ≠ p → M' y = M y) → kk M') : setK (.ref p) (.str "things") (.int x) kk M := by
  rw [set_d S]
  refine ⟨by decide, h _ ?_ fun y hy => Mem.put_ne hy⟩
  show (M.put p _) p = _
  rw [Mem.put_same, e]; rfl
theorem sn_set2 {p : Addr} {n k j : Nat} {x : Int} {kk : Mem → Prop} (S : Sn p n k M) (e : x = (j : Int)) (h : ∀ M', Sn p n j M' → (∀ y, y ≠ p → M' y = M y) → kk M') : setK (.ref p) (.str "made") (.int x) kk M := by
  rw [set_d S]
  refine ⟨by decide, h _ ?_ fun y hy => Mem.put_ne hy⟩
  show (M.put p _) p = _
  rw [Mem.put_same, e]; rfl
def stN (d : D) : Nat := if startsD d = true then 1 else 0
theorem pre_fw {d : D} {p : Addr} {m n k : Nat} (va : Va d) (S : Sn p n k M) (hk : k ≤ 4)
    (hmany : (n = 10 ∨ (startsD d = true ∧ k = 4)) → ∀ M', (∀ x, x ≠ p → M' x = M x) → Q (.tup [.int (n : Int), .str "many"]) M')
    (hgo : ¬ (n = 10 ∨ (startsD d = true ∧ k = 4)) → ∀ M', Sn p (n + 1) (k + stN d) M' → (∀ x, x ≠ p → M' x = M x) → (sSeq (sIf (dTst (dOp isNotD (dVar 3) (dC .non))) (sRet (dTup (dCons (dVar 2) (dCons (dVar 3) (dNil))))) (sNx)) (sSeq (sFor (iSeqD (dIte (dTst (dOp eqD (dOp ixD (dVar 0) (dC (.int 0))) (dC (.str "made")))) (dOp ixD (dVar 0) (dC (.int 5))) (dTup (dNil)))) (gNm 4) (sSeq (sSet 5 (dCall (W_law_first_wrong K c m) [] (dCons (dVar 4) (dCons (dVar 1) (dNil))))) (sIf (dTst (dOp isNotD (dVar 5) (dC .non))) (sRet (dVar 5)) (sNx)))) (sRet (dC .non)))) ⟨fun _ M' => Lo Q .non M', Lo Q, fun _ _ => False, fun _ _ => False, Xd⟩ [some d, some (.ref p), some (.int (n : Int)), some (resD (wrongD d)), none, none] M') :
    W_law_first_wrong K c (m + 1) [d, .ref p] M Q Xd := by
  refine E_law_first_wrong ?_
  repeat fail
  refine sn_th S ?_
  repeat fail
  refine sn_md S ?_
  repeat fail
  refine starts_k va ?_
  repeat fail
  refine sn_set1 S rfl fun M1 S1 o1 => ?_
  repeat fail
  refine sn_set2 (j := k + stN d) S1 (by unfold stN; cases startsD d <;> simp) fun M2 S2 o2 => ?_
  have o : ∀ x, x ≠ p → M2 x = M x := fun x hx => (o2 x hx).trans (o1 x hx)
  repeat fail
  refine w_ifd (fun q1 => ?_) fun q1 => ?_
  · repeat fail
    exact lo_same (hmany (.inl (by omega)) M2 o)
  · repeat fail
    refine starts_k va ?_
    cases hs : startsD d
    · repeat fail
      have e0 : stN d = 0 := by unfold stN; rw [hs]; rfl
      refine wrong_k va ?_
      refine hgo (fun z => ?_) M2 S2 o
      rcases z with z | ⟨z, _⟩
      · omega
      · rw [hs] at z; cases z
    · have e1 : stN d = 1 := by unfold stN; rw [hs]; rfl
      repeat fail
      refine sn_md S2 ?_
      repeat fail
      refine w_ifd (fun q2 => ?_) fun q2 => ?_
      · repeat fail
        exact lo_same (hmany (.inr ⟨hs, by omega⟩) M2 o)
      · repeat fail
        refine wrong_k va ?_
        refine hgo (fun z => ?_) M2 S2 o
        rcases z with z | ⟨_, z⟩ <;> omega
theorem raw_d {t : Th} (h : t.ok) : wrongD t.d = none := by
  have hb : ∀ {b : Bool} {l r : Int}, bnd l r → bndW (landD b) (.int l) (.int r) = none := fun {b l r} h => by
    obtain ⟨h1, h2, h3⟩ := h
    have e1 : wordIn "here" "away" (landD b) = true := by cases b <;> decide +kernel
    have e2 : intIn 0 1000000 (.int l) = true := by show (decide (0 ≤ l) && decide (l ≤ 1000000)) = true; rw [decide_eq_true h1, decide_eq_true (by omega)]; rfl
    have e3 : hiOk (.int l) (.int r) = true := by show (decide (l ≤ r) && decide (r ≤ 1000000)) = true; rw [decide_eq_true h2, decide_eq_true h3]; rfl
    unfold bndW
    rw [if_pos e1, if_pos e2, if_pos e3]
  cases t with
  | raw b l r => exact hb h
  | made b l r sh u w ps =>
    obtain ⟨h1, h2, h3, h4⟩ := h
    show (match bndW (landD b) (.int l) (.int r) with | some p => some p | none => mkW (termD sh u w) (.tup (Th.ds ps))) = none
    rw [hb h1]
    have e1 : ruleOk (termD sh u w) = true := by
      show ((decide (0 ≤ sh) && decide (sh ≤ 100)) && (wordIn "whole" "own" (.str (MH.upS u)) && wordIn "own" "none" (.str (MH.dnS w)))) = true
      rw [decide_eq_true h2.1, decide_eq_true h2.2]
      cases u <;> cases w <;> decide +kernel
    have e2 : partsOk (.tup (Th.ds ps)) = true := by
      show (decide (1 ≤ (Th.ds ps).length) && decide ((Th.ds ps).length ≤ 4)) = true
      rw [ds_map, List.length_map, decide_eq_true h3.1, decide_eq_true h3.2]; rfl
    show mkW _ _ = none
    unfold mkW
    rw [if_pos e1, if_pos e2]
mutual
theorem va_th : ∀ t : Th, Va t.d
  | .raw b l r => .tup _ fun d hd => by
    simp only [List.mem_cons, List.not_mem_nil, or_false] at hd
    rcases hd with rfl | rfl | rfl | rfl
    · exact .str _ (by decide +kernel)
    · cases b <;> exact .str _ (by decide +kernel)
    · exact .int _
    · exact .int _
  | .made b l r sh u w ps => .tup _ fun d hd => by
    simp only [List.mem_cons, List.not_mem_nil, or_false] at hd
    rcases hd with rfl | rfl | rfl | rfl | rfl | rfl
    · exact .str _ (by decide +kernel)
    · cases b <;> exact .str _ (by decide +kernel)
    · exact .int _
    · exact .int _
    · refine .tup _ fun d hd => ?_
      simp only [List.mem_cons, List.not_mem_nil, or_false] at hd
      rcases hd with rfl | rfl | rfl
      · exact .int _
      · cases u <;> exact .str _ (by decide +kernel)
      · cases w <;> exact .str _ (by decide +kernel)
    · exact .tup _ (va_ths ps)
theorem va_ths : ∀ ts : List Th, ∀ d ∈ Th.ds ts, Va d
  | [], d, hd => by simp [Th.ds] at hd
  | t :: ts, d, hd => by
    simp only [Th.ds, List.mem_cons] at hd
    rcases hd with rfl | hd
    · exact va_th t
    · exact va_ths ts d hd
end
def FwOk (K : Fg) (c : Nat → Addr) (m : Nat) : Prop := ∀ (t : Th) (p : Addr) (n k : Nat) (M : Mem) (Q : QD) (Xd : XD), t.ok → t.st + 1 ≤ m → n + t.sz ≤ 10 → k + t.st ≤ 4 → Sn p n k M → (∀ M', Sn p (n + t.sz) (k + t.st) M' → (∀ x, x ≠ p → M' x = M x) → Q .non M') → W_law_first_wrong K c m [t.d, .ref p] M Q Xd
theorem fw_loop {m : Nat} (ih : FwOk K c m) {p : Addr} {nx bk ct : SD → Mem → Prop} {rt : QD} {Wt : Mem → Prop} (hW : ∀ M, Wt M) {d0 x2 x3 : Option D} {rest : List D} :
    ∀ (ts : List Th) (n k : Nat) (M : Mem) (o4 o5 : Option D), Th.oks ts → Th.sts ts + 1 ≤ m → n + Th.szs ts ≤ 10 → k + Th.sts ts ≤ 4 → Sn p n k M →
      (∀ M' o4 o5, Sn p (n + Th.szs ts) (k + Th.sts ts) M' → (∀ x, x ≠ p → M' x = M x) → sForL (gNm 4) (sSeq (sSet 5 (dCall (W_law_first_wrong K c m) [] (dCons (dVar 4) (dCons (dVar 1) (dNil))))) (sIf (dTst (dOp isNotD (dVar 5) (dC .non))) (sRet (dVar 5)) (sNx))) ⟨nx, rt, bk, ct, Xd⟩ Wt rest [d0, some (.ref p), x2, x3, o4, o5] M') →
      sForL (gNm 4) (sSeq (sSet 5 (dCall (W_law_first_wrong K c m) [] (dCons (dVar 4) (dCons (dVar 1) (dNil))))) (sIf (dTst (dOp isNotD (dVar 5) (dC .non))) (sRet (dVar 5)) (sNx))) ⟨nx, rt, bk, ct, Xd⟩ Wt (Th.ds ts ++ rest) [d0, some (.ref p), x2, x3, o4, o5] M
  | [], n, k, M, o4, o5, _, _, _, _, S, h => h M _ _ (by simpa [Th.szs, Th.sts] using S) fun _ _ => rfl
  | t :: ts, n, k, M, o4, o5, h1, h2, h3, h4, S, h => by
    simp only [Th.sts, Th.szs] at h2 h3 h4 h
    refine w_forCons (hW _) ?_
    repeat fail
    refine ih t p n k M _ _ h1.1 (by omega) (by omega) (by omega) S fun M1 S1 o1 => ?_
    repeat fail
    refine fw_loop ih hW ts (n + t.sz) (k + t.st) M1 _ _ h1.2 (by omega) (by omega) (by omega) S1 fun M' a b S' o' => ?_
    exact h M' a b (by rw [← Nat.add_assoc, ← Nat.add_assoc]; exact S') fun x hx => (o' x hx).trans (o1 x hx)
theorem fw_fine : ∀ m : Nat, FwOk K c m
  | 0 => fun _ _ _ _ _ _ _ _ h _ _ _ _ => by omega
  | m + 1 => fun t p n k M Q Xd hok hm hn hk S h => by
    have hp := sz_pos t
    refine pre_fw (va_th t) S (by omega) (fun z => ?_) fun _ M1 S1 o1 => ?_
    · exfalso
      rcases z with z | ⟨z, z2⟩
      · omega
      · cases t with
        | raw _ _ _ => exact absurd (show decide (("raw" : Str) = "made") = true from z) (by decide +kernel)
        | made _ _ _ _ _ _ _ => simp only [Th.st] at hk; omega
    · rw [raw_d hok]
      cases t with
      | raw b l r =>
        have e0 : stN (Th.raw b l r).d = 0 := by
          unfold stN
          rw [show startsD (Th.raw b l r).d = false from by show decide (("raw" : Str) = "made") = false; decide +kernel]; rfl
        rw [e0] at S1
        rw [Th.d]
        unfold resD
        repeat fail
        refine w_eqS (by decide +kernel) (by decide +kernel) ?_
        rw [show decide ((Str.ofString "raw") = (Str.ofString "made")) = false from by decide +kernel]
        repeat fail
        refine w_forNil wat_none ?_
        repeat fail
        exact lo_same (h M1 (by simpa [Th.sz, Th.st] using S1) o1)
      | made b l r sh u w ps =>
        obtain ⟨h1, h2, h3, h4⟩ := hok
        have e0 : stN (Th.made b l r sh u w ps).d = 1 := by
          unfold stN
          rw [show startsD (Th.made b l r sh u w ps).d = true from by show decide (("made" : Str) = "made") = true; decide +kernel]; rfl
        rw [e0] at S1
        simp only [Th.sz, Th.st] at hm hn hk h
        rw [Th.d]
        unfold resD
        repeat fail
        refine w_eqS (by decide +kernel) (by decide +kernel) ?_
        rw [show decide ((Str.ofString "made") = (Str.ofString "made")) = true from by decide +kernel]
        repeat fail
        have e9 : Th.ds ps = Th.ds ps ++ [] := (List.append_nil _).symm
        rw [e9]
        refine fw_loop (fw_fine m) (fun _ => wat_none) ps (n + 1) (k + 1) M1 _ _ h4 (by omega) (by omega) (by omega) S1 fun M2 o4 o5 S2 o2 => ?_
        refine w_forNil wat_none ?_
        repeat fail
        exact lo_same (h M2 (by rw [← Nat.add_assoc, ← Nat.add_assoc]; exact S2) fun x hx => (o2 x hx).trans (o1 x hx))
theorem fw_fault {d : D} {n k n' : Nat} {w : Str} (h : Fault d n k n' w) : ∀ (va : Va d) (m : Nat) (p : Addr) (M : Mem) (Q : QD) (Xd : XD), 6 ≤ m + k → Sn p n k M → (∀ M', (∀ x, x ≠ p → M' x = M x) → Q (.tup [.int (n' : Int), .str w]) M') → W_law_first_wrong K c m [d, .ref p] M Q Xd := by
  induction h with
  | many hn hk hm =>
    intro va m p M Q Xd hf S hb
    obtain ⟨m, rfl⟩ : ∃ j, m = j + 1 := ⟨m - 1, by omega⟩
    exact pre_fw va S hk (fun _ M' o => hb M' o) fun z => absurd hm z
  | own hn hk hs hw =>
    intro va m p M Q Xd hf S hb
    obtain ⟨m, rfl⟩ : ∃ j, m = j + 1 := ⟨m - 1, by omega⟩
    refine pre_fw va S hk (fun z => ?_) fun _ M1 S1 o1 => ?_
    · rcases z with z | ⟨z, z2⟩
      · omega
      · have := hs z; omega
    · rw [hw]
      unfold resD
      repeat fail
      exact lo_same (hb M1 o1)
  | @inner land lo hi rule e ts rest n k n' w hn hk hw ho h1 h2 hf' ih =>
    intro va m p M Q Xd hf S hb
    obtain ⟨m, rfl⟩ : ∃ j, m = j + 1 := ⟨m - 1, by omega⟩
    have ve : Va e := by
      unfold madeD at va
      cases va with
      | tup _ h =>
        have := h (.tup (Th.ds ts ++ e :: rest)) (by simp)
        cases this with
        | tup _ h => exact h e (by simp)
    refine pre_fw va S (by omega) (fun z => ?_) fun _ M1 S1 o1 => ?_
    · rcases z with z | ⟨_, z⟩ <;> omega
    · rw [hw]
      have e0 : stN (madeD land lo hi rule (.tup (Th.ds ts ++ e :: rest))) = 1 := by
        unfold stN
        rw [show startsD (madeD land lo hi rule (.tup (Th.ds ts ++ e :: rest))) = true from by show decide (("made" : Str) = "made") = true; decide +kernel]; rfl
      rw [e0] at S1
      unfold madeD resD
      repeat fail
      refine w_eqS (by decide +kernel) (by decide +kernel) ?_
      rw [show decide ((Str.ofString "made") = (Str.ofString "made")) = true from by decide +kernel]
      repeat fail
      refine fw_loop (fw_fine m) (fun _ => wat_none) ts (n + 1) (k + 1) M1 _ _ ho (by omega) (by omega) (by omega) S1 fun M2 o4 o5 S2 o2 => ?_
      refine w_forCons wat_none ?_
      repeat fail
      refine ih ve m p M2 _ _ (by omega) S2 fun M3 o3 => ?_
      repeat fail
      exact lo_same (hb M3 fun x hx => ((o3 x hx).trans (o2 x hx)).trans (o1 x hx))
end
set_option maxHeartbeats 2000000
def mvP (x : Th) : Bool := decide (lowOf x < higOf x)
mutual
theorem fl_mv : ∀ t : Th, (t.fl.filter mvP).length = t.mv
  | .raw h lo hi => by
    simp only [Th.fl, Th.mv, mv1]
    by_cases z : lo < hi
    · rw [List.filter_cons_of_pos (by show decide (lo < hi) = true; exact decide_eq_true z), if_pos z]; rfl
    · rw [List.filter_cons_of_neg (by show ¬ decide (lo < hi) = true; rw [decide_eq_false z]; exact Bool.false_ne_true), if_neg z]; rfl
  | .made h lo hi sh u w ps => by
    simp only [Th.fl, Th.mv, mv1]
    by_cases z : lo < hi
    · rw [List.filter_cons_of_pos (by show decide (lo < hi) = true; exact decide_eq_true z), if_pos z, List.length_cons, fls_mv ps]; omega
    · rw [List.filter_cons_of_neg (by show ¬ decide (lo < hi) = true; rw [decide_eq_false z]; exact Bool.false_ne_true), if_neg z, fls_mv ps]; omega
theorem fls_mv : ∀ ts : List Th, ((Th.fls ts).filter mvP).length = Th.mvs ts
  | [] => rfl
  | t :: ts => by simp only [Th.fls, Th.mvs]; rw [List.filter_append, List.length_append, fl_mv t, fls_mv ts]
end
section
variable {K : Fg} {c : Nat → Addr} {M : Mem} {Q : QD} {Xd : XD}
def lowP (x : Th) : Bool := decide (0 < lowOf x)
theorem ones (L : List Th) : (L.map fun _ => D.int 1) = (L.map fun _ => (1 : Int)).map D.int := by rw [List.map_map]; rfl
theorem due_k {d r : D} (va : Va d) (vd : Vd d r) (h : Q r M) : W_law_due K c [d] M Q Xd := by
  refine E_law_due ?_
  repeat fail
  refine w_dct ?_
  intro p hp
  repeat fail
  refine ⟨Mem.put_same, ?_⟩
  rw [Mem.put_put]
  dsimp only [List.map]
  have S : Sn p 0 0 (M.put p (.dct [.inr "things", .inr "made"] [.int 0, .int 0])) := Mem.put_same
  have oth : ∀ x, x ≠ p → (M.put p (.dct [.inr "things", .inr "made"] [.int 0, .int 0])) x = M x := fun x hx => Mem.put_ne hx
  generalize M.put p (.dct [.inr "things", .inr "made"] [.int 0, .int 0]) = M1 at S oth
  have ext : ∀ M', (∀ x, x ≠ p → M' x = M1 x) → Ext M M' := fun M' o x u e => by
    have ne : x ≠ p := fun z => by subst z; rw [hp] at e; cases e
    rw [o x ne, oth x ne]; exact e
  have fine : ∀ t : Th, d = t.d → t.ok → t.sz ≤ 10 → t.st ≤ 4 → (∀ q, dueT t = some q → Q (.tup [.int 0, .str q]) M) → (dueT t = none → Q (.lst [t.d]) M) → W_law_first_wrong K c 10 [d, .ref p] M1 (fun d_1 M2 => (sSeq (sIf (dTst (dOp isNotD (dVar 1) (dC .non))) (sRet (dVar 1)) (sNx)) (sSeq (sIf (dTst (dOp eqD (dOp ixD (dVar 0) (dC (.int 0))) (dC (.str "raw")))) (sRet (dTup (dCons (dC (.int 0)) (dCons (dC (.str "raw")) (dNil))))) (sNx)) (sSeq (sSet 2 (dLc (iSeqD (dCall (W_law_rows K c 8) [] (dCons (dVar 0) (dCons (dC (.int 0)) (dNil))))) (gTp 2 (gCo (gNm 3) (gCo (gNm 4) (gNi)))) (tYesD) (dVar 3) [3, 4])) (sSeq (sIf (dTst (dOp gtD (dCB lenC (dCons (dLc (iSeqD (dVar 2)) (gNm 3) (dTst (dOp ltD (dOp ixD (dVar 3) (dC (.int 2))) (dOp ixD (dVar 3) (dC (.int 3))))) (dC (.int 1)) [3]) (dNil))) (dC (.int 3)))) (sRet (dTup (dCons (dC (.int 0)) (dCons (dC (.str "moves")) (dNil))))) (sNx)) (sRet (dIte (dTst (dOp neD (dLc (iSeqD (dVar 2)) (gNm 3) (dTst (dOp gtD (dOp ixD (dVar 3) (dC (.int 2))) (dC (.int 0)))) (dC (.int 1)) [3]) (dLst (dNil)))) (dLst (dCons (dVar 0) (dNil))) (dTup (dCons (dC (.int 0)) (dCons (dC (.str "nothing")) (dNil)))))))))) ⟨fun _ M' => Lo Q .non M', Lo Q, fun _ _ => False, fun _ _ => False, Xd⟩ [some d, some d_1, none, none, none] M2) Xd := fun t ed hok hz hst hb hg => by
    subst ed
    refine fw_fine 10 t p 0 0 M1 _ _ hok (by omega) (by omega) (by omega) S fun M2 S2 o2 => ?_
    have e2 := ext M2 o2
    repeat fail
    unfold dueT at hb hg
    cases t with
    | raw b l r =>
      have hb := hb _ (if_pos rfl)
      rw [Th.d]
      repeat fail
      refine w_eqS (by decide +kernel) (by decide +kernel) ?_
      rw [show decide ((Str.ofString "raw") = (Str.ofString "raw")) = true from by decide +kernel]
      repeat fail
      exact lo_less e2 hb
    | made b l r sh u w ps =>
      rw [if_neg (by exact Bool.noConfusion)] at hb hg
      have hf := hok
      rw [Th.d]
      repeat fail
      refine w_eqS (by decide +kernel) (by decide +kernel) ?_
      rw [show decide ((Str.ofString "made") = (Str.ofString "raw")) = false from by decide +kernel]
      have back : D.tup [.str "made", landD b, .int l, .int r, termD sh u w, .tup (Th.ds ps)] = (Th.made b l r sh u w ps).d := rfl
      rw [back]
      generalize Th.made b l r sh u w ps = t at hok hz hst hb hg S2
      repeat fail
      refine w_lc ?_
      repeat fail
      refine rows_k 8 t 0 _ _ _ (by omega) (by omega) ?_
      refine w_itemL ?_
      simp only [wipeD, List.set_cons_succ, List.set_cons_zero]
      intro q hq
      refine lc_gen (F := rowD) (h := fun e => e.1.d) hq (fun _ => wat_none) (rows t 0) (by rw [rows_len, sizeLine_eq]; omega) (fun e he acc K1 h1 => ?_) ?_
      · unfold rowD
        repeat fail
        exact h1
      have e3 : ((rows t 0).map fun e => e.1.d) = t.fl.map Th.d := by rw [fl_rows t 0, List.map_map]; rfl
      rw [e3]
      repeat fail
      refine w_lc ?_
      repeat fail
      simp only [wipeD, List.set_cons_succ, List.set_cons_zero]
      intro q2 hq2
      refine lc_genF (F := Th.d) (h := fun _ => D.int 1) (P := mvP) hq2 (fun _ => wat_none) t.fl [] (by rw [List.length_nil, fl_len, sizeLine_eq]; omega) (fun x hx acc K1 K0 k1 k0 => ?_) ?_
      · repeat fail
        refine d_ix2' ?_
        repeat fail
        refine d_ix3' ?_
        repeat fail
        refine w_ifd (fun z => ?_) fun z => ?_
        · repeat fail
          exact k1 (decide_eq_true z)
        · exact k0 (decide_eq_false z)
      rw [List.nil_append]
      repeat fail
      have el : (((t.fl.filter mvP).map fun _ => D.int 1).length : Int) = (t.mv : Int) := by rw [List.length_map, fl_mv]
      rw [el]
      by_cases z2 : 3 < t.mv
      · rw [if_pos z2] at hb
        refine w_ifdT (by omega) ?_
        repeat fail
        exact lo_less e2 (hb _ rfl)
      · rw [if_neg z2] at hb hg
        refine w_ifdF (by omega) ?_
        repeat fail
        refine w_lc ?_
        repeat fail
        simp only [wipeD, List.set_cons_succ, List.set_cons_zero]
        intro q3 hq3
        refine lc_genF (F := Th.d) (h := fun _ => D.int 1) (P := lowP) hq3 (fun _ => wat_none) t.fl [] (by rw [List.length_nil, fl_len, sizeLine_eq]; omega) (fun x hx acc K1 K0 k1 k0 => ?_) ?_
        · repeat fail
          refine d_ix2' ?_
          repeat fail
          refine w_ifd (fun z => ?_) fun z => ?_
          · repeat fail
            exact k1 (decide_eq_true (by omega))
          · exact k0 (decide_eq_false (by omega))
        rw [List.nil_append, ones]
        repeat fail
        refine w_neO (eq_nil _) ?_
        by_cases z3 : t.any = false
        · rw [if_pos z3] at hb
          have en : t.fl.filter lowP = [] := List.filter_eq_nil_iff.mpr fun x hx e => by
            have := none_fl t z3 x hx
            have := of_decide_eq_true (show decide (0 < lowOf x) = true from e)
            omega
          rw [en]
          repeat fail
          exact lo_less e2 (hb _ rfl)
        · rw [if_neg z3] at hg
          have en : ((t.fl.filter lowP).map fun _ => (1 : Int)) ≠ [] := fun e => by
            obtain ⟨x, hx, hl⟩ := any_fl t (by simpa using z3)
            have hm : x ∈ t.fl.filter lowP := List.mem_filter.mpr ⟨hx, decide_eq_true hl⟩
            rw [List.map_eq_nil_iff.mp e] at hm; cases hm
          rw [decide_eq_false en]
          repeat fail
          exact lo_less e2 (hg rfl)
  cases vd with
  | good t hg =>
    refine fine t rfl hg.ok hg.sz hg.st (fun q e => ?_) fun _ => h
    unfold dueT at e
    rw [if_neg (by rw [hg.made]; exact Bool.noConfusion), if_neg (by have := hg.mv; omega), if_neg (by rw [hg.any]; exact Bool.noConfusion)] at e
    cases e
  | @bad _ n q hb =>
    rcases hb with hf | ⟨t, e, h1, h2, h3, h4, e0⟩
    · refine fw_fault hf va 10 p M1 _ _ (by decide) S fun M2 o2 => ?_
      repeat fail
      exact lo_less (ext M2 o2) h
    · subst e0
      exact fine t e h1 h2 h3 (fun q' e' => by rw [h4] at e'; cases e'; exact h) fun e' => by rw [h4] at e'; cases e'
end
set_option maxHeartbeats 1000000
def pickT (P : Th → Bool) : List Th → Nat → List Nat
  | [], _ => []
  | x :: xs, b => (if P x = true then [b] else []) ++ pickT P xs (b + 1)
theorem pickT_app (P : Th → Bool) : ∀ (xs ys : List Th) (b : Nat), pickT P (xs ++ ys) b = pickT P xs b ++ pickT P ys (b + xs.length)
  | [], ys, b => rfl
  | x :: xs, ys, b => by
    have e : b + 1 + xs.length = b + (x :: xs).length := by rw [List.length_cons]; omega
    rw [List.cons_append, pickT, pickT_app P xs ys, pickT, List.append_assoc, e]
mutual
theorem mds_pick : ∀ (t : Th) (b : Nat), t.mds b = pickT Th.isMade t.fl b
  | .raw _ _ _, b => rfl
  | .made _ _ _ _ _ _ ps, b => by
    rw [Th.mds, mdss_pick ps (b + 1), Th.fl, pickT]; rfl
theorem mdss_pick : ∀ (ts : List Th) (b : Nat), Th.mdss ts b = pickT Th.isMade (Th.fls ts) b
  | [], b => rfl
  | t :: ts, b => by
    rw [Th.mdss, mds_pick t b, mdss_pick ts, Th.fls, pickT_app, fl_len]
end
theorem mvn1_pick (x : Th) (b : Nat) : mvn1 (lowOf x) (higOf x) b = if mvP x = true then [b] else [] := by
  unfold mvn1 mvP
  by_cases z : lowOf x < higOf x
  · rw [if_pos z, decide_eq_true z]; rfl
  · rw [if_neg z, decide_eq_false z]; rfl
mutual
theorem mvn_pick : ∀ (t : Th) (b : Nat), t.mvn b = pickT mvP t.fl b
  | .raw h lo hi, b => by
    rw [Th.mvn, Th.fl, pickT, pickT, List.append_nil]; exact mvn1_pick (.raw h lo hi) b
  | .made h lo hi s u w ps, b => by
    rw [Th.mvn, mvns_pick ps (b + 1), Th.fl, pickT, ← mvn1_pick]; rfl
theorem mvns_pick : ∀ (ts : List Th) (b : Nat), Th.mvns ts b = pickT mvP (Th.fls ts) b
  | [], b => rfl
  | t :: ts, b => by
    rw [Th.mvns, mvn_pick t b, mvns_pick ts, Th.fls, pickT_app, fl_len]
end
theorem pickT_range (P : Th → Bool) (g : Nat → Th) : ∀ (n b : Nat), pickT P ((List.range' b n).map g) b = (List.range' b n).filter fun j => P (g j)
  | 0, b => rfl
  | n + 1, b => by
    rw [List.range'_succ, List.map_cons, pickT, pickT_range P g n (b + 1), List.filter_cons]
    by_cases z : P (g b) = true
    · rw [if_pos z, if_pos z]; rfl
    · rw [if_neg z, if_neg z]; rfl
def mkL (t : Th) : List Nat := (List.range t.sz).filter fun j => (TT t j).isMade
def mvL (t : Th) : List Nat := (List.range t.sz).filter fun j => mvP (TT t j)
theorem mds_eq (t : Th) : t.mds 0 = mkL t := by
  rw [mds_pick, fl_at, List.range_eq_range', pickT_range, ← List.range_eq_range']; rfl
theorem mvn_eq (t : Th) : t.mvn 0 = mvL t := by
  rw [mvn_pick, fl_at, List.range_eq_range', pickT_range, ← List.range_eq_range']; rfl
section
variable {K : Fg} {c : Nat → Addr} {M : Mem} {Q : QD} {Xd : XD}
theorem things_k {t : Th} (hg : t.good) (h : Q (.tup (Th.ds t.fl)) M) : Wthings K c [t.d] M Q Xd := by
  refine Ethings ?_
  repeat fail
  refine over_k hg ?_
  repeat fail
  exact lo_same h
theorem steps_k {t : Th} (hg : t.good) (h : Q (.tup ((mkL t).map nI)) M) : Wsteps K c [t.d] M Q Xd := by
  refine Esteps ?_
  repeat fail
  refine over_k hg ?_
  rw [mds_eq]
  repeat fail
  exact lo_same h
theorem moves_k {t : Th} (hg : t.good) (h : Q (.tup ((mvL t).map nI)) M) : Wmoves K c [t.d] M Q Xd := by
  refine Emoves ?_
  repeat fail
  refine over_k hg ?_
  rw [mvn_eq]
  repeat fail
  exact lo_same h
def endD (f : Th → Int) (x : Th) : D := .tup [.int (f x), .int 1]
theorem lows_k {t : Th} (hg : t.good) (h : Q (.tup (t.fl.map (endD lowOf))) M) : Wlows K c [t.d] M Q Xd := by
  refine Elows ?_
  repeat fail
  refine w_lc ?_
  repeat fail
  refine things_k hg ?_
  rw [ds_map]
  repeat fail
  simp only [wipeD, List.set_cons_succ, List.set_cons_zero]
  intro q hq
  refine lc_gen (F := Th.d) (h := endD lowOf) hq (fun _ => wat_none) t.fl (by have := hg.sz; rw [fl_len, sizeLine_eq]; omega) (fun x hx acc K1 h1 => ?_) ?_
  · repeat fail
    refine d_ix2' ?_
    repeat fail
    exact h1
  · repeat fail
    exact lo_same h
theorem highs_k {t : Th} (hg : t.good) (h : Q (.tup (t.fl.map (endD higOf))) M) : Whighs K c [t.d] M Q Xd := by
  refine Ehighs ?_
  repeat fail
  refine w_lc ?_
  repeat fail
  refine things_k hg ?_
  rw [ds_map]
  repeat fail
  simp only [wipeD, List.set_cons_succ, List.set_cons_zero]
  intro q hq
  refine lc_gen (F := Th.d) (h := endD higOf) hq (fun _ => wat_none) t.fl (by have := hg.sz; rw [fl_len, sizeLine_eq]; omega) (fun x hx acc K1 h1 => ?_) ?_
  · repeat fail
    refine d_ix3' ?_
    repeat fail
    exact h1
  · repeat fail
    exact lo_same h
end
set_option maxHeartbeats 2000000
/-! ### data that can be shown: weight, depth -/
def RXs (m d : Nat) (xs : List D) : Prop := ∃ ps, toPyXs xs = some ps ∧ RBs m d ps ∧ ps.length = xs.length
theorem rxs_nil {d : Nat} : RXs 0 d [] := ⟨[], rfl, rbs_nil, rfl⟩
theorem rxs_cons {m m' d : Nat} {x : D} {xs : List D} (hx : RX m d x) (h : RXs m' d xs) : RXs (m + m') d (x :: xs) := by
  obtain ⟨p, h1, h2⟩ := hx
  obtain ⟨ps, k1, k2, k3⟩ := h
  exact ⟨p :: ps, by rw [toPyXs, h1, k1], rbs_cons h2 k2, by rw [List.length_cons, List.length_cons, k3]⟩
theorem rxs_tup {m d : Nat} {xs : List D} (h : RXs m d xs) : RX (m + 2 * xs.length + 3) (d + 1) (.tup xs) := by
  obtain ⟨ps, h1, h2, h3⟩ := h
  have hl := tupleText_len_le (PyData.shownAll ps)
  have := h2.len
  have := h2.n
  have := h2.dep
  refine ⟨.tuple ps, by rw [toPyX, h1]; rfl, by simp only [PyData.showable]; exact h2.sh, ?_, by simp only [PyData.depth]; omega, by simp only [PyData.shown]; exact ok_tuple h2.ok⟩
  simp only [PyData.shown]; omega
theorem rxs_lst {m d : Nat} {xs : List D} (h : RXs m d xs) : RX (m + 2 * xs.length + 3) (d + 1) (.lst xs) := by
  obtain ⟨ps, h1, h2, h3⟩ := h
  have hl := listText_len_le (PyData.shownAll ps)
  have := h2.len
  have := h2.n
  have := h2.dep
  refine ⟨.list ps, by rw [toPyX, h1]; rfl, by simp only [PyData.showable]; exact h2.sh, ?_, by simp only [PyData.depth]; omega, by simp only [PyData.shown]; exact ok_list h2.ok⟩
  simp only [PyData.shown]; omega
mutual
def wt : D → Nat
  | .tup ds => 4 + wts ds
  | .lst ds => 4 + wts ds
  | _ => 70
def wts : List D → Nat
  | [] => 0
  | d :: ds => wt d + 2 + wts ds
end
mutual
def dpt : D → Nat
  | .tup ds => dpts ds + 1
  | .lst ds => dpts ds + 1
  | _ => 1
def dpts : List D → Nat
  | [] => 0
  | d :: ds => max (dpt d) (dpts ds)
end
inductive Ok (N : Nat) : D → Prop
  | non : Ok N .non
  | bl (b : Bool) : Ok N (.bl b)
  | int (i : Int) (h : i.natAbs ≤ N) : Ok N (.int i)
  | str (x : Str) (h1 : PyData.strOk x = true) (h2 : PyData.strOk (reprText x) = true) (h3 : (reprText x).length ≤ 66) : Ok N (.str x)
  | tup (ds : List D) (h : ∀ d ∈ ds, Ok N d) : Ok N (.tup ds)
  | lst (ds : List D) (h : ∀ d ∈ ds, Ok N d) : Ok N (.lst ds)
  | dct : Ok N (.dct [] [])
theorem Ok.va {N : Nat} {d : D} (h : Ok N d) : Va d := by
  induction h with
  | non => exact .non
  | bl b => exact .bl b
  | int i _ => exact .int i
  | str x h _ _ => exact .str x h
  | tup ds _ ih => exact .tup ds ih
  | lst ds _ _ => exact .lst ds
  | dct => exact .dct _ _
theorem Ok.mono {N N' : Nat} {d : D} (h : Ok N d) (le : N ≤ N') : Ok N' d := by
  induction h with
  | non => exact .non
  | bl b => exact .bl b
  | int i h => exact .int i (by omega)
  | str x h1 h2 h3 => exact .str x h1 h2 h3
  | tup ds _ ih => exact .tup ds ih
  | lst ds _ ih => exact .lst ds ih
  | dct => exact .dct
theorem rxs_of : ∀ {ds : List D} {b : Nat}, (∀ d ∈ ds, RX (wt d) (dpt d) d) → dpts ds ≤ b → ∃ m, RXs m b ds ∧ m + 2 * ds.length = wts ds
  | [], b, _, _ => ⟨0, rxs_nil, rfl⟩
  | d :: ds, b, h, hb => by
    simp only [dpts] at hb
    obtain ⟨m, h1, h2⟩ := rxs_of (ds := ds) (b := b) (fun x hx => h x (List.mem_cons_of_mem _ hx)) (by omega)
    refine ⟨wt d + m, rxs_cons ((h d List.mem_cons_self).mono (Nat.le_refl _) (by omega)) h1, ?_⟩
    simp only [wts, List.length_cons]; omega
theorem Ok.rx {N : Nat} {d : D} (h : Ok N d) (hN : N ≤ 2 ^ 64) : RX (wt d) (dpt d) d := by
  induction h with
  | non => exact rxB_ok (by decide +kernel)
  | bl b => cases b <;> exact rxB_ok (by decide +kernel)
  | int i h => exact (rx_int (by omega)).mono (by simp only [wt]; decide) (Nat.zero_le _)
  | str x h1 h2 h3 => exact ⟨_, rfl, (rb_str h2 h3).mono (by simp only [wt]; decide) (Nat.zero_le _)⟩
  | tup ds _ ih =>
    obtain ⟨m, h1, h2⟩ := rxs_of ih (Nat.le_refl _)
    exact (rxs_tup h1).mono (by simp only [wt]; omega) (by simp only [dpt]; omega)
  | lst ds _ ih =>
    obtain ⟨m, h1, h2⟩ := rxs_of ih (Nat.le_refl _)
    exact (rxs_lst h1).mono (by simp only [wt]; omega) (by simp only [dpt]; omega)
  | dct => exact rxB_ok (by decide +kernel)
/-! closed data, looked at -/
mutual
def okB (N : Nat) : D → Bool
  | .non => true
  | .bl _ => true
  | .int i => decide (i.natAbs ≤ N)
  | .str x => PyData.strOk x && (PyData.strOk (reprText x) && decide ((reprText x).length ≤ 66))
  | .tup ds => okBs N ds
  | .lst ds => okBs N ds
  | .dct [] [] => true
  | _ => false
def okBs (N : Nat) : List D → Bool
  | [] => true
  | d :: ds => okB N d && okBs N ds
end
mutual
theorem okB_ok {N : Nat} : ∀ {d : D}, okB N d = true → Ok N d
  | .non, _ => .non
  | .bl b, _ => .bl b
  | .int i, h => .int i (of_decide_eq_true h)
  | .str x, h => by
    have h' : (PyData.strOk x && (PyData.strOk (reprText x) && decide ((reprText x).length ≤ 66))) = true := h
    obtain ⟨h1, h2⟩ := Bool.and_eq_true_iff.mp h'
    obtain ⟨h2, h3⟩ := Bool.and_eq_true_iff.mp h2
    exact .str x h1 h2 (of_decide_eq_true h3)
  | .tup ds, h => .tup ds (okBs_ok (show okBs N ds = true from h))
  | .lst ds, h => .lst ds (okBs_ok (show okBs N ds = true from h))
  | .dct [] [], _ => .dct
  | .dct (_ :: _) _, h => by cases h
  | .dct [] (_ :: _), h => by cases h
  | .ref _, h => by cases h
  | .ty _, h => by cases h
  | .fzn _, h => by cases h
  | .exn _ _ _, h => by cases h
  | .kdt _ _, h => by cases h
  | .lam _ _ _ _ _ _, h => by cases h
theorem okBs_ok {N : Nat} : ∀ {ds : List D}, okBs N ds = true → ∀ d ∈ ds, Ok N d
  | [], _ => fun d hd => by cases hd
  | x :: ds, h =>
    have h' : okB N x = true ∧ okBs N ds = true := Bool.and_eq_true_iff.mp h
    have a := okB_ok h'.1
    have b := okBs_ok h'.2
    fun d hd => by
      rcases List.mem_cons.mp hd with e | hd
      · rw [e]; exact a
      · exact b d hd
end
theorem wts_app : ∀ xs ys : List D, wts (xs ++ ys) = wts xs + wts ys
  | [], ys => by simp [wts]
  | x :: xs, ys => by rw [List.cons_append, wts, wts, wts_app xs ys]; omega
theorem dpts_app : ∀ xs ys : List D, dpts (xs ++ ys) = max (dpts xs) (dpts ys)
  | [], ys => by simp [dpts]
  | x :: xs, ys => by rw [List.cons_append, dpts, dpts, dpts_app xs ys]; omega
theorem dpts_le {ds : List D} {k : Nat} (h : ∀ d ∈ ds, dpt d ≤ k) : dpts ds ≤ k := by
  induction ds with
  | nil => exact Nat.zero_le _
  | cons d ds ih =>
    rw [dpts]
    have h1 := h d List.mem_cons_self
    have h2 := ih fun x hx => h x (List.mem_cons_of_mem _ hx)
    omega
theorem le_dpts {ds : List D} {d : D} (h : d ∈ ds) : dpt d ≤ dpts ds := by
  induction ds with
  | nil => cases h
  | cons x ds ih =>
    rw [dpts]
    rcases List.mem_cons.mp h with rfl | h
    · omega
    · have := ih h; omega
theorem wts_rev : ∀ xs : List D, wts xs.reverse = wts xs
  | [] => rfl
  | x :: xs => by rw [List.reverse_cons, wts_app, wts_rev xs, wts, wts, wts]; omega
/-! ### the odd things -/
def oddL : List D := [.non, .bl true, .int 0, .int 1, .int (-1), .int 101, .int 1000001, .str "", .str "raw", .str "made", .str "here", .str "whole", .str "none", .tup [], .tup [.str "raw"], .lst [], .dct [] [],
  .tup [.str "raw", .str "here", .int 1, .int 1], .tup [.str "raw", .str "away", .int 0, .int 5], .tup [.int 50, .str "whole", .str "own"],
  .tup [.tup [.str "raw", .str "here", .int 0, .int 0], .tup [.str "raw", .str "here", .int 0, .int 0], .tup [.str "raw", .str "here", .int 0, .int 0], .tup [.str "raw", .str "here", .int 0, .int 0], .tup [.str "raw", .str "here", .int 0, .int 0]],
  .tup [.str "made"], .tup [.str "made", .str "here", .int 0, .int 0, .tup [.int 0, .str "own", .str "own"], .tup [.tup [.str "raw", .str "here", .int 1, .int 2]]]]
theorem odd_ok : okBs 1000001 oddL = true := by decide +kernel
theorem odd_wt : (oddL.all fun d => decide (wt d ≤ 1600) && decide (dpt d ≤ 4)) = true := by decide +kernel
set_option maxHeartbeats 1000000
section
variable {K : Fg} {c : Nat → Addr} {M : Mem} {Q : QD} {Xd : XD}
theorem w_mulTI {ds : List D} {k : Int} (hk : ds ≠ [] ∧ 2 ≤ k ∧ k ≤ 1000 ∧ ds.length ≤ 1000) (h : Q (.tup (repL k.toNat ds)) M) : mulD (.tup ds) (.int k) M Q := ⟨hk, h⟩
theorem odd_k {a : Addr} {cells : List Int} {b : Int} (hc : cells ≠ []) (hb : b < 2 ^ 47) (hD : Dr a cells b M) (h : ∀ d M', Ok 1000001 d → wt d ≤ 1600 → dpt d ≤ 4 → Dr a cells (b + 1) M' → Sm a M M' → Q d M') : W_law_odd K c [.ref a] M Q Xd := by
  refine E_law_odd ?_
  repeat fail
  refine w_powI ⟨by decide, by decide, by decide⟩ ?_
  rw [pow6]
  repeat fail
  refine w_mulTI ⟨by simp, by decide, by decide, by simp⟩ ?_
  repeat fail
  refine w_addL (by rw [sizeLine_eq]; simp) ?_
  repeat fail
  refine w_addL (by rw [sizeLine_eq]; simp) ?_
  repeat fail
  refine of_k (ds := oddL) hc (by omega) (by decide) (by decide) hD fun d M' hd hD' hS => ?_
  have e := List.all_eq_true.mp odd_wt d hd
  obtain ⟨e1, e2⟩ := Bool.and_eq_true_iff.mp e
  exact lo_same (h d M' (okBs_ok odd_ok d hd) (of_decide_eq_true e1) (of_decide_eq_true e2) hD' hS)
theorem cut_0 {α : Type} {xs : List α} {k : Nat} (h : k ≤ xs.length) : DL.cutD xs none (some (k : Int)) = xs.take k := by
  unfold DL.cutD
  rw [HT.sIx_nat, Nat.min_eq_left h]
  show (xs.drop 0).take (k - 0) = _
  rw [List.drop_zero, Nat.sub_zero]
theorem cut_1 {α : Type} {xs : List α} {k : Nat} (h : k ≤ xs.length) : DL.cutD xs (some (k : Int)) none = xs.drop k := by
  unfold DL.cutD
  rw [HT.sIx_nat, Nat.min_eq_left h]
  show (xs.drop k).take (xs.length - k) = _
  rw [List.take_of_length_le (by rw [List.length_drop]; exact Nat.le_refl _)]
/-- what stands before and behind a place -/
structure Pl (ds : List D) (k W E : Nat) : Prop where
  w : wts ds = W
  e : dpts ds = E
  wt_ : wts (ds.take k) ≤ W
  wd : wts (ds.drop k) ≤ W
  wd1 : wts (ds.drop (k + 1)) ≤ W
  ws : wts (ds.take k) + wts (ds.drop k) = W
  et : dpts (ds.take k) ≤ E
  ed : dpts (ds.drop k) ≤ E
  ed1 : dpts (ds.drop (k + 1)) ≤ E
  lt : (ds.take k).length ≤ ds.length
  ld : (ds.drop k).length ≤ ds.length
  ld1 : (ds.drop (k + 1)).length ≤ ds.length
theorem pl_of {ds : List D} {k : Nat} : Pl ds k (wts ds) (dpts ds) := by
  have e := congrArg wts (List.take_append_drop k ds)
  rw [wts_app] at e
  have e1 := congrArg wts (List.take_append_drop (k + 1) ds)
  rw [wts_app] at e1
  have sub : ∀ {ys : List D}, (∀ y ∈ ys, y ∈ ds) → dpts ys ≤ dpts ds := fun hy => dpts_le fun y h => le_dpts (hy y h)
  exact ⟨rfl, rfl, by omega, by omega, by omega, e, sub fun y h => List.mem_of_mem_take h, sub fun y h => List.mem_of_mem_drop h, sub fun y h => List.mem_of_mem_drop h, by rw [List.length_take]; omega, by rw [List.length_drop]; omega, by rw [List.length_drop]; omega⟩
theorem wt_at {ds : List D} {k : Nat} (hk : k < ds.length) : wt ds[k] + 2 ≤ wts ds := by
  have e := congrArg wts (List.take_append_drop k ds)
  rw [wts_app, ← List.getElem_cons_drop hk, wts] at e
  omega
theorem wts3 {xs ys : List D} {x : D} : wts (xs ++ [x] ++ ys) = wts xs + wt x + 2 + wts ys := by
  rw [wts_app, wts_app, wts, wts]; omega
theorem dpts3 {xs ys : List D} {x : D} {e : Nat} (h1 : dpts xs ≤ e) (h2 : dpt x ≤ e) (h3 : dpts ys ≤ e) : dpts (xs ++ [x] ++ ys) ≤ e := by
  rw [dpts_app, dpts_app, dpts, dpts]; omega
theorem ways_k {a : Addr} {N B W E m k : Nat} {wy : Int} {ds : List D} (hk : k < ds.length) (hl : ds.length ≤ 100000) (P : Pl ds k W E) (ok : ∀ d ∈ ds, Ok N d) {Pm : Mem → Prop}
    (here : Pm M) (odd : ∀ Q', (∀ d' M', Ok N d' → wt d' ≤ 1600 → dpt d' ≤ 4 → Pm M' → Q' d' M') → W_law_odd K c [.ref a] M Q' Xd)
    (rec_ : ∀ Q', (∀ d' M', Ok N d' → wt d' ≤ 2 * W + 1700 → dpt d' ≤ E + 5 → wt d' ≤ 2 * wt ds[k] + 1700 → Pm M' → Q' d' M') → W_law_bent K c m [.ref a, ds[k]] M Q' Xd)
    (h : ∀ d' M', Ok N d' → wt d' ≤ 2 * (4 + W) + 1700 → dpt d' ≤ E + 1 + 5 → Pm M' → Lo Q d' M') : (sSeq (sIf (dTst (dOp eqD (dVar 3) (dC (.int 0)))) (sRet (dOp addD (dSl (dVar 1) (oNo) (oSo (dVar 2))) (dSl (dVar 1) (oSo (dOp addD (dVar 2) (dC (.int 1)))) (oNo)))) (sNx)) (sSeq (sIf (dTst (dOp eqD (dVar 3) (dC (.int 1)))) (sRet (dOp addD (dOp addD (dSl (dVar 1) (oNo) (oSo (dVar 2))) (dTup (dCons (dOp ixD (dVar 1) (dVar 2)) (dNil)))) (dSl (dVar 1) (oSo (dVar 2)) (oNo)))) (sNx)) (sSeq (sIf (dTst (dOp eqD (dVar 3) (dC (.int 2)))) (sRet (dOp addD (dOp addD (dSl (dVar 1) (oNo) (oSo (dVar 2))) (dTup (dCons (dCall (W_law_odd K c) [] (dCons (dVar 0) (dNil))) (dNil)))) (dSl (dVar 1) (oSo (dVar 2)) (oNo)))) (sNx)) (sSeq (sIf (dTst (dOp eqD (dVar 3) (dC (.int 3)))) (sRet (dRevT (dVar 1))) (sNx)) (sRet (dOp addD (dOp addD (dSl (dVar 1) (oNo) (oSo (dVar 2))) (dTup (dCons (dCall (W_law_bent K c m) [] (dCons (dVar 0) (dCons (dOp ixD (dVar 1) (dVar 2)) (dNil)))) (dNil)))) (dSl (dVar 1) (oSo (dOp addD (dVar 2) (dC (.int 1)))) (oNo)))))))) ⟨fun _ M' => Lo Q .non M', Lo Q, fun _ _ => False, fun _ _ => False, Xd⟩ [some (.ref a), some (.tup ds), some (.int (k : Int)), some (.int wy)] M := by
  obtain ⟨p1, p2, p3, p4, p5, p6, p7, p8, p9, p10, p11, p12⟩ := P
  have e1 : ((k : Int) + 1) = ((k + 1 : Nat) : Int) := rfl
  have ot : ∀ y ∈ ds.take k, Ok N y := fun y z => ok y (List.mem_of_mem_take z)
  have od : ∀ y ∈ ds.drop k, Ok N y := fun y z => ok y (List.mem_of_mem_drop z)
  have od1 : ∀ y ∈ ds.drop (k + 1), Ok N y := fun y z => ok y (List.mem_of_mem_drop z)
  have app2 : ∀ {xs ys : List D}, (∀ y ∈ xs, Ok N y) → (∀ y ∈ ys, Ok N y) → Ok N (.tup (xs ++ ys)) := fun h1 h2 => .tup _ fun y hy => (List.mem_append.mp hy).elim (h1 y) (h2 y)
  have app3 : ∀ {xs ys : List D} {x : D}, (∀ y ∈ xs, Ok N y) → Ok N x → (∀ y ∈ ys, Ok N y) → Ok N (.tup (xs ++ [x] ++ ys)) := fun h1 hx h2 => .tup _ fun y hy => by
    rcases List.mem_append.mp hy with z | z
    · rcases List.mem_append.mp z with z | z
      · exact h1 y z
      · rw [List.mem_singleton] at z; rw [z]; exact hx
    · exact h2 y z
  have ga : atI ds (k : Int) = some ds[k] := atI_nat (List.getElem?_eq_getElem hk)
  have wk := wt_at hk
  have dk : dpt ds[k] ≤ E := by rw [← p2]; exact le_dpts (List.getElem_mem hk)
  repeat fail
  refine w_ifd (fun q1 => ?_) fun q1 => ?_
  · repeat fail
    rw [cut_0 (by omega), e1, cut_1 (by omega)]
    repeat fail
    refine w_addT (by rw [sizeLine_eq]; omega) ?_
    refine h _ M (app2 ot od1) ?_ ?_ here
    · simp only [wt]; rw [wts_app]; omega
    · simp only [dpt]; rw [dpts_app]; omega
  · repeat fail
    refine w_ifd (fun q2 => ?_) fun q2 => ?_
    · repeat fail
      refine w_ixT ga ?_
      repeat fail
      rw [cut_0 (by omega)]
      refine w_addT (by rw [sizeLine_eq, List.length_singleton]; omega) ?_
      repeat fail
      rw [cut_1 (by omega)]
      refine w_addT (by rw [sizeLine_eq, List.length_append, List.length_singleton]; omega) ?_
      refine h _ M (app3 ot (ok _ (List.getElem_mem hk)) od) ?_ ?_ here
      · simp only [wt]; rw [wts3]; omega
      · simp only [dpt]; have := dpts3 (e := E) p7 dk p8; omega
    · repeat fail
      refine w_ifd (fun q3 => ?_) fun q3 => ?_
      · repeat fail
        refine odd _ fun d' M' k1 k2 k3 k4 => ?_
        repeat fail
        rw [cut_0 (by omega)]
        refine w_addT (by rw [sizeLine_eq, List.length_singleton]; omega) ?_
        repeat fail
        rw [cut_1 (by omega)]
        refine w_addT (by rw [sizeLine_eq, List.length_append, List.length_singleton]; omega) ?_
        refine h _ M' (app3 ot k1 od) ?_ ?_ k4
        · simp only [wt]; rw [wts3]; omega
        · simp only [dpt]; have := dpts3 (e := E + 4) (by omega) (by omega) (show dpts (ds.drop k) ≤ E + 4 by omega) (xs := ds.take k) (x := d'); omega
      · repeat fail
        refine w_ifd (fun q4 => ?_) fun q4 => ?_
        · repeat fail
          refine h _ M (.tup _ fun y hy => ok y (List.mem_reverse.mp hy)) ?_ ?_ here
          · simp only [wt]; rw [wts_rev]; omega
          · simp only [dpt]
            have := dpts_le (ds := ds.reverse) (k := E) fun y hy => by rw [← p2]; exact le_dpts (List.mem_reverse.mp hy)
            omega
        · repeat fail
          refine w_ixT ga ?_
          repeat fail
          refine rec_ _ fun d' M' k1 k2 k3 k4 k5 => ?_
          repeat fail
          rw [cut_0 (by omega)]
          refine w_addT (by rw [sizeLine_eq, List.length_singleton]; omega) ?_
          repeat fail
          rw [e1, cut_1 (by omega)]
          refine w_addT (by rw [sizeLine_eq, List.length_append, List.length_singleton]; omega) ?_
          refine h _ M' (app3 ot k1 od1) ?_ ?_ k5
          · simp only [wt]; rw [wts3]
            have e := congrArg wts (List.take_append_drop k ds)
            rw [wts_app, ← List.getElem_cons_drop hk, wts] at e
            omega
          · simp only [dpt]; have := dpts3 (e := E + 5) (by omega) k3 (show dpts (ds.drop (k + 1)) ≤ E + 5 by omega) (xs := ds.take k) (x := d'); omega
end
set_option maxHeartbeats 1000000
section
variable {K : Fg} {c : Nat → Addr}
def BentOk (K : Fg) (c : Nat → Addr) (a : Addr) (cells : List Int) (N N2 m : Nat) : Prop := ∀ (d : D) (b : Int) (M : Mem) (Q : QD) (Xd : XD), Ok N d → dpt d ≤ m → wt d ≤ 100000 → b + 10 * m < 2 ^ 46 → Dr a cells b M →
    (∀ d' M', Ok N2 d' → wt d' ≤ 2 * wt d + 1700 → dpt d' ≤ dpt d + 5 → Dr a cells (b + 10 * m) M' → Sm a M M' → Q d' M') → W_law_bent K c m [.ref a, d] M Q Xd
theorem bent_int {a : Addr} {cells : List Int} (hc : cells ≠ []) {N N2 : Nat} {i : Int} {b : Int} {M : Mem} {Q : QD} {Xd : XD} (hi : i.natAbs ≤ N) (hb : b < 2 ^ 46) (hN2 : N + 1000000 ≤ N2) (hD : Dr a cells b M)
    (h2 : ∀ (j : Int) M', (i + j).natAbs ≤ N2 → Dr a cells (b + 1) M' → Sm a M M' → Q (.int j) M') :
    W_law_of K c [.ref a, .lst [.int 1, .int (-1), .int 100, .int 1000000]] M Q Xd := by
  refine of_k hc (by omega) (by simp) (by simp) hD fun d' M2 hd hD2 hS2 => ?_
  obtain ⟨j, rfl, hj⟩ : ∃ j : Int, d' = .int j ∧ j.natAbs ≤ 1000000 := by
    simp only [List.mem_cons, List.not_mem_nil, or_false] at hd
    rcases hd with rfl | rfl | rfl | rfl <;> exact ⟨_, rfl, by decide⟩
  exact h2 j M2 (by omega) hD2 hS2
theorem int_part {a : Addr} {cells : List Int} (hc : cells ≠ []) {N N2 : Nat} {d : D} {b : Int} {M : Mem} {Q : QD} {Xd : XD} {tail : TSD} (ok : Ok N d) (hb : b + 1 < 2 ^ 46) (h2 : N + 1000000 ≤ N2) (hD : Dr a cells b M)
    (h : ∀ d' M', Ok N2 d' → wt d' ≤ 70 → dpt d' ≤ 1 → Dr a cells (b + 2) M' → Sm a M M' → Q d' M') (join : ∀ M1, (∃ b1, b1 ≤ b + 1 ∧ Dr a cells b1 M1 ∧ Sm a M M1) → tail ⟨fun _ M' => Lo Q .non M', Lo Q, fun _ _ => False, fun _ _ => False, Xd⟩ [some (.ref a), some d, none, none] M1) :
    (sSeq (sIf (tAndD (dTru (dCB isiC (dCons (dVar 1) (dCons (dC (.ty "int")) (dNil))))) (tAndD (tNotD (dTru (dCB isiC (dCons (dVar 1) (dCons (dC (.ty "bool")) (dNil)))))) (dTst (dOp gtD (dCall (W_law_draw K c) [] (dCons (dVar 0) (dCons (dC (.int 3)) (dNil)))) (dC (.int 0)))))) (sRet (dOp addD (dVar 1) (dCall (W_law_of K c) [] (dCons (dVar 0) (dCons (dLst (dCons (dC (.int 1)) (dCons (dNeg (dC (.int 1))) (dCons (dC (.int 100)) (dCons (dOp powD (dC (.int 10)) (dC (.int 6))) (dNil)))))) (dNil)))))) (sNx)) tail) ⟨fun _ M' => Lo Q .non M', Lo Q, fun _ _ => False, fun _ _ => False, Xd⟩ [some (.ref a), some d, none, none] M := by
      have va := ok.va
      repeat fail
      refine isi_int va ?_
      cases zi : isInt d
      · repeat fail
        exact join M ⟨b, by omega, hD, Sm.refl⟩
      · repeat fail
        refine isi_bl va ?_
        cases zb : isBl d
        · obtain ⟨i, rfl⟩ := int_of va zi zb
          have hi : i.natAbs ≤ N := by
            cases ok with
            | int _ h => exact h
          repeat fail
          refine draw_k hc (by decide) (by decide) (by omega) hD fun r M1 r0 r1 hD1 hS1 => ?_
          repeat fail
          refine w_ifd (fun q => ?_) fun q => ?_
          · repeat fail
            refine w_powI ⟨by decide, by decide, by decide⟩ ?_
            rw [pow6]
            repeat fail
            refine bent_int hc hi (by omega) h2 hD1 fun j M2 hj hD2 hS2 => ?_
            · repeat fail
              exact lo_same (h _ M2 (.int _ hj) (by simp only [wt]; omega) (by simp only [dpt]; omega) (hD2.le (by omega)) (hS1.trans hS2))
          · repeat fail
            exact join M1 ⟨b + 1, by omega, hD1, hS1⟩
        · repeat fail
          exact join M ⟨b, by omega, hD, Sm.refl⟩
theorem bent_step {a : Addr} {cells : List Int} (hc : cells ≠ []) {N N2 m : Nat} (h1 : 1000001 ≤ N2) (h2 : N + 1000000 ≤ N2) (ih : BentOk K c a cells N N2 m) : BentOk K c a cells N N2 (m + 1) := by
    intro d b M Q Xd ok hm hw hb hD h
    have va := ok.va
    have odd : ∀ (M1 : Mem) (b1 : Int), b1 + 1 ≤ b + 10 * ((m + 1 : Nat) : Int) → Dr a cells b1 M1 → Sm a M M1 → W_law_odd K c [.ref a] M1 (Lo Q) Xd := fun M1 b1 hb1 hD1 hS1 => by
      refine odd_k hc (by omega) hD1 fun d' M2 k1 k2 k3 k4 k5 => ?_
      exact lo_same (h d' M2 (k1.mono h1) (by omega) (by omega) (k4.le (by omega)) (hS1.trans k5))
    refine E_law_bent ?_
    refine w_join (P := fun M1 => ∃ b1, b1 ≤ b + 1 ∧ Dr a cells b1 M1 ∧ Sm a M M1) (fun M1 ⟨b1, hb1, hD1, hS1⟩ => ?_) fun join => ?_
    · repeat fail
      refine isi_tup va ?_
      cases zt : isTup d
      · repeat fail
        exact odd M1 b1 (by omega) hD1 hS1
      · obtain ⟨ds, rfl, vd⟩ := tup_of va zt
        have od : ∀ d ∈ ds, Ok N d := by
          cases ok with
          | tup _ h => exact h
        repeat fail
        refine w_eqE ?_
        cases ze : ds.isEmpty
        · have hpos : 0 < ds.length := by
            cases ds with
            | nil => cases ze
            | cons _ _ => simp
          have hlen : ∀ xs : List D, xs.length ≤ wts xs := fun xs => by
            induction xs with
            | nil => exact Nat.zero_le _
            | cons x xs ih => rw [List.length_cons, wts]; omega
          have hl := hlen ds
          simp only [wt] at hw h
          simp only [dpt] at hm h
          repeat fail
          refine draw_k hc (by decide) (by decide) (by omega) hD1 fun r M2 r0 r1 hD2 hS2 => ?_
          repeat fail
          refine w_ifd (fun q => ?_) fun q => ?_
          · repeat fail
            exact odd M2 (b1 + 1) (by omega) hD2 (hS1.trans hS2)
          · repeat fail
            refine draw_k hc (by omega) (by omega) (by omega) hD2 fun pl M3 p0 p1 hD3 hS3 => ?_
            repeat fail
            refine draw_k hc (by decide) (by decide) (by omega) hD3 fun wy M4 w0 w1 hD4 hS4 => ?_
            have hS := ((hS1.trans hS2).trans hS3).trans hS4
            obtain ⟨k, rfl⟩ : ∃ k : Nat, pl = (k : Int) := ⟨pl.toNat, by omega⟩
            have hk : k < ds.length := by omega
            have dk : dpt ds[k] ≤ dpts ds := le_dpts (List.getElem_mem hk)
            have wk := wt_at hk
            refine ways_k (B := 0) (N := N2) (Pm := fun M' => Dr a cells (b + 10 * ((m + 1 : Nat) : Int)) M' ∧ Sm a M M') hk (by omega) pl_of (fun y hy => (od y hy).mono (by omega)) ⟨hD4.le (by omega), hS⟩ (fun Q' hq => ?_) (fun Q' hq => ?_) fun d' M' k1 k2 k3 k4 => ?_
            · refine odd_k hc (by omega) hD4 fun d' M5 k1 k2 k3 k4 k5 => ?_
              exact hq d' M5 (k1.mono h1) k2 k3 ⟨k4.le (by omega), hS.trans k5⟩
            · refine ih ds[k] (b1 + 1 + 1 + 1) M4 _ _ (od _ (List.getElem_mem hk)) (by omega) (by omega) (by omega) hD4 fun d' M5 k1 k2 k3 k4 k5 => ?_
              exact hq d' M5 k1 (by omega) (by omega) k2 ⟨k4.le (by omega), hS.trans k5⟩
            · exact lo_same (h d' M' k1 (by omega) (by omega) k4.1 k4.2)
        · repeat fail
          exact odd M1 b1 (by omega) hD1 hS1
    · exact int_part hc ok (by omega) h2 hD (fun d' M' k1 k2 k3 k4 k5 => h d' M' k1 (by omega) (by omega) (k4.le (by omega)) k5) join
theorem bent_k {a : Addr} {cells : List Int} (hc : cells ≠ []) {N N2 : Nat} (h1 : 1000001 ≤ N2) (h2 : N + 1000000 ≤ N2) (m : Nat) : BentOk K c a cells N N2 m := by
  induction m with
  | zero =>
    intro d b M Q Xd ok hm
    exfalso
    cases d <;> simp only [dpt] at hm <;> omega
  | succ m ih => exact bent_step hc h1 h2 ih
end
set_option maxHeartbeats 1000000
def bL : List D := [.tup [.str "made", .str "here", .int 0, .int 0, .tup [.int 50, .str "whole", .str "own"], .tup [.tup [.str "raw", .str "here", .int 1, .int 1], .tup [.str "raw", .str "here", .int 1, .int 1], .tup [.str "raw", .str "here", .int 1, .int 1], .tup [.str "raw", .str "here", .int 1, .int 1]]], .tup [.str "made", .str "here", .int 0, .int 0, .tup [.int 50, .str "whole", .str "own"], .tup [.tup [.str "raw", .str "here", .int 1, .int 1], .tup [.str "raw", .str "here", .int 1, .int 1], .tup [.str "raw", .str "here", .int 1, .int 1], .tup [.str "raw", .str "here", .int 1, .int 1], .tup [.str "raw", .str "here", .int 1, .int 1]]], .tup [.str "made", .str "here", .int 0, .int 0, .tup [.int 101, .str "whole", .str "own"], .tup [.tup [.str "raw", .str "here", .int 1, .int 1]]], .tup [.str "raw", .str "here", .int 1, .int 1], .tup [.str "made", .str "away", .int 0, .int 0, .tup [.int 50, .str "whole", .str "own"], .tup [.tup [.str "raw", .str "here", .int 1, .int 1]]], .tup [.str "made", .str "away", .int 0, .int 0, .tup [.int 50, .str "whole", .str "own"], .tup [.tup [.str "made", .str "away", .int 0, .int 0, .tup [.int 50, .str "whole", .str "own"], .tup [.tup [.str "raw", .str "here", .int 1, .int 1]]]]], .tup [.str "made", .str "away", .int 0, .int 0, .tup [.int 50, .str "whole", .str "own"], .tup [.tup [.str "made", .str "away", .int 0, .int 0, .tup [.int 50, .str "whole", .str "own"], .tup [.tup [.str "made", .str "away", .int 0, .int 0, .tup [.int 50, .str "whole", .str "own"], .tup [.tup [.str "raw", .str "here", .int 1, .int 1]]]]]]], .tup [.str "made", .str "away", .int 0, .int 0, .tup [.int 50, .str "whole", .str "own"], .tup [.tup [.str "made", .str "away", .int 0, .int 0, .tup [.int 50, .str "whole", .str "own"], .tup [.tup [.str "made", .str "away", .int 0, .int 0, .tup [.int 50, .str "whole", .str "own"], .tup [.tup [.str "made", .str "away", .int 0, .int 0, .tup [.int 50, .str "whole", .str "own"], .tup [.tup [.str "raw", .str "here", .int 1, .int 1]]]]]]]]], .tup [.str "made", .str "away", .int 0, .int 0, .tup [.int 50, .str "whole", .str "own"], .tup [.tup [.str "made", .str "away", .int 0, .int 0, .tup [.int 50, .str "whole", .str "own"], .tup [.tup [.str "made", .str "away", .int 0, .int 0, .tup [.int 50, .str "whole", .str "own"], .tup [.tup [.str "made", .str "away", .int 0, .int 0, .tup [.int 50, .str "whole", .str "own"], .tup [.tup [.str "made", .str "away", .int 0, .int 0, .tup [.int 50, .str "whole", .str "own"], .tup [.tup [.str "raw", .str "here", .int 1, .int 1]]]]]]]]]]], .tup [.str "made", .str "here", .int 0, .int 0, .tup [.int 50, .str "whole", .str "own"], .tup [.tup [.str "made", .str "here", .int 0, .int 0, .tup [.int 50, .str "whole", .str "own"], .tup [.tup [.str "raw", .str "here", .int 1, .int 1], .tup [.str "raw", .str "here", .int 1, .int 1], .tup [.str "raw", .str "here", .int 1, .int 1], .tup [.str "raw", .str "here", .int 1, .int 1]]], .tup [.str "raw", .str "here", .int 1, .int 1], .tup [.str "raw", .str "here", .int 1, .int 1], .tup [.str "raw", .str "here", .int 1, .int 1]]], .tup [.str "made", .str "here", .int 0, .int 0, .tup [.int 50, .str "whole", .str "own"], .tup [.tup [.str "made", .str "here", .int 0, .int 0, .tup [.int 50, .str "whole", .str "own"], .tup [.tup [.str "raw", .str "here", .int 1, .int 1], .tup [.str "raw", .str "here", .int 1, .int 1], .tup [.str "raw", .str "here", .int 1, .int 1], .tup [.str "raw", .str "here", .int 1, .int 1]]], .tup [.str "made", .str "here", .int 0, .int 0, .tup [.int 50, .str "whole", .str "own"], .tup [.tup [.str "raw", .str "here", .int 1, .int 1], .tup [.str "raw", .str "here", .int 1, .int 1], .tup [.str "raw", .str "here", .int 1, .int 1], .tup [.str "raw", .str "here", .int 1, .int 1]]]]], .tup [.str "made", .str "here", .int 0, .int 0, .tup [.int 50, .str "whole", .str "own"], .tup [.tup [.str "raw", .str "away", .int 0, .int 1], .tup [.str "raw", .str "away", .int 0, .int 1], .tup [.str "raw", .str "away", .int 0, .int 1]]], .tup [.str "made", .str "here", .int 0, .int 0, .tup [.int 50, .str "whole", .str "own"], .tup [.tup [.str "raw", .str "away", .int 0, .int 1], .tup [.str "raw", .str "away", .int 0, .int 1], .tup [.str "raw", .str "away", .int 0, .int 1], .tup [.str "raw", .str "away", .int 0, .int 1]]], .tup [.str "made", .str "here", .int 2, .int 1, .tup [.int 50, .str "whole", .str "own"], .tup [.tup [.str "raw", .str "here", .int 1, .int 1], .tup [.str "raw", .str "here", .int 1, .int 1], .tup [.str "raw", .str "here", .int 1, .int 1], .tup [.str "raw", .str "here", .int 1, .int 1]]], .tup [.str "made", .str "here", .int 0, .int 0, .tup [.int 50, .str "whole", .str "own"], .tup [.non, .tup [.str "raw", .str "here", .int 1, .int 1]]], .tup [.str "made", .str "here", .int 0, .int 0, .tup [.int 50, .str "whole", .str "own"], .tup [.tup [.str "raw", .str "here", .int 1, .int 1], .non, .int 5]], .tup [.str "made", .str "here", .int 0, .int 0, .tup [.int 50, .str "whole", .str "own"], .tup [.tup [.str "made", .str "here", .int 0, .int 0, .tup [.int 50, .str "whole", .str "own"], .tup [.tup [.str "raw", .str "here", .int 1, .int 1], .tup [.str "raw", .str "here", .int 1, .int 1], .tup [.str "raw", .str "here", .int 1, .int 1], .tup [.str "raw", .str "here", .int 1, .int 1]]], .tup [.str "raw", .str "here", .int 1, .int 1], .tup [.str "raw", .str "here", .int 1, .int 1], .tup [.str "made", .str "here", .int 0, .int 0, .tup [.int 50, .str "whole", .str "own"], .tup [.tup [.str "raw", .str "here", .int 1, .int 1]]]]], .tup [.str "made", .str "here", .int 0, .int 1000000, .tup [.int 50, .str "whole", .str "own"], .tup [.tup [.str "raw", .str "here", .int 1, .int 1], .tup [.str "raw", .str "here", .int 1, .int 1], .tup [.str "raw", .str "here", .int 1, .int 1], .tup [.str "raw", .str "here", .int 1, .int 1]]], .tup [.str "made", .str "here", .int 0, .int 0, .tup [.int 50, .str "whole", .str "own"], .tup [.tup [.str "raw", .str "here", .int 0, .int 0]]]]
theorem bL_ok : okBs 1000001 bL = true := by decide +kernel
theorem bL_wt : (bL.all fun d => decide (wt d ≤ 20000) && decide (dpt d ≤ 20)) = true := by decide +kernel
section
variable {K : Fg} {c : Nat → Addr} {M : Mem} {Q : QD} {Xd : XD}
theorem w_addRp {a : Addr} {ds es : List D} (hM : M a = some (.lst ds)) (hl : ds.length + es.length ≤ sizeLine) (h : Q (.lst (ds ++ es)) M) : addD (.ref a) (.lst es) M Q := by
  unfold addD; simp only [vw, vwO, hM]; exact ⟨hl, h⟩
theorem borders_k (h : Q (.lst bL) M) : W_law_borders K c [] M Q Xd := by
  refine E_law_borders ?_
  repeat fail
  refine w_mulTI ⟨by simp, by decide, by decide, by simp⟩ ?_
  repeat fail
  refine w_lstO ?_
  repeat fail
  refine w_mulTI ⟨by simp, by decide, by decide, by simp⟩ ?_
  repeat fail
  refine w_addT (by rw [sizeLine_eq]; decide) ?_
  repeat fail
  refine w_addT (by rw [sizeLine_eq]; decide) ?_
  repeat fail
  intro p hp
  repeat fail
  refine w_rng1 (by decide) ?_
  rw [show rngL 0 (5 : Int).toNat = [.int 0, .int 1, .int 2, .int 3, .int 4] from rfl]
  refine w_forCons wat_none ?_
  repeat fail
  refine w_appO Mem.put_same ?_
  repeat fail
  refine w_appK Mem.put_same (by rw [sizeLine_eq]; decide) ?_
  rw [Mem.put_put]
  refine w_forCons wat_none ?_
  repeat fail
  refine w_appO Mem.put_same ?_
  repeat fail
  refine w_appK Mem.put_same (by rw [sizeLine_eq]; decide) ?_
  rw [Mem.put_put]
  refine w_forCons wat_none ?_
  repeat fail
  refine w_appO Mem.put_same ?_
  repeat fail
  refine w_appK Mem.put_same (by rw [sizeLine_eq]; decide) ?_
  rw [Mem.put_put]
  refine w_forCons wat_none ?_
  repeat fail
  refine w_appO Mem.put_same ?_
  repeat fail
  refine w_appK Mem.put_same (by rw [sizeLine_eq]; decide) ?_
  rw [Mem.put_put]
  refine w_forCons wat_none ?_
  repeat fail
  refine w_appO Mem.put_same ?_
  repeat fail
  refine w_appK Mem.put_same (by rw [sizeLine_eq]; decide) ?_
  rw [Mem.put_put]
  refine w_forNil wat_none ?_
  repeat fail
  refine w_mulTI ⟨by simp, by decide, by decide, by simp⟩ ?_
  repeat fail
  refine w_addT (by rw [sizeLine_eq]; decide) ?_
  repeat fail
  refine w_addT (by rw [sizeLine_eq]; decide) ?_
  repeat fail
  iterate 6 (first | refine w_addT (by rw [sizeLine_eq]; decide) ?_; repeat fail | refine w_mulTI ⟨by simp, by decide, by decide, by simp⟩ ?_; repeat fail | skip)
  refine w_addRL Mem.put_same (by rw [sizeLine_eq]; decide) fun q hq => ?_
  repeat fail
  iterate 12 (first | refine w_addT (by rw [sizeLine_eq]; decide) ?_; repeat fail | refine w_mulTI ⟨by simp, by decide, by decide, by simp⟩ ?_; repeat fail | skip)
  refine w_addRL Mem.put_same (by rw [sizeLine_eq]; decide) fun r hr => ?_
  repeat fail
  iterate 12 (first | refine w_addT (by rw [sizeLine_eq]; decide) ?_; repeat fail | refine w_mulTI ⟨by simp, by decide, by decide, by simp⟩ ?_; repeat fail | skip)
  refine w_powI ⟨by decide, by decide, by decide⟩ ?_
  rw [pow6]
  repeat fail
  iterate 12 (first | refine w_addT (by rw [sizeLine_eq]; decide) ?_; repeat fail | refine w_mulTI ⟨by simp, by decide, by decide, by simp⟩ ?_; repeat fail | (refine w_powI ⟨by decide, by decide, by decide⟩ ?_; rw [pow6]; repeat fail) | skip)
  refine w_addRp Mem.put_same (by rw [sizeLine_eq]; decide) ?_
  refine lo_less (M0 := M) (((Ext.put (Ext.put (Ext.put Ext.refl hp) (Ext.none (Ext.put Ext.refl hp) hq)) (Ext.none (Ext.put (Ext.put Ext.refl hp) (Ext.none (Ext.put Ext.refl hp) hq)) hr)))) ?_
  refine Eq.mp (congrArg (fun l => Q (.lst l) M) (?_ : bL = _)) h
  rfl
end
set_option maxHeartbeats 1000000
/-! ### a thing and what is said of it can be shown -/
mutual
theorem wt_th : ∀ t : Th, wt t.d + 2 ≤ 600 * t.sz
  | .raw b l r => by
    cases b <;> simp only [Th.d, landD, wt, wts, Th.sz] <;> decide
  | .made b l r sh u w ps => by
    have h := wts_th ps
    have e : wt (Th.made b l r sh u w ps).d = 522 - 2 + wts (Th.ds ps) := by
      simp only [Th.d, landD, termD, wt, wts]; omega
    rw [e, Th.sz]; omega
theorem wts_th : ∀ ts : List Th, wts (Th.ds ts) ≤ 600 * Th.szs ts
  | [] => Nat.zero_le _
  | t :: ts => by
    have h1 := wt_th t
    have h2 := wts_th ts
    simp only [Th.ds, Th.szs, wts]; omega
end
mutual
theorem dpt_th : ∀ t : Th, dpt t.d ≤ 2 * t.st + 2
  | .raw b l r => by
    simp only [Th.d, landD, dpt, dpts, Th.st]; decide
  | .made b l r sh u w ps => by
    have h := dpts_th ps
    simp only [Th.d, landD, termD, dpt, dpts, Th.st]; omega
theorem dpts_th : ∀ ts : List Th, dpts (Th.ds ts) ≤ 2 * Th.sts ts + 2
  | [] => Nat.zero_le _
  | t :: ts => by
    have h1 := dpt_th t
    have h2 := dpts_th ts
    simp only [Th.ds, Th.sts, dpts]; omega
end
theorem ok_land (b : Bool) : Ok 1000000 (landD b) := by cases b <;> exact okB_ok (by decide +kernel)
theorem ok_term {sh : Int} {u w : Bool} (h : 0 ≤ sh ∧ sh ≤ 100) : Ok 1000000 (termD sh u w) := by
  refine .tup _ fun d hd => ?_
  simp only [List.mem_cons, List.not_mem_nil, or_false] at hd
  rcases hd with rfl | rfl | rfl
  · exact .int _ (by omega)
  · cases u <;> exact okB_ok (by decide +kernel)
  · cases w <;> exact okB_ok (by decide +kernel)
theorem ok_bnd {l r : Int} (h : bnd l r) : Ok 1000000 (.int l) ∧ Ok 1000000 (.int r) := by
  obtain ⟨h1, h2, h3⟩ := h
  exact ⟨.int _ (by omega), .int _ (by omega)⟩
mutual
theorem ok_th : ∀ t : Th, t.ok → Ok 1000000 t.d
  | .raw b l r, h => by
    have hb := ok_bnd (show bnd l r from h)
    refine .tup _ fun d hd => ?_
    simp only [List.mem_cons, List.not_mem_nil, or_false] at hd
    rcases hd with rfl | rfl | rfl | rfl
    · exact okB_ok (by decide +kernel)
    · exact ok_land b
    · exact hb.1
    · exact hb.2
  | .made b l r sh u w ps, h => by
    obtain ⟨h1, h2, h3, h4⟩ := h
    have hb := ok_bnd h1
    have hp := ok_ths ps h4
    refine .tup _ fun d hd => ?_
    simp only [List.mem_cons, List.not_mem_nil, or_false] at hd
    rcases hd with rfl | rfl | rfl | rfl | rfl | rfl
    · exact okB_ok (by decide +kernel)
    · exact ok_land b
    · exact hb.1
    · exact hb.2
    · exact ok_term h2
    · exact .tup _ hp
theorem ok_ths : ∀ ts : List Th, Th.oks ts → ∀ d ∈ Th.ds ts, Ok 1000000 d
  | [], _, d, hd => by cases hd
  | t :: ts, h, d, hd => by
    simp only [Th.ds] at hd
    rcases List.mem_cons.mp hd with e | hd
    · rw [e]; exact ok_th t h.1
    · exact ok_ths ts h.2 d hd
end
mutual
theorem fl_in : ∀ t : Th, t.ok → ∀ x ∈ t.fl, x.ok ∧ x.sz ≤ t.sz ∧ x.st ≤ t.st
  | .raw b l r, h, x, hx => by
    simp only [Th.fl, List.mem_singleton] at hx
    subst hx; exact ⟨h, Nat.le_refl _, Nat.le_refl _⟩
  | .made b l r sh u w ps, h, x, hx => by
    simp only [Th.fl] at hx
    rcases List.mem_cons.mp hx with e | hx
    · subst e; exact ⟨h, Nat.le_refl _, Nat.le_refl _⟩
    · obtain ⟨h1, h2, h3⟩ := fls_in ps h.2.2.2 x hx
      exact ⟨h1, by simp only [Th.sz]; omega, by simp only [Th.st]; omega⟩
theorem fls_in : ∀ ts : List Th, Th.oks ts → ∀ x ∈ Th.fls ts, x.ok ∧ x.sz ≤ Th.szs ts ∧ x.st ≤ Th.sts ts
  | [], _, x, hx => by simp [Th.fls] at hx
  | t :: ts, h, x, hx => by
    simp only [Th.fls] at hx
    rcases List.mem_append.mp hx with hx | hx
    · obtain ⟨h1, h2, h3⟩ := fl_in t h.1 x hx
      exact ⟨h1, by simp only [Th.szs]; omega, by simp only [Th.sts]; omega⟩
    · obtain ⟨h1, h2, h3⟩ := fls_in ts h.2 x hx
      exact ⟨h1, by simp only [Th.szs]; omega, by simp only [Th.sts]; omega⟩
end
def Sx (d : D) : Prop := Ok (2 ^ 40) d ∧ wt d ≤ 100000 ∧ dpt d ≤ 40
theorem Sx.va {d : D} (h : Sx d) : Va d := h.1.va
theorem Sx.rx {d : D} (h : Sx d) : RX 100000 40 d := (h.1.rx (by decide)).mono h.2.1 h.2.2
def whyL : List Str := ["many", "form", "land", "low", "high", "rule", "parts", "raw", "moves", "nothing"]
theorem why_ok : okBs 10 (whyL.map D.str) = true := by decide +kernel
theorem bndW_in {a b d : D} {p : Str} (h : bndW a b d = some p) : p ∈ whyL := by
  unfold bndW at h
  by_cases z1 : wordIn "here" "away" a = true
  · rw [if_pos z1] at h
    by_cases z2 : intIn 0 1000000 b = true
    · rw [if_pos z2] at h
      by_cases z3 : hiOk b d = true
      · rw [if_pos z3] at h; cases h
      · rw [if_neg z3] at h; cases h; decide +kernel
    · rw [if_neg z2] at h; cases h; decide +kernel
  · rw [if_neg z1] at h; cases h; decide +kernel
theorem mkW_in {a b : D} {p : Str} (h : mkW a b = some p) : p ∈ whyL := by
  unfold mkW at h
  by_cases z1 : ruleOk a = true
  · rw [if_pos z1] at h
    by_cases z2 : partsOk b = true
    · rw [if_pos z2] at h; cases h
    · rw [if_neg z2] at h; cases h; decide +kernel
  · rw [if_neg z1] at h; cases h; decide +kernel
theorem wrong_in {d : D} {p : Str} (h : wrongD d = some p) : p ∈ whyL := by
  unfold wrongD at h
  split at h
  · rename_i w land lo hi
    by_cases z : w = "raw"
    · rw [if_pos z] at h; exact bndW_in h
    · rw [if_neg z] at h; cases h; decide +kernel
  · rename_i w land lo hi rule parts
    by_cases z : w = "made"
    · rw [if_pos z] at h
      split at h
      · rename_i q hq
        cases h; exact bndW_in hq
      · exact mkW_in h
    · rw [if_neg z] at h; cases h; decide +kernel
  · cases h; decide +kernel
theorem fault_in {d : D} {n k n' : Nat} {p : Str} (h : Fault d n k n' p) : n' ≤ 10 ∧ p ∈ whyL := by
  induction h with
  | many hn _ _ => exact ⟨hn, by decide +kernel⟩
  | own hn _ _ h => exact ⟨by omega, wrong_in h⟩
  | inner _ _ _ _ _ _ _ ih => exact ih
theorem due_in {t : Th} {p : Str} (h : dueT t = some p) : p ∈ whyL := by
  unfold dueT at h
  by_cases z1 : t.isMade = false
  · rw [if_pos z1] at h; cases h; decide +kernel
  · rw [if_neg z1] at h
    by_cases z2 : 3 < t.mv
    · rw [if_pos z2] at h; cases h; decide +kernel
    · rw [if_neg z2] at h
      by_cases z3 : t.any = false
      · rw [if_pos z3] at h; cases h; decide +kernel
      · rw [if_neg z3] at h; cases h
theorem rx_r {d r : D} (h : Sx d) (vd : Vd d r) : RX 101000 42 r ∧ ∀ M, vw M r = r := by
  cases vd with
  | good t hg =>
    obtain ⟨h1, h2, h3⟩ := h
    refine ⟨(Ok.rx (N := 2 ^ 40) (.lst _ fun x hx => ?_) (by decide)).mono ?_ ?_, fun _ => rfl⟩
    · rw [List.mem_singleton] at hx; rw [hx]; exact h1
    · simp only [wt, wts]; omega
    · simp only [dpt, dpts]; omega
  | @bad _ n p hb =>
    have key : n ≤ 10 ∧ p ∈ whyL := by
      rcases hb with hf | ⟨t, _, _, _, _, e, e0⟩
      · exact fault_in hf
      · exact ⟨by omega, due_in e⟩
    have hp := okBs_ok why_ok _ (List.mem_map_of_mem key.2)
    refine ⟨(Ok.rx (N := 10) (.tup _ fun x hx => ?_) (by decide)).mono ?_ ?_, fun _ => rfl⟩
    · simp only [List.mem_cons, List.not_mem_nil, or_false] at hx
      rcases hx with rfl | rfl
      · exact .int _ (by omega)
      · exact hp
    · simp only [wt, wts]; decide
    · simp only [dpt, dpts]; decide
/-! ### the tables stay -/
section
variable {K : Fg} {c : Nat → Addr} {M : Mem} {Q : QD} {Xd : XD}
theorem tabs_dr {T : List (Addr × Str)} {a : Addr} {cells : List Int} {b b' : Int} {M' : Mem} (tm : TabsM T M) (h : Dr a cells b M) (h' : Dr a cells b' M') (s : Sm a M M') : TabsM T M' := by
  obtain ⟨l, s1, e, _⟩ := h
  obtain ⟨l', s1', e', _⟩ := h'
  refine ⟨fun p hp => ?_, fun x q hx => ?_⟩
  · have z := tm.1 p hp
    have ne : p.1 ≠ a := fun y => by rw [y, e] at z; cases z
    rw [s _ ne]; exact z
  · by_cases y : x = a
    · subst y; rw [e'] at hx; cases hx
    · exact tm.2 x q (by rw [← s x y]; exact hx)
theorem tabs_put {T : List (Addr × Str)} {p : Addr} {ds : List D} (tm : TabsM T M) (hp : ∀ q, M p ≠ some (.tab q)) : TabsM T (M.put p (.lst ds)) := by
  refine ⟨fun x hx => ?_, fun x q hx => ?_⟩
  · have z := tm.1 x hx
    have ne : x.1 ≠ p := fun y => hp x.2 (by rw [← y]; exact z)
    rw [Mem.put_ne ne]; exact z
  · by_cases y : x = p
    · subst y; rw [Mem.put_same] at hx; cases hx
    · rw [Mem.put_ne y] at hx; exact tm.2 x q hx
theorem tabs_new {T : List (Addr × Str)} {a : Addr} {cells : List Int} {b : Int} {M' : Mem} (tm : TabsM T M) (hp : M a = none) (h' : Dr a cells b M') (s : Sm a M M') : TabsM T M' := by
  obtain ⟨l', s1', e', _⟩ := h'
  refine ⟨fun p hx => ?_, fun x q hx => ?_⟩
  · have z := tm.1 p hx
    have ne : p.1 ≠ a := fun y => by rw [y, hp] at z; cases z
    rw [s _ ne]; exact z
  · by_cases y : x = a
    · subst y; rw [e'] at hx; cases hx
    · exact tm.2 x q (by rw [← s x y]; exact hx)
/-- the law's own call of _law_outcome with a lambda -/
theorem lamc_k (F : CF K c) {x0 x1 x3 x4 x5 x6 x7 x8 x9 x10 x11 x12 x13 x14 : Option D} {d r : D} (va : Va d) (vd : Vd d r) (tm : TabsM (tabT c) M) (h : Q r M) :
    dLamC (tabT c) [2] N__law_outcome (B_law_outcome K c) (dCall (Wneed_good K c) [] (dCons (dVar 2) (dNil))) Xd [x0, x1, some d, x3, x4, x5, x6, x7, x8, x9, x10, x11, x12, x13, x14] M Q := by
  refine ⟨tm, [d], ⟨rfl, fun i j d' z1 z2 => ?_⟩, fun L => outcome_k (L := L) F va vd h⟩
  cases i with
  | zero => cases z1; cases z2; rfl
  | succ i => simp at z1
end
set_option maxHeartbeats 1000000
theorem vw_ok {N : Nat} {d : D} (h : Ok N d) (M : Mem) : vw M d = d := by cases h <;> rfl
section
variable {K : Fg} {c : Nat → Addr} {M : Mem} {Q : QD} {Xd : XD}
theorem begun2_k {ns : List Int} (hl : ns.length ≤ 1000) {M : Mem} {Q : QD} {Xd : XD}
    (h : ∀ (p : Addr) (M' : Mem) (cells : List Int), cells ≠ [] → Dr p cells 0 M' → M p = none → Sm p M M' → Q (.ref p) M') : W_law_begun K c [.fzn (ns.map D.int)] M Q Xd := by
  refine E_law_begun ?_
  repeat fail
  refine w_lc ?_
  repeat fail
  refine w_itemF ?_
  intro q hq
  have hwp : ∀ x0 x1 x2 : Option D, wipeD [x0, x1, x2] [2] = [x0, x1, none] := fun _ _ _ => rfl
  rw [hwp]
  refine lc_filt hq greatD (fun _ => wat_none) _ [] (by simp [sizeLine_eq]; omega) (fun d hd acc K1 K0 h1 h0 => ?_) ?_
  · obtain ⟨i, hi, rfl⟩ := List.mem_map.mp hd
    repeat fail
    refine w_powI ⟨by decide, by decide, by decide⟩ ?_
    repeat fail
    have e18 : (10 : Int) ^ (18 : Int).toNat = 10 ^ 18 := rfl
    rw [e18]
    refine w_ifd (fun z => ?_) fun z => ?_
    · repeat fail
      exact h1 _ (if_pos z)
    · exact h0 (if_neg z)
  have eg : ∃ gs : List Int, ([] : List D) ++ (ns.map D.int).filterMap greatD = gs.map D.int := by
    rw [List.nil_append]
    clear hl h hq
    induction ns with
    | nil => exact ⟨[], rfl⟩
    | cons n ns ih =>
      obtain ⟨gs, hg⟩ := ih
      rw [List.map_cons, List.filterMap_cons]
      by_cases z : (10 : Int) ^ 18 ≤ n
      · have : greatD (.int n) = some (.int n) := if_pos z
        rw [this]
        exact ⟨n :: gs, by simp only [hg, List.map_cons]⟩
      · have : greatD (.int n) = none := if_neg z
        rw [this]
        exact ⟨gs, hg⟩
  obtain ⟨gs, hgs⟩ := eg
  rw [hgs]
  repeat fail
  refine w_dct ?_
  intro p hp
  repeat fail
  refine w_listF ?_
  repeat fail
  refine w_lenF ?_
  repeat fail
  refine w_addL (by simp [sizeLine_eq]; omega) ?_
  repeat fail
  have fin : ∀ left : Int, (M.put p (.dct [] [])) p = some (.dct [] []) ∧ Lo Q (.ref p) ((M.put p (.dct [] [])).put p (.dct mK [.lst (ns.map D.int ++ [.int ((ns.map D.int).length : Int)]), .int left, .int 0])) := fun left => by
    refine ⟨Mem.put_same, lo_same (h p _ (ns ++ [(ns.length : Int)]) (by simp) ⟨left, 0, ?_, by decide, by decide⟩ hp fun x hx => ?_)⟩
    · rw [Mem.put_same]
      have e : ns.map D.int ++ [.int ((ns.map D.int).length : Int)] = (ns ++ [(ns.length : Int)]).map D.int := by simp
      rw [e]; rfl
    · rw [Mem.put_ne hx, Mem.put_ne hx]
  refine w_neO (eq_nil gs) ?_
  repeat fail
  refine w_ifnd (fun z => ?_) fun z => ?_
  · cases gs with
    | nil => exact absurd rfl z
    | cons g gs =>
      repeat fail
      refine w_ixL (by have y := atI_nat (xs := (g :: gs).map D.int) (j := 0) (v := .int g) rfl; exact y) ?_
      repeat fail
      exact fin g
  · repeat fail
    exact fin 0
theorem row_at {t : Th} {k : Nat} (hk : k < t.sz) {R : QD} (h : R (.tup [(TT t k).d, .lst ((numsT (TT t k) k).map nI)]) M) : ixD (.lst ((rows t 0).map rowD)) (.int (k : Int)) M R := by
  have er : ((rows t 0).map rowD)[k]? = some (rowD (TT t k, numsT (TT t k) k)) := by rw [List.getElem?_map, at_row hk]; rfl
  exact w_ixL (atI_nat er) h
end
section
variable {K : Fg} {c : Nat → Addr} {M : Mem} {Xd : XD} {nx bk ct : SD → Mem → Prop} {rt : QD} {W : Mem → Prop}
theorem border_loop (F : CF K c) (hW : W M) (tm : TabsM (tabT c) M) {x0 x1 x3 x4 x5 x6 x7 x8 x9 x10 x11 x12 x13 x14 : Option D} (h : ∀ o, nx [x0, x1, o, x3, x4, x5, x6, x7, x8, x9, x10, x11, x12, x13, x14] M) : ∀ (ds : List D) (o : Option D), (∀ d ∈ ds, Sx d) →
    sForL (gNm 2) (sIf (dTst (dOp neD (dCB reprX (dCons (dLamC (tabT c) [2] N__law_outcome (B_law_outcome K c) (dCall (Wneed_good K c) [] (dCons (dVar 2) (dNil)))) (dNil))) (dCB reprX (dCons (dCall (W_law_due K c) [] (dCons (dVar 2) (dNil))) (dNil))))) (sRet (dC (.bl false))) (sNx)) ⟨nx, rt, bk, ct, Xd⟩ W ds [x0, x1, o, x3, x4, x5, x6, x7, x8, x9, x10, x11, x12, x13, x14] M
  | [], o, _ => w_forNil hW (h o)
  | d :: ds, o, hd => by
    have sx := hd d List.mem_cons_self
    have va := sx.va
    obtain ⟨r, vd⟩ := verdict va
    obtain ⟨rr, vr⟩ := rx_r sx vd
    refine w_forCons hW ?_
    repeat fail
    refine lamc_k F va vd tm ?_
    repeat fail
    refine w_reprX rr (vr _) (by decide) (by decide) ?_
    repeat fail
    refine due_k va vd ?_
    repeat fail
    refine w_reprX rr (vr _) (by decide) (by decide) ?_
    refine w_neShX rr ?_
    repeat fail
    exact border_loop F hW tm h ds _ fun x hx => hd x (List.mem_cons_of_mem _ hx)
theorem again_loop (F : CF K c) (hW : W M) (tm : TabsM (tabT c) M) {d : D} (sx : Sx d) {x0 x1 x3 x4 x5 x6 x7 x8 x9 x10 x11 x12 : Option D} (h : ∀ o, nx [x0, x1, some d, x3, x4, x5, x6, x7, x8, x9, x10, x11, x12, some (.str (shX d)), o] M) : ∀ (ds : List D) (o : Option D),
    sForL (gNm 14) (sIf (tOrD (dTst (dOp neD (dCB reprX (dCons (dLamC (tabT c) [2] N__law_outcome (B_law_outcome K c) (dCall (Wneed_good K c) [] (dCons (dVar 2) (dNil)))) (dNil))) (dCB reprX (dCons (dCall (W_law_due K c) [] (dCons (dVar 2) (dNil))) (dNil))))) (dTst (dOp neD (dCB reprX (dCons (dVar 2) (dNil))) (dVar 13)))) (sRet (dC (.bl false))) (sNx)) ⟨nx, rt, bk, ct, Xd⟩ W ds [x0, x1, some d, x3, x4, x5, x6, x7, x8, x9, x10, x11, x12, some (.str (shX d)), o] M
  | [], o => w_forNil hW (h o)
  | e :: ds, o => by
    have va := sx.va
    obtain ⟨r, vd⟩ := verdict va
    obtain ⟨rr, vr⟩ := rx_r sx vd
    refine w_forCons hW ?_
    repeat fail
    refine lamc_k F va vd tm ?_
    repeat fail
    refine w_reprX rr (vr _) (by decide) (by decide) ?_
    repeat fail
    refine due_k va vd ?_
    repeat fail
    refine w_reprX rr (vr _) (by decide) (by decide) ?_
    refine w_neShX rr ?_
    repeat fail
    refine w_reprX sx.rx (vw_ok sx.1 _) (by decide) (by decide) ?_
    repeat fail
    refine w_neShX sx.rx ?_
    repeat fail
    exact again_loop F hW tm sx h ds _
theorem thing_loop' (F : CF K c) (hW : W M) (tm : TabsM (tabT c) M) {x0 x1 x3 x4 x5 x6 x7 x8 x9 x10 x11 x12 : Option D} (h : ∀ o2 o13 o14, nx [x0, x1, o2, x3, x4, x5, x6, x7, x8, x9, x10, x11, x12, o13, o14] M) : ∀ (ds : List D) (o2 o13 o14 : Option D), (∀ d ∈ ds, Sx d) →
    sForL (gNm 2) (sSeq (sSet 13 (dCB reprX (dCons (dVar 2) (dNil)))) (sFor (iRngD (dCons (dC (.int 2)) (dNil))) (gNm 14) (sIf (tOrD (dTst (dOp neD (dCB reprX (dCons (dLamC (tabT c) [2] N__law_outcome (B_law_outcome K c) (dCall (Wneed_good K c) [] (dCons (dVar 2) (dNil)))) (dNil))) (dCB reprX (dCons (dCall (W_law_due K c) [] (dCons (dVar 2) (dNil))) (dNil))))) (dTst (dOp neD (dCB reprX (dCons (dVar 2) (dNil))) (dVar 13)))) (sRet (dC (.bl false))) (sNx)))) ⟨nx, rt, bk, ct, Xd⟩ W ds [x0, x1, o2, x3, x4, x5, x6, x7, x8, x9, x10, x11, x12, o13, o14] M
  | [], o2, o13, o14, _ => w_forNil hW (h o2 o13 o14)
  | d :: ds, o2, o13, o14, hd => by
    have sx := hd d List.mem_cons_self
    refine w_forCons hW ?_
    repeat fail
    refine w_reprX sx.rx (vw_ok sx.1 _) (by decide) (by decide) ?_
    repeat fail
    refine w_rng1 (by decide) ?_
    refine again_loop F wat_none tm sx (fun o => ?_) _ _
    exact thing_loop' F hW tm h ds _ _ _ fun x hx => hd x (List.mem_cons_of_mem _ hx)
end
set_option maxHeartbeats 2000000
section
variable {K : Fg} {c : Nat → Addr} {M : Mem} {Q : QD} {Xd : XD}
theorem tupd (t : Th) : ∃ ds, t.d = .tup ds := by cases t <;> exact ⟨_, rfl⟩
theorem list_d {t : Th} (h : ∀ ds, t.d = .tup ds → Q (.lst ds) M) : listC [t.d] M Q := by
  obtain ⟨ds, e⟩ := tupd t
  have := h ds e
  rw [e]; exact w_listT this
theorem rev_d {t : Th} (h : ∀ ds, t.d = .tup ds → Q (.tup ds.reverse) M) : revTK Q t.d M := by
  obtain ⟨ds, e⟩ := tupd t
  have := h ds e
  rw [e]; exact w_revTK this
theorem ix5_d {t : Th} (hm : t.isMade = true) (h : Q (.tup (Th.ds t.parts)) M) : ixD t.d (.int 5) M Q := by
  cases t with
  | raw _ _ _ => cases hm
  | made _ _ _ _ _ _ ps => rw [Th.d]; exact w_ixT (ds := [_, _, _, _, _, .tup (Th.ds ps)]) rfl h
theorem ix0_p {t : Th} (hg : t.good) (h : ∀ x : Th, x.ok → x.sz ≤ 10 → x.st ≤ 4 → Q x.d M) : ixD (.tup (Th.ds t.parts)) (.int 0) M Q := by
  have hm := hg.made
  have hok := hg.ok
  have hz := hg.sz
  have hs := hg.st
  cases t with
  | raw _ _ _ => cases hm
  | made _ _ _ _ _ _ ps =>
    cases ps with
    | nil => exact absurd hok.2.2.1.1 (by decide)
    | cons x ps =>
      simp only [Th.sz, Th.szs, Th.st, Th.sts] at hz hs
      refine w_ixT (d := x.d) (by have y := atI_nat (xs := Th.ds (x :: ps)) (j := 0) (v := x.d) rfl; exact y) ?_
      exact h x hok.2.2.2.1 (by omega) (by omega)
theorem wts_le {ds : List D} {k : Nat} (h : ∀ d ∈ ds, wt d ≤ k) : wts ds ≤ ds.length * (k + 2) := by
  induction ds with
  | nil => exact Nat.zero_le _
  | cons d ds ih =>
    have h1 := h d List.mem_cons_self
    have h2 := ih fun x hx => h x (List.mem_cons_of_mem _ hx)
    rw [wts, List.length_cons, Nat.succ_mul]; omega
theorem mvL_len (t : Th) : (mvL t).length = t.mv := by rw [← mvn_eq, mvn_len]
theorem mkL_len (t : Th) : (mkL t).length = t.st := by rw [← mds_eq, mds_len]
/-- what the law compares of a good -/
def dueD (t : Th) : D := .lst [.tup (Th.ds t.fl), .tup ((mkL t).map nI), .tup ((mvL t).map nI), .tup (t.fl.map (endD lowOf)), .tup (t.fl.map (endD higOf))]
theorem ok_end {t : Th} (h : t.ok) : Ok 1000000 (endD lowOf t) ∧ Ok 1000000 (endD higOf t) := by
  have hb : bnd (lowOf t) (higOf t) := by
    cases t with
    | raw _ _ _ => exact h
    | made _ _ _ _ _ _ _ => exact h.1
  have ho := ok_bnd hb
  constructor <;>
  · refine .tup _ fun d hd => ?_
    simp only [List.mem_cons, List.not_mem_nil, or_false] at hd
    rcases hd with rfl | rfl
    · first | exact ho.1 | exact ho.2
    · exact okB_ok (by decide +kernel)
theorem due_sx {t : Th} (hg : t.good) : Sx (dueD t) := by
  have hz := hg.sz
  have hok := hg.ok
  have hst := hg.st
  have hmv := hg.mv
  have e1 := mkL_len t
  have e2 := mvL_len t
  have e3 := fl_len t
  have hin := fl_in t hok
  have nat : ∀ k : Nat, k ≤ 10 → Ok 1000000 (nI k) := fun k hk => .int _ (by omega)
  have lt : ∀ (P : Nat → Bool), ∀ j ∈ (List.range t.sz).filter P, j ≤ 10 := fun P j hj => by
    have := List.mem_range.mp (List.mem_filter.mp hj).1; omega
  have okn : ∀ (P : Nat → Bool), Ok 1000000 (.tup (((List.range t.sz).filter P).map nI)) := fun P => .tup _ fun d hd => by
    obtain ⟨j, hj, rfl⟩ := List.mem_map.mp hd
    exact nat j (lt P j hj)
  have o1 : Ok 1000000 (.tup (Th.ds t.fl)) := .tup _ fun d hd => by
    rw [ds_map] at hd
    obtain ⟨x, hx, rfl⟩ := List.mem_map.mp hd
    exact ok_th x (hin x hx).1
  have o4 : Ok 1000000 (.tup (t.fl.map (endD lowOf))) := .tup _ fun d hd => by
    obtain ⟨x, hx, rfl⟩ := List.mem_map.mp hd
    exact (ok_end (hin x hx).1).1
  have o5 : Ok 1000000 (.tup (t.fl.map (endD higOf))) := .tup _ fun d hd => by
    obtain ⟨x, hx, rfl⟩ := List.mem_map.mp hd
    exact (ok_end (hin x hx).1).2
  have w1 : wts (Th.ds t.fl) ≤ t.fl.length * (6000 + 2) := by
    have := wts_le (ds := Th.ds t.fl) (k := 6000) fun d hd => by
      rw [ds_map] at hd
      obtain ⟨x, hx, rfl⟩ := List.mem_map.mp hd
      have := wt_th x
      have := (hin x hx).2.1
      omega
    rw [ds_map, List.length_map] at this
    rw [ds_map]; exact this
  have wn : ∀ (L : List Nat), wts (L.map nI) ≤ L.length * (70 + 2) := fun L => by
    have := wts_le (ds := L.map nI) (k := 70) fun d hd => by
      obtain ⟨j, hj, rfl⟩ := List.mem_map.mp hd
      exact Nat.le_refl _
    rw [List.length_map] at this; exact this
  have we : ∀ (f : Th → Int), wts (t.fl.map (endD f)) ≤ t.fl.length * (148 + 2) := fun f => by
    have := wts_le (ds := t.fl.map (endD f)) (k := 148) fun d hd => by
      obtain ⟨x, hx, rfl⟩ := List.mem_map.mp hd
      simp only [endD, wt, wts]; decide
    rw [List.length_map] at this; exact this
  have d1 : dpts (Th.ds t.fl) ≤ 10 := dpts_le fun d hd => by
    rw [ds_map] at hd
    obtain ⟨x, hx, rfl⟩ := List.mem_map.mp hd
    have := dpt_th x
    have := (hin x hx).2.2
    omega
  have dn : ∀ (L : List Nat), dpts (L.map nI) ≤ 1 := fun L => dpts_le fun d hd => by
    obtain ⟨j, hj, rfl⟩ := List.mem_map.mp hd
    exact Nat.le_refl _
  have de : ∀ (f : Th → Int), dpts (t.fl.map (endD f)) ≤ 2 := fun f => dpts_le fun d hd => by
    obtain ⟨x, hx, rfl⟩ := List.mem_map.mp hd
    simp only [endD, dpt, dpts]; decide
  refine ⟨.lst _ fun d hd => ?_, ?_, ?_⟩
  · simp only [List.mem_cons, List.not_mem_nil, or_false] at hd
    rcases hd with rfl | rfl | rfl | rfl | rfl
    · exact o1.mono (by decide)
    · exact (okn _).mono (by decide)
    · exact (okn _).mono (by decide)
    · exact o4.mono (by decide)
    · exact o5.mono (by decide)
  · have a2 := wn (mkL t)
    have a3 := wn (mvL t)
    have a4 := we lowOf
    have a5 := we higOf
    rw [e3] at w1 a4 a5
    rw [e1] at a2
    rw [e2] at a3
    simp only [dueD, wt, wts]; omega
  · have a2 := dn (mkL t)
    have a3 := dn (mvL t)
    have a4 := de lowOf
    have a5 := de higOf
    simp only [dueD, dpt, dpts]; omega
theorem good_sx {t : Th} (h : t.ok) (hz : t.sz ≤ 10) (hs : t.st ≤ 4) : Ok 1000000 t.d ∧ wt t.d ≤ 5998 ∧ dpt t.d ≤ 10 := by
  have := wt_th t
  have := dpt_th t
  exact ⟨ok_th t h, by omega, by omega⟩
theorem lap_loop (F : CF K c) {a : Addr} {cells : List Int} (hc : cells ≠ []) {nx bk ct : SD → Mem → Prop} {rt : QD} {W : Mem → Prop} (hW : ∀ M, W M) {B : Int} (hB : B < 2 ^ 40) {x0 : Option D}
    (h : ∀ M o2 o3 o4 o5 o6 o7 o8 o9 o10 o11 o12 o13 o14, nx [x0, some (.ref a), o2, o3, o4, o5, o6, o7, o8, o9, o10, o11, o12, o13, o14] M) :
    ∀ (ds : List D) (b : Int) (M : Mem) (o2 o3 o4 o5 o6 o7 o8 o9 o10 o11 o12 o13 o14 : Option D), TabsM (tabT c) M → Dr a cells b M → b + 500 * (ds.length : Int) ≤ B →
    sForL (gNm 3) (sSeq (sSet 4 (dCall (W_law_good K c) [] (dCons (dVar 1) (dCons (dC (.int 3)) (dCons (dC (.int 4)) (dNil)))))) (sSeq (sSet 5 (dCall (W_law_rows K c 8) [] (dCons (dVar 4) (dCons (dC (.int 0)) (dNil))))) (sSeq (sSet 6 (dLst (dCons (dCall (Wthings K c) [] (dCons (dVar 4) (dNil))) (dCons (dCall (Wsteps K c) [] (dCons (dVar 4) (dNil))) (dCons (dCall (Wmoves K c) [] (dCons (dVar 4) (dNil))) (dNil)))))) (sSeq (sSet 7 (dLstO (dCons (dCB tupleC (dCons (dLc (iSeqD (dVar 5)) (gTp 2 (gCo (gNm 8) (gCo (gNm 9) (gNi)))) (tYesD) (dVar 8) [8, 9]) (dNil))) (dCons (dCB tupleC (dCons (dLc (iRngD (dCons (dCB lenC (dCons (dVar 5) (dNil))) (dNil))) (gNm 10) (dTst (dOp eqD (dOp ixD (dOp ixD (dOp ixD (dVar 5) (dVar 10)) (dC (.int 0))) (dC (.int 0))) (dC (.str "made")))) (dVar 10) [10]) (dNil))) (dNil))))) (sSeq (sExpr (dApp (dVar 7) (dCB tupleC (dCons (dLc (iRngD (dCons (dCB lenC (dCons (dVar 5) (dNil))) (dNil))) (gNm 10) (dTst (dOp ltD (dOp ixD (dOp ixD (dOp ixD (dVar 5) (dVar 10)) (dC (.int 0))) (dC (.int 2))) (dOp ixD (dOp ixD (dOp ixD (dVar 5) (dVar 10)) (dC (.int 0))) (dC (.int 3))))) (dVar 10) [10]) (dNil))))) (sSeq (sSet 11 (dLst (dCons (dCB tupleC (dCons (dLc (iSeqD (dVar 5)) (gTp 2 (gCo (gNm 8) (gCo (gNm 9) (gNi)))) (tYesD) (dTup (dCons (dOp ixD (dVar 8) (dC (.int 2))) (dCons (dC (.int 1)) (dNil)))) [8, 9]) (dNil))) (dCons (dCB tupleC (dCons (dLc (iSeqD (dVar 5)) (gTp 2 (gCo (gNm 8) (gCo (gNm 9) (gNi)))) (tYesD) (dTup (dCons (dOp ixD (dVar 8) (dC (.int 3))) (dCons (dC (.int 1)) (dNil)))) [8, 9]) (dNil))) (dNil))))) (sSeq (sIf (dTst (dOp neD (dCB reprX (dCons (dOp addD (dVar 6) (dLst (dCons (dCall (Wlows K c) [] (dCons (dVar 4) (dNil))) (dCons (dCall (Whighs K c) [] (dCons (dVar 4) (dNil))) (dNil))))) (dNil))) (dCB reprX (dCons (dOp addD (dVar 7) (dVar 11)) (dNil))))) (sRet (dC (.bl false))) (sNx)) (sSeq (sSet 12 (dCall (W_law_bent K c 16) [] (dCons (dVar 1) (dCons (dVar 4) (dNil))))) (sFor (iSeqD (dTup (dCons (dVar 4) (dCons (dVar 12) (dCons (dCall (W_law_bent K c 16) [] (dCons (dVar 1) (dCons (dVar 12) (dNil)))) (dCons (dCall (W_law_odd K c) [] (dCons (dVar 1) (dNil))) (dCons (dCB listC (dCons (dVar 4) (dNil))) (dCons (dRevT (dVar 4)) (dCons (dOp ixD (dOp ixD (dVar 4) (dC (.int 5))) (dC (.int 0))) (dNil)))))))))) (gNm 2) (sSeq (sSet 13 (dCB reprX (dCons (dVar 2) (dNil)))) (sFor (iRngD (dCons (dC (.int 2)) (dNil))) (gNm 14) (sIf (tOrD (dTst (dOp neD (dCB reprX (dCons (dLamC (tabT c) [2] N__law_outcome (B_law_outcome K c) (dCall (Wneed_good K c) [] (dCons (dVar 2) (dNil)))) (dNil))) (dCB reprX (dCons (dCall (W_law_due K c) [] (dCons (dVar 2) (dNil))) (dNil))))) (dTst (dOp neD (dCB reprX (dCons (dVar 2) (dNil))) (dVar 13)))) (sRet (dC (.bl false))) (sNx))))))))))))) ⟨nx, rt, bk, ct, Xd⟩ W ds [x0, some (.ref a), o2, o3, o4, o5, o6, o7, o8, o9, o10, o11, o12, o13, o14] M
  | [], b, M, o2, o3, o4, o5, o6, o7, o8, o9, o10, o11, o12, o13, o14, _, _, _ => w_forNil (hW M) (h M _ _ _ _ _ _ _ _ _ _ _ _ _)
  | d :: ds, b, M, o2, o3, o4, o5, o6, o7, o8, o9, o10, o11, o12, o13, o14, tm, hD, hb => by
    rw [List.length_cons] at hb
    refine w_forCons (hW M) ?_
    repeat fail
    refine good_k (moving := 3) (making := 4) hc (by omega) (by decide) (by decide) hD fun t M1 hg _ _ hD1 hS1 => ?_
    have tm1 := tabs_dr tm hD hD1 hS1
    have hz := hg.sz
    have hst := hg.st
    have gs := good_sx hg.ok hg.sz hg.st
    repeat fail
    refine rows_k 8 t 0 _ _ _ (by omega) (by omega) ?_
    repeat fail
    refine things_k hg ?_
    repeat fail
    refine steps_k hg ?_
    repeat fail
    refine moves_k hg ?_
    repeat fail
    refine w_lstO ?_
    repeat fail
    refine w_lc ?_
    repeat fail
    simp only [wipeD, List.set_cons_succ, List.set_cons_zero]
    intro q hq
    refine lc_gen (F := rowD) (h := fun e => e.1.d) hq (fun _ => wat_none) (rows t 0) (by rw [rows_len, sizeLine_eq]; omega) (fun e he acc K1 h1 => ?_) ?_
    · unfold rowD
      repeat fail
      exact h1
    have e3 : ((rows t 0).map fun e => e.1.d) = Th.ds t.fl := by rw [ds_map, fl_rows t 0, List.map_map]; rfl
    rw [e3]
    repeat fail
    refine w_lc ?_
    repeat fail
    rw [List.length_map, rows_len]
    refine w_rng1 (by omega) ?_
    have er : rngL 0 ((t.sz : Int)).toNat = (List.range t.sz).map nI := by
      unfold rngL; rw [Int.toNat_natCast]; refine List.map_congr_left fun j _ => ?_; rw [Int.zero_add]; rfl
    rw [er]
    simp only [wipeD, List.set_cons_succ, List.set_cons_zero]
    intro q hq
    refine lc_genF (F := nI) (h := nI) (P := fun j => (TT t j).isMade) hq (fun _ => wat_none) (List.range t.sz) [] (by rw [List.length_range, sizeLine_eq]; simp; omega) (fun j hj acc K1 K0 h1 h0 => ?_) ?_
    · unfold nI
      repeat fail
      refine row_at (List.mem_range.mp hj) ?_
      repeat fail
      cases z : TT t j with
      | raw b l r =>
        rw [Th.d]
        repeat fail
        refine w_eqS (by decide +kernel) (by decide +kernel) ?_
        rw [show decide ((Str.ofString "raw") = (Str.ofString "made")) = false from by decide +kernel]
        repeat fail
        exact h0 (by show (TT t j).isMade = false; rw [z]; rfl)
      | made b l r sh u w ps =>
        rw [Th.d]
        repeat fail
        refine w_eqS (by decide +kernel) (by decide +kernel) ?_
        rw [show decide ((Str.ofString "made") = (Str.ofString "made")) = true from by decide +kernel]
        repeat fail
        exact h1 (by show (TT t j).isMade = true; rw [z]; rfl)
    rw [List.nil_append, show ((List.range t.sz).filter fun j => (TT t j).isMade) = mkL t from rfl]
    repeat fail
    intro p hp
    have npa : p ≠ a := fun e => by obtain ⟨_, _, z, _⟩ := hD1; rw [← e, hp] at z; cases z
    have tm2 : TabsM (tabT c) (M1.put p (.lst [.tup (Th.ds t.fl), .tup ((mkL t).map nI)])) := tabs_put tm1 fun q e => by rw [hp] at e; cases e
    have hD2 := hD1.put (o := .lst [.tup (Th.ds t.fl), .tup ((mkL t).map nI)]) (Ne.symm npa)
    have hp2 : (M1.put p (.lst [.tup (Th.ds t.fl), .tup ((mkL t).map nI)])) p = some (.lst [.tup (Th.ds t.fl), .tup ((mkL t).map nI)]) := Mem.put_same
    generalize M1.put p (.lst [.tup (Th.ds t.fl), .tup ((mkL t).map nI)]) = M2 at tm2 hD2 hp2 ⊢
    repeat fail
    refine w_appO hp2 ?_
    repeat fail
    refine w_lc ?_
    repeat fail
    rw [List.length_map, rows_len]
    refine w_rng1 (by omega) ?_
    rw [er]
    simp only [wipeD, List.set_cons_succ, List.set_cons_zero]
    intro q hq
    refine lc_genF (F := nI) (h := nI) (P := fun j => mvP (TT t j)) hq (fun _ => wat_none) (List.range t.sz) [] (by rw [List.length_range, sizeLine_eq]; simp; omega) (fun j hj acc K1 K0 h1 h0 => ?_) ?_
    · unfold nI
      repeat fail
      refine row_at (List.mem_range.mp hj) ?_
      repeat fail
      refine d_ix2' ?_
      repeat fail
      refine row_at (List.mem_range.mp hj) ?_
      repeat fail
      refine d_ix3' ?_
      repeat fail
      refine w_ifd (fun z => ?_) fun z => ?_
      · repeat fail
        exact h1 (decide_eq_true z)
      · exact h0 (decide_eq_false z)
    rw [List.nil_append, show ((List.range t.sz).filter fun j => mvP (TT t j)) = mvL t from rfl]
    repeat fail
    refine w_appK hp2 (by rw [sizeLine_eq]; simp) ?_
    have tm3 : TabsM (tabT c) (M2.put p (.lst ([.tup (Th.ds t.fl), .tup ((mkL t).map nI)] ++ [.tup ((mvL t).map nI)]))) := tabs_put tm2 fun q e => by rw [hp2] at e; cases e
    have hD3 := hD2.put (o := .lst ([.tup (Th.ds t.fl), .tup ((mkL t).map nI)] ++ [.tup ((mvL t).map nI)])) (Ne.symm npa)
    have hp3 : (M2.put p (.lst ([.tup (Th.ds t.fl), .tup ((mkL t).map nI)] ++ [.tup ((mvL t).map nI)]))) p = some (.lst [.tup (Th.ds t.fl), .tup ((mkL t).map nI), .tup ((mvL t).map nI)]) := Mem.put_same
    generalize M2.put p (.lst ([.tup (Th.ds t.fl), .tup ((mkL t).map nI)] ++ [.tup ((mvL t).map nI)])) = M3 at tm3 hD3 hp3 ⊢
    repeat fail
    refine w_lc ?_
    repeat fail
    simp only [wipeD, List.set_cons_succ, List.set_cons_zero]
    intro q hq
    refine lc_gen (F := rowD) (h := fun e => endD lowOf e.1) hq (fun _ => wat_none) (rows t 0) (by rw [rows_len, sizeLine_eq]; omega) (fun e he acc K1 h1 => ?_) ?_
    · unfold rowD
      repeat fail
      refine d_ix2' ?_
      repeat fail
      exact h1
    have e4 : ((rows t 0).map fun e => endD lowOf e.1) = t.fl.map (endD lowOf) := by rw [fl_rows t 0, List.map_map]; rfl
    rw [e4]
    repeat fail
    refine w_lc ?_
    repeat fail
    simp only [wipeD, List.set_cons_succ, List.set_cons_zero]
    intro q hq
    refine lc_gen (F := rowD) (h := fun e => endD higOf e.1) hq (fun _ => wat_none) (rows t 0) (by rw [rows_len, sizeLine_eq]; omega) (fun e he acc K1 h1 => ?_) ?_
    · unfold rowD
      repeat fail
      refine d_ix3' ?_
      repeat fail
      exact h1
    have e5 : ((rows t 0).map fun e => endD higOf e.1) = t.fl.map (endD higOf) := by rw [fl_rows t 0, List.map_map]; rfl
    rw [e5]
    repeat fail
    refine lows_k hg ?_
    repeat fail
    refine highs_k hg ?_
    repeat fail
    refine w_addL (by rw [sizeLine_eq]; simp) ?_
    have sx := due_sx hg
    have ed : D.lst ([.tup (Th.ds t.fl), .tup ((mkL t).map nI), .tup ((mvL t).map nI)] ++ [.tup (t.fl.map (endD lowOf)), .tup (t.fl.map (endD higOf))]) = dueD t := rfl
    rw [ed]
    repeat fail
    refine w_reprX sx.rx (vw_ok sx.1 _) (by decide) (by decide) ?_
    repeat fail
    refine w_addRp hp3 (by rw [sizeLine_eq]; simp) ?_
    rw [ed]
    repeat fail
    refine w_reprX sx.rx (vw_ok sx.1 _) (by decide) (by decide) ?_
    refine w_neShX sx.rx ?_
    repeat fail
    refine bent_k hc (N := 1000000) (N2 := 2000001) (by decide) (by decide) 16 t.d (b + 150) M3 _ _ gs.1 (by omega) (by omega) (by omega) hD3 fun d1 M4 k1 k2 k3 k4 k5 => ?_
    have tm4 := tabs_dr tm3 hD3 k4 k5
    repeat fail
    refine bent_k hc (N := 2000001) (N2 := 3000002) (by decide) (by decide) 16 d1 _ M4 _ _ k1 (by omega) (by omega) (by omega) k4 fun d2 M5 l1 l2 l3 l4 l5 => ?_
    have tm5 := tabs_dr tm4 k4 l4 l5
    repeat fail
    refine odd_k hc (by omega) l4 fun d3 M6 n1 n2 n3 n4 n5 => ?_
    have tm6 := tabs_dr tm5 l4 n4 n5
    repeat fail
    refine list_d fun ds4 e6 => ?_
    repeat fail
    refine rev_d fun ds7 e7 => ?_
    repeat fail
    refine ix5_d hg.made ?_
    repeat fail
    refine ix0_p hg fun x y1 y2 y3 => ?_
    have gx := good_sx y1 y2 y3
    have in4 : ∀ ds, t.d = .tup ds → (∀ d ∈ ds, Ok 1000000 d) ∧ wts ds ≤ 6000 ∧ dpts ds ≤ 10 := fun ds e => by
      obtain ⟨g1, g2, g3⟩ := gs
      rw [e] at g1 g2 g3
      simp only [wt] at g2
      simp only [dpt] at g3
      refine ⟨?_, by omega, by omega⟩
      cases g1 with
      | tup _ h => exact h
    repeat fail
    refine thing_loop' F wat_none tm6 (fun o2 o13 o14 => ?_) _ _ _ _ fun y hy => ?_
    · refine lap_loop F hc hW hB h ds _ M6 _ _ _ _ _ _ _ _ _ _ _ _ _ tm6 n4 ?_
      push_cast at hb
      omega
    · simp only [List.mem_cons, List.not_mem_nil, or_false] at hy
      rcases hy with rfl | rfl | rfl | rfl | rfl | rfl | rfl
      · exact ⟨gs.1.mono (by decide), by omega, by omega⟩
      · exact ⟨k1.mono (by decide), by omega, by omega⟩
      · exact ⟨l1.mono (by decide), by omega, by omega⟩
      · exact ⟨n1.mono (by decide), by omega, by omega⟩
      · obtain ⟨j1, j2, j3⟩ := in4 _ e6
        exact ⟨.lst _ fun z hz => (j1 z hz).mono (by decide), by simp only [wt]; omega, by simp only [dpt]; omega⟩
      · obtain ⟨j1, j2, j3⟩ := in4 _ e7
        refine ⟨.tup _ fun z hz => (j1 z (List.mem_reverse.mp hz)).mono (by decide), by simp only [wt]; rw [wts_rev]; omega, ?_⟩
        have := dpts_le (ds := ds7.reverse) (k := 10) fun z hz => by
          have := le_dpts (List.mem_reverse.mp hz); omega
        simp only [dpt]; omega
      · exact ⟨gx.1.mono (by decide), by omega, by omega⟩
theorem law_k (F : CF K c) {ns : List Int} (hl : ns.length ≤ 63) (tm : TabsM (tabT c) M) (h : ∀ M', Q (.bl true) M') : Wlaw K c [.fzn (ns.map D.int)] M Q Xd := by
  refine Elaw ?_
  repeat fail
  refine begun2_k (by omega) fun a M1 cells hc hD hn hS => ?_
  have tm1 := tabs_new tm hn hD hS
  repeat fail
  refine borders_k ?_
  repeat fail
  refine border_loop F wat_none tm1 (fun o => ?_) _ _ fun d hd => ?_
  · repeat fail
    refine w_lenF ?_
    repeat fail
    refine w_rng1 (by split <;> omega) ?_
    refine lap_loop F hc (fun _ => wat_none) (B := 20000) (by decide) (fun M2 o2 o3 o4 o5 o6 o7 o8 o9 o10 o11 o12 o13 o14 => ?_) _ 0 M1 _ _ _ _ _ _ _ _ _ _ _ _ _ tm1 hD ?_
    · repeat fail
      exact lo_same (h _)
    · unfold rngL
      rw [List.length_map, List.length_range]
      split <;> omega
  · have e := List.all_eq_true.mp bL_wt d hd
    obtain ⟨e1, e2⟩ := Bool.and_eq_true_iff.mp e
    have e1 := of_decide_eq_true e1
    have e2 := of_decide_eq_true e2
    exact ⟨(okBs_ok bL_ok d hd).mono (by decide), by omega, by omega⟩
theorem law_d (K : Fg) (c : Nat → Addr) (F : CF K c) : DL.LawDT 63 (tabT c) (Wlaw K c) := fun ns hl => law_k F hl (tabM_ok (by unfold tabT; simp)) fun _ => rfl
end
end G_madeofhere_k02_whole_goods_judged
theorem PySem.Challenge.cw_madeofhere_k02_whole_goods_judged_holds : PySem.Challenge.rw_madeofhere_k02_whole_goods_judged.Holds := by
  exact G_madeofhere_k02_whole_goods_judged.from_data G_madeofhere_k02_whole_goods_judged.law_d
