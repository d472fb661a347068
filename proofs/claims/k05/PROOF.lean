import PyProof.Rows.All
import Wide.All
import OpenK.AllK
import Wide.FinOn
import HandS.ForMost
import HandS.Exc
import HandS.IsInst
import HandS.WordsExc
import HandS.ExcInit
import HandS.ExcValue
import HandS.Lambda
import HandS.Nested
import HandS.TupAny
import HandS.TupMul
import HandS.Wide
import HandS.Gcd
import HandS.Flow
import PyProof.StrBlock2
import HandS.Style
import HandS.Comp
import HandS.Iter
import HandS.RevRange
import KE.KMathGC
import PyProof.Rows.ReprR
import HandS.ExcField
import HandS.ExcIs
import KE.KExcInit
import HandS.Zip
import HandS.Star
import HandS.Ends
import HandS.More
import HandS.Words
import HandS.Defaults
import HandS.Head0
import HandS.Head1
import HandS.Head2
import HandS.HeadEnd
import HandS.HeadHook1
import HandS.HeadHook2
import KE.GoesMore
import PyProof.EnumMake
import PyProof.Draws
import HandS.TryOnly
import PyProof.CollectIter
import HandS.List
import HandS.Call
import KE.KTryMore
import PyProof.ReprRoads
import PyProof.ReprReads
import HandS.HotCalls
import HandS.HeadHook3
import HandS.HeadHook4
import HandS.EndTab
import PyProof.ReprLen
import PyProof.Rows.ReprOcc
import KE.GoesZip
import KE.KDictZip
import PyProof.ListNew
import KE.SortData
import HandS.Rev
import PyProof.Rows.SortRev
import KE.KRevSl
import HandS.Head3
import PySem.Challenge.RW_madeofhere_k05_goods_beside_one_another
set_option Elab.async false
set_option linter.all false
set_option maxRecDepth 100000
set_option maxHeartbeats 1000000
namespace DL
open PySem PySem.Spec PyProof.Rows L2
/-! ### data -/
/-- a value as data: what is immutable (or never changed any more) is told whole; what is owned (still changed) is a reference -/
inductive D where
  | non | bl (b : Bool) | int (i : Int) | str (x : Str) | ref (a : Addr) | ty (n : String)
  | tup (ds : List D) | lst (ds : List D) | fzn (ds : List D) | dct (ks : List Key) (ds : List D) | exn (C : Addr) (ns : List Str) (ds : List D) | kdt (ks : List (List Int)) (ds : List D) | lam (f cc : Addr) (q : Str) (σ : L2.St) (js : List Nat) (ds : List D) | fn (f : Addr) (F : NdefX.NF)
  deriving Inhabited
/-- what stands at an owned address -/
inductive MO where
  | lst (ds : List D) | dct (ks : List Key) (ds : List D) | ins (C : Addr) (ns : List Str) (ds : List D) | gen (φ : List V → HO) (ds : List D) | tab (q : Str)
abbrev Mem := Addr → Option MO
abbrev Fg := PySem.W.Frag
/-- a list of the written part -/
def KL (K : Fg) (a : Addr) (xs : List V) : Prop := ∃ (o : Obj) (its : Array Value) (n : Nat), K.lookup a = some o ∧ o.cls = .type "list" ∧ o.dict = none ∧ o.data = .seq its n ∧ its.size ≤ sizeLine ∧ Vals xs its.toList
def KT (K : Fg) (a : Addr) (xs : List V) : Prop := ∃ (o : Obj) (its : Array Value) (n : Nat), K.lookup a = some o ∧ o.cls = .type "tuple" ∧ o.data = .seq its n ∧ its.size ≤ sizeLine ∧ Vals xs its.toList
/-- read, and not owned -/
def RL (K : Fg) (H : Hp) (M : Mem) (a : Addr) (xs : List V) : Prop := (L2.Rd H a (.lst xs) ∧ M a = none) ∨ KL K a xs
def RT (K : Fg) (H : Hp) (M : Mem) (a : Addr) (xs : List V) : Prop := (L2.Rd H a (.tup xs) ∧ M a = none) ∨ KT K a xs
theorem RL.sq {K : Fg} {H : Hp} {M : Mem} {a : Addr} {xs : List V} (h : RL K H M a xs) : SqL K H a xs := h.elim (fun h => .inl h.1) .inr
theorem RT.sq {K : Fg} {H : Hp} {M : Mem} {a : Addr} {xs : List V} (h : RT K H M a xs) : SqT K H a xs := h.elim (fun h => .inl h.1) .inr
/-- a caught exception of the class C with its dict at dx -/
def exc (a C dx : Addr) : HO := .ext fun h => ∃ (oe : Obj) (vs : Array Value), h.get? a = some oe ∧ Zc (.ref C) (some dx) oe ∧ oe.data = .fields vs
/-- an exception, held since it was made, or caught -/
def ExAt (H : Hp) (a C dx : Addr) : Prop := H a = some (exo a C (some dx)) ∨ H a = some (exc a C dx)
/-- its fields -/
def EdAt (H : Hp) (dx : Addr) (fs : List (Str × V)) : Prop := H dx = some (exd dx fs) ∨ H dx = some (.xd fs)
/-- a dict whose keys are tuples of ints, never changed: its one object -/
structure KdOk (a : Addr) (o : Obj) (es : Array DictEntry) (ep : Nat) (ks : List (List Int)) (qs : List Addr) (us : List Value) : Prop where
  sys : (a == sysModules) = false
  ex : o.ExactDict
  dat : o.data = .dict es ep
  ent : ∀ (P : Program) (w : World), es.toList = (ks.zip (qs.zip us)).map (entryOfKey (tupleKind (PySem.intKind P w)))
  nd : ks.Nodup
  lq : qs.length = ks.length
  sz : ks.length ≤ sizeLine
inductive KdKeys (K : Fg) (H : Hp) (M : Mem) : List (List Int) → List Addr → Prop
  | nil : KdKeys K H M [] []
  | cons {k : List Int} {q : Addr} {ks : List (List Int)} {qs : List Addr} (h : RT K H M q (k.map V.int)) (r : KdKeys K H M ks qs) : KdKeys K H M (k :: ks) (q :: qs)
/-- what a lambda's free names hold -/
def Caught (σ : L2.St) (js : List Nat) (xs : List V) : Prop := ∀ (i j : Nat) (x : V), js[i]? = some j → xs[i]? = some x → σ[j]? = some (some x)
mutual
/-- the value v reads as the data d -/
def Rv (K : Fg) (H : Hp) (M : Mem) : D → V → Prop
  | .non, v => v = .non
  | .bl b, v => v = .bl b
  | .int i, v => v = .int i
  | .str x, v => v = .str x
  | .ref a, v => v = .ref a
  | .ty n, v => v = .ty n
  | .tup ds, v => ∃ a xs, v = .ref a ∧ RT K H M a xs ∧ Rs K H M ds xs
  | .lst ds, v => ∃ a xs, v = .ref a ∧ H a = some (.lst xs) ∧ M a = none ∧ Rs K H M ds xs
  | .fzn ds, v => ∃ a xs, v = .ref a ∧ RL K H M a xs ∧ Rs K H M ds xs
  | .dct ks ds, v => ∃ a kvs xs, v = .ref a ∧ H a = some (.dK kvs) ∧ M a = none ∧ kvs = ks.zip xs ∧ ks.length = ds.length ∧ Rs K H M ds xs
  | .exn C ns ds, v => (∃ a dx xs, v = .ref a ∧ ExAt H a C dx ∧ M a = none ∧ EdAt H dx (ns.zip xs) ∧ M dx = none ∧ ns.length = ds.length ∧ Rs K H M ds xs) ∨ (ns = [] ∧ ds = [] ∧ ∃ a, v = .ref a ∧ H a = some (ExO (.ref C) a) ∧ M a = none)
  | .kdt ks ds, v => ∃ (a : Addr) (o : Obj) (es : Array DictEntry) (ep : Nat) (qs : List Addr) (us : List Value) (xs : List V), v = .ref a ∧ H a = some (.ext fun h => h.get? a = some o) ∧ M a = none ∧ KdOk a o es ep ks qs us ∧ KdKeys K H M ks qs ∧ ks.length = ds.length ∧ Vals xs us ∧ Rs K H M ds xs
  | .lam f cc q σ js ds, v => v = .ref f ∧ H cc = some (LamX.CodeO cc q) ∧ M cc = none ∧ js.length = ds.length ∧ ∃ xs, Caught σ js xs ∧ Rs K H M ds xs
  | .fn f F, v => v = .ref f ∧ H f = some (NdefX.FnO f F) ∧ M f = none ∧ H F.c = some (LamX.CodeO F.c F.qual) ∧ M F.c = none
def Rs (K : Fg) (H : Hp) (M : Mem) : List D → List V → Prop
  | [], vs => vs = []
  | d :: ds, vs => ∃ v r, vs = v :: r ∧ Rv K H M d v ∧ Rs K H M ds r
end
/-- a table of code objects, owned by the def that makes lambdas -/
def TabAt (H : Hp) (M : Mem) (a : Addr) (q : Str) : Prop := ∃ ps : Array Value, H a = some (.tbl ps) ∧ TriplesOk ps.toList ∧ ∀ (pos : Pos) (cv : Value), codeAmong pos ps.toList = some cv → ∃ cc, cv = .ref cc ∧ H cc = some (LamX.CodeO cc q) ∧ M cc = none
/-- what is owned stands so -/
def MObj (K : Fg) (H : Hp) (M : Mem) (a : Addr) : MO → Prop
  | .lst ds => ∃ xs, H a = some (.lst xs) ∧ Rs K H M ds xs
  | .dct ks ds => ∃ xs, H a = some (.dK (ks.zip xs)) ∧ ks.length = ds.length ∧ Rs K H M ds xs
  | .ins C ns ds => ∃ dx xs, H a = some (.ins C dx (ns.zip xs)) ∧ ns.length = ds.length ∧ H dx = some (.own a) ∧ M dx = none ∧ Rs K H M ds xs
  | .gen _ _ => False
  | .tab q => TabAt H M a q
def MOk (K : Fg) (H : Hp) (M : Mem) : Prop := ∀ a o, M a = some o → MObj K H M a o
/-- what was tracked and not owned stands as it was, not owned -/
def NoT (o : HO) : Prop := ∀ ps, o ≠ .tbl ps
def Gw (H : Hp) (M : Mem) (H' : Hp) (M' : Mem) : Prop := ∀ a o, H a = some o → M a = none → NoT o → H' a = some o ∧ M' a = none
theorem Gw.at {H H' : Hp} {M M' : Mem} {a : Addr} {o : HO} (g : Gw H M H' M') (h : H a = some o) (m : M a = none) (n : NoT o := by intro ps z; cases z) : H' a = some o ∧ M' a = none := g a o h m n
theorem TabAt.keep {H H' : Hp} {M M' : Mem} {a : Addr} {q : Str} (h : TabAt H M a q) (ha : H' a = H a) (g : Gw H M H' M') : TabAt H' M' a q := by
  obtain ⟨ps, h1, h2, h3⟩ := h
  refine ⟨ps, ha.trans h1, h2, fun pos cv hc => ?_⟩
  obtain ⟨cc, e, z1, z2⟩ := h3 pos cv hc
  exact ⟨cc, e, g.at z1 z2 LamX.codeO_ne⟩
theorem Gw.refl {H : Hp} {M : Mem} : Gw H M H M := fun _ _ h m _ => ⟨h, m⟩
theorem Gw.trans {H H1 H2 : Hp} {M M1 M2 : Mem} (a : Gw H M H1 M1) (b : Gw H1 M1 H2 M2) : Gw H M H2 M2 := fun x o h m n => b x o (a x o h m n).1 (a x o h m n).2 n
section
variable {K : Fg} {H H' : Hp} {M M' : Mem}
theorem Gw.rd {a : Addr} {u : HO} (g : Gw H M H' M') (h : L2.Rd H a u) (m : M a = none) (n : NoT u := by intro ps z; cases z) : L2.Rd H' a u ∧ M' a = none := by
  rcases h with h | ⟨o, h⟩
  · exact ⟨.inl (g.at h m n).1, (g.at h m n).2⟩
  · exact ⟨.inr ⟨o, (g.at h m).1⟩, (g.at h m).2⟩
theorem Gw.ex {a C dx : Addr} (g : Gw H M H' M') (h : ExAt H a C dx) (m : M a = none) : ExAt H' a C dx ∧ M' a = none := by
  rcases h with h | h
  · exact ⟨.inl (g.at h m).1, (g.at h m).2⟩
  · exact ⟨.inr (g.at h m).1, (g.at h m).2⟩
theorem Gw.ed {dx : Addr} {fs : List (Str × V)} (g : Gw H M H' M') (h : EdAt H dx fs) (m : M dx = none) : EdAt H' dx fs ∧ M' dx = none := by
  rcases h with h | h
  · exact ⟨.inl (g.at h m).1, (g.at h m).2⟩
  · exact ⟨.inr (g.at h m).1, (g.at h m).2⟩
theorem Gw.rl {a : Addr} {xs : List V} (g : Gw H M H' M') (h : RL K H M a xs) : RL K H' M' a xs := by
  rcases h with ⟨h, m⟩ | h
  · exact .inl (g.rd h m)
  · exact .inr h
theorem Gw.rt {a : Addr} {xs : List V} (g : Gw H M H' M') (h : RT K H M a xs) : RT K H' M' a xs := by
  rcases h with ⟨h, m⟩ | h
  · exact .inl (g.rd h m)
  · exact .inr h
theorem KdKeys.grow {ks : List (List Int)} {qs : List Addr} (h : KdKeys K H M ks qs) (g : Gw H M H' M') : KdKeys K H' M' ks qs := by
  induction h with
  | nil => exact .nil
  | cons h _ ih => exact .cons (g.rt h) ih
mutual
theorem Rv.grow (g : Gw H M H' M') : ∀ (d : D) (v : V), Rv K H M d v → Rv K H' M' d v
  | .non, v, h => h
  | .bl b, v, h => h
  | .int i, v, h => h
  | .str x, v, h => h
  | .ref a, v, h => h
  | .ty n, v, h => h
  | .tup ds, v, ⟨a, xs, e, r, q⟩ => ⟨a, xs, e, g.rt r, Rs.grow g ds xs q⟩
  | .lst ds, v, ⟨a, xs, e, r, m, q⟩ => ⟨a, xs, e, (g.at r m).1, (g.at r m).2, Rs.grow g ds xs q⟩
  | .fzn ds, v, ⟨a, xs, e, r, q⟩ => ⟨a, xs, e, g.rl r, Rs.grow g ds xs q⟩
  | .dct ks ds, v, ⟨a, kvs, xs, e, r, m, z, l, q⟩ => ⟨a, kvs, xs, e, (g.at r m).1, (g.at r m).2, z, l, Rs.grow g ds xs q⟩
  | .kdt ks ds, v, ⟨a, o, es, ep, qs, us, xs, e, r, m, z, y, l, vv, q⟩ => ⟨a, o, es, ep, qs, us, xs, e, (g.at r m).1, (g.at r m).2, z, y.grow g, l, vv, Rs.grow g ds xs q⟩
  | .lam f cc q σ js ds, v, ⟨e, h1, h2, l, xs, cx, r⟩ => ⟨e, (g.at h1 h2 (LamX.codeO_ne)).1, (g.at h1 h2 (LamX.codeO_ne)).2, l, xs, cx, Rs.grow g ds xs r⟩
  | .fn f F, v, ⟨e, h1, h2, h3, h4⟩ => ⟨e, (g.at h1 h2 NdefX.fnO_ne).1, (g.at h1 h2 NdefX.fnO_ne).2, (g.at h3 h4 LamX.codeO_ne).1, (g.at h3 h4 LamX.codeO_ne).2⟩
  | .exn C ns ds, v, .inl ⟨a, dx, xs, e, r, m, r2, m2, l, q⟩ => .inl ⟨a, dx, xs, e, (g.ex r m).1, (g.ex r m).2, (g.ed r2 m2).1, (g.ed r2 m2).2, l, Rs.grow g ds xs q⟩
  | .exn C ns ds, v, .inr ⟨e1, e2, a, e, r, m⟩ => .inr ⟨e1, e2, a, e, (g.at r m).1, (g.at r m).2⟩
theorem Rs.grow (g : Gw H M H' M') : ∀ (ds : List D) (vs : List V), Rs K H M ds vs → Rs K H' M' ds vs
  | [], vs, h => h
  | d :: ds, vs, ⟨v, r, e, h, q⟩ => ⟨v, r, e, Rv.grow g d v h, Rs.grow g ds r q⟩
end
theorem Rs.len : ∀ {ds : List D} {vs : List V}, Rs K H M ds vs → ds.length = vs.length
  | [], vs, h => by
    have e : vs = [] := h
    rw [e]; rfl
  | d :: ds, vs, ⟨v, r, e, h, q⟩ => by
    rw [e, List.length_cons, List.length_cons, Rs.len q]
theorem Rs.get : ∀ {ds : List D} {vs : List V} {i : Nat} {d : D}, Rs K H M ds vs → ds[i]? = some d → ∃ v, vs[i]? = some v ∧ Rv K H M d v
  | [], _, _, _, _, e => by simp at e
  | d :: ds, _, 0, _, ⟨v, r, rfl, h, q⟩, e => by
    simp at e; subst e; exact ⟨v, rfl, h⟩
  | d :: ds, _, i + 1, _, ⟨v, r, rfl, h, q⟩, e => by
    obtain ⟨w, e1, e2⟩ := Rs.get (i := i) q (by simpa using e)
    exact ⟨w, by simpa using e1, e2⟩
theorem Rs.nil : Rs K H M [] [] := rfl
theorem Rs.cons {d : D} {v : V} {ds : List D} {vs : List V} (h : Rv K H M d v) (q : Rs K H M ds vs) : Rs K H M (d :: ds) (v :: vs) := ⟨v, vs, rfl, h, q⟩
theorem Rs.append : ∀ {ds es : List D} {vs ws : List V}, Rs K H M ds vs → Rs K H M es ws → Rs K H M (ds ++ es) (vs ++ ws)
  | [], _, vs, _, h, q => by
    have e : vs = [] := h
    subst e
    exact q
  | d :: ds, _, _, _, ⟨v, r, rfl, h, q⟩, z => Rs.cons h (Rs.append q z)
theorem Rs.drop : ∀ {ds : List D} {vs : List V} (n : Nat), Rs K H M ds vs → Rs K H M (ds.drop n) (vs.drop n)
  | _, _, 0, h => h
  | [], vs, n + 1, h => by
    have e : vs = [] := h
    subst e; rfl
  | d :: ds, _, n + 1, ⟨v, r, rfl, h, q⟩ => Rs.drop n q
theorem Rs.take : ∀ {ds : List D} {vs : List V} (n : Nat), Rs K H M ds vs → Rs K H M (ds.take n) (vs.take n)
  | _, _, 0, h => rfl
  | [], vs, n + 1, h => by
    have e : vs = [] := h
    subst e; rfl
  | d :: ds, _, n + 1, ⟨v, r, rfl, h, q⟩ => Rs.cons h (Rs.take n q)
theorem Rs.reverse : ∀ {ds : List D} {vs : List V}, Rs K H M ds vs → Rs K H M ds.reverse vs.reverse
  | [], vs, h => by
    have e : vs = [] := h
    subst e; rfl
  | d :: ds, _, ⟨v, r, rfl, h, q⟩ => by
    rw [List.reverse_cons, List.reverse_cons]
    exact Rs.append (Rs.reverse q) (Rs.cons h Rs.nil)
theorem Rs.set {d : D} {v : V} (h : Rv K H M d v) : ∀ {ds : List D} {vs : List V} (i : Nat), Rs K H M ds vs → Rs K H M (ds.set i d) (vs.set i v)
  | [], vs, _, q => by
    have e : vs = [] := q
    subst e; rfl
  | _ :: _, _, 0, ⟨_, _, rfl, _, q⟩ => Rs.cons h q
  | _ :: _, _, i + 1, ⟨_, _, rfl, h', q⟩ => Rs.cons h' (Rs.set h i q)
end
/-! ### the states -/
abbrev SD := List (Option D)
structure StOk (K : Fg) (σ : L2.St) (H : Hp) (s : SD) (M : Mem) : Prop where
  len : s.length = σ.length
  sl : ∀ (i : Nat) (d : D), s[i]? = some (some d) → ∃ v, σ[i]? = some (some v) ∧ Rv K H M d v
  mem : MOk K H M
theorem StOk.grow {K : Fg} {σ : L2.St} {H H' : Hp} {s : SD} {M M' : Mem} (S : StOk K σ H s M) (g : Gw H M H' M') (m : MOk K H' M') : StOk K σ H' s M' :=
  ⟨S.len, fun i d e => let ⟨v, e1, e2⟩ := S.sl i d e; ⟨v, e1, Rv.grow g d v e2⟩, m⟩
theorem StOk.set {K : Fg} {σ : L2.St} {H : Hp} {s : SD} {M : Mem} {d : D} {v : V} (S : StOk K σ H s M) (i : Nat) (r : Rv K H M d v) : StOk K (σ.set i (some v)) H (s.set i (some d)) M := by
  refine ⟨by rw [List.length_set, List.length_set]; exact S.len, fun j e h => ?_, S.mem⟩
  by_cases hj : j = i
  · subst hj
    by_cases hl : j < s.length
    · rw [List.getElem?_set_self hl] at h
      cases h
      exact ⟨v, List.getElem?_set_self (by rw [← S.len]; exact hl), r⟩
    · rw [List.getElem?_eq_none (by rw [List.length_set]; omega)] at h
      cases h
  · rw [List.getElem?_set_ne (Ne.symm hj)] at h
    obtain ⟨w, e1, e2⟩ := S.sl j e h
    exact ⟨w, by rw [List.getElem?_set_ne (Ne.symm hj)]; exact e1, e2⟩
/-- what is wanted of an exception: its class, its fields -/
abbrev XD := Addr → List Str → List D → Mem → Prop
abbrev QD := D → Mem → Prop
abbrev TED := XD → SD → Mem → QD → Prop
abbrev TTD := XD → SD → Mem → (Bool → Mem → Prop) → Prop
abbrev TAD := XD → SD → Mem → (List D → Mem → Prop) → Prop
structure EndsD where
  nx : SD → Mem → Prop
  rt : QD
  bk : SD → Mem → Prop
  ct : SD → Mem → Prop
  ex : XD
abbrev TSD := EndsD → SD → Mem → Prop
def upE (K : Fg) (H : Hp) (M : Mem) (Q : QD) : VK := fun v H' => ∃ d M', Gw H M H' M' ∧ MOk K H' M' ∧ Rv K H' M' d v ∧ Q d M'
def upT (K : Fg) (H : Hp) (M : Mem) (Q : Bool → Mem → Prop) : Bool → Hp → Prop := fun b H' => ∃ M', Gw H M H' M' ∧ MOk K H' M' ∧ Q b M'
def upA (K : Fg) (H : Hp) (M : Mem) (Q : List D → Mem → Prop) : List V → Hp → Prop := fun vs H' => ∃ ds M', Gw H M H' M' ∧ MOk K H' M' ∧ Rs K H' M' ds vs ∧ Q ds M'
def upS (K : Fg) (H : Hp) (M : Mem) (Q : SD → Mem → Prop) : L2.St → Hp → Prop := fun σ' H' => ∃ s' M', Gw H M H' M' ∧ StOk K σ' H' s' M' ∧ Q s' M'
def upX (K : Fg) (H : Hp) (M : Mem) (Q : XD) : XK := fun c od H' => ∃ C d ns xs ds M', c = .ref C ∧ od = some d ∧ H' d = some (.xd (ns.zip xs)) ∧ M' d = none ∧ ns.length = ds.length ∧ Rs K H' M' ds xs ∧ Gw H M H' M' ∧ MOk K H' M' ∧ Q C ns ds M'
/-- the wish about exceptions of the data stands over that of the heap -/
def XTo (K : Fg) (H : Hp) (M : Mem) (Xd : XD) (E : XK) : Prop := ∀ c od H', upX K H M Xd c od H' → E c od H'
theorem XTo.grow {K : Fg} {H H' : Hp} {M M' : Mem} {Xd : XD} {E : XK} (x : XTo K H M Xd E) (g : Gw H M H' M') : XTo K H' M' Xd E := fun c od H2 ⟨C, d, ns, xs, ds, M2, a1, a2, a3, a4, a5, a6, a7, a8, a9⟩ =>
  x c od H2 ⟨C, d, ns, xs, ds, M2, a1, a2, a3, a4, a5, a6, g.trans a7, a8, a9⟩
def liftE (K : Fg) (E : XK) (t : TED) : TE := fun σ H Q => ∃ s M Qd Xd, StOk K σ H s M ∧ XTo K H M Xd E ∧ t Xd s M Qd ∧ ∀ v H', upE K H M Qd v H' → Q v H'
def liftT (K : Fg) (E : XK) (t : TTD) : TT := fun σ H Q => ∃ s M Qd Xd, StOk K σ H s M ∧ XTo K H M Xd E ∧ t Xd s M Qd ∧ ∀ v H', upT K H M Qd v H' → Q v H'
def liftS (K : Fg) (E : XK) (t : TSD) : TS := fun Z σ H => ∃ s M Y, StOk K σ H s M ∧ XTo K H M Y.ex E ∧ t Y s M ∧ (∀ σ' H', upS K H M Y.nx σ' H' → Z.nx σ' H') ∧ (∀ v H', upE K H M Y.rt v H' → Z.rt v H') ∧
  (∀ σ' H', upS K H M Y.bk σ' H' → Z.bk σ' H') ∧ (∀ σ' H', upS K H M Y.ct σ' H' → Z.ct σ' H')
structure DE (X : Cx) (E : XK) (e : Expr) (t : TED) : Prop where
  ok : PE X e (liftE X.K E t)
structure DT (X : Cx) (E : XK) (e : Expr) (t : TTD) : Prop where
  ok : PT X e (liftT X.K E t)
structure DS (X : Cx) (E : XK) (st : Stmt) (t : TSD) : Prop where
  ok : PS X st (liftS X.K E t)
structure DSs (X : Cx) (E : XK) (st : List Stmt) (t : TSD) : Prop where
  ok : PSs X st (liftS X.K E t)
section
variable {X : Cx} {e : Expr}
theorem PE.imp {t t' : TE} (h : PE X e t) (i : ∀ σ H Q, t' σ H Q → t σ H Q) : PE X e t' := ⟨fun pins s σ H Q I q => h.run pins s σ H Q I (i σ H Q q)⟩
theorem PT.imp {t t' : TT} (h : PT X e t) (i : ∀ σ H Q, t' σ H Q → t σ H Q) : PT X e t' := ⟨fun pins s σ H Q I q => h.run pins s σ H Q I (i σ H Q q)⟩
theorem PW.imp {t t' : TT} (h : PW X e t) (i : ∀ σ H Q, t' σ H Q → t σ H Q) : PW X e t' := ⟨fun wh pins s σ H Q I q => h.run wh pins s σ H Q I (i σ H Q q)⟩
theorem PA.imp {es : List Expr} {t t' : TA} (h : PA X es t) (i : ∀ σ H Q, t' σ H Q → t σ H Q) : PA X es t' := ⟨fun pos pins s σ H Q I q => h.run pos pins s σ H Q I (i σ H Q q)⟩
theorem PS.imp {st : Stmt} {t t' : TS} (h : PS X st t) (i : ∀ Z σ H, t' Z σ H → t Z σ H) : PS X st t' := ⟨fun pins s σ H Z I q => h.run pins s σ H Z I (i Z σ H q)⟩
theorem PSs.imp {st : List Stmt} {t t' : TS} (h : PSs X st t) (i : ∀ Z σ H, t' Z σ H → t Z σ H) : PSs X st t' := ⟨fun pins s σ H Z I q => h.run pins s σ H Z I (i Z σ H q)⟩
end
/-- use of a lifted reading from a state of data -/
theorem useE {K : Fg} {E : XK} {t : TED} {σ : L2.St} {H : Hp} {s : SD} {M : Mem} {Xd : XD} {Qd : QD} {Q : VK} (S : StOk K σ H s M) (x : XTo K H M Xd E) (h : t Xd s M Qd)
    (q : ∀ d v M' H', Gw H M H' M' → StOk K σ H' s M' → XTo K H' M' Xd E → Rv K H' M' d v → Qd d M' → Q v H') : liftE K E t σ H Q :=
  ⟨s, M, Qd, Xd, S, x, h, fun v H' ⟨d, M', g, m, r, z⟩ => q d v M' H' g (S.grow g m) (x.grow g) r z⟩
theorem useT {K : Fg} {E : XK} {t : TTD} {σ : L2.St} {H : Hp} {s : SD} {M : Mem} {Xd : XD} {Qd : Bool → Mem → Prop} {Q : Bool → Hp → Prop} (S : StOk K σ H s M) (x : XTo K H M Xd E) (h : t Xd s M Qd)
    (q : ∀ b M' H', Gw H M H' M' → StOk K σ H' s M' → XTo K H' M' Xd E → Qd b M' → Q b H') : liftT K E t σ H Q :=
  ⟨s, M, Qd, Xd, S, x, h, fun v H' ⟨M', g, m, z⟩ => q v M' H' g (S.grow g m) (x.grow g) z⟩
end DL
set_option maxHeartbeats 1000000
namespace DL
open PySem PySem.Spec PyProof.Rows L2
/-- an owned list or dict as it stands -/
def vwO (a : Addr) : Option MO → D
  | some (.lst ds) => .lst ds
  | some (.dct ks ds) => .dct ks ds
  | some (.ins _ _ _) => .ref a
  | some (.gen _ _) => .ref a
  | some (.tab _) => .ref a
  | none => .ref a
def vw (M : Mem) : D → D
  | .ref a => vwO a (M a)
  | d => d
theorem vw_ref {M : Mem} {a : Addr} : vw M (.ref a) = vwO a (M a) := rfl
section
variable {K : Fg} {H : Hp} {M : Mem} {v : V}
theorem Rv.non (h : Rv K H M .non v) : v = .non := h
theorem vw_lst {d : D} {ds : List D} (mo : MOk K H M) (r : Rv K H M d v) (e : vw M d = .lst ds) : ∃ a xs, v = .ref a ∧ H a = some (.lst xs) ∧ Rs K H M ds xs := by
  cases d with
  | lst es =>
    have e' : es = ds := by simpa [vw] using e
    subst e'
    obtain ⟨a, xs, h1, h2, _, h3⟩ := r
    exact ⟨a, xs, h1, h2, h3⟩
  | ref a =>
    have r' : v = .ref a := r
    rw [vw_ref] at e
    cases q : M a with
    | none => rw [q] at e; cases e
    | some o =>
      rw [q] at e
      cases o with
      | lst es =>
        have e' : es = ds := by simpa [vwO] using e
        subst e'
        obtain ⟨xs, h2, h3⟩ := mo a _ q
        exact ⟨a, xs, r', h2, h3⟩
      | dct ks es => cases e
      | ins C ns es => cases e
      | gen φ es => cases e
      | tab q => cases e
  | _ => cases e
theorem vw_tup {d : D} {ds : List D} (r : Rv K H M d v) (e : vw M d = .tup ds) : ∃ a xs, v = .ref a ∧ RT K H M a xs ∧ Rs K H M ds xs := by
  cases d with
  | tup es =>
    have e' : es = ds := by simpa [vw] using e
    subst e'
    exact r
  | ref a =>
    rw [vw_ref] at e
    cases q : M a with
    | none => rw [q] at e; cases e
    | some o => rw [q] at e; cases o <;> cases e
  | _ => cases e
theorem vw_fzn {d : D} {ds : List D} (r : Rv K H M d v) (e : vw M d = .fzn ds) : ∃ a xs, v = .ref a ∧ RL K H M a xs ∧ Rs K H M ds xs := by
  cases d with
  | fzn es =>
    have e' : es = ds := by simpa [vw] using e
    subst e'
    exact r
  | ref a =>
    rw [vw_ref] at e
    cases q : M a with
    | none => rw [q] at e; cases e
    | some o => rw [q] at e; cases o <;> cases e
  | _ => cases e
theorem vw_dct {d : D} {ks : List Key} {ds : List D} (mo : MOk K H M) (r : Rv K H M d v) (e : vw M d = .dct ks ds) : ∃ a xs, v = .ref a ∧ H a = some (.dK (ks.zip xs)) ∧ ks.length = ds.length ∧ Rs K H M ds xs := by
  cases d with
  | dct ls es =>
    have e' : ls = ks ∧ es = ds := by simpa [vw] using e
    obtain ⟨rfl, rfl⟩ := e'
    obtain ⟨a, kvs, xs, h1, h2, _, rfl, h4, h3⟩ := r
    exact ⟨a, xs, h1, h2, h4, h3⟩
  | ref a =>
    have r' : v = .ref a := r
    rw [vw_ref] at e
    cases q : M a with
    | none => rw [q] at e; cases e
    | some o =>
      rw [q] at e
      cases o with
      | lst es => cases e
      | dct ls es =>
        have e' : ls = ks ∧ es = ds := by simpa [vwO] using e
        obtain ⟨rfl, rfl⟩ := e'
        obtain ⟨xs, h2, h4, h3⟩ := mo a _ q
        exact ⟨a, xs, r', h2, h4, h3⟩
      | ins C ns es => cases e
      | gen φ es => cases e
      | tab q => cases e
  | _ => cases e
theorem vw_int {d : D} {i : Int} (r : Rv K H M d v) (e : vw M d = .int i) : v = .int i := by
  cases d with
  | int j =>
    have e' : j = i := by simpa [vw] using e
    subst e'
    exact r
  | ref a =>
    rw [vw_ref] at e
    cases q : M a with
    | none => rw [q] at e; cases e
    | some o => rw [q] at e; cases o <;> cases e
  | _ => cases e
theorem vw_str {d : D} {x : Str} (r : Rv K H M d v) (e : vw M d = .str x) : v = .str x := by
  cases d with
  | str j =>
    have e' : j = x := by simpa [vw] using e
    subst e'
    exact r
  | ref a =>
    rw [vw_ref] at e
    cases q : M a with
    | none => rw [q] at e; cases e
    | some o => rw [q] at e; cases o <;> cases e
  | _ => cases e
theorem vw_bl {d : D} {b : Bool} (r : Rv K H M d v) (e : vw M d = .bl b) : v = .bl b := by
  cases d with
  | bl j =>
    have e' : j = b := by simpa [vw] using e
    subst e'
    exact r
  | ref a =>
    rw [vw_ref] at e
    cases q : M a with
    | none => rw [q] at e; cases e
    | some o => rw [q] at e; cases o <;> cases e
  | _ => cases e
theorem vw_non {d : D} (r : Rv K H M d v) (e : vw M d = .non) : v = .non := by
  cases d with
  | non => exact r
  | ref a =>
    rw [vw_ref] at e
    cases q : M a with
    | none => rw [q] at e; cases e
    | some o => rw [q] at e; cases o <;> cases e
  | _ => cases e
/-- what is new and not tracked ahead -/
theorem gw_new {p : Addr} {o : HO} (hp : H p = none) : Gw H M (upd H p o) M := fun a u h m _ => ⟨by rw [upd_ne (ne_of_none h hp)]; exact h, m⟩
theorem mok_new {p : Addr} {o : HO} (mo : MOk K H M) (hp : H p = none) : MOk K (upd H p o) M := fun a m e => by
  have g : Gw H M (upd H p o) M := gw_new hp
  have q := mo a m e
  cases m with
  | lst ds =>
    obtain ⟨xs, h1, h2⟩ := q
    exact ⟨xs, by rw [upd_ne (ne_of_none h1 hp)]; exact h1, Rs.grow g ds xs h2⟩
  | dct ks ds =>
    obtain ⟨xs, h1, h3, h2⟩ := q
    exact ⟨xs, by rw [upd_ne (ne_of_none h1 hp)]; exact h1, h3, Rs.grow g ds xs h2⟩
  | ins C ns ds =>
    obtain ⟨dx, xs, h1, h3, h4, h5, h2⟩ := q
    exact ⟨dx, xs, by rw [upd_ne (ne_of_none h1 hp)]; exact h1, h3, by rw [upd_ne (ne_of_none h4 hp)]; exact h4, h5, Rs.grow g ds xs h2⟩
  | gen φ ds => exact q.elim
  | tab q0 =>
    obtain ⟨ps, h1, _⟩ := id q
    exact TabAt.keep q (upd_ne (ne_of_none h1 hp)) g
theorem m_none {p : Addr} (mo : MOk K H M) (hp : H p = none) : M p = none := by
  cases q : M p with
  | none => rfl
  | some o =>
    have z := mo p o q
    cases o with
    | lst ds => obtain ⟨xs, h1, _⟩ := z; rw [hp] at h1; cases h1
    | dct ks ds => obtain ⟨xs, h1, _⟩ := z; rw [hp] at h1; cases h1
    | ins C ns ds => obtain ⟨dx, xs, h1, _⟩ := z; rw [hp] at h1; cases h1
    | gen φ ds => exact z.elim
    | tab q => obtain ⟨xs, h1, _⟩ := z; rw [hp] at h1; cases h1
/-- a new tuple as data -/
theorem new_tup {p : Addr} {ds : List D} {xs : List V} (mo : MOk K H M) (hp : H p = none) (r : Rs K H M ds xs) : Rv K (upd H p (.tup xs)) M (.tup ds) (.ref p) :=
  ⟨p, xs, rfl, .inl ⟨.inl upd_same, m_none mo hp⟩, Rs.grow (gw_new hp) ds xs r⟩
theorem new_lst {p : Addr} {ds : List D} {xs : List V} (mo : MOk K H M) (hp : H p = none) (r : Rs K H M ds xs) : Rv K (upd H p (.lst xs)) M (.lst ds) (.ref p) :=
  ⟨p, xs, rfl, upd_same, m_none mo hp, Rs.grow (gw_new hp) ds xs r⟩
end
/-! ### expressions -/
def dVar (i : Nat) : TED := fun _ s M Q => match s[i]? with
  | some (some d) => Q d M
  | _ => False
def dC (d : D) : TED := fun _ _ M Q => Q d M
section
variable {X : Cx} {E : XK} {e a b c : Expr} {pos : Pos} {ta tb tc : TED}
theorem de_var {i : Nat} (h : PE X e (tVar i)) : DE X E e (dVar i) := ⟨PE.imp h fun σ H Q ⟨s, M, Qd, Xd, S, x, t, q⟩ => by
  unfold dVar at t
  split at t
  · rename_i d hd
    obtain ⟨v, e1, e2⟩ := S.sl i d hd
    exact ⟨v, e1, q v H ⟨d, M, Gw.refl, S.mem, e2, t⟩⟩
  · exact t.elim⟩
/-- a reading that gives a constant -/
theorem de_const {v : V} {d : D} (h : PE X e (tC v)) (r : ∀ H M, Rv X.K H M d v) : DE X E e (dC d) := ⟨PE.imp h fun σ H Q ⟨s, M, Qd, Xd, S, x, t, q⟩ => q v H ⟨d, M, Gw.refl, S.mem, r H M, t⟩⟩
theorem de_int {i j} : DE X E (.Constant (.int i) j pos) (dC (.int i)) := de_const pe_int fun _ _ => rfl
theorem de_bl {i j} : DE X E (.Constant (.bool i) j pos) (dC (.bl i)) := de_const pe_bl fun _ _ => rfl
theorem de_non {j} : DE X E (.Constant .none j pos) (dC .non) := de_const pe_non fun _ _ => rfl
theorem de_str {i j} : DE X E (.Constant (.str i) j pos) (dC (.str i)) := de_const pe_str fun _ _ => rfl
/-! ### operators by values -/
abbrev O2 := D → D → Mem → QD → Prop
def DOp (X : Cx) (f : Value → Value → Sem Value) (o : O2) : Prop :=
  ∀ (pins : List (Addr × Obj)) (s : Shared) (σ : L2.St) (H : Hp) (M : Mem) (x y : V) (dx dy : D) (v u : Value) (Q : VK) (Qd : QD), Inv X pins σ H s → MOk X.K H M → Rv X.K H M dx x → Rv X.K H M dy y → RelV x v → RelV y u → o dx dy M Qd →
    (∀ v H', upE X.K H M Qd v H' → Q v H') → wpAny (model X.prog X.w) X.A (f v u) (EP X pins σ Q) X.xe s
def dOp (o : O2) (ta tb : TED) : TED := fun Xd s M Q => ta Xd s M fun x M1 => tb Xd s M1 fun y M2 => o x y M2 Q
theorem DOp.toR {f : Value → Value → Sem Value} {o : O2} (h : DOp X f o) : OpR X f (fun x y H Q => ∃ M dx dy Qd, MOk X.K H M ∧ Rv X.K H M dx x ∧ Rv X.K H M dy y ∧ o dx dy M Qd ∧ ∀ v H', upE X.K H M Qd v H' → Q v H') :=
  fun pins s σ H x y v u Q I rx ry ⟨M, dx, dy, Qd, mo, r1, r2, t, q⟩ => h pins s σ H M x y dx dy v u Q Qd I mo r1 r2 rx ry t q
/-- two readings in a row -/
theorem lift2 {o : O2} {r : R2} (hr : ∀ {x y : V} {H : Hp} {Q : VK} {M : Mem} {dx dy : D} {Qd : QD}, MOk X.K H M → Rv X.K H M dx x → Rv X.K H M dy y → o dx dy M Qd → (∀ v H', upE X.K H M Qd v H' → Q v H') → r x y H Q)
    {σ : L2.St} {H : Hp} {Q : VK} (h : liftE X.K E (dOp o ta tb) σ H Q) : tOp r (liftE X.K E ta) (liftE X.K E tb) σ H Q := by
  obtain ⟨s, M, Qd, Xd, S, x, t, q⟩ := h
  refine useE S x t fun dx v M1 H1 g1 S1 x1 r1 t1 => ?_
  refine useE S1 x1 t1 fun dy u M2 H2 g2 S2 x2 r2 t2 => ?_
  exact hr S2.mem (Rv.grow g2 _ _ r1) r2 t2 fun w H' ⟨d, M', g, m, r, z⟩ => q w H' ⟨d, M', (g1.trans g2).trans g, m, r, z⟩
theorem de_op {op : Operator} {o : O2} (h : DOp X (binaryOp op) o) (ha : DE X E a ta) (hb : DE X E b tb) : DE X E (.BinOp a op b pos) (dOp o ta tb) :=
  ⟨PE.imp (pe_op h.toR ha.ok hb.ok) fun σ H Q z => lift2 (fun mo r1 r2 t q => ⟨_, _, _, _, mo, r1, r2, t, q⟩) z⟩
theorem de_cmp {op : CmpOp} {o : O2} (h : DOp X (compareOp op) o) (ha : DE X E a ta) (hb : DE X E b tb) (hm : behindInMarks op b = false) : DE X E (.Compare a [op] [b] pos) (dOp o ta tb) :=
  ⟨PE.imp (pe_cmpR h.toR ha.ok hb.ok hm) fun σ H Q z => lift2 (fun mo r1 r2 t q => ⟨_, _, _, _, mo, r1, r2, t, q⟩) z⟩
/-- a value as a test -/
def tstB (Q : Bool → Mem → Prop) : QD := fun d M => match d with
  | .bl b => Q b M
  | _ => False
def dTst (t : TED) : TTD := fun Xd s M Q => t Xd s M (tstB Q)
theorem liftB {t : TED} {σ : L2.St} {H : Hp} {Q : Bool → Hp → Prop} (h : liftT X.K E (dTst t) σ H Q) : tTest (liftE X.K E t) σ H Q := by
  obtain ⟨s, M, Qd, Xd, S, x, z, q⟩ := h
  refine useE S x z fun d v M1 H1 g1 S1 x1 r1 t1 => ?_
  unfold tstB at t1
  split at t1
  · rename_i b
    exact ⟨b, r1, q b H1 ⟨M1, g1, S1.mem, t1⟩⟩
  · exact t1.elim
theorem dt_cmp {op : CmpOp} {o : O2} (h : DOp X (compareOp op) o) (ha : DE X E a ta) (hb : DE X E b tb) (hm : behindInMarks op b = false) : DT X E (.Compare a [op] [b] pos) (dTst (dOp o ta tb)) :=
  ⟨PT.imp (pt_cmpR h.toR ha.ok hb.ok hm) fun σ H Q z => by
    refine (?_ : tTest (tOp _ _ _) σ H Q)
    obtain ⟨k1, k2⟩ := (⟨liftB z, trivial⟩ : tTest (liftE X.K E (dOp o ta tb)) σ H Q ∧ True)
    exact lift2 (fun mo r1 r2 t q => ⟨_, _, _, _, mo, r1, r2, t, q⟩) k1⟩
end
end DL
set_option maxHeartbeats 1000000
namespace DL
open PySem PySem.Spec PyProof.Rows L2
/-! ### data as the library tells it -/
mutual
def toPy : D → Option PyData
  | .non => some .none
  | .bl b => some (.bool b)
  | .int i => some (.int i)
  | .str x => some (.str x)
  | .tup ds => (toPys ds).map PyData.tuple
  | .lst ds => (toPys ds).map PyData.list
  | .fzn ds => (toPys ds).map PyData.list
  | _ => none
def toPys : List D → Option (List PyData)
  | [] => some []
  | d :: ds => match toPy d, toPys ds with
    | some p, some ps => some (p :: ps)
    | _, _ => none
end
section
variable {K : Fg} {H : Hp} {M : Mem}
mutual
theorem Rv.dp : ∀ (d : D) (v : V) (p : PyData), Rv K H M d v → toPy d = some p → Dp K H v p
  | .non, v, p, h, e => by
    have h' : v = .non := h
    have e' : some PyData.none = some p := e
    cases e'; subst h'; exact .non
  | .bl b, v, p, h, e => by
    have h' : v = .bl b := h
    have e' : some (PyData.bool b) = some p := e
    cases e'; subst h'; exact .bl b
  | .int b, v, p, h, e => by
    have h' : v = .int b := h
    have e' : some (PyData.int b) = some p := e
    cases e'; subst h'; exact .int b
  | .str b, v, p, h, e => by
    have h' : v = .str b := h
    have e' : some (PyData.str b) = some p := e
    cases e'; subst h'; exact .str b
  | .tup ds, v, p, ⟨a, xs, hv, r, q⟩, e => by
    have e' : (toPys ds).map PyData.tuple = some p := e
    cases z : toPys ds with
    | none => rw [z] at e'; cases e'
    | some ps =>
      rw [z] at e'; cases e'; subst hv
      exact .tup r.sq (Rs.dp ds xs ps q z)
  | .lst ds, v, p, ⟨a, xs, hv, r, m, q⟩, e => by
    have e' : (toPys ds).map PyData.list = some p := e
    cases z : toPys ds with
    | none => rw [z] at e'; cases e'
    | some ps =>
      rw [z] at e'; cases e'; subst hv
      exact .lst (SqL.of r) (Rs.dp ds xs ps q z)
  | .fzn ds, v, p, ⟨a, xs, hv, r, q⟩, e => by
    have e' : (toPys ds).map PyData.list = some p := e
    cases z : toPys ds with
    | none => rw [z] at e'; cases e'
    | some ps =>
      rw [z] at e'; cases e'; subst hv
      exact .lst r.sq (Rs.dp ds xs ps q z)
  | .ref _, _, _, _, e => by cases (show (none : Option PyData) = some _ from e)
  | .ty _, _, _, _, e => by cases (show (none : Option PyData) = some _ from e)
  | .dct _ _, _, _, _, e => by cases (show (none : Option PyData) = some _ from e)
  | .exn _ _ _, _, _, _, e => by cases (show (none : Option PyData) = some _ from e)
  | .kdt _ _, _, _, _, e => by cases (show (none : Option PyData) = some _ from e)
theorem Rs.dp : ∀ (ds : List D) (vs : List V) (ps : List PyData), Rs K H M ds vs → toPys ds = some ps → DpAll K H vs ps
  | [], vs, ps, h, e => by
    have h' : vs = [] := h
    have e' : some [] = some ps := e
    cases e'; subst h'; exact .nil
  | d :: ds, _, ps, ⟨v, r, rfl, h, q⟩, e => by
    unfold toPys at e
    split at e
    · rename_i p qs h1 h2
      cases e
      exact .cons (Rv.dp d v p h h1) (Rs.dp ds r qs q h2)
    · cases e
end
/-- owned on top, seen as it stands -/
theorem vw_dp {d : D} {v : V} {p : PyData} (mo : MOk K H M) (r : Rv K H M d v) (e : toPy (vw M d) = some p) : Dp K H v p := by
  cases q : vw M d with
  | lst ds =>
    rw [q] at e
    obtain ⟨a, xs, rfl, h1, h2⟩ := vw_lst mo r q
    have e' : (toPys ds).map PyData.list = some p := e
    cases z : toPys ds with
    | none => rw [z] at e'; cases e'
    | some ps => rw [z] at e'; cases e'; exact .lst (SqL.of h1) (Rs.dp ds xs ps h2 z)
  | tup ds =>
    rw [q] at e
    obtain ⟨a, xs, rfl, h1, h2⟩ := vw_tup r q
    exact Rv.dp (M := M) (.tup ds) _ _ ⟨a, xs, rfl, h1, h2⟩ e
  | fzn ds =>
    rw [q] at e
    obtain ⟨a, xs, rfl, h1, h2⟩ := vw_fzn r q
    exact Rv.dp (M := M) (.fzn ds) _ _ ⟨a, xs, rfl, h1, h2⟩ e
  | int i => rw [q] at e; rw [vw_int r q]; exact Rv.dp (M := M) (.int i) _ _ rfl e
  | bl i => rw [q] at e; rw [vw_bl r q]; exact Rv.dp (M := M) (.bl i) _ _ rfl e
  | str i => rw [q] at e; rw [vw_str r q]; exact Rv.dp (M := M) (.str i) _ _ rfl e
  | non => rw [q] at e; rw [vw_non r q]; exact Rv.dp (M := M) .non _ _ rfl e
  | _ => rw [q] at e; cases e
end
/-- equality of data, where it is shaped -/
def eqO (x y : D) : Option Bool := match toPy x, toPy y with
  | some p, some q => if SeqAt.shaped p = true ∧ SeqAt.shaped q = true then some (PyData.eqv p q) else none
  | _, _ => none
theorem eqO_of {x y : D} {b : Bool} (h : eqO x y = some b) : ∃ p q, toPy x = some p ∧ toPy y = some q ∧ SeqAt.shaped p = true ∧ SeqAt.shaped q = true ∧ b = PyData.eqv p q := by
  unfold eqO at h
  split at h
  · rename_i p q h1 h2
    split at h
    · rename_i z
      exact ⟨p, q, h1, h2, z.1, z.2, (Option.some.inj h).symm⟩
    · cases h
  · cases h
/-! ### the operators -/
def addD : O2 := fun x y M Q => match vw M x, vw M y with
  | .int i, .int j => Q (.int (i + j)) M
  | .int i, .bl b => Q (.int (i + b2i b)) M
  | .str a, .str b => a.length + b.length ≤ sizeLine ∧ Q (.str (a ++ b)) M
  | .tup a, .tup b => a.length + b.length ≤ sizeLine ∧ Q (.tup (a ++ b)) M
  | .lst a, .lst b => a.length + b.length ≤ sizeLine ∧ Q (.lst (a ++ b)) M
  | _, _ => False
def subD : O2 := fun x y M Q => match vw M x, vw M y with
  | .int i, .int j => Q (.int (i - j)) M
  | _, _ => False
def repL (k : Nat) (ds : List D) : List D := (List.replicate k ds).flatten
def mulD : O2 := fun x y M Q => match vw M x, vw M y with
  | .int i, .int j => CMulW i j ∧ Q (.int (i * j)) M
  | .lst a, .int k => (-(2 ^ 63) ≤ k ∧ k < 2 ^ 63 ∧ a.length * k.toNat ≤ sizeLine) ∧ Q (.lst (repL k.toNat a)) M
  | .tup a, .int k => (a ≠ [] ∧ 2 ≤ k ∧ k ≤ 1000 ∧ a.length ≤ 1000) ∧ Q (.tup (repL k.toNat a)) M
  | .str x, .int k => MulOk x k ∧ Q (.str (Txt.mul x k)) M
  | _, _ => False
def fdivD : O2 := fun x y M Q => match vw M x, vw M y with
  | .int i, .int j => CDivW i j ∧ Q (.int (i / j)) M
  | _, _ => False
def modD : O2 := fun x y M Q => match vw M x, vw M y with
  | .int i, .int j => 0 < j ∧ Q (.int (i % j)) M
  | _, _ => False
def powD : O2 := fun x y M Q => match vw M x, vw M y with
  | .int i, .int j => CPow i j ∧ Q (.int (i ^ j.toNat)) M
  | _, _ => False
def cmpD (p : Int → Int → Bool) : O2 := fun x y M Q => match vw M x, vw M y with
  | .int i, .int j => Q (.bl (p i j)) M
  | _, _ => False
abbrev ltD : O2 := cmpD fun i j => decide (i < j)
abbrev leD : O2 := cmpD fun i j => decide (i ≤ j)
abbrev gtD : O2 := cmpD fun i j => decide (j < i)
abbrev geD : O2 := cmpD fun i j => decide (j ≤ i)
def eqD : O2 := fun x y M Q => match eqO (vw M x) (vw M y) with
  | some b => Q (.bl b) M
  | none => False
def neD : O2 := fun x y M Q => match eqO (vw M x) (vw M y) with
  | some b => Q (.bl (!b)) M
  | none => False
def isN : D → Bool
  | .non => true
  | _ => false
def isD : O2 := fun x y M Q => y = .non ∧ Q (.bl (isN x)) M
def isNotD : O2 := fun x y M Q => y = .non ∧ Q (.bl (!isN x)) M
theorem vlen {K : Fg} {H : Hp} {M : Mem} {ds : List D} {vs : List V} (r : Rs K H M ds vs) : vs.length = ds.length := (Rs.len r).symm
theorem rs_rep {K : Fg} {H : Hp} {M : Mem} {ds : List D} {vs : List V} (r : Rs K H M ds vs) : ∀ k, Rs K H M (repL k ds) (List.replicate k vs).flatten
  | 0 => rfl
  | k + 1 => by
    unfold repL
    rw [List.replicate_succ, List.replicate_succ, List.flatten_cons, List.flatten_cons]
    exact Rs.append r (rs_rep r k)
section
variable {X : Cx}
theorem up_same {K : Fg} {H : Hp} {M : Mem} {Q : QD} {d : D} {v : V} (mo : MOk K H M) (q : Q d M) (r : Rv K H M d v) : upE K H M Q v H := ⟨d, M, Gw.refl, mo, r, q⟩
theorem up_new_tup {K : Fg} {H : Hp} {M : Mem} {Q : QD} {ds : List D} {xs : List V} {p : Addr} (mo : MOk K H M) (hp : H p = none) (r : Rs K H M ds xs) (q : Q (.tup ds) M) : upE K H M Q (.ref p) (upd H p (.tup xs)) :=
  ⟨_, M, gw_new hp, mok_new mo hp, new_tup mo hp r, q⟩
theorem up_new_lst {K : Fg} {H : Hp} {M : Mem} {Q : QD} {ds : List D} {xs : List V} {p : Addr} (mo : MOk K H M) (hp : H p = none) (r : Rs K H M ds xs) (q : Q (.lst ds) M) : upE K H M Q (.ref p) (upd H p (.lst xs)) :=
  ⟨_, M, gw_new hp, mok_new mo hp, new_lst mo hp r, q⟩
theorem do_add : DOp X (binaryOp .Add) addD := by
  intro pins s σ H M x y dx dy v u Q Qd I mo r1 r2 rx ry t q
  unfold addD at t
  split at t
  · rename_i i j h1 h2
    exact op_add pins s σ H x y v u Q I rx ry ⟨i, j, vw_int r1 h1, vw_int r2 h2, q _ _ (up_same mo t rfl)⟩
  · rename_i i j h1 h2
    exact op_add_ib pins s σ H x y v u Q I rx ry ⟨i, j, vw_int r1 h1, vw_bl r2 h2, q _ _ (up_same mo t rfl)⟩
  · rename_i i j h1 h2
    exact op_add_str pins s σ H x y v u Q I rx ry ⟨i, j, vw_str r1 h1, vw_str r2 h2, t.1, q _ _ (up_same mo t.2 rfl)⟩
  · rename_i i j h1 h2
    obtain ⟨a, xs, rfl, ha, sa⟩ := vw_tup r1 h1
    obtain ⟨b, ys, rfl, hb, sb⟩ := vw_tup r2 h2
    refine op_catA pins s σ H _ _ v u Q I rx ry ⟨a, b, xs, ys, rfl, rfl, ha.sq, hb.sq, by rw [vlen sa, vlen sb]; exact t.1, fun e => ?_, fun _ e => ?_, fun _ _ p hp => ?_⟩
    · have e1 : i = [] := by
        have := Rs.len sa
        rw [e] at this
        exact List.eq_nil_of_length_eq_zero this
      subst e1
      exact q _ _ (up_same mo t.2 ⟨b, ys, rfl, hb, sb⟩)
    · have e1 : j = [] := by
        have := Rs.len sb
        rw [e] at this
        exact List.eq_nil_of_length_eq_zero this
      subst e1
      have t2 := t.2
      rw [List.append_nil] at t2
      exact q _ _ (up_same mo t2 ⟨a, xs, rfl, ha, sa⟩)
    · exact q _ _ (up_new_tup mo hp (Rs.append sa sb) t.2)
  · rename_i i j h1 h2
    obtain ⟨a, xs, rfl, ha, sa⟩ := vw_lst mo r1 h1
    obtain ⟨b, ys, rfl, hb, sb⟩ := vw_lst mo r2 h2
    exact op_cat pins s σ H _ _ v u Q I rx ry ⟨a, b, xs, ys, rfl, rfl, ha, hb, by rw [vlen sa, vlen sb]; exact t.1, fun p hp => q _ _ (up_new_lst mo hp (Rs.append sa sb) t.2)⟩
  · exact t.elim
theorem do_int {f : Value → Value → Sem Value} {C : Int → Int → Prop} {g : Int → Int → V} {gd : Int → Int → D} (h : OpR X f (rI C g)) (hg : ∀ i j (H : Hp) (M : Mem), Rv X.K H M (gd i j) (g i j)) :
    DOp X f (fun x y M Q => match vw M x, vw M y with
      | .int i, .int j => C i j ∧ Q (gd i j) M
      | _, _ => False) := by
  intro pins s σ H M x y dx dy v u Q Qd I mo r1 r2 rx ry t q
  split at t
  · rename_i i j h1 h2
    exact h pins s σ H x y v u Q I rx ry ⟨i, j, vw_int r1 h1, vw_int r2 h2, t.1, q _ _ (up_same mo t.2 (hg i j H M))⟩
  · exact t.elim
theorem do_int0 {f : Value → Value → Sem Value} {g : Int → Int → V} {gd : Int → Int → D} (h : OpR X f (rI0 g)) (hg : ∀ i j (H : Hp) (M : Mem), Rv X.K H M (gd i j) (g i j)) :
    DOp X f (fun x y M Q => match vw M x, vw M y with
      | .int i, .int j => Q (gd i j) M
      | _, _ => False) := by
  intro pins s σ H M x y dx dy v u Q Qd I mo r1 r2 rx ry t q
  split at t
  · rename_i i j h1 h2
    exact h pins s σ H x y v u Q I rx ry ⟨i, j, vw_int r1 h1, vw_int r2 h2, q _ _ (up_same mo t (hg i j H M))⟩
  · exact t.elim
theorem do_sub : DOp X (binaryOp .Sub) subD := do_int0 (gd := fun i j => .int (i - j)) op_sub fun _ _ _ _ => rfl
theorem do_fdiv : DOp X (binaryOp .FloorDiv) fdivD := do_int (gd := fun i j => .int (i / j)) op_fdivW fun _ _ _ _ => rfl
theorem do_mod : DOp X (binaryOp .Mod) modD := do_int (C := fun _ j => 0 < j) (gd := fun i j => .int (i % j)) op_mod fun _ _ _ _ => rfl
theorem do_pow : DOp X (binaryOp .Pow) powD := do_int (gd := fun i j => .int (i ^ j.toNat)) op_pow fun _ _ _ _ => rfl
theorem do_lt : DOp X (compareOp .Lt) ltD := do_int0 (gd := fun i j => .bl (decide (i < j))) op_lt fun _ _ _ _ => rfl
theorem do_le : DOp X (compareOp .LtE) leD := do_int0 (gd := fun i j => .bl (decide (i ≤ j))) op_le fun _ _ _ _ => rfl
theorem do_gt : DOp X (compareOp .Gt) gtD := do_int0 (gd := fun i j => .bl (decide (j < i))) op_gt fun _ _ _ _ => rfl
theorem do_ge : DOp X (compareOp .GtE) geD := do_int0 (gd := fun i j => .bl (decide (j ≤ i))) op_ge fun _ _ _ _ => rfl
theorem do_mul : DOp X (binaryOp .Mult) mulD := by
  intro pins s σ H M x y dx dy v u Q Qd I mo r1 r2 rx ry t q
  unfold mulD at t
  split at t
  · rename_i i j h1 h2
    exact op_mulW pins s σ H x y v u Q I rx ry ⟨i, j, vw_int r1 h1, vw_int r2 h2, t.1, q _ _ (up_same mo t.2 rfl)⟩
  · rename_i a k h1 h2
    obtain ⟨p, xs, rfl, ha, sa⟩ := vw_lst mo r1 h1
    exact op_rep pins s σ H _ _ v u Q I rx ry ⟨p, k, xs, rfl, vw_int r2 h2, ha, t.1.1, t.1.2.1, by rw [vlen sa]; exact t.1.2.2, fun l hl => q _ _ (up_new_lst mo hl (rs_rep sa _) t.2)⟩
  · rename_i a k h1 h2
    obtain ⟨p, xs, rfl, ha, sa⟩ := vw_tup r1 h1
    refine op_repT pins s σ H _ _ v u Q I rx ry ⟨p, k, xs, rfl, vw_int r2 h2, ha.sq, fun e => ?_, t.1.2.1, t.1.2.2.1, by rw [vlen sa]; exact t.1.2.2.2, fun l hl => q _ _ (up_new_tup mo hl (rs_rep sa _) t.2)⟩
    have := Rs.len sa
    rw [e] at this
    exact t.1.1 (List.eq_nil_of_length_eq_zero this)
  · rename_i x k h1 h2
    have e1 := vw_str r1 h1
    have e2 := vw_int r2 h2
    subst e1 e2
    obtain ⟨tk, rfl⟩ := rx
    obtain ⟨tk2, rfl⟩ := ry
    exact SB.mul t.1 fun t' k => ⟨.str _, H, I.tok k, ⟨t', rfl⟩, q _ _ (up_same mo t.2 rfl)⟩
  · exact t.elim
theorem do_eq (hu : X.A.units + 64 < cLine) : DOp X (compareOp .Eq) eqD := by
  intro pins s σ H M x y dx dy v u Q Qd I mo r1 r2 rx ry t q
  unfold eqD at t
  split at t
  · rename_i b hb
    obtain ⟨p, p', h1, h2, s1, s2, rfl⟩ := eqO_of hb
    exact op_eqD hu pins s σ H x y v u Q I rx ry ⟨p, p', vw_dp mo r1 h1, vw_dp mo r2 h2, s1, s2, q _ _ (up_same mo t rfl)⟩
  · exact t.elim
theorem do_ne (hu : X.A.units + 64 < cLine) : DOp X (compareOp .NotEq) neD := by
  intro pins s σ H M x y dx dy v u Q Qd I mo r1 r2 rx ry t q
  unfold neD at t
  split at t
  · rename_i b hb
    obtain ⟨p, p', h1, h2, s1, s2, rfl⟩ := eqO_of hb
    exact op_neD hu pins s σ H x y v u Q I rx ry ⟨p, p', vw_dp mo r1 h1, vw_dp mo r2 h2, s1, s2, q _ _ (up_same mo t rfl)⟩
  · exact t.elim
end
end DL
set_option maxHeartbeats 1000000
namespace DL
open PySem PySem.Spec PyProof.Rows L2
def Mem.put (M : Mem) (a : Addr) (o : MO) : Mem := fun b => if b = a then some o else M b
def Mem.del (M : Mem) (a : Addr) : Mem := fun b => if b = a then none else M b
theorem Mem.put_same {M : Mem} {a : Addr} {o : MO} : M.put a o a = some o := by unfold Mem.put; rw [if_pos rfl]
theorem Mem.put_ne {M : Mem} {a b : Addr} {o : MO} (h : b ≠ a) : M.put a o b = M b := by unfold Mem.put; rw [if_neg h]
theorem Mem.del_same {M : Mem} {a : Addr} : M.del a a = none := by unfold Mem.del; rw [if_pos rfl]
theorem Mem.del_ne {M : Mem} {a b : Addr} (h : b ≠ a) : M.del a b = M b := by unfold Mem.del; rw [if_neg h]
theorem Mem.put_put {M : Mem} {a : Addr} {o u : MO} : (M.put a o).put a u = M.put a u := by funext b; unfold Mem.put; split <;> rfl
theorem Mem.del_put {M : Mem} {a : Addr} {o : MO} (h : M a = none) : (M.put a o).del a = M := by
  funext b; unfold Mem.del Mem.put
  by_cases e : b = a
  · rw [if_pos e, e, h]
  · rw [if_neg e, if_neg e]
section
variable {K : Fg} {H H' : Hp} {M M' : Mem}
/-- what MObj says is kept by growth where the object itself stands -/
theorem MObj.grow {a : Addr} {o : MO} (g : Gw H M H' M') (ha : H' a = H a) (hd : ∀ dx, H dx = some (.own a) → M dx = none → H' dx = some (.own a) ∧ M' dx = none) (h : MObj K H M a o) : MObj K H' M' a o := by
  cases o with
  | lst ds =>
    obtain ⟨xs, h1, h2⟩ := h
    exact ⟨xs, ha.trans h1, Rs.grow g ds xs h2⟩
  | dct ks ds =>
    obtain ⟨xs, h1, h3, h2⟩ := h
    exact ⟨xs, ha.trans h1, h3, Rs.grow g ds xs h2⟩
  | ins C ns ds =>
    obtain ⟨dx, xs, h1, h3, h4, h5, h2⟩ := h
    exact ⟨dx, xs, ha.trans h1, h3, (hd dx h4 h5).1, (hd dx h4 h5).2, Rs.grow g ds xs h2⟩
  | gen φ ds => exact h.elim
  | tab q => exact TabAt.keep h ha g
/-- an owned object is written -/
theorem gw_put {a : Addr} {o : HO} {mo mo' : MO} (h : M a = some mo) : Gw H M (upd H a o) (M.put a mo') := fun b u hb m _ => by
  have ne : b ≠ a := fun e => by rw [e, h] at m; cases m
  exact ⟨by rw [upd_ne ne]; exact hb, by rw [Mem.put_ne ne]; exact m⟩
theorem mok_put {a : Addr} {o : HO} {mo mo' : MO} (ok : MOk K H M) (h : M a = some mo) (new : MObj K (upd H a o) (M.put a mo') a mo') : MOk K (upd H a o) (M.put a mo') := fun b u e => by
  by_cases q : b = a
  · subst q
    rw [Mem.put_same] at e
    cases e
    exact new
  · rw [Mem.put_ne q] at e
    refine MObj.grow (gw_put h) (upd_ne q) (fun dx h1 h2 => ?_) (ok b u e)
    exact (gw_put h).at h1 h2
/-- a new owned object -/
theorem gw_own {p : Addr} {o : HO} {mo : MO} (hp : H p = none) : Gw H M (upd H p o) (M.put p mo) := fun b u hb m _ => by
  have ne : b ≠ p := ne_of_none hb hp
  exact ⟨by rw [upd_ne ne]; exact hb, by rw [Mem.put_ne ne]; exact m⟩
theorem mok_own {p : Addr} {o : HO} {mo : MO} (ok : MOk K H M) (hp : H p = none) (new : MObj K (upd H p o) (M.put p mo) p mo) : MOk K (upd H p o) (M.put p mo) := fun b u e => by
  by_cases q : b = p
  · subst q
    rw [Mem.put_same] at e
    cases e
    exact new
  · rw [Mem.put_ne q] at e
    exact MObj.grow (gw_own hp) (upd_ne q) (fun dx h1 h2 => (gw_own hp).at h1 h2) (ok b u e)
/-- less is owned: dropped, or frozen -/
theorem gw_less (h : ∀ a, M a = none → M' a = none) : Gw H M H M' := fun b u hb m _ => ⟨hb, h b m⟩
theorem mok_less (h : ∀ a o, M' a = some o → M a = some o) (hn : ∀ a, M a = none → M' a = none) (ok : MOk K H M) : MOk K H M' := fun b u e =>
  MObj.grow (gw_less hn) rfl (fun dx h1 h2 => ⟨h1, hn dx h2⟩) (ok b u (h b u e))
theorem up_own_lst {Q : QD} {ds : List D} {xs : List V} {p : Addr} (mo : MOk K H M) (hp : H p = none) (r : Rs K H M ds xs) (q : Q (.ref p) (M.put p (.lst ds))) : upE K H M Q (.ref p) (upd H p (.lst xs)) :=
  ⟨.ref p, M.put p (.lst ds), gw_own hp, mok_own mo hp (show MObj K (upd H p (.lst xs)) (M.put p (.lst ds)) p (.lst ds) from ⟨xs, upd_same, Rs.grow (gw_own hp) ds xs r⟩), rfl, q⟩
end
/-! ### arguments, displays -/
def dNil : TAD := fun _ _ M Q => Q [] M
def dCons (te : TED) (ta : TAD) : TAD := fun Xd s M Q => te Xd s M fun d M1 => ta Xd s M1 fun ds M2 => Q (d :: ds) M2
/-- arguments, n of them -/
structure DN (X : Cx) (E : XK) (n : Nat) (es : List Expr) (t : TAD) : Prop where
  ok : PA X es (fun σ H Q => ∃ s M Qd Xd, StOk X.K σ H s M ∧ XTo X.K H M Xd E ∧ t Xd s M Qd ∧ ∀ vs H', vs.length = n → upA X.K H M Qd vs H' → Q vs H')
section
variable {X : Cx} {E : XK} {n : Nat} {e a b c : Expr} {es : List Expr} {pos : Pos} {ta tb te : TED} {ts : TAD}
theorem dn_nil : DN X E 0 [] dNil := ⟨PA.imp pa_nil fun σ H Q ⟨s, M, Qd, Xd, S, x, t, q⟩ => q [] H rfl ⟨[], M, Gw.refl, S.mem, rfl, t⟩⟩
theorem dn_cons (h1 : DE X E e te) (h2 : DN X E n es ts) (hs : starEach (e :: es) X.env = (false, eval e X.env) :: starEach es X.env := by rfl) : DN X E (n + 1) (e :: es) (dCons te ts) :=
  ⟨PA.imp (pa_cons h1.ok h2.ok hs) fun σ H Q ⟨s, M, Qd, Xd, S, x, t, q⟩ => by
    refine useE S x t fun d v M1 H1 g1 S1 x1 r1 t1 => ?_
    refine ⟨s, M1, _, Xd, S1, x1, t1, fun vs H2 hl ⟨ds, M2, g2, m2, r2, t2⟩ => ?_⟩
    exact q _ _ (by rw [List.length_cons, hl]) ⟨d :: ds, M2, g1.trans g2, m2, Rs.cons (Rv.grow g2 _ _ r1) r2, t2⟩⟩
/-- what is known of arguments -/
theorem useN {σ : L2.St} {H : Hp} {s : SD} {M : Mem} {Xd : XD} {Qd : List D → Mem → Prop} {Q : List V → Hp → Prop} (S : StOk X.K σ H s M) (x : XTo X.K H M Xd E) (h : ts Xd s M Qd)
    (q : ∀ ds vs M' H', vs.length = n → Gw H M H' M' → StOk X.K σ H' s M' → XTo X.K H' M' Xd E → Rs X.K H' M' ds vs → Qd ds M' → Q vs H') :
    ∃ s M Qd Xd, StOk X.K σ H s M ∧ XTo X.K H M Xd E ∧ ts Xd s M Qd ∧ ∀ vs H', vs.length = n → upA X.K H M Qd vs H' → Q vs H' :=
  ⟨s, M, Qd, Xd, S, x, h, fun vs H' hl ⟨ds, M', g, m, r, z⟩ => q ds vs M' H' hl g (S.grow g m) (x.grow g) r z⟩
def dTup (t : TAD) : TED := fun Xd s M Q => t Xd s M fun ds M1 => Q (.tup ds) M1
def dLst (t : TAD) : TED := fun Xd s M Q => t Xd s M fun ds M1 => Q (.lst ds) M1
/-- a list that will be changed -/
def dLstO (t : TAD) : TED := fun Xd s M Q => t Xd s M fun ds M1 => ∀ p, M1 p = none → Q (.ref p) (M1.put p (.lst ds))
theorem de_tup {k} (h : DN X E n es ts) (hz : n ≤ sizeLine := by decide) : DE X E (.Tuple es k pos) (dTup ts) := ⟨PE.imp (pe_tup h.ok) fun σ H Q ⟨s, M, Qd, Xd, S, x, t, q⟩ => by
  refine useN S x t fun ds vs M1 H1 hl g1 S1 x1 r1 t1 => ⟨by rw [hl]; exact hz, fun p hp => ?_⟩
  exact q _ _ ⟨.tup ds, M1, g1.trans (gw_new hp), mok_new S1.mem hp, new_tup S1.mem hp r1, t1⟩⟩
theorem de_lst (h : DN X E n es ts) (hz : n ≤ sizeLine := by decide) : DE X E (.List es pos) (dLst ts) := ⟨PE.imp (pe_lst h.ok) fun σ H Q ⟨s, M, Qd, Xd, S, x, t, q⟩ => by
  refine useN S x t fun ds vs M1 H1 hl g1 S1 x1 r1 t1 => ⟨by rw [hl]; exact hz, fun p hp => ?_⟩
  exact q _ _ ⟨.lst ds, M1, g1.trans (gw_new hp), mok_new S1.mem hp, new_lst S1.mem hp r1, t1⟩⟩
theorem de_lstO (h : DN X E n es ts) (hz : n ≤ sizeLine := by decide) : DE X E (.List es pos) (dLstO ts) := ⟨PE.imp (pe_lst h.ok) fun σ H Q ⟨s, M, Qd, Xd, S, x, t, q⟩ => by
  refine useN S x t fun ds vs M1 H1 hl g1 S1 x1 r1 t1 => ⟨by rw [hl]; exact hz, fun p hp => ?_⟩
  obtain ⟨d, M', g, m, r, z⟩ := up_own_lst S1.mem hp r1 (t1 p (m_none S1.mem hp))
  exact q _ _ ⟨d, M', g1.trans g, m, r, z⟩⟩
/-! ### calls of built-ins by values -/
abbrev OC := List D → Mem → QD → Prop
def DC (X : Cx) (f : Value) (o : OC) : Prop :=
  ∀ (pins : List (Addr × Obj)) (s : Shared) (σ : L2.St) (H : Hp) (M : Mem) (xs : List V) (ds : List D) (us : List Value) (Q : VK) (Qd : QD), Inv X pins σ H s → MOk X.K H M → Rs X.K H M ds xs → Vals xs us → o ds M Qd →
    (∀ v H', upE X.K H M Qd v H' → Q v H') → wpAny (model X.prog X.w) X.A (call f us) (EP X pins σ Q) X.xe s
theorem DC.toR {f : Value} {o : OC} (h : DC X f o) : CallR X f (fun xs H Q => ∃ M ds Qd, MOk X.K H M ∧ Rs X.K H M ds xs ∧ o ds M Qd ∧ ∀ v H', upE X.K H M Qd v H' → Q v H') :=
  fun pins s σ H xs us Q I r ⟨M, ds, Qd, mo, r1, t, q⟩ => h pins s σ H M xs ds us Q Qd I mo r1 r t q
def dCB (o : OC) (t : TAD) : TED := fun Xd s M Q => t Xd s M fun ds M1 => o ds M1 Q
theorem liftCB {o : OC} {σ : L2.St} {H : Hp} {Q : VK} (z : liftE X.K E (dCB o ts) σ H Q) : tCB (fun xs H Q => ∃ M ds Qd, MOk X.K H M ∧ Rs X.K H M ds xs ∧ o ds M Qd ∧ ∀ v H', upE X.K H M Qd v H' → Q v H')
    (fun σ H Q => ∃ s M Qd Xd, StOk X.K σ H s M ∧ XTo X.K H M Xd E ∧ ts Xd s M Qd ∧ ∀ vs H', vs.length = n → upA X.K H M Qd vs H' → Q vs H') σ H Q := by
  obtain ⟨s, M, Qd, Xd, S, x, t, q⟩ := z
  refine useN S x t fun ds vs M1 H1 hl g1 S1 x1 r1 t1 => ?_
  exact ⟨M1, ds, Qd, S1.mem, r1, t1, fun v H' ⟨d, M', g, m, r, z⟩ => q v H' ⟨d, M', g1.trans g, m, r, z⟩⟩
theorem de_callB {id : String} {x : Str} {p : Pos} {o : OC} (hc : DC X (.builtin id) o) (hg : Gl X x) (hm : X.mg x = none) (hv : bootBuiltins x = some (.builtin id)) (ha : DN X E n (e :: es) ts) (hn : x ≠ "__name__" := by decide) (hdb : (x == ("__debug__" : Str)) = false := by decide)
    (he : starEach (e :: es) X.env = (false, eval e X.env) :: starEach es X.env := by rfl) (hpl : (backTo pos (starEach es X.env)).any (·.1) = false := by rfl) : DE X E (.Call (.Name x p) (e :: es) [] pos) (dCB o ts) :=
  ⟨PE.imp (pe_callB hc.toR hg hm hv ha.ok hn hdb he hpl) fun σ H Q z => liftCB z⟩
theorem de_callTy {T : String} {x : Str} {p : Pos} {o : OC} (hc : DC X (.type T) o) (hg : Gl X x) (hm : X.mg x = none) (hv : bootBuiltins x = some (.type T)) (ha : DN X E n (e :: es) ts) (hn : x ≠ "__name__" := by decide) (hdb : (x == ("__debug__" : Str)) = false := by decide)
    (he : starEach (e :: es) X.env = (false, eval e X.env) :: starEach es X.env := by rfl) (hpl : (backTo pos (starEach es X.env)).any (·.1) = false := by rfl) : DE X E (.Call (.Name x p) (e :: es) [] pos) (dCB o ts) :=
  ⟨PE.imp (pe_callTy hc.toR hg hm hv ha.ok hn hdb he hpl) fun σ H Q z => liftCB z⟩
/-! ### built-ins -/
theorem rs1 {K : Fg} {H : Hp} {M : Mem} {d : D} {xs : List V} (r : Rs K H M [d] xs) : ∃ v, xs = [v] ∧ Rv K H M d v := by
  obtain ⟨v, r, rfl, h, q⟩ := r
  have e : r = [] := q
  subst e
  exact ⟨v, rfl, h⟩
theorem rs2 {K : Fg} {H : Hp} {M : Mem} {d d2 : D} {xs : List V} (r : Rs K H M [d, d2] xs) : ∃ v w, xs = [v, w] ∧ Rv K H M d v ∧ Rv K H M d2 w := by
  obtain ⟨v, r, rfl, h, q⟩ := r
  obtain ⟨w, rfl, z⟩ := rs1 q
  exact ⟨v, w, rfl, h, z⟩
def lenO (M : Mem) (d : D) : Option Nat := match vw M d with
  | .tup ds => some ds.length
  | .lst ds => some ds.length
  | .fzn ds => some ds.length
  | .str x => if x.length ≤ sizeLine then some x.length else none
  | _ => none
def lenC : OC := fun ds M Q => match ds with
  | [d] => match lenO M d with
    | some n => Q (.int n) M
    | none => False
  | _ => False
theorem dc_len : DC X (.builtin "len") lenC := by
  intro pins s σ H M xs ds us Q Qd I mo r rv t q
  unfold lenC at t
  split at t
  · rename_i d
    obtain ⟨v, rfl, rd⟩ := rs1 r
    split at t
    · rename_i n hn
      unfold lenO at hn
      split at hn
      · rename_i es h
        obtain ⟨a, ys, rfl, ha, sa⟩ := vw_tup rd h
        cases hn
        exact call_len_seq pins s σ H _ us Q I rv ⟨a, ys, rfl, .inr ha.sq, q _ _ ⟨_, M, Gw.refl, mo, by rw [vlen sa]; exact rfl, t⟩⟩
      · rename_i es h
        obtain ⟨a, ys, rfl, ha, sa⟩ := vw_lst mo rd h
        cases hn
        exact call_len_seq pins s σ H _ us Q I rv ⟨a, ys, rfl, .inl (SqL.of ha), q _ _ ⟨_, M, Gw.refl, mo, by rw [vlen sa]; exact rfl, t⟩⟩
      · rename_i es h
        obtain ⟨a, ys, rfl, ha, sa⟩ := vw_fzn rd h
        cases hn
        exact call_len_seq pins s σ H _ us Q I rv ⟨a, ys, rfl, .inl ha.sq, q _ _ ⟨_, M, Gw.refl, mo, by rw [vlen sa]; exact rfl, t⟩⟩
      · rename_i x h
        split at hn
        · rename_i hz
          cases hn
          exact call_len_str pins s σ H _ us Q I rv ⟨x, by rw [vw_str rd h], hz, q _ _ (up_same mo t rfl)⟩
        · cases hn
      · cases hn
    · exact t.elim
  · exact t.elim
/-- the items of a list or tuple -/
def itemsO (M : Mem) (d : D) : Option (List D) := match vw M d with
  | .tup ds => some ds
  | .lst ds => some ds
  | .fzn ds => some ds
  | _ => none
theorem items_of {K : Fg} {H : Hp} {M : Mem} {d : D} {ds : List D} {v : V} (mo : MOk K H M) (r : Rv K H M d v) (e : itemsO M d = some ds) : ∃ a xs, v = .ref a ∧ (SqL K H a xs ∨ SqT K H a xs) ∧ Rs K H M ds xs := by
  unfold itemsO at e
  split at e
  · rename_i es h
    cases e
    obtain ⟨a, ys, rfl, ha, sa⟩ := vw_tup r h
    exact ⟨a, ys, rfl, .inr ha.sq, sa⟩
  · rename_i es h
    cases e
    obtain ⟨a, ys, rfl, ha, sa⟩ := vw_lst mo r h
    exact ⟨a, ys, rfl, .inl (SqL.of ha), sa⟩
  · rename_i es h
    cases e
    obtain ⟨a, ys, rfl, ha, sa⟩ := vw_fzn r h
    exact ⟨a, ys, rfl, .inl ha.sq, sa⟩
  · cases e
def listC : OC := fun ds M Q => match ds with
  | [d] => match itemsO M d with
    | some es => Q (.lst es) M
    | none => False
  | _ => False
theorem dc_list : DC X (.type "list") listC := by
  intro pins s σ H M xs ds us Q Qd I mo r rv t q
  unfold listC at t
  split at t
  · rename_i d
    obtain ⟨v, rfl, rd⟩ := rs1 r
    split at t
    · rename_i es he
      obtain ⟨a, ys, rfl, ha, sa⟩ := items_of mo rd he
      exact call_list_of pins s σ H _ us Q I rv ⟨a, ys, rfl, ha, fun l hl => q _ _ (up_new_lst mo hl sa t)⟩
    · exact t.elim
  · exact t.elim
def tupleC : OC := fun ds M Q => match ds with
  | [d] => match itemsO M d with
    | some es => Q (.tup es) M
    | none => False
  | _ => False
theorem dc_tuple : DC X (.type "tuple") tupleC := by
  intro pins s σ H M xs ds us Q Qd I mo r rv t q
  unfold tupleC at t
  split at t
  · rename_i d
    obtain ⟨v, rfl, rd⟩ := rs1 r
    split at t
    · rename_i es he
      unfold itemsO at he
      split at he
      · rename_i es h
        cases he
        obtain ⟨a, ys, rfl, ha, sa⟩ := vw_tup rd h
        exact call_tuple_of pins s σ H _ us Q I rv ⟨a, ys, rfl, .inr ⟨ha.sq, q _ _ (up_same mo t ⟨a, ys, rfl, ha, sa⟩)⟩⟩
      · rename_i es h
        cases he
        obtain ⟨a, ys, rfl, ha, sa⟩ := vw_lst mo rd h
        exact call_tuple_of pins s σ H _ us Q I rv ⟨a, ys, rfl, .inl ⟨SqL.of ha, fun l hl => q _ _ (up_new_tup mo hl sa t)⟩⟩
      · rename_i es h
        cases he
        obtain ⟨a, ys, rfl, ha, sa⟩ := vw_fzn rd h
        exact call_tuple_of pins s σ H _ us Q I rv ⟨a, ys, rfl, .inl ⟨ha.sq, fun l hl => q _ _ (up_new_tup mo hl sa t)⟩⟩
      · cases he
    · exact t.elim
  · exact t.elim
def intC : OC := fun ds M Q => match ds with
  | [d] => match vw M d with
    | .int i => Q (.int i) M
    | .bl b => Q (.int (if b then 1 else 0)) M
    | _ => False
  | _ => False
theorem dc_int : DC X (.type "int") intC := by
  intro pins s σ H M xs ds us Q Qd I mo r rv t q
  unfold intC at t
  split at t
  · rename_i d
    obtain ⟨v, rfl, rd⟩ := rs1 r
    split at t
    · rename_i i h
      exact call_int1 pins s σ H _ us Q I rv (.inl ⟨i, by rw [vw_int rd h], q _ _ (up_same mo t rfl)⟩)
    · rename_i i h
      exact call_int1 pins s σ H _ us Q I rv (.inr ⟨i, by rw [vw_bl rd h], q _ _ (up_same mo t rfl)⟩)
    · exact t.elim
  · exact t.elim
def absC : OC := fun ds M Q => match ds with
  | [d] => match vw M d with
    | .int i => Q (.int (if i < 0 then -i else i)) M
    | _ => False
  | _ => False
theorem dc_abs : DC X (.builtin "abs") absC := by
  intro pins s σ H M xs ds us Q Qd I mo r rv t q
  unfold absC at t
  split at t
  · rename_i d
    obtain ⟨v, rfl, rd⟩ := rs1 r
    split at t
    · rename_i i h
      exact call_abs pins s σ H _ us Q I rv ⟨i, by rw [vw_int rd h], q _ _ (up_same mo t rfl)⟩
    · exact t.elim
  · exact t.elim
def int2C (f : Int → Int → Int) : OC := fun ds M Q => match ds with
  | [d, e] => match vw M d, vw M e with
    | .int i, .int j => Q (.int (f i j)) M
    | _, _ => False
  | _ => False
theorem dc_int2 {id : Value} {f : Int → Int → Int} (h : CallR X id (fun xs H Q => ∃ i j, xs = [.int i, .int j] ∧ Q (.int (f i j)) H)) : DC X id (int2C f) := by
  intro pins s σ H M xs ds us Q Qd I mo r rv t q
  unfold int2C at t
  split at t
  · rename_i d e
    obtain ⟨v, w, rfl, rd, re⟩ := rs2 r
    split at t
    · rename_i i j h1 h2
      exact h pins s σ H _ us Q I rv ⟨i, j, by rw [vw_int rd h1, vw_int re h2], q _ _ (up_same mo t rfl)⟩
    · exact t.elim
  · exact t.elim
theorem dc_max2 (hc : X.calm = true) : DC X (.builtin "max") (int2C fun i j => if j > i then j else i) := dc_int2 (call_max2 hc)
theorem dc_min2 (hc : X.calm = true) : DC X (.builtin "min") (int2C fun i j => if j < i then j else i) := dc_int2 (call_min2 hc)
end
end DL
set_option maxHeartbeats 1000000
namespace DL
open PySem PySem.Spec PyProof.Rows L2
section
variable {X : Cx} {E : XK} {n : Nat} {e a b c o i : Expr} {es : List Expr} {pos p2 : Pos} {ta tb te : TED} {ts : TAD}
/-! ### a built-in's name as a value -/
theorem de_bltn {x : Str} {T : String} (hg : Gl X x) (hm : X.mg x = none) (hv : bootBuiltins x = some (.type T)) (hn : x ≠ "__name__" := by decide) (hd : (x == ("__debug__" : Str)) = false := by decide) : DE X E (.Name x pos) (dC (.ty T)) :=
  de_const (pe_bltn (v := .ty T) hg hm hv rfl hn hd) fun _ _ => rfl
/-- a module's constant, a class, a def, as a value -/
theorem de_glob {x : Str} {d : D} {v : V} {u : Value} (hg : Gl X x) (hm : X.mg x = some u) (r : RelV v u) (rd : ∀ H M, Rv X.K H M d v) (hd : (x == ("__debug__" : Str)) = false := by decide) : DE X E (.Name x pos) (dC d) :=
  de_const (pe_glob hg hm r hd) rd
/-! ### and, or, not, if else -/
def andK (tb : TED) (Xd : XD) (s : SD) (Q : QD) : QD := fun d M => match d with
  | .bl c => if c = true then tb Xd s M Q else Q (.bl false) M
  | _ => False
def orK (tb : TED) (Xd : XD) (s : SD) (Q : QD) : QD := fun d M => match d with
  | .bl c => if c = true then Q (.bl true) M else tb Xd s M Q
  | _ => False
def dAnd (ta tb : TED) : TED := fun Xd s M Q => ta Xd s M (andK tb Xd s Q)
def dOr (ta tb : TED) : TED := fun Xd s M Q => ta Xd s M (orK tb Xd s Q)
def notK (Q : QD) : QD := fun d M => match d with
  | .bl c => Q (.bl (!c)) M
  | _ => False
def dNot (ta : TED) : TED := fun Xd s M Q => ta Xd s M (notK Q)
theorem fwd {K : Fg} {H H1 : Hp} {M M1 : Mem} {Qd : QD} {Q : VK} (g : Gw H M H1 M1) (q : ∀ v H', upE K H M Qd v H' → Q v H') : ∀ v H', upE K H1 M1 Qd v H' → Q v H' :=
  fun v H' ⟨d, M', g', m, r, z⟩ => q v H' ⟨d, M', g.trans g', m, r, z⟩
theorem fwdT {K : Fg} {H H1 : Hp} {M M1 : Mem} {Qd : Bool → Mem → Prop} {Q : Bool → Hp → Prop} (g : Gw H M H1 M1) (q : ∀ v H', upT K H M Qd v H' → Q v H') : ∀ v H', upT K H1 M1 Qd v H' → Q v H' :=
  fun v H' ⟨M', g', m, z⟩ => q v H' ⟨M', g.trans g', m, z⟩
theorem fwdS {K : Fg} {H H1 : Hp} {M M1 : Mem} {Qd : SD → Mem → Prop} {Q : L2.St → Hp → Prop} (g : Gw H M H1 M1) (q : ∀ v H', upS K H M Qd v H' → Q v H') : ∀ v H', upS K H1 M1 Qd v H' → Q v H' :=
  fun v H' ⟨s', M', g', m, z⟩ => q v H' ⟨s', M', g.trans g', m, z⟩
theorem de_one {op} (h : DE X E a ta) : DE X E (.BoolOp op [a] pos) ta := ⟨pe_one h.ok⟩
theorem de_and {rest : List Expr} (ha : DE X E a ta) (hb : DE X E (.BoolOp .And (b :: rest) pos) tb) : DE X E (.BoolOp .And (a :: b :: rest) pos) (dAnd ta tb) :=
  ⟨PE.imp (pe_and ha.ok hb.ok) fun σ H Q ⟨s, M, Qd, Xd, S, x, t, q⟩ => by
    refine useE S x t fun d v M1 H1 g1 S1 x1 r1 t1 => ?_
    unfold andK at t1
    split at t1
    · rename_i c
      refine ⟨c, r1, ?_⟩
      cases c with
      | true => exact ⟨s, M1, Qd, Xd, S1, x1, t1, fwd g1 q⟩
      | false => exact q _ _ ⟨.bl false, M1, g1, S1.mem, rfl, t1⟩
    · exact t1.elim⟩
theorem de_or {rest : List Expr} (ha : DE X E a ta) (hb : DE X E (.BoolOp .Or (b :: rest) pos) tb) : DE X E (.BoolOp .Or (a :: b :: rest) pos) (dOr ta tb) :=
  ⟨PE.imp (pe_or ha.ok hb.ok) fun σ H Q ⟨s, M, Qd, Xd, S, x, t, q⟩ => by
    refine useE S x t fun d v M1 H1 g1 S1 x1 r1 t1 => ?_
    unfold orK at t1
    split at t1
    · rename_i c
      refine ⟨c, r1, ?_⟩
      cases c with
      | true => exact q _ _ ⟨.bl true, M1, g1, S1.mem, rfl, t1⟩
      | false => exact ⟨s, M1, Qd, Xd, S1, x1, t1, fwd g1 q⟩
    · exact t1.elim⟩
def unK (f : Int → Int) (Q : QD) : QD := fun d M => match d with
  | .int i => Q (.int (f i)) M
  | _ => False
def dNeg (ta : TED) : TED := fun Xd s M Q => ta Xd s M (unK (fun i => -i) Q)
theorem de_neg (ha : DE X E a ta) : DE X E (.UnaryOp .USub a pos) (dNeg ta) :=
  ⟨PE.imp (pe_un un_neg ha.ok) fun σ H Q ⟨s, M, Qd, Xd, S, x, t, q⟩ => by
    refine useE S x t fun d v M1 H1 g1 S1 x1 r1 t1 => ?_
    unfold unK at t1
    split at t1
    · rename_i c
      exact ⟨c, r1, q _ _ ⟨.int (-c), M1, g1, S1.mem, rfl, t1⟩⟩
    · exact t1.elim⟩
def dIte (t : TTD) (ta tb : TED) : TED := fun Xd s M Q => t Xd s M fun c M1 => if c = true then ta Xd s M1 Q else tb Xd s M1 Q
theorem de_ite {t : TTD} (hc : DT X E c t) (ha : DE X E a ta) (hb : DE X E b tb) : DE X E (.IfExp c a b pos) (dIte t ta tb) :=
  ⟨PE.imp (pe_ifExp hc.ok ha.ok hb.ok) fun σ H Q ⟨s, M, Qd, Xd, S, x, z, q⟩ => by
    refine useT S x z fun k M1 H1 g1 S1 x1 t1 => ?_
    cases k with
    | true => exact ⟨s, M1, Qd, Xd, S1, x1, t1, fwd g1 q⟩
    | false => exact ⟨s, M1, Qd, Xd, S1, x1, t1, fwd g1 q⟩⟩
/-! ### tests -/
structure DW (X : Cx) (E : XK) (e : Expr) (t : TTD) : Prop where
  ok : PW X e (liftT X.K E t)
theorem DW.dt {t : TTD} (h : DW X E e t) : DT X E e t := ⟨h.ok.pt⟩
def tAndD (t u : TTD) : TTD := fun Xd s M Q => t Xd s M fun c M1 => if c = true then u Xd s M1 Q else Q false M1
def tOrD (t u : TTD) : TTD := fun Xd s M Q => t Xd s M fun c M1 => if c = true then Q true M1 else u Xd s M1 Q
def tNotD (t : TTD) : TTD := fun Xd s M Q => t Xd s M fun c M1 => Q (!c) M1
theorem dw_and1 {t : TTD} (h : DT X E a t) : DW X E (.BoolOp .And [a] pos) t := ⟨pw_and1 h.ok⟩
theorem dw_or1 {t : TTD} (h : DT X E a t) : DW X E (.BoolOp .Or [a] pos) t := ⟨pw_or1 h.ok⟩
theorem dw_and {t u : TTD} {rest : List Expr} (ha : DT X E a t) (hb : DW X E (.BoolOp .And (b :: rest) pos) u) : DW X E (.BoolOp .And (a :: b :: rest) pos) (tAndD t u) :=
  ⟨PW.imp (pw_and ha.ok hb.ok) fun σ H Q ⟨s, M, Qd, Xd, S, x, z, q⟩ => by
    refine useT S x z fun k M1 H1 g1 S1 x1 t1 => ?_
    cases k with
    | true => exact ⟨s, M1, Qd, Xd, S1, x1, t1, fwdT g1 q⟩
    | false => exact q _ _ ⟨M1, g1, S1.mem, t1⟩⟩
theorem dw_or {t u : TTD} {rest : List Expr} (ha : DT X E a t) (hb : DW X E (.BoolOp .Or (b :: rest) pos) u) : DW X E (.BoolOp .Or (a :: b :: rest) pos) (tOrD t u) :=
  ⟨PW.imp (pw_or ha.ok hb.ok) fun σ H Q ⟨s, M, Qd, Xd, S, x, z, q⟩ => by
    refine useT S x z fun k M1 H1 g1 S1 x1 t1 => ?_
    cases k with
    | true => exact q _ _ ⟨M1, g1, S1.mem, t1⟩
    | false => exact ⟨s, M1, Qd, Xd, S1, x1, t1, fwdT g1 q⟩⟩
theorem dt_not {t : TTD} (h : DT X E a t) : DT X E (.UnaryOp .Not a pos) (tNotD t) :=
  ⟨PT.imp (pt_not h.ok) fun σ H Q ⟨s, M, Qd, Xd, S, x, z, q⟩ => useT S x z fun k M1 H1 g1 S1 x1 t1 => q _ _ ⟨M1, g1, S1.mem, t1⟩⟩
/-- a value's truth -/
def truO (M : Mem) (d : D) : Option Bool := match vw M d with
  | .non => some false
  | .bl b => some b
  | .int i => some (i != 0)
  | .str x => if x.length ≤ sizeLine then some ((x.length : Int) != 0) else none
  | .tup ds => some (!ds.isEmpty)
  | .lst ds => some (!ds.isEmpty)
  | .fzn ds => some (!ds.isEmpty)
  | _ => none
def truK (Q : Bool → Mem → Prop) : QD := fun d M => match truO M d with
  | some b => Q b M
  | none => False
def dTru (t : TED) : TTD := fun Xd s M Q => t Xd s M (truK Q)
theorem emp_of {K : Fg} {H : Hp} {M : Mem} {ds : List D} {xs : List V} (r : Rs K H M ds xs) : xs.isEmpty = ds.isEmpty := by
  have h := Rs.len r
  cases ds with
  | nil =>
    have e : xs = [] := List.eq_nil_of_length_eq_zero (by simpa using h.symm)
    subst e
    rfl
  | cons d ds =>
    cases xs with
    | nil => simp at h
    | cons x xs => rfl
theorem dt_tru (h : DE X E a ta) (he : ∀ whole, isTrue a X.env whole = (do let v ← whole; standAt a.pos; holding [v] (truthy v)) := by intro _; rfl) : DT X E a (dTru ta) :=
  ⟨PT.imp (pt_truth h.ok he) fun σ H Q ⟨s, M, Qd, Xd, S, x, z, q⟩ => by
    refine useE S x z fun d v M1 H1 g1 S1 x1 r1 t1 => ?_
    unfold truK at t1
    split at t1
    · rename_i k hk
      refine ⟨k, ?_, q k H1 ⟨M1, g1, S1.mem, t1⟩⟩
      unfold truO at hk
      split at hk
      · rename_i h; cases hk; rw [vw_non r1 h]; exact rfl
      · rename_i b h; cases hk; rw [vw_bl r1 h]; exact rfl
      · rename_i b h; cases hk; rw [vw_int r1 h]; exact rfl
      · rename_i b h
        split at hk
        · rename_i hz; cases hk; rw [vw_str r1 h]; exact ⟨hz, rfl⟩
        · cases hk
      · rename_i ds h
        cases hk
        obtain ⟨p, ys, rfl, ha, sa⟩ := vw_tup r1 h
        exact .inr (.inl ⟨ys, ha.sq, by rw [emp_of sa]⟩)
      · rename_i ds h
        cases hk
        obtain ⟨p, ys, rfl, ha, sa⟩ := vw_lst S1.mem r1 h
        exact .inl ⟨ys, SqL.of ha, by rw [emp_of sa]⟩
      · rename_i ds h
        cases hk
        obtain ⟨p, ys, rfl, ha, sa⟩ := vw_fzn r1 h
        exact .inl ⟨ys, ha.sq, by rw [emp_of sa]⟩
      · cases hk
    · exact t1.elim⟩
/-- a op1 b op2 c -/
def chK (o : O2) (y : D) (tc : TED) (Xd : XD) (s : SD) (Q : QD) : QD := fun d M => match d with
  | .bl k => if k = true then tc Xd s M fun z M2 => o y z M2 Q else Q (.bl false) M
  | _ => False
def dChain (o o' : O2) (ta tb tc : TED) : TED := fun Xd s M Q => ta Xd s M fun x M1 => tb Xd s M1 fun y M2 => o x y M2 (chK o' y tc Xd s Q)
theorem lift_chain {o1 o2 : O2} {r r' : R2} {tc : TED} (hr : ∀ {x y : V} {H : Hp} {Q : VK} {M : Mem} {dx dy : D} {Qd : QD}, MOk X.K H M → Rv X.K H M dx x → Rv X.K H M dy y → o1 dx dy M Qd → (∀ v H', upE X.K H M Qd v H' → Q v H') → r x y H Q)
    (hr' : ∀ {x y : V} {H : Hp} {Q : VK} {M : Mem} {dx dy : D} {Qd : QD}, MOk X.K H M → Rv X.K H M dx x → Rv X.K H M dy y → o2 dx dy M Qd → (∀ v H', upE X.K H M Qd v H' → Q v H') → r' x y H Q)
    {σ : L2.St} {H : Hp} {Q : VK} (z : liftE X.K E (dChain o1 o2 ta tb tc) σ H Q) : tChain r r' (liftE X.K E ta) (liftE X.K E tb) (liftE X.K E tc) σ H Q := by
  obtain ⟨s, M, Qd, Xd, S, x, t, q⟩ := z
  refine useE S x t fun dx v M1 H1 g1 S1 x1 r1 t1 => ?_
  refine useE S1 x1 t1 fun dy u M2 H2 g2 S2 x2 r2 t2 => ?_
  refine hr S2.mem (Rv.grow g2 _ _ r1) r2 t2 fun w H' ⟨d, M', g, m, rd, z⟩ => ?_
  unfold chK at z
  split at z
  · rename_i k
    refine ⟨k, rd, ?_⟩
    cases k with
    | false => exact q _ _ ⟨.bl false, M', (g1.trans g2).trans g, m, rfl, z⟩
    | true =>
      refine useE (S2.grow g m) (x2.grow g) z fun dz w M3 H3 g3 S3 x3 r3 t3 => ?_
      exact hr' S3.mem (Rv.grow g3 _ _ (Rv.grow g _ _ r2)) r3 t3 (fwd (((g1.trans g2).trans g).trans g3) q)
  · exact z.elim
theorem de_chain {op op' : CmpOp} {o1 o2 : O2} {tc : TED} (h : DOp X (compareOp op) o1) (h' : DOp X (compareOp op') o2) (ha : DE X E a ta) (hb : DE X E b tb) (hc : DE X E c tc) (hm : lastMarks [op, op'] [b, c] = false := by with_unfolding_all rfl) :
    DE X E (.Compare a [op, op'] [b, c] pos) (dChain o1 o2 ta tb tc) :=
  ⟨PE.imp (pe_chain h.toR h'.toR ha.ok hb.ok hc.ok hm) fun σ H Q z => lift_chain (fun mo r1 r2 t q => ⟨_, _, _, _, mo, r1, r2, t, q⟩) (fun mo r1 r2 t q => ⟨_, _, _, _, mo, r1, r2, t, q⟩) z⟩
theorem dt_chain {op op' : CmpOp} {o1 o2 : O2} {tc : TED} (h : DOp X (compareOp op) o1) (h' : DOp X (compareOp op') o2) (ha : DE X E a ta) (hb : DE X E b tb) (hc : DE X E c tc) (hm : lastMarks [op, op'] [b, c] = false := by with_unfolding_all rfl) :
    DT X E (.Compare a [op, op'] [b, c] pos) (dTst (dChain o1 o2 ta tb tc)) :=
  ⟨PT.imp (pt_chain h.toR h'.toR ha.ok hb.ok hc.ok hm) fun σ H Q z => lift_chain (fun mo r1 r2 t q => ⟨_, _, _, _, mo, r1, r2, t, q⟩) (fun mo r1 r2 t q => ⟨_, _, _, _, mo, r1, r2, t, q⟩) (liftB z)⟩
/-! ### subscripts -/
def valD (ks : List Key) (ds : List D) (k : Key) : Option D := ((ks.zip ds).find? fun kv => decide (kv.1 = k)).map (·.2)
def keyD : D → Option Key
  | .int i => some (.inl i)
  | .str x => some (.inr x)
  | _ => none
theorem zip_val {K : Fg} {H : Hp} {M : Mem} (k : Key) : ∀ {ks : List Key} {ds : List D} {xs : List V}, Rs K H M ds xs → ∀ {d : D}, valD ks ds k = some d → ∃ v, valV (ks.zip xs) k = some v ∧ Rv K H M d v
  | [], ds, xs, r, d, e => by cases e
  | j :: ks, [], xs, r, d, e => by
    have : valD (j :: ks) [] k = none := rfl
    rw [this] at e; cases e
  | j :: ks, d0 :: ds, _, ⟨v, rr, rfl, h, q⟩, d, e => by
    by_cases hj : j = k
    · have e1 : valD (j :: ks) (d0 :: ds) k = some d0 := by
        unfold valD
        rw [List.zip_cons_cons, List.find?_cons]
        simp [hj]
      rw [e1] at e; cases e
      exact ⟨v, by rw [List.zip_cons_cons]; exact valV_pos hj, h⟩
    · have e1 : valD (j :: ks) (d0 :: ds) k = valD ks ds k := by
        unfold valD
        rw [List.zip_cons_cons, List.find?_cons]
        simp [hj]
      rw [e1] at e
      obtain ⟨w, h1, h2⟩ := zip_val k q e
      exact ⟨w, by rw [List.zip_cons_cons, valV_neg hj]; exact h1, h2⟩
theorem key_of_d {K : Fg} {H : Hp} {M : Mem} {d : D} {k : Key} {v : V} (r : Rv K H M d v) (e : keyD d = some k) : v = kV k := by
  cases d with
  | int i => have e' : some (Sum.inl i) = some k := e; cases e'; exact r
  | str x => have e' : some (Sum.inr x) = some k := e; cases e'; exact r
  | _ => cases e
theorem ix_dict (hu : X.A.units + 1 < cLine) : IxR X (fun x y H Q => ∃ a v, x = .ref a ∧ DGet H a y (some v) ∧ Q v H) := by
  intro value slice pins s σ H x y v u Q I rx ry h hs
  obtain ⟨p, w, rfl, g, q⟩ := h
  cases rx
  exact tail_any (dict_typeIs I g) PySem.F.slot_dict_getitem.lookup (d_getItem hu I g ry fun w' s3 I3 rw' => ⟨w, H, I3, rw', q⟩) hs
def ixO (M : Mem) (x y : D) : Option D := match vw M x with
  | .tup ds => match y with
    | .int i => atI ds i
    | _ => none
  | .lst ds => match y with
    | .int i => atI ds i
    | _ => none
  | .fzn ds => match y with
    | .int i => atI ds i
    | _ => none
  | .dct ks ds => match keyD y with
    | some k => valD ks ds k
    | none => none
  | .str z => match y with
    | .int i => if z.length ≤ sizeLine then (atI z.cps.toList i).map fun c => .str ⟨#[c]⟩ else none
    | _ => none
  | _ => none
def ixD : O2 := fun x y M Q => match ixO M x y with
  | some d => Q d M
  | none => False
theorem atI_rs {K : Fg} {H : Hp} {M : Mem} {ds : List D} {xs : List V} {i : Int} {d : D} (r : Rs K H M ds xs) (e : atI ds i = some d) : ∃ v, atI xs i = some v ∧ Rv K H M d v := by
  unfold atI at e ⊢
  rw [← Rs.len r]
  cases q : ixN ds.length i with
  | none => rw [q] at e; cases e
  | some j =>
    rw [q] at e
    exact Rs.get r e
theorem de_ix (hu : X.A.units + 1 < cLine) (ha : DE X E a ta) (hb : DE X E b tb) (hs : PlainIx b) : DE X E (.Subscript a b pos) (dOp ixD ta tb) :=
  ⟨PE.imp (pe_ix (ix_seq.or (ix_dict hu)) ha.ok hb.ok hs) fun σ H Q z => lift2 (fun {x y H Q M dx dy Qd} mo r1 r2 t q => by
    unfold ixD at t
    split at t
    · rename_i d hd
      unfold ixO at hd
      split at hd
      · rename_i ds h
        split at hd
        · rename_i i
          obtain ⟨p, xs, rfl, hp, sp⟩ := vw_tup r1 h
          obtain ⟨v, hv, rv⟩ := atI_rs sp hd
          exact .inl (.inr (.inl ⟨p, xs, i, v, rfl, r2, hp.sq, hv, q _ _ ⟨d, M, Gw.refl, mo, rv, t⟩⟩))
        · cases hd
      · rename_i ds h
        split at hd
        · rename_i i
          obtain ⟨p, xs, rfl, hp, sp⟩ := vw_lst mo r1 h
          obtain ⟨v, hv, rv⟩ := atI_rs sp hd
          exact .inl (.inl ⟨p, xs, i, v, rfl, r2, SqL.of hp, hv, q _ _ ⟨d, M, Gw.refl, mo, rv, t⟩⟩)
        · cases hd
      · rename_i ds h
        split at hd
        · rename_i i
          obtain ⟨p, xs, rfl, hp, sp⟩ := vw_fzn r1 h
          obtain ⟨v, hv, rv⟩ := atI_rs sp hd
          exact .inl (.inl ⟨p, xs, i, v, rfl, r2, hp.sq, hv, q _ _ ⟨d, M, Gw.refl, mo, rv, t⟩⟩)
        · cases hd
      · rename_i ks ds h
        split at hd
        · rename_i k hk
          obtain ⟨p, xs, rfl, hp, hl, sp⟩ := vw_dct mo r1 h
          obtain ⟨v, hv, rv⟩ := zip_val k sp hd
          refine .inr ⟨p, v, rfl, ?_, q _ _ ⟨d, M, Gw.refl, mo, rv, t⟩⟩
          rw [key_of_d r2 hk, ← hv]
          exact DGet.k hp
        · cases hd
      · rename_i z h
        split at hd
        · rename_i i
          split at hd
          · rename_i hz
            cases hc : atI z.cps.toList i with
            | none => rw [hc] at hd; cases hd
            | some c =>
              rw [hc] at hd
              cases hd
              exact .inl (.inr (.inr ⟨z, i, c, vw_str r1 h, r2, hz, hc, q _ _ ⟨.str ⟨#[c]⟩, M, Gw.refl, mo, rfl, t⟩⟩))
          · cases hd
        · cases hd
      · cases hd
    · exact t.elim) z⟩
end
end DL
set_option maxHeartbeats 1000000
namespace DL
open PySem PySem.Spec PyProof.Rows L2
/-! ### defs -/
structure RoomG (k : Nat) (A : Around) : Prop where
  r : Room k A
  g : A.guards = some []
theorem RoomG.mono {j k : Nat} {A : Around} (h : RoomG k A) (le : j ≤ k) : RoomG j A := ⟨h.r.mono le, h.g⟩
theorem RoomG.deeper {k : Nat} {A : Around} (h : RoomG (k + 1) A) (env : Env) : RoomG k (A.deeper env) := ⟨h.r.deeper env, h.g⟩
abbrev SpD := List D → Mem → QD → XD → Prop
structure DFn (P : Program) (w : World) (K : Fg) (mg : Str → Option Value) (base : Heap) (k : Nat) (f : Addr) (fd : FuncData) (ps : List Str) (sp : SpD) : Prop where
  run : ∀ (A : Around) (outer : List Env) (s : Shared) (H : Hp) (M : Mem) (args : Args) (us : List Value) (vs : List V) (ds : List D) (Qd : QD) (Xd : XD) (Q : VK) (E : XK), RoomG k A → Env0 P w K mg base A outer s H → ds.length = ps.length → BindsTo s fd args (ps.zip us) → Vals vs us → MOk K H M → Rs K H M ds vs →
    sp ds M Qd Xd → (∀ v H', upE K H M Qd v H' → Q v H') → XTo K H M Xd E → codeAny (model P w) A (.call (.ref f) args) (CR (L2.CX P w) outer P w H s Q E) s
theorem DFn.mono {P : Program} {w : World} {K : Fg} {mg : Str → Option Value} {base : Heap} {j k : Nat} {f : Addr} {fd : FuncData} {ps : List Str} {sp : SpD} (F : DFn P w K mg base j f fd ps sp) (h : j ≤ k) : DFn P w K mg base k f fd ps sp :=
  ⟨fun A outer s H M args us vs ds Qd Xd Q E hr => F.run A outer s H M args us vs ds Qd Xd Q E (hr.mono h)⟩
theorem DFn.imp {P : Program} {w : World} {K : Fg} {mg : Str → Option Value} {base : Heap} {k : Nat} {f : Addr} {fd : FuncData} {ps : List Str} {sp sp' : SpD} (F : DFn P w K mg base k f fd ps sp) (h : ∀ ds M Q Xd, sp' ds M Q Xd → sp ds M Q Xd) : DFn P w K mg base k f fd ps sp' :=
  ⟨fun A outer s H M args us vs ds Qd Xd Q E hr e0 hl hb hv mo rs t => F.run A outer s H M args us vs ds Qd Xd Q E hr e0 hl hb hv mo rs (h _ _ _ _ t)⟩
/-- the result may be read as other data, of less that is owned -/
structure Le (M M2 : Mem) (d d2 : D) : Prop where
  sub : ∀ a o, M2 a = some o → M a = some o
  nn : ∀ a, M a = none → M2 a = none
  rv : ∀ (K : Fg) (H : Hp) (v : V), MOk K H M → Rv K H M d v → Rv K H M2 d2 v
def Lo (Q : QD) : QD := fun d M => ∃ d2 M2, Le M M2 d d2 ∧ Q d2 M2
theorem Le.refl {M : Mem} {d : D} : Le M M d d := ⟨fun _ _ h => h, fun _ h => h, fun _ _ _ _ h => h⟩
theorem lo_same {Q : QD} {d : D} {M : Mem} (h : Q d M) : Lo Q d M := ⟨d, M, .refl, h⟩
/-- drop what is owned at a -/
theorem lo_drop {Q : QD} {d : D} {M : Mem} (a : Addr) (h : Lo Q d (M.del a)) : Lo Q d M := by
  obtain ⟨d2, M2, l, q⟩ := h
  have hs : ∀ b o, (M.del a) b = some o → M b = some o := fun b o e => by
    by_cases z : b = a
    · subst z; rw [Mem.del_same] at e; cases e
    · rw [Mem.del_ne z] at e; exact e
  have hn : ∀ b, M b = none → (M.del a) b = none := fun b e => by
    by_cases z : b = a
    · subst z; exact Mem.del_same
    · rw [Mem.del_ne z]; exact e
  exact ⟨d2, M2, ⟨fun b o e => hs b o (l.sub b o e), fun b e => l.nn b (hn b e), fun K H v mo r => l.rv K H v (mok_less hs hn mo) (Rv.grow (gw_less hn) d v r)⟩, q⟩
theorem Le.up {K : Fg} {H H' : Hp} {M M1 M2 : Mem} {d d2 : D} {v : V} {Q : QD} (l : Le M1 M2 d d2) (g : Gw H M H' M1) (m : MOk K H' M1) (r : Rv K H' M1 d v) (q : Q d2 M2) : upE K H M Q v H' :=
  ⟨d2, M2, g.trans (gw_less l.nn), mok_less l.sub l.nn m, l.rv K H' v m r, q⟩
/-- the names' values at the entry, as data -/
def startD (N : List Str) (ds : List D) : SD := ds.map some ++ List.replicate (N.length - ds.length) none
theorem start_ok {K : Fg} {H : Hp} {M : Mem} {N : List Str} {ds : List D} {vs : List V} (mo : MOk K H M) (r : Rs K H M ds vs) : StOk K (L2.start N vs) H (startD N ds) M := by
  have hl := Rs.len r
  refine ⟨by unfold L2.start startD; rw [List.length_append, List.length_append, List.length_map, List.length_map, List.length_replicate, List.length_replicate, hl], fun i d e => ?_, mo⟩
  unfold startD at e
  by_cases hi : i < ds.length
  · rw [List.getElem?_append_left (by simpa using hi), List.getElem?_map] at e
    cases q : ds[i]? with
    | none => rw [q] at e; cases e
    | some d' =>
      rw [q] at e
      cases e
      obtain ⟨v, h1, h2⟩ := Rs.get r q
      refine ⟨v, ?_, h2⟩
      unfold L2.start
      rw [List.getElem?_append_left (by rw [List.length_map, ← hl]; exact hi), List.getElem?_map, h1]
      rfl
  · rw [List.getElem?_append_right (by simpa using hi), List.getElem?_replicate] at e
    split at e <;> cases e
/-- a def's body, read as td, keeps sp -/
def bodyD (td : TSD) (N : List Str) : SpD := fun ds M Q Xd => td { nx := fun _ M' => Lo Q .non M', rt := Lo Q, bk := fun _ _ => False, ct := fun _ _ => False, ex := Xd } (startD N ds) M
theorem dfn_of {P : Program} {w : World} {K : Fg} {mg : Str → Option Value} {base : Heap} {x qual : Str} {st : Stmt} {f : Addr} {fd : FuncData} {N ps : List Str} {k : Nat} {td : TSD} (F : Fun K x qual st f fd) (S : FnScope N ps (defScope st))
    (hbody : ∀ (cdv : Value) (A : Around) (outer : List Env) (s : Shared) (H : Hp) (E : XK), RoomG k (A.deeper (envOfC qual (defScope st) s.heap.objs.size f cdv)) →
      DSs (cxOf (L2.CX P w) P w K mg base N qual (defScope st) f cdv A outer s H E) E (defBody st) td) : DFn P w K mg base (k + 1) f fd ps (bodyD td N) := by
  obtain ⟨oc, od, kV, doc, pm, an, cdv, ct, osl, rfl, lk, hcd⟩ := F.ex
  refine ⟨fun A outer s H M args us vs ds Qd Xd Q E hr e0 hlen hb r mo rs hsp hq hx => ?_⟩
  have hl : vs.length = ps.length := (vlen rs).trans hlen
  have KX : K.In s.heap := e0.mod.kin.keeps fun b o e => (e0.bs b o e).1
  have lim : s.heap.NoLimit := e0.mod.nolimit.keeps fun b o e => (e0.bs b o e).1
  have hkind : ∀ y ∈ ps.zip us, (defScope st).names.lookup y.1 = some .local ∨ ((defScope st).names.lookup y.1 = some .cell ∧ ((cellsFrom (s.heap.objs.size + 1) (defScope st).names []).lookup y.1).isSome = true) := fun ⟨n, v⟩ hy => by
    rcases S.par n (List.of_mem_zip hy).1 with q | q
    · exact .inl q
    · exact .inr ⟨q, PySem.W.cellsFrom_some _ _ _ (.inl q)⟩
  refine codeAny_call_function hr.r.depth (KX _ _ lk) rfl S.co S.gen rfl (PySem.W.codeRec_of KX hcd) (hb _ _ _ _ ?_)
  refine wpAny_newFunctionEnv_cells S.kind hkind fun env he s1 x => ?_
  subst he
  refine ⟨lim.keeps x.toInCall.keep, codeAny_func ?_⟩
  have ht := hbody cdv A outer s H E (hr.deeper _)
  have I : Inv (cxOf (L2.CX P w) P w K mg base N qual (defScope st) f cdv A outer s H E) [] (L2.start N vs) H s1 := inv_start S hr.r.hd e0 hl r x
  refine wpAny_mono (ht.ok.run [] s1 (L2.start N vs) H { nx := fun _ H' => Q .non H', rt := Q } I ?_) (fun fl s' hs => ?_) fun e s' hs => hs
  · refine ⟨startD N ds, M, { nx := fun _ M' => Lo Qd .non M', rt := Lo Qd, bk := fun _ _ => False, ct := fun _ _ => False, ex := Xd }, start_ok mo rs, hx, hsp, fun σ' H' ⟨s', M', g, S', q⟩ => ?_, fun v H' ⟨d, M', g, m, rd, q⟩ => ?_, fun σ' H' ⟨s', M', g, S', q⟩ => q.elim, fun σ' H' ⟨s', M', g, S', q⟩ => q.elim⟩
    · obtain ⟨d2, M2, l, q⟩ := q
      exact hq _ _ (l.up g S'.mem rfl q)
    · obtain ⟨d2, M2, l, q⟩ := q
      exact hq _ _ (l.up g m rd q)
  have fin : ∀ {σ' : L2.St} {H' : Hp} {v : V} {u : Value}, Inv (cxOf (L2.CX P w) P w K mg base N qual (defScope st) f cdv A outer s H E) [] σ' H' s' → RelV v u → Q v H' → CE outer P w H s Q u s' :=
    fun {σ' H' v u} J rv q => ⟨v, H', J.os, J.bare, J.base, J.hok, rv, q⟩
  cases fl with
  | ret u =>
    obtain ⟨v, σ', H', J, rv, q⟩ := hs
    exact fin J rv q
  | next =>
    obtain ⟨σ', H', J, q⟩ := hs
    exact fin (v := V.non) (u := Value.none) J rfl q
  | brk =>
    obtain ⟨_, _, _, q⟩ := hs
    exact False.elim q
  | cont =>
    obtain ⟨_, _, _, q⟩ := hs
    exact False.elim q
section
variable {X : Cx} {E : XK} {n k : Nat} {f : Addr} {fd : FuncData} {ps : List Str} {sp : SpD} {ds0 : List Value} {dvs : List V} {dd : List D} {x : Str} {p pos : Pos} {e a b c : Expr} {es : List Expr} {ts : TAD} {te ta tb : TED}
theorem run_fnD {pins : List (Addr × Obj)} {σ : L2.St} {H : Hp} {M : Mem} {s : Shared} {Q : VK} {Qd : QD} {Xd : XD} {us : List Value} {vs : List V} {ds : List D} (F : DFn X.prog X.w X.K X.mg X.base k f fd ps sp) (hr : RoomG k X.A) (hb : Binds X.K fd ps ds0) (hd : Vals dvs ds0) (hx : Passes (L2.CX X.prog X.w) X E)
    (I : Inv X pins σ H s) (r : Vals vs us) (mo : MOk X.K H M) (rs : Rs X.K H M ds vs) (rd : Rs X.K H M dd dvs) (hlen : (ds ++ dd).length = ps.length) (h : sp (ds ++ dd) M Qd Xd) (q : ∀ v H', upE X.K H M Qd v H' → Q v H') (xt : XTo X.K H M Xd E) :
    wpAny (model X.prog X.w) X.A (call (.ref f) us) (EP X pins σ Q) X.xe s := by
  have r2 : Vals (vs ++ dvs) (us ++ ds0) := r.append hd
  have hl : (us ++ ds0).length = ps.length := by rw [← r2.length, ← hlen]; exact vlen (Rs.append rs rd)
  refine wpAny_call (codeAny_mono (F.run X.A X.stack s H M ⟨us, []⟩ (us ++ ds0) (vs ++ dvs) (ds ++ dd) Qd Xd Q E hr I.env0 hlen (hb s us I.kIn hl) r2 mo (Rs.append rs rd) h q xt) fun r s' hq => ?_)
  cases r with
  | error e => exact hx pins σ H s e s' I hq
  | ok fl =>
    cases fl with
    | ret u => exact I.after hq
    | next => exact False.elim hq
    | brk => exact False.elim hq
    | cont => exact False.elim hq
def dCall (sp : SpD) (dd : List D) (t : TAD) : TED := fun Xd s M Q => t Xd s M fun ds M1 => sp (ds ++ dd) M1 Q Xd
theorem de_call (F : DFn X.prog X.w X.K X.mg X.base k f fd ps sp) (hr : RoomG k X.A) (hg : Gl X x) (hm : X.mg x = some (.ref f)) (hk : PySem.W.keepIn X.K (.ref f) = true) (hb : Binds X.K fd ps ds0) (hd : Vals dvs ds0) (rd : ∀ H M, Rs X.K H M dd dvs) (hx : Passes (L2.CX X.prog X.w) X E)
    (ha : DN X E n (e :: es) ts) (hn : n + dvs.length = ps.length := by rfl) (hdb : (x == ("__debug__" : Str)) = false := by decide) (he : starEach (e :: es) X.env = (false, eval e X.env) :: starEach es X.env := by rfl) (hpl : (backTo pos (starEach es X.env)).any (·.1) = false := by rfl) :
    DE X E (.Call (.Name x p) (e :: es) [] pos) (dCall sp dd ts) := by
  refine ⟨⟨fun pins s σ H Q I ⟨sd, M, Qd, Xd, S, xt, t, q⟩ => ?_⟩⟩
  refine wpAny_Call_Name_kw (ld_glob I hg hm ?_ hdb)
  refine PySem.W.callWith_K (h₀ := X.base) I.ok.mod.kin hk (thn (ha.ok.run pos pins s σ H _ I (useN (n := n) (Q := fun vs H1 => vs.length = n ∧ ∃ ds M1, Gw H M H1 M1 ∧ StOk X.K σ H1 sd M1 ∧ XTo X.K H1 M1 Xd E ∧ Rs X.K H1 M1 ds vs ∧ sp (ds ++ dd) M1 Qd Xd) S xt t
    fun ds vs M1 H1 hl g1 S1 x1 r1 t1 => ⟨hl, ds, M1, g1, S1, x1, r1, t1⟩)) fun us s1 ⟨vs, H1, I1, r, hl, ds, M1, g1, S1, x1, r1, t1⟩ => ⟨I1.kIn, ?_⟩) he hpl
  refine run_fnD F hr hb hd hx I1 r S1.mem r1 (rd H1 M1) ?_ t1 (fwd g1 q) x1
  have h1 : ds.length = n := by rw [Rs.len r1, hl]
  have h2 : dd.length = dvs.length := Rs.len (rd H1 M1)
  rw [List.length_append, h1, h2]
  exact hn
/-! ### statements -/
theorem fwdE {K : Fg} {H H1 : Hp} {M M1 : Mem} {Y : EndsD} {Z : Ends} (g : Gw H M H1 M1)
    (h : (∀ σ' H', upS K H M Y.nx σ' H' → Z.nx σ' H') ∧ (∀ v H', upE K H M Y.rt v H' → Z.rt v H') ∧ (∀ σ' H', upS K H M Y.bk σ' H' → Z.bk σ' H') ∧ (∀ σ' H', upS K H M Y.ct σ' H' → Z.ct σ' H')) :
    (∀ σ' H', upS K H1 M1 Y.nx σ' H' → Z.nx σ' H') ∧ (∀ v H', upE K H1 M1 Y.rt v H' → Z.rt v H') ∧ (∀ σ' H', upS K H1 M1 Y.bk σ' H' → Z.bk σ' H') ∧ (∀ σ' H', upS K H1 M1 Y.ct σ' H' → Z.ct σ' H') :=
  ⟨fwdS g h.1, fwd g h.2.1, fwdS g h.2.2.1, fwdS g h.2.2.2⟩
theorem upS_here {K : Fg} {σ : L2.St} {H : Hp} {M : Mem} {s : SD} {Q : SD → Mem → Prop} (S : StOk K σ H s M) (q : Q s M) : upS K H M Q σ H := ⟨s, M, Gw.refl, S, q⟩
variable {st : Stmt} {rest body orelse : List Stmt} {t u : TSD}
def sNx : TSD := fun Y s M => Y.nx s M
def sSeq (t u : TSD) : TSD := fun Y s M => t { Y with nx := u Y } s M
theorem dss_nil : DSs X E [] sNx := ⟨PSs.imp pss_nil fun Z σ H ⟨s, M, Y, S, x, t, h⟩ => h.1 _ _ (upS_here S t)⟩
theorem dss_cons (h1 : DS X E st t) (h2 : DSs X E rest u) : DSs X E (st :: rest) (sSeq t u) :=
  ⟨PSs.imp (pss_cons h1.ok h2.ok) fun Z σ H ⟨s, M, Y, S, x, z, h⟩ => by
    refine ⟨s, M, { Y with nx := u Y }, S, x, z, fun σ' H' ⟨s', M', g, S', z'⟩ => ?_, h.2.1, h.2.2.1, h.2.2.2⟩
    exact ⟨s', M', Y, S', x.grow g, z', fwdE g h⟩⟩
theorem dss_one (h1 : DS X E st t) : DSs X E [st] t := ⟨pss_one h1.ok⟩
def sBk : TSD := fun Y s M => Y.bk s M
def sCt : TSD := fun Y s M => Y.ct s M
def sExpr (te : TED) : TSD := fun Y s M => te Y.ex s M fun _ M1 => Y.nx s M1
theorem ds_expr (he : DE X E e te) (hs : swapsWith e none pos.line X.env = pure false := by rfl) : DS X E (.Expr e pos) (sExpr te) :=
  ⟨PS.imp (ps_expr he.ok hs) fun Z σ H ⟨s, M, Y, S, x, t, h⟩ => useE S x t fun d v M1 H1 g1 S1 x1 r1 t1 => h.1 _ _ ⟨s, M1, g1, S1, t1⟩⟩
def sRet (te : TED) : TSD := fun Y s M => te Y.ex s M Y.rt
theorem ds_ret (he : DE X E e te) : DS X E (.Return (some e) pos) (sRet te) :=
  ⟨PS.imp (ps_ret he.ok) fun Z σ H ⟨s, M, Y, S, x, t, h⟩ => useE S x t fun d v M1 H1 g1 S1 x1 r1 t1 => h.2.1 _ _ ⟨d, M1, g1, S1.mem, r1, t1⟩⟩
def sRetN : TSD := fun Y s M => Y.rt .non M
def sIf (c : TTD) (t u : TSD) : TSD := fun Y s M => c Y.ex s M fun b M1 => if b = true then t Y s M1 else u Y s M1
theorem ds_if {tc : TTD} (hc : DT X E c tc) (ha : DSs X E body t) (hb : DSs X E orelse u) : DS X E (.If c body orelse pos) (sIf tc t u) :=
  ⟨PS.imp (ps_if hc.ok ha.ok hb.ok) fun Z σ H ⟨s, M, Y, S, x, z, h⟩ => useT S x z fun k M1 H1 g1 S1 x1 t1 => by
    cases k with
    | true => exact ⟨s, M1, Y, S1, x1, t1, fwdE g1 h⟩
    | false => exact ⟨s, M1, Y, S1, x1, t1, fwdE g1 h⟩⟩
/-! ### targets -/
abbrev TGD := D → XD → SD → Mem → (SD → Mem → Prop) → Prop
abbrev TGsD := List D → XD → SD → Mem → (SD → Mem → Prop) → Prop
structure DG (X : Cx) (E : XK) (target : Expr) (t : TGD) : Prop where
  ok : ∃ g, PG X target g ∧ ∀ {v : V} {d : D} {σ : L2.St} {H : Hp} {s : SD} {M : Mem} {Xd : XD} {Qd : SD → Mem → Prop} {Q : L2.St → Hp → Prop}, StOk X.K σ H s M → XTo X.K H M Xd E → Rv X.K H M d v → t d Xd s M Qd →
    (∀ σ' H', upS X.K H M Qd σ' H' → Q σ' H') → g v σ H Q
structure DGs (X : Cx) (E : XK) (targets : List Expr) (n : Nat) (t : TGsD) : Prop where
  ok : ∃ g, PGs X targets g ∧ ∀ {vs : List V} {ds : List D} {σ : L2.St} {H : Hp} {s : SD} {M : Mem} {Xd : XD} {Qd : SD → Mem → Prop} {Q : L2.St → Hp → Prop}, StOk X.K σ H s M → XTo X.K H M Xd E → Rs X.K H M ds vs → t ds Xd s M Qd →
    (∀ σ' H', upS X.K H M Qd σ' H' → Q σ' H') → g vs σ H Q
def gNm (i : Nat) : TGD := fun d _ s M Q => Q (s.set i (some d)) M
theorem dg_name {i : Nat} {x : Str} (hN : X.N.Nodup) (hi : X.N[i]? = some x) (hx : Loc X.env.scope x) (hf : X.fn x = true ∨ X.env.scope.names.lookup x = some .local := by first | exact .inl rfl | exact .inr rfl | assumption) : DG X E (.Name x pos) (gNm i) :=
  ⟨gName i, pg_name hN hi hx hf, fun S x r t q => q _ _ ⟨_, _, Gw.refl, S.set i r, t⟩⟩
def gNi : TGsD := fun ds _ s M Q => match ds with
  | [] => Q s M
  | _ => False
def gCo (t : TGD) (u : TGsD) : TGsD := fun ds Xd s M Q => match ds with
  | [] => False
  | d :: r => t d Xd s M fun s' M' => u r Xd s' M' Q
theorem dgs_nil : DGs X E [] 0 gNi := ⟨gNil, pgs_nil, fun {vs ds σ H s M Xd Qd Q} S x r t q => by
  cases ds with
  | nil => exact ⟨r, q _ _ (upS_here S t)⟩
  | cons d ds => exact t.elim⟩
theorem dgs_cons {t : TGD} {u : TGsD} (h1 : DG X E e t) (h2 : DGs X E es n u) (hs : (assignEach (e :: es) X.env).map (·.2) = assign e X.env :: (assignEach es X.env).map (·.2) := by rfl) : DGs X E (e :: es) (n + 1) (gCo t u) := by
  obtain ⟨g1, p1, q1⟩ := h1.ok
  obtain ⟨g2, p2, q2⟩ := h2.ok
  refine ⟨gCons g1 g2, pgs_cons p1 p2 hs, fun {vs ds σ H s M Xd Qd Q} S x r t q => ?_⟩
  cases ds with
  | nil => exact t.elim
  | cons d ds =>
    obtain ⟨v, vr, rfl, rd, rr⟩ := r
    refine ⟨v, vr, rfl, q1 S x rd t fun σ' H' ⟨s', M', g, S', z⟩ => ?_⟩
    exact q2 S' (x.grow g) (Rs.grow g _ _ rr) z (fwdS g q)
def gTp (n : Nat) (t : TGsD) : TGD := fun d Xd s M Q => match vw M d with
  | .tup ds => ds.length = n ∧ t ds Xd s M Q
  | _ => False
theorem dg_tup {k : Nat} {t : TGsD} (hc : X.calm = true) (h : DGs X E es n t) (hn : (assignEach es X.env).length = n := by rfl) (hst : (assignEach es X.env).findIdx? (·.1) = none := by rfl) : DG X E (.Tuple es k pos) (gTp n t) := by
  obtain ⟨g1, p1, q1⟩ := h.ok
  refine ⟨gTup X.K n g1, pg_tup hc p1 hn hst, fun {v d σ H s M Xd Qd Q} S x r t q => ?_⟩
  unfold gTp at t
  split at t
  · rename_i ds hd
    obtain ⟨a, xs, rfl, ha, sa⟩ := vw_tup r hd
    exact ⟨a, xs, rfl, ha.sq, by rw [vlen sa]; exact t.1, q1 S x sa t.2 q⟩
  · exact t.elim
def sAsg (te : TED) (g : TGD) : TSD := fun Y s M => te Y.ex s M fun d M1 => g d Y.ex s M1 Y.nx
theorem ds_asg {tg : Expr} {g : TGD} (he : DE X E e te) (hg : DG X E tg g) (hs : swapsWithSole [tg] e pos.line X.env = pure false := by rfl) (hw : swappedStores [tg] e X.env = pure none := by rfl)
    (h1 : (assignEach [tg] X.env).map (·.2) = [assign tg X.env] := by rfl) : DS X E (.Assign [tg] e pos) (sAsg te g) := by
  obtain ⟨g1, p1, q1⟩ := hg.ok
  exact ⟨PS.imp (ps_asg he.ok p1 hs hw h1) fun Z σ H ⟨s, M, Y, S, x, t, h⟩ => useE S x t fun d v M1 H1 gr S1 x1 r1 t1 => q1 S1 x1 r1 t1 (fwdS gr h.1)⟩
def sSet (i : Nat) (te : TED) : TSD := fun Y s M => te Y.ex s M fun d M1 => Y.nx (s.set i (some d)) M1
theorem ds_set {i : Nat} {x : Str} {pos' : Pos} (hN : X.N.Nodup) (hi : X.N[i]? = some x) (hx : Loc X.env.scope x) (he : DE X E e te) (hs : swapsWith e (some (.Name x pos')) pos.line X.env = pure false := by rfl) (hf : X.fn x = true ∨ X.env.scope.names.lookup x = some .local := by first | exact .inl rfl | exact .inr rfl | assumption) :
    DS X E (.Assign [.Name x pos'] e pos) (sSet i te) :=
  ⟨PS.imp (ps_set hN hi hx he.ok hs hf) fun Z σ H ⟨s, M, Y, S, x, t, h⟩ => useE S x t fun d v M1 H1 g1 S1 x1 r1 t1 => h.1 _ _ ⟨_, M1, g1, S1.set i r1, t1⟩⟩
/-- a, b = x, y -/
def sPar (i j : Nat) (ta : TAD) : TSD := fun Y s M => ta Y.ex s M fun ds M1 => match ds with
  | [d, e] => Y.nx ((s.set i (some d)).set j (some e)) M1
  | _ => False
/-! ### loops -/
/-- a walk gives the items ds, one by one, while what is watched stands -/
structure ItOk (K : Fg) (J : It) (H0 : Hp) (M0 : Mem) (ow : Option Addr) (ds : List D) : Prop where
  go : ∀ i H M, Gw H0 M0 H M → MOk K H M → (∀ a, ow = some a → M a = M0 a) → i < ds.length → J.go i H ∧ ∀ x H', J.yld i H x H' → ∃ d, ds[i]? = some d ∧ Gw H M H' M ∧ MOk K H' M ∧ Rv K H' M d x
  stop : ∀ H M, Gw H0 M0 H M → MOk K H M → (∀ a, ow = some a → M a = M0 a) → J.stop ds.length H
abbrev TID := XD → SD → Mem → (List D → Option Addr → Mem → Prop) → Prop
structure DI (X : Cx) (E : XK) (tg iter : Expr) (ti : TID) : Prop where
  ok : ∃ wi, PI X tg iter wi ∧ ∀ {σ : L2.St} {H : Hp} {s : SD} {M : Mem} {Xd : XD} {Qd : List D → Option Addr → Mem → Prop} {R : It → Hp → Prop}, StOk X.K σ H s M → XTo X.K H M Xd E → ti Xd s M Qd →
    (∀ J H' M' ow ds, Gw H M H' M' → MOk X.K H' M' → ItOk X.K J H' M' ow ds → Qd ds ow M' → R J H') → wi σ H R
def wat (ow : Option Addr) (M0 M : Mem) : Prop := match ow with
  | some a => M a = M0 a
  | none => True
theorem wat_of {ow : Option Addr} {M0 M : Mem} (h : wat ow M0 M) : ∀ a, ow = some a → M a = M0 a := fun a e => by subst e; exact h
def sForL (g : TGD) (tb : TSD) (Y : EndsD) (W : Mem → Prop) : List D → SD → Mem → Prop
  | [], s, M => W M ∧ Y.nx s M
  | d :: ds, s, M => W M ∧ g d Y.ex s M fun s' M' => tb { Y with nx := sForL g tb Y W ds, ct := sForL g tb Y W ds, bk := Y.nx } s' M'
def sFor (ti : TID) (g : TGD) (tb : TSD) : TSD := fun Y s M => ti Y.ex s M fun ds ow M1 => sForL g tb Y (wat ow M1) ds s M1
theorem ds_for {iter tg : Expr} {ti : TID} {g : TGD} {tb : TSD} (hp : PassesOwn (model X.prog X.w) X.A X.env X.xe) (hc : X.calm = true) (hi : DI X E tg iter ti) (hg : DG X E tg g) (hb : DSs X E body tb)
    (hs : ∀ x, foldedSetIterable iter X.env x = pure x := by intro _; rfl) : DS X E (.For tg iter body [] pos) (sFor ti g tb) := by
  obtain ⟨wi, pi, qi⟩ := hi.ok
  obtain ⟨g1, p1, q1⟩ := hg.ok
  refine ⟨PS.imp (ps_for hp hc pi p1 hb.ok hs) fun Z σ H ⟨s, M, Y, S, x, t, h⟩ => ?_⟩
  refine qi S x t fun J H1 M1 ow ds gr mo io td => ?_
  refine ⟨fun i m σ' H' => m = ds.length - i ∧ i ≤ ds.length ∧ ∃ s' M', Gw H1 M1 H' M' ∧ StOk X.K σ' H' s' M' ∧ sForL g tb Y (wat ow M1) (ds.drop i) s' M', ⟨ds.length, rfl, Nat.zero_le _, s, M1, Gw.refl, S.grow gr mo, td⟩, fun i m σ' H' hW => ?_⟩
  obtain ⟨em, hi', s', M', g', S', td'⟩ := hW
  by_cases hlt : i < ds.length
  · rw [List.drop_eq_getElem_cons hlt] at td'
    obtain ⟨hw, td'⟩ := td'
    obtain ⟨hgo, hy⟩ := io.go i H' M' g' S'.mem (wat_of hw) hlt
    refine .inr ⟨hgo, fun σ2 H2 => ∃ s2 M2, Gw H1 M1 H2 M2 ∧ StOk X.K σ2 H2 s2 M2 ∧ sForL g tb Y (wat ow M1) (ds.drop (i + 1)) s2 M2, fun σ2 H2 ⟨s2, M2, a1, a2, a3⟩ => ⟨ds.length - (i + 1), by omega, rfl, by omega, s2, M2, a1, a2, a3⟩, fun v H2 hyl => ?_⟩
    obtain ⟨d, hd, g2, m2, r2⟩ := hy v H2 hyl
    have ed : d = ds[i] := by rw [List.getElem?_eq_getElem hlt] at hd; exact (Option.some.inj hd).symm
    subst ed
    refine q1 (S'.grow g2 m2) (((x.grow gr).grow g').grow g2) r2 td' fun σ3 H3 ⟨s3, M3, g3, S3, z3⟩ => ?_
    have gg : Gw H1 M1 H3 M3 := (g'.trans g2).trans g3
    refine ⟨s3, M3, { Y with nx := sForL g tb Y (wat ow M1) (ds.drop (i + 1)), ct := sForL g tb Y (wat ow M1) (ds.drop (i + 1)), bk := Y.nx }, S3, ((x.grow gr).grow gg), z3, fun σ4 H4 ⟨s4, M4, g4, S4, z4⟩ => ⟨s4, M4, gg.trans g4, S4, z4⟩, fwd (gr.trans gg) h.2.1, fwdS (gr.trans gg) h.1, fun σ4 H4 ⟨s4, M4, g4, S4, z4⟩ => ⟨s4, M4, gg.trans g4, S4, z4⟩⟩
  · have e : i = ds.length := by omega
    subst e
    rw [List.drop_length] at td'
    obtain ⟨hw, td'⟩ := td'
    exact .inl ⟨io.stop H' M' g' S'.mem (wat_of hw), h.1 _ _ ⟨s', M', gr.trans g', S', td'⟩⟩
def sWhN (tc : TTD) (tb : TSD) (Y : EndsD) : Nat → SD → Mem → Prop
  | 0, _, _ => False
  | m + 1, s, M => tc Y.ex s M fun b M1 => if b = true then tb { Y with nx := sWhN tc tb Y m, ct := sWhN tc tb Y m, bk := Y.nx } s M1 else Y.nx s M1
def sWhile (tc : TTD) (tb : TSD) : TSD := fun Y s M => ∃ m, sWhN tc tb Y m s M
theorem ds_while {tc : TTD} {tb : TSD} (hp : PassesOwn (model X.prog X.w) X.A X.env X.xe) (hc : DT X E c tc) (hb : DSs X E body tb) : DS X E (.While c body [] pos) (sWhile tc tb) := by
  refine ⟨PS.imp (ps_while hp hc.ok hb.ok) fun Z σ H ⟨s, M, Y, S, x, ⟨m, t⟩, h⟩ => ?_⟩
  refine ⟨fun m σ' H' => ∃ s' M', Gw H M H' M' ∧ StOk X.K σ' H' s' M' ∧ sWhN tc tb Y m s' M', ⟨m, s, M, Gw.refl, S, t⟩, fun m σ' H' hW => ?_⟩
  obtain ⟨s', M', g', S', t'⟩ := hW
  cases m with
  | zero => exact t'.elim
  | succ m =>
    refine useT S' (x.grow g') t' fun b M1 H1 g1 S1 x1 t1 => ?_
    cases b with
    | true =>
      rw [if_pos rfl] at t1 ⊢
      refine ⟨fun σ2 H2 => ∃ s2 M2, Gw H M H2 M2 ∧ StOk X.K σ2 H2 s2 M2 ∧ sWhN tc tb Y m s2 M2, fun σ2 H2 hh => ⟨m, Nat.lt_succ_self m, hh⟩, ?_⟩
      have gg := g'.trans g1
      exact ⟨s', M1, { Y with nx := sWhN tc tb Y m, ct := sWhN tc tb Y m, bk := Y.nx }, S1, x1, t1, fun σ4 H4 ⟨s4, M4, g4, S4, z4⟩ => ⟨s4, M4, gg.trans g4, S4, z4⟩, fwd gg h.2.1, fwdS gg h.1, fun σ4 H4 ⟨s4, M4, g4, S4, z4⟩ => ⟨s4, M4, gg.trans g4, S4, z4⟩⟩
    | false =>
      rw [if_neg Bool.false_ne_true] at t1 ⊢
      exact h.1 _ _ ⟨s', M1, g'.trans g1, S1, t1⟩
end
end DL
set_option maxHeartbeats 1000000
namespace DL
open PySem PySem.Spec PyProof.Rows L2
section
variable {X : Cx} {E : XK} {n k : Nat} {x : Str} {p pos : Pos} {e a b c tg : Expr} {es : List Expr} {ts : TAD} {te ta tb : TED}
/-! ### what is walked -/
/-- a list or a tuple -/
def iSeq (K : Fg) (tl : TE) : TI := fun σ H R => tl σ H fun x H1 => ∃ a, x = .ref a ∧ (((∃ xs, SqL K H1 a xs) ∧ R (Itl K a) H1) ∨ ((∃ xs, SqT K H1 a xs) ∧ R (Itt K a) H1))
theorem pi_seq {l : Expr} {tl : TE} (hl : PE X l tl) : PI X tg l (iSeq X.K tl) := by
  refine ⟨fun pins s σ H R I h => ?_⟩
  refine thn (hl.run pins s σ H _ I h) fun v s1 ⟨x, H1, I1, r1, q1⟩ => ?_
  obtain ⟨a, e, q1⟩ := q1
  subst e
  cases r1
  have hf : ∀ b ∈ [s1.heap.objs.size], FpOk X pins H1 b := fun b hb => by
    have e : b = s1.heap.objs.size := by simpa using hb
    subst e
    exact I1.fpOk (Nat.le_refl _) (I1.hok.fresh (Nat.le_refl _))
  rcases q1 with ⟨⟨xs, hq⟩, q⟩ | ⟨⟨xs, hq⟩, q⟩
  · obtain ⟨its, rv, p, hz⟩ := I1.list hq
    refine wpAny_pyIter_list p.isList ?_
    exact ⟨s1.heap.objs.size, [s1.heap.objs.size], _, _, H1, rfl, I1.kept (t' := s1.toks) fun b o e => Heap.get?_push_of_some _ e, turn_list a _, ⟨_, Heap.get?_push_size _ rfl, rfl, rfl⟩, hf, q⟩
  · obtain ⟨its, rv, p, hz⟩ := I1.tuple hq
    refine wpAny_pyIter_tuple (show s1.heap.IsTuple a its.toArray from p) ?_
    exact ⟨s1.heap.objs.size, [s1.heap.objs.size], _, _, H1, rfl, I1.kept (t' := s1.toks) fun b o e => Heap.get?_push_of_some _ e, turn_tuple a _, ⟨_, Heap.get?_push_size _ rfl, rfl, rfl⟩, hf, q⟩
theorem ItOk.list {K : Fg} {H0 : Hp} {M0 : Mem} {ow : Option Addr} {ds : List D} {a : Addr} (hs : ∀ H M, Gw H0 M0 H M → MOk K H M → (∀ a, ow = some a → M a = M0 a) → ∃ xs, SqL K H a xs ∧ Rs K H M ds xs) : ItOk K (Itl K a) H0 M0 ow ds := by
  refine ⟨fun i H M g mo hw hi => ?_, fun H M g mo hw => ?_⟩
  · obtain ⟨xs, h1, h2⟩ := hs H M g mo hw
    obtain ⟨v, e1, e2⟩ := Rs.get h2 (List.getElem?_eq_getElem hi)
    refine ⟨⟨xs, v, h1, e1⟩, fun y H' ⟨eH, hy⟩ => ?_⟩
    subst eH
    have e3 := hy xs h1
    rw [e1] at e3; cases e3
    exact ⟨_, List.getElem?_eq_getElem hi, Gw.refl, mo, e2⟩
  · obtain ⟨xs, h1, h2⟩ := hs H M g mo hw
    exact ⟨xs, h1, by rw [vlen h2]; exact Nat.le_refl _⟩
theorem ItOk.tup {K : Fg} {H0 : Hp} {M0 : Mem} {ow : Option Addr} {ds : List D} {a : Addr} (hs : ∀ H M, Gw H0 M0 H M → MOk K H M → (∀ a, ow = some a → M a = M0 a) → ∃ xs, SqT K H a xs ∧ Rs K H M ds xs) : ItOk K (Itt K a) H0 M0 ow ds := by
  refine ⟨fun i H M g mo hw hi => ?_, fun H M g mo hw => ?_⟩
  · obtain ⟨xs, h1, h2⟩ := hs H M g mo hw
    obtain ⟨v, e1, e2⟩ := Rs.get h2 (List.getElem?_eq_getElem hi)
    refine ⟨⟨xs, v, h1, e1⟩, fun y H' ⟨eH, hy⟩ => ?_⟩
    subst eH
    have e3 := hy xs h1
    rw [e1] at e3; cases e3
    exact ⟨_, List.getElem?_eq_getElem hi, Gw.refl, mo, e2⟩
  · obtain ⟨xs, h1, h2⟩ := hs H M g mo hw
    exact ⟨xs, h1, by rw [vlen h2]; exact Nat.le_refl _⟩
theorem ItOk.rng {K : Fg} {H0 : Hp} {M0 : Mem} {lo c : Int} {n : Nat} : ItOk K (Itc lo c n) H0 M0 none ((List.range n).map fun i => D.int (lo + (i : Nat) * c)) := by
  have hl : ((List.range n).map fun i => D.int (lo + (i : Nat) * c)).length = n := by rw [List.length_map, List.length_range]
  refine ⟨fun i H M g mo hw hi => ?_, fun H M g mo hw => ?_⟩
  · rw [hl] at hi
    refine ⟨hi, fun y H' ⟨eH, hy⟩ => ?_⟩
    subst eH; subst hy
    exact ⟨.int (lo + (i : Nat) * c), by rw [List.getElem?_map, List.getElem?_range hi]; rfl, Gw.refl, mo, rfl⟩
  · rw [hl]; exact Nat.le_refl n
theorem ItOk.rng1 {K : Fg} {H0 : Hp} {M0 : Mem} {lo : Int} {n : Nat} : ItOk K (Itr lo n) H0 M0 none ((List.range n).map fun i => D.int (lo + (i : Nat))) := by
  have hl : ((List.range n).map fun i => D.int (lo + (i : Nat))).length = n := by rw [List.length_map, List.length_range]
  refine ⟨fun i H M g mo hw hi => ?_, fun H M g mo hw => ?_⟩
  · rw [hl] at hi
    refine ⟨hi, fun y H' ⟨eH, hy⟩ => ?_⟩
    subst eH; subst hy
    exact ⟨.int (lo + (i : Nat)), by rw [List.getElem?_map, List.getElem?_range hi]; rfl, Gw.refl, mo, rfl⟩
  · rw [hl]; exact Nat.le_refl n
/-- the items of a value, and what is to stand while they are walked -/
def itemK (R : List D → Option Addr → Mem → Prop) : QD := fun d M => match d with
  | .tup ds => R ds none M
  | .lst ds => R ds none M
  | .fzn ds => R ds none M
  | .ref a => match M a with
    | some (.lst ds) => R ds (some a) M
    | _ => False
  | _ => False
def iSeqD (te : TED) : TID := fun Xd s M R => te Xd s M (itemK R)
theorem di_seq (h : DE X E e te) : DI X E tg e (iSeqD te) := by
  refine ⟨_, pi_seq h.ok, fun {σ H s M Xd Qd R} S x t q => ?_⟩
  refine useE S x t fun d v M1 H1 g1 S1 x1 r1 t1 => ?_
  unfold itemK at t1
  split at t1
  · rename_i ds
    obtain ⟨p, xs, rfl, hp, sp⟩ := r1
    exact ⟨p, rfl, .inr ⟨⟨xs, hp.sq⟩, q _ _ _ _ _ g1 S1.mem (ItOk.tup fun H M g mo _ => ⟨xs, (g.rt hp).sq, Rs.grow g ds xs sp⟩) t1⟩⟩
  · rename_i ds
    obtain ⟨p, xs, rfl, hp, hm, sp⟩ := r1
    exact ⟨p, rfl, .inl ⟨⟨xs, SqL.of hp⟩, q _ _ _ _ _ g1 S1.mem (ItOk.list fun H M g mo _ => ⟨xs, SqL.of (g.at hp hm).1, Rs.grow g ds xs sp⟩) t1⟩⟩
  · rename_i ds
    obtain ⟨p, xs, rfl, hp, sp⟩ := r1
    exact ⟨p, rfl, .inl ⟨⟨xs, hp.sq⟩, q _ _ _ _ _ g1 S1.mem (ItOk.list fun H M g mo _ => ⟨xs, (g.rl hp).sq, Rs.grow g ds xs sp⟩) t1⟩⟩
  · rename_i p
    split at t1
    · rename_i ds hm
      have hv : v = .ref p := r1
      obtain ⟨xs, hp, sp⟩ := S1.mem p _ hm
      refine ⟨p, hv, .inl ⟨⟨xs, SqL.of hp⟩, q _ _ _ (some p) _ g1 S1.mem (ItOk.list fun H M g mo hw => ?_) t1⟩⟩
      have e := hw p rfl
      rw [hm] at e
      obtain ⟨ys, h1, h2⟩ := mo p _ e
      exact ⟨ys, SqL.of h1, h2⟩
    · exact t1.elim
  · exact t1.elim
def rngL (lo : Int) (n : Nat) : List D := (List.range n).map fun i => D.int (lo + (i : Nat))
def rngK (R : List D → Option Addr → Mem → Prop) : List D → Mem → Prop := fun ds M => match ds with
  | [.int j] => (-(2 ^ 62) ≤ j ∧ j < 2 ^ 62) ∧ R (rngL 0 j.toNat) none M
  | [.int i, .int j] => (-(2 ^ 62) ≤ i ∧ i < 2 ^ 62 ∧ -(2 ^ 62) ≤ j ∧ j < 2 ^ 62) ∧ R (rngL i (j - i).toNat) none M
  | _ => False
def iRngD (t : TAD) : TID := fun Xd s M R => t Xd s M (rngK R)
theorem di_range1 (hg : Gl X "range") (hm : X.mg "range" = none) (h : DN X E 1 [a] ts) (hs : starEach [a] X.env = [(false, eval a X.env)] := by rfl) : DI X E tg (.Call (.Name "range" p) [a] [] pos) (iRngD ts) := by
  refine ⟨_, pi_range1 hg hm h.ok hs, fun {σ H s M Xd Qd R} S x t q => ?_⟩
  refine useN S x t fun ds vs M1 H1 hl g1 S1 x1 r1 t1 => ?_
  unfold rngK at t1
  split at t1
  · rename_i j
    obtain ⟨v, rfl, rd⟩ := rs1 r1
    exact ⟨j, by rw [show v = V.int j from rd], t1.1.1, t1.1.2, q _ _ _ _ _ g1 S1.mem ItOk.rng1 t1.2⟩
  · obtain ⟨v, w, rfl, _, _⟩ := rs2 r1
    simp at hl
  · exact t1.elim
/-! ### comprehensions -/
def wipeD (s : SD) : List Nat → SD
  | [] => s
  | i :: r => (wipeD s r).set i none
theorem StOk.wipe {K : Fg} {H : Hp} {M : Mem} {σ : L2.St} {s : SD} (S : StOk K σ H s M) : ∀ vs : List Nat, StOk K (L2.wipe σ vs) H (wipeD s vs) M
  | [] => S
  | i :: r => by
    have S1 := StOk.wipe S r
    refine ⟨by show ((wipeD s r).set i none).length = ((L2.wipe σ r).set i none).length; rw [List.length_set, List.length_set]; exact S1.len, fun j d e => ?_, S.mem⟩
    have e : ((wipeD s r).set i none)[j]? = some (some d) := e
    show ∃ v, ((L2.wipe σ r).set i none)[j]? = some (some v) ∧ Rv K H M d v
    by_cases hj : j = i
    · subst hj
      by_cases hl : j < (wipeD s r).length
      · rw [List.getElem?_set_self hl] at e; cases e
      · rw [List.getElem?_eq_none (by rw [List.length_set]; omega)] at e; cases e
    · rw [List.getElem?_set_ne (Ne.symm hj)] at e
      obtain ⟨v, e1, e2⟩ := S1.sl j d e
      exact ⟨v, by rw [List.getElem?_set_ne (Ne.symm hj)]; exact e1, e2⟩
theorem wipe_at (σ : L2.St) (j : Nat) : ∀ vs : List Nat, (L2.wipe σ vs)[j]? = if j ∈ vs then (σ[j]?).map (fun _ => none) else σ[j]?
  | [] => by rw [if_neg (by simp)]; rfl
  | i :: r => by
    have ih := wipe_at σ j r
    show ((L2.wipe σ r).set i none)[j]? = _
    by_cases hj : i = j
    · subst hj
      rw [if_pos List.mem_cons_self]
      by_cases hl : i < σ.length
      · rw [List.getElem?_set_self (by rw [L2.wipe_length]; exact hl), List.getElem?_eq_getElem hl]; rfl
      · rw [List.getElem?_eq_none (by rw [List.length_set, L2.wipe_length]; omega), List.getElem?_eq_none (by omega)]; rfl
    · rw [List.getElem?_set_ne hj, ih]
      by_cases hr : j ∈ r
      · rw [if_pos hr, if_pos (List.mem_cons_of_mem _ hr)]
      · rw [if_neg hr, if_neg (fun z => (List.mem_cons.mp z).elim (fun z => hj z.symm) hr)]
theorem wipe_set {o : Option V} {i : Nat} {vs : List Nat} {σ : L2.St} (h : i ∈ vs) : L2.wipe (σ.set i o) vs = L2.wipe σ vs := by
  apply List.ext_getElem?
  intro j
  rw [wipe_at, wipe_at]
  by_cases hj : i = j
  · subst hj
    rw [if_pos h, if_pos h]
    by_cases hl : i < σ.length
    · rw [List.getElem?_set_self hl, List.getElem?_eq_getElem hl]; rfl
    · rw [List.getElem?_eq_none (by rw [List.length_set]; omega), List.getElem?_eq_none (by omega)]
  · rw [List.getElem?_set_ne hj]
theorem wipe_wipe (σ : L2.St) (vs : List Nat) : L2.wipe (L2.wipe σ vs) vs = L2.wipe σ vs := by
  apply List.ext_getElem?
  intro j
  rw [wipe_at, wipe_at]
  by_cases hj : j ∈ vs
  · rw [if_pos hj, if_pos hj, Option.map_map]; rfl
  · rw [if_neg hj, if_neg hj]
def X0 : XD := fun _ _ _ _ => False
theorem x0_to {K : Fg} {H : Hp} {M : Mem} : XTo K H M X0 E0 := fun c od H' ⟨_, _, _, _, _, _, _, _, _, _, _, _, _, _, z⟩ => z
/-- the tests of a clause -/
structure DTs (X : Cx) (E : XK) (ifs : List Expr) (t : TTD) : Prop where
  ok : PTs X ifs (liftT X.K E t)
def tYesD : TTD := fun _ _ M Q => Q true M
theorem dts_nil : DTs X E [] tYesD := ⟨⟨fun pins s σ H Q I ⟨sd, M, Qd, Xd, S, x, t, q⟩ => pts_nil.run pins s σ H Q I (q true H ⟨M, Gw.refl, S.mem, t⟩)⟩⟩
theorem dts_one {t : TTD} (h : DT X E c t) : DTs X E [c] t := ⟨pts_one h.ok⟩
/-- what stands at the growing list -/
def accK (p : Addr) (r : D) (k : Mem → Prop) : Mem → Prop := fun M => match M p with
  | some (.lst acc) => acc.length < sizeLine ∧ k (M.put p (.lst (acc ++ [r])))
  | _ => False
def endK (p : Addr) (Q : QD) : Mem → Prop := fun M => match M p with
  | some (.lst acc) => Q (.lst acc) (M.del p)
  | _ => False
def dLcL (g : TGD) (tt : TTD) (te : TED) (s0 : SD) (W : Mem → Prop) (p : Addr) (Q : QD) : List D → Mem → Prop
  | [], M => W M ∧ endK p Q M
  | d :: ds, M => W M ∧ g d X0 s0 M fun s' M' => tt X0 s' M' fun b M2 => if b = true then te X0 s' M2 (fun r => accK p r (dLcL g tt te s0 W p Q ds)) else dLcL g tt te s0 W p Q ds M2
def dLc (ti : TID) (g : TGD) (tt : TTD) (te : TED) (vs : List Nat) : TED := fun Xd s M Q => ti Xd s M fun ds ow M1 => ∀ p, M1 p = none → dLcL g tt te (wipeD s vs) (wat ow M1) p Q ds (M1.put p (.lst []))
theorem lift_lc {J : It} {ow : Option Addr} {g : TGD} {g1 : TG} {tt : TTD} {Y : Cx} {vs : List Nat} {σ : L2.St} {s : SD} {H0 H1 : Hp} {M0 M1 : Mem} {ds : List D} {Qd : QD} {Q : VK} {p : Addr} (hK : Y.K = X.K)
    (q1 : ∀ {v : V} {d : D} {σ : L2.St} {H : Hp} {s : SD} {M : Mem} {Xd : XD} {Qd : SD → Mem → Prop} {Q : L2.St → Hp → Prop}, StOk X.K σ H s M → XTo X.K H M Xd E0 → Rv X.K H M d v → g d Xd s M Qd →
      (∀ σ' H', upS X.K H M Qd σ' H' → L2.wipe σ' vs = L2.wipe σ vs → Q σ' H') → g1 v σ H Q)
    (S : StOk X.K σ H1 s M1) (io : ItOk X.K J H1 M1 ow ds) (hp : H1 p = none) (td : dLcL g tt te (wipeD s vs) (wat ow M1) p Qd ds (M1.put p (.lst []))) (g0 : Gw H0 M0 H1 M1) (q : ∀ v H', upE X.K H0 M0 Qd v H' → Q v H') :
    ∃ W : Nat → Nat → Hp → Prop, (∃ m, W 0 m (upd H1 p (.lst []))) ∧ ∀ i m H, W i m H →
      (J.stop i H ∧ Q (.ref p) H) ∨ (J.go i H ∧ ∃ Nx : Hp → Prop, (∀ H', Nx H' → ∃ m', m' < m ∧ W (i + 1) m' H') ∧ ∀ x H', J.yld i H x H' → g1 x (L2.wipe σ vs) H' fun σ2 H2 => L2.wipe σ2 vs = L2.wipe σ vs ∧ liftT X.K E0 tt σ2 H2 fun b H3 =>
        if b = true then liftE X.K E0 te σ2 H3 fun y H4 => ∃ acc, H4 p = some (.lst acc) ∧ acc.length < sizeLine ∧ Nx (upd H4 p (.lst (acc ++ [y]))) else Nx H3) := by
  have ew : ∀ σ2 : L2.St, L2.wipe σ2 vs = L2.wipe (L2.wipe σ vs) vs → L2.wipe σ2 vs = L2.wipe σ vs := fun σ2 e => by rw [e, wipe_wipe]
  have S0 : StOk X.K (L2.wipe σ vs) H1 (wipeD s vs) M1 := S.wipe vs
  have gp : Gw H1 M1 (upd H1 p (.lst [])) (M1.put p (.lst [])) := gw_own hp
  have mp : MOk X.K (upd H1 p (.lst [])) (M1.put p (.lst [])) := mok_own S.mem hp (show MObj X.K (upd H1 p (.lst [])) (M1.put p (.lst [])) p (.lst []) from ⟨[], upd_same, rfl⟩)
  refine ⟨fun i m H => m = ds.length - i ∧ i ≤ ds.length ∧ ∃ M, Gw H1 M1 H M ∧ MOk X.K H M ∧ dLcL g tt te (wipeD s vs) (wat ow M1) p Qd (ds.drop i) M, ⟨ds.length, rfl, Nat.zero_le _, M1.put p (.lst []), gp, mp, td⟩, fun i m H hW => ?_⟩
  obtain ⟨em, hi', M, gM, mo, td'⟩ := hW
  by_cases hlt : i < ds.length
  · rw [List.drop_eq_getElem_cons hlt] at td'
    obtain ⟨hw, td'⟩ := td'
    obtain ⟨hgo, hy⟩ := io.go i H M gM mo (wat_of hw) hlt
    have back : ∀ H2 M2, Gw H1 M1 H2 M2 → MOk X.K H2 M2 → dLcL g tt te (wipeD s vs) (wat ow M1) p Qd (ds.drop (i + 1)) M2 → ∃ m', m' < m ∧ (m' = ds.length - (i + 1) ∧ i + 1 ≤ ds.length ∧ ∃ M, Gw H1 M1 H2 M ∧ MOk X.K H2 M ∧ dLcL g tt te (wipeD s vs) (wat ow M1) p Qd (ds.drop (i + 1)) M) :=
      fun H2 M2 a1 a2 a3 => ⟨ds.length - (i + 1), by omega, rfl, by omega, M2, a1, a2, a3⟩
    refine .inr ⟨hgo, fun H2 => ∃ M2, Gw H1 M1 H2 M2 ∧ MOk X.K H2 M2 ∧ dLcL g tt te (wipeD s vs) (wat ow M1) p Qd (ds.drop (i + 1)) M2, fun H2 ⟨M2, a1, a2, a3⟩ => back H2 M2 a1 a2 a3, fun v H2 hyl => ?_⟩
    obtain ⟨d, hd, g2, m2, r2⟩ := hy v H2 hyl
    have ed : d = ds[i] := by rw [List.getElem?_eq_getElem hlt] at hd; exact (Option.some.inj hd).symm
    subst ed
    have S2 : StOk X.K (L2.wipe σ vs) H2 (wipeD s vs) M := S0.grow (gM.trans g2) m2
    refine q1 S2 x0_to r2 td' fun σ3 H3 ⟨s3, M3, g3, S3, z3⟩ e3 => ⟨ew σ3 e3, ?_⟩
    refine useT S3 x0_to z3 fun bb M4 H4 g4 S4 x4 z4 => ?_
    have gg : Gw H1 M1 H4 M4 := ((gM.trans g2).trans g3).trans g4
    cases bb with
    | false =>
      rw [if_neg Bool.false_ne_true] at z4 ⊢
      exact ⟨M4, gg, S4.mem, z4⟩
    | true =>
      rw [if_pos rfl] at z4 ⊢
      refine useE S4 x4 z4 fun r y M5 H5 g5 S5 x5 r5 z5 => ?_
      unfold accK at z5
      split at z5
      · rename_i acc hacc
        obtain ⟨xs, h1, h2⟩ := S5.mem p _ hacc
        refine ⟨xs, h1, by rw [vlen h2]; exact z5.1, M5.put p (.lst (acc ++ [r])), (gg.trans g5).trans (gw_put hacc), mok_put S5.mem hacc ?_, z5.2⟩
        exact ⟨xs ++ [y], upd_same, Rs.grow (gw_put hacc) _ _ (Rs.append h2 (Rs.cons r5 Rs.nil))⟩
      · exact z5.elim
  · have e : i = ds.length := by omega
    subst e
    rw [List.drop_length] at td'
    obtain ⟨hw, td'⟩ := td'
    refine .inl ⟨io.stop H M gM mo (wat_of hw), ?_⟩
    unfold endK at td'
    split at td'
    · rename_i acc hacc
      obtain ⟨xs, h1, h2⟩ := mo p _ hacc
      have hs : ∀ b o, (M.del p) b = some o → M b = some o := fun b o e => by
        by_cases z : b = p
        · subst z; rw [Mem.del_same] at e; cases e
        · rw [Mem.del_ne z] at e; exact e
      have hn : ∀ b, M b = none → (M.del p) b = none := fun b e => by
        by_cases z : b = p
        · subst z; exact Mem.del_same
        · rw [Mem.del_ne z]; exact e
      exact q _ _ ⟨.lst acc, M.del p, (g0.trans gM).trans (gw_less hn), mok_less hs hn mo, ⟨p, xs, rfl, h1, Mem.del_same, Rs.grow (gw_less hn) _ _ h2⟩, td'⟩
    · exact td'.elim
theorem de_lc {elt iter : Expr} {ifs : List Expr} {scope : Scope} {own : List (Str × Nat)} {ti : TID} {g : TGD} {tt : TTD} (hc : X.calm = true) (hN : X.N.Nodup) (hi : DI X E tg iter ti) (ok : BlkOk X.N X.env.scope scope own) (g1 : TG)
    (hg : ∀ (s : Shared) (H : Hp) (C : Addr) (cl : List (Str × Addr)) (fp : List Addr), PG (X.blk s H scope (compEnvC scope cl C X.env) fp) tg g1)
    (hq : ∀ {v : V} {d : D} {σ : L2.St} {H : Hp} {s : SD} {M : Mem} {Xd : XD} {Qd : SD → Mem → Prop} {Q : L2.St → Hp → Prop}, StOk X.K σ H s M → XTo X.K H M Xd E0 → Rv X.K H M d v → g d Xd s M Qd →
      (∀ σ' H', upS X.K H M Qd σ' H' → L2.wipe σ' (own.map (·.2)) = L2.wipe σ (own.map (·.2)) → Q σ' H') → g1 v σ H Q)
    (ht : ∀ (s : Shared) (H : Hp) (C : Addr) (cl : List (Str × Addr)) (fp : List Addr), DTs (X.blk s H scope (compEnvC scope cl C X.env) fp) E0 ifs tt)
    (he : ∀ (s : Shared) (H : Hp) (C : Addr) (cl : List (Str × Addr)) (fp : List Addr), DE (X.blk s H scope (compEnvC scope cl C X.env) fp) E0 elt te) (hs : ∀ x, foldedSetIterable iter X.env x = pure x := by intro _; rfl) :
    DE X E (.ListComp elt [⟨tg, iter, ifs, 0⟩] scope pos) (dLc ti g tt te (own.map (·.2))) := by
  obtain ⟨wi, pi, qi⟩ := hi.ok
  refine ⟨PE.imp (pe_lc (tt := liftT X.K E0 tt) (te := liftE X.K E0 te) hc hN pi ok hg (fun s H C cl fp => (ht s H C cl fp).ok) (fun s H C cl fp => (he s H C cl fp).ok) hs) fun σ H Q ⟨s, M, Qd, Xd, S, x, t, q⟩ => ?_⟩
  refine qi S x t fun J H1 M1 ow ds gr mo io td p hp => ?_
  exact lift_lc (Y := X) rfl hq (S.grow gr mo) io hp (td p (m_none mo hp)) gr q
theorem ds_setLc {i : Nat} {y : Str} {py spos : Pos} {elt iter : Expr} {ifs : List Expr} {scope : Scope} {own : List (Str × Nat)} {ti : TID} {g : TGD} {tt : TTD} (hc : X.calm = true) (hN : X.N.Nodup) (hy : X.N[i]? = some y) (hyl : X.env.scope.names.lookup y = some .local)
    (hsw : swapsWith (.ListComp elt [⟨tg, iter, ifs, 0⟩] scope pos) (some (.Name y py)) spos.line X.env = pure true) (hi : DI X E tg iter ti) (ok : BlkOk X.N X.env.scope scope own) (g1 : TG)
    (hg : ∀ (s : Shared) (H : Hp) (C : Addr) (cl : List (Str × Addr)) (fp : List Addr), PG (X.blk s H scope (compEnvC scope cl C X.env) fp) tg g1)
    (hq : ∀ {v : V} {d : D} {σ : L2.St} {H : Hp} {s : SD} {M : Mem} {Xd : XD} {Qd : SD → Mem → Prop} {Q : L2.St → Hp → Prop}, StOk X.K σ H s M → XTo X.K H M Xd E0 → Rv X.K H M d v → g d Xd s M Qd →
      (∀ σ' H', upS X.K H M Qd σ' H' → L2.wipe σ' (own.map (·.2)) = L2.wipe σ (own.map (·.2)) → Q σ' H') → g1 v σ H Q)
    (ht : ∀ (s : Shared) (H : Hp) (C : Addr) (cl : List (Str × Addr)) (fp : List Addr), DTs (X.blk s H scope (compEnvC scope cl C X.env) fp) E0 ifs tt)
    (he : ∀ (s : Shared) (H : Hp) (C : Addr) (cl : List (Str × Addr)) (fp : List Addr), DE (X.blk s H scope (compEnvC scope cl C X.env) fp) E0 elt te) (hs : ∀ x, foldedSetIterable iter X.env x = pure x := by intro _; rfl) :
    DS X E (.Assign [.Name y py] (.ListComp elt [⟨tg, iter, ifs, 0⟩] scope pos) spos) (sSet i (dLc ti g tt te (own.map (·.2)))) := by
  obtain ⟨wi, pi, qi⟩ := hi.ok
  refine ⟨PS.imp (ps_setLc (tt := liftT X.K E0 tt) (te := liftE X.K E0 te) hc hN hy hyl hsw pi ok hg (fun s H C cl fp => (ht s H C cl fp).ok) (fun s H C cl fp => (he s H C cl fp).ok) hs) fun Z σ H ⟨s, M, Y, S, x, t, h⟩ => ?_⟩
  refine qi S x t fun J H1 M1 ow ds gr mo io td p hp => ?_
  refine lift_lc (Y := X) (Q := fun v H' => Z.nx (σ.set i (some v)) H') rfl hq (S.grow gr mo) io hp (td p (m_none mo hp)) gr fun v H' ⟨d, M', g, m, r, z⟩ => ?_
  exact h.1 _ _ ⟨s.set i (some d), M', g, (S.grow g m).set i r, z⟩
end
end DL
set_option maxHeartbeats 1000000
namespace DL
open PySem PySem.Spec PyProof.Rows L2
section
variable {X : Cx} {E : XK} {n k : Nat} {x : Str} {p pos : Pos} {e a b c tg o i value : Expr} {es : List Expr} {ts : TAD} {te ta tb td tv : TED}
/-- a, b = x, y with plain local names -/
theorem ds_par {i j : Nat} {x y : Str} {px py pt : Pos} {kt k2 pt2} (hc : X.calm = true) (hN : X.N.Nodup) (hi : X.N[i]? = some x) (hj : X.N[j]? = some y) (hij : i ≠ j)
    (hx : X.env.scope.names.lookup x = some .local) (hy : X.env.scope.names.lookup y = some .local) (ha : DN X E 2 [a, b] ts)
    (hw : swappedStores [.Tuple [.Name x px, .Name y py] kt pt] (.Tuple [a, b] k2 pt2) X.env = pure (some [x, y]))
    (hs : swapsWithSole [.Tuple [.Name x px, .Name y py] kt pt] (.Tuple [a, b] k2 pt2) pos.line X.env = pure false := by rfl) :
    DS X E (.Assign [.Tuple [.Name x px, .Name y py] kt pt] (.Tuple [a, b] k2 pt2) pos) (sPar i j ts) :=
  ⟨PS.imp (ps_par hc hN hi hj hij hx hy ha.ok hw hs) fun Z σ H ⟨s, M, Y, S, x, t, h⟩ => by
    refine useN S x t fun ds vs M1 H1 hl g1 S1 x1 r1 t1 => ?_
    split at t1
    · rename_i d e
      obtain ⟨v, w, rfl, rd, re⟩ := rs2 r1
      exact ⟨v, w, rfl, h.1 _ _ ⟨_, M1, g1, (S1.set i rd).set j re, t1⟩⟩
    · exact t1.elim⟩
/-! ### isinstance -/
def tyO (M : Mem) (d : D) : Option String := match vw M d with
  | .non => some "NoneType"
  | .bl _ => some "bool"
  | .int _ => some "int"
  | .str _ => some "str"
  | .tup _ => some "tuple"
  | .lst _ => some "list"
  | .fzn _ => some "list"
  | .dct _ _ => some "dict"
  | _ => none
theorem ty_of {K : Fg} {H : Hp} {M : Mem} {d : D} {v : V} {T : String} (mo : MOk K H M) (r : Rv K H M d v) (e : tyO M d = some T) : TyX K H v (.type T) := by
  unfold tyO at e
  split at e
  · rename_i h; cases e; rw [vw_non r h]; exact .base .non
  · rename_i b h; cases e; rw [vw_bl r h]; exact .base (.bl b)
  · rename_i b h; cases e; rw [vw_int r h]; exact .base (.int b)
  · rename_i b h; cases e; rw [vw_str r h]; exact .base (.str b)
  · rename_i ds h
    cases e
    obtain ⟨a, xs, rfl, ha, sa⟩ := vw_tup r h
    rcases ha with ⟨h1 | ⟨ob, h1⟩, _⟩ | ⟨ob, its, n, h1, h2, _⟩
    · exact .base (.tup h1)
    · exact .fTuple h1
    · exact .kTuple h1 h2
  · rename_i ds h
    cases e
    obtain ⟨a, xs, rfl, ha, sa⟩ := vw_lst mo r h
    exact .base (.lst ha)
  · rename_i ds h
    cases e
    obtain ⟨a, xs, rfl, ha, sa⟩ := vw_fzn r h
    rcases ha with ⟨h1 | ⟨ob, h1⟩, _⟩ | ⟨ob, its, n, h1, h2, _⟩
    · exact .base (.lst h1)
    · exact .base (.frz h1)
    · exact .kList h1 h2
  · rename_i ks ds h
    cases e
    obtain ⟨a, xs, rfl, ha, _⟩ := vw_dct mo r h
    exact .base (.dK ha)
  · cases e
def isiC : OC := fun ds M Q => match ds with
  | [d, .ty n] => match tyO M d with
    | some T => match kitB T n with
      | some b => Q (.bl b) M
      | none => False
    | none => False
  | _ => False
theorem dc_isi : DC X (.builtin "isinstance") isiC := by
  intro pins s σ H M xs ds us Q Qd I mo r rv t q
  unfold isiC at t
  split at t
  · rename_i d n
    obtain ⟨v, w, rfl, rd, re⟩ := rs2 r
    split at t
    · rename_i T hT
      split at t
      · rename_i b hb
        have ew : w = .ty n := re
        exact call_isi pins s σ H _ us Q I rv ⟨v, w, _, _, b, rfl, by rw [ew]; exact .ty n, ty_of mo rd hT, kit_ty hb, q _ _ (up_same mo t rfl)⟩
      · exact t.elim
    · exact t.elim
  · exact t.elim
/-! ### gcd, lcm -/
def gcdC : OC := fun ds M Q => match ds with
  | [d, e] => match vw M d, vw M e with
    | .int i, .int j => Q (.int ((Nat.gcd i.natAbs j.natAbs : Nat) : Int)) M
    | _, _ => False
  | _ => False
theorem dc_gcd : DC X (.builtin "math.gcd") gcdC := by
  intro pins s σ H M xs ds us Q Qd I mo r rv t q
  unfold gcdC at t
  split at t
  · rename_i d e
    obtain ⟨v, w, rfl, rd, re⟩ := rs2 r
    split at t
    · rename_i i j h1 h2
      exact cr_gcd pins s σ H _ us Q I rv ⟨i, j, by rw [vw_int rd h1, vw_int re h2], q _ _ (up_same mo t rfl)⟩
    · exact t.elim
  · exact t.elim
def lcmC : OC := fun ds M Q => match ds with
  | [d, e] => match vw M d, vw M e with
    | .int i, .int j => (i.natAbs < 2 ^ 64 ∧ j.natAbs < 2 ^ 64) ∧ Q (.int ((Nat.lcm i.natAbs j.natAbs : Nat) : Int)) M
    | _, _ => False
  | _ => False
theorem dc_lcm : DC X (.builtin "math.lcm") lcmC := by
  intro pins s σ H M xs ds us Q Qd I mo r rv t q
  unfold lcmC at t
  split at t
  · rename_i d e
    obtain ⟨v, w, rfl, rd, re⟩ := rs2 r
    split at t
    · rename_i i j h1 h2
      obtain ⟨u1, u2, rfl, ⟨t1, rfl⟩, ⟨t2, rfl⟩⟩ := vals2 (show Vals [V.int i, V.int j] us by rw [← vw_int rd h1, ← vw_int re h2]; exact rv)
      exact PySem.W.mc_lcm t.1.1 t.1.2 fun _ => ⟨.int _, H, I.tok _, ⟨_, rfl⟩, q _ _ (up_same mo t.2 rfl)⟩
    · exact t.elim
  · exact t.elim
/-- a module's name for a built-in function -/
theorem de_callF {id : String} {oc : OC} (hc : DC X (.builtin id) oc) (hg : Gl X x) (hm : X.mg x = some (.builtin id)) (ha : DN X E n (e :: es) ts) (hdb : (x == ("__debug__" : Str)) = false := by decide)
    (he : starEach (e :: es) X.env = (false, eval e X.env) :: starEach es X.env := by rfl) (hpl : (backTo pos (starEach es X.env)).any (·.1) = false := by rfl) : DE X E (.Call (.Name x p) (e :: es) [] pos) (dCB oc ts) :=
  ⟨PE.imp (pe_callBfun hc.toR hg hm ha.ok hdb he hpl) fun σ H Q z => liftCB z⟩
/-! ### sum, max, min of ints -/
def lstO (M : Mem) (d : D) : Option (List D) := match vw M d with
  | .lst ds => some ds
  | .fzn ds => some ds
  | _ => none
theorem lst_of {K : Fg} {H : Hp} {M : Mem} {d : D} {ds : List D} {v : V} (mo : MOk K H M) (r : Rv K H M d v) (e : lstO M d = some ds) : ∃ a xs, v = .ref a ∧ SqL K H a xs ∧ Rs K H M ds xs := by
  unfold lstO at e
  split at e
  · rename_i es h
    cases e
    obtain ⟨a, ys, rfl, ha, sa⟩ := vw_lst mo r h
    exact ⟨a, ys, rfl, SqL.of ha, sa⟩
  · rename_i es h
    cases e
    obtain ⟨a, ys, rfl, ha, sa⟩ := vw_fzn r h
    exact ⟨a, ys, rfl, ha.sq, sa⟩
  · cases e
/-! ### in -/
end
end DL
set_option maxHeartbeats 1000000
namespace DL
open PySem PySem.Spec PyProof.Rows L2
section
variable {X : Cx} {E : XK} {n k : Nat} {x : Str} {p pos p2 pos' : Pos} {e a b c tg o i value : Expr} {es : List Expr} {ts : TAD} {te ta tb td tv : TED}
/-! ### slices -/
abbrev TOD := XD → SD → Mem → (Option Int → Mem → Prop) → Prop
structure DO (X : Cx) (E : XK) (e : Option Expr) (t : TOD) : Prop where
  ok : PO X e (fun σ H Q => ∃ s M Qd Xd, StOk X.K σ H s M ∧ XTo X.K H M Xd E ∧ t Xd s M Qd ∧ ∀ l H', (∃ M', Gw H M H' M' ∧ MOk X.K H' M' ∧ Qd l M') → Q l H')
def oNo : TOD := fun _ _ M Q => Q none M
def oSoK (Q : Option Int → Mem → Prop) : QD := fun d M => match vw M d with
  | .int i => Q (some i) M
  | _ => False
def oSo (te : TED) : TOD := fun Xd s M Q => te Xd s M (oSoK Q)
theorem PO.imp {eo : Option Expr} {t t' : TO} (h : PO X eo t) (i : ∀ σ H Q, t' σ H Q → t σ H Q) : PO X eo t' := ⟨fun pins s σ H Q I q => h.run pins s σ H Q I (i σ H Q q)⟩
theorem do_none : DO X E none oNo := ⟨PO.imp po_none fun σ H Q ⟨s, M, Qd, Xd, S, x, t, q⟩ => q none H ⟨M, Gw.refl, S.mem, t⟩⟩
theorem do_some (h : DE X E e te) : DO X E (some e) (oSo te) := ⟨PO.imp (po_some h.ok) fun σ H Q ⟨s, M, Qd, Xd, S, x, t, q⟩ => by
  refine useE S x t fun d v M1 H1 g1 S1 x1 r1 t1 => ?_
  unfold oSoK at t1
  split at t1
  · rename_i i h
    exact ⟨i, vw_int r1 h, q (some i) H1 ⟨M1, g1, S1.mem, t1⟩⟩
  · exact t1.elim⟩
def cutD {α : Type} (xs : List α) (lo hi : Option Int) : List α := (xs.drop (HT.sIx xs.length 0 lo)).take (HT.sIx xs.length xs.length hi - HT.sIx xs.length 0 lo)
theorem rs_cut {K : Fg} {H : Hp} {M : Mem} {ds : List D} {xs : List V} (r : Rs K H M ds xs) (lo hi : Option Int) : Rs K H M (cutD ds lo hi) (cutV xs lo hi) := by
  unfold cutD cutV
  rw [vlen r]
  exact Rs.take _ (Rs.drop _ r)
def slO (M : Mem) (d : D) (lo hi : Option Int) : Option D := match vw M d with
  | .tup ds => some (.tup (cutD ds lo hi))
  | .lst ds => some (.lst (cutD ds lo hi))
  | .fzn ds => some (.lst (cutD ds lo hi))
  | _ => none
def slK (l u : Option Int) (d : D) (Q : QD) : Mem → Prop := fun M => match slO M d l u with
  | some r => Q r M
  | none => False
def dSl (te : TED) (tl tu : TOD) : TED := fun Xd s M Q => te Xd s M fun d M1 => tl Xd s M1 fun l M2 => tu Xd s M2 fun u M3 => slK l u d Q M3
theorem de_sl {lo hi : Option Expr} {tl tu : TOD} (he : DE X E e te) (hl : DO X E lo tl) (hu : DO X E hi tu) : DE X E (.Subscript e (.Slice lo hi none p2) pos) (dSl te tl tu) :=
  ⟨PE.imp (pe_slice (sl_list.or sl_tupA) he.ok hl.ok hu.ok) fun σ H Q ⟨s, M, Qd, Xd, S, x, t, q⟩ => by
    refine useE S x t fun d v M1 H1 g1 S1 x1 r1 t1 => ?_
    refine ⟨s, M1, _, Xd, S1, x1, t1, fun l H2 ⟨M2, g2, m2, t2⟩ => ?_⟩
    refine ⟨s, M2, _, Xd, S1.grow g2 m2, x1.grow g2, t2, fun u H3 ⟨M3, g3, m3, t3⟩ => ?_⟩
    have r3 : Rv X.K H3 M3 d v := Rv.grow g3 _ _ (Rv.grow g2 _ _ r1)
    have gg := (g1.trans g2).trans g3
    unfold slK at t3
    split at t3
    · rename_i r hr
      unfold slO at hr
      split at hr
      · rename_i ds h
        cases hr
        obtain ⟨p, ys, rfl, ha, sa⟩ := vw_tup r3 h
        refine .inr ⟨p, ys, rfl, ha.sq, fun hw => ?_, fun _ pp hl => q _ _ ⟨_, M3, gg.trans (gw_new hl), mok_new m3 hl, new_tup m3 hl (rs_cut sa l u), t3⟩⟩
        have e : cutD ds l u = ds := by
          unfold cutD
          rw [vlen sa] at hw
          rw [hw.1, hw.2, List.drop_zero, Nat.sub_zero, List.take_length]
        rw [e] at t3
        exact q _ _ ⟨.tup ds, M3, gg, m3, ⟨p, ys, rfl, ha, sa⟩, t3⟩
      · rename_i ds h
        cases hr
        obtain ⟨p, ys, rfl, ha, sa⟩ := vw_lst m3 r3 h
        exact .inl ⟨p, ys, rfl, SqL.of ha, fun pp hl => q _ _ ⟨_, M3, gg.trans (gw_new hl), mok_new m3 hl, new_lst m3 hl (rs_cut sa l u), t3⟩⟩
      · rename_i ds h
        cases hr
        obtain ⟨p, ys, rfl, ha, sa⟩ := vw_fzn r3 h
        exact .inl ⟨p, ys, rfl, ha.sq, fun pp hl => q _ _ ⟨_, M3, gg.trans (gw_new hl), mok_new m3 hl, new_lst m3 hl (rs_cut sa l u), t3⟩⟩
      · cases hr
    · exact t3.elim⟩
/-! ### dicts that are changed -/
/-- a key put, at its place or at the end -/
def putD : List Key → List D → Key → D → List Key × List D
  | [], [], k, v => ([k], [v])
  | j :: ks, d :: ds, k, v => if j = k then (j :: ks, v :: ds) else ((j :: (putD ks ds k v).1), (d :: (putD ks ds k v).2))
  | ks, ds, k, v => (ks, ds)
theorem putK_cons {p : Key × V} {r : List (Key × V)} {k : Key} {v : V} (hn : ¬ p.1 = k) : putK (p :: r) k v = p :: putK r k v := by
  unfold putK
  rw [List.any_cons, show decide (p.1 = k) = false from decide_eq_false hn, Bool.false_or]
  by_cases ha : (r.any fun kv => decide (kv.1 = k)) = true
  · rw [if_pos ha, if_pos ha, List.map_cons, if_neg hn]
  · rw [if_neg ha, if_neg ha]; rfl
theorem putK_head {p : Key × V} {r : List (Key × V)} {k : Key} {v : V} (hp : p.1 = k) (hr : ∀ q ∈ r, ¬ q.1 = k) : putK (p :: r) k v = (k, v) :: r := by
  unfold putK
  rw [List.any_cons, show decide (p.1 = k) = true from decide_eq_true hp, Bool.true_or, if_pos rfl, List.map_cons, if_pos hp, hp]
  congr 1
  have : ∀ l : List (Key × V), (∀ q ∈ l, ¬ q.1 = k) → (l.map fun kv => if kv.1 = k then (kv.1, v) else kv) = l := by
    intro l
    induction l with
    | nil => intro _; rfl
    | cons q r ih =>
      intro h
      rw [List.map_cons, if_neg (h q List.mem_cons_self), ih fun z hz => h z (List.mem_cons_of_mem _ hz)]
  exact this r hr
theorem put_rs {K : Fg} {H : Hp} {M : Mem} {k : Key} {d : D} {v : V} (rv : Rv K H M d v) : ∀ {ks : List Key} {ds : List D} {xs : List V}, ks.Nodup → ks.length = ds.length → Rs K H M ds xs →
    ∃ ys, Rs K H M (putD ks ds k d).2 ys ∧ putK (ks.zip xs) k v = (putD ks ds k d).1.zip ys ∧ (putD ks ds k d).1.length = (putD ks ds k d).2.length
  | [], [], xs, _, _, r => by
    have e : xs = [] := r
    subst e
    exact ⟨[v], Rs.cons rv Rs.nil, rfl, rfl⟩
  | [], _ :: _, _, _, hl, _ => by simp at hl
  | _ :: _, [], _, _, hl, _ => by simp at hl
  | j :: ks, d0 :: ds, _, nd, hl, ⟨v0, rr, rfl, h, q⟩ => by
    have nd' := List.nodup_cons.mp nd
    by_cases hj : j = k
    · have e1 : putD (j :: ks) (d0 :: ds) k d = (j :: ks, d :: ds) := by show (if j = k then _ else _) = _; rw [if_pos hj]
      rw [e1]
      refine ⟨v :: rr, Rs.cons rv q, ?_, hl⟩
      rw [List.zip_cons_cons, List.zip_cons_cons, putK_head hj (fun z hz e => ?_), hj]
      have : z.1 ∈ ks := (List.of_mem_zip (show (z.1, z.2) ∈ ks.zip rr from hz)).1
      rw [e, ← hj] at this
      exact nd'.1 this
    · have e1 : putD (j :: ks) (d0 :: ds) k d = ((j :: (putD ks ds k d).1), (d0 :: (putD ks ds k d).2)) := by show (if j = k then _ else _) = _; rw [if_neg hj]
      obtain ⟨ys, h1, h2, h3⟩ := put_rs rv nd'.2 (by simpa using hl) q
      rw [e1]
      refine ⟨v0 :: ys, Rs.cons h h1, ?_, by simp [h3]⟩
      rw [List.zip_cons_cons, putK_cons hj, h2, List.zip_cons_cons]
/-- o[i] = v -/
def setK (o i v : D) (k : Mem → Prop) : Mem → Prop := fun M => match o with
  | .ref a => match M a with
    | some (.lst ds) => match i with
      | .int z => match ixN ds.length z with
        | some j => k (M.put a (.lst (ds.set j v)))
        | none => False
      | _ => False
    | some (.dct ks ds) => match keyD i with
      | some key => (ks.Nodup ∧ ks.length < 1000) ∧ k (M.put a (.dct (putD ks ds key v).1 (putD ks ds key v).2))
      | none => False
    | _ => False
  | _ => False
def rSetA : V → V → V → Hp → (Hp → Prop) → Prop := fun o i v H Q => rSetL o i v H Q ∨ ∃ a H', o = .ref a ∧ DPut H a i v H' ∧ Q H'
theorem set_any (hu : X.A.units + 1 < cLine) : PSet X rSetA := by
  intro pins s σ H o i v ov iv u Q I ro ri rv h
  rcases h with h | ⟨a, H', rfl, g, q⟩
  · exact set_list pins s σ H o i v ov iv u Q I ro ri rv h
  · obtain rfl : ov = Value.ref a := ro
    exact d_setItem hu I g ri rv fun s4 I4 => ⟨H', I4, q⟩
theorem setK_ok {H H0 : Hp} {M M0 : Mem} {do_ di dv : D} {o i v : V} {k : Mem → Prop} {Q : Hp → Prop} (mo : MOk X.K H M) (ro : Rv X.K H M do_ o) (ri : Rv X.K H M di i) (rv : Rv X.K H M dv v) (t : setK do_ di dv k M)
    (q : ∀ H' M', Gw H M H' M' → MOk X.K H' M' → k M' → Q H') : rSetA o i v H Q := by
  unfold setK at t
  split at t
  · rename_i a
    have eo : o = .ref a := ro
    split at t
    · rename_i ds hm
      split at t
      · rename_i z
        split at t
        · rename_i j hj
          obtain ⟨xs, h1, h2⟩ := mo a _ hm
          refine .inl ⟨a, xs, z, j, eo, ri, h1, by rw [vlen h2]; exact hj, q (upd H a (.lst (xs.set j v))) (M.put a (.lst (ds.set j dv))) (gw_put hm) (mok_put mo hm ⟨xs.set j v, upd_same, Rs.grow (gw_put hm) _ _ (Rs.set rv j h2)⟩) t⟩
        · exact t.elim
      · exact t.elim
    · rename_i ks ds hm
      split at t
      · rename_i key hk
        obtain ⟨xs, h1, h3, h2⟩ := mo a _ hm
        obtain ⟨ys, e1, e2, e3⟩ := put_rs (k := key) rv t.1.1 h3 h2
        have hlen : (ks.zip xs).length < sizeLine := by
          rw [List.length_zip, sizeLine_eq]
          have := t.1.2
          omega
        refine .inr ⟨a, _, eo, ?_, q (upd H a (.dK ((putD ks ds key dv).1.zip ys))) (M.put a (.dct (putD ks ds key dv).1 (putD ks ds key dv).2)) (gw_put hm) (mok_put mo hm ⟨ys, upd_same, e3, Rs.grow (gw_put hm) _ _ e1⟩) t.2⟩
        rw [key_of_d ri hk, ← e2]
        exact DPut.k h1 hlen
      · exact t.elim
    · exact t.elim
  · exact t.elim
def gSb (to ti : TED) : TGD := fun d Xd s M Q => to Xd s M fun o M1 => ti Xd s M1 fun i M2 => setK o i d (fun M3 => Q s M3) M2
theorem dg_sub {to ti : TED} (hu : X.A.units + 1 < cLine) (ho : DE X E o to) (hi : DE X E i ti)
    (ha : ∀ v, assign (.Subscript o i pos) X.env v = (do
      let ov ← holding [v] (eval o X.env)
      let iv ← holding [v, ov] (eval i X.env)
      standAt pos
      holding [v, ov, iv] (setItem ov iv v)
      release [v, ov, iv] []) := by intro _; rfl) : DG X E (.Subscript o i pos) (gSb to ti) := by
  refine ⟨_, pg_sub ho.ok hi.ok (set_any hu) ha, fun {v d σ H s M Xd Qd Q} S x r t q => ?_⟩
  refine useE S x t fun od ov M1 H1 g1 S1 x1 r1 t1 => ?_
  refine useE S1 x1 t1 fun di iv M2 H2 g2 S2 x2 r2 t2 => ?_
  exact setK_ok (H0 := H) (M0 := M) S2.mem (Rv.grow g2 _ _ r1) r2 (Rv.grow g2 _ _ (Rv.grow g1 _ _ r)) t2 fun H3 M3 g3 m3 t3 => q _ _ ⟨s, M3, (g1.trans g2).trans g3, S2.grow g3 m3, t3⟩
/-- {k: v, ..}, changed later -/
def dPairs : List (Key × TED) → XD → SD → Mem → (List D → Mem → Prop) → Prop
  | [], _, _, M, Q => Q [] M
  | (_, t) :: r, Xd, s, M, Q => t Xd s M fun d M1 => dPairs r Xd s M1 fun ds M2 => Q (d :: ds) M2
def dDct (trs : List (Key × TED)) : TED := fun Xd s M Q => ∀ p, M p = none → dPairs trs Xd s (M.put p (.dct [] [])) fun ds M1 => M1 p = some (.dct [] []) ∧ Q (.ref p) (M1.put p (.dct (trs.map (·.1)) ds))
inductive DPs (X : Cx) (E : XK) (pos : Pos) : List (Option Expr) → List Expr → List (Key × TED) → List (TE × TE) → Prop
  | nil : DPs X E pos [] [] [] []
  | str {x : Str} {j : Nat} {p : Pos} {v : Expr} {t : TED} {ks : List (Option Expr)} {vs : List Expr} {r : List (Key × TED)} {q : List (TE × TE)} (hv : DE X E v t) (h : DPs X E pos ks vs r q) :
      DPs X E pos (some (.Constant (.str x) j p) :: ks) (v :: vs) ((.inr x, t) :: r) ((tC (.str x), liftE X.K E t) :: q)
theorem DPs.pps {ks : List (Option Expr)} {vs : List Expr} {r : List (Key × TED)} {q : List (TE × TE)} (h : DPs X E pos ks vs r q) : PPs X pos ks vs q := by
  induction h with
  | nil => exact pps_nil
  | str hv _ ih => exact pps_cons pe_str hv.ok ih
theorem DPs.lift {ks : List (Option Expr)} {vs : List Expr} {r : List (Key × TED)} {qs : List (TE × TE)} (h : DPs X E pos ks vs r qs) : ∀ {σ : L2.St} {H : Hp} {s : SD} {M : Mem} {Xd : XD} {Qd : List D → Mem → Prop} {Q : List (V × V) → Hp → Prop},
    StOk X.K σ H s M → XTo X.K H M Xd E → dPairs r Xd s M Qd → (∀ ds xs M' H', ds.length = r.length → Gw H M H' M' → StOk X.K σ H' s M' → Rs X.K H' M' ds xs → Qd ds M' → Q (((r.map (·.1)).zip xs).map fun kv => (kV kv.1, kv.2)) H') → tPairs qs σ H Q := by
  induction h with
  | nil =>
    intro σ H s M Xd Qd Q S x t q
    exact q [] [] M H rfl Gw.refl S rfl t
  | @str y j p v tt ks vs r qs hv _ ih =>
    intro σ H s M Xd Qd Q S x t q
    show tPairs ((tC (.str y), liftE X.K E tt) :: qs) σ H Q
    refine useE S x t fun d w M1 H1 g1 S1 x1 r1 t1 => ?_
    refine ih S1 x1 t1 fun ds xs M2 H2 e1 g2 S2 r2 t2 => ?_
    exact q (d :: ds) (w :: xs) M2 H2 (by simp [e1]) (g1.trans g2) S2 (Rs.cons (Rv.grow g2 _ _ r1) r2) t2
theorem merge_nodup : ∀ {more acc : List (Key × V)}, ((acc ++ more).map (·.1)).Nodup → mergeK acc more = acc ++ more
  | [], acc, _ => by show acc = acc ++ []; rw [List.append_nil]
  | p :: r, acc, nd => by
    have hn : valV acc p.1 = none := by
      cases e : valV acc p.1 with
      | none => rfl
      | some v =>
        exfalso
        unfold valV at e
        rw [Option.map_eq_some_iff] at e
        obtain ⟨kv, h1, _⟩ := e
        have hm := List.mem_of_find?_eq_some h1
        have hk : kv.1 = p.1 := by simpa using List.find?_some h1
        rw [List.map_append, List.map_cons] at nd
        have := (List.nodup_append.mp nd).2.2 kv.1 (List.mem_map.mpr ⟨kv, hm, rfl⟩) p.1 List.mem_cons_self
        exact this hk
    show mergeK (putK acc p.1 p.2) r = _
    rw [putK_new p.2 hn, merge_nodup (by rw [List.append_assoc]; exact nd), List.append_assoc]; rfl
theorem de_dct {keys : List (Option Expr)} {values : List Expr} {trs : List (Key × TED)} {qs : List (TE × TE)} (h : DPs X E pos keys values trs qs) (hall : keys.all (·.isSome) = true) (hl : keys.length = values.length) (h0 : keys ≠ []) (h15 : keys.length ≤ 15) (ht : trs.length ≤ 15)
    (nd : (trs.map (·.1)).Nodup) : DE X E (.Dict keys values pos) (dDct trs) :=
  ⟨PE.imp (pe_disp h.pps hall hl h0 h15) fun σ H Q ⟨s, M, Qd, Xd, S, x, t, q⟩ => fun p hp => by
    have t1 := t p (m_none S.mem hp)
    have gp : Gw H M (upd H p (.dK [])) (M.put p (.dct [] [])) := gw_own hp
    have mp : MOk X.K (upd H p (.dK [])) (M.put p (.dct [] [])) := mok_own S.mem hp (show MObj X.K (upd H p (.dK [])) (M.put p (.dct [] [])) p (.dct [] []) from ⟨[], upd_same, rfl, rfl⟩)
    refine h.lift (S.grow gp mp) (x.grow gp) t1 fun ds xs M2 H2 e1 g2 S2 r2 t2 => ?_
    obtain ⟨hm, t2⟩ := t2
    obtain ⟨ys, h1, _, h2⟩ := S2.mem p _ hm
    have e2 : (trs.map (·.1)).length = ds.length := by rw [List.length_map, e1]
    refine ⟨h1, (trs.map (·.1)).zip xs, rfl, ?_, ?_⟩
    · rw [List.length_zip, List.length_map]; omega
    · have hz : mergeK [] ((trs.map (·.1)).zip xs) = (trs.map (·.1)).zip xs := by
        rw [merge_nodup, List.nil_append]
        rw [List.nil_append, List.map_fst_zip (by rw [vlen r2, e2]; exact Nat.le_refl _)]
        exact nd
      rw [hz]
      exact q _ _ ⟨.ref p, M2.put p (.dct (trs.map (·.1)) ds), (gp.trans g2).trans (gw_put hm), mok_put S2.mem hm ⟨xs, upd_same, e2, Rs.grow (gw_put hm) _ _ r2⟩, rfl, t2⟩⟩
end
end DL
set_option maxHeartbeats 1000000
namespace DL
open PySem PySem.Spec PyProof.Rows L2
section
variable {X : Cx} {E : XK} {n k : Nat} {x : Str} {p pos p2 pos' apos : Pos} {e a b c tg o i value : Expr} {es : List Expr} {ts : TAD} {te ta tb td tv to : TED}
/-! ### append -/
def appK (d : D) (Q : QD) (p : Addr) : Mem → Prop := fun M => match M p with
  | some (.lst ds) => ds.length < sizeLine ∧ Q .non (M.put p (.lst (ds ++ [d])))
  | _ => False
def dApp (to te : TED) : TED := fun Xd s M Q => to Xd s M fun o M1 => match o with
  | .ref p => match M1 p with
    | some (.lst _) => te Xd s M1 fun d M2 => appK d Q p M2
    | _ => False
  | _ => False
theorem de_app (ho : DE X E o to) (he : DE X E e te) (hbase : attributeBase o "append" X.env (eval o X.env) = eval o X.env := by rfl)
    (hfew : ((backTo pos (starEach (e :: []) X.env)).all (fun x => !x.1) && (backToKw pos (keywordEach [] X.env)).all (fun x => x.1.isSome)
      && decide ((e :: []).length + ([] : List Keyword).length + (if ([] : List Keyword).isEmpty then 0 else 1) < 30)) = true := by rfl)
    (hline : (apos.endLine == pos.line) = true := by rfl) (hs : starEach (e :: []) X.env = (false, eval e X.env) :: starEach [] X.env := by rfl) : DE X E (.Call (.Attribute o "append" apos) [e] [] pos) (dApp to te) :=
  ⟨PE.imp (pe_bm PySem.F.plainAttrs_list PySem.F.slot_list_append PySem.F.type_list_append mt_append ho.ok (pa_cons he.ok pa_nil hs) hbase hfew hline hs (by rfl)) fun σ H Q ⟨s, M, Qd, Xd, S, x, t, q⟩ => by
    refine useE S x t fun od v M1 H1 g1 S1 x1 r1 t1 => ?_
    split at t1
    · rename_i l
      have ev : v = .ref l := r1
      split at t1
      · rename_i ds hm
        obtain ⟨xs, h1, h2⟩ := S1.mem l _ hm
        subst ev
        refine ⟨.inl ⟨rfl, xs, SqL.of h1⟩, ?_⟩
        refine useE S1 x1 t1 fun d w M2 H2 g2 S2 x2 r2 t2 => ?_
        unfold appK at t2
        split at t2
        · rename_i es he2
          obtain ⟨ys, h3, h4⟩ := S2.mem l _ he2
          refine ⟨l, ys, w, rfl, rfl, h3, by rw [vlen h4]; exact t2.1, q _ _ ⟨.non, M2.put l (.lst (es ++ [d])), (g1.trans g2).trans (gw_put he2), mok_put S2.mem he2 ⟨ys ++ [w], upd_same, Rs.grow (gw_put he2) _ _ (Rs.append h4 (Rs.cons r2 Rs.nil))⟩, rfl, t2.2⟩⟩
        · exact t2.elim
      · exact t1.elim
    · exact t1.elim⟩
/-! ### an empty dict -/
def dDctN : TED := fun _ _ M Q => ∀ p, M p = none → Q (.ref p) (M.put p (.dct [] []))
/-! ### xs[::-1] of a list -/
def revK (Q : QD) : QD := fun d M => match lstO M d with
  | some ds => Q (.lst ds.reverse) M
  | none => False
def dRev (te : TED) : TED := fun Xd s M Q => te Xd s M (revK Q)
theorem de_rev {j : Nat} {p1 p2 p3 : Pos} (he : DE X E e te) : DE X E (.Subscript e (.Slice none none (some (.UnaryOp .USub (.Constant (.int 1) j p1) p2)) p3) pos) (dRev te) :=
  ⟨PE.imp (pe_revL he.ok) fun σ H Q ⟨s, M, Qd, Xd, S, x, t, q⟩ => by
    refine useE S x t fun d v M1 H1 g1 S1 x1 r1 t1 => ?_
    unfold revK at t1
    split at t1
    · rename_i ds hd
      obtain ⟨a, xs, rfl, ha, sa⟩ := lst_of S1.mem r1 hd
      exact ⟨a, xs, rfl, ha, fun l hl => q _ _ ⟨_, M1, g1.trans (gw_new hl), mok_new S1.mem hl, new_lst S1.mem hl (Rs.reverse sa), t1⟩⟩
    · exact t1.elim⟩
/-! ### ranges as values -/
structure DR (X : Cx) (E : XK) (e : Expr) (t : XD → SD → Mem → (Int → Int → Mem → Prop) → Prop) : Prop where
  ok : PRg X e (fun σ H Q => ∃ s M Qd Xd, StOk X.K σ H s M ∧ XTo X.K H M Xd E ∧ t Xd s M Qd ∧ ∀ i j H', (∃ M', Gw H M H' M' ∧ MOk X.K H' M' ∧ Qd i j M') → Q i j H')
theorem PRg.imp {t t' : L2.St → Hp → (Int → Int → Hp → Prop) → Prop} (h : PRg X e t) (i : ∀ σ H Q, t' σ H Q → t σ H Q) : PRg X e t' := fun pins s σ H Q I q => h pins s σ H Q I (i σ H Q q)
def rg1K (Q : Int → Int → Mem → Prop) : QD := fun d M => match d with
  | .int n => Q 0 n M
  | _ => False
def rg1 (te : TED) : XD → SD → Mem → (Int → Int → Mem → Prop) → Prop := fun Xd s M Q => te Xd s M (rg1K Q)
theorem dr_1 (hg : Gl X "range") (hm : X.mg "range" = none) (ha : DE X E a ta) (na : starEach [a] X.env = (false, eval a X.env) :: starEach [] X.env := by rfl) : DR X E (.Call (.Name "range" p) [a] [] pos) (rg1 ta) :=
  ⟨PRg.imp (prg_1 hg hm ha.ok na) fun σ H Q ⟨s, M, Qd, Xd, S, x, t, q⟩ => by
    refine useE S x t fun d v M1 H1 g1 S1 x1 r1 t1 => ?_
    unfold rg1K at t1
    split at t1
    · rename_i n
      exact ⟨n, r1, q 0 n H1 ⟨M1, g1, S1.mem, t1⟩⟩
    · exact t1.elim⟩
def dLstRg (t : XD → SD → Mem → (Int → Int → Mem → Prop) → Prop) : TED := fun Xd s M Q => t Xd s M fun i j M1 => RgOk i j ∧ Q (.lst (rngL i (j - i).toNat)) M1
def iRevD (t : XD → SD → Mem → (Int → Int → Mem → Prop) → Prop) : TID := fun Xd s M R => t Xd s M fun i j M1 => (-(2 ^ 62) ≤ i ∧ i < 2 ^ 62 ∧ -(2 ^ 62) ≤ j ∧ j < 2 ^ 62) ∧ R (rngL i (j - i).toNat).reverse none M1
theorem rev_rng (i : Int) (n : Nat) : (rngL i n).reverse = (List.range n).map fun k => D.int (i + (n : Int) - 1 + (k : Nat) * (-1)) := by
  apply List.ext_getElem?
  intro k
  unfold rngL
  rw [List.getElem?_map]
  by_cases hk : k < n
  · rw [List.getElem?_reverse (by simpa using hk), List.getElem?_map, List.length_map, List.length_range, List.getElem?_range (by omega), List.getElem?_range hk]
    simp only [Option.map_some]
    congr 2
    omega
  · rw [List.getElem?_eq_none (by simpa using hk), List.getElem?_eq_none (by simpa using hk)]; rfl
theorem di_revR {t : XD → SD → Mem → (Int → Int → Mem → Prop) → Prop} (hg : Gl X "reversed") (hm : X.mg "reversed" = none) (he : DR X E e t) (hs : starEach [e] X.env = (false, eval e X.env) :: starEach [] X.env := by rfl) : DI X E tg (.Call (.Name "reversed" p) [e] [] pos) (iRevD t) := by
  refine ⟨_, pi_revR hg hm he.ok hs, fun {σ H s M Xd Qd R} S x t q => ?_⟩
  refine ⟨s, M, _, Xd, S, x, t, fun i j H1 ⟨M1, g1, m1, t1⟩ => ⟨t1.1.1, t1.1.2.1, t1.1.2.2.1, t1.1.2.2.2, q _ _ _ _ _ g1 m1 ?_ t1.2⟩⟩
  rw [rev_rng]
  exact ItOk.rng
/-! ### repr -/
end
end DL
set_option maxHeartbeats 1000000
namespace DL
open PySem PySem.Spec PyProof.Rows L2
/-! ### targets of clauses, by place -/
def GV (K : Fg) (vs : List Nat) (g : TGD) (g1 : TG) : Prop := ∀ {v : V} {d : D} {σ : L2.St} {H : Hp} {s : SD} {M : Mem} {Xd : XD} {Qd : SD → Mem → Prop} {Q : L2.St → Hp → Prop}, StOk K σ H s M → XTo K H M Xd E0 → Rv K H M d v → g d Xd s M Qd →
  (∀ σ' H', upS K H M Qd σ' H' → L2.wipe σ' vs = L2.wipe σ vs → Q σ' H') → g1 v σ H Q
def GVs (K : Fg) (vs : List Nat) (g : TGsD) (g1 : TGs) : Prop := ∀ {ws : List V} {ds : List D} {σ : L2.St} {H : Hp} {s : SD} {M : Mem} {Xd : XD} {Qd : SD → Mem → Prop} {Q : L2.St → Hp → Prop}, StOk K σ H s M → XTo K H M Xd E0 → Rs K H M ds ws → g ds Xd s M Qd →
  (∀ σ' H', upS K H M Qd σ' H' → L2.wipe σ' vs = L2.wipe σ vs → Q σ' H') → g1 ws σ H Q
section
variable {K : Fg} {vs : List Nat}
theorem gv_name {i : Nat} (h : i ∈ vs) : GV K vs (gNm i) (gName i) := fun S x r t q => q _ _ ⟨_, _, Gw.refl, S.set i r, t⟩ (wipe_set h)
theorem gvs_nil : GVs K vs gNi gNil := fun {ws ds σ H s M Xd Qd Q} S x r t q => by
  cases ds with
  | nil => exact ⟨r, q _ _ (upS_here S t) rfl⟩
  | cons d ds => exact t.elim
theorem gvs_cons {t : TGD} {u : TGsD} {g1 : TG} {g2 : TGs} (h1 : GV K vs t g1) (h2 : GVs K vs u g2) : GVs K vs (gCo t u) (gCons g1 g2) := fun {ws ds σ H s M Xd Qd Q} S x r t q => by
  cases ds with
  | nil => exact t.elim
  | cons d ds =>
    obtain ⟨v, vr, rfl, rd, rr⟩ := r
    refine ⟨v, vr, rfl, h1 S x rd t fun σ' H' ⟨s', M', g, S', z⟩ ew => ?_⟩
    exact h2 S' (x.grow g) (Rs.grow g _ _ rr) z fun σ2 H2 hu e2 => q σ2 H2 (fwdS (Q := fun a b => upS K H M Qd a b) g (fun _ _ c => c) σ2 H2 hu) (e2.trans ew)
theorem gv_tup {n : Nat} {t : TGsD} {g1 : TGs} (h : GVs K vs t g1) : GV K vs (gTp n t) (gTup K n g1) := fun {v d σ H s M Xd Qd Q} S x r t q => by
  unfold gTp at t
  split at t
  · rename_i ds hd
    obtain ⟨a, xs, rfl, ha, sa⟩ := vw_tup r hd
    exact ⟨a, xs, rfl, ha.sq, by rw [vlen sa]; exact t.1, h S x sa t.2 q⟩
  · exact t.elim
end
section
variable {X : Cx} {E : XK} {pos : Pos} {tg : Expr} {te : TED}
theorem de_comp {elt iter : Expr} {ifs : List Expr} {scope : Scope} (own : List (Str × Nat)) {ti : TID} {g : TGD} {tt : TTD} (g1 : TG) (hc : X.calm = true) (hN : X.N.Nodup) (hi : DI X E tg iter ti) (ok : BlkOk X.N X.env.scope scope own)
    (hg : ∀ (s : Shared) (H : Hp) (C : Addr) (cl : List (Str × Addr)) (fp : List Addr), PG (X.blk s H scope (compEnvC scope cl C X.env) fp) tg g1) (hq : GV X.K (own.map (·.2)) g g1)
    (ht : ∀ (s : Shared) (H : Hp) (C : Addr) (cl : List (Str × Addr)) (fp : List Addr), DTs (X.blk s H scope (compEnvC scope cl C X.env) fp) E0 ifs tt)
    (he : ∀ (s : Shared) (H : Hp) (C : Addr) (cl : List (Str × Addr)) (fp : List Addr), DE (X.blk s H scope (compEnvC scope cl C X.env) fp) E0 elt te) (hs : ∀ x, foldedSetIterable iter X.env x = pure x := by intro _; rfl) :
    DE X E (.ListComp elt [⟨tg, iter, ifs, 0⟩] scope pos) (dLc ti g tt te (own.map (·.2))) := de_lc hc hN hi ok g1 hg hq ht he hs
theorem ds_setComp {i : Nat} {y : Str} {py spos : Pos} {elt iter : Expr} {ifs : List Expr} {scope : Scope} (own : List (Str × Nat)) {ti : TID} {g : TGD} {tt : TTD} (g1 : TG) (hc : X.calm = true) (hN : X.N.Nodup) (hy : X.N[i]? = some y) (hyl : X.env.scope.names.lookup y = some .local)
    (hsw : swapsWith (.ListComp elt [⟨tg, iter, ifs, 0⟩] scope pos) (some (.Name y py)) spos.line X.env = pure true) (hi : DI X E tg iter ti) (ok : BlkOk X.N X.env.scope scope own)
    (hg : ∀ (s : Shared) (H : Hp) (C : Addr) (cl : List (Str × Addr)) (fp : List Addr), PG (X.blk s H scope (compEnvC scope cl C X.env) fp) tg g1) (hq : GV X.K (own.map (·.2)) g g1)
    (ht : ∀ (s : Shared) (H : Hp) (C : Addr) (cl : List (Str × Addr)) (fp : List Addr), DTs (X.blk s H scope (compEnvC scope cl C X.env) fp) E0 ifs tt)
    (he : ∀ (s : Shared) (H : Hp) (C : Addr) (cl : List (Str × Addr)) (fp : List Addr), DE (X.blk s H scope (compEnvC scope cl C X.env) fp) E0 elt te) (hs : ∀ x, foldedSetIterable iter X.env x = pure x := by intro _; rfl) :
    DS X E (.Assign [.Name y py] (.ListComp elt [⟨tg, iter, ifs, 0⟩] scope pos) spos) (sSet i (dLc ti g tt te (own.map (·.2)))) := ds_setLc hc hN hy hyl hsw hi ok g1 hg hq ht he hs
end
/-- what a callee lets out leaves the def -/
theorem pBody {P : Program} {w : World} {K : Fg} {mg : Str → Option Value} {base : Heap} {N : List Str} {qual : Str} {sc : Scope} {f : Addr} {cdv : Value} {A : Around} {outer : List Env} {s : Shared} {H : Hp} {E : XK} :
    Passes (L2.CX P w) (cxOf (L2.CX P w) P w K mg base N qual sc f cdv A outer s H E) E :=
  passes_call (takes_of rfl rfl rfl rfl) fun _ _ _ _ h => h
theorem oBody {P : Program} {w : World} {K : Fg} {mg : Str → Option Value} {base : Heap} {N : List Str} {qual : Str} {sc : Scope} {f : Addr} {cdv : Value} {A : Around} {outer : List Env} {s : Shared} {H : Hp} {E : XK} :
    PassesOwn (model P w) (cxOf (L2.CX P w) P w K mg base N qual sc f cdv A outer s H E).A (cxOf (L2.CX P w) P w K mg base N qual sc f cdv A outer s H E).env (cxOf (L2.CX P w) P w K mg base N qual sc f cdv A outer s H E).xe :=
  passes_of rfl
theorem dfn0 {P : Program} {w : World} {K : Fg} {mg : Str → Option Value} {base : Heap} {k : Nat} {f : Addr} {fd : FuncData} {ps : List Str} : DFn P w K mg base k f fd ps (fun _ _ _ _ => False) :=
  ⟨fun A outer s H M args us vs ds Qd Xd Q E hr e0 hl hb hv mo rs t => t.elim⟩
theorem rs0 {K : Fg} (H : Hp) (M : Mem) : Rs K H M [] [] := rfl
end DL
set_option maxHeartbeats 1000000
namespace PySem
namespace HandSPX
open Builtin Builtin.ObjectAttr
section
variable {M : Model} {A : Around} {E : Value → Shared → Prop} {h : Heap} {g : Array GenState} {d : Drawn} {t : Nat} {os : OsState}
variable {nm q : Str} {C N : Addr} {bs bm bmB : List Value} {hdct : Bool} {sn : List Str} {sub : List Value} {ab : Bool} {col : Option Bool} {dd : Option Addr} {k0 k1 k2 k3 k5 : Option Value} {B newId initId : String}
variable {prog : Program} {w : World} {R : Result → Shared → Prop} {kw : List (Str × Value)}
theorem dlk_check (F : ExcBaseFacts B newId initId bmB) (hT : ∀ X : String, bm.contains (.type X) = bmB.contains (.type X)) {rest : List Value} {Q : Unit → Shared → Prop}
    (hC : h.get? C = some (excClassObj nm q C N bs bm hdct sn sub ab col dd k0 k1 k2 k3 k5 newId)) (hq : Q () ⟨h, g, d, t, os⟩) : wpAny M A (checkBuiltinCall newId ⟨.ref C :: rest, kw⟩) Q E ⟨h, g, d, t, os⟩ := by
  have hc1 : (Value.ref C :: bm).contains (.type B) = true := by rw [List.contains_cons, hT, F.hasB, Bool.or_true]
  have hs1 := F.noStar
  simp only [checkBuiltinCall, F.newKind, F.newSplit, F.newRow]
  repeat (first | refine wpAny_loadPart_at hC ?_ | (refine wpAny_isSubtype_exc hC ?_; rw [hc1]) | refine wpAny_staticBase_exc hC ?_ | refine wpAny_madeBy_exc hC ?_ | simp only [bne_self_eq_false, Bool.false_eq_true, if_false] | wp_step)
  exact hq
theorem dlk_new (F : ExcBaseFacts B newId initId bmB) (hT : ∀ X : String, bm.contains (.type X) = bmB.contains (.type X)) {rest : List Value}
    (hC : h.get? C = some (excClassObj nm q C N bs bm hdct sn sub ab col dd k0 k1 k2 k3 k5 newId))
    (hq : R (.ok (.ret (.ref (h.objs.size + 1)))) ⟨(h.push (W.kdv_tup rest)).push (excO C h.objs.size), g, d, t, os⟩) (hz : rest.length ≤ sizeLine) :
    codeAny (model prog w) A (.builtin newId ⟨.ref C :: rest, kw⟩) R ⟨h, g, d, t, os⟩ := by
  have hends := F.ends
  have c1 : (Value.ref C :: bm).contains (.type B) = true := by rw [List.contains_cons, hT, F.hasB, Bool.or_true]
  have c2 : (Value.ref C :: bm).contains (.type "AttributeError") = false := by rw [List.contains_cons, hT, F.noAttr]; rfl
  have c3 : (Value.ref C :: bm).contains (.type "NameError") = false := by rw [List.contains_cons, hT, F.noName]; rfl
  refine codeAny_builtinAt F.entry ?_
  unfold Builtin.«BaseException.__new__»
  refine wpAt_bind ?_
  show wpAt _ _ _ (stack >>= _) _ _ _
  refine wpAt_bind (wpAt_stack fun p below => wpAt_of_wpAny ?_)
  wp_walk
  refine wpAt_of_wpAny ?_
  rw [F.owner]
  repeat (first | with_reducible refine wpAny_madeHere_exc F.canon hC ?_ | with_reducible refine wpAny_loadPart_at hC ?_ | (with_reducible refine wpAny_isSubtype_exc hC ?_; first | rw [c1] | rw [c2] | rw [c3]) | wp_step)
  show R _ _
  rw [Heap.size_push]; exact hq
theorem dlk_type (F : ExcBaseFacts B newId initId bmB) (hT : ∀ X : String, bm.contains (.type X) = bmB.contains (.type X)) {rest : List Value} {fI : Addr} {Q : Fin → Shared → Prop}
    (hC : h.get? C = some (excClassObj nm q C N bs bm hdct sn sub ab col dd k0 k1 k2 k3 k5 newId))
    (hi : W.Looks (model prog w) h (typeLookup (.ref C) "__init__") (some (.ref fI))) (hb : ∀ self, W.Looks (model prog w) h (bindSpecial (.ref fI) self) (.ref fI, [self])) (hz : rest.length ≤ sizeLine)
    (hq : codeAny (model prog w) A (.call (.ref fI) ⟨.ref (h.objs.size + 1) :: rest, kw⟩)
      (fun r s' => match r with | .ok (.ret v) => v = .none ∧ Q (.done (.ret (.ref (h.objs.size + 1)))) s' | .ok _ => False | .error e => E e s') ⟨(h.push (W.kdv_tup rest)).push (excO C h.objs.size), g, d, t, os⟩) :
    wpAny (model prog w) A (Builtin.«type.__call__» ⟨.ref C :: rest, kw⟩) Q E ⟨h, g, d, t, os⟩ := by
  have hF := F.toExcCallFacts
  repeat (first | with_reducible refine wpAny_loadPart_at hC ?_ | with_reducible refine wpAny_madeBy_exc hC ?_ | wp_step)
  refine codeAny_call_builtin_code (Code.quiet_builtin _ F.quiet) (dlk_check F hT hC ?_)
  refine dlk_new F hT hC ?_ hz
  show wpAny _ _ _ _ _ _
  have kp : ∀ b o, h.get? b = some o → ((h.push (W.kdv_tup rest)).push (excO C h.objs.size)).get? b = some o := fun b o e => Heap.get?_push_of_some _ (Heap.get?_push_of_some _ e)
  have hC1 := kp _ _ hC
  have hg1 : ((h.push (W.kdv_tup rest)).push (excO C h.objs.size)).get? (h.objs.size + 1) = some (excO C h.objs.size) := by heap_get
  have hcc : (Value.ref C :: bm).contains (.ref C) = true := by simp
  have i1 := hi.keeps kp
  have b1 := (hb (.ref (h.objs.size + 1))).keeps kp
  unfold isInstance
  repeat (first | with_reducible refine wpAny_loadPart_at hg1 ?_ | (with_reducible refine wpAny_isSubtype_exc hC1 ?_; rw [hcc]) | wp_step)
  show wpAny _ _ (typeLookup (.ref C) _) _ _ _
  refine i1.at (wpAny_holding (wpAny_bind (b1.at (wpAny_bind (wpAny_call (codeAny_mono hq fun r s' z => ?_))))))
  rcases r with e | (v | _ | _ | _) <;> first | exact z | exact z.elim | skip
  obtain ⟨rfl, z⟩ := z
  first
    | exact wpAny_pure (wpAny_pure z)
    | (wp_walk; exact z)
theorem dlk_call (F : ExcBaseFacts B newId initId bmB) (hT : ∀ X : String, bm.contains (.type X) = bmB.contains (.type X)) {rest : List Value} {fI : Addr}
    (hC : h.get? C = some (excClassObj nm q C N bs bm hdct sn sub ab col dd k0 k1 k2 k3 k5 newId))
    (hi : W.Looks (model prog w) h (typeLookup (.ref C) "__init__") (some (.ref fI))) (hb : ∀ self, W.Looks (model prog w) h (bindSpecial (.ref fI) self) (.ref fI, [self])) (hz : rest.length ≤ sizeLine)
    (hq : codeAny (model prog w) (A.under (.builtin "type.__call__" ⟨.ref C :: rest, kw⟩)) (.call (.ref fI) ⟨.ref (h.objs.size + 1) :: rest, kw⟩) (W.InitBack (h.objs.size + 1) R) ⟨(h.push (W.kdv_tup rest)).push (excO C h.objs.size), g, d, t, os⟩) :
    codeAny (model prog w) A (.call (.ref C) ⟨rest, kw⟩) R ⟨h, g, d, t, os⟩ := by
  have f1 := tc_lookup
  have f2 := tc_bind (.ref C)
  have hTy : (⟨h, g, d, t, os⟩ : Shared).TypeIs (.ref C) "type" := ⟨_, hC, rfl⟩
  refine codeAny_of_tree ?_
  show wpAny _ _ (callAny (.ref C) _) _ _ _
  repeat (any_goals (first | assumption | with_reducible refine wpAny_loadPart_at hC ?_ | wp_step))
  refine ⟨rfl, codeAny_call_builtin_at (Code.quiet_builtin _ (by decide +kernel)) entry_typeCall (wpAny_check_type_call_sub hC (dlk_type F hT hC hi hb hz ?_))⟩
  refine codeAny_mono hq fun r s' z => ?_
  rcases r with e | (v | _ | _ | _) <;> exact z
end
end HandSPX
end PySem
namespace DL
open PySem PySem.Spec PyProof.Rows L2
/-! ### an own class of exceptions over any built-in one -/
structure OexG (K : Fg) (C : Addr) : Prop where
  ex : ∃ B newId initId bmB, ExcBaseFacts B newId initId bmB ∧ StoreFacts B bmB "object.__setattr__" "object" ∧ PySem.W.excInitIn K C bmB newId = true ∧ PySem.W.excOver K C bmB = true
  hd : PySem.W.hasDictIn K C = true
  sa : PySem.W.findIn K (.ref C) "__setattr__" = some (some (.builtin "object.__setattr__"))
  exC : PySem.W.subIn K (.ref C) (.type "BaseException") = some true
  tyC : PySem.W.typeIn K (.ref C) = some (.type "type")
  kC : PySem.W.keepIn K (.ref C) = true
section
open PySem.W PySem.HandSPX Builtin Builtin.ObjectAttr
variable {prog : Program} {w : World} {A : Around} {E : Value → Shared → Prop} {R : Result → Shared → Prop} {hp : Heap} {g : Array GenState} {d : Drawn} {t : Nat} {os : OsState}
theorem osg_new {K : Fg} {name : Str} {tk : Tok} {v : Value} {x C : Addr} {fv : Array Value} (T : OexG K C) (X : K.In hp) (hx : hp.get? x = some { cls := .ref C, data := .fields fv }) (ha : findIn K (.ref C) name = some none)
    (hq : ∀ h' tk' dx, (∀ b o, b ≠ x → hp.get? b = some o → h'.get? b = some o) → hp.objs.size ≤ dx → dx ≠ x → h'.get? x = some { cls := .ref C, dict := some dx, data := .fields fv } → h'.Ns1 dx (fun y => if y = name then some v else none) → R (.ok (.ret .none)) ⟨h', g, d, tk', os⟩) :
    codeAny (model prog w) A (.call (.builtin "object.__setattr__") ⟨[.ref x, .str name tk, v], []⟩) R ⟨hp, g, d, t, os⟩ := by
  obtain ⟨B, newId, initId, bmB, F1, SF, _, ov⟩ := T.ex
  have I : InstAt hp x { cls := .ref C, data := .fields fv } C none := ⟨hx, rfl, rfl, trivial⟩
  have hxs : x ≠ hp.objs.size := Nat.ne_of_lt (Heap.lt_size hx)
  obtain ⟨cd, hcd, hh⟩ := any_some T.hd
  refine osa_openX SF X I ov (r := none) (by unfold takerIn; rw [ha]; rfl) fun b => ?_
  have hcls : Looks (model prog w) hp (classData C) cd := looks_clsIn X hcd
  show wpAny _ _ (storeInOwnDict (.ref x) (.ref C) (.str name tk) name v b) _ _ _
  obtain ⟨nm, bs, mro, ns, qn, hd, sn, sb, ab, col, del⟩ := cd
  dsimp only at hh
  subst hh
  unfold storeInOwnDict ownDictForStores
  repeat (first | with_reducible refine store_in_new ?_ ?_ | with_reducible refine wpAny_loadPart_at hx ?_ | with_reducible refine hcls.at ?_ | wp_step)
  · exact ⟨_, #[], _, (Heap.get?_update_ne _ _ _ _ hxs.symm).trans (Heap.get?_push_at rfl rfl), rfl, fun e he => absurd he (by simp), fun _ => rfl⟩
  · intro h' tk' hn' hs
    have hx1 : (hp.push { cls := .type "dict", data := .dict #[] }).get? x = some { cls := .ref C, data := .fields fv } := Heap.get?_push_of_some _ hx
    refine hq h' tk' hp.objs.size (fun b o hb ho => ?_) (Nat.le_refl _) hxs.symm ?_ hn'
    · exact (hs.2 b (Nat.ne_of_lt (Heap.lt_size ho))).trans ((Heap.get?_update_ne _ _ _ _ hb).trans (Heap.get?_push_of_some _ ho))
    · exact (hs.2 x hxs).trans (Heap.get?_update_self _ hx1 rfl)
theorem osg_old {K : Fg} {name : Str} {tk : Tok} {v : Value} {x C dx : Addr} {fv : Array Value} {m0 : Str → Option Value} {nl : List Str} (T : OexG K C)
    (X : K.In hp) (hx : hp.get? x = some { cls := .ref C, dict := some dx, data := .fields fv }) (hns : hp.Ns1 dx m0) (hw : Within m0 nl) (hz : nl.length ≤ 1000) (ha : findIn K (.ref C) name = some none)
    (hq : ∀ h' tk', (∀ b o, b ≠ dx → hp.get? b = some o → h'.get? b = some o) → h'.Ns1 dx (fun y => if y = name then some v else m0 y) → R (.ok (.ret .none)) ⟨h', g, d, tk', os⟩) :
    codeAny (model prog w) A (.call (.builtin "object.__setattr__") ⟨[.ref x, .str name tk, v], []⟩) R ⟨hp, g, d, t, os⟩ := by
  obtain ⟨B, newId, initId, bmB, F1, SF, _, ov⟩ := T.ex
  obtain ⟨oD, esD, epD, hoD, hdD, _⟩ := hns.count hw
  have I : InstAt hp x { cls := .ref C, dict := some dx, data := .fields fv } C (some oD) := ⟨hx, rfl, rfl, hoD⟩
  obtain ⟨cd, hcd, hh⟩ := any_some T.hd
  refine osa_openX SF X I ov (r := none) (by unfold takerIn; rw [ha]; rfl) fun b => ?_
  have hcls : Looks (model prog w) hp (classData C) cd := looks_clsIn X hcd
  show wpAny _ _ (storeInOwnDict (.ref x) (.ref C) (.str name tk) name v b) _ _ _
  obtain ⟨nm, bs, mro, ns, qn, hd, sn, sb, ab, col, del⟩ := cd
  dsimp only at hh
  subst hh
  unfold storeInOwnDict ownDictForStores
  repeat (first | with_reducible refine PySem.OEX.store_in_old hns hw hz ?_ | with_reducible refine wpAny_loadPart_at hx ?_ | with_reducible refine hcls.at ?_ | wp_step)
  intro h' tk' hn' hs
  exact hq h' tk' (fun b o hb ho => (hs.2 b hb).trans ho) hn'
end
end DL
set_option maxHeartbeats 1000000
namespace DL
open PySem PySem.Spec PyProof.Rows L2
/-! ### fields stored -/
section
variable {X : Cx} {pins : List (Addr × Obj)} {σ : L2.St} {H : Hp} {s : Shared} {a C dx : Addr} {f : Str} {y : V} {u : Value} {fs : List (Str × V)} {Q : Unit → Shared → Prop} {E : Value → Shared → Prop} {A : Around}
theorem osv_new (T : OexG X.K C) (I : Inv X pins σ H s) (e : H a = some (exo a C none)) (hno : PySem.W.findIn X.K (.ref C) f = some none) (ry : RelV y u)
    (h : ∀ dx s', H dx = none → dx ≠ a → Inv X pins σ (upd (upd H dx (exd dx [(f, y)])) a (exo a C (some dx))) s' → Q () s') : wpAny (model X.prog X.w) A (setAttr (.ref a) f u) Q E s := by
  obtain ⟨t1, ho⟩ := exo_at I.hok e
  obtain ⟨hp, ge, d, tk, os⟩ := s
  refine PySem.W.set_plain I.kIn (ox := { cls := .ref C, dict := none, data := .fields #[.ref t1, .none, .none, .none, .bool false, .none] }) (od := none) ⟨ho, rfl, rfl, trivial⟩ T.sa (osg_new T I.kIn ho hno fun h' tk' dx k dn dne hx hn => ?_)
  have hnd : H dx = none := I.hok.fresh dn
  have nd : ∀ {b : Addr} {o : Obj}, hp.get? b = some o → b ≠ dx := fun {b o} q => Nat.ne_of_lt (Nat.lt_of_lt_of_le (Heap.lt_size q) dn)
  have na : ∀ {b : Addr}, H b = none → b ≠ a := fun {b} n z => by rw [z, e] at n; cases n
  have U : Un X.fs [] H (upd (upd H dx (exd dx [(f, y)])) a (exo a C (some dx))) hp h' :=
    ⟨fun b o q n _ _ => k b o (na n) q, fun b o q n _ _ => ⟨o.slots, k b o (na n) q⟩, fun b o q n _ => by rw [upd_ne (na n), upd_ne (nd q)]; exact n,
      fun b o q _ => by
        by_cases hb : b = a
        · exact ⟨_, by rw [hb]; exact hx⟩
        · exact ⟨o, k b o hb q⟩,
      fun b xs q => by rw [upd_ne (at_ne e q exo_tup), upd_ne (ne_of_none q hnd)]; exact q, fun b o v q => by rw [upd_ne (at_ne e q exo_frz), upd_ne (ne_of_none q hnd)]; exact q,
      fun b ps q => ⟨#[], by rw [upd_ne (at_ne e q exo_tbl), upd_ne (ne_of_none q hnd), q]; simp⟩⟩
  refine h dx _ hnd dne (I.un (t' := tk') U fun b o q => ?_)
  by_cases hb : b = a
  · subst hb; rw [upd_same] at q; cases q; exact exo_ok hx
  · rw [upd_ne hb] at q
    by_cases hd : b = dx
    · subst hd; rw [upd_same] at q; cases q; exact exd_ok hn (relO_put (fs := []) ry fun g => True.intro)
    · rw [upd_ne hd] at q
      exact (I.hok b o q).stay (fun c v hc z => k c v (hc.elim (fun hc => by rw [hc]; exact hb) fun hc => at_ne e hc exo_own) z)
        (fun c hc => by rw [upd_ne (at_ne e hc exo_own), upd_ne (ne_of_none hc hnd)]; exact hc) (fun c xs hc => by rw [upd_ne (at_ne e hc exo_tup), upd_ne (ne_of_none hc hnd)]; exact hc)
theorem osv_old (T : OexG X.K C) (I : Inv X pins σ H s) (e : H a = some (exo a C (some dx))) (ed : H dx = some (exd dx fs)) (hl : fs.length ≤ 900) (hno : PySem.W.findIn X.K (.ref C) f = some none) (ry : RelV y u)
    (h : ∀ s', Inv X pins σ (upd H dx (exd dx ((f, y) :: fs))) s' → Q () s') : wpAny (model X.prog X.w) A (setAttr (.ref a) f u) Q E s := by
  obtain ⟨t1, ho⟩ := exo_at I.hok e
  obtain ⟨mA, hns, rel⟩ := exd_at I.hok ed
  obtain ⟨hp, ge, d, tk, os⟩ := s
  obtain ⟨oD, _, _, hoD, _, _⟩ := hns.count (within_of rel)
  refine PySem.W.set_plain I.kIn (ox := { cls := .ref C, dict := some dx, data := .fields #[.ref t1, .none, .none, .none, .bool false, .none] }) (od := some oD) ⟨ho, rfl, rfl, hoD⟩ T.sa
    (osg_old T I.kIn ho hns (within_of rel) (by rw [List.length_map]; omega) hno fun h' tk' k hn => ?_)
  have hd : ∃ o, h'.get? dx = some o := by obtain ⟨o, _, _, e', _⟩ := hn; exact ⟨o, e'⟩
  exact h _ (I.write (t' := tk') (x := dx) (e := dx) (o := exd dx ((f, y) :: fs)) (by rw [ed]; exact True.intro) (.inl rfl) k hd (exd_ok hn (relO_put ry rel)))
def tOsg (K : Fg) (f : Str) (to te : TE) : TS := fun D σ H => te σ H fun y H1 => to σ H1 fun x H2 => ∃ a C : Addr, x = .ref a ∧ OexG K C ∧ PySem.W.findIn K (.ref C) f = some none ∧
  ((H2 a = some (exo a C none) ∧ ∀ dx, H2 dx = none → dx ≠ a → D.nx σ (upd (upd H2 dx (exd dx [(f, y)])) a (exo a C (some dx)))) ∨
    ∃ (dx : Addr) (fs : List (Str × V)), H2 a = some (exo a C (some dx)) ∧ H2 dx = some (exd dx fs) ∧ fs.length ≤ 900 ∧ D.nx σ (upd H2 dx (exd dx ((f, y) :: fs))))
theorem ps_osg {o e : Expr} {to te : TE} {p' pos : Pos} (ho : PE X o to) (he : PE X e te) (hs : swapsWith e (some (.Attribute o f p')) pos.line X.env = pure false := by rfl) : PS X (.Assign [.Attribute o f p'] e pos) (tOsg X.K f to te) := by
  refine ⟨fun pins s σ H D I h => plainObj_wpAny_Assign_Attribute (thn (he.run pins s σ H _ I h) fun v s1 ⟨y, H1, I1, r1, q1⟩ => thn (ho.run pins s1 σ H1 _ I1 q1) fun u s2 ⟨x, H2, I2, r2, a, C, ex, T, hno, q⟩ => ?_) hs⟩
  subst ex
  obtain rfl : u = Value.ref a := r2
  rcases q with ⟨ea, q⟩ | ⟨dx, fs, ea, ed, hl, q⟩
  · exact osv_new T I2 ea hno r1 fun dx s' n ne J => ⟨σ, _, J, q dx n ne⟩
  · exact osv_old T I2 ea ed hl hno r1 fun s' J => ⟨σ, _, J, q⟩
end
/-! ### what an own __init__ of an exception leaves -/
/-- the exception at its address gets a dict of its fields ns, the last one stored first -/
def spEx (C : Addr) (ns : List Str) : Sp := fun vs H Q _ => ∃ a xs, vs = .ref a :: xs ∧ xs.length = ns.length ∧ H a = some (exo a C none) ∧
  ∀ d H', H d = none → d ≠ a → H' a = some (exo a C (some d)) → H' d = some (exd d (ns.zip xs.reverse)) → (∀ b, b ≠ a → b ≠ d → H' b = H b) → Q .non H'
theorem spEx_len {C : Addr} {ns ps : List Str} (h : ps.length = ns.length + 1) : ∀ vs H Q E, spEx C ns vs H Q E → vs.length = ps.length := fun vs H Q E ⟨a, xs, e, l, _⟩ => by
  rw [e, List.length_cons, l, h]
section
variable {X : Cx} {K : Fg} {C : Addr} {f g : Str} {p1 p2 p3 p4 p5 p6 p7 p8 : Pos}
theorem init_one {x : Str} (T : OexG X.K C) (hN : X.N = [("self" : Str), x]) (hno : PySem.W.findIn X.K (.ref C) f = some none) (ps : PE X (.Name "self" p1) (tVar 0)) (px : PE X (.Name x p3) (tVar 1)) {vs : List V} {H : Hp} {Q : VK} {E : XK} (h : spEx C [f] vs H Q E) :
    ∃ t, PSs X [.Assign [.Attribute (.Name "self" p1) f p2] (.Name x p3) p4] t ∧ t { nx := fun _ H' => Q .non H', rt := Q } (start X.N vs) H := by
  obtain ⟨a, xs, e, l, ha, q⟩ := h
  obtain ⟨v, rfl⟩ : ∃ v, xs = [v] := by
    match xs, l with
    | [v], _ => exact ⟨v, rfl⟩
  subst e
  refine ⟨_, pss_one (ps_osg ps px), ?_⟩
  rw [hN]
  refine ⟨v, rfl, .ref a, rfl, a, C, rfl, T, hno, .inl ⟨ha, fun dx hn ne => ?_⟩⟩
  refine q dx _ hn ne upd_same ?_ fun b h1 h2 => ?_
  · rw [upd_ne ne, upd_same]; rfl
  · rw [upd_ne h1, upd_ne h2]
theorem init_two {x y : Str} (T : OexG X.K C) (hN : X.N = [("self" : Str), x, y]) (hf : PySem.W.findIn X.K (.ref C) f = some none) (hg : PySem.W.findIn X.K (.ref C) g = some none) (ps : PE X (.Name "self" p1) (tVar 0)) (px : PE X (.Name x p3) (tVar 1))
    (ps2 : PE X (.Name "self" p5) (tVar 0)) (py : PE X (.Name y p7) (tVar 2)) {vs : List V} {H : Hp} {Q : VK} {E : XK} (h : spEx C [g, f] vs H Q E) :
    ∃ t, PSs X [.Assign [.Attribute (.Name "self" p1) f p2] (.Name x p3) p4, .Assign [.Attribute (.Name "self" p5) g p6] (.Name y p7) p8] t ∧ t { nx := fun _ H' => Q .non H', rt := Q } (start X.N vs) H := by
  obtain ⟨a, xs, e, l, ha, q⟩ := h
  obtain ⟨v, u, rfl⟩ : ∃ v u, xs = [v, u] := by
    match xs, l with
    | [v, u], _ => exact ⟨v, u, rfl⟩
  subst e
  refine ⟨_, pss_cons (ps_osg ps px) (pss_one (ps_osg ps2 py)), ?_⟩
  rw [hN]
  refine ⟨v, rfl, .ref a, rfl, a, C, rfl, T, hf, .inl ⟨ha, fun dx hn ne => ?_⟩⟩
  refine ⟨u, rfl, .ref a, rfl, a, C, rfl, T, hg, .inr ⟨dx, [(f, v)], upd_same, ?_, (by show 1 ≤ 900; decide), ?_⟩⟩
  · rw [upd_ne ne, upd_same]
  · refine q dx _ hn ne ?_ ?_ fun b h1 h2 => ?_
    · rw [upd_ne (Ne.symm ne), upd_same]
    · rw [upd_same]; rfl
    · rw [upd_ne h2, upd_ne h1, upd_ne h2]
end
/-! ### made and held -/
theorem mok_keep {K : Fg} {H H' : Hp} {M : Mem} (mo : MOk K H M) (k : ∀ a o, H a = some o → H' a = some o) : MOk K H' M := fun a m e => by
  have gw : Gw H M H' M := fun b u h z _ => ⟨k b u h, z⟩
  have q := mo a m e
  cases m with
  | lst ds => obtain ⟨xs, h1, h2⟩ := q; exact ⟨xs, k _ _ h1, Rs.grow gw ds xs h2⟩
  | dct ks ds => obtain ⟨xs, h1, h2, h3⟩ := q; exact ⟨xs, k _ _ h1, h2, Rs.grow gw ds xs h3⟩
  | ins C ns ds => obtain ⟨dx, xs, h1, h2, h3, h4, h5⟩ := q; exact ⟨dx, xs, k _ _ h1, h2, k _ _ h3, h4, Rs.grow gw ds xs h5⟩
  | gen φ ds => exact q.elim
  | tab q0 => obtain ⟨ps, h1, _⟩ := id q; exact TabAt.keep q ((k _ _ h1).trans h1.symm) gw
/-- what stands of a class of exceptions with an own __init__ that keeps the fields ns -/
structure MkOk (P : Program) (w : World) (K : Fg) (mg : Str → Option Value) (base : Heap) (k : Nat) (C : Addr) (ns ps : List Str) : Prop where
  T : OexG K C
  ex : ∃ (fI : Addr) (fd : FuncData), PySem.W.findIn K (.ref C) "__init__" = some (some (.ref fI)) ∧ PySem.W.typeIn K (.ref fI) = some (.type "function") ∧
    FnOk P w K mg base (L2.CX P w) k fI fd ps (spEx C ns) ∧ Binds K fd ps []
def dMk (C : Addr) (ns : List Str) (t : TAD) : TED := fun Xd s M Q => t Xd s M fun ds M1 => Q (.exn C ns ds.reverse) M1
def sRaise (C : Addr) (ns : List Str) (t : TAD) : TSD := fun Y s M => t Y.ex s M fun ds M1 => Y.ex C ns ds.reverse M1
section
variable {X : Cx} {E : XK} {n k : Nat} {C : Addr} {ns ps : List Str} {x : Str} {p pos : Pos} {e : Expr} {es : List Expr} {ts : TAD}
theorem pmk_mkv {ta : TA} (Z : MkOk X.prog X.w X.K X.mg X.base k C ns ps) (hr : Room (k + 1) X.A) (hx : Passes (L2.CX X.prog X.w) X (fun _ _ _ => False)) (hg : Gl X x) (hm : X.mg x = some (.ref C)) (ha : PA X (e :: es) ta)
    (hdb : (x == ("__debug__" : Str)) = false := by decide) (he : starEach (e :: es) X.env = (false, eval e X.env) :: starEach es X.env := by rfl) (hpl : (backTo pos (starEach es X.env)).any (·.1) = false := by rfl) :
    PMk X (.Call (.Name x p) (e :: es) [] pos) (fun σ H Q => ta σ H fun vs H1 => vs.length = ns.length ∧ vs.length ≤ 1000 ∧ ∀ d H2, H1 d = none → H2 d = some (.xd (ns.zip vs.reverse)) → (∀ b o, H1 b = some o → H2 b = some o) → Q (.ref C) (some d) H2) := by
  intro pins s σ H Q I h
  obtain ⟨fI, fd, iC, tI, F1, hb⟩ := Z.ex
  obtain ⟨B, newId, initId, bmB, FB, SF, xi, ov⟩ := Z.T.ex
  refine wpAny_Call_Name_kw (ld_glob I hg hm (PySem.W.callWith_K (h₀ := X.base) I.ok.mod.kin Z.T.kC (thn (ha.run pos pins s σ H _ I h) fun us s1 ⟨vs, H1, I1, r1, hl, hz, q1⟩ => ⟨I1.kIn, ?_⟩) he hpl) hdb)
  obtain ⟨hp, ge, dr, tk, os⟩ := s1
  have hsz := Nat.le_succ hp.objs.size
  have hn : H1 (hp.objs.size + 1) = none := I1.hok.fresh hsz
  have I2 := I1.laid (t' := tk) (a := hp.objs.size + 1) (o := exo (hp.objs.size + 1) C none) (h' := (hp.push (PySem.W.kdv_tup us)).push (PySem.HandSPX.excO C hp.objs.size)) (fun b o z => Heap.get?_push_of_some _ (Heap.get?_push_of_some _ z)) hsz (exo_ok (t1 := hp.objs.size) (by heap_get))
  have hl2 : (Value.ref (hp.objs.size + 1) :: us ++ []).length = ps.length := by
    rw [List.append_nil, List.length_cons, ← r1.length]
    have z := F1.len (.ref (hp.objs.size + 1) :: vs) (upd H1 (hp.objs.size + 1) (exo (hp.objs.size + 1) C none)) (fun _ _ => True) (fun _ _ _ => False) ⟨_, vs, rfl, hl, upd_same, fun _ _ _ _ _ _ _ => True.intro⟩
    rw [← z, List.length_cons]
  have hsp : spEx C ns (.ref (hp.objs.size + 1) :: vs) (upd H1 (hp.objs.size + 1) (exo (hp.objs.size + 1) C none)) (fun v H2 => v = .non ∧ ∃ d, H1 d = none ∧ d ≠ hp.objs.size + 1 ∧ H2 (hp.objs.size + 1) = some (exo (hp.objs.size + 1) C (some d)) ∧ H2 d = some (exd d (ns.zip vs.reverse)) ∧ ∀ b, b ≠ hp.objs.size + 1 → b ≠ d → H2 b = H1 b) (fun _ _ _ => False) :=
    ⟨_, vs, rfl, hl, upd_same, fun d H2 hd hne h1 h2 h3 => ⟨rfl, d, by rw [upd_ne hne] at hd; exact hd, hne, h1, h2, fun b hb hbd => (h3 b hb hbd).trans (upd_ne hb)⟩⟩
  have hus : us.length ≤ sizeLine := by rw [← r1.length, sizeLine_eq]; omega
  have e2 := I2.env0.make C us []
  obtain ⟨nm, N, qn, bs, bm, hdct, sn, sub, ab, col, dd, k0, k1, k2, k3, k5, hC, hbm⟩ := PySem.W.excInit_of I1.kIn xi
  show wpAny _ _ (call (.ref C) us) _ _ _
  refine wpAny_call (PySem.HandSPX.dlk_call FB hbm hC (PySem.W.looks_findIn I1.kIn iC) (fun self => PySem.W.bind_fn I1.kIn self tI) hus
    (codeAny_mono (F1.run _ X.stack _ _ ⟨.ref (hp.objs.size + 1) :: us, []⟩ (.ref (hp.objs.size + 1) :: us ++ []) (.ref (hp.objs.size + 1) :: vs) _ _ (hr.make C us []) e2 (hb _ (.ref (hp.objs.size + 1) :: us) I2.kIn hl2) (by rw [List.append_nil]; exact .cons rfl r1) hsp) ?_))
  · intro r s' hq'
    cases r with
    | error er => exact hx pins σ _ _ er s' I2 hq'
    | ok fl =>
      cases fl with
      | ret u =>
        obtain ⟨v, H2, os2, bare2, un2, hok2, rv, ev, d, hd1, hne, h1, h2, h3⟩ := hq'
        subst ev
        obtain ⟨hp2, g2, d2, t2, os'⟩ := s'
        refine ⟨rv, mk_end (raises_own Z.T.exC Z.T.tyC) I1 hsz (fun b o z => Heap.get?_push_of_some _ (Heap.get?_push_of_some _ z)) un2 hok2 os2 bare2 h1 h2 hd1 (q1 d _ hd1 upd_same fun b o z => ?_)⟩
        have z1 := ne_of_none z hn
        have z2 := ne_of_none z hd1
        rw [upd_ne z2, del_ne z1, h3 b z1 z2]; exact z
      | next => exact hq'.elim
      | brk => exact hq'.elim
      | cont => exact hq'.elim
theorem ds_raise {pos' : Pos} (Z : MkOk X.prog X.w X.K X.mg X.base k C ns ps) (hr : RoomG (k + 1) X.A) (hc : X.calm = true) (tk : Takes X (fun cls d _ H => E cls d H)) (hx : Passes (L2.CX X.prog X.w) X (fun _ _ _ => False)) (hg : Gl X x) (hm : X.mg x = some (.ref C)) (ha : DN X E n (e :: es) ts)
    (hn : n = ns.length := by rfl) (hz : n ≤ 1000 := by decide) (hdb : (x == ("__debug__" : Str)) = false := by decide) (he : starEach (e :: es) X.env = (false, eval e X.env) :: starEach es X.env := by rfl) (hpl : (backTo pos (starEach es X.env)).any (·.1) = false := by rfl) :
    DS X E (.Raise (some (.Call (.Name x p) (e :: es) [] pos)) none pos') (sRaise C ns ts) := by
  refine ⟨PS.imp (ps_raise hc tk (pmk_mkv Z hr.r hx hg hm ha.ok hdb he hpl)) fun D σ H ⟨s, M, Y, S, xt, t, q⟩ => ?_⟩
  refine useN S xt t fun ds vs M1 H1 hl g1 S1 x1 r1 t1 => ⟨by rw [hl, hn], by rw [hl]; exact hz, fun d H2 hd h2 kp => ?_⟩
  have gw : Gw H1 M1 H2 M1 := fun b o z m _ => ⟨kp b o z, m⟩
  refine x1 _ _ _ ⟨C, d, ns, vs.reverse, ds.reverse, M1, rfl, rfl, h2, m_none S1.mem hd, ?_, Rs.grow gw _ _ (Rs.reverse r1), gw, mok_keep S1.mem kp, t1⟩
  rw [List.length_reverse, Rs.len r1, hl, hn]
end
end DL
set_option maxHeartbeats 1000000
namespace DL
open PySem PySem.Spec PyProof.Rows L2
/-! ### isinstance of an exception that is held -/
section
variable {X : Cx} {pins : List (Addr × Obj)} {σ : L2.St} {H : Hp} {M : Mem} {s : Shared}
/-- the facts by which fields are read -/
structure FdOk (K : Fg) (C : Addr) (f : Str) : Prop where
  x : XfC K C
  no : PySem.W.findIn K (.ref C) f = some none
def dFd (K : Fg) (f : Str) (te : TED) : TED := fun Xd s M Q => te Xd s M fun d M1 => match d with
  | .exn C ns ds => FdOk K C f ∧ ∃ d, (ns.zip ds).lookup f = some d ∧ Q d M1
  | _ => False
end
end DL
set_option maxHeartbeats 1000000
namespace DL
open PySem PySem.Spec PyProof.Rows L2
/-! ### arguments by name -/
theorem PK.imp {X : Cx} {kws : List Keyword} {t t' : TA} (h : PK X kws t) (i : ∀ σ H Q, t' σ H Q → t σ H Q) : PK X kws t' := ⟨fun pos pins s σ H Q I q => h.run pos pins s σ H Q I (i σ H Q q)⟩
/-- an order of things -/
structure Prm where
  f : {α : Type} → List α → List α
  rel : ∀ {zs : List V} {ws : List Value}, Vals zs ws → Vals (f zs) (f ws)
  rs : ∀ {K : Fg} {H : Hp} {M : Mem} {ds : List D} {vs : List V}, Rs K H M ds vs → Rs K H M (f ds) (f vs)
  len : ∀ {α : Type} (l : List α), (f l).length = l.length
def dMkK (C : Addr) (ns : List Str) (pm : Prm) (t : TAD) : TED := fun Xd s M Q => t Xd s M fun ds M1 => Q (.exn C ns (pm.f ds).reverse) M1
end DL
set_option maxHeartbeats 1000000
namespace DL
open PySem PySem.Spec PyProof.Rows L2
/-! ### enumerate and zip of lists -/
def enmFrom : Nat → List D → List D
  | _, [] => []
  | i, d :: ds => .tup [.int (i : Nat), d] :: enmFrom (i + 1) ds
theorem enmFrom_get : ∀ (ds : List D) (i j : Nat), (enmFrom i ds)[j]? = ds[j]?.map fun d => D.tup [.int ((i + j : Nat) : Int), d]
  | [], i, j => by simp [enmFrom]
  | d :: ds, i, 0 => by simp [enmFrom]
  | d :: ds, i, j + 1 => by
    simp only [enmFrom, List.getElem?_cons_succ]
    rw [enmFrom_get ds (i + 1) j, show i + 1 + j = i + (j + 1) by omega]
theorem enmFrom_len : ∀ (ds : List D) (i : Nat), (enmFrom i ds).length = ds.length
  | [], _ => rfl
  | d :: ds, i => by simp [enmFrom, enmFrom_len ds (i + 1)]
theorem ItOk.enum {K : Fg} {H0 : Hp} {M0 : Mem} {ow : Option Addr} {ds : List D} {a : Addr} (hs : ∀ H M, Gw H0 M0 H M → MOk K H M → (∀ a, ow = some a → M a = M0 a) → ∃ xs, SqL K H a xs ∧ Rs K H M ds xs) : ItOk K (Ite K a) H0 M0 ow (enmFrom 0 ds) := by
  refine ⟨fun i H M g mo hw hi => ?_, fun H M g mo hw => ?_⟩
  · rw [enmFrom_len] at hi
    obtain ⟨xs, h1, h2⟩ := hs H M g mo hw
    obtain ⟨v, e1, e2⟩ := Rs.get h2 (List.getElem?_eq_getElem hi)
    refine ⟨⟨xs, v, h1, e1⟩, fun y H' ⟨T, x, eT, hT, eH, hy⟩ => ?_⟩
    subst eT; subst eH
    have e3 := hy xs h1
    rw [e1] at e3; cases e3
    refine ⟨.tup [.int ((0 + i : Nat) : Int), ds[i]], by rw [enmFrom_get, List.getElem?_eq_getElem hi]; rfl, gw_new hT, mok_new mo hT, new_tup mo hT (Rs.cons ?_ (Rs.cons e2 Rs.nil))⟩
    rw [Nat.zero_add]; exact rfl
  · rw [enmFrom_len]
    obtain ⟨xs, h1, h2⟩ := hs H M g mo hw
    exact ⟨xs, h1, by rw [vlen h2]; exact Nat.le_refl _⟩
/-! ### displays with stars -/
def seqK (R : List D → Mem → Prop) : QD := fun d M => match vw M d with
  | .tup ds => R ds M
  | .lst ds => R ds M
  | .fzn ds => R ds M
  | _ => False
def dStar (te : TED) (ta : TAD) : TAD := fun Xd s M Q => te Xd s M (seqK fun ds M1 => ta Xd s M1 fun es M2 => Q (ds ++ es) M2)
def dTupS (t : TAD) : TED := fun Xd s M Q => t Xd s M fun ds M1 => ds.length ≤ sizeLine ∧ Q (.tup ds) M1
end DL
set_option maxHeartbeats 1000000
namespace DL
open PySem PySem.Spec PyProof.Rows L2
/-! ### the end of a row whose law is read over data -/
theorem rs_ints {K : Fg} {H : Hp} {M : Mem} : ∀ ns : List Int, Rs K H M (ns.map D.int) (ns.map V.int)
  | [] => rfl
  | i :: r => Rs.cons rfl (rs_ints r)
/-- a def as the head tells it -/
theorem fun_ofD {K : Fg} {x qual : Str} {st : Stmt} {f : Addr} {fd : FuncData} (F : FunD K x qual (defArgs st) (defBody st) (defScope st) [] [] f fd) : Fun K x qual st f fd := by
  obtain ⟨oc, od, dV, kV, doc, pm, an, cdv, ct, osl, e, lk, hcd, hD, hK⟩ := F.ex
  have e2 : dV = .none := by
    rcases hD with ⟨_, e⟩ | ⟨e, _⟩
    · exact e
    · exact absurd rfl e
  subst e2
  exact ⟨⟨oc, od, kV, doc, pm, an, cdv, ct, osl, e, lk, hcd⟩, F.kp⟩
end DL
set_option maxHeartbeats 1000000
namespace DL
open PySem PySem.Spec PyProof.Rows L2
/-! ### facts of the head: by names, and by one Bool more -/
theorem binds_of {K : Fg} {x qual : Str} {st : Stmt} {f : Addr} {fd : FuncData} {ps : List Str} (F : Fun K x qual st f fd)
    (h : ∀ (kV doc pm : Value) (an : Option Addr) (cdv ct : Value) (us : List Value), us.length = ps.length → bindArgs (PySem.W.fnOf x qual (defArgs st) (defBody st) (defScope st) .none kV doc pm an cdv ct) ⟨us, []⟩ = pure (ps.zip us)) : Binds K fd ps [] := F.binds h
end DL
set_option maxHeartbeats 1000000
namespace PySem
open AutoSeq1 (wpAny_loadPart')
theorem dl_enum_newT (l : Addr) (items : Array Value) (n : Nat) (dct : Option Addr) (sl : Array (Option Value)) :
    Meets (Builtin.«enumerate.__new__» ⟨[.type "enumerate", .ref l], []⟩) (fun _ R s => s.heap.get? l = some { cls := .type "tuple", dict := dct, data := .seq items n, slots := sl } ∧
      R (.ok (.ret (.ref (s.heap.push { cls := .type "tuple_iterator", data := .fields #[.ref l, .int 0 0] }).objs.size)))
        { s with heap := (s.heap.push { cls := .type "tuple_iterator", data := .fields #[.ref l, .int 0 0] }).push { cls := .type "enumerate", data := .fields #[.none, .bool false, .ref s.heap.objs.size, rawInt 0, .none, .none] } }) :=
  .of_wp fun prog w A R s h => by
    obtain ⟨hp, g, d, tk, os⟩ := s; obtain ⟨hl, h⟩ := h
    have hsub := sub_enumerate
    have hL : Heap.IsTuple (Shared.heap ⟨hp, g, d, tk, os⟩) l items := ⟨_, hl, rfl, n, rfl⟩
    wp_walk using wpAny_loadPart' hl
    refine wpAny_stack_any fun st => wpAny_pure ?_
    split
    · rename_i c _ _ _ _ _
      cases (c == Value.type "enumerate") <;> (wp_walk using wpAny_loadPart' hl, wpAny_pyIter_tuple hL; exact ⟨_, rfl, h⟩)
    · wp_walk using wpAny_loadPart' hl, wpAny_pyIter_tuple hL
      exact ⟨_, rfl, h⟩
theorem dl_call_enumT {prog : Program} {w : World} {A : Around} {E : Value → Shared → Prop} {s : Shared} {l : Addr} {items : Array Value} {Q : Value → Shared → Prop} (hL : s.heap.IsTuple l items)
    (h : ∀ h', IsEnum h' (s.heap.objs.size + 1) s.heap.objs.size 0 .none → h'.IsTupleIter s.heap.objs.size l 0 → h'.objs.size = s.heap.objs.size + 2 → (∀ b o, s.heap.get? b = some o → h'.get? b = some o) → Q (.ref (s.heap.objs.size + 1)) { s with heap := h' }) :
    wpAny (model prog w) A (call (.type "enumerate") [.ref l]) Q E s := by
  obtain ⟨⟨c, dct, dt, sl⟩, hl, hc, n, hd⟩ := hL
  obtain rfl : c = .type "tuple" := hc
  obtain rfl : dt = .seq items n := hd
  refine callType_new F.called_enumerate (by decide) (F.typeCall_enumerate_1 _) (F.newCall_enumerate_1 _) (fun obj => F.args_object_init_2 obj _) F.entry_enumerate_new (dl_enum_newT l items n dct sl) ⟨hl, ?_⟩
  have hz : (s.heap.push { cls := .type "tuple_iterator", data := .fields #[.ref l, .int 0 0] }).objs.size = s.heap.objs.size + 1 := Heap.size_push ..
  show _ ∧ _
  rw [hz]
  have he : IsEnum ((s.heap.push { cls := .type "tuple_iterator", data := .fields #[.ref l, .int 0 0] }).push { cls := .type "enumerate", data := .fields #[.none, .bool false, .ref s.heap.objs.size, rawInt 0, .none, .none] }) (s.heap.objs.size + 1) s.heap.objs.size 0 .none := by
    have z := Heap.get?_push_size (s.heap.push { cls := .type "tuple_iterator", data := .fields #[.ref l, .int 0 0] }) (o := { cls := .type "enumerate", data := .fields #[.none, .bool false, .ref s.heap.objs.size, rawInt 0, .none, .none] }) rfl
    rw [hz] at z; exact z
  refine ⟨⟨_, he, rfl⟩, h _ he ⟨_, Heap.get?_push_of_some _ (Heap.get?_push_size _ rfl), rfl, rfl⟩ (by rw [Heap.size_push, hz]) fun b o x => Heap.get?_push_of_some _ (Heap.get?_push_of_some _ x)⟩
theorem dl_draws_tup {prog : Program} {w : World} {A : Around} (hh : A.handled = none) (it l : Addr) (hne : l ≠ it) (items : Array Value) :
    Draws prog w A it [it, l] items.size (fun i v => items[i]? = some v) (fun i h => h.IsTupleIter it l i ∧ h.IsTuple l items) where
  live := fun _ _ st => let ⟨o, ho, _⟩ := st.1; ⟨o, ho⟩
  frame := fun _ _ _ st hk => ⟨let ⟨o, ho, r⟩ := st.1; ⟨o, hk it (by simp) o ho, r⟩, let ⟨o, ho, r⟩ := st.2; ⟨o, hk l (by simp) o ho, r⟩⟩
  item := fun i s Q E hi st hQ => wpAny_nextOf_tuple_item st.1 st.2 (x := items[i]) (by simp [hi]) fun h' hit' hs' => hQ _ h' s.toks (by simp [hi]) ⟨hit', st.2.extBut hs'.extBut hne⟩ hs'
  done := fun s Q E st hE => wpAny_nextOf_tuple_end hh st.1 st.2 (by simp) hE
end PySem
namespace DL
open PySem PySem.Spec PyProof.Rows L2
/-! ### enumerate of tuples -/
def IteT (K : Fg) (a : Addr) : It :=
  ⟨fun i H => ∃ (xs : List V) (x : V), SqT K H a xs ∧ xs[i]? = some x, fun i H v H' => ∃ T x, v = .ref T ∧ H T = none ∧ H' = upd H T (.tup [.int (i : Nat), x]) ∧ ∀ xs, SqT K H a xs → xs[i]? = some x, fun i H => ∃ xs : List V, SqT K H a xs ∧ xs.length ≤ i⟩
theorem turn_enT {P : Program} {w : World} {K : Fg} {elts : List Expr} {kk : Nat} {tpos : Pos} (a e it : Addr) :
    Turn P w K (.Tuple elts kk tpos) (IteT K a) [e, it] e (fun i h => (∃ old, IsEnum h e it ((i : Nat) : Int) old) ∧ h.IsTupleIter it a i ∧ e ≠ it) where
  mem := by simp
  obj := fun i h st b hb => by
    obtain ⟨⟨old, he⟩, ⟨o, ho, hc, hd⟩, _⟩ := st
    rcases (by simpa using hb : b = e ∨ b = it) with z | z
    · rw [z]; exact ⟨_, he, fun v q => nomatch q⟩
    · rw [z]; exact ⟨o, ho, fun v q => by rw [hd] at q; cases q⟩
  keep := fun i h h' st k => let ⟨⟨old, he⟩, ⟨o, ho, r⟩, hne⟩ := st; ⟨⟨old, k e (by simp) _ he⟩, ⟨o, k it (by simp) _ ho, r⟩, hne⟩
  item := by
    intro X hP hw hK hc i pins s σ H E I hf st hg
    subst hP hw hK
    obtain ⟨⟨old, he⟩, hit, hne⟩ := st
    obtain ⟨xs, x, hq, hx⟩ := hg
    obtain ⟨its, rv, p, hz⟩ := I.tuple hq
    have p' : s.heap.IsTuple a its.toArray := p
    have hel : e < s.heap.objs.size := Heap.lt_size he
    have hil : it < s.heap.objs.size := by obtain ⟨_, q, _⟩ := hit; exact Heap.lt_size q
    have hai : a ≠ it := fun z => by
      obtain ⟨o, h1, h2, _⟩ := p'
      obtain ⟨o2, h3, h4, _⟩ := hit
      rw [z, h3] at h1; cases h1
      rw [h2] at h4
      exact absurd (Value.type.inj h4) (by decide)
    have hea : e ≠ a := fun z => by
      obtain ⟨o, h1, h2, _⟩ := p'
      have h3 := he
      unfold IsEnum at h3
      rw [z, h1] at h3
      have h4 := congrArg (fun o : Option Obj => o.map (·.cls)) h3
      have h5 : o.cls = .type "enumerate" := Option.some.inj h4
      rw [h2] at h5
      exact absurd (Value.type.inj h5) (by decide)
    have hl := rv.length
    have hlt : i < its.toArray.size := by
      have : i < xs.length := by
        rcases Nat.lt_or_ge i xs.length with z | z
        · exact z
        · rw [List.getElem?_eq_none z] at hx; cases hx
      simpa [← hl] using this
    refine wpAny_pyNext_enum_itemD (dl_draws_tup (A := X.A.in1) (show X.A.in1.handled = none from I.ok.hd hc) it a hai its.toArray) he ⟨hit, p'⟩ hlt hne (by simp [hne, hea]) fun u h' tk hu ho st' hT hsz hk => ?_
    refine ⟨_, rfl, wpAny_letOwnedTupleGo_enum (s := { s with heap := h', toks := tk + 1 }) ho fun h'' he' sb => ?_⟩
    obtain ⟨u', hu', ru⟩ := rv.get hx
    obtain rfl : u = u' := by
      have hu2 : its.toArray[i]? = some u := hu
      rw [show its.toArray[i]? = its[i]? by simp, hu'] at hu2
      exact (Option.some.inj hu2).symm
    have hT2 : h''.get? s.heap.objs.size = some { cls := .type "tuple", data := .seq #[.int i tk, u] } := (sb.2 _ (Nat.ne_of_gt hel)).trans hT
    have new : ObjOk X.prog X.w (upd H s.heap.objs.size (.tup [.int (i : Nat), x])) h'' s.heap.objs.size (.tup [.int (i : Nat), x]) :=
      ⟨by show 2 ≤ sizeLine; decide, [.int i tk, u], .cons ⟨_, rfl⟩ (.cons ru .nil), ⟨_, hT2, rfl, _, rfl⟩⟩
    have I1 : Inv X pins σ (upd H s.heap.objs.size (.tup [.int (i : Nat), x])) { s with heap := h'', toks := tk + 1 } :=
      I.turnedNew (t' := tk + 1) (ch := [e, it]) (fun b ob hb q => (sb.2 b (fun z => hb (by simp [z]))).trans (hk b ob (fun z => hb (by simp [z])) (fun z => hb (by simp [z])) q)) hf (Nat.le_refl _) new
    refine ⟨.ref s.heap.objs.size, _, I1, rfl, ⟨_, x, rfl, I.hok.fresh (Nat.le_refl _), rfl, fun ys hy => by rw [I.tuple_inj hy hq]; exact hx⟩, ⟨⟨u, ?_⟩, ?_, hne⟩, fun b hb => ?_⟩
    · rw [show ((i + 1 : Nat) : Int) = (i : Int) + 1 by omega]; exact he'
    · obtain ⟨o2, h2, r2⟩ := st'.1
      exact ⟨o2, (sb.2 it (Ne.symm hne)).trans h2, r2⟩
    · have hb' : b < s.heap.objs.size := by
        rcases (by simpa using hb : b = e ∨ b = it) with z | z
        · rw [z]; exact hel
        · rw [z]; exact hil
      rw [upd_ne (Nat.ne_of_lt hb')]
      exact (hf b hb).1
  done := by
    intro X hP hw hK hc i pins s σ H E I hf st hg
    subst hP hw hK
    obtain ⟨⟨old, he⟩, hit, hne⟩ := st
    obtain ⟨xs, hq, hx⟩ := hg
    obtain ⟨its, rv, p, hz⟩ := I.tuple hq
    have p' : s.heap.IsTuple a its.toArray := p
    obtain ⟨f0, f1, f2, f3, f4, f5⟩ := hf it (by simp)
    have hT : s.TypeIs (.ref e) "enumerate" := ⟨_, he, rfl⟩
    have hl := rv.length
    unfold pyNext
    refine wpAny_bind (wpAny_attempt (wpAny_callSpecial?_slot (name := Str.ofString "__next__") hT F.slot_enumerate_next (wpAny_call_entry F.slot_enumerate_next hT F.entry_enumerate_next ?_ (F.args_enumerate_next_1 _))))
    show wpAny _ _ (field (.ref e) 2 >>= _) _ _ _
    refine wpAny_bind (wpAny_field he rfl (x := .ref it) rfl (wpAny_bind (wpAny_nextOf_tuple_end (I.ok.hd hc) hit p' (by simp; omega) fun h' x he' hx' => ?_)))
    obtain ⟨o, ho, hcs⟩ := hx'
    exact wpAny_bind (wpAny_isInstance (T := "StopIteration") (b := true) ⟨o, ho, hcs⟩ isSubtype_stop (wpAny_pure ⟨rfl, I.turned (t' := s.toks) (fun b o hb q => he' b o hb q) f0 f1 f3 f4 f5⟩))
  self := fun A i s Q E st h => let ⟨⟨_, he⟩, _⟩ := st; wpAny_pyIter_enum he h
def iEnB (K : Fg) (ta : TA) : TI := fun σ H R => ta σ H fun vs H1 => ∃ a, vs = [.ref a] ∧ (((∃ xs, SqL K H1 a xs) ∧ R (Ite K a) H1) ∨ ((∃ xs, SqT K H1 a xs) ∧ R (IteT K a) H1))
theorem pi_enB {X : Cx} {e : Expr} {ta : TA} {p pos tpos : Pos} {elts : List Expr} {kk : Nat} (hg : Gl X "enumerate") (hm : X.mg "enumerate" = none) (ha : PA X [e] ta) (hs : starEach [e] X.env = (false, eval e X.env) :: starEach [] X.env := by rfl) :
    PI X (.Tuple elts kk tpos) (.Call (.Name "enumerate" p) [e] [] pos) (iEnB X.K ta) := by
  refine ⟨fun pins s σ H R I h => Call_ (ld_blt I hg hm boot_enumerate (PyProof.Rows.callWith_type1 (thn (ha.run pos pins s σ H _ I h) fun us s1 ⟨vs, H1, I1, r1, a, ex, q1⟩ => ?_) hs rfl))⟩
  subst ex
  obtain ⟨u, rfl, ru⟩ := vals1 r1
  obtain rfl : u = .ref a := ru
  have fp : ∀ b ∈ [s1.heap.objs.size + 1, s1.heap.objs.size], FpOk X pins H1 b := fun b hb => by
    have hle : s1.heap.objs.size ≤ b := by
      rcases (by simpa using hb : b = s1.heap.objs.size + 1 ∨ b = s1.heap.objs.size) with z | z
      · rw [z]; exact Nat.le_add_right _ _
      · rw [z]; exact Nat.le_refl _
    exact I1.fpOk hle (I1.hok.fresh hle)
  rcases q1 with ⟨⟨xs, hq⟩, q⟩ | ⟨⟨xs, hq⟩, q⟩
  · obtain ⟨its, rv, p', hz⟩ := I1.list hq
    exact call_enumerate_list p'.isList fun h' he hit hsz hk => wpAny_pyIter_enum he ⟨s1.heap.objs.size + 1, [s1.heap.objs.size + 1, s1.heap.objs.size], _, _, H1, rfl, I1.kept (t' := s1.toks) hk, turn_enum a (s1.heap.objs.size + 1) s1.heap.objs.size, ⟨⟨.none, he⟩, hit, Nat.succ_ne_self _⟩, fp, q⟩
  · obtain ⟨its, rv, p', hz⟩ := I1.tuple hq
    exact dl_call_enumT (show s1.heap.IsTuple a its.toArray from p') fun h' he hit hsz hk => wpAny_pyIter_enum he ⟨s1.heap.objs.size + 1, [s1.heap.objs.size + 1, s1.heap.objs.size], _, _, H1, rfl, I1.kept (t' := s1.toks) hk, turn_enT a (s1.heap.objs.size + 1) s1.heap.objs.size, ⟨⟨.none, he⟩, hit, Nat.succ_ne_self _⟩, fp, q⟩
theorem ItOk.enumT {K : Fg} {H0 : Hp} {M0 : Mem} {ow : Option Addr} {ds : List D} {a : Addr} (hs : ∀ H M, Gw H0 M0 H M → MOk K H M → (∀ a, ow = some a → M a = M0 a) → ∃ xs, SqT K H a xs ∧ Rs K H M ds xs) : ItOk K (IteT K a) H0 M0 ow (enmFrom 0 ds) := by
  refine ⟨fun i H M g mo hw hi => ?_, fun H M g mo hw => ?_⟩
  · rw [enmFrom_len] at hi
    obtain ⟨xs, h1, h2⟩ := hs H M g mo hw
    obtain ⟨v, e1, e2⟩ := Rs.get h2 (List.getElem?_eq_getElem hi)
    refine ⟨⟨xs, v, h1, e1⟩, fun y H' ⟨T, x, eT, hT, eH, hy⟩ => ?_⟩
    subst eT; subst eH
    have e3 := hy xs h1
    rw [e1] at e3; cases e3
    refine ⟨.tup [.int ((0 + i : Nat) : Int), ds[i]], by rw [enmFrom_get, List.getElem?_eq_getElem hi]; rfl, gw_new hT, mok_new mo hT, new_tup mo hT (Rs.cons ?_ (Rs.cons e2 Rs.nil))⟩
    rw [Nat.zero_add]; exact rfl
  · rw [enmFrom_len]
    obtain ⟨xs, h1, h2⟩ := hs H M g mo hw
    exact ⟨xs, h1, by rw [vlen h2]; exact Nat.le_refl _⟩
def iEnmB (te : TED) : TID := fun Xd s M R => dCons te dNil Xd s M fun ds M1 => ∃ d, ds = [d] ∧ itemK (fun ds ow M1 => R (enmFrom 0 ds) ow M1) d M1
theorem di_enumB {X : Cx} {E : XK} {e : Expr} {te : TED} {p pos tpos : Pos} {elts : List Expr} {kk : Nat} (hg : Gl X "enumerate") (hm : X.mg "enumerate" = none) (he : DE X E e te) (hs : starEach [e] X.env = (false, eval e X.env) :: starEach [] X.env := by rfl) :
    DI X E (.Tuple elts kk tpos) (.Call (.Name "enumerate" p) [e] [] pos) (iEnmB te) := by
  refine ⟨_, pi_enB hg hm (dn_cons he dn_nil hs).ok hs, fun {σ H s M Xd Qd R} S x t q => ?_⟩
  refine useN S x t fun ds vs M1 H1 hl g1 S1 x1 r1 t1 => ?_
  obtain ⟨d, rfl, t1⟩ := t1
  obtain ⟨v, hv, rd⟩ := rs1 r1
  unfold itemK at t1
  split at t1
  · rename_i ds
    obtain ⟨p, xs, rfl, hp, sp⟩ := rd
    exact ⟨p, hv, .inr ⟨⟨xs, hp.sq⟩, q _ _ _ _ _ g1 S1.mem (ItOk.enumT fun H M g mo _ => ⟨xs, (g.rt hp).sq, Rs.grow g ds xs sp⟩) t1⟩⟩
  · rename_i ds
    obtain ⟨p, xs, rfl, hp, hm, sp⟩ := rd
    exact ⟨p, hv, .inl ⟨⟨xs, SqL.of hp⟩, q _ _ _ _ _ g1 S1.mem (ItOk.enum fun H M g mo _ => ⟨xs, SqL.of (g.at hp hm).1, Rs.grow g ds xs sp⟩) t1⟩⟩
  · rename_i ds
    obtain ⟨p, xs, rfl, hp, sp⟩ := rd
    exact ⟨p, hv, .inl ⟨⟨xs, hp.sq⟩, q _ _ _ _ _ g1 S1.mem (ItOk.enum fun H M g mo _ => ⟨xs, (g.rl hp).sq, Rs.grow g ds xs sp⟩) t1⟩⟩
  · rename_i p
    split at t1
    · rename_i ds hm
      have hv' : v = .ref p := rd
      subst hv'
      obtain ⟨xs, hp, sp⟩ := S1.mem p _ hm
      refine ⟨p, hv, .inl ⟨⟨xs, SqL.of hp⟩, q _ _ _ (some p) _ g1 S1.mem (ItOk.enum fun H M g mo hw => ?_) t1⟩⟩
      have e := hw p rfl
      rw [hm] at e
      obtain ⟨ys, h1, h2⟩ := mo p _ e
      exact ⟨ys, SqL.of h1, h2⟩
    · exact t1.elim
  · exact t1.elim
end DL
set_option maxHeartbeats 1000000
namespace DL
open PySem PySem.Spec PyProof.Rows L2 RZ
/-! ### zip of two lists, or of two tuples -/
def zpD : List D → List D → List D
  | d :: ds, e :: es => .tup [d, e] :: zpD ds es
  | _, _ => []
theorem zpD_get : ∀ (ds es : List D) (i : Nat), (zpD ds es)[i]? = match ds[i]?, es[i]? with | some d, some e => some (D.tup [d, e]) | _, _ => none
  | [], es, i => by simp [zpD]
  | d :: ds, [], i => by
    simp only [zpD, List.getElem?_nil]
    split <;> simp_all
  | d :: ds, e :: es, 0 => by simp [zpD]
  | d :: ds, e :: es, i + 1 => by
    simp only [zpD, List.getElem?_cons_succ]
    exact zpD_get ds es i
theorem zpD_len : ∀ (ds es : List D), (zpD ds es).length = min ds.length es.length
  | [], es => by simp [zpD]
  | d :: ds, [] => by simp [zpD]
  | d :: ds, e :: es => by
    simp only [zpD, List.length_cons, zpD_len ds es]; omega
theorem ItOk.zip {K : Fg} {H0 : Hp} {M0 : Mem} {ds es : List D} {a b : Addr} (hs : ∀ H M, Gw H0 M0 H M → ∃ xs, SqL K H a xs ∧ Rs K H M ds xs) (ht : ∀ H M, Gw H0 M0 H M → ∃ ys, SqL K H b ys ∧ Rs K H M es ys) : ItOk K (Itz K a b) H0 M0 none (zpD ds es) := by
  refine ⟨fun i H M g mo hw hi => ?_, fun H M g mo hw => ?_⟩
  · rw [zpD_len] at hi
    have i1 : i < ds.length := by omega
    have i2 : i < es.length := by omega
    obtain ⟨xs, h1, h2⟩ := hs H M g
    obtain ⟨ys, k1, k2⟩ := ht H M g
    obtain ⟨v, e1, e2⟩ := Rs.get h2 (List.getElem?_eq_getElem i1)
    obtain ⟨u, f1, f2⟩ := Rs.get k2 (List.getElem?_eq_getElem i2)
    refine ⟨⟨xs, ys, v, u, h1, k1, e1, f1⟩, fun z H' ⟨T, x, y, eT, hT, eH, hx, hy⟩ => ?_⟩
    subst eT; subst eH
    have e3 := hx xs h1
    rw [e1] at e3; cases e3
    have f3 := hy ys k1
    rw [f1] at f3; cases f3
    exact ⟨.tup [ds[i], es[i]], by rw [zpD_get, List.getElem?_eq_getElem i1, List.getElem?_eq_getElem i2], gw_new hT, mok_new mo hT, new_tup mo hT (Rs.cons e2 (Rs.cons f2 Rs.nil))⟩
  · rw [zpD_len]
    obtain ⟨xs, h1, h2⟩ := hs H M g
    obtain ⟨ys, k1, k2⟩ := ht H M g
    exact ⟨xs, ys, h1, k1, by rw [vlen h2, vlen k2]; omega⟩
/-- the items of a list that is not changed -/
def lsdO : D → Option (List D)
  | .lst ds => some ds
  | .fzn ds => some ds
  | _ => none
def zipK (R : List D → Option Addr → Mem → Prop) (d e : D) (M : Mem) : Prop := match d, e with
  | .tup ds, .tup es => R (zpD ds es) none M
  | d, e => ∃ ds es, lsdO d = some ds ∧ lsdO e = some es ∧ R (zpD ds es) none M
def iZipD (te te2 : TED) : TID := fun Xd s M R => dCons te (dCons te2 dNil) Xd s M fun ds M1 => ∃ d e, ds = [d, e] ∧ zipK R d e M1
end DL
set_option maxHeartbeats 1000000
namespace DL
open PySem PySem.Spec PyProof.Rows L2
/-! ### xs.index(i), a list of integers -/
end DL
set_option maxHeartbeats 1000000
namespace PySem
end PySem
namespace DL
open PySem PySem.Spec PyProof.Rows L2
/-! ### first, *rest = a list -/
end DL
set_option maxHeartbeats 1000000
namespace DL
open PySem PySem.Spec PyProof.Rows L2
section
variable {X : Cx} {E E0' : XK} {n k : Nat} {x : Str} {p pos p2 pos' apos tpos : Pos} {e a b c tg o i value iter elt : Expr} {es : List Expr} {ts : TAD} {te ta tb td tv to ti : TED}
/-! ### list(x), to be changed -/
def listCO : OC := fun ds M Q => match ds with
  | [d] => match itemsO M d with
    | some es => ∀ p, M p = none → Q (.ref p) (M.put p (.lst es))
    | none => False
  | _ => False
theorem dc_listO : DC X (.type "list") listCO := by
  intro pins s σ H M xs ds us Q Qd I mo r rv t q
  unfold listCO at t
  split at t
  · rename_i d
    obtain ⟨v, rfl, rd⟩ := rs1 r
    split at t
    · rename_i es he
      obtain ⟨a, ys, rfl, ha, sa⟩ := items_of mo rd he
      exact call_list_of pins s σ H _ us Q I rv ⟨a, ys, rfl, ha, fun l hl => q _ _ (up_own_lst mo hl sa (t l (m_none mo hl)))⟩
    · exact t.elim
  · exact t.elim
/-! ### xs.reverse() -/
def dRvs (to : TED) : TED := fun Xd s M Q => to Xd s M fun o M1 => match o with
  | .ref p => match M1 p with
    | some (.lst ds) => Q .non (M1.put p (.lst ds.reverse))
    | _ => False
  | _ => False
theorem de_rvs (ho : DE X E o to) (hbase : attributeBase o "reverse" X.env (eval o X.env) = eval o X.env := by rfl)
    (hline : (apos.endLine == pos.line) = true := by rfl) : DE X E (.Call (.Attribute o "reverse" apos) [] [] pos) (dRvs to) :=
  ⟨PE.imp (pe_bm0 PySem.F.plainAttrs_list PySem.F.slot_list_reverse PySem.F.type_list_reverse mt_reverse ho.ok hbase hline) fun σ H Q ⟨s, M, Qd, Xd, S, x, t, q⟩ => by
    refine useE S x t fun od v M1 H1 g1 S1 x1 r1 t1 => ?_
    split at t1
    · rename_i l
      have ev : v = .ref l := r1
      split at t1
      · rename_i ds hm
        obtain ⟨xs, h1, h2⟩ := S1.mem l _ hm
        subst ev
        refine ⟨.inl ⟨rfl, xs, SqL.of h1⟩, l, xs, rfl, rfl, h1, ?_⟩
        exact q _ _ ⟨.non, M1.put l (.lst ds.reverse), g1.trans (gw_put hm), mok_put S1.mem hm ⟨xs.reverse, upd_same, Rs.grow (gw_put hm) _ _ (Rs.reverse h2)⟩, rfl, t1⟩
      · exact t1.elim
    · exact t1.elim⟩
/-! ### xs[i] += e -/
theorem get_list : PGet X (rIxL X.K) := by
  intro pins s σ H x y v u Q I rx ry h
  obtain ⟨p, xs, i, z, rfl, rfl, hq, he, q⟩ := h
  cases rx
  obtain ⟨t, rfl⟩ := ry
  obtain ⟨its, r, pl, hz⟩ := I.list hq
  obtain ⟨j, h1, h2, h3, h4, h5⟩ := atI_get he
  obtain ⟨w, ew, rw'⟩ := r.get h2
  have hl := r.length
  have hn := line63
  have fin : EP X pins σ Q w s := ⟨z, H, I, rw', q⟩
  by_cases h0 : 0 ≤ i
  · have hj : i.toNat = j := by
      rw [seqIndex_of h0 h5] at h1
      exact Option.some.inj h1
    exact wpAny_getItem_list pl.isList h0 (by omega) (by rw [hj]; simpa using ew) fin
  · have hj : (i + (its.toArray.size : Int)).toNat = j := by
      rw [seqIndex_neg (by omega) h4] at h1
      rw [List.size_toArray, ← hl]
      exact Option.some.inj h1
    exact wpAny_getItem_list_neg pl.isList (by omega) (by rw [List.size_toArray] <;> omega) (by omega) (by rw [hj]; simpa using ew) fin
/-- the list at an owned place -/
def augK (f : Int → Int → Int) (te : TED) (Y : EndsD) (s : SD) (o i : D) : Mem → Prop := fun M => match o, i with
  | .ref p, .int z => match M p with
    | some (.lst ds) => match atI ds z with
      | some (.int u) => te Y.ex s M fun y M1 => match y with
        | .int w => setK (.ref p) (.int z) (.int (f u w)) (fun M2 => Y.nx s M2) M1
        | _ => False
      | _ => False
    | _ => False
  | _, _ => False
def sAugS (f : Int → Int → Int) (to ti te : TED) : TSD := fun Y s M => to Y.ex s M fun o M1 => ti Y.ex s M1 fun i M2 => augK f te Y s o i M2
theorem ds_augS {op : Operator} {f : Int → Int → Int} (hp : PIp X op (ipI f)) (hu : X.A.units + 1 < cLine) (ho : DE X E o to) (hi : DE X E i ti) (he : DE X E e te)
    (ha : ∀ ov iv new, augStore i ov iv new = (do holding [new, ov, iv] (setItem ov iv new); release [new, ov, iv] []; pure .next) := by intros; rfl) : DS X E (.AugAssign (.Subscript o i tpos) op e pos) (sAugS f to ti te) :=
  ⟨PS.imp (ps_augS ho.ok hi.ok get_list he.ok hp (set_any hu) ha) fun Z σ H ⟨s, M, Y, S, x, t, h⟩ => by
    refine useE S x t fun od ov M1 H1 g1 S1 x1 r1 t1 => ?_
    refine useE S1 x1 t1 fun idd iv M2 H2 g2 S2 x2 r2 t2 => ?_
    unfold augK at t2
    split at t2
    · rename_i p z
      have eo : ov = .ref p := r1
      have ei : iv = .int z := r2
      split at t2
      · rename_i ds hm
        obtain ⟨xs, h1, h2⟩ := S2.mem p _ hm
        split at t2
        · rename_i u hu'
          obtain ⟨w, hw, rw'⟩ := atI_rs h2 hu'
          refine ⟨p, xs, z, w, eo, ei, SqL.of h1, hw, ?_⟩
          refine useE S2 x2 t2 fun yd y M3 H3 g3 S3 x3 r3 t3 => ?_
          split at t3
          · rename_i w2
            refine ⟨u, w2, rw', r3, ?_⟩
            refine setK_ok (H0 := H3) (M0 := M3) (do_ := .ref p) (di := .int z) (dv := .int (f u w2)) S3.mem eo ei rfl t3 fun H4 M4 g4 m4 t4 => ?_
            exact h.1 _ _ ⟨s, M4, ((g1.trans g2).trans g3).trans g4, S3.grow g4 m4, t4⟩
          · exact t3.elim
        · exact t2.elim
      · exact t2.elim
    · exact t2.elim⟩
/-! ### x += e of an int -/
end
/-! ### freezing within a tuple -/
theorem rs_setf {K : Fg} {H : Hp} {M : Mem} {a : Addr} {ds : List D} {xs : List V} (h1 : H a = some (.lst xs)) (h2 : Rs K H (M.del a) ds xs) : ∀ {ts : List D} {vs : List V} {i : Nat}, Rs K H (M.del a) ts vs → ts[i]? = some (.ref a) → Rs K H (M.del a) (ts.set i (.lst ds)) vs
  | [], _, _, _, e => by simp at e
  | t :: ts, _, 0, ⟨v, r, rfl, q, w⟩, e => by
    simp at e; subst e
    exact Rs.cons ⟨a, xs, q, h1, Mem.del_same, h2⟩ w
  | t :: ts, _, i + 1, ⟨v, r, rfl, q, w⟩, e => Rs.cons q (rs_setf h1 h2 w (by simpa using e))
theorem lo_frzT {Q : QD} {M : Mem} {a : Addr} {ds ts : List D} (i : Nat) (hi : ts[i]? = some (.ref a)) (e : M a = some (.lst ds)) (h : Lo Q (.tup (ts.set i (.lst ds))) (M.del a)) : Lo Q (.tup ts) M := by
  obtain ⟨d2, M2, l, q⟩ := h
  have hs : ∀ b o, (M.del a) b = some o → M b = some o := fun b o e => by
    by_cases z : b = a
    · subst z; rw [Mem.del_same] at e; cases e
    · rw [Mem.del_ne z] at e; exact e
  have hn : ∀ b, M b = none → (M.del a) b = none := fun b e => by
    by_cases z : b = a
    · subst z; exact Mem.del_same
    · rw [Mem.del_ne z]; exact e
  refine ⟨d2, M2, ⟨fun b o e => hs b o (l.sub b o e), fun b e => l.nn b (hn b e), fun K H v mo r => ?_⟩, q⟩
  obtain ⟨xs, h1, h2⟩ := mo a _ e
  obtain ⟨p, vs, rfl, rt, rs⟩ := r
  have mo2 := mok_less hs hn mo
  refine l.rv K H _ mo2 ⟨p, vs, rfl, (gw_less hn).rt rt, rs_setf h1 (Rs.grow (gw_less hn) ds xs h2) (Rs.grow (gw_less hn) _ _ rs) hi⟩
/-! ### a comprehension whose list will be changed -/
section
variable {X : Cx} {E : XK} {n k : Nat} {x : Str} {p pos p2 pos' apos tpos : Pos} {e a b c tg : Expr} {es : List Expr} {ts : TAD} {te ta tb td tv to : TED}
def endKO (p : Addr) (Q : QD) : Mem → Prop := fun M => match M p with
  | some (.lst acc) => Q (.ref p) M
  | _ => False
def dLcLO (g : TGD) (tt : TTD) (te : TED) (s0 : SD) (W : Mem → Prop) (p : Addr) (Q : QD) : List D → Mem → Prop
  | [], M => W M ∧ endKO p Q M
  | d :: ds, M => W M ∧ g d X0 s0 M fun s' M' => tt X0 s' M' fun b M2 => if b = true then te X0 s' M2 (fun r => accK p r (dLcLO g tt te s0 W p Q ds)) else dLcLO g tt te s0 W p Q ds M2
def dLcO (ti : TID) (g : TGD) (tt : TTD) (te : TED) (vs : List Nat) : TED := fun Xd s M Q => ti Xd s M fun ds ow M1 => ∀ p, M1 p = none → dLcLO g tt te (wipeD s vs) (wat ow M1) p Q ds (M1.put p (.lst []))
theorem lift_lcO {J : It} {ow : Option Addr} {g : TGD} {g1 : TG} {tt : TTD} {Y : Cx} {vs : List Nat} {σ : L2.St} {s : SD} {H0 H1 : Hp} {M0 M1 : Mem} {ds : List D} {Qd : QD} {Q : VK} {p : Addr} (hK : Y.K = X.K)
    (q1 : ∀ {v : V} {d : D} {σ : L2.St} {H : Hp} {s : SD} {M : Mem} {Xd : XD} {Qd : SD → Mem → Prop} {Q : L2.St → Hp → Prop}, StOk X.K σ H s M → XTo X.K H M Xd E0 → Rv X.K H M d v → g d Xd s M Qd →
      (∀ σ' H', upS X.K H M Qd σ' H' → L2.wipe σ' vs = L2.wipe σ vs → Q σ' H') → g1 v σ H Q)
    (S : StOk X.K σ H1 s M1) (io : ItOk X.K J H1 M1 ow ds) (hp : H1 p = none) (td : dLcLO g tt te (wipeD s vs) (wat ow M1) p Qd ds (M1.put p (.lst []))) (g0 : Gw H0 M0 H1 M1) (q : ∀ v H', upE X.K H0 M0 Qd v H' → Q v H') :
    ∃ W : Nat → Nat → Hp → Prop, (∃ m, W 0 m (upd H1 p (.lst []))) ∧ ∀ i m H, W i m H →
      (J.stop i H ∧ Q (.ref p) H) ∨ (J.go i H ∧ ∃ Nx : Hp → Prop, (∀ H', Nx H' → ∃ m', m' < m ∧ W (i + 1) m' H') ∧ ∀ x H', J.yld i H x H' → g1 x (L2.wipe σ vs) H' fun σ2 H2 => L2.wipe σ2 vs = L2.wipe σ vs ∧ liftT X.K E0 tt σ2 H2 fun b H3 =>
        if b = true then liftE X.K E0 te σ2 H3 fun y H4 => ∃ acc, H4 p = some (.lst acc) ∧ acc.length < sizeLine ∧ Nx (upd H4 p (.lst (acc ++ [y]))) else Nx H3) := by
  have ew : ∀ σ2 : L2.St, L2.wipe σ2 vs = L2.wipe (L2.wipe σ vs) vs → L2.wipe σ2 vs = L2.wipe σ vs := fun σ2 e => by rw [e, wipe_wipe]
  have S0 : StOk X.K (L2.wipe σ vs) H1 (wipeD s vs) M1 := S.wipe vs
  have gp : Gw H1 M1 (upd H1 p (.lst [])) (M1.put p (.lst [])) := gw_own hp
  have mp : MOk X.K (upd H1 p (.lst [])) (M1.put p (.lst [])) := mok_own S.mem hp (show MObj X.K (upd H1 p (.lst [])) (M1.put p (.lst [])) p (.lst []) from ⟨[], upd_same, rfl⟩)
  refine ⟨fun i m H => m = ds.length - i ∧ i ≤ ds.length ∧ ∃ M, Gw H1 M1 H M ∧ MOk X.K H M ∧ dLcLO g tt te (wipeD s vs) (wat ow M1) p Qd (ds.drop i) M, ⟨ds.length, rfl, Nat.zero_le _, M1.put p (.lst []), gp, mp, td⟩, fun i m H hW => ?_⟩
  obtain ⟨em, hi', M, gM, mo, td'⟩ := hW
  by_cases hlt : i < ds.length
  · rw [List.drop_eq_getElem_cons hlt] at td'
    obtain ⟨hw, td'⟩ := td'
    obtain ⟨hgo, hy⟩ := io.go i H M gM mo (wat_of hw) hlt
    have back : ∀ H2 M2, Gw H1 M1 H2 M2 → MOk X.K H2 M2 → dLcLO g tt te (wipeD s vs) (wat ow M1) p Qd (ds.drop (i + 1)) M2 → ∃ m', m' < m ∧ (m' = ds.length - (i + 1) ∧ i + 1 ≤ ds.length ∧ ∃ M, Gw H1 M1 H2 M ∧ MOk X.K H2 M ∧ dLcLO g tt te (wipeD s vs) (wat ow M1) p Qd (ds.drop (i + 1)) M) :=
      fun H2 M2 a1 a2 a3 => ⟨ds.length - (i + 1), by omega, rfl, by omega, M2, a1, a2, a3⟩
    refine .inr ⟨hgo, fun H2 => ∃ M2, Gw H1 M1 H2 M2 ∧ MOk X.K H2 M2 ∧ dLcLO g tt te (wipeD s vs) (wat ow M1) p Qd (ds.drop (i + 1)) M2, fun H2 ⟨M2, a1, a2, a3⟩ => back H2 M2 a1 a2 a3, fun v H2 hyl => ?_⟩
    obtain ⟨d, hd, g2, m2, r2⟩ := hy v H2 hyl
    have ed : d = ds[i] := by rw [List.getElem?_eq_getElem hlt] at hd; exact (Option.some.inj hd).symm
    subst ed
    have S2 : StOk X.K (L2.wipe σ vs) H2 (wipeD s vs) M := S0.grow (gM.trans g2) m2
    refine q1 S2 x0_to r2 td' fun σ3 H3 ⟨s3, M3, g3, S3, z3⟩ e3 => ⟨ew σ3 e3, ?_⟩
    refine useT S3 x0_to z3 fun bb M4 H4 g4 S4 x4 z4 => ?_
    have gg : Gw H1 M1 H4 M4 := ((gM.trans g2).trans g3).trans g4
    cases bb with
    | false =>
      rw [if_neg Bool.false_ne_true] at z4 ⊢
      exact ⟨M4, gg, S4.mem, z4⟩
    | true =>
      rw [if_pos rfl] at z4 ⊢
      refine useE S4 x4 z4 fun r y M5 H5 g5 S5 x5 r5 z5 => ?_
      unfold accK at z5
      split at z5
      · rename_i acc hacc
        obtain ⟨xs, h1, h2⟩ := S5.mem p _ hacc
        refine ⟨xs, h1, by rw [vlen h2]; exact z5.1, M5.put p (.lst (acc ++ [r])), (gg.trans g5).trans (gw_put hacc), mok_put S5.mem hacc ?_, z5.2⟩
        exact ⟨xs ++ [y], upd_same, Rs.grow (gw_put hacc) _ _ (Rs.append h2 (Rs.cons r5 Rs.nil))⟩
      · exact z5.elim
  · have e : i = ds.length := by omega
    subst e
    rw [List.drop_length] at td'
    obtain ⟨hw, td'⟩ := td'
    refine .inl ⟨io.stop H M gM mo (wat_of hw), ?_⟩
    unfold endKO at td'
    split at td'
    · rename_i acc hacc
      obtain ⟨xs, h1, h2⟩ := mo p _ hacc
      exact q _ _ ⟨.ref p, M, g0.trans gM, mo, rfl, td'⟩
    · exact td'.elim
theorem ds_setLcO {i : Nat} {y : Str} {py spos : Pos} {elt iter : Expr} {ifs : List Expr} {scope : Scope} {own : List (Str × Nat)} {ti : TID} {g : TGD} {tt : TTD} (hc : X.calm = true) (hN : X.N.Nodup) (hy : X.N[i]? = some y) (hyl : X.env.scope.names.lookup y = some .local)
    (hsw : swapsWith (.ListComp elt [⟨tg, iter, ifs, 0⟩] scope pos) (some (.Name y py)) spos.line X.env = pure true) (hi : DI X E tg iter ti) (ok : BlkOk X.N X.env.scope scope own) (g1 : TG)
    (hg : ∀ (s : Shared) (H : Hp) (C : Addr) (cl : List (Str × Addr)) (fp : List Addr), PG (X.blk s H scope (compEnvC scope cl C X.env) fp) tg g1)
    (hq : ∀ {v : V} {d : D} {σ : L2.St} {H : Hp} {s : SD} {M : Mem} {Xd : XD} {Qd : SD → Mem → Prop} {Q : L2.St → Hp → Prop}, StOk X.K σ H s M → XTo X.K H M Xd E0 → Rv X.K H M d v → g d Xd s M Qd →
      (∀ σ' H', upS X.K H M Qd σ' H' → L2.wipe σ' (own.map (·.2)) = L2.wipe σ (own.map (·.2)) → Q σ' H') → g1 v σ H Q)
    (ht : ∀ (s : Shared) (H : Hp) (C : Addr) (cl : List (Str × Addr)) (fp : List Addr), DTs (X.blk s H scope (compEnvC scope cl C X.env) fp) E0 ifs tt)
    (he : ∀ (s : Shared) (H : Hp) (C : Addr) (cl : List (Str × Addr)) (fp : List Addr), DE (X.blk s H scope (compEnvC scope cl C X.env) fp) E0 elt te) (hs : ∀ x, foldedSetIterable iter X.env x = pure x := by intro _; rfl) :
    DS X E (.Assign [.Name y py] (.ListComp elt [⟨tg, iter, ifs, 0⟩] scope pos) spos) (sSet i (dLcO ti g tt te (own.map (·.2)))) := by
  obtain ⟨wi, pi, qi⟩ := hi.ok
  refine ⟨PS.imp (ps_setLc (tt := liftT X.K E0 tt) (te := liftE X.K E0 te) hc hN hy hyl hsw pi ok hg (fun s H C cl fp => (ht s H C cl fp).ok) (fun s H C cl fp => (he s H C cl fp).ok) hs) fun Z σ H ⟨s, M, Y, S, x, t, h⟩ => ?_⟩
  refine qi S x t fun J H1 M1 ow ds gr mo io td p hp => ?_
  refine lift_lcO (Y := X) (Q := fun v H' => Z.nx (σ.set i (some v)) H') rfl hq (S.grow gr mo) io hp (td p (m_none mo hp)) gr fun v H' ⟨d, M', g, m, r, z⟩ => ?_
  exact h.1 _ _ ⟨s.set i (some d), M', g, (S.grow g m).set i r, z⟩
theorem ds_setCompO {i : Nat} {y : Str} {py spos : Pos} {elt iter : Expr} {ifs : List Expr} {scope : Scope} (own : List (Str × Nat)) {ti : TID} {g : TGD} {tt : TTD} (g1 : TG) (hc : X.calm = true) (hN : X.N.Nodup) (hy : X.N[i]? = some y) (hyl : X.env.scope.names.lookup y = some .local)
    (hsw : swapsWith (.ListComp elt [⟨tg, iter, ifs, 0⟩] scope pos) (some (.Name y py)) spos.line X.env = pure true) (hi : DI X E tg iter ti) (ok : BlkOk X.N X.env.scope scope own)
    (hg : ∀ (s : Shared) (H : Hp) (C : Addr) (cl : List (Str × Addr)) (fp : List Addr), PG (X.blk s H scope (compEnvC scope cl C X.env) fp) tg g1) (hq : GV X.K (own.map (·.2)) g g1)
    (ht : ∀ (s : Shared) (H : Hp) (C : Addr) (cl : List (Str × Addr)) (fp : List Addr), DTs (X.blk s H scope (compEnvC scope cl C X.env) fp) E0 ifs tt)
    (he : ∀ (s : Shared) (H : Hp) (C : Addr) (cl : List (Str × Addr)) (fp : List Addr), DE (X.blk s H scope (compEnvC scope cl C X.env) fp) E0 elt te) (hs : ∀ x, foldedSetIterable iter X.env x = pure x := by intro _; rfl) :
    DS X E (.Assign [.Name y py] (.ListComp elt [⟨tg, iter, ifs, 0⟩] scope pos) spos) (sSet i (dLcO ti g tt te (own.map (·.2)))) := ds_setLcO hc hN hy hyl hsw hi ok g1 hg hq ht he hs
end
end DL
set_option maxHeartbeats 1000000
namespace DL
open PySem PySem.Spec PyProof.Rows L2
section
variable {Xd : XD} {s : SD} {M : Mem} {Q : QD} {te ta tb tc to ti t1 : TED} {A : TAD} {t u : TSD} {c d1 : TTD} {d e x y : D} {nx bk ct : SD → Mem → Prop} {rt : QD} {ex : XD} {ds es : List D} {a p : Addr} {R : Bool → Mem → Prop} {L : List D → Mem → Prop}
/-! ### statements -/
theorem w_seq (h : t ⟨u ⟨nx, rt, bk, ct, ex⟩, rt, bk, ct, ex⟩ s M) : sSeq t u ⟨nx, rt, bk, ct, ex⟩ s M := h
theorem w_nx (h : nx s M) : sNx ⟨nx, rt, bk, ct, ex⟩ s M := h
theorem w_bk (h : bk s M) : sBk ⟨nx, rt, bk, ct, ex⟩ s M := h
theorem w_ct (h : ct s M) : sCt ⟨nx, rt, bk, ct, ex⟩ s M := h
theorem w_ret (h : te ex s M rt) : sRet te ⟨nx, rt, bk, ct, ex⟩ s M := h
theorem w_retN (h : rt .non M) : sRetN ⟨nx, rt, bk, ct, ex⟩ s M := h
theorem w_expr (h : te ex s M fun _ M1 => nx s M1) : sExpr te ⟨nx, rt, bk, ct, ex⟩ s M := h
theorem w_ifS (h : c ex s M fun b M1 => if b = true then t ⟨nx, rt, bk, ct, ex⟩ s M1 else u ⟨nx, rt, bk, ct, ex⟩ s M1) : sIf c t u ⟨nx, rt, bk, ct, ex⟩ s M := h
theorem w_asg {g : TGD} (h : te ex s M fun d M1 => g d ex s M1 nx) : sAsg te g ⟨nx, rt, bk, ct, ex⟩ s M := h
theorem w_augS {f} (h : to ex s M fun o M1 => ti ex s M1 fun i M2 => augK f te ⟨nx, rt, bk, ct, ex⟩ s o i M2) : sAugS f to ti te ⟨nx, rt, bk, ct, ex⟩ s M := h
theorem w_for {ti : TID} {g : TGD} (h : ti ex s M fun ds ow M1 => sForL g t ⟨nx, rt, bk, ct, ex⟩ (wat ow M1) ds s M1) : sFor ti g t ⟨nx, rt, bk, ct, ex⟩ s M := h
theorem w_forNil {g : TGD} {W : Mem → Prop} (hW : W M) (h : nx s M) : sForL g t ⟨nx, rt, bk, ct, ex⟩ W [] s M := ⟨hW, h⟩
theorem w_forCons {g : TGD} {W : Mem → Prop} (hW : W M) (h : g d ex s M fun s' M' => t ⟨sForL g t ⟨nx, rt, bk, ct, ex⟩ W ds, rt, nx, sForL g t ⟨nx, rt, bk, ct, ex⟩ W ds, ex⟩ s' M') : sForL g t ⟨nx, rt, bk, ct, ex⟩ W (d :: ds) s M := ⟨hW, h⟩
/-- what comes behind a statement, once for all its ways -/
theorem w_join {P : Mem → Prop} (hu : ∀ M1, P M1 → u ⟨nx, rt, bk, ct, ex⟩ s M1) (h : (∀ M1, P M1 → u ⟨nx, rt, bk, ct, ex⟩ s M1) → sSeq t u ⟨nx, rt, bk, ct, ex⟩ s M) : sSeq t u ⟨nx, rt, bk, ct, ex⟩ s M := h hu
theorem w_sl {l h : TOD} (H : te Xd s M fun d M1 => l Xd s M1 fun x M2 => h Xd s M2 fun y M3 => slK x y d Q M3) : dSl te l h Xd s M Q := H
theorem w_oNo {F : Option Int → Mem → Prop} (h : F none M) : oNo Xd s M F := h
theorem w_oSo {F : Option Int → Mem → Prop} (h : te Xd s M (oSoK F)) : oSo te Xd s M F := h
theorem w_oSoK {F : Option Int → Mem → Prop} {i : Int} (h : F (some i) M) : oSoK F (.int i) M := h
theorem w_slT {l h : Option Int} (H : Q (.tup (cutD ds l h)) M) : slK l h (.tup ds) Q M := H
theorem w_slL {l h : Option Int} (H : Q (.lst (cutD ds l h)) M) : slK l h (.lst ds) Q M := H
theorem w_dct {trs : List (Key × TED)} (h : ∀ p, M p = none → dPairs trs Xd s (M.put p (.dct [] [])) fun ds M1 => M1 p = some (.dct [] []) ∧ Q (.ref p) (M1.put p (.dct (trs.map (·.1)) ds))) : dDct trs Xd s M Q := h
theorem w_prN (h : L [] M) : dPairs [] Xd s M L := h
theorem w_prC {k : Key} {r : List (Key × TED)} (h : te Xd s M fun d M1 => dPairs r Xd s M1 fun ds M2 => L (d :: ds) M2) : dPairs ((k, te) :: r) Xd s M L := h
theorem w_lc {ti : TID} {g : TGD} {tt : TTD} {vs : List Nat} (h : ti Xd s M fun ds ow M1 => ∀ p, M1 p = none → dLcL g tt te (wipeD s vs) (wat ow M1) p Q ds (M1.put p (.lst []))) : dLc ti g tt te vs Xd s M Q := h
theorem w_lcO {ti : TID} {g : TGD} {tt : TTD} {vs : List Nat} (h : ti Xd s M fun ds ow M1 => ∀ p, M1 p = none → dLcLO g tt te (wipeD s vs) (wat ow M1) p Q ds (M1.put p (.lst []))) : dLcO ti g tt te vs Xd s M Q := h
theorem wat_none {M0 : Mem} : wat none M0 M := True.intro
theorem wat_some {M0 : Mem} (h : M a = M0 a) : wat (some a) M0 M := h
theorem w_set0 {x0 : Option D} (h : te ex (x0 :: s) M fun d M1 => nx (some d :: s) M1) : sSet 0 te ⟨nx, rt, bk, ct, ex⟩ (x0 :: s) M := h
theorem w_gnm0 {x0 : Option D} {K : SD → Mem → Prop} (h : K (some d :: s) M) : gNm 0 d Xd (x0 :: s) M K := h
theorem w_var0 (h : Q d M) : dVar 0 Xd (some d :: s) M Q := h
theorem w_set1 {x0 x1 : Option D} (h : te ex (x0 :: x1 :: s) M fun d M1 => nx (x0 :: some d :: s) M1) : sSet 1 te ⟨nx, rt, bk, ct, ex⟩ (x0 :: x1 :: s) M := h
theorem w_gnm1 {x0 x1 : Option D} {K : SD → Mem → Prop} (h : K (x0 :: some d :: s) M) : gNm 1 d Xd (x0 :: x1 :: s) M K := h
theorem w_var1 {x0 : Option D} (h : Q d M) : dVar 1 Xd (x0 :: some d :: s) M Q := h
theorem w_set2 {x0 x1 x2 : Option D} (h : te ex (x0 :: x1 :: x2 :: s) M fun d M1 => nx (x0 :: x1 :: some d :: s) M1) : sSet 2 te ⟨nx, rt, bk, ct, ex⟩ (x0 :: x1 :: x2 :: s) M := h
theorem w_gnm2 {x0 x1 x2 : Option D} {K : SD → Mem → Prop} (h : K (x0 :: x1 :: some d :: s) M) : gNm 2 d Xd (x0 :: x1 :: x2 :: s) M K := h
theorem w_var2 {x0 x1 : Option D} (h : Q d M) : dVar 2 Xd (x0 :: x1 :: some d :: s) M Q := h
theorem w_set3 {x0 x1 x2 x3 : Option D} (h : te ex (x0 :: x1 :: x2 :: x3 :: s) M fun d M1 => nx (x0 :: x1 :: x2 :: some d :: s) M1) : sSet 3 te ⟨nx, rt, bk, ct, ex⟩ (x0 :: x1 :: x2 :: x3 :: s) M := h
theorem w_gnm3 {x0 x1 x2 x3 : Option D} {K : SD → Mem → Prop} (h : K (x0 :: x1 :: x2 :: some d :: s) M) : gNm 3 d Xd (x0 :: x1 :: x2 :: x3 :: s) M K := h
theorem w_var3 {x0 x1 x2 : Option D} (h : Q d M) : dVar 3 Xd (x0 :: x1 :: x2 :: some d :: s) M Q := h
theorem w_set4 {x0 x1 x2 x3 x4 : Option D} (h : te ex (x0 :: x1 :: x2 :: x3 :: x4 :: s) M fun d M1 => nx (x0 :: x1 :: x2 :: x3 :: some d :: s) M1) : sSet 4 te ⟨nx, rt, bk, ct, ex⟩ (x0 :: x1 :: x2 :: x3 :: x4 :: s) M := h
theorem w_gnm4 {x0 x1 x2 x3 x4 : Option D} {K : SD → Mem → Prop} (h : K (x0 :: x1 :: x2 :: x3 :: some d :: s) M) : gNm 4 d Xd (x0 :: x1 :: x2 :: x3 :: x4 :: s) M K := h
theorem w_var4 {x0 x1 x2 x3 : Option D} (h : Q d M) : dVar 4 Xd (x0 :: x1 :: x2 :: x3 :: some d :: s) M Q := h
theorem w_set5 {x0 x1 x2 x3 x4 x5 : Option D} (h : te ex (x0 :: x1 :: x2 :: x3 :: x4 :: x5 :: s) M fun d M1 => nx (x0 :: x1 :: x2 :: x3 :: x4 :: some d :: s) M1) : sSet 5 te ⟨nx, rt, bk, ct, ex⟩ (x0 :: x1 :: x2 :: x3 :: x4 :: x5 :: s) M := h
theorem w_gnm5 {x0 x1 x2 x3 x4 x5 : Option D} {K : SD → Mem → Prop} (h : K (x0 :: x1 :: x2 :: x3 :: x4 :: some d :: s) M) : gNm 5 d Xd (x0 :: x1 :: x2 :: x3 :: x4 :: x5 :: s) M K := h
theorem w_var5 {x0 x1 x2 x3 x4 : Option D} (h : Q d M) : dVar 5 Xd (x0 :: x1 :: x2 :: x3 :: x4 :: some d :: s) M Q := h
theorem w_set6 {x0 x1 x2 x3 x4 x5 x6 : Option D} (h : te ex (x0 :: x1 :: x2 :: x3 :: x4 :: x5 :: x6 :: s) M fun d M1 => nx (x0 :: x1 :: x2 :: x3 :: x4 :: x5 :: some d :: s) M1) : sSet 6 te ⟨nx, rt, bk, ct, ex⟩ (x0 :: x1 :: x2 :: x3 :: x4 :: x5 :: x6 :: s) M := h
theorem w_gnm6 {x0 x1 x2 x3 x4 x5 x6 : Option D} {K : SD → Mem → Prop} (h : K (x0 :: x1 :: x2 :: x3 :: x4 :: x5 :: some d :: s) M) : gNm 6 d Xd (x0 :: x1 :: x2 :: x3 :: x4 :: x5 :: x6 :: s) M K := h
theorem w_var6 {x0 x1 x2 x3 x4 x5 : Option D} (h : Q d M) : dVar 6 Xd (x0 :: x1 :: x2 :: x3 :: x4 :: x5 :: some d :: s) M Q := h
theorem w_set7 {x0 x1 x2 x3 x4 x5 x6 x7 : Option D} (h : te ex (x0 :: x1 :: x2 :: x3 :: x4 :: x5 :: x6 :: x7 :: s) M fun d M1 => nx (x0 :: x1 :: x2 :: x3 :: x4 :: x5 :: x6 :: some d :: s) M1) : sSet 7 te ⟨nx, rt, bk, ct, ex⟩ (x0 :: x1 :: x2 :: x3 :: x4 :: x5 :: x6 :: x7 :: s) M := h
theorem w_gnm7 {x0 x1 x2 x3 x4 x5 x6 x7 : Option D} {K : SD → Mem → Prop} (h : K (x0 :: x1 :: x2 :: x3 :: x4 :: x5 :: x6 :: some d :: s) M) : gNm 7 d Xd (x0 :: x1 :: x2 :: x3 :: x4 :: x5 :: x6 :: x7 :: s) M K := h
theorem w_var7 {x0 x1 x2 x3 x4 x5 x6 : Option D} (h : Q d M) : dVar 7 Xd (x0 :: x1 :: x2 :: x3 :: x4 :: x5 :: x6 :: some d :: s) M Q := h
theorem w_set8 {x0 x1 x2 x3 x4 x5 x6 x7 x8 : Option D} (h : te ex (x0 :: x1 :: x2 :: x3 :: x4 :: x5 :: x6 :: x7 :: x8 :: s) M fun d M1 => nx (x0 :: x1 :: x2 :: x3 :: x4 :: x5 :: x6 :: x7 :: some d :: s) M1) : sSet 8 te ⟨nx, rt, bk, ct, ex⟩ (x0 :: x1 :: x2 :: x3 :: x4 :: x5 :: x6 :: x7 :: x8 :: s) M := h
theorem w_gnm8 {x0 x1 x2 x3 x4 x5 x6 x7 x8 : Option D} {K : SD → Mem → Prop} (h : K (x0 :: x1 :: x2 :: x3 :: x4 :: x5 :: x6 :: x7 :: some d :: s) M) : gNm 8 d Xd (x0 :: x1 :: x2 :: x3 :: x4 :: x5 :: x6 :: x7 :: x8 :: s) M K := h
theorem w_var8 {x0 x1 x2 x3 x4 x5 x6 x7 : Option D} (h : Q d M) : dVar 8 Xd (x0 :: x1 :: x2 :: x3 :: x4 :: x5 :: x6 :: x7 :: some d :: s) M Q := h
theorem w_set9 {x0 x1 x2 x3 x4 x5 x6 x7 x8 x9 : Option D} (h : te ex (x0 :: x1 :: x2 :: x3 :: x4 :: x5 :: x6 :: x7 :: x8 :: x9 :: s) M fun d M1 => nx (x0 :: x1 :: x2 :: x3 :: x4 :: x5 :: x6 :: x7 :: x8 :: some d :: s) M1) : sSet 9 te ⟨nx, rt, bk, ct, ex⟩ (x0 :: x1 :: x2 :: x3 :: x4 :: x5 :: x6 :: x7 :: x8 :: x9 :: s) M := h
theorem w_gnm9 {x0 x1 x2 x3 x4 x5 x6 x7 x8 x9 : Option D} {K : SD → Mem → Prop} (h : K (x0 :: x1 :: x2 :: x3 :: x4 :: x5 :: x6 :: x7 :: x8 :: some d :: s) M) : gNm 9 d Xd (x0 :: x1 :: x2 :: x3 :: x4 :: x5 :: x6 :: x7 :: x8 :: x9 :: s) M K := h
theorem w_var9 {x0 x1 x2 x3 x4 x5 x6 x7 x8 : Option D} (h : Q d M) : dVar 9 Xd (x0 :: x1 :: x2 :: x3 :: x4 :: x5 :: x6 :: x7 :: x8 :: some d :: s) M Q := h
theorem w_set10 {x0 x1 x2 x3 x4 x5 x6 x7 x8 x9 x10 : Option D} (h : te ex (x0 :: x1 :: x2 :: x3 :: x4 :: x5 :: x6 :: x7 :: x8 :: x9 :: x10 :: s) M fun d M1 => nx (x0 :: x1 :: x2 :: x3 :: x4 :: x5 :: x6 :: x7 :: x8 :: x9 :: some d :: s) M1) : sSet 10 te ⟨nx, rt, bk, ct, ex⟩ (x0 :: x1 :: x2 :: x3 :: x4 :: x5 :: x6 :: x7 :: x8 :: x9 :: x10 :: s) M := h
theorem w_gnm10 {x0 x1 x2 x3 x4 x5 x6 x7 x8 x9 x10 : Option D} {K : SD → Mem → Prop} (h : K (x0 :: x1 :: x2 :: x3 :: x4 :: x5 :: x6 :: x7 :: x8 :: x9 :: some d :: s) M) : gNm 10 d Xd (x0 :: x1 :: x2 :: x3 :: x4 :: x5 :: x6 :: x7 :: x8 :: x9 :: x10 :: s) M K := h
theorem w_var10 {x0 x1 x2 x3 x4 x5 x6 x7 x8 x9 : Option D} (h : Q d M) : dVar 10 Xd (x0 :: x1 :: x2 :: x3 :: x4 :: x5 :: x6 :: x7 :: x8 :: x9 :: some d :: s) M Q := h
theorem w_set11 {x0 x1 x2 x3 x4 x5 x6 x7 x8 x9 x10 x11 : Option D} (h : te ex (x0 :: x1 :: x2 :: x3 :: x4 :: x5 :: x6 :: x7 :: x8 :: x9 :: x10 :: x11 :: s) M fun d M1 => nx (x0 :: x1 :: x2 :: x3 :: x4 :: x5 :: x6 :: x7 :: x8 :: x9 :: x10 :: some d :: s) M1) : sSet 11 te ⟨nx, rt, bk, ct, ex⟩ (x0 :: x1 :: x2 :: x3 :: x4 :: x5 :: x6 :: x7 :: x8 :: x9 :: x10 :: x11 :: s) M := h
theorem w_gnm11 {x0 x1 x2 x3 x4 x5 x6 x7 x8 x9 x10 x11 : Option D} {K : SD → Mem → Prop} (h : K (x0 :: x1 :: x2 :: x3 :: x4 :: x5 :: x6 :: x7 :: x8 :: x9 :: x10 :: some d :: s) M) : gNm 11 d Xd (x0 :: x1 :: x2 :: x3 :: x4 :: x5 :: x6 :: x7 :: x8 :: x9 :: x10 :: x11 :: s) M K := h
theorem w_var11 {x0 x1 x2 x3 x4 x5 x6 x7 x8 x9 x10 : Option D} (h : Q d M) : dVar 11 Xd (x0 :: x1 :: x2 :: x3 :: x4 :: x5 :: x6 :: x7 :: x8 :: x9 :: x10 :: some d :: s) M Q := h
theorem w_set12 {x0 x1 x2 x3 x4 x5 x6 x7 x8 x9 x10 x11 x12 : Option D} (h : te ex (x0 :: x1 :: x2 :: x3 :: x4 :: x5 :: x6 :: x7 :: x8 :: x9 :: x10 :: x11 :: x12 :: s) M fun d M1 => nx (x0 :: x1 :: x2 :: x3 :: x4 :: x5 :: x6 :: x7 :: x8 :: x9 :: x10 :: x11 :: some d :: s) M1) : sSet 12 te ⟨nx, rt, bk, ct, ex⟩ (x0 :: x1 :: x2 :: x3 :: x4 :: x5 :: x6 :: x7 :: x8 :: x9 :: x10 :: x11 :: x12 :: s) M := h
theorem w_gnm12 {x0 x1 x2 x3 x4 x5 x6 x7 x8 x9 x10 x11 x12 : Option D} {K : SD → Mem → Prop} (h : K (x0 :: x1 :: x2 :: x3 :: x4 :: x5 :: x6 :: x7 :: x8 :: x9 :: x10 :: x11 :: some d :: s) M) : gNm 12 d Xd (x0 :: x1 :: x2 :: x3 :: x4 :: x5 :: x6 :: x7 :: x8 :: x9 :: x10 :: x11 :: x12 :: s) M K := h
theorem w_var12 {x0 x1 x2 x3 x4 x5 x6 x7 x8 x9 x10 x11 : Option D} (h : Q d M) : dVar 12 Xd (x0 :: x1 :: x2 :: x3 :: x4 :: x5 :: x6 :: x7 :: x8 :: x9 :: x10 :: x11 :: some d :: s) M Q := h
theorem w_set13 {x0 x1 x2 x3 x4 x5 x6 x7 x8 x9 x10 x11 x12 x13 : Option D} (h : te ex (x0 :: x1 :: x2 :: x3 :: x4 :: x5 :: x6 :: x7 :: x8 :: x9 :: x10 :: x11 :: x12 :: x13 :: s) M fun d M1 => nx (x0 :: x1 :: x2 :: x3 :: x4 :: x5 :: x6 :: x7 :: x8 :: x9 :: x10 :: x11 :: x12 :: some d :: s) M1) : sSet 13 te ⟨nx, rt, bk, ct, ex⟩ (x0 :: x1 :: x2 :: x3 :: x4 :: x5 :: x6 :: x7 :: x8 :: x9 :: x10 :: x11 :: x12 :: x13 :: s) M := h
theorem w_gnm13 {x0 x1 x2 x3 x4 x5 x6 x7 x8 x9 x10 x11 x12 x13 : Option D} {K : SD → Mem → Prop} (h : K (x0 :: x1 :: x2 :: x3 :: x4 :: x5 :: x6 :: x7 :: x8 :: x9 :: x10 :: x11 :: x12 :: some d :: s) M) : gNm 13 d Xd (x0 :: x1 :: x2 :: x3 :: x4 :: x5 :: x6 :: x7 :: x8 :: x9 :: x10 :: x11 :: x12 :: x13 :: s) M K := h
theorem w_var13 {x0 x1 x2 x3 x4 x5 x6 x7 x8 x9 x10 x11 x12 : Option D} (h : Q d M) : dVar 13 Xd (x0 :: x1 :: x2 :: x3 :: x4 :: x5 :: x6 :: x7 :: x8 :: x9 :: x10 :: x11 :: x12 :: some d :: s) M Q := h
theorem w_set14 {x0 x1 x2 x3 x4 x5 x6 x7 x8 x9 x10 x11 x12 x13 x14 : Option D} (h : te ex (x0 :: x1 :: x2 :: x3 :: x4 :: x5 :: x6 :: x7 :: x8 :: x9 :: x10 :: x11 :: x12 :: x13 :: x14 :: s) M fun d M1 => nx (x0 :: x1 :: x2 :: x3 :: x4 :: x5 :: x6 :: x7 :: x8 :: x9 :: x10 :: x11 :: x12 :: x13 :: some d :: s) M1) : sSet 14 te ⟨nx, rt, bk, ct, ex⟩ (x0 :: x1 :: x2 :: x3 :: x4 :: x5 :: x6 :: x7 :: x8 :: x9 :: x10 :: x11 :: x12 :: x13 :: x14 :: s) M := h
theorem w_gnm14 {x0 x1 x2 x3 x4 x5 x6 x7 x8 x9 x10 x11 x12 x13 x14 : Option D} {K : SD → Mem → Prop} (h : K (x0 :: x1 :: x2 :: x3 :: x4 :: x5 :: x6 :: x7 :: x8 :: x9 :: x10 :: x11 :: x12 :: x13 :: some d :: s) M) : gNm 14 d Xd (x0 :: x1 :: x2 :: x3 :: x4 :: x5 :: x6 :: x7 :: x8 :: x9 :: x10 :: x11 :: x12 :: x13 :: x14 :: s) M K := h
theorem w_var14 {x0 x1 x2 x3 x4 x5 x6 x7 x8 x9 x10 x11 x12 x13 : Option D} (h : Q d M) : dVar 14 Xd (x0 :: x1 :: x2 :: x3 :: x4 :: x5 :: x6 :: x7 :: x8 :: x9 :: x10 :: x11 :: x12 :: x13 :: some d :: s) M Q := h
theorem w_set15 {x0 x1 x2 x3 x4 x5 x6 x7 x8 x9 x10 x11 x12 x13 x14 x15 : Option D} (h : te ex (x0 :: x1 :: x2 :: x3 :: x4 :: x5 :: x6 :: x7 :: x8 :: x9 :: x10 :: x11 :: x12 :: x13 :: x14 :: x15 :: s) M fun d M1 => nx (x0 :: x1 :: x2 :: x3 :: x4 :: x5 :: x6 :: x7 :: x8 :: x9 :: x10 :: x11 :: x12 :: x13 :: x14 :: some d :: s) M1) : sSet 15 te ⟨nx, rt, bk, ct, ex⟩ (x0 :: x1 :: x2 :: x3 :: x4 :: x5 :: x6 :: x7 :: x8 :: x9 :: x10 :: x11 :: x12 :: x13 :: x14 :: x15 :: s) M := h
theorem w_gnm15 {x0 x1 x2 x3 x4 x5 x6 x7 x8 x9 x10 x11 x12 x13 x14 x15 : Option D} {K : SD → Mem → Prop} (h : K (x0 :: x1 :: x2 :: x3 :: x4 :: x5 :: x6 :: x7 :: x8 :: x9 :: x10 :: x11 :: x12 :: x13 :: x14 :: some d :: s) M) : gNm 15 d Xd (x0 :: x1 :: x2 :: x3 :: x4 :: x5 :: x6 :: x7 :: x8 :: x9 :: x10 :: x11 :: x12 :: x13 :: x14 :: x15 :: s) M K := h
theorem w_var15 {x0 x1 x2 x3 x4 x5 x6 x7 x8 x9 x10 x11 x12 x13 x14 : Option D} (h : Q d M) : dVar 15 Xd (x0 :: x1 :: x2 :: x3 :: x4 :: x5 :: x6 :: x7 :: x8 :: x9 :: x10 :: x11 :: x12 :: x13 :: x14 :: some d :: s) M Q := h
theorem w_set16 {x0 x1 x2 x3 x4 x5 x6 x7 x8 x9 x10 x11 x12 x13 x14 x15 x16 : Option D} (h : te ex (x0 :: x1 :: x2 :: x3 :: x4 :: x5 :: x6 :: x7 :: x8 :: x9 :: x10 :: x11 :: x12 :: x13 :: x14 :: x15 :: x16 :: s) M fun d M1 => nx (x0 :: x1 :: x2 :: x3 :: x4 :: x5 :: x6 :: x7 :: x8 :: x9 :: x10 :: x11 :: x12 :: x13 :: x14 :: x15 :: some d :: s) M1) : sSet 16 te ⟨nx, rt, bk, ct, ex⟩ (x0 :: x1 :: x2 :: x3 :: x4 :: x5 :: x6 :: x7 :: x8 :: x9 :: x10 :: x11 :: x12 :: x13 :: x14 :: x15 :: x16 :: s) M := h
theorem w_gnm16 {x0 x1 x2 x3 x4 x5 x6 x7 x8 x9 x10 x11 x12 x13 x14 x15 x16 : Option D} {K : SD → Mem → Prop} (h : K (x0 :: x1 :: x2 :: x3 :: x4 :: x5 :: x6 :: x7 :: x8 :: x9 :: x10 :: x11 :: x12 :: x13 :: x14 :: x15 :: some d :: s) M) : gNm 16 d Xd (x0 :: x1 :: x2 :: x3 :: x4 :: x5 :: x6 :: x7 :: x8 :: x9 :: x10 :: x11 :: x12 :: x13 :: x14 :: x15 :: x16 :: s) M K := h
theorem w_var16 {x0 x1 x2 x3 x4 x5 x6 x7 x8 x9 x10 x11 x12 x13 x14 x15 : Option D} (h : Q d M) : dVar 16 Xd (x0 :: x1 :: x2 :: x3 :: x4 :: x5 :: x6 :: x7 :: x8 :: x9 :: x10 :: x11 :: x12 :: x13 :: x14 :: x15 :: some d :: s) M Q := h
theorem w_set17 {x0 x1 x2 x3 x4 x5 x6 x7 x8 x9 x10 x11 x12 x13 x14 x15 x16 x17 : Option D} (h : te ex (x0 :: x1 :: x2 :: x3 :: x4 :: x5 :: x6 :: x7 :: x8 :: x9 :: x10 :: x11 :: x12 :: x13 :: x14 :: x15 :: x16 :: x17 :: s) M fun d M1 => nx (x0 :: x1 :: x2 :: x3 :: x4 :: x5 :: x6 :: x7 :: x8 :: x9 :: x10 :: x11 :: x12 :: x13 :: x14 :: x15 :: x16 :: some d :: s) M1) : sSet 17 te ⟨nx, rt, bk, ct, ex⟩ (x0 :: x1 :: x2 :: x3 :: x4 :: x5 :: x6 :: x7 :: x8 :: x9 :: x10 :: x11 :: x12 :: x13 :: x14 :: x15 :: x16 :: x17 :: s) M := h
theorem w_gnm17 {x0 x1 x2 x3 x4 x5 x6 x7 x8 x9 x10 x11 x12 x13 x14 x15 x16 x17 : Option D} {K : SD → Mem → Prop} (h : K (x0 :: x1 :: x2 :: x3 :: x4 :: x5 :: x6 :: x7 :: x8 :: x9 :: x10 :: x11 :: x12 :: x13 :: x14 :: x15 :: x16 :: some d :: s) M) : gNm 17 d Xd (x0 :: x1 :: x2 :: x3 :: x4 :: x5 :: x6 :: x7 :: x8 :: x9 :: x10 :: x11 :: x12 :: x13 :: x14 :: x15 :: x16 :: x17 :: s) M K := h
theorem w_var17 {x0 x1 x2 x3 x4 x5 x6 x7 x8 x9 x10 x11 x12 x13 x14 x15 x16 : Option D} (h : Q d M) : dVar 17 Xd (x0 :: x1 :: x2 :: x3 :: x4 :: x5 :: x6 :: x7 :: x8 :: x9 :: x10 :: x11 :: x12 :: x13 :: x14 :: x15 :: x16 :: some d :: s) M Q := h
theorem w_set18 {x0 x1 x2 x3 x4 x5 x6 x7 x8 x9 x10 x11 x12 x13 x14 x15 x16 x17 x18 : Option D} (h : te ex (x0 :: x1 :: x2 :: x3 :: x4 :: x5 :: x6 :: x7 :: x8 :: x9 :: x10 :: x11 :: x12 :: x13 :: x14 :: x15 :: x16 :: x17 :: x18 :: s) M fun d M1 => nx (x0 :: x1 :: x2 :: x3 :: x4 :: x5 :: x6 :: x7 :: x8 :: x9 :: x10 :: x11 :: x12 :: x13 :: x14 :: x15 :: x16 :: x17 :: some d :: s) M1) : sSet 18 te ⟨nx, rt, bk, ct, ex⟩ (x0 :: x1 :: x2 :: x3 :: x4 :: x5 :: x6 :: x7 :: x8 :: x9 :: x10 :: x11 :: x12 :: x13 :: x14 :: x15 :: x16 :: x17 :: x18 :: s) M := h
theorem w_gnm18 {x0 x1 x2 x3 x4 x5 x6 x7 x8 x9 x10 x11 x12 x13 x14 x15 x16 x17 x18 : Option D} {K : SD → Mem → Prop} (h : K (x0 :: x1 :: x2 :: x3 :: x4 :: x5 :: x6 :: x7 :: x8 :: x9 :: x10 :: x11 :: x12 :: x13 :: x14 :: x15 :: x16 :: x17 :: some d :: s) M) : gNm 18 d Xd (x0 :: x1 :: x2 :: x3 :: x4 :: x5 :: x6 :: x7 :: x8 :: x9 :: x10 :: x11 :: x12 :: x13 :: x14 :: x15 :: x16 :: x17 :: x18 :: s) M K := h
theorem w_var18 {x0 x1 x2 x3 x4 x5 x6 x7 x8 x9 x10 x11 x12 x13 x14 x15 x16 x17 : Option D} (h : Q d M) : dVar 18 Xd (x0 :: x1 :: x2 :: x3 :: x4 :: x5 :: x6 :: x7 :: x8 :: x9 :: x10 :: x11 :: x12 :: x13 :: x14 :: x15 :: x16 :: x17 :: some d :: s) M Q := h
theorem w_set19 {x0 x1 x2 x3 x4 x5 x6 x7 x8 x9 x10 x11 x12 x13 x14 x15 x16 x17 x18 x19 : Option D} (h : te ex (x0 :: x1 :: x2 :: x3 :: x4 :: x5 :: x6 :: x7 :: x8 :: x9 :: x10 :: x11 :: x12 :: x13 :: x14 :: x15 :: x16 :: x17 :: x18 :: x19 :: s) M fun d M1 => nx (x0 :: x1 :: x2 :: x3 :: x4 :: x5 :: x6 :: x7 :: x8 :: x9 :: x10 :: x11 :: x12 :: x13 :: x14 :: x15 :: x16 :: x17 :: x18 :: some d :: s) M1) : sSet 19 te ⟨nx, rt, bk, ct, ex⟩ (x0 :: x1 :: x2 :: x3 :: x4 :: x5 :: x6 :: x7 :: x8 :: x9 :: x10 :: x11 :: x12 :: x13 :: x14 :: x15 :: x16 :: x17 :: x18 :: x19 :: s) M := h
theorem w_gnm19 {x0 x1 x2 x3 x4 x5 x6 x7 x8 x9 x10 x11 x12 x13 x14 x15 x16 x17 x18 x19 : Option D} {K : SD → Mem → Prop} (h : K (x0 :: x1 :: x2 :: x3 :: x4 :: x5 :: x6 :: x7 :: x8 :: x9 :: x10 :: x11 :: x12 :: x13 :: x14 :: x15 :: x16 :: x17 :: x18 :: some d :: s) M) : gNm 19 d Xd (x0 :: x1 :: x2 :: x3 :: x4 :: x5 :: x6 :: x7 :: x8 :: x9 :: x10 :: x11 :: x12 :: x13 :: x14 :: x15 :: x16 :: x17 :: x18 :: x19 :: s) M K := h
theorem w_var19 {x0 x1 x2 x3 x4 x5 x6 x7 x8 x9 x10 x11 x12 x13 x14 x15 x16 x17 x18 : Option D} (h : Q d M) : dVar 19 Xd (x0 :: x1 :: x2 :: x3 :: x4 :: x5 :: x6 :: x7 :: x8 :: x9 :: x10 :: x11 :: x12 :: x13 :: x14 :: x15 :: x16 :: x17 :: x18 :: some d :: s) M Q := h
/-! ### targets -/
variable {K : SD → Mem → Prop} {g : TGD} {G : TGsD}
theorem w_gTp {n} (hl : ds.length = n) (h : G ds Xd s M K) : gTp n G (.tup ds) Xd s M K := ⟨hl, h⟩
theorem w_gCo (h : g d Xd s M fun s' M' => G ds Xd s' M' K) : gCo g G (d :: ds) Xd s M K := h
theorem w_gNi (h : K s M) : gNi [] Xd s M K := h
theorem w_gSb (h : to Xd s M fun o M1 => ti Xd s M1 fun i M2 => setK o i d (fun M3 => K s M3) M2) : gSb to ti d Xd s M K := h
theorem w_setL {j : Nat} {z : Int} {k : Mem → Prop} (hM : M a = some (.lst ds)) (hj : ixN ds.length z = some j) (h : k (M.put a (.lst (ds.set j d)))) : setK (.ref a) (.int z) d k M := by
  unfold setK; simp only [hM, hj]; exact h
theorem w_setD {ks : List Key} {kk : Str} {k : Mem → Prop} (hM : M a = some (.dct ks ds)) (hn : ks.Nodup ∧ ks.length < 1000) (h : k (M.put a (.dct (putD ks ds (.inr kk) d).1 (putD ks ds (.inr kk) d).2))) : setK (.ref a) (.str kk) d k M := by
  unfold setK; simp only [hM, keyD]; exact ⟨hn, h⟩
/-! ### expressions -/
theorem w_c (h : Q d M) : dC d Xd s M Q := h
theorem w_op {o : O2} (h : ta Xd s M fun x M1 => tb Xd s M1 fun y M2 => o x y M2 Q) : dOp o ta tb Xd s M Q := h
theorem w_nil (h : L [] M) : dNil Xd s M L := h
theorem w_cons (h : te Xd s M fun d M1 => A Xd s M1 fun ds M2 => L (d :: ds) M2) : dCons te A Xd s M L := h
theorem w_tup (h : A Xd s M fun ds M1 => Q (.tup ds) M1) : dTup A Xd s M Q := h
theorem w_lst (h : A Xd s M fun ds M1 => Q (.lst ds) M1) : dLst A Xd s M Q := h
theorem w_lstO (h : A Xd s M fun ds M1 => ∀ p, M1 p = none → Q (.ref p) (M1.put p (.lst ds))) : dLstO A Xd s M Q := h
theorem w_cb {o : OC} (h : A Xd s M fun ds M1 => o ds M1 Q) : dCB o A Xd s M Q := h
theorem w_call {sp : SpD} (h : A Xd s M fun ds M1 => sp ds M1 Q Xd) : dCall sp [] A Xd s M Q := by
  unfold dCall
  have e : (fun ds M1 => sp (ds ++ []) M1 Q Xd) = fun ds M1 => sp ds M1 Q Xd := by funext ds M1; rw [List.append_nil]
  rw [e]; exact h
theorem w_ite (h : c Xd s M fun b M1 => if b = true then ta Xd s M1 Q else tb Xd s M1 Q) : dIte c ta tb Xd s M Q := h
theorem w_and (h : ta Xd s M (andK tb Xd s Q)) : dAnd ta tb Xd s M Q := h
theorem w_or (h : ta Xd s M (orK tb Xd s Q)) : dOr ta tb Xd s M Q := h
theorem w_not (h : ta Xd s M (notK Q)) : dNot ta Xd s M Q := h
theorem w_andT (h : tb Xd s M Q) : andK tb Xd s Q (.bl true) M := h
theorem w_andF (h : Q (.bl false) M) : andK tb Xd s Q (.bl false) M := h
theorem w_orT (h : Q (.bl true) M) : orK tb Xd s Q (.bl true) M := h
theorem w_orF (h : tb Xd s M Q) : orK tb Xd s Q (.bl false) M := h
theorem w_notB {b : Bool} (h : Q (.bl (!b)) M) : notK Q (.bl b) M := h
theorem w_neg (h : te Xd s M (unK (fun i => -i) Q)) : dNeg te Xd s M Q := h
theorem w_un {f : Int → Int} {i : Int} (h : Q (.int (f i)) M) : unK f Q (.int i) M := h
theorem w_tst (h : te Xd s M (tstB R)) : dTst te Xd s M R := h
theorem w_tstB {b : Bool} (h : R b M) : tstB R (.bl b) M := h
theorem w_tru (h : te Xd s M (truK R)) : dTru te Xd s M R := h
theorem w_truB {b : Bool} (h : R b M) : truK R (.bl b) M := h
theorem w_tAnd (h : c Xd s M fun b M1 => if b = true then d1 Xd s M1 R else R false M1) : tAndD c d1 Xd s M R := h
theorem w_tOr (h : c Xd s M fun b M1 => if b = true then R true M1 else d1 Xd s M1 R) : tOrD c d1 Xd s M R := h
theorem w_tNot (h : c Xd s M fun b M1 => R (!b) M1) : tNotD c Xd s M R := h
theorem w_chain {o o' : O2} (h : ta Xd s M fun x M1 => tb Xd s M1 fun y M2 => o x y M2 (chK o' y tc Xd s Q)) : dChain o o' ta tb tc Xd s M Q := h
theorem w_chT {o' : O2} (h : tc Xd s M fun z M1 => o' y z M1 Q) : chK o' y tc Xd s Q (.bl true) M := h
theorem w_chF {o' : O2} (h : Q (.bl false) M) : chK o' y tc Xd s Q (.bl false) M := h
theorem w_ifT {P U : Prop} (h : P) : if true = true then P else U := by rw [if_pos rfl]; exact h
theorem w_ifF {P U : Prop} (h : U) : if false = true then P else U := by rw [if_neg Bool.false_ne_true]; exact h
theorem w_ifnT {P U : Prop} (h : U) : if (!true) = true then P else U := w_ifF h
theorem w_ifnF {P U : Prop} (h : P) : if (!false) = true then P else U := w_ifT h
theorem w_ifdT {φ : Prop} [Decidable φ] {P U : Prop} (hφ : φ) (h : P) : if decide φ = true then P else U := by rw [if_pos (decide_eq_true hφ)]; exact h
theorem w_ifdF {φ : Prop} [Decidable φ] {P U : Prop} (hφ : ¬ φ) (h : U) : if decide φ = true then P else U := by rw [if_neg (fun z => hφ (of_decide_eq_true z))]; exact h
theorem w_ifd {φ : Prop} [Decidable φ] {P U : Prop} (h1 : φ → P) (h2 : ¬ φ → U) : if decide φ = true then P else U := by
  by_cases z : φ
  · exact w_ifdT z (h1 z)
  · exact w_ifdF z (h2 z)
theorem w_ifnd {φ : Prop} [Decidable φ] {P U : Prop} (h1 : ¬ φ → P) (h2 : φ → U) : if (!decide φ) = true then P else U := by
  by_cases z : φ
  · rw [decide_eq_true z]; exact w_ifF (h2 z)
  · rw [decide_eq_false z]; exact w_ifT (h1 z)
theorem w_ifb {b : Bool} {P U : Prop} (h1 : b = true → P) (h2 : b = false → U) : if b = true then P else U := by
  cases b
  · exact w_ifF (h2 rfl)
  · exact w_ifT (h1 rfl)
/-! ### operators -/
variable {i j : Int} {b b2 : Bool} {k : Str}
theorem w_addI (h : Q (.int (i + j)) M) : addD (.int i) (.int j) M Q := h
theorem w_addL (hl : ds.length + es.length ≤ sizeLine) (h : Q (.lst (ds ++ es)) M) : addD (.lst ds) (.lst es) M Q := ⟨hl, h⟩
theorem w_addT (hl : ds.length + es.length ≤ sizeLine) (h : Q (.tup (ds ++ es)) M) : addD (.tup ds) (.tup es) M Q := ⟨hl, h⟩
theorem w_subI (h : Q (.int (i - j)) M) : subD (.int i) (.int j) M Q := h
theorem w_mulI (hw : CMulW i j) (h : Q (.int (i * j)) M) : mulD (.int i) (.int j) M Q := ⟨hw, h⟩
theorem w_fdivI (hw : CDivW i j) (h : Q (.int (i / j)) M) : fdivD (.int i) (.int j) M Q := ⟨hw, h⟩
theorem w_modI (hw : 0 < j) (h : Q (.int (i % j)) M) : modD (.int i) (.int j) M Q := ⟨hw, h⟩
theorem w_powI (hw : CPow i j) (h : Q (.int (i ^ j.toNat)) M) : powD (.int i) (.int j) M Q := ⟨hw, h⟩
theorem w_lt (h : Q (.bl (decide (i < j))) M) : ltD (.int i) (.int j) M Q := h
theorem w_le (h : Q (.bl (decide (i ≤ j))) M) : leD (.int i) (.int j) M Q := h
theorem w_gt (h : Q (.bl (decide (j < i))) M) : gtD (.int i) (.int j) M Q := h
theorem w_ge (h : Q (.bl (decide (j ≤ i))) M) : geD (.int i) (.int j) M Q := h
theorem w_isN (h : Q (.bl (isN x)) M) : isD x .non M Q := ⟨rfl, h⟩
theorem w_isnN (h : Q (.bl (!isN x)) M) : isNotD x .non M Q := ⟨rfl, h⟩
theorem eq_ints : eqO (.int i) (.int j) = some (decide (i = j)) := by
  show (if SeqAt.shaped (.int i) = true ∧ SeqAt.shaped (.int j) = true then some (PyData.eqv (.int i) (.int j)) else none) = _
  rw [if_pos ⟨rfl, rfl⟩]
  rfl
theorem sh_str {k : Str} (h : PyData.strOk k = true) : SeqAt.shaped (.str k) = true := by
  unfold SeqAt.shaped; rw [show PyData.canLay0 (.str k) = PyData.strOk k from rfl, h]; rfl
theorem eq_strs {k l : Str} (h1 : PyData.strOk k = true) (h2 : PyData.strOk l = true) : eqO (.str k) (.str l) = some (decide (k = l)) := by
  show (if SeqAt.shaped (.str k) = true ∧ SeqAt.shaped (.str l) = true then some (PyData.eqv (.str k) (.str l)) else none) = _
  rw [if_pos ⟨sh_str h1, sh_str h2⟩]
  rfl
theorem w_eqI (h : Q (.bl (decide (i = j))) M) : eqD (.int i) (.int j) M Q := by
  unfold eqD; simp only [vw, eq_ints]; exact h
theorem w_neI (h : Q (.bl (!decide (i = j))) M) : neD (.int i) (.int j) M Q := by
  unfold neD; simp only [vw, eq_ints]; exact h
theorem w_eqS {k l : Str} (h1 : PyData.strOk k = true) (h2 : PyData.strOk l = true) (h : Q (.bl (decide (k = l))) M) : eqD (.str k) (.str l) M Q := by
  unfold eqD; simp only [vw, eq_strs h1 h2]; exact h
theorem w_neS {k l : Str} (h1 : PyData.strOk k = true) (h2 : PyData.strOk l = true) (h : Q (.bl (!decide (k = l))) M) : neD (.str k) (.str l) M Q := by
  unfold neD; simp only [vw, eq_strs h1 h2]; exact h
theorem w_eqO {x y : D} {b : Bool} (e : eqO (vw M x) (vw M y) = some b) (h : Q (.bl b) M) : eqD x y M Q := by
  unfold eqD; rw [e]; exact h
theorem w_neO {x y : D} {b : Bool} (e : eqO (vw M x) (vw M y) = some b) (h : Q (.bl (!b)) M) : neD x y M Q := by
  unfold neD; rw [e]; exact h
/-! ### subscripts -/
theorem w_ixL (e : atI ds i = some d) (h : Q d M) : ixD (.lst ds) (.int i) M Q := by
  unfold ixD; simp only [ixO, vw, e]; exact h
theorem w_ixT (e : atI ds i = some d) (h : Q d M) : ixD (.tup ds) (.int i) M Q := by
  unfold ixD; simp only [ixO, vw, e]; exact h
theorem w_ixRL (hM : M a = some (.lst ds)) (e : atI ds i = some d) (h : Q d M) : ixD (.ref a) (.int i) M Q := by
  unfold ixD; simp only [ixO, vw, vwO, hM, e]; exact h
theorem w_ixRD {ks : List Key} (hM : M a = some (.dct ks ds)) (e : valD ks ds (.inr k) = some d) (h : Q d M) : ixD (.ref a) (.str k) M Q := by
  unfold ixD; simp only [ixO, vw, vwO, hM, keyD, e]; exact h
theorem w_ixT0 {x0 : D} (h : Q x0 M) : ixD (.tup (x0 :: ds)) (.int 0) M Q := w_ixT (by have z := atI_nat (xs := x0 :: ds) (j := 0) (v := x0) rfl; exact z) h
theorem w_ixT1 {x0 x1 : D} (h : Q x1 M) : ixD (.tup (x0 :: x1 :: ds)) (.int 1) M Q := w_ixT (by have z := atI_nat (xs := x0 :: x1 :: ds) (j := 1) (v := x1) rfl; exact z) h
theorem w_ixT2 {x0 x1 x2 : D} (h : Q x2 M) : ixD (.tup (x0 :: x1 :: x2 :: ds)) (.int 2) M Q := w_ixT (by have z := atI_nat (xs := x0 :: x1 :: x2 :: ds) (j := 2) (v := x2) rfl; exact z) h
theorem w_ixT3 {x0 x1 x2 x3 : D} (h : Q x3 M) : ixD (.tup (x0 :: x1 :: x2 :: x3 :: ds)) (.int 3) M Q := w_ixT (by have z := atI_nat (xs := x0 :: x1 :: x2 :: x3 :: ds) (j := 3) (v := x3) rfl; exact z) h
theorem w_ixT4 {x0 x1 x2 x3 x4 : D} (h : Q x4 M) : ixD (.tup (x0 :: x1 :: x2 :: x3 :: x4 :: ds)) (.int 4) M Q := w_ixT (by have z := atI_nat (xs := x0 :: x1 :: x2 :: x3 :: x4 :: ds) (j := 4) (v := x4) rfl; exact z) h
theorem w_ixT5 {x0 x1 x2 x3 x4 x5 : D} (h : Q x5 M) : ixD (.tup (x0 :: x1 :: x2 :: x3 :: x4 :: x5 :: ds)) (.int 5) M Q := w_ixT (by have z := atI_nat (xs := x0 :: x1 :: x2 :: x3 :: x4 :: x5 :: ds) (j := 5) (v := x5) rfl; exact z) h
/-! ### built-ins -/
theorem w_lenL (h : Q (.int ds.length) M) : lenC [.lst ds] M Q := h
theorem w_lenT (h : Q (.int ds.length) M) : lenC [.tup ds] M Q := h
theorem w_lenR (hM : M a = some (.lst ds)) (h : Q (.int ds.length) M) : lenC [.ref a] M Q := by
  unfold lenC; simp only [lenO, vw, vwO, hM]; exact h
theorem w_int (h : Q (.int i) M) : intC [.int i] M Q := h
theorem w_intB {b : Bool} (h : Q (.int (if b then 1 else 0)) M) : intC [.bl b] M Q := h
theorem w_abs (h : Q (.int (if i < 0 then -i else i)) M) : absC [.int i] M Q := h
theorem w_listL (h : Q (.lst ds) M) : listC [.lst ds] M Q := h
theorem w_listT (h : Q (.lst ds) M) : listC [.tup ds] M Q := h
theorem w_tupL (h : Q (.tup ds) M) : tupleC [.lst ds] M Q := h
theorem w_tupT (h : Q (.tup ds) M) : tupleC [.tup ds] M Q := h
theorem w_tupR (hM : M a = some (.lst ds)) (h : Q (.tup ds) M) : tupleC [.ref a] M Q := by
  unfold tupleC; simp only [itemsO, vw, vwO, hM]; exact h
theorem w_listOL (h : ∀ p, M p = none → Q (.ref p) (M.put p (.lst ds))) : listCO [.lst ds] M Q := h
theorem w_listOR (hM : M a = some (.lst ds)) (h : ∀ p, M p = none → Q (.ref p) (M.put p (.lst ds))) : listCO [.ref a] M Q := by
  unfold listCO; simp only [itemsO, vw, vwO, hM]; exact h
theorem w_int2 {f : Int → Int → Int} (h : Q (.int (f i j)) M) : int2C f [.int i, .int j] M Q := h
theorem w_gcd (h : Q (.int ((Nat.gcd i.natAbs j.natAbs : Nat) : Int)) M) : gcdC [.int i, .int j] M Q := h
def appO (te : TED) (Xd : XD) (s : SD) (Q : QD) : QD := fun o M1 => match o with
  | .ref p => match M1 p with
    | some (.lst _) => te Xd s M1 fun d M2 => appK d Q p M2
    | _ => False
  | _ => False
theorem w_app (h : to Xd s M (appO te Xd s Q)) : dApp to te Xd s M Q := h
theorem w_appO (hM : M p = some (.lst ds)) (h : te Xd s M fun d M2 => appK d Q p M2) : appO te Xd s Q (.ref p) M := by
  unfold appO; simp only [hM]; exact h
def rvsO (Q : QD) : QD := fun o M1 => match o with
  | .ref p => match M1 p with
    | some (.lst ds) => Q .non (M1.put p (.lst ds.reverse))
    | _ => False
  | _ => False
theorem w_rvs (h : to Xd s M (rvsO Q)) : dRvs to Xd s M Q := h
theorem w_rvsO (hM : M p = some (.lst ds)) (h : Q .non (M.put p (.lst ds.reverse))) : rvsO Q (.ref p) M := by
  unfold rvsO; simp only [hM]; exact h
theorem w_augK {f : Int → Int → Int} {z u : Int} (hM : M p = some (.lst ds)) (e : atI ds z = some (.int u)) (h : te ex s M (fun y M1 => match y with
        | .int w => setK (.ref p) (.int z) (.int (f u w)) (fun M2 => nx s M2) M1
        | _ => False)) : augK f te ⟨nx, rt, bk, ct, ex⟩ s (.ref p) (.int z) M := by
  unfold augK; simp only [hM, e]; exact h
theorem w_appK (hM : M p = some (.lst ds)) (hl : ds.length < sizeLine) (h : Q .non (M.put p (.lst (ds ++ [d])))) : appK d Q p M := by
  unfold appK; rw [hM]; exact ⟨hl, h⟩
/-! ### walks -/
variable {I : List D → Option Addr → Mem → Prop}
theorem w_iSeq (h : te Xd s M (itemK I)) : iSeqD te Xd s M I := h
theorem w_itemT (h : I ds none M) : itemK I (.tup ds) M := h
theorem w_itemL (h : I ds none M) : itemK I (.lst ds) M := h
theorem w_itemR (hM : M a = some (.lst ds)) (h : I ds (some a) M) : itemK I (.ref a) M := by
  unfold itemK; simp only [hM]; exact h
theorem w_iRng (h : A Xd s M (rngK I)) : iRngD A Xd s M I := h
theorem w_rng1 (hj : -(2 ^ 62) ≤ j ∧ j < 2 ^ 62) (h : I (rngL 0 j.toNat) none M) : rngK I [.int j] M := ⟨hj, h⟩
theorem w_iEnm (h : dCons te dNil Xd s M fun ds M1 => ∃ d, ds = [d] ∧ itemK (fun ds ow M1 => I (enmFrom 0 ds) ow M1) d M1) : iEnmB te Xd s M I := h
theorem w_sg1 {J : D → Prop} (h : J d) : ∃ e, [d] = [e] ∧ J e := ⟨d, rfl, h⟩
theorem w_iRev {T : XD → SD → Mem → (Int → Int → Mem → Prop) → Prop} (h : T Xd s M fun i j M1 => (-(2 ^ 62) ≤ i ∧ i < 2 ^ 62 ∧ -(2 ^ 62) ≤ j ∧ j < 2 ^ 62) ∧ I (rngL i (j - i).toNat).reverse none M1) : iRevD T Xd s M I := h
theorem w_rg1 {F : Int → Int → Mem → Prop} (h : te Xd s M (rg1K F)) : rg1 te Xd s M F := h
theorem w_rg1K {F : Int → Int → Mem → Prop} (h : F 0 i M) : rg1K F (.int i) M := h
end
end DL
set_option maxHeartbeats 1000000
namespace DL
open PySem PySem.Spec PyProof.Rows L2
def parK (i j : Nat) (nx : SD → Mem → Prop) (s : SD) : List D → Mem → Prop := fun ds M1 => match ds with
  | [d, e] => nx ((s.set i (some d)).set j (some e)) M1
  | _ => False
theorem w_par {i j : Nat} {ta : TAD} {s : SD} {M : Mem} {nx bk ct : SD → Mem → Prop} {rt : QD} {ex : XD} (h : ta ex s M (parK i j nx s)) : sPar i j ta ⟨nx, rt, bk, ct, ex⟩ s M := h
theorem w_parK {i j : Nat} {d e : D} {s s' : SD} {M : Mem} {nx : SD → Mem → Prop} (hs : (s.set i (some d)).set j (some e) = s') (h : nx s' M) : parK i j nx s [d, e] M := by
  subst hs; exact h
theorem w_while {c : TTD} {t : TSD} {s : SD} {M : Mem} {nx bk ct : SD → Mem → Prop} {rt : QD} {ex : XD} (m : Nat) (h : sWhN c t ⟨nx, rt, bk, ct, ex⟩ m s M) : sWhile c t ⟨nx, rt, bk, ct, ex⟩ s M := ⟨m, h⟩
theorem w_whS {c : TTD} {t : TSD} {s : SD} {M : Mem} {nx bk ct : SD → Mem → Prop} {rt : QD} {ex : XD} {m : Nat} (h : c ex s M fun b M1 => if b = true then t ⟨sWhN c t ⟨nx, rt, bk, ct, ex⟩ m, rt, nx, sWhN c t ⟨nx, rt, bk, ct, ex⟩ m, ex⟩ s M1 else nx s M1) : sWhN c t ⟨nx, rt, bk, ct, ex⟩ (m + 1) s M := h
theorem w_dRev {te : TED} {Xd : XD} {s : SD} {M : Mem} {Q : QD} (h : te Xd s M (revK Q)) : dRev te Xd s M Q := h
theorem w_revK {ds : List D} {M : Mem} {Q : QD} (h : Q (.lst ds.reverse) M) : revK Q (.lst ds) M := h
theorem w_lstRg {t : XD → SD → Mem → (Int → Int → Mem → Prop) → Prop} {Xd : XD} {s : SD} {M : Mem} {Q : QD} (h : t Xd s M fun i j M1 => RgOk i j ∧ Q (.lst (rngL i (j - i).toNat)) M1) : dLstRg t Xd s M Q := h
/-! ### a dict that grows by new numbers -/
theorem w_joinS {t u : TSD} {s : SD} {M : Mem} {nx bk ct : SD → Mem → Prop} {rt : QD} {ex : XD} {P : SD → Mem → Prop} (hu : ∀ s1 M1, P s1 M1 → u ⟨nx, rt, bk, ct, ex⟩ s1 M1) (h : (∀ s1 M1, P s1 M1 → u ⟨nx, rt, bk, ct, ex⟩ s1 M1) → sSeq t u ⟨nx, rt, bk, ct, ex⟩ s M) : sSeq t u ⟨nx, rt, bk, ct, ex⟩ s M := h hu
theorem w_yes {Xd : XD} {s : SD} {M : Mem} {R : Bool → Mem → Prop} (h : R true M) : tYesD Xd s M R := h
/-- [e for x in ds if c], without a change of what is owned -/
theorem lc_filt {g : TGD} {tt : TTD} {te : TED} {s0 : SD} {W : Mem → Prop} {p : Addr} {Q : QD} {M0 : Mem} (hp : M0 p = none) (f : D → Option D) (hW : ∀ acc, W (M0.put p (.lst acc))) : ∀ (ds acc : List D), acc.length + ds.length ≤ sizeLine →
    (∀ d ∈ ds, ∀ (acc : List D) (K1 : QD) (K0 : Mem → Prop), (∀ r, f d = some r → K1 r (M0.put p (.lst acc))) → (f d = none → K0 (M0.put p (.lst acc))) → g d X0 s0 (M0.put p (.lst acc)) fun s' M' => tt X0 s' M' fun b M2 => if b = true then te X0 s' M2 K1 else K0 M2) →
    Q (.lst (acc ++ ds.filterMap f)) M0 → dLcL g tt te s0 W p Q ds (M0.put p (.lst acc))
  | [], acc, _, _, h => ⟨hW acc, by
      unfold endK
      rw [Mem.put_same]
      rw [Mem.del_put hp]
      simpa using h⟩
  | d :: ds, acc, hl, st, h => ⟨hW acc, st d List.mem_cons_self acc _ _ (fun r hr => by
      unfold accK
      rw [Mem.put_same]
      rw [List.length_cons] at hl
      refine ⟨by omega, ?_⟩
      rw [Mem.put_put]
      refine lc_filt hp f hW ds (acc ++ [r]) (by rw [List.length_append, List.length_singleton]; omega) (fun e he => st e (List.mem_cons_of_mem _ he)) ?_
      rw [List.filterMap_cons_some hr] at h
      rw [List.append_assoc]; exact h) (fun hn => by
      rw [List.length_cons] at hl
      refine lc_filt hp f hW ds acc (by omega) (fun e he => st e (List.mem_cons_of_mem _ he)) ?_
      rw [List.filterMap_cons_none hn] at h
      exact h)⟩
theorem lc_map {g : TGD} {te : TED} {s0 : SD} {W : Mem → Prop} {p : Addr} {Q : QD} {M0 : Mem} (hp : M0 p = none) (f : D → D) (hW : ∀ acc, W (M0.put p (.lst acc))) {ds : List D} (hl : ds.length ≤ sizeLine)
    (st : ∀ d ∈ ds, ∀ (acc : List D) (K1 : QD) , K1 (f d) (M0.put p (.lst acc)) → g d X0 s0 (M0.put p (.lst acc)) fun s' M' => te X0 s' M' K1)
    (h : Q (.lst (ds.map f)) M0) : dLcL g tYesD te s0 W p Q ds (M0.put p (.lst [])) := by
  refine lc_filt hp (fun d => some (f d)) hW ds [] (by simpa using hl) (fun d hd acc K1 K0 h1 h0 => ?_) ?_
  · have := st d hd acc K1 (h1 _ rfl)
    refine (?_ : g d X0 s0 (M0.put p (.lst acc)) fun s' M' => if true = true then te X0 s' M' K1 else K0 M')
    simp only [if_true]
    exact this
  · simpa using h
/-- .. whose list is owned then -/
theorem lc_mapO {g : TGD} {te : TED} {s0 : SD} {W : Mem → Prop} {p : Addr} {Q : QD} {M0 : Mem} (f : D → D) (hW : ∀ acc, W (M0.put p (.lst acc))) : ∀ {ds : List D} (acc : List D) (hl : acc.length + ds.length ≤ sizeLine)
    (st : ∀ d ∈ ds, ∀ (acc : List D) (K1 : QD) , K1 (f d) (M0.put p (.lst acc)) → g d X0 s0 (M0.put p (.lst acc)) fun s' M' => te X0 s' M' K1)
    (h : Q (.ref p) (M0.put p (.lst (acc ++ ds.map f)))), dLcLO g tYesD te s0 W p Q ds (M0.put p (.lst acc))
  | [], acc, _, _, h => ⟨hW acc, by
      unfold endKO
      rw [Mem.put_same]
      simpa using h⟩
  | d :: ds, acc, hl, st, h => ⟨hW acc, by
      have := st d List.mem_cons_self acc (fun r => accK p r (dLcLO g tYesD te s0 W p Q ds)) (by
        unfold accK
        rw [Mem.put_same]
        rw [List.length_cons] at hl
        refine ⟨by omega, ?_⟩
        rw [Mem.put_put]
        refine lc_mapO f hW (acc ++ [f d]) (by rw [List.length_append, List.length_singleton]; omega) (fun e he => st e (List.mem_cons_of_mem _ he)) ?_
        rw [List.append_assoc]; exact h)
      refine (?_ : g d X0 s0 (M0.put p (.lst acc)) fun s' M' => if true = true then te X0 s' M' (fun r => accK p r (dLcLO g tYesD te s0 W p Q ds)) else dLcLO g tYesD te s0 W p Q ds M')
      simp only [if_true]
      exact this⟩
end DL
set_option maxHeartbeats 1000000
namespace DL
open PySem PySem.Spec PyProof.Rows L2
/-! ### instances of own classes: made, stored to while made, read -/
section
variable {X : Cx} {E : XK} {n k : Nat} {f x : Str} {p pos p' pos' tpos : Pos} {e o : Expr} {es : List Expr} {te to : TED} {ts : TAD}
/-- o.f -/
def atK (K : Fg) (f : Str) (Q : QD) : QD := fun d M => match d with
  | .ref a => match M a with
    | some (.ins C ns ds) => (Cls K C ∧ NoAttr K C f) ∧ ∃ d, (ns.zip ds).lookup f = some d ∧ Q d M
    | _ => False
  | _ => False
def dAt (K : Fg) (f : Str) (te : TED) : TED := fun Xd s M Q => te Xd s M (atK K f Q)
/-- o.f = d, a field that is new -/
def atS (K : Fg) (f : Str) (o d : D) (k : Mem → Prop) : Mem → Prop := fun M => match o with
  | .ref a => match M a with
    | some (.ins C ns ds) => (Cls K C ∧ NoAttr K C f ∧ ns.length < 900 ∧ f ∉ ns) ∧ k (M.put a (.ins C (ns ++ [f]) (ds ++ [d])))
    | _ => False
  | _ => False
def sAt (K : Fg) (f : Str) (to te : TED) : TSD := fun Y s M => te Y.ex s M fun d M1 => to Y.ex s M1 fun o M2 => atS K f o d (fun M3 => Y.nx s M3) M2
def gAt (K : Fg) (f : Str) (to : TED) : TGD := fun d Xd s M Q => to Xd s M fun o M1 => atS K f o d (fun M2 => Q s M2) M1
/-! ### C(e, ..) -/
theorem RoomG.make {k : Nat} {A : Around} (h : RoomG (k + 1) A) (C : Addr) (us : List Value) (kw : List (Str × Value)) : RoomG k (A.under (.builtin "type.__call__" ⟨.ref C :: us, kw⟩)) := ⟨h.r.make C us kw, h.g⟩
end
end DL
set_option maxHeartbeats 1000000
namespace PySem
namespace HandSPX
open PySem.W
end HandSPX
end PySem
set_option maxHeartbeats 1000000
namespace DL
open PySem PySem.Spec PyProof.Rows L2
/-! ### try: the caught exception is tracked, and held as data -/
/-- a clause: its classes, the slot of its name, what its suite says -/
structure Cl where
  cs : List Value
  nm : Option Nat
  ts : TS
def Cl.ends (c : Cl) (D : Ends) : Ends := match c.nm with
  | none => D
  | some i => { nx := fun σ' H' => D.nx (σ'.set i none) H', rt := D.rt, bk := fun σ' H' => D.bk (σ'.set i none) H', ct := fun σ' H' => D.ct (σ'.set i none) H' }
def Cl.at (c : Cl) (σ : L2.St) (a : Addr) : L2.St := match c.nm with
  | none => σ
  | some i => σ.set i (some (.ref a))
end DL
set_option maxHeartbeats 1000000
namespace DL
open PySem PySem.Spec PyProof.Rows L2
/-! ### try, over data -/
structure ClD where
  cs : List Value
  nm : Option Nat
  ts : TSD
def ClD.ends (c : ClD) (Y : EndsD) : EndsD := match c.nm with
  | none => { Y with ex := fun _ _ _ _ => False }
  | some i => { nx := fun s M => Y.nx (s.set i none) M, rt := Y.rt, bk := fun s M => Y.bk (s.set i none) M, ct := fun s M => Y.ct (s.set i none) M, ex := fun _ _ _ _ => False }
def ClD.at (c : ClD) (s : SD) (d : D) : SD := match c.nm with
  | none => s
  | some i => s.set i (some d)
def xCl (K : Fg) (Y : EndsD) (s : SD) : List ClD → XD
  | [] => fun _ _ _ _ => False
  | c :: r => fun C ns ds M => ∃ b, PySem.W.exmAny K (.ref C) c.cs = some b ∧ (b = true → c.ts (c.ends Y) (c.at s (.exn C ns ds)) M) ∧ (b = false → xCl K Y s r C ns ds M)
def sTry (K : Fg) (tb : TSD) (cl : List ClD) : TSD := fun Y s M => tb { Y with ex := xCl K Y s cl } s M
/-! ### bodies of one statement -/
section
variable {X : Cx} {e : Expr} {te : TED} {pos : Pos}
theorem pass_no {X : Cx} : Passes (L2.CX X.prog X.w) X (fun _ _ _ => False) := fun _ _ _ _ _ _ _ ⟨_, _, _, _, _, _, _, _, _, _, _, _, z⟩ => z.elim
variable {n k : Nat} {C : Addr} {ns ps : List Str} {x : Str} {p : Pos} {es : List Expr} {ts : TAD}
variable {E : XK} {f : Addr} {fd : FuncData} {sp : SpD}
/-- a call of a def that may raise, in the body of a try -/
def dCallX (sp : SpD) (t : TAD) : TED := fun Xd s M Q => t (fun _ _ _ _ => False) s M fun ds M1 => sp ds M1 Q Xd
end
end DL
set_option maxHeartbeats 1000000
namespace DL
open PySem PySem.Spec PyProof.Rows L2
/-! ### repr of what holds dicts: only the dicts themselves must not be sys.modules -/
mutual
inductive Rn (h : Heap) : Value → PyData → Prop
  | none : Rn h .none .none
  | bool (b : Bool) : Rn h (.bool b) (.bool b)
  | int (i : Int) (t : Tok) : Rn h (.int i t) (.int i)
  | str (x : Str) (t : Tok) : Rn h (.str x t) (.str x)
  | list {a : Addr} {o : Obj} {vs : Array Value} {n : Nat} {xs : List PyData} (h1 : h.get? a = some o) (h2 : o.cls = .type "list") (h3 : o.data = .seq vs n) (h4 : RnAll h vs.toList xs) : Rn h (.ref a) (.list xs)
  | tuple {a : Addr} {o : Obj} {vs : Array Value} {n : Nat} {xs : List PyData} (h1 : h.get? a = some o) (h2 : o.cls = .type "tuple") (h3 : o.data = .seq vs n) (h4 : RnAll h vs.toList xs) : Rn h (.ref a) (.tuple xs)
  | dict {a : Addr} {o : Obj} {es : Array DictEntry} {n : Nat} {kvs : List (PyData × PyData)} (h1 : h.get? a = some o) (h2 : o.cls = .type "dict") (h3 : o.data = .dict es n) (hs : (a == sysModules) = false)
      (h4 : RnAll h (es.toList.map (·.key)) (kvs.map (·.1))) (h5 : RnAll h (es.toList.map (·.val)) (kvs.map (·.2))) : Rn h (.ref a) (.dict kvs)
inductive RnAll (h : Heap) : List Value → List PyData → Prop
  | nil : RnAll h [] []
  | cons {v : Value} {vs : List Value} {d : PyData} {ds : List PyData} (r : Rn h v d) (rs : RnAll h vs ds) : RnAll h (v :: vs) (d :: ds)
end
mutual
theorem Rn.reads {h : Heap} : ∀ {v : Value} {d : PyData}, Rn h v d → ∃ as, Reads h v d as
  | _, _, .none => ⟨_, .none⟩
  | _, _, .bool b => ⟨_, .bool b⟩
  | _, _, .int i t => ⟨_, .int i t⟩
  | _, _, .str x t => ⟨_, .str x t⟩
  | _, _, .list h1 h2 h3 h4 => let ⟨_, q⟩ := RnAll.reads h4; ⟨_, .list h1 h2 h3 q⟩
  | _, _, .tuple h1 h2 h3 h4 => let ⟨_, q⟩ := RnAll.reads h4; ⟨_, .tuple h1 h2 h3 q⟩
  | _, _, .dict h1 h2 h3 hs h4 h5 => let ⟨_, q⟩ := RnAll.reads h4; let ⟨_, q2⟩ := RnAll.reads h5; ⟨_, .dict h1 h2 h3 q q2⟩
theorem RnAll.reads {h : Heap} : ∀ {vs : List Value} {ds : List PyData}, RnAll h vs ds → ∃ as, ReadsAll h vs ds as
  | _, _, .nil => ⟨_, .nil⟩
  | _, _, .cons r rs => let ⟨_, q⟩ := Rn.reads r; let ⟨_, q2⟩ := RnAll.reads rs; ⟨_, .cons q q2⟩
end
section
variable {prog : Program} {w : World} {h₀ : Heap}
mutual
theorem Rn.shown {v : Value} {d : PyData} : Rn h₀ v d → d.showable = true → d.shown.length ≤ sizeLine → ∃ bs, ReadAtMost h₀ d.depth bs ∧ ReprK prog w bs h₀ d.depth v d.shown
  | .none, _, _ => ⟨[], (fun _ z => nomatch z), by simp only [PyData.shown]; exact .of_is ReprIs.none _ _ _⟩
  | .bool b, _, _ => ⟨[], (fun _ z => nomatch z), by simp only [PyData.shown]; exact .of_is (ReprIs.bool b) _ _ _⟩
  | .int i t, hw, _ => ⟨[], (fun _ z => nomatch z), by simp only [PyData.shown]; exact .of_is (ReprIs.int t (by simpa [PyData.showable] using hw)) _ _ _⟩
  | .str x t, _, hl => ⟨[], (fun _ z => nomatch z), by simp only [PyData.shown]; exact .of_is (ReprIs.str x t (by simpa only [PyData.shown] using hl)) _ _ _⟩
  | .list (a := a) (vs := vs) (xs := xs) h1 h2 h3 h4, hw, hl => by
    have lz : (listText (PyData.shownAll xs)).length ≤ sizeLine := by simpa only [PyData.shown] using hl
    obtain ⟨bs, q1, q2⟩ := RnAll.shown h4 (by simpa [PyData.showable] using hw) (fun t m => Nat.le_trans (listText_mem_le m) lz)
    obtain ⟨as, r⟩ := Rn.reads (.list h1 h2 h3 h4)
    have out : a ∉ bs := not_mem_of_deeper r (by simp only [PyData.depth]; omega) q1
    refine ⟨a :: bs, ReadAtMost.cons r (by simp only [PyData.depth]; omega) q1, ?_⟩
    simp only [PyData.shown]
    obtain ⟨l⟩ := vs
    cases l with
    | nil =>
      cases (show RnAll h₀ [] xs from h4)
      simp only [PyData.shownAll, listText_nil]
      exact ReprK.listEmpty h1 h2 h3
    | cons x l =>
      have e : (PyData.list xs).depth = PyData.depthAll xs + 1 := by simp only [PyData.depth]
      rw [e]
      exact ReprK.list h1 h2 h3 out (by simpa using q2.length_eq) fun i y z => q2.item i y (by simpa using z)
  | .tuple (a := a) (xs := xs) h1 h2 h3 h4, hw, hl => by
    have lz : (tupleText (PyData.shownAll xs)).length ≤ sizeLine := by simpa only [PyData.shown] using hl
    obtain ⟨bs, q1, q2⟩ := RnAll.shown h4 (by simpa [PyData.showable] using hw) (fun t m => Nat.le_trans (tupleText_mem_le m) lz)
    obtain ⟨as, r⟩ := Rn.reads (.tuple h1 h2 h3 h4)
    have out : a ∉ bs := not_mem_of_deeper r (by simp only [PyData.depth]; omega) q1
    refine ⟨a :: bs, ReadAtMost.cons r (by simp only [PyData.depth]; omega) q1, ?_⟩
    simp only [PyData.shown]
    have e : (PyData.tuple xs).depth = PyData.depthAll xs + 1 := by simp only [PyData.depth]
    rw [e]
    exact ReprK.tuple h1 h2 h3 out q2
  | .dict (a := a) (es := es) (kvs := kvs) h1 h2 h3 hs h4 h5, hw, hl => by
    have lz : (dictText (PyData.shownKv kvs)).length ≤ sizeLine := by simpa only [PyData.shown] using hl
    obtain ⟨w1, w2⟩ := PyData.showableKv_split kvs (by simpa [PyData.showable] using hw)
    obtain ⟨b1, q1, k1⟩ := RnAll.shown h4 w1 fun t m => by
      obtain ⟨p, hp, hl⟩ := PyData.shownKv_key_le kvs t m
      exact Nat.le_trans hl (Nat.le_trans (dictText_mem_le hp) lz)
    obtain ⟨b2, q2, k2⟩ := RnAll.shown h5 w2 fun t m => by
      obtain ⟨p, hp, hl⟩ := PyData.shownKv_val_le kvs t m
      exact Nat.le_trans hl (Nat.le_trans (dictText_mem_le hp) lz)
    obtain ⟨as, r⟩ := Rn.reads (.dict h1 h2 h3 hs h4 h5)
    have q : ReadAtMost h₀ (PyData.depthKv kvs) (b1 ++ b2) := ReadAtMost.append (q1.mono (PyData.depthAll_keys_le kvs)) (q2.mono (PyData.depthAll_vals_le kvs))
    have out : a ∉ b1 ++ b2 := not_mem_of_deeper r (by simp only [PyData.depth]; omega) q
    refine ⟨a :: (b1 ++ b2), ReadAtMost.cons r (by simp only [PyData.depth]; omega) q, ?_⟩
    simp only [PyData.shown, PyData.shownKv_eq]
    have e : (PyData.dict kvs).depth = PyData.depthKv kvs + 1 := by simp only [PyData.depth]
    rw [e]
    refine ReprK.dict h1 h2 h3 hs out (ReprEntriesK.of_two es.toList _ _ ?_ ?_)
    · exact k1.more_le (fun b hb => List.mem_append_left _ hb) (PyData.depthAll_keys_le kvs)
    · exact k2.more_le (fun b hb => List.mem_append_right _ hb) (PyData.depthAll_vals_le kvs)
theorem RnAll.shown {vs : List Value} {ds : List PyData} : RnAll h₀ vs ds → PyData.showableAll ds = true → (∀ t ∈ PyData.shownAll ds, t.length ≤ sizeLine) → ∃ bs, ReadAtMost h₀ (PyData.depthAll ds) bs ∧ ReprAllK prog w bs h₀ (PyData.depthAll ds) vs (PyData.shownAll ds)
  | .nil, _, _ => ⟨[], (fun _ z => nomatch z), .nil⟩
  | .cons (d := d) (ds := ds) r rs, hw, hl => by
    have hw2 : d.showable = true ∧ PyData.showableAll ds = true := by simpa [PyData.showableAll] using hw
    have sh : PyData.shownAll (d :: ds) = d.shown :: PyData.shownAll ds := by simp only [PyData.shownAll]
    have dp : PyData.depthAll (d :: ds) = max d.depth (PyData.depthAll ds) := by simp only [PyData.depthAll]
    rw [sh] at hl
    obtain ⟨b1, q1, k1⟩ := Rn.shown r hw2.1 (hl _ List.mem_cons_self)
    obtain ⟨b2, q2, k2⟩ := RnAll.shown rs hw2.2 fun t m => hl t (List.mem_cons_of_mem _ m)
    refine ⟨b1 ++ b2, ?_, ?_⟩
    · rw [dp]
      exact ReadAtMost.append (q1.mono (Nat.le_max_left _ _)) (q2.mono (Nat.le_max_right _ _))
    · rw [sh, dp]
      exact .cons ((k1.more fun b hb => List.mem_append_left _ hb).level_le (Nat.le_max_left _ _)) (k2.more_le (fun b hb => List.mem_append_right _ hb) (Nat.le_max_right _ _))
end
end
end DL
set_option maxHeartbeats 1000000
namespace DL
open PySem PySem.Spec PyProof.Rows L2
/-! ### over data -/
def kPy : Key → PyData
  | .inl i => .int i
  | .inr x => .str x
mutual
def toPyX : D → Option PyData
  | .non => some .none
  | .bl b => some (.bool b)
  | .int i => some (.int i)
  | .str x => some (.str x)
  | .tup ds => (toPyXs ds).map .tuple
  | .lst ds => (toPyXs ds).map .list
  | .fzn ds => (toPyXs ds).map .list
  | .dct ks ds => (toPyXs ds).map fun ps => .dict ((ks.map kPy).zip ps)
  | _ => none
def toPyXs : List D → Option (List PyData)
  | [] => some []
  | d :: ds => match toPyX d, toPyXs ds with
    | some p, some ps => some (p :: ps)
    | _, _ => none
end
end DL
set_option maxHeartbeats 1000000
namespace DL
open PySem PySem.Spec PyProof.Rows L2
/-! ### isinstance of anything -/
/-! ### what the head tells of a class of exceptions -/
structure ClsF (K : Fg) (C : Addr) : Prop where
  T : OexG K C
  x : XfC K C
  e : ExcC K C
open PySem.W in
def clsBB (K : Fg) (C : Addr) : Bool := hasDictIn K C && (He.eqO (findIn K (.ref C) "__setattr__") (some (some (.builtin "object.__setattr__"))) && (decide (subIn K (.ref C) (.type "BaseException") = some true) && (decide (typeIn K (.ref C) = some (.type "type")) && (keepIn K (.ref C) &&
  (He.eqO (findIn K (.ref C) "__getattribute__") (some (some (.builtin "BaseException.__getattribute__"))) && (He.eqO (findIn K (.ref C) "__getattr__") (some none) && (He.eqO (findIn K (.ref C) "__class__") (some (some (.builtin "object.__class__"))) &&
  (He.eqO (specialIn K (.builtin "object.__class__") "__get__") (some (some (.builtin "getset_descriptor.__get__"))) && (decide (takesIn K (.builtin "object.__class__") = some true) && decide (mroIn K C (.type "object") = some true))))))))))
def leBase : List Value := [.type "LookupError", .type "Exception", .type "BaseException", .type "object"]
def clsVB (K : Fg) (C : Addr) : Bool := PySem.W.excInitIn K C He.veBase "ValueError.__new__" && (PySem.W.excOver K C He.veBase && clsBB K C)
def clsLB (K : Fg) (C : Addr) : Bool := PySem.W.excInitIn K C leBase "LookupError.__new__" && (PySem.W.excOver K C leBase && clsBB K C)
theorem clsBB_ok {K : Fg} {C : Addr} (h : clsBB K C = true) : PySem.W.hasDictIn K C = true ∧ PySem.W.findIn K (.ref C) "__setattr__" = some (some (.builtin "object.__setattr__")) ∧ PySem.W.subIn K (.ref C) (.type "BaseException") = some true ∧
    PySem.W.typeIn K (.ref C) = some (.type "type") ∧ PySem.W.keepIn K (.ref C) = true ∧ XfC K C ∧ ExcC K C := by
  obtain ⟨h1, h⟩ := He.ba h
  obtain ⟨h2, h⟩ := He.ba h
  obtain ⟨h3, h⟩ := He.ba h
  obtain ⟨h4, h⟩ := He.ba h
  obtain ⟨h5, h⟩ := He.ba h
  obtain ⟨h6, h⟩ := He.ba h
  obtain ⟨h7, h⟩ := He.ba h
  obtain ⟨h8, h⟩ := He.ba h
  obtain ⟨h9, h⟩ := He.ba h
  obtain ⟨h10, h11⟩ := He.ba h
  have a3 := of_decide_eq_true h3
  exact ⟨h1, He.eqO_ok h2, a3, of_decide_eq_true h4, h5, ⟨He.eqO_ok h6, He.eqO_ok h7, a3, h1⟩, ⟨He.eqO_ok h6, He.eqO_ok h7, a3, h1, He.eqO_ok h8, He.eqO_ok h9, of_decide_eq_true h10, of_decide_eq_true h11⟩⟩
theorem clsVB_ok {K : Fg} {C : Addr} (h : clsVB K C = true) : ClsF K C := by
  obtain ⟨h1, h⟩ := He.ba h
  obtain ⟨h2, h⟩ := He.ba h
  obtain ⟨a1, a2, a3, a4, a5, a6, a7⟩ := clsBB_ok h
  exact ⟨⟨⟨_, _, _, _, PySem.F.excBase_ValueError, PySem.F.store_ValueError, h1, h2⟩, a1, a2, a3, a4, a5⟩, a6, a7⟩
theorem clsLB_ok {K : Fg} {C : Addr} (h : clsLB K C = true) : ClsF K C := by
  obtain ⟨h1, h⟩ := He.ba h
  obtain ⟨h2, h⟩ := He.ba h
  obtain ⟨a1, a2, a3, a4, a5, a6, a7⟩ := clsBB_ok h
  exact ⟨⟨⟨_, _, _, _, PySem.F.excBase_LookupError, PySem.F.store_LookupError, h1, h2⟩, a1, a2, a3, a4, a5⟩, a6, a7⟩
/-- the classes by number: whether the i-th stands under the j-th, under built-in ones; what is asked of the fields' names -/
def kitBB (K : Fg) (c : Nat → Addr) (n : Nat) (tb : Nat → Nat → Bool) (tys : List (String × (Nat → Bool))) (fds : List Str) : Bool :=
  (List.range n).all fun i => ((List.range n).all fun j => decide (PySem.W.kitOne K (.ref (c i)) (.ref (c j)) = some (tb i j)) && decide (PySem.W.exmOne K (.ref (c i)) (.ref (c j)) = some (tb i j))) &&
    ((tys.all fun t => decide (PySem.W.kitOne K (.ref (c i)) (.type t.1) = some (t.2 i))) && fds.all fun f => He.eqO (PySem.W.findIn K (.ref (c i)) f) (some none))
structure KitF (K : Fg) (c : Nat → Addr) (n : Nat) (tb : Nat → Nat → Bool) (tys : List (String × (Nat → Bool))) (fds : List Str) : Prop where
  kit : ∀ {i j : Nat}, i < n → j < n → PySem.W.kitOne K (.ref (c i)) (.ref (c j)) = some (tb i j)
  exm : ∀ {i j : Nat}, i < n → j < n → PySem.W.exmOne K (.ref (c i)) (.ref (c j)) = some (tb i j)
  ty : ∀ {i : Nat} {t : String × (Nat → Bool)}, i < n → t ∈ tys → PySem.W.kitOne K (.ref (c i)) (.type t.1) = some (t.2 i)
  no : ∀ {i : Nat} {f : Str}, i < n → f ∈ fds → PySem.W.findIn K (.ref (c i)) f = some none
theorem kitBB_ok {K : Fg} {c : Nat → Addr} {n : Nat} {tb : Nat → Nat → Bool} {tys : List (String × (Nat → Bool))} {fds : List Str} (h : kitBB K c n tb tys fds = true) : KitF K c n tb tys fds := by
  have h := fun {i : Nat} (hi : i < n) => List.all_eq_true.mp h i (List.mem_range.mpr hi)
  refine ⟨fun hi hj => ?_, fun hi hj => ?_, fun hi ht => ?_, fun hi hf => ?_⟩
  · obtain ⟨a, _⟩ := He.ba (h hi)
    exact of_decide_eq_true (He.ba (List.all_eq_true.mp a _ (List.mem_range.mpr hj))).1
  · obtain ⟨a, _⟩ := He.ba (h hi)
    exact of_decide_eq_true (He.ba (List.all_eq_true.mp a _ (List.mem_range.mpr hj))).2
  · obtain ⟨_, a⟩ := He.ba (h hi)
    exact of_decide_eq_true (List.all_eq_true.mp (He.ba a).1 _ ht)
  · obtain ⟨_, a⟩ := He.ba (h hi)
    exact He.eqO_ok (List.all_eq_true.mp (He.ba a).2 _ hf)
/-! ### calls within an except suite: what is called there lets nothing out -/
structure RoomQ (k : Nat) (A : Around) : Prop where
  dp : A.depth + 3 * k + 5 < recursionLimit
  un : A.units + 16 * k + 200 < cLine
  g : A.guards = some []
theorem RoomQ.mono {j k : Nat} {A : Around} (h : RoomQ k A) (le : j ≤ k) : RoomQ j A := ⟨by have := h.dp; omega, by have := h.un; omega, h.g⟩
theorem RoomQ.deeper {k : Nat} {A : Around} (h : RoomQ (k + 1) A) (env : Env) : RoomQ k (A.deeper env) :=
  ⟨by have := h.dp; show A.depth + 1 + 3 * k + 5 < _; omega, by have := h.un; show A.units + 3 + 16 * k + 200 < _; omega, h.g⟩
theorem RoomQ.units {k : Nat} {A : Around} (r : RoomQ k A) : A.units + 64 < cLine := by have := r.un; omega
end DL
namespace DL
open PySem PySem.Spec PyProof.Rows L2
def sRaiseX (C : Addr) (ns : List Str) (t : TAD) : TSD := sRaise C ns fun _ s M Q => t (fun _ _ _ _ => False) s M Q
/-! ### a class of exceptions without own __init__, called with one thing -/
structure K0 (K : Fg) (C : Addr) : Prop where
  ex : ∃ (B newId initId : String) (bmB : List Value), ExcBaseFacts B newId initId bmB ∧ PySem.W.excIn K C bmB newId = true
  kp : PySem.W.keepIn K (.ref C) = true
def dMk0 (C : Addr) (t : TED) : TED := fun Xd s M Q => t Xd s M fun _ M1 => Q (.exn C [] []) M1
end DL
namespace DL
open PySem PySem.Spec PyProof.Rows L2
/-! ### a display that is never changed is told whole -/
def dFz (te : TED) : TED := fun Xd s M Q => te Xd s M fun d M1 => match d with
  | .ref p => (match M1 p with
    | some (.dct ks ds) => Q (.dct ks ds) (M1.del p)
    | some (.lst ds) => Q (.lst ds) (M1.del p)
    | _ => False)
  | _ => False
theorem put_del {M : Mem} {p : Addr} {o : MO} (h : M p = none) : (M.put p o).del p = M := by
  funext b
  by_cases z : b = p
  · subst z; rw [Mem.del_same, h]
  · rw [Mem.del_ne z, Mem.put_ne z]
theorem w_fzN {Xd : XD} {s : SD} {M : Mem} {Q : QD} (h : Q (.dct [] []) M) : dFz dDctN Xd s M Q := fun p hp => by
  show (match (M.put p (.dct [] [])) p with
    | some (.dct ks ds) => Q (.dct ks ds) ((M.put p (.dct [] [])).del p)
    | some (.lst ds) => Q (.lst ds) ((M.put p (.dct [] [])).del p)
    | _ => False)
  rw [Mem.put_same]
  show Q (.dct [] []) ((M.put p (.dct [] [])).del p)
  rw [put_del hp]; exact h
end DL
namespace DL
open PySem PySem.Spec PyProof.Rows L2
theorem de_cls {X : Cx} {E : XK} {x : Str} {a : Addr} {pos : Pos} (hg : Gl X x) (hm : X.mg x = some (.ref a)) (hd : (x == ("__debug__" : Str)) = false := by decide) : DE X E (.Name x pos) (dC (.ref a)) :=
  ⟨PE.imp (pe_glob (v := .ref a) hg hm rfl hd) fun σ H Q ⟨s, M, Qd, Xd, S, x, t, q⟩ => q (.ref a) H ⟨.ref a, M, Gw.refl, S.mem, rfl, t⟩⟩
end DL
set_option maxHeartbeats 2000000
namespace DL
open PySem PySem.Spec PyProof.Rows L2 LamX
/-! ### what a lambda holds, as data -/
/-! ### a(), where a holds a lambda -/
end DL
namespace DL
open PySem PySem.Spec PyProof.Rows L2 LamX
/-! ### x(lambda: body) -/
/-- all tables that are owned are those of T -/
def TabsM (T : List (Addr × Str)) (M : Mem) : Prop := (∀ p ∈ T, M p.1 = some (.tab p.2)) ∧ ∀ a q, M a = some (.tab q) → (a, q) ∈ T
def CapD (s : SD) (js : List Nat) (ds : List D) : Prop := js.length = ds.length ∧ ∀ (i j : Nat) (d : D), js[i]? = some j → ds[i]? = some d → s[j]? = some (some d)
section
variable {K : Fg} {H H1 : Hp} {M : Mem} {σ : L2.St} {s : SD}
theorem tabs_of {T : List (Addr × Str)} (mo : MOk K H M) (tm : TabsM T M) : Tabs T H := fun p hp => by
  obtain ⟨ps, h1, h2, h3⟩ := (show TabAt H M p.1 p.2 from mo _ _ (tm.1 p hp))
  exact ⟨ps, h1, h2, fun pos cv hc => let ⟨cc, e1, e2, _⟩ := h3 pos cv hc; ⟨cc, e1, e2⟩⟩
/-- an object of code is not owned -/
theorem code_free {T : List (Addr × Str)} {cc : Addr} {q : Str} (mo : MOk K H M) (tm : TabsM T M) (eN : ExtN H H1) (T1 : Tabs T H1) (h : H1 cc = some (CodeO cc q)) : M cc = none := by
  cases e : M cc with
  | none => rfl
  | some o =>
    exfalso
    have z := mo _ _ e
    cases o with
    | lst ds =>
      obtain ⟨xs, h1, _⟩ := z
      have := eN _ _ h1 fun ps z => by cases z
      rw [h] at this; cases this
    | dct ks ds =>
      obtain ⟨xs, h1, _⟩ := z
      have := eN _ _ h1 fun ps z => by cases z
      rw [h] at this; cases this
    | ins C ns ds =>
      obtain ⟨dx, xs, h1, _⟩ := z
      have := eN _ _ h1 fun ps z => by cases z
      rw [h] at this; cases this
    | gen φ ds => exact z.elim
    | tab q2 =>
      obtain ⟨ps, h1, _⟩ := T1 _ (tm.2 _ _ e)
      rw [h] at h1; cases h1
theorem mok_ext {T : List (Addr × Str)} (mo : MOk K H M) (tm : TabsM T M) (eN : ExtN H H1) (T1 : Tabs T H1) : MOk K H1 M := fun a o e => by
  have gw : Gw H M H1 M := fun b u h m n => ⟨eN b u h n, m⟩
  have z := mo _ _ e
  cases o with
  | lst ds =>
    obtain ⟨xs, h1, h2⟩ := z
    exact ⟨xs, eN _ _ h1 (fun ps z => by cases z), Rs.grow gw ds xs h2⟩
  | dct ks ds =>
    obtain ⟨xs, h1, h3, h2⟩ := z
    exact ⟨xs, eN _ _ h1 (fun ps z => by cases z), h3, Rs.grow gw ds xs h2⟩
  | ins C ns ds =>
    obtain ⟨dx, xs, h1, h3, h4, h5, h2⟩ := z
    exact ⟨dx, xs, eN _ _ h1 (fun ps z => by cases z), h3, eN _ _ h4 (fun ps z => by cases z), h5, Rs.grow gw ds xs h2⟩
  | gen φ ds => exact z.elim
  | tab q =>
    obtain ⟨ps, h1, h2, h3⟩ := T1 _ (tm.2 _ _ e)
    refine ⟨ps, h1, h2, fun pos cv hc => ?_⟩
    obtain ⟨cc, e1, e2⟩ := h3 pos cv hc
    exact ⟨cc, e1, e2, code_free mo tm eN T1 e2⟩
end
end DL
namespace DL
open PySem PySem.Spec PyProof.Rows L2 LamX
theorem fwdGw {K : Fg} {H H1 : Hp} {M M1 : Mem} {Q : QD} {v : V} {H' : Hp} (g : Gw H M H1 M1) (h : upE K H1 M1 Q v H') : upE K H M Q v H' := by
  obtain ⟨d, M', g', m', r, q⟩ := h
  exact ⟨d, M', g.trans g', m', r, q⟩
end DL
namespace DL
open PySem PySem.Spec PyProof.Rows L2 LamX
/-- a def's body, its code object known -/
theorem dfn_ofC {P : Program} {w : World} {K : Fg} {mg : Str → Option Value} {base : Heap} {x qual : Str} {st : Stmt} {f : Addr} {fd : FuncData} {N ps : List Str} {k : Nat} {td : TSD} (F : Fun K x qual st f fd) (S : FnScope N ps (defScope st))
    (hbody : ∀ (cdv : Value) (_ : fd.code = cdv) (A : Around) (outer : List Env) (s : Shared) (H : Hp) (E : XK), RoomG k (A.deeper (envOfC qual (defScope st) s.heap.objs.size f cdv)) →
      DSs (cxOf (L2.CX P w) P w K mg base N qual (defScope st) f cdv A outer s H E) E (defBody st) td) : DFn P w K mg base (k + 1) f fd ps (bodyD td N) := by
  obtain ⟨oc, od, kV, doc, pm, an, cdv, ct, osl, rfl, lk, hcd⟩ := F.ex
  refine ⟨fun A outer s H M args us vs ds Qd Xd Q E hr e0 hlen hb r mo rs hsp hq hx => ?_⟩
  have hl : vs.length = ps.length := (vlen rs).trans hlen
  have KX : K.In s.heap := e0.mod.kin.keeps fun b o e => (e0.bs b o e).1
  have lim : s.heap.NoLimit := e0.mod.nolimit.keeps fun b o e => (e0.bs b o e).1
  have hkind : ∀ y ∈ ps.zip us, (defScope st).names.lookup y.1 = some .local ∨ ((defScope st).names.lookup y.1 = some .cell ∧ ((cellsFrom (s.heap.objs.size + 1) (defScope st).names []).lookup y.1).isSome = true) := fun ⟨n, v⟩ hy => by
    rcases S.par n (List.of_mem_zip hy).1 with q | q
    · exact .inl q
    · exact .inr ⟨q, PySem.W.cellsFrom_some _ _ _ (.inl q)⟩
  refine codeAny_call_function hr.r.depth (KX _ _ lk) rfl S.co S.gen rfl (PySem.W.codeRec_of KX hcd) (hb _ _ _ _ ?_)
  refine wpAny_newFunctionEnv_cells S.kind hkind fun env he s1 x => ?_
  subst he
  refine ⟨lim.keeps x.toInCall.keep, codeAny_func ?_⟩
  have ht := hbody cdv rfl A outer s H E (hr.deeper _)
  have I : Inv (cxOf (L2.CX P w) P w K mg base N qual (defScope st) f cdv A outer s H E) [] (L2.start N vs) H s1 := inv_start S hr.r.hd e0 hl r x
  refine wpAny_mono (ht.ok.run [] s1 (L2.start N vs) H { nx := fun _ H' => Q .non H', rt := Q } I ?_) (fun fl s' hs => ?_) fun e s' hs => hs
  · refine ⟨startD N ds, M, { nx := fun _ M' => Lo Qd .non M', rt := Lo Qd, bk := fun _ _ => False, ct := fun _ _ => False, ex := Xd }, start_ok mo rs, hx, hsp, fun σ' H' ⟨s', M', g, S', q⟩ => ?_, fun v H' ⟨d, M', g, m, rd, q⟩ => ?_, fun σ' H' ⟨s', M', g, S', q⟩ => q.elim, fun σ' H' ⟨s', M', g, S', q⟩ => q.elim⟩
    · obtain ⟨d2, M2, l, q⟩ := q
      exact hq _ _ (l.up g S'.mem rfl q)
    · obtain ⟨d2, M2, l, q⟩ := q
      exact hq _ _ (l.up g m rd q)
  have fin : ∀ {σ' : L2.St} {H' : Hp} {v : V} {u : Value}, Inv (cxOf (L2.CX P w) P w K mg base N qual (defScope st) f cdv A outer s H E) [] σ' H' s' → RelV v u → Q v H' → CE outer P w H s Q u s' :=
    fun {σ' H' v u} J rv q => ⟨v, H', J.os, J.bare, J.base, J.hok, rv, q⟩
  cases fl with
  | ret u =>
    obtain ⟨v, σ', H', J, rv, q⟩ := hs
    exact fin J rv q
  | next =>
    obtain ⟨σ', H', J, q⟩ := hs
    exact fin (v := V.non) (u := Value.none) J rfl q
  | brk =>
    obtain ⟨_, _, _, q⟩ := hs
    exact False.elim q
  | cont =>
    obtain ⟨_, _, _, q⟩ := hs
    exact False.elim q
end DL
set_option maxHeartbeats 2000000
namespace DL
open PySem PySem.Spec PyProof.Rows L2 LamX
/-! ### the end of a row whose law makes lambdas: its tables of code objects are owned from the start -/
/-- the memory at the entry: the tables T -/
def tabM (T : List (Addr × Str)) : Mem := fun a => (T.lookup a).map MO.tab
theorem tabM_ok {T : List (Addr × Str)} (hn : (T.map (·.1)).Nodup) : TabsM T (tabM T) := by
  constructor
  · intro p hp
    have e : T.lookup p.1 = some p.2 := by
      induction T with
      | nil => cases hp
      | cons x T ih =>
        rw [List.map_cons, List.nodup_cons] at hn
        rcases List.mem_cons.mp hp with rfl | hp
        · simp [List.lookup]
        · have ne : (p.1 == x.1) = false := by
            rw [beq_eq_false_iff_ne]
            exact fun z => hn.1 (by rw [← z]; exact List.mem_map.mpr ⟨p, hp, rfl⟩)
          rw [List.lookup, ne]
          exact ih hn.2 hp
    show (T.lookup p.1).map MO.tab = _
    rw [e]; rfl
  · intro a q e
    have e2 : (T.lookup a).map MO.tab = some (.tab q) := e
    cases z : T.lookup a with
    | none => rw [z] at e2; cases e2
    | some q2 =>
      rw [z] at e2
      cases e2
      clear e hn
      induction T with
      | nil => cases z
      | cons x T ih =>
        rw [List.lookup] at z
        split at z
        · rename_i h
          cases z
          rw [beq_iff_eq.mp h]
          exact List.mem_cons_self
        · exact List.mem_cons_of_mem _ (ih z)
def LawDT (n : Nat) (T : List (Addr × Str)) (sp : SpD) : Prop := ∀ ns : List Int, ns.length ≤ n → sp [.fzn (ns.map D.int)] (tabM T) (fun d _ => d = .bl true) (fun _ _ _ _ => False)
section
variable {P : Program} {w : World} {K : Fg} {mg mb : Str → Option Value} {k n : Nat} {fa a : Addr} {fd : FuncData} {x : Str} {sp : SpD} {s1 : Shared} {vs : List Value} {ns : List Int} {cs : List (Addr × Addr)} {qs : List Str}
theorem d_enter {H : Hp} (KX : K.In s1.heap) (hns : s1.heap.Ns mainGlobals mg) (hb : s1.heap.Ns builtinsNs mb) (hbb : ∀ x : Str, x ≠ "__name__" → mb x = bootBuiltins x) (hlim : s1.heap.NoLimit) (hg : s1.gens = #[])
    (hT : ∀ p ∈ cs, s1.heap.get? p.2 = some { cls := .none, data := .fields #[] }) (nT : ∀ p ∈ cs, K.lookup p.2 = none) (C : ∀ p ∈ cs, PySem.W.CodeHd s1.heap p.1 p.2)
    (hbm : ∃ (bm : Addr) (ob : Obj), mg "__builtins__" = some (.ref bm) ∧ bm ≠ builtinsNs ∧ s1.heap.get? bm = some ob ∧ ob.cls = .type "module" ∧ ob.dict = some builtinsNs ∧ ob.data = .plain)
    (ha : s1.heap.get? a = some { cls := .type "list", data := .seq vs.toArray }) (hln : ns.length ≤ n) (hr : RoomG k callerA)
    (lq : qs.length = cs.length) (nd : (cs.map (·.2)).Nodup)
    (F : ∀ base : Heap, K.In base → base.Ns mainGlobals mg → (∀ p ∈ cs, TabB base mg p.1 p.2) → DFn P w K mg base k fa fd [x] sp) (hbind : ∀ (s : Shared) (u : Value), BindsTo s fd ⟨[u], []⟩ [(x, u)]) (hsp : LawDT n ((cs.map (·.2)).zip qs) sp)
    (tracked : ∀ b u, H b = some u → (b ∈ cs.map (·.2) ∧ u = .tbl #[]) ∨ (b = a ∧ ∃ o xs, u = .frz o (.lst xs))) (tables : ∀ p ∈ cs, H p.2 = some (.tbl #[])) (script : SqL K H a (ns.map V.int)) (notK : H a ≠ none → K.lookup a = none) (hok : HOk P w H s1.heap) :
    codeAny (model P w) callerA (.call (.ref fa) ⟨[.ref a], []⟩) (fun r s' => r = .ok (.ret (.bool true)) ∧ OldK s1.heap s'.heap ∧ s'.os = s1.os ∧ AllBare s'.gens) s1 := by
  have tabAt : ∀ {b}, b ∈ cs.map (·.2) → s1.heap.get? b = some { cls := .none, data := .fields #[] } := fun {b} h => by
    obtain ⟨p, hp, rfl⟩ := List.mem_map.mp h
    exact hT p hp
  have plain : ∀ {b : Addr} {o : Obj}, s1.heap.get? b = some o → (∀ us m, o.data ≠ .seq us m) → o.data ≠ .fields #[] → H b = none := fun {b o} e h1 h2 => by
    cases q : H b with
    | none => rfl
    | some u =>
      exfalso
      rcases tracked b u q with ⟨z, _⟩ | ⟨rfl, _⟩
      · rw [tabAt z] at e; cases e; exact h2 rfl
      · rw [ha] at e; cases e; exact h1 _ _ rfl
  have kept : ∀ {b : Addr} {o : Obj}, s1.heap.get? b = some o → H b = none → (hidT s1.heap H).get? b = some o := fun e z => hidT_get e z
  have names : ∀ {b : Addr} {m : Str → Option Value}, s1.heap.Ns b m → (hidT s1.heap H).Ns b m := fun {b m} ⟨o, es, ep, e, d, r⟩ =>
    ⟨o, es, ep, kept e (plain e (fun us m z => by rw [d] at z; cases z) fun z => by rw [d] at z; cases z), d, r⟩
  have inK : K.In (hidT s1.heap H) := fun b o e => kept (KX b o e) (by
    cases q : H b with
    | none => rfl
    | some u =>
      exfalso
      rcases tracked b u q with ⟨z, _⟩ | ⟨rfl, _⟩
      · obtain ⟨p, hp, rfl⟩ := List.mem_map.mp z
        rw [nT p hp] at e; cases e
      · rw [notK (by rw [q]; exact fun z => nomatch z)] at e; cases e)
  have world : Mod K mg (hidT s1.heap H) := ⟨inK, names hns, ⟨mb, names hb, hbb⟩, hlim.elim fun mc h => ⟨mc, names h.1, h.2⟩⟩
  have boards : ∀ p ∈ cs, TabB (hidT s1.heap H) mg p.1 p.2 := fun p hp => by
    obtain ⟨go, ges, gep, ge, gd, _⟩ := hns
    constructor
    · obtain ⟨o, us, file, tf, flags, tg, inF, text, tt, e1, r1, r2, r3, r4⟩ := C p hp
      exact ⟨o, us, file, tf, flags, tg, inF, text, tt, kept e1 (plain e1 (fun us m z => by rw [r2] at z; cases z) fun z => by rw [r2] at z; cases z; simp at r3), r1, r2, r3, r4⟩
    · obtain ⟨bm, ob, b1, b2, b3, b4, b5, b6⟩ := hbm
      refine ⟨bm, ob, b1, b2, fun z => ?_, fun z => ?_, kept b3 (plain b3 (fun us m z => by rw [b6] at z; cases z) fun z => by rw [b6] at z; cases z), b4, b5, b6⟩
      · subst z; rw [ge] at b3; cases b3; rw [gd] at b6; cases b6
      · subst z; rw [hT p hp] at b3; cases b3; cases b6
    · intro z
      rw [z, hT p hp] at ge; cases ge; cases gd
  have env : Env0 P w K mg (hidT s1.heap H) callerA [] s1 H := ⟨rfl, world, fun b o e => of_hidT e, Nat.le_of_eq (hidT_size _ _), trivial, fun b z => (by cases (show b ∈ ([] : List Addr) from z)), hok, .of_eq hg⟩
  have lz : (cs.map (·.2)).length = qs.length := by rw [List.length_map, lq]
  have mt : ∀ {b q}, tabM ((cs.map (·.2)).zip qs) b = some (.tab q) → b ∈ cs.map (·.2) := fun {b q} e => by
    have nd2 : (((cs.map (·.2)).zip qs).map (·.1)).Nodup := by rw [List.map_fst_zip (by omega)]; exact nd
    exact (List.of_mem_zip ((tabM_ok nd2).2 _ _ e)).1
  have tabs : ∀ {b : Addr} {o : MO}, tabM ((cs.map (·.2)).zip qs) b = some o → ∃ q, o = .tab q := fun {b o} e => by
    have e2 : (((cs.map (·.2)).zip qs).lookup b).map MO.tab = some o := e
    obtain ⟨q, _, z⟩ := Option.map_eq_some_iff.mp e2
    exact ⟨q, z.symm⟩
  have aNot : a ∉ cs.map (·.2) := fun z => by
    have := tabAt z
    rw [ha] at this
    injection this with this
    injection this with _ _ d
    cases d
  have mo : MOk K H (tabM ((cs.map (·.2)).zip qs)) := fun b o e => by
    obtain ⟨q, rfl⟩ := tabs e
    obtain ⟨p, hp, rfl⟩ := List.mem_map.mp (mt e)
    exact ⟨#[], tables p hp, trivial, fun pos cv z => by
      have z2 : codeAmong pos [] = some cv := z
      simp [codeAmong] at z2⟩
  have aM : tabM ((cs.map (·.2)).zip qs) a = none := by
    cases e : tabM ((cs.map (·.2)).zip qs) a with
    | none => rfl
    | some o =>
      obtain ⟨q, rfl⟩ := tabs e
      exact absurd (mt e) aNot
  have arg : Rv K H (tabM ((cs.map (·.2)).zip qs)) (.fzn (ns.map D.int)) (.ref a) := by
    refine ⟨a, _, rfl, ?_, DL.rs_ints ns⟩
    rcases script with z | z
    · exact .inl ⟨z, aM⟩
    · exact .inr z
  have ran := (F _ inK (names hns) boards).run callerA [] s1 H _ ⟨[.ref a], []⟩ [.ref a] [.ref a] [.fzn (ns.map D.int)] (fun d _ => d = .bl true) (fun _ _ _ _ => False) (fun v _ => v = .bl true) (fun _ _ _ => False) hr env rfl (hbind s1 (.ref a)) (.cons rfl .nil) mo (Rs.cons arg Rs.nil) (hsp ns hln)
    (fun v H' ⟨d, M', _, _, rd, e⟩ => by subst e; exact rd) (fun c od H' ⟨_, _, _, _, _, _, _, _, _, _, _, _, _, _, z⟩ => z)
  refine codeAny_mono ran fun r s' fin => ?_
  match r, fin with
  | .error e, fin => obtain ⟨_, _, _, _, _, _, _, _, _, _, _, _, z⟩ := fin; exact z.elim
  | .ok .next, fin => exact False.elim fin
  | .ok .brk, fin => exact False.elim fin
  | .ok .cont, fin => exact False.elim fin
  | .ok (.ret u), fin =>
    obtain ⟨v, H', os, bare, un, ok', rv, q⟩ := fin
    obtain rfl : v = .bl true := q
    obtain rfl : u = Value.bool true := rv
    have others : ∀ b o, b ∉ cs.map (·.2) → s1.heap.get? b = some o → s'.heap.get? b = some o := fun b o nb e => by
      cases q : H b with
      | none => exact un.keep b o e q (fun z => by cases (show b ∈ ([] : List Addr) from z)) (by simp)
      | some u =>
        rcases tracked b u q with ⟨z, _⟩ | ⟨rfl, oo, xs, rfl⟩
        · exact absurd z nb
        · have before := (hok b _ q).1
          have behind := (ok' b _ (un.frzs b oo _ q)).1
          rw [e] at before; cases before; exact behind
    have wider : ∀ p ∈ cs, ∃ more : Array Value, s'.heap.get? p.2 = some { cls := .none, data := .fields more } := fun p hp => by
      obtain ⟨more, z⟩ := un.tbls p.2 #[] (tables p hp)
      exact ⟨_, ok' p.2 _ z⟩
    refine ⟨rfl, ⟨fun b o e => ?_, fun b o e => ?_⟩, os, bare⟩
    · by_cases z : b ∈ cs.map (·.2)
      · obtain ⟨p, hp, rfl⟩ := List.mem_map.mp z
        obtain ⟨more, hm⟩ := wider p hp
        rw [hT p hp] at e; cases e
        exact .inr (.inl ⟨((C p hp).tab (hT p hp)).isCodeTable, rfl, #[], more, rfl, by rw [Array.empty_append]; exact hm⟩)
      · exact .inl (others b o z e)
    · by_cases z : b ∈ cs.map (·.2)
      · obtain ⟨p, hp, rfl⟩ := List.mem_map.mp z
        obtain ⟨more, hm⟩ := wider p hp
        exact ⟨_, hm⟩
      · exact ⟨o, others b o z e⟩
theorem d_callT (KX : K.In s1.heap) (hns : s1.heap.Ns mainGlobals mg) (hb : s1.heap.Ns builtinsNs mb) (hbb : ∀ x : Str, x ≠ "__name__" → mb x = bootBuiltins x) (hlim : s1.heap.NoLimit) (hg : s1.gens = #[])
    (hT : ∀ p ∈ cs, s1.heap.get? p.2 = some { cls := .none, data := .fields #[] }) (nT : ∀ p ∈ cs, K.lookup p.2 = none) (C : ∀ p ∈ cs, PySem.W.CodeHd s1.heap p.1 p.2)
    (hbm : ∃ (bm : Addr) (ob : Obj), mg "__builtins__" = some (.ref bm) ∧ bm ≠ builtinsNs ∧ s1.heap.get? bm = some ob ∧ ob.cls = .type "module" ∧ ob.dict = some builtinsNs ∧ ob.data = .plain)
    (ha : s1.heap.get? a = some { cls := .type "list", data := .seq vs.toArray }) (hi : IntsAre vs ns) (hl : ns.length ≤ sizeLine) (hln : ns.length ≤ n) (hr : RoomG k callerA)
    (lq : qs.length = cs.length) (nd : (cs.map (·.2)).Nodup)
    (F : ∀ base : Heap, K.In base → base.Ns mainGlobals mg → (∀ p ∈ cs, TabB base mg p.1 p.2) → DFn P w K mg base k fa fd [x] sp) (hbind : ∀ (s : Shared) (u : Value), BindsTo s fd ⟨[u], []⟩ [(x, u)]) (hsp : LawDT n ((cs.map (·.2)).zip qs) sp) :
    codeAny (model P w) callerA (.call (.ref fa) ⟨[.ref a], []⟩) (fun r s' => r = .ok (.ret (.bool true)) ∧ OldK s1.heap s'.heap ∧ s'.os = s1.os ∧ AllBare s'.gens) s1 := by
  have rv := vals_ints hi
  have lv := hi.length
  have apart : a ∉ cs.map (·.2) := fun z => by
    obtain ⟨p, hp, rfl⟩ := List.mem_map.mp z
    have := hT p hp
    rw [ha] at this
    injection this with this
    injection this with _ _ d
    cases d
  have inT : ∀ p ∈ cs, p.2 ∈ cs.map (·.2) := fun p hp => List.mem_map.mpr ⟨p, hp, rfl⟩
  cases hk : K.lookup a with
  | some o =>
    have e := KX a o hk
    rw [ha] at e; cases e
    refine d_enter (H := fun b => if b ∈ cs.map (·.2) then some (.tbl #[]) else none) KX hns hb hbb hlim hg hT nT C hbm ha hln hr lq nd F hbind hsp (fun b u z => ?_) (fun p hp => if_pos (inT p hp)) (.inr ⟨_, vs.toArray, _, hk, rfl, rfl, rfl, by rw [List.size_toArray, lv]; exact hl, by simpa using rv⟩) (fun z => absurd (if_neg apart) z) fun b u z => ?_
    · by_cases q : b ∈ cs.map (·.2)
      · exact .inl ⟨q, Option.some.inj (((if_pos q).symm.trans z).symm)⟩
      · exact nomatch (if_neg q).symm.trans z
    · by_cases q : b ∈ cs.map (·.2)
      · have := (if_pos q).symm.trans z
        cases this
        obtain ⟨p, hp, rfl⟩ := List.mem_map.mp q
        exact hT p hp
      · exact nomatch (if_neg q).symm.trans z
  | none =>
    have other : ∀ {b}, b ∈ cs.map (·.2) → b ≠ a := fun {b} q z => apart (z ▸ q)
    refine d_enter (H := fun b => if b = a then some (.frz { cls := .type "list", data := .seq vs.toArray } (.lst (ns.map V.int))) else if b ∈ cs.map (·.2) then some (.tbl #[]) else none) KX hns hb hbb hlim hg hT nT C hbm ha hln hr lq nd F hbind hsp (fun b u z => ?_) (fun p hp => (if_neg (other (inT p hp))).trans (if_pos (inT p hp))) (.inl (.inr ⟨_, if_pos rfl⟩)) (fun _ => hk) fun b u z => ?_
    · by_cases q : b = a
      · exact .inr ⟨q, _, _, Option.some.inj (((if_pos q).symm.trans z).symm)⟩
      · have z := (if_neg q).symm.trans z
        by_cases q2 : b ∈ cs.map (·.2)
        · exact .inl ⟨q2, Option.some.inj (((if_pos q2).symm.trans z).symm)⟩
        · exact nomatch (if_neg q2).symm.trans z
    · by_cases q : b = a
      · have := (if_pos q).symm.trans z
        cases this
        subst q
        exact ⟨ha, by rw [List.length_map]; exact hl, vs, _, rv, ha⟩
      · have z := (if_neg q).symm.trans z
        by_cases q2 : b ∈ cs.map (·.2)
        · have := (if_pos q2).symm.trans z
          cases this
          obtain ⟨p, hp, rfl⟩ := List.mem_map.mp q2
          exact hT p hp
        · exact nomatch (if_neg q2).symm.trans z
end
end DL
namespace DL
open PySem PySem.Spec PyProof.Rows L2 LamX
/-- the module of the built-ins stands behind the globals -/
def bmB (K : Fg) : Bool := match PySem.W.nsIn K mainGlobals "__builtins__" with
  | some (some (.ref bm)) => decide (bm ≠ builtinsNs) && (match K.lookup bm with
    | some o => decide (o.cls = .type "module") && decide (o.dict = some builtinsNs) && (match o.data with
      | .plain => true
      | _ => false)
    | none => false)
  | _ => false
theorem bmB_ok {K : Fg} {h : Heap} {mg : Str → Option Value} (X : K.In h) (G : h.Ns mainGlobals mg) (e : bmB K = true) :
    ∃ (bm : Addr) (ob : Obj), mg "__builtins__" = some (.ref bm) ∧ bm ≠ builtinsNs ∧ h.get? bm = some ob ∧ ob.cls = .type "module" ∧ ob.dict = some builtinsNs ∧ ob.data = .plain := by
  unfold bmB at e
  split at e
  · rename_i bm hbm
    obtain ⟨e1, e2⟩ := He.ba e
    split at e2
    · rename_i o ho
      obtain ⟨e3, e4⟩ := He.ba e2
      obtain ⟨e5, e6⟩ := He.ba e3
      split at e4
      · rename_i hd
        exact ⟨bm, o, PySem.W.mg_of X G hbm, of_decide_eq_true e1, X _ _ ho, of_decide_eq_true e5, of_decide_eq_true e6, hd⟩
      · cases e4
    · cases e2
  · cases e
theorem code_known {K : Fg} {x qual : Str} {st : Stmt} {p : Str × Option Str} {fd : FuncData} (F : Fun K x qual st (He.fAd K p) fd) : ∀ cdv, fd.code = cdv → cdv = .ref (He.codeOf K p) := by
  obtain ⟨oc, od, kV, doc, pm, an, cd, ct, osl, rfl, lk, hcg⟩ := F.ex
  obtain ⟨c, rfl⟩ := He.codeIn_ref hcg
  intro cdv e
  rw [← e]
  exact congrArg Value.ref (He.codeOf_eq lk rfl).symm
theorem d_walkT {l : PySem.W.OpenLaw} {n k : Nat} {q : Program} {loose : List Str} {XP : (Str → Option Value) → Heap → Prop} {YP : World → Heap → Prop} {d : DefRec} {x : Str} (hn : l.most = some n) (hn2 : n ≤ sizeLine) (hdf : d.params.defaults = []) (hr : RoomG k callerA)
    (F : ∀ (w : World) (mg : Str → Option Value) (fa : Addr) (h : Heap), YP w h → h.Ns mainGlobals mg → mg d.name = some (.ref fa) →
      ∃ (K : Fg) (fd : FuncData) (sp : SpD) (cs : List (Addr × Addr)) (qs : List Str), K.In h ∧ (∀ p ∈ cs, h.get? p.2 = some { cls := .none, data := .fields #[] }) ∧ (∀ p ∈ cs, K.lookup p.2 = none) ∧ (∀ p ∈ cs, PySem.W.CodeHd h p.1 p.2) ∧
        (∃ (bm : Addr) (ob : Obj), mg "__builtins__" = some (.ref bm) ∧ bm ≠ builtinsNs ∧ h.get? bm = some ob ∧ ob.cls = .type "module" ∧ ob.dict = some builtinsNs ∧ ob.data = .plain) ∧ qs.length = cs.length ∧ (cs.map (·.2)).Nodup ∧
        (∀ (s : Shared) (u : Value), BindsTo s fd ⟨[u], []⟩ [(x, u)]) ∧ LawDT n ((cs.map (·.2)).zip qs) sp ∧ ∀ base : Heap, K.In base → base.Ns mainGlobals mg → (∀ p ∈ cs, TabB base mg p.1 p.2) → DFn l.prog w K mg base k fa fd [x] sp) :
    PySem.W.WalkO q loose XP YP l.row.toRowW d [] (fun f vs => PySem.call f vs) := by
  apply Att.attach_call hn hdf
  intro w s0 s1 mg mb fa o pm cd doc a vs ns G Y ho hd hcd hmg hobj hints hlen hg
  obtain ⟨K, fd, sp, cs, qs, KX, t1, t2, t3, hbm, lq, nd, hb, hsp, hF⟩ := F w mg fa _ Y G.T.g hmg
  exact d_callT KX G.T.g G.T.b G.T.builtins G.T.nolimit hg t1 t2 t3 hbm hobj hints (Nat.le_trans hlen hn2) hlen hr lq nd hF hb hsp
end DL
set_option maxHeartbeats 1000000
namespace MH
open PySem PySem.Spec PyProof.Rows L2 DL
/-! ### things as trees -/
inductive Th where
  | raw (here : Bool) (lo hi : Int)
  | made (here : Bool) (lo hi share : Int) (up down : Bool) (parts : List Th)
  deriving Inhabited
def landS (b : Bool) : Str := if b then "here" else "away"
def upS (b : Bool) : Str := if b then "whole" else "own"
def dnS (b : Bool) : Str := if b then "own" else "none"
def landD (b : Bool) : D := .str (landS b)
def termD (share : Int) (up down : Bool) : D := .tup [.int share, .str (upS up), .str (dnS down)]
mutual
def Th.d : Th → D
  | .raw h lo hi => .tup [.str "raw", landD h, .int lo, .int hi]
  | .made h lo hi sh u w ps => .tup [.str "made", landD h, .int lo, .int hi, termD sh u w, .tup (Th.ds ps)]
def Th.ds : List Th → List D
  | [] => []
  | t :: ts => t.d :: Th.ds ts
end
theorem ds_map : ∀ ts : List Th, Th.ds ts = ts.map Th.d
  | [] => rfl
  | t :: ts => by rw [Th.ds, ds_map ts, List.map_cons]
mutual
def Th.sz : Th → Nat
  | .raw _ _ _ => 1
  | .made _ _ _ _ _ _ ps => 1 + Th.szs ps
def Th.szs : List Th → Nat
  | [] => 0
  | t :: ts => t.sz + Th.szs ts
end
mutual
/-- steps in it -/
def Th.st : Th → Nat
  | .raw _ _ _ => 0
  | .made _ _ _ _ _ _ ps => 1 + Th.sts ps
def Th.sts : List Th → Nat
  | [] => 0
  | t :: ts => t.st + Th.sts ts
end
def mv1 (lo hi : Int) : Nat := if lo < hi then 1 else 0
mutual
/-- how many move -/
def Th.mv : Th → Nat
  | .raw _ lo hi => mv1 lo hi
  | .made _ lo hi _ _ _ ps => mv1 lo hi + Th.mvs ps
def Th.mvs : List Th → Nat
  | [] => 0
  | t :: ts => t.mv + Th.mvs ts
end
def bnd (lo hi : Int) : Prop := 0 ≤ lo ∧ lo ≤ hi ∧ hi ≤ 1000000
mutual
/-- each thing by itself is as told -/
def Th.ok : Th → Prop
  | .raw _ lo hi => bnd lo hi
  | .made _ lo hi sh _ _ ps => bnd lo hi ∧ (0 ≤ sh ∧ sh ≤ 100) ∧ (1 ≤ ps.length ∧ ps.length ≤ 4) ∧ Th.oks ps
def Th.oks : List Th → Prop
  | [] => True
  | t :: ts => t.ok ∧ Th.oks ts
end
def Th.isMade : Th → Bool
  | .raw _ _ _ => false
  | .made _ _ _ _ _ _ _ => true
mutual
/-- some LOW is above 0 -/
def Th.any : Th → Bool
  | .raw _ lo _ => decide (0 < lo)
  | .made _ lo _ _ _ _ ps => decide (0 < lo) || Th.anys ps
def Th.anys : List Th → Bool
  | [] => false
  | t :: ts => t.any || Th.anys ts
end
/-- a good -/
structure Th.good (t : Th) : Prop where
  made : t.isMade = true
  ok : t.ok
  sz : t.sz ≤ 10
  st : t.st ≤ 4
  mv : t.mv ≤ 3
  any : t.any = true
theorem szs_app : ∀ a b : List Th, Th.szs (a ++ b) = Th.szs a + Th.szs b
  | [], b => by simp [Th.szs]
  | t :: a, b => by simp only [List.cons_append, Th.szs, szs_app a b]; omega
theorem sts_app : ∀ a b : List Th, Th.sts (a ++ b) = Th.sts a + Th.sts b
  | [], b => by simp [Th.sts]
  | t :: a, b => by simp only [List.cons_append, Th.sts, sts_app a b]; omega
theorem mvs_app : ∀ a b : List Th, Th.mvs (a ++ b) = Th.mvs a + Th.mvs b
  | [], b => by simp [Th.mvs]
  | t :: a, b => by simp only [List.cons_append, Th.mvs, mvs_app a b]; omega
theorem oks_app : ∀ a b : List Th, Th.oks (a ++ b) ↔ Th.oks a ∧ Th.oks b
  | [], b => by simp [Th.oks]
  | t :: a, b => by simp only [List.cons_append, Th.oks, oks_app a b, and_assoc]
theorem ds_app (a b : List Th) : Th.ds (a ++ b) = Th.ds a ++ Th.ds b := by rw [ds_map, ds_map, ds_map, List.map_append]
theorem sz_pos : ∀ t : Th, 1 ≤ t.sz
  | .raw _ _ _ => Nat.le_refl 1
  | .made _ _ _ _ _ _ ps => by unfold Th.sz; omega
theorem szs_ge : ∀ ts : List Th, ts.length ≤ Th.szs ts
  | [] => Nat.le_refl 0
  | t :: ts => by
    have := szs_ge ts
    have := sz_pos t
    simp only [Th.szs, List.length_cons]; omega
end MH
set_option maxHeartbeats 1000000
namespace MH
open PySem PySem.Spec PyProof.Rows L2 DL
/-- in least terms -/
def lt (p q : Int) : Int × Int := (p / (Int.gcd p q : Int), q / (Int.gcd p q : Int))
def frD (f : Int × Int) : D := .tup [.int f.1, .int f.2]
theorem gcd_pos' {p q : Int} (h : 0 < q) : (0 : Int) < (Int.gcd p q : Int) := by
  have : Int.gcd p q ≠ 0 := fun e => by
    have := Int.gcd_eq_zero_iff.mp e
    omega
  omega
theorem lt_mul {p q : Int} : (lt p q).1 * (Int.gcd p q : Int) = p ∧ (lt p q).2 * (Int.gcd p q : Int) = q := by
  refine ⟨Int.ediv_mul_cancel (Int.gcd_dvd_left ..), Int.ediv_mul_cancel (Int.gcd_dvd_right ..)⟩
theorem lt_pos {p q : Int} (h : 0 < q) : 0 < (lt p q).2 := by
  have g := gcd_pos' (p := p) h
  have e := (lt_mul (p := p) (q := q)).2
  by_cases z : 0 < (lt p q).2
  · exact z
  · have : (lt p q).2 * (Int.gcd p q : Int) ≤ 0 := Int.mul_nonpos_of_nonpos_of_nonneg (by omega) (by omega)
    omega
theorem lt_cross {p q : Int} : (lt p q).1 * q = p * (lt p q).2 := by
  have h := lt_mul (p := p) (q := q)
  generalize (lt p q).1 = a at h
  generalize (lt p q).2 = b at h
  generalize (Int.gcd p q : Int) = g at h
  obtain ⟨h1, h2⟩ := h
  rw [← h1, ← h2, Int.mul_assoc, Int.mul_comm g b]
theorem lt_cop {p q : Int} (h : 0 < q) : Int.gcd (lt p q).1 (lt p q).2 = 1 := by
  have g := gcd_pos' (p := p) h
  unfold lt
  exact Int.gcd_ediv_gcd_ediv_gcd (by omega)
theorem dvd_cop {a b c : Int} (h : b ∣ a * c) (g : Int.gcd a b = 1) : b ∣ c := by
  rw [← Int.natAbs_dvd_natAbs] at h ⊢
  rw [Int.natAbs_mul, Nat.mul_comm] at h
  exact Nat.Coprime.dvd_of_dvd_mul_right (n := a.natAbs) (by unfold Nat.Coprime; rw [Nat.gcd_comm]; exact g) h
/-- two in least terms that are one number are one -/
theorem cop_eq {a b c d : Int} (h : a * d = c * b) (b0 : 0 < b) (d0 : 0 < d) (h1 : Int.gcd a b = 1) (h2 : Int.gcd c d = 1) : (a, b) = (c, d) := by
  have e1 : b ∣ d := by
    have : b ∣ a * d := ⟨c, by rw [h, Int.mul_comm]⟩
    exact dvd_cop this h1
  have e2 : d ∣ b := by
    have : d ∣ c * b := ⟨a, by rw [← h, Int.mul_comm]⟩
    exact dvd_cop this h2
  have e3 : b = d := Int.dvd_antisymm (by omega) (by omega) e1 e2
  subst e3
  have e4 : a = c := Int.eq_of_mul_eq_mul_right (by omega) h
  rw [e4]
theorem lt_eq {p q p' q' : Int} (h : p * q' = p' * q) (q0 : 0 < q) (q1 : 0 < q') : lt p q = lt p' q' := by
  refine cop_eq (a := (lt p q).1) (b := (lt p q).2) (c := (lt p' q').1) (d := (lt p' q').2) ?_ (lt_pos q0) (lt_pos q1) (lt_cop q0) (lt_cop q1)
  have m1 := lt_mul (p := p) (q := q)
  have m2 := lt_mul (p := p') (q := q')
  have g1 := gcd_pos' (p := p) q0
  have g2 := gcd_pos' (p := p') q1
  generalize (lt p q).1 = a at m1 ⊢
  generalize (lt p q).2 = b at m1 ⊢
  generalize (lt p' q').1 = c at m2 ⊢
  generalize (lt p' q').2 = d at m2 ⊢
  generalize (Int.gcd p q : Int) = g at m1 g1
  generalize (Int.gcd p' q' : Int) = k at m2 g2
  obtain ⟨rfl, rfl⟩ := m1
  obtain ⟨rfl, rfl⟩ := m2
  have e : a * d * (g * k) = c * b * (g * k) := by
    have e1 : a * g * (d * k) = a * d * (g * k) := by
      simp only [Int.mul_assoc, Int.mul_comm, Int.mul_left_comm]
    have e2 : c * k * (b * g) = c * b * (g * k) := by
      simp only [Int.mul_assoc, Int.mul_comm, Int.mul_left_comm]
    rw [← e1, ← e2]; exact h
  have : 0 < g * k := Int.mul_pos g1 g2
  exact Int.eq_of_mul_eq_mul_right (by omega) e
theorem lt_self {p q : Int} (q0 : 0 < q) (h : Int.gcd p q = 1) : lt p q = (p, q) := by
  unfold lt; rw [h]; simp
theorem lt_le {p q : Int} (q0 : 0 < q) : (lt p q).2 ≤ q := by
  have e := (lt_mul (p := p) (q := q)).2
  have g := gcd_pos' (p := p) q0
  have b := lt_pos (p := p) q0
  have : (lt p q).2 * 1 ≤ (lt p q).2 * (Int.gcd p q : Int) := Int.mul_le_mul_of_nonneg_left (by omega) (by omega)
  omega
theorem lt_abs {p q : Int} (q0 : 0 < q) : (lt p q).1.natAbs ≤ p.natAbs := by
  have e := (lt_mul (p := p) (q := q)).1
  have g := gcd_pos' (p := p) q0
  have e2 : (lt p q).1.natAbs * Int.gcd p q = p.natAbs := by
    rw [← e, Int.natAbs_mul]; simp
    rw [e]
  have : (lt p q).1.natAbs * 1 ≤ (lt p q).1.natAbs * Int.gcd p q := Nat.mul_le_mul_left _ (by omega)
  omega
end MH
set_option maxHeartbeats 1000000
namespace MH
open PySem PySem.Spec PyProof.Rows L2 DL
/-! ### the rows of a thing: each with the numbers of its parts -/
def nums : Nat → List Th → List Nat
  | _, [] => []
  | b, t :: ts => b :: nums (b + t.sz) ts
mutual
def rows : Th → Nat → List (Th × List Nat)
  | .raw h lo hi, _ => [(.raw h lo hi, [])]
  | .made h lo hi sh u w ps, b => (.made h lo hi sh u w ps, nums (b + 1) ps) :: rowss ps (b + 1)
def rowss : List Th → Nat → List (Th × List Nat)
  | [], _ => []
  | t :: ts, b => rows t b ++ rowss ts (b + t.sz)
end
def rowD (r : Th × List Nat) : D := .tup [r.1.d, .lst (r.2.map fun (k : Nat) => D.int (k : Int))]
mutual
theorem rows_len : ∀ (t : Th) (b : Nat), (rows t b).length = t.sz
  | .raw _ _ _, _ => rfl
  | .made _ _ _ _ _ _ ps, b => by rw [rows, List.length_cons, rowss_len ps (b + 1), Th.sz]; omega
theorem rowss_len : ∀ (ts : List Th) (b : Nat), (rowss ts b).length = Th.szs ts
  | [], _ => rfl
  | t :: ts, b => by rw [rowss, List.length_append, rows_len t b, rowss_len ts _, Th.szs]
end
end MH
set_option maxHeartbeats 1000000
namespace MH
open PySem PySem.Spec PyProof.Rows L2 DL
theorem log2_le {n a : Nat} (h : n ≤ 2 ^ a) : n.log2 ≤ a := by
  by_cases z : n = 0
  · subst z; simp
  · have h2 : n < 2 ^ (a + 1) := by rw [Nat.pow_succ]; have := Nat.two_pow_pos a; omega
    have := (Nat.log2_lt z).mpr h2
    omega
theorem mulW2 {i j : Int} {a b : Nat} (h : i.natAbs ≤ 2 ^ a) (k : j.natAbs ≤ 2 ^ b) (ab : a + b < 1000000) : CMulW i j := by
  have := log2_le h
  have := log2_le k
  unfold CMulW; omega
theorem divW2 {j : Int} {b : Nat} (h : 0 < j) (k : j.natAbs ≤ 2 ^ b) (hb : b < 9000) : CDivW 0 j := by
  have := log2_le k
  exact ⟨h, by omega⟩
/-- the sum of fractions, not in least terms -/
def addF (f g : Int × Int) : Int × Int := (f.1 * g.2 + g.1 * f.2, f.2 * g.2)
def sumF (fs : List (Int × Int)) : Int × Int := fs.foldl addF (0, 1)
/-- what is a fraction within reach -/
def FOk (f : Int × Int) : Prop := f.1.natAbs ≤ 2 ^ 64 ∧ 0 < f.2 ∧ f.2.natAbs ≤ 2 ^ 64
def FB (k : Nat) (f : Int × Int) : Prop := f.1.natAbs ≤ 2 ^ (65 * k) ∧ 0 < f.2 ∧ f.2.natAbs ≤ 2 ^ (65 * k)
theorem natAbs_mul_le {x y : Int} {a b : Nat} (h : x.natAbs ≤ a) (k : y.natAbs ≤ b) : (x * y).natAbs ≤ a * b := by
  rw [Int.natAbs_mul]; exact Nat.mul_le_mul h k
theorem addF_ok {k : Nat} {f g : Int × Int} (h : FB k f) (w : FOk g) : FB (k + 1) (addF f g) := by
  obtain ⟨h1, h2, h3⟩ := h
  obtain ⟨w1, w2, w3⟩ := w
  have e : 2 ^ (65 * (k + 1)) = 2 ^ (65 * k) * 2 ^ 64 + 2 ^ (65 * k) * 2 ^ 64 := by
    rw [Nat.mul_add, Nat.pow_add]; omega
  have a1 := natAbs_mul_le h1 w3
  have a2 := natAbs_mul_le w1 h3
  have a3 := natAbs_mul_le h3 w3
  rw [Nat.mul_comm] at a2
  refine ⟨?_, Int.mul_pos h2 w2, ?_⟩
  · show (f.1 * g.2 + g.1 * f.2).natAbs ≤ _
    have := Int.natAbs_add_le (f.1 * g.2) (g.1 * f.2)
    omega
  · show (f.2 * g.2).natAbs ≤ _
    omega
/-- it is v divided by u -/
def Rep (u v : Int) (f : Int × Int) : Prop := 0 < f.2 ∧ f.1 * u = v * f.2
theorem Rep.add {u v w : Int} {f g : Int × Int} (h : Rep u v f) (k : Rep u w g) : Rep u (v + w) (addF f g) := by
  obtain ⟨h1, h2⟩ := h
  obtain ⟨k1, k2⟩ := k
  refine ⟨Int.mul_pos h1 k1, ?_⟩
  show (f.1 * g.2 + g.1 * f.2) * u = (v + w) * (f.2 * g.2)
  have e1 : (f.1 * g.2 + g.1 * f.2) * u = f.1 * u * g.2 + g.1 * u * f.2 := by
    rw [Int.add_mul, Int.mul_right_comm, Int.mul_right_comm g.1]
  rw [e1, h2, k2, Int.add_mul, Int.mul_assoc, Int.mul_assoc w, Int.mul_comm g.2 f.2]
inductive Reps (u : Int) : List (Int × Int) → List Int → Prop
  | nil : Reps u [] []
  | cons {f v fs vs} (h : Rep u v f) (r : Reps u fs vs) : Reps u (f :: fs) (v :: vs)
theorem Rep.fold {u : Int} : ∀ {fs : List (Int × Int)} {vs : List Int} {f : Int × Int} {v : Int}, Rep u v f → Reps u fs vs → Rep u (v + vs.sum) (fs.foldl addF f)
  | [], [], f, v, h, _ => by simpa using h
  | g :: fs, w :: vs, f, v, h, .cons k r => by
    have := Rep.fold (h.add k) r
    rw [List.foldl_cons, List.sum_cons, ← Int.add_assoc]
    exact this
theorem Rep.sum {u : Int} {fs : List (Int × Int)} {vs : List Int} (h : Reps u fs vs) : Rep u vs.sum (sumF fs) := by
  have := Rep.fold (u := u) (f := (0, 1)) (v := 0) ⟨by decide, by simp⟩ h
  simpa [sumF] using this
theorem Rep.lt {u v : Int} {f : Int × Int} (hu : 0 < u) (h : Rep u v f) : MH.lt f.1 f.2 = MH.lt v u := lt_eq h.2 h.1 hu
theorem fok_lt {u v : Int} (hu : 0 < u) (h1 : v.natAbs ≤ 2 ^ 64) (h2 : u.natAbs ≤ 2 ^ 64) : FOk (MH.lt v u) := by
  refine ⟨Nat.le_trans (lt_abs hu) h1, lt_pos hu, ?_⟩
  have := lt_le (p := v) hu
  have := lt_pos (p := v) hu
  omega
end MH
set_option maxHeartbeats 1000000
namespace MH
open PySem PySem.Spec PyProof.Rows L2 DL
/-! ### sums over a thing, its number and the prices being told -/
def own1 (h : Bool) (x : Int) : Int := if h then x else 0
def cnt1 (sh : Int) (u w : Bool) (o c : Int) : Int := if sh * c ≤ 100 * o then (if u then c else o) else (if w then o else 0)
mutual
def Th.cst : Th → Nat → (Nat → Int) → Int
  | .raw _ _ _, b, a => a b
  | .made _ _ _ _ _ _ ps, b, a => a b + Th.csts ps (b + 1) a
def Th.csts : List Th → Nat → (Nat → Int) → Int
  | [], _, _ => 0
  | t :: ts, b, a => t.cst b a + Th.csts ts (b + t.sz) a
end
mutual
def Th.cnt : Th → Nat → (Nat → Int) → Int
  | .raw h _ _, b, a => own1 h (a b)
  | .made h _ _ sh u w ps, b, a => cnt1 sh u w (own1 h (a b) + Th.cnts ps (b + 1) a) (a b + Th.csts ps (b + 1) a)
def Th.cnts : List Th → Nat → (Nat → Int) → Int
  | [], _, _ => 0
  | t :: ts, b, a => t.cnt b a + Th.cnts ts (b + t.sz) a
end
def Th.own : Th → Nat → (Nat → Int) → Int
  | .raw h _ _, b, a => own1 h (a b)
  | .made h _ _ _ _ _ ps, b, a => own1 h (a b) + Th.cnts ps (b + 1) a
def Th.word : Th → Nat → (Nat → Int) → Option Bool
  | .raw _ _ _, _, _ => none
  | .made h lo hi sh u w ps, b, a => some (decide (sh * (Th.made h lo hi sh u w ps).cst b a ≤ 100 * (Th.made h lo hi sh u w ps).own b a))
theorem cnt_made {h lo hi sh u w ps b a} : (Th.made h lo hi sh u w ps).cnt b a = cnt1 sh u w ((Th.made h lo hi sh u w ps).own b a) ((Th.made h lo hi sh u w ps).cst b a) := rfl
def Th.parts : Th → List Th
  | .raw _ _ _ => []
  | .made _ _ _ _ _ _ ps => ps
def Th.here : Th → Bool
  | .raw h _ _ => h
  | .made h _ _ _ _ _ _ => h
theorem cst_eq (t : Th) (b : Nat) (a : Nat → Int) : t.cst b a = a b + Th.csts t.parts (b + 1) a := by
  cases t with
  | raw _ _ _ => simp [Th.cst, Th.parts, Th.csts]
  | made _ _ _ _ _ _ _ => rfl
theorem own_eq (t : Th) (b : Nat) (a : Nat → Int) : t.own b a = own1 t.here (a b) + Th.cnts t.parts (b + 1) a := by
  cases t with
  | raw _ _ _ => simp [Th.own, Th.parts, Th.cnts, Th.here]
  | made _ _ _ _ _ _ _ => rfl
/-- the things of rows -/
def atR (R : List (Th × List Nat)) (i : Nat) : Th := match R[i]? with
  | some e => e.1
  | none => default
def numsT (t : Th) (b : Nat) : List Nat := nums (b + 1) t.parts
theorem rows_eq (t : Th) (b : Nat) : rows t b = (t, numsT t b) :: rowss t.parts (b + 1) := by
  cases t with
  | raw _ _ _ => rfl
  | made _ _ _ _ _ _ _ => rfl
mutual
theorem seg_of : ∀ (t : Th) (b i : Nat), i < t.sz → ∃ (t' : Th) (rest : List (Th × List Nat)), (rows t b).drop i = rows t' (b + i) ++ rest
  | t, b, 0, _ => ⟨t, [], by simp⟩
  | .raw h lo hi, b, i + 1, hi' => by simp [Th.sz] at hi'
  | .made h lo hi sh u w ps, b, i + 1, hi' => by
    obtain ⟨t', rest, e⟩ := segs_of ps (b + 1) i (by simp only [Th.sz] at hi'; omega)
    refine ⟨t', rest, ?_⟩
    rw [rows, List.drop_succ_cons, e]
    have : b + 1 + i = b + (i + 1) := by omega
    rw [this]
theorem segs_of : ∀ (ts : List Th) (b i : Nat), i < Th.szs ts → ∃ (t' : Th) (rest : List (Th × List Nat)), (rowss ts b).drop i = rows t' (b + i) ++ rest
  | [], b, i, hi => by simp [Th.szs] at hi
  | t :: ts, b, i, hi => by
    by_cases z : i < t.sz
    · obtain ⟨t', rest, e⟩ := seg_of t b i z
      refine ⟨t', rest ++ rowss ts (b + t.sz), ?_⟩
      rw [rowss, List.drop_append_of_le_length (by rw [rows_len]; omega), e, List.append_assoc]
    · obtain ⟨t', rest, e⟩ := segs_of ts (b + t.sz) (i - t.sz) (by simp only [Th.szs] at hi; omega)
      refine ⟨t', rest, ?_⟩
      have e1 : b + t.sz + (i - t.sz) = b + i := by omega
      rw [rowss, List.drop_append, rows_len, List.drop_eq_nil_of_le (by rw [rows_len]; omega), List.nil_append, e, e1]
end
/-- from its place on the rows are those of the thing there -/
theorem seg_at {t : Th} {i : Nat} (h : i < t.sz) : ∃ rest, (rows t 0).drop i = rows (atR (rows t 0) i) i ++ rest := by
  obtain ⟨t', rest, e⟩ := seg_of t 0 i h
  rw [Nat.zero_add] at e
  have e2 : (rows t 0)[i]? = some (t', numsT t' i) := by
    have : ((rows t 0).drop i)[0]? = some (t', numsT t' i) := by rw [e, rows_eq]; rfl
    rwa [List.getElem?_drop, Nat.add_zero] at this
  refine ⟨rest, ?_⟩
  unfold atR
  rw [e2]
  exact e
theorem at_row {t : Th} {i : Nat} (h : i < t.sz) : (rows t 0)[i]? = some (atR (rows t 0) i, numsT (atR (rows t 0) i) i) := by
  obtain ⟨rest, e⟩ := seg_at h
  have : ((rows t 0).drop i)[0]? = some (atR (rows t 0) i, numsT (atR (rows t 0) i) i) := by rw [e, rows_eq]; rfl
  rwa [List.getElem?_drop, Nat.add_zero] at this
def mapN {α : Type} (f : Th → Nat → α) : List Th → Nat → List α
  | [], _ => []
  | t :: ts, k => f t k :: mapN f ts (k + t.sz)
theorem seg_map {α : Type} (f : Th → Nat → α) {R : List (Th × List Nat)} : ∀ (ps : List Th) (k : Nat) (rest : List (Th × List Nat)), R.drop k = rowss ps k ++ rest → (nums k ps).map (fun j => f (atR R j) j) = mapN f ps k ∧ ∀ j ∈ nums k ps, k ≤ j ∧ j < R.length
  | [], k, rest, h => ⟨rfl, fun j hj => by simp [nums] at hj⟩
  | t :: ts, k, rest, h => by
    rw [rowss, List.append_assoc] at h
    have e0 : R[k]? = some (t, numsT t k) := by
      have : (R.drop k)[0]? = some (t, numsT t k) := by rw [h, rows_eq]; rfl
      rwa [List.getElem?_drop, Nat.add_zero] at this
    have e1 : atR R k = t := by unfold atR; rw [e0]
    have e2 : R.drop (k + t.sz) = rowss ts (k + t.sz) ++ rest := by
      rw [← List.drop_drop, h, List.drop_append_of_le_length (by rw [rows_len]; omega), List.drop_eq_nil_of_le (by rw [rows_len]; omega), List.nil_append]
    obtain ⟨i1, i2⟩ := seg_map f ts (k + t.sz) rest e2
    refine ⟨by rw [nums, List.map_cons, i1, mapN, e1], fun j hj => ?_⟩
    rw [nums, List.mem_cons] at hj
    rcases hj with rfl | hj
    · have := (List.getElem?_eq_some_iff.mp e0).1
      exact ⟨Nat.le_refl _, this⟩
    · have := i2 j hj
      omega
theorem sum_csts (a : Nat → Int) : ∀ (ps : List Th) (k : Nat), (mapN (fun t j => t.cst j a) ps k).sum = Th.csts ps k a
  | [], _ => rfl
  | t :: ts, k => by rw [mapN, List.sum_cons, sum_csts a ts, Th.csts]
theorem sum_cnts (a : Nat → Int) : ∀ (ps : List Th) (k : Nat), (mapN (fun t j => t.cnt j a) ps k).sum = Th.cnts ps k a
  | [], _ => rfl
  | t :: ts, k => by rw [mapN, List.sum_cons, sum_cnts a ts, Th.cnts]
/-- the parts' numbers are greater, and within -/
theorem parts_at {α : Type} (f : Th → Nat → α) {t : Th} {i : Nat} (h : i < t.sz) : (numsT (atR (rows t 0) i) i).map (fun j => f (atR (rows t 0) j) j) = mapN f (atR (rows t 0) i).parts (i + 1) ∧ ∀ j ∈ numsT (atR (rows t 0) i) i, i < j ∧ j < t.sz := by
  obtain ⟨rest, e⟩ := seg_at h
  have e2 : (rows t 0).drop (i + 1) = rowss (atR (rows t 0) i).parts (i + 1) ++ rest := by
    rw [← List.drop_drop, e, rows_eq]; rfl
  obtain ⟨h1, h2⟩ := seg_map f _ _ _ e2
  refine ⟨h1, fun j hj => ?_⟩
  have := h2 j hj
  rw [rows_len] at this
  omega
end MH
set_option maxHeartbeats 1000000
namespace MH
open PySem PySem.Spec PyProof.Rows L2 DL
section
variable {a : Nat → Int} {A : Int} (ha : ∀ k, 0 ≤ a k ∧ a k ≤ A)
include ha
mutual
theorem cst_bd : ∀ (t : Th) (b : Nat), 0 ≤ t.cst b a ∧ t.cst b a ≤ t.sz * A
  | .raw _ _ _, b => by
    have := ha b
    simp only [Th.cst, Th.sz]; omega
  | .made _ _ _ _ _ _ ps, b => by
    have h1 := ha b
    have h2 := csts_bd ps (b + 1)
    simp only [Th.cst, Th.sz]
    have e : ((1 + Th.szs ps : Nat) : Int) * A = A + (Th.szs ps : Int) * A := by
      rw [Int.natCast_add, Int.add_mul]; simp
    omega
theorem csts_bd : ∀ (ts : List Th) (b : Nat), 0 ≤ Th.csts ts b a ∧ Th.csts ts b a ≤ Th.szs ts * A
  | [], b => by simp [Th.csts, Th.szs]
  | t :: ts, b => by
    have h1 := cst_bd t b
    have h2 := csts_bd ts (b + t.sz)
    simp only [Th.csts, Th.szs]
    have e : ((t.sz + Th.szs ts : Nat) : Int) * A = (t.sz : Int) * A + (Th.szs ts : Int) * A := by
      rw [Int.natCast_add, Int.add_mul]
    omega
end
theorem own1_bd (h : Bool) (k : Nat) : 0 ≤ own1 h (a k) ∧ own1 h (a k) ≤ a k := by
  have := ha k
  unfold own1; split <;> omega
theorem cnt1_bd {sh : Int} {u w : Bool} {o c : Int} (h1 : 0 ≤ o) (h2 : o ≤ c) : 0 ≤ cnt1 sh u w o c ∧ cnt1 sh u w o c ≤ c := by
  unfold cnt1
  split
  · split <;> omega
  · split <;> omega
mutual
theorem cnt_bd : ∀ (t : Th) (b : Nat), (0 ≤ t.cnt b a ∧ t.cnt b a ≤ t.cst b a) ∧ (0 ≤ t.own b a ∧ t.own b a ≤ t.cst b a)
  | .raw h _ _, b => by
    have := own1_bd ha h b
    simp only [Th.cnt, Th.cst, Th.own]; omega
  | .made h _ _ sh u w ps, b => by
    have h1 := own1_bd ha h b
    have h2 := cnts_bd ps (b + 1)
    have h3 : 0 ≤ own1 h (a b) + Th.cnts ps (b + 1) a := by omega
    have h4 : own1 h (a b) + Th.cnts ps (b + 1) a ≤ a b + Th.csts ps (b + 1) a := by omega
    have h5 := cnt1_bd ha (sh := sh) (u := u) (w := w) h3 h4
    simp only [Th.cnt, Th.cst, Th.own]
    omega
theorem cnts_bd : ∀ (ts : List Th) (b : Nat), 0 ≤ Th.cnts ts b a ∧ Th.cnts ts b a ≤ Th.csts ts b a
  | [], b => by simp [Th.cnts, Th.csts]
  | t :: ts, b => by
    have h1 := (cnt_bd t b).1
    have h2 := cnts_bd ts (b + t.sz)
    simp only [Th.cnts, Th.csts]
    omega
end
end
end MH
set_option maxHeartbeats 1000000
namespace DL
open PySem PySem.Spec PyProof.Rows L2
section
variable {M : Mem} {Q : QD} {i : Int} {k : Str} {ds : List D} {b : Bool}
theorem w_isi {d : D} {n T : String} {b : Bool} (h1 : tyO M d = some T) (h2 : kitB T n = some b) (h : Q (.bl b) M) : isiC [d, .ty n] M Q := by
  unfold isiC; simp only [h1, h2]; exact h
theorem w_isiII (h : Q (.bl true) M) : isiC [.int i, .ty "int"] M Q := w_isi (T := "int") rfl (by decide +kernel) h
theorem w_isiIB (h : Q (.bl false) M) : isiC [.int i, .ty "bool"] M Q := w_isi (T := "int") rfl (by decide +kernel) h
theorem w_isiIS (h : Q (.bl false) M) : isiC [.int i, .ty "str"] M Q := w_isi (T := "int") rfl (by decide +kernel) h
theorem w_isiIT (h : Q (.bl false) M) : isiC [.int i, .ty "tuple"] M Q := w_isi (T := "int") rfl (by decide +kernel) h
theorem w_isiSI (h : Q (.bl false) M) : isiC [.str k, .ty "int"] M Q := w_isi (T := "str") rfl (by decide +kernel) h
theorem w_isiSB (h : Q (.bl false) M) : isiC [.str k, .ty "bool"] M Q := w_isi (T := "str") rfl (by decide +kernel) h
theorem w_isiSS (h : Q (.bl true) M) : isiC [.str k, .ty "str"] M Q := w_isi (T := "str") rfl (by decide +kernel) h
theorem w_isiST (h : Q (.bl false) M) : isiC [.str k, .ty "tuple"] M Q := w_isi (T := "str") rfl (by decide +kernel) h
theorem w_isiTI (h : Q (.bl false) M) : isiC [.tup ds, .ty "int"] M Q := w_isi (T := "tuple") rfl (by decide +kernel) h
theorem w_isiTB (h : Q (.bl false) M) : isiC [.tup ds, .ty "bool"] M Q := w_isi (T := "tuple") rfl (by decide +kernel) h
theorem w_isiTS (h : Q (.bl false) M) : isiC [.tup ds, .ty "str"] M Q := w_isi (T := "tuple") rfl (by decide +kernel) h
theorem w_isiTT (h : Q (.bl true) M) : isiC [.tup ds, .ty "tuple"] M Q := w_isi (T := "tuple") rfl (by decide +kernel) h
theorem w_isiNI (h : Q (.bl false) M) : isiC [.non, .ty "int"] M Q := w_isi (T := "NoneType") rfl (by decide +kernel) h
theorem w_isiNS (h : Q (.bl false) M) : isiC [.non, .ty "str"] M Q := w_isi (T := "NoneType") rfl (by decide +kernel) h
theorem w_isiNT (h : Q (.bl false) M) : isiC [.non, .ty "tuple"] M Q := w_isi (T := "NoneType") rfl (by decide +kernel) h
theorem w_isiBI (h : Q (.bl true) M) : isiC [.bl b, .ty "int"] M Q := w_isi (T := "bool") rfl (by decide +kernel) h
theorem w_isiBB (h : Q (.bl true) M) : isiC [.bl b, .ty "bool"] M Q := w_isi (T := "bool") rfl (by decide +kernel) h
theorem w_isiLT (h : Q (.bl false) M) : isiC [.lst ds, .ty "tuple"] M Q := w_isi (T := "list") rfl (by decide +kernel) h
theorem w_chdT {φ : Prop} [Decidable φ] {o' : O2} {y : D} {tc : TED} {Xd : XD} {s : SD} (z : φ) (h1 : tc Xd s M fun z M1 => o' y z M1 Q) : chK o' y tc Xd s Q (.bl (decide φ)) M := by
  rw [decide_eq_true z]; exact h1
theorem w_ifndT {φ : Prop} [Decidable φ] {P U : Prop} (z : φ) (h2 : U) : if (!decide φ) = true then P else U := by
  rw [decide_eq_true z]; exact w_ifF h2
theorem w_andD {φ : Prop} [Decidable φ] {tb : TED} {Xd : XD} {s : SD} (z : φ) (h : tb Xd s M Q) : andK tb Xd s Q (.bl (decide φ)) M := by
  rw [decide_eq_true z]; exact w_andT h
theorem w_orD {φ : Prop} [Decidable φ] {tb : TED} {Xd : XD} {s : SD} (h1 : φ → Q (.bl true) M) (h2 : ¬ φ → tb Xd s M Q) : orK tb Xd s Q (.bl (decide φ)) M := by
  by_cases z : φ
  · rw [decide_eq_true z]; exact w_orT (h1 z)
  · rw [decide_eq_false z]; exact w_orF (h2 z)
def augY (f : Int → Int → Int) (p : Addr) (z u : Int) (nx : SD → Mem → Prop) (s : SD) : QD := fun y M1 => match y with
  | .int w => setK (.ref p) (.int z) (.int (f u w)) (fun M2 => nx s M2) M1
  | _ => False
theorem w_augKy {f : Int → Int → Int} {te : TED} {nx bk ct : SD → Mem → Prop} {rt : QD} {ex : XD} {s : SD} {p : Addr} {z u : Int} (hM : M p = some (.lst ds)) (e : atI ds z = some (.int u)) (h : te ex s M (augY f p z u nx s)) : augK f te ⟨nx, rt, bk, ct, ex⟩ s (.ref p) (.int z) M := w_augK hM e h
theorem w_augY {f : Int → Int → Int} {p : Addr} {z u w : Int} {nx : SD → Mem → Prop} {s : SD} (h : setK (.ref p) (.int z) (.int (f u w)) (fun M2 => nx s M2) M) : augY f p z u nx s (.int w) M := h
theorem w_iZip {te te2 : TED} {Xd : XD} {s : SD} {I : List D → Option Addr → Mem → Prop} (h : dCons te (dCons te2 dNil) Xd s M fun ds M1 => ∃ d e, ds = [d, e] ∧ zipK I d e M1) : iZipD te te2 Xd s M I := h
theorem w_sg2 {d e : D} {J : D → D → Prop} (h : J d e) : ∃ x y, [d, e] = [x, y] ∧ J x y := ⟨d, e, rfl, h⟩
theorem w_zipLL {es : List D} {I : List D → Option Addr → Mem → Prop} (h : I (zpD ds es) none M) : zipK I (.lst ds) (.lst es) M := ⟨ds, es, rfl, rfl, h⟩
theorem w_zipTT {es : List D} {I : List D → Option Addr → Mem → Prop} (h : I (zpD ds es) none M) : zipK I (.tup ds) (.tup es) M := h
theorem zp_map {α : Type} (F G : α → D) : ∀ L : List α, zpD (L.map F) (L.map G) = L.map fun j => .tup [F j, G j]
  | [] => rfl
  | x :: L => by rw [List.map_cons, List.map_cons, zpD, zp_map F G L]; rfl
theorem ixN_nat {n j : Nat} (h : j < n) : ixN n (j : Int) = some j := by
  unfold ixN
  rw [if_pos (by omega), if_pos (by omega)]; simp
theorem at_range {n j : Nat} {F : Nat → D} (h : j < n) : atI ((List.range n).map F) (j : Int) = some (F j) := atI_nat (by rw [List.getElem?_map, List.getElem?_range h]; rfl)
end
end DL
set_option maxHeartbeats 1000000
namespace DL
open PySem PySem.Spec PyProof.Rows L2
/-! ### repr of data of a known size -/
structure RB (m d : Nat) (p : PyData) : Prop where
  sh : p.showable = true
  len : p.shown.length ≤ m
  dep : p.depth ≤ d
  ok : PyData.strOk p.shown = true
theorem RB.mono {m m' d d' : Nat} {p : PyData} (h : RB m d p) (hm : m ≤ m') (hd : d ≤ d') : RB m' d' p := ⟨h.sh, Nat.le_trans h.len hm, Nat.le_trans h.dep hd, h.ok⟩
/-- data that can be shown within m signs -/
def RD (m d : Nat) (x : D) : Prop := ∃ p, toPy x = some p ∧ RB m d p
theorem RD.mono {m m' d d' : Nat} {x : D} (h : RD m d x) (hm : m ≤ m') (hd : d ≤ d') : RD m' d' x := by
  obtain ⟨p, h1, h2⟩ := h
  exact ⟨p, h1, h2.mono hm hd⟩
end DL
set_option maxHeartbeats 1000000
namespace DL
open PySem PySem.Spec PyProof.Rows L2
/-! ### one step of a reading each: exceptions -/
section
variable {K : Fg} {C : Addr} {ns : List Str} {ds : List D} {M : Mem} {Q : QD} {Xd : XD} {s : SD} {te : TED} {t : TAD} {tb : TSD} {nx bk ct : SD → Mem → Prop} {rt : QD} {ex : XD} {f : Str} {d : D}
theorem w_mk (h : t Xd s M fun ds M1 => Q (.exn C ns ds.reverse) M1) : dMk C ns t Xd s M Q := h
theorem w_mkK {pm : Prm} (h : t Xd s M fun ds M1 => Q (.exn C ns (pm.f ds).reverse) M1) : dMkK C ns pm t Xd s M Q := h
theorem w_mk0 (h : te Xd s M fun _ M1 => Q (.exn C [] []) M1) : dMk0 C te Xd s M Q := h
def fdK (K : Fg) (f : Str) (Q : QD) : QD := fun d M1 => match d with
  | .exn C ns ds => FdOk K C f ∧ ∃ d, (ns.zip ds).lookup f = some d ∧ Q d M1
  | _ => False
theorem w_fd (h : te Xd s M (fdK K f Q)) : dFd K f te Xd s M Q := h
theorem w_raise (h : t ex s M fun ds M1 => ex C ns ds.reverse M1) : sRaise C ns t ⟨nx, rt, bk, ct, ex⟩ s M := h
theorem w_raiseX (h : t (fun _ _ _ _ => False) s M fun ds M1 => ex C ns ds.reverse M1) : sRaiseX C ns t ⟨nx, rt, bk, ct, ex⟩ s M := h
theorem w_try {cl : List ClD} (h : tb ⟨nx, rt, bk, ct, xCl K ⟨nx, rt, bk, ct, ex⟩ s cl⟩ s M) : sTry K tb cl ⟨nx, rt, bk, ct, ex⟩ s M := h
theorem w_callX {sp : SpD} (h : t (fun _ _ _ _ => False) s M fun ds M1 => sp ds M1 Q Xd) : dCallX sp t Xd s M Q := h
end
/-! ### shown, with dicts -/
def RX (m d : Nat) (x : D) : Prop := ∃ p, toPyX x = some p ∧ RB m d p
theorem RX.mono {m m' d d' : Nat} {x : D} (h : RX m d x) (hm : m ≤ m') (hd : d ≤ d') : RX m' d' x := by
  obtain ⟨p, h1, h2⟩ := h
  exact ⟨p, h1, h2.mono hm hd⟩
end DL
namespace DL
end DL
namespace DL
open PySem PySem.Spec PyProof.Rows L2
end DL
set_option maxHeartbeats 2000000
namespace DL
open PySem PySem.Spec PyProof.Rows L2 LamX NdefX
/-! ### functions as data: what a parameter may hold that is called -/
structure HeldD (P : Program) (w : World) (K : Fg) (mg : Str → Option Value) (base : Heap) (k : Nat) (L : D) (n : Nat) (sp : SpD) : Prop where
  at_ : ∀ (s : Shared) (H : Hp) (M : Mem) (v : V), K.In base → (∀ b o, base.get? b = some o → s.heap.get? b = some o) → HOk P w H s.heap → Rv K H M L v → ∃ f, v = .ref f ∧ PySem.W.FnAt f s.heap
  run : ∀ (A : Around) (outer : List Env) (s : Shared) (H : Hp) (M : Mem) (us : List Value) (vs : List V) (ds : List D) (Qd : QD) (Xd : XD) (Q : VK) (E : XK) (f : Addr), RoomG k A → Env0 P w K mg base A outer s H → Rv K H M L (.ref f) → ds.length = n → Vals vs us → MOk K H M → Rs K H M ds vs →
    sp ds M Qd Xd → (∀ v H', upE K H M Qd v H' → Q v H') → XTo K H M Xd E → codeAny (model P w) A (.call (.ref f) ⟨us, []⟩) (CR (L2.CX P w) outer P w H s Q E) s
section
variable {P : Program} {w : World} {K : Fg} {mg : Str → Option Value} {base : Heap} {j k n : Nat} {f : Addr} {fd : FuncData} {ps : List Str} {sp : SpD} {L : D} {x qual : Str} {st : Stmt}
theorem HeldD.mono (h : HeldD P w K mg base j L n sp) (le : j ≤ k) : HeldD P w K mg base k L n sp := ⟨h.at_, fun A outer s H M us vs ds Qd Xd Q E f hr => h.run A outer s H M us vs ds Qd Xd Q E f (hr.mono le)⟩
/-- a def of the module -/
theorem heldK (F : DFn P w K mg base k f fd ps sp) (Fu : Fun K x qual st f fd) (hb : Binds K fd ps []) : HeldD P w K mg base k (.ref f) ps.length sp := by
  constructor
  · intro s H M v KB bs hok rv
    obtain ⟨oc, od, kV, doc, pm0, an, cdv, ct, osl, rfl, lk, hcg⟩ := Fu.ex
    exact ⟨f, rv, _, _, _, _, bs _ _ (KB _ _ lk)⟩
  · intro A outer s H M us vs ds Qd Xd Q E f' hr e0 rL hl r mo rs hsp hq hx
    have ef : f' = f := by
      have z : V.ref f' = V.ref f := rL
      cases z; rfl
    subst ef
    have KX : K.In s.heap := e0.mod.kin.keeps fun b o e => (e0.bs b o e).1
    have hlu : (us ++ []).length = ps.length := by rw [List.append_nil, ← r.length, vlen rs]; exact hl
    have hbb := hb s us KX hlu
    rw [List.append_nil] at hbb
    exact F.run A outer s H M ⟨us, []⟩ us vs ds Qd Xd Q E hr e0 hl hbb r mo rs hsp hq hx
end
/-! ### f(..), f a name that holds such a function -/
def dCallA (i : Nat) (S : D → SpD → Prop) (t : TAD) : TED := fun Xd s M Q => ∃ L sp, s[i]? = some (some L) ∧ S L sp ∧ t Xd s M fun ds M1 => sp ds M1 Q Xd
section
variable {X : Cx} {E : XK} {i k n : Nat} {x : Str} {p pos : Pos} {e : Expr} {es : List Expr} {ts : TAD} {S : D → SpD → Prop}
theorem de_callA (hS : ∀ L sp, S L sp → HeldD X.prog X.w X.K X.mg X.base k L n sp) (hr : RoomG k X.A) (hN : X.N[i]? = some x) (hv : Vis X.env.scope x) (hx : Passes (L2.CX X.prog X.w) X E) (ha : DN X E n (e :: es) ts)
    (hdb : (x == ("__debug__" : Str)) = false := by decide) (hcd : (x == ("__classdict__" : Str)) = false := by decide) (he : starEach (e :: es) X.env = (false, eval e X.env) :: starEach es X.env := by rfl) (hpl : (backTo pos (starEach es X.env)).any (·.1) = false := by rfl) :
    DE X E (.Call (.Name x p) (e :: es) [] pos) (dCallA i S ts) := by
  refine ⟨⟨fun pins s σ H Q I ⟨sd, M, Qd, Xd, Sk, xt, ⟨L, sp, slot, hL, t⟩, q⟩ => ?_⟩⟩
  obtain ⟨v0, e0, r0⟩ := Sk.sl i L slot
  have Hd := hS L sp hL
  obtain ⟨f, rfl, fa⟩ := Hd.at_ s H M v0 I.mod.kin I.bk I.hok r0
  refine wpAny_Call_Name_kw (thn ((pe_var (pos := p) hN hv hdb hcd).run pins s σ H (fun v H1 => v = .ref f ∧ H1 = H) I ⟨.ref f, e0, rfl, rfl⟩) ?_)
  rintro u s1 ⟨v, H1, J, rel, ev, eH⟩
  subst ev eH
  obtain rfl : u = Value.ref f := rel
  obtain ⟨f1, ef1, fa1⟩ := Hd.at_ s1 H1 M (.ref f) J.mod.kin J.bk J.hok r0
  cases ef1
  refine PySem.W.callWith_F (first := []) fa1 (thn (ha.ok.run pos pins s1 σ H1 _ J (useN (n := n) (Q := fun vs H2 => vs.length = n ∧ ∃ ds M1, Gw H1 M H2 M1 ∧ StOk X.K σ H2 sd M1 ∧ XTo X.K H2 M1 Xd E ∧ Rs X.K H2 M1 ds vs ∧ sp ds M1 Qd Xd) Sk xt t
    fun ds vs M1 H2 hl g1 S1 x1 r1 t1 => ⟨hl, ds, M1, g1, S1, x1, r1, t1⟩)) fun us s2 ⟨vs, H2, I2, r, hl, ds, M1, g1, S1, x1, r1, t1⟩ => ?_) he hpl
  have r2 : Rv X.K H2 M1 L (.ref f) := Rv.grow g1 L _ r0
  obtain ⟨f2, ef2, fa2⟩ := Hd.at_ s2 H2 M1 (.ref f) I2.mod.kin I2.bk I2.hok r2
  cases ef2
  refine ⟨fa2, ?_⟩
  have hlen : ds.length = n := by rw [Rs.len r1, hl]
  show wpAny _ _ (call (.ref f) us) _ _ _
  refine wpAny_call (codeAny_mono (Hd.run X.A X.stack s2 H2 M1 us vs ds Qd Xd Q E f hr I2.env0 r2 hlen r S1.mem r1 t1 (fwd g1 q) x1) fun r s' hq => ?_)
  cases r with
  | error e => exact hx pins σ H2 s2 e s' I2 hq
  | ok fl =>
    cases fl with
    | ret u => exact I2.after hq
    | next => exact False.elim hq
    | brk => exact False.elim hq
    | cont => exact False.elim hq
end
/-! ### a wider base: what stands now and is neither tracked nor a frame -/
def hidF (h : Heap) (H : Hp) (fs : List Addr) : Heap := hidT h fun b => if b ∈ fs then some (.tup []) else H b
section
variable {X : Cx} {pins : List (Addr × Obj)} {σ : L2.St} {H : Hp} {s : Shared}
theorem hidF_get {h : Heap} {H : Hp} {fs : List Addr} {b : Addr} {o : Obj} (e : h.get? b = some o) (n : H b = none) (hb : b ∉ fs) : (hidF h H fs).get? b = some o := hidT_get e (by simp only [if_neg hb]; exact n)
theorem of_hidF {h : Heap} {H : Hp} {fs : List Addr} {b : Addr} {o : Obj} (e : (hidF h H fs).get? b = some o) : h.get? b = some o ∧ H b = none ∧ b ∉ fs := by
  obtain ⟨h1, h2⟩ := of_hidT e
  by_cases z : b ∈ fs
  · simp only [if_pos z] at h2; cases h2
  · simp only [if_neg z] at h2; exact ⟨h1, h2, z⟩
theorem nofr_base (I : Inv X pins σ H s) {b : Addr} {o : Obj} (e : X.base.get? b = some o) : b ∉ frs X.stack := fun hb => by
  have := (I.stack.mem hb).1
  rw [e] at this; cases this
theorem rebase (I : Inv X pins σ H s) : Env0 X.prog X.w X.K X.mg (hidF s.heap H (frs X.stack)) X.A X.stack s H := by
  have e0 := I.env0
  have up : ∀ b o, X.base.get? b = some o → (hidF s.heap H (frs X.stack)).get? b = some o := fun b o e => hidF_get (e0.bs b o e).1 (e0.bs b o e).2 (nofr_base I e)
  refine ⟨e0.frames, ⟨e0.mod.kin.keeps up, e0.mod.glob.keeps up, ?_, e0.mod.nolimit.keeps up⟩, fun b o e => ⟨(of_hidF e).1, (of_hidF e).2.1⟩, Nat.le_of_eq (hidT_size _ _), funFrames_none e0.funs fun L hL => ?_, e0.frf, e0.hok, e0.bare⟩
  · obtain ⟨mb, h1, h2⟩ := e0.mod.blt
    exact ⟨mb, h1.keeps up, h2⟩
  · cases z : (hidF s.heap H (frs X.stack)).get? L with
    | none => rfl
    | some o => exact absurd hL (of_hidF z).2.2
theorem cell_nofr (I : Inv X pins σ H s) {y : Str} {c : Addr} (hc : X.env.cells.lookup y = some c) (hf : X.fn y = true) : c ∉ frs X.stack := fun hb => by
  have out : c ∉ frs X.outer := fun hb => by
    obtain ⟨_, o, ho, _⟩ := I.ok.funs.mem hb
    exact absurd (Heap.lt_size ho) (Nat.not_lt.mpr (I.ok.cab y c hf hc))
  have loc : c ≠ X.env.locals := fun e => by
    obtain ⟨m, ⟨o, es, ep, h1, h2, _⟩, _⟩ := I.loc
    obtain ⟨v, o', h3, h4⟩ := I.cell y c hc
    rw [e, h1] at h3
    cases h3
    rw [h2] at h4; cases h4
  rcases I.ok.stk with z | ⟨z, zf⟩
  · rw [z] at hb; exact out hb
  · rw [z] at hb
    have hb' : c ∈ (X.env :: X.outer).filterMap (·.frame) := hb
    rw [List.filterMap_cons, zf] at hb'
    rcases List.mem_cons.mp hb' with e | e
    · exact loc e
    · exact out e
end
/-- what the captured cells hold, in the base -/
structure CellsB (cl : List (Str × Addr)) (fr : List Str) (ws : List (Option V)) (base : Heap) : Prop where
  len : ws.length = fr.length
  all : ∀ y c, cl.lookup y = some c → ∃ v, base.IsCell c v
  inj : ∀ x y c, cl.lookup x = some c → cl.lookup y = some c → x = y
  has : ∀ (i : Nat) (y : Str), fr[i]? = some y → ∃ c, cl.lookup y = some c ∧ ∀ v, ws[i]? = some (some v) → ∃ u, L2.RelV v u ∧ base.IsCell c (some u)
theorem CellsB.at_ {cl : List (Str × Addr)} {fr : List Str} {ws : List (Option V)} {base h : Heap} {H : Hp} (C : CellsB cl fr ws base) (bs : ∀ b o, base.get? b = some o → h.get? b = some o ∧ H b = none) : CellsAt cl fr ws h H := by
  have kp : ∀ {c v}, base.IsCell c v → H c = none ∧ h.IsCell c v := fun {c v} ⟨o, ho, hd⟩ => ⟨(bs _ _ ho).2, o, (bs _ _ ho).1, hd⟩
  refine ⟨C.len, fun y c e => ?_, C.inj, fun i y e => ?_⟩
  · obtain ⟨v, z⟩ := C.all y c e
    exact ⟨(kp z).1, v, (kp z).2⟩
  · obtain ⟨c, hc, hv⟩ := C.has i y e
    exact ⟨c, hc, fun v ev => let ⟨u, r, z⟩ := hv v ev; ⟨u, r, (kp z).2⟩⟩
theorem cellsB_of {X : Cx} {pins : List (Addr × Obj)} {σ : L2.St} {H : Hp} {s : Shared} {cl : List (Str × Addr)} {fr : List Str} {js : List Nat} (I : Inv X pins σ H s) (c : Caps X cl fr js) (hfn : ∀ y, X.fn y = true) : CellsB cl fr (js.map (slotAt σ)) (hidF s.heap H (frs X.stack)) := by
  have C := cells_of I c
  have kp : ∀ {y a v}, cl.lookup y = some a → s.heap.IsCell a v → (hidF s.heap H (frs X.stack)).IsCell a v := fun {y a v} e ⟨o, ho, hd⟩ => ⟨o, hidF_get ho (C.all y a e).1 (cell_nofr I (c.sub y a e) (hfn y)), hd⟩
  refine ⟨C.len, fun y a e => ?_, C.inj, fun i y e => ?_⟩
  · obtain ⟨_, v, z⟩ := C.all y a e
    exact ⟨v, kp e z⟩
  · obtain ⟨a, ha, hv⟩ := C.has i y e
    exact ⟨a, ha, fun v ev => let ⟨u, r, z⟩ := hv v ev; ⟨u, r, kp ha z⟩⟩
/-! ### the entry of a function made in a def: its parameters, what it captured -/
def startDF (N : List Str) (ds ds0 : List D) : SD := ds.map some ++ (ds0.map some ++ List.replicate (N.length - ds.length - ds0.length) none)
theorem startF_ok {K : Fg} {H : Hp} {M : Mem} {N : List Str} {ds ds0 : List D} {vs xs : List V} (mo : MOk K H M) (r : Rs K H M ds vs) (r0 : Rs K H M ds0 xs) : StOk K (startF N vs (xs.map some)) H (startDF N ds ds0) M := by
  have hl := Rs.len r
  have hl0 := Rs.len r0
  refine ⟨by unfold startF startDF; simp only [List.length_append, List.length_map, List.length_replicate]; omega, fun i d e => ?_, mo⟩
  unfold startDF at e
  unfold startF
  by_cases hi : i < ds.length
  · rw [List.getElem?_append_left (by simpa using hi), List.getElem?_map] at e
    cases q : ds[i]? with
    | none => rw [q] at e; cases e
    | some d' =>
      rw [q] at e
      cases e
      obtain ⟨v, h1, h2⟩ := Rs.get r q
      refine ⟨v, ?_, h2⟩
      rw [List.getElem?_append_left (by rw [List.length_map, ← hl]; exact hi), List.getElem?_map, h1]
      rfl
  · rw [List.getElem?_append_right (by simpa using hi), List.length_map] at e
    rw [List.getElem?_append_right (by rw [List.length_map]; omega), show i - (vs.map some).length = i - ds.length from by rw [List.length_map, hl]]
    by_cases h2 : i - ds.length < ds0.length
    · rw [List.getElem?_append_left (by simpa using h2), List.getElem?_map] at e
      cases q : ds0[i - ds.length]? with
      | none => rw [q] at e; cases e
      | some d' =>
        rw [q] at e
        cases e
        obtain ⟨v, h1, h3⟩ := Rs.get r0 q
        refine ⟨v, ?_, h3⟩
        rw [List.getElem?_append_left (by rw [List.length_map, ← hl0]; exact h2), List.getElem?_map, h1]
        rfl
    · rw [List.getElem?_append_right (by simpa using h2), List.getElem?_replicate] at e
      split at e <;> cases e
def bodyF (td : TSD) (N : List Str) (ds0 : List D) : SpD := fun ds M Q Xd => td { nx := fun _ M' => Lo Q .non M', rt := Lo Q, bk := fun _ _ => False, ct := fun _ _ => False, ex := Xd } (startDF N ds ds0) M
def exprF (te : TED) (N : List Str) (ds0 : List D) : SpD := fun ds M Q Xd => te Xd (startDF N ds ds0) M Q
theorem rs_intsW {K : Fg} {H : Hp} {M : Mem} (is : List Int) : Rs K H M (is.map D.int) (is.map V.int) := by
  induction is with
  | nil => rfl
  | cons i is ih => exact Rs.cons rfl ih
section
variable {P : Program} {w : World} {K : Fg} {mg : Str → Option Value} {base : Heap} {k n : Nat} {f : Addr} {F : NF} {N ps fr : List Str} {td : TSD} {te : TED} {is : List Int}
/-- a def made in a def -/
theorem heldF (S : NScope N ps fr F.scope) (hb : ∀ (doc pm ctv : Value) (us : List Value), us.length = ps.length → bindArgs (F.fd doc pm ctv) ⟨us, []⟩ = pure (ps.zip us)) (C : CellsB F.cl fr ((is.map V.int).map some) base)
    (hbody : ∀ (A : Around) (outer : List Env) (s : Shared) (H : Hp) (E : XK), RoomG k (A.deeper (envF F f s.heap.objs.size)) → DSs (ncx (L2.CX P w) P w K mg base N F f A outer s H E) E F.body td) : HeldD P w K mg base (k + 1) (.fn f F) ps.length (bodyF td N (is.map D.int)) := by
  constructor
  · intro s H M v KB bs hok ⟨e, h1, _⟩
    obtain ⟨od, sl, doc, pm, ctv, ho⟩ := fnO_at hok h1
    exact ⟨f, e, _, _, _, _, ho⟩
  · intro A outer s H M us vs ds Qd Xd Q E f' hr e0 rL hl r mo rs hsp hq hx
    obtain ⟨ef, h1, h2, h3, h4⟩ := rL
    cases ef
    have lim : s.heap.NoLimit := e0.mod.nolimit.keeps fun b o e => (e0.bs b o e).1
    obtain ⟨od, sl, doc, pm, ctv, ho⟩ := fnO_at e0.hok h1
    have hvl : vs.length = ps.length := (vlen rs).trans hl
    refine codeAny_call_function hr.r.depth ho rfl S.co S.gen rfl (codeO_at e0.hok h3) ?_
    rw [hb doc pm ctv us (by rw [← r.length]; exact hvl)]
    refine wpAny_pure (wpAny_newFunctionEnv S.nocell (fun ⟨n, _⟩ hy => S.par n (List.of_mem_zip hy).1) (fun h₁ hns hsb => ⟨lim.fresh _ hsb, ?_⟩) S.kind)
    show codeAny _ _ (.func F.body (envF F f s.heap.objs.size)) _ _
    refine codeAny_func ?_
    have kp : ∀ b o, s.heap.get? b = some o → h₁.get? b = some o := fun b o e => hsb.extBut b o (Nat.ne_of_lt (Heap.lt_size e)) (Heap.get?_push_of_some _ e)
    have ht := hbody A outer s H E (hr.deeper _)
    have I : Inv (ncx (L2.CX P w) P w K mg base N F f A outer s H E) [] (startF N vs ((is.map V.int).map some)) H { s with heap := h₁, toks := s.toks + (ps.zip us).length } := inv_startN S hr.r.hd e0 hvl r (C.at_ e0.bs) hns kp
    refine wpAny_mono (ht.ok.run [] _ (startF N vs ((is.map V.int).map some)) H { nx := fun _ H' => Q .non H', rt := Q } I ?_) (fun fl s' hs => ?_) fun e s' hs => hs
    · refine ⟨startDF N ds (is.map D.int), M, { nx := fun _ M' => Lo Qd .non M', rt := Lo Qd, bk := fun _ _ => False, ct := fun _ _ => False, ex := Xd }, startF_ok mo rs (rs_intsW is), hx, hsp, fun σ' H' ⟨s', M', g, S', q⟩ => ?_, fun v H' ⟨d, M', g, m, rd, q⟩ => ?_, fun σ' H' ⟨s', M', g, S', q⟩ => q.elim, fun σ' H' ⟨s', M', g, S', q⟩ => q.elim⟩
      · obtain ⟨d2, M2, l, q⟩ := q
        exact hq _ _ (l.up g S'.mem rfl q)
      · obtain ⟨d2, M2, l, q⟩ := q
        exact hq _ _ (l.up g m rd q)
    have fin : ∀ {σ' : L2.St} {H' : Hp} {v : V} {u : Value}, Inv (ncx (L2.CX P w) P w K mg base N F f A outer s H E) [] σ' H' s' → RelV v u → Q v H' → CE outer P w H s Q u s' :=
      fun {σ' H' v u} J rv q => ⟨v, H', J.os, J.bare, J.base, J.hok, rv, q⟩
    cases fl with
    | ret u =>
      obtain ⟨v, σ', H', J, rv, q⟩ := hs
      exact fin J rv q
    | next =>
      obtain ⟨σ', H', J, q⟩ := hs
      exact fin (v := V.non) (u := Value.none) J rfl q
    | brk =>
      obtain ⟨_, _, _, q⟩ := hs
      exact False.elim q
    | cont =>
      obtain ⟨_, _, _, q⟩ := hs
      exact False.elim q
/-- the words of a lambda -/
def NFlam (q : Str) (params : Arguments) (scope : Scope) (cl : List (Str × Addr)) (cc : Addr) : NF := ⟨"<lambda>", q, params, [], scope, cl, cc⟩
/-- a lambda -/
theorem heldX {q : Str} {params : Arguments} {body : Expr} {scope : Scope} {cl : List (Str × Addr)} {cc : Addr} {pm ctv : Value} {σ : L2.St} {js : List Nat} {ds1 : List D} (S : NScope N ps fr scope) (own : base.get? f = some (PySem.W.kla_obj "<lambda>" q params body scope cl pm cc ctv))
    (hb : ∀ (us : List Value), us.length = ps.length → bindArgs (PySem.W.kla_fn "<lambda>" q params body scope cl pm (.ref cc) ctv) ⟨us, []⟩ = pure (ps.zip us)) (C : CellsB cl fr ((is.map V.int).map some) base)
    (hbody : ∀ (A : Around) (outer : List Env) (s : Shared) (H : Hp) (E : XK), RoomG k (A.deeper (envF (NFlam q params scope cl cc) f s.heap.objs.size)) → DE (ncx (L2.CX P w) P w K mg base N (NFlam q params scope cl cc) f A outer s H E) E body te) :
    HeldD P w K mg base (k + 1) (.lam f cc q σ js ds1) ps.length (exprF te N (is.map D.int)) := by
  constructor
  · intro s H M v KB bs hok ⟨e, _⟩
    exact ⟨f, e, _, _, _, _, bs _ _ own⟩
  · intro A outer s H M us vs ds Qd Xd Q E f' hr e0 rL hl r mo rs hsp hq hx
    obtain ⟨ef, h1, h2, _⟩ := rL
    cases ef
    have lim : s.heap.NoLimit := e0.mod.nolimit.keeps fun b o e => (e0.bs b o e).1
    have ho := (e0.bs _ _ own).1
    have hvl : vs.length = ps.length := (vlen rs).trans hl
    refine PySem.W.kla_callFunE hr.r.depth ho rfl S.co S.gen rfl (codeO_at e0.hok h1) ?_
    rw [hb us (by rw [← r.length]; exact hvl)]
    refine wpAny_pure (wpAny_newFunctionEnv S.nocell (fun ⟨n, _⟩ hy => S.par n (List.of_mem_zip hy).1) (fun h₁ hns hsb => ⟨lim.fresh _ hsb, ?_⟩) S.kind)
    show codeAny _ _ (.expr body (envF (NFlam q params scope cl cc) f s.heap.objs.size)) _ _
    have kp : ∀ b o, s.heap.get? b = some o → h₁.get? b = some o := fun b o e => hsb.extBut b o (Nat.ne_of_lt (Heap.lt_size e)) (Heap.get?_push_of_some _ e)
    have ht := hbody A outer s H E (hr.deeper _)
    have I : Inv (ncx (L2.CX P w) P w K mg base N (NFlam q params scope cl cc) f A outer s H E) [] (startF N vs ((is.map V.int).map some)) H { s with heap := h₁, toks := s.toks + (ps.zip us).length } := inv_startN (F := NFlam q params scope cl cc) S hr.r.hd e0 hvl r (C.at_ e0.bs) hns kp
    refine PySem.W.kla_codeExpr (wpAny_mono (ht.ok.run [] _ _ H Q I ⟨startDF N ds (is.map D.int), M, Qd, Xd, startF_ok mo rs (rs_intsW is), hx, hsp, hq⟩) (fun v s' hs => ?_) fun e s' hs => hs)
    obtain ⟨w', H', J', rv, q⟩ := hs
    exact ⟨w', H', J'.os, J'.bare, J'.base, J'.hok, rv, q⟩
end
end DL
set_option maxHeartbeats 2000000
namespace DL
open PySem PySem.Spec PyProof.Rows L2 LamX NdefX
theorem slots_of {K : Fg} {H : Hp} {M : Mem} {σ : L2.St} {s : SD} (S : StOk K σ H s M) : ∀ {js : List Nat} {is : List Int}, CapD s js (is.map D.int) → js.map (NdefX.slotAt σ) = (is.map V.int).map some
  | [], [], _ => rfl
  | [], i :: is, h => by cases h.1
  | j :: js, [], h => by cases h.1
  | j :: js, i :: is, h => by
    obtain ⟨v, h1, h2⟩ := S.sl j (.int i) (h.2 0 j (.int i) rfl rfl)
    have ev : v = .int i := h2
    have e1 : NdefX.slotAt σ j = some (.int i) := by unfold NdefX.slotAt; rw [h1, ev]
    have ih := slots_of S (js := js) (is := is) ⟨by simpa using h.1, fun k m d' z1 z2 => h.2 (k + 1) m d' (by simpa using z1) (by simpa using z2)⟩
    rw [List.map_cons, List.map_cons, List.map_cons, e1, ih]
theorem rebase_mod {X : Cx} {pins : List (Addr × Obj)} {σ : L2.St} {H : Hp} {s : Shared} (I : Inv X pins σ H s) : Mod X.K X.mg (hidF s.heap H (frs X.stack)) := (rebase I).mod
/-- x(e, lambda a: body) -/
def dGiveL (T : List (Addr × Str)) (js : List Nat) (N : List Str) (te : TED) (W : D → SpD → SpD) (t1 : TED) : TED := fun Xd s M Q => t1 Xd s M fun d M1 => TabsM T M1 ∧ ∃ is : List Int, CapD s js (is.map D.int) ∧
  ∀ L : D, W L (exprF te N (is.map D.int)) [d, L] M1 Q (fun _ _ _ _ => False)
section
variable {X : Cx} {E : XK} {T : List (Addr × Str)} {x a : Str} {g c P : Addr} {fdg : FuncData} {psg : List Str} {k kL : Nat} {N fr : List Str} {params : Arguments} {body e1 : Expr} {scope : Scope} {js : List Nat} {te t1 : TED} {W : D → SpD → SpD} {p lpos pos : Pos}
theorem de_giveL (hg : Gl X x) (hm : X.mg x = some (.ref g)) (hk : PySem.W.keepIn X.K (.ref g) = true) (hbg : Binds X.K fdg psg []) (hpl : psg.length = 2)
    (G : ∀ (base' : Heap) (L : D) (sp : SpD), Mod X.K X.mg base' → HeldD X.prog X.w X.K X.mg base' (kL + 1) L 1 sp → DFn X.prog X.w X.K X.mg base' k g fdg psg (W L sp))
    (TB : TabB X.base X.mg c P) (hcode : X.env.code = .ref c) (hmT : (P, X.env.qual ++ "<lambda>") ∈ T) (hu : ∀ p ∈ T, p.1 = P → p.2 = X.env.qual ++ "<lambda>") (hr : RoomG k X.A) (hdef : defaultsOf params X.env = ([], []))
    (S : NScope N [a] fr scope) (hfree : ∀ y ∈ scope.names, y.2 = .free → X.env.scope.names.lookup y.1 = some .cell ∨ X.env.scope.names.lookup y.1 = some .free) (hfr : ∀ y ∈ fr, (y, NameKind.free) ∈ scope.names) (hjs : js.map (fun j => X.N[j]?) = fr.map some) (hfn : ∀ y, X.fn y = true)
    (hbind : ∀ (q : Str) (cl : List (Str × Addr)) (pm cv ctv : Value) (us : List Value), us.length = 1 → bindArgs (PySem.W.kla_fn "<lambda>" q params body scope cl pm cv ctv) ⟨us, []⟩ = pure ([a].zip us))
    (hbody : ∀ (base' : Heap) (cc f : Addr) (A : Around) (outer : List Env) (s : Shared) (H : Hp) (E : XK), RoomG kL (A.deeper (envF (NFlam (X.env.qual ++ "<lambda>") params scope (cloFrom X.env.cells scope.names []) cc) f s.heap.objs.size)) →
      DE (ncx (L2.CX X.prog X.w) X.prog X.w X.K X.mg base' N (NFlam (X.env.qual ++ "<lambda>") params scope (cloFrom X.env.cells scope.names []) cc) f A outer s H E) E body te)
    (he1 : DE X E e1 t1) (hdb : (x == ("__debug__" : Str)) = false := by decide) (hs1 : starEach [e1, .Lambda params body scope lpos] X.env = [(false, eval e1 X.env), (false, eval (.Lambda params body scope lpos) X.env)] := by rfl) :
    DE X E (.Call (.Name x p) [e1, .Lambda params body scope lpos] [] pos) (dGiveL T js N te W t1) := by
  refine ⟨⟨fun pins s σ H Q I hyp => ?_⟩⟩
  obtain ⟨sd, M, Qd, Xd, S0, xt, t, q⟩ := hyp
  refine wpAny_Call_Name_kw (ld_glob I hg hm ?_ hdb)
  have hs2 : starEach [e1, .Lambda params body scope lpos] X.env = (false, eval e1 X.env) :: starEach [.Lambda params body scope lpos] X.env := hs1
  refine PySem.W.callWith_K (h₀ := X.base) I.ok.mod.kin hk ?_ hs2 (by rfl)
  rw [hs1]
  show wpAny _ _ (spliced ((false, eval e1 X.env) :: (false, eval (.Lambda params body scope lpos) X.env) :: [])) _ _ s
  refine Calls.spliced_cons (thn (he1.ok.run pins s σ H (fun v H1 => ∃ d M1, Gw H M H1 M1 ∧ StOk X.K σ H1 sd M1 ∧ Rv X.K H1 M1 d v ∧ (TabsM T M1 ∧ ∃ is : List Int, CapD sd js (is.map D.int) ∧ ∀ L : D, W L (exprF te N (is.map D.int)) [d, L] M1 Qd (fun _ _ _ _ => False))) I
    (useE S0 xt t fun d v M1 H1 g1 S1 x1 r1 t1 => ⟨d, M1, g1, S1, r1, t1⟩)) ?_)
  rintro u1 s1 ⟨v1, H1, I1, rel1, d, M1, g1, S1, rd, tm, is, cd, reads⟩
  have hT := tabs_of S1.mem tm
  have hfr2 : ∀ y ∈ scope.names, y.2 = .free → ∃ c, X.env.cells.lookup y.1 = some c := fun y hy e => (hfree y hy e).elim (fun z => I1.ok.has _ (.inl z)) fun z => I1.ok.has _ (.inr z)
  refine Calls.spliced_cons (lam_make2 I1 TB hcode hmT hu hT hdef hfr2 fun f cc pm ctv H2 s2 J eN T2 own new off code => ?_)
  refine Calls.spliced_nil ⟨J.kIn, ?_⟩
  have mo := mok_ext S1.mem tm eN T2
  have gw : Gw H1 M1 H2 M1 := fun b u h m n => ⟨eN b u h n, m⟩
  have S2 := S1.grow gw mo
  have hd2 : Rv X.K H2 M1 d v1 := Rv.grow gw d _ rd
  let Ld : D := .lam f cc (X.env.qual ++ "<lambda>") σ [] []
  have rL : Rv X.K H2 M1 Ld (.ref f) := ⟨rfl, code, code_free S1.mem tm eN T2 code, rfl, [], fun i j x e => by simp at e, rfl⟩
  have C := cellsB_of J (Caps.made J.ok hfree hfr hjs) hfn
  rw [slots_of S2 cd] at C
  have own' := hidF_get (fs := frs X.stack) own new off
  have Hd := heldX (k := kL) (σ := σ) (js := []) (ds1 := []) S own' (hbind _ _ _ _ _) C (hbody _ cc f)
  have D := G _ Ld _ (rebase_mod J) Hd
  have ran := D.run X.A X.stack s2 H2 M1 ⟨[u1, .ref f], []⟩ [u1, .ref f] [v1, .ref f] [d, Ld] Qd (fun _ _ _ _ => False) Q (fun _ _ _ => False) hr (rebase J) (by rw [hpl]; rfl) (by have := hbg s2 [u1, .ref f] J.kIn (by rw [hpl]; rfl); simpa using this) (.cons rel1 (.cons rfl .nil)) mo (Rs.cons hd2 (Rs.cons rL Rs.nil)) (reads Ld)
    (fun v H' hz => q _ _ (fwdGw g1 (fwdGw gw hz))) (fun c od H' ⟨_, _, _, _, _, _, _, _, _, _, _, _, _, _, z⟩ => z)
  refine wpAny_call (codeAny_mono ran fun r s' fin => ?_)
  match r, fin with
  | .error e, fin => obtain ⟨_, _, _, _, _, _, _, _, _, _, _, _, z⟩ := fin; exact z.elim
  | .ok (.ret u), fin => exact J.after fin
  | .ok .next, fin => exact False.elim fin
  | .ok .brk, fin => exact False.elim fin
  | .ok .cont, fin => exact False.elim fin
end
end DL
set_option maxHeartbeats 2000000
namespace DL
open PySem PySem.Spec PyProof.Rows L2 LamX NdefX
/-- def f(a): .. ; y = x(v, f) -/
def sGiveF (T : List (Addr × Str)) (js : List Nat) (ia i j : Nat) (N : List Str) (td : TSD) (W : D → SpD → SpD) (u : TSD) : TSD := fun Y s M => i < s.length ∧ TabsM T M ∧ ∃ d, s[ia]? = some (some d) ∧ ∃ is : List Int, CapD s js (is.map D.int) ∧
  ∀ L : D, W L (bodyF td N (is.map D.int)) [d, L] M (fun r M' => u Y ((s.set i none).set j (some r)) M') (fun _ _ _ _ => False)
section
variable {X : Cx} {E : XK} {T : List (Addr × Str)} {x a nm y v : Str} {g c P : Addr} {fdg : FuncData} {psg : List Str} {k kL i j ia : Nat} {N fr : List Str} {st1 : Stmt} {rest : List Stmt} {js : List Nat} {td u : TSD} {W : D → SpD → SpD} {p p1 p2 p3 pos1 pos2 pos : Pos}
theorem stOk_none {K : Fg} {H : Hp} {M : Mem} {σ : L2.St} {s : SD} {w : Option V} (S : StOk K σ H s M) (i : Nat) : StOk K (σ.set i w) H (s.set i none) M :=
  ⟨by rw [List.length_set, List.length_set]; exact S.len, fun k d e => by
    by_cases z : i = k
    · subst z
      by_cases h : i < s.length
      · rw [List.getElem?_set_self h] at e; cases e
      · rw [List.getElem?_eq_none (by rw [List.length_set]; omega)] at e; cases e
    · rw [List.getElem?_set_ne z] at e
      rw [List.getElem?_set_ne z]
      exact S.sl k d e, S.mem⟩
theorem cap_set {s : SD} {js : List Nat} {ds : List D} {i : Nat} (h : CapD s js ds) (hi : i ∉ js) : CapD (s.set i none) js ds := ⟨h.1, fun n j d e1 e2 => by
  rw [List.getElem?_set_ne (fun z => hi (by rw [z]; exact List.mem_of_getElem? e1))]
  exact h.2 n j d e1 e2⟩
theorem tabsN_of {T : List (Addr × Str)} {H : Hp} (h : Tabs T H) : TabsN (T.map fun q => (q.1, fun _ _ => q.2)) H := fun q hq => by
  obtain ⟨r, hr, rfl⟩ := List.mem_map.mp hq
  exact h r hr
theorem of_tabsN {T : List (Addr × Str)} {H : Hp} (h : TabsN (T.map fun q => (q.1, fun _ _ => q.2)) H) : Tabs T H := fun q hq => h (q.1, fun _ _ => q.2) (List.mem_map.mpr ⟨q, hq, rfl⟩)
theorem fn_free {K : Fg} {H H1 : Hp} {M : Mem} {f : Addr} (mo : MOk K H M) (h : H f = none) : M f = none := by
  cases e : M f with
  | none => rfl
  | some o =>
    exfalso
    have z := mo _ _ e
    cases o with
    | lst ds => obtain ⟨xs, h1, _⟩ := z; rw [h] at h1; cases h1
    | dct ks ds => obtain ⟨xs, h1, _⟩ := z; rw [h] at h1; cases h1
    | ins C ns ds => obtain ⟨dx, xs, h1, _⟩ := z; rw [h] at h1; cases h1
    | gen φ ds => exact z.elim
    | tab q => obtain ⟨ps, h1, _⟩ := z; rw [h] at h1; cases h1
theorem dss_giveF (hg : Gl X x) (hm : X.mg x = some (.ref g)) (hk : PySem.W.keepIn X.K (.ref g) = true) (hbg : Binds X.K fdg psg []) (hpl : psg.length = 2)
    (G : ∀ (base' : Heap) (L : D) (sp : SpD), Mod X.K X.mg base' → HeldD X.prog X.w X.K X.mg base' (kL + 1) L 1 sp → DFn X.prog X.w X.K X.mg base' k g fdg psg (W L sp))
    (TB : TabB X.base X.mg c P) (hcode : X.env.code = .ref c) (hmT : (P, X.env.qual ++ nm) ∈ T) (hu : ∀ p ∈ T, p.1 = P → p.2 = X.env.qual ++ nm) (hr : RoomG k X.A)
    (hst : st1 = .FunctionDef nm (C8.fnArgs st1) (C8.fnBody st1) [] none [] (C8.fnScope st1) none nm pos1) (hd0 : (C8.fnArgs st1).defaults = []) (hk0 : (C8.fnArgs st1).kw_defaults = []) (hann : annTrees (C8.fnArgs st1) none X.env = [])
    (S : NScope N [a] fr (C8.fnScope st1)) (hfree : ∀ y ∈ (C8.fnScope st1).names, y.2 = .free → X.env.scope.names.lookup y.1 = some .cell ∨ X.env.scope.names.lookup y.1 = some .free) (hfr : ∀ y ∈ fr, (y, NameKind.free) ∈ (C8.fnScope st1).names) (hjs : js.map (fun j => X.N[j]?) = fr.map some) (hfn : ∀ y, X.fn y = true)
    (hbind : ∀ (q : Str) (cl : List (Str × Addr)) (cc : Addr) (doc pm ctv : Value) (us : List Value), us.length = 1 → bindArgs ((NF.of st1 nm q cl cc).fd doc pm ctv) ⟨us, []⟩ = pure ([a].zip us))
    (hbody : ∀ (base' : Heap) (cc f : Addr) (A : Around) (outer : List Env) (s : Shared) (H : Hp) (E : XK), RoomG kL (A.deeper (envF (NF.of st1 nm (X.env.qual ++ nm) (cloFrom X.env.cells (C8.fnScope st1).names []) cc) f s.heap.objs.size)) →
      DSs (ncx (L2.CX X.prog X.w) X.prog X.w X.K X.mg base' N (NF.of st1 nm (X.env.qual ++ nm) (cloFrom X.env.cells (C8.fnScope st1).names []) cc) f A outer s H E) E (C8.fnBody st1) td)
    (hN : X.N.Nodup) (hi : X.N[i]? = some nm) (hx : Loc X.env.scope nm) (hia : X.N[ia]? = some v) (hva : Vis X.env.scope v) (hj : X.N[j]? = some y) (hy : Loc X.env.scope y) (nai : i ≠ ia) (nij : i ∉ js) (hvn : Vis X.env.scope nm)
    (hrest : DSs X E rest u) (hdb : (x == ("__debug__" : Str)) = false := by decide) (hdv : (v == ("__debug__" : Str)) = false := by decide) (hcv : (v == ("__classdict__" : Str)) = false := by decide) (hdn : (nm == ("__debug__" : Str)) = false := by decide) (hcn : (nm == ("__classdict__" : Str)) = false := by decide)
    (hs1 : starEach [.Name v p2, .Name nm p3] X.env = [(false, eval (.Name v p2) X.env), (false, eval (.Name nm p3) X.env)] := by rfl) (hsw : swapsWith (.Call (.Name x p) [.Name v p2, .Name nm p3] [] pos) (some (.Name y p1)) pos2.line X.env = pure false := by rfl) :
    DSs X E (st1 :: .Assign [.Name y p1] (.Call (.Name x p) [.Name v p2, .Name nm p3] [] pos) pos2 :: rest) (sGiveF T js ia i j N td W u) := by
  have P1 := ps_ndefMS (X := X) (T := T.map fun q => (q.1, fun _ _ => q.2)) (nm := fun _ _ => X.env.qual ++ nm) (i := i) hst TB hcode (List.mem_map.mpr ⟨_, hmT, rfl⟩) rfl (fun q hq e => by
    obtain ⟨r, hr, rfl⟩ := List.mem_map.mp hq
    have := hu r hr e
    show (fun _ _ => r.2) = _
    rw [this]) hfree hd0 hk0 hann hN hi hx (.inl (hfn nm))
  have P2 : PE X (.Call (.Name x p) [.Name v p2, .Name nm p3] [] pos) (fun σ1 H1 Q => ∃ (f c' : Addr) (sd : SD) (M : Mem) (Qd : QD), StOk X.K σ1 H1 sd M ∧ σ1[i]? = some (some (.ref f)) ∧ H1 f = some (FnO f (NF.of st1 nm (X.env.qual ++ nm) (cloFrom X.env.cells (C8.fnScope st1).names []) c')) ∧ M f = none ∧
      H1 c' = some (CodeO c' (X.env.qual ++ nm)) ∧ M c' = none ∧ (∃ d, sd[ia]? = some (some d) ∧ ∃ is : List Int, CapD sd js (is.map D.int) ∧ ∀ L : D, W L (bodyF td N (is.map D.int)) [d, L] M Qd (fun _ _ _ _ => False)) ∧ ∀ v H', upE X.K H1 M Qd v H' → Q v H') := by
    refine ⟨fun pins s σ H Q I hyp => ?_⟩
    obtain ⟨f, c', sd, M, Qd, S0, slot, hf, mf, hc, mc, ⟨d, ed, is, cd, reads⟩, q⟩ := hyp
    obtain ⟨va, ea, ra⟩ := S0.sl ia d ed
    have hs2 : starEach [.Name v p2, .Name nm p3] X.env = (false, eval (.Name v p2) X.env) :: starEach [.Name nm p3] X.env := hs1
    refine wpAny_Call_Name_kw (ld_glob I hg hm ?_ hdb)
    refine PySem.W.callWith_K (h₀ := X.base) I.ok.mod.kin hk ?_ hs2 (by rfl)
    rw [hs1]
    show wpAny _ _ (spliced ((false, eval (.Name v p2) X.env) :: (false, eval (.Name nm p3) X.env) :: [])) _ _ s
    refine Calls.spliced_cons (thn ((pe_var (pos := p2) hia hva hdv hcv).run pins s σ H (fun v H1 => v = va ∧ H1 = H) I ⟨va, ea, rfl, rfl⟩) ?_)
    rintro u1 s1 ⟨v1, H1, I1, rel1, e1, e2⟩
    subst e1 e2
    refine Calls.spliced_cons (thn ((pe_var (pos := p3) hi hvn hdn hcn).run pins s1 σ H1 (fun v H2 => v = .ref f ∧ H2 = H1) I1 ⟨.ref f, slot, rfl, rfl⟩) ?_)
    rintro u2 s2 ⟨v2, H2, J, rel2, e1, e2⟩
    subst e1 e2
    obtain rfl : u2 = Value.ref f := rel2
    refine Calls.spliced_nil ⟨J.kIn, ?_⟩
    have C := cellsB_of J (Caps.made J.ok hfree hfr hjs) hfn
    rw [slots_of S0 cd] at C
    have rL : Rv X.K H2 M (.fn f (NF.of st1 nm (X.env.qual ++ nm) (cloFrom X.env.cells (C8.fnScope st1).names []) c')) (.ref f) := ⟨rfl, hf, mf, hc, mc⟩
    have Hd := heldF (k := kL) (f := f) (F := NF.of st1 nm (X.env.qual ++ nm) (cloFrom X.env.cells (C8.fnScope st1).names []) c') (P := X.prog) (w := X.w) (mg := X.mg) (K := X.K) S (hbind _ _ _) C (hbody _ c' f)
    have D := G _ _ _ (rebase_mod J) Hd
    have ran := D.run X.A X.stack s2 H2 M ⟨[u1, .ref f], []⟩ [u1, .ref f] [v1, .ref f] [d, _] Qd (fun _ _ _ _ => False) Q (fun _ _ _ => False) hr (rebase J) (by rw [hpl]; rfl) (by have := hbg s2 [u1, .ref f] J.kIn (by rw [hpl]; rfl); simpa using this) (.cons rel1 (.cons rfl .nil)) S0.mem (Rs.cons ra (Rs.cons rL Rs.nil)) (reads _)
      q (fun c od H' ⟨_, _, _, _, _, _, _, _, _, _, _, _, _, _, z⟩ => z)
    refine wpAny_call (codeAny_mono ran fun r s' fin => ?_)
    match r, fin with
    | .error e, fin => obtain ⟨_, _, _, _, _, _, _, _, _, _, _, _, z⟩ := fin; exact z.elim
    | .ok (.ret u), fin => exact J.after fin
    | .ok .next, fin => exact False.elim fin
    | .ok .brk, fin => exact False.elim fin
    | .ok .cont, fin => exact False.elim fin
  have P3 := ps_set (pos := pos2) (pos' := p1) hN hj hy P2 hsw (.inl (hfn y))
  refine ⟨PSs.imp (pss_cons P1 (pss_cons P3 hrest.ok)) fun Z σ H ⟨s, M, Y, S0, xt, ⟨hil, tm, d, ed, is, cd, reads⟩, h⟩ => ?_⟩
  refine ⟨tabsN_of (tabs_of S0.mem tm), fun f c' H1 eN nn T1 f0 f1 c1 => ?_⟩
  have T1' := of_tabsN T1
  have mo := mok_ext S0.mem tm eN T1'
  have gw : Gw H M H1 M := fun b u h m n => ⟨eN b u h n, m⟩
  have S1 := stOk_none (w := some (.ref f)) (S0.grow gw mo) i
  have hlen : i < σ.length := by rw [← S0.len]; exact hil
  refine ⟨f, c', s.set i none, M, fun r M' => u Y ((s.set i none).set j (some r)) M', S1, List.getElem?_set_self hlen, f1, fn_free (H1 := H1) S0.mem f0, c1, code_free S0.mem tm eN T1' c1, ⟨d, by rw [List.getElem?_set_ne nai]; exact ed, is, cap_set cd nij, reads⟩, fun v H' hz => ?_⟩
  obtain ⟨r, M', g', m', rd, z⟩ := hz
  have S2 := (S1.grow g' m').set j rd
  exact ⟨_, M', Y, S2, xt.grow (gw.trans g'), z, fwdE (gw.trans g') h⟩
end
end DL
set_option maxHeartbeats 1000000
namespace DL
open PySem PySem.Spec PyProof.Rows L2
/-! ### a module's constant of ints, texts and tuples, as data -/
end DL
set_option maxHeartbeats 1000000
namespace PySem
open AutoSeq1 (wpAny_loadPart')
/-- lists and tuples by a Bool: true a tuple -/
def IterB (k : Bool) (h : Heap) (it l : Addr) (i : Nat) : Prop := match k with
  | true => h.IsTupleIter it l i
  | false => h.IsListIter it l i
def SeqB (k : Bool) (h : Heap) (l : Addr) (items : Array Value) : Prop := match k with
  | true => h.IsTuple l items
  | false => h.IsList l items
def itN (k : Bool) : String := match k with
  | true => "tuple_iterator"
  | false => "list_iterator"
theorem dl_draws_lst {prog : Program} {w : World} {A : Around} (hh : A.handled = none) (it l : Addr) (hne : l ≠ it) (items : Array Value) :
    Draws prog w A it [it, l] items.size (fun i v => items[i]? = some v) (fun i h => h.IsListIter it l i ∧ h.IsList l items) where
  live := fun _ _ st => let ⟨o, ho, _⟩ := st.1; ⟨o, ho⟩
  frame := fun _ _ _ st hk => ⟨let ⟨o, ho, r⟩ := st.1; ⟨o, hk it (by simp) o ho, r⟩, let ⟨o, ho, r⟩ := st.2; ⟨o, hk l (by simp) o ho, r⟩⟩
  item := fun i s Q E hi st hQ => wpAny_nextOf_list_item st.1 st.2 (x := items[i]) (by simp [hi]) fun h' hit' hs' => hQ _ h' s.toks (by simp [hi]) ⟨hit', st.2.extBut hs'.extBut hne⟩ hs'
  done := fun s Q E st hE => wpAny_nextOf_list_end hh st.1 st.2 (by simp) hE
theorem dl_draws {prog : Program} {w : World} {A : Around} (k : Bool) (hh : A.handled = none) (it l : Addr) (hne : l ≠ it) (items : Array Value) :
    Draws prog w A it [it, l] items.size (fun i v => items[i]? = some v) (fun i h => IterB k h it l i ∧ SeqB k h l items) := by
  cases k with
  | true => exact dl_draws_tup hh it l hne items
  | false => exact dl_draws_lst hh it l hne items
abbrev zmH1 (ka : Bool) (h : Heap) (l1 : Addr) : Heap := h.push { cls := .type (itN ka), data := .fields #[.ref l1, .int 0 0] }
abbrev zmH2 (ka kb : Bool) (h : Heap) (l1 l2 : Addr) : Heap := (zmH1 ka h l1).push { cls := .type (itN kb), data := .fields #[.ref l2, .int 0 0] }
abbrev zmH3 (ka kb : Bool) (h : Heap) (l1 l2 : Addr) : Heap := (zmH2 ka kb h l1 l2).push { cls := .type "tuple", data := .seq #[.ref h.objs.size, .ref (zmH1 ka h l1).objs.size] }
abbrev zmH4 (ka kb : Bool) (h : Heap) (l1 l2 : Addr) : Heap := (zmH3 ka kb h l1 l2).push { cls := .type "tuple", data := .seq #[.none, .none] }
abbrev zmH5 (ka kb : Bool) (h : Heap) (l1 l2 : Addr) : Heap := (zmH4 ka kb h l1 l2).push { cls := .type "zip", data := .fields #[.none, .bool false, .bool false, .ref (zmH2 ka kb h l1 l2).objs.size, .ref (zmH3 ka kb h l1 l2).objs.size] }
theorem meets_zipM (ka kb : Bool) (l1 l2 : Addr) (xs ys : Array Value) :
    Meets (Builtin.«zip.__new__» ⟨[.type "zip", .ref l1, .ref l2], []⟩) (fun _ R s => SeqB ka s.heap l1 xs ∧ SeqB kb s.heap l2 ys ∧
      R (.ok (.ret (.ref (zmH4 ka kb s.heap l1 l2).objs.size))) { s with heap := zmH5 ka kb s.heap l1 l2 }) :=
  .of_wp fun prog w A R s h => by
    obtain ⟨hp, g, d, tk, os⟩ := s; obtain ⟨hl1, hl2, h⟩ := h
    have hsub := sub_zip
    cases ka with
    | true =>
      have hL1 : Heap.IsTuple (Shared.heap ⟨hp, g, d, tk, os⟩) l1 xs := hl1
      cases kb with
      | true =>
        have hL2 : Heap.IsTuple (Shared.heap ⟨hp.push { cls := .type "tuple_iterator", data := .fields #[.ref l1, .int 0 0] }, g, d, tk, os⟩) l2 ys := Heap.IsTuple.push hl2 _
        wp_walk using wpAny_pyIter_tuple hL1, wpAny_pyIter_tuple hL2
        exact ⟨_, rfl, h⟩
      | false =>
        have hL2 : Heap.IsList (Shared.heap ⟨hp.push { cls := .type "tuple_iterator", data := .fields #[.ref l1, .int 0 0] }, g, d, tk, os⟩) l2 ys := Heap.IsList.push hl2 _
        wp_walk using wpAny_pyIter_tuple hL1, wpAny_pyIter_list hL2
        exact ⟨_, rfl, h⟩
    | false =>
      have hL1 : Heap.IsList (Shared.heap ⟨hp, g, d, tk, os⟩) l1 xs := hl1
      cases kb with
      | true =>
        have hL2 : Heap.IsTuple (Shared.heap ⟨hp.push { cls := .type "list_iterator", data := .fields #[.ref l1, .int 0 0] }, g, d, tk, os⟩) l2 ys := Heap.IsTuple.push hl2 _
        wp_walk using wpAny_pyIter_list hL1, wpAny_pyIter_tuple hL2
        exact ⟨_, rfl, h⟩
      | false =>
        have hL2 : Heap.IsList (Shared.heap ⟨hp.push { cls := .type "list_iterator", data := .fields #[.ref l1, .int 0 0] }, g, d, tk, os⟩) l2 ys := Heap.IsList.push hl2 _
        wp_walk using wpAny_pyIter_list hL1, wpAny_pyIter_list hL2
        exact ⟨_, rfl, h⟩
theorem iterB_at {k : Bool} {h : Heap} {it l : Addr} (e : h.get? it = some { cls := .type (itN k), data := .fields #[.ref l, .int 0 0] }) : IterB k h it l 0 := by
  cases k with
  | true => exact ⟨_, e, rfl, rfl⟩
  | false => exact ⟨_, e, rfl, rfl⟩
theorem call_zipM {prog : Program} {w : World} {A : Around} {E : Value → Shared → Prop} {s : Shared} {ka kb : Bool} {l1 l2 : Addr} {xs ys : Array Value} {Q : Value → Shared → Prop} (hl1 : SeqB ka s.heap l1 xs) (hl2 : SeqB kb s.heap l2 ys)
    (h : ∀ h', IsZip h' (s.heap.objs.size + 4) (s.heap.objs.size + 2) (s.heap.objs.size + 3) .none → IsTupOf2 h' (s.heap.objs.size + 2) (.ref s.heap.objs.size) (.ref (s.heap.objs.size + 1)) →
      IsTupOf2 h' (s.heap.objs.size + 3) .none .none → IterB ka h' s.heap.objs.size l1 0 → IterB kb h' (s.heap.objs.size + 1) l2 0 → h'.objs.size = s.heap.objs.size + 5 →
      (∀ c o, s.heap.get? c = some o → h'.get? c = some o) → Q (.ref (s.heap.objs.size + 4)) { s with heap := h' }) :
    wpAny (model prog w) A (call (.type "zip") [.ref l1, .ref l2]) Q E s := by
  refine callType_new F.called_zip (by decide) (F.typeCall_zip_2 _ _) (F.newCall_zip_2 _ _) (fun obj => F.args_object_init_3 obj _ _) F.entry_zip_new (meets_zipM ka kb l1 l2 xs ys) ⟨hl1, hl2, ?_⟩
  have z1 : (zmH1 ka s.heap l1).objs.size = s.heap.objs.size + 1 := Heap.size_push ..
  have z2 : (zmH2 ka kb s.heap l1 l2).objs.size = s.heap.objs.size + 2 := by rw [Heap.size_push, z1]
  have z3 : (zmH3 ka kb s.heap l1 l2).objs.size = s.heap.objs.size + 3 := by rw [Heap.size_push, z2]
  have z4 : (zmH4 ka kb s.heap l1 l2).objs.size = s.heap.objs.size + 4 := by rw [Heap.size_push, z3]
  have z5 : (zmH5 ka kb s.heap l1 l2).objs.size = s.heap.objs.size + 5 := by rw [Heap.size_push, z4]
  have n1 : ∀ k : Bool, ∀ l : Addr, Obj.isFreed { cls := .type (itN k), data := .fields #[.ref l, .int 0 0] } = false := fun k l => by cases k <;> rfl
  have g5 : (zmH5 ka kb s.heap l1 l2).get? (zmH4 ka kb s.heap l1 l2).objs.size = some _ := Heap.get?_push_size _ rfl
  have g4 : (zmH5 ka kb s.heap l1 l2).get? (zmH3 ka kb s.heap l1 l2).objs.size = some _ := Heap.get?_push_of_some _ (Heap.get?_push_size _ rfl)
  have g3 : (zmH5 ka kb s.heap l1 l2).get? (zmH2 ka kb s.heap l1 l2).objs.size = some _ := Heap.get?_push_of_some _ (Heap.get?_push_of_some _ (Heap.get?_push_size _ rfl))
  have g2 : (zmH5 ka kb s.heap l1 l2).get? (zmH1 ka s.heap l1).objs.size = some _ := Heap.get?_push_of_some _ (Heap.get?_push_of_some _ (Heap.get?_push_of_some _ (Heap.get?_push_size _ (n1 kb l2))))
  have g1 : (zmH5 ka kb s.heap l1 l2).get? s.heap.objs.size = some _ := Heap.get?_push_of_some _ (Heap.get?_push_of_some _ (Heap.get?_push_of_some _ (Heap.get?_push_of_some _ (Heap.get?_push_size _ (n1 ka l1)))))
  show _ ∧ _
  rw [z2, z3, z4] at g5
  rw [z1, z2] at g3
  rw [z3] at g4
  rw [z1] at g2
  rw [z4]
  exact ⟨⟨_, g5, rfl⟩, h _ g5 g3 g4 (iterB_at g1) (iterB_at g2) z5 fun c o x =>
    Heap.get?_push_of_some _ (Heap.get?_push_of_some _ (Heap.get?_push_of_some _ (Heap.get?_push_of_some _ (Heap.get?_push_of_some _ x))))⟩
end PySem
namespace DL
open PySem PySem.Spec PyProof.Rows L2 RZ
/-! ### zip of lists and tuples, mixed -/
def SqB (k : Bool) (K : Fg) (H : Hp) (a : Addr) (xs : List V) : Prop := match k with
  | true => SqT K H a xs
  | false => SqL K H a xs
theorem sqB_at {X : Cx} {pins : List (Addr × Obj)} {σ : L2.St} {H : Hp} {s : Shared} {k : Bool} {a : Addr} {xs : List V} (I : Inv X pins σ H s) (h : SqB k X.K H a xs) : ∃ its : List Value, Vals xs its ∧ SeqB k s.heap a its.toArray ∧ (∀ ys, SqB k X.K H a ys → ys = xs) := by
  cases k with
  | true =>
    obtain ⟨its, rv, p, _⟩ := I.tuple h
    exact ⟨its, rv, p, fun ys hy => I.tuple_inj hy h⟩
  | false =>
    obtain ⟨its, rv, p, _⟩ := I.list h
    exact ⟨its, rv, p.isList, fun ys hy => I.list_inj hy h⟩
theorem iterB_obj {k : Bool} {h : Heap} {it l : Addr} {i : Nat} (x : IterB k h it l i) : ∃ o, h.get? it = some o ∧ o.data = .fields #[.ref l, .int i 0] ∧ o.cls = .type (itN k) := by
  cases k with
  | true => obtain ⟨o, a, b, c⟩ := x; exact ⟨o, a, c, b⟩
  | false => obtain ⟨o, a, b, c⟩ := x; exact ⟨o, a, c, b⟩
theorem iterB_of {k : Bool} {h : Heap} {it l : Addr} {i : Nat} {o : Obj} (a : h.get? it = some o) (c : o.data = .fields #[.ref l, .int i 0]) (b : o.cls = .type (itN k)) : IterB k h it l i := by
  cases k with
  | true => exact ⟨o, a, b, c⟩
  | false => exact ⟨o, a, b, c⟩
theorem seqB_obj {k : Bool} {h : Heap} {l : Addr} {items : Array Value} (x : SeqB k h l items) : ∃ o, h.get? l = some o := by
  cases k with
  | true => obtain ⟨o, a, _⟩ := x; exact ⟨o, a⟩
  | false => obtain ⟨o, a, _⟩ := x; exact ⟨o, a⟩
def ItzM (K : Fg) (ka kb : Bool) (a b : Addr) : It :=
  ⟨fun i H => ∃ (xs ys : List V) (x y : V), SqB ka K H a xs ∧ SqB kb K H b ys ∧ xs[i]? = some x ∧ ys[i]? = some y,
    fun i H v H' => ∃ T x y, v = .ref T ∧ H T = none ∧ H' = upd H T (.tup [x, y]) ∧ (∀ xs, SqB ka K H a xs → xs[i]? = some x) ∧ ∀ ys, SqB kb K H b ys → ys[i]? = some y,
    fun i H => ∃ xs ys : List V, SqB ka K H a xs ∧ SqB kb K H b ys ∧ i ≤ xs.length ∧ i ≤ ys.length ∧ (xs.length = i ∨ ys.length = i)⟩
theorem turn_zipM {P : Program} {w : World} {K : Fg} {elts : List Expr} {kk : Nat} {tpos : Pos} {ka kb : Bool} {a b z TI TO i1 i2 : Addr} (S : ZipSep2 z TI TO i1 i2 [i1, a] [i2, b]) (na : a ≠ i1) (nb : b ≠ i2) :
    Turn P w K (.Tuple elts kk tpos) (ItzM K ka kb a b) [z, TI, TO, i1, i2] z (fun i h => IsZip h z TI TO .none ∧ IsTupOf2 h TI (.ref i1) (.ref i2) ∧ (∃ x y, IsTupOf2 h TO x y) ∧ IterB ka h i1 a i ∧ IterB kb h i2 b i) where
  mem := by simp
  obj := fun i h st c hc => by
    obtain ⟨hz, hTI, ⟨x, y, hTO⟩, h1, h2⟩ := st
    obtain ⟨o1, e1, d1, _⟩ := iterB_obj h1
    obtain ⟨o2, e2, d2, _⟩ := iterB_obj h2
    have e' : c = z ∨ c = TI ∨ c = TO ∨ c = i1 ∨ c = i2 := by simpa using hc
    rcases e' with q | q | q | q | q
    · rw [q]; exact ⟨_, hz, fun v q => nomatch q⟩
    · rw [q]; exact ⟨_, hTI, fun v q => nomatch q⟩
    · rw [q]; exact ⟨_, hTO, fun v q => nomatch q⟩
    · rw [q]; exact ⟨o1, e1, fun v q => by rw [d1] at q; cases q⟩
    · rw [q]; exact ⟨o2, e2, fun v q => by rw [d2] at q; cases q⟩
  keep := fun i h h' st k => by
    obtain ⟨hz, hTI, ⟨x, y, hTO⟩, h1, h2⟩ := st
    obtain ⟨o1, e1, d1, c1⟩ := iterB_obj h1
    obtain ⟨o2, e2, d2, c2⟩ := iterB_obj h2
    exact ⟨k z (by simp) _ hz, k TI (by simp) _ hTI, ⟨x, y, k TO (by simp) _ hTO⟩, iterB_of (k i1 (by simp) _ e1) d1 c1, iterB_of (k i2 (by simp) _ e2) d2 c2⟩
  item := by
    intro X hP hw hK hc i pins s σ H E I hf st hg
    subst hP hw hK
    obtain ⟨hz, hTI, ⟨x0, y0, hTO⟩, h1, h2⟩ := st
    obtain ⟨xs, ys, x, y, hqx, hqy, hx, hy⟩ := hg
    obtain ⟨its, rv, p, ux⟩ := sqB_at I hqx
    obtain ⟨its2, rv2, p2, uy⟩ := sqB_at I hqy
    obtain ⟨u, hu, ru⟩ := rv.get hx
    obtain ⟨u2, hu2, ru2⟩ := rv2.get hy
    have hzl : z < s.heap.objs.size := Heap.lt_size hz
    have hh : X.A.in1.handled = none := I.ok.hd hc
    have lt1 : i < its.toArray.size := by
      rcases Nat.lt_or_ge i its.length with q | q
      · simpa using q
      · rw [List.getElem?_eq_none q] at hu; cases hu
    have lt2 : i < its2.toArray.size := by
      rcases Nat.lt_or_ge i its2.length with q | q
      · simpa using q
      · rw [List.getElem?_eq_none q] at hu2; cases hu2
    refine wpAny_pyNext_zipD2_item S (dl_draws ka hh i1 a na its.toArray) (dl_draws kb hh i2 b nb its2.toArray) hz hTI hTO ⟨h1, p⟩ ⟨h2, p2⟩ lt1 lt2 fun x1 x2 h' tk P1 P2 z' TO' st1 st2 hT hsz hk => ?_
    have e1 : x1 = u := by
      have q : its.toArray[i]? = some x1 := P1
      rw [show its.toArray[i]? = its[i]? by simp, hu] at q
      exact (Option.some.inj q).symm
    have e2 : x2 = u2 := by
      have q : its2.toArray[i]? = some x2 := P2
      rw [show its2.toArray[i]? = its2[i]? by simp, hu2] at q
      exact (Option.some.inj q).symm
    subst e1 e2
    refine ⟨_, rfl, wpAny_letOwnedTupleGo_zip (s := { s with heap := h', toks := tk }) z' fun h'' z'' sb => ?_⟩
    have hT2 : h''.get? s.heap.objs.size = some { cls := .type "tuple", data := .seq #[x1, x2] } := (sb.2 _ (Nat.ne_of_gt hzl)).trans hT
    have new : ObjOk X.prog X.w (upd H s.heap.objs.size (.tup [x, y])) h'' s.heap.objs.size (.tup [x, y]) :=
      ⟨by show 2 ≤ sizeLine; decide, [x1, x2], .cons ru (.cons ru2 .nil), ⟨_, hT2, rfl, _, rfl⟩⟩
    have I1 : Inv X pins σ (upd H s.heap.objs.size (.tup [x, y])) { s with heap := h'', toks := tk } :=
      I.turnedNew (t' := tk) (ch := [z, TI, TO, i1, i2]) (fun c o hb q => (sb.2 c (fun q' => hb (by simp [q']))).trans (hk c o (fun q' => hb (by simp [q'])) (fun q' => hb (by simp [q'])) (fun q' => hb (by simp [q'])) (fun q' => hb (by simp [q'])) q)) hf (Nat.le_refl _) new
    have old : ∀ c, c ∈ [z, TI, TO, i1, i2] → c < s.heap.objs.size := fun c hcm => by
      have e' : c = z ∨ c = TI ∨ c = TO ∨ c = i1 ∨ c = i2 := by simpa using hcm
      rcases e' with q | q | q | q | q
      · rw [q]; exact hzl
      · rw [q]; exact Heap.lt_size hTI
      · rw [q]; exact Heap.lt_size hTO
      · rw [q]; obtain ⟨_, e1, _⟩ := iterB_obj h1; exact Heap.lt_size e1
      · rw [q]; obtain ⟨_, e2, _⟩ := iterB_obj h2; exact Heap.lt_size e2
    refine ⟨.ref s.heap.objs.size, _, I1, rfl, ⟨_, x, y, rfl, I.hok.fresh (Nat.le_refl _), rfl, fun l hl => by rw [ux l hl]; exact hx, fun l hl => by rw [uy l hl]; exact hy⟩, ⟨z'', ?_, ⟨x1, x2, ?_⟩, ?_, ?_⟩, fun c hcm => ?_⟩
    · exact (sb.2 _ S.TIz).trans (hk _ _ S.TIz S.TITO S.TIi1 S.TIi2 hTI)
    · exact (sb.2 _ S.TOz).trans TO'
    · obtain ⟨o1, a1, b1, c1⟩ := iterB_obj st1.1
      exact iterB_of ((sb.2 _ (Ne.symm S.zi1)).trans a1) b1 c1
    · obtain ⟨o1, a1, b1, c1⟩ := iterB_obj st2.1
      exact iterB_of ((sb.2 _ (Ne.symm S.zi2)).trans a1) b1 c1
    · rw [upd_ne (Nat.ne_of_lt (old c hcm))]
      exact (hf c hcm).1
  done := by
    intro X hP hw hK hc i pins s σ H E I hf st hg
    subst hP hw hK
    obtain ⟨hz, hTI, ⟨x0, y0, hTO⟩, h1, h2⟩ := st
    obtain ⟨xs, ys, hqx, hqy, le1, le2, hend⟩ := hg
    obtain ⟨its, rv, p, ux⟩ := sqB_at I hqx
    obtain ⟨its2, rv2, p2, uy⟩ := sqB_at I hqy
    have l1 := rv.length
    have l2 := rv2.length
    have hh : X.A.in1.handled = none := I.ok.hd hc
    have s1 : its.toArray.size = xs.length := by simp [l1]
    have s2 : its2.toArray.size = ys.length := by simp [l2]
    refine wpAny_pyNext_zipD2_end S (dl_draws ka hh i1 a na its.toArray) (dl_draws kb hh i2 b nb its2.toArray) hz hTI hTO ⟨h1, p⟩ ⟨h2, p2⟩ (by rw [s1]; exact le1) (by rw [s2]; exact le2) (by rw [s1, s2]; exact hend.imp Eq.symm Eq.symm) fun h' tk hk => ?_
    exact ⟨rfl, I.turnedL (t' := tk) (ch := [z, TI, TO, i1, i2]) (fun c o hb q => hk c o (fun q' => hb (by simp [q'])) (fun q' => hb (by simp [q'])) (fun q' => hb (by simp [q'])) (fun q' => hb (by simp [q'])) q) hf⟩
  self := fun A i s Q E st h => wpAny_pyIter_zip st.1 h
theorem nm2 {x y z : Nat} (h : z ≠ x) (k : z ≠ y) : z ∉ [x, y] := fun m => by
  rcases List.mem_cons.mp m with e | m
  · exact h e
  · exact k (List.mem_singleton.mp m)
theorem zsep (n a b : Nat) (la : a < n) (lb : b < n) : ZipSep2 (n + 4) (n + 2) (n + 3) n (n + 1) [n, a] [n + 1, b] where
  TIz := Nat.ne_of_lt (by omega)
  TOz := Nat.ne_of_lt (by omega)
  TITO := Nat.ne_of_lt (by omega)
  TIi1 := Nat.ne_of_gt (by omega)
  mem1 := List.mem_cons_self
  zf1 := nm2 (Nat.ne_of_gt (by omega)) (Nat.ne_of_gt (by omega))
  Tf1 := nm2 (Nat.ne_of_gt (by omega)) (Nat.ne_of_gt (by omega))
  TIi2 := Nat.ne_of_gt (by omega)
  mem2 := List.mem_cons_self
  zf2 := nm2 (Nat.ne_of_gt (by omega)) (Nat.ne_of_gt (by omega))
  Tf2 := nm2 (Nat.ne_of_gt (by omega)) (Nat.ne_of_gt (by omega))
  sep1_2 := nm2 (Nat.ne_of_lt (by omega)) (Nat.ne_of_gt (by omega))
  sep2_1 := nm2 (Nat.ne_of_gt (by omega)) (Nat.ne_of_gt (by omega))
def iZipM (K : Fg) (ta : TA) : TI := fun σ H R => ta σ H fun vs H1 => ∃ ka kb a b xs ys, vs = [.ref a, .ref b] ∧ SqB ka K H1 a xs ∧ SqB kb K H1 b ys ∧ R (ItzM K ka kb a b) H1
theorem pi_zipM {X : Cx} {e e2 : Expr} {ta : TA} {p pos tpos : Pos} {elts : List Expr} {kk : Nat} (hg : Gl X "zip") (hm : X.mg "zip" = none) (ha : PA X [e, e2] ta)
    (hs : starEach [e, e2] X.env = (false, eval e X.env) :: starEach [e2] X.env := by rfl) (hpl : (backTo pos (starEach [e2] X.env)).any (·.1) = false := by rfl) :
    PI X (.Tuple elts kk tpos) (.Call (.Name "zip" p) [e, e2] [] pos) (iZipM X.K ta) := by
  refine ⟨fun pins s σ H R I h => Call_ (ld_blt I hg hm PyProof.Rows.boot_zip (PyProof.Rows.callWith_type1 (thn (ha.run pos pins s σ H _ I h) fun us s1 ⟨vs, H1, I1, r1, ka, kb, a, b, xs, ys, ex, hqx, hqy, q⟩ => ?_) hs hpl))⟩
  subst ex
  obtain ⟨u, u2, rfl, ru, ru2⟩ := vals2 r1
  obtain rfl : u = .ref a := ru
  obtain rfl : u2 = .ref b := ru2
  have fresh5 : ∀ c, c ∈ [s1.heap.objs.size + 4, s1.heap.objs.size + 2, s1.heap.objs.size + 3, s1.heap.objs.size, s1.heap.objs.size + 1] → FpOk X pins H1 c := fun c hcm => by
    have e' : c = s1.heap.objs.size + 4 ∨ c = s1.heap.objs.size + 2 ∨ c = s1.heap.objs.size + 3 ∨ c = s1.heap.objs.size ∨ c = s1.heap.objs.size + 1 := by simpa using hcm
    have hle : s1.heap.objs.size ≤ c := by
      rcases e' with z | z | z | z | z <;> rw [z]
      · exact Nat.le_add_right _ _
      · exact Nat.le_add_right _ _
      · exact Nat.le_add_right _ _
      · exact Nat.le_refl _
      · exact Nat.le_add_right _ _
    exact I1.fpOk hle (I1.hok.fresh hle)
  obtain ⟨its, rv, p1, _⟩ := sqB_at I1 hqx
  obtain ⟨its2, rv2, p2, _⟩ := sqB_at I1 hqy
  obtain ⟨oa, ea⟩ := seqB_obj p1
  obtain ⟨ob, eb⟩ := seqB_obj p2
  have la : a < s1.heap.objs.size := Heap.lt_size ea
  have lb : b < s1.heap.objs.size := Heap.lt_size eb
  have S : ZipSep2 (s1.heap.objs.size + 4) (s1.heap.objs.size + 2) (s1.heap.objs.size + 3) s1.heap.objs.size (s1.heap.objs.size + 1) [s1.heap.objs.size, a] [s1.heap.objs.size + 1, b] := zsep _ a b la lb
  refine call_zipM p1 p2 fun h' hz hTI hTO h1 h2 hsz hk => wpAny_pyIter_zip hz ?_
  have I2 : Inv X pins σ H1 { s1 with heap := h' } := I1.kept (t' := s1.toks) hk
  exact ⟨s1.heap.objs.size + 4, [s1.heap.objs.size + 4, s1.heap.objs.size + 2, s1.heap.objs.size + 3, s1.heap.objs.size, s1.heap.objs.size + 1], _, _, H1, rfl, I2, turn_zipM S (Nat.ne_of_lt la) (Nat.ne_of_lt (Nat.lt_succ_of_lt lb)), ⟨hz, hTI, ⟨_, _, hTO⟩, h1, h2⟩, fresh5, q⟩
theorem ItOk.zipM {K : Fg} {H0 : Hp} {M0 : Mem} {ds es : List D} {ka kb : Bool} {a b : Addr} (hs : ∀ H M, Gw H0 M0 H M → ∃ xs, SqB ka K H a xs ∧ Rs K H M ds xs) (ht : ∀ H M, Gw H0 M0 H M → ∃ ys, SqB kb K H b ys ∧ Rs K H M es ys) : ItOk K (ItzM K ka kb a b) H0 M0 none (zpD ds es) := by
  refine ⟨fun i H M g mo hw hi => ?_, fun H M g mo hw => ?_⟩
  · rw [zpD_len] at hi
    have i1 : i < ds.length := by omega
    have i2 : i < es.length := by omega
    obtain ⟨xs, h1, h2⟩ := hs H M g
    obtain ⟨ys, k1, k2⟩ := ht H M g
    obtain ⟨v, e1, e2⟩ := Rs.get h2 (List.getElem?_eq_getElem i1)
    obtain ⟨u, f1, f2⟩ := Rs.get k2 (List.getElem?_eq_getElem i2)
    refine ⟨⟨xs, ys, v, u, h1, k1, e1, f1⟩, fun z H' ⟨T, x, y, eT, hT, eH, hx, hy⟩ => ?_⟩
    subst eT; subst eH
    have e3 := hx xs h1
    rw [e1] at e3; cases e3
    have f3 := hy ys k1
    rw [f1] at f3; cases f3
    exact ⟨.tup [ds[i], es[i]], by rw [zpD_get, List.getElem?_eq_getElem i1, List.getElem?_eq_getElem i2], gw_new hT, mok_new mo hT, new_tup mo hT (Rs.cons e2 (Rs.cons f2 Rs.nil))⟩
  · rw [zpD_len]
    obtain ⟨xs, h1, h2⟩ := hs H M g
    obtain ⟨ys, k1, k2⟩ := ht H M g
    exact ⟨xs, ys, h1, k1, by rw [vlen h2]; omega, by rw [vlen k2]; omega, by rw [vlen h2, vlen k2]; omega⟩
/-- the items of a list or tuple that is not changed -/
def sqdO : D → Option (List D)
  | .lst ds => some ds
  | .fzn ds => some ds
  | .tup ds => some ds
  | _ => none
theorem sqdO_use {K : Fg} {H : Hp} {M : Mem} {d : D} {v : V} {ds : List D} (r : Rv K H M d v) (e : sqdO d = some ds) : ∃ (k : Bool) (p : Addr), v = .ref p ∧ ∀ H' M', Gw H M H' M' → ∃ ys, SqB k K H' p ys ∧ Rs K H' M' ds ys := by
  cases d with
  | lst es => cases e; obtain ⟨p, xs, h, hp, hm, sp⟩ := r; exact ⟨false, p, h, fun H' M' g => ⟨xs, SqL.of (g.at hp hm).1, Rs.grow g _ xs sp⟩⟩
  | fzn es => cases e; obtain ⟨p, xs, h, hp, sp⟩ := r; exact ⟨false, p, h, fun H' M' g => ⟨xs, (g.rl hp).sq, Rs.grow g _ xs sp⟩⟩
  | tup es => cases e; obtain ⟨p, xs, h, hp, sp⟩ := r; exact ⟨true, p, h, fun H' M' g => ⟨xs, (g.rt hp).sq, Rs.grow g _ xs sp⟩⟩
  | _ => cases e
def zipMK (R : List D → Option Addr → Mem → Prop) : List D → Mem → Prop := fun l M => match l with
  | [d, e] => ∃ ds es, sqdO d = some ds ∧ sqdO e = some es ∧ R (zpD ds es) none M
  | _ => False
def iZipMD (te te2 : TED) : TID := fun Xd s M R => dCons te (dCons te2 dNil) Xd s M (zipMK R)
theorem di_zipM {X : Cx} {E : XK} {e e2 : Expr} {te te2 : TED} {p pos tpos : Pos} {elts : List Expr} {kk : Nat} (hg : Gl X "zip") (hm : X.mg "zip" = none) (he : DE X E e te) (he2 : DE X E e2 te2) (hs2 : starEach [e2] X.env = (false, eval e2 X.env) :: starEach [] X.env := by rfl)
    (hs : starEach [e, e2] X.env = (false, eval e X.env) :: starEach [e2] X.env := by rfl) (hpl : (backTo pos (starEach [e2] X.env)).any (·.1) = false := by rfl) : DI X E (.Tuple elts kk tpos) (.Call (.Name "zip" p) [e, e2] [] pos) (iZipMD te te2) := by
  refine ⟨_, pi_zipM hg hm (dn_cons he (dn_cons he2 dn_nil hs2) hs).ok hs hpl, fun {σ H s M Xd Qd R} S x t q => ?_⟩
  refine useN S x t fun ds vs M1 H1 hl g1 S1 x1 r1 t1 => ?_
  unfold zipMK at t1
  split at t1
  · rename_i d d2
    obtain ⟨ds, es, h1, h2, t1⟩ := t1
    obtain ⟨v, v2, hv, rd, rd2⟩ := rs2 r1
    obtain ⟨ka, a, rfl, fa⟩ := sqdO_use rd h1
    obtain ⟨kb, b, rfl, fb⟩ := sqdO_use rd2 h2
    obtain ⟨xs, hx, _⟩ := fa H1 M1 Gw.refl
    obtain ⟨ys, hy, _⟩ := fb H1 M1 Gw.refl
    exact ⟨ka, kb, a, b, xs, ys, hv, hx, hy, q _ _ _ _ _ g1 S1.mem (ItOk.zipM fa fb) t1⟩
  · exact t1.elim
end DL
set_option maxHeartbeats 4000000
namespace DL
open PySem PySem.Spec PyProof.Rows L2 DL
section
variable {X : Cx} {E : XK} {n k : Nat} {f x : Str} {p pos p' pos' tpos : Pos} {e o : Expr} {es : List Expr} {te to : TED} {ts : TAD}
/-- a class with a def __init__ -/
def dNewD (C : Addr) (sp : SpD) (dd : List D) (t : TAD) : TED := fun Xd s M Q => t Xd s M fun ds M1 => ∀ p, M1 p = none → sp (.ref p :: (ds ++ dd)) (M1.put p (.ins C [] [])) (fun d M2 => d = .non ∧ Q (.ref p) M2) Xd
end
end DL
set_option maxHeartbeats 4000000
/-! list(zip(a, b)): the tuples stay out -/
namespace PySem
open PySem.Spec PyProof.Rows
section
variable {prog : Program} {w : World} {A : Around} {E : Value → Shared → Prop} {s : Shared} {z TI TO T i1 i2 : Addr} {f : Bool} {oT : Obj} {fp1 fp2 : List Addr} {n1 n2 i : Nat} {P1 P2 : Nat → Value → Prop} {St1 St2 : Nat → Heap → Prop}
theorem zipH_next_item {Q : Value → Shared → Prop} (S : ZipSep2 z TI TO i1 i2 fp1 fp2) (D1 : Draws prog w A i1 fp1 n1 P1 St1) (D2 : Draws prog w A i2 fp2 n2 P2 St2)
    (hz : IsZipHeld s.heap z TI TO T f) (hT : s.heap.get? T = some oT) (hTI : IsTupOf2 s.heap TI (.ref i1) (.ref i2)) (st1 : St1 i s.heap) (st2 : St2 i s.heap) (hlt1 : i < n1) (hlt2 : i < n2)
    (hQ : ∀ x1 x2 h' tk, P1 i x1 → P2 i x2 → IsZipHeld h' z TI TO T true → St1 (i + 1) h' → St2 (i + 1) h' → IsTupOf2 h' s.heap.objs.size x1 x2 → h'.objs.size = s.heap.objs.size + 1 →
      (∀ c o, c ≠ z → c ≠ i1 → c ≠ i2 → s.heap.get? c = some o → h'.get? c = some o) → Q (.ref s.heap.objs.size) { s with heap := h', toks := tk }) :
    wpAny (model prog w) A (Builtin.«zip.__next__» ⟨[.ref z], []⟩) (fun fin s' => ∃ v, fin = .done (.ret v) ∧ Q v s') E s := by
  obtain ⟨hp, g, d, tk0, os⟩ := s
  show wpAny _ _ (field (.ref z) 2 >>= _) _ _ _
  refine wpAny_bind (wpAny_field hz rfl (x := .bool false) rfl ?_)
  show wpAny _ _ (field (.ref z) 3 >>= _) _ _ _
  refine wpAny_bind (wpAny_field hz rfl (x := .ref TI) rfl ?_)
  refine wpAny_bind (wpAny_seqItems hTI rfl ?_)
  show wpAny _ _ (Builtin.SmallTypes.ownedTupleIsFree (.ref z) >>= _) _ _ _
  refine wpAny_bind (wpAny_tupleHeld_zip hz hT fun h₁ hz₁ hs₁ => ?_)
  simp only [Bool.false_eq_true, if_false]
  refine wpAny_bind ?_
  rw [← Array.forIn_toList]
  simp only [List.forIn_cons, List.forIn_nil]
  refine wpAny_bind (wpAny_bind (wpAny_holding ?_))
  show wpAny _ _ (Builtin.SmallTypes.nextOf (.ref i1) >>= _) _ _ ⟨h₁, g, d, tk0, os⟩
  refine wpAny_bind (D1.item i _ _ _ hlt1 (D1.over st1 hs₁ S.zf1) fun x1 p1 tk1 hx1 sn1 hp1 => wpAny_pure ?_)
  replace hp1 : Heap.SameBut i1 h₁ p1 := hp1
  refine wpAny_pure ?_
  refine wpAny_bind (wpAny_bind (wpAny_holding ?_))
  show wpAny _ _ (Builtin.SmallTypes.nextOf (.ref i2) >>= _) _ _ ⟨p1, g, d, tk1, os⟩
  refine wpAny_bind (D2.item i _ _ _ hlt2 (D2.over (D2.over st2 hs₁ S.zf2) hp1 S.sep1_2) fun x2 p2 tk2 hx2 sn2 hp2 => wpAny_pure ?_)
  replace hp2 : Heap.SameBut i2 p1 p2 := hp2
  refine wpAny_pure (wpAny_pure ?_)
  show wpAny _ _ (newTuple [x1, x2] >>= _) _ _ _
  refine wpAny_bind (wpAny_newTuple ?_)
  have hsz : p2.objs.size = hp.objs.size := by rw [hp2.1, hp1.1, hs₁.1]
  have hz₃ : IsZipHeld p2 z TI TO T true := hp2.extBut _ _ S.zi2 (hp1.extBut _ _ S.zi1 hz₁)
  have hk : ∀ c o, c ≠ z → c ≠ i1 → c ≠ i2 → hp.get? c = some o → p2.get? c = some o := fun c o c1 c2 c3 e => hp2.extBut _ _ c3 (hp1.extBut _ _ c2 (hs₁.extBut _ _ c1 e))
  have j1 : St1 (i + 1) p2 := D1.over sn1 hp2 S.sep2_1
  refine wpAny_pure ⟨_, rfl, ?_⟩
  show Q (.ref p2.objs.size) _
  have hp' : IsTupOf2 (p2.push { cls := .type "tuple", data := .seq #[x1, x2] }) p2.objs.size x1 x2 := Heap.get?_push_size _ rfl
  have hz4 : (p2.push { cls := .type "tuple", data := .seq #[x1, x2] }).objs.size = p2.objs.size + 1 := Heap.size_push ..
  rw [hsz] at hp' hz4 ⊢
  exact hQ x1 x2 _ tk2 hx1 hx2 (Heap.get?_push_of_some _ hz₃) (D1.frame _ _ _ j1 fun b _ o e => Heap.get?_push_of_some _ e) (D2.frame _ _ _ sn2 fun b _ o e => Heap.get?_push_of_some _ e) hp' hz4 fun c o c1 c2 c3 e => Heap.get?_push_of_some _ (hk c o c1 c2 c3 e)
theorem zipH_next_end {Q : Fin → Shared → Prop} (S : ZipSep2 z TI TO i1 i2 fp1 fp2) (D1 : Draws prog w A i1 fp1 n1 P1 St1) (D2 : Draws prog w A i2 fp2 n2 P2 St2)
    (hz : IsZipHeld s.heap z TI TO T f) (hT : s.heap.get? T = some oT) (hTI : IsTupOf2 s.heap TI (.ref i1) (.ref i2)) (st1 : St1 i s.heap) (st2 : St2 i s.heap) (hle1 : i ≤ n1) (hle2 : i ≤ n2) (hend : i = n1 ∨ i = n2)
    (hE : ∀ h' tk e, (∀ c o, c ≠ z → c ≠ i1 → c ≠ i2 → s.heap.get? c = some o → h'.get? c = some o) → (∃ o, h'.get? e = some o ∧ o.cls = .type "StopIteration") → E (.ref e) { s with heap := h', toks := tk }) :
    wpAny (model prog w) A (Builtin.«zip.__next__» ⟨[.ref z], []⟩) Q E s := by
  obtain ⟨hp, g, d, tk0, os⟩ := s
  show wpAny _ _ (field (.ref z) 2 >>= _) _ _ _
  refine wpAny_bind (wpAny_field hz rfl (x := .bool false) rfl ?_)
  show wpAny _ _ (field (.ref z) 3 >>= _) _ _ _
  refine wpAny_bind (wpAny_field hz rfl (x := .ref TI) rfl ?_)
  refine wpAny_bind (wpAny_seqItems hTI rfl ?_)
  show wpAny _ _ (Builtin.SmallTypes.ownedTupleIsFree (.ref z) >>= _) _ _ _
  refine wpAny_bind (wpAny_tupleHeld_zip hz hT fun h₁ hz₁ hs₁ => ?_)
  simp only [Bool.false_eq_true, if_false]
  refine wpAny_bind ?_
  rw [← Array.forIn_toList]
  simp only [List.forIn_cons, List.forIn_nil]
  refine wpAny_bind (wpAny_bind (wpAny_holding ?_))
  show wpAny _ _ (Builtin.SmallTypes.nextOf (.ref i1) >>= _) _ _ ⟨h₁, g, d, tk0, os⟩
  by_cases hlt1 : i < n1
  · refine wpAny_bind (D1.item i _ _ _ hlt1 (D1.over st1 hs₁ S.zf1) fun x1 p1 tk1 hx1 sn1 hp1 => wpAny_pure ?_)
    replace hp1 : Heap.SameBut i1 h₁ p1 := hp1
    have hi2 : i = n2 := by omega
    refine wpAny_pure ?_
    refine wpAny_bind (wpAny_bind (wpAny_holding ?_))
    show wpAny _ _ (Builtin.SmallTypes.nextOf (.ref i2) >>= _) _ _ ⟨p1, g, d, tk1, os⟩
    refine wpAny_bind (D2.done ⟨p1, g, d, tk1, os⟩ _ _ (by rw [← hi2]; exact D2.over (D2.over st2 hs₁ S.zf2) hp1 S.sep1_2) fun q e hq he => ?_)
    exact hE q tk1 e (fun c o c1 c2 c3 x => hq _ _ c3 (hp1.extBut _ _ c2 (hs₁.extBut _ _ c1 x))) he
  · have hi1 : i = n1 := by omega
    refine wpAny_bind (D1.done ⟨h₁, g, d, tk0, os⟩ _ _ (by rw [← hi1]; exact D1.over st1 hs₁ S.zf1) fun q e hq he => ?_)
    exact hE q tk0 e (fun c o c1 c2 _ x => hq _ _ c2 (hs₁.extBut _ _ c1 x)) he
theorem pyNext_zipH_item {Q : Option Value → Shared → Prop} (S : ZipSep2 z TI TO i1 i2 fp1 fp2) (D1 : Draws prog w A.in1 i1 fp1 n1 P1 St1) (D2 : Draws prog w A.in1 i2 fp2 n2 P2 St2)
    (hz : IsZipHeld s.heap z TI TO T f) (hT : s.heap.get? T = some oT) (hTI : IsTupOf2 s.heap TI (.ref i1) (.ref i2)) (st1 : St1 i s.heap) (st2 : St2 i s.heap) (hlt1 : i < n1) (hlt2 : i < n2)
    (hQ : ∀ x1 x2 h' tk, P1 i x1 → P2 i x2 → IsZipHeld h' z TI TO T true → St1 (i + 1) h' → St2 (i + 1) h' → IsTupOf2 h' s.heap.objs.size x1 x2 → h'.objs.size = s.heap.objs.size + 1 →
      (∀ c o, c ≠ z → c ≠ i1 → c ≠ i2 → s.heap.get? c = some o → h'.get? c = some o) → Q (some (.ref s.heap.objs.size)) { s with heap := h', toks := tk }) :
    wpAny (model prog w) A (pyNext (.ref z)) Q E s := by
  have hTy : s.TypeIs (.ref z) "zip" := ⟨_, hz, rfl⟩
  unfold pyNext
  exact wpAny_bind (wpAny_attempt (wpAny_callSpecial?_slot (name := Str.ofString "__next__") hTy F.slot_zip_next
    (wpAny_call_entry F.slot_zip_next hTy F.entry_zip_next
      (zipH_next_item S D1 D2 hz hT hTI st1 st2 hlt1 hlt2 fun x1 x2 h' tk a1 a2 a3 a4 a5 a6 a7 a8 => wpAny_pure (hQ x1 x2 h' tk a1 a2 a3 a4 a5 a6 a7 a8)) (F.args_zip_next_1 _))))
theorem pyNext_zipH_end {Q : Option Value → Shared → Prop} (S : ZipSep2 z TI TO i1 i2 fp1 fp2) (D1 : Draws prog w A.in1 i1 fp1 n1 P1 St1) (D2 : Draws prog w A.in1 i2 fp2 n2 P2 St2)
    (hz : IsZipHeld s.heap z TI TO T f) (hT : s.heap.get? T = some oT) (hTI : IsTupOf2 s.heap TI (.ref i1) (.ref i2)) (st1 : St1 i s.heap) (st2 : St2 i s.heap) (hle1 : i ≤ n1) (hle2 : i ≤ n2) (hend : i = n1 ∨ i = n2)
    (hQ : ∀ h' tk, (∀ c o, c ≠ z → c ≠ i1 → c ≠ i2 → s.heap.get? c = some o → h'.get? c = some o) → Q none { s with heap := h', toks := tk }) : wpAny (model prog w) A (pyNext (.ref z)) Q E s := by
  have hTy : s.TypeIs (.ref z) "zip" := ⟨_, hz, rfl⟩
  unfold pyNext
  refine wpAny_bind (wpAny_attempt (wpAny_callSpecial?_slot (name := Str.ofString "__next__") hTy F.slot_zip_next
    (wpAny_call_entry F.slot_zip_next hTy F.entry_zip_next (zipH_next_end S D1 D2 hz hT hTI st1 st2 hle1 hle2 hend fun h' tk e hk he => ?_) (F.args_zip_next_1 _))))
  obtain ⟨o, ho, hc⟩ := he
  refine wpAny_bind (wpAny_isInstance (T := "StopIteration") (b := true) ⟨o, ho, hc⟩ isSubtype_stop ?_)
  exact wpAny_pure (hQ _ _ hk)
end
/-! ### list(it): the loop with a state of one's own -/
abbrev lsO (acc : Array Value) (c : Nat) : Obj := { cls := .type "list", dict := none, data := .seq acc c, slots := #[] }
section
variable {prog : Program} {w : World} {A : Around} {I S : Addr} {n : Nat} {res : Value} {R : Result → Shared → Prop} {J : Nat → Array Value → Shared → Prop} {Fi : Array Value → Shared → Prop}
structure WalkJ (prog : Program) (w : World) (A : Around) (I S : Addr) (n : Nat) (J : Nat → Array Value → Shared → Prop) (Fi : Array Value → Shared → Prop) : Prop where
  size : ∀ i acc s, J i acc s → acc.size = i
  item : ∀ i acc s (E : Value → Shared → Prop), i < n → J i acc s → wpAny (model prog w) A (pyNext (.ref I)) (fun r s1 => ∃ v c, r = some v ∧ s1.heap.get? S = some (lsO acc c) ∧ J (i + 1) (acc.push v) { s1 with heap := s1.heap.update S (Obj.mapSeq (·.push v)) }) E s
  stop : ∀ acc s (E : Value → Shared → Prop), J n acc s → wpAny (model prog w) A (pyNext (.ref I)) (fun r s1 => r = none ∧ Fi acc s1) E s
theorem extend_loopJ (W : WalkJ prog w A.in1 I S n J Fi) (hn : n ≤ sizeLine) (hF : ∀ acc s, Fi acc s → R (.ok (.ret res)) s) :
    ∀ (k i : Nat) (s : Shared) (acc : Array Value), n - i = k → i ≤ n → J i acc s → codeAny (model prog w) A (.builtin "list.extend.loop" ⟨[.ref S, .ref I, res], []⟩) R s := by
  intro k
  induction k with
  | zero =>
    intro i s acc hk hi hj
    have hin : i = n := by omega
    subst hin
    refine codeAny_builtin F.entry_extend_loop ?_
    rw [Around.under_plainId F.plain_extend_loop _]
    show wpAny _ A.in1 (pyNext (.ref I) >>= _) _ _ s
    refine wpAny_bind (wpAny_mono (W.stop acc s _ hj) (fun r s1 ⟨er, hf⟩ => ?_) fun _ _ h => h)
    subst er
    exact wpAny_pure (hF _ _ hf)
  | succ k ih =>
    intro i s acc hk hi hj
    have hlt : i < n := by omega
    refine codeAny_builtin F.entry_extend_loop ?_
    rw [Around.under_plainId F.plain_extend_loop _]
    show wpAny _ A.in1 (pyNext (.ref I) >>= _) _ _ s
    refine wpAny_bind (wpAny_mono (W.item i acc s _ hlt hj) (fun r s1 ⟨v, c, er, hS, hj'⟩ => ?_) fun _ _ h => h)
    subst er
    have ha : acc.size = i := W.size i acc s hj
    show wpAny _ A.in1 (updateSeq S (·.push v) >>= _) _ _ _
    refine wpAny_bind ?_
    exact wpAny_updateSeq hS rfl (wpAny_pure ⟨plainId_quiet F.plain_extend_loop _, ih (i + 1) _ (acc.push v) (by omega) hlt hj'⟩)
      (by rw [ha]; omega) (by show (acc.push v).size ≤ sizeLine + 1; rw [Array.size_push, ha]; omega)
theorem nolen_zip : typeLookup (.type "zip") "__len__" = pure none := am_miss_of_fast (by decide +kernel)
theorem nohint_zip : typeLookup (.type "zip") "__length_hint__" = pure none := am_miss_of_fast (by decide +kernel)
theorem extendJ {s : Shared} {c0 : Nat} (W : WalkJ prog w A.in1 I S n J Fi) (hn : n ≤ sizeLine) (hF : ∀ acc s, Fi acc s → R (.ok (.ret res)) s) (hT : s.TypeIs (.ref I) "zip") (hSI : S ≠ I)
    (hS : s.heap.get? S = some (lsO #[] c0)) (hJ : ∀ h' c, (∀ b o, b ≠ S → s.heap.get? b = some o → h'.get? b = some o) → h'.get? S = some (lsO #[] c) → J 0 #[] { s with heap := h' }) (self : ∀ (Q : Value → Shared → Prop) (E : Value → Shared → Prop), Q (.ref I) s → wpAny (model prog w) A.in1 (pyIter (.ref I)) Q E s) :
    wpAny (model prog w) A.in1 (Builtin.List.listExtendWith (.ref S) (.ref I) res)
      (fun fin s' => match fin with | .done f => R (.ok f) s' | .again c' => c'.quiet = true ∧ codeAny (model prog w) A c' R s') (fun e s' => R (.error e) s') s := by
  unfold Builtin.List.listExtendWith
  refine wpAny_bind (wpAny_typeOf hT ?_)
  have h1 : Builtin.List.listSameRef (.ref S) (.ref I) = false := by simp [Builtin.List.listSameRef, hSI]
  have h2 : (Value.type "zip" == Value.type "list") = false := by decide
  have h3 : (Value.type "zip" == Value.type "tuple") = false := by decide
  simp only [h1, h2, h3, Bool.or_false, Bool.false_eq_true, if_false]
  refine wpAny_bind (self _ _ ?_)
  refine wpAny_bind (wpAny_holding ?_)
  unfold Builtin.List.listLengthHint
  refine wpAny_bind (wpAny_specialOf hT nolen_zip ?_)
  show wpAny _ A.in1 (specialOf (Value.ref I) (Str.ofString "__length_hint__") >>= _) _ _ _
  refine wpAny_bind (wpAny_specialOf hT nohint_zip ?_)
  refine wpAny_pure ?_
  show wpAny _ A.in1 (rule "list.extend.makes-room" >>= fun _ => Builtin.List.listTouch (.ref S) >>= fun _ =>
    again (.builtin "list.extend.loop" ⟨[.ref S, .ref I, res], []⟩)) _ _ _
  refine wpAny_bind (wpAny_rule ?_)
  refine wpAny_bind ?_
  show wpAny _ A.in1 (updateSeq S (·.push .none) >>= fun _ => updateSeq S (·.pop)) _ _ _
  refine wpAny_bind (wpAny_updateSeq hS rfl ?_)
  have hS₂ := Heap.get?_update_self (Obj.mapSeq (·.push Value.none)) hS rfl
  refine wpAny_updateSeq (hz := by seq_fits) hS₂ rfl ?_
  have hS₃ := Heap.get?_update_self (Obj.mapSeq (·.pop)) hS₂ rfl
  have oth : ∀ b o, b ≠ S → s.heap.get? b = some o → ((s.heap.update S (Obj.mapSeq (·.push Value.none))).update S (Obj.mapSeq (·.pop))).get? b = some o :=
    fun b o hb e => (Heap.get?_update_other _ _ (Ne.symm hb)).trans ((Heap.get?_update_other _ _ (Ne.symm hb)).trans e)
  exact wpAny_pure ⟨plainId_quiet F.plain_extend_loop _, extend_loopJ W hn hF n 0 _ #[] rfl (Nat.zero_le _) (hJ _ _ oth hS₃)⟩
theorem list_initJ {s : Shared} (W : WalkJ prog w A.in1 I S n J Fi) (hn : n ≤ sizeLine) (hF : ∀ acc s, Fi acc s → R (.ok (.ret .none)) s) (hT : s.TypeIs (.ref I) "zip") (hSI : S ≠ I)
    (hS : s.heap.get? S = some { cls := .type "list", data := .seq #[] }) (hJ : ∀ h' c, (∀ b o, b ≠ S → s.heap.get? b = some o → h'.get? b = some o) → h'.get? S = some (lsO #[] c) → J 0 #[] { s with heap := h' })
    (self : ∀ h' (Q : Value → Shared → Prop) (E : Value → Shared → Prop), (∀ b o, b ≠ S → s.heap.get? b = some o → h'.get? b = some o) → Q (.ref I) { s with heap := h' } → wpAny (model prog w) A.in1 (pyIter (.ref I)) Q E { s with heap := h' }) :
    wpAny (model prog w) A.in1 (Builtin.«list.__init__» ⟨[.ref S, .ref I], []⟩)
      (fun fin s' => match fin with | .done f => R (.ok f) s' | .again c' => c'.quiet = true ∧ codeAny (model prog w) A c' R s') (fun e s' => R (.error e) s') s := by
  show wpAny _ A.in1 (do let old ← Builtin.List.listItems (.ref S); Builtin.List.listUpdate (.ref S) (fun _ => #[]); letGo old.toList.reverse; Builtin.List.listExtendWith (.ref S) (.ref I) .none) _ _ s
  refine wpAny_bind ?_
  unfold Builtin.List.listItems
  refine wpAny_bind (wpAny_seqItems hS rfl (wpAny_pure ?_))
  show wpAny _ A.in1 (updateSeq S (fun _ => #[]) >>= fun _ => letGo (#[] : Array Value).toList.reverse >>= fun _ => Builtin.List.listExtendWith (.ref S) (.ref I) .none) _ _ s
  refine wpAny_bind (wpAny_updateSeq hS rfl ?_)
  have hS₂ := Heap.get?_update_self (Obj.mapSeq (fun _ => (#[] : Array Value))) hS rfl
  have oth : ∀ b o, b ≠ S → s.heap.get? b = some o → (s.heap.update S (Obj.mapSeq (fun _ => (#[] : Array Value)))).get? b = some o :=
    fun b o hb e => (Heap.get?_update_other _ _ (Ne.symm hb)).trans e
  refine wpAny_bind (wpAny_letGo ?_)
  obtain ⟨oI, hI, hc⟩ := hT
  exact extendJ (s := { s with heap := s.heap.update S (Obj.mapSeq (fun _ => (#[] : Array Value))) }) W hn hF ⟨oI, oth _ _ (Ne.symm hSI) hI, hc⟩ hSI hS₂ (fun h' c k e => hJ h' c (fun b o hb e => k b o hb (oth b o hb e)) e) (fun Q E h => self _ Q E oth h)
theorem call_listJ {s : Shared} {Q : Value → Shared → Prop} {E : Value → Shared → Prop} (W : WalkJ prog w A.in1.in1 I s.heap.objs.size n J Fi) (hn : n ≤ sizeLine) (hF : ∀ acc s', Fi acc s' → Q (.ref s.heap.objs.size) s') (hT : s.TypeIs (.ref I) "zip")
    (hJ : ∀ h' c, (∀ b o, s.heap.get? b = some o → h'.get? b = some o) → h'.get? s.heap.objs.size = some (lsO #[] c) → J 0 #[] { s with heap := h' })
    (self : ∀ h' (Q : Value → Shared → Prop) (E : Value → Shared → Prop), (∀ b o, s.heap.get? b = some o → h'.get? b = some o) → Q (.ref I) { s with heap := h' } → wpAny (model prog w) A.in1.in1 (pyIter (.ref I)) Q E { s with heap := h' }) :
    wpAny (model prog w) A (call (.type "list") [.ref I]) Q E s := by
  obtain ⟨oI, hI, hcI⟩ := hT
  have hne : s.heap.objs.size ≠ I := Nat.ne_of_gt (Heap.lt_size hI)
  refine callType_codes (Q₁ := fun obj s₁ => obj = .ref s.heap.objs.size ∧ s₁ = { s with heap := s.heap.push { cls := .type "list", data := .seq #[] } }) F.called_list (F.typeCall_list_1 _) F.entry_list_init
    (code_list_new _ ⟨rfl, rfl⟩) fun obj s₁ h₁ => ?_
  obtain ⟨rfl, rfl⟩ := h₁
  have hS : (s.heap.push { cls := .type "list", data := .seq #[] }).get? s.heap.objs.size = some { cls := .type "list", data := .seq #[] } := Heap.get?_push_size _ rfl
  have old : ∀ h' : Heap, (∀ b o, b ≠ s.heap.objs.size → (s.heap.push { cls := .type "list", data := .seq #[] }).get? b = some o → h'.get? b = some o) → ∀ b o, s.heap.get? b = some o → h'.get? b = some o :=
    fun h' k b o e => k b o (Nat.ne_of_lt (Heap.lt_size e)) (Heap.get?_push_of_some _ e)
  refine ⟨⟨_, hS, rfl⟩, F.args_list_init_2 _ _, list_initJ W hn (fun acc s' hf => ⟨rfl, hF acc s' hf⟩) ⟨oI, Heap.get?_push_of_some _ hI, hcI⟩ hne hS (fun h' c k e => hJ h' c (old h' k) e) (fun h' Q E k q => self h' Q E (old h' k) q)⟩
end
end PySem
set_option maxHeartbeats 4000000
namespace DL
open PySem PySem.Spec PyProof.Rows L2 RZ
/-! ### list(zip(a, b)) -/
/-- an object that is there and of nobody is taken up -/
theorem inv_reg {X : Cx} {pins : List (Addr × Obj)} {σ : L2.St} {H : Hp} {s : Shared} {T : Addr} {ob : HO} (I : Inv X pins σ H s) (hf : FpOk X pins H T) (hT : X.s_0.heap.objs.size ≤ T) (new : ObjOk X.prog X.w (upd H T ob) s.heap T ob) : Inv X pins σ (upd H T ob) s := by
  obtain ⟨f0, f1, f2, f3, f4, f5⟩ := hf
  refine ⟨I.ok, I.os, I.bare, ⟨I.base.keep, I.base.slot, fun b o e n hx => ?_, I.base.there, fun b xs e => ?_, fun b o u e => ?_, fun b ps e => ?_⟩, I.loc, I.cell, ?_, fun x c e => ?_, fun p hp => ?_, fun b u e => ?_, I.len⟩
  · rw [upd_ne (Nat.ne_of_lt (Nat.lt_of_lt_of_le (Heap.lt_size e) hT))]; exact I.base.free b o e n hx
  · have q := I.base.tups b xs e
    rw [upd_ne (ne_of_none q f0)]; exact q
  · have q := I.base.frzs b o u e
    rw [upd_ne (ne_of_none q f0)]; exact q
  · obtain ⟨m, q⟩ := I.base.tbls b ps e
    exact ⟨m, by rw [upd_ne (ne_of_none q f0)]; exact q⟩
  · rw [upd_ne (Ne.symm f1)]; exact I.free
  · rw [upd_ne (f4 x c e)]; exact I.freeC x c e
  · obtain ⟨q1, q2, q3⟩ := I.pin p hp
    exact ⟨q1, by rw [upd_ne (f5 p hp)]; exact q2, q3⟩
  · by_cases hb : b = T
    · subst hb
      rw [upd_same] at e
      cases e
      exact new
    · rw [upd_ne hb] at e
      exact (I.hok b u e).stay (fun c v hc q => q) (fun c q => by rw [upd_ne (ne_of_none q f0)]; exact q) fun c xs q => by rw [upd_ne (ne_of_none q f0)]; exact q
def zst (S z TI TO i1 i2 : Addr) (i : Nat) (h : Heap) : Prop :=
  (i = 0 ∧ IsZip h z TI TO .none ∧ ∃ x y, IsTupOf2 h TO x y) ∨ ∃ T f oT, IsZipHeld h z TI TO T f ∧ h.get? T = some oT ∧ T ≠ S ∧ T ≠ z ∧ T ≠ i1 ∧ T ≠ i2
section
variable (X : Cx) (pins : List (Addr × Obj)) (σ : L2.St) (H1 : Hp) (M1 : Mem) (ka kb : Bool) (a b : Addr) (ds es : List D) (S z TI TO i1 i2 : Addr)
def zJ (i : Nat) (acc : Array Value) (s : Shared) : Prop :=
  ∃ H' vs, Inv X pins σ H' s ∧ Gw H1 M1 H' M1 ∧ MOk X.K H' M1 ∧ Rs X.K H' M1 ((zpD ds es).take i) vs ∧ Vals vs acc.toList ∧ i ≤ (zpD ds es).length ∧ (∃ c, s.heap.get? S = some (lsO acc c)) ∧
    zst S z TI TO i1 i2 i s.heap ∧ IsTupOf2 s.heap TI (.ref i1) (.ref i2) ∧ IterB ka s.heap i1 a i ∧ IterB kb s.heap i2 b i ∧ ∀ c ∈ [S, z, TI, TO, i1, i2], FpOk X pins H' c ∧ c < s.heap.objs.size
end
section
variable {X : Cx} {pins : List (Addr × Obj)} {σ : L2.St} {H1 : Hp} {M1 : Mem} {ka kb : Bool} {a b : Addr} {ds es : List D} {S z TI TO i1 i2 : Addr}
theorem iterB_move {k : Bool} {h h' : Heap} {it l : Addr} {i : Nat} (x : IterB k h it l i) (e : ∀ o, h.get? it = some o → h'.get? it = some o) : IterB k h' it l i := by
  obtain ⟨o, a, d, c⟩ := iterB_obj x
  exact iterB_of (e _ a) d c
theorem zj_step {H' : Hp} {vs : List V} {i : Nat} {acc : Array Value} {s : Shared} {c : Nat} {h' : Heap} {tk : Nat} {x1 x2 : Value} {v1 v2 : V} (Sp : ZipSep2 z TI TO i1 i2 [i1, a] [i2, b]) (nS : S ≠ z ∧ S ≠ TI ∧ S ≠ TO ∧ S ≠ i1 ∧ S ≠ i2)
    (I : Inv X pins σ H' s) (g : Gw H1 M1 H' M1) (mo : MOk X.K H' M1) (rs : Rs X.K H' M1 ((zpD ds es).take i) vs) (rv : Vals vs acc.toList) (hi : i < (zpD ds es).length) (hS : s.heap.get? S = some (lsO acc c)) (hTI : IsTupOf2 s.heap TI (.ref i1) (.ref i2))
    (hf : ∀ c ∈ [S, z, TI, TO, i1, i2], FpOk X pins H' c ∧ c < s.heap.objs.size) (hsz : h'.objs.size = s.heap.objs.size + 1) (r1 : RelV v1 x1) (r2 : RelV v2 x2) (rd : ∃ d1 d2, ds[i]? = some d1 ∧ es[i]? = some d2 ∧ Rv X.K H' M1 d1 v1 ∧ Rv X.K H' M1 d2 v2)
    (hz : ∃ T f oT, IsZipHeld h' z TI TO T f ∧ h'.get? T = some oT ∧ T ≠ S ∧ T ≠ z ∧ T ≠ i1 ∧ T ≠ i2) (t1 : IterB ka h' i1 a (i + 1)) (t2 : IterB kb h' i2 b (i + 1)) (hT : IsTupOf2 h' s.heap.objs.size x1 x2)
    (hk : ∀ c o, c ≠ z → c ≠ TO → c ≠ i1 → c ≠ i2 → s.heap.get? c = some o → h'.get? c = some o) :
    h'.get? S = some (lsO acc c) ∧ zJ X pins σ H1 M1 ka kb a b ds es S z TI TO i1 i2 (i + 1) (acc.push (.ref s.heap.objs.size)) { s with heap := h'.update S (Obj.mapSeq (·.push (.ref s.heap.objs.size))), toks := tk } := by
  obtain ⟨n1, n2, n3, n4, n5⟩ := nS
  obtain ⟨d1, d2, e1, e2, rd1, rd2⟩ := rd
  have hS' : h'.get? S = some (lsO acc c) := hk S _ n1 n3 n4 n5 hS
  have hSl : S < s.heap.objs.size := Heap.lt_size hS
  have fr : H' s.heap.objs.size = none := I.hok.fresh (Nat.le_refl _)
  have new : ObjOk X.prog X.w (upd H' s.heap.objs.size (.tup [v1, v2])) h' s.heap.objs.size (.tup [v1, v2]) :=
    ⟨by show 2 ≤ sizeLine; decide, [x1, x2], .cons r1 (.cons r2 .nil), ⟨_, hT, rfl, _, rfl⟩⟩
  have sub : ∀ c ∈ [z, TO, i1, i2], c ∈ [S, z, TI, TO, i1, i2] := fun c hc => by
    rcases (by simpa using hc : c = z ∨ c = TO ∨ c = i1 ∨ c = i2) with q | q | q | q <;> simp [q]
  have I1 : Inv X pins σ (upd H' s.heap.objs.size (.tup [v1, v2])) { s with heap := h', toks := tk } :=
    I.turnedNew (t' := tk) (ch := [z, TO, i1, i2]) (fun c o hb q => hk c o (fun w => hb (by simp [w])) (fun w => hb (by simp [w])) (fun w => hb (by simp [w])) (fun w => hb (by simp [w])) q) (fun c hc => (hf c (sub c hc)).1) (Nat.le_refl _) new
  have old : ∀ c ∈ [S, z, TI, TO, i1, i2], FpOk X pins (upd H' s.heap.objs.size (.tup [v1, v2])) c := fun c hc => by
    obtain ⟨⟨q0, q1⟩, lt⟩ := hf c hc
    exact ⟨by rw [upd_ne (Nat.ne_of_lt lt)]; exact q0, q1⟩
  have keepS : ∀ (c : Addr) (o : Obj), c ≠ S → h'.get? c = some o → (h'.update S (Obj.mapSeq (·.push (.ref s.heap.objs.size)))).get? c = some o := fun c o w q => (Heap.get?_update_other _ _ (Ne.symm w)).trans q
  have I2 : Inv X pins σ (upd H' s.heap.objs.size (.tup [v1, v2])) { s with heap := h'.update S (Obj.mapSeq (·.push (.ref s.heap.objs.size))), toks := tk } :=
    Inv.turnedL (s := { s with heap := h', toks := tk }) (t' := tk) (ch := [S]) I1 (fun c o hb q => keepS c o (fun w => hb (by simp [w])) q) (fun c hc => by rw [List.mem_singleton.mp hc]; exact old S (by simp))
  have gn : Gw H' M1 (upd H' s.heap.objs.size (.tup [v1, v2])) M1 := gw_new fr
  refine ⟨hS', _, vs ++ [.ref s.heap.objs.size], I2, g.trans gn, mok_new mo fr, ?_, ?_, hi, ⟨_, (Heap.get?_update_self _ hS' rfl)⟩, ?_, keepS _ _ (Ne.symm n2) ?_, iterB_move t1 fun o q => keepS _ _ (Ne.symm n4) q, iterB_move t2 fun o q => keepS _ _ (Ne.symm n5) q, fun c hc => ⟨old c hc, ?_⟩⟩
  · rw [List.take_succ_eq_append_getElem hi]
    refine Rs.append (Rs.grow gn _ _ rs) (Rs.cons ?_ Rs.nil)
    have e : (zpD ds es)[i]? = some (.tup [d1, d2]) := by rw [zpD_get, e1, e2]
    have e3 : (zpD ds es)[i] = .tup [d1, d2] := by
      rw [List.getElem?_eq_getElem hi] at e; exact Option.some.inj e
    rw [e3]
    exact new_tup mo fr (Rs.cons rd1 (Rs.cons rd2 Rs.nil))
  · rw [Array.toList_push]
    exact Vals.append rv (.cons rfl .nil)
  · obtain ⟨T, f, oT, q1, q2, q3, q4, q5, q6⟩ := hz
    exact .inr ⟨T, f, oT, keepS _ _ (Ne.symm n1) q1, keepS _ _ q3 q2, q3, q4, q5, q6⟩
  · exact hk _ _ Sp.TIz Sp.TITO Sp.TIi1 Sp.TIi2 hTI
  · show c < (h'.update S _).objs.size
    rw [Heap.size_update, hsz]
    exact Nat.lt_succ_of_lt (hf c hc).2
theorem zj_walk {fa : ∀ H' M', Gw H1 M1 H' M' → ∃ xs, SqB ka X.K H' a xs ∧ Rs X.K H' M' ds xs} {fb : ∀ H' M', Gw H1 M1 H' M' → ∃ ys, SqB kb X.K H' b ys ∧ Rs X.K H' M' es ys} {A : Around} (hh : A.in1.handled = none)
    (Sp : ZipSep2 z TI TO i1 i2 [i1, a] [i2, b]) (na : a ≠ i1) (nb : b ≠ i2) (nS : S ≠ z ∧ S ≠ TI ∧ S ≠ TO ∧ S ≠ i1 ∧ S ≠ i2) :
    WalkJ X.prog X.w A z S (zpD ds es).length (zJ X pins σ H1 M1 ka kb a b ds es S z TI TO i1 i2) (fun acc s => ∃ H' vs, Inv X pins σ H' s ∧ Gw H1 M1 H' M1 ∧ MOk X.K H' M1 ∧ Rs X.K H' M1 (zpD ds es) vs ∧ Vals vs acc.toList ∧ (∃ c, s.heap.get? S = some (lsO acc c)) ∧ FpOk X pins H' S) where
  size := fun i acc s ⟨H', vs, I, g, mo, rs, rv, hi, _⟩ => by
    have e := rv.length
    rw [vlen rs, List.length_take, Nat.min_eq_left hi] at e
    simpa using e.symm
  item := by
    intro i acc s E hi ⟨H', vs, I, g, mo, rs, rv, hi', ⟨c, hS⟩, hz, hTI, t1, t2, hf⟩
    obtain ⟨xs, hqx, rx⟩ := fa H' M1 g
    obtain ⟨ys, hqy, ry⟩ := fb H' M1 g
    obtain ⟨its, rvx, p, _⟩ := sqB_at I hqx
    obtain ⟨its2, rvy, p2, _⟩ := sqB_at I hqy
    have l1 := vlen rx
    have l2 := vlen ry
    have l3 := rvx.length
    have l4 := rvy.length
    rw [zpD_len] at hi
    have k1 : i < ds.length := by omega
    have k2 : i < es.length := by omega
    have m1 : i < its.toArray.size := by simp; omega
    have m2 : i < its2.toArray.size := by simp; omega
    obtain ⟨v1, e1, rd1⟩ := Rs.get rx (List.getElem?_eq_getElem k1)
    obtain ⟨v2, e2, rd2⟩ := Rs.get ry (List.getElem?_eq_getElem k2)
    obtain ⟨u1, hu1, ru1⟩ := rvx.get e1
    obtain ⟨u2, hu2, ru2⟩ := rvy.get e2
    have rd : ∃ d1 d2, ds[i]? = some d1 ∧ es[i]? = some d2 ∧ Rv X.K H' M1 d1 v1 ∧ Rv X.K H' M1 d2 v2 := ⟨_, _, List.getElem?_eq_getElem k1, List.getElem?_eq_getElem k2, rd1, rd2⟩
    have lz : ∀ c ∈ [S, z, TI, TO, i1, i2], s.heap.objs.size ≠ c := fun c hc => Nat.ne_of_gt (hf c hc).2
    have hi2 : i < (zpD ds es).length := by rw [zpD_len]; exact hi
    rcases hz with ⟨_, hz, x0, y0, hTO⟩ | ⟨T, f, oT, hz, hT, q3, q4, q5, q6⟩
    · refine wpAny_pyNext_zipD2_item Sp (dl_draws ka hh i1 a na its.toArray) (dl_draws kb hh i2 b nb its2.toArray) hz hTI hTO ⟨t1, p⟩ ⟨t2, p2⟩ m1 m2 fun x1 x2 h' tk P1 P2 z' TO' st1 st2 hT hsz hk => ?_
      have ex1 : x1 = u1 := by
        have q : its.toArray[i]? = some x1 := P1
        rw [show its.toArray[i]? = its[i]? by simp, hu1] at q
        exact (Option.some.inj q).symm
      have ex2 : x2 = u2 := by
        have q : its2.toArray[i]? = some x2 := P2
        rw [show its2.toArray[i]? = its2[i]? by simp, hu2] at q
        exact (Option.some.inj q).symm
      subst ex1 ex2
      exact ⟨_, c, rfl, zj_step Sp nS I g mo rs rv hi2 hS hTI hf hsz ru1 ru2 rd ⟨_, false, _, z', hT, lz S (by simp), lz z (by simp), lz i1 (by simp), lz i2 (by simp)⟩ st1.1 st2.1 hT hk⟩
    · refine pyNext_zipH_item Sp (dl_draws ka hh i1 a na its.toArray) (dl_draws kb hh i2 b nb its2.toArray) hz hT hTI ⟨t1, p⟩ ⟨t2, p2⟩ m1 m2 fun x1 x2 h' tk P1 P2 z' st1 st2 hT' hsz hk => ?_
      have ex1 : x1 = u1 := by
        have q : its.toArray[i]? = some x1 := P1
        rw [show its.toArray[i]? = its[i]? by simp, hu1] at q
        exact (Option.some.inj q).symm
      have ex2 : x2 = u2 := by
        have q : its2.toArray[i]? = some x2 := P2
        rw [show its2.toArray[i]? = its2[i]? by simp, hu2] at q
        exact (Option.some.inj q).symm
      subst ex1 ex2
      exact ⟨_, c, rfl, zj_step Sp nS I g mo rs rv hi2 hS hTI hf hsz ru1 ru2 rd ⟨T, true, oT, z', hk T oT q4 q5 q6 hT, q3, q4, q5, q6⟩ st1.1 st2.1 hT' fun c o c1 _ c3 c4 q => hk c o c1 c3 c4 q⟩
  stop := by
    intro acc s E ⟨H', vs, I, g, mo, rs, rv, hi', ⟨c, hS⟩, hz, hTI, t1, t2, hf⟩
    obtain ⟨xs, hqx, rx⟩ := fa H' M1 g
    obtain ⟨ys, hqy, ry⟩ := fb H' M1 g
    obtain ⟨its, rvx, p, _⟩ := sqB_at I hqx
    obtain ⟨its2, rvy, p2, _⟩ := sqB_at I hqy
    have l1 := vlen rx
    have l2 := vlen ry
    have l3 := rvx.length
    have l4 := rvy.length
    have zl := zpD_len ds es
    have m1 : (zpD ds es).length ≤ its.toArray.size := by simp; omega
    have m2 : (zpD ds es).length ≤ its2.toArray.size := by simp; omega
    have m3 : (zpD ds es).length = its.toArray.size ∨ (zpD ds es).length = its2.toArray.size := by simp; omega
    rw [List.take_length] at rs
    have fin : ∀ h' tk, (∀ c o, c ≠ z → c ≠ TO → c ≠ i1 → c ≠ i2 → s.heap.get? c = some o → h'.get? c = some o) → ((none : Option Value) = none ∧ ∃ H' vs, Inv X pins σ H' { s with heap := h', toks := tk } ∧ Gw H1 M1 H' M1 ∧ MOk X.K H' M1 ∧ Rs X.K H' M1 (zpD ds es) vs ∧ Vals vs acc.toList ∧ (∃ c, h'.get? S = some (lsO acc c)) ∧ FpOk X pins H' S) := fun h' tk hk =>
      ⟨rfl, H', vs, I.turnedL (t' := tk) (ch := [z, TO, i1, i2]) (fun c o hb q => hk c o (fun w => hb (by simp [w])) (fun w => hb (by simp [w])) (fun w => hb (by simp [w])) (fun w => hb (by simp [w])) q)
        (fun c hc => (hf c (by rcases (by simpa using hc : c = z ∨ c = TO ∨ c = i1 ∨ c = i2) with q | q | q | q <;> simp [q])).1), g, mo, rs, rv, ⟨c, hk S _ nS.1 nS.2.2.1 nS.2.2.2.1 nS.2.2.2.2 hS⟩, (hf S (by simp)).1⟩
    rcases hz with ⟨_, hz, x0, y0, hTO⟩ | ⟨T, f, oT, hz, hT, q3, q4, q5, q6⟩
    · exact wpAny_pyNext_zipD2_end Sp (dl_draws ka hh i1 a na its.toArray) (dl_draws kb hh i2 b nb its2.toArray) hz hTI hTO ⟨t1, p⟩ ⟨t2, p2⟩ m1 m2 m3 fun h' tk hk => fin h' tk hk
    · exact pyNext_zipH_end Sp (dl_draws ka hh i1 a na its.toArray) (dl_draws kb hh i2 b nb its2.toArray) hz hT hTI ⟨t1, p⟩ ⟨t2, p2⟩ m1 m2 m3 fun h' tk hk => fin h' tk fun c o c1 _ c3 c4 q => hk c o c1 c3 c4 q
end
end DL
set_option maxHeartbeats 4000000
namespace DL
open PySem PySem.Spec PyProof.Rows L2 RZ
theorem sqB_size {X : Cx} {pins : List (Addr × Obj)} {σ : L2.St} {H : Hp} {s : Shared} {k : Bool} {a : Addr} {xs : List V} (I : Inv X pins σ H s) (h : SqB k X.K H a xs) : xs.length ≤ sizeLine := by
  cases k with
  | true =>
    obtain ⟨its, rv, p, hz⟩ := I.tuple h
    have := rv.length
    omega
  | false =>
    obtain ⟨its, rv, p, hz⟩ := I.list h
    have := rv.length
    omega
def dLstZip (te te2 : TED) : TED := fun Xd s M Q => dCons te (dCons te2 dNil) Xd s M (zipMK fun l _ M1 => Q (.lst l) M1)
theorem de_lstZip {X : Cx} {E : XK} {e e2 : Expr} {te te2 : TED} {p pos p' pos' : Pos} (hc : X.calm = true) (hg : Gl X "list") (hm : X.mg "list" = none) (hgz : Gl X "zip") (hmz : X.mg "zip" = none) (he : DE X E e te) (he2 : DE X E e2 te2)
    (hs2 : starEach [e2] X.env = (false, eval e2 X.env) :: starEach [] X.env := by rfl) (hs : starEach [e, e2] X.env = (false, eval e X.env) :: starEach [e2] X.env := by rfl) (hpl : (backTo pos (starEach [e2] X.env)).any (·.1) = false := by rfl)
    (hl : starEach [.Call (.Name "zip" p) [e, e2] [] pos] X.env = (false, eval (.Call (.Name "zip" p) [e, e2] [] pos) X.env) :: starEach [] X.env := by rfl) :
    DE X E (.Call (.Name "list" p') [.Call (.Name "zip" p) [e, e2] [] pos] [] pos') (dLstZip te te2) := by
  refine ⟨⟨fun pins s σ H Q I ⟨sd, M, Qd, Xd, S, xt, t, q⟩ => ?_⟩⟩
  have inner : wpAny (model X.prog X.w) X.A (eval (.Call (.Name "zip" p) [e, e2] [] pos) X.env) (fun u s2 => ∃ (H1 : Hp) (M1 : Mem) (ds es : List D) (ka kb : Bool) (a b n0 : Addr), u = .ref (n0 + 4) ∧ Inv X pins σ H1 s2 ∧
      IsZip s2.heap (n0 + 4) (n0 + 2) (n0 + 3) .none ∧ IsTupOf2 s2.heap (n0 + 2) (.ref n0) (.ref (n0 + 1)) ∧ IsTupOf2 s2.heap (n0 + 3) .none .none ∧ IterB ka s2.heap n0 a 0 ∧ IterB kb s2.heap (n0 + 1) b 0 ∧ a < n0 ∧ b < n0 ∧
      (∀ c, c ∈ [n0 + 4, n0 + 2, n0 + 3, n0, n0 + 1] → FpOk X pins H1 c) ∧ (∀ H' M', Gw H1 M1 H' M' → ∃ xs, SqB ka X.K H' a xs ∧ Rs X.K H' M' ds xs) ∧ (∀ H' M', Gw H1 M1 H' M' → ∃ ys, SqB kb X.K H' b ys ∧ Rs X.K H' M' es ys) ∧
      Gw H M H1 M1 ∧ MOk X.K H1 M1 ∧ Qd (.lst (zpD ds es)) M1) X.xe s := by
    refine Call_ (ld_blt I hgz hmz PyProof.Rows.boot_zip (PyProof.Rows.callWith_type1 (thn ((dn_cons he (dn_cons he2 dn_nil hs2) hs).ok.run pos pins s σ H _ I (useN (Q := fun vs H1 => ∃ l M1, Gw H M H1 M1 ∧ StOk X.K σ H1 sd M1 ∧ Rs X.K H1 M1 l vs ∧ zipMK (fun l _ M1 => Qd (.lst l) M1) l M1) S xt t
      fun ds vs M1 H1 hl g1 S1 x1 r1 t1 => ⟨ds, M1, g1, S1, r1, t1⟩)) fun us s1 ⟨vs, H1, I1, rr, l, M1, g1, S1, r1, t1⟩ => ?_) hs hpl))
    unfold zipMK at t1
    split at t1
    · rename_i d d2
      obtain ⟨ds, es, h1, h2, t1⟩ := t1
      obtain ⟨v, v2, hv, rd, rd2⟩ := rs2 r1
      subst hv
      obtain ⟨ka, a, rfl, fa⟩ := sqdO_use rd h1
      obtain ⟨kb, b, rfl, fb⟩ := sqdO_use rd2 h2
      obtain ⟨u, u2, rfl, ru, ru2⟩ := vals2 rr
      obtain rfl : u = .ref a := ru
      obtain rfl : u2 = .ref b := ru2
      obtain ⟨xs, hqx, _⟩ := fa H1 M1 Gw.refl
      obtain ⟨ys, hqy, _⟩ := fb H1 M1 Gw.refl
      have fresh5 : ∀ c, c ∈ [s1.heap.objs.size + 4, s1.heap.objs.size + 2, s1.heap.objs.size + 3, s1.heap.objs.size, s1.heap.objs.size + 1] → FpOk X pins H1 c := fun c hcm => by
        have e' : c = s1.heap.objs.size + 4 ∨ c = s1.heap.objs.size + 2 ∨ c = s1.heap.objs.size + 3 ∨ c = s1.heap.objs.size ∨ c = s1.heap.objs.size + 1 := by simpa using hcm
        have hle : s1.heap.objs.size ≤ c := by
          rcases e' with z | z | z | z | z <;> rw [z]
          · exact Nat.le_add_right _ _
          · exact Nat.le_add_right _ _
          · exact Nat.le_add_right _ _
          · exact Nat.le_refl _
          · exact Nat.le_add_right _ _
        exact I1.fpOk hle (I1.hok.fresh hle)
      obtain ⟨its, rv, p1, _⟩ := sqB_at I1 hqx
      obtain ⟨its2, rv2, p2, _⟩ := sqB_at I1 hqy
      obtain ⟨oa, ea⟩ := seqB_obj p1
      obtain ⟨ob, eb⟩ := seqB_obj p2
      refine call_zipM p1 p2 fun h' hz hTI hTO h1 h2 hsz hk => ?_
      exact ⟨H1, M1, ds, es, ka, kb, a, b, s1.heap.objs.size, rfl, I1.kept (t' := s1.toks) hk, hz, hTI, hTO, h1, h2, Heap.lt_size ea, Heap.lt_size eb, fresh5, fa, fb, g1, S1.mem, t1⟩
    · exact t1.elim
  refine Call_ (ld_blt I hg hm boot_list (PyProof.Rows.callWith_type1 (args_cons (thn inner fun u s2 ⟨H1, M1, ds, es, ka, kb, a, b, n0, eu, I2, hz, hTI, hTO, t1, t2, la, lb, fr, fa, fb, g1, m1, q1⟩ => args_nil ?_) hl) hl))
  subst eu
  obtain ⟨xs, hqx, rx⟩ := fa H1 M1 Gw.refl
  have hn : (zpD ds es).length ≤ sizeLine := by
    have a1 := sqB_size I2 hqx
    have a2 := vlen rx
    rw [zpD_len]
    omega
  have old : ∀ c, c ∈ [n0 + 4, n0 + 2, n0 + 3, n0, n0 + 1] → c < s2.heap.objs.size := fun c hcm => by
    have lz := Heap.lt_size hz
    have e' : c = n0 + 4 ∨ c = n0 + 2 ∨ c = n0 + 3 ∨ c = n0 ∨ c = n0 + 1 := by simpa using hcm
    rcases e' with z | z | z | z | z <;> rw [z]
    · exact lz
    · exact Nat.lt_trans (Nat.add_lt_add_left (by decide) _) lz
    · exact Nat.lt_trans (Nat.add_lt_add_left (by decide) _) lz
    · exact Nat.lt_of_le_of_lt (Nat.le_add_right _ _) lz
    · exact Nat.lt_trans (Nat.add_lt_add_left (by decide) _) lz
  have nS : s2.heap.objs.size ≠ n0 + 4 ∧ s2.heap.objs.size ≠ n0 + 2 ∧ s2.heap.objs.size ≠ n0 + 3 ∧ s2.heap.objs.size ≠ n0 ∧ s2.heap.objs.size ≠ n0 + 1 := ⟨Nat.ne_of_gt (old _ (by simp)), Nat.ne_of_gt (old _ (by simp)), Nat.ne_of_gt (old _ (by simp)), Nat.ne_of_gt (old _ (by simp)), Nat.ne_of_gt (old _ (by simp))⟩
  refine call_listJ (zj_walk (X := X) (pins := pins) (σ := σ) (fa := fa) (fb := fb) (A := X.A.in1.in1) (show X.A.in1.handled = none from I.ok.hd hc) (zsep n0 a b la lb) (Nat.ne_of_lt la) (Nat.ne_of_lt (Nat.lt_succ_of_lt lb)) nS) hn (fun acc s' ⟨H', vs, I', g', m', rs', rv', ⟨c, hS⟩, fS⟩ => ?_) ⟨_, hz, rfl⟩ (fun h' c hk hS => ?_) (fun h' Q E hk h => wpAny_pyIter_zip (hk _ _ hz) h)
  · have new : ObjOk X.prog X.w (upd H' s2.heap.objs.size (.lst vs)) s'.heap s2.heap.objs.size (.lst vs) := by
      refine ⟨?_, acc.toList, c, rv', ?_⟩
      · rw [vlen rs']; exact hn
      · rw [Array.toArray_toList]; exact hS
    exact ⟨.ref s2.heap.objs.size, _, inv_reg I' fS I2.sz new, rfl, q _ _ ⟨.lst (zpD ds es), M1, (g1.trans g').trans (gw_new fS.1), mok_new m' fS.1, new_lst m' fS.1 rs', q1⟩⟩
  · refine ⟨H1, [], I2.kept (t' := s2.toks) hk, Gw.refl, m1, by simpa using Rs.nil, .nil, Nat.zero_le _, ⟨c, hS⟩, .inl ⟨rfl, hk _ _ hz, _, _, hk _ _ hTO⟩, hk _ _ hTI, iterB_move t1 fun o w => hk _ _ w, iterB_move t2 fun o w => hk _ _ w, fun d hd => ?_⟩
    have e' : d = s2.heap.objs.size ∨ d ∈ [n0 + 4, n0 + 2, n0 + 3, n0, n0 + 1] := by
      rcases List.mem_cons.mp hd with w | w
      · exact .inl w
      · exact .inr (by simpa using w)
    have l5 : s2.heap.objs.size < h'.objs.size := Heap.lt_size hS
    rcases e' with w | w
    · rw [w]; exact ⟨I2.fpOk (Nat.le_refl _) (I2.hok.fresh (Nat.le_refl _)), l5⟩
    · exact ⟨fr d w, Nat.lt_trans (old d w) l5⟩
end DL
set_option maxHeartbeats 4000000
namespace DL
open PySem PySem.Spec PyProof.Rows L2 PySem.W
/-! ### sorted(xs): numbers, texts, tuples of these; reversed(xs) walked -/
section
variable {X : Cx} {pins : List (Addr × Obj)} {σ : L2.St} {H : Hp} {M : Mem} {s : Shared}
/-- the items of a list that is not changed, or of one that we own -/
def lsmO (M : Mem) : D → Option (List D)
  | .lst ds => some ds
  | .fzn ds => some ds
  | .ref a => match M a with
    | some (.lst ds) => some ds
    | _ => none
  | _ => none
theorem lsmO_use {d : D} {v : V} {ds : List D} (mo : MOk X.K H M) (r : Rv X.K H M d v) (e : lsmO M d = some ds) : ∃ p xs, v = .ref p ∧ SqL X.K H p xs ∧ Rs X.K H M ds xs := by
  cases d with
  | lst es => cases e; obtain ⟨p, xs, h, hp, hm, sp⟩ := r; exact ⟨p, xs, h, SqL.of hp, sp⟩
  | fzn es => cases e; obtain ⟨p, xs, h, hp, sp⟩ := r; exact ⟨p, xs, h, hp.sq, sp⟩
  | ref a =>
    have hv : v = .ref a := r
    subst hv
    have e : (match M a with | some (.lst ds) => some ds | _ => none) = some ds := e
    cases q : M a with
    | none => rw [q] at e; cases e
    | some o =>
      rw [q] at e
      cases o with
      | lst es =>
        cases e
        obtain ⟨xs, h1, h2⟩ := mo a _ q
        exact ⟨a, xs, rfl, SqL.of h1, h2⟩
      | dct ks es => cases e
      | ins C ns es => cases e
      | gen φ es => cases e
      | tab q => cases e
  | _ => cases e
/-! reversed(xs) walked -/
def revIK (R : List D → Option Addr → Mem → Prop) : QD := fun d M => ∃ ds, sqdO d = some ds ∧ R ds.reverse none M
def iRevSD (te : TED) : TID := fun Xd s M R => te Xd s M (revIK R)
end
/-! range(a, b) as a value -/
def rg2K (x : D) (Q : Int → Int → Mem → Prop) : QD := fun y M => match x, y with
  | .int i, .int j => Q i j M
  | _, _ => False
def rg2 (ta tb : TED) : XD → SD → Mem → (Int → Int → Mem → Prop) → Prop := fun Xd s M Q => ta Xd s M fun x M1 => tb Xd s M1 (rg2K x Q)
end DL
set_option maxHeartbeats 2000000
namespace DL
open PySem PySem.Spec PyProof.Rows L2
/-! ### sorted(xs, reverse=True), whole numbers -/
def srtRK (Q : QD) : QD := fun d M => ∃ is : List Int, lsmO M d = some (is.map D.int) ∧ is.length < 64 ∧ ∀ is' : List Int, is'.Perm is → is'.Pairwise (· ≥ ·) → Q (.lst (is'.map D.int)) M
def dSrtR (te : TED) : TED := fun Xd s M Q => te Xd s M (srtRK Q)
theorem ints_are {K : Fg} {H : Hp} {M : Mem} : ∀ {is : List Int} {xs : List V} {us : List Value}, Rs K H M (is.map D.int) xs → Vals xs us → IntsAre us is
  | [], xs, us, r, rv => by
    obtain rfl : xs = [] := List.eq_nil_of_length_eq_zero (by have := vlen r; simpa using this)
    cases rv
    exact .nil
  | i :: is, xs, us, r, rv => by
    obtain ⟨v, r', e, h1, h2⟩ := r
    subst e
    have ev : v = .int i := h1
    subst ev
    cases rv with
    | cons r1 r2 => 
      obtain ⟨t, rfl⟩ : ∃ t, _ = Value.int i t := r1
      exact .cons _ _ (ints_are h2 r2)
theorem vals_of_ints : ∀ {is : List Int} {us : List Value}, IntsAre us is → Vals (is.map V.int) us
  | [], _, .nil => .nil
  | _ :: _, _, .cons _ _ t => .cons ⟨_, rfl⟩ (vals_of_ints t)
theorem de_srtR {X : Cx} {E : XK} {e : Expr} {te : TED} {p kp cp pos : Pos} {jx} (hg : Gl X "sorted") (hm : X.mg "sorted" = none) (he : DE X E e te) (hs : starEach [e] X.env = [(false, eval e X.env)] := by rfl) :
    DE X E (.Call (.Name "sorted" p) [e] [⟨some "reverse", .Constant (.bool true) jx cp, kp⟩] pos) (dSrtR te) := by
  refine ⟨⟨fun pins s σ H Q I ⟨sd, M, Qd, Xd, S, xt, t, q⟩ => ?_⟩⟩
  refine wpAny_Call_Name_kw (ld_blt I hg hm (u := .builtin "sorted") rfl ?_)
  refine callWith_kw ?_ (by rw [hs]; rfl) (by rw [hs]; rfl) (by rfl) (by rfl)
  rw [hs]
  show wpAny _ _ (spliced ((false, eval e X.env) :: [])) _ _ s
  refine Calls.spliced_cons (thn (he.ok.run pins s σ H (fun v H1 => ∃ d M1, Gw H M H1 M1 ∧ StOk X.K σ H1 sd M1 ∧ Rv X.K H1 M1 d v ∧ srtRK Qd d M1) I (useE S xt t fun d v M1 H1 g1 S1 x1 r1 t1 => ⟨d, M1, g1, S1, r1, t1⟩)) ?_)
  rintro u1 s1 ⟨v1, H1, I1, rel1, d, M1, g1, S1, rd, is, h1, h2, t1⟩
  refine Calls.spliced_nil ?_
  refine kws_cons (thn ((pe_bl (b := true) (j := jx) (pos := cp)).run pins s1 σ H1 (fun v H2 => v = .bl true ∧ H2 = H1) I1 ⟨rfl, rfl⟩) ?_)
  rintro u2 s2 ⟨v2, H2, J, rel2, e1, e2⟩
  subst e1 e2
  obtain rfl : u2 = Value.bool true := rel2
  refine kws_nil ?_
  show wpAny _ _ (call (.builtin "sorted") [u1] [(Str.ofString "reverse", .bool true)]) _ _ s2
  obtain ⟨b, xs, rfl, hp, rs⟩ := lsmO_use S1.mem rd h1
  obtain rfl : u1 = .ref b := rel1
  obtain ⟨its, rvs, hl, hz⟩ := J.list hp
  have ia := ints_are rs rvs
  have hlen : its.length < 64 := by rw [ia.length]; exact h2
  refine sorted_ints_rev hl.isList ia hlen fun out ns' a1 a2 a3 => ?_
  obtain ⟨c, hc⟩ := sortedAll_at s2.heap its out
  have fr : H2 (s2.heap.objs.size + 1) = none := J.hok.fresh (Nat.le_succ _)
  have rv' := vals_of_ints a1
  have new : ObjOk X.prog X.w (upd H2 (s2.heap.objs.size + 1) (.lst (ns'.map V.int))) (sortedAll s2.heap its out) (s2.heap.objs.size + 1) (.lst (ns'.map V.int)) := by
    refine ⟨?_, out.toList, c, rv', by rw [Array.toArray_toList]; exact hc⟩
    rw [List.length_map, a2.length_eq, sizeLine_eq]; omega
  exact ⟨.ref (s2.heap.objs.size + 1), _, J.laid (t' := s2.toks) (fun b o e => sortedAll_old e) (Nat.le_succ _) new, rfl, q _ _ (fwdGw g1 ⟨.lst (ns'.map D.int), M1, gw_new fr, mok_new S1.mem fr, new_lst S1.mem fr (rs_intsW ns'), t1 ns' a2 a3⟩)⟩
end DL
set_option maxHeartbeats 2000000
namespace DL
open PySem PySem.Spec PyProof.Rows L2 LamX NdefX
/-! ### what gen3 names -/
def SL (L : D) (sp : SpD) : D → SpD → Prop := fun x y => x = L ∧ y = sp
theorem sl_held {P : Program} {w : World} {K : Fg} {mg : Str → Option Value} {base : Heap} {j k n : Nat} {L : D} {sp : SpD} (h : HeldD P w K mg base j L n sp) (le : j ≤ k) : ∀ L' sp', SL L sp L' sp' → HeldD P w K mg base k L' n sp' := fun L' sp' e => by
  obtain ⟨rfl, rfl⟩ := e; exact h.mono le
def frB (sc scope : Scope) (fr : List Str) : Bool :=
  (scope.names.all fun y => !decide (y.2 = .free) || decide (sc.names.lookup y.1 = some .cell) || decide (sc.names.lookup y.1 = some .free)) && fr.all fun y => decide ((y, NameKind.free) ∈ scope.names)
theorem frB_1 {sc scope : Scope} {fr : List Str} (h : frB sc scope fr = true) : ∀ y ∈ scope.names, y.2 = .free → sc.names.lookup y.1 = some .cell ∨ sc.names.lookup y.1 = some .free := fun y hy e => by
  unfold frB at h
  have h1 := List.all_eq_true.mp (Bool.and_eq_true_iff.mp h).1 y hy
  simp only [Bool.or_eq_true, Bool.not_eq_true', decide_eq_true_eq, decide_eq_false_iff_not] at h1
  rcases h1 with (z | z) | z
  · exact absurd e z
  · exact .inl z
  · exact .inr z
theorem frB_2 {sc scope : Scope} {fr : List Str} (h : frB sc scope fr = true) : ∀ y ∈ fr, (y, NameKind.free) ∈ scope.names := fun y hy => by
  unfold frB at h
  exact of_decide_eq_true (List.all_eq_true.mp (Bool.and_eq_true_iff.mp h).2 y hy)
theorem passN {P : Program} {w : World} {K : Fg} {mg : Str → Option Value} {base : Heap} {N : List Str} {F : NF} {f : Addr} {A : Around} {outer : List Env} {s : Shared} {H : Hp} {E : XK} :
    Passes (L2.CX P w) (ncx (L2.CX P w) P w K mg base N F f A outer s H E) E :=
  passes_call (takes_of rfl rfl rfl rfl) fun _ _ _ _ h => h
end DL
set_option maxHeartbeats 2000000
namespace DL
open PySem PySem.Spec PyProof.Rows L2
/-! ### range(i, j, c) walked -/
def rng3K (R : List D → Option Addr → Mem → Prop) : List D → Mem → Prop := fun ds M => ∃ (i j c : Int) (n : Nat), ds = [.int i, .int j, .int c] ∧ RgC i j c n ∧ R ((List.range n).map fun k => D.int (i + (k : Nat) * c)) none M
def iRng3D (t : TAD) : TID := fun Xd s M R => t Xd s M (rng3K R)
theorem di_range3 {X : Cx} {E : XK} {tg a b c : Expr} {ts : TAD} {p pos : Pos} (hg : Gl X "range") (hm : X.mg "range" = none) (h : DN X E 3 [a, b, c] ts) (hs : starEach [a, b, c] X.env = (false, eval a X.env) :: starEach [b, c] X.env := by rfl) (hpl : (backTo pos (starEach [b, c] X.env)).any (·.1) = false := by rfl) :
    DI X E tg (.Call (.Name "range" p) [a, b, c] [] pos) (iRng3D ts) := by
  refine ⟨_, pi_range3 hg hm h.ok hs hpl, fun {σ H s M Xd Qd R} S x t q => ?_⟩
  refine useN S x t fun ds vs M1 H1 hl g1 S1 x1 r1 t1 => ?_
  obtain ⟨i, j, c, n, rfl, hc, t1⟩ := t1
  obtain ⟨v, r, rfl, h1, r1⟩ := r1
  obtain ⟨w, y, rfl, h2, h3⟩ := rs2 r1
  exact ⟨i, j, c, n, by rw [show v = V.int i from h1, show w = V.int j from h2, show y = V.int c from h3], hc, q _ _ _ _ _ g1 S1.mem ItOk.rng t1⟩
theorem rgC_shares : RgC 0 101 5 21 := ⟨by decide, by decide, by rfl, by rfl⟩
end DL
set_option maxHeartbeats 2000000
namespace DL
open PySem PySem.Spec PyProof.Rows L2
/-! ### t[::-1] of a tuple -/
section
variable {prog : Program} {w : World} {A : Around} {E : Value → Shared → Prop} {s : Shared}
theorem back_adjust (n : Nat) : Builtin.Slice.sliceAdjust none none (-1) (n : Int) = ((n : Int) - 1, -1) := rfl
theorem back_places (n : Nat) : Builtin.Slice.slicePlaces ((n : Int) - 1) (-1) (-1) = n := by
  unfold Builtin.Slice.slicePlaces
  rw [if_neg (by decide)]
  cases n with
  | zero => rfl
  | succ k =>
    rw [if_pos (by omega)]
    have e : ((((k + 1 : Nat) : Int) - 1 - -1 - 1) / (- -1) + 1) = ((k + 1 : Nat) : Int) := by
      rw [show (- -1 : Int) = 1 from rfl, Int.ediv_one]; omega
    rw [e]; rfl
theorem back_pick (xs : Array Value) : ((List.range xs.size).filterMap fun (m : Nat) => xs[(((xs.size : Int) - 1) + (m : Int) * -1).toNat]?).toArray = xs.toList.reverse.toArray := by
  have e : ∀ n : Nat, n ≤ xs.size → (List.range n).filterMap (fun (m : Nat) => xs[(((xs.size : Int) - 1) + (m : Int) * -1).toNat]?) = (xs.toList.drop (xs.size - n)).reverse := by
    intro n
    induction n with
    | zero => intro _; rw [Nat.sub_zero, List.drop_eq_nil_of_le (by rw [Array.length_toList]; exact Nat.le_refl _)]; rfl
    | succ n ih =>
      intro h
      have hk : xs.size - (n + 1) < xs.toList.length := by rw [Array.length_toList]; omega
      have ex : (((xs.size : Int) - 1) + (n : Int) * -1).toNat = xs.size - (n + 1) := by omega
      have h2 : xs.size - (n + 1) + 1 = xs.size - n := by omega
      rw [List.range_succ, List.filterMap_append, ih (by omega), ← List.getElem_cons_drop hk, List.reverse_cons, h2]
      congr 1
      simp only [List.filterMap_cons, List.filterMap_nil, ex]
      rw [Array.getElem?_eq_getElem (by omega)]
      simp
  have := e xs.size (Nat.le_refl _)
  rw [Nat.sub_self, List.drop_zero] at this
  rw [this]
theorem applied_back {sl : Addr} {n : Nat} {u : Tok} {R : Int × Int × Nat → Shared → Prop} (hs : s.heap.IsSliceOf sl .none .none (.int (-1) u)) (hR : R ((n : Int) - 1, -1, n) s) : wpAny (model prog w) A (Builtin.Slice.sliceApplied (.ref sl) (pure (n : Int))) R E s := by
  obtain ⟨so, so1, so2, so3⟩ := id hs
  unfold Builtin.Slice.sliceApplied Builtin.Slice.sliceFields
  refine wpAny_bind (wpAny_bind (wpAny_field so1 so3 (x := .none) rfl (wpAny_bind (wpAny_field so1 so3 (x := .none) rfl (wpAny_bind (wpAny_field so1 so3 (x := .int (-1) u) rfl (wpAny_pure ?_)))))))
  refine wpAny_bind (HT.slicePart_ (.int (-1) u) ?_)
  show wpAny _ _ (if ((-1 : Int) == 0) = true then _ else _) _ _ s
  rw [if_neg (by decide)]
  refine wpAny_bind (HT.slicePart_ .none (wpAny_bind (HT.slicePart_ .none (wpAny_bind (wpAny_pure ?_)))))
  show wpAny _ _ (match Builtin.Slice.sliceAdjust none none (-1) (n : Int) with | (lo, hi) => pure (lo, (-1 : Int), Builtin.Slice.slicePlaces lo hi (-1))) _ _ s
  rw [back_adjust]
  show wpAny _ _ (pure ((n : Int) - 1, (-1 : Int), Builtin.Slice.slicePlaces ((n : Int) - 1) (-1) (-1))) _ _ s
  rw [back_places]
  exact wpAny_pure hR
theorem tuple_back {t sl : Addr} {items : Array Value} {u : Tok} {Q : Value → Shared → Prop} (ht : IsTup s.heap t items) (hs : s.heap.IsSliceOf sl .none .none (.int (-1) u)) (hz : items.size ≤ sizeLine)
    (h : Q (.ref s.heap.objs.size) { s with heap := s.heap.push { cls := .type "tuple", data := .seq items.toList.reverse.toArray } }) : wpAny (model prog w) A (getItem (.ref t) (.ref sl)) Q E s := by
  have fits : sizeOk (.seq items.toList.reverse.toArray) := by
    show items.toList.reverse.toArray.size ≤ sizeLine
    rw [List.size_toArray, List.length_reverse, Array.length_toList]; exact hz
  obtain ⟨so, so1, so2, so3⟩ := id hs
  have kind : s.TypeIs (.ref sl) "slice" := ⟨so, so1, so2⟩
  unfold getItem
  try with_reducible refine wpAny_holding ?_
  first | refine wpAny_bind (wpAny_pure ?_) | skip
  apply wpAny_bind
  apply wpAny_sequenceKey ht.typeIs (by decide)
  apply wpAny_bind
  apply wpAny_callSpecial?_slot (name := Str.ofString "__getitem__") ht.typeIs PyProof.Rows.slot_tuple_getitem
  apply wpAny_call_entry PyProof.Rows.slot_tuple_getitem ht.typeIs PyProof.Rows.entry_tuple_getitem ?_ (PyProof.Rows.args_tuple_getitem _ _)
  show wpAny _ _ (Builtin.Tuple.tupleItemsOf (.ref t) >>= _) _ _ s
  apply wpAny_bind
  apply tupleItemsOf_ ht
  apply wpAny_bind
  apply wpAny_typeOf kind
  rw [if_pos (by decide)]
  apply wpAny_bind
  apply applied_back hs
  have other : ¬ ((((items.size : Int) - 1) == 0 && (-1 : Int) == 1 && items.size == items.size) = true) := by
    rw [show ((-1 : Int) == 1) = false from rfl, Bool.and_false, Bool.false_and]; exact Bool.false_ne_true
  show wpAny _ _ (if (((items.size : Int) - 1) == 0 && (-1 : Int) == 1 && items.size == items.size) = true then _ else _) _ _ s
  rw [if_neg other, back_pick]
  first
    | exact wpAny_bind (m := Builtin.Tuple.tupleExact _) (wpAny_newObj_type (wpAny_pure ⟨_, rfl, wpAny_pure h⟩) fits)
    | exact wpAny_bind (m := Builtin.Tuple.tupleExact _) (wpAny_newObj_type (wpAny_bind (wpAny_pure (wpAny_pure ⟨_, rfl, wpAny_pure h⟩))) fits)
    | exact wpAny_bind (wpAny_bind (m := Builtin.Tuple.tupleExact _) (wpAny_newObj_type (wpAny_pure (wpAny_pure ⟨_, rfl, wpAny_pure h⟩)) fits))
    | exact wpAny_bind (wpAny_bind (m := Builtin.Tuple.tupleExact _) (wpAny_newObj_type (wpAny_pure ⟨_, rfl, wpAny_pure h⟩) fits))
end
/-- the reading -/
def tBackT (K : Fg) (te : TE) : TE := fun σ H Q => te σ H fun x H1 => ∃ a xs, x = .ref a ∧ SqT K H1 a xs ∧ ∀ p, H1 p = none → Q (.ref p) (upd H1 p (.tup xs.reverse))
theorem pe_backT {X : Cx} {e : Expr} {te : TE} {k : Nat} {p1 p2 p3 pos : Pos} (he : PE X e te) : PE X (.Subscript e (.Slice none none (some (.UnaryOp .USub (.Constant (.int 1) k p1) p2)) p3) pos) (tBackT X.K te) := by
  constructor
  intro pins s σ H Q I want
  refine Subscript_ (thn (he.run pins s σ H _ I want) ?_)
  rintro v s1 ⟨x, H1, I1, rel, a, xs, rfl, hx, q⟩
  obtain rfl : v = .ref a := rel
  have step : PO X (some (.UnaryOp .USub (.Constant (.int 1) k p1) p2)) (tPart (tUn (rU fun i => .int (-i)) (tC (.int 1)))) := po_some (pe_un un_neg pe_int)
  refine wpAny_Slice (thn (po_none.run pins s1 σ H1 (fun o H2 => o = none ∧ H2 = H1) I1 ⟨rfl, rfl⟩) ?_)
  rintro vl s2 ⟨l, H2, I2, pl, rfl, rfl⟩
  refine thn (po_none.run pins s2 σ H2 (fun o H3 => o = none ∧ H3 = H2) I2 ⟨rfl, rfl⟩) ?_
  rintro vu s3 ⟨u, H3, I3, pu, rfl, rfl⟩
  refine thn (step.run pins s3 σ H3 (fun o H4 => o = some (-1) ∧ H4 = H3) I3 ⟨1, rfl, -1, rfl, rfl, rfl⟩) ?_
  rintro vs s4 ⟨o, H4, I4, ps, rfl, rfl⟩
  cases pl
  cases pu
  cases ps
  rename_i tk
  have I5 : Inv X pins σ H4 { s4 with heap := s4.heap.push { cls := .type "slice", data := .fields #[.none, .none, .int (-1) tk] } } := I4.kept (t' := s4.toks) fun b ob z => Heap.get?_push_of_some _ z
  obtain ⟨its, rv, ht, hz⟩ := I5.tuple hx
  have hl := rv.length
  show wpAny (model X.prog X.w) X.A (subscriptTail e (.Slice none none (some (.UnaryOp .USub (.Constant (.int 1) k p1) p2)) p3) (.ref a) (.ref s4.heap.objs.size)) (EP X pins σ Q) X.xe { s4 with heap := s4.heap.push { cls := .type "slice", data := .fields #[.none, .none, .int (-1) tk] } }
  refine tail_any (ops := [.ref a, .ref s4.heap.objs.size]) ht.typeIs (PyProof.Rows.slot_tuple_getitem.lookup) ?_ (by with_unfolding_all rfl)
  refine tuple_back ht (Heap.IsSliceOf.new _ .none .none (.int (-1) tk)) (by rw [List.size_toArray]; omega) ?_
  refine ⟨.ref _, _, I5.laid (t' := s4.toks) (o := .tup xs.reverse) (fun b ob z => Heap.get?_push_of_some _ z) (Nat.le_refl _) ?_, rfl, q _ (I5.hok.fresh (Nat.le_refl _))⟩
  exact ⟨by rw [List.length_reverse]; exact hz, _, rv.reverse, IsTup.new _ _⟩
def revTK (Q : QD) : QD := fun d M => match vw M d with
  | .tup ds => Q (.tup ds.reverse) M
  | _ => False
def dRevT (te : TED) : TED := fun Xd s M Q => te Xd s M (revTK Q)
theorem de_revT {X : Cx} {E : XK} {e : Expr} {te : TED} {j : Nat} {p1 p2 p3 pos : Pos} (he : DE X E e te) : DE X E (.Subscript e (.Slice none none (some (.UnaryOp .USub (.Constant (.int 1) j p1) p2)) p3) pos) (dRevT te) :=
  ⟨PE.imp (pe_backT he.ok) fun σ H Q ⟨s, M, Qd, Xd, S, x, t, q⟩ => by
    refine useE S x t fun d v M1 H1 g1 S1 x1 r1 t1 => ?_
    unfold revTK at t1
    split at t1
    · rename_i ds hd
      obtain ⟨a, xs, rfl, ta, ra⟩ := vw_tup r1 hd
      exact ⟨a, xs, rfl, ta.sq, fun l hl => q _ _ ⟨_, M1, g1.trans (gw_new hl), mok_new S1.mem hl, new_tup S1.mem hl (Rs.reverse ra), t1⟩⟩
    · exact t1.elim⟩
theorem w_revT {te : TED} {Xd : XD} {s : SD} {M : Mem} {Q : QD} (h : te Xd s M (revTK Q)) : dRevT te Xd s M Q := h
theorem w_revTK {ds : List D} {M : Mem} {Q : QD} (h : Q (.tup ds.reverse) M) : revTK Q (.tup ds) M := h
end DL
set_option maxHeartbeats 4000000
/-! enumerate over an iterator that makes things as it turns -/
namespace PySem
open PySem.Spec PyProof.Rows
end PySem
set_option maxHeartbeats 4000000
/-! zip's next with its own tuple free, be it that none was handed out or that the last one is gone -/
namespace PySem
open PySem.Spec PyProof.Rows
def zObj (TI TO : Addr) (f0 : Value) (f : Bool) : Obj := { cls := .type "zip", dict := none, data := .fields #[f0, .bool f, .bool false, .ref TI, .ref TO], slots := #[] }
end PySem
set_option maxHeartbeats 4000000
/-! one turn of a zip, whatever became of its tuple -/
namespace PySem
open PySem.Spec PyProof.Rows
section
variable {prog : Program} {w : World} {A : Around} {E : Value → Shared → Prop} {s : Shared} {z TI TO i1 i2 : Addr} {f0 : Value} {f : Bool} {fp1 fp2 : List Addr} {n1 n2 i : Nat} {P1 P2 : Nat → Value → Prop} {St1 St2 : Nat → Heap → Prop} {a1 a2 : Value}
/-- a zip between two turns -/
def ZSt (h : Heap) (z TI TO i1 i2 : Addr) : Prop := (∃ f0 f, h.get? z = some (zObj TI TO f0 f) ∧ (f0 = .none ∨ ∃ T : Addr, f0 = rawInt T)) ∧ IsTupOf2 h TI (.ref i1) (.ref i2) ∧ ∃ a1 a2, IsTupOf2 h TO a1 a2
theorem ZSt.type {h : Heap} (x : ZSt s.heap z TI TO i1 i2) : s.TypeIs (.ref z) "zip" := by
  obtain ⟨⟨f0, f, hz, _⟩, _⟩ := x
  exact ⟨_, hz, rfl⟩
end
end PySem
set_option maxHeartbeats 4000000
namespace PySem
open PySem.Spec PyProof.Rows
end PySem
namespace DL
open PySem PySem.Spec PyProof.Rows L2 RZ
/-! ### enumerate(zip(a, b)) -/
end DL
set_option maxHeartbeats 4000000
namespace PySem
open AutoSeq1 (wpAny_loadPart')
open PySem.Spec PyProof.Rows
end PySem
set_option maxHeartbeats 4000000
namespace DL
open PySem PySem.Spec PyProof.Rows L2 RZ
def iEZD (te te2 : TED) : TID := fun Xd s M R => dCons te (dCons te2 dNil) Xd s M (zipMK fun l _ M1 => R (enmFrom 0 l) none M1)
end DL
set_option maxHeartbeats 4000000
namespace DL
open PySem PySem.Spec PyProof.Rows L2
/-! ### zip(xs, ys) walked where xs may be a list that we own -/
/-- the items of a list or tuple, and where it is if we own it -/
def sqwO (M : Mem) : D → Option (List D × Option Addr)
  | .ref a => match M a with
    | some (.lst ds) => some (ds, some a)
    | _ => none
  | d => (sqdO d).map fun ds => (ds, none)
def zipOK (R : List D → Option Addr → Mem → Prop) : List D → Mem → Prop := fun l M => match l with
  | [d, e] => ∃ ds ow es, sqwO M d = some (ds, ow) ∧ sqdO e = some es ∧ R (zpD ds es) ow M
  | _ => False
def iZipOD (te te2 : TED) : TID := fun Xd s M R => dCons te (dCons te2 dNil) Xd s M (zipOK R)
/-! ### xs + ys, a list that will be changed -/
/-! ### what a def leaves: all that it made is let go -/
/-- what was owned is still so -/
def Ext (M0 M : Mem) : Prop := ∀ a o, M0 a = some o → M a = some o
theorem Ext.refl {M : Mem} : Ext M M := fun _ _ h => h
theorem Ext.trans {M0 M1 M2 : Mem} (h : Ext M0 M1) (k : Ext M1 M2) : Ext M0 M2 := fun a o e => k a o (h a o e)
theorem Ext.put {M0 M : Mem} {p : Addr} {o : MO} (h : Ext M0 M) (hp : M0 p = none) : Ext M0 (M.put p o) := fun a u e => by
  have ne : a ≠ p := fun z => by subst z; rw [hp] at e; cases e
  rw [Mem.put_ne ne]; exact h a u e
theorem Ext.none {M0 M : Mem} {p : Addr} (h : Ext M0 M) (hp : M p = none) : M0 p = none := by
  cases e : M0 p with
  | none => rfl
  | some o => rw [h p o e] at hp; cases hp
theorem lo_less {Q : QD} {d : D} {M M0 : Mem} (h : Ext M0 M) (q : Q d M0) : Lo Q d M :=
  have hn : ∀ a, M a = none → M0 a = none := fun _ e => h.none e
  ⟨d, M0, ⟨h, hn, fun K H v mo r => Rv.grow (gw_less hn) d v r⟩, q⟩
end DL
set_option maxHeartbeats 4000000
namespace G_madeofhere_k05_goods_beside_one_another
open PySem PySem.Spec PyProof.Rows L2 DL
def tabT (c : Nat → Addr) : List (Addr × Str) := [(c 3, ("_law_own_right" ++ ".<locals>." : Str) ++ "<lambda>"), (c 4, ("_law_times_right" ++ ".<locals>." : Str) ++ "_law_grown")]
def tb : Nat → Nat → Bool := fun i j => ([[0], [0, 1], [0, 2]].getD i []).contains j
def tys : List (String × (Nat → Bool)) := [("ValueError", fun i => [0, 1, 2].contains i)]
def fds : List Str := ["number", "part"]
structure CF (K : Fg) (c : Nat → Addr) : Prop where
  cf : ∀ {i : Nat}, i < 3 → ClsF K (c i)
  kf : KitF K c 3 tb tys fds
def N_is_rule : List Str := ["value", "share", "up", "down"]
def Bis_rule (K : Fg) (c : Nat → Addr) : TSD := sSeq (sIf (tOrD (tNotD (dTru (dCB isiC (dCons (dVar 0) (dCons (dC (.ty "tuple")) (dNil)))))) (dTst (dOp neD (dCB lenC (dCons (dVar 0) (dNil))) (dC (.int 3))))) (sRet (dC (.bl false))) (sNx)) (sSeq (sAsg (dVar 0) (gTp 3 (gCo (gNm 1) (gCo (gNm 2) (gCo (gNm 3) (gNi)))))) (sSeq (sIf (tOrD (tNotD (dTru (dCB isiC (dCons (dVar 1) (dCons (dC (.ty "int")) (dNil)))))) (tOrD (dTru (dCB isiC (dCons (dVar 1) (dCons (dC (.ty "bool")) (dNil))))) (tNotD (dTst (dChain leD leD (dC (.int 0)) (dVar 1) (dC (.int 100))))))) (sRet (dC (.bl false))) (sNx)) (sSeq (sIf (tOrD (tNotD (dTru (dCB isiC (dCons (dVar 2) (dCons (dC (.ty "str")) (dNil)))))) (tNotD (dTru (dCB isiC (dCons (dVar 3) (dCons (dC (.ty "str")) (dNil))))))) (sRet (dC (.bl false))) (sNx)) (sRet (dAnd (dOr (dOp eqD (dVar 2) (dC (.str "whole"))) (dOp eqD (dVar 2) (dC (.str "own")))) (dOr (dOp eqD (dVar 3) (dC (.str "own"))) (dOp eqD (dVar 3) (dC (.str "none")))))))))
def Wis_rule (K : Fg) (c : Nat → Addr) : SpD := bodyD (Bis_rule K c) N_is_rule
theorem Eis_rule {K : Fg} {c : Nat → Addr} {a0 : D} {M : Mem} {Q : QD} {Xd : XD} (h : (sSeq (sIf (tOrD (tNotD (dTru (dCB isiC (dCons (dVar 0) (dCons (dC (.ty "tuple")) (dNil)))))) (dTst (dOp neD (dCB lenC (dCons (dVar 0) (dNil))) (dC (.int 3))))) (sRet (dC (.bl false))) (sNx)) (sSeq (sAsg (dVar 0) (gTp 3 (gCo (gNm 1) (gCo (gNm 2) (gCo (gNm 3) (gNi)))))) (sSeq (sIf (tOrD (tNotD (dTru (dCB isiC (dCons (dVar 1) (dCons (dC (.ty "int")) (dNil)))))) (tOrD (dTru (dCB isiC (dCons (dVar 1) (dCons (dC (.ty "bool")) (dNil))))) (tNotD (dTst (dChain leD leD (dC (.int 0)) (dVar 1) (dC (.int 100))))))) (sRet (dC (.bl false))) (sNx)) (sSeq (sIf (tOrD (tNotD (dTru (dCB isiC (dCons (dVar 2) (dCons (dC (.ty "str")) (dNil)))))) (tNotD (dTru (dCB isiC (dCons (dVar 3) (dCons (dC (.ty "str")) (dNil))))))) (sRet (dC (.bl false))) (sNx)) (sRet (dAnd (dOr (dOp eqD (dVar 2) (dC (.str "whole"))) (dOp eqD (dVar 2) (dC (.str "own")))) (dOr (dOp eqD (dVar 3) (dC (.str "own"))) (dOp eqD (dVar 3) (dC (.str "none")))))))))) ⟨fun _ M' => Lo Q .non M', Lo Q, fun _ _ => False, fun _ _ => False, Xd⟩ [some a0, none, none, none] M) : Wis_rule K c [a0] M Q Xd := h
def N__need_bounds : List Str := ["number", "land", "low", "high"]
def B_need_bounds (K : Fg) (c : Nat → Addr) : TSD := sSeq (sIf (tOrD (tNotD (dTru (dCB isiC (dCons (dVar 1) (dCons (dC (.ty "str")) (dNil)))))) (tAndD (dTst (dOp neD (dVar 1) (dC (.str "here")))) (dTst (dOp neD (dVar 1) (dC (.str "away")))))) (sRaise (c 1) ["part", "number"] (dCons (dVar 0) (dCons (dC (.str "land")) (dNil)))) (sNx)) (sSeq (sIf (tOrD (tNotD (dTru (dCB isiC (dCons (dVar 2) (dCons (dC (.ty "int")) (dNil)))))) (tOrD (dTru (dCB isiC (dCons (dVar 2) (dCons (dC (.ty "bool")) (dNil))))) (tNotD (dTst (dChain leD leD (dC (.int 0)) (dVar 2) (dC (.int 1000000))))))) (sRaise (c 1) ["part", "number"] (dCons (dVar 0) (dCons (dC (.str "low")) (dNil)))) (sNx)) (sIf (tOrD (tNotD (dTru (dCB isiC (dCons (dVar 3) (dCons (dC (.ty "int")) (dNil)))))) (tOrD (dTru (dCB isiC (dCons (dVar 3) (dCons (dC (.ty "bool")) (dNil))))) (tNotD (dTst (dChain leD leD (dVar 2) (dVar 3) (dC (.int 1000000))))))) (sRaise (c 1) ["part", "number"] (dCons (dVar 0) (dCons (dC (.str "high")) (dNil)))) (sNx)))
def W_need_bounds (K : Fg) (c : Nat → Addr) : SpD := bodyD (B_need_bounds K c) N__need_bounds
theorem E_need_bounds {K : Fg} {c : Nat → Addr} {a0 a1 a2 a3 : D} {M : Mem} {Q : QD} {Xd : XD} (h : (sSeq (sIf (tOrD (tNotD (dTru (dCB isiC (dCons (dVar 1) (dCons (dC (.ty "str")) (dNil)))))) (tAndD (dTst (dOp neD (dVar 1) (dC (.str "here")))) (dTst (dOp neD (dVar 1) (dC (.str "away")))))) (sRaise (c 1) ["part", "number"] (dCons (dVar 0) (dCons (dC (.str "land")) (dNil)))) (sNx)) (sSeq (sIf (tOrD (tNotD (dTru (dCB isiC (dCons (dVar 2) (dCons (dC (.ty "int")) (dNil)))))) (tOrD (dTru (dCB isiC (dCons (dVar 2) (dCons (dC (.ty "bool")) (dNil))))) (tNotD (dTst (dChain leD leD (dC (.int 0)) (dVar 2) (dC (.int 1000000))))))) (sRaise (c 1) ["part", "number"] (dCons (dVar 0) (dCons (dC (.str "low")) (dNil)))) (sNx)) (sIf (tOrD (tNotD (dTru (dCB isiC (dCons (dVar 3) (dCons (dC (.ty "int")) (dNil)))))) (tOrD (dTru (dCB isiC (dCons (dVar 3) (dCons (dC (.ty "bool")) (dNil))))) (tNotD (dTst (dChain leD leD (dVar 2) (dVar 3) (dC (.int 1000000))))))) (sRaise (c 1) ["part", "number"] (dCons (dVar 0) (dCons (dC (.str "high")) (dNil)))) (sNx)))) ⟨fun _ M' => Lo Q .non M', Lo Q, fun _ _ => False, fun _ _ => False, Xd⟩ [some a0, some a1, some a2, some a3] M) : W_need_bounds K c [a0, a1, a2, a3] M Q Xd := h
def N__need_making : List Str := ["number", "rule", "parts"]
def B_need_making (K : Fg) (c : Nat → Addr) : TSD := sSeq (sIf (tNotD (dTru (dCall (Wis_rule K c) [] (dCons (dVar 1) (dNil))))) (sRaise (c 1) ["part", "number"] (dCons (dVar 0) (dCons (dC (.str "rule")) (dNil)))) (sNx)) (sIf (tOrD (tNotD (dTru (dCB isiC (dCons (dVar 2) (dCons (dC (.ty "tuple")) (dNil)))))) (tNotD (dTst (dChain leD leD (dC (.int 1)) (dCB lenC (dCons (dVar 2) (dNil))) (dC (.int 4)))))) (sRaise (c 1) ["part", "number"] (dCons (dVar 0) (dCons (dC (.str "parts")) (dNil)))) (sNx))
def W_need_making (K : Fg) (c : Nat → Addr) : SpD := bodyD (B_need_making K c) N__need_making
theorem E_need_making {K : Fg} {c : Nat → Addr} {a0 a1 a2 : D} {M : Mem} {Q : QD} {Xd : XD} (h : (sSeq (sIf (tNotD (dTru (dCall (Wis_rule K c) [] (dCons (dVar 1) (dNil))))) (sRaise (c 1) ["part", "number"] (dCons (dVar 0) (dCons (dC (.str "rule")) (dNil)))) (sNx)) (sIf (tOrD (tNotD (dTru (dCB isiC (dCons (dVar 2) (dCons (dC (.ty "tuple")) (dNil)))))) (tNotD (dTst (dChain leD leD (dC (.int 1)) (dCB lenC (dCons (dVar 2) (dNil))) (dC (.int 4)))))) (sRaise (c 1) ["part", "number"] (dCons (dVar 0) (dCons (dC (.str "parts")) (dNil)))) (sNx))) ⟨fun _ M' => Lo Q .non M', Lo Q, fun _ _ => False, fun _ _ => False, Xd⟩ [some a0, some a1, some a2] M) : W_need_making K c [a0, a1, a2] M Q Xd := h
def N__look_at : List Str := ["thing", "whole", "found", "wholes", "made", "moving", "number", "word", "is_step", "parts", "_", "land", "low", "high", "rule", "part"]
def B_look_at (K : Fg) (c : Nat → Addr) (self : SpD) : TSD := sSeq (sSet 6 (dCB lenC (dCons (dVar 2) (dNil)))) (sSeq (sSet 7 (dIte (tAndD (dTru (dCB isiC (dCons (dVar 0) (dCons (dC (.ty "tuple")) (dNil))))) (dTst (dOp gtD (dCB lenC (dCons (dVar 0) (dNil))) (dC (.int 0))))) (dOp ixD (dVar 0) (dC (.int 0))) (dC .non))) (sSeq (sSet 8 (dAnd (dCB isiC (dCons (dVar 7) (dCons (dC (.ty "str")) (dNil)))) (dOp eqD (dVar 7) (dC (.str "made"))))) (sSeq (sIf (dTru (dVar 8)) (sExpr (dApp (dVar 4) (dVar 6))) (sNx)) (sSeq (sIf (tOrD (dTst (dOp eqD (dVar 6) (dC (.int 10)))) (dTst (dOp gtD (dCB lenC (dCons (dVar 4) (dNil))) (dC (.int 4))))) (sRaise (c 1) ["part", "number"] (dCons (dVar 6) (dCons (dC (.str "many")) (dNil)))) (sNx)) (sSeq (sSet 9 (dTup (dNil))) (sSeq (sIf (tAndD (dTru (dVar 8)) (dTst (dOp eqD (dCB lenC (dCons (dVar 0) (dNil))) (dC (.int 6))))) (sSeq (sAsg (dVar 0) (gTp 6 (gCo (gNm 10) (gCo (gNm 11) (gCo (gNm 12) (gCo (gNm 13) (gCo (gNm 14) (gCo (gNm 9) (gNi))))))))) (sSeq (sExpr (dCall (W_need_bounds K c) [] (dCons (dVar 6) (dCons (dVar 11) (dCons (dVar 12) (dCons (dVar 13) (dNil))))))) (sExpr (dCall (W_need_making K c) [] (dCons (dVar 6) (dCons (dVar 14) (dCons (dVar 9) (dNil)))))))) (sIf (tAndD (dTru (dCB isiC (dCons (dVar 7) (dCons (dC (.ty "str")) (dNil))))) (tAndD (dTst (dOp eqD (dVar 7) (dC (.str "raw")))) (dTst (dOp eqD (dCB lenC (dCons (dVar 0) (dNil))) (dC (.int 4)))))) (sSeq (sAsg (dVar 0) (gTp 4 (gCo (gNm 10) (gCo (gNm 11) (gCo (gNm 12) (gCo (gNm 13) (gNi))))))) (sExpr (dCall (W_need_bounds K c) [] (dCons (dVar 6) (dCons (dVar 11) (dCons (dVar 12) (dCons (dVar 13) (dNil)))))))) (sRaise (c 1) ["part", "number"] (dCons (dVar 6) (dCons (dC (.str "form")) (dNil)))))) (sSeq (sExpr (dApp (dVar 2) (dVar 0))) (sSeq (sExpr (dApp (dVar 3) (dVar 1))) (sSeq (sIf (dTst (dOp ltD (dVar 12) (dVar 13))) (sExpr (dApp (dVar 5) (dVar 6))) (sNx)) (sFor (iSeqD (dVar 9)) (gNm 15) (sExpr (dCall self [] (dCons (dVar 15) (dCons (dVar 6) (dCons (dVar 2) (dCons (dVar 3) (dCons (dVar 4) (dCons (dVar 5) (dNil)))))))))))))))))))
def W_look_at (K : Fg) (c : Nat → Addr) : Nat → SpD
  | 0 => fun _ _ _ _ => False
  | n + 1 => bodyD (B_look_at K c (W_look_at K c n)) N__look_at
theorem E_look_at {K : Fg} {c : Nat → Addr} {a0 a1 a2 a3 a4 a5 : D} {n : Nat} {M : Mem} {Q : QD} {Xd : XD} (h : (sSeq (sSet 6 (dCB lenC (dCons (dVar 2) (dNil)))) (sSeq (sSet 7 (dIte (tAndD (dTru (dCB isiC (dCons (dVar 0) (dCons (dC (.ty "tuple")) (dNil))))) (dTst (dOp gtD (dCB lenC (dCons (dVar 0) (dNil))) (dC (.int 0))))) (dOp ixD (dVar 0) (dC (.int 0))) (dC .non))) (sSeq (sSet 8 (dAnd (dCB isiC (dCons (dVar 7) (dCons (dC (.ty "str")) (dNil)))) (dOp eqD (dVar 7) (dC (.str "made"))))) (sSeq (sIf (dTru (dVar 8)) (sExpr (dApp (dVar 4) (dVar 6))) (sNx)) (sSeq (sIf (tOrD (dTst (dOp eqD (dVar 6) (dC (.int 10)))) (dTst (dOp gtD (dCB lenC (dCons (dVar 4) (dNil))) (dC (.int 4))))) (sRaise (c 1) ["part", "number"] (dCons (dVar 6) (dCons (dC (.str "many")) (dNil)))) (sNx)) (sSeq (sSet 9 (dTup (dNil))) (sSeq (sIf (tAndD (dTru (dVar 8)) (dTst (dOp eqD (dCB lenC (dCons (dVar 0) (dNil))) (dC (.int 6))))) (sSeq (sAsg (dVar 0) (gTp 6 (gCo (gNm 10) (gCo (gNm 11) (gCo (gNm 12) (gCo (gNm 13) (gCo (gNm 14) (gCo (gNm 9) (gNi))))))))) (sSeq (sExpr (dCall (W_need_bounds K c) [] (dCons (dVar 6) (dCons (dVar 11) (dCons (dVar 12) (dCons (dVar 13) (dNil))))))) (sExpr (dCall (W_need_making K c) [] (dCons (dVar 6) (dCons (dVar 14) (dCons (dVar 9) (dNil)))))))) (sIf (tAndD (dTru (dCB isiC (dCons (dVar 7) (dCons (dC (.ty "str")) (dNil))))) (tAndD (dTst (dOp eqD (dVar 7) (dC (.str "raw")))) (dTst (dOp eqD (dCB lenC (dCons (dVar 0) (dNil))) (dC (.int 4)))))) (sSeq (sAsg (dVar 0) (gTp 4 (gCo (gNm 10) (gCo (gNm 11) (gCo (gNm 12) (gCo (gNm 13) (gNi))))))) (sExpr (dCall (W_need_bounds K c) [] (dCons (dVar 6) (dCons (dVar 11) (dCons (dVar 12) (dCons (dVar 13) (dNil)))))))) (sRaise (c 1) ["part", "number"] (dCons (dVar 6) (dCons (dC (.str "form")) (dNil)))))) (sSeq (sExpr (dApp (dVar 2) (dVar 0))) (sSeq (sExpr (dApp (dVar 3) (dVar 1))) (sSeq (sIf (dTst (dOp ltD (dVar 12) (dVar 13))) (sExpr (dApp (dVar 5) (dVar 6))) (sNx)) (sFor (iSeqD (dVar 9)) (gNm 15) (sExpr (dCall (W_look_at K c n) [] (dCons (dVar 15) (dCons (dVar 6) (dCons (dVar 2) (dCons (dVar 3) (dCons (dVar 4) (dCons (dVar 5) (dNil)))))))))))))))))))) ⟨fun _ M' => Lo Q .non M', Lo Q, fun _ _ => False, fun _ _ => False, Xd⟩ [some a0, some a1, some a2, some a3, some a4, some a5, none, none, none, none, none, none, none, none, none, none] M) : W_look_at K c (n + 1) [a0, a1, a2, a3, a4, a5] M Q Xd := h
def N_look_over : List Str := ["good", "found", "wholes", "made", "moving", "thing"]
def Blook_over (K : Fg) (c : Nat → Addr) : TSD := sSeq (sAsg (dTup (dCons (dLstO (dNil)) (dCons (dLstO (dNil)) (dCons (dLstO (dNil)) (dCons (dLstO (dNil)) (dNil)))))) (gTp 4 (gCo (gNm 1) (gCo (gNm 2) (gCo (gNm 3) (gCo (gNm 4) (gNi))))))) (sSeq (sExpr (dCall (W_look_at K c 8) [] (dCons (dVar 0) (dCons (dC .non) (dCons (dVar 1) (dCons (dVar 2) (dCons (dVar 3) (dCons (dVar 4) (dNil))))))))) (sSeq (sIf (dTst (dOp eqD (dCB lenC (dCons (dVar 3) (dNil))) (dC (.int 0)))) (sRaise (c 1) ["part", "number"] (dCons (dC (.int 0)) (dCons (dC (.str "raw")) (dNil)))) (sNx)) (sSeq (sIf (dTst (dOp gtD (dCB lenC (dCons (dVar 4) (dNil))) (dC (.int 3)))) (sRaise (c 1) ["part", "number"] (dCons (dC (.int 0)) (dCons (dC (.str "moves")) (dNil)))) (sNx)) (sSeq (sFor (iSeqD (dVar 1)) (gNm 5) (sIf (dTst (dOp gtD (dOp ixD (dVar 5) (dC (.int 2))) (dC (.int 0)))) (sRet (dTup (dCons (dVar 1) (dCons (dVar 2) (dCons (dVar 3) (dCons (dVar 4) (dNil))))))) (sNx))) (sRaise (c 1) ["part", "number"] (dCons (dC (.int 0)) (dCons (dC (.str "nothing")) (dNil))))))))
def Wlook_over (K : Fg) (c : Nat → Addr) : SpD := bodyD (Blook_over K c) N_look_over
theorem Elook_over {K : Fg} {c : Nat → Addr} {a0 : D} {M : Mem} {Q : QD} {Xd : XD} (h : (sSeq (sAsg (dTup (dCons (dLstO (dNil)) (dCons (dLstO (dNil)) (dCons (dLstO (dNil)) (dCons (dLstO (dNil)) (dNil)))))) (gTp 4 (gCo (gNm 1) (gCo (gNm 2) (gCo (gNm 3) (gCo (gNm 4) (gNi))))))) (sSeq (sExpr (dCall (W_look_at K c 8) [] (dCons (dVar 0) (dCons (dC .non) (dCons (dVar 1) (dCons (dVar 2) (dCons (dVar 3) (dCons (dVar 4) (dNil))))))))) (sSeq (sIf (dTst (dOp eqD (dCB lenC (dCons (dVar 3) (dNil))) (dC (.int 0)))) (sRaise (c 1) ["part", "number"] (dCons (dC (.int 0)) (dCons (dC (.str "raw")) (dNil)))) (sNx)) (sSeq (sIf (dTst (dOp gtD (dCB lenC (dCons (dVar 4) (dNil))) (dC (.int 3)))) (sRaise (c 1) ["part", "number"] (dCons (dC (.int 0)) (dCons (dC (.str "moves")) (dNil)))) (sNx)) (sSeq (sFor (iSeqD (dVar 1)) (gNm 5) (sIf (dTst (dOp gtD (dOp ixD (dVar 5) (dC (.int 2))) (dC (.int 0)))) (sRet (dTup (dCons (dVar 1) (dCons (dVar 2) (dCons (dVar 3) (dCons (dVar 4) (dNil))))))) (sNx))) (sRaise (c 1) ["part", "number"] (dCons (dC (.int 0)) (dCons (dC (.str "nothing")) (dNil))))))))) ⟨fun _ M' => Lo Q .non M', Lo Q, fun _ _ => False, fun _ _ => False, Xd⟩ [some a0, none, none, none, none, none] M) : Wlook_over K c [a0] M Q Xd := h
def N_is_fraction : List Str := ["value", "least", "most", "part", "of"]
def Bis_fraction (K : Fg) (c : Nat → Addr) : TSD := sSeq (sIf (tOrD (tNotD (dTru (dCB isiC (dCons (dVar 0) (dCons (dC (.ty "tuple")) (dNil)))))) (dTst (dOp neD (dCB lenC (dCons (dVar 0) (dNil))) (dC (.int 2))))) (sRet (dC (.bl false))) (sNx)) (sSeq (sAsg (dVar 0) (gTp 2 (gCo (gNm 3) (gCo (gNm 4) (gNi))))) (sSeq (sIf (tOrD (tNotD (dTru (dCB isiC (dCons (dVar 3) (dCons (dC (.ty "int")) (dNil)))))) (tOrD (dTru (dCB isiC (dCons (dVar 3) (dCons (dC (.ty "bool")) (dNil))))) (tOrD (tNotD (dTru (dCB isiC (dCons (dVar 4) (dCons (dC (.ty "int")) (dNil)))))) (dTru (dCB isiC (dCons (dVar 4) (dCons (dC (.ty "bool")) (dNil)))))))) (sRet (dC (.bl false))) (sNx)) (sRet (dAnd (dOr (dOp eqD (dVar 4) (dC (.int 1))) (dAnd (dOp gtD (dVar 4) (dC (.int 1))) (dOp eqD (dCB gcdC (dCons (dVar 3) (dCons (dVar 4) (dNil)))) (dC (.int 1))))) (dChain leD leD (dOp mulD (dVar 1) (dVar 4)) (dVar 3) (dOp mulD (dVar 2) (dVar 4)))))))
def Wis_fraction (K : Fg) (c : Nat → Addr) : SpD := bodyD (Bis_fraction K c) N_is_fraction
theorem Eis_fraction {K : Fg} {c : Nat → Addr} {a0 a1 a2 : D} {M : Mem} {Q : QD} {Xd : XD} (h : (sSeq (sIf (tOrD (tNotD (dTru (dCB isiC (dCons (dVar 0) (dCons (dC (.ty "tuple")) (dNil)))))) (dTst (dOp neD (dCB lenC (dCons (dVar 0) (dNil))) (dC (.int 2))))) (sRet (dC (.bl false))) (sNx)) (sSeq (sAsg (dVar 0) (gTp 2 (gCo (gNm 3) (gCo (gNm 4) (gNi))))) (sSeq (sIf (tOrD (tNotD (dTru (dCB isiC (dCons (dVar 3) (dCons (dC (.ty "int")) (dNil)))))) (tOrD (dTru (dCB isiC (dCons (dVar 3) (dCons (dC (.ty "bool")) (dNil))))) (tOrD (tNotD (dTru (dCB isiC (dCons (dVar 4) (dCons (dC (.ty "int")) (dNil)))))) (dTru (dCB isiC (dCons (dVar 4) (dCons (dC (.ty "bool")) (dNil)))))))) (sRet (dC (.bl false))) (sNx)) (sRet (dAnd (dOr (dOp eqD (dVar 4) (dC (.int 1))) (dAnd (dOp gtD (dVar 4) (dC (.int 1))) (dOp eqD (dCB gcdC (dCons (dVar 3) (dCons (dVar 4) (dNil)))) (dC (.int 1))))) (dChain leD leD (dOp mulD (dVar 1) (dVar 4)) (dVar 3) (dOp mulD (dVar 2) (dVar 4)))))))) ⟨fun _ M' => Lo Q .non M', Lo Q, fun _ _ => False, fun _ _ => False, Xd⟩ [some a0, some a1, some a2, none, none] M) : Wis_fraction K c [a0, a1, a2] M Q Xd := h
def N_lowest_terms : List Str := ["part", "of", "shared"]
def Blowest_terms (K : Fg) (c : Nat → Addr) : TSD := sSeq (sSet 2 (dCB gcdC (dCons (dVar 0) (dCons (dVar 1) (dNil))))) (sRet (dTup (dCons (dOp fdivD (dVar 0) (dVar 2)) (dCons (dOp fdivD (dVar 1) (dVar 2)) (dNil)))))
def Wlowest_terms (K : Fg) (c : Nat → Addr) : SpD := bodyD (Blowest_terms K c) N_lowest_terms
theorem Elowest_terms {K : Fg} {c : Nat → Addr} {a0 a1 : D} {M : Mem} {Q : QD} {Xd : XD} (h : (sSeq (sSet 2 (dCB gcdC (dCons (dVar 0) (dCons (dVar 1) (dNil))))) (sRet (dTup (dCons (dOp fdivD (dVar 0) (dVar 2)) (dCons (dOp fdivD (dVar 1) (dVar 2)) (dNil)))))) ⟨fun _ M' => Lo Q .non M', Lo Q, fun _ _ => False, fun _ _ => False, Xd⟩ [some a0, some a1, none] M) : Wlowest_terms K c [a0, a1] M Q Xd := h
def N_need_prices : List Str := ["found", "prices", "number", "thing"]
def Bneed_prices (K : Fg) (c : Nat → Addr) : TSD := sSeq (sIf (tOrD (tNotD (dTru (dCB isiC (dCons (dVar 1) (dCons (dC (.ty "tuple")) (dNil)))))) (dTst (dOp neD (dCB lenC (dCons (dVar 1) (dNil))) (dCB lenC (dCons (dVar 0) (dNil)))))) (sRaise (c 2) ["number"] (dCons (dC .non) (dNil))) (sNx)) (sSeq (sFor (iEnmB (dVar 0)) (gTp 2 (gCo (gNm 2) (gCo (gNm 3) (gNi)))) (sIf (tNotD (dTru (dCall (Wis_fraction K c) [] (dCons (dOp ixD (dVar 1) (dVar 2)) (dCons (dOp ixD (dVar 3) (dC (.int 2))) (dCons (dOp ixD (dVar 3) (dC (.int 3))) (dNil))))))) (sRaise (c 2) ["number"] (dCons (dVar 2) (dNil))) (sNx))) (sRet (dVar 1)))
def Wneed_prices (K : Fg) (c : Nat → Addr) : SpD := bodyD (Bneed_prices K c) N_need_prices
theorem Eneed_prices {K : Fg} {c : Nat → Addr} {a0 a1 : D} {M : Mem} {Q : QD} {Xd : XD} (h : (sSeq (sIf (tOrD (tNotD (dTru (dCB isiC (dCons (dVar 1) (dCons (dC (.ty "tuple")) (dNil)))))) (dTst (dOp neD (dCB lenC (dCons (dVar 1) (dNil))) (dCB lenC (dCons (dVar 0) (dNil)))))) (sRaise (c 2) ["number"] (dCons (dC .non) (dNil))) (sNx)) (sSeq (sFor (iEnmB (dVar 0)) (gTp 2 (gCo (gNm 2) (gCo (gNm 3) (gNi)))) (sIf (tNotD (dTru (dCall (Wis_fraction K c) [] (dCons (dOp ixD (dVar 1) (dVar 2)) (dCons (dOp ixD (dVar 3) (dC (.int 2))) (dCons (dOp ixD (dVar 3) (dC (.int 3))) (dNil))))))) (sRaise (c 2) ["number"] (dCons (dVar 2) (dNil))) (sNx))) (sRet (dVar 1)))) ⟨fun _ M' => Lo Q .non M', Lo Q, fun _ _ => False, fun _ _ => False, Xd⟩ [some a0, some a1, none, none] M) : Wneed_prices K c [a0, a1] M Q Xd := h
def N_common_unit : List Str := ["prices", "unit", "_", "of"]
def Bcommon_unit (K : Fg) (c : Nat → Addr) : TSD := sSeq (sSet 1 (dC (.int 1))) (sSeq (sFor (iSeqD (dVar 0)) (gTp 2 (gCo (gNm 2) (gCo (gNm 3) (gNi)))) (sSet 1 (dCB lcmC (dCons (dVar 1) (dCons (dVar 3) (dNil)))))) (sRet (dVar 1)))
def Wcommon_unit (K : Fg) (c : Nat → Addr) : SpD := bodyD (Bcommon_unit K c) N_common_unit
theorem Ecommon_unit {K : Fg} {c : Nat → Addr} {a0 : D} {M : Mem} {Q : QD} {Xd : XD} (h : (sSeq (sSet 1 (dC (.int 1))) (sSeq (sFor (iSeqD (dVar 0)) (gTp 2 (gCo (gNm 2) (gCo (gNm 3) (gNi)))) (sSet 1 (dCB lcmC (dCons (dVar 1) (dCons (dVar 3) (dNil)))))) (sRet (dVar 1)))) ⟨fun _ M' => Lo Q .non M', Lo Q, fun _ _ => False, fun _ _ => False, Xd⟩ [some a0, none, none, none] M) : Wcommon_unit K c [a0] M Q Xd := h
def N_in_units : List Str := ["prices", "unit", "part", "of"]
def Bin_units (K : Fg) (c : Nat → Addr) : TSD := sRet (dLc (iSeqD (dVar 0)) (gTp 2 (gCo (gNm 2) (gCo (gNm 3) (gNi)))) (tYesD) (dOp mulD (dVar 2) (dOp fdivD (dVar 1) (dVar 3))) [2, 3])
def Win_units (K : Fg) (c : Nat → Addr) : SpD := bodyD (Bin_units K c) N_in_units
theorem Ein_units {K : Fg} {c : Nat → Addr} {a0 a1 : D} {M : Mem} {Q : QD} {Xd : XD} (h : (sRet (dLc (iSeqD (dVar 0)) (gTp 2 (gCo (gNm 2) (gCo (gNm 3) (gNi)))) (tYesD) (dOp mulD (dVar 2) (dOp fdivD (dVar 1) (dVar 3))) [2, 3])) ⟨fun _ M' => Lo Q .non M', Lo Q, fun _ _ => False, fun _ _ => False, Xd⟩ [some a0, some a1, none, none] M) : Win_units K c [a0, a1] M Q Xd := h
def N_fractions_of : List Str := ["amounts", "unit", "amount"]
def Bfractions_of (K : Fg) (c : Nat → Addr) : TSD := sSeq (sIf (dTst (dOp eqD (dVar 1) (dC (.int 1)))) (sRet (dCB tupleC (dCons (dLc (iSeqD (dVar 0)) (gNm 2) (tYesD) (dTup (dCons (dVar 2) (dCons (dC (.int 1)) (dNil)))) [2]) (dNil)))) (sNx)) (sRet (dCB tupleC (dCons (dLc (iSeqD (dVar 0)) (gNm 2) (tYesD) (dCall (Wlowest_terms K c) [] (dCons (dVar 2) (dCons (dVar 1) (dNil)))) [2]) (dNil))))
def Wfractions_of (K : Fg) (c : Nat → Addr) : SpD := bodyD (Bfractions_of K c) N_fractions_of
theorem Efractions_of {K : Fg} {c : Nat → Addr} {a0 a1 : D} {M : Mem} {Q : QD} {Xd : XD} (h : (sSeq (sIf (dTst (dOp eqD (dVar 1) (dC (.int 1)))) (sRet (dCB tupleC (dCons (dLc (iSeqD (dVar 0)) (gNm 2) (tYesD) (dTup (dCons (dVar 2) (dCons (dC (.int 1)) (dNil)))) [2]) (dNil)))) (sNx)) (sRet (dCB tupleC (dCons (dLc (iSeqD (dVar 0)) (gNm 2) (tYesD) (dCall (Wlowest_terms K c) [] (dCons (dVar 2) (dCons (dVar 1) (dNil)))) [2]) (dNil))))) ⟨fun _ M' => Lo Q .non M', Lo Q, fun _ _ => False, fun _ _ => False, Xd⟩ [some a0, some a1, none] M) : Wfractions_of K c [a0, a1] M Q Xd := h
def N_sums_of : List Str := ["found", "wholes", "amounts", "spent", "own", "amount", "thing", "counting", "words", "number", "part", "share", "up", "down", "whole"]
def Bsums_of (K : Fg) (c : Nat → Addr) : TSD := sSeq (sSet 3 (dCB listCO (dCons (dVar 2) (dNil)))) (sSeq (sSet 4 (dLcO (iZipMD (dVar 2) (dVar 0)) (gTp 2 (gCo (gNm 5) (gCo (gNm 6) (gNi)))) (tYesD) (dIte (dTst (dOp eqD (dOp ixD (dVar 6) (dC (.int 1))) (dC (.str "here")))) (dVar 5) (dC (.int 0))) [5, 6])) (sSeq (sSet 7 (dCB listCO (dCons (dVar 4) (dNil)))) (sSeq (sSet 8 (dLstO (dNil))) (sSeq (sFor (iRevD (rg1 (dCB lenC (dCons (dVar 0) (dNil))))) (gNm 9) (sSeq (sSet 6 (dOp ixD (dVar 0) (dVar 9))) (sSeq (sSet 10 (dOp ixD (dVar 4) (dVar 9))) (sSeq (sIf (dTst (dOp eqD (dOp ixD (dVar 6) (dC (.int 0))) (dC (.str "made")))) (sSeq (sAsg (dOp ixD (dVar 6) (dC (.int 4))) (gTp 3 (gCo (gNm 11) (gCo (gNm 12) (gCo (gNm 13) (gNi)))))) (sSeq (sIf (dTst (dOp geD (dOp mulD (dC (.int 100)) (dVar 10)) (dOp mulD (dVar 11) (dOp ixD (dVar 3) (dVar 9))))) (sSeq (sExpr (dApp (dVar 8) (dC (.int 1)))) (sSet 10 (dIte (dTst (dOp eqD (dVar 12) (dC (.str "whole")))) (dOp ixD (dVar 3) (dVar 9)) (dVar 10)))) (sSeq (sExpr (dApp (dVar 8) (dC (.int 0)))) (sSet 10 (dIte (dTst (dOp eqD (dVar 13) (dC (.str "own")))) (dVar 10) (dC (.int 0)))))) (sAsg (dVar 10) (gSb (dVar 7) (dVar 9))))) (sNx)) (sIf (dTst (dOp gtD (dVar 9) (dC (.int 0)))) (sSeq (sSet 14 (dOp ixD (dVar 1) (dVar 9))) (sSeq (sAugS (fun i j => i + j) (dVar 3) (dVar 14) (dOp ixD (dVar 3) (dVar 9))) (sAugS (fun i j => i + j) (dVar 4) (dVar 14) (dVar 10)))) (sNx)))))) (sSeq (sExpr (dRvs (dVar 8))) (sRet (dTup (dCons (dVar 3) (dCons (dVar 4) (dCons (dVar 7) (dCons (dVar 8) (dNil))))))))))))
def Wsums_of (K : Fg) (c : Nat → Addr) : SpD := bodyD (Bsums_of K c) N_sums_of
theorem Esums_of {K : Fg} {c : Nat → Addr} {a0 a1 a2 : D} {M : Mem} {Q : QD} {Xd : XD} (h : (sSeq (sSet 3 (dCB listCO (dCons (dVar 2) (dNil)))) (sSeq (sSet 4 (dLcO (iZipMD (dVar 2) (dVar 0)) (gTp 2 (gCo (gNm 5) (gCo (gNm 6) (gNi)))) (tYesD) (dIte (dTst (dOp eqD (dOp ixD (dVar 6) (dC (.int 1))) (dC (.str "here")))) (dVar 5) (dC (.int 0))) [5, 6])) (sSeq (sSet 7 (dCB listCO (dCons (dVar 4) (dNil)))) (sSeq (sSet 8 (dLstO (dNil))) (sSeq (sFor (iRevD (rg1 (dCB lenC (dCons (dVar 0) (dNil))))) (gNm 9) (sSeq (sSet 6 (dOp ixD (dVar 0) (dVar 9))) (sSeq (sSet 10 (dOp ixD (dVar 4) (dVar 9))) (sSeq (sIf (dTst (dOp eqD (dOp ixD (dVar 6) (dC (.int 0))) (dC (.str "made")))) (sSeq (sAsg (dOp ixD (dVar 6) (dC (.int 4))) (gTp 3 (gCo (gNm 11) (gCo (gNm 12) (gCo (gNm 13) (gNi)))))) (sSeq (sIf (dTst (dOp geD (dOp mulD (dC (.int 100)) (dVar 10)) (dOp mulD (dVar 11) (dOp ixD (dVar 3) (dVar 9))))) (sSeq (sExpr (dApp (dVar 8) (dC (.int 1)))) (sSet 10 (dIte (dTst (dOp eqD (dVar 12) (dC (.str "whole")))) (dOp ixD (dVar 3) (dVar 9)) (dVar 10)))) (sSeq (sExpr (dApp (dVar 8) (dC (.int 0)))) (sSet 10 (dIte (dTst (dOp eqD (dVar 13) (dC (.str "own")))) (dVar 10) (dC (.int 0)))))) (sAsg (dVar 10) (gSb (dVar 7) (dVar 9))))) (sNx)) (sIf (dTst (dOp gtD (dVar 9) (dC (.int 0)))) (sSeq (sSet 14 (dOp ixD (dVar 1) (dVar 9))) (sSeq (sAugS (fun i j => i + j) (dVar 3) (dVar 14) (dOp ixD (dVar 3) (dVar 9))) (sAugS (fun i j => i + j) (dVar 4) (dVar 14) (dVar 10)))) (sNx)))))) (sSeq (sExpr (dRvs (dVar 8))) (sRet (dTup (dCons (dVar 3) (dCons (dVar 4) (dCons (dVar 7) (dCons (dVar 8) (dNil))))))))))))) ⟨fun _ M' => Lo Q .non M', Lo Q, fun _ _ => False, fun _ _ => False, Xd⟩ [some a0, some a1, some a2, none, none, none, none, none, none, none, none, none, none, none, none] M) : Wsums_of K c [a0, a1, a2] M Q Xd := h
def N__sums_at : List Str := ["good", "prices", "found", "wholes", "_", "unit", "spent", "own", "counting", "words"]
def B_sums_at (K : Fg) (c : Nat → Addr) : TSD := sSeq (sAsg (dCall (Wlook_over K c) [] (dCons (dVar 0) (dNil))) (gTp 4 (gCo (gNm 2) (gCo (gNm 3) (gCo (gNm 4) (gCo (gNm 4) (gNi))))))) (sSeq (sExpr (dCall (Wneed_prices K c) [] (dCons (dVar 2) (dCons (dVar 1) (dNil))))) (sSeq (sSet 5 (dCall (Wcommon_unit K c) [] (dCons (dVar 1) (dNil)))) (sSeq (sAsg (dCall (Wsums_of K c) [] (dCons (dVar 2) (dCons (dVar 3) (dCons (dCall (Win_units K c) [] (dCons (dVar 1) (dCons (dVar 5) (dNil)))) (dNil))))) (gTp 4 (gCo (gNm 6) (gCo (gNm 7) (gCo (gNm 8) (gCo (gNm 9) (gNi))))))) (sRet (dTup (dCons (dVar 6) (dCons (dVar 7) (dCons (dVar 8) (dCons (dVar 9) (dCons (dVar 5) (dNil)))))))))))
def W_sums_at (K : Fg) (c : Nat → Addr) : SpD := bodyD (B_sums_at K c) N__sums_at
theorem E_sums_at {K : Fg} {c : Nat → Addr} {a0 a1 : D} {M : Mem} {Q : QD} {Xd : XD} (h : (sSeq (sAsg (dCall (Wlook_over K c) [] (dCons (dVar 0) (dNil))) (gTp 4 (gCo (gNm 2) (gCo (gNm 3) (gCo (gNm 4) (gCo (gNm 4) (gNi))))))) (sSeq (sExpr (dCall (Wneed_prices K c) [] (dCons (dVar 2) (dCons (dVar 1) (dNil))))) (sSeq (sSet 5 (dCall (Wcommon_unit K c) [] (dCons (dVar 1) (dNil)))) (sSeq (sAsg (dCall (Wsums_of K c) [] (dCons (dVar 2) (dCons (dVar 3) (dCons (dCall (Win_units K c) [] (dCons (dVar 1) (dCons (dVar 5) (dNil)))) (dNil))))) (gTp 4 (gCo (gNm 6) (gCo (gNm 7) (gCo (gNm 8) (gCo (gNm 9) (gNi))))))) (sRet (dTup (dCons (dVar 6) (dCons (dVar 7) (dCons (dVar 8) (dCons (dVar 9) (dCons (dVar 5) (dNil)))))))))))) ⟨fun _ M' => Lo Q .non M', Lo Q, fun _ _ => False, fun _ _ => False, Xd⟩ [some a0, some a1, none, none, none, none, none, none, none, none] M) : W_sums_at K c [a0, a1] M Q Xd := h
def N_costs : List Str := ["good", "prices", "spent", "_", "unit"]
def Bcosts (K : Fg) (c : Nat → Addr) : TSD := sSeq (sAsg (dCall (W_sums_at K c) [] (dCons (dVar 0) (dCons (dVar 1) (dNil)))) (gTp 5 (gCo (gNm 2) (gCo (gNm 3) (gCo (gNm 3) (gCo (gNm 3) (gCo (gNm 4) (gNi)))))))) (sRet (dCall (Wfractions_of K c) [] (dCons (dVar 2) (dCons (dVar 4) (dNil)))))
def Wcosts (K : Fg) (c : Nat → Addr) : SpD := bodyD (Bcosts K c) N_costs
theorem Ecosts {K : Fg} {c : Nat → Addr} {a0 a1 : D} {M : Mem} {Q : QD} {Xd : XD} (h : (sSeq (sAsg (dCall (W_sums_at K c) [] (dCons (dVar 0) (dCons (dVar 1) (dNil)))) (gTp 5 (gCo (gNm 2) (gCo (gNm 3) (gCo (gNm 3) (gCo (gNm 3) (gCo (gNm 4) (gNi)))))))) (sRet (dCall (Wfractions_of K c) [] (dCons (dVar 2) (dCons (dVar 4) (dNil)))))) ⟨fun _ M' => Lo Q .non M', Lo Q, fun _ _ => False, fun _ _ => False, Xd⟩ [some a0, some a1, none, none, none] M) : Wcosts K c [a0, a1] M Q Xd := h
def N_owns : List Str := ["good", "prices", "_", "own", "unit"]
def Bowns (K : Fg) (c : Nat → Addr) : TSD := sSeq (sAsg (dCall (W_sums_at K c) [] (dCons (dVar 0) (dCons (dVar 1) (dNil)))) (gTp 5 (gCo (gNm 2) (gCo (gNm 3) (gCo (gNm 2) (gCo (gNm 2) (gCo (gNm 4) (gNi)))))))) (sRet (dCall (Wfractions_of K c) [] (dCons (dVar 3) (dCons (dVar 4) (dNil)))))
def Wowns (K : Fg) (c : Nat → Addr) : SpD := bodyD (Bowns K c) N_owns
theorem Eowns {K : Fg} {c : Nat → Addr} {a0 a1 : D} {M : Mem} {Q : QD} {Xd : XD} (h : (sSeq (sAsg (dCall (W_sums_at K c) [] (dCons (dVar 0) (dCons (dVar 1) (dNil)))) (gTp 5 (gCo (gNm 2) (gCo (gNm 3) (gCo (gNm 2) (gCo (gNm 2) (gCo (gNm 4) (gNi)))))))) (sRet (dCall (Wfractions_of K c) [] (dCons (dVar 3) (dCons (dVar 4) (dNil)))))) ⟨fun _ M' => Lo Q .non M', Lo Q, fun _ _ => False, fun _ _ => False, Xd⟩ [some a0, some a1, none, none, none] M) : Wowns K c [a0, a1] M Q Xd := h
def N_words_at : List Str := ["good", "prices", "_", "words"]
def Bwords_at (K : Fg) (c : Nat → Addr) : TSD := sSeq (sAsg (dCall (W_sums_at K c) [] (dCons (dVar 0) (dCons (dVar 1) (dNil)))) (gTp 5 (gCo (gNm 2) (gCo (gNm 2) (gCo (gNm 2) (gCo (gNm 3) (gCo (gNm 2) (gNi)))))))) (sRet (dCB tupleC (dCons (dVar 3) (dNil))))
def Wwords_at (K : Fg) (c : Nat → Addr) : SpD := bodyD (Bwords_at K c) N_words_at
theorem Ewords_at {K : Fg} {c : Nat → Addr} {a0 a1 : D} {M : Mem} {Q : QD} {Xd : XD} (h : (sSeq (sAsg (dCall (W_sums_at K c) [] (dCons (dVar 0) (dCons (dVar 1) (dNil)))) (gTp 5 (gCo (gNm 2) (gCo (gNm 2) (gCo (gNm 2) (gCo (gNm 3) (gCo (gNm 2) (gNi)))))))) (sRet (dCB tupleC (dCons (dVar 3) (dNil))))) ⟨fun _ M' => Lo Q .non M', Lo Q, fun _ _ => False, fun _ _ => False, Xd⟩ [some a0, some a1, none, none] M) : Wwords_at K c [a0, a1] M Q Xd := h
def N_portion : List Str := ["good", "prices", "spent", "own", "_"]
def Bportion (K : Fg) (c : Nat → Addr) : TSD := sSeq (sAsg (dCall (W_sums_at K c) [] (dCons (dVar 0) (dCons (dVar 1) (dNil)))) (gTp 5 (gCo (gNm 2) (gCo (gNm 3) (gCo (gNm 4) (gCo (gNm 4) (gCo (gNm 4) (gNi)))))))) (sRet (dCall (Wlowest_terms K c) [] (dCons (dOp ixD (dVar 3) (dC (.int 0))) (dCons (dOp ixD (dVar 2) (dC (.int 0))) (dNil)))))
def Wportion (K : Fg) (c : Nat → Addr) : SpD := bodyD (Bportion K c) N_portion
theorem Eportion {K : Fg} {c : Nat → Addr} {a0 a1 : D} {M : Mem} {Q : QD} {Xd : XD} (h : (sSeq (sAsg (dCall (W_sums_at K c) [] (dCons (dVar 0) (dCons (dVar 1) (dNil)))) (gTp 5 (gCo (gNm 2) (gCo (gNm 3) (gCo (gNm 4) (gCo (gNm 4) (gCo (gNm 4) (gNi)))))))) (sRet (dCall (Wlowest_terms K c) [] (dCons (dOp ixD (dVar 3) (dC (.int 0))) (dCons (dOp ixD (dVar 2) (dC (.int 0))) (dNil)))))) ⟨fun _ M' => Lo Q .non M', Lo Q, fun _ _ => False, fun _ _ => False, Xd⟩ [some a0, some a1, none, none, none] M) : Wportion K c [a0, a1] M Q Xd := h
def N__law_begun : List Str := ["script", "great", "cell"]
def B_law_begun (K : Fg) (c : Nat → Addr) : TSD := sSeq (sSet 1 (dLc (iSeqD (dVar 0)) (gNm 2) (dTst (dOp geD (dVar 2) (dOp powD (dC (.int 10)) (dC (.int 18))))) (dVar 2) [2])) (sRet (dDct [(.inr "cells", dOp addD (dCB listC (dCons (dVar 0) (dNil))) (dLst (dCons (dCB lenC (dCons (dVar 0) (dNil))) (dNil)))), (.inr "left", dIte (dTst (dOp neD (dVar 1) (dLst (dNil)))) (dOp ixD (dVar 1) (dC (.int 0))) (dC (.int 0))), (.inr "spot", dC (.int 0))]))
def W_law_begun (K : Fg) (c : Nat → Addr) : SpD := bodyD (B_law_begun K c) N__law_begun
theorem E_law_begun {K : Fg} {c : Nat → Addr} {a0 : D} {M : Mem} {Q : QD} {Xd : XD} (h : (sSeq (sSet 1 (dLc (iSeqD (dVar 0)) (gNm 2) (dTst (dOp geD (dVar 2) (dOp powD (dC (.int 10)) (dC (.int 18))))) (dVar 2) [2])) (sRet (dDct [(.inr "cells", dOp addD (dCB listC (dCons (dVar 0) (dNil))) (dLst (dCons (dCB lenC (dCons (dVar 0) (dNil))) (dNil)))), (.inr "left", dIte (dTst (dOp neD (dVar 1) (dLst (dNil)))) (dOp ixD (dVar 1) (dC (.int 0))) (dC (.int 0))), (.inr "spot", dC (.int 0))]))) ⟨fun _ M' => Lo Q .non M', Lo Q, fun _ _ => False, fun _ _ => False, Xd⟩ [some a0, none, none] M) : W_law_begun K c [a0] M Q Xd := h
def N__law_draw : List Str := ["m", "limit", "found", "spot", "cell", "mixed"]
def B_law_draw (K : Fg) (c : Nat → Addr) : TSD := sSeq (sIf (dTst (dOp gtD (dOp ixD (dVar 0) (dC (.str "left"))) (dC (.int 0)))) (sSeq (sSet 2 (dOp modD (dCB intC (dCons (dOp ixD (dVar 0) (dC (.str "left"))) (dNil))) (dVar 1))) (sSeq (sAsg (dOp fdivD (dOp ixD (dVar 0) (dC (.str "left"))) (dVar 1)) (gSb (dVar 0) (dC (.str "left")))) (sRet (dVar 2)))) (sNx)) (sSeq (sSet 3 (dOp addD (dOp ixD (dVar 0) (dC (.str "spot"))) (dC (.int 1)))) (sSeq (sAsg (dVar 3) (gSb (dVar 0) (dC (.str "spot")))) (sSeq (sSet 4 (dOp ixD (dOp ixD (dVar 0) (dC (.str "cells"))) (dOp modD (dCB intC (dCons (dVar 3) (dNil))) (dCB lenC (dCons (dOp ixD (dVar 0) (dC (.str "cells"))) (dNil)))))) (sSeq (sSet 5 (dOp mulD (dCB intC (dCons (dOp addD (dOp addD (dOp modD (dCB intC (dCons (dVar 4) (dNil))) (dC (.int 2147483629))) (dOp mulD (dC (.int 6133)) (dVar 3))) (dOp mulD (dOp mulD (dC (.int 23)) (dVar 3)) (dVar 3))) (dNil))) (dC (.int 48271)))) (sSeq (sSet 5 (dOp mulD (dCB intC (dCons (dOp addD (dOp modD (dCB intC (dCons (dVar 5) (dNil))) (dC (.int 2147483647))) (dOp mulD (dC (.int 93241)) (dVar 3))) (dNil))) (dC (.int 69621)))) (sRet (dOp modD (dCB intC (dCons (dOp fdivD (dOp modD (dCB intC (dCons (dVar 5) (dNil))) (dC (.int 2147483587))) (dC (.int 13))) (dNil))) (dVar 1))))))))
def W_law_draw (K : Fg) (c : Nat → Addr) : SpD := bodyD (B_law_draw K c) N__law_draw
def N__law_of : List Str := ["m", "some"]
def B_law_of (K : Fg) (c : Nat → Addr) : TSD := sRet (dOp ixD (dVar 1) (dCall (W_law_draw K c) [] (dCons (dVar 0) (dCons (dCB lenC (dCons (dVar 1) (dNil))) (dNil)))))
def W_law_of (K : Fg) (c : Nat → Addr) : SpD := bodyD (B_law_of K c) N__law_of
theorem E_law_of {K : Fg} {c : Nat → Addr} {a0 a1 : D} {M : Mem} {Q : QD} {Xd : XD} (h : (sRet (dOp ixD (dVar 1) (dCall (W_law_draw K c) [] (dCons (dVar 0) (dCons (dCB lenC (dCons (dVar 1) (dNil))) (dNil)))))) ⟨fun _ M' => Lo Q .non M', Lo Q, fun _ _ => False, fun _ _ => False, Xd⟩ [some a0, some a1] M) : W_law_of K c [a0, a1] M Q Xd := h
def N__law_span : List Str := ["m", "left", "low"]
def B_law_span (K : Fg) (c : Nat → Addr) : TSD := sSeq (sSet 2 (dCall (W_law_of K c) [] (dCons (dVar 0) (dCons (dLst (dCons (dC (.int 0)) (dCons (dC (.int 1)) (dCons (dC (.int 2)) (dCons (dC (.int 5)) (dCons (dC (.int 10)) (dCons (dCall (W_law_draw K c) [] (dCons (dVar 0) (dCons (dC (.int 50)) (dNil)))) (dCons (dCall (W_law_draw K c) [] (dCons (dVar 0) (dCons (dOp subD (dOp powD (dC (.int 10)) (dC (.int 6))) (dC (.int 40))) (dNil)))) (dNil))))))))) (dNil))))) (sSeq (sIf (tOrD (dTst (dOp eqD (dOp ixD (dVar 1) (dC (.str "moves"))) (dC (.int 0)))) (dTst (dOp eqD (dCall (W_law_draw K c) [] (dCons (dVar 0) (dCons (dC (.int 2)) (dNil)))) (dC (.int 0))))) (sRet (dTup (dCons (dVar 2) (dCons (dVar 2) (dNil))))) (sNx)) (sSeq (sAsg (dOp subD (dOp ixD (dVar 1) (dC (.str "moves"))) (dC (.int 1))) (gSb (dVar 1) (dC (.str "moves")))) (sRet (dTup (dCons (dVar 2) (dCons (dOp addD (dOp addD (dVar 2) (dC (.int 1))) (dCall (W_law_of K c) [] (dCons (dVar 0) (dCons (dLst (dCons (dC (.int 0)) (dCons (dC (.int 1)) (dCons (dCall (W_law_draw K c) [] (dCons (dVar 0) (dCons (dC (.int 30)) (dNil)))) (dNil))))) (dNil))))) (dNil)))))))
def W_law_span (K : Fg) (c : Nat → Addr) : SpD := bodyD (B_law_span K c) N__law_span
theorem E_law_span {K : Fg} {c : Nat → Addr} {a0 a1 : D} {M : Mem} {Q : QD} {Xd : XD} (h : (sSeq (sSet 2 (dCall (W_law_of K c) [] (dCons (dVar 0) (dCons (dLst (dCons (dC (.int 0)) (dCons (dC (.int 1)) (dCons (dC (.int 2)) (dCons (dC (.int 5)) (dCons (dC (.int 10)) (dCons (dCall (W_law_draw K c) [] (dCons (dVar 0) (dCons (dC (.int 50)) (dNil)))) (dCons (dCall (W_law_draw K c) [] (dCons (dVar 0) (dCons (dOp subD (dOp powD (dC (.int 10)) (dC (.int 6))) (dC (.int 40))) (dNil)))) (dNil))))))))) (dNil))))) (sSeq (sIf (tOrD (dTst (dOp eqD (dOp ixD (dVar 1) (dC (.str "moves"))) (dC (.int 0)))) (dTst (dOp eqD (dCall (W_law_draw K c) [] (dCons (dVar 0) (dCons (dC (.int 2)) (dNil)))) (dC (.int 0))))) (sRet (dTup (dCons (dVar 2) (dCons (dVar 2) (dNil))))) (sNx)) (sSeq (sAsg (dOp subD (dOp ixD (dVar 1) (dC (.str "moves"))) (dC (.int 1))) (gSb (dVar 1) (dC (.str "moves")))) (sRet (dTup (dCons (dVar 2) (dCons (dOp addD (dOp addD (dVar 2) (dC (.int 1))) (dCall (W_law_of K c) [] (dCons (dVar 0) (dCons (dLst (dCons (dC (.int 0)) (dCons (dC (.int 1)) (dCons (dCall (W_law_draw K c) [] (dCons (dVar 0) (dCons (dC (.int 30)) (dNil)))) (dNil))))) (dNil))))) (dNil)))))))) ⟨fun _ M' => Lo Q .non M', Lo Q, fun _ _ => False, fun _ _ => False, Xd⟩ [some a0, some a1, none] M) : W_law_span K c [a0, a1] M Q Xd := h
def N__law_term : List Str := ["m", "share"]
def B_law_term (K : Fg) (c : Nat → Addr) : TSD := sSeq (sSet 1 (dCall (W_law_of K c) [] (dCons (dVar 0) (dCons (dLst (dCons (dC (.int 0)) (dCons (dC (.int 30)) (dCons (dC (.int 50)) (dCons (dC (.int 60)) (dCons (dC (.int 100)) (dCons (dCall (W_law_draw K c) [] (dCons (dVar 0) (dCons (dC (.int 101)) (dNil)))) (dNil)))))))) (dNil))))) (sRet (dTup (dCons (dVar 1) (dCons (dCall (W_law_of K c) [] (dCons (dVar 0) (dCons (dLst (dCons (dC (.str "whole")) (dCons (dC (.str "whole")) (dCons (dC (.str "own")) (dNil))))) (dNil)))) (dCons (dCall (W_law_of K c) [] (dCons (dVar 0) (dCons (dLst (dCons (dC (.str "own")) (dCons (dC (.str "own")) (dCons (dC (.str "none")) (dNil))))) (dNil)))) (dNil))))))
def W_law_term (K : Fg) (c : Nat → Addr) : SpD := bodyD (B_law_term K c) N__law_term
theorem E_law_term {K : Fg} {c : Nat → Addr} {a0 : D} {M : Mem} {Q : QD} {Xd : XD} (h : (sSeq (sSet 1 (dCall (W_law_of K c) [] (dCons (dVar 0) (dCons (dLst (dCons (dC (.int 0)) (dCons (dC (.int 30)) (dCons (dC (.int 50)) (dCons (dC (.int 60)) (dCons (dC (.int 100)) (dCons (dCall (W_law_draw K c) [] (dCons (dVar 0) (dCons (dC (.int 101)) (dNil)))) (dNil)))))))) (dNil))))) (sRet (dTup (dCons (dVar 1) (dCons (dCall (W_law_of K c) [] (dCons (dVar 0) (dCons (dLst (dCons (dC (.str "whole")) (dCons (dC (.str "whole")) (dCons (dC (.str "own")) (dNil))))) (dNil)))) (dCons (dCall (W_law_of K c) [] (dCons (dVar 0) (dCons (dLst (dCons (dC (.str "own")) (dCons (dC (.str "own")) (dCons (dC (.str "none")) (dNil))))) (dNil)))) (dNil))))))) ⟨fun _ M' => Lo Q .non M', Lo Q, fun _ _ => False, fun _ _ => False, Xd⟩ [some a0, none] M) : W_law_term K c [a0] M Q Xd := h
def N__law_thing : List Str := ["m", "left", "must", "low", "high", "land", "size", "rows", "k"]
def B_law_thing (K : Fg) (c : Nat → Addr) (self : SpD) : TSD := sSeq (sAsg (dCall (W_law_span K c) [] (dCons (dVar 0) (dCons (dVar 1) (dNil)))) (gTp 2 (gCo (gNm 3) (gCo (gNm 4) (gNi))))) (sSeq (sSet 5 (dCall (W_law_of K c) [] (dCons (dVar 0) (dCons (dLst (dCons (dC (.str "here")) (dCons (dC (.str "away")) (dNil)))) (dNil))))) (sSeq (sIf (tAndD (tNotD (dTru (dVar 2))) (tOrD (dTst (dOp eqD (dOp ixD (dVar 1) (dC (.str "steps"))) (dC (.int 0)))) (tOrD (dTst (dOp eqD (dOp ixD (dVar 1) (dC (.str "things"))) (dC (.int 0)))) (dTst (dOp gtD (dCall (W_law_draw K c) [] (dCons (dVar 0) (dCons (dC (.int 3)) (dNil)))) (dC (.int 0))))))) (sRet (dTup (dCons (dC (.str "raw")) (dCons (dVar 5) (dCons (dVar 3) (dCons (dVar 4) (dNil))))))) (sNx)) (sSeq (sAsg (dOp subD (dOp ixD (dVar 1) (dC (.str "steps"))) (dC (.int 1))) (gSb (dVar 1) (dC (.str "steps")))) (sSeq (sSet 6 (dOp addD (dC (.int 1)) (dCall (W_law_draw K c) [] (dCons (dVar 0) (dCons (dCB (int2C (fun i j => if j < i then j else i)) (dCons (dC (.int 3)) (dCons (dOp ixD (dVar 1) (dC (.str "things"))) (dNil)))) (dNil)))))) (sSeq (sAsg (dTup (dCons (dOp subD (dOp ixD (dVar 1) (dC (.str "things"))) (dVar 6)) (dCons (dLstO (dNil)) (dNil)))) (gTp 2 (gCo (gSb (dVar 1) (dC (.str "things"))) (gCo (gNm 7) (gNi))))) (sSeq (sFor (iRngD (dCons (dVar 6) (dNil))) (gNm 8) (sExpr (dApp (dVar 7) (dCall self [] (dCons (dVar 0) (dCons (dVar 1) (dCons (dC (.bl false)) (dNil)))))))) (sRet (dTup (dCons (dC (.str "made")) (dCons (dVar 5) (dCons (dVar 3) (dCons (dVar 4) (dCons (dCall (W_law_term K c) [] (dCons (dVar 0) (dNil))) (dCons (dCB tupleC (dCons (dVar 7) (dNil))) (dNil)))))))))))))))
def W_law_thing (K : Fg) (c : Nat → Addr) : Nat → SpD
  | 0 => fun _ _ _ _ => False
  | n + 1 => bodyD (B_law_thing K c (W_law_thing K c n)) N__law_thing
theorem E_law_thing {K : Fg} {c : Nat → Addr} {a0 a1 a2 : D} {n : Nat} {M : Mem} {Q : QD} {Xd : XD} (h : (sSeq (sAsg (dCall (W_law_span K c) [] (dCons (dVar 0) (dCons (dVar 1) (dNil)))) (gTp 2 (gCo (gNm 3) (gCo (gNm 4) (gNi))))) (sSeq (sSet 5 (dCall (W_law_of K c) [] (dCons (dVar 0) (dCons (dLst (dCons (dC (.str "here")) (dCons (dC (.str "away")) (dNil)))) (dNil))))) (sSeq (sIf (tAndD (tNotD (dTru (dVar 2))) (tOrD (dTst (dOp eqD (dOp ixD (dVar 1) (dC (.str "steps"))) (dC (.int 0)))) (tOrD (dTst (dOp eqD (dOp ixD (dVar 1) (dC (.str "things"))) (dC (.int 0)))) (dTst (dOp gtD (dCall (W_law_draw K c) [] (dCons (dVar 0) (dCons (dC (.int 3)) (dNil)))) (dC (.int 0))))))) (sRet (dTup (dCons (dC (.str "raw")) (dCons (dVar 5) (dCons (dVar 3) (dCons (dVar 4) (dNil))))))) (sNx)) (sSeq (sAsg (dOp subD (dOp ixD (dVar 1) (dC (.str "steps"))) (dC (.int 1))) (gSb (dVar 1) (dC (.str "steps")))) (sSeq (sSet 6 (dOp addD (dC (.int 1)) (dCall (W_law_draw K c) [] (dCons (dVar 0) (dCons (dCB (int2C (fun i j => if j < i then j else i)) (dCons (dC (.int 3)) (dCons (dOp ixD (dVar 1) (dC (.str "things"))) (dNil)))) (dNil)))))) (sSeq (sAsg (dTup (dCons (dOp subD (dOp ixD (dVar 1) (dC (.str "things"))) (dVar 6)) (dCons (dLstO (dNil)) (dNil)))) (gTp 2 (gCo (gSb (dVar 1) (dC (.str "things"))) (gCo (gNm 7) (gNi))))) (sSeq (sFor (iRngD (dCons (dVar 6) (dNil))) (gNm 8) (sExpr (dApp (dVar 7) (dCall (W_law_thing K c n) [] (dCons (dVar 0) (dCons (dVar 1) (dCons (dC (.bl false)) (dNil)))))))) (sRet (dTup (dCons (dC (.str "made")) (dCons (dVar 5) (dCons (dVar 3) (dCons (dVar 4) (dCons (dCall (W_law_term K c) [] (dCons (dVar 0) (dNil))) (dCons (dCB tupleC (dCons (dVar 7) (dNil))) (dNil)))))))))))))))) ⟨fun _ M' => Lo Q .non M', Lo Q, fun _ _ => False, fun _ _ => False, Xd⟩ [some a0, some a1, some a2, none, none, none, none, none, none] M) : W_law_thing K c (n + 1) [a0, a1, a2] M Q Xd := h
def N__law_good : List Str := ["m", "moving", "making", "left", "found"]
def B_law_good (K : Fg) (c : Nat → Addr) : TSD := sSeq (sSet 3 (dDct [(.inr "moves", dCall (W_law_draw K c) [] (dCons (dVar 0) (dCons (dOp addD (dVar 1) (dC (.int 1))) (dNil)))), (.inr "steps", dOp addD (dC (.int 1)) (dCall (W_law_draw K c) [] (dCons (dVar 0) (dCons (dVar 2) (dNil))))), (.inr "things", dC (.int 9))])) (sSeq (sSet 4 (dCall (W_law_thing K c 8) [] (dCons (dVar 0) (dCons (dVar 3) (dCons (dC (.bl true)) (dNil)))))) (sRet (dOp addD (dOp addD (dSl (dVar 4) (oNo) (oSo (dC (.int 2)))) (dTup (dCons (dCB (int2C (fun i j => if j > i then j else i)) (dCons (dC (.int 1)) (dCons (dOp ixD (dVar 4) (dC (.int 2))) (dNil)))) (dCons (dCB (int2C (fun i j => if j > i then j else i)) (dCons (dC (.int 1)) (dCons (dOp ixD (dVar 4) (dC (.int 3))) (dNil)))) (dNil))))) (dSl (dVar 4) (oSo (dC (.int 4))) (oNo)))))
def W_law_good (K : Fg) (c : Nat → Addr) : SpD := bodyD (B_law_good K c) N__law_good
theorem E_law_good {K : Fg} {c : Nat → Addr} {a0 a1 a2 : D} {M : Mem} {Q : QD} {Xd : XD} (h : (sSeq (sSet 3 (dDct [(.inr "moves", dCall (W_law_draw K c) [] (dCons (dVar 0) (dCons (dOp addD (dVar 1) (dC (.int 1))) (dNil)))), (.inr "steps", dOp addD (dC (.int 1)) (dCall (W_law_draw K c) [] (dCons (dVar 0) (dCons (dVar 2) (dNil))))), (.inr "things", dC (.int 9))])) (sSeq (sSet 4 (dCall (W_law_thing K c 8) [] (dCons (dVar 0) (dCons (dVar 3) (dCons (dC (.bl true)) (dNil)))))) (sRet (dOp addD (dOp addD (dSl (dVar 4) (oNo) (oSo (dC (.int 2)))) (dTup (dCons (dCB (int2C (fun i j => if j > i then j else i)) (dCons (dC (.int 1)) (dCons (dOp ixD (dVar 4) (dC (.int 2))) (dNil)))) (dCons (dCB (int2C (fun i j => if j > i then j else i)) (dCons (dC (.int 1)) (dCons (dOp ixD (dVar 4) (dC (.int 3))) (dNil)))) (dNil))))) (dSl (dVar 4) (oSo (dC (.int 4))) (oNo)))))) ⟨fun _ M' => Lo Q .non M', Lo Q, fun _ _ => False, fun _ _ => False, Xd⟩ [some a0, some a1, some a2, none, none] M) : W_law_good K c [a0, a1, a2] M Q Xd := h
def N__law_rows : List Str := ["thing", "begin", "found", "numbers", "part"]
def B_law_rows (K : Fg) (c : Nat → Addr) (self : SpD) : TSD := sSeq (sPar 2 3 (dCons (dLst (dNil)) (dCons (dLst (dNil)) (dNil)))) (sSeq (sFor (iSeqD (dIte (dTst (dOp eqD (dOp ixD (dVar 0) (dC (.int 0))) (dC (.str "made")))) (dOp ixD (dVar 0) (dC (.int 5))) (dTup (dNil)))) (gNm 4) (sSeq (sSet 3 (dOp addD (dVar 3) (dLst (dCons (dOp addD (dOp addD (dVar 1) (dC (.int 1))) (dCB lenC (dCons (dVar 2) (dNil)))) (dNil))))) (sSet 2 (dOp addD (dVar 2) (dCall self [] (dCons (dVar 4) (dCons (dOp addD (dOp addD (dVar 1) (dC (.int 1))) (dCB lenC (dCons (dVar 2) (dNil)))) (dNil)))))))) (sRet (dOp addD (dLst (dCons (dTup (dCons (dVar 0) (dCons (dVar 3) (dNil)))) (dNil))) (dVar 2))))
def W_law_rows (K : Fg) (c : Nat → Addr) : Nat → SpD
  | 0 => fun _ _ _ _ => False
  | n + 1 => bodyD (B_law_rows K c (W_law_rows K c n)) N__law_rows
theorem E_law_rows {K : Fg} {c : Nat → Addr} {a0 a1 : D} {n : Nat} {M : Mem} {Q : QD} {Xd : XD} (h : (sSeq (sPar 2 3 (dCons (dLst (dNil)) (dCons (dLst (dNil)) (dNil)))) (sSeq (sFor (iSeqD (dIte (dTst (dOp eqD (dOp ixD (dVar 0) (dC (.int 0))) (dC (.str "made")))) (dOp ixD (dVar 0) (dC (.int 5))) (dTup (dNil)))) (gNm 4) (sSeq (sSet 3 (dOp addD (dVar 3) (dLst (dCons (dOp addD (dOp addD (dVar 1) (dC (.int 1))) (dCB lenC (dCons (dVar 2) (dNil)))) (dNil))))) (sSet 2 (dOp addD (dVar 2) (dCall (W_law_rows K c n) [] (dCons (dVar 4) (dCons (dOp addD (dOp addD (dVar 1) (dC (.int 1))) (dCB lenC (dCons (dVar 2) (dNil)))) (dNil)))))))) (sRet (dOp addD (dLst (dCons (dTup (dCons (dVar 0) (dCons (dVar 3) (dNil)))) (dNil))) (dVar 2))))) ⟨fun _ M' => Lo Q .non M', Lo Q, fun _ _ => False, fun _ _ => False, Xd⟩ [some a0, some a1, none, none, none] M) : W_law_rows K c (n + 1) [a0, a1] M Q Xd := h
def N__law_least : List Str := ["part", "of", "one", "two", "sign"]
def B_law_least (K : Fg) (c : Nat → Addr) : TSD := sSeq (sPar 2 3 (dCons (dCB absC (dCons (dVar 0) (dNil))) (dCons (dCB absC (dCons (dVar 1) (dNil))) (dNil)))) (sSeq (sWhile (dTst (dOp neD (dVar 3) (dC (.int 0)))) (sPar 2 3 (dCons (dVar 3) (dCons (dOp modD (dCB intC (dCons (dVar 2) (dNil))) (dVar 3)) (dNil))))) (sSeq (sSet 4 (dIte (dTst (dOp gtD (dVar 1) (dC (.int 0)))) (dC (.int 1)) (dNeg (dC (.int 1))))) (sRet (dTup (dCons (dOp fdivD (dOp mulD (dVar 4) (dVar 0)) (dVar 2)) (dCons (dOp fdivD (dOp mulD (dVar 4) (dVar 1)) (dVar 2)) (dNil)))))))
def W_law_least (K : Fg) (c : Nat → Addr) : SpD := bodyD (B_law_least K c) N__law_least
theorem E_law_least {K : Fg} {c : Nat → Addr} {a0 a1 : D} {M : Mem} {Q : QD} {Xd : XD} (h : (sSeq (sPar 2 3 (dCons (dCB absC (dCons (dVar 0) (dNil))) (dCons (dCB absC (dCons (dVar 1) (dNil))) (dNil)))) (sSeq (sWhile (dTst (dOp neD (dVar 3) (dC (.int 0)))) (sPar 2 3 (dCons (dVar 3) (dCons (dOp modD (dCB intC (dCons (dVar 2) (dNil))) (dVar 3)) (dNil))))) (sSeq (sSet 4 (dIte (dTst (dOp gtD (dVar 1) (dC (.int 0)))) (dC (.int 1)) (dNeg (dC (.int 1))))) (sRet (dTup (dCons (dOp fdivD (dOp mulD (dVar 4) (dVar 0)) (dVar 2)) (dCons (dOp fdivD (dOp mulD (dVar 4) (dVar 1)) (dVar 2)) (dNil)))))))) ⟨fun _ M' => Lo Q .non M', Lo Q, fun _ _ => False, fun _ _ => False, Xd⟩ [some a0, some a1, none, none, none] M) : W_law_least K c [a0, a1] M Q Xd := h
def N__law_sum : List Str := ["some", "part", "of", "one"]
def B_law_sum (K : Fg) (c : Nat → Addr) : TSD := sSeq (sAsg (dTup (dCons (dC (.int 0)) (dCons (dC (.int 1)) (dNil)))) (gTp 2 (gCo (gNm 1) (gCo (gNm 2) (gNi))))) (sSeq (sFor (iSeqD (dVar 0)) (gNm 3) (sPar 1 2 (dCons (dOp addD (dOp mulD (dVar 1) (dOp ixD (dVar 3) (dC (.int 1)))) (dOp mulD (dOp ixD (dVar 3) (dC (.int 0))) (dVar 2))) (dCons (dOp mulD (dVar 2) (dOp ixD (dVar 3) (dC (.int 1)))) (dNil))))) (sRet (dCall (W_law_least K c) [] (dCons (dVar 1) (dCons (dVar 2) (dNil))))))
def W_law_sum (K : Fg) (c : Nat → Addr) : SpD := bodyD (B_law_sum K c) N__law_sum
theorem E_law_sum {K : Fg} {c : Nat → Addr} {a0 : D} {M : Mem} {Q : QD} {Xd : XD} (h : (sSeq (sAsg (dTup (dCons (dC (.int 0)) (dCons (dC (.int 1)) (dNil)))) (gTp 2 (gCo (gNm 1) (gCo (gNm 2) (gNi))))) (sSeq (sFor (iSeqD (dVar 0)) (gNm 3) (sPar 1 2 (dCons (dOp addD (dOp mulD (dVar 1) (dOp ixD (dVar 3) (dC (.int 1)))) (dOp mulD (dOp ixD (dVar 3) (dC (.int 0))) (dVar 2))) (dCons (dOp mulD (dVar 2) (dOp ixD (dVar 3) (dC (.int 1)))) (dNil))))) (sRet (dCall (W_law_least K c) [] (dCons (dVar 1) (dCons (dVar 2) (dNil))))))) ⟨fun _ M' => Lo Q .non M', Lo Q, fun _ _ => False, fun _ _ => False, Xd⟩ [some a0, none, none, none] M) : W_law_sum K c [a0] M Q Xd := h
def N__law_prices : List Str := ["m", "good", "found", "thing", "numbers", "low", "high", "of", "part"]
def B_law_prices (K : Fg) (c : Nat → Addr) : TSD := sSeq (sSet 2 (dLstO (dNil))) (sSeq (sFor (iSeqD (dCall (W_law_rows K c 8) [] (dCons (dVar 1) (dCons (dC (.int 0)) (dNil))))) (gTp 2 (gCo (gNm 3) (gCo (gNm 4) (gNi)))) (sSeq (sPar 5 6 (dCons (dOp ixD (dVar 3) (dC (.int 2))) (dCons (dOp ixD (dVar 3) (dC (.int 3))) (dNil)))) (sSeq (sSet 7 (dCall (W_law_of K c) [] (dCons (dVar 0) (dCons (dLst (dCons (dC (.int 1)) (dCons (dC (.int 1)) (dCons (dC (.int 2)) (dCons (dC (.int 3)) (dCons (dC (.int 7)) (dCons (dC (.int 100)) (dNil)))))))) (dNil))))) (sSeq (sSet 8 (dCall (W_law_of K c) [] (dCons (dVar 0) (dCons (dLst (dCons (dC (.int 0)) (dCons (dOp mulD (dOp subD (dVar 6) (dVar 5)) (dVar 7)) (dCons (dCall (W_law_draw K c) [] (dCons (dVar 0) (dCons (dOp addD (dOp mulD (dOp subD (dVar 6) (dVar 5)) (dVar 7)) (dC (.int 1))) (dNil)))) (dNil))))) (dNil))))) (sExpr (dApp (dVar 2) (dCall (W_law_least K c) [] (dCons (dOp addD (dOp mulD (dVar 5) (dVar 7)) (dVar 8)) (dCons (dVar 7) (dNil)))))))))) (sRet (dCB tupleC (dCons (dVar 2) (dNil)))))
def W_law_prices (K : Fg) (c : Nat → Addr) : SpD := bodyD (B_law_prices K c) N__law_prices
theorem E_law_prices {K : Fg} {c : Nat → Addr} {a0 a1 : D} {M : Mem} {Q : QD} {Xd : XD} (h : (sSeq (sSet 2 (dLstO (dNil))) (sSeq (sFor (iSeqD (dCall (W_law_rows K c 8) [] (dCons (dVar 1) (dCons (dC (.int 0)) (dNil))))) (gTp 2 (gCo (gNm 3) (gCo (gNm 4) (gNi)))) (sSeq (sPar 5 6 (dCons (dOp ixD (dVar 3) (dC (.int 2))) (dCons (dOp ixD (dVar 3) (dC (.int 3))) (dNil)))) (sSeq (sSet 7 (dCall (W_law_of K c) [] (dCons (dVar 0) (dCons (dLst (dCons (dC (.int 1)) (dCons (dC (.int 1)) (dCons (dC (.int 2)) (dCons (dC (.int 3)) (dCons (dC (.int 7)) (dCons (dC (.int 100)) (dNil)))))))) (dNil))))) (sSeq (sSet 8 (dCall (W_law_of K c) [] (dCons (dVar 0) (dCons (dLst (dCons (dC (.int 0)) (dCons (dOp mulD (dOp subD (dVar 6) (dVar 5)) (dVar 7)) (dCons (dCall (W_law_draw K c) [] (dCons (dVar 0) (dCons (dOp addD (dOp mulD (dOp subD (dVar 6) (dVar 5)) (dVar 7)) (dC (.int 1))) (dNil)))) (dNil))))) (dNil))))) (sExpr (dApp (dVar 2) (dCall (W_law_least K c) [] (dCons (dOp addD (dOp mulD (dVar 5) (dVar 7)) (dVar 8)) (dCons (dVar 7) (dNil)))))))))) (sRet (dCB tupleC (dCons (dVar 2) (dNil)))))) ⟨fun _ M' => Lo Q .non M', Lo Q, fun _ _ => False, fun _ _ => False, Xd⟩ [some a0, some a1, none, none, none, none, none, none, none] M) : W_law_prices K c [a0, a1] M Q Xd := h
def N__law_made : List Str := ["thing", "change", "part"]
def B_law_made (K : Fg) (c : Nat → Addr) (S : D → SpD → Prop) (self : SpD) : TSD := sSeq (sIf (dTst (dOp eqD (dOp ixD (dVar 0) (dC (.int 0))) (dC (.str "made")))) (sSet 0 (dOp addD (dSl (dVar 0) (oNo) (oSo (dC (.int 5)))) (dTup (dCons (dCB tupleC (dCons (dLc (iSeqD (dOp ixD (dVar 0) (dC (.int 5)))) (gNm 2) (tYesD) (dCall self [] (dCons (dVar 2) (dCons (dVar 1) (dNil)))) [2]) (dNil))) (dNil))))) (sNx)) (sRet (dCallA 1 S (dCons (dVar 0) (dNil))))
def W_law_made (K : Fg) (c : Nat → Addr) (S : D → SpD → Prop) : Nat → SpD
  | 0 => fun _ _ _ _ => False
  | n + 1 => bodyD (B_law_made K c S (W_law_made K c S n)) N__law_made
theorem E_law_made {K : Fg} {c : Nat → Addr} {S : D → SpD → Prop} {a0 a1 : D} {n : Nat} {M : Mem} {Q : QD} {Xd : XD} (h : (sSeq (sIf (dTst (dOp eqD (dOp ixD (dVar 0) (dC (.int 0))) (dC (.str "made")))) (sSet 0 (dOp addD (dSl (dVar 0) (oNo) (oSo (dC (.int 5)))) (dTup (dCons (dCB tupleC (dCons (dLc (iSeqD (dOp ixD (dVar 0) (dC (.int 5)))) (gNm 2) (tYesD) (dCall (W_law_made K c S n) [] (dCons (dVar 2) (dCons (dVar 1) (dNil)))) [2]) (dNil))) (dNil))))) (sNx)) (sRet (dCallA 1 S (dCons (dVar 0) (dNil))))) ⟨fun _ M' => Lo Q .non M', Lo Q, fun _ _ => False, fun _ _ => False, Xd⟩ [some a0, some a1, none] M) : W_law_made K c S (n + 1) [a0, a1] M Q Xd := h
def N__law_termed : List Str := ["thing", "term"]
def B_law_termed (K : Fg) (c : Nat → Addr) : TSD := sRet (dIte (dTst (dOp eqD (dOp ixD (dVar 0) (dC (.int 0))) (dC (.str "made")))) (dOp addD (dOp addD (dSl (dVar 0) (oNo) (oSo (dC (.int 4)))) (dTup (dCons (dVar 1) (dNil)))) (dSl (dVar 0) (oSo (dC (.int 5))) (oNo))) (dVar 0))
def W_law_termed (K : Fg) (c : Nat → Addr) : SpD := bodyD (B_law_termed K c) N__law_termed
theorem E_law_termed {K : Fg} {c : Nat → Addr} {a0 a1 : D} {M : Mem} {Q : QD} {Xd : XD} (h : (sRet (dIte (dTst (dOp eqD (dOp ixD (dVar 0) (dC (.int 0))) (dC (.str "made")))) (dOp addD (dOp addD (dSl (dVar 0) (oNo) (oSo (dC (.int 4)))) (dTup (dCons (dVar 1) (dNil)))) (dSl (dVar 0) (oSo (dC (.int 5))) (oNo))) (dVar 0))) ⟨fun _ M' => Lo Q .non M', Lo Q, fun _ _ => False, fun _ _ => False, Xd⟩ [some a0, some a1] M) : W_law_termed K c [a0, a1] M Q Xd := h
def N__law_turned : List Str := ["thing"]
def B_law_turned (K : Fg) (c : Nat → Addr) : TSD := sRet (dIte (dTst (dOp eqD (dOp ixD (dVar 0) (dC (.int 0))) (dC (.str "made")))) (dOp addD (dSl (dVar 0) (oNo) (oSo (dC (.int 5)))) (dTup (dCons (dRevT (dOp ixD (dVar 0) (dC (.int 5)))) (dNil)))) (dVar 0))
def W_law_turned (K : Fg) (c : Nat → Addr) : SpD := bodyD (B_law_turned K c) N__law_turned
theorem E_law_turned {K : Fg} {c : Nat → Addr} {a0 : D} {M : Mem} {Q : QD} {Xd : XD} (h : (sRet (dIte (dTst (dOp eqD (dOp ixD (dVar 0) (dC (.int 0))) (dC (.str "made")))) (dOp addD (dSl (dVar 0) (oNo) (oSo (dC (.int 5)))) (dTup (dCons (dRevT (dOp ixD (dVar 0) (dC (.int 5)))) (dNil)))) (dVar 0))) ⟨fun _ M' => Lo Q .non M', Lo Q, fun _ _ => False, fun _ _ => False, Xd⟩ [some a0] M) : W_law_turned K c [a0] M Q Xd := h
def SG__law_turned (K : Fg) (c : Nat → Addr) : D → SpD → Prop := fun L sp => L = .ref (c 5) ∧ sp = W_law_turned K c
def N__law_order : List Str := ["thing", "begin", "rows", "found", "part", "number"]
def B_law_order (K : Fg) (c : Nat → Addr) (self : SpD) : TSD := sSeq (sPar 2 3 (dCons (dCall (W_law_rows K c 8) [] (dCons (dVar 0) (dCons (dC (.int 0)) (dNil)))) (dCons (dLst (dCons (dVar 1) (dNil))) (dNil)))) (sSeq (sIf (dTst (dOp eqD (dOp ixD (dVar 0) (dC (.int 0))) (dC (.str "made")))) (sFor (iSeqD (dRev (dLstZip (dOp ixD (dVar 0) (dC (.int 5))) (dOp ixD (dOp ixD (dVar 2) (dC (.int 0))) (dC (.int 1)))))) (gTp 2 (gCo (gNm 4) (gCo (gNm 5) (gNi)))) (sSet 3 (dOp addD (dVar 3) (dCall self [] (dCons (dVar 4) (dCons (dOp addD (dVar 1) (dVar 5)) (dNil))))))) (sNx)) (sRet (dVar 3)))
def W_law_order (K : Fg) (c : Nat → Addr) : Nat → SpD
  | 0 => fun _ _ _ _ => False
  | n + 1 => bodyD (B_law_order K c (W_law_order K c n)) N__law_order
theorem E_law_order {K : Fg} {c : Nat → Addr} {a0 a1 : D} {n : Nat} {M : Mem} {Q : QD} {Xd : XD} (h : (sSeq (sPar 2 3 (dCons (dCall (W_law_rows K c 8) [] (dCons (dVar 0) (dCons (dC (.int 0)) (dNil)))) (dCons (dLst (dCons (dVar 1) (dNil))) (dNil)))) (sSeq (sIf (dTst (dOp eqD (dOp ixD (dVar 0) (dC (.int 0))) (dC (.str "made")))) (sFor (iSeqD (dRev (dLstZip (dOp ixD (dVar 0) (dC (.int 5))) (dOp ixD (dOp ixD (dVar 2) (dC (.int 0))) (dC (.int 1)))))) (gTp 2 (gCo (gNm 4) (gCo (gNm 5) (gNi)))) (sSet 3 (dOp addD (dVar 3) (dCall (W_law_order K c n) [] (dCons (dVar 4) (dCons (dOp addD (dVar 1) (dVar 5)) (dNil))))))) (sNx)) (sRet (dVar 3)))) ⟨fun _ M' => Lo Q .non M', Lo Q, fun _ _ => False, fun _ _ => False, Xd⟩ [some a0, some a1, none, none, none, none] M) : W_law_order K c (n + 1) [a0, a1] M Q Xd := h
def N__law_turned_right : List Str := ["good", "row", "other", "order", "far", "k"]
def B_law_turned_right (K : Fg) (c : Nat → Addr) : TSD := sSeq (sPar 2 3 (dCons (dCall (W_law_made K c (SG__law_turned K c) 8) [] (dCons (dVar 0) (dCons (dC (.ref (c 5))) (dNil)))) (dCons (dCall (W_law_order K c 8) [] (dCons (dVar 0) (dCons (dC (.int 0)) (dNil)))) (dNil)))) (sSeq (sSet 4 (dCB tupleC (dCons (dLc (iSeqD (dVar 3)) (gNm 5) (tYesD) (dOp ixD (dVar 1) (dVar 5)) [5]) (dNil)))) (sSeq (sIf (dTst (dOp neD (dCall (Wportion K c) [] (dCons (dVar 2) (dCons (dVar 4) (dNil)))) (dCall (Wportion K c) [] (dCons (dVar 0) (dCons (dVar 1) (dNil)))))) (sRet (dC (.bl false))) (sNx)) (sRet (dAnd (dOp eqD (dOp ixD (dCall (Wwords_at K c) [] (dCons (dVar 2) (dCons (dVar 4) (dNil)))) (dC (.int 0))) (dOp ixD (dCall (Wwords_at K c) [] (dCons (dVar 0) (dCons (dVar 1) (dNil)))) (dC (.int 0)))) (dOp eqD (dOp ixD (dCall (Wcosts K c) [] (dCons (dVar 2) (dCons (dVar 4) (dNil)))) (dC (.int 0))) (dOp ixD (dCall (Wcosts K c) [] (dCons (dVar 0) (dCons (dVar 1) (dNil)))) (dC (.int 0))))))))
def W_law_turned_right (K : Fg) (c : Nat → Addr) : SpD := bodyD (B_law_turned_right K c) N__law_turned_right
theorem E_law_turned_right {K : Fg} {c : Nat → Addr} {a0 a1 : D} {M : Mem} {Q : QD} {Xd : XD} (h : (sSeq (sPar 2 3 (dCons (dCall (W_law_made K c (SG__law_turned K c) 8) [] (dCons (dVar 0) (dCons (dC (.ref (c 5))) (dNil)))) (dCons (dCall (W_law_order K c 8) [] (dCons (dVar 0) (dCons (dC (.int 0)) (dNil)))) (dNil)))) (sSeq (sSet 4 (dCB tupleC (dCons (dLc (iSeqD (dVar 3)) (gNm 5) (tYesD) (dOp ixD (dVar 1) (dVar 5)) [5]) (dNil)))) (sSeq (sIf (dTst (dOp neD (dCall (Wportion K c) [] (dCons (dVar 2) (dCons (dVar 4) (dNil)))) (dCall (Wportion K c) [] (dCons (dVar 0) (dCons (dVar 1) (dNil)))))) (sRet (dC (.bl false))) (sNx)) (sRet (dAnd (dOp eqD (dOp ixD (dCall (Wwords_at K c) [] (dCons (dVar 2) (dCons (dVar 4) (dNil)))) (dC (.int 0))) (dOp ixD (dCall (Wwords_at K c) [] (dCons (dVar 0) (dCons (dVar 1) (dNil)))) (dC (.int 0)))) (dOp eqD (dOp ixD (dCall (Wcosts K c) [] (dCons (dVar 2) (dCons (dVar 4) (dNil)))) (dC (.int 0))) (dOp ixD (dCall (Wcosts K c) [] (dCons (dVar 0) (dCons (dVar 1) (dNil)))) (dC (.int 0))))))))) ⟨fun _ M' => Lo Q .non M', Lo Q, fun _ _ => False, fun _ _ => False, Xd⟩ [some a0, some a1, none, none, none, none] M) : W_law_turned_right K c [a0, a1] M Q Xd := h
def N__law_times_right : List Str := ["good", "row", "many", "_law_grown", "other", "far", "price"]
def B_law_times_right (K : Fg) (c : Nat → Addr) : TSD := sGiveF (tabT c) [2] 0 3 4 ["thing", "many"] (sRet (dOp addD (dOp addD (dSl (dVar 0) (oNo) (oSo (dC (.int 2)))) (dTup (dCons (dOp mulD (dVar 1) (dOp ixD (dVar 0) (dC (.int 2)))) (dCons (dOp mulD (dVar 1) (dOp ixD (dVar 0) (dC (.int 3)))) (dNil))))) (dSl (dVar 0) (oSo (dC (.int 4))) (oNo)))) (fun L sp => W_law_made K c (SL L sp) 8) (sSeq (sSet 5 (dCB tupleC (dCons (dLc (iSeqD (dVar 1)) (gNm 6) (tYesD) (dCall (W_law_least K c) [] (dCons (dOp mulD (dVar 2) (dOp ixD (dVar 6) (dC (.int 0)))) (dCons (dOp ixD (dVar 6) (dC (.int 1))) (dNil)))) [6]) (dNil)))) (sRet (dAnd (dOp eqD (dCall (Wwords_at K c) [] (dCons (dVar 4) (dCons (dVar 5) (dNil)))) (dCall (Wwords_at K c) [] (dCons (dVar 0) (dCons (dVar 1) (dNil))))) (dOp eqD (dCall (Wportion K c) [] (dCons (dVar 4) (dCons (dVar 5) (dNil)))) (dCall (Wportion K c) [] (dCons (dVar 0) (dCons (dVar 1) (dNil))))))))
def W_law_times_right (K : Fg) (c : Nat → Addr) : SpD := bodyD (B_law_times_right K c) N__law_times_right
theorem E_law_times_right {K : Fg} {c : Nat → Addr} {a0 a1 a2 : D} {M : Mem} {Q : QD} {Xd : XD} (h : (sGiveF (tabT c) [2] 0 3 4 ["thing", "many"] (sRet (dOp addD (dOp addD (dSl (dVar 0) (oNo) (oSo (dC (.int 2)))) (dTup (dCons (dOp mulD (dVar 1) (dOp ixD (dVar 0) (dC (.int 2)))) (dCons (dOp mulD (dVar 1) (dOp ixD (dVar 0) (dC (.int 3)))) (dNil))))) (dSl (dVar 0) (oSo (dC (.int 4))) (oNo)))) (fun L sp => W_law_made K c (SL L sp) 8) (sSeq (sSet 5 (dCB tupleC (dCons (dLc (iSeqD (dVar 1)) (gNm 6) (tYesD) (dCall (W_law_least K c) [] (dCons (dOp mulD (dVar 2) (dOp ixD (dVar 6) (dC (.int 0)))) (dCons (dOp ixD (dVar 6) (dC (.int 1))) (dNil)))) [6]) (dNil)))) (sRet (dAnd (dOp eqD (dCall (Wwords_at K c) [] (dCons (dVar 4) (dCons (dVar 5) (dNil)))) (dCall (Wwords_at K c) [] (dCons (dVar 0) (dCons (dVar 1) (dNil))))) (dOp eqD (dCall (Wportion K c) [] (dCons (dVar 4) (dCons (dVar 5) (dNil)))) (dCall (Wportion K c) [] (dCons (dVar 0) (dCons (dVar 1) (dNil))))))))) ⟨fun _ M' => Lo Q .non M', Lo Q, fun _ _ => False, fun _ _ => False, Xd⟩ [some a0, some a1, some a2, none, none, none, none] M) : W_law_times_right K c [a0, a1, a2] M Q Xd := h
def N__law_own_right : List Str := ["good", "row", "other", "rows", "some", "k"]
def B_law_own_right (K : Fg) (c : Nat → Addr) : TSD := sSeq (sSet 2 (dGiveL (tabT c) [] ["thing"] (dCall (W_law_termed K c) [] (dCons (dVar 0) (dCons (dTup (dCons (dC (.int 50)) (dCons (dC (.str "own")) (dCons (dC (.str "own")) (dNil))))) (dNil)))) (fun L sp => W_law_made K c (SL L sp) 8) (dVar 0))) (sSeq (sSet 3 (dCall (W_law_rows K c 8) [] (dCons (dVar 0) (dCons (dC (.int 0)) (dNil))))) (sSeq (sSet 4 (dLc (iRngD (dCons (dCB lenC (dCons (dVar 3) (dNil))) (dNil))) (gNm 5) (dTst (dOp eqD (dOp ixD (dOp ixD (dOp ixD (dVar 3) (dVar 5)) (dC (.int 0))) (dC (.int 1))) (dC (.str "here")))) (dOp ixD (dVar 1) (dVar 5)) [5])) (sRet (dOp eqD (dOp ixD (dCall (Wowns K c) [] (dCons (dVar 2) (dCons (dVar 1) (dNil)))) (dC (.int 0))) (dCall (W_law_sum K c) [] (dCons (dVar 4) (dNil)))))))
def W_law_own_right (K : Fg) (c : Nat → Addr) : SpD := bodyD (B_law_own_right K c) N__law_own_right
theorem E_law_own_right {K : Fg} {c : Nat → Addr} {a0 a1 : D} {M : Mem} {Q : QD} {Xd : XD} (h : (sSeq (sSet 2 (dGiveL (tabT c) [] ["thing"] (dCall (W_law_termed K c) [] (dCons (dVar 0) (dCons (dTup (dCons (dC (.int 50)) (dCons (dC (.str "own")) (dCons (dC (.str "own")) (dNil))))) (dNil)))) (fun L sp => W_law_made K c (SL L sp) 8) (dVar 0))) (sSeq (sSet 3 (dCall (W_law_rows K c 8) [] (dCons (dVar 0) (dCons (dC (.int 0)) (dNil))))) (sSeq (sSet 4 (dLc (iRngD (dCons (dCB lenC (dCons (dVar 3) (dNil))) (dNil))) (gNm 5) (dTst (dOp eqD (dOp ixD (dOp ixD (dOp ixD (dVar 3) (dVar 5)) (dC (.int 0))) (dC (.int 1))) (dC (.str "here")))) (dOp ixD (dVar 1) (dVar 5)) [5])) (sRet (dOp eqD (dOp ixD (dCall (Wowns K c) [] (dCons (dVar 2) (dCons (dVar 1) (dNil)))) (dC (.int 0))) (dCall (W_law_sum K c) [] (dCons (dVar 4) (dNil)))))))) ⟨fun _ M' => Lo Q .non M', Lo Q, fun _ _ => False, fun _ _ => False, Xd⟩ [some a0, some a1, none, none, none, none] M) : W_law_own_right K c [a0, a1] M Q Xd := h
def N__law_shares_right : List Str := ["good", "row", "words", "share"]
def B_law_shares_right (K : Fg) (c : Nat → Addr) : TSD := sSeq (sSet 2 (dLstO (dNil))) (sSeq (sFor (iRng3D (dCons (dC (.int 0)) (dCons (dC (.int 101)) (dCons (dC (.int 5)) (dNil))))) (gNm 3) (sExpr (dApp (dVar 2) (dOp ixD (dCall (Wwords_at K c) [] (dCons (dOp addD (dOp addD (dSl (dVar 0) (oNo) (oSo (dC (.int 4)))) (dTup (dCons (dOp addD (dTup (dCons (dVar 3) (dNil))) (dSl (dOp ixD (dVar 0) (dC (.int 4))) (oSo (dC (.int 1))) (oNo))) (dNil)))) (dSl (dVar 0) (oSo (dC (.int 5))) (oNo))) (dCons (dVar 1) (dNil)))) (dC (.int 0)))))) (sSeq (sIf (tOrD (dTst (dOp neD (dOp ixD (dVar 2) (dC (.int 0))) (dC (.int 1)))) (dTst (dOp neD (dVar 2) (dSrtR (dVar 2))))) (sRet (dC (.bl false))) (sNx)) (sRet (dOp eqD (dOp eqD (dOp ixD (dVar 2) (dNeg (dC (.int 1)))) (dC (.int 1))) (dOp eqD (dOp ixD (dCall (Wowns K c) [] (dCons (dVar 0) (dCons (dVar 1) (dNil)))) (dC (.int 0))) (dOp ixD (dCall (Wcosts K c) [] (dCons (dVar 0) (dCons (dVar 1) (dNil)))) (dC (.int 0))))))))
def W_law_shares_right (K : Fg) (c : Nat → Addr) : SpD := bodyD (B_law_shares_right K c) N__law_shares_right
theorem E_law_shares_right {K : Fg} {c : Nat → Addr} {a0 a1 : D} {M : Mem} {Q : QD} {Xd : XD} (h : (sSeq (sSet 2 (dLstO (dNil))) (sSeq (sFor (iRng3D (dCons (dC (.int 0)) (dCons (dC (.int 101)) (dCons (dC (.int 5)) (dNil))))) (gNm 3) (sExpr (dApp (dVar 2) (dOp ixD (dCall (Wwords_at K c) [] (dCons (dOp addD (dOp addD (dSl (dVar 0) (oNo) (oSo (dC (.int 4)))) (dTup (dCons (dOp addD (dTup (dCons (dVar 3) (dNil))) (dSl (dOp ixD (dVar 0) (dC (.int 4))) (oSo (dC (.int 1))) (oNo))) (dNil)))) (dSl (dVar 0) (oSo (dC (.int 5))) (oNo))) (dCons (dVar 1) (dNil)))) (dC (.int 0)))))) (sSeq (sIf (tOrD (dTst (dOp neD (dOp ixD (dVar 2) (dC (.int 0))) (dC (.int 1)))) (dTst (dOp neD (dVar 2) (dSrtR (dVar 2))))) (sRet (dC (.bl false))) (sNx)) (sRet (dOp eqD (dOp eqD (dOp ixD (dVar 2) (dNeg (dC (.int 1)))) (dC (.int 1))) (dOp eqD (dOp ixD (dCall (Wowns K c) [] (dCons (dVar 0) (dCons (dVar 1) (dNil)))) (dC (.int 0))) (dOp ixD (dCall (Wcosts K c) [] (dCons (dVar 0) (dCons (dVar 1) (dNil)))) (dC (.int 0))))))))) ⟨fun _ M' => Lo Q .non M', Lo Q, fun _ _ => False, fun _ _ => False, Xd⟩ [some a0, some a1, none, none] M) : W_law_shares_right K c [a0, a1] M Q Xd := h
def N__law_with : List Str := ["thing", "prices_so", "at", "price", "rest", "rows", "part", "one"]
def B_law_with (K : Fg) (c : Nat → Addr) (self : SpD) : TSD := sSeq (sPar 3 4 (dCons (dOp ixD (dVar 1) (dVar 2)) (dCons (dOp addD (dVar 2) (dC (.int 1))) (dNil)))) (sSeq (sIf (dTst (dOp eqD (dOp ixD (dVar 0) (dC (.int 0))) (dC (.str "raw")))) (sRet (dTup (dCons (dOp addD (dSl (dVar 0) (oNo) (oSo (dC (.int 2)))) (dTup (dCons (dVar 3) (dCons (dVar 3) (dNil))))) (dCons (dVar 4) (dNil))))) (sNx)) (sSeq (sSet 5 (dLstO (dNil))) (sSeq (sFor (iSeqD (dOp ixD (dVar 0) (dC (.int 5)))) (gNm 6) (sSeq (sAsg (dCall self [] (dCons (dVar 6) (dCons (dVar 1) (dCons (dVar 4) (dNil))))) (gTp 2 (gCo (gNm 7) (gCo (gNm 4) (gNi))))) (sExpr (dApp (dVar 5) (dVar 7))))) (sRet (dTup (dCons (dOp addD (dSl (dVar 0) (oNo) (oSo (dC (.int 2)))) (dTup (dCons (dVar 3) (dCons (dVar 3) (dCons (dOp ixD (dVar 0) (dC (.int 4))) (dCons (dCB tupleC (dCons (dVar 5) (dNil))) (dNil))))))) (dCons (dVar 4) (dNil))))))))
def W_law_with (K : Fg) (c : Nat → Addr) : Nat → SpD
  | 0 => fun _ _ _ _ => False
  | n + 1 => bodyD (B_law_with K c (W_law_with K c n)) N__law_with
theorem E_law_with {K : Fg} {c : Nat → Addr} {a0 a1 a2 : D} {n : Nat} {M : Mem} {Q : QD} {Xd : XD} (h : (sSeq (sPar 3 4 (dCons (dOp ixD (dVar 1) (dVar 2)) (dCons (dOp addD (dVar 2) (dC (.int 1))) (dNil)))) (sSeq (sIf (dTst (dOp eqD (dOp ixD (dVar 0) (dC (.int 0))) (dC (.str "raw")))) (sRet (dTup (dCons (dOp addD (dSl (dVar 0) (oNo) (oSo (dC (.int 2)))) (dTup (dCons (dVar 3) (dCons (dVar 3) (dNil))))) (dCons (dVar 4) (dNil))))) (sNx)) (sSeq (sSet 5 (dLstO (dNil))) (sSeq (sFor (iSeqD (dOp ixD (dVar 0) (dC (.int 5)))) (gNm 6) (sSeq (sAsg (dCall (W_law_with K c n) [] (dCons (dVar 6) (dCons (dVar 1) (dCons (dVar 4) (dNil))))) (gTp 2 (gCo (gNm 7) (gCo (gNm 4) (gNi))))) (sExpr (dApp (dVar 5) (dVar 7))))) (sRet (dTup (dCons (dOp addD (dSl (dVar 0) (oNo) (oSo (dC (.int 2)))) (dTup (dCons (dVar 3) (dCons (dVar 3) (dCons (dOp ixD (dVar 0) (dC (.int 4))) (dCons (dCB tupleC (dCons (dVar 5) (dNil))) (dNil))))))) (dCons (dVar 4) (dNil))))))))) ⟨fun _ M' => Lo Q .non M', Lo Q, fun _ _ => False, fun _ _ => False, Xd⟩ [some a0, some a1, some a2, none, none, none, none, none] M) : W_law_with K c (n + 1) [a0, a1, a2] M Q Xd := h
def N_law : List Str := ["script", "m", "lap", "good", "again", "row", "fixed", "k", "other", "size", "price", "one"]
def Blaw (K : Fg) (c : Nat → Addr) : TSD := sSeq (sSet 1 (dCall (W_law_begun K c) [] (dCons (dVar 0) (dNil)))) (sSeq (sFor (iRngD (dCons (dOp addD (dC (.int 6)) (dCB (int2C (fun i j => if j < i then j else i)) (dCons (dCB lenC (dCons (dVar 0) (dNil))) (dCons (dC (.int 12)) (dNil))))) (dNil))) (gNm 2) (sSeq (sSet 3 (dCall (W_law_good K c) [] (dCons (dVar 1) (dCons (dC (.int 3)) (dCons (dC (.int 4)) (dNil)))))) (sSeq (sFor (iRngD (dCons (dC (.int 2)) (dNil))) (gNm 4) (sSeq (sSet 5 (dCall (W_law_prices K c) [] (dCons (dVar 1) (dCons (dVar 3) (dNil))))) (sIf (tOrD (tNotD (dTru (dCall (W_law_turned_right K c) [] (dCons (dVar 3) (dCons (dVar 5) (dNil)))))) (tOrD (tNotD (dTru (dCall (W_law_own_right K c) [] (dCons (dVar 3) (dCons (dVar 5) (dNil)))))) (tNotD (dTru (dCall (W_law_shares_right K c) [] (dCons (dVar 3) (dCons (dVar 5) (dNil)))))))) (sRet (dC (.bl false))) (sNx)))) (sSeq (sSet 6 (dLc (iRngD (dCons (dCB lenC (dCons (dVar 5) (dNil))) (dNil))) (gNm 7) (tYesD) (dOp addD (dC (.int 2)) (dCall (W_law_draw K c) [] (dCons (dVar 1) (dCons (dC (.int 50)) (dNil))))) [7])) (sSeq (sAsg (dCall (W_law_with K c 8) [] (dCons (dVar 3) (dCons (dVar 6) (dCons (dC (.int 0)) (dNil))))) (gTp 2 (gCo (gNm 8) (gCo (gNm 9) (gNi))))) (sIf (tNotD (dTru (dCall (W_law_times_right K c) [] (dCons (dVar 8) (dCons (dCB tupleC (dCons (dLc (iSeqD (dVar 6)) (gNm 10) (tYesD) (dTup (dCons (dVar 10) (dCons (dC (.int 1)) (dNil)))) [10]) (dNil))) (dCons (dOp addD (dC (.int 2)) (dCall (W_law_draw K c) [] (dCons (dVar 1) (dCons (dC (.int 99)) (dNil))))) (dNil))))))) (sRet (dC (.bl false))) (sNx))))))) (sSeq (sSet 11 (dTup (dCons (dC (.str "made")) (dCons (dC (.str "here")) (dCons (dC (.int 1)) (dCons (dC (.int 1)) (dCons (dTup (dCons (dC (.int 50)) (dCons (dC (.str "whole")) (dCons (dC (.str "own")) (dNil))))) (dCons (dTup (dCons (dTup (dCons (dC (.str "raw")) (dCons (dC (.str "away")) (dCons (dC (.int 0)) (dCons (dC (.int 9)) (dNil)))))) (dNil))) (dNil))))))))) (sRet (dOp eqD (dLc (iRngD (dCons (dC (.int 4)) (dNil))) (gNm 7) (tYesD) (dOp ixD (dCall (Wwords_at K c) [] (dCons (dVar 11) (dCons (dTup (dCons (dTup (dCons (dC (.int 1)) (dCons (dC (.int 1)) (dNil)))) (dCons (dTup (dCons (dVar 7) (dCons (dC (.int 1)) (dNil)))) (dNil)))) (dNil)))) (dC (.int 0))) [7]) (dLst (dCons (dC (.int 1)) (dCons (dC (.int 1)) (dCons (dC (.int 0)) (dCons (dC (.int 0)) (dNil))))))))))
def Wlaw (K : Fg) (c : Nat → Addr) : SpD := bodyD (Blaw K c) N_law
theorem Elaw {K : Fg} {c : Nat → Addr} {a0 : D} {M : Mem} {Q : QD} {Xd : XD} (h : (sSeq (sSet 1 (dCall (W_law_begun K c) [] (dCons (dVar 0) (dNil)))) (sSeq (sFor (iRngD (dCons (dOp addD (dC (.int 6)) (dCB (int2C (fun i j => if j < i then j else i)) (dCons (dCB lenC (dCons (dVar 0) (dNil))) (dCons (dC (.int 12)) (dNil))))) (dNil))) (gNm 2) (sSeq (sSet 3 (dCall (W_law_good K c) [] (dCons (dVar 1) (dCons (dC (.int 3)) (dCons (dC (.int 4)) (dNil)))))) (sSeq (sFor (iRngD (dCons (dC (.int 2)) (dNil))) (gNm 4) (sSeq (sSet 5 (dCall (W_law_prices K c) [] (dCons (dVar 1) (dCons (dVar 3) (dNil))))) (sIf (tOrD (tNotD (dTru (dCall (W_law_turned_right K c) [] (dCons (dVar 3) (dCons (dVar 5) (dNil)))))) (tOrD (tNotD (dTru (dCall (W_law_own_right K c) [] (dCons (dVar 3) (dCons (dVar 5) (dNil)))))) (tNotD (dTru (dCall (W_law_shares_right K c) [] (dCons (dVar 3) (dCons (dVar 5) (dNil)))))))) (sRet (dC (.bl false))) (sNx)))) (sSeq (sSet 6 (dLc (iRngD (dCons (dCB lenC (dCons (dVar 5) (dNil))) (dNil))) (gNm 7) (tYesD) (dOp addD (dC (.int 2)) (dCall (W_law_draw K c) [] (dCons (dVar 1) (dCons (dC (.int 50)) (dNil))))) [7])) (sSeq (sAsg (dCall (W_law_with K c 8) [] (dCons (dVar 3) (dCons (dVar 6) (dCons (dC (.int 0)) (dNil))))) (gTp 2 (gCo (gNm 8) (gCo (gNm 9) (gNi))))) (sIf (tNotD (dTru (dCall (W_law_times_right K c) [] (dCons (dVar 8) (dCons (dCB tupleC (dCons (dLc (iSeqD (dVar 6)) (gNm 10) (tYesD) (dTup (dCons (dVar 10) (dCons (dC (.int 1)) (dNil)))) [10]) (dNil))) (dCons (dOp addD (dC (.int 2)) (dCall (W_law_draw K c) [] (dCons (dVar 1) (dCons (dC (.int 99)) (dNil))))) (dNil))))))) (sRet (dC (.bl false))) (sNx))))))) (sSeq (sSet 11 (dTup (dCons (dC (.str "made")) (dCons (dC (.str "here")) (dCons (dC (.int 1)) (dCons (dC (.int 1)) (dCons (dTup (dCons (dC (.int 50)) (dCons (dC (.str "whole")) (dCons (dC (.str "own")) (dNil))))) (dCons (dTup (dCons (dTup (dCons (dC (.str "raw")) (dCons (dC (.str "away")) (dCons (dC (.int 0)) (dCons (dC (.int 9)) (dNil)))))) (dNil))) (dNil))))))))) (sRet (dOp eqD (dLc (iRngD (dCons (dC (.int 4)) (dNil))) (gNm 7) (tYesD) (dOp ixD (dCall (Wwords_at K c) [] (dCons (dVar 11) (dCons (dTup (dCons (dTup (dCons (dC (.int 1)) (dCons (dC (.int 1)) (dNil)))) (dCons (dTup (dCons (dVar 7) (dCons (dC (.int 1)) (dNil)))) (dNil)))) (dNil)))) (dC (.int 0))) [7]) (dLst (dCons (dC (.int 1)) (dCons (dC (.int 1)) (dCons (dC (.int 0)) (dCons (dC (.int 0)) (dNil))))))))))) ⟨fun _ M' => Lo Q .non M', Lo Q, fun _ _ => False, fun _ _ => False, Xd⟩ [some a0, none, none, none, none, none, none, none, none, none, none, none] M) : Wlaw K c [a0] M Q Xd := h
end G_madeofhere_k05_goods_beside_one_another
set_option maxHeartbeats 4000000
namespace G_madeofhere_k05_goods_beside_one_another
open PySem PySem.Spec PyProof.Rows L2 DL
def topS (i : Nat) : Stmt := PySem.Challenge.pw_madeofhere_k05_goods_beside_one_another.main.body.getD i (.Pass ⟨0, 0, 0, 0⟩)
def methS (i j : Nat) : Stmt := match topS i with
  | .ClassDef _ _ _ b _ _ _ _ _ _ _ => b.getD j (.Pass ⟨0, 0, 0, 0⟩)
  | s => s
abbrev st_is_rule : Stmt := topS 17
theorem sc_is_rule : FnScope N_is_rule ["value"] (defScope st_is_rule) := ⟨rfl, rfl, rfl, by decide +kernel, rfl, by decide +kernel, by decide +kernel⟩
abbrev st__need_bounds : Stmt := topS 18
theorem sc__need_bounds : FnScope N__need_bounds ["number", "land", "low", "high"] (defScope st__need_bounds) := ⟨rfl, rfl, rfl, by decide +kernel, rfl, by decide +kernel, by decide +kernel⟩
abbrev st__need_making : Stmt := topS 19
theorem sc__need_making : FnScope N__need_making ["number", "rule", "parts"] (defScope st__need_making) := ⟨rfl, rfl, rfl, by decide +kernel, rfl, by decide +kernel, by decide +kernel⟩
abbrev st__look_at : Stmt := topS 20
theorem sc__look_at : FnScope N__look_at ["thing", "whole", "found", "wholes", "made", "moving"] (defScope st__look_at) := ⟨rfl, rfl, rfl, by decide +kernel, rfl, by decide +kernel, by decide +kernel⟩
abbrev st_look_over : Stmt := topS 21
theorem sc_look_over : FnScope N_look_over ["good"] (defScope st_look_over) := ⟨rfl, rfl, rfl, by decide +kernel, rfl, by decide +kernel, by decide +kernel⟩
abbrev st_is_fraction : Stmt := topS 23
theorem sc_is_fraction : FnScope N_is_fraction ["value", "least", "most"] (defScope st_is_fraction) := ⟨rfl, rfl, rfl, by decide +kernel, rfl, by decide +kernel, by decide +kernel⟩
abbrev st_lowest_terms : Stmt := topS 24
theorem sc_lowest_terms : FnScope N_lowest_terms ["part", "of"] (defScope st_lowest_terms) := ⟨rfl, rfl, rfl, by decide +kernel, rfl, by decide +kernel, by decide +kernel⟩
abbrev st_need_prices : Stmt := topS 25
theorem sc_need_prices : FnScope N_need_prices ["found", "prices"] (defScope st_need_prices) := ⟨rfl, rfl, rfl, by decide +kernel, rfl, by decide +kernel, by decide +kernel⟩
abbrev st_common_unit : Stmt := topS 26
theorem sc_common_unit : FnScope N_common_unit ["prices"] (defScope st_common_unit) := ⟨rfl, rfl, rfl, by decide +kernel, rfl, by decide +kernel, by decide +kernel⟩
abbrev st_in_units : Stmt := topS 27
theorem sc_in_units : FnScope N_in_units ["prices", "unit"] (defScope st_in_units) := ⟨rfl, rfl, rfl, by decide +kernel, rfl, by decide +kernel, by decide +kernel⟩
abbrev st_fractions_of : Stmt := topS 28
theorem sc_fractions_of : FnScope N_fractions_of ["amounts", "unit"] (defScope st_fractions_of) := ⟨rfl, rfl, rfl, by decide +kernel, rfl, by decide +kernel, by decide +kernel⟩
abbrev st_sums_of : Stmt := topS 30
theorem sc_sums_of : FnScope N_sums_of ["found", "wholes", "amounts"] (defScope st_sums_of) := ⟨rfl, rfl, rfl, by decide +kernel, rfl, by decide +kernel, by decide +kernel⟩
abbrev st__sums_at : Stmt := topS 31
theorem sc__sums_at : FnScope N__sums_at ["good", "prices"] (defScope st__sums_at) := ⟨rfl, rfl, rfl, by decide +kernel, rfl, by decide +kernel, by decide +kernel⟩
abbrev st_costs : Stmt := topS 32
theorem sc_costs : FnScope N_costs ["good", "prices"] (defScope st_costs) := ⟨rfl, rfl, rfl, by decide +kernel, rfl, by decide +kernel, by decide +kernel⟩
abbrev st_owns : Stmt := topS 33
theorem sc_owns : FnScope N_owns ["good", "prices"] (defScope st_owns) := ⟨rfl, rfl, rfl, by decide +kernel, rfl, by decide +kernel, by decide +kernel⟩
abbrev st_words_at : Stmt := topS 34
theorem sc_words_at : FnScope N_words_at ["good", "prices"] (defScope st_words_at) := ⟨rfl, rfl, rfl, by decide +kernel, rfl, by decide +kernel, by decide +kernel⟩
abbrev st_portion : Stmt := topS 35
theorem sc_portion : FnScope N_portion ["good", "prices"] (defScope st_portion) := ⟨rfl, rfl, rfl, by decide +kernel, rfl, by decide +kernel, by decide +kernel⟩
abbrev st__law_begun : Stmt := topS 37
theorem sc__law_begun : FnScope N__law_begun ["script"] (defScope st__law_begun) := ⟨rfl, rfl, rfl, by decide +kernel, rfl, by decide +kernel, by decide +kernel⟩
abbrev st__law_draw : Stmt := topS 38
theorem sc__law_draw : FnScope N__law_draw ["m", "limit"] (defScope st__law_draw) := ⟨rfl, rfl, rfl, by decide +kernel, rfl, by decide +kernel, by decide +kernel⟩
abbrev st__law_of : Stmt := topS 39
theorem sc__law_of : FnScope N__law_of ["m", "some"] (defScope st__law_of) := ⟨rfl, rfl, rfl, by decide +kernel, rfl, by decide +kernel, by decide +kernel⟩
abbrev st__law_span : Stmt := topS 40
theorem sc__law_span : FnScope N__law_span ["m", "left"] (defScope st__law_span) := ⟨rfl, rfl, rfl, by decide +kernel, rfl, by decide +kernel, by decide +kernel⟩
abbrev st__law_term : Stmt := topS 41
theorem sc__law_term : FnScope N__law_term ["m"] (defScope st__law_term) := ⟨rfl, rfl, rfl, by decide +kernel, rfl, by decide +kernel, by decide +kernel⟩
abbrev st__law_thing : Stmt := topS 42
theorem sc__law_thing : FnScope N__law_thing ["m", "left", "must"] (defScope st__law_thing) := ⟨rfl, rfl, rfl, by decide +kernel, rfl, by decide +kernel, by decide +kernel⟩
abbrev st__law_good : Stmt := topS 43
theorem sc__law_good : FnScope N__law_good ["m", "moving", "making"] (defScope st__law_good) := ⟨rfl, rfl, rfl, by decide +kernel, rfl, by decide +kernel, by decide +kernel⟩
abbrev st__law_rows : Stmt := topS 44
theorem sc__law_rows : FnScope N__law_rows ["thing", "begin"] (defScope st__law_rows) := ⟨rfl, rfl, rfl, by decide +kernel, rfl, by decide +kernel, by decide +kernel⟩
abbrev st__law_least : Stmt := topS 45
theorem sc__law_least : FnScope N__law_least ["part", "of"] (defScope st__law_least) := ⟨rfl, rfl, rfl, by decide +kernel, rfl, by decide +kernel, by decide +kernel⟩
abbrev st__law_sum : Stmt := topS 46
theorem sc__law_sum : FnScope N__law_sum ["some"] (defScope st__law_sum) := ⟨rfl, rfl, rfl, by decide +kernel, rfl, by decide +kernel, by decide +kernel⟩
abbrev st__law_prices : Stmt := topS 47
theorem sc__law_prices : FnScope N__law_prices ["m", "good"] (defScope st__law_prices) := ⟨rfl, rfl, rfl, by decide +kernel, rfl, by decide +kernel, by decide +kernel⟩
abbrev st__law_made : Stmt := topS 48
theorem sc__law_made : FnScope N__law_made ["thing", "change"] (defScope st__law_made) := ⟨rfl, rfl, rfl, by decide +kernel, rfl, by decide +kernel, by decide +kernel⟩
abbrev st__law_termed : Stmt := topS 49
theorem sc__law_termed : FnScope N__law_termed ["thing", "term"] (defScope st__law_termed) := ⟨rfl, rfl, rfl, by decide +kernel, rfl, by decide +kernel, by decide +kernel⟩
abbrev st__law_turned : Stmt := topS 50
theorem sc__law_turned : FnScope N__law_turned ["thing"] (defScope st__law_turned) := ⟨rfl, rfl, rfl, by decide +kernel, rfl, by decide +kernel, by decide +kernel⟩
abbrev st__law_order : Stmt := topS 51
theorem sc__law_order : FnScope N__law_order ["thing", "begin"] (defScope st__law_order) := ⟨rfl, rfl, rfl, by decide +kernel, rfl, by decide +kernel, by decide +kernel⟩
abbrev st__law_turned_right : Stmt := topS 52
theorem sc__law_turned_right : FnScope N__law_turned_right ["good", "row"] (defScope st__law_turned_right) := ⟨rfl, rfl, rfl, by decide +kernel, rfl, by decide +kernel, by decide +kernel⟩
abbrev st__law_times_right : Stmt := topS 53
theorem sc__law_times_right : FnScope N__law_times_right ["good", "row", "many"] (defScope st__law_times_right) := ⟨rfl, rfl, rfl, by decide +kernel, rfl, by decide +kernel, by decide +kernel⟩
abbrev st__law_own_right : Stmt := topS 54
theorem sc__law_own_right : FnScope N__law_own_right ["good", "row"] (defScope st__law_own_right) := ⟨rfl, rfl, rfl, by decide +kernel, rfl, by decide +kernel, by decide +kernel⟩
abbrev st__law_shares_right : Stmt := topS 55
theorem sc__law_shares_right : FnScope N__law_shares_right ["good", "row"] (defScope st__law_shares_right) := ⟨rfl, rfl, rfl, by decide +kernel, rfl, by decide +kernel, by decide +kernel⟩
abbrev st__law_with : Stmt := topS 56
theorem sc__law_with : FnScope N__law_with ["thing", "prices_so", "at"] (defScope st__law_with) := ⟨rfl, rfl, rfl, by decide +kernel, rfl, by decide +kernel, by decide +kernel⟩
abbrev st_law : Stmt := topS 57
theorem sc_law : FnScope N_law ["script"] (defScope st_law) := ⟨rfl, rfl, rfl, by decide +kernel, rfl, by decide +kernel, by decide +kernel⟩
abbrev st_BadGood : Stmt := methS 3 0
theorem sc_BadGood : FnScope ["self", "number", "part"] ["self", "number", "part"] (defScope st_BadGood) := ⟨rfl, rfl, rfl, by decide +kernel, rfl, by decide +kernel, by decide +kernel⟩
abbrev st_BadPrices : Stmt := methS 4 0
theorem sc_BadPrices : FnScope ["self", "number"] ["self", "number"] (defScope st_BadPrices) := ⟨rfl, rfl, rfl, by decide +kernel, rfl, by decide +kernel, by decide +kernel⟩
structure Adr where
  cls : Nat → Addr
  cod__law_times_right : Addr
  cod__law_own_right : Addr
  a_BadGood : Addr
  d_BadGood : FuncData
  a_BadPrices : Addr
  d_BadPrices : FuncData
  a_is_rule : Addr
  d_is_rule : FuncData
  a__need_bounds : Addr
  d__need_bounds : FuncData
  a__need_making : Addr
  d__need_making : FuncData
  a__look_at : Addr
  d__look_at : FuncData
  a_look_over : Addr
  d_look_over : FuncData
  a_is_fraction : Addr
  d_is_fraction : FuncData
  a_lowest_terms : Addr
  d_lowest_terms : FuncData
  a_need_prices : Addr
  d_need_prices : FuncData
  a_common_unit : Addr
  d_common_unit : FuncData
  a_in_units : Addr
  d_in_units : FuncData
  a_fractions_of : Addr
  d_fractions_of : FuncData
  a_sums_of : Addr
  d_sums_of : FuncData
  a__sums_at : Addr
  d__sums_at : FuncData
  a_costs : Addr
  d_costs : FuncData
  a_owns : Addr
  d_owns : FuncData
  a_words_at : Addr
  d_words_at : FuncData
  a_portion : Addr
  d_portion : FuncData
  a__law_begun : Addr
  d__law_begun : FuncData
  a__law_draw : Addr
  d__law_draw : FuncData
  a__law_of : Addr
  d__law_of : FuncData
  a__law_span : Addr
  d__law_span : FuncData
  a__law_term : Addr
  d__law_term : FuncData
  a__law_thing : Addr
  d__law_thing : FuncData
  a__law_good : Addr
  d__law_good : FuncData
  a__law_rows : Addr
  d__law_rows : FuncData
  a__law_least : Addr
  d__law_least : FuncData
  a__law_sum : Addr
  d__law_sum : FuncData
  a__law_prices : Addr
  d__law_prices : FuncData
  a__law_made : Addr
  d__law_made : FuncData
  a__law_termed : Addr
  d__law_termed : FuncData
  a__law_turned : Addr
  d__law_turned : FuncData
  a__law_order : Addr
  d__law_order : FuncData
  a__law_turned_right : Addr
  d__law_turned_right : FuncData
  a__law_times_right : Addr
  d__law_times_right : FuncData
  a__law_own_right : Addr
  d__law_own_right : FuncData
  a__law_shares_right : Addr
  d__law_shares_right : FuncData
  a__law_with : Addr
  d__law_with : FuncData
  a_law : Addr
  d_law : FuncData
structure Txt (K : Fg) (mg : Str → Option Value) (A : Adr) : Prop where
  F_is_rule : Fun K "is_rule" "is_rule" st_is_rule A.a_is_rule A.d_is_rule
  b_is_rule : Binds K A.d_is_rule ["value"] []
  g_is_rule : mg "is_rule" = some (.ref A.a_is_rule)
  F__need_bounds : Fun K "_need_bounds" "_need_bounds" st__need_bounds A.a__need_bounds A.d__need_bounds
  b__need_bounds : Binds K A.d__need_bounds ["number", "land", "low", "high"] []
  g__need_bounds : mg "_need_bounds" = some (.ref A.a__need_bounds)
  F__need_making : Fun K "_need_making" "_need_making" st__need_making A.a__need_making A.d__need_making
  b__need_making : Binds K A.d__need_making ["number", "rule", "parts"] []
  g__need_making : mg "_need_making" = some (.ref A.a__need_making)
  F__look_at : Fun K "_look_at" "_look_at" st__look_at A.a__look_at A.d__look_at
  b__look_at : Binds K A.d__look_at ["thing", "whole", "found", "wholes", "made", "moving"] []
  g__look_at : mg "_look_at" = some (.ref A.a__look_at)
  F_look_over : Fun K "look_over" "look_over" st_look_over A.a_look_over A.d_look_over
  b_look_over : Binds K A.d_look_over ["good"] []
  g_look_over : mg "look_over" = some (.ref A.a_look_over)
  F_is_fraction : Fun K "is_fraction" "is_fraction" st_is_fraction A.a_is_fraction A.d_is_fraction
  b_is_fraction : Binds K A.d_is_fraction ["value", "least", "most"] []
  g_is_fraction : mg "is_fraction" = some (.ref A.a_is_fraction)
  F_lowest_terms : Fun K "lowest_terms" "lowest_terms" st_lowest_terms A.a_lowest_terms A.d_lowest_terms
  b_lowest_terms : Binds K A.d_lowest_terms ["part", "of"] []
  g_lowest_terms : mg "lowest_terms" = some (.ref A.a_lowest_terms)
  F_need_prices : Fun K "need_prices" "need_prices" st_need_prices A.a_need_prices A.d_need_prices
  b_need_prices : Binds K A.d_need_prices ["found", "prices"] []
  g_need_prices : mg "need_prices" = some (.ref A.a_need_prices)
  F_common_unit : Fun K "common_unit" "common_unit" st_common_unit A.a_common_unit A.d_common_unit
  b_common_unit : Binds K A.d_common_unit ["prices"] []
  g_common_unit : mg "common_unit" = some (.ref A.a_common_unit)
  F_in_units : Fun K "in_units" "in_units" st_in_units A.a_in_units A.d_in_units
  b_in_units : Binds K A.d_in_units ["prices", "unit"] []
  g_in_units : mg "in_units" = some (.ref A.a_in_units)
  F_fractions_of : Fun K "fractions_of" "fractions_of" st_fractions_of A.a_fractions_of A.d_fractions_of
  b_fractions_of : Binds K A.d_fractions_of ["amounts", "unit"] []
  g_fractions_of : mg "fractions_of" = some (.ref A.a_fractions_of)
  F_sums_of : Fun K "sums_of" "sums_of" st_sums_of A.a_sums_of A.d_sums_of
  b_sums_of : Binds K A.d_sums_of ["found", "wholes", "amounts"] []
  g_sums_of : mg "sums_of" = some (.ref A.a_sums_of)
  F__sums_at : Fun K "_sums_at" "_sums_at" st__sums_at A.a__sums_at A.d__sums_at
  b__sums_at : Binds K A.d__sums_at ["good", "prices"] []
  g__sums_at : mg "_sums_at" = some (.ref A.a__sums_at)
  F_costs : Fun K "costs" "costs" st_costs A.a_costs A.d_costs
  b_costs : Binds K A.d_costs ["good", "prices"] []
  g_costs : mg "costs" = some (.ref A.a_costs)
  F_owns : Fun K "owns" "owns" st_owns A.a_owns A.d_owns
  b_owns : Binds K A.d_owns ["good", "prices"] []
  g_owns : mg "owns" = some (.ref A.a_owns)
  F_words_at : Fun K "words_at" "words_at" st_words_at A.a_words_at A.d_words_at
  b_words_at : Binds K A.d_words_at ["good", "prices"] []
  g_words_at : mg "words_at" = some (.ref A.a_words_at)
  F_portion : Fun K "portion" "portion" st_portion A.a_portion A.d_portion
  b_portion : Binds K A.d_portion ["good", "prices"] []
  g_portion : mg "portion" = some (.ref A.a_portion)
  F__law_begun : Fun K "_law_begun" "_law_begun" st__law_begun A.a__law_begun A.d__law_begun
  b__law_begun : Binds K A.d__law_begun ["script"] []
  g__law_begun : mg "_law_begun" = some (.ref A.a__law_begun)
  F__law_draw : Fun K "_law_draw" "_law_draw" st__law_draw A.a__law_draw A.d__law_draw
  b__law_draw : Binds K A.d__law_draw ["m", "limit"] []
  g__law_draw : mg "_law_draw" = some (.ref A.a__law_draw)
  F__law_of : Fun K "_law_of" "_law_of" st__law_of A.a__law_of A.d__law_of
  b__law_of : Binds K A.d__law_of ["m", "some"] []
  g__law_of : mg "_law_of" = some (.ref A.a__law_of)
  F__law_span : Fun K "_law_span" "_law_span" st__law_span A.a__law_span A.d__law_span
  b__law_span : Binds K A.d__law_span ["m", "left"] []
  g__law_span : mg "_law_span" = some (.ref A.a__law_span)
  F__law_term : Fun K "_law_term" "_law_term" st__law_term A.a__law_term A.d__law_term
  b__law_term : Binds K A.d__law_term ["m"] []
  g__law_term : mg "_law_term" = some (.ref A.a__law_term)
  F__law_thing : Fun K "_law_thing" "_law_thing" st__law_thing A.a__law_thing A.d__law_thing
  b__law_thing : Binds K A.d__law_thing ["m", "left", "must"] []
  g__law_thing : mg "_law_thing" = some (.ref A.a__law_thing)
  F__law_good : Fun K "_law_good" "_law_good" st__law_good A.a__law_good A.d__law_good
  b__law_good : Binds K A.d__law_good ["m", "moving", "making"] []
  g__law_good : mg "_law_good" = some (.ref A.a__law_good)
  F__law_rows : Fun K "_law_rows" "_law_rows" st__law_rows A.a__law_rows A.d__law_rows
  b__law_rows : Binds K A.d__law_rows ["thing", "begin"] []
  g__law_rows : mg "_law_rows" = some (.ref A.a__law_rows)
  F__law_least : Fun K "_law_least" "_law_least" st__law_least A.a__law_least A.d__law_least
  b__law_least : Binds K A.d__law_least ["part", "of"] []
  g__law_least : mg "_law_least" = some (.ref A.a__law_least)
  F__law_sum : Fun K "_law_sum" "_law_sum" st__law_sum A.a__law_sum A.d__law_sum
  b__law_sum : Binds K A.d__law_sum ["some"] []
  g__law_sum : mg "_law_sum" = some (.ref A.a__law_sum)
  F__law_prices : Fun K "_law_prices" "_law_prices" st__law_prices A.a__law_prices A.d__law_prices
  b__law_prices : Binds K A.d__law_prices ["m", "good"] []
  g__law_prices : mg "_law_prices" = some (.ref A.a__law_prices)
  F__law_made : Fun K "_law_made" "_law_made" st__law_made A.a__law_made A.d__law_made
  b__law_made : Binds K A.d__law_made ["thing", "change"] []
  g__law_made : mg "_law_made" = some (.ref A.a__law_made)
  F__law_termed : Fun K "_law_termed" "_law_termed" st__law_termed A.a__law_termed A.d__law_termed
  b__law_termed : Binds K A.d__law_termed ["thing", "term"] []
  g__law_termed : mg "_law_termed" = some (.ref A.a__law_termed)
  F__law_turned : Fun K "_law_turned" "_law_turned" st__law_turned A.a__law_turned A.d__law_turned
  b__law_turned : Binds K A.d__law_turned ["thing"] []
  g__law_turned : mg "_law_turned" = some (.ref A.a__law_turned)
  F__law_order : Fun K "_law_order" "_law_order" st__law_order A.a__law_order A.d__law_order
  b__law_order : Binds K A.d__law_order ["thing", "begin"] []
  g__law_order : mg "_law_order" = some (.ref A.a__law_order)
  F__law_turned_right : Fun K "_law_turned_right" "_law_turned_right" st__law_turned_right A.a__law_turned_right A.d__law_turned_right
  b__law_turned_right : Binds K A.d__law_turned_right ["good", "row"] []
  g__law_turned_right : mg "_law_turned_right" = some (.ref A.a__law_turned_right)
  F__law_times_right : Fun K "_law_times_right" "_law_times_right" st__law_times_right A.a__law_times_right A.d__law_times_right
  b__law_times_right : Binds K A.d__law_times_right ["good", "row", "many"] []
  g__law_times_right : mg "_law_times_right" = some (.ref A.a__law_times_right)
  F__law_own_right : Fun K "_law_own_right" "_law_own_right" st__law_own_right A.a__law_own_right A.d__law_own_right
  b__law_own_right : Binds K A.d__law_own_right ["good", "row"] []
  g__law_own_right : mg "_law_own_right" = some (.ref A.a__law_own_right)
  F__law_shares_right : Fun K "_law_shares_right" "_law_shares_right" st__law_shares_right A.a__law_shares_right A.d__law_shares_right
  b__law_shares_right : Binds K A.d__law_shares_right ["good", "row"] []
  g__law_shares_right : mg "_law_shares_right" = some (.ref A.a__law_shares_right)
  F__law_with : Fun K "_law_with" "_law_with" st__law_with A.a__law_with A.d__law_with
  b__law_with : Binds K A.d__law_with ["thing", "prices_so", "at"] []
  g__law_with : mg "_law_with" = some (.ref A.a__law_with)
  F_law : Fun K "law" "law" st_law A.a_law A.d_law
  b_law : Binds K A.d_law ["script"] []
  g_law : mg "law" = some (.ref A.a_law)
  g_BadGood : mg "BadGood" = some (.ref (A.cls 1))
  g_BadPrices : mg "BadPrices" = some (.ref (A.cls 2))
  C : CF K A.cls
  F_BadGood : Fun K "__init__" "BadGood.__init__" st_BadGood A.a_BadGood A.d_BadGood
  i_BadGood : PySem.W.findIn K (.ref (A.cls 1)) "__init__" = some (some (.ref A.a_BadGood))
  t_BadGood : PySem.W.typeIn K (.ref A.a_BadGood) = some (.type "function")
  b_BadGood : Binds K A.d_BadGood ["self", "number", "part"] []
  F_BadPrices : Fun K "__init__" "BadPrices.__init__" st_BadPrices A.a_BadPrices A.d_BadPrices
  i_BadPrices : PySem.W.findIn K (.ref (A.cls 2)) "__init__" = some (some (.ref A.a_BadPrices))
  t_BadPrices : PySem.W.typeIn K (.ref A.a_BadPrices) = some (.type "function")
  b_BadPrices : Binds K A.d_BadPrices ["self", "number"] []
  z_abs : mg "abs" = none
  z_bool : mg "bool" = none
  z_enumerate : mg "enumerate" = none
  z_int : mg "int" = none
  z_isinstance : mg "isinstance" = none
  z_len : mg "len" = none
  z_list : mg "list" = none
  z_max : mg "max" = none
  z_min : mg "min" = none
  z_range : mg "range" = none
  z_reversed : mg "reversed" = none
  z_sorted : mg "sorted" = none
  z_str : mg "str" = none
  z_tuple : mg "tuple" = none
  z_zip : mg "zip" = none
  c_HIGH : ∃ u, mg "HIGH" = some u ∧ RelV (.int 3) u
  c_LAND : ∃ u, mg "LAND" = some u ∧ RelV (.int 1) u
  c_LOW : ∃ u, mg "LOW" = some u ∧ RelV (.int 2) u
  c_MAKING : ∃ u, mg "MAKING" = some u ∧ RelV (.int 0) u
  c_MOST_MOVES : ∃ u, mg "MOST_MOVES" = some u ∧ RelV (.int 3) u
  c_MOST_PARTS : ∃ u, mg "MOST_PARTS" = some u ∧ RelV (.int 4) u
  c_MOST_PRICE : ∃ u, mg "MOST_PRICE" = some u ∧ RelV (.int 1000000) u
  c_MOST_SHARE : ∃ u, mg "MOST_SHARE" = some u ∧ RelV (.int 100) u
  c_MOST_STEPS : ∃ u, mg "MOST_STEPS" = some u ∧ RelV (.int 4) u
  c_MOST_THINGS : ∃ u, mg "MOST_THINGS" = some u ∧ RelV (.int 10) u
  c_RULE : ∃ u, mg "RULE" = some u ∧ RelV (.int 4) u
  i_gcd : mg "gcd" = some (.builtin "math.gcd")
  i_lcm : mg "lcm" = some (.builtin "math.lcm")
  tie__law_turned : A.a__law_turned = A.cls 5
  nd_tabs : A.cls 3 ≠ A.cls 4
  co__law_own_right : ∀ cdv, A.d__law_own_right.code = cdv → cdv = .ref A.cod__law_own_right
  co__law_times_right : ∀ cdv, A.d__law_times_right.code = cdv → cdv = .ref A.cod__law_times_right
section
variable {P : Program} {w : World} {K : Fg} {mg : Str → Option Value} {base : Heap} {Ad : Adr}
theorem mk_BadGood (T : Txt K mg Ad) : MkOk P w K mg base 1 (Ad.cls 1) ["part", "number"] ["self", "number", "part"] := ⟨(T.C.cf (i := 1) (by decide)).T, _, _, T.i_BadGood, T.t_BadGood, T.F_BadGood.okX sc_BadGood (spEx_len rfl) (fun cdv A outer s H vs Q E hr hsp => init_two (T.C.cf (i := 1) (by decide)).T rfl (T.C.kf.no (i := 1) (by decide) (by simp [fds])) (T.C.kf.no (i := 1) (by decide) (by simp [fds])) (pv 0) (pv 1) (pv 0) (pv 2) hsp), T.b_BadGood⟩
theorem mk_BadPrices (T : Txt K mg Ad) : MkOk P w K mg base 1 (Ad.cls 2) ["number"] ["self", "number"] := ⟨(T.C.cf (i := 2) (by decide)).T, _, _, T.i_BadPrices, T.t_BadPrices, T.F_BadPrices.okX sc_BadPrices (spEx_len rfl) (fun cdv A outer s H vs Q E hr hsp => init_one (T.C.cf (i := 2) (by decide)).T rfl (T.C.kf.no (i := 2) (by decide) (by simp [fds])) (pv 0) (pv 1) hsp), T.b_BadPrices⟩
theorem hu__law_own_right (T : Txt K mg Ad) : ∀ p ∈ tabT Ad.cls, p.1 = Ad.cls 3 → p.2 = (("_law_own_right" ++ ".<locals>." : Str) ++ "<lambda>") := fun p hp e => by
  simp only [tabT, List.mem_cons, List.not_mem_nil, or_false] at hp
  rcases hp with rfl | rfl
  · rfl
  · exact absurd e.symm T.nd_tabs
theorem hu__law_times_right (T : Txt K mg Ad) : ∀ p ∈ tabT Ad.cls, p.1 = Ad.cls 4 → p.2 = (("_law_times_right" ++ ".<locals>." : Str) ++ "_law_grown") := fun p hp e => by
  simp only [tabT, List.mem_cons, List.not_mem_nil, or_false] at hp
  rcases hp with rfl | rfl
  · exact absurd e T.nd_tabs
  · rfl
theorem ok_is_rule (T : Txt K mg Ad) : DFn P w K mg base 1 Ad.a_is_rule Ad.d_is_rule ["value"] (Wis_rule K Ad.cls) :=
  dfn_of T.F_is_rule sc_is_rule fun cdv A outer s H E hr => (dss_cons (ds_if (DW.dt (dw_or (dt_not (dt_tru (de_callB dc_isi (by rfl) T.z_isinstance (by decide +kernel) (dn_cons (de_var (pv 0)) (dn_cons (de_bltn (by rfl) T.z_tuple (by decide +kernel)) (dn_nil)))))) (dw_or1 (dt_cmp (do_ne hr.r.units) (de_callB dc_len (by rfl) T.z_len (by decide +kernel) (dn_cons (de_var (pv 0)) (dn_nil))) (de_int) (nomark _))))) (dss_one (ds_ret (de_bl))) (dss_nil)) (dss_cons (ds_asg (de_var (pv 0)) (dg_tup rfl (dgs_cons (dg_name (i := 1) sc_is_rule.nd rfl (by first | exact .inl rfl | exact .inr rfl)) (dgs_cons (dg_name (i := 2) sc_is_rule.nd rfl (by first | exact .inl rfl | exact .inr rfl)) (dgs_cons (dg_name (i := 3) sc_is_rule.nd rfl (by first | exact .inl rfl | exact .inr rfl)) (dgs_nil)))))) (dss_cons (ds_if (DW.dt (dw_or (dt_not (dt_tru (de_callB dc_isi (by rfl) T.z_isinstance (by decide +kernel) (dn_cons (de_var (pv 1)) (dn_cons (de_bltn (by rfl) T.z_int (by decide +kernel)) (dn_nil)))))) (dw_or (dt_tru (de_callB dc_isi (by rfl) T.z_isinstance (by decide +kernel) (dn_cons (de_var (pv 1)) (dn_cons (de_bltn (by rfl) T.z_bool (by decide +kernel)) (dn_nil))))) (dw_or1 (dt_not (dt_chain do_le do_le (de_int) (de_var (pv 1)) ((T.c_MOST_SHARE.elim fun _ h => de_glob (by rfl) h.1 h.2 fun _ _ => rfl)))))))) (dss_one (ds_ret (de_bl))) (dss_nil)) (dss_cons (ds_if (DW.dt (dw_or (dt_not (dt_tru (de_callB dc_isi (by rfl) T.z_isinstance (by decide +kernel) (dn_cons (de_var (pv 2)) (dn_cons (de_bltn (by rfl) T.z_str (by decide +kernel)) (dn_nil)))))) (dw_or1 (dt_not (dt_tru (de_callB dc_isi (by rfl) T.z_isinstance (by decide +kernel) (dn_cons (de_var (pv 3)) (dn_cons (de_bltn (by rfl) T.z_str (by decide +kernel)) (dn_nil))))))))) (dss_one (ds_ret (de_bl))) (dss_nil)) (dss_one (ds_ret (de_and (de_or (de_cmp (do_eq hr.r.units) (de_var (pv 2)) (de_str) (nomark _)) (de_one (de_cmp (do_eq hr.r.units) (de_var (pv 2)) (de_str) (nomark _)))) (de_one (de_or (de_cmp (do_eq hr.r.units) (de_var (pv 3)) (de_str) (nomark _)) (de_one (de_cmp (do_eq hr.r.units) (de_var (pv 3)) (de_str) (nomark _))))))))))))
theorem ok__need_bounds (T : Txt K mg Ad) : DFn P w K mg base 3 Ad.a__need_bounds Ad.d__need_bounds ["number", "land", "low", "high"] (W_need_bounds K Ad.cls) :=
  dfn_of T.F__need_bounds sc__need_bounds fun cdv A outer s H E hr => (dss_cons (ds_if (DW.dt (dw_or (dt_not (dt_tru (de_callB dc_isi (by rfl) T.z_isinstance (by decide +kernel) (dn_cons (de_var (pv 1)) (dn_cons (de_bltn (by rfl) T.z_str (by decide +kernel)) (dn_nil)))))) (dw_or1 (DW.dt (dw_and (dt_cmp (do_ne hr.r.units) (de_var (pv 1)) (de_str) (nomark _)) (dw_and1 (dt_cmp (do_ne hr.r.units) (de_var (pv 1)) (de_str) (nomark _)))))))) (dss_one (ds_raise (mk_BadGood T) (hr.mono (by first | decide | omega | (simp only [Nat.add_eq]; omega))) rfl (takes_of rfl rfl rfl rfl) pass_no (by rfl) T.g_BadGood (dn_cons (de_var (pv 0)) (dn_cons (de_str) (dn_nil))))) (dss_nil)) (dss_cons (ds_if (DW.dt (dw_or (dt_not (dt_tru (de_callB dc_isi (by rfl) T.z_isinstance (by decide +kernel) (dn_cons (de_var (pv 2)) (dn_cons (de_bltn (by rfl) T.z_int (by decide +kernel)) (dn_nil)))))) (dw_or (dt_tru (de_callB dc_isi (by rfl) T.z_isinstance (by decide +kernel) (dn_cons (de_var (pv 2)) (dn_cons (de_bltn (by rfl) T.z_bool (by decide +kernel)) (dn_nil))))) (dw_or1 (dt_not (dt_chain do_le do_le (de_int) (de_var (pv 2)) ((T.c_MOST_PRICE.elim fun _ h => de_glob (by rfl) h.1 h.2 fun _ _ => rfl)))))))) (dss_one (ds_raise (mk_BadGood T) (hr.mono (by first | decide | omega | (simp only [Nat.add_eq]; omega))) rfl (takes_of rfl rfl rfl rfl) pass_no (by rfl) T.g_BadGood (dn_cons (de_var (pv 0)) (dn_cons (de_str) (dn_nil))))) (dss_nil)) (dss_one (ds_if (DW.dt (dw_or (dt_not (dt_tru (de_callB dc_isi (by rfl) T.z_isinstance (by decide +kernel) (dn_cons (de_var (pv 3)) (dn_cons (de_bltn (by rfl) T.z_int (by decide +kernel)) (dn_nil)))))) (dw_or (dt_tru (de_callB dc_isi (by rfl) T.z_isinstance (by decide +kernel) (dn_cons (de_var (pv 3)) (dn_cons (de_bltn (by rfl) T.z_bool (by decide +kernel)) (dn_nil))))) (dw_or1 (dt_not (dt_chain do_le do_le (de_var (pv 2)) (de_var (pv 3)) ((T.c_MOST_PRICE.elim fun _ h => de_glob (by rfl) h.1 h.2 fun _ _ => rfl)))))))) (dss_one (ds_raise (mk_BadGood T) (hr.mono (by first | decide | omega | (simp only [Nat.add_eq]; omega))) rfl (takes_of rfl rfl rfl rfl) pass_no (by rfl) T.g_BadGood (dn_cons (de_var (pv 0)) (dn_cons (de_str) (dn_nil))))) (dss_nil)))))
theorem ok__need_making (T : Txt K mg Ad) : DFn P w K mg base 3 Ad.a__need_making Ad.d__need_making ["number", "rule", "parts"] (W_need_making K Ad.cls) :=
  dfn_of T.F__need_making sc__need_making fun cdv A outer s H E hr => (dss_cons (ds_if (dt_not (dt_tru (de_call (ok_is_rule T) (hr.mono (by decide)) (by rfl) T.g_is_rule T.F_is_rule.kp T.b_is_rule .nil rs0 pBody (dn_cons (de_var (pv 1)) (dn_nil))))) (dss_one (ds_raise (mk_BadGood T) (hr.mono (by first | decide | omega | (simp only [Nat.add_eq]; omega))) rfl (takes_of rfl rfl rfl rfl) pass_no (by rfl) T.g_BadGood (dn_cons (de_var (pv 0)) (dn_cons (de_str) (dn_nil))))) (dss_nil)) (dss_one (ds_if (DW.dt (dw_or (dt_not (dt_tru (de_callB dc_isi (by rfl) T.z_isinstance (by decide +kernel) (dn_cons (de_var (pv 2)) (dn_cons (de_bltn (by rfl) T.z_tuple (by decide +kernel)) (dn_nil)))))) (dw_or1 (dt_not (dt_chain do_le do_le (de_int) (de_callB dc_len (by rfl) T.z_len (by decide +kernel) (dn_cons (de_var (pv 2)) (dn_nil))) ((T.c_MOST_PARTS.elim fun _ h => de_glob (by rfl) h.1 h.2 fun _ _ => rfl))))))) (dss_one (ds_raise (mk_BadGood T) (hr.mono (by first | decide | omega | (simp only [Nat.add_eq]; omega))) rfl (takes_of rfl rfl rfl rfl) pass_no (by rfl) T.g_BadGood (dn_cons (de_var (pv 0)) (dn_cons (de_str) (dn_nil))))) (dss_nil))))
theorem ok__look_at (T : Txt K mg Ad) : ∀ n : Nat, DFn P w K mg base (3 + n) Ad.a__look_at Ad.d__look_at ["thing", "whole", "found", "wholes", "made", "moving"] (W_look_at K Ad.cls n)
  | 0 => dfn0
  | n + 1 => by
    have ih := ok__look_at T n
    exact dfn_of T.F__look_at sc__look_at fun cdv A outer s H E hr => (dss_cons (ds_set (i := 6) sc__look_at.nd rfl (by first | exact .inl rfl | exact .inr rfl) (de_callB dc_len (by rfl) T.z_len (by decide +kernel) (dn_cons (de_var (pv 2)) (dn_nil)))) (dss_cons (ds_set (i := 7) sc__look_at.nd rfl (by first | exact .inl rfl | exact .inr rfl) (de_ite (DW.dt (dw_and (dt_tru (de_callB dc_isi (by rfl) T.z_isinstance (by decide +kernel) (dn_cons (de_var (pv 0)) (dn_cons (de_bltn (by rfl) T.z_tuple (by decide +kernel)) (dn_nil))))) (dw_and1 (dt_cmp do_gt (de_callB dc_len (by rfl) T.z_len (by decide +kernel) (dn_cons (de_var (pv 0)) (dn_nil))) (de_int) (nomark _))))) (de_ix (hu_of hr.r) (de_var (pv 0)) ((T.c_MAKING.elim fun _ h => de_glob (by rfl) h.1 h.2 fun _ _ => rfl)) (fun _ _ => rfl)) (de_non))) (dss_cons (ds_set (i := 8) sc__look_at.nd rfl (by first | exact .inl rfl | exact .inr rfl) (de_and (de_callB dc_isi (by rfl) T.z_isinstance (by decide +kernel) (dn_cons (de_var (pv 7)) (dn_cons (de_bltn (by rfl) T.z_str (by decide +kernel)) (dn_nil)))) (de_one (de_cmp (do_eq hr.r.units) (de_var (pv 7)) (de_str) (nomark _))))) (dss_cons (ds_if (dt_tru (de_var (pv 8))) (dss_one (ds_expr (de_app (de_var (pv 4)) (de_var (pv 6))))) (dss_nil)) (dss_cons (ds_if (DW.dt (dw_or (dt_cmp (do_eq hr.r.units) (de_var (pv 6)) ((T.c_MOST_THINGS.elim fun _ h => de_glob (by rfl) h.1 h.2 fun _ _ => rfl)) (nomark _)) (dw_or1 (dt_cmp do_gt (de_callB dc_len (by rfl) T.z_len (by decide +kernel) (dn_cons (de_var (pv 4)) (dn_nil))) ((T.c_MOST_STEPS.elim fun _ h => de_glob (by rfl) h.1 h.2 fun _ _ => rfl)) (nomark _))))) (dss_one (ds_raise (mk_BadGood T) (hr.mono (by first | decide | omega | (simp only [Nat.add_eq]; omega))) rfl (takes_of rfl rfl rfl rfl) pass_no (by rfl) T.g_BadGood (dn_cons (de_var (pv 6)) (dn_cons (de_str) (dn_nil))))) (dss_nil)) (dss_cons (ds_set (i := 9) sc__look_at.nd rfl (by first | exact .inl rfl | exact .inr rfl) (de_tup (dn_nil))) (dss_cons (ds_if (DW.dt (dw_and (dt_tru (de_var (pv 8))) (dw_and1 (dt_cmp (do_eq hr.r.units) (de_callB dc_len (by rfl) T.z_len (by decide +kernel) (dn_cons (de_var (pv 0)) (dn_nil))) (de_int) (nomark _))))) (dss_cons (ds_asg (de_var (pv 0)) (dg_tup rfl (dgs_cons (dg_name (i := 10) sc__look_at.nd rfl (by first | exact .inl rfl | exact .inr rfl)) (dgs_cons (dg_name (i := 11) sc__look_at.nd rfl (by first | exact .inl rfl | exact .inr rfl)) (dgs_cons (dg_name (i := 12) sc__look_at.nd rfl (by first | exact .inl rfl | exact .inr rfl)) (dgs_cons (dg_name (i := 13) sc__look_at.nd rfl (by first | exact .inl rfl | exact .inr rfl)) (dgs_cons (dg_name (i := 14) sc__look_at.nd rfl (by first | exact .inl rfl | exact .inr rfl)) (dgs_cons (dg_name (i := 9) sc__look_at.nd rfl (by first | exact .inl rfl | exact .inr rfl)) (dgs_nil))))))))) (dss_cons (ds_expr (de_call (ok__need_bounds T) (hr.mono (by first | omega | (simp only [Nat.add_eq]; omega))) (by rfl) T.g__need_bounds T.F__need_bounds.kp T.b__need_bounds .nil rs0 pBody (dn_cons (de_var (pv 6)) (dn_cons (de_var (pv 11)) (dn_cons (de_var (pv 12)) (dn_cons (de_var (pv 13)) (dn_nil))))))) (dss_one (ds_expr (de_call (ok__need_making T) (hr.mono (by first | omega | (simp only [Nat.add_eq]; omega))) (by rfl) T.g__need_making T.F__need_making.kp T.b__need_making .nil rs0 pBody (dn_cons (de_var (pv 6)) (dn_cons (de_var (pv 14)) (dn_cons (de_var (pv 9)) (dn_nil))))))))) (dss_one (ds_if (DW.dt (dw_and (dt_tru (de_callB dc_isi (by rfl) T.z_isinstance (by decide +kernel) (dn_cons (de_var (pv 7)) (dn_cons (de_bltn (by rfl) T.z_str (by decide +kernel)) (dn_nil))))) (dw_and (dt_cmp (do_eq hr.r.units) (de_var (pv 7)) (de_str) (nomark _)) (dw_and1 (dt_cmp (do_eq hr.r.units) (de_callB dc_len (by rfl) T.z_len (by decide +kernel) (dn_cons (de_var (pv 0)) (dn_nil))) (de_int) (nomark _)))))) (dss_cons (ds_asg (de_var (pv 0)) (dg_tup rfl (dgs_cons (dg_name (i := 10) sc__look_at.nd rfl (by first | exact .inl rfl | exact .inr rfl)) (dgs_cons (dg_name (i := 11) sc__look_at.nd rfl (by first | exact .inl rfl | exact .inr rfl)) (dgs_cons (dg_name (i := 12) sc__look_at.nd rfl (by first | exact .inl rfl | exact .inr rfl)) (dgs_cons (dg_name (i := 13) sc__look_at.nd rfl (by first | exact .inl rfl | exact .inr rfl)) (dgs_nil))))))) (dss_one (ds_expr (de_call (ok__need_bounds T) (hr.mono (by first | omega | (simp only [Nat.add_eq]; omega))) (by rfl) T.g__need_bounds T.F__need_bounds.kp T.b__need_bounds .nil rs0 pBody (dn_cons (de_var (pv 6)) (dn_cons (de_var (pv 11)) (dn_cons (de_var (pv 12)) (dn_cons (de_var (pv 13)) (dn_nil))))))))) (dss_one (ds_raise (mk_BadGood T) (hr.mono (by first | decide | omega | (simp only [Nat.add_eq]; omega))) rfl (takes_of rfl rfl rfl rfl) pass_no (by rfl) T.g_BadGood (dn_cons (de_var (pv 6)) (dn_cons (de_str) (dn_nil)))))))) (dss_cons (ds_expr (de_app (de_var (pv 2)) (de_var (pv 0)))) (dss_cons (ds_expr (de_app (de_var (pv 3)) (de_var (pv 1)))) (dss_cons (ds_if (dt_cmp do_lt (de_var (pv 12)) (de_var (pv 13)) (nomark _)) (dss_one (ds_expr (de_app (de_var (pv 5)) (de_var (pv 6))))) (dss_nil)) (dss_one (ds_for oBody rfl (di_seq (de_var (pv 9))) (dg_name (i := 15) sc__look_at.nd rfl (by first | exact .inl rfl | exact .inr rfl)) (dss_one (ds_expr (de_call ih (hr.mono (by first | omega | (simp only [Nat.add_eq]; omega))) (by rfl) T.g__look_at T.F__look_at.kp T.b__look_at .nil rs0 pBody (dn_cons (de_var (pv 15)) (dn_cons (de_var (pv 6)) (dn_cons (de_var (pv 2)) (dn_cons (de_var (pv 3)) (dn_cons (de_var (pv 4)) (dn_cons (de_var (pv 5)) (dn_nil))))))))))))))))))))))
theorem ok_look_over (T : Txt K mg Ad) : DFn P w K mg base 12 Ad.a_look_over Ad.d_look_over ["good"] (Wlook_over K Ad.cls) :=
  dfn_of T.F_look_over sc_look_over fun cdv A outer s H E hr => (dss_cons (ds_asg (de_tup (dn_cons (de_lstO (dn_nil)) (dn_cons (de_lstO (dn_nil)) (dn_cons (de_lstO (dn_nil)) (dn_cons (de_lstO (dn_nil)) (dn_nil)))))) (dg_tup rfl (dgs_cons (dg_name (i := 1) sc_look_over.nd rfl (by first | exact .inl rfl | exact .inr rfl)) (dgs_cons (dg_name (i := 2) sc_look_over.nd rfl (by first | exact .inl rfl | exact .inr rfl)) (dgs_cons (dg_name (i := 3) sc_look_over.nd rfl (by first | exact .inl rfl | exact .inr rfl)) (dgs_cons (dg_name (i := 4) sc_look_over.nd rfl (by first | exact .inl rfl | exact .inr rfl)) (dgs_nil))))))) (dss_cons (ds_expr (de_call (ok__look_at T 8) (hr.mono (by decide)) (by rfl) T.g__look_at T.F__look_at.kp T.b__look_at .nil rs0 pBody (dn_cons (de_var (pv 0)) (dn_cons (de_non) (dn_cons (de_var (pv 1)) (dn_cons (de_var (pv 2)) (dn_cons (de_var (pv 3)) (dn_cons (de_var (pv 4)) (dn_nil))))))))) (dss_cons (ds_if (dt_cmp (do_eq hr.r.units) (de_callB dc_len (by rfl) T.z_len (by decide +kernel) (dn_cons (de_var (pv 3)) (dn_nil))) (de_int) (nomark _)) (dss_one (ds_raise (mk_BadGood T) (hr.mono (by first | decide | omega | (simp only [Nat.add_eq]; omega))) rfl (takes_of rfl rfl rfl rfl) pass_no (by rfl) T.g_BadGood (dn_cons (de_int) (dn_cons (de_str) (dn_nil))))) (dss_nil)) (dss_cons (ds_if (dt_cmp do_gt (de_callB dc_len (by rfl) T.z_len (by decide +kernel) (dn_cons (de_var (pv 4)) (dn_nil))) ((T.c_MOST_MOVES.elim fun _ h => de_glob (by rfl) h.1 h.2 fun _ _ => rfl)) (nomark _)) (dss_one (ds_raise (mk_BadGood T) (hr.mono (by first | decide | omega | (simp only [Nat.add_eq]; omega))) rfl (takes_of rfl rfl rfl rfl) pass_no (by rfl) T.g_BadGood (dn_cons (de_int) (dn_cons (de_str) (dn_nil))))) (dss_nil)) (dss_cons (ds_for oBody rfl (di_seq (de_var (pv 1))) (dg_name (i := 5) sc_look_over.nd rfl (by first | exact .inl rfl | exact .inr rfl)) (dss_one (ds_if (dt_cmp do_gt (de_ix (hu_of hr.r) (de_var (pv 5)) ((T.c_LOW.elim fun _ h => de_glob (by rfl) h.1 h.2 fun _ _ => rfl)) (fun _ _ => rfl)) (de_int) (nomark _)) (dss_one (ds_ret (de_tup (dn_cons (de_var (pv 1)) (dn_cons (de_var (pv 2)) (dn_cons (de_var (pv 3)) (dn_cons (de_var (pv 4)) (dn_nil)))))))) (dss_nil)))) (dss_one (ds_raise (mk_BadGood T) (hr.mono (by first | decide | omega | (simp only [Nat.add_eq]; omega))) rfl (takes_of rfl rfl rfl rfl) pass_no (by rfl) T.g_BadGood (dn_cons (de_int) (dn_cons (de_str) (dn_nil))))))))))
theorem ok_is_fraction (T : Txt K mg Ad) : DFn P w K mg base 1 Ad.a_is_fraction Ad.d_is_fraction ["value", "least", "most"] (Wis_fraction K Ad.cls) :=
  dfn_of T.F_is_fraction sc_is_fraction fun cdv A outer s H E hr => (dss_cons (ds_if (DW.dt (dw_or (dt_not (dt_tru (de_callB dc_isi (by rfl) T.z_isinstance (by decide +kernel) (dn_cons (de_var (pv 0)) (dn_cons (de_bltn (by rfl) T.z_tuple (by decide +kernel)) (dn_nil)))))) (dw_or1 (dt_cmp (do_ne hr.r.units) (de_callB dc_len (by rfl) T.z_len (by decide +kernel) (dn_cons (de_var (pv 0)) (dn_nil))) (de_int) (nomark _))))) (dss_one (ds_ret (de_bl))) (dss_nil)) (dss_cons (ds_asg (de_var (pv 0)) (dg_tup rfl (dgs_cons (dg_name (i := 3) sc_is_fraction.nd rfl (by first | exact .inl rfl | exact .inr rfl)) (dgs_cons (dg_name (i := 4) sc_is_fraction.nd rfl (by first | exact .inl rfl | exact .inr rfl)) (dgs_nil))))) (dss_cons (ds_if (DW.dt (dw_or (dt_not (dt_tru (de_callB dc_isi (by rfl) T.z_isinstance (by decide +kernel) (dn_cons (de_var (pv 3)) (dn_cons (de_bltn (by rfl) T.z_int (by decide +kernel)) (dn_nil)))))) (dw_or (dt_tru (de_callB dc_isi (by rfl) T.z_isinstance (by decide +kernel) (dn_cons (de_var (pv 3)) (dn_cons (de_bltn (by rfl) T.z_bool (by decide +kernel)) (dn_nil))))) (dw_or (dt_not (dt_tru (de_callB dc_isi (by rfl) T.z_isinstance (by decide +kernel) (dn_cons (de_var (pv 4)) (dn_cons (de_bltn (by rfl) T.z_int (by decide +kernel)) (dn_nil)))))) (dw_or1 (dt_tru (de_callB dc_isi (by rfl) T.z_isinstance (by decide +kernel) (dn_cons (de_var (pv 4)) (dn_cons (de_bltn (by rfl) T.z_bool (by decide +kernel)) (dn_nil)))))))))) (dss_one (ds_ret (de_bl))) (dss_nil)) (dss_one (ds_ret (de_and (de_or (de_cmp (do_eq hr.r.units) (de_var (pv 4)) (de_int) (nomark _)) (de_one (de_and (de_cmp do_gt (de_var (pv 4)) (de_int) (nomark _)) (de_one (de_cmp (do_eq hr.r.units) (de_callF dc_gcd (by rfl) T.i_gcd (dn_cons (de_var (pv 3)) (dn_cons (de_var (pv 4)) (dn_nil)))) (de_int) (nomark _)))))) (de_one (de_chain do_le do_le (de_op do_mul (de_var (pv 1)) (de_var (pv 4))) (de_var (pv 3)) (de_op do_mul (de_var (pv 2)) (de_var (pv 4)))))))))))
theorem ok_lowest_terms (T : Txt K mg Ad) : DFn P w K mg base 1 Ad.a_lowest_terms Ad.d_lowest_terms ["part", "of"] (Wlowest_terms K Ad.cls) :=
  dfn_of T.F_lowest_terms sc_lowest_terms fun cdv A outer s H E hr => (dss_cons (ds_set (i := 2) sc_lowest_terms.nd rfl (by first | exact .inl rfl | exact .inr rfl) (de_callF dc_gcd (by rfl) T.i_gcd (dn_cons (de_var (pv 0)) (dn_cons (de_var (pv 1)) (dn_nil))))) (dss_one (ds_ret (de_tup (dn_cons (de_op do_fdiv (de_var (pv 0)) (de_var (pv 2))) (dn_cons (de_op do_fdiv (de_var (pv 1)) (de_var (pv 2))) (dn_nil)))))))
theorem ok_need_prices (T : Txt K mg Ad) : DFn P w K mg base 3 Ad.a_need_prices Ad.d_need_prices ["found", "prices"] (Wneed_prices K Ad.cls) :=
  dfn_of T.F_need_prices sc_need_prices fun cdv A outer s H E hr => (dss_cons (ds_if (DW.dt (dw_or (dt_not (dt_tru (de_callB dc_isi (by rfl) T.z_isinstance (by decide +kernel) (dn_cons (de_var (pv 1)) (dn_cons (de_bltn (by rfl) T.z_tuple (by decide +kernel)) (dn_nil)))))) (dw_or1 (dt_cmp (do_ne hr.r.units) (de_callB dc_len (by rfl) T.z_len (by decide +kernel) (dn_cons (de_var (pv 1)) (dn_nil))) (de_callB dc_len (by rfl) T.z_len (by decide +kernel) (dn_cons (de_var (pv 0)) (dn_nil))) (nomark _))))) (dss_one (ds_raise (mk_BadPrices T) (hr.mono (by first | decide | omega | (simp only [Nat.add_eq]; omega))) rfl (takes_of rfl rfl rfl rfl) pass_no (by rfl) T.g_BadPrices (dn_cons (de_non) (dn_nil)))) (dss_nil)) (dss_cons (ds_for oBody rfl (di_enumB (by rfl) T.z_enumerate (de_var (pv 0))) (dg_tup rfl (dgs_cons (dg_name (i := 2) sc_need_prices.nd rfl (by first | exact .inl rfl | exact .inr rfl)) (dgs_cons (dg_name (i := 3) sc_need_prices.nd rfl (by first | exact .inl rfl | exact .inr rfl)) (dgs_nil)))) (dss_one (ds_if (dt_not (dt_tru (de_call (ok_is_fraction T) (hr.mono (by decide)) (by rfl) T.g_is_fraction T.F_is_fraction.kp T.b_is_fraction .nil rs0 pBody (dn_cons (de_ix (hu_of hr.r) (de_var (pv 1)) (de_var (pv 2)) (fun _ _ => rfl)) (dn_cons (de_ix (hu_of hr.r) (de_var (pv 3)) ((T.c_LOW.elim fun _ h => de_glob (by rfl) h.1 h.2 fun _ _ => rfl)) (fun _ _ => rfl)) (dn_cons (de_ix (hu_of hr.r) (de_var (pv 3)) ((T.c_HIGH.elim fun _ h => de_glob (by rfl) h.1 h.2 fun _ _ => rfl)) (fun _ _ => rfl)) (dn_nil))))))) (dss_one (ds_raise (mk_BadPrices T) (hr.mono (by first | decide | omega | (simp only [Nat.add_eq]; omega))) rfl (takes_of rfl rfl rfl rfl) pass_no (by rfl) T.g_BadPrices (dn_cons (de_var (pv 2)) (dn_nil)))) (dss_nil)))) (dss_one (ds_ret (de_var (pv 1))))))
theorem ok_common_unit (T : Txt K mg Ad) : DFn P w K mg base 1 Ad.a_common_unit Ad.d_common_unit ["prices"] (Wcommon_unit K Ad.cls) :=
  dfn_of T.F_common_unit sc_common_unit fun cdv A outer s H E hr => (dss_cons (ds_set (i := 1) sc_common_unit.nd rfl (by first | exact .inl rfl | exact .inr rfl) (de_int)) (dss_cons (ds_for oBody rfl (di_seq (de_var (pv 0))) (dg_tup rfl (dgs_cons (dg_name (i := 2) sc_common_unit.nd rfl (by first | exact .inl rfl | exact .inr rfl)) (dgs_cons (dg_name (i := 3) sc_common_unit.nd rfl (by first | exact .inl rfl | exact .inr rfl)) (dgs_nil)))) (dss_one (ds_set (i := 1) sc_common_unit.nd rfl (by first | exact .inl rfl | exact .inr rfl) (de_callF dc_lcm (by rfl) T.i_lcm (dn_cons (de_var (pv 1)) (dn_cons (de_var (pv 3)) (dn_nil))))))) (dss_one (ds_ret (de_var (pv 1))))))
theorem ok_in_units (T : Txt K mg Ad) : DFn P w K mg base 1 Ad.a_in_units Ad.d_in_units ["prices", "unit"] (Win_units K Ad.cls) :=
  dfn_of T.F_in_units sc_in_units fun cdv A outer s H E hr => (dss_one (ds_ret (de_comp [("part", 2), ("of", 3)] (gTup K 2 (gCons (gName 2) (gCons (gName 3) (gNil)))) rfl sc_in_units.nd (di_seq (de_var (pv 0))) (blkOk_by (N := N_in_units) (sc := defScope st_in_units) (by decide +kernel)) (fun _ _ _ _ _ => pg_tup rfl (pgs_cons (pg_name (i := 2) sc_in_units.nd rfl (by first | exact .inl rfl | exact .inr rfl)) (pgs_cons (pg_name (i := 3) sc_in_units.nd rfl (by first | exact .inl rfl | exact .inr rfl)) (pgs_nil)))) (gv_tup (gvs_cons (gv_name (by decide)) (gvs_cons (gv_name (by decide)) (gvs_nil)))) (fun _ _ _ _ _ => dts_nil) (fun _ _ _ _ _ => de_op do_mul (de_var (pv 2)) (de_op do_fdiv (de_var (pv 1)) (de_var (pv 3)))))))
theorem ok_fractions_of (T : Txt K mg Ad) : DFn P w K mg base 2 Ad.a_fractions_of Ad.d_fractions_of ["amounts", "unit"] (Wfractions_of K Ad.cls) :=
  dfn_of T.F_fractions_of sc_fractions_of fun cdv A outer s H E hr => (dss_cons (ds_if (dt_cmp (do_eq hr.r.units) (de_var (pv 1)) (de_int) (nomark _)) (dss_one (ds_ret (de_callTy dc_tuple (by rfl) T.z_tuple (by decide +kernel) (dn_cons (de_comp [("amount", 2)] (gName 2) rfl sc_fractions_of.nd (di_seq (de_var (pv 0))) (blkOk_by (N := N_fractions_of) (sc := defScope st_fractions_of) (by decide +kernel)) (fun _ _ _ _ _ => pg_name (i := 2) sc_fractions_of.nd rfl (by first | exact .inl rfl | exact .inr rfl)) (gv_name (by decide)) (fun _ _ _ _ _ => dts_nil) (fun _ _ _ _ _ => de_tup (dn_cons (de_var (pv 2)) (dn_cons (de_int) (dn_nil))))) (dn_nil))))) (dss_nil)) (dss_one (ds_ret (de_callTy dc_tuple (by rfl) T.z_tuple (by decide +kernel) (dn_cons (de_comp [("amount", 2)] (gName 2) rfl sc_fractions_of.nd (di_seq (de_var (pv 0))) (blkOk_by (N := N_fractions_of) (sc := defScope st_fractions_of) (by decide +kernel)) (fun _ _ _ _ _ => pg_name (i := 2) sc_fractions_of.nd rfl (by first | exact .inl rfl | exact .inr rfl)) (gv_name (by decide)) (fun _ _ _ _ _ => dts_nil) (fun _ _ _ _ _ => de_call (ok_lowest_terms T) (hr.mono (by decide)) (by rfl) T.g_lowest_terms T.F_lowest_terms.kp T.b_lowest_terms .nil rs0 passL (dn_cons (de_var (pv 2)) (dn_cons (de_var (pv 1)) (dn_nil))))) (dn_nil))))))
theorem ok_sums_of (T : Txt K mg Ad) : DFn P w K mg base 1 Ad.a_sums_of Ad.d_sums_of ["found", "wholes", "amounts"] (Wsums_of K Ad.cls) :=
  dfn_of T.F_sums_of sc_sums_of fun cdv A outer s H E hr => (dss_cons (ds_set (i := 3) sc_sums_of.nd rfl (by first | exact .inl rfl | exact .inr rfl) (de_callTy dc_listO (by rfl) T.z_list (by decide +kernel) (dn_cons (de_var (pv 2)) (dn_nil)))) (dss_cons (ds_setCompO (i := 4) [("amount", 5), ("thing", 6)] (gTup K 2 (gCons (gName 5) (gCons (gName 6) (gNil)))) rfl sc_sums_of.nd rfl rfl (sw_true rfl rfl rfl (by decide +kernel)) (di_zipM (by rfl) T.z_zip (de_var (pv 2)) (de_var (pv 0))) (blkOk_by (N := N_sums_of) (sc := defScope st_sums_of) (by decide +kernel)) (fun _ _ _ _ _ => pg_tup rfl (pgs_cons (pg_name (i := 5) sc_sums_of.nd rfl (by first | exact .inl rfl | exact .inr rfl)) (pgs_cons (pg_name (i := 6) sc_sums_of.nd rfl (by first | exact .inl rfl | exact .inr rfl)) (pgs_nil)))) (gv_tup (gvs_cons (gv_name (by decide)) (gvs_cons (gv_name (by decide)) (gvs_nil)))) (fun _ _ _ _ _ => dts_nil) (fun _ _ _ _ _ => de_ite (dt_cmp (do_eq hr.r.units) (de_ix (hu_of hr.r) (de_var (pv 6)) ((T.c_LAND.elim fun _ h => de_glob (by rfl) h.1 h.2 fun _ _ => rfl)) (fun _ _ => rfl)) (de_str) (nomark _)) (de_var (pv 5)) (de_int))) (dss_cons (ds_set (i := 7) sc_sums_of.nd rfl (by first | exact .inl rfl | exact .inr rfl) (de_callTy dc_listO (by rfl) T.z_list (by decide +kernel) (dn_cons (de_var (pv 4)) (dn_nil)))) (dss_cons (ds_set (i := 8) sc_sums_of.nd rfl (by first | exact .inl rfl | exact .inr rfl) (de_lstO (dn_nil))) (dss_cons (ds_for oBody rfl (di_revR (by rfl) T.z_reversed (dr_1 (by rfl) T.z_range (de_callB dc_len (by rfl) T.z_len (by decide +kernel) (dn_cons (de_var (pv 0)) (dn_nil))))) (dg_name (i := 9) sc_sums_of.nd rfl (by first | exact .inl rfl | exact .inr rfl)) (dss_cons (ds_set (i := 6) sc_sums_of.nd rfl (by first | exact .inl rfl | exact .inr rfl) (de_ix (hu_of hr.r) (de_var (pv 0)) (de_var (pv 9)) (fun _ _ => rfl))) (dss_cons (ds_set (i := 10) sc_sums_of.nd rfl (by first | exact .inl rfl | exact .inr rfl) (de_ix (hu_of hr.r) (de_var (pv 4)) (de_var (pv 9)) (fun _ _ => rfl))) (dss_cons (ds_if (dt_cmp (do_eq hr.r.units) (de_ix (hu_of hr.r) (de_var (pv 6)) ((T.c_MAKING.elim fun _ h => de_glob (by rfl) h.1 h.2 fun _ _ => rfl)) (fun _ _ => rfl)) (de_str) (nomark _)) (dss_cons (ds_asg (de_ix (hu_of hr.r) (de_var (pv 6)) ((T.c_RULE.elim fun _ h => de_glob (by rfl) h.1 h.2 fun _ _ => rfl)) (fun _ _ => rfl)) (dg_tup rfl (dgs_cons (dg_name (i := 11) sc_sums_of.nd rfl (by first | exact .inl rfl | exact .inr rfl)) (dgs_cons (dg_name (i := 12) sc_sums_of.nd rfl (by first | exact .inl rfl | exact .inr rfl)) (dgs_cons (dg_name (i := 13) sc_sums_of.nd rfl (by first | exact .inl rfl | exact .inr rfl)) (dgs_nil)))))) (dss_cons (ds_if (dt_cmp do_ge (de_op do_mul (de_int) (de_var (pv 10))) (de_op do_mul (de_var (pv 11)) (de_ix (hu_of hr.r) (de_var (pv 3)) (de_var (pv 9)) (fun _ _ => rfl))) (nomark _)) (dss_cons (ds_expr (de_app (de_var (pv 8)) (de_int))) (dss_one (ds_set (i := 10) sc_sums_of.nd rfl (by first | exact .inl rfl | exact .inr rfl) (de_ite (dt_cmp (do_eq hr.r.units) (de_var (pv 12)) (de_str) (nomark _)) (de_ix (hu_of hr.r) (de_var (pv 3)) (de_var (pv 9)) (fun _ _ => rfl)) (de_var (pv 10)))))) (dss_cons (ds_expr (de_app (de_var (pv 8)) (de_int))) (dss_one (ds_set (i := 10) sc_sums_of.nd rfl (by first | exact .inl rfl | exact .inr rfl) (de_ite (dt_cmp (do_eq hr.r.units) (de_var (pv 13)) (de_str) (nomark _)) (de_var (pv 10)) (de_int)))))) (dss_one (ds_asg (de_var (pv 10)) (dg_sub (hu_of hr.r) (de_var (pv 7)) (de_var (pv 9))))))) (dss_nil)) (dss_one (ds_if (dt_cmp do_gt (de_var (pv 9)) (de_int) (nomark _)) (dss_cons (ds_set (i := 14) sc_sums_of.nd rfl (by first | exact .inl rfl | exact .inr rfl) (de_ix (hu_of hr.r) (de_var (pv 1)) (de_var (pv 9)) (fun _ _ => rfl))) (dss_cons (ds_augS (f := (fun i j => i + j)) ip_add (hu_of hr.r) (de_var (pv 3)) (de_var (pv 14)) (de_ix (hu_of hr.r) (de_var (pv 3)) (de_var (pv 9)) (fun _ _ => rfl))) (dss_one (ds_augS (f := (fun i j => i + j)) ip_add (hu_of hr.r) (de_var (pv 4)) (de_var (pv 14)) (de_var (pv 10)))))) (dss_nil))))))) (dss_cons (ds_expr (de_rvs (de_var (pv 8)))) (dss_one (ds_ret (de_tup (dn_cons (de_var (pv 3)) (dn_cons (de_var (pv 4)) (dn_cons (de_var (pv 7)) (dn_cons (de_var (pv 8)) (dn_nil))))))))))))))
theorem ok__sums_at (T : Txt K mg Ad) : DFn P w K mg base 13 Ad.a__sums_at Ad.d__sums_at ["good", "prices"] (W_sums_at K Ad.cls) :=
  dfn_of T.F__sums_at sc__sums_at fun cdv A outer s H E hr => (dss_cons (ds_asg (de_call (ok_look_over T) (hr.mono (by decide)) (by rfl) T.g_look_over T.F_look_over.kp T.b_look_over .nil rs0 pBody (dn_cons (de_var (pv 0)) (dn_nil))) (dg_tup rfl (dgs_cons (dg_name (i := 2) sc__sums_at.nd rfl (by first | exact .inl rfl | exact .inr rfl)) (dgs_cons (dg_name (i := 3) sc__sums_at.nd rfl (by first | exact .inl rfl | exact .inr rfl)) (dgs_cons (dg_name (i := 4) sc__sums_at.nd rfl (by first | exact .inl rfl | exact .inr rfl)) (dgs_cons (dg_name (i := 4) sc__sums_at.nd rfl (by first | exact .inl rfl | exact .inr rfl)) (dgs_nil))))))) (dss_cons (ds_expr (de_call (ok_need_prices T) (hr.mono (by decide)) (by rfl) T.g_need_prices T.F_need_prices.kp T.b_need_prices .nil rs0 pBody (dn_cons (de_var (pv 2)) (dn_cons (de_var (pv 1)) (dn_nil))))) (dss_cons (ds_set (i := 5) sc__sums_at.nd rfl (by first | exact .inl rfl | exact .inr rfl) (de_call (ok_common_unit T) (hr.mono (by decide)) (by rfl) T.g_common_unit T.F_common_unit.kp T.b_common_unit .nil rs0 pBody (dn_cons (de_var (pv 1)) (dn_nil)))) (dss_cons (ds_asg (de_call (ok_sums_of T) (hr.mono (by decide)) (by rfl) T.g_sums_of T.F_sums_of.kp T.b_sums_of .nil rs0 pBody (dn_cons (de_var (pv 2)) (dn_cons (de_var (pv 3)) (dn_cons (de_call (ok_in_units T) (hr.mono (by decide)) (by rfl) T.g_in_units T.F_in_units.kp T.b_in_units .nil rs0 pBody (dn_cons (de_var (pv 1)) (dn_cons (de_var (pv 5)) (dn_nil)))) (dn_nil))))) (dg_tup rfl (dgs_cons (dg_name (i := 6) sc__sums_at.nd rfl (by first | exact .inl rfl | exact .inr rfl)) (dgs_cons (dg_name (i := 7) sc__sums_at.nd rfl (by first | exact .inl rfl | exact .inr rfl)) (dgs_cons (dg_name (i := 8) sc__sums_at.nd rfl (by first | exact .inl rfl | exact .inr rfl)) (dgs_cons (dg_name (i := 9) sc__sums_at.nd rfl (by first | exact .inl rfl | exact .inr rfl)) (dgs_nil))))))) (dss_one (ds_ret (de_tup (dn_cons (de_var (pv 6)) (dn_cons (de_var (pv 7)) (dn_cons (de_var (pv 8)) (dn_cons (de_var (pv 9)) (dn_cons (de_var (pv 5)) (dn_nil)))))))))))))
theorem ok_costs (T : Txt K mg Ad) : DFn P w K mg base 14 Ad.a_costs Ad.d_costs ["good", "prices"] (Wcosts K Ad.cls) :=
  dfn_of T.F_costs sc_costs fun cdv A outer s H E hr => (dss_cons (ds_asg (de_call (ok__sums_at T) (hr.mono (by decide)) (by rfl) T.g__sums_at T.F__sums_at.kp T.b__sums_at .nil rs0 pBody (dn_cons (de_var (pv 0)) (dn_cons (de_var (pv 1)) (dn_nil)))) (dg_tup rfl (dgs_cons (dg_name (i := 2) sc_costs.nd rfl (by first | exact .inl rfl | exact .inr rfl)) (dgs_cons (dg_name (i := 3) sc_costs.nd rfl (by first | exact .inl rfl | exact .inr rfl)) (dgs_cons (dg_name (i := 3) sc_costs.nd rfl (by first | exact .inl rfl | exact .inr rfl)) (dgs_cons (dg_name (i := 3) sc_costs.nd rfl (by first | exact .inl rfl | exact .inr rfl)) (dgs_cons (dg_name (i := 4) sc_costs.nd rfl (by first | exact .inl rfl | exact .inr rfl)) (dgs_nil)))))))) (dss_one (ds_ret (de_call (ok_fractions_of T) (hr.mono (by decide)) (by rfl) T.g_fractions_of T.F_fractions_of.kp T.b_fractions_of .nil rs0 pBody (dn_cons (de_var (pv 2)) (dn_cons (de_var (pv 4)) (dn_nil)))))))
theorem ok_owns (T : Txt K mg Ad) : DFn P w K mg base 14 Ad.a_owns Ad.d_owns ["good", "prices"] (Wowns K Ad.cls) :=
  dfn_of T.F_owns sc_owns fun cdv A outer s H E hr => (dss_cons (ds_asg (de_call (ok__sums_at T) (hr.mono (by decide)) (by rfl) T.g__sums_at T.F__sums_at.kp T.b__sums_at .nil rs0 pBody (dn_cons (de_var (pv 0)) (dn_cons (de_var (pv 1)) (dn_nil)))) (dg_tup rfl (dgs_cons (dg_name (i := 2) sc_owns.nd rfl (by first | exact .inl rfl | exact .inr rfl)) (dgs_cons (dg_name (i := 3) sc_owns.nd rfl (by first | exact .inl rfl | exact .inr rfl)) (dgs_cons (dg_name (i := 2) sc_owns.nd rfl (by first | exact .inl rfl | exact .inr rfl)) (dgs_cons (dg_name (i := 2) sc_owns.nd rfl (by first | exact .inl rfl | exact .inr rfl)) (dgs_cons (dg_name (i := 4) sc_owns.nd rfl (by first | exact .inl rfl | exact .inr rfl)) (dgs_nil)))))))) (dss_one (ds_ret (de_call (ok_fractions_of T) (hr.mono (by decide)) (by rfl) T.g_fractions_of T.F_fractions_of.kp T.b_fractions_of .nil rs0 pBody (dn_cons (de_var (pv 3)) (dn_cons (de_var (pv 4)) (dn_nil)))))))
theorem ok_words_at (T : Txt K mg Ad) : DFn P w K mg base 14 Ad.a_words_at Ad.d_words_at ["good", "prices"] (Wwords_at K Ad.cls) :=
  dfn_of T.F_words_at sc_words_at fun cdv A outer s H E hr => (dss_cons (ds_asg (de_call (ok__sums_at T) (hr.mono (by decide)) (by rfl) T.g__sums_at T.F__sums_at.kp T.b__sums_at .nil rs0 pBody (dn_cons (de_var (pv 0)) (dn_cons (de_var (pv 1)) (dn_nil)))) (dg_tup rfl (dgs_cons (dg_name (i := 2) sc_words_at.nd rfl (by first | exact .inl rfl | exact .inr rfl)) (dgs_cons (dg_name (i := 2) sc_words_at.nd rfl (by first | exact .inl rfl | exact .inr rfl)) (dgs_cons (dg_name (i := 2) sc_words_at.nd rfl (by first | exact .inl rfl | exact .inr rfl)) (dgs_cons (dg_name (i := 3) sc_words_at.nd rfl (by first | exact .inl rfl | exact .inr rfl)) (dgs_cons (dg_name (i := 2) sc_words_at.nd rfl (by first | exact .inl rfl | exact .inr rfl)) (dgs_nil)))))))) (dss_one (ds_ret (de_callTy dc_tuple (by rfl) T.z_tuple (by decide +kernel) (dn_cons (de_var (pv 3)) (dn_nil))))))
theorem ok_portion (T : Txt K mg Ad) : DFn P w K mg base 14 Ad.a_portion Ad.d_portion ["good", "prices"] (Wportion K Ad.cls) :=
  dfn_of T.F_portion sc_portion fun cdv A outer s H E hr => (dss_cons (ds_asg (de_call (ok__sums_at T) (hr.mono (by decide)) (by rfl) T.g__sums_at T.F__sums_at.kp T.b__sums_at .nil rs0 pBody (dn_cons (de_var (pv 0)) (dn_cons (de_var (pv 1)) (dn_nil)))) (dg_tup rfl (dgs_cons (dg_name (i := 2) sc_portion.nd rfl (by first | exact .inl rfl | exact .inr rfl)) (dgs_cons (dg_name (i := 3) sc_portion.nd rfl (by first | exact .inl rfl | exact .inr rfl)) (dgs_cons (dg_name (i := 4) sc_portion.nd rfl (by first | exact .inl rfl | exact .inr rfl)) (dgs_cons (dg_name (i := 4) sc_portion.nd rfl (by first | exact .inl rfl | exact .inr rfl)) (dgs_cons (dg_name (i := 4) sc_portion.nd rfl (by first | exact .inl rfl | exact .inr rfl)) (dgs_nil)))))))) (dss_one (ds_ret (de_call (ok_lowest_terms T) (hr.mono (by decide)) (by rfl) T.g_lowest_terms T.F_lowest_terms.kp T.b_lowest_terms .nil rs0 pBody (dn_cons (de_ix (hu_of hr.r) (de_var (pv 3)) (de_int) (fun _ _ => rfl)) (dn_cons (de_ix (hu_of hr.r) (de_var (pv 2)) (de_int) (fun _ _ => rfl)) (dn_nil)))))))
theorem ok__law_begun (T : Txt K mg Ad) : DFn P w K mg base 1 Ad.a__law_begun Ad.d__law_begun ["script"] (W_law_begun K Ad.cls) :=
  dfn_of T.F__law_begun sc__law_begun fun cdv A outer s H E hr => (dss_cons (ds_setComp (i := 1) [("cell", 2)] (gName 2) rfl sc__law_begun.nd rfl rfl (sw_true rfl rfl rfl (by decide +kernel)) (di_seq (de_var (pv 0))) (blkOk_by (N := N__law_begun) (sc := defScope st__law_begun) (by decide +kernel)) (fun _ _ _ _ _ => pg_name (i := 2) sc__law_begun.nd rfl (by first | exact .inl rfl | exact .inr rfl)) (gv_name (by decide)) (fun _ _ _ _ _ => dts_one (dt_cmp do_ge (de_var (pv 2)) (de_op do_pow (de_int) (de_int)) (nomark _))) (fun _ _ _ _ _ => de_var (pv 2))) (dss_one (ds_ret (de_dct (.str (de_op do_add (de_callTy dc_list (by rfl) T.z_list (by decide +kernel) (dn_cons (de_var (pv 0)) (dn_nil))) (de_lst (dn_cons (de_callB dc_len (by rfl) T.z_len (by decide +kernel) (dn_cons (de_var (pv 0)) (dn_nil))) (dn_nil)))) (.str (de_ite (dt_cmp (do_ne hr.r.units) (de_var (pv 1)) (de_lst (dn_nil)) (nomark _)) (de_ix (hu_of hr.r) (de_var (pv 1)) (de_int) (fun _ _ => rfl)) (de_int)) (.str (de_int) (.nil)))) (by rfl) (by rfl) (fun z => by cases z) (by decide) (Nat.le_of_ble_eq_true rfl) (by first | decide +kernel | (simp only [List.map_cons, List.map_nil]; decide +kernel))))))
theorem ok__law_draw (T : Txt K mg Ad) : DFn P w K mg base 1 Ad.a__law_draw Ad.d__law_draw ["m", "limit"] (W_law_draw K Ad.cls) :=
  dfn_of T.F__law_draw sc__law_draw fun cdv A outer s H E hr => (dss_cons (ds_if (dt_cmp do_gt (de_ix (hu_of hr.r) (de_var (pv 0)) (de_str) (fun _ _ => rfl)) (de_int) (nomark _)) (dss_cons (ds_set (i := 2) sc__law_draw.nd rfl (by first | exact .inl rfl | exact .inr rfl) (de_op do_mod (de_callTy dc_int (by rfl) T.z_int (by decide +kernel) (dn_cons (de_ix (hu_of hr.r) (de_var (pv 0)) (de_str) (fun _ _ => rfl)) (dn_nil))) (de_var (pv 1)))) (dss_cons (ds_asg (de_op do_fdiv (de_ix (hu_of hr.r) (de_var (pv 0)) (de_str) (fun _ _ => rfl)) (de_var (pv 1))) (dg_sub (hu_of hr.r) (de_var (pv 0)) (de_str))) (dss_one (ds_ret (de_var (pv 2)))))) (dss_nil)) (dss_cons (ds_set (i := 3) sc__law_draw.nd rfl (by first | exact .inl rfl | exact .inr rfl) (de_op do_add (de_ix (hu_of hr.r) (de_var (pv 0)) (de_str) (fun _ _ => rfl)) (de_int))) (dss_cons (ds_asg (de_var (pv 3)) (dg_sub (hu_of hr.r) (de_var (pv 0)) (de_str))) (dss_cons (ds_set (i := 4) sc__law_draw.nd rfl (by first | exact .inl rfl | exact .inr rfl) (de_ix (hu_of hr.r) (de_ix (hu_of hr.r) (de_var (pv 0)) (de_str) (fun _ _ => rfl)) (de_op do_mod (de_callTy dc_int (by rfl) T.z_int (by decide +kernel) (dn_cons (de_var (pv 3)) (dn_nil))) (de_callB dc_len (by rfl) T.z_len (by decide +kernel) (dn_cons (de_ix (hu_of hr.r) (de_var (pv 0)) (de_str) (fun _ _ => rfl)) (dn_nil)))) (fun _ _ => rfl))) (dss_cons (ds_set (i := 5) sc__law_draw.nd rfl (by first | exact .inl rfl | exact .inr rfl) (de_op do_mul (de_callTy dc_int (by rfl) T.z_int (by decide +kernel) (dn_cons (de_op do_add (de_op do_add (de_op do_mod (de_callTy dc_int (by rfl) T.z_int (by decide +kernel) (dn_cons (de_var (pv 4)) (dn_nil))) (de_int)) (de_op do_mul (de_int) (de_var (pv 3)))) (de_op do_mul (de_op do_mul (de_int) (de_var (pv 3))) (de_var (pv 3)))) (dn_nil))) (de_int))) (dss_cons (ds_set (i := 5) sc__law_draw.nd rfl (by first | exact .inl rfl | exact .inr rfl) (de_op do_mul (de_callTy dc_int (by rfl) T.z_int (by decide +kernel) (dn_cons (de_op do_add (de_op do_mod (de_callTy dc_int (by rfl) T.z_int (by decide +kernel) (dn_cons (de_var (pv 5)) (dn_nil))) (de_int)) (de_op do_mul (de_int) (de_var (pv 3)))) (dn_nil))) (de_int))) (dss_one (ds_ret (de_op do_mod (de_callTy dc_int (by rfl) T.z_int (by decide +kernel) (dn_cons (de_op do_fdiv (de_op do_mod (de_callTy dc_int (by rfl) T.z_int (by decide +kernel) (dn_cons (de_var (pv 5)) (dn_nil))) (de_int)) (de_int)) (dn_nil))) (de_var (pv 1)))))))))))
theorem ok__law_of (T : Txt K mg Ad) : DFn P w K mg base 2 Ad.a__law_of Ad.d__law_of ["m", "some"] (W_law_of K Ad.cls) :=
  dfn_of T.F__law_of sc__law_of fun cdv A outer s H E hr => (dss_one (ds_ret (de_ix (hu_of hr.r) (de_var (pv 1)) (de_call (ok__law_draw T) (hr.mono (by decide)) (by rfl) T.g__law_draw T.F__law_draw.kp T.b__law_draw .nil rs0 pBody (dn_cons (de_var (pv 0)) (dn_cons (de_callB dc_len (by rfl) T.z_len (by decide +kernel) (dn_cons (de_var (pv 1)) (dn_nil))) (dn_nil)))) (fun _ _ => rfl))))
theorem ok__law_span (T : Txt K mg Ad) : DFn P w K mg base 3 Ad.a__law_span Ad.d__law_span ["m", "left"] (W_law_span K Ad.cls) :=
  dfn_of T.F__law_span sc__law_span fun cdv A outer s H E hr => (dss_cons (ds_set (i := 2) sc__law_span.nd rfl (by first | exact .inl rfl | exact .inr rfl) (de_call (ok__law_of T) (hr.mono (by decide)) (by rfl) T.g__law_of T.F__law_of.kp T.b__law_of .nil rs0 pBody (dn_cons (de_var (pv 0)) (dn_cons (de_lst (dn_cons (de_int) (dn_cons (de_int) (dn_cons (de_int) (dn_cons (de_int) (dn_cons (de_int) (dn_cons (de_call (ok__law_draw T) (hr.mono (by decide)) (by rfl) T.g__law_draw T.F__law_draw.kp T.b__law_draw .nil rs0 pBody (dn_cons (de_var (pv 0)) (dn_cons (de_int) (dn_nil)))) (dn_cons (de_call (ok__law_draw T) (hr.mono (by decide)) (by rfl) T.g__law_draw T.F__law_draw.kp T.b__law_draw .nil rs0 pBody (dn_cons (de_var (pv 0)) (dn_cons (de_op do_sub (de_op do_pow (de_int) (de_int)) (de_int)) (dn_nil)))) (dn_nil))))))))) (dn_nil))))) (dss_cons (ds_if (DW.dt (dw_or (dt_cmp (do_eq hr.r.units) (de_ix (hu_of hr.r) (de_var (pv 1)) (de_str) (fun _ _ => rfl)) (de_int) (nomark _)) (dw_or1 (dt_cmp (do_eq hr.r.units) (de_call (ok__law_draw T) (hr.mono (by decide)) (by rfl) T.g__law_draw T.F__law_draw.kp T.b__law_draw .nil rs0 pBody (dn_cons (de_var (pv 0)) (dn_cons (de_int) (dn_nil)))) (de_int) (nomark _))))) (dss_one (ds_ret (de_tup (dn_cons (de_var (pv 2)) (dn_cons (de_var (pv 2)) (dn_nil)))))) (dss_nil)) (dss_cons (ds_asg (de_op do_sub (de_ix (hu_of hr.r) (de_var (pv 1)) (de_str) (fun _ _ => rfl)) (de_int)) (dg_sub (hu_of hr.r) (de_var (pv 1)) (de_str))) (dss_one (ds_ret (de_tup (dn_cons (de_var (pv 2)) (dn_cons (de_op do_add (de_op do_add (de_var (pv 2)) (de_int)) (de_call (ok__law_of T) (hr.mono (by decide)) (by rfl) T.g__law_of T.F__law_of.kp T.b__law_of .nil rs0 pBody (dn_cons (de_var (pv 0)) (dn_cons (de_lst (dn_cons (de_int) (dn_cons (de_int) (dn_cons (de_call (ok__law_draw T) (hr.mono (by decide)) (by rfl) T.g__law_draw T.F__law_draw.kp T.b__law_draw .nil rs0 pBody (dn_cons (de_var (pv 0)) (dn_cons (de_int) (dn_nil)))) (dn_nil))))) (dn_nil))))) (dn_nil)))))))))
theorem ok__law_term (T : Txt K mg Ad) : DFn P w K mg base 3 Ad.a__law_term Ad.d__law_term ["m"] (W_law_term K Ad.cls) :=
  dfn_of T.F__law_term sc__law_term fun cdv A outer s H E hr => (dss_cons (ds_set (i := 1) sc__law_term.nd rfl (by first | exact .inl rfl | exact .inr rfl) (de_call (ok__law_of T) (hr.mono (by decide)) (by rfl) T.g__law_of T.F__law_of.kp T.b__law_of .nil rs0 pBody (dn_cons (de_var (pv 0)) (dn_cons (de_lst (dn_cons (de_int) (dn_cons (de_int) (dn_cons (de_int) (dn_cons (de_int) (dn_cons (de_int) (dn_cons (de_call (ok__law_draw T) (hr.mono (by decide)) (by rfl) T.g__law_draw T.F__law_draw.kp T.b__law_draw .nil rs0 pBody (dn_cons (de_var (pv 0)) (dn_cons (de_int) (dn_nil)))) (dn_nil)))))))) (dn_nil))))) (dss_one (ds_ret (de_tup (dn_cons (de_var (pv 1)) (dn_cons (de_call (ok__law_of T) (hr.mono (by decide)) (by rfl) T.g__law_of T.F__law_of.kp T.b__law_of .nil rs0 pBody (dn_cons (de_var (pv 0)) (dn_cons (de_lst (dn_cons (de_str) (dn_cons (de_str) (dn_cons (de_str) (dn_nil))))) (dn_nil)))) (dn_cons (de_call (ok__law_of T) (hr.mono (by decide)) (by rfl) T.g__law_of T.F__law_of.kp T.b__law_of .nil rs0 pBody (dn_cons (de_var (pv 0)) (dn_cons (de_lst (dn_cons (de_str) (dn_cons (de_str) (dn_cons (de_str) (dn_nil))))) (dn_nil)))) (dn_nil))))))))
theorem ok__law_thing (T : Txt K mg Ad) : ∀ n : Nat, DFn P w K mg base (3 + n) Ad.a__law_thing Ad.d__law_thing ["m", "left", "must"] (W_law_thing K Ad.cls n)
  | 0 => dfn0
  | n + 1 => by
    have ih := ok__law_thing T n
    exact dfn_of T.F__law_thing sc__law_thing fun cdv A outer s H E hr => (dss_cons (ds_asg (de_call (ok__law_span T) (hr.mono (by first | omega | (simp only [Nat.add_eq]; omega))) (by rfl) T.g__law_span T.F__law_span.kp T.b__law_span .nil rs0 pBody (dn_cons (de_var (pv 0)) (dn_cons (de_var (pv 1)) (dn_nil)))) (dg_tup rfl (dgs_cons (dg_name (i := 3) sc__law_thing.nd rfl (by first | exact .inl rfl | exact .inr rfl)) (dgs_cons (dg_name (i := 4) sc__law_thing.nd rfl (by first | exact .inl rfl | exact .inr rfl)) (dgs_nil))))) (dss_cons (ds_set (i := 5) sc__law_thing.nd rfl (by first | exact .inl rfl | exact .inr rfl) (de_call (ok__law_of T) (hr.mono (by first | omega | (simp only [Nat.add_eq]; omega))) (by rfl) T.g__law_of T.F__law_of.kp T.b__law_of .nil rs0 pBody (dn_cons (de_var (pv 0)) (dn_cons (de_lst (dn_cons (de_str) (dn_cons (de_str) (dn_nil)))) (dn_nil))))) (dss_cons (ds_if (DW.dt (dw_and (dt_not (dt_tru (de_var (pv 2)))) (dw_and1 (DW.dt (dw_or (dt_cmp (do_eq hr.r.units) (de_ix (hu_of hr.r) (de_var (pv 1)) (de_str) (fun _ _ => rfl)) (de_int) (nomark _)) (dw_or (dt_cmp (do_eq hr.r.units) (de_ix (hu_of hr.r) (de_var (pv 1)) (de_str) (fun _ _ => rfl)) (de_int) (nomark _)) (dw_or1 (dt_cmp do_gt (de_call (ok__law_draw T) (hr.mono (by first | omega | (simp only [Nat.add_eq]; omega))) (by rfl) T.g__law_draw T.F__law_draw.kp T.b__law_draw .nil rs0 pBody (dn_cons (de_var (pv 0)) (dn_cons (de_int) (dn_nil)))) (de_int) (nomark _))))))))) (dss_one (ds_ret (de_tup (dn_cons (de_str) (dn_cons (de_var (pv 5)) (dn_cons (de_var (pv 3)) (dn_cons (de_var (pv 4)) (dn_nil)))))))) (dss_nil)) (dss_cons (ds_asg (de_op do_sub (de_ix (hu_of hr.r) (de_var (pv 1)) (de_str) (fun _ _ => rfl)) (de_int)) (dg_sub (hu_of hr.r) (de_var (pv 1)) (de_str))) (dss_cons (ds_set (i := 6) sc__law_thing.nd rfl (by first | exact .inl rfl | exact .inr rfl) (de_op do_add (de_int) (de_call (ok__law_draw T) (hr.mono (by first | omega | (simp only [Nat.add_eq]; omega))) (by rfl) T.g__law_draw T.F__law_draw.kp T.b__law_draw .nil rs0 pBody (dn_cons (de_var (pv 0)) (dn_cons (de_callB (dc_min2 rfl) (by rfl) T.z_min (by decide +kernel) (dn_cons (de_int) (dn_cons (de_ix (hu_of hr.r) (de_var (pv 1)) (de_str) (fun _ _ => rfl)) (dn_nil)))) (dn_nil)))))) (dss_cons (ds_asg (de_tup (dn_cons (de_op do_sub (de_ix (hu_of hr.r) (de_var (pv 1)) (de_str) (fun _ _ => rfl)) (de_var (pv 6))) (dn_cons (de_lstO (dn_nil)) (dn_nil)))) (dg_tup rfl (dgs_cons (dg_sub (hu_of hr.r) (de_var (pv 1)) (de_str)) (dgs_cons (dg_name (i := 7) sc__law_thing.nd rfl (by first | exact .inl rfl | exact .inr rfl)) (dgs_nil))))) (dss_cons (ds_for oBody rfl (di_range1 (by rfl) T.z_range (dn_cons (de_var (pv 6)) (dn_nil))) (dg_name (i := 8) sc__law_thing.nd rfl (by first | exact .inl rfl | exact .inr rfl)) (dss_one (ds_expr (de_app (de_var (pv 7)) (de_call ih (hr.mono (by first | omega | (simp only [Nat.add_eq]; omega))) (by rfl) T.g__law_thing T.F__law_thing.kp T.b__law_thing .nil rs0 pBody (dn_cons (de_var (pv 0)) (dn_cons (de_var (pv 1)) (dn_cons (de_bl) (dn_nil))))))))) (dss_one (ds_ret (de_tup (dn_cons (de_str) (dn_cons (de_var (pv 5)) (dn_cons (de_var (pv 3)) (dn_cons (de_var (pv 4)) (dn_cons (de_call (ok__law_term T) (hr.mono (by first | omega | (simp only [Nat.add_eq]; omega))) (by rfl) T.g__law_term T.F__law_term.kp T.b__law_term .nil rs0 pBody (dn_cons (de_var (pv 0)) (dn_nil))) (dn_cons (de_callTy dc_tuple (by rfl) T.z_tuple (by decide +kernel) (dn_cons (de_var (pv 7)) (dn_nil))) (dn_nil)))))))))))))))))
theorem ok__law_good (T : Txt K mg Ad) : DFn P w K mg base 12 Ad.a__law_good Ad.d__law_good ["m", "moving", "making"] (W_law_good K Ad.cls) :=
  dfn_of T.F__law_good sc__law_good fun cdv A outer s H E hr => (dss_cons (ds_set (i := 3) sc__law_good.nd rfl (by first | exact .inl rfl | exact .inr rfl) (de_dct (.str (de_call (ok__law_draw T) (hr.mono (by decide)) (by rfl) T.g__law_draw T.F__law_draw.kp T.b__law_draw .nil rs0 pBody (dn_cons (de_var (pv 0)) (dn_cons (de_op do_add (de_var (pv 1)) (de_int)) (dn_nil)))) (.str (de_op do_add (de_int) (de_call (ok__law_draw T) (hr.mono (by decide)) (by rfl) T.g__law_draw T.F__law_draw.kp T.b__law_draw .nil rs0 pBody (dn_cons (de_var (pv 0)) (dn_cons (de_var (pv 2)) (dn_nil))))) (.str (de_int) (.nil)))) (by rfl) (by rfl) (fun z => by cases z) (by decide) (Nat.le_of_ble_eq_true rfl) (by first | decide +kernel | (simp only [List.map_cons, List.map_nil]; decide +kernel)))) (dss_cons (ds_set (i := 4) sc__law_good.nd rfl (by first | exact .inl rfl | exact .inr rfl) (de_call (ok__law_thing T 8) (hr.mono (by decide)) (by rfl) T.g__law_thing T.F__law_thing.kp T.b__law_thing .nil rs0 pBody (dn_cons (de_var (pv 0)) (dn_cons (de_var (pv 3)) (dn_cons (de_bl) (dn_nil)))))) (dss_one (ds_ret (de_op do_add (de_op do_add (de_sl (de_var (pv 4)) (DL.do_none) (DL.do_some (de_int))) (de_tup (dn_cons (de_callB (dc_max2 rfl) (by rfl) T.z_max (by decide +kernel) (dn_cons (de_int) (dn_cons (de_ix (hu_of hr.r) (de_var (pv 4)) (de_int) (fun _ _ => rfl)) (dn_nil)))) (dn_cons (de_callB (dc_max2 rfl) (by rfl) T.z_max (by decide +kernel) (dn_cons (de_int) (dn_cons (de_ix (hu_of hr.r) (de_var (pv 4)) (de_int) (fun _ _ => rfl)) (dn_nil)))) (dn_nil))))) (de_sl (de_var (pv 4)) (DL.do_some (de_int)) (DL.do_none)))))))
theorem ok__law_rows (T : Txt K mg Ad) : ∀ n : Nat, DFn P w K mg base (0 + n) Ad.a__law_rows Ad.d__law_rows ["thing", "begin"] (W_law_rows K Ad.cls n)
  | 0 => dfn0
  | n + 1 => by
    have ih := ok__law_rows T n
    exact dfn_of T.F__law_rows sc__law_rows fun cdv A outer s H E hr => (dss_cons (ds_par (i := 2) (j := 3) rfl sc__law_rows.nd rfl rfl (by decide) rfl rfl (dn_cons (de_lst (dn_nil)) (dn_cons (de_lst (dn_nil)) (dn_nil))) (by rfl)) (dss_cons (ds_for oBody rfl (di_seq (de_ite (dt_cmp (do_eq hr.r.units) (de_ix (hu_of hr.r) (de_var (pv 0)) (de_int) (fun _ _ => rfl)) (de_str) (nomark _)) (de_ix (hu_of hr.r) (de_var (pv 0)) (de_int) (fun _ _ => rfl)) (de_tup (dn_nil)))) (dg_name (i := 4) sc__law_rows.nd rfl (by first | exact .inl rfl | exact .inr rfl)) (dss_cons (ds_set (i := 3) sc__law_rows.nd rfl (by first | exact .inl rfl | exact .inr rfl) (de_op do_add (de_var (pv 3)) (de_lst (dn_cons (de_op do_add (de_op do_add (de_var (pv 1)) (de_int)) (de_callB dc_len (by rfl) T.z_len (by decide +kernel) (dn_cons (de_var (pv 2)) (dn_nil)))) (dn_nil))))) (dss_one (ds_set (i := 2) sc__law_rows.nd rfl (by first | exact .inl rfl | exact .inr rfl) (de_op do_add (de_var (pv 2)) (de_call ih (hr.mono (by first | omega | (simp only [Nat.add_eq]; omega))) (by rfl) T.g__law_rows T.F__law_rows.kp T.b__law_rows .nil rs0 pBody (dn_cons (de_var (pv 4)) (dn_cons (de_op do_add (de_op do_add (de_var (pv 1)) (de_int)) (de_callB dc_len (by rfl) T.z_len (by decide +kernel) (dn_cons (de_var (pv 2)) (dn_nil)))) (dn_nil))))))))) (dss_one (ds_ret (de_op do_add (de_lst (dn_cons (de_tup (dn_cons (de_var (pv 0)) (dn_cons (de_var (pv 3)) (dn_nil)))) (dn_nil))) (de_var (pv 2)))))))
theorem ok__law_least (T : Txt K mg Ad) : DFn P w K mg base 1 Ad.a__law_least Ad.d__law_least ["part", "of"] (W_law_least K Ad.cls) :=
  dfn_of T.F__law_least sc__law_least fun cdv A outer s H E hr => (dss_cons (ds_par (i := 2) (j := 3) rfl sc__law_least.nd rfl rfl (by decide) rfl rfl (dn_cons (de_callB dc_abs (by rfl) T.z_abs (by decide +kernel) (dn_cons (de_var (pv 0)) (dn_nil))) (dn_cons (de_callB dc_abs (by rfl) T.z_abs (by decide +kernel) (dn_cons (de_var (pv 1)) (dn_nil))) (dn_nil))) (by rfl)) (dss_cons (ds_while oBody (dt_cmp (do_ne hr.r.units) (de_var (pv 3)) (de_int) (nomark _)) (dss_one (ds_par (i := 2) (j := 3) rfl sc__law_least.nd rfl rfl (by decide) rfl rfl (dn_cons (de_var (pv 3)) (dn_cons (de_op do_mod (de_callTy dc_int (by rfl) T.z_int (by decide +kernel) (dn_cons (de_var (pv 2)) (dn_nil))) (de_var (pv 3))) (dn_nil))) (by rfl)))) (dss_cons (ds_set (i := 4) sc__law_least.nd rfl (by first | exact .inl rfl | exact .inr rfl) (de_ite (dt_cmp do_gt (de_var (pv 1)) (de_int) (nomark _)) (de_int) (de_neg (de_int)))) (dss_one (ds_ret (de_tup (dn_cons (de_op do_fdiv (de_op do_mul (de_var (pv 4)) (de_var (pv 0))) (de_var (pv 2))) (dn_cons (de_op do_fdiv (de_op do_mul (de_var (pv 4)) (de_var (pv 1))) (de_var (pv 2))) (dn_nil)))))))))
theorem ok__law_sum (T : Txt K mg Ad) : DFn P w K mg base 2 Ad.a__law_sum Ad.d__law_sum ["some"] (W_law_sum K Ad.cls) :=
  dfn_of T.F__law_sum sc__law_sum fun cdv A outer s H E hr => (dss_cons (ds_asg (de_tup (dn_cons (de_int) (dn_cons (de_int) (dn_nil)))) (dg_tup rfl (dgs_cons (dg_name (i := 1) sc__law_sum.nd rfl (by first | exact .inl rfl | exact .inr rfl)) (dgs_cons (dg_name (i := 2) sc__law_sum.nd rfl (by first | exact .inl rfl | exact .inr rfl)) (dgs_nil))))) (dss_cons (ds_for oBody rfl (di_seq (de_var (pv 0))) (dg_name (i := 3) sc__law_sum.nd rfl (by first | exact .inl rfl | exact .inr rfl)) (dss_one (ds_par (i := 1) (j := 2) rfl sc__law_sum.nd rfl rfl (by decide) rfl rfl (dn_cons (de_op do_add (de_op do_mul (de_var (pv 1)) (de_ix (hu_of hr.r) (de_var (pv 3)) (de_int) (fun _ _ => rfl))) (de_op do_mul (de_ix (hu_of hr.r) (de_var (pv 3)) (de_int) (fun _ _ => rfl)) (de_var (pv 2)))) (dn_cons (de_op do_mul (de_var (pv 2)) (de_ix (hu_of hr.r) (de_var (pv 3)) (de_int) (fun _ _ => rfl))) (dn_nil))) (by rfl)))) (dss_one (ds_ret (de_call (ok__law_least T) (hr.mono (by decide)) (by rfl) T.g__law_least T.F__law_least.kp T.b__law_least .nil rs0 pBody (dn_cons (de_var (pv 1)) (dn_cons (de_var (pv 2)) (dn_nil))))))))
theorem ok__law_prices (T : Txt K mg Ad) : DFn P w K mg base 9 Ad.a__law_prices Ad.d__law_prices ["m", "good"] (W_law_prices K Ad.cls) :=
  dfn_of T.F__law_prices sc__law_prices fun cdv A outer s H E hr => (dss_cons (ds_set (i := 2) sc__law_prices.nd rfl (by first | exact .inl rfl | exact .inr rfl) (de_lstO (dn_nil))) (dss_cons (ds_for oBody rfl (di_seq (de_call (ok__law_rows T 8) (hr.mono (by decide)) (by rfl) T.g__law_rows T.F__law_rows.kp T.b__law_rows .nil rs0 pBody (dn_cons (de_var (pv 1)) (dn_cons (de_int) (dn_nil))))) (dg_tup rfl (dgs_cons (dg_name (i := 3) sc__law_prices.nd rfl (by first | exact .inl rfl | exact .inr rfl)) (dgs_cons (dg_name (i := 4) sc__law_prices.nd rfl (by first | exact .inl rfl | exact .inr rfl)) (dgs_nil)))) (dss_cons (ds_par (i := 5) (j := 6) rfl sc__law_prices.nd rfl rfl (by decide) rfl rfl (dn_cons (de_ix (hu_of hr.r) (de_var (pv 3)) (de_int) (fun _ _ => rfl)) (dn_cons (de_ix (hu_of hr.r) (de_var (pv 3)) (de_int) (fun _ _ => rfl)) (dn_nil))) (by rfl)) (dss_cons (ds_set (i := 7) sc__law_prices.nd rfl (by first | exact .inl rfl | exact .inr rfl) (de_call (ok__law_of T) (hr.mono (by decide)) (by rfl) T.g__law_of T.F__law_of.kp T.b__law_of .nil rs0 pBody (dn_cons (de_var (pv 0)) (dn_cons (de_lst (dn_cons (de_int) (dn_cons (de_int) (dn_cons (de_int) (dn_cons (de_int) (dn_cons (de_int) (dn_cons (de_int) (dn_nil)))))))) (dn_nil))))) (dss_cons (ds_set (i := 8) sc__law_prices.nd rfl (by first | exact .inl rfl | exact .inr rfl) (de_call (ok__law_of T) (hr.mono (by decide)) (by rfl) T.g__law_of T.F__law_of.kp T.b__law_of .nil rs0 pBody (dn_cons (de_var (pv 0)) (dn_cons (de_lst (dn_cons (de_int) (dn_cons (de_op do_mul (de_op do_sub (de_var (pv 6)) (de_var (pv 5))) (de_var (pv 7))) (dn_cons (de_call (ok__law_draw T) (hr.mono (by decide)) (by rfl) T.g__law_draw T.F__law_draw.kp T.b__law_draw .nil rs0 pBody (dn_cons (de_var (pv 0)) (dn_cons (de_op do_add (de_op do_mul (de_op do_sub (de_var (pv 6)) (de_var (pv 5))) (de_var (pv 7))) (de_int)) (dn_nil)))) (dn_nil))))) (dn_nil))))) (dss_one (ds_expr (de_app (de_var (pv 2)) (de_call (ok__law_least T) (hr.mono (by decide)) (by rfl) T.g__law_least T.F__law_least.kp T.b__law_least .nil rs0 pBody (dn_cons (de_op do_add (de_op do_mul (de_var (pv 5)) (de_var (pv 7))) (de_var (pv 8))) (dn_cons (de_var (pv 7)) (dn_nil))))))))))) (dss_one (ds_ret (de_callTy dc_tuple (by rfl) T.z_tuple (by decide +kernel) (dn_cons (de_var (pv 2)) (dn_nil)))))))
theorem ok__law_made (T : Txt K mg Ad) {S : D → SpD → Prop} (hS : ∀ L sp, S L sp → HeldD P w K mg base 4 L 1 sp) : ∀ n : Nat, DFn P w K mg base (4 + n) Ad.a__law_made Ad.d__law_made ["thing", "change"] (W_law_made K Ad.cls S n)
  | 0 => dfn0
  | n + 1 => by
    have ih := ok__law_made T hS n
    exact dfn_of T.F__law_made sc__law_made fun cdv A outer s H E hr => (dss_cons (ds_if (dt_cmp (do_eq hr.r.units) (de_ix (hu_of hr.r) (de_var (pv 0)) (de_int) (fun _ _ => rfl)) (de_str) (nomark _)) (dss_one (ds_set (i := 0) sc__law_made.nd rfl (by first | exact .inl rfl | exact .inr rfl) (de_op do_add (de_sl (de_var (pv 0)) (DL.do_none) (DL.do_some (de_int))) (de_tup (dn_cons (de_callTy dc_tuple (by rfl) T.z_tuple (by decide +kernel) (dn_cons (de_comp [("part", 2)] (gName 2) rfl sc__law_made.nd (di_seq (de_ix (hu_of hr.r) (de_var (pv 0)) (de_int) (fun _ _ => rfl))) (blkOk_by (N := N__law_made) (sc := defScope st__law_made) (by decide +kernel)) (fun _ _ _ _ _ => pg_name (i := 2) sc__law_made.nd rfl (by first | exact .inl rfl | exact .inr rfl)) (gv_name (by decide)) (fun _ _ _ _ _ => dts_nil) (fun _ _ _ _ _ => de_call ih (hr.mono (by first | omega | (simp only [Nat.add_eq]; omega))) (by rfl) T.g__law_made T.F__law_made.kp T.b__law_made .nil rs0 passL (dn_cons (de_var (pv 2)) (dn_cons (de_var (pv 1)) (dn_nil))))) (dn_nil))) (dn_nil)))))) (dss_nil)) (dss_one (ds_ret (de_callA hS (hr.mono (by first | omega | (simp only [Nat.add_eq]; omega))) rfl (by first | exact .inl rfl | exact .inr (.inl rfl)) pBody (dn_cons (de_var (pv 0)) (dn_nil))))))
theorem ok__law_termed (T : Txt K mg Ad) : DFn P w K mg base 1 Ad.a__law_termed Ad.d__law_termed ["thing", "term"] (W_law_termed K Ad.cls) :=
  dfn_of T.F__law_termed sc__law_termed fun cdv A outer s H E hr => (dss_one (ds_ret (de_ite (dt_cmp (do_eq hr.r.units) (de_ix (hu_of hr.r) (de_var (pv 0)) (de_int) (fun _ _ => rfl)) (de_str) (nomark _)) (de_op do_add (de_op do_add (de_sl (de_var (pv 0)) (DL.do_none) (DL.do_some (de_int))) (de_tup (dn_cons (de_var (pv 1)) (dn_nil)))) (de_sl (de_var (pv 0)) (DL.do_some (de_int)) (DL.do_none))) (de_var (pv 0)))))
theorem ok__law_turned (T : Txt K mg Ad) : DFn P w K mg base 1 Ad.a__law_turned Ad.d__law_turned ["thing"] (W_law_turned K Ad.cls) :=
  dfn_of T.F__law_turned sc__law_turned fun cdv A outer s H E hr => (dss_one (ds_ret (de_ite (dt_cmp (do_eq hr.r.units) (de_ix (hu_of hr.r) (de_var (pv 0)) (de_int) (fun _ _ => rfl)) (de_str) (nomark _)) (de_op do_add (de_sl (de_var (pv 0)) (DL.do_none) (DL.do_some (de_int))) (de_tup (dn_cons (de_revT (de_ix (hu_of hr.r) (de_var (pv 0)) (de_int) (fun _ _ => rfl))) (dn_nil)))) (de_var (pv 0)))))
theorem gx__law_turned (T : Txt K mg Ad) : mg "_law_turned" = some (.ref (Ad.cls 5)) := by rw [← T.tie__law_turned]; exact T.g__law_turned
theorem hSG__law_turned (T : Txt K mg Ad) : ∀ L sp, SG__law_turned K Ad.cls L sp → HeldD P w K mg base 4 L 1 sp := fun L sp h => by
  obtain ⟨rfl, rfl⟩ := h
  rw [← T.tie__law_turned]
  exact (heldK (ok__law_turned T) T.F__law_turned T.b__law_turned).mono (by decide)
theorem ok__law_order (T : Txt K mg Ad) : ∀ n : Nat, DFn P w K mg base (8 + n) Ad.a__law_order Ad.d__law_order ["thing", "begin"] (W_law_order K Ad.cls n)
  | 0 => dfn0
  | n + 1 => by
    have ih := ok__law_order T n
    exact dfn_of T.F__law_order sc__law_order fun cdv A outer s H E hr => (dss_cons (ds_par (i := 2) (j := 3) rfl sc__law_order.nd rfl rfl (by decide) rfl rfl (dn_cons (de_call (ok__law_rows T 8) (hr.mono (by first | omega | (simp only [Nat.add_eq]; omega))) (by rfl) T.g__law_rows T.F__law_rows.kp T.b__law_rows .nil rs0 pBody (dn_cons (de_var (pv 0)) (dn_cons (de_int) (dn_nil)))) (dn_cons (de_lst (dn_cons (de_var (pv 1)) (dn_nil))) (dn_nil))) (by rfl)) (dss_cons (ds_if (dt_cmp (do_eq hr.r.units) (de_ix (hu_of hr.r) (de_var (pv 0)) (de_int) (fun _ _ => rfl)) (de_str) (nomark _)) (dss_one (ds_for oBody rfl (di_seq (de_rev (de_lstZip rfl (by rfl) T.z_list (by rfl) T.z_zip (de_ix (hu_of hr.r) (de_var (pv 0)) (de_int) (fun _ _ => rfl)) (de_ix (hu_of hr.r) (de_ix (hu_of hr.r) (de_var (pv 2)) (de_int) (fun _ _ => rfl)) (de_int) (fun _ _ => rfl))))) (dg_tup rfl (dgs_cons (dg_name (i := 4) sc__law_order.nd rfl (by first | exact .inl rfl | exact .inr rfl)) (dgs_cons (dg_name (i := 5) sc__law_order.nd rfl (by first | exact .inl rfl | exact .inr rfl)) (dgs_nil)))) (dss_one (ds_set (i := 3) sc__law_order.nd rfl (by first | exact .inl rfl | exact .inr rfl) (de_op do_add (de_var (pv 3)) (de_call ih (hr.mono (by first | omega | (simp only [Nat.add_eq]; omega))) (by rfl) T.g__law_order T.F__law_order.kp T.b__law_order .nil rs0 pBody (dn_cons (de_var (pv 4)) (dn_cons (de_op do_add (de_var (pv 1)) (de_var (pv 5))) (dn_nil))))))))) (dss_nil)) (dss_one (ds_ret (de_var (pv 3))))))
theorem ok__law_turned_right (T : Txt K mg Ad) : DFn P w K mg base 17 Ad.a__law_turned_right Ad.d__law_turned_right ["good", "row"] (W_law_turned_right K Ad.cls) :=
  dfn_of T.F__law_turned_right sc__law_turned_right fun cdv A outer s H E hr => (dss_cons (ds_par (i := 2) (j := 3) rfl sc__law_turned_right.nd rfl rfl (by decide) rfl rfl (dn_cons (de_call (ok__law_made T (hSG__law_turned T) 8) (hr.mono (by decide)) (by rfl) T.g__law_made T.F__law_made.kp T.b__law_made .nil rs0 pBody (dn_cons (de_var (pv 0)) (dn_cons (de_cls (by rfl) (gx__law_turned T)) dn_nil))) (dn_cons (de_call (ok__law_order T 8) (hr.mono (by decide)) (by rfl) T.g__law_order T.F__law_order.kp T.b__law_order .nil rs0 pBody (dn_cons (de_var (pv 0)) (dn_cons (de_int) (dn_nil)))) (dn_nil))) (by rfl)) (dss_cons (ds_set (i := 4) sc__law_turned_right.nd rfl (by first | exact .inl rfl | exact .inr rfl) (de_callTy dc_tuple (by rfl) T.z_tuple (by decide +kernel) (dn_cons (de_comp [("k", 5)] (gName 5) rfl sc__law_turned_right.nd (di_seq (de_var (pv 3))) (blkOk_by (N := N__law_turned_right) (sc := defScope st__law_turned_right) (by decide +kernel)) (fun _ _ _ _ _ => pg_name (i := 5) sc__law_turned_right.nd rfl (by first | exact .inl rfl | exact .inr rfl)) (gv_name (by decide)) (fun _ _ _ _ _ => dts_nil) (fun _ _ _ _ _ => de_ix (hu_of hr.r) (de_var (pv 1)) (de_var (pv 5)) (fun _ _ => rfl))) (dn_nil)))) (dss_cons (ds_if (dt_cmp (do_ne hr.r.units) (de_call (ok_portion T) (hr.mono (by decide)) (by rfl) T.g_portion T.F_portion.kp T.b_portion .nil rs0 pBody (dn_cons (de_var (pv 2)) (dn_cons (de_var (pv 4)) (dn_nil)))) (de_call (ok_portion T) (hr.mono (by decide)) (by rfl) T.g_portion T.F_portion.kp T.b_portion .nil rs0 pBody (dn_cons (de_var (pv 0)) (dn_cons (de_var (pv 1)) (dn_nil)))) (nomark _)) (dss_one (ds_ret (de_bl))) (dss_nil)) (dss_one (ds_ret (de_and (de_cmp (do_eq hr.r.units) (de_ix (hu_of hr.r) (de_call (ok_words_at T) (hr.mono (by decide)) (by rfl) T.g_words_at T.F_words_at.kp T.b_words_at .nil rs0 pBody (dn_cons (de_var (pv 2)) (dn_cons (de_var (pv 4)) (dn_nil)))) (de_int) (fun _ _ => rfl)) (de_ix (hu_of hr.r) (de_call (ok_words_at T) (hr.mono (by decide)) (by rfl) T.g_words_at T.F_words_at.kp T.b_words_at .nil rs0 pBody (dn_cons (de_var (pv 0)) (dn_cons (de_var (pv 1)) (dn_nil)))) (de_int) (fun _ _ => rfl)) (nomark _)) (de_one (de_cmp (do_eq hr.r.units) (de_ix (hu_of hr.r) (de_call (ok_costs T) (hr.mono (by decide)) (by rfl) T.g_costs T.F_costs.kp T.b_costs .nil rs0 pBody (dn_cons (de_var (pv 2)) (dn_cons (de_var (pv 4)) (dn_nil)))) (de_int) (fun _ _ => rfl)) (de_ix (hu_of hr.r) (de_call (ok_costs T) (hr.mono (by decide)) (by rfl) T.g_costs T.F_costs.kp T.b_costs .nil rs0 pBody (dn_cons (de_var (pv 0)) (dn_cons (de_var (pv 1)) (dn_nil)))) (de_int) (fun _ _ => rfl)) (nomark _)))))))))
theorem ok__law_times_right (T : Txt K mg Ad) (hTB__law_times_right : LamX.TabB base mg Ad.cod__law_times_right (Ad.cls 4)) : DFn P w K mg base 15 Ad.a__law_times_right Ad.d__law_times_right ["good", "row", "many"] (W_law_times_right K Ad.cls) :=
  dfn_ofC T.F__law_times_right sc__law_times_right fun cdv hcv A outer s H E hr => by
    have hcode := T.co__law_times_right cdv hcv
    subst hcode
    exact (dss_giveF (T := tabT Ad.cls) (kL := 3) (js := [2]) (ia := 0) (i := 3) (j := 4) (N := ["thing", "many"]) (fr := ["many"]) (by rfl) T.g__law_made T.F__law_made.kp T.b__law_made rfl (fun base' L sp hM hH => ok__law_made T (sl_held hH (by decide)) 8) hTB__law_times_right rfl (by first | exact List.mem_cons_self | exact List.mem_cons_of_mem _ List.mem_cons_self) (hu__law_times_right T) (hr.mono (by decide)) rfl rfl rfl rfl (NdefX.nscope_by (by decide +kernel)) (frB_1 (fr := ["many"]) (show frB (defScope st__law_times_right) _ _ = true from by decide +kernel)) (frB_2 (sc := defScope st__law_times_right) (by decide +kernel)) rfl (fun _ => rfl) (fun _ _ _ _ _ _ us hl => match us, hl with | [_], _ => rfl) (fun base' cc f A outer s H E hr => (dss_one (ds_ret (de_op do_add (de_op do_add (de_sl (de_var (pv 0)) (DL.do_none) (DL.do_some (de_int))) (de_tup (dn_cons (de_op do_mul (de_var (pv 1)) (de_ix (hu_of hr.r) (de_var (pv 0)) (de_int) (fun _ _ => rfl))) (dn_cons (de_op do_mul (de_var (pv 1)) (de_ix (hu_of hr.r) (de_var (pv 0)) (de_int) (fun _ _ => rfl))) (dn_nil))))) (de_sl (de_var (pv 0)) (DL.do_some (de_int)) (DL.do_none)))))) sc__law_times_right.nd rfl (by first | exact .inl rfl | exact .inr rfl) rfl (by first | exact .inl rfl | exact .inr (.inl rfl)) rfl (by first | exact .inl rfl | exact .inr rfl) (by decide) (by decide) (by first | exact .inl rfl | exact .inr (.inl rfl)) (dss_cons (ds_set (i := 5) sc__law_times_right.nd rfl (by first | exact .inl rfl | exact .inr rfl) (de_callTy dc_tuple (by rfl) T.z_tuple (by decide +kernel) (dn_cons (de_comp [("price", 6)] (gName 6) rfl sc__law_times_right.nd (di_seq (de_var (pv 1))) (blkOk_by (N := N__law_times_right) (sc := defScope st__law_times_right) (by decide +kernel)) (fun _ _ _ _ _ => pg_name (i := 6) sc__law_times_right.nd rfl (by first | exact .inl rfl | exact .inr rfl)) (gv_name (by decide)) (fun _ _ _ _ _ => dts_nil) (fun _ _ _ _ _ => de_call (ok__law_least T) (hr.mono (by decide)) (by rfl) T.g__law_least T.F__law_least.kp T.b__law_least .nil rs0 passL (dn_cons (de_op do_mul (de_var (pv 2)) (de_ix (hu_of hr.r) (de_var (pv 6)) (de_int) (fun _ _ => rfl))) (dn_cons (de_ix (hu_of hr.r) (de_var (pv 6)) (de_int) (fun _ _ => rfl)) (dn_nil))))) (dn_nil)))) (dss_one (ds_ret (de_and (de_cmp (do_eq hr.r.units) (de_call (ok_words_at T) (hr.mono (by decide)) (by rfl) T.g_words_at T.F_words_at.kp T.b_words_at .nil rs0 pBody (dn_cons (de_var (pv 4)) (dn_cons (de_var (pv 5)) (dn_nil)))) (de_call (ok_words_at T) (hr.mono (by decide)) (by rfl) T.g_words_at T.F_words_at.kp T.b_words_at .nil rs0 pBody (dn_cons (de_var (pv 0)) (dn_cons (de_var (pv 1)) (dn_nil)))) (nomark _)) (de_one (de_cmp (do_eq hr.r.units) (de_call (ok_portion T) (hr.mono (by decide)) (by rfl) T.g_portion T.F_portion.kp T.b_portion .nil rs0 pBody (dn_cons (de_var (pv 4)) (dn_cons (de_var (pv 5)) (dn_nil)))) (de_call (ok_portion T) (hr.mono (by decide)) (by rfl) T.g_portion T.F_portion.kp T.b_portion .nil rs0 pBody (dn_cons (de_var (pv 0)) (dn_cons (de_var (pv 1)) (dn_nil)))) (nomark _))))))))
theorem ok__law_own_right (T : Txt K mg Ad) (hTB__law_own_right : LamX.TabB base mg Ad.cod__law_own_right (Ad.cls 3)) : DFn P w K mg base 15 Ad.a__law_own_right Ad.d__law_own_right ["good", "row"] (W_law_own_right K Ad.cls) :=
  dfn_ofC T.F__law_own_right sc__law_own_right fun cdv hcv A outer s H E hr => by
    have hcode := T.co__law_own_right cdv hcv
    subst hcode
    exact (dss_cons (ds_set (i := 2) sc__law_own_right.nd rfl (by first | exact .inl rfl | exact .inr rfl) (de_giveL (T := tabT Ad.cls) (kL := 3) (js := []) (N := ["thing"]) (fr := []) (by rfl) T.g__law_made T.F__law_made.kp T.b__law_made rfl (fun base' L sp hM hH => ok__law_made T (sl_held hH (by decide)) 8) hTB__law_own_right rfl (by first | exact List.mem_cons_self | exact List.mem_cons_of_mem _ List.mem_cons_self) (hu__law_own_right T) (hr.mono (by decide)) rfl (NdefX.nscope_by (by decide +kernel)) (frB_1 (fr := []) (show frB (defScope st__law_own_right) _ _ = true from by decide +kernel)) (frB_2 (sc := defScope st__law_own_right) (by decide +kernel)) rfl (fun _ => rfl) (fun _ _ _ _ _ us hl => match us, hl with | [_], _ => rfl) (fun base' cc f A outer s H E hr => (de_call (ok__law_termed T) (hr.mono (by decide)) (by rfl) T.g__law_termed T.F__law_termed.kp T.b__law_termed .nil rs0 passN (dn_cons (de_var (pv 0)) (dn_cons (de_tup (dn_cons (de_int) (dn_cons (de_str) (dn_cons (de_str) (dn_nil))))) (dn_nil))))) (de_var (pv 0)))) (dss_cons (ds_set (i := 3) sc__law_own_right.nd rfl (by first | exact .inl rfl | exact .inr rfl) (de_call (ok__law_rows T 8) (hr.mono (by decide)) (by rfl) T.g__law_rows T.F__law_rows.kp T.b__law_rows .nil rs0 pBody (dn_cons (de_var (pv 0)) (dn_cons (de_int) (dn_nil))))) (dss_cons (ds_setComp (i := 4) [("k", 5)] (gName 5) rfl sc__law_own_right.nd rfl rfl (sw_true rfl rfl rfl (by decide +kernel)) (di_range1 (by rfl) T.z_range (dn_cons (de_callB dc_len (by rfl) T.z_len (by decide +kernel) (dn_cons (de_var (pv 3)) (dn_nil))) (dn_nil))) (blkOk_by (N := N__law_own_right) (sc := defScope st__law_own_right) (by decide +kernel)) (fun _ _ _ _ _ => pg_name (i := 5) sc__law_own_right.nd rfl (by first | exact .inl rfl | exact .inr rfl)) (gv_name (by decide)) (fun _ _ _ _ _ => dts_one (dt_cmp (do_eq hr.r.units) (de_ix (hu_of hr.r) (de_ix (hu_of hr.r) (de_ix (hu_of hr.r) (de_var (pv 3)) (de_var (pv 5)) (fun _ _ => rfl)) (de_int) (fun _ _ => rfl)) (de_int) (fun _ _ => rfl)) (de_str) (nomark _))) (fun _ _ _ _ _ => de_ix (hu_of hr.r) (de_var (pv 1)) (de_var (pv 5)) (fun _ _ => rfl))) (dss_one (ds_ret (de_cmp (do_eq hr.r.units) (de_ix (hu_of hr.r) (de_call (ok_owns T) (hr.mono (by decide)) (by rfl) T.g_owns T.F_owns.kp T.b_owns .nil rs0 pBody (dn_cons (de_var (pv 2)) (dn_cons (de_var (pv 1)) (dn_nil)))) (de_int) (fun _ _ => rfl)) (de_call (ok__law_sum T) (hr.mono (by decide)) (by rfl) T.g__law_sum T.F__law_sum.kp T.b__law_sum .nil rs0 pBody (dn_cons (de_var (pv 4)) (dn_nil))) (nomark _)))))))
theorem ok__law_shares_right (T : Txt K mg Ad) : DFn P w K mg base 15 Ad.a__law_shares_right Ad.d__law_shares_right ["good", "row"] (W_law_shares_right K Ad.cls) :=
  dfn_of T.F__law_shares_right sc__law_shares_right fun cdv A outer s H E hr => (dss_cons (ds_set (i := 2) sc__law_shares_right.nd rfl (by first | exact .inl rfl | exact .inr rfl) (de_lstO (dn_nil))) (dss_cons (ds_for oBody rfl (di_range3 (by rfl) T.z_range (dn_cons (de_int) (dn_cons (de_int) (dn_cons (de_int) (dn_nil))))) (dg_name (i := 3) sc__law_shares_right.nd rfl (by first | exact .inl rfl | exact .inr rfl)) (dss_one (ds_expr (de_app (de_var (pv 2)) (de_ix (hu_of hr.r) (de_call (ok_words_at T) (hr.mono (by decide)) (by rfl) T.g_words_at T.F_words_at.kp T.b_words_at .nil rs0 pBody (dn_cons (de_op do_add (de_op do_add (de_sl (de_var (pv 0)) (DL.do_none) (DL.do_some (de_int))) (de_tup (dn_cons (de_op do_add (de_tup (dn_cons (de_var (pv 3)) (dn_nil))) (de_sl (de_ix (hu_of hr.r) (de_var (pv 0)) (de_int) (fun _ _ => rfl)) (DL.do_some (de_int)) (DL.do_none))) (dn_nil)))) (de_sl (de_var (pv 0)) (DL.do_some (de_int)) (DL.do_none))) (dn_cons (de_var (pv 1)) (dn_nil)))) (de_int) (fun _ _ => rfl)))))) (dss_cons (ds_if (DW.dt (dw_or (dt_cmp (do_ne hr.r.units) (de_ix (hu_of hr.r) (de_var (pv 2)) (de_int) (fun _ _ => rfl)) (de_int) (nomark _)) (dw_or1 (dt_cmp (do_ne hr.r.units) (de_var (pv 2)) (de_srtR (by rfl) T.z_sorted (de_var (pv 2))) (nomark _))))) (dss_one (ds_ret (de_bl))) (dss_nil)) (dss_one (ds_ret (de_cmp (do_eq hr.r.units) (de_cmp (do_eq hr.r.units) (de_ix (hu_of hr.r) (de_var (pv 2)) (de_neg (de_int)) (fun _ _ => rfl)) (de_int) (nomark _)) (de_cmp (do_eq hr.r.units) (de_ix (hu_of hr.r) (de_call (ok_owns T) (hr.mono (by decide)) (by rfl) T.g_owns T.F_owns.kp T.b_owns .nil rs0 pBody (dn_cons (de_var (pv 0)) (dn_cons (de_var (pv 1)) (dn_nil)))) (de_int) (fun _ _ => rfl)) (de_ix (hu_of hr.r) (de_call (ok_costs T) (hr.mono (by decide)) (by rfl) T.g_costs T.F_costs.kp T.b_costs .nil rs0 pBody (dn_cons (de_var (pv 0)) (dn_cons (de_var (pv 1)) (dn_nil)))) (de_int) (fun _ _ => rfl)) (nomark _)) (nomark _)))))))
theorem ok__law_with (T : Txt K mg Ad) : ∀ n : Nat, DFn P w K mg base (0 + n) Ad.a__law_with Ad.d__law_with ["thing", "prices_so", "at"] (W_law_with K Ad.cls n)
  | 0 => dfn0
  | n + 1 => by
    have ih := ok__law_with T n
    exact dfn_of T.F__law_with sc__law_with fun cdv A outer s H E hr => (dss_cons (ds_par (i := 3) (j := 4) rfl sc__law_with.nd rfl rfl (by decide) rfl rfl (dn_cons (de_ix (hu_of hr.r) (de_var (pv 1)) (de_var (pv 2)) (fun _ _ => rfl)) (dn_cons (de_op do_add (de_var (pv 2)) (de_int)) (dn_nil))) (by rfl)) (dss_cons (ds_if (dt_cmp (do_eq hr.r.units) (de_ix (hu_of hr.r) (de_var (pv 0)) (de_int) (fun _ _ => rfl)) (de_str) (nomark _)) (dss_one (ds_ret (de_tup (dn_cons (de_op do_add (de_sl (de_var (pv 0)) (DL.do_none) (DL.do_some (de_int))) (de_tup (dn_cons (de_var (pv 3)) (dn_cons (de_var (pv 3)) (dn_nil))))) (dn_cons (de_var (pv 4)) (dn_nil)))))) (dss_nil)) (dss_cons (ds_set (i := 5) sc__law_with.nd rfl (by first | exact .inl rfl | exact .inr rfl) (de_lstO (dn_nil))) (dss_cons (ds_for oBody rfl (di_seq (de_ix (hu_of hr.r) (de_var (pv 0)) (de_int) (fun _ _ => rfl))) (dg_name (i := 6) sc__law_with.nd rfl (by first | exact .inl rfl | exact .inr rfl)) (dss_cons (ds_asg (de_call ih (hr.mono (by first | omega | (simp only [Nat.add_eq]; omega))) (by rfl) T.g__law_with T.F__law_with.kp T.b__law_with .nil rs0 pBody (dn_cons (de_var (pv 6)) (dn_cons (de_var (pv 1)) (dn_cons (de_var (pv 4)) (dn_nil))))) (dg_tup rfl (dgs_cons (dg_name (i := 7) sc__law_with.nd rfl (by first | exact .inl rfl | exact .inr rfl)) (dgs_cons (dg_name (i := 4) sc__law_with.nd rfl (by first | exact .inl rfl | exact .inr rfl)) (dgs_nil))))) (dss_one (ds_expr (de_app (de_var (pv 5)) (de_var (pv 7))))))) (dss_one (ds_ret (de_tup (dn_cons (de_op do_add (de_sl (de_var (pv 0)) (DL.do_none) (DL.do_some (de_int))) (de_tup (dn_cons (de_var (pv 3)) (dn_cons (de_var (pv 3)) (dn_cons (de_ix (hu_of hr.r) (de_var (pv 0)) (de_int) (fun _ _ => rfl)) (dn_cons (de_callTy dc_tuple (by rfl) T.z_tuple (by decide +kernel) (dn_cons (de_var (pv 5)) (dn_nil))) (dn_nil))))))) (dn_cons (de_var (pv 4)) (dn_nil))))))))))
theorem ok_law (T : Txt K mg Ad) (hTB__law_own_right : LamX.TabB base mg Ad.cod__law_own_right (Ad.cls 3)) (hTB__law_times_right : LamX.TabB base mg Ad.cod__law_times_right (Ad.cls 4)) : DFn P w K mg base 18 Ad.a_law Ad.d_law ["script"] (Wlaw K Ad.cls) :=
  dfn_of T.F_law sc_law fun cdv A outer s H E hr => (dss_cons (ds_set (i := 1) sc_law.nd rfl (by first | exact .inl rfl | exact .inr rfl) (de_call (ok__law_begun T) (hr.mono (by decide)) (by rfl) T.g__law_begun T.F__law_begun.kp T.b__law_begun .nil rs0 pBody (dn_cons (de_var (pv 0)) (dn_nil)))) (dss_cons (ds_for oBody rfl (di_range1 (by rfl) T.z_range (dn_cons (de_op do_add (de_int) (de_callB (dc_min2 rfl) (by rfl) T.z_min (by decide +kernel) (dn_cons (de_callB dc_len (by rfl) T.z_len (by decide +kernel) (dn_cons (de_var (pv 0)) (dn_nil))) (dn_cons (de_int) (dn_nil))))) (dn_nil))) (dg_name (i := 2) sc_law.nd rfl (by first | exact .inl rfl | exact .inr rfl)) (dss_cons (ds_set (i := 3) sc_law.nd rfl (by first | exact .inl rfl | exact .inr rfl) (de_call (ok__law_good T) (hr.mono (by decide)) (by rfl) T.g__law_good T.F__law_good.kp T.b__law_good .nil rs0 pBody (dn_cons (de_var (pv 1)) (dn_cons (de_int) (dn_cons (de_int) (dn_nil)))))) (dss_cons (ds_for oBody rfl (di_range1 (by rfl) T.z_range (dn_cons (de_int) (dn_nil))) (dg_name (i := 4) sc_law.nd rfl (by first | exact .inl rfl | exact .inr rfl)) (dss_cons (ds_set (i := 5) sc_law.nd rfl (by first | exact .inl rfl | exact .inr rfl) (de_call (ok__law_prices T) (hr.mono (by decide)) (by rfl) T.g__law_prices T.F__law_prices.kp T.b__law_prices .nil rs0 pBody (dn_cons (de_var (pv 1)) (dn_cons (de_var (pv 3)) (dn_nil))))) (dss_one (ds_if (DW.dt (dw_or (dt_not (dt_tru (de_call (ok__law_turned_right T) (hr.mono (by decide)) (by rfl) T.g__law_turned_right T.F__law_turned_right.kp T.b__law_turned_right .nil rs0 pBody (dn_cons (de_var (pv 3)) (dn_cons (de_var (pv 5)) (dn_nil)))))) (dw_or (dt_not (dt_tru (de_call (ok__law_own_right T hTB__law_own_right) (hr.mono (by decide)) (by rfl) T.g__law_own_right T.F__law_own_right.kp T.b__law_own_right .nil rs0 pBody (dn_cons (de_var (pv 3)) (dn_cons (de_var (pv 5)) (dn_nil)))))) (dw_or1 (dt_not (dt_tru (de_call (ok__law_shares_right T) (hr.mono (by decide)) (by rfl) T.g__law_shares_right T.F__law_shares_right.kp T.b__law_shares_right .nil rs0 pBody (dn_cons (de_var (pv 3)) (dn_cons (de_var (pv 5)) (dn_nil)))))))))) (dss_one (ds_ret (de_bl))) (dss_nil))))) (dss_cons (ds_setComp (i := 6) [("k", 7)] (gName 7) rfl sc_law.nd rfl rfl (sw_true rfl rfl rfl (by decide +kernel)) (di_range1 (by rfl) T.z_range (dn_cons (de_callB dc_len (by rfl) T.z_len (by decide +kernel) (dn_cons (de_var (pv 5)) (dn_nil))) (dn_nil))) (blkOk_by (N := N_law) (sc := defScope st_law) (by decide +kernel)) (fun _ _ _ _ _ => pg_name (i := 7) sc_law.nd rfl (by first | exact .inl rfl | exact .inr rfl)) (gv_name (by decide)) (fun _ _ _ _ _ => dts_nil) (fun _ _ _ _ _ => de_op do_add (de_int) (de_call (ok__law_draw T) (hr.mono (by decide)) (by rfl) T.g__law_draw T.F__law_draw.kp T.b__law_draw .nil rs0 passL (dn_cons (de_var (pv 1)) (dn_cons (de_int) (dn_nil)))))) (dss_cons (ds_asg (de_call (ok__law_with T 8) (hr.mono (by decide)) (by rfl) T.g__law_with T.F__law_with.kp T.b__law_with .nil rs0 pBody (dn_cons (de_var (pv 3)) (dn_cons (de_var (pv 6)) (dn_cons (de_int) (dn_nil))))) (dg_tup rfl (dgs_cons (dg_name (i := 8) sc_law.nd rfl (by first | exact .inl rfl | exact .inr rfl)) (dgs_cons (dg_name (i := 9) sc_law.nd rfl (by first | exact .inl rfl | exact .inr rfl)) (dgs_nil))))) (dss_one (ds_if (dt_not (dt_tru (de_call (ok__law_times_right T hTB__law_times_right) (hr.mono (by decide)) (by rfl) T.g__law_times_right T.F__law_times_right.kp T.b__law_times_right .nil rs0 pBody (dn_cons (de_var (pv 8)) (dn_cons (de_callTy dc_tuple (by rfl) T.z_tuple (by decide +kernel) (dn_cons (de_comp [("price", 10)] (gName 10) rfl sc_law.nd (di_seq (de_var (pv 6))) (blkOk_by (N := N_law) (sc := defScope st_law) (by decide +kernel)) (fun _ _ _ _ _ => pg_name (i := 10) sc_law.nd rfl (by first | exact .inl rfl | exact .inr rfl)) (gv_name (by decide)) (fun _ _ _ _ _ => dts_nil) (fun _ _ _ _ _ => de_tup (dn_cons (de_var (pv 10)) (dn_cons (de_int) (dn_nil))))) (dn_nil))) (dn_cons (de_op do_add (de_int) (de_call (ok__law_draw T) (hr.mono (by decide)) (by rfl) T.g__law_draw T.F__law_draw.kp T.b__law_draw .nil rs0 pBody (dn_cons (de_var (pv 1)) (dn_cons (de_int) (dn_nil))))) (dn_nil))))))) (dss_one (ds_ret (de_bl))) (dss_nil)))))))) (dss_cons (ds_set (i := 11) sc_law.nd rfl (by first | exact .inl rfl | exact .inr rfl) (de_tup (dn_cons (de_str) (dn_cons (de_str) (dn_cons (de_int) (dn_cons (de_int) (dn_cons (de_tup (dn_cons (de_int) (dn_cons (de_str) (dn_cons (de_str) (dn_nil))))) (dn_cons (de_tup (dn_cons (de_tup (dn_cons (de_str) (dn_cons (de_str) (dn_cons (de_int) (dn_cons (de_int) (dn_nil)))))) (dn_nil))) (dn_nil))))))))) (dss_one (ds_ret (de_cmp (do_eq hr.r.units) (de_comp [("k", 7)] (gName 7) rfl sc_law.nd (di_range1 (by rfl) T.z_range (dn_cons (de_int) (dn_nil))) (blkOk_by (N := N_law) (sc := defScope st_law) (by decide +kernel)) (fun _ _ _ _ _ => pg_name (i := 7) sc_law.nd rfl (by first | exact .inl rfl | exact .inr rfl)) (gv_name (by decide)) (fun _ _ _ _ _ => dts_nil) (fun _ _ _ _ _ => de_ix (hu_of hr.r) (de_call (ok_words_at T) (hr.mono (by decide)) (by rfl) T.g_words_at T.F_words_at.kp T.b_words_at .nil rs0 passL (dn_cons (de_var (pv 11)) (dn_cons (de_tup (dn_cons (de_tup (dn_cons (de_int) (dn_cons (de_int) (dn_nil)))) (dn_cons (de_tup (dn_cons (de_var (pv 7)) (dn_cons (de_int) (dn_nil)))) (dn_nil)))) (dn_nil)))) (de_int) (fun _ _ => rfl))) (de_lst (dn_cons (de_int) (dn_cons (de_int) (dn_cons (de_int) (dn_cons (de_int) (dn_nil)))))) (nomark _)))))))
end
end G_madeofhere_k05_goods_beside_one_another
set_option maxHeartbeats 0
namespace G_madeofhere_k05_goods_beside_one_another
open PySem PySem.Spec PyProof.Rows L2 DL
def dd_BadGood : He.DefD := ⟨("BadGood", some "__init__"), "__init__", "BadGood.__init__", defArgs st_BadGood, defBody st_BadGood, defScope st_BadGood, [], []⟩
def dd_BadPrices : He.DefD := ⟨("BadPrices", some "__init__"), "__init__", "BadPrices.__init__", defArgs st_BadPrices, defBody st_BadPrices, defScope st_BadPrices, [], []⟩
def clsN : List Str := [("MakeError" : Str), ("BadGood" : Str), ("BadPrices" : Str), ("" : Str), ("" : Str), ("_law_turned" : Str)]
def clsA (K : Fg) : Nat → Addr := fun i => if i = 3 then (He.cT K ("_law_own_right", none)).2 else if i = 4 then (He.cT K ("_law_times_right", none)).2 else He.ga K (clsN.getD i "")
def exC (K : Fg) : Bool := ((List.range 3).all fun i => if [true, true, true].getD i true = true then clsVB K (clsA K i) else clsLB K (clsA K i)) && (kitBB K (clsA K) 3 tb tys fds && (true))
theorem exC_cf {K : Fg} (h : exC K = true) : CF K (clsA K) := by
  obtain ⟨h1, h2⟩ := He.ba h
  refine ⟨fun {i} hi => ?_, kitBB_ok (He.ba h2).1⟩
  have q := List.all_eq_true.mp h1 i (List.mem_range.mpr hi)
  by_cases z : [true, true, true].getD i true = true
  · rw [if_pos z] at q; exact clsVB_ok q
  · rw [if_neg z] at q; exact clsLB_ok q
def dd_is_rule : He.DefD := ⟨("is_rule", none), "is_rule", "is_rule", defArgs st_is_rule, defBody st_is_rule, defScope st_is_rule, [], []⟩
def dd__need_bounds : He.DefD := ⟨("_need_bounds", none), "_need_bounds", "_need_bounds", defArgs st__need_bounds, defBody st__need_bounds, defScope st__need_bounds, [], []⟩
def dd__need_making : He.DefD := ⟨("_need_making", none), "_need_making", "_need_making", defArgs st__need_making, defBody st__need_making, defScope st__need_making, [], []⟩
def dd__look_at : He.DefD := ⟨("_look_at", none), "_look_at", "_look_at", defArgs st__look_at, defBody st__look_at, defScope st__look_at, [], []⟩
def dd_look_over : He.DefD := ⟨("look_over", none), "look_over", "look_over", defArgs st_look_over, defBody st_look_over, defScope st_look_over, [], []⟩
def dd_is_fraction : He.DefD := ⟨("is_fraction", none), "is_fraction", "is_fraction", defArgs st_is_fraction, defBody st_is_fraction, defScope st_is_fraction, [], []⟩
def dd_lowest_terms : He.DefD := ⟨("lowest_terms", none), "lowest_terms", "lowest_terms", defArgs st_lowest_terms, defBody st_lowest_terms, defScope st_lowest_terms, [], []⟩
def dd_need_prices : He.DefD := ⟨("need_prices", none), "need_prices", "need_prices", defArgs st_need_prices, defBody st_need_prices, defScope st_need_prices, [], []⟩
def dd_common_unit : He.DefD := ⟨("common_unit", none), "common_unit", "common_unit", defArgs st_common_unit, defBody st_common_unit, defScope st_common_unit, [], []⟩
def dd_in_units : He.DefD := ⟨("in_units", none), "in_units", "in_units", defArgs st_in_units, defBody st_in_units, defScope st_in_units, [], []⟩
def dd_fractions_of : He.DefD := ⟨("fractions_of", none), "fractions_of", "fractions_of", defArgs st_fractions_of, defBody st_fractions_of, defScope st_fractions_of, [], []⟩
def dd_sums_of : He.DefD := ⟨("sums_of", none), "sums_of", "sums_of", defArgs st_sums_of, defBody st_sums_of, defScope st_sums_of, [], []⟩
def dd__sums_at : He.DefD := ⟨("_sums_at", none), "_sums_at", "_sums_at", defArgs st__sums_at, defBody st__sums_at, defScope st__sums_at, [], []⟩
def dd_costs : He.DefD := ⟨("costs", none), "costs", "costs", defArgs st_costs, defBody st_costs, defScope st_costs, [], []⟩
def dd_owns : He.DefD := ⟨("owns", none), "owns", "owns", defArgs st_owns, defBody st_owns, defScope st_owns, [], []⟩
def dd_words_at : He.DefD := ⟨("words_at", none), "words_at", "words_at", defArgs st_words_at, defBody st_words_at, defScope st_words_at, [], []⟩
def dd_portion : He.DefD := ⟨("portion", none), "portion", "portion", defArgs st_portion, defBody st_portion, defScope st_portion, [], []⟩
def dd__law_begun : He.DefD := ⟨("_law_begun", none), "_law_begun", "_law_begun", defArgs st__law_begun, defBody st__law_begun, defScope st__law_begun, [], []⟩
def dd__law_draw : He.DefD := ⟨("_law_draw", none), "_law_draw", "_law_draw", defArgs st__law_draw, defBody st__law_draw, defScope st__law_draw, [], []⟩
def dd__law_of : He.DefD := ⟨("_law_of", none), "_law_of", "_law_of", defArgs st__law_of, defBody st__law_of, defScope st__law_of, [], []⟩
def dd__law_span : He.DefD := ⟨("_law_span", none), "_law_span", "_law_span", defArgs st__law_span, defBody st__law_span, defScope st__law_span, [], []⟩
def dd__law_term : He.DefD := ⟨("_law_term", none), "_law_term", "_law_term", defArgs st__law_term, defBody st__law_term, defScope st__law_term, [], []⟩
def dd__law_thing : He.DefD := ⟨("_law_thing", none), "_law_thing", "_law_thing", defArgs st__law_thing, defBody st__law_thing, defScope st__law_thing, [], []⟩
def dd__law_good : He.DefD := ⟨("_law_good", none), "_law_good", "_law_good", defArgs st__law_good, defBody st__law_good, defScope st__law_good, [], []⟩
def dd__law_rows : He.DefD := ⟨("_law_rows", none), "_law_rows", "_law_rows", defArgs st__law_rows, defBody st__law_rows, defScope st__law_rows, [], []⟩
def dd__law_least : He.DefD := ⟨("_law_least", none), "_law_least", "_law_least", defArgs st__law_least, defBody st__law_least, defScope st__law_least, [], []⟩
def dd__law_sum : He.DefD := ⟨("_law_sum", none), "_law_sum", "_law_sum", defArgs st__law_sum, defBody st__law_sum, defScope st__law_sum, [], []⟩
def dd__law_prices : He.DefD := ⟨("_law_prices", none), "_law_prices", "_law_prices", defArgs st__law_prices, defBody st__law_prices, defScope st__law_prices, [], []⟩
def dd__law_made : He.DefD := ⟨("_law_made", none), "_law_made", "_law_made", defArgs st__law_made, defBody st__law_made, defScope st__law_made, [], []⟩
def dd__law_termed : He.DefD := ⟨("_law_termed", none), "_law_termed", "_law_termed", defArgs st__law_termed, defBody st__law_termed, defScope st__law_termed, [], []⟩
def dd__law_turned : He.DefD := ⟨("_law_turned", none), "_law_turned", "_law_turned", defArgs st__law_turned, defBody st__law_turned, defScope st__law_turned, [], []⟩
def dd__law_order : He.DefD := ⟨("_law_order", none), "_law_order", "_law_order", defArgs st__law_order, defBody st__law_order, defScope st__law_order, [], []⟩
def dd__law_turned_right : He.DefD := ⟨("_law_turned_right", none), "_law_turned_right", "_law_turned_right", defArgs st__law_turned_right, defBody st__law_turned_right, defScope st__law_turned_right, [], []⟩
def dd__law_times_right : He.DefD := ⟨("_law_times_right", none), "_law_times_right", "_law_times_right", defArgs st__law_times_right, defBody st__law_times_right, defScope st__law_times_right, [], []⟩
def dd__law_own_right : He.DefD := ⟨("_law_own_right", none), "_law_own_right", "_law_own_right", defArgs st__law_own_right, defBody st__law_own_right, defScope st__law_own_right, [], []⟩
def dd__law_shares_right : He.DefD := ⟨("_law_shares_right", none), "_law_shares_right", "_law_shares_right", defArgs st__law_shares_right, defBody st__law_shares_right, defScope st__law_shares_right, [], []⟩
def dd__law_with : He.DefD := ⟨("_law_with", none), "_law_with", "_law_with", defArgs st__law_with, defBody st__law_with, defScope st__law_with, [], []⟩
def dd_law : He.DefD := ⟨("law", none), "law", "law", defArgs st_law, defBody st_law, defScope st_law, [], []⟩
def fn : List He.DefD := [dd_is_rule, dd__need_bounds, dd__need_making, dd__look_at, dd_look_over, dd_is_fraction, dd_lowest_terms, dd_need_prices, dd_common_unit, dd_in_units, dd_fractions_of, dd_sums_of, dd__sums_at, dd_costs, dd_owns, dd_words_at, dd_portion, dd__law_begun, dd__law_draw, dd__law_of, dd__law_span, dd__law_term, dd__law_thing, dd__law_good, dd__law_rows, dd__law_least, dd__law_sum, dd__law_prices, dd__law_made, dd__law_termed, dd__law_turned, dd__law_order, dd__law_turned_right, dd__law_times_right, dd__law_own_right, dd__law_shares_right, dd__law_with, dd_law, dd_BadGood, dd_BadPrices]
def fa : List He.Fa := [.glo "is_rule", .glo "_need_bounds", .glo "_need_making", .glo "_look_at", .glo "look_over", .glo "is_fraction", .glo "lowest_terms", .glo "need_prices", .glo "common_unit", .glo "in_units", .glo "fractions_of", .glo "sums_of", .glo "_sums_at", .glo "costs", .glo "owns", .glo "words_at", .glo "portion", .glo "_law_begun", .glo "_law_draw", .glo "_law_of", .glo "_law_span", .glo "_law_term", .glo "_law_thing", .glo "_law_good", .glo "_law_rows", .glo "_law_least", .glo "_law_sum", .glo "_law_prices", .glo "_law_made", .glo "_law_termed", .glo "_law_turned", .glo "_law_order", .glo "_law_turned_right", .glo "_law_times_right", .glo "_law_own_right", .glo "_law_shares_right", .glo "_law_with", .glo "law", .free "abs", .free "bool", .free "enumerate", .free "int", .free "isinstance", .free "len", .free "list", .free "max", .free "min", .free "range", .free "reversed", .free "sorted", .free "str", .free "tuple", .free "zip", .int "HIGH" 3, .int "LAND" 1, .int "LOW" 2, .int "MAKING" 0, .int "MOST_MOVES" 3, .int "MOST_PARTS" 4, .int "MOST_PRICE" 1000000, .int "MOST_SHARE" 100, .int "MOST_STEPS" 4, .int "MOST_THINGS" 10, .int "RULE" 4, .glo "BadGood", .glo "BadPrices", .meth "BadGood" "__init__", .meth "BadPrices" "__init__"]
def exI (K : Fg) : Bool := [(("gcd" : Str), "math.gcd"), (("lcm" : Str), "math.lcm")].all fun q => decide (PySem.W.nsIn K mainGlobals q.1 = some (some (.builtin q.2)))
def ex (K : Fg) : Bool := exI K && exC K
theorem ex_ok {K : Fg} (e : exI K = true) (i : Nat) {q : Str × String} (h : [(("gcd" : Str), "math.gcd"), (("lcm" : Str), "math.lcm")][i]? = some q) : PySem.W.nsIn K mainGlobals q.1 = some (some (.builtin q.2)) := of_decide_eq_true (List.all_eq_true.mp e q (List.mem_of_getElem? h))
abbrev R : PySem.W.OpenRow := PySem.W.OpenLaw.row PySem.Challenge.rw_madeofhere_k05_goods_beside_one_another
def tf : List He.Defn := [("_law_own_right", none), ("_law_times_right", none)]
def exX (K : Fg) : Bool := (ex K && decide (clsA K 3 ≠ clsA K 4)) && bmB K
abbrev hk : PySem.W.Hook := He.hookX 6 fa fn [] tf exX
def ob (s : PySem.W.SharedT) : He.AlX := He.obsX 6 fa fn [] tf exX (HandSHeadRun.getT s)
theorem ob_eq (s : PySem.W.SharedT) : ob s = hk.obs s.abs := He.obsX_eq (HandSHeadRun.getT_eq s)
def lo0 : List Str := [("__name__" : Str), ("MakeError" : Str), ("BadGood" : Str), ("BadPrices" : Str), ("MAKING" : Str), ("LAND" : Str), ("LOW" : Str), ("HIGH" : Str), ("RULE" : Str), ("MOST_PRICE" : Str), ("MOST_SHARE" : Str), ("MOST_PARTS" : Str), ("MOST_THINGS" : Str), ("MOST_STEPS" : Str), ("MOST_MOVES" : Str), ("is_rule" : Str), ("_need_bounds" : Str), ("_need_making" : Str), ("_look_at" : Str), ("look_over" : Str), ("is_fraction" : Str), ("lowest_terms" : Str), ("need_prices" : Str), ("common_unit" : Str), ("in_units" : Str), ("fractions_of" : Str), ("sums_of" : Str), ("_sums_at" : Str), ("costs" : Str), ("owns" : Str), ("words_at" : Str), ("portion" : Str), ("_law_begun" : Str), ("_law_draw" : Str), ("_law_of" : Str), ("_law_span" : Str), ("_law_term" : Str), ("_law_thing" : Str), ("_law_good" : Str), ("_law_rows" : Str)]
def lo1 : List Str := [("_law_least" : Str), ("_law_sum" : Str), ("_law_prices" : Str), ("_law_made" : Str), ("_law_termed" : Str), ("_law_turned" : Str), ("_law_order" : Str), ("_law_turned_right" : Str), ("_law_times_right" : Str), ("_law_own_right" : Str), ("_law_shares_right" : Str), ("_law_with" : Str)]
def loose : List Str := lo0 ++ lo1
theorem run (w : World) : HandSHeadRun.RunEqI R (PySem.W.view R.prog [0, 57]) hk ob 40000 loose w := by
  unfold HandSHeadRun.RunEqI
  kernel_rfl
theorem txt {K : Fg} {h : Heap} {mg : Str → Option Value} (X : K.In h) (G : h.Ns mainGlobals mg) (c : He.SaysD fa fn K) (e : ex K = true) (nd : clsA K 3 ≠ clsA K 4) : ∃ A : Adr, Txt K mg A ∧ A.a_law = He.ga K "law" ∧ A.cls = clsA K ∧ A.cod__law_own_right = He.codeOf K ("_law_own_right", none) ∧ A.cod__law_times_right = He.codeOf K ("_law_times_right", none) := by
  obtain ⟨eI, eC⟩ := He.ba e
  obtain ⟨q0, F0⟩ := c.def_ 0 (d := dd_is_rule) rfl
  have F0 : Fun K "is_rule" "is_rule" st_is_rule (He.ga K "is_rule") q0 := fun_ofD (st := st_is_rule) F0
  obtain ⟨q1, F1⟩ := c.def_ 1 (d := dd__need_bounds) rfl
  have F1 : Fun K "_need_bounds" "_need_bounds" st__need_bounds (He.ga K "_need_bounds") q1 := fun_ofD (st := st__need_bounds) F1
  obtain ⟨q2, F2⟩ := c.def_ 2 (d := dd__need_making) rfl
  have F2 : Fun K "_need_making" "_need_making" st__need_making (He.ga K "_need_making") q2 := fun_ofD (st := st__need_making) F2
  obtain ⟨q3, F3⟩ := c.def_ 3 (d := dd__look_at) rfl
  have F3 : Fun K "_look_at" "_look_at" st__look_at (He.ga K "_look_at") q3 := fun_ofD (st := st__look_at) F3
  obtain ⟨q4, F4⟩ := c.def_ 4 (d := dd_look_over) rfl
  have F4 : Fun K "look_over" "look_over" st_look_over (He.ga K "look_over") q4 := fun_ofD (st := st_look_over) F4
  obtain ⟨q5, F5⟩ := c.def_ 5 (d := dd_is_fraction) rfl
  have F5 : Fun K "is_fraction" "is_fraction" st_is_fraction (He.ga K "is_fraction") q5 := fun_ofD (st := st_is_fraction) F5
  obtain ⟨q6, F6⟩ := c.def_ 6 (d := dd_lowest_terms) rfl
  have F6 : Fun K "lowest_terms" "lowest_terms" st_lowest_terms (He.ga K "lowest_terms") q6 := fun_ofD (st := st_lowest_terms) F6
  obtain ⟨q7, F7⟩ := c.def_ 7 (d := dd_need_prices) rfl
  have F7 : Fun K "need_prices" "need_prices" st_need_prices (He.ga K "need_prices") q7 := fun_ofD (st := st_need_prices) F7
  obtain ⟨q8, F8⟩ := c.def_ 8 (d := dd_common_unit) rfl
  have F8 : Fun K "common_unit" "common_unit" st_common_unit (He.ga K "common_unit") q8 := fun_ofD (st := st_common_unit) F8
  obtain ⟨q9, F9⟩ := c.def_ 9 (d := dd_in_units) rfl
  have F9 : Fun K "in_units" "in_units" st_in_units (He.ga K "in_units") q9 := fun_ofD (st := st_in_units) F9
  obtain ⟨q10, F10⟩ := c.def_ 10 (d := dd_fractions_of) rfl
  have F10 : Fun K "fractions_of" "fractions_of" st_fractions_of (He.ga K "fractions_of") q10 := fun_ofD (st := st_fractions_of) F10
  obtain ⟨q11, F11⟩ := c.def_ 11 (d := dd_sums_of) rfl
  have F11 : Fun K "sums_of" "sums_of" st_sums_of (He.ga K "sums_of") q11 := fun_ofD (st := st_sums_of) F11
  obtain ⟨q12, F12⟩ := c.def_ 12 (d := dd__sums_at) rfl
  have F12 : Fun K "_sums_at" "_sums_at" st__sums_at (He.ga K "_sums_at") q12 := fun_ofD (st := st__sums_at) F12
  obtain ⟨q13, F13⟩ := c.def_ 13 (d := dd_costs) rfl
  have F13 : Fun K "costs" "costs" st_costs (He.ga K "costs") q13 := fun_ofD (st := st_costs) F13
  obtain ⟨q14, F14⟩ := c.def_ 14 (d := dd_owns) rfl
  have F14 : Fun K "owns" "owns" st_owns (He.ga K "owns") q14 := fun_ofD (st := st_owns) F14
  obtain ⟨q15, F15⟩ := c.def_ 15 (d := dd_words_at) rfl
  have F15 : Fun K "words_at" "words_at" st_words_at (He.ga K "words_at") q15 := fun_ofD (st := st_words_at) F15
  obtain ⟨q16, F16⟩ := c.def_ 16 (d := dd_portion) rfl
  have F16 : Fun K "portion" "portion" st_portion (He.ga K "portion") q16 := fun_ofD (st := st_portion) F16
  obtain ⟨q17, F17⟩ := c.def_ 17 (d := dd__law_begun) rfl
  have F17 : Fun K "_law_begun" "_law_begun" st__law_begun (He.ga K "_law_begun") q17 := fun_ofD (st := st__law_begun) F17
  obtain ⟨q18, F18⟩ := c.def_ 18 (d := dd__law_draw) rfl
  have F18 : Fun K "_law_draw" "_law_draw" st__law_draw (He.ga K "_law_draw") q18 := fun_ofD (st := st__law_draw) F18
  obtain ⟨q19, F19⟩ := c.def_ 19 (d := dd__law_of) rfl
  have F19 : Fun K "_law_of" "_law_of" st__law_of (He.ga K "_law_of") q19 := fun_ofD (st := st__law_of) F19
  obtain ⟨q20, F20⟩ := c.def_ 20 (d := dd__law_span) rfl
  have F20 : Fun K "_law_span" "_law_span" st__law_span (He.ga K "_law_span") q20 := fun_ofD (st := st__law_span) F20
  obtain ⟨q21, F21⟩ := c.def_ 21 (d := dd__law_term) rfl
  have F21 : Fun K "_law_term" "_law_term" st__law_term (He.ga K "_law_term") q21 := fun_ofD (st := st__law_term) F21
  obtain ⟨q22, F22⟩ := c.def_ 22 (d := dd__law_thing) rfl
  have F22 : Fun K "_law_thing" "_law_thing" st__law_thing (He.ga K "_law_thing") q22 := fun_ofD (st := st__law_thing) F22
  obtain ⟨q23, F23⟩ := c.def_ 23 (d := dd__law_good) rfl
  have F23 : Fun K "_law_good" "_law_good" st__law_good (He.ga K "_law_good") q23 := fun_ofD (st := st__law_good) F23
  obtain ⟨q24, F24⟩ := c.def_ 24 (d := dd__law_rows) rfl
  have F24 : Fun K "_law_rows" "_law_rows" st__law_rows (He.ga K "_law_rows") q24 := fun_ofD (st := st__law_rows) F24
  obtain ⟨q25, F25⟩ := c.def_ 25 (d := dd__law_least) rfl
  have F25 : Fun K "_law_least" "_law_least" st__law_least (He.ga K "_law_least") q25 := fun_ofD (st := st__law_least) F25
  obtain ⟨q26, F26⟩ := c.def_ 26 (d := dd__law_sum) rfl
  have F26 : Fun K "_law_sum" "_law_sum" st__law_sum (He.ga K "_law_sum") q26 := fun_ofD (st := st__law_sum) F26
  obtain ⟨q27, F27⟩ := c.def_ 27 (d := dd__law_prices) rfl
  have F27 : Fun K "_law_prices" "_law_prices" st__law_prices (He.ga K "_law_prices") q27 := fun_ofD (st := st__law_prices) F27
  obtain ⟨q28, F28⟩ := c.def_ 28 (d := dd__law_made) rfl
  have F28 : Fun K "_law_made" "_law_made" st__law_made (He.ga K "_law_made") q28 := fun_ofD (st := st__law_made) F28
  obtain ⟨q29, F29⟩ := c.def_ 29 (d := dd__law_termed) rfl
  have F29 : Fun K "_law_termed" "_law_termed" st__law_termed (He.ga K "_law_termed") q29 := fun_ofD (st := st__law_termed) F29
  obtain ⟨q30, F30⟩ := c.def_ 30 (d := dd__law_turned) rfl
  have F30 : Fun K "_law_turned" "_law_turned" st__law_turned (He.ga K "_law_turned") q30 := fun_ofD (st := st__law_turned) F30
  obtain ⟨q31, F31⟩ := c.def_ 31 (d := dd__law_order) rfl
  have F31 : Fun K "_law_order" "_law_order" st__law_order (He.ga K "_law_order") q31 := fun_ofD (st := st__law_order) F31
  obtain ⟨q32, F32⟩ := c.def_ 32 (d := dd__law_turned_right) rfl
  have F32 : Fun K "_law_turned_right" "_law_turned_right" st__law_turned_right (He.ga K "_law_turned_right") q32 := fun_ofD (st := st__law_turned_right) F32
  obtain ⟨q33, F33⟩ := c.def_ 33 (d := dd__law_times_right) rfl
  have F33 : Fun K "_law_times_right" "_law_times_right" st__law_times_right (He.ga K "_law_times_right") q33 := fun_ofD (st := st__law_times_right) F33
  obtain ⟨q34, F34⟩ := c.def_ 34 (d := dd__law_own_right) rfl
  have F34 : Fun K "_law_own_right" "_law_own_right" st__law_own_right (He.ga K "_law_own_right") q34 := fun_ofD (st := st__law_own_right) F34
  obtain ⟨q35, F35⟩ := c.def_ 35 (d := dd__law_shares_right) rfl
  have F35 : Fun K "_law_shares_right" "_law_shares_right" st__law_shares_right (He.ga K "_law_shares_right") q35 := fun_ofD (st := st__law_shares_right) F35
  obtain ⟨q36, F36⟩ := c.def_ 36 (d := dd__law_with) rfl
  have F36 : Fun K "_law_with" "_law_with" st__law_with (He.ga K "_law_with") q36 := fun_ofD (st := st__law_with) F36
  obtain ⟨q37, F37⟩ := c.def_ 37 (d := dd_law) rfl
  have F37 : Fun K "law" "law" st_law (He.ga K "law") q37 := fun_ofD (st := st_law) F37
  obtain ⟨q38, F38⟩ := c.def_ 38 (d := dd_BadGood) rfl
  have F38 : Fun K "__init__" "BadGood.__init__" st_BadGood (He.ma K (clsA K 1) "__init__") q38 := fun_ofD (st := st_BadGood) F38
  obtain ⟨q39, F39⟩ := c.def_ 39 (d := dd_BadPrices) rfl
  have F39 : Fun K "__init__" "BadPrices.__init__" st_BadPrices (He.ma K (clsA K 2) "__init__") q39 := fun_ofD (st := st_BadPrices) F39
  exact ⟨{ cls := clsA K, cod__law_own_right := He.codeOf K ("_law_own_right", none), cod__law_times_right := He.codeOf K ("_law_times_right", none), a_BadGood := He.ma K (clsA K 1) "__init__", d_BadGood := q38, a_BadPrices := He.ma K (clsA K 2) "__init__", d_BadPrices := q39, a_is_rule := (He.ga K "is_rule"), d_is_rule := q0, a__need_bounds := (He.ga K "_need_bounds"), d__need_bounds := q1, a__need_making := (He.ga K "_need_making"), d__need_making := q2, a__look_at := (He.ga K "_look_at"), d__look_at := q3, a_look_over := (He.ga K "look_over"), d_look_over := q4, a_is_fraction := (He.ga K "is_fraction"), d_is_fraction := q5, a_lowest_terms := (He.ga K "lowest_terms"), d_lowest_terms := q6, a_need_prices := (He.ga K "need_prices"), d_need_prices := q7, a_common_unit := (He.ga K "common_unit"), d_common_unit := q8, a_in_units := (He.ga K "in_units"), d_in_units := q9, a_fractions_of := (He.ga K "fractions_of"), d_fractions_of := q10, a_sums_of := (He.ga K "sums_of"), d_sums_of := q11, a__sums_at := (He.ga K "_sums_at"), d__sums_at := q12, a_costs := (He.ga K "costs"), d_costs := q13, a_owns := (He.ga K "owns"), d_owns := q14, a_words_at := (He.ga K "words_at"), d_words_at := q15, a_portion := (He.ga K "portion"), d_portion := q16, a__law_begun := (He.ga K "_law_begun"), d__law_begun := q17, a__law_draw := (He.ga K "_law_draw"), d__law_draw := q18, a__law_of := (He.ga K "_law_of"), d__law_of := q19, a__law_span := (He.ga K "_law_span"), d__law_span := q20, a__law_term := (He.ga K "_law_term"), d__law_term := q21, a__law_thing := (He.ga K "_law_thing"), d__law_thing := q22, a__law_good := (He.ga K "_law_good"), d__law_good := q23, a__law_rows := (He.ga K "_law_rows"), d__law_rows := q24, a__law_least := (He.ga K "_law_least"), d__law_least := q25, a__law_sum := (He.ga K "_law_sum"), d__law_sum := q26, a__law_prices := (He.ga K "_law_prices"), d__law_prices := q27, a__law_made := (He.ga K "_law_made"), d__law_made := q28, a__law_termed := (He.ga K "_law_termed"), d__law_termed := q29, a__law_turned := (He.ga K "_law_turned"), d__law_turned := q30, a__law_order := (He.ga K "_law_order"), d__law_order := q31, a__law_turned_right := (He.ga K "_law_turned_right"), d__law_turned_right := q32, a__law_times_right := (He.ga K "_law_times_right"), d__law_times_right := q33, a__law_own_right := (He.ga K "_law_own_right"), d__law_own_right := q34, a__law_shares_right := (He.ga K "_law_shares_right"), d__law_shares_right := q35, a__law_with := (He.ga K "_law_with"), d__law_with := q36, a_law := (He.ga K "law"), d_law := q37 },
  { F_is_rule := F0,
    g_is_rule := He.glo_ok X G (c.fact 0 (f := .glo "is_rule") rfl),
    b_is_rule := binds_of F0 (fun _ _ _ _ _ _ us hl => match us, hl with | [_], _ => rfl),
    F__need_bounds := F1,
    g__need_bounds := He.glo_ok X G (c.fact 1 (f := .glo "_need_bounds") rfl),
    b__need_bounds := binds_of F1 (fun _ _ _ _ _ _ us hl => match us, hl with | [_, _, _, _], _ => rfl),
    F__need_making := F2,
    g__need_making := He.glo_ok X G (c.fact 2 (f := .glo "_need_making") rfl),
    b__need_making := binds_of F2 (fun _ _ _ _ _ _ us hl => match us, hl with | [_, _, _], _ => rfl),
    F__look_at := F3,
    g__look_at := He.glo_ok X G (c.fact 3 (f := .glo "_look_at") rfl),
    b__look_at := binds_of F3 (fun _ _ _ _ _ _ us hl => match us, hl with | [_, _, _, _, _, _], _ => rfl),
    F_look_over := F4,
    g_look_over := He.glo_ok X G (c.fact 4 (f := .glo "look_over") rfl),
    b_look_over := binds_of F4 (fun _ _ _ _ _ _ us hl => match us, hl with | [_], _ => rfl),
    F_is_fraction := F5,
    g_is_fraction := He.glo_ok X G (c.fact 5 (f := .glo "is_fraction") rfl),
    b_is_fraction := binds_of F5 (fun _ _ _ _ _ _ us hl => match us, hl with | [_, _, _], _ => rfl),
    F_lowest_terms := F6,
    g_lowest_terms := He.glo_ok X G (c.fact 6 (f := .glo "lowest_terms") rfl),
    b_lowest_terms := binds_of F6 (fun _ _ _ _ _ _ us hl => match us, hl with | [_, _], _ => rfl),
    F_need_prices := F7,
    g_need_prices := He.glo_ok X G (c.fact 7 (f := .glo "need_prices") rfl),
    b_need_prices := binds_of F7 (fun _ _ _ _ _ _ us hl => match us, hl with | [_, _], _ => rfl),
    F_common_unit := F8,
    g_common_unit := He.glo_ok X G (c.fact 8 (f := .glo "common_unit") rfl),
    b_common_unit := binds_of F8 (fun _ _ _ _ _ _ us hl => match us, hl with | [_], _ => rfl),
    F_in_units := F9,
    g_in_units := He.glo_ok X G (c.fact 9 (f := .glo "in_units") rfl),
    b_in_units := binds_of F9 (fun _ _ _ _ _ _ us hl => match us, hl with | [_, _], _ => rfl),
    F_fractions_of := F10,
    g_fractions_of := He.glo_ok X G (c.fact 10 (f := .glo "fractions_of") rfl),
    b_fractions_of := binds_of F10 (fun _ _ _ _ _ _ us hl => match us, hl with | [_, _], _ => rfl),
    F_sums_of := F11,
    g_sums_of := He.glo_ok X G (c.fact 11 (f := .glo "sums_of") rfl),
    b_sums_of := binds_of F11 (fun _ _ _ _ _ _ us hl => match us, hl with | [_, _, _], _ => rfl),
    F__sums_at := F12,
    g__sums_at := He.glo_ok X G (c.fact 12 (f := .glo "_sums_at") rfl),
    b__sums_at := binds_of F12 (fun _ _ _ _ _ _ us hl => match us, hl with | [_, _], _ => rfl),
    F_costs := F13,
    g_costs := He.glo_ok X G (c.fact 13 (f := .glo "costs") rfl),
    b_costs := binds_of F13 (fun _ _ _ _ _ _ us hl => match us, hl with | [_, _], _ => rfl),
    F_owns := F14,
    g_owns := He.glo_ok X G (c.fact 14 (f := .glo "owns") rfl),
    b_owns := binds_of F14 (fun _ _ _ _ _ _ us hl => match us, hl with | [_, _], _ => rfl),
    F_words_at := F15,
    g_words_at := He.glo_ok X G (c.fact 15 (f := .glo "words_at") rfl),
    b_words_at := binds_of F15 (fun _ _ _ _ _ _ us hl => match us, hl with | [_, _], _ => rfl),
    F_portion := F16,
    g_portion := He.glo_ok X G (c.fact 16 (f := .glo "portion") rfl),
    b_portion := binds_of F16 (fun _ _ _ _ _ _ us hl => match us, hl with | [_, _], _ => rfl),
    F__law_begun := F17,
    g__law_begun := He.glo_ok X G (c.fact 17 (f := .glo "_law_begun") rfl),
    b__law_begun := binds_of F17 (fun _ _ _ _ _ _ us hl => match us, hl with | [_], _ => rfl),
    F__law_draw := F18,
    g__law_draw := He.glo_ok X G (c.fact 18 (f := .glo "_law_draw") rfl),
    b__law_draw := binds_of F18 (fun _ _ _ _ _ _ us hl => match us, hl with | [_, _], _ => rfl),
    F__law_of := F19,
    g__law_of := He.glo_ok X G (c.fact 19 (f := .glo "_law_of") rfl),
    b__law_of := binds_of F19 (fun _ _ _ _ _ _ us hl => match us, hl with | [_, _], _ => rfl),
    F__law_span := F20,
    g__law_span := He.glo_ok X G (c.fact 20 (f := .glo "_law_span") rfl),
    b__law_span := binds_of F20 (fun _ _ _ _ _ _ us hl => match us, hl with | [_, _], _ => rfl),
    F__law_term := F21,
    g__law_term := He.glo_ok X G (c.fact 21 (f := .glo "_law_term") rfl),
    b__law_term := binds_of F21 (fun _ _ _ _ _ _ us hl => match us, hl with | [_], _ => rfl),
    F__law_thing := F22,
    g__law_thing := He.glo_ok X G (c.fact 22 (f := .glo "_law_thing") rfl),
    b__law_thing := binds_of F22 (fun _ _ _ _ _ _ us hl => match us, hl with | [_, _, _], _ => rfl),
    F__law_good := F23,
    g__law_good := He.glo_ok X G (c.fact 23 (f := .glo "_law_good") rfl),
    b__law_good := binds_of F23 (fun _ _ _ _ _ _ us hl => match us, hl with | [_, _, _], _ => rfl),
    F__law_rows := F24,
    g__law_rows := He.glo_ok X G (c.fact 24 (f := .glo "_law_rows") rfl),
    b__law_rows := binds_of F24 (fun _ _ _ _ _ _ us hl => match us, hl with | [_, _], _ => rfl),
    F__law_least := F25,
    g__law_least := He.glo_ok X G (c.fact 25 (f := .glo "_law_least") rfl),
    b__law_least := binds_of F25 (fun _ _ _ _ _ _ us hl => match us, hl with | [_, _], _ => rfl),
    F__law_sum := F26,
    g__law_sum := He.glo_ok X G (c.fact 26 (f := .glo "_law_sum") rfl),
    b__law_sum := binds_of F26 (fun _ _ _ _ _ _ us hl => match us, hl with | [_], _ => rfl),
    F__law_prices := F27,
    g__law_prices := He.glo_ok X G (c.fact 27 (f := .glo "_law_prices") rfl),
    b__law_prices := binds_of F27 (fun _ _ _ _ _ _ us hl => match us, hl with | [_, _], _ => rfl),
    F__law_made := F28,
    g__law_made := He.glo_ok X G (c.fact 28 (f := .glo "_law_made") rfl),
    b__law_made := binds_of F28 (fun _ _ _ _ _ _ us hl => match us, hl with | [_, _], _ => rfl),
    F__law_termed := F29,
    g__law_termed := He.glo_ok X G (c.fact 29 (f := .glo "_law_termed") rfl),
    b__law_termed := binds_of F29 (fun _ _ _ _ _ _ us hl => match us, hl with | [_, _], _ => rfl),
    F__law_turned := F30,
    g__law_turned := He.glo_ok X G (c.fact 30 (f := .glo "_law_turned") rfl),
    b__law_turned := binds_of F30 (fun _ _ _ _ _ _ us hl => match us, hl with | [_], _ => rfl),
    F__law_order := F31,
    g__law_order := He.glo_ok X G (c.fact 31 (f := .glo "_law_order") rfl),
    b__law_order := binds_of F31 (fun _ _ _ _ _ _ us hl => match us, hl with | [_, _], _ => rfl),
    F__law_turned_right := F32,
    g__law_turned_right := He.glo_ok X G (c.fact 32 (f := .glo "_law_turned_right") rfl),
    b__law_turned_right := binds_of F32 (fun _ _ _ _ _ _ us hl => match us, hl with | [_, _], _ => rfl),
    F__law_times_right := F33,
    co__law_times_right := code_known F33,
    g__law_times_right := He.glo_ok X G (c.fact 33 (f := .glo "_law_times_right") rfl),
    b__law_times_right := binds_of F33 (fun _ _ _ _ _ _ us hl => match us, hl with | [_, _, _], _ => rfl),
    F__law_own_right := F34,
    co__law_own_right := code_known F34,
    g__law_own_right := He.glo_ok X G (c.fact 34 (f := .glo "_law_own_right") rfl),
    b__law_own_right := binds_of F34 (fun _ _ _ _ _ _ us hl => match us, hl with | [_, _], _ => rfl),
    F__law_shares_right := F35,
    g__law_shares_right := He.glo_ok X G (c.fact 35 (f := .glo "_law_shares_right") rfl),
    b__law_shares_right := binds_of F35 (fun _ _ _ _ _ _ us hl => match us, hl with | [_, _], _ => rfl),
    F__law_with := F36,
    g__law_with := He.glo_ok X G (c.fact 36 (f := .glo "_law_with") rfl),
    b__law_with := binds_of F36 (fun _ _ _ _ _ _ us hl => match us, hl with | [_, _, _], _ => rfl),
    F_law := F37,
    g_law := He.glo_ok X G (c.fact 37 (f := .glo "law") rfl),
    b_law := binds_of F37 (fun _ _ _ _ _ _ us hl => match us, hl with | [_], _ => rfl),
    F_BadGood := F38,
    b_BadGood := binds_of F38 (fun _ _ _ _ _ _ us hl => match us, hl with | [_, _, _], _ => rfl),
    F_BadPrices := F39,
    b_BadPrices := binds_of F39 (fun _ _ _ _ _ _ us hl => match us, hl with | [_, _], _ => rfl),
    tie__law_turned := rfl,
    nd_tabs := nd,
    C := exC_cf eC,
    z_abs := He.free_ok X G (c.fact 38 (f := .free "abs") rfl),
    z_bool := He.free_ok X G (c.fact 39 (f := .free "bool") rfl),
    z_enumerate := He.free_ok X G (c.fact 40 (f := .free "enumerate") rfl),
    z_int := He.free_ok X G (c.fact 41 (f := .free "int") rfl),
    z_isinstance := He.free_ok X G (c.fact 42 (f := .free "isinstance") rfl),
    z_len := He.free_ok X G (c.fact 43 (f := .free "len") rfl),
    z_list := He.free_ok X G (c.fact 44 (f := .free "list") rfl),
    z_max := He.free_ok X G (c.fact 45 (f := .free "max") rfl),
    z_min := He.free_ok X G (c.fact 46 (f := .free "min") rfl),
    z_range := He.free_ok X G (c.fact 47 (f := .free "range") rfl),
    z_reversed := He.free_ok X G (c.fact 48 (f := .free "reversed") rfl),
    z_sorted := He.free_ok X G (c.fact 49 (f := .free "sorted") rfl),
    z_str := He.free_ok X G (c.fact 50 (f := .free "str") rfl),
    z_tuple := He.free_ok X G (c.fact 51 (f := .free "tuple") rfl),
    z_zip := He.free_ok X G (c.fact 52 (f := .free "zip") rfl),
    c_HIGH := (He.int_ok X G (c.fact 53 (f := .int "HIGH" 3) rfl)).elim fun t e => ⟨_, e, t, rfl⟩,
    c_LAND := (He.int_ok X G (c.fact 54 (f := .int "LAND" 1) rfl)).elim fun t e => ⟨_, e, t, rfl⟩,
    c_LOW := (He.int_ok X G (c.fact 55 (f := .int "LOW" 2) rfl)).elim fun t e => ⟨_, e, t, rfl⟩,
    c_MAKING := (He.int_ok X G (c.fact 56 (f := .int "MAKING" 0) rfl)).elim fun t e => ⟨_, e, t, rfl⟩,
    c_MOST_MOVES := (He.int_ok X G (c.fact 57 (f := .int "MOST_MOVES" 3) rfl)).elim fun t e => ⟨_, e, t, rfl⟩,
    c_MOST_PARTS := (He.int_ok X G (c.fact 58 (f := .int "MOST_PARTS" 4) rfl)).elim fun t e => ⟨_, e, t, rfl⟩,
    c_MOST_PRICE := (He.int_ok X G (c.fact 59 (f := .int "MOST_PRICE" 1000000) rfl)).elim fun t e => ⟨_, e, t, rfl⟩,
    c_MOST_SHARE := (He.int_ok X G (c.fact 60 (f := .int "MOST_SHARE" 100) rfl)).elim fun t e => ⟨_, e, t, rfl⟩,
    c_MOST_STEPS := (He.int_ok X G (c.fact 61 (f := .int "MOST_STEPS" 4) rfl)).elim fun t e => ⟨_, e, t, rfl⟩,
    c_MOST_THINGS := (He.int_ok X G (c.fact 62 (f := .int "MOST_THINGS" 10) rfl)).elim fun t e => ⟨_, e, t, rfl⟩,
    c_RULE := (He.int_ok X G (c.fact 63 (f := .int "RULE" 4) rfl)).elim fun t e => ⟨_, e, t, rfl⟩,
    g_BadGood := He.glo_ok X G (c.fact 64 (f := .glo "BadGood") rfl),
    g_BadPrices := He.glo_ok X G (c.fact 65 (f := .glo "BadPrices") rfl),
    i_BadGood := (He.meth_ok (c.fact 66 (f := .meth "BadGood" "__init__") rfl)).at_,
    t_BadGood := beq_iff_eq.mp (He.meth_ok (c.fact 66 (f := .meth "BadGood" "__init__") rfl)).fn,
    i_BadPrices := (He.meth_ok (c.fact 67 (f := .meth "BadPrices" "__init__") rfl)).at_,
    t_BadPrices := beq_iff_eq.mp (He.meth_ok (c.fact 67 (f := .meth "BadPrices" "__init__") rfl)).fn,
    i_gcd := PySem.W.mg_of X G (ex_ok eI 0 rfl),
    i_lcm := PySem.W.mg_of X G (ex_ok eI 1 rfl) }, rfl, rfl, rfl, rfl⟩
end G_madeofhere_k05_goods_beside_one_another
open PySem PySem.W PySem.Calls PyProof.Rows
theorem G_madeofhere_k05_goods_beside_one_another.from_data (hl : ∀ (K : DL.Fg) (c : Nat → PySem.Addr), G_madeofhere_k05_goods_beside_one_another.CF K c → ((G_madeofhere_k05_goods_beside_one_another.tabT c).map (·.1)).Nodup → DL.LawDT 63 (G_madeofhere_k05_goods_beside_one_another.tabT c) (G_madeofhere_k05_goods_beside_one_another.Wlaw K c)) : PySem.Challenge.rw_madeofhere_k05_goods_beside_one_another.Holds := by
  w_on; o_law
  refine HandSHeadRun.head_imp (r := G_madeofhere_k05_goods_beside_one_another.R) (q := view G_madeofhere_k05_goods_beside_one_another.R.prog [0, 57]) (H := G_madeofhere_k05_goods_beside_one_another.hk) (ob := G_madeofhere_k05_goods_beside_one_another.ob) (M := 40000) (loose := G_madeofhere_k05_goods_beside_one_another.loose) (d := HandSHeadRun.topDef G_madeofhere_k05_goods_beside_one_another.R.prog 57) (kwd := []) G_madeofhere_k05_goods_beside_one_another.ob_eq
    G_madeofhere_k05_goods_beside_one_another.run (by kernel_rfl) (by kernel_rfl) (by kernel_rfl) (by rfl) (by first | assumption | decide +kernel) (by decide +kernel) ⟨rfl, rfl, rfl, rfl, rfl, by decide +kernel⟩ ?hw ?hc
  case hw => w_witness2
  case hc =>
    refine DL.d_walkT (l := PySem.Challenge.rw_madeofhere_k05_goods_beside_one_another) (n := 63) (k := 18) (x := "script") rfl (by decide) (by kernel_rfl) ⟨⟨rfl, by decide, by decide⟩, rfl⟩ ?F
    intro w mg fa h Y G hmg0
    obtain ⟨K, KX, c⟩ := Y
    have hmg : mg ("law" : PySem.Str) = some (.ref fa) := by
      have e : (HandSHeadRun.topDef G_madeofhere_k05_goods_beside_one_another.R.prog 57).name = ("law" : PySem.Str) := by kernel_rfl
      rw [← e]
      exact hmg0
    obtain ⟨A, T, eA, eK, eC__law_own_right, eC__law_times_right⟩ := G_madeofhere_k05_goods_beside_one_another.txt KX G c.t.d (He.ba (He.ba c.more).1).1 (of_decide_eq_true (He.ba (He.ba c.more).1).2)
    have ef := hmg.symm.trans T.g_law
    cases ef
    have e1__law_own_right : A.cod__law_own_right = (He.cT K (("_law_own_right" : PySem.Str), none)).1 := eC__law_own_right
    have e1__law_times_right : A.cod__law_times_right = (He.cT K (("_law_times_right" : PySem.Str), none)).1 := eC__law_times_right
    have ndT : ((G_madeofhere_k05_goods_beside_one_another.tf.map (He.cT K)).map (·.2)).Nodup := by
      have z := of_decide_eq_true (He.ba (He.ba c.more).1).2
      simp only [G_madeofhere_k05_goods_beside_one_another.tf, List.map_cons, List.map_nil, List.nodup_cons, List.mem_singleton, List.not_mem_nil, not_false_eq_true, List.nodup_nil, and_true]
      exact z
    refine ⟨K, A.d_law, G_madeofhere_k05_goods_beside_one_another.Wlaw K A.cls, G_madeofhere_k05_goods_beside_one_another.tf.map (He.cT K), ["_law_own_right" ++ ".<locals>." ++ "<lambda>", "_law_times_right" ++ ".<locals>." ++ "_law_grown"], KX, fun p hp => ?_, fun p hp => ?_, fun p hp => ?_, DL.bmB_ok KX G (He.ba c.more).2, rfl, ndT, fun s v => (by obtain ⟨_, _, _, _, _, _, _, _, _, e2, _, _⟩ := T.F_law.ex; rw [e2]; exact .of_eq rfl), ?_, fun base _ _ tb => ?_⟩
    · obtain ⟨p', hp', rfl⟩ := List.mem_map.mp hp
      exact c.empty p' hp'
    · obtain ⟨p', hp', rfl⟩ := List.mem_map.mp hp
      exact c.out p' hp'
    · obtain ⟨p', hp', rfl⟩ := List.mem_map.mp hp
      exact PySem.W.codeHd_of_K KX (c.hd p' hp')
    · rw [eK]
      exact hl K (G_madeofhere_k05_goods_beside_one_another.clsA K) (by rw [← eK]; exact T.C) (by simp only [G_madeofhere_k05_goods_beside_one_another.tabT, List.map_cons, List.map_nil, List.nodup_cons, List.mem_singleton, List.not_mem_nil, not_false_eq_true, List.nodup_nil, and_true]; exact of_decide_eq_true (He.ba (He.ba c.more).1).2)
    · refine G_madeofhere_k05_goods_beside_one_another.ok_law T ?_ ?_
      · rw [e1__law_own_right, eK]
        exact tb _ (List.mem_map.mpr ⟨_, List.mem_cons_self, rfl⟩)
      · rw [e1__law_times_right, eK]
        exact tb _ (List.mem_map.mpr ⟨_, List.mem_cons_of_mem _ List.mem_cons_self, rfl⟩)
set_option maxHeartbeats 1000000
namespace MH
open PySem PySem.Spec PyProof.Rows L2 DL
end MH
set_option maxHeartbeats 1000000
namespace DL
open PySem PySem.Spec PyProof.Rows L2
/-! ### one step of a reading each: own classes, zip, sorted, stars -/
section
variable {K : Fg} {C p a : Addr} {ns fs : List Str} {ds es : List D} {M : Mem} {Q : QD} {Xd : XD} {s : SD} {te te2 to ta tb : TED} {t : TAD} {nx bk ct : SD → Mem → Prop} {rt : QD} {ex : XD} {f : Str} {d e x y : D} {R : List D → Option Addr → Mem → Prop} {i j : Int}
theorem w_at (h : te Xd s M (atK K f Q)) : dAt K f te Xd s M Q := h
theorem w_sAt (h : te ex s M fun d M1 => to ex s M1 fun o M2 => atS K f o d (fun M3 => nx s M3) M2) : sAt K f to te ⟨nx, rt, bk, ct, ex⟩ s M := h
theorem w_gAt {Kx : SD → Mem → Prop} (h : to Xd s M fun o M1 => atS K f o d (fun M2 => Kx s M2) M1) : gAt K f to d Xd s M Kx := h
theorem w_newD {sp : SpD} {dd : List D} (h : t Xd s M fun ds M1 => ∀ p, M1 p = none → sp (.ref p :: (ds ++ dd)) (M1.put p (.ins C [] [])) (fun d M2 => d = .non ∧ Q (.ref p) M2) Xd) : dNewD C sp dd t Xd s M Q := h
theorem w_iZipM (h : dCons te (dCons te2 dNil) Xd s M (zipMK R)) : iZipMD te te2 Xd s M R := h
theorem w_zmLL (h : R (zpD ds es) none M) : zipMK R [.lst ds, .lst es] M := ⟨_, _, rfl, rfl, h⟩
theorem w_zmLT (h : R (zpD ds es) none M) : zipMK R [.lst ds, .tup es] M := ⟨_, _, rfl, rfl, h⟩
theorem w_zmTL (h : R (zpD ds es) none M) : zipMK R [.tup ds, .lst es] M := ⟨_, _, rfl, rfl, h⟩
theorem w_zmTT (h : R (zpD ds es) none M) : zipMK R [.tup ds, .tup es] M := ⟨_, _, rfl, rfl, h⟩
theorem w_iZipO (h : dCons te (dCons te2 dNil) Xd s M (zipOK R)) : iZipOD te te2 Xd s M R := h
theorem w_lstZip (h : dCons te (dCons te2 dNil) Xd s M (zipMK fun l _ M1 => Q (.lst l) M1)) : dLstZip te te2 Xd s M Q := h
theorem w_iRevS (h : te Xd s M (revIK R)) : iRevSD te Xd s M R := h
theorem w_revIL (h : R ds.reverse none M) : revIK R (.lst ds) M := ⟨ds, rfl, h⟩
theorem w_iEZ (h : dCons te (dCons te2 dNil) Xd s M (zipMK fun l _ M1 => R (enmFrom 0 l) none M1)) : iEZD te te2 Xd s M R := h
theorem w_rg2 {F : Int → Int → Mem → Prop} (h : ta Xd s M fun x M1 => tb Xd s M1 (rg2K x F)) : rg2 ta tb Xd s M F := h
theorem w_rg2K {F : Int → Int → Mem → Prop} (h : F i j M) : rg2K (.int i) F (.int j) M := h
theorem w_tupS (h : t Xd s M fun ds M1 => ds.length ≤ sizeLine ∧ Q (.tup ds) M1) : dTupS t Xd s M Q := h
theorem w_star {L : List D → Mem → Prop} (h : te Xd s M (seqK fun ds M1 => t Xd s M1 fun es M2 => L (ds ++ es) M2)) : dStar te t Xd s M L := h
theorem w_seqT {L : List D → Mem → Prop} (h : L ds M) : seqK L (.tup ds) M := h
theorem w_seqL {L : List D → Mem → Prop} (h : L ds M) : seqK L (.lst ds) M := h
end
end DL
set_option maxHeartbeats 1000000
namespace MH
open PySem PySem.Spec PyProof.Rows L2 DL
/-! ### what the program keeps of a good: lists by numbers -/
def nI (k : Nat) : D := .int (k : Int)
mutual
def Th.fl : Th → List Th
  | .raw h lo hi => [.raw h lo hi]
  | .made h lo hi sh u w ps => .made h lo hi sh u w ps :: Th.fls ps
def Th.fls : List Th → List Th
  | [] => []
  | t :: ts => t.fl ++ Th.fls ts
end
mutual
def Th.whs : Th → Nat → D → List D
  | .raw _ _ _, _, p => [p]
  | .made _ _ _ _ _ _ ps, k, p => p :: Th.whss ps (k + 1) (nI k)
def Th.whss : List Th → Nat → D → List D
  | [], _, _ => []
  | t :: ts, k, p => t.whs k p ++ Th.whss ts (k + t.sz) p
end
mutual
def Th.mds : Th → Nat → List Nat
  | .raw _ _ _, _ => []
  | .made _ _ _ _ _ _ ps, k => k :: Th.mdss ps (k + 1)
def Th.mdss : List Th → Nat → List Nat
  | [], _ => []
  | t :: ts, k => t.mds k ++ Th.mdss ts (k + t.sz)
end
def mvn1 (lo hi : Int) (k : Nat) : List Nat := if lo < hi then [k] else []
mutual
def Th.mvn : Th → Nat → List Nat
  | .raw _ lo hi, k => mvn1 lo hi k
  | .made _ lo hi _ _ _ ps, k => mvn1 lo hi k ++ Th.mvns ps (k + 1)
def Th.mvns : List Th → Nat → List Nat
  | [], _ => []
  | t :: ts, k => t.mvn k ++ Th.mvns ts (k + t.sz)
end
mutual
theorem fl_len : ∀ t : Th, t.fl.length = t.sz
  | .raw _ _ _ => rfl
  | .made _ _ _ _ _ _ ps => by rw [Th.fl, List.length_cons, fls_len ps, Th.sz]; omega
theorem fls_len : ∀ ts : List Th, (Th.fls ts).length = Th.szs ts
  | [] => rfl
  | t :: ts => by rw [Th.fls, List.length_append, fl_len t, fls_len ts, Th.szs]
end
mutual
theorem mds_len : ∀ (t : Th) (k : Nat), (t.mds k).length = t.st
  | .raw _ _ _, _ => rfl
  | .made _ _ _ _ _ _ ps, k => by rw [Th.mds, List.length_cons, mdss_len ps, Th.st]; omega
theorem mdss_len : ∀ (ts : List Th) (k : Nat), (Th.mdss ts k).length = Th.sts ts
  | [], _ => rfl
  | t :: ts, k => by rw [Th.mdss, List.length_append, mds_len t, mdss_len ts, Th.sts]
end
theorem mvn1_len (lo hi : Int) (k : Nat) : (mvn1 lo hi k).length = mv1 lo hi := by unfold mvn1 mv1; split <;> rfl
mutual
theorem mvn_len : ∀ (t : Th) (k : Nat), (t.mvn k).length = t.mv
  | .raw _ _ _, _ => by rw [Th.mvn, mvn1_len, Th.mv]
  | .made _ _ _ _ _ _ ps, k => by rw [Th.mvn, List.length_append, mvn1_len, mvns_len ps, Th.mv]
theorem mvns_len : ∀ (ts : List Th) (k : Nat), (Th.mvns ts k).length = Th.mvs ts
  | [], _ => rfl
  | t :: ts, k => by rw [Th.mvns, List.length_append, mvn_len t, mvns_len ts, Th.mvs]
end
mutual
theorem whs_len : ∀ (t : Th) (k : Nat) (p : D), (t.whs k p).length = t.sz
  | .raw _ _ _, _, _ => rfl
  | .made _ _ _ _ _ _ ps, k, p => by rw [Th.whs, List.length_cons, whss_len ps, Th.sz]; omega
theorem whss_len : ∀ (ts : List Th) (k : Nat) (p : D), (Th.whss ts k p).length = Th.szs ts
  | [], _, _ => rfl
  | t :: ts, k, p => by rw [Th.whss, List.length_append, whs_len t, whss_len ts, Th.szs]
end
theorem mv1_le (lo hi : Int) : mv1 lo hi ≤ 1 := by unfold mv1; split <;> omega
mutual
theorem mv_le_sz : ∀ t : Th, t.mv ≤ t.sz
  | .raw _ lo hi => by simp only [Th.mv, Th.sz]; exact mv1_le lo hi
  | .made _ lo hi _ _ _ ps => by
    have := mv1_le lo hi
    have := mvs_le_szs ps
    simp only [Th.mv, Th.sz]; omega
theorem mvs_le_szs : ∀ ts : List Th, Th.mvs ts ≤ Th.szs ts
  | [] => Nat.le_refl 0
  | t :: ts => by
    have := mv_le_sz t
    have := mvs_le_szs ts
    simp only [Th.mvs, Th.szs]; omega
end
/-- four lists that are owned -/
structure S4 (M0 : Mem) (f w m v : Addr) (F W : List D) (Dd V : List D) (M : Mem) : Prop where
  hf : M f = some (.lst F)
  hw : M w = some (.lst W)
  hm : M m = some (.lst Dd)
  hv : M v = some (.lst V)
  o : ∀ x, x ≠ f → x ≠ w → x ≠ m → x ≠ v → M x = M0 x
structure Ne4 (f w m v : Addr) : Prop where
  fw : f ≠ w
  fm : f ≠ m
  fv : f ≠ v
  wm : w ≠ m
  wv : w ≠ v
  mv : m ≠ v
section
variable {M0 M : Mem} {f w m v : Addr} {F W Dd V X : List D}
theorem S4.putF (h : S4 M0 f w m v F W Dd V M) (n : Ne4 f w m v) : S4 M0 f w m v X W Dd V (M.put f (.lst X)) :=
  ⟨Mem.put_same, (Mem.put_ne (Ne.symm n.fw)).trans h.hw, (Mem.put_ne (Ne.symm n.fm)).trans h.hm, (Mem.put_ne (Ne.symm n.fv)).trans h.hv, fun x a b c d => (Mem.put_ne a).trans (h.o x a b c d)⟩
theorem S4.putW (h : S4 M0 f w m v F W Dd V M) (n : Ne4 f w m v) : S4 M0 f w m v F X Dd V (M.put w (.lst X)) :=
  ⟨(Mem.put_ne n.fw).trans h.hf, Mem.put_same, (Mem.put_ne (Ne.symm n.wm)).trans h.hm, (Mem.put_ne (Ne.symm n.wv)).trans h.hv, fun x a b c d => (Mem.put_ne b).trans (h.o x a b c d)⟩
theorem S4.putM (h : S4 M0 f w m v F W Dd V M) (n : Ne4 f w m v) : S4 M0 f w m v F W X V (M.put m (.lst X)) :=
  ⟨(Mem.put_ne n.fm).trans h.hf, (Mem.put_ne n.wm).trans h.hw, Mem.put_same, (Mem.put_ne (Ne.symm n.mv)).trans h.hv, fun x a b c d => (Mem.put_ne c).trans (h.o x a b c d)⟩
theorem S4.putV (h : S4 M0 f w m v F W Dd V M) (n : Ne4 f w m v) : S4 M0 f w m v F W Dd X (M.put v (.lst X)) :=
  ⟨(Mem.put_ne n.fv).trans h.hf, (Mem.put_ne n.wv).trans h.hw, (Mem.put_ne n.mv).trans h.hm, Mem.put_same, fun x a b c d => (Mem.put_ne d).trans (h.o x a b c d)⟩
end
end MH
set_option maxHeartbeats 1000000
namespace MH
open PySem PySem.Spec PyProof.Rows L2 DL
mutual
theorem fl_rows : ∀ (t : Th) (b : Nat), t.fl = (rows t b).map (·.1)
  | .raw _ _ _, _ => rfl
  | .made _ _ _ _ _ _ ps, b => by rw [Th.fl, rows, List.map_cons, fls_rows ps (b + 1)]
theorem fls_rows : ∀ (ts : List Th) (b : Nat), Th.fls ts = (rowss ts b).map (·.1)
  | [], _ => rfl
  | t :: ts, b => by rw [Th.fls, rowss, List.map_append, fl_rows t b, fls_rows ts (b + t.sz)]
end
def nsAt (R : List (Th × List Nat)) (j : Nat) : List Nat := match R[j]? with
  | some e => e.2
  | none => []
theorem nsAt_cons0 (e : Th × List Nat) (R : List (Th × List Nat)) : nsAt (e :: R) 0 = e.2 := rfl
theorem nsAt_cons (e : Th × List Nat) (R : List (Th × List Nat)) (j : Nat) : nsAt (e :: R) (j + 1) = nsAt R j := rfl
theorem nsAt_left {R S : List (Th × List Nat)} {j : Nat} (h : j < R.length) : nsAt (R ++ S) j = nsAt R j := by
  unfold nsAt; rw [List.getElem?_append_left h]
theorem nsAt_right {R S : List (Th × List Nat)} {j : Nat} (h : R.length ≤ j) : nsAt (R ++ S) j = nsAt S (j - R.length) := by
  unfold nsAt; rw [List.getElem?_append_right h]
theorem nums_rng : ∀ (ts : List Th) (b c : Nat), c ∈ nums b ts → b ≤ c ∧ c < b + Th.szs ts
  | [], _, _, h => by cases h
  | t :: ts, b, c, h => by
    have hp := sz_pos t
    simp only [Th.szs]
    rw [nums, List.mem_cons] at h
    rcases h with rfl | h
    · omega
    · have := nums_rng ts _ c h
      omega
theorem nums_nd : ∀ (ts : List Th) (b : Nat), (nums b ts).Nodup
  | [], _ => List.nodup_nil
  | t :: ts, b => by
    rw [nums, List.nodup_cons]
    refine ⟨fun h => ?_, nums_nd ts _⟩
    have := nums_rng ts _ b h
    have := sz_pos t
    omega
mutual
theorem ns_rng : ∀ (t : Th) (b j c : Nat), c ∈ nsAt (rows t b) j → b < c ∧ c < b + t.sz
  | .raw _ _ _, b, 0, c, h => by cases h
  | .raw _ _ _, b, j + 1, c, h => by cases h
  | .made _ _ _ _ _ _ ps, b, 0, c, h => by
    rw [rows, nsAt_cons0] at h
    have := nums_rng ps _ c h
    simp only [Th.sz]; omega
  | .made _ _ _ _ _ _ ps, b, j + 1, c, h => by
    rw [rows, nsAt_cons] at h
    have := nss_rng ps (b + 1) j c h
    simp only [Th.sz]; omega
theorem nss_rng : ∀ (ts : List Th) (b j c : Nat), c ∈ nsAt (rowss ts b) j → b < c ∧ c < b + Th.szs ts
  | [], b, j, c, h => by cases h
  | t :: ts, b, j, c, h => by
    rw [rowss] at h
    simp only [Th.szs]
    by_cases z : j < (rows t b).length
    · rw [nsAt_left z] at h
      have := ns_rng t b j c h
      omega
    · rw [nsAt_right (by omega)] at h
      have := nss_rng ts _ _ c h
      omega
end
theorem whs_zero (t : Th) (b : Nat) (p : D) : (t.whs b p)[0]? = some p := by cases t <;> rfl
mutual
theorem par_of : ∀ (t : Th) (b : Nat) (par : D) (i : Nat), 0 < i → i < t.sz → ∃ p, (t.whs b par)[i]? = some (nI p) ∧ b ≤ p ∧ p < b + i ∧ ∀ j, j < t.sz → (b + i ∈ nsAt (rows t b) j ↔ b + j = p)
  | .raw _ _ _, b, par, i, h0, h1 => by simp only [Th.sz] at h1; omega
  | .made h lo hi sh u w ps, b, par, 0, h0, h1 => by omega
  | .made h lo hi sh u w ps, b, par, i + 1, h0, h1 => by
    simp only [Th.sz] at h1
    rcases pars_of ps (b + 1) (nI b) i (by omega) with ⟨c1, c2, c3⟩ | ⟨c1, p, c2, c3, c4, c5⟩
    · refine ⟨b, by rw [Th.whs, List.getElem?_cons_succ]; exact c2, Nat.le_refl _, by omega, fun j hj => ?_⟩
      have e : b + (i + 1) = b + 1 + i := by omega
      rw [e, rows]
      cases j with
      | zero => rw [nsAt_cons0]; exact ⟨fun _ => by omega, fun _ => c1⟩
      | succ j =>
        rw [nsAt_cons]
        simp only [Th.sz] at hj
        exact ⟨fun z => absurd z (c3 j (by omega)), fun z => by omega⟩
    · refine ⟨p, by rw [Th.whs, List.getElem?_cons_succ]; exact c2, by omega, by omega, fun j hj => ?_⟩
      have e : b + (i + 1) = b + 1 + i := by omega
      rw [e, rows]
      cases j with
      | zero => rw [nsAt_cons0]; exact ⟨fun z => absurd z c1, fun z => by omega⟩
      | succ j =>
        rw [nsAt_cons]
        simp only [Th.sz] at hj
        rw [c5 j (by omega)]; omega
theorem pars_of : ∀ (ts : List Th) (b : Nat) (par : D) (i : Nat), i < Th.szs ts →
    (b + i ∈ nums b ts ∧ (Th.whss ts b par)[i]? = some par ∧ ∀ j, j < Th.szs ts → b + i ∉ nsAt (rowss ts b) j) ∨
    (b + i ∉ nums b ts ∧ ∃ p, (Th.whss ts b par)[i]? = some (nI p) ∧ b ≤ p ∧ p < b + i ∧ ∀ j, j < Th.szs ts → (b + i ∈ nsAt (rowss ts b) j ↔ b + j = p))
  | [], b, par, i, h => by simp only [Th.szs] at h; omega
  | t :: ts, b, par, i, h => by
    simp only [Th.szs] at h ⊢
    have hp := sz_pos t
    by_cases z : i < t.sz
    · by_cases z0 : i = 0
      · subst z0
        refine .inl ⟨by rw [nums]; exact List.mem_cons_self, ?_, fun j hj => ?_⟩
        · rw [Th.whss, List.getElem?_append_left (by rw [whs_len]; omega)]; exact whs_zero t b par
        · intro hm
          have := nss_rng (t :: ts) b j _ hm
          omega
      · obtain ⟨p, c2, c3, c4, c5⟩ := par_of t b par i (by omega) z
        refine .inr ⟨fun hm => ?_, p, ?_, c3, c4, fun j hj => ?_⟩
        · rw [nums, List.mem_cons] at hm
          rcases hm with hm | hm
          · omega
          · have := nums_rng ts _ _ hm
            omega
        · rw [Th.whss, List.getElem?_append_left (by rw [whs_len]; omega)]; exact c2
        · rw [rowss]
          by_cases y : j < t.sz
          · rw [nsAt_left (by rw [rows_len]; exact y)]; exact c5 j y
          · rw [nsAt_right (by rw [rows_len]; omega)]
            refine ⟨fun hm => ?_, fun e => by omega⟩
            have := nss_rng ts _ _ _ hm
            omega
    · have e : b + i = b + t.sz + (i - t.sz) := by omega
      rcases pars_of ts (b + t.sz) par (i - t.sz) (by omega) with ⟨c1, c2, c3⟩ | ⟨c1, p, c2, c3, c4, c5⟩
      · refine .inl ⟨by rw [nums, e]; exact List.mem_cons_of_mem _ c1, ?_, fun j hj => ?_⟩
        · rw [Th.whss, List.getElem?_append_right (by rw [whs_len]; omega), whs_len]; exact c2
        · rw [rowss]
          by_cases y : j < t.sz
          · rw [nsAt_left (by rw [rows_len]; exact y)]
            intro hm
            have := ns_rng t b j _ hm
            omega
          · rw [nsAt_right (by rw [rows_len]; omega), rows_len, e]
            exact c3 (j - t.sz) (by omega)
      · refine .inr ⟨fun hm => ?_, p, ?_, by omega, by omega, fun j hj => ?_⟩
        · rw [nums, List.mem_cons] at hm
          rcases hm with hm | hm
          · omega
          · rw [e] at hm; exact c1 hm
        · rw [Th.whss, List.getElem?_append_right (by rw [whs_len]; omega), whs_len]; exact c2
        · rw [rowss]
          by_cases y : j < t.sz
          · rw [nsAt_left (by rw [rows_len]; exact y)]
            refine ⟨fun hm => ?_, fun e2 => by omega⟩
            have := ns_rng t b j _ hm
            omega
          · rw [nsAt_right (by rw [rows_len]; omega), rows_len, e, c5 (j - t.sz) (by omega)]
            omega
end
/-! ### what has been added up to a number -/
def sumG (k : Nat) (f : Nat → Int) : List Nat → Int
  | [] => 0
  | c :: L => (if k ≤ c then f c else 0) + sumG k f L
theorem sumG_all {k : Nat} {f : Nat → Int} : ∀ {L : List Nat}, (∀ c ∈ L, k ≤ c) → sumG k f L = (L.map f).sum
  | [], _ => rfl
  | c :: L, h => by
    rw [sumG, if_pos (h c List.mem_cons_self), sumG_all fun d hd => h d (List.mem_cons_of_mem _ hd), List.map_cons, List.sum_cons]
theorem sumG_none {k : Nat} {f : Nat → Int} : ∀ {L : List Nat}, (∀ c ∈ L, c < k) → sumG k f L = 0
  | [], _ => rfl
  | c :: L, h => by
    have := h c List.mem_cons_self
    rw [sumG, if_neg (by omega), sumG_none fun d hd => h d (List.mem_cons_of_mem _ hd)]; rfl
theorem sumG_not {k : Nat} {f : Nat → Int} : ∀ {L : List Nat}, k ∉ L → sumG k f L = sumG (k + 1) f L
  | [], _ => rfl
  | c :: L, h => by
    have ih := sumG_not (k := k) (f := f) (L := L) (fun z => h (List.mem_cons_of_mem _ z))
    have ne : c ≠ k := fun e => h (by rw [e]; exact List.mem_cons_self)
    rw [sumG, sumG, ih]
    by_cases z : k ≤ c
    · rw [if_pos z, if_pos (by omega)]
    · rw [if_neg z, if_neg (by omega)]
theorem sumG_in {k : Nat} {f : Nat → Int} : ∀ {L : List Nat}, L.Nodup → k ∈ L → sumG k f L = sumG (k + 1) f L + f k
  | [], _, h => by cases h
  | c :: L, hn, h => by
    rw [List.nodup_cons] at hn
    rw [sumG, sumG]
    by_cases e : c = k
    · subst e
      rw [sumG_not hn.1, if_pos (Nat.le_refl _), if_neg (by omega)]; omega
    · have hk : k ∈ L := by
        rcases List.mem_cons.mp h with z | z
        · exact absurd z.symm e
        · exact z
      rw [sumG_in hn.2 hk]
      by_cases z : k ≤ c
      · rw [if_pos z, if_pos (by omega)]; omega
      · rw [if_neg z, if_neg (by omega)]; omega
theorem set_range {α : Type} {n p : Nat} {F : Nat → α} {v : α} : ((List.range n).map F).set p v = (List.range n).map fun j => if j = p then v else F j := by
  apply List.ext_getElem?
  intro i
  rw [List.getElem?_set]
  by_cases hi : i < n
  · rw [List.getElem?_map, List.getElem?_range hi, List.getElem?_map, List.getElem?_range hi]
    by_cases e : p = i
    · subst e; simp [hi]
    · have e' : ¬ i = p := fun z => e z.symm
      simp [e, e']
  · rw [List.getElem?_eq_none (l := (List.range n).map fun j => if j = p then v else F j) (by simpa using hi)]
    split
    · rename_i e
      subst e
      rw [if_neg (by simpa using hi)]
    · rw [List.getElem?_eq_none (by simpa using hi)]
theorem map_range_congr {α : Type} {n : Nat} {F G : Nat → α} (h : ∀ j, j < n → F j = G j) : (List.range n).map F = (List.range n).map G :=
  List.map_congr_left fun j hj => h j (List.mem_range.mp hj)
end MH
set_option maxHeartbeats 1000000
namespace MH
open PySem PySem.Spec PyProof.Rows L2 DL
/-! ### a thing, its words being told -/
abbrev TT (t : Th) (j : Nat) : Th := atR (rows t 0) j
theorem fl_at (t : Th) : t.fl = (List.range t.sz).map fun j => TT t j := by
  rw [fl_rows t 0]
  apply List.ext_getElem?
  intro i
  by_cases hi : i < t.sz
  · rw [List.getElem?_map, at_row hi, List.getElem?_map, List.getElem?_range hi]; rfl
  · rw [List.getElem?_eq_none (by rw [List.length_map, rows_len]; omega), List.getElem?_eq_none (by rw [List.length_map, List.length_range]; omega)]
theorem fl_range (t : Th) : Th.ds t.fl = (List.range t.sz).map fun j => (TT t j).d := by
  rw [ds_map, fl_at, List.map_map]; rfl
theorem ns_eq {t : Th} {j : Nat} (h : j < t.sz) : nsAt (rows t 0) j = numsT (TT t j) j := by
  unfold nsAt; rw [at_row h]
theorem num_nd (x : Th) (j : Nat) : (numsT x j).Nodup := nums_nd _ _
theorem par_at {t : Th} {k : Nat} (h0 : 0 < k) (h : k < t.sz) : ∃ p, (t.whs 0 .non)[k]? = some (nI p) ∧ p < k ∧ ∀ j, j < t.sz → (k ∈ numsT (TT t j) j ↔ j = p) := by
  obtain ⟨p, h1, h2, h3, h4⟩ := par_of t 0 .non k h0 h
  refine ⟨p, h1, by omega, fun j hj => ?_⟩
  have := h4 j hj
  rw [Nat.zero_add, Nat.zero_add, ns_eq hj] at this
  exact this
def Th.up : Th → Bool
  | .raw _ _ _ => false
  | .made _ _ _ _ u _ _ => u
/-! ### sums over the parts, from a number on -/
/-! ### linear -/
/-! ### just the words that are there fit -/
theorem down {P : Nat → Prop} {n : Nat} (h : ∀ j, j < n → (∀ i, j < i → i < n → P i) → P j) : ∀ j, j < n → P j := by
  have key : ∀ m j, j < n → n ≤ j + m → P j := by
    intro m
    induction m with
    | zero => intro j h1 h2; omega
    | succ m ih => exact fun j h1 h2 => h j h1 fun i h3 h4 => ih i h4 (by omega)
  exact fun j hj => key n j hj (by omega)
end MH
set_option maxHeartbeats 1000000
namespace MH
open PySem PySem.Spec PyProof.Rows L2 DL
/-! ### a thing, its parts turned about -/
mutual
def Th.rev : Th → Th
  | .raw h lo hi => .raw h lo hi
  | .made h lo hi sh u w ps => .made h lo hi sh u w (Th.revs ps)
def Th.revs : List Th → List Th
  | [] => []
  | t :: ts => Th.revs ts ++ [t.rev]
end
mutual
/-- the numbers of the things, in the order of the turned thing -/
def Th.ord : Th → Nat → List Nat
  | .raw _ _ _, b => [b]
  | .made _ _ _ _ _ _ ps, b => b :: Th.ords ps (b + 1)
def Th.ords : List Th → Nat → List Nat
  | [], _ => []
  | t :: ts, k => Th.ords ts (k + t.sz) ++ t.ord k
end
theorem csts_app (a : Nat → Int) : ∀ (xs ys : List Th) (k : Nat), Th.csts (xs ++ ys) k a = Th.csts xs k a + Th.csts ys (k + Th.szs xs) a
  | [], ys, k => by simp [Th.csts, Th.szs]
  | x :: xs, ys, k => by
    rw [List.cons_append, Th.csts, Th.csts, csts_app a xs ys, Th.szs, show k + (x.sz + Th.szs xs) = k + x.sz + Th.szs xs from by omega]; omega
theorem cnts_app (a : Nat → Int) : ∀ (xs ys : List Th) (k : Nat), Th.cnts (xs ++ ys) k a = Th.cnts xs k a + Th.cnts ys (k + Th.szs xs) a
  | [], ys, k => by simp [Th.cnts, Th.szs]
  | x :: xs, ys, k => by
    rw [List.cons_append, Th.cnts, Th.cnts, cnts_app a xs ys, Th.szs, show k + (x.sz + Th.szs xs) = k + x.sz + Th.szs xs from by omega]; omega
theorem oksR_app : ∀ xs ys : List Th, Th.oks (xs ++ ys) ↔ Th.oks xs ∧ Th.oks ys
  | [], ys => by simp [Th.oks]
  | x :: xs, ys => by rw [List.cons_append, Th.oks, Th.oks, oksR_app xs ys, and_assoc]
theorem fls_app : ∀ xs ys : List Th, Th.fls (xs ++ ys) = Th.fls xs ++ Th.fls ys
  | [], ys => by simp [Th.fls]
  | x :: xs, ys => by rw [List.cons_append, Th.fls, Th.fls, fls_app xs ys, List.append_assoc]
mutual
theorem rev_sz : ∀ t : Th, t.rev.sz = t.sz
  | .raw _ _ _ => rfl
  | .made _ _ _ _ _ _ ps => by rw [Th.rev, Th.sz, Th.sz, revs_sz ps]
theorem revs_sz : ∀ ts : List Th, Th.szs (Th.revs ts) = Th.szs ts
  | [] => rfl
  | t :: ts => by rw [Th.revs, szs_app, revs_sz ts, Th.szs, Th.szs, Th.szs, rev_sz t]; omega
end
theorem revs_len : ∀ ts : List Th, (Th.revs ts).length = ts.length
  | [] => rfl
  | t :: ts => by rw [Th.revs, List.length_append, revs_len ts]; rfl
mutual
theorem rev_ok : ∀ t : Th, t.ok → t.rev.ok
  | .raw _ _ _, h => h
  | .made _ _ _ _ _ _ ps, h => ⟨h.1, h.2.1, by rw [revs_len]; exact h.2.2.1, revs_ok ps h.2.2.2⟩
theorem revs_ok : ∀ ts : List Th, Th.oks ts → Th.oks (Th.revs ts)
  | [], _ => trivial
  | t :: ts, h => by rw [Th.revs, oksR_app]; exact ⟨revs_ok ts h.2, rev_ok t h.1, trivial⟩
end
mutual
theorem ord_len : ∀ (t : Th) (b : Nat), (t.ord b).length = t.sz
  | .raw _ _ _, _ => rfl
  | .made _ _ _ _ _ _ ps, b => by rw [Th.ord, List.length_cons, ords_len ps, Th.sz]; omega
theorem ords_len : ∀ (ts : List Th) (k : Nat), (Th.ords ts k).length = Th.szs ts
  | [], _ => rfl
  | t :: ts, k => by rw [Th.ords, List.length_append, ords_len ts, ord_len t, Th.szs]; omega
end
mutual
theorem ord_perm : ∀ (t : Th) (b : Nat), (t.ord b).Perm (List.range' b t.sz)
  | .raw _ _ _, b => by rw [Th.ord, Th.sz]; exact List.Perm.refl _
  | .made _ _ _ _ _ _ ps, b => by
    rw [Th.ord, Th.sz, show 1 + Th.szs ps = Th.szs ps + 1 from by omega, List.range'_succ]
    exact (ords_perm ps (b + 1)).cons b
theorem ords_perm : ∀ (ts : List Th) (k : Nat), (Th.ords ts k).Perm (List.range' k (Th.szs ts))
  | [], k => by rw [Th.ords, Th.szs]; exact List.Perm.refl _
  | t :: ts, k => by
    rw [Th.ords, Th.szs, ← List.range'_append_1]
    exact List.perm_append_comm.trans ((ord_perm t k).append (ords_perm ts (k + t.sz)))
end
theorem map_split {α : Type} {f : Nat → α} {k m n : Nat} {xs ys : List α} (h : (List.range' k (m + n)).map f = xs ++ ys) (hx : xs.length = m) : (List.range' k m).map f = xs ∧ (List.range' (k + m) n).map f = ys := by
  rw [← List.range'_append_1, List.map_append] at h
  exact List.append_inj h (by rw [List.length_map, List.length_range', hx])
section
variable {a a' : Nat → Int}
mutual
theorem rev_sum : ∀ (t : Th) (b b' : Nat), (List.range' b' t.sz).map a' = (t.ord b).map a → t.rev.cst b' a' = t.cst b a ∧ t.rev.cnt b' a' = t.cnt b a ∧ t.rev.own b' a' = t.own b a
  | .raw h lo hi, b, b', e => by
    have e' : [a' b'] = [a b] := e
    injection e' with e' _
    simp only [Th.rev, Th.cst, Th.cnt, Th.own, e', and_self]
  | .made h lo hi sh u w ps, b, b', e => by
    rw [Th.ord, Th.sz, show 1 + Th.szs ps = Th.szs ps + 1 from by omega, List.range'_succ, List.map_cons, List.map_cons] at e
    injection e with e1 e2
    obtain ⟨h1, h2⟩ := revs_sum ps (b + 1) (b' + 1) e2
    simp only [Th.rev, Th.cst, Th.cnt, Th.own, e1, h1, h2, and_self]
theorem revs_sum : ∀ (ts : List Th) (k k' : Nat), (List.range' k' (Th.szs ts)).map a' = (Th.ords ts k).map a → Th.csts (Th.revs ts) k' a' = Th.csts ts k a ∧ Th.cnts (Th.revs ts) k' a' = Th.cnts ts k a
  | [], k, k', _ => ⟨rfl, rfl⟩
  | t :: ts, k, k', e => by
    rw [Th.ords, Th.szs, Nat.add_comm t.sz, List.map_append] at e
    obtain ⟨e1, e2⟩ := map_split e (by rw [List.length_map, ords_len])
    obtain ⟨h1, h2⟩ := revs_sum ts (k + t.sz) k' e1
    obtain ⟨h3, h4, _⟩ := rev_sum t k (k' + Th.szs ts) e2
    rw [Th.revs, csts_app, cnts_app, revs_sz, h1, h2]
    simp only [Th.csts, Th.cnts, h3, h4]
    exact ⟨by omega, by omega⟩
end
end
section
variable {α : Type} {L : Nat → Th}
mutual
theorem rev_fl : ∀ (t : Th) (b : Nat), (List.range' b t.sz).map L = t.fl → (t.ord b).map (fun j => (L j).rev) = t.rev.fl
  | .raw h lo hi, b, e => by
    have e' : [L b] = [Th.raw h lo hi] := e
    injection e' with e' _
    simp only [Th.ord, List.map_cons, List.map_nil, e', Th.rev, Th.fl]
  | .made h lo hi sh u w ps, b, e => by
    rw [Th.fl, Th.sz, show 1 + Th.szs ps = Th.szs ps + 1 from by omega, List.range'_succ, List.map_cons] at e
    injection e with e1 e2
    rw [Th.ord, List.map_cons, revs_fl ps (b + 1) e2, e1, Th.rev, Th.fl]
theorem revs_fl : ∀ (ts : List Th) (k : Nat), (List.range' k (Th.szs ts)).map L = Th.fls ts → (Th.ords ts k).map (fun j => (L j).rev) = Th.fls (Th.revs ts)
  | [], k, _ => rfl
  | t :: ts, k, e => by
    rw [Th.fls, Th.szs] at e
    obtain ⟨e1, e2⟩ := map_split e (fl_len t)
    rw [Th.ords, List.map_append, revs_fl ts (k + t.sz) e2, rev_fl t k e1, Th.revs, fls_app]
    simp only [Th.fls, List.append_nil]
end
end
theorem rev_flat (t : Th) : t.rev.fl = (t.ord 0).map fun j => (TT t j).rev := by
  refine (rev_fl (L := fun j => TT t j) t 0 ?_).symm
  rw [← List.range_eq_range', ← fl_at]
/-! ### the same thing, each rule (50, own, own) -/
mutual
def Th.o50 : Th → Th
  | .raw h lo hi => .raw h lo hi
  | .made h lo hi _ _ _ ps => .made h lo hi 50 false true (Th.o50s ps)
def Th.o50s : List Th → List Th
  | [] => []
  | t :: ts => t.o50 :: Th.o50s ts
end
mutual
theorem o50_sz : ∀ t : Th, t.o50.sz = t.sz
  | .raw _ _ _ => rfl
  | .made _ _ _ _ _ _ ps => by rw [Th.o50, Th.sz, Th.sz, o50s_sz ps]
theorem o50s_sz : ∀ ts : List Th, Th.szs (Th.o50s ts) = Th.szs ts
  | [] => rfl
  | t :: ts => by rw [Th.o50s, Th.szs, Th.szs, o50_sz t, o50s_sz ts]
end
theorem o50s_len : ∀ ts : List Th, (Th.o50s ts).length = ts.length
  | [] => rfl
  | t :: ts => by rw [Th.o50s, List.length_cons, o50s_len ts]; rfl
mutual
theorem o50_ok : ∀ t : Th, t.ok → t.o50.ok
  | .raw _ _ _, h => h
  | .made _ _ _ _ _ _ ps, h => ⟨h.1, ⟨by decide, by decide⟩, by rw [o50s_len]; exact h.2.2.1, o50s_ok ps h.2.2.2⟩
theorem o50s_ok : ∀ ts : List Th, Th.oks ts → Th.oks (Th.o50s ts)
  | [], _ => trivial
  | t :: ts, h => ⟨o50_ok t h.1, o50s_ok ts h.2⟩
end
/-- the sum of what is here -/
def hereS (a : Nat → Int) : List Th → Nat → Int
  | [], _ => 0
  | x :: xs, b => own1 x.here (a b) + hereS a xs (b + 1)
theorem hereS_app (a : Nat → Int) : ∀ (xs ys : List Th) (b : Nat), hereS a (xs ++ ys) b = hereS a xs b + hereS a ys (b + xs.length)
  | [], ys, b => by simp [hereS]
  | x :: xs, ys, b => by
    rw [List.cons_append, hereS, hereS, hereS_app a xs ys, List.length_cons, show b + (xs.length + 1) = b + 1 + xs.length from by omega]; omega
section
variable {a : Nat → Int}
mutual
theorem o50_sum : ∀ (t : Th) (b : Nat), t.o50.cnt b a = hereS a t.fl b ∧ t.o50.own b a = hereS a t.fl b
  | .raw h lo hi, b => by simp only [Th.o50, Th.cnt, Th.own, Th.fl, hereS, Th.here]; exact ⟨by omega, by omega⟩
  | .made h lo hi sh u w ps, b => by
    have h1 := o50s_sum ps (b + 1)
    simp only [Th.o50, Th.cnt, Th.own, Th.fl, hereS, Th.here, h1]
    unfold cnt1
    split <;> simp
theorem o50s_sum : ∀ (ts : List Th) (k : Nat), Th.cnts (Th.o50s ts) k a = hereS a (Th.fls ts) k
  | [], _ => rfl
  | t :: ts, k => by
    rw [Th.o50s, Th.cnts, (o50_sum t k).1, o50s_sum ts, Th.fls, hereS_app, fl_len, o50_sz]
end
end
mutual
theorem o50_fl : ∀ t : Th, t.o50.fl = t.fl.map Th.o50
  | .raw _ _ _ => rfl
  | .made _ _ _ _ _ _ ps => by rw [Th.o50, Th.fl, Th.fl, List.map_cons, o50s_fl ps, Th.o50]
theorem o50s_fl : ∀ ts : List Th, Th.fls (Th.o50s ts) = (Th.fls ts).map Th.o50
  | [] => rfl
  | t :: ts => by rw [Th.o50s, Th.fls, Th.fls, List.map_append, o50_fl t, o50s_fl ts]
end
/-! ### fixed prices; prices times many -/
mutual
def Th.fix : Th → Nat → (Nat → Int) → Th
  | .raw h _ _, b, p => .raw h (p b) (p b)
  | .made h _ _ sh u w ps, b, p => .made h (p b) (p b) sh u w (Th.fixs ps (b + 1) p)
def Th.fixs : List Th → Nat → (Nat → Int) → List Th
  | [], _, _ => []
  | t :: ts, k, p => t.fix k p :: Th.fixs ts (k + t.sz) p
end
mutual
def Th.times (m : Int) : Th → Th
  | .raw h lo hi => .raw h (m * lo) (m * hi)
  | .made h lo hi sh u w ps => .made h (m * lo) (m * hi) sh u w (Th.timess m ps)
def Th.timess (m : Int) : List Th → List Th
  | [] => []
  | t :: ts => t.times m :: Th.timess m ts
end
mutual
theorem fix_sz (p : Nat → Int) : ∀ (t : Th) (b : Nat), (t.fix b p).sz = t.sz
  | .raw _ _ _, _ => rfl
  | .made _ _ _ _ _ _ ps, b => by rw [Th.fix, Th.sz, Th.sz, fixs_sz p ps]
theorem fixs_sz (p : Nat → Int) : ∀ (ts : List Th) (k : Nat), Th.szs (Th.fixs ts k p) = Th.szs ts
  | [], _ => rfl
  | t :: ts, k => by rw [Th.fixs, Th.szs, Th.szs, fix_sz p t, fixs_sz p ts]
end
mutual
theorem times_sz (m : Int) : ∀ (t : Th), (t.times m).sz = t.sz
  | .raw _ _ _ => rfl
  | .made _ _ _ _ _ _ ps => by rw [Th.times, Th.sz, Th.sz, timess_sz m ps]
theorem timess_sz (m : Int) : ∀ (ts : List Th), Th.szs (Th.timess m ts) = Th.szs ts
  | [] => rfl
  | t :: ts => by rw [Th.timess, Th.szs, Th.szs, times_sz m t, timess_sz m ts]
end
end MH
set_option maxHeartbeats 1000000
namespace MH
open PySem PySem.Spec PyProof.Rows L2 DL
theorem stsR_app : ∀ xs ys : List Th, Th.sts (xs ++ ys) = Th.sts xs + Th.sts ys
  | [], ys => by simp [Th.sts]
  | x :: xs, ys => by rw [List.cons_append, Th.sts, Th.sts, stsR_app xs ys]; omega
theorem mvsR_app : ∀ xs ys : List Th, Th.mvs (xs ++ ys) = Th.mvs xs + Th.mvs ys
  | [], ys => by simp [Th.mvs]
  | x :: xs, ys => by rw [List.cons_append, Th.mvs, Th.mvs, mvsR_app xs ys]; omega
theorem anysR_app : ∀ xs ys : List Th, Th.anys (xs ++ ys) = (Th.anys xs || Th.anys ys)
  | [], ys => by simp [Th.anys]
  | x :: xs, ys => by rw [List.cons_append, Th.anys, Th.anys, anysR_app xs ys, Bool.or_assoc]
mutual
theorem rev_st : ∀ t : Th, t.rev.st = t.st ∧ t.rev.mv = t.mv ∧ t.rev.any = t.any
  | .raw _ _ _ => ⟨rfl, rfl, rfl⟩
  | .made _ _ _ _ _ _ ps => by
    obtain ⟨h1, h2, h3⟩ := revs_st ps
    refine ⟨?_, ?_, ?_⟩
    · rw [Th.rev, Th.st, Th.st, h1]
    · rw [Th.rev, Th.mv, Th.mv, h2]
    · rw [Th.rev, Th.any, Th.any, h3]
theorem revs_st : ∀ ts : List Th, Th.sts (Th.revs ts) = Th.sts ts ∧ Th.mvs (Th.revs ts) = Th.mvs ts ∧ Th.anys (Th.revs ts) = Th.anys ts
  | [] => ⟨rfl, rfl, rfl⟩
  | t :: ts => by
    obtain ⟨h1, h2, h3⟩ := revs_st ts
    obtain ⟨k1, k2, k3⟩ := rev_st t
    refine ⟨?_, ?_, ?_⟩
    · rw [Th.revs, stsR_app, h1, Th.sts, Th.sts, Th.sts, k1]; omega
    · rw [Th.revs, mvsR_app, h2, Th.mvs, Th.mvs, Th.mvs, k2]; omega
    · rw [Th.revs, anysR_app, h3, Th.anys, Th.anys, Th.anys, k3, Bool.or_false, Bool.or_comm]
end
theorem rev_good {t : Th} (h : t.good) : t.rev.good := by
  obtain ⟨h1, h2, h3, h4, h5, h6⟩ := h
  obtain ⟨k1, k2, k3⟩ := rev_st t
  refine ⟨?_, rev_ok t h2, by rw [rev_sz]; exact h3, by rw [k1]; exact h4, by rw [k2]; exact h5, by rw [k3]; exact h6⟩
  cases t with
  | raw _ _ _ => exact h1
  | made _ _ _ _ _ _ _ => rfl
mutual
theorem o50_st : ∀ t : Th, t.o50.st = t.st ∧ t.o50.mv = t.mv ∧ t.o50.any = t.any
  | .raw _ _ _ => ⟨rfl, rfl, rfl⟩
  | .made _ _ _ _ _ _ ps => by
    obtain ⟨h1, h2, h3⟩ := o50s_st ps
    refine ⟨?_, ?_, ?_⟩
    · rw [Th.o50, Th.st, Th.st, h1]
    · rw [Th.o50, Th.mv, Th.mv, h2]
    · rw [Th.o50, Th.any, Th.any, h3]
theorem o50s_st : ∀ ts : List Th, Th.sts (Th.o50s ts) = Th.sts ts ∧ Th.mvs (Th.o50s ts) = Th.mvs ts ∧ Th.anys (Th.o50s ts) = Th.anys ts
  | [] => ⟨rfl, rfl, rfl⟩
  | t :: ts => by
    obtain ⟨h1, h2, h3⟩ := o50s_st ts
    obtain ⟨k1, k2, k3⟩ := o50_st t
    refine ⟨?_, ?_, ?_⟩
    · rw [Th.o50s, Th.sts, Th.sts, h1, k1]
    · rw [Th.o50s, Th.mvs, Th.mvs, h2, k2]
    · rw [Th.o50s, Th.anys, Th.anys, h3, k3]
end
theorem o50_good {t : Th} (h : t.good) : t.o50.good := by
  obtain ⟨h1, h2, h3, h4, h5, h6⟩ := h
  obtain ⟨k1, k2, k3⟩ := o50_st t
  refine ⟨?_, o50_ok t h2, by rw [o50_sz]; exact h3, by rw [k1]; exact h4, by rw [k2]; exact h5, by rw [k3]; exact h6⟩
  cases t with
  | raw _ _ _ => exact h1
  | made _ _ _ _ _ _ _ => rfl
/-! fixed prices -/
section
variable {p : Nat → Int}
mutual
theorem fix_ok (hp : ∀ k, 0 < p k ∧ p k ≤ 1000000) : ∀ (t : Th) (b : Nat), t.ok → (t.fix b p).ok ∧ (t.fix b p).st = t.st ∧ (t.fix b p).mv = 0 ∧ (t.fix b p).any = true
  | .raw h lo hi, b, _ => by
    have := hp b
    refine ⟨⟨by omega, Int.le_refl _, this.2⟩, rfl, ?_, ?_⟩
    · simp only [Th.fix, Th.mv, mv1, if_neg (Int.lt_irrefl _)]
    · simp only [Th.fix, Th.any, decide_eq_true this.1]
  | .made h lo hi sh u w ps, b, ho => by
    have := hp b
    obtain ⟨h1, h2, h3⟩ := fixs_ok hp ps (b + 1) ho.2.2.2
    refine ⟨⟨⟨by omega, Int.le_refl _, this.2⟩, ho.2.1, ?_, h1⟩, ?_, ?_, ?_⟩
    · rw [fixs_len]; exact ho.2.2.1
    · simp only [Th.fix, Th.st, h2]
    · simp only [Th.fix, Th.mv, mv1, if_neg (Int.lt_irrefl _), h3]
    · simp only [Th.fix, Th.any, decide_eq_true this.1, Bool.true_or]
theorem fixs_ok (hp : ∀ k, 0 < p k ∧ p k ≤ 1000000) : ∀ (ts : List Th) (k : Nat), Th.oks ts → Th.oks (Th.fixs ts k p) ∧ Th.sts (Th.fixs ts k p) = Th.sts ts ∧ Th.mvs (Th.fixs ts k p) = 0
  | [], _, _ => ⟨trivial, rfl, rfl⟩
  | t :: ts, k, ho => by
    obtain ⟨h1, h2, h3, _⟩ := fix_ok hp t k ho.1
    obtain ⟨k1, k2, k3⟩ := fixs_ok hp ts (k + t.sz) ho.2
    exact ⟨⟨h1, k1⟩, by simp only [Th.fixs, Th.sts, h2, k2], by simp only [Th.fixs, Th.mvs, h3, k3]⟩
theorem fixs_len : ∀ (ts : List Th) (k : Nat), (Th.fixs ts k p).length = ts.length
  | [], _ => rfl
  | t :: ts, k => by rw [Th.fixs, List.length_cons, fixs_len ts, List.length_cons]
end
theorem fix_good {t : Th} (h : t.good) (hp : ∀ k, 0 < p k ∧ p k ≤ 1000000) (b : Nat) : (t.fix b p).good := by
  obtain ⟨h1, h2, h3, h4, h5, h6⟩ := h
  obtain ⟨k0, k1, k2, k3⟩ := fix_ok hp t b h2
  refine ⟨?_, k0, by rw [fix_sz]; exact h3, by rw [k1]; exact h4, by rw [k2]; exact Nat.zero_le _, k3⟩
  cases t with
  | raw _ _ _ => exact h1
  | made _ _ _ _ _ _ _ => rfl
mutual
theorem fix_times (m : Int) : ∀ (t : Th) (b : Nat), (t.fix b p).times m = t.fix b fun k => m * p k
  | .raw _ _ _, _ => rfl
  | .made _ _ _ _ _ _ ps, b => by rw [Th.fix, Th.times, Th.fix, fixs_times m ps]
theorem fixs_times (m : Int) : ∀ (ts : List Th) (k : Nat), Th.timess m (Th.fixs ts k p) = Th.fixs ts k fun k => m * p k
  | [], _ => rfl
  | t :: ts, k => by rw [Th.fixs, Th.timess, Th.fixs, fix_times m t, fixs_times m ts]
end
def loT : Th → Int
  | .raw _ l _ => l
  | .made _ l _ _ _ _ _ => l
def hiT : Th → Int
  | .raw _ _ l => l
  | .made _ _ l _ _ _ _ => l
/-- each thing's bounds are its price -/
def Fx (p : Nat → Int) : List Th → Nat → Prop
  | [], _ => True
  | x :: xs, b => loT x = p b ∧ hiT x = p b ∧ Fx p xs (b + 1)
theorem fx_app (p : Nat → Int) : ∀ (xs ys : List Th) (b : Nat), Fx p xs b → Fx p ys (b + xs.length) → Fx p (xs ++ ys) b
  | [], ys, b, _, h => h
  | x :: xs, ys, b, h, k => ⟨h.1, h.2.1, fx_app p xs ys (b + 1) h.2.2 (by rw [List.length_cons] at k; rw [show b + 1 + xs.length = b + (xs.length + 1) from by omega]; exact k)⟩
mutual
theorem fix_fx : ∀ (t : Th) (b : Nat), Fx p (t.fix b p).fl b
  | .raw _ _ _, b => ⟨rfl, rfl, trivial⟩
  | .made _ _ _ _ _ _ ps, b => ⟨rfl, rfl, fixs_fx ps (b + 1)⟩
theorem fixs_fx : ∀ (ts : List Th) (k : Nat), Fx p (Th.fls (Th.fixs ts k p)) k
  | [], _ => trivial
  | t :: ts, k => by
    rw [Th.fixs, Th.fls]
    exact fx_app p _ _ k (fix_fx t k) (by rw [fl_len, fix_sz]; exact fixs_fx ts (k + t.sz))
end
end
/-! prices times many: the same words, the same portions -/
section
variable {m : Int} {a : Nat → Int}
theorem own1_mul (h : Bool) (x : Int) : own1 h (m * x) = m * own1 h x := by cases h <;> simp [own1]
theorem le_mul (hm : 0 < m) (sh c o : Int) : (sh * (m * c) ≤ 100 * (m * o)) ↔ sh * c ≤ 100 * o := by
  rw [show sh * (m * c) = m * (sh * c) from by rw [Int.mul_left_comm], show 100 * (m * o) = m * (100 * o) from by rw [Int.mul_left_comm]]
  exact ⟨fun h => Int.le_of_mul_le_mul_left h hm, fun h => Int.mul_le_mul_of_nonneg_left h (Int.le_of_lt hm)⟩
theorem cnt1_mul (hm : 0 < m) (sh : Int) (u w : Bool) (o c : Int) : cnt1 sh u w (m * o) (m * c) = m * cnt1 sh u w o c := by
  unfold cnt1
  by_cases z : sh * c ≤ 100 * o
  · rw [if_pos z, if_pos ((le_mul hm sh c o).mpr z)]; cases u <;> rfl
  · rw [if_neg z, if_neg (fun y => z ((le_mul hm sh c o).mp y))]; cases w <;> simp
mutual
theorem times_sum (hm : 0 < m) : ∀ (t : Th) (b : Nat) (n : Int), (t.times n).cst b (fun k => m * a k) = m * t.cst b a ∧ (t.times n).cnt b (fun k => m * a k) = m * t.cnt b a ∧ (t.times n).own b (fun k => m * a k) = m * t.own b a
  | .raw h lo hi, b, n => ⟨rfl, own1_mul _ _, own1_mul _ _⟩
  | .made h lo hi sh u w ps, b, n => by
    obtain ⟨h1, h2⟩ := timess_sum hm ps (b + 1) n
    simp only [Th.times, Th.cst, Th.cnt, Th.own, h1, h2, own1_mul, ← Int.mul_add]
    exact ⟨trivial, cnt1_mul hm _ _ _ _ _, trivial⟩
theorem timess_sum (hm : 0 < m) : ∀ (ts : List Th) (k : Nat) (n : Int), Th.csts (Th.timess n ts) k (fun k => m * a k) = m * Th.csts ts k a ∧ Th.cnts (Th.timess n ts) k (fun k => m * a k) = m * Th.cnts ts k a
  | [], _, _ => by simp [Th.timess, Th.csts, Th.cnts]
  | t :: ts, k, n => by
    obtain ⟨h1, h2, _⟩ := times_sum hm t k n
    obtain ⟨h3, h4⟩ := timess_sum hm ts (k + t.sz) n
    simp only [Th.timess, Th.csts, Th.cnts, times_sz, h1, h2, h3, h4, ← Int.mul_add, and_self]
end
theorem times_word (hm : 0 < m) (t : Th) (b : Nat) (n : Int) : (t.times n).word b (fun k => m * a k) = t.word b a := by
  cases t with
  | raw _ _ _ => rfl
  | made h lo hi sh u w ps =>
    obtain ⟨h1, _, h3⟩ := times_sum (a := a) hm (.made h lo hi sh u w ps) b n
    show some (decide (sh * ((Th.made h lo hi sh u w ps).times n).cst b (fun k => m * a k) ≤ 100 * ((Th.made h lo hi sh u w ps).times n).own b (fun k => m * a k))) = _
    rw [h1, h3]
    exact congrArg some (decide_eq_decide.mpr (le_mul hm _ _ _))
end
mutual
theorem times_fl (m : Int) : ∀ t : Th, (t.times m).fl = t.fl.map (Th.times m)
  | .raw _ _ _ => rfl
  | .made _ _ _ _ _ _ ps => by rw [Th.times, Th.fl, Th.fl, List.map_cons, timess_fl m ps, Th.times]
theorem timess_fl (m : Int) : ∀ ts : List Th, Th.fls (Th.timess m ts) = (Th.fls ts).map (Th.times m)
  | [] => rfl
  | t :: ts => by rw [Th.timess, Th.fls, Th.fls, List.map_append, times_fl m t, timess_fl m ts]
end
theorem times_TT (m : Int) (t : Th) {j : Nat} (h : j < t.sz) : TT (t.times m) j = (TT t j).times m := by
  have e := times_fl m t
  rw [fl_at, fl_at, times_sz, List.map_map] at e
  have := congrArg (fun l => l[j]?) e
  simpa [h] using this
end MH
set_option maxHeartbeats 1000000
namespace DL
open PySem PySem.Spec PyProof.Rows L2
/-! ### a comprehension over what is told by a function -/
section
variable {g : TGD} {tt : TTD} {te : TED} {s0 : SD} {W : Mem → Prop} {p : Addr} {Q : QD} {M0 M : Mem} {acc : List D}
theorem w_lcNil (hW : W M) (hM : M p = some (.lst acc)) (h : Q (.lst acc) (M.del p)) : dLcL g tt te s0 W p Q [] M := ⟨hW, by unfold endK; rw [hM]; exact h⟩
theorem w_lcCons {d : D} {ds : List D} (hW : W M) (h : g d X0 s0 M fun s' M' => te X0 s' M' fun r => accK p r (dLcL g tYesD te s0 W p Q ds)) : dLcL g tYesD te s0 W p Q (d :: ds) M := by
  refine ⟨hW, (?_ : g d X0 s0 M fun s' M' => if true = true then te X0 s' M' (fun r => accK p r (dLcL g tYesD te s0 W p Q ds)) else dLcL g tYesD te s0 W p Q ds M')⟩
  simp only [if_true]; exact h
theorem w_accK {r : D} {k : Mem → Prop} (hM : M p = some (.lst acc)) (hl : acc.length < sizeLine) (h : k (M.put p (.lst (acc ++ [r])))) : accK p r k M := by
  unfold accK; rw [hM]; exact ⟨hl, h⟩
theorem lc_genF {α : Type} {F h : α → D} {P : α → Bool} (hp : M0 p = none) (hW : ∀ acc, W (M0.put p (.lst acc))) : ∀ (xs : List α) (acc : List D), acc.length + xs.length ≤ sizeLine →
    (∀ x ∈ xs, ∀ (acc : List D) (K1 : QD) (K0 : Mem → Prop), (P x = true → K1 (h x) (M0.put p (.lst acc))) → (P x = false → K0 (M0.put p (.lst acc))) → g (F x) X0 s0 (M0.put p (.lst acc)) fun s' M' => tt X0 s' M' fun b M2 => if b = true then te X0 s' M2 K1 else K0 M2) →
    Q (.lst (acc ++ (xs.filter P).map h)) M0 → dLcL g tt te s0 W p Q (xs.map F) (M0.put p (.lst acc))
  | [], acc, _, _, q => w_lcNil (hW acc) Mem.put_same (by rw [put_del hp]; simpa using q)
  | x :: xs, acc, hl, st, q => by
    rw [List.length_cons] at hl
    refine ⟨hW acc, st x List.mem_cons_self acc _ _ (fun hx => ?_) (fun hx => ?_)⟩
    · refine w_accK Mem.put_same (by omega) ?_
      rw [Mem.put_put]
      refine lc_genF hp hW xs _ (by rw [List.length_append, List.length_singleton]; omega) (fun y hy => st y (List.mem_cons_of_mem _ hy)) ?_
      rw [List.filter_cons_of_pos hx, List.map_cons] at q
      rw [List.append_assoc]; exact q
    · refine lc_genF hp hW xs _ (by omega) (fun y hy => st y (List.mem_cons_of_mem _ hy)) ?_
      rw [List.filter_cons_of_neg (by rw [hx]; exact Bool.false_ne_true)] at q
      exact q
theorem lc_gen {α : Type} {F h : α → D} (hp : M0 p = none) (hW : ∀ acc, W (M0.put p (.lst acc))) (xs : List α) (hl : xs.length ≤ sizeLine)
    (st : ∀ x ∈ xs, ∀ (acc : List D) (K1 : QD), K1 (h x) (M0.put p (.lst acc)) → g (F x) X0 s0 (M0.put p (.lst acc)) fun s' M' => te X0 s' M' K1)
    (q : Q (.lst (xs.map h)) M0) : dLcL g tYesD te s0 W p Q (xs.map F) (M0.put p (.lst [])) := by
  refine lc_genF (P := fun _ => true) (h := h) hp hW xs [] (by simpa using hl) (fun x hx acc K1 K0 h1 _ => ?_) ?_
  · refine (?_ : g (F x) X0 s0 (M0.put p (.lst acc)) fun s' M' => if true = true then te X0 s' M' K1 else K0 M')
    simp only [if_true]
    exact st x hx acc K1 (h1 rfl)
  · rw [List.nil_append, List.filter_eq_self.mpr fun _ _ => rfl]; exact q
end
end DL
set_option maxHeartbeats 4000000
namespace G_madeofhere_k05_goods_beside_one_another
open PySem PySem.Spec PyProof.Rows L2 DL MH
local macro_rules | `(tactic| fail) => `(tactic| first | with_reducible refine w_seq ?_ | with_reducible refine w_nx ?_ | with_reducible refine w_ret ?_ | with_reducible refine w_retN ?_ | with_reducible refine w_expr ?_ | with_reducible refine w_ifS ?_ | with_reducible refine w_asg ?_ | with_reducible refine w_augS ?_ | with_reducible refine w_for ?_ | with_reducible refine w_bk ?_ | with_reducible refine w_ct ?_ | with_reducible refine w_set0 ?_ | with_reducible refine w_set1 ?_ | with_reducible refine w_set2 ?_ | with_reducible refine w_set3 ?_ | with_reducible refine w_set4 ?_ | with_reducible refine w_set5 ?_ | with_reducible refine w_set6 ?_ | with_reducible refine w_set7 ?_ | with_reducible refine w_set8 ?_ | with_reducible refine w_set9 ?_ | with_reducible refine w_set10 ?_ | with_reducible refine w_set11 ?_ | with_reducible refine w_set12 ?_ | with_reducible refine w_set13 ?_ | with_reducible refine w_set14 ?_ | with_reducible refine w_set15 ?_ | with_reducible refine w_set16 ?_ | with_reducible refine w_set17 ?_ | with_reducible refine w_set18 ?_ | with_reducible refine w_set19 ?_ | with_reducible refine w_var0 ?_ | with_reducible refine w_var1 ?_ | with_reducible refine w_var2 ?_ | with_reducible refine w_var3 ?_ | with_reducible refine w_var4 ?_ | with_reducible refine w_var5 ?_ | with_reducible refine w_var6 ?_ | with_reducible refine w_var7 ?_ | with_reducible refine w_var8 ?_ | with_reducible refine w_var9 ?_ | with_reducible refine w_var10 ?_ | with_reducible refine w_var11 ?_ | with_reducible refine w_var12 ?_ | with_reducible refine w_var13 ?_ | with_reducible refine w_var14 ?_ | with_reducible refine w_var15 ?_ | with_reducible refine w_var16 ?_ | with_reducible refine w_var17 ?_ | with_reducible refine w_var18 ?_ | with_reducible refine w_var19 ?_ | with_reducible refine w_gnm0 ?_ | with_reducible refine w_gnm1 ?_ | with_reducible refine w_gnm2 ?_ | with_reducible refine w_gnm3 ?_ | with_reducible refine w_gnm4 ?_ | with_reducible refine w_gnm5 ?_ | with_reducible refine w_gnm6 ?_ | with_reducible refine w_gnm7 ?_ | with_reducible refine w_gnm8 ?_ | with_reducible refine w_gnm9 ?_ | with_reducible refine w_gnm10 ?_ | with_reducible refine w_gnm11 ?_ | with_reducible refine w_gnm12 ?_ | with_reducible refine w_gnm13 ?_ | with_reducible refine w_gnm14 ?_ | with_reducible refine w_gnm15 ?_ | with_reducible refine w_gnm16 ?_ | with_reducible refine w_gnm17 ?_ | with_reducible refine w_gnm18 ?_ | with_reducible refine w_gnm19 ?_ | with_reducible refine w_mk ?_ | with_reducible refine w_mkK ?_ | with_reducible refine w_mk0 ?_ | with_reducible refine w_fd ?_ | with_reducible refine w_raise ?_ | with_reducible refine w_raiseX ?_ | with_reducible refine w_try ?_ | with_reducible refine w_callX ?_ | with_reducible refine w_fzN ?_ | with_reducible refine w_gTp rfl ?_ | with_reducible refine w_gCo ?_ | with_reducible refine w_gNi ?_ | with_reducible refine w_gSb ?_ | with_reducible refine w_c ?_ | with_reducible refine w_op ?_ | with_reducible refine w_nil ?_ | with_reducible refine w_cons ?_ | with_reducible refine w_tup ?_ | with_reducible refine w_lst ?_ | with_reducible refine w_cb ?_ | with_reducible refine w_call ?_ | with_reducible refine w_ite ?_ | with_reducible refine w_and ?_ | with_reducible refine w_or ?_ | with_reducible refine w_not ?_ | with_reducible refine w_andT ?_ | with_reducible refine w_andF ?_ | with_reducible refine w_orT ?_ | with_reducible refine w_orF ?_ | with_reducible refine w_neg ?_ | with_reducible refine w_un ?_ | with_reducible refine w_tst ?_ | with_reducible refine w_tstB ?_ | with_reducible refine w_tru ?_ | with_reducible refine w_truB ?_ | with_reducible refine w_tAnd ?_ | with_reducible refine w_tOr ?_ | with_reducible refine w_tNot ?_ | with_reducible refine w_chain ?_ | with_reducible refine w_chT ?_ | with_reducible refine w_chF ?_ | with_reducible refine w_ifT ?_ | with_reducible refine w_ifF ?_ | with_reducible refine w_ifnT ?_ | with_reducible refine w_ifnF ?_ | with_reducible refine w_rvs ?_ | with_reducible refine w_yes ?_ | with_reducible refine w_iZip ?_ | with_reducible refine w_sg2 ?_ | with_reducible refine w_zipLL ?_ | with_reducible refine w_zipTT ?_ | with_reducible refine w_augY ?_ | with_reducible refine w_isiII ?_ | with_reducible refine w_isiIB ?_ | with_reducible refine w_isiSS ?_ | with_reducible refine w_isiTT ?_ | with_reducible refine w_isiIT ?_ | with_reducible refine w_isiIS ?_ | with_reducible refine w_isiSI ?_ | with_reducible refine w_isiSB ?_ | with_reducible refine w_isiST ?_ | with_reducible refine w_isiTI ?_ | with_reducible refine w_isiTB ?_ | with_reducible refine w_isiTS ?_ | with_reducible refine w_isiNI ?_ | with_reducible refine w_isiNS ?_ | with_reducible refine w_isiNT ?_ | with_reducible refine w_isiBI ?_ | with_reducible refine w_isiBB ?_ | with_reducible refine w_isiLT ?_ | with_reducible refine w_dRev ?_ | with_reducible refine w_revK ?_ | with_reducible refine w_lstRg ?_ | with_reducible refine w_par ?_ | with_reducible refine w_parK (by dsimp only [List.set] <;> rfl) ?_ | with_reducible refine w_sl ?_ | with_reducible refine w_slT ?_ | with_reducible refine w_slL ?_ | with_reducible refine w_oNo ?_ | with_reducible refine w_oSo ?_ | with_reducible refine w_oSoK ?_ | with_reducible refine w_prN ?_ | with_reducible refine w_prC ?_ | with_reducible refine w_addI ?_ | with_reducible refine w_subI ?_ | with_reducible refine w_lt ?_ | with_reducible refine w_le ?_ | with_reducible refine w_gt ?_ | with_reducible refine w_ge ?_ | with_reducible refine w_isN ?_ | with_reducible refine w_isnN ?_ | with_reducible refine w_eqI ?_ | with_reducible refine w_neI ?_ | with_reducible refine w_ixT0 ?_ | with_reducible refine w_ixT1 ?_ | with_reducible refine w_ixT2 ?_ | with_reducible refine w_ixT3 ?_ | with_reducible refine w_ixT4 ?_ | with_reducible refine w_ixT5 ?_ | with_reducible refine w_lenL ?_ | with_reducible refine w_lenT ?_ | with_reducible refine w_int ?_ | with_reducible refine w_intB ?_ | with_reducible refine w_abs ?_ | with_reducible refine w_listL ?_ | with_reducible refine w_listT ?_ | with_reducible refine w_tupL ?_ | with_reducible refine w_tupT ?_ | with_reducible refine w_int2 ?_ | with_reducible refine w_gcd ?_ | with_reducible refine w_app ?_ | with_reducible refine w_iSeq ?_ | with_reducible refine w_itemT ?_ | with_reducible refine w_itemL ?_ | with_reducible refine w_iRng ?_ | with_reducible refine w_iEnm ?_ | with_reducible refine w_sg1 ?_ | with_reducible refine w_iRev ?_ | with_reducible refine w_rg1 ?_ | with_reducible refine w_rg1K ?_ | with_reducible refine w_notB ?_ | with_reducible refine w_at ?_ | with_reducible refine w_sAt ?_ | with_reducible refine w_gAt ?_ | with_reducible refine w_newD ?_ | with_reducible refine w_iZipM ?_ | with_reducible refine w_zmLL ?_ | with_reducible refine w_zmLT ?_ | with_reducible refine w_zmTL ?_ | with_reducible refine w_zmTT ?_ | with_reducible refine w_iZipO ?_ | with_reducible refine w_lstZip ?_ | with_reducible refine w_iRevS ?_ | with_reducible refine w_revIL ?_ | with_reducible refine w_iEZ ?_ | with_reducible refine w_rg2 ?_ | with_reducible refine w_rg2K ?_ | with_reducible refine w_tupS ?_ | with_reducible refine w_revT ?_ | with_reducible refine w_revTK ?_ | with_reducible refine w_star ?_ | with_reducible refine w_seqT ?_ | with_reducible refine w_seqL ?_)
section
variable {K : Fg} {c : Nat → Addr}
def mK : List Key := [.inr "cells", .inr "left", .inr "spot"]
def mV (cells : List Int) (left spot : Int) : List D := [.lst (cells.map D.int), .int left, .int spot]
theorem vl_l (c : List Int) (l s : Int) : valD mK (mV c l s) (.inr "left") = some (.int l) := by rfl
theorem vl_s (c : List Int) (l s : Int) : valD mK (mV c l s) (.inr "spot") = some (.int s) := by rfl
theorem vl_c (c : List Int) (l s : Int) : valD mK (mV c l s) (.inr "cells") = some (.lst (c.map D.int)) := by rfl
theorem pt_l (c : List Int) (l s l' : Int) : putD mK (mV c l s) (.inr "left") (.int l') = (mK, mV c l' s) := by rfl
theorem pt_s (c : List Int) (l s s' : Int) : putD mK (mV c l s) (.inr "spot") (.int s') = (mK, mV c l s') := by rfl
theorem mK_nd : mK.Nodup := by decide
theorem ix_d {M : Mem} {a : Addr} {ks : List Key} {ds : List D} {x : Str} {Q : QD} (h : M a = some (.dct ks ds)) : ixD (.ref a) (.str x) M Q = match valD ks ds (.inr x) with | some d => Q d M | none => False := by
  simp only [ixD, ixO, vw, vwO, h, DL.keyD]
  all_goals (cases valD ks ds (.inr x) <;> rfl)
theorem set_d {M : Mem} {a : Addr} {ks : List Key} {ds : List D} {x : Str} {v : D} {k : Mem → Prop} (h : M a = some (.dct ks ds)) : setK (.ref a) (.str x) v k M = ((ks.Nodup ∧ ks.length < 1000) ∧ k (M.put a (.dct (putD ks ds (.inr x) v).1 (putD ks ds (.inr x) v).2))) := by
  simp [setK, h, DL.keyD]
theorem put_at {M : Mem} {a : Addr} {o : MO} : (M.put a o) a = some o := Mem.put_same
theorem mod_i {i j : Int} {M : Mem} {Q : QD} : modD (.int i) (.int j) M Q = (0 < j ∧ Q (.int (i % j)) M) := rfl
theorem fdiv_i {i j : Int} {M : Mem} {Q : QD} : fdivD (.int i) (.int j) M Q = (CDivW i j ∧ Q (.int (i / j)) M) := rfl
theorem mul_i {i j : Int} {M : Mem} {Q : QD} : mulD (.int i) (.int j) M Q = (CMulW i j ∧ Q (.int (i * j)) M) := rfl
theorem add_i {i j : Int} {M : Mem} {Q : QD} : addD (.int i) (.int j) M Q = Q (.int (i + j)) M := rfl
theorem int_i {i : Int} {M : Mem} {Q : QD} : intC [.int i] M Q = Q (.int i) M := rfl
theorem gt_i {i j : Int} {M : Mem} {Q : QD} : gtD (.int i) (.int j) M Q = Q (.bl (decide (i > j))) M := rfl
theorem len_l {ds : List D} {M : Mem} {Q : QD} : lenC [.lst ds] M Q = Q (.int ds.length) M := rfl
theorem ix_l {ns : List Int} {j : Int} {M : Mem} {Q : QD} (h0 : 0 ≤ j) (h1 : j < ns.length) : ixD (.lst (ns.map D.int)) (.int j) M Q = Q (.int (ns[j.toNat]'(by omega))) M := by
  have e : atI (ns.map D.int) j = some (.int (ns[j.toNat]'(by omega))) := by
    have z := atI_nat (xs := ns.map D.int) (j := j.toNat) (v := .int (ns[j.toNat]'(by omega))) (by rw [List.getElem?_map, List.getElem?_eq_getElem (by omega)]; rfl)
    rwa [Int.toNat_of_nonneg h0] at z
  simp only [ixD, ixO, vw, e]
theorem divW {i j : Int} (h : 0 < j) (h2 : j < 2 ^ 60) : CDivW i j := ⟨h, by
  have : j.natAbs.log2 < 60 := (Nat.log2_lt (by omega)).mpr (by omega)
  omega⟩
theorem mulW {i j : Int} (h : i.natAbs < 2 ^ 200) (h2 : j.natAbs < 2 ^ 200) : CMulW i j := by
  unfold CMulW
  have a : ∀ n : Nat, n < 2 ^ 200 → n.log2 ≤ 200 := fun n hn => by
    by_cases z : n = 0
    · subst z; decide
    · exact Nat.le_of_lt ((Nat.log2_lt z).mpr hn)
  have := a _ h
  have := a _ h2
  omega
theorem draw_ok (a : Addr) (M : Mem) (cells : List Int) (left spot limit : Int) (hc : cells ≠ []) (hl : 0 < limit) (hl2 : limit < 2 ^ 60) (hs : 0 ≤ spot) (hs2 : spot < 2 ^ 60) (hM : M a = some (.dct mK (mV cells left spot))) (Q : QD) (Xd : XD)
    (h : ∀ r l' s' : Int, 0 ≤ r → r < limit → spot ≤ s' → s' ≤ spot + 1 → Q (.int r) (M.put a (.dct mK (mV cells l' s')))) : W_law_draw K c [.ref a, .int limit] M Q Xd := by
  unfold W_law_draw bodyD B_law_draw
  simp only [sSeq, sIf, dTst, dOp, dVar, dC, startD, N__law_draw, List.map, List.length, List.replicate, List.getElem?_cons_zero, List.getElem?_cons_succ, List.cons_append, List.nil_append, sNx, sSet, sAsg, sRet, gSb, dCB, dCons, dNil, List.set,
    ix_d hM, vl_l, vl_s, vl_c, gt_i, tstB, int_i, mod_i, fdiv_i, set_d hM, pt_l, pt_s]
  by_cases z : left > 0
  · rw [decide_eq_true z, if_pos rfl]
    refine ⟨hl, divW hl hl2, ⟨mK_nd, by decide⟩, lo_same (h _ _ _ (Int.emod_nonneg _ (by omega)) (Int.emod_lt_of_pos _ hl) (Int.le_refl _) (by omega))⟩
  · rw [decide_eq_false z, if_neg Bool.false_ne_true]
    have hlen : 0 < cells.length := List.length_pos_iff.mpr hc
    have j0 : 0 ≤ (spot + 1) % (cells.length : Int) := Int.emod_nonneg _ (by omega)
    have j1 : (spot + 1) % (cells.length : Int) < cells.length := Int.emod_lt_of_pos _ (by omega)
    simp only [add_i, set_d hM, pt_s, ix_d put_at, vl_c, int_i, len_l, mod_i, List.length_map, ix_l j0 j1, mul_i, fdiv_i]
    generalize cells[((spot + 1) % (cells.length : Int)).toNat]'(by omega) = c
    have b1 : 0 ≤ c % 2147483629 := Int.emod_nonneg _ (by decide)
    have b2 : c % 2147483629 < 2147483629 := Int.emod_lt_of_pos _ (by decide)
    generalize c % 2147483629 = c1 at b1 b2
    have e0 : 23 * (spot + 1) * (spot + 1) = 23 * ((spot + 1) * (spot + 1)) := Int.mul_assoc _ _ _
    have q0 : 0 ≤ (spot + 1) * (spot + 1) := Int.mul_nonneg (by omega) (by omega)
    have q1 : (spot + 1) * (spot + 1) ≤ 2 ^ 60 * 2 ^ 60 := Int.mul_le_mul (by omega) (by omega) (by omega) (by decide)
    rw [e0]
    generalize (spot + 1) * (spot + 1) = sq at q0 q1
    have r1 : 0 ≤ (c1 + 6133 * (spot + 1) + 23 * sq) * 48271 % 2147483647 := Int.emod_nonneg _ (by decide)
    have r2 : (c1 + 6133 * (spot + 1) + 23 * sq) * 48271 % 2147483647 < 2147483647 := Int.emod_lt_of_pos _ (by decide)
    refine ⟨⟨mK_nd, by decide⟩, by omega, by decide, mulW (by omega) (by omega), mulW (by omega) (by omega), mulW (by omega) (by omega), mulW (by omega) (by omega), by decide, mulW (by omega) (by omega), mulW (by omega) (by omega), by decide, divW (by decide) (by decide), hl,
      lo_same (h _ _ _ (Int.emod_nonneg _ (by omega)) (Int.emod_lt_of_pos _ hl) (by omega) (by omega))⟩
/-- the state of the draws stands, its counter not far -/
def Dr (a : Addr) (cells : List Int) (b : Int) (M : Mem) : Prop := ∃ l s : Int, M a = some (.dct mK (mV cells l s)) ∧ 0 ≤ s ∧ s ≤ b
/-- all but the state of the draws stays -/
def Sm (a : Addr) (M M' : Mem) : Prop := ∀ b, b ≠ a → M' b = M b
theorem Sm.refl {a : Addr} {M : Mem} : Sm a M M := fun _ _ => rfl
theorem Sm.trans {a : Addr} {M M1 M2 : Mem} (h : Sm a M M1) (k : Sm a M1 M2) : Sm a M M2 := fun b z => (k b z).trans (h b z)
theorem draw_k {a : Addr} {M : Mem} {cells : List Int} {b limit : Int} (hc : cells ≠ []) (hl : 0 < limit) (hl2 : limit < 2 ^ 60) (hb : b < 2 ^ 50) (hM : Dr a cells b M) {Q : QD} {Xd : XD}
    (h : ∀ (r : Int) (M' : Mem), 0 ≤ r → r < limit → Dr a cells (b + 1) M' → Sm a M M' → Q (.int r) M') : W_law_draw K c [.ref a, .int limit] M Q Xd := by
  obtain ⟨l, s, h1, h2, h3⟩ := hM
  exact draw_ok a M cells l s limit hc hl hl2 h2 (by omega) h1 Q Xd fun r l' s' r0 r1 s0 s1 => h r _ r0 r1 ⟨l', s', Mem.put_same, by omega, by omega⟩ fun b z => Mem.put_ne z
theorem atI_mem {ds : List D} {i : Int} (h0 : 0 ≤ i) (h1 : i < ds.length) : ∃ d, atI ds i = some d ∧ d ∈ ds := by
  have hi : i.toNat < ds.length := by omega
  have z := atI_nat (xs := ds) (j := i.toNat) (v := ds[i.toNat]) (List.getElem?_eq_getElem hi)
  rw [Int.toNat_of_nonneg h0] at z
  exact ⟨_, z, List.getElem_mem hi⟩
theorem of_k {a : Addr} {M : Mem} {cells : List Int} {b : Int} {ds : List D} (hc : cells ≠ []) (hb : b < 2 ^ 50) (hd : 0 < ds.length) (hd2 : ds.length < 2 ^ 24) (hM : Dr a cells b M) {Q : QD} {Xd : XD}
    (h : ∀ (d : D) (M' : Mem), d ∈ ds → Dr a cells (b + 1) M' → Sm a M M' → Q d M') : W_law_of K c [.ref a, .lst ds] M Q Xd := by
  refine E_law_of ?_
  repeat fail
  refine draw_k hc (by omega) (by omega) hb hM fun r M' r0 r1 hD hS => ?_
  obtain ⟨d, e, hm⟩ := atI_mem r0 r1
  exact w_ixL e (lo_same (h d M' hm hD hS))
theorem Dr.le {a : Addr} {cells : List Int} {b c : Int} {M : Mem} (h : Dr a cells b M) (k : b ≤ c) : Dr a cells c M := by
  obtain ⟨l, s, h1, h2, h3⟩ := h
  exact ⟨l, s, h1, h2, by omega⟩
theorem w_itemF {ds : List D} {M : Mem} {I : List D → Option Addr → Mem → Prop} (h : I ds none M) : itemK I (.fzn ds) M := h
theorem w_lenF {ds : List D} {M : Mem} {Q : QD} (h : Q (.int ds.length) M) : lenC [.fzn ds] M Q := h
theorem w_listF {ds : List D} {M : Mem} {Q : QD} (h : Q (.lst ds) M) : listC [.fzn ds] M Q := h
theorem toPys_ints : ∀ ns : List Int, toPys (ns.map D.int) = some (ns.map PyData.int)
  | [] => rfl
  | n :: ns => by rw [List.map_cons, toPys, toPys_ints ns]; rfl
theorem lay_ints : ∀ ns : List Int, PyData.canLayAll0 (ns.map PyData.int) = true ∧ PyData.depthAll (ns.map PyData.int) = 0
  | [] => ⟨rfl, rfl⟩
  | n :: ns => by
    obtain ⟨h1, h2⟩ := lay_ints ns
    refine ⟨by rw [List.map_cons]; simp only [PyData.canLayAll0, PyData.canLay0, h1, Bool.and_self], by rw [List.map_cons]; simp only [PyData.depthAll, PyData.depth, h2]; rfl⟩
theorem eq_nil (ns : List Int) : eqO (.lst (ns.map D.int)) (.lst []) = some (decide (ns = [])) := by
  have e : toPy (.lst (ns.map D.int)) = some (.list (ns.map PyData.int)) := by rw [toPy, toPys_ints]; rfl
  have e0 : toPy (.lst []) = some (.list []) := rfl
  obtain ⟨h1, h2⟩ := lay_ints ns
  have s1 : SeqAt.shaped (.list (ns.map PyData.int)) = true := by
    unfold SeqAt.shaped
    simp only [PyData.canLay0, h1, PyData.depth, h2]; rfl
  have s2 : SeqAt.shaped (.list []) = true := rfl
  unfold eqO
  simp only [e, e0, s1, s2, and_self, if_true]
  cases ns with
  | nil => rfl
  | cons n ns => rfl
def greatD : D → Option D
  | .int i => if (10 : Int) ^ 18 ≤ i then some (.int i) else none
  | _ => none
end
set_option maxHeartbeats 4000000
section
variable {K : Fg} {c : Nat → Addr}
theorem rule_k {sh : Int} {u w : Bool} {M : Mem} {Q : QD} {Xd : XD} (h0 : 0 ≤ sh ∧ sh ≤ 100) (h : Q (.bl true) M) : Wis_rule K c [termD sh u w] M Q Xd := by
  refine Eis_rule ?_
  unfold termD
  repeat fail
  refine w_ifF ?_
  repeat fail
  refine w_chdT h0.1 ?_
  repeat fail
  refine w_ifndT h0.2 ?_
  repeat fail
  cases u <;> cases w
  all_goals
    repeat fail
    refine w_eqS (by decide +kernel) (by decide +kernel) ?_
    first
    | rw [show decide (upS true = (Str.ofString "whole")) = true from by decide +kernel]
    | rw [show decide (upS false = (Str.ofString "whole")) = false from by decide +kernel]
    repeat fail
    try
      refine w_eqS (by decide +kernel) (by decide +kernel) ?_
      rw [show decide (upS false = (Str.ofString "own")) = true from by decide +kernel]
      repeat fail
    refine w_eqS (by decide +kernel) (by decide +kernel) ?_
    first
    | rw [show decide (dnS true = (Str.ofString "own")) = true from by decide +kernel]
    | rw [show decide (dnS false = (Str.ofString "own")) = false from by decide +kernel]
    repeat fail
    try
      refine w_eqS (by decide +kernel) (by decide +kernel) ?_
      rw [show decide (dnS false = (Str.ofString "none")) = true from by decide +kernel]
      repeat fail
    exact lo_same h
end
set_option maxHeartbeats 4000000
section
variable {K : Fg} {c : Nat → Addr}
theorem bounds_k {n : D} {hr : Bool} {lo hi : Int} {M : Mem} {Q : QD} {Xd : XD} (h0 : bnd lo hi) (h : Q .non M) : W_need_bounds K c [n, landD hr, .int lo, .int hi] M Q Xd := by
  obtain ⟨b1, b2, b3⟩ := h0
  refine E_need_bounds ?_
  refine w_join (P := fun M1 => M1 = M) (fun M1 e => ?_) fun join => ?_
  · subst e
    repeat fail
    refine w_chdT b1 ?_
    repeat fail
    refine w_ifndT (by omega) ?_
    repeat fail
    refine w_chdT b2 ?_
    repeat fail
    refine w_ifndT b3 ?_
    repeat fail
    exact lo_same h
  · unfold landD
    repeat fail
    cases hr
    · refine w_neS (by decide +kernel) (by decide +kernel) ?_
      rw [show decide (landS false = (Str.ofString "here")) = false from by decide +kernel]
      repeat fail
      refine w_neS (by decide +kernel) (by decide +kernel) ?_
      rw [show decide (landS false = (Str.ofString "away")) = true from by decide +kernel]
      repeat fail
      exact join M rfl
    · refine w_neS (by decide +kernel) (by decide +kernel) ?_
      rw [show decide (landS true = (Str.ofString "here")) = true from by decide +kernel]
      repeat fail
      exact join M rfl
theorem making_k {n : D} {sh : Int} {u w : Bool} {ps : List Th} {M : Mem} {Q : QD} {Xd : XD} (h0 : 0 ≤ sh ∧ sh ≤ 100) (h1 : 1 ≤ ps.length ∧ ps.length ≤ 4) (h : Q .non M) : W_need_making K c [n, termD sh u w, .tup (Th.ds ps)] M Q Xd := by
  refine E_need_making ?_
  repeat fail
  refine rule_k h0 ?_
  repeat fail
  have e : (Th.ds ps).length = ps.length := by rw [ds_map, List.length_map]
  refine w_chdT (by rw [e]; omega) ?_
  repeat fail
  refine w_ifndT (by rw [e]; omega) ?_
  repeat fail
  exact lo_same h
def LookOk (K : Fg) (c : Nat → Addr) (n : Nat) : Prop := ∀ (t : Th) (par : D) (f w m v : Addr) (F W : List D) (Dd V : List Nat) (M0 M : Mem) (Q : QD) (Xd : XD), Ne4 f w m v → t.ok → t.st + 1 ≤ n → F.length + t.sz ≤ 10 → W.length ≤ 10 → W.length = F.length → V.length ≤ F.length → Dd.length + t.st ≤ 4 → S4 M0 f w m v F W (Dd.map nI) (V.map nI) M →
  (∀ M', S4 M0 f w m v (F ++ Th.ds t.fl) (W ++ t.whs F.length par) ((Dd ++ t.mds F.length).map nI) ((V ++ t.mvn F.length).map nI) M' → Q .non M') → W_look_at K c n [t.d, par, .ref f, .ref w, .ref m, .ref v] M Q Xd
theorem look_loop {n : Nat} (ih : LookOk K c n) {f w m v : Addr} (ne : Ne4 f w m v) {M0 : Mem} {nx bk ct : SD → Mem → Prop} {rt : QD} {Xd : XD} {Wt : Mem → Prop} (hW : ∀ M, Wt M) {k : Nat} {d0 d1 x7 x8 x9 x10 x11 x12 x13 x14 : Option D} :
    ∀ (ts : List Th) (F W : List D) (Dd V : List Nat) (M : Mem) (o : Option D), Th.oks ts → Th.sts ts + 1 ≤ n → F.length + Th.szs ts ≤ 10 → W.length = F.length → V.length ≤ F.length → Dd.length + Th.sts ts ≤ 4 → S4 M0 f w m v F W (Dd.map nI) (V.map nI) M →
      (∀ M' o, S4 M0 f w m v (F ++ Th.ds (Th.fls ts)) (W ++ Th.whss ts F.length (nI k)) ((Dd ++ Th.mdss ts F.length).map nI) ((V ++ Th.mvns ts F.length).map nI) M' → nx [d0, d1, some (.ref f), some (.ref w), some (.ref m), some (.ref v), some (.int (k : Int)), x7, x8, x9, x10, x11, x12, x13, x14, o] M') →
      sForL (gNm 15) (sExpr (dCall (W_look_at K c n) [] (dCons (dVar 15) (dCons (dVar 6) (dCons (dVar 2) (dCons (dVar 3) (dCons (dVar 4) (dCons (dVar 5) (dNil))))))))) ⟨nx, rt, bk, ct, Xd⟩ Wt (Th.ds ts) [d0, d1, some (.ref f), some (.ref w), some (.ref m), some (.ref v), some (.int (k : Int)), x7, x8, x9, x10, x11, x12, x13, x14, o] M
  | [], F, W, Dd, V, M, o, h1, h2, h3, h4, h4', h5, h6, h => w_forNil (hW _) (h M o (by simpa [Th.ds, Th.fls, Th.whss, Th.mdss, Th.mvns] using h6))
  | t :: ts, F, W, Dd, V, M, o, h1, h2, h3, h4, h4', h5, h6, h => by
    simp only [Th.sts, Th.szs] at h2 h3 h5
    have := sz_pos t
    refine w_forCons (hW _) ?_
    repeat fail
    refine ih t (nI k) f w m v F W Dd V M0 M _ _ ne h1.1 (by omega) (by omega) (by omega) h4 h4' (by omega) h6 fun M' h7 => ?_
    have hm := mv_le_sz t
    refine look_loop ih ne hW ts _ _ _ _ M' _ h1.2 (by omega) (by rw [List.length_append, ds_map, List.length_map, fl_len]; omega) (by rw [List.length_append, List.length_append, whs_len, ds_map, List.length_map, fl_len, h4]) (by rw [List.length_append, List.length_append, mvn_len, ds_map, List.length_map, fl_len]; omega) (by rw [List.length_append, mds_len]; omega) h7 fun M2 o h8 => h M2 o ?_
    have e : (F ++ Th.ds t.fl).length = F.length + t.sz := by rw [List.length_append, ds_map, List.length_map, fl_len]
    rw [e] at h8
    simp only [Th.fls, Th.whss, Th.mdss, Th.mvns, ds_app]
    simp only [List.append_assoc] at h8
    exact h8
theorem look_k : ∀ n : Nat, LookOk K c n
  | 0 => fun _ _ _ _ _ _ _ _ _ _ _ _ _ _ _ _ h _ _ _ _ _ _ => by omega
  | n + 1 => fun t par f w m v F W Dd V M0 M Q Xd ne hok hn hF hW0 hWF hVF hD hS h => by
    refine E_look_at ?_
    cases t with
    | raw hr lo hi =>
      simp only [Th.sz, Th.st] at hF hD hn
      rw [Th.d]
      repeat fail
      refine w_lenR hS.hf ?_
      repeat fail
      refine w_ifT ?_
      repeat fail
      refine w_eqS (by decide +kernel) (by decide +kernel) ?_
      rw [show decide ((Str.ofString "raw") = (Str.ofString "made")) = false from by decide +kernel]
      repeat fail
      refine w_ifdF (by omega) ?_
      repeat fail
      refine w_lenR hS.hm ?_
      repeat fail
      refine w_ifdF (by rw [List.length_map]; omega) ?_
      repeat fail
      refine w_eqS (by decide +kernel) (by decide +kernel) ?_
      rw [show decide ((Str.ofString "raw") = (Str.ofString "raw")) = true from by decide +kernel]
      repeat fail
      refine w_ifT ?_
      repeat fail
      refine bounds_k hok ?_
      repeat fail
      refine w_appO hS.hf ?_
      repeat fail
      refine w_appK hS.hf (by rw [sizeLine_eq]; omega) ?_
      have hS2 := hS.putF (X := F ++ [(Th.raw hr lo hi).d]) ne
      rw [Th.d] at hS2
      generalize M.put f _ = M2 at hS2 ⊢
      repeat fail
      refine w_appO hS2.hw ?_
      repeat fail
      refine w_appK hS2.hw (by rw [sizeLine_eq]; omega) ?_
      have hS3 := hS2.putW (X := W ++ [par]) ne
      generalize M2.put w _ = M3 at hS3 ⊢
      repeat fail
      refine w_ifd (fun z => ?_) fun z => ?_
      · repeat fail
        refine w_appO hS3.hv ?_
        repeat fail
        refine w_appK hS3.hv (by rw [sizeLine_eq, List.length_map]; omega) ?_
        have hS4 := hS3.putV (X := V.map nI ++ [D.int (F.length : Int)]) ne
        generalize M3.put v _ = M4 at hS4 ⊢
        repeat fail
        refine w_forNil wat_none ?_
        refine lo_same (h M4 ?_)
        simp only [Th.fl, Th.ds, Th.whs, Th.mds, Th.mvn, mvn1, if_pos z, List.append_nil, List.map_append, List.map_cons, List.map_nil]
        exact hS4
      · repeat fail
        refine w_forNil wat_none ?_
        refine lo_same (h M3 ?_)
        simp only [Th.fl, Th.ds, Th.whs, Th.mds, Th.mvn, mvn1, if_neg z, List.append_nil, List.map_append, List.map_cons, List.map_nil]
        exact hS3
    | made hr lo hi sh up dn ps =>
      simp only [Th.sz, Th.st] at hF hD hn
      obtain ⟨q1, q2, q3, q4⟩ := hok
      rw [Th.d]
      repeat fail
      refine w_lenR hS.hf ?_
      repeat fail
      refine w_ifT ?_
      repeat fail
      refine w_eqS (by decide +kernel) (by decide +kernel) ?_
      rw [show decide ((Str.ofString "made") = (Str.ofString "made")) = true from by decide +kernel]
      repeat fail
      refine w_appO hS.hm ?_
      repeat fail
      refine w_appK hS.hm (by rw [sizeLine_eq, List.length_map]; omega) ?_
      have hS1 := hS.putM (X := Dd.map nI ++ [D.int (F.length : Int)]) ne
      generalize M.put m _ = M1 at hS1 ⊢
      repeat fail
      refine w_ifdF (by omega) ?_
      repeat fail
      refine w_lenR hS1.hm ?_
      repeat fail
      refine w_ifdF (by rw [List.length_append, List.length_map, List.length_singleton]; omega) ?_
      repeat fail
      refine w_ifT ?_
      repeat fail
      refine bounds_k q1 ?_
      repeat fail
      refine making_k q2 q3 ?_
      repeat fail
      refine w_appO hS1.hf ?_
      repeat fail
      refine w_appK hS1.hf (by rw [sizeLine_eq]; omega) ?_
      have hS2 := hS1.putF (X := F ++ [(Th.made hr lo hi sh up dn ps).d]) ne
      rw [Th.d] at hS2
      generalize M1.put f _ = M2 at hS2 ⊢
      repeat fail
      refine w_appO hS2.hw ?_
      repeat fail
      refine w_appK hS2.hw (by rw [sizeLine_eq]; omega) ?_
      have hS3 := hS2.putW (X := W ++ [par]) ne
      generalize M2.put w _ = M3 at hS3 ⊢
      refine w_joinS (P := fun s1 M1 => S4 M0 f w m v (F ++ [(Th.made hr lo hi sh up dn ps).d]) (W ++ [par]) ((Dd ++ [F.length]).map nI) ((V ++ mvn1 lo hi F.length).map nI) M1 ∧
        ∃ x7 x8 x10 x11 x12 x13 x14 x15, s1 = [some (Th.made hr lo hi sh up dn ps).d, some par, some (.ref f), some (.ref w), some (.ref m), some (.ref v), some (.int (F.length : Int)), x7, x8, some (.tup (Th.ds ps)), x10, x11, x12, x13, x14, x15]) (fun s1 M1 ⟨hS4, x7, x8, x10, x11, x12, x13, x14, x15, es⟩ => ?_) fun join => ?_
      · subst es
        repeat fail
        have e1 : (F ++ [(Th.made hr lo hi sh up dn ps).d]).length = F.length + 1 := by rw [List.length_append, List.length_singleton]
        have hm1 : (mvn1 lo hi F.length).length ≤ 1 := by rw [mvn1_len]; unfold mv1; split <;> omega
        refine look_loop (look_k n) ne (fun _ => wat_none) ps _ _ _ _ M1 _ q4 (by omega) (by rw [e1]; omega) (by rw [e1, List.length_append, List.length_singleton, hWF]) (by rw [e1, List.length_append]; omega) (by rw [List.length_append, List.length_singleton]; omega) hS4 fun M' o h8 => ?_
        refine lo_same (h M' ?_)
        rw [e1] at h8
        simp only [Th.fl, Th.ds, Th.whs, Th.mds, Th.mvn]
        simp only [List.append_assoc, List.singleton_append] at h8
        exact h8
      · repeat fail
        refine w_ifd (fun z => ?_) fun z => ?_
        · repeat fail
          refine w_appO hS3.hv ?_
          repeat fail
          refine w_appK hS3.hv (by rw [sizeLine_eq, List.length_map]; omega) ?_
          have hS4 := hS3.putV (X := V.map nI ++ [D.int (F.length : Int)]) ne
          generalize M3.put v _ = M4 at hS4 ⊢
          refine join _ M4 ⟨?_, _, _, _, _, _, _, _, _, by rw [Th.d]⟩
          simp only [mvn1, if_pos z, List.map_append, List.map_cons, List.map_nil]
          rw [Th.d]
          exact hS4
        · repeat fail
          refine join _ M3 ⟨?_, _, _, _, _, _, _, _, _, by rw [Th.d]⟩
          simp only [mvn1, if_neg z, List.map_append, List.map_cons, List.map_nil, List.append_nil]
          rw [Th.d]
          exact hS3
end
set_option maxHeartbeats 4000000
section
variable {K : Fg} {c : Nat → Addr}
def lowOf : Th → Int
  | .raw _ lo _ => lo
  | .made _ lo _ _ _ _ _ => lo
def higOf : Th → Int
  | .raw _ _ hi => hi
  | .made _ _ hi _ _ _ _ => hi
theorem d_ix2' {t : Th} {M : Mem} {Q : QD} (h : Q (.int (lowOf t)) M) : ixD t.d (.int 2) M Q := by
  cases t with
  | raw _ _ _ => rw [Th.d]; exact w_ixT2 h
  | made _ _ _ _ _ _ _ => rw [Th.d]; exact w_ixT2 h
theorem d_ix3' {t : Th} {M : Mem} {Q : QD} (h : Q (.int (higOf t)) M) : ixD t.d (.int 3) M Q := by
  cases t with
  | raw _ _ _ => rw [Th.d]; exact w_ixT3 h
  | made _ _ _ _ _ _ _ => rw [Th.d]; exact w_ixT3 h
mutual
theorem any_fl : ∀ t : Th, t.any = true → ∃ x ∈ t.fl, 0 < lowOf x
  | .raw h lo hi, e => ⟨_, List.mem_singleton.mpr rfl, by have e : decide (0 < lo) = true := e; exact of_decide_eq_true e⟩
  | .made h lo hi sh u w ps, e => by
    simp only [Th.any, Bool.or_eq_true, decide_eq_true_eq] at e
    rcases e with e | e
    · exact ⟨_, List.mem_cons_self, e⟩
    · obtain ⟨x, h1, h2⟩ := any_fls ps e
      exact ⟨x, List.mem_cons_of_mem _ h1, h2⟩
theorem any_fls : ∀ ts : List Th, Th.anys ts = true → ∃ x ∈ Th.fls ts, 0 < lowOf x
  | [], e => by cases e
  | t :: ts, e => by
    simp only [Th.anys, Bool.or_eq_true] at e
    rcases e with e | e
    · obtain ⟨x, h1, h2⟩ := any_fl t e
      exact ⟨x, List.mem_append_left _ h1, h2⟩
    · obtain ⟨x, h1, h2⟩ := any_fls ts e
      exact ⟨x, List.mem_append_right _ h1, h2⟩
end
theorem low_loop {nx bk ct : SD → Mem → Prop} {rt : QD} {Xd : XD} {d0 : Option D} {f w m v : Addr} {W : Mem → Prop} {M : Mem} (hW : W M) (h : rt (.tup [.ref f, .ref w, .ref m, .ref v]) M) : ∀ (ts : List Th) (o : Option D), (∃ x ∈ ts, 0 < lowOf x) →
    sForL (gNm 5) (sIf (dTst (dOp gtD (dOp ixD (dVar 5) (dC (.int 2))) (dC (.int 0)))) (sRet (dTup (dCons (dVar 1) (dCons (dVar 2) (dCons (dVar 3) (dCons (dVar 4) (dNil))))))) (sNx)) ⟨nx, rt, bk, ct, Xd⟩ W (Th.ds ts) [d0, some (.ref f), some (.ref w), some (.ref m), some (.ref v), o] M
  | [], _, ⟨x, hx, _⟩ => by cases hx
  | t :: ts, o, ⟨x, hx, hl⟩ => by
    refine w_forCons hW ?_
    repeat fail
    refine d_ix2' ?_
    repeat fail
    refine w_ifd (fun z => ?_) fun z => ?_
    · repeat fail
      exact h
    · repeat fail
      refine low_loop hW h ts _ ?_
      rcases List.mem_cons.mp hx with rfl | hx
      · exact absurd hl z
      · exact ⟨x, hx, hl⟩
theorem over_k {t : Th} (hg : t.good) {M : Mem} {Q : QD} {Xd : XD} (h : Q (.tup [.lst (Th.ds t.fl), .lst (t.whs 0 .non), .lst ((t.mds 0).map nI), .lst ((t.mvn 0).map nI)]) M) : Wlook_over K c [t.d] M Q Xd := by
  obtain ⟨h1, h2, h3, h4, h5, h6⟩ := hg
  refine Elook_over ?_
  repeat fail
  refine w_lstO ?_
  repeat fail
  intro f hf
  repeat fail
  refine w_lstO ?_
  repeat fail
  intro w hw
  repeat fail
  refine w_lstO ?_
  repeat fail
  intro m hm
  repeat fail
  refine w_lstO ?_
  repeat fail
  intro v hv
  repeat fail
  have nfw : f ≠ w := fun e => by rw [← e, Mem.put_same] at hw; cases hw
  have nfm : f ≠ m := fun e => by rw [← e, Mem.put_ne nfw, Mem.put_same] at hm; cases hm
  have nwm : w ≠ m := fun e => by rw [← e, Mem.put_same] at hm; cases hm
  have nfv : f ≠ v := fun e => by rw [← e, Mem.put_ne nfm, Mem.put_ne nfw, Mem.put_same] at hv; cases hv
  have nwv : w ≠ v := fun e => by rw [← e, Mem.put_ne nwm, Mem.put_same] at hv; cases hv
  have nmv : m ≠ v := fun e => by rw [← e, Mem.put_same] at hv; cases hv
  rw [Mem.put_ne (Ne.symm nfw)] at hw
  rw [Mem.put_ne (Ne.symm nwm), Mem.put_ne (Ne.symm nfm)] at hm
  rw [Mem.put_ne (Ne.symm nmv), Mem.put_ne (Ne.symm nwv), Mem.put_ne (Ne.symm nfv)] at hv
  have ne : Ne4 f w m v := ⟨nfw, nfm, nfv, nwm, nwv, nmv⟩
  have S : S4 M f w m v [] [] (([] : List Nat).map nI) (([] : List Nat).map nI) ((((M.put f (.lst [])).put w (.lst [])).put m (.lst [])).put v (.lst [])) :=
    ⟨by rw [Mem.put_ne nfv, Mem.put_ne nfm, Mem.put_ne nfw, Mem.put_same], by rw [Mem.put_ne nwv, Mem.put_ne nwm, Mem.put_same], by rw [Mem.put_ne nmv, Mem.put_same]; rfl, Mem.put_same, fun x a b c d => by rw [Mem.put_ne d, Mem.put_ne c, Mem.put_ne b, Mem.put_ne a]⟩
  generalize (((M.put f (.lst [])).put w (.lst [])).put m (.lst [])).put v (.lst []) = M1 at S
  refine look_k 8 t .non f w m v [] [] [] [] M M1 _ _ ne h2 (by omega) (by simp; omega) (by simp) rfl (by simp) (by simp; omega) S fun M2 S2 => ?_
  simp only [List.nil_append, List.length_nil] at S2
  repeat fail
  refine w_lenR S2.hm ?_
  repeat fail
  have hst : 0 < (t.mds 0).length := by
    rw [mds_len]
    cases t with
    | raw _ _ _ => cases h1
    | made _ _ _ _ _ _ ps => simp only [Th.st]; omega
  refine w_ifdF (by rw [List.length_map]; omega) ?_
  repeat fail
  refine w_lenR S2.hv ?_
  repeat fail
  refine w_ifdF (by rw [List.length_map, mvn_len]; omega) ?_
  repeat fail
  refine w_itemR S2.hf ?_
  refine low_loop (wat_some rfl) ?_ _ none (any_fl t h6)
  refine lo_frzT 0 (by rfl) S2.hf ?_
  refine lo_frzT 1 (by rfl) ((Mem.del_ne (Ne.symm nfw)).trans S2.hw) ?_
  refine lo_frzT 2 (by rfl) ((Mem.del_ne (Ne.symm nwm)).trans ((Mem.del_ne (Ne.symm nfm)).trans S2.hm)) ?_
  refine lo_frzT 3 (by rfl) ((Mem.del_ne (Ne.symm nmv)).trans ((Mem.del_ne (Ne.symm nwv)).trans ((Mem.del_ne (Ne.symm nfv)).trans S2.hv))) ?_
  have eM : (((M2.del f).del w).del m).del v = M := by
    funext x
    by_cases ev : x = v
    · subst ev; rw [Mem.del_same, hv]
    rw [Mem.del_ne ev]
    by_cases em : x = m
    · subst em; rw [Mem.del_same, hm]
    rw [Mem.del_ne em]
    by_cases ew : x = w
    · subst ew; rw [Mem.del_same, hw]
    rw [Mem.del_ne ew]
    by_cases ef : x = f
    · subst ef; rw [Mem.del_same, hf]
    rw [Mem.del_ne ef]
    exact S2.o x ef ew em ev
  rw [eM]
  exact lo_same h
end
set_option maxHeartbeats 4000000
section
variable {K : Fg} {c : Nat → Addr}
theorem term_k {a : Addr} {M : Mem} {cells : List Int} {b : Int} (hc : cells ≠ []) (hb : b < 2 ^ 49) (hM : Dr a cells b M) {Q : QD} {Xd : XD}
    (h : ∀ (sh : Int) (u w : Bool) (M' : Mem), 0 ≤ sh → sh ≤ 100 → Dr a cells (b + 4) M' → Sm a M M' → Q (termD sh u w) M') : W_law_term K c [.ref a] M Q Xd := by
  refine E_law_term ?_
  repeat fail
  refine draw_k hc (by omega) (by omega) (by omega) hM fun r1 M1 a1 a2 hD1 hS1 => ?_
  repeat fail
  refine of_k hc (by omega) (by simp) (by simp) hD1 fun d M2 hd hD2 hS2 => ?_
  obtain ⟨sh, rfl, b1, b2⟩ : ∃ sh : Int, d = .int sh ∧ 0 ≤ sh ∧ sh ≤ 100 := by
    simp only [List.mem_cons, List.not_mem_nil, or_false] at hd
    rcases hd with rfl | rfl | rfl | rfl | rfl | rfl <;> exact ⟨_, rfl, by omega, by omega⟩
  repeat fail
  refine of_k hc (by omega) (by simp) (by simp) hD2 fun d M3 hd hD3 hS3 => ?_
  obtain ⟨u, rfl⟩ : ∃ u : Bool, d = .str (upS u) := by
    simp only [List.mem_cons, List.not_mem_nil, or_false] at hd
    rcases hd with rfl | rfl | rfl
    · exact ⟨true, rfl⟩
    · exact ⟨true, rfl⟩
    · exact ⟨false, rfl⟩
  repeat fail
  refine of_k hc (by omega) (by simp) (by simp) hD3 fun d M4 hd hD4 hS4 => ?_
  obtain ⟨w, rfl⟩ : ∃ u : Bool, d = .str (dnS u) := by
    simp only [List.mem_cons, List.not_mem_nil, or_false] at hd
    rcases hd with rfl | rfl | rfl
    · exact ⟨true, rfl⟩
    · exact ⟨true, rfl⟩
    · exact ⟨false, rfl⟩
  repeat fail
  exact lo_same (h sh u w M4 b1 b2 (by have e : b + 4 = b + 1 + 1 + 1 + 1 := by omega
                                       rw [e]; exact hD4) (((hS1.trans hS2).trans hS3).trans hS4))
def lK : List Key := [.inr "moves", .inr "steps", .inr "things"]
def lV (mv st th : Nat) : List D := [.int mv, .int st, .int th]
def Lf (l : Addr) (mv st th : Nat) (M : Mem) : Prop := M l = some (.dct lK (lV mv st th))
theorem lK_nd : lK.Nodup ∧ lK.length < 1000 := by decide
theorem Sm.lf {a l : Addr} {M M' : Mem} {mv st th : Nat} (h : Sm a M M') (ne : l ≠ a) (k : Lf l mv st th M) : Lf l mv st th M' := (h l ne).trans k
theorem vl_m (mv st th : Nat) : valD lK (lV mv st th) (.inr "moves") = some (.int mv) := rfl
theorem vl_st (mv st th : Nat) : valD lK (lV mv st th) (.inr "steps") = some (.int st) := rfl
theorem vl_th (mv st th : Nat) : valD lK (lV mv st th) (.inr "things") = some (.int th) := rfl
def Sm2 (a l : Addr) (M M' : Mem) : Prop := ∀ b, b ≠ a → b ≠ l → M' b = M b
theorem Sm2.refl {a l : Addr} {M : Mem} : Sm2 a l M M := fun _ _ _ => rfl
theorem Sm2.trans {a l : Addr} {M M1 M2 : Mem} (h : Sm2 a l M M1) (k : Sm2 a l M1 M2) : Sm2 a l M M2 := fun b y z => (k b y z).trans (h b y z)
theorem Sm.two {a l : Addr} {M M' : Mem} (h : Sm a M M') : Sm2 a l M M' := fun b y _ => h b y
theorem Dr.put {a l : Addr} {cells : List Int} {b : Int} {M : Mem} {o : MO} (h : Dr a cells b M) (ne : a ≠ l) : Dr a cells b (M.put l o) := by
  obtain ⟨x, s, h1, h2, h3⟩ := h
  exact ⟨x, s, by rw [Mem.put_ne ne]; exact h1, h2, h3⟩
theorem span_k {a l : Addr} {M : Mem} {cells : List Int} {b : Int} {mv st th : Nat} (hc : cells ≠ []) (hb : b < 2 ^ 49) (ne : l ≠ a) (hM : Dr a cells b M) (hL : Lf l mv st th M) {Q : QD} {Xd : XD}
    (h : ∀ (lo hi : Int) (mv' : Nat) (M' : Mem), bnd lo hi → mv' + mv1 lo hi = mv → Dr a cells (b + 6) M' → Lf l mv' st th M' → Sm2 a l M M' → Q (.tup [.int lo, .int hi]) M') : W_law_span K c [.ref a, .ref l] M Q Xd := by
  refine E_law_span ?_
  repeat fail
  refine draw_k hc (by omega) (by omega) (by omega) hM fun r1 M1 a1 a2 hD1 hS1 => ?_
  repeat fail
  refine w_powI ⟨by decide, by decide, by decide⟩ ?_
  repeat fail
  refine draw_k hc (by decide) (by decide) (by omega) hD1 fun r2 M2 a3 a4 hD2 hS2 => ?_
  have a4 : r2 < 999960 := a4
  repeat fail
  refine of_k hc (by omega) (by simp) (by simp) hD2 fun d M3 hd hD3 hS3 => ?_
  obtain ⟨lo, rfl, b1, b2⟩ : ∃ sh : Int, d = .int sh ∧ 0 ≤ sh ∧ sh ≤ 999960 := by
    simp only [List.mem_cons, List.not_mem_nil, or_false] at hd
    rcases hd with rfl | rfl | rfl | rfl | rfl | rfl | rfl <;> exact ⟨_, rfl, by omega, by omega⟩
  have hL3 : Lf l mv st th M3 := hS3.lf ne (hS2.lf ne (hS1.lf ne hL))
  have s3 : Sm2 a l M M3 := ((hS1.trans hS2).trans hS3).two
  repeat fail
  refine w_ixRD hL3 (vl_m _ _ _) ?_
  repeat fail
  refine w_ifd (fun z => ?_) fun z => ?_
  · repeat fail
    refine lo_same (h lo lo mv M3 ⟨b1, Int.le_refl _, by omega⟩ (by unfold mv1; rw [if_neg (Int.lt_irrefl _)]; rfl) (hD3.le (by omega)) hL3 s3)
  repeat fail
  refine draw_k hc (by omega) (by omega) (by omega) hD3 fun r4 M4 a5 a6 hD4 hS4 => ?_
  have hL4 := hS4.lf ne hL3
  repeat fail
  by_cases z2 : r4 = 0
  · rw [decide_eq_true z2]
    repeat fail
    refine lo_same (h lo lo mv M4 ⟨b1, Int.le_refl _, by omega⟩ (by unfold mv1; rw [if_neg (Int.lt_irrefl _)]; rfl) (hD4.le (by omega)) hL4 (s3.trans hS4.two))
  rw [decide_eq_false z2]
  repeat fail
  refine w_ixRD hL4 (vl_m _ _ _) ?_
  repeat fail
  obtain ⟨k, rfl⟩ : ∃ k : Nat, mv = k + 1 := ⟨mv - 1, by omega⟩
  refine w_setD hL4 lK_nd ?_
  have e5 : M4.put l (.dct (putD lK (lV (k + 1) st th) (.inr "moves") (.int (((k + 1 : Nat) : Int) - 1))).1 (putD lK (lV (k + 1) st th) (.inr "moves") (.int (((k + 1 : Nat) : Int) - 1))).2) = M4.put l (.dct lK (lV k st th)) := by
    have : ((k + 1 : Nat) : Int) - 1 = (k : Int) := by omega
    rw [this]; rfl
  refine (congrArg _ e5).mpr ?_
  have hL5 : Lf l k st th (M4.put l (.dct lK (lV k st th))) := Mem.put_same
  have hD5 : Dr a cells _ (M4.put l (.dct lK (lV k st th))) := hD4.put (Ne.symm ne)
  have s5 : Sm2 a l M4 (M4.put l (.dct lK (lV k st th))) := fun b y z => Mem.put_ne z
  generalize M4.put l (.dct lK (lV k st th)) = M5 at hL5 hD5 s5
  repeat fail
  refine draw_k hc (by omega) (by omega) (by omega) hD5 fun r6 M6 a7 a8 hD6 hS6 => ?_
  repeat fail
  refine of_k hc (by omega) (by simp) (by simp) hD6 fun d M7 hd hD7 hS7 => ?_
  obtain ⟨up, rfl, c1, c2⟩ : ∃ sh : Int, d = .int sh ∧ 0 ≤ sh ∧ sh ≤ 29 := by
    simp only [List.mem_cons, List.not_mem_nil, or_false] at hd
    rcases hd with rfl | rfl | rfl <;> exact ⟨_, rfl, by omega, by omega⟩
  repeat fail
  refine lo_same (h lo (lo + 1 + up) k M7 ⟨b1, by omega, by omega⟩ (by unfold mv1; rw [if_pos (by omega)]) (hD7.le (by omega)) (hS7.lf ne (hS6.lf ne hL5)) (((s3.trans hS4.two).trans s5).trans (hS6.trans hS7).two))
end
set_option maxHeartbeats 4000000
section
variable {K : Fg} {c : Nat → Addr}
theorem Lf.put_st (mv st th : Nat) (l : Addr) (M : Mem) : M.put l (.dct (putD lK (lV mv (st + 1) th) (.inr "steps") (.int (((st + 1 : Nat) : Int) - 1))).1 (putD lK (lV mv (st + 1) th) (.inr "steps") (.int (((st + 1 : Nat) : Int) - 1))).2) = M.put l (.dct lK (lV mv st th)) := by
  have : ((st + 1 : Nat) : Int) - 1 = (st : Int) := by omega
  rw [this]; rfl
theorem Lf.put_th (mv st th k : Nat) (l : Addr) (M : Mem) : M.put l (.dct (putD lK (lV mv st (th + k)) (.inr "things") (.int (((th + k : Nat) : Int) - (k : Nat)))).1 (putD lK (lV mv st (th + k)) (.inr "things") (.int (((th + k : Nat) : Int) - (k : Nat)))).2) = M.put l (.dct lK (lV mv st th)) := by
  have : ((th + k : Nat) : Int) - (k : Nat) = (th : Int) := by omega
  rw [this]; rfl
theorem Sm2.drop {a l p : Addr} {M M' : Mem} (hp : M p = none) (h : ∀ b, b ≠ a → b ≠ l → b ≠ p → M' b = M b) : Sm2 a l M (M'.del p) := fun b y z => by
  by_cases e : b = p
  · subst e; rw [Mem.del_same, hp]
  · rw [Mem.del_ne e]; exact h b y z e
def ThingOk (K : Fg) (c : Nat → Addr) (a l : Addr) (cells : List Int) (n : Nat) : Prop := ∀ (M : Mem) (b : Int) (mv st th : Nat) (must : Bool) (Q : QD) (Xd : XD), st + 1 ≤ n → (must = true → 1 ≤ st ∧ 1 ≤ th) → th < 1000 → b + 14 * (th + 1) < 2 ^ 48 → Dr a cells b M → Lf l mv st th M →
    (∀ (t : Th) (mv' st' th' : Nat) (M' : Mem), t.ok → mv' + t.mv = mv → st' + t.st = st → th' + t.sz = th + 1 → (must = true → t.isMade = true) → Dr a cells (b + 14 * t.sz) M' → Lf l mv' st' th' M' → Sm2 a l M M' → Q t.d M') → W_law_thing K c n [.ref a, .ref l, .bl must] M Q Xd
theorem thing_loop {a l p : Addr} {cells : List Int} (ne : l ≠ a) (np : p ≠ l) (npa : p ≠ a) {n : Nat} (ih : ThingOk K c a l cells n) {M0 : Mem} {b : Int} {mv st th k : Nat} {d2 d3 d4 d5 d6 : D} {Xd : XD} {nx bk ct : SD → Mem → Prop} {rt : QD} {W : Mem → Prop} (hW : ∀ M, W M)
    (hn : st + 1 ≤ n) (hth : th < 1000) (hb : b + 14 * (th + k) < 2 ^ 48)
    (fin : ∀ (ts : List Th) (mv' st' th' : Nat) (M' : Mem) (o : Option D), ts.length = k → Th.oks ts → mv' + Th.mvs ts = mv → st' + Th.sts ts = st → th' + Th.szs ts = th + k → Dr a cells (b + 14 * Th.szs ts) M' → Lf l mv' st' th' M' → (∀ x, x ≠ a → x ≠ l → x ≠ p → M' x = M0 x) → M' p = some (.lst (Th.ds ts)) →
      nx [some (.ref a), some (.ref l), some d2, some d3, some d4, some d5, some d6, some (.ref p), o] M') :
    ∀ (is : List D) (ts : List Th) (mv' st' th' : Nat) (M' : Mem) (o : Option D), ts.length + is.length = k → k ≤ 3 → Th.oks ts → mv' + Th.mvs ts = mv → st' + Th.sts ts = st → th' + Th.szs ts = th + ts.length → Dr a cells (b + 14 * Th.szs ts) M' → Lf l mv' st' th' M' → (∀ x, x ≠ a → x ≠ l → x ≠ p → M' x = M0 x) → M' p = some (.lst (Th.ds ts)) →
      sForL (gNm 8) (sExpr (dApp (dVar 7) (dCall (W_law_thing K c n) [] (dCons (dVar 0) (dCons (dVar 1) (dCons (dC (.bl false)) dNil)))))) ⟨nx, rt, bk, ct, Xd⟩ W is [some (.ref a), some (.ref l), some d2, some d3, some d4, some d5, some d6, some (.ref p), o] M'
  | [], ts, mv', st', th', M', o, e, hk, h1, h2, h3, h4, h5, h6, h7, h8 => by
    have e : ts.length = k := by simpa using e
    exact w_forNil (hW _) (fin ts mv' st' th' M' o e h1 h2 h3 (by omega) h5 h6 h7 h8)
  | i :: is, ts, mv', st', th', M', o, e, hk, h1, h2, h3, h4, h5, h6, h7, h8 => by
    rw [List.length_cons] at e
    refine w_forCons (hW _) ?_
    repeat fail
    refine w_appO h8 ?_
    repeat fail
    have hge := szs_ge ts
    refine ih M' (b + 14 * Th.szs ts) mv' st' th' false _ _ (by omega) (fun z => by cases z) (by omega) (by omega) h5 h6 fun t mv2 st2 th2 M2 q1 q2 q3 q4 _ q5 q6 q7 => ?_
    have hp2 : M2 p = some (.lst (Th.ds ts)) := (q7 p npa np).trans h8
    refine w_appK hp2 (by rw [ds_map, List.length_map, sizeLine_eq]; omega) ?_
    have e1 : Th.ds ts ++ [t.d] = Th.ds (ts ++ [t]) := by rw [ds_app]; rfl
    rw [e1]
    refine thing_loop ne np npa ih hW hn hth hb fin is (ts ++ [t]) mv2 st2 th2 _ _ (by rw [List.length_append, List.length_singleton]; omega) hk ((oks_app _ _).mpr ⟨h1, q1, trivial⟩) (by rw [mvs_app]; simp only [Th.mvs]; omega) (by rw [sts_app]; simp only [Th.sts]; omega)
      (by rw [szs_app, List.length_append, List.length_singleton]; simp only [Th.szs]; omega) ((q5.put (Ne.symm npa)).le (by rw [szs_app]; simp only [Th.szs]; omega)) ((Mem.put_ne (Ne.symm np)).trans q6)
      (fun x z1 z2 z3 => by rw [Mem.put_ne z3, q7 x z1 z2]; exact h7 x z1 z2 z3) Mem.put_same
theorem thing_k {a l : Addr} {cells : List Int} (hc : cells ≠ []) (ne : l ≠ a) : ∀ (n : Nat), ThingOk K c a l cells n
  | 0 => fun _ _ _ _ _ _ _ _ hn _ _ _ _ _ _ => by omega
  | n + 1 => fun M b mv st th must Q Xd hn hm hth hb hD hL h => by
    refine E_law_thing ?_
    repeat fail
    refine span_k hc (by omega) ne hD hL fun lo hi mv1' M1 hbd hmv hD1 hL1 s1 => ?_
    repeat fail
    refine of_k hc (by omega) (by simp) (by simp) hD1 fun d M2 hd hD2 hS2 => ?_
    obtain ⟨hr, rfl⟩ : ∃ u : Bool, d = landD u := by
      simp only [List.mem_cons, List.not_mem_nil, or_false] at hd
      rcases hd with rfl | rfl
      · exact ⟨true, rfl⟩
      · exact ⟨false, rfl⟩
    have hL2 := hS2.lf ne hL1
    have s2 := s1.trans hS2.two
    -- what comes of a raw one
    have raw : ∀ (M' : Mem), must = false → Dr a cells (b + 8) M' → Lf l mv1' st th M' → Sm2 a l M M' → Lo Q (.tup [.str "raw", landD hr, .int lo, .int hi]) M' := fun M' hmu hD' hL' s' =>
      lo_same (h (.raw hr lo hi) mv1' st th M' hbd hmv (by show st + 0 = st; rfl) (by show th + 1 = th + 1; rfl) (fun z => by rw [hmu] at z; cases z) (hD'.le (by show b + 8 ≤ b + 14 * ((1 : Nat) : Int); omega)) hL' s')
    refine w_join (P := fun M3 => 1 ≤ st ∧ 1 ≤ th ∧ Dr a cells (b + 8) M3 ∧ Lf l mv1' st th M3 ∧ Sm2 a l M M3) (fun M3 ⟨st1, th1, hD3, hL3, s3⟩ => ?_) (fun join => ?_)
    · obtain ⟨st, rfl⟩ : ∃ k, st = k + 1 := ⟨st - 1, by omega⟩
      repeat fail
      refine w_ixRD hL3 (vl_st _ _ _) ?_
      repeat fail
      refine w_setD hL3 lK_nd ?_
      refine (congrArg _ (Lf.put_st mv1' st th l M3)).mpr ?_
      have hL4 : Lf l mv1' st th (M3.put l (.dct lK (lV mv1' st th))) := Mem.put_same
      have hD4 : Dr a cells _ (M3.put l (.dct lK (lV mv1' st th))) := hD3.put (Ne.symm ne)
      have s4 : Sm2 a l M (M3.put l (.dct lK (lV mv1' st th))) := s3.trans fun b y z => Mem.put_ne z
      generalize M3.put l (.dct lK (lV mv1' st th)) = M4 at hL4 hD4 s4
      repeat fail
      refine w_ixRD hL4 (vl_th _ _ _) ?_
      repeat fail
      refine draw_k hc (by split <;> omega) (by split <;> omega) (by omega) hD4 fun r M5 r0 r1 hD5 hS5 => ?_
      have hL5 := hS5.lf ne hL4
      have s5 := s4.trans hS5.two
      obtain ⟨k, rfl⟩ : ∃ k : Nat, r = (k : Int) := ⟨r.toNat, by omega⟩
      have hk : k + 1 ≤ 3 ∧ k + 1 ≤ th := by split at r1 <;> omega
      clear r1
      obtain ⟨th, rfl⟩ : ∃ j, th = j + (k + 1) := ⟨th - (k + 1), by omega⟩
      have ek : (1 : Int) + (k : Int) = ((k + 1 : Nat) : Int) := by omega
      refine w_addI ?_
      rw [ek]
      repeat fail
      refine w_ixRD hL5 (vl_th _ _ _) ?_
      repeat fail
      refine w_lstO ?_
      repeat fail
      intro p hp
      repeat fail
      have np : p ≠ l := fun e => by rw [e] at hp; rw [show M5 l = _ from hL5] at hp; cases hp
      have npa : p ≠ a := fun e => by obtain ⟨_, _, z, _⟩ := hD5; rw [← e, hp] at z; cases z
      have hpM : M p = none := (s5 p npa np).symm.trans hp
      have hL6 : Lf l mv1' st (th + (k + 1)) (M5.put p (.lst [])) := (Mem.put_ne (Ne.symm np)).trans hL5
      refine w_setD hL6 lK_nd ?_
      rw [Lf.put_th mv1' st th (k + 1) l]
      have hL7 : Lf l mv1' st th ((M5.put p (.lst [])).put l (.dct lK (lV mv1' st th))) := Mem.put_same
      have hD7 : Dr a cells _ ((M5.put p (.lst [])).put l (.dct lK (lV mv1' st th))) := (hD5.put (Ne.symm npa)).put (Ne.symm ne)
      have s7 : ∀ b, b ≠ a → b ≠ l → b ≠ p → ((M5.put p (.lst [])).put l (.dct lK (lV mv1' st th))) b = M b := fun b y z w => by
        rw [Mem.put_ne z, Mem.put_ne w]; exact s5 b y z
      have hp7 : ((M5.put p (.lst [])).put l (.dct lK (lV mv1' st th))) p = some (.lst (Th.ds [])) := by rw [Mem.put_ne np]; exact Mem.put_same
      generalize (M5.put p (.lst [])).put l (.dct lK (lV mv1' st th)) = M7 at hL7 hD7 s7 hp7
      repeat fail
      refine w_rng1 (by omega) ?_
      rw [Int.toNat_natCast]
      refine thing_loop (th := th) (mv := mv1') (st := st) (b := b + 9) (k := k + 1) (M0 := M) ne np npa (thing_k hc ne n) (fun _ => wat_none) (by omega) (by omega) (by omega) (fun ts mv' st' th' M' o g1 g2 g3 g4 g5 g6 g7 g8 g9 => ?_) (rngL 0 (k + 1)) [] mv1' st th M7 none (by unfold rngL; simp) hk.1 True.intro (by simp [Th.mvs]) (by simp [Th.sts]) (by simp [Th.szs]) (hD7.le (by simp only [Th.szs]; omega)) hL7 s7 hp7
      repeat fail
      refine term_k hc (by omega) g6 fun sh u w M8 b1 b2 hD8 hS8 => ?_
      repeat fail
      refine w_tupR ((hS8 p npa).trans g9) ?_
      repeat fail
      refine lo_drop p (lo_same ?_)
      have hD9 : Dr a cells (b + 9 + 14 * Th.szs ts + 4) (M8.del p) := by
        obtain ⟨x, s, z1, z2, z3⟩ := hD8
        exact ⟨x, s, (Mem.del_ne (Ne.symm npa)).trans z1, z2, z3⟩
      exact h (.made hr lo hi sh u w ts) mv' st' th' (M8.del p) ⟨hbd, ⟨b1, b2⟩, ⟨by omega, by omega⟩, g2⟩ (by simp only [Th.mv]; omega) (by simp only [Th.st]; omega) (by simp only [Th.sz]; omega) (fun _ => rfl) (hD9.le (by simp only [Th.sz]; omega)) ((Mem.del_ne (Ne.symm np)).trans ((hS8 l ne).trans g7))
        (Sm2.drop hpM fun x z1 z2 z3 => (hS8 x z1).trans (g8 x z1 z2 z3))
    · cases must with
      | true =>
        repeat fail
        exact join M2 ⟨(hm rfl).1, (hm rfl).2, hD2.le (by omega), hL2, s2⟩
      | false =>
        repeat fail
        refine w_ixRD hL2 (vl_st _ _ _) ?_
        repeat fail
        refine w_ifd (fun z => ?_) fun z => ?_
        · repeat fail
          exact raw M2 rfl (hD2.le (by omega)) hL2 s2
        repeat fail
        refine w_ixRD hL2 (vl_th _ _ _) ?_
        repeat fail
        refine w_ifd (fun z => ?_) fun z2 => ?_
        · repeat fail
          exact raw M2 rfl (hD2.le (by omega)) hL2 s2
        repeat fail
        refine draw_k hc (by omega) (by omega) (by omega) hD2 fun r M3 r0 r1 hD3 hS3 => ?_
        repeat fail
        refine w_ifd (fun z => ?_) fun z3 => ?_
        · repeat fail
          exact raw M3 rfl (hD3.le (by omega)) (hS3.lf ne hL2) (s2.trans hS3.two)
        repeat fail
        exact join M3 ⟨by omega, by omega, hD3.le (by omega), hS3.lf ne hL2, s2.trans hS3.two⟩
theorem mv1_max {lo hi : Int} : mv1 (if (lo : Int) > 1 then lo else 1) (if hi > 1 then hi else 1) ≤ mv1 lo hi := by
  unfold mv1
  split <;> split <;> split <;> omega
theorem good_k {a : Addr} {M : Mem} {cells : List Int} {b : Int} {moving making : Nat} (hc : cells ≠ []) (hb : b < 2 ^ 47) (hmo : moving ≤ 3) (hma : 1 ≤ making ∧ making ≤ 4) (hM : Dr a cells b M) {Q : QD} {Xd : XD}
    (h : ∀ (t : Th) (M' : Mem), t.good → t.mv ≤ moving → t.st ≤ making → Dr a cells (b + 150) M' → Sm a M M' → Q t.d M') : W_law_good K c [.ref a, .int moving, .int making] M Q Xd := by
  refine E_law_good ?_
  repeat fail
  refine w_dct ?_
  intro p hp
  have npa : p ≠ a := fun e => by obtain ⟨_, _, z, _⟩ := hM; rw [← e, hp] at z; cases z
  have hM1 : Dr a cells b (M.put p (.dct [] [])) := hM.put (Ne.symm npa)
  have s1 : ∀ x, x ≠ a → x ≠ p → (M.put p (.dct [] [])) x = M x := fun x _ z => Mem.put_ne z
  have e1 : (M.put p (.dct [] [])) p = some (.dct [] []) := Mem.put_same
  generalize M.put p (.dct [] []) = M1 at hM1 s1 e1
  repeat fail
  refine draw_k hc (by omega) (by omega) (by omega) hM1 fun r1 M2 a1 a2 hD2 hS2 => ?_
  repeat fail
  refine draw_k hc (by omega) (by omega) (by omega) hD2 fun r2 M3 a3 a4 hD3 hS3 => ?_
  have hS := hS2.trans hS3
  repeat fail
  refine ⟨(hS p npa).trans e1, ?_⟩
  obtain ⟨mv, rfl⟩ : ∃ k : Nat, r1 = (k : Int) := ⟨r1.toNat, by omega⟩
  obtain ⟨st, hst⟩ : ∃ k : Nat, 1 + r2 = (k : Int) := ⟨(1 + r2).toNat, by omega⟩
  rw [hst]
  have hL4 : Lf p mv st 9 (M3.put p (.dct lK (lV mv st 9))) := Mem.put_same
  have hD4 : Dr a cells _ (M3.put p (.dct lK (lV mv st 9))) := hD3.put (Ne.symm npa)
  have s4 : ∀ x, x ≠ a → x ≠ p → (M3.put p (.dct lK (lV mv st 9))) x = M x := fun x y z => by rw [Mem.put_ne z, hS x y, s1 x y z]
  show sSeq _ _ _ _ (M3.put p (.dct lK (lV mv st 9)))
  generalize M3.put p (.dct lK (lV mv st 9)) = M4 at hL4 hD4 s4
  repeat fail
  refine thing_k hc npa 8 M4 (b + 1 + 1) mv st 9 true _ _ (by omega) (fun _ => ⟨by omega, by omega⟩) (by omega) (by omega) hD4 hL4 fun t mv' st' th' M5 t1 t2 t3 t4 t5 hD5 hL5 hS5 => ?_
  have s5 : ∀ x, x ≠ a → x ≠ p → M5 x = M x := fun x y z => (hS5 x y z).trans (s4 x y z)
  cases t with
  | raw _ _ _ => cases t5 rfl
  | made hr lo hi sh u w ps =>
    rw [Th.d]
    repeat fail
    refine w_addT ?_ ?_
    · show 2 + 2 ≤ sizeLine; decide
    repeat fail
    refine w_addT ?_ ?_
    · show 4 + 2 ≤ sizeLine; decide
    obtain ⟨q1, q2, q3, q4⟩ := t1
    simp only [Th.mv, Th.st, Th.sz] at t2 t3 t4
    have hm1 := mv1_max (lo := lo) (hi := hi)
    refine lo_drop p (lo_same (h (.made hr (if lo > 1 then lo else 1) (if hi > 1 then hi else 1) sh u w ps) (M5.del p) ⟨rfl, ⟨?_, q2, q3, q4⟩, by simp only [Th.sz]; omega, by simp only [Th.st]; omega, by simp only [Th.mv]; omega, ?_⟩ (by simp only [Th.mv]; omega) (by simp only [Th.st]; omega) ?_ ?_))
    · obtain ⟨c1, c2, c3⟩ := q1
      unfold bnd
      split <;> split <;> omega
    · simp only [Th.any, Bool.or_eq_true, decide_eq_true_eq]
      left; split <;> omega
    · obtain ⟨x, s, z1, z2, z3⟩ := hD5
      exact ⟨x, s, (Mem.del_ne (Ne.symm npa)).trans z1, z2, by simp only [Th.sz] at z3; omega⟩
    · intro x hx
      by_cases e : x = p
      · subst e; rw [Mem.del_same, hp]
      · rw [Mem.del_ne e]; exact s5 x hx e
end
set_option maxHeartbeats 4000000
section
variable {K : Fg} {c : Nat → Addr}
def RowsOk (K : Fg) (c : Nat → Addr) (n : Nat) : Prop := ∀ (t : Th) (b : Nat) (M : Mem) (Q : QD) (Xd : XD), t.st + 1 ≤ n → t.sz ≤ 1000 → Q (.lst ((rows t b).map rowD)) M → W_law_rows K c n [t.d, .int b] M Q Xd
theorem rows_loop {n : Nat} (ih : RowsOk K c n) {d0 : D} {b : Nat} {nx bk ct : SD → Mem → Prop} {rt : QD} {Xd : XD} {M : Mem} {W : Mem → Prop} (hW : W M) :
    ∀ (ts : List Th) (nn : List Nat) (rr : List (Th × List Nat)) (o : Option D), rr.length + Th.szs ts ≤ 1000 → nn.length ≤ rr.length → Th.sts ts + 1 ≤ n + 0 → 
    (∀ o, nx [some d0, some (.int b), some (.lst ((rr ++ rowss ts (b + 1 + rr.length)).map rowD)), some (.lst ((nn ++ nums (b + 1 + rr.length) ts).map fun (k : Nat) => D.int (k : Int))), o] M) →
    sForL (gNm 4) (sSeq (sSet 3 (dOp addD (dVar 3) (dLst (dCons (dOp addD (dOp addD (dVar 1) (dC (.int 1))) (dCB lenC (dCons (dVar 2) (dNil)))) (dNil))))) (sSet 2 (dOp addD (dVar 2) (dCall (W_law_rows K c n) [] (dCons (dVar 4) (dCons (dOp addD (dOp addD (dVar 1) (dC (.int 1))) (dCB lenC (dCons (dVar 2) (dNil)))) (dNil))))))) ⟨nx, rt, bk, ct, Xd⟩ W (Th.ds ts)
      [some d0, some (.int b), some (.lst (rr.map rowD)), some (.lst (nn.map fun (k : Nat) => D.int (k : Int))), o] M
  | [], nn, rr, o, h1, h2, h3, h => w_forNil hW (by have := h o; simpa [rowss, nums] using this)
  | t :: ts, nn, rr, o, h1, h2, h3, h => by
    simp only [Th.szs, Th.sts] at h1 h3
    have := sz_pos t
    refine w_forCons hW ?_
    repeat fail
    refine w_addL (by simp only [List.length_map, List.length_singleton, sizeLine_eq]; omega) ?_
    repeat fail
    have e0 : (b : Int) + 1 + (((rr.map rowD).length : Nat) : Int) = ((b + 1 + rr.length : Nat) : Int) := by rw [List.length_map]; omega
    rw [e0]
    refine ih t _ M _ _ (by omega) (by omega) ?_
    repeat fail
    refine w_addL (by simp only [List.length_map, sizeLine_eq, rows_len]; omega) ?_
    have e1 : (nn.map fun (k : Nat) => D.int (k : Int)) ++ [D.int ((b + 1 + rr.length : Nat) : Int)] = ((nn ++ [b + 1 + rr.length]).map fun (k : Nat) => D.int (k : Int)) := by simp
    have e2 : rr.map rowD ++ (rows t (b + 1 + rr.length)).map rowD = (rr ++ rows t (b + 1 + rr.length)).map rowD := by simp
    rw [e1, e2]
    refine rows_loop ih hW ts _ _ _ (by rw [List.length_append, rows_len]; omega) (by rw [List.length_append, List.length_append, List.length_singleton, rows_len]; omega) (by omega) ?_
    intro o
    have := h o
    rw [rowss, nums, ← List.append_assoc] at this
    rw [List.append_assoc nn, List.length_append, rows_len]
    have e3 : b + 1 + (rr.length + t.sz) = b + 1 + rr.length + t.sz := by omega
    rw [e3]
    exact this
theorem rows_k : ∀ n : Nat, RowsOk K c n
  | 0 => fun _ _ _ _ _ h _ _ => by omega
  | n + 1 => fun t b M Q Xd h hz q => by
    refine E_law_rows ?_
    cases t with
    | raw hr lo hi =>
      repeat fail
      refine w_eqS (by decide +kernel) (by decide +kernel) ?_
      rw [show decide ((Str.ofString "raw") = (Str.ofString "made")) = false from by decide +kernel]
      repeat fail
      refine w_forNil wat_none ?_
      repeat fail
      refine w_addL (by simp [sizeLine_eq]) ?_
      exact lo_same q
    | made hr lo hi sh u w ps =>
      simp only [Th.st, Th.sz] at h hz
      repeat fail
      refine w_eqS (by decide +kernel) (by decide +kernel) ?_
      rw [show decide ((Str.ofString "made") = (Str.ofString "made")) = true from by decide +kernel]
      repeat fail
      refine rows_loop (rows_k n) (b := b) wat_none ps [] [] none (by simp; omega) (by simp) (by omega) ?_
      intro o
      repeat fail
      refine w_addL (by simp only [List.length_map, List.length_singleton, sizeLine_eq, List.nil_append, rowss_len]; omega) ?_
      exact lo_same q
end
set_option maxHeartbeats 4000000
section
variable {K : Fg} {c : Nat → Addr}
theorem abs_e (i : Int) : (if i < 0 then -i else i) = (i.natAbs : Int) := by split <;> omega
theorem gcd_loop {nx bk ct : SD → Mem → Prop} {rt : QD} {Xd : XD} {M : Mem} {d0 d1 : D} {o : Option D} : ∀ (n i j : Nat), j < n → nx [some d0, some d1, some (.int (Nat.gcd i j : Nat)), some (.int 0), o] M →
    sWhN (dTst (dOp neD (dVar 3) (dC (.int 0)))) (sPar 2 3 (dCons (dVar 3) (dCons (dOp modD (dCB intC (dCons (dVar 2) (dNil))) (dVar 3)) (dNil)))) ⟨nx, rt, bk, ct, Xd⟩ n [some d0, some d1, some (.int i), some (.int j), o] M
  | 0, _, _, h, _ => by omega
  | n + 1, i, j, h, q => by
    refine w_whS ?_
    repeat fail
    refine w_ifnd (fun z => ?_) fun z => ?_
    · repeat fail
      refine w_modI (by omega) ?_
      repeat fail
      rw [← Int.natCast_emod]
      have hj : 0 < j := by omega
      have := Nat.mod_lt i hj
      refine gcd_loop n j (i % j) (by omega) ?_
      have e : Nat.gcd j (i % j) = Nat.gcd i j := by
        rw [Nat.gcd_comm i j, Nat.gcd_rec j i, Nat.gcd_comm]
      rw [e]; exact q
    · have hj : j = 0 := by omega
      subst hj
      rw [Nat.gcd_zero_right] at q
      exact q
theorem least_k {p q : Int} {M : Mem} {Q : QD} {Xd : XD} (hq : 0 < q) (b1 : p.natAbs ≤ 2 ^ 4000) (b2 : q.natAbs ≤ 2 ^ 4000) (h : Q (frD (lt p q)) M) : W_law_least K c [.int p, .int q] M Q Xd := by
  refine E_law_least ?_
  repeat fail
  rw [abs_e, abs_e]
  refine w_while (q.natAbs + 1) (gcd_loop _ _ _ (Nat.lt_succ_self _) ?_)
  have hg : (0 : Int) < (Nat.gcd p.natAbs q.natAbs : Nat) := gcd_pos' (p := p) hq
  have hgb : Nat.gcd p.natAbs q.natAbs ≤ 2 ^ 4000 := Nat.le_trans (Nat.gcd_le_right _ (by omega)) b2
  repeat fail
  refine w_ifdT hq ?_
  repeat fail
  refine w_mulI (mulW2 (a := 1) (b := 4000) (by decide) b1 (by decide)) ?_
  repeat fail
  refine w_fdivI (divW2 (b := 4000) hg hgb (by decide)) ?_
  repeat fail
  refine w_mulI (mulW2 (a := 1) (b := 4000) (by decide) b2 (by decide)) ?_
  repeat fail
  refine w_fdivI (divW2 (b := 4000) hg hgb (by decide)) ?_
  repeat fail
  rw [Int.one_mul, Int.one_mul]
  exact lo_same h
theorem sum_loop {nx bk ct : SD → Mem → Prop} {rt : QD} {Xd : XD} {M : Mem} {d0 : D} {W : Mem → Prop} (hW : W M) : ∀ (fs : List (Int × Int)) (f : Int × Int) (k : Nat) (o : Option D), FB k f → (∀ g ∈ fs, FOk g) → k + fs.length ≤ 50 →
    (∀ (g : Int × Int) (o : Option D), g = fs.foldl addF f → FB 50 g → nx [some d0, some (.int g.1), some (.int g.2), o] M) →
    sForL (gNm 3) (sPar 1 2 (dCons (dOp addD (dOp mulD (dVar 1) (dOp ixD (dVar 3) (dC (.int 1)))) (dOp mulD (dOp ixD (dVar 3) (dC (.int 0))) (dVar 2))) (dCons (dOp mulD (dVar 2) (dOp ixD (dVar 3) (dC (.int 1)))) (dNil)))) ⟨nx, rt, bk, ct, Xd⟩ W (fs.map frD) [some d0, some (.int f.1), some (.int f.2), o] M
  | [], f, k, o, hf, _, hk, h => w_forNil hW (h f o rfl (by
      have e : 2 ^ (65 * k) ≤ 2 ^ (65 * 50) := Nat.pow_le_pow_right (by decide) (by simp at hk; omega)
      exact ⟨Nat.le_trans hf.1 e, hf.2.1, Nat.le_trans hf.2.2 e⟩))
  | g :: fs, f, k, o, hf, hg, hk, h => by
    have hg1 := hg g List.mem_cons_self
    rw [List.length_cons] at hk
    refine w_forCons hW ?_
    unfold frD
    repeat fail
    refine w_mulI (mulW2 hf.1 hg1.2.2 (by omega)) ?_
    repeat fail
    refine w_mulI (mulW2 hg1.1 hf.2.2 (by omega)) ?_
    repeat fail
    refine w_mulI (mulW2 hf.2.2 hg1.2.2 (by omega)) ?_
    repeat fail
    exact sum_loop hW fs (addF f g) (k + 1) _ (addF_ok hf hg1) (fun x hx => hg x (List.mem_cons_of_mem _ hx)) (by omega) h
theorem sum_k {fs : List (Int × Int)} {M : Mem} {Q : QD} {Xd : XD} (hf : ∀ g ∈ fs, FOk g) (hl : fs.length ≤ 50) (h : Q (frD (lt (sumF fs).1 (sumF fs).2)) M) : W_law_sum K c [.lst (fs.map frD)] M Q Xd := by
  refine E_law_sum ?_
  repeat fail
  refine sum_loop wat_none fs (0, 1) 0 none ⟨by decide, by decide, by decide⟩ hf (by omega) fun g o e hb => ?_
  repeat fail
  subst e
  have e : 2 ^ (65 * 50) ≤ 2 ^ 4000 := Nat.pow_le_pow_right (by decide) (by decide)
  exact least_k hb.2.1 (Nat.le_trans hb.1 e) (Nat.le_trans hb.2.2 e) (lo_same h)
end
set_option maxHeartbeats 4000000
set_option maxHeartbeats 4000000
section
variable {K : Fg} {c : Nat → Addr}
theorem d_ix1 {t : Th} {M : Mem} {Q : QD} (h : Q (landD t.here) M) : ixD t.d (.int 1) M Q := by
  cases t with
  | raw _ _ _ => rw [Th.d]; exact w_ixT1 h
  | made _ _ _ _ _ _ _ => rw [Th.d]; exact w_ixT1 h
structure PrOk (row : List (Int × Int)) (n : Nat) (u A : Int) (a : Nat → Int) : Prop where
  len : row.length = n
  nn : n ≤ 40
  at_ : ∀ k, k < n → ∃ f, row[k]? = some f ∧ FOk f ∧ Rep u (a k) f
  ha : ∀ k, 0 ≤ a k ∧ a k ≤ A
  hu : 0 < u
  uB : u.natAbs ≤ 2 ^ 64
  aB : (40 : Int) * A ≤ 2 ^ 64
theorem sz_le {t : Th} : ∀ {ps : List Th}, t ∈ ps → t.sz ≤ Th.szs ps
  | [], h => by cases h
  | s :: ss, h => by
    simp only [Th.szs]
    rcases List.mem_cons.mp h with rfl | h
    · omega
    · have := sz_le h; omega
theorem oks_mem {t : Th} : ∀ {ps : List Th}, Th.oks ps → t ∈ ps → t.ok
  | [], _, h => by cases h
  | s :: ss, ⟨h1, h2⟩, h => by
    rcases List.mem_cons.mp h with rfl | h
    · exact h1
    · exact oks_mem h2 h
mutual
theorem rows_ok : ∀ (t : Th) (b : Nat), t.ok → ∀ r ∈ rows t b, r.1.ok ∧ r.1.sz ≤ t.sz
  | .raw h lo hi, b, ho, r, hr => by
    simp only [rows, List.mem_singleton] at hr
    subst hr; exact ⟨ho, Nat.le_refl _⟩
  | .made h lo hi sh u w ps, b, ho, r, hr => by
    rw [rows, List.mem_cons] at hr
    rcases hr with rfl | hr
    · exact ⟨ho, Nat.le_refl _⟩
    · have := rowss_ok ps (b + 1) ho.2.2.2 r hr
      simp only [Th.sz]
      exact ⟨this.1, by omega⟩
theorem rowss_ok : ∀ (ts : List Th) (b : Nat), Th.oks ts → ∀ r ∈ rowss ts b, r.1.ok ∧ r.1.sz ≤ Th.szs ts
  | [], _, _, r, hr => by cases hr
  | t :: ts, b, ho, r, hr => by
    rw [rowss, List.mem_append] at hr
    simp only [Th.szs]
    rcases hr with hr | hr
    · have := rows_ok t b ho.1 r hr
      exact ⟨this.1, by omega⟩
    · have := rowss_ok ts _ ho.2 r hr
      exact ⟨this.1, by omega⟩
end
theorem at_ok {t : Th} {i : Nat} (h : t.ok) (hi : i < t.sz) : (atR (rows t 0) i).ok ∧ (atR (rows t 0) i).sz ≤ t.sz := rows_ok t 0 h _ (List.mem_of_getElem? (at_row hi))
section
variable {row : List (Int × Int)} {n : Nat} {u A : Int} {a : Nat → Int}
theorem PrOk.A0 (P : PrOk row n u A a) : 0 ≤ A := by have := P.ha 0; omega
theorem PrOk.cst (P : PrOk row n u A a) {t : Th} (ht : t.sz ≤ 40) (b : Nat) : FOk (lt (t.cst b a) u) := by
  have h := cst_bd P.ha t b
  have h1 : (t.sz : Int) * A ≤ 40 * A := Int.mul_le_mul_of_nonneg_right (by omega) P.A0
  have := P.aB
  exact fok_lt P.hu (by omega) P.uB
theorem PrOk.cnt (P : PrOk row n u A a) {t : Th} (ht : t.sz ≤ 40) (b : Nat) : FOk (lt (t.cnt b a) u) ∧ FOk (lt (t.own b a) u) := by
  have h := cst_bd P.ha t b
  have h1 : (t.sz : Int) * A ≤ 40 * A := Int.mul_le_mul_of_nonneg_right (by omega) P.A0
  have h2 := cnt_bd P.ha t b
  have := P.aB
  exact ⟨fok_lt P.hu (by omega) P.uB, fok_lt P.hu (by omega) P.uB⟩
end
end
set_option maxHeartbeats 4000000
set_option maxHeartbeats 4000000
section
variable {K : Fg} {c : Nat → Addr}
def wordsL (t : Th) (a : Nat → Int) : List Bool := (List.range t.sz).filterMap fun j => (atR (rows t 0) j).word j a
def Th.lo : Th → Int
  | .raw _ lo _ => lo
  | .made _ lo _ _ _ _ _ => lo
def Th.hi : Th → Int
  | .raw _ _ hi => hi
  | .made _ _ hi _ _ _ _ => hi
theorem d_ix2 {t : Th} {M : Mem} {Q : QD} (h : Q (.int (Th.lo t)) M) : ixD t.d (.int 2) M Q := by
  cases t with
  | raw _ _ _ => rw [Th.d]; exact w_ixT2 h
  | made _ _ _ _ _ _ _ => rw [Th.d]; exact w_ixT2 h
theorem d_ix3 {t : Th} {M : Mem} {Q : QD} (h : Q (.int (Th.hi t)) M) : ixD t.d (.int 3) M Q := by
  cases t with
  | raw _ _ _ => rw [Th.d]; exact w_ixT3 h
  | made _ _ _ _ _ _ _ => rw [Th.d]; exact w_ixT3 h
structure FPr (t : Th) (f : Int × Int) : Prop where
  pos : 0 < f.2
  cop : Int.gcd f.1 f.2 = 1
  dvd : f.2 ∣ 2100
  lo : Th.lo t * f.2 ≤ f.1
  hi : f.1 ≤ Th.hi t * f.2
inductive RowR : List (Th × List Nat) → List (Int × Int) → Prop
  | nil : RowR [] []
  | cons {e : Th × List Nat} {f : Int × Int} {rs : List (Th × List Nat)} {fs : List (Int × Int)} (h : FPr e.1 f) (r : RowR rs fs) : RowR (e :: rs) (f :: fs)
theorem ok_bnd {t : Th} (h : t.ok) : bnd (Th.lo t) (Th.hi t) := by
  cases t with
  | raw _ _ _ => exact h
  | made _ _ _ _ _ _ _ => exact h.1
theorem fpr_of {t : Th} {of part : Int} (ho : 0 < of) (hd : of ∣ 2100) (h0 : 0 ≤ part) (h1 : part ≤ (Th.hi t - Th.lo t) * of) : FPr t (lt (Th.lo t * of + part) of) := by
  have hp := lt_pos (p := Th.lo t * of + part) ho
  have hc := lt_cross (p := Th.lo t * of + part) (q := of)
  have hm := lt_mul (p := Th.lo t * of + part) (q := of)
  refine ⟨hp, lt_cop ho, ?_, ?_, ?_⟩
  · exact Int.dvd_trans ⟨_, hm.2.symm⟩ hd
  · refine Int.le_of_mul_le_mul_right (a := of) ?_ ho
    rw [hc, Int.mul_right_comm]
    exact Int.mul_le_mul_of_nonneg_right (by omega) (by omega)
  · refine Int.le_of_mul_le_mul_right (a := of) ?_ ho
    rw [hc, Int.mul_right_comm]
    refine Int.mul_le_mul_of_nonneg_right ?_ (by omega)
    rw [Int.sub_mul] at h1
    omega
theorem prices_loop {a : Addr} {cells : List Int} {p : Addr} (hc : cells ≠ []) (npa : p ≠ a) {M0 : Mem} {nx bk ct : SD → Mem → Prop} {rt : QD} {Xd : XD} {d1 : D} {W : Mem → Prop} (hW : ∀ M, W M) {B : Int} (hB : B + 3 * 50 < 2 ^ 48) :
    ∀ (rs : List (Th × List Nat)) (done : List (Int × Int)) (M' : Mem) (o3 o4 o5 o6 o7 o8 : Option D), (∀ r ∈ rs, r.1.ok) → done.length + rs.length ≤ 50 → Dr a cells (B + 3 * done.length) M' → M' p = some (.lst (done.map frD)) → (∀ x, x ≠ a → x ≠ p → M' x = M0 x) →
      (∀ (fs : List (Int × Int)) (M' : Mem) (o3 o4 o5 o6 o7 o8 : Option D), RowR rs fs → Dr a cells (B + 3 * (done.length + rs.length)) M' → M' p = some (.lst ((done ++ fs).map frD)) → (∀ x, x ≠ a → x ≠ p → M' x = M0 x) → nx [some (.ref a), some d1, some (.ref p), o3, o4, o5, o6, o7, o8] M') →
      sForL (gTp 2 (gCo (gNm 3) (gCo (gNm 4) (gNi)))) (sSeq (sPar 5 6 (dCons (dOp ixD (dVar 3) (dC (.int 2))) (dCons (dOp ixD (dVar 3) (dC (.int 3))) (dNil)))) (sSeq (sSet 7 (dCall (W_law_of K c) [] (dCons (dVar 0) (dCons (dLst (dCons (dC (.int 1)) (dCons (dC (.int 1)) (dCons (dC (.int 2)) (dCons (dC (.int 3)) (dCons (dC (.int 7)) (dCons (dC (.int 100)) (dNil)))))))) (dNil))))) (sSeq (sSet 8 (dCall (W_law_of K c) [] (dCons (dVar 0) (dCons (dLst (dCons (dC (.int 0)) (dCons (dOp mulD (dOp subD (dVar 6) (dVar 5)) (dVar 7)) (dCons (dCall (W_law_draw K c) [] (dCons (dVar 0) (dCons (dOp addD (dOp mulD (dOp subD (dVar 6) (dVar 5)) (dVar 7)) (dC (.int 1))) (dNil)))) (dNil))))) (dNil))))) (sExpr (dApp (dVar 2) (dCall (W_law_least K c) [] (dCons (dOp addD (dOp mulD (dVar 5) (dVar 7)) (dVar 8)) (dCons (dVar 7) (dNil))))))))) ⟨nx, rt, bk, ct, Xd⟩ W (rs.map rowD) [some (.ref a), some d1, some (.ref p), o3, o4, o5, o6, o7, o8] M'
  | [], done, M', o3, o4, o5, o6, o7, o8, h1, h2, h3, h4, h5, h => w_forNil (hW _) (h [] M' o3 o4 o5 o6 o7 o8 .nil (by simpa using h3) (by simpa using h4) h5)
  | (t, ns) :: rs, done, M', o3, o4, o5, o6, o7, o8, h1, h2, h3, h4, h5, h => by
    have ht : bnd (Th.lo t) (Th.hi t) := ok_bnd (h1 (t, ns) List.mem_cons_self)
    rw [List.length_cons] at h2
    refine w_forCons (hW _) ?_
    have erD : rowD (t, ns) = .tup [t.d, .lst (ns.map fun (j : Nat) => D.int (j : Int))] := rfl
    rw [erD]
    repeat fail
    refine d_ix2 ?_
    repeat fail
    refine d_ix3 ?_
    repeat fail
    refine of_k hc (by omega) (by simp) (by simp) h3 fun d M1 hd hD1 hS1 => ?_
    obtain ⟨of, rfl, o1, o2, o3'⟩ : ∃ of : Int, d = .int of ∧ 0 < of ∧ of ≤ 100 ∧ of ∣ 2100 := by
      simp only [List.mem_cons, List.not_mem_nil, or_false] at hd
      rcases hd with rfl | rfl | rfl | rfl | rfl | rfl <;> exact ⟨_, rfl, by decide, by decide, by decide⟩
    unfold bnd at ht

    have hw0 : 0 ≤ Th.hi t - Th.lo t := by omega
    have hw1 : (Th.hi t - Th.lo t) * of ≤ 1000000 * 100 := Int.mul_le_mul (by omega) o2 (by omega) (by omega)
    have hw2 : 0 ≤ (Th.hi t - Th.lo t) * of := Int.mul_nonneg hw0 (by omega)
    have hw3 : CMulW (Th.hi t - Th.lo t) of := mulW2 (a := 20) (b := 7) (by omega) (by omega) (by decide)
    repeat fail
    refine w_mulI hw3 ?_
    repeat fail
    refine w_mulI hw3 ?_
    repeat fail
    generalize hgw : (Th.hi t - Th.lo t) * of = w at hw1 hw2
    refine draw_k hc (by omega) (by omega) (by omega) hD1 fun r M2 a1 a2 hD2 hS2 => ?_
    repeat fail
    refine of_k hc (by omega) (by simp) (by simp) hD2 fun d M3 hd hD3 hS3 => ?_
    obtain ⟨part, rfl, p1, p2⟩ : ∃ x : Int, d = .int x ∧ 0 ≤ x ∧ x ≤ w := by
      simp only [List.mem_cons, List.not_mem_nil, or_false] at hd
      rcases hd with rfl | rfl | rfl <;> exact ⟨_, rfl, by omega, by omega⟩
    have hS := (hS1.trans hS2).trans hS3
    have h4' : M3 p = some (.lst (done.map frD)) := (hS p npa).trans h4
    repeat fail
    refine w_appO h4' ?_
    repeat fail
    refine w_mulI (mulW2 (a := 20) (b := 7) (by omega) (by omega) (by decide)) ?_
    repeat fail
    have lb : 0 ≤ Th.lo t * of := Int.mul_nonneg (by omega) (by omega)
    have lb2 : Th.lo t * of ≤ 1000000 * 100 := Int.mul_le_mul (by omega) o2 (by omega) (by omega)
    have big : (2 : Nat) ^ 40 ≤ 2 ^ 4000 := Nat.pow_le_pow_right (by decide) (by decide)
    refine least_k o1 (Nat.le_trans (by omega) big) (Nat.le_trans (by omega) big) ?_
    have hf := fpr_of (t := t) o1 o3' p1 (by rw [hgw]; exact p2)
    generalize lt (Th.lo t * of + part) of = f at hf
    refine w_appK h4' (by rw [List.length_map, sizeLine_eq]; omega) ?_
    have e1 : done.map frD ++ [frD f] = (done ++ [f]).map frD := by simp
    rw [e1]
    refine prices_loop (M0 := M0) hc npa hW hB rs (done ++ [f]) _ _ _ _ _ _ _ (fun r hr => h1 r (List.mem_cons_of_mem _ hr)) (by rw [List.length_append, List.length_singleton]; omega) ((hD3.put (Ne.symm npa)).le (by rw [List.length_append, List.length_singleton]; omega)) Mem.put_same
      (fun x z1 z2 => by rw [Mem.put_ne z2, hS x z1]; exact h5 x z1 z2) fun fs M4 o3 o4 o5 o6 o7 o8 k1 k2 k3 k4 => ?_
    refine h (f :: fs) M4 o3 o4 o5 o6 o7 o8 (.cons hf k1) (by rw [List.length_append, List.length_singleton] at k2; rw [List.length_cons]; exact k2.le (by omega)) (by rw [List.append_assoc] at k3; exact k3) k4
theorem prices_k {a : Addr} {cells : List Int} {t : Th} {b : Int} (hc : cells ≠ []) (ht : t.ok) (hst : t.st ≤ 7) (hz : t.sz ≤ 10) (hb : b < 2 ^ 47) {M : Mem} (hD : Dr a cells b M) {Q : QD} {Xd : XD}
    (h : ∀ (fs : List (Int × Int)) (M' : Mem), RowR (rows t 0) fs → Dr a cells (b + 30) M' → Sm a M M' → Q (.tup (fs.map frD)) M') : W_law_prices K c [.ref a, t.d] M Q Xd := by
  refine E_law_prices ?_
  repeat fail
  refine w_lstO ?_
  repeat fail
  intro p hp
  have npa : p ≠ a := fun e => by obtain ⟨_, _, z, _⟩ := hD; rw [← e, hp] at z; cases z
  repeat fail
  refine rows_k 8 t 0 _ _ _ (by omega) (by omega) ?_
  repeat fail
  refine prices_loop (B := b) (M0 := M) hc npa (fun _ => wat_none) (by omega) (rows t 0) [] _ none none none none none none (fun r hr => (rows_ok t 0 ht r hr).1) (by rw [rows_len]; simp; omega) ((hD.put (Ne.symm npa)).le (by simp)) Mem.put_same (fun x z1 z2 => Mem.put_ne z2) fun fs M' o3 o4 o5 o6 o7 o8 k1 k2 k3 k4 => ?_
  repeat fail
  refine w_tupR k3 ?_
  repeat fail
  refine lo_drop p (lo_same (h fs _ k1 ?_ ?_))
  · obtain ⟨x, s, z1, z2, z3⟩ := k2
    exact ⟨x, s, (Mem.del_ne (Ne.symm npa)).trans z1, z2, by rw [rows_len] at z3; simp at z3; omega⟩
  · intro x hx
    by_cases e : x = p
    · subst e; rw [Mem.del_same, hp]
    · rw [Mem.del_ne e]; exact k4 x hx e
end
set_option maxHeartbeats 4000000
section
variable {K : Fg} {c : Nat → Addr}
theorem fraction_k {p q lo hi : Int} {M : Mem} {Q : QD} {Xd : XD} (hq : 0 < q) (hc : Int.gcd p q = 1) (h1 : lo * q ≤ p) (h2 : p ≤ hi * q) (w1 : CMulW lo q) (w2 : CMulW hi q) (h : Q (.bl true) M) : Wis_fraction K c [.tup [.int p, .int q], .int lo, .int hi] M Q Xd := by
  refine Eis_fraction ?_
  repeat fail
  refine w_ifF ?_
  repeat fail
  refine w_orD (fun z => ?_) fun z => ?_
  · repeat fail
    refine w_mulI w1 ?_
    repeat fail
    refine w_chdT h1 ?_
    repeat fail
    refine w_mulI w2 ?_
    repeat fail
    rw [decide_eq_true h2]
    exact lo_same h
  · repeat fail
    refine w_andD (by omega) ?_
    repeat fail
    have e : ((Nat.gcd p.natAbs q.natAbs : Nat) : Int) = 1 := by
      have : Nat.gcd p.natAbs q.natAbs = 1 := hc
      omega
    rw [decide_eq_true e]
    repeat fail
    refine w_mulI w1 ?_
    repeat fail
    refine w_chdT h1 ?_
    repeat fail
    refine w_mulI w2 ?_
    repeat fail
    rw [decide_eq_true h2]
    exact lo_same h
theorem lowest_k {p q : Int} {M : Mem} {Q : QD} {Xd : XD} (hq : 0 < q) (b : q.natAbs ≤ 2 ^ 4000) (h : Q (frD (lt p q)) M) : Wlowest_terms K c [.int p, .int q] M Q Xd := by
  refine Elowest_terms ?_
  have hg : (0 : Int) < (Nat.gcd p.natAbs q.natAbs : Nat) := gcd_pos' (p := p) hq
  have hgb : Nat.gcd p.natAbs q.natAbs ≤ 2 ^ 4000 := Nat.le_trans (Nat.gcd_le_right _ (by omega)) b
  repeat fail
  refine w_fdivI (divW2 (b := 4000) hg hgb (by decide)) ?_
  repeat fail
  refine w_fdivI (divW2 (b := 4000) hg hgb (by decide)) ?_
  repeat fail
  exact lo_same h
structure FP (t : Th) (f : Int × Int) : Prop where
  pos : 0 < f.2
  cop : Int.gcd f.1 f.2 = 1
  dvd : f.2 ∣ 2100
  lo : lowOf t * f.2 ≤ f.1
  hi : f.1 ≤ higOf t * f.2
  bd : bnd (lowOf t) (higOf t)
inductive FPs : List Th → List (Int × Int) → Prop
  | nil : FPs [] []
  | cons {t : Th} {f : Int × Int} {ts : List Th} {fs : List (Int × Int)} (h : FP t f) (r : FPs ts fs) : FPs (t :: ts) (f :: fs)
theorem FPs.len {ts : List Th} {fs : List (Int × Int)} (h : FPs ts fs) : fs.length = ts.length := by
  induction h with
  | nil => rfl
  | cons _ _ ih => rw [List.length_cons, List.length_cons, ih]
theorem dvd_le {q : Int} (h : q ∣ 2100) (h0 : 0 < q) : q ≤ 2100 := Int.le_of_dvd (by decide) h
theorem prices_walk {nx bk ct : SD → Mem → Prop} {rt : QD} {Xd : XD} {d0 : D} {W : Mem → Prop} {M : Mem} (hW : W M) {all : List (Int × Int)} (hl : all.length ≤ 1000) (h : ∀ o2 o3, nx [some d0, some (.tup (all.map frD)), o2, o3] M) : ∀ (ts : List Th) (fs pre : List (Int × Int)) (o2 o3 : Option D), FPs ts fs → all = pre ++ fs →
    sForL (gTp 2 (gCo (gNm 2) (gCo (gNm 3) (gNi)))) (sIf (tNotD (dTru (dCall (Wis_fraction K c) [] (dCons (dOp ixD (dVar 1) (dVar 2)) (dCons (dOp ixD (dVar 3) (dC (.int 2))) (dCons (dOp ixD (dVar 3) (dC (.int 3))) (dNil))))))) (sRaise (c 2) ["number"] (dCons (dVar 2) (dNil))) (sNx)) ⟨nx, rt, bk, ct, Xd⟩ W (enmFrom pre.length (Th.ds ts)) [some d0, some (.tup (all.map frD)), o2, o3] M
  | [], [], pre, o2, o3, .nil, e => w_forNil hW (h _ _)
  | t :: ts, f :: fs, pre, o2, o3, .cons hf hr, e => by
    rw [Th.ds, enmFrom]
    refine w_forCons hW ?_
    repeat fail
    have e1 : (all.map frD)[pre.length]? = some (frD f) := by rw [e, List.getElem?_map, List.getElem?_append_right (Nat.le_refl _)]; simp
    refine w_ixT (atI_nat e1) ?_
    repeat fail
    refine d_ix2' ?_
    repeat fail
    refine d_ix3' ?_
    repeat fail
    have hb := dvd_le hf.dvd hf.pos
    obtain ⟨b1, b2, b3⟩ := hf.bd
    have hp := hf.pos
    refine fraction_k hf.pos hf.cop hf.lo hf.hi (mulW2 (a := 20) (b := 12) (by omega) (by omega) (by decide)) (mulW2 (a := 20) (b := 12) (by omega) (by omega) (by decide)) ?_
    repeat fail
    have := prices_walk (bk := bk) (ct := ct) (rt := rt) (Xd := Xd) hW hl h ts fs (pre ++ [f]) (some (.int (pre.length : Int))) (some t.d) hr (by rw [e, List.append_assoc]; rfl)
    rw [List.length_append, List.length_singleton] at this
    exact this
theorem need_k {ts : List Th} {fs : List (Int × Int)} {M : Mem} {Q : QD} {Xd : XD} (hf : FPs ts fs) (hl : ts.length ≤ 1000) (h : Q (.tup (fs.map frD)) M) : Wneed_prices K c [.lst (Th.ds ts), .tup (fs.map frD)] M Q Xd := by
  have e := hf.len
  refine Eneed_prices ?_
  repeat fail
  refine w_ifnd (fun z => ?_) fun z => ?_
  · exact absurd (by rw [List.length_map, ds_map, List.length_map, e]) z
  repeat fail
  refine prices_walk wat_none (by omega) (fun o2 o3 => ?_) ts fs [] none none hf rfl
  repeat fail
  exact lo_same h
def unitF (u : Int) (fs : List (Int × Int)) : Int := fs.foldl (fun u f => ((Nat.lcm u.natAbs f.2.natAbs : Nat) : Int)) u
theorem unitF_ok : ∀ (fs : List (Int × Int)) (u : Int), 0 < u → u ∣ 2100 → (∀ f ∈ fs, 0 < f.2 ∧ f.2 ∣ 2100) → (0 < unitF u fs ∧ unitF u fs ∣ 2100) ∧ u ∣ unitF u fs ∧ ∀ f ∈ fs, f.2 ∣ unitF u fs
  | [], u, h0, h1, _ => ⟨⟨h0, h1⟩, Int.dvd_refl _, fun f hf => by cases hf⟩
  | f :: fs, u, h0, h1, h2 => by
    have hf := h2 f List.mem_cons_self
    have p : (0 : Int) < ((Nat.lcm u.natAbs f.2.natAbs : Nat) : Int) := by
      have : 0 < Nat.lcm u.natAbs f.2.natAbs := Nat.lcm_pos (by omega) (by omega)
      omega
    have d : ((Nat.lcm u.natAbs f.2.natAbs : Nat) : Int) ∣ 2100 := by
      have a1 : u.natAbs ∣ 2100 := by have := Int.natAbs_dvd_natAbs.mpr h1; exact this
      have a2 : f.2.natAbs ∣ 2100 := by have := Int.natAbs_dvd_natAbs.mpr hf.2; exact this
      exact Int.natCast_dvd_natCast.mpr (Nat.lcm_dvd a1 a2)
    obtain ⟨i1, i2, i3⟩ := unitF_ok fs _ p d fun g hg => h2 g (List.mem_cons_of_mem _ hg)
    have e1 : u ∣ ((Nat.lcm u.natAbs f.2.natAbs : Nat) : Int) := by
      rw [← Int.natAbs_dvd]
      exact Int.natCast_dvd_natCast.mpr (Nat.dvd_lcm_left _ _)
    have e2 : f.2 ∣ ((Nat.lcm u.natAbs f.2.natAbs : Nat) : Int) := by
      rw [← Int.natAbs_dvd]
      exact Int.natCast_dvd_natCast.mpr (Nat.dvd_lcm_right _ _)
    refine ⟨i1, Int.dvd_trans e1 i2, fun g hg => ?_⟩
    rcases List.mem_cons.mp hg with rfl | hg
    · exact Int.dvd_trans e2 i2
    · exact i3 g hg
theorem w_lcm {i j : Int} {M : Mem} {Q : QD} (hw : i.natAbs < 2 ^ 64 ∧ j.natAbs < 2 ^ 64) (h : Q (.int ((Nat.lcm i.natAbs j.natAbs : Nat) : Int)) M) : lcmC [.int i, .int j] M Q := ⟨hw, h⟩
theorem unitQ_loop {nx bk ct : SD → Mem → Prop} {rt : QD} {Xd : XD} {d0 : D} {W : Mem → Prop} {M : Mem} (hW : W M) : ∀ (fs : List (Int × Int)) (u : Int) (o2 o3 : Option D), 0 < u → u ∣ 2100 → (∀ f ∈ fs, 0 < f.2 ∧ f.2 ∣ 2100) → (∀ o2 o3, nx [some d0, some (.int (unitF u fs)), o2, o3] M) →
    sForL (gTp 2 (gCo (gNm 2) (gCo (gNm 3) (gNi)))) (sSet 1 (dCB lcmC (dCons (dVar 1) (dCons (dVar 3) (dNil))))) ⟨nx, rt, bk, ct, Xd⟩ W (fs.map frD) [some d0, some (.int u), o2, o3] M
  | [], u, o2, o3, _, _, _, h => w_forNil hW (h _ _)
  | f :: fs, u, o2, o3, h0, h1, h2, h => by
    rw [List.map_cons, frD]
    refine w_forCons hW ?_
    repeat fail
    have hf := h2 f List.mem_cons_self
    have k1 := dvd_le h1 h0
    have k2 := dvd_le hf.2 hf.1
    refine w_lcm (by omega) ?_
    repeat fail
    have h3 := unitF_ok [f] u h0 h1 fun g hg => h2 g (by rw [List.mem_singleton] at hg; subst hg; exact List.mem_cons_self)
    exact unitQ_loop hW fs _ _ _ h3.1.1 h3.1.2 (fun g hg => h2 g (List.mem_cons_of_mem _ hg)) h
theorem unit_k {fs : List (Int × Int)} {M : Mem} {Q : QD} {Xd : XD} (hf : ∀ f ∈ fs, 0 < f.2 ∧ f.2 ∣ 2100) (h : Q (.int (unitF 1 fs)) M) : Wcommon_unit K c [.tup (fs.map frD)] M Q Xd := by
  refine Ecommon_unit ?_
  repeat fail
  refine unitQ_loop wat_none fs 1 none none (by decide) (by decide) hf fun o2 o3 => ?_
  repeat fail
  exact lo_same h
def inU (u : Int) (f : Int × Int) : Int := f.1 * (u / f.2)
def inUD (u : Int) : D → D
  | .tup [.int p, .int q] => .int (p * (u / q))
  | _ => .non
theorem units_k {fs : List (Int × Int)} {u : Int} {M : Mem} {Q : QD} {Xd : XD} (hu : 0 < u ∧ u ≤ 2100) (hf : ∀ f ∈ fs, 0 < f.2 ∧ f.2 ≤ 2100 ∧ f.1.natAbs ≤ 2 ^ 64) (hl : fs.length ≤ 1000) (h : Q (.lst ((fs.map (inU u)).map D.int)) M) : Win_units K c [.tup (fs.map frD), .int u] M Q Xd := by
  refine Ein_units ?_
  repeat fail
  refine w_lc ?_
  repeat fail
  intro p hp
  have hwp : ∀ x0 x1 x2 x3 : Option D, wipeD [x0, x1, x2, x3] [2, 3] = [x0, x1, none, none] := fun _ _ _ _ => rfl
  rw [hwp]
  refine lc_map hp (inUD u) (fun _ => wat_none) (by rw [List.length_map, sizeLine_eq]; omega) (fun d hd acc K hK => ?_) ?_
  · obtain ⟨f, hfm, rfl⟩ := List.mem_map.mp hd
    obtain ⟨f1, f2, f3⟩ := hf f hfm
    unfold frD at hK ⊢
    repeat fail
    refine w_fdivI (divW2 (b := 12) f1 (by omega) (by decide)) ?_
    repeat fail
    have hd1 : u / f.2 ≤ u := Int.ediv_le_self _ (by omega)
    have hd0 : 0 ≤ u / f.2 := Int.ediv_nonneg (by omega) (by omega)
    refine w_mulI (mulW2 (a := 64) (b := 12) f3 (by omega) (by decide)) ?_
    exact hK
  · have e : (fs.map frD).map (inUD u) = (fs.map (inU u)).map D.int := by
      rw [List.map_map, List.map_map]; rfl
    rw [e]
    exact lo_same h
def lowD (u : Int) : D → D
  | .int p => frD (lt p u)
  | _ => .non
theorem fracs_k {vs : List Int} {u : Int} {M : Mem} {Q : QD} {Xd : XD} (hu : 0 < u) (hb : u.natAbs ≤ 2 ^ 4000) (hl : vs.length ≤ 1000) (h : Q (.tup ((vs.map fun v => lt v u).map frD)) M) : Wfractions_of K c [.lst (vs.map D.int), .int u] M Q Xd := by
  refine Efractions_of ?_
  have hwp : ∀ x0 x1 x2 : Option D, wipeD [x0, x1, x2] [2] = [x0, x1, none] := fun _ _ _ => rfl
  have e : (vs.map D.int).map (lowD u) = (vs.map fun v => lt v u).map frD := by
    rw [List.map_map, List.map_map]; rfl
  repeat fail
  refine w_ifd (fun z => ?_) fun z => ?_
  · repeat fail
    refine w_lc ?_
    repeat fail
    intro p hp
    rw [hwp]
    refine lc_map hp (lowD u) (fun _ => wat_none) (by rw [List.length_map, sizeLine_eq]; omega) (fun d hd acc K hK => ?_) ?_
    · obtain ⟨v, hv, rfl⟩ := List.mem_map.mp hd
      repeat fail
      have e1 : lowD u (.int v) = .tup [.int v, .int 1] := by
        subst z
        show frD (lt v 1) = _
        rw [lt_self (by decide) (by simp)]; rfl
      rw [e1] at hK
      exact hK
    · rw [e]
      repeat fail
      exact lo_same h
  · repeat fail
    refine w_lc ?_
    repeat fail
    intro p hp
    rw [hwp]
    refine lc_map hp (lowD u) (fun _ => wat_none) (by rw [List.length_map, sizeLine_eq]; omega) (fun d hd acc K hK => ?_) ?_
    · obtain ⟨v, hv, rfl⟩ := List.mem_map.mp hd
      repeat fail
      exact lowest_k hu hb hK
    · rw [e]
      repeat fail
      exact lo_same h
end
set_option maxHeartbeats 4000000
section
variable {K : Fg} {c : Nat → Addr}
theorem dl_up (u : Bool) : decide (upS u = (Str.ofString "whole")) = u := by cases u <;> decide +kernel
theorem dl_dn (u : Bool) : decide (dnS u = (Str.ofString "own")) = u := by cases u <;> decide +kernel
theorem dl_land (u : Bool) : decide (landS u = (Str.ofString "here")) = u := by cases u <;> decide +kernel
theorem ol_up (u : Bool) : PyData.strOk (upS u) = true := by cases u <;> decide +kernel
theorem ol_dn (u : Bool) : PyData.strOk (dnS u) = true := by cases u <;> decide +kernel
theorem ol_land (u : Bool) : PyData.strOk (landS u) = true := by cases u <;> decide +kernel
theorem rng_rev2 (m : Nat) : (rngL 0 (m + 1)).reverse = D.int (m : Int) :: (rngL 0 m).reverse := by
  unfold rngL
  rw [List.range_succ, List.map_append, List.reverse_append]
  simp
def spF (t : Th) (a : Nat → Int) (k j : Nat) : Int := if k ≤ j then (TT t j).cst j a else a j + sumG k (fun c => (TT t c).cst c a) (numsT (TT t j) j)
def owF (t : Th) (a : Nat → Int) (k j : Nat) : Int := if k ≤ j then (TT t j).own j a else own1 (TT t j).here (a j) + sumG k (fun c => (TT t c).cnt c a) (numsT (TT t j) j)
def ctF (t : Th) (a : Nat → Int) (k j : Nat) : Int := if k ≤ j then (TT t j).cnt j a else own1 (TT t j).here (a j)
section
variable {t : Th} {a : Nat → Int}
theorem sp_self {k : Nat} (h : k < t.sz) : spF t a (k + 1) k = (TT t k).cst k a := by
  unfold spF
  obtain ⟨h1, h2⟩ := parts_at (fun t j => t.cst j a) h
  rw [if_neg (by omega), sumG_all fun c hc => (h2 c hc).1, h1, sum_csts, ← cst_eq]
theorem ow_self {k : Nat} (h : k < t.sz) : owF t a (k + 1) k = (TT t k).own k a := by
  unfold owF
  obtain ⟨h1, h2⟩ := parts_at (fun t j => t.cnt j a) h
  rw [if_neg (by omega), sumG_all fun c hc => (h2 c hc).1, h1, sum_cnts, ← own_eq]
theorem ns_eq {j : Nat} (h : j < t.sz) : nsAt (rows t 0) j = numsT (TT t j) j := by
  unfold nsAt; rw [at_row h]
theorem num_nd (x : Th) (j : Nat) : (numsT x j).Nodup := nums_nd _ _
theorem par_at {k : Nat} (h0 : 0 < k) (h : k < t.sz) : ∃ p, (t.whs 0 .non)[k]? = some (nI p) ∧ p < k ∧ ∀ j, j < t.sz → (k ∈ numsT (TT t j) j ↔ j = p) := by
  obtain ⟨p, h1, h2, h3, h4⟩ := par_of t 0 .non k h0 h
  refine ⟨p, h1, by omega, fun j hj => ?_⟩
  have := h4 j hj
  rw [Nat.zero_add, Nat.zero_add, ns_eq hj] at this
  exact this
theorem sp_step {k p : Nat} (h : k < t.sz) (hp : p < k) (hk : ∀ j, j < t.sz → (k ∈ numsT (TT t j) j ↔ j = p)) {j : Nat} (hj : j < t.sz) : (if j = p then spF t a (k + 1) p + spF t a (k + 1) k else spF t a (k + 1) j) = spF t a k j := by
  by_cases e : j = p
  · rw [if_pos e, sp_self h]
    subst e
    unfold spF
    rw [if_neg (by omega), if_neg (by omega), sumG_in (num_nd _ _) ((hk j hj).mpr rfl)]; omega
  · rw [if_neg e]
    by_cases z : j = k
    · subst z
      rw [sp_self h]; unfold spF; rw [if_pos (Nat.le_refl _)]
    · unfold spF
      by_cases y : k ≤ j
      · rw [if_pos (by omega), if_pos y]
      · rw [if_neg (by omega), if_neg y, sumG_not fun w => e ((hk j hj).mp w)]
theorem ow_step {k p : Nat} (h : k < t.sz) (hp : p < k) (hk : ∀ j, j < t.sz → (k ∈ numsT (TT t j) j ↔ j = p)) {j : Nat} (hj : j < t.sz) : (if j = p then owF t a (k + 1) p + (TT t k).cnt k a else owF t a (k + 1) j) = owF t a k j := by
  by_cases e : j = p
  · rw [if_pos e]
    subst e
    unfold owF
    rw [if_neg (by omega), if_neg (by omega), sumG_in (num_nd _ _) ((hk j hj).mpr rfl)]; omega
  · rw [if_neg e]
    by_cases z : j = k
    · subst z
      rw [ow_self h]; unfold owF; rw [if_pos (Nat.le_refl _)]
    · unfold owF
      by_cases y : k ≤ j
      · rw [if_pos (by omega), if_pos y]
      · rw [if_neg (by omega), if_neg y, sumG_not fun w => e ((hk j hj).mp w)]
theorem z_self {j : Nat} (h : j < t.sz) (hz : 0 < t.sz) : spF t a 1 j = spF t a 0 j ∧ owF t a 1 j = owF t a 0 j := by
  by_cases e : j = 0
  · subst e
    rw [sp_self h, ow_self h]; exact ⟨rfl, rfl⟩
  · unfold spF owF
    rw [if_pos (by omega), if_pos (by omega), if_pos (by omega), if_pos (by omega)]; exact ⟨rfl, rfl⟩
theorem ct_step {k : Nat} {j : Nat} : (if j = k then (TT t k).cnt k a else ctF t a (k + 1) j) = ctF t a k j := by
  by_cases e : j = k
  · subst e
    rw [if_pos rfl]; unfold ctF; rw [if_pos (Nat.le_refl _)]
  · rw [if_neg e]; unfold ctF
    by_cases y : k ≤ j
    · rw [if_pos (by omega), if_pos y]
    · rw [if_neg (by omega), if_neg y]
theorem sp_top {j : Nat} (h : j < t.sz) : spF t a t.sz j = a j ∧ owF t a t.sz j = own1 (TT t j).here (a j) ∧ ctF t a t.sz j = own1 (TT t j).here (a j) := by
  obtain ⟨_, h2⟩ := parts_at (fun t j => t.cst j a) h
  unfold spF owF ctF
  rw [if_neg (by omega), if_neg (by omega), if_neg (by omega), sumG_none fun c hc => (h2 c hc).2, sumG_none fun c hc => (h2 c hc).2]
  exact ⟨by omega, by omega, rfl⟩
end
def wdL (t : Th) (a : Nat → Int) (k : Nat) : List Bool := (List.range' k (t.sz - k)).filterMap fun j => (TT t j).word j a
def bI (b : Bool) : D := .int (if b then 1 else 0)
theorem wd_step {t : Th} {a : Nat → Int} {k : Nat} (h : k < t.sz) : wdL t a k = (match (TT t k).word k a with | some b => [b] | none => []) ++ wdL t a (k + 1) := by
  unfold wdL
  have e : t.sz - k = (t.sz - (k + 1)) + 1 := by omega
  rw [e, List.range'_succ, List.filterMap_cons]
  cases (TT t k).word k a <;> rfl
def lstI (n : Nat) (F : Nat → Int) : MO := .lst ((List.range n).map fun j => D.int (F j))
theorem lstI_congr {n : Nat} {F G : Nat → Int} (h : ∀ j, j < n → F j = G j) : lstI n F = lstI n G := by
  unfold lstI; rw [map_range_congr fun j hj => by rw [h j hj]]
theorem set_lstI {n p : Nat} {F : Nat → Int} {v : Int} : MO.lst (((List.range n).map fun j => D.int (F j)).set p (.int v)) = lstI n fun j => if j = p then v else F j := by
  unfold lstI
  rw [set_range]
  congr 1
  refine List.map_congr_left fun j _ => ?_
  by_cases e : j = p <;> simp [e]
structure Su (M0 : Mem) (s o c w : Addr) (n : Nat) (F G H : Nat → Int) (L : List D) (M : Mem) : Prop where
  hs : M s = some (lstI n F)
  ho : M o = some (lstI n G)
  hc : M c = some (lstI n H)
  hw : M w = some (.lst L)
  el : ∀ x, x ≠ s → x ≠ o → x ≠ c → x ≠ w → M x = M0 x
section
variable {M0 M : Mem} {s o c w : Addr} {n : Nat} {F G H X : Nat → Int} {L Y : List D}
theorem Su.pS (h : Su M0 s o c w n F G H L M) (ne : Ne4 s o c w) : Su M0 s o c w n X G H L (M.put s (lstI n X)) :=
  ⟨Mem.put_same, (Mem.put_ne (Ne.symm ne.fw)).trans h.ho, (Mem.put_ne (Ne.symm ne.fm)).trans h.hc, (Mem.put_ne (Ne.symm ne.fv)).trans h.hw, fun x a b d e => (Mem.put_ne a).trans (h.el x a b d e)⟩
theorem Su.pO (h : Su M0 s o c w n F G H L M) (ne : Ne4 s o c w) : Su M0 s o c w n F X H L (M.put o (lstI n X)) :=
  ⟨(Mem.put_ne ne.fw).trans h.hs, Mem.put_same, (Mem.put_ne (Ne.symm ne.wm)).trans h.hc, (Mem.put_ne (Ne.symm ne.wv)).trans h.hw, fun x a b d e => (Mem.put_ne b).trans (h.el x a b d e)⟩
theorem Su.pC (h : Su M0 s o c w n F G H L M) (ne : Ne4 s o c w) : Su M0 s o c w n F G X L (M.put c (lstI n X)) :=
  ⟨(Mem.put_ne ne.fm).trans h.hs, (Mem.put_ne ne.wm).trans h.ho, Mem.put_same, (Mem.put_ne (Ne.symm ne.mv)).trans h.hw, fun x a b d e => (Mem.put_ne d).trans (h.el x a b d e)⟩
theorem Su.pW (h : Su M0 s o c w n F G H L M) (ne : Ne4 s o c w) : Su M0 s o c w n F G H Y (M.put w (.lst Y)) :=
  ⟨(Mem.put_ne ne.fv).trans h.hs, (Mem.put_ne ne.wv).trans h.ho, (Mem.put_ne ne.mv).trans h.hc, Mem.put_same, fun x a b d e => (Mem.put_ne e).trans (h.el x a b d e)⟩
theorem Su.congr {F' G' H' : Nat → Int} (h : Su M0 s o c w n F G H L M) (hF : ∀ j, j < n → F j = F' j) (hG : ∀ j, j < n → G j = G' j) (hH : ∀ j, j < n → H j = H' j) : Su M0 s o c w n F' G' H' L M :=
  ⟨by rw [← lstI_congr hF]; exact h.hs, by rw [← lstI_congr hG]; exact h.ho, by rw [← lstI_congr hH]; exact h.hc, h.hw, h.el⟩
end
theorem sums_loop {t : Th} {a : Nat → Int} {A : Int} (ha : ∀ k, 0 ≤ a k ∧ a k ≤ A) (hA : (40 : Int) * A ≤ 2 ^ 64) (hok : t.ok) (hz : t.sz ≤ 40) {s o c w : Addr} (ne : Ne4 s o c w) {M0 : Mem} {nx bk ct : SD → Mem → Prop} {rt : QD} {Xd : XD} {Wt : Mem → Prop} (hW : ∀ M, Wt M) {x2 : Option D}
    (fin : ∀ (M : Mem) (x5 x6 x9 x10 x11 x12 x13 x14 : Option D), Su M0 s o c w t.sz (spF t a 0) (owF t a 0) (ctF t a 0) ((wdL t a 0).reverse.map bI) M →
      nx [some (.lst (Th.ds t.fl)), some (.lst (t.whs 0 .non)), x2, some (.ref s), some (.ref o), x5, x6, some (.ref c), some (.ref w), x9, x10, x11, x12, x13, x14] M) :
    ∀ (k : Nat) (M : Mem) (x5 x6 x9 x10 x11 x12 x13 x14 : Option D), k ≤ t.sz → Su M0 s o c w t.sz (spF t a k) (owF t a k) (ctF t a k) ((wdL t a k).reverse.map bI) M →
      sForL (gNm 9) (sSeq (sSet 6 (dOp ixD (dVar 0) (dVar 9))) (sSeq (sSet 10 (dOp ixD (dVar 4) (dVar 9))) (sSeq (sIf (dTst (dOp eqD (dOp ixD (dVar 6) (dC (.int 0))) (dC (.str "made")))) (sSeq (sAsg (dOp ixD (dVar 6) (dC (.int 4))) (gTp 3 (gCo (gNm 11) (gCo (gNm 12) (gCo (gNm 13) (gNi)))))) (sSeq (sIf (dTst (dOp geD (dOp mulD (dC (.int 100)) (dVar 10)) (dOp mulD (dVar 11) (dOp ixD (dVar 3) (dVar 9))))) (sSeq (sExpr (dApp (dVar 8) (dC (.int 1)))) (sSet 10 (dIte (dTst (dOp eqD (dVar 12) (dC (.str "whole")))) (dOp ixD (dVar 3) (dVar 9)) (dVar 10)))) (sSeq (sExpr (dApp (dVar 8) (dC (.int 0)))) (sSet 10 (dIte (dTst (dOp eqD (dVar 13) (dC (.str "own")))) (dVar 10) (dC (.int 0)))))) (sAsg (dVar 10) (gSb (dVar 7) (dVar 9))))) (sNx)) (sIf (dTst (dOp gtD (dVar 9) (dC (.int 0)))) (sSeq (sSet 14 (dOp ixD (dVar 1) (dVar 9))) (sSeq (sAugS (fun i j => i + j) (dVar 3) (dVar 14) (dOp ixD (dVar 3) (dVar 9))) (sAugS (fun i j => i + j) (dVar 4) (dVar 14) (dVar 10)))) (sNx))))) ⟨nx, rt, bk, ct, Xd⟩ Wt ((rngL 0 k).reverse) [some (.lst (Th.ds t.fl)), some (.lst (t.whs 0 .non)), x2, some (.ref s), some (.ref o), x5, x6, some (.ref c), some (.ref w), x9, x10, x11, x12, x13, x14] M
  | 0, M, x5, x6, x9, x10, x11, x12, x13, x14, _, hS => w_forNil (hW _) (fin M x5 x6 x9 x10 x11 x12 x13 x14 hS)
  | k + 1, M, x5, x6, x9, x10, x11, x12, x13, x14, hk, hS => by
    have hk' : k < t.sz := by omega
    have hko : (TT t k).ok ∧ (TT t k).sz ≤ t.sz := at_ok hok hk'
    have hcb := cst_bd ha (TT t k) k
    have hob := cnt_bd ha (TT t k) k
    have hsz : ((TT t k).sz : Int) * A ≤ 40 * A := Int.mul_le_mul_of_nonneg_right (by have := hko.2; omega) (by have := ha 0; omega)
    rw [rng_rev2]
    refine w_forCons (hW _) ?_
    rw [fl_range]
    repeat fail
    refine w_ixL (at_range hk') ?_
    repeat fail
    refine w_ixRL hS.ho (at_range hk') ?_
    rw [ow_self hk']
    refine w_joinS (P := fun s1 M1 => Su M0 s o c w t.sz (spF t a (k + 1)) (owF t a (k + 1)) (ctF t a k) ((wdL t a k).reverse.map bI) M1 ∧ ∃ x11 x12 x13, s1 = [some (.lst ((List.range t.sz).map fun j => (TT t j).d)), some (.lst (t.whs 0 .non)), x2, some (.ref s), some (.ref o), x5, some (TT t k).d, some (.ref c), some (.ref w), some (.int (k : Int)), some (.int ((TT t k).cnt k a)), x11, x12, x13, x14])
      (fun s1 M1 ⟨hS1, x11, x12, x13, es⟩ => ?_) fun join => ?_
    · subst es
      repeat fail
      refine w_ifd (fun z => ?_) fun z => ?_
      · have k0 : 0 < k := by omega
        obtain ⟨p, h1, h2, h3⟩ := par_at k0 hk'
        repeat fail
        refine w_ixL (atI_nat h1) ?_
        unfold nI
        repeat fail
        refine w_augKy hS1.hs (at_range (by omega)) ?_
        repeat fail
        refine w_ixRL hS1.hs (at_range hk') ?_
        repeat fail
        refine w_setL hS1.hs (by rw [List.length_map, List.length_range]; exact ixN_nat (by omega)) ?_
        rw [set_lstI]
        have hS2 := hS1.pS (X := fun j => if j = p then spF t a (k + 1) p + spF t a (k + 1) k else spF t a (k + 1) j) ne
        generalize M1.put s _ = M2 at hS2 ⊢
        repeat fail
        refine w_augKy hS2.ho (at_range (by omega)) ?_
        repeat fail
        refine w_setL hS2.ho (by rw [List.length_map, List.length_range]; exact ixN_nat (by omega)) ?_
        rw [set_lstI]
        have hS3 := hS2.pO (X := fun j => if j = p then owF t a (k + 1) p + (TT t k).cnt k a else owF t a (k + 1) j) ne
        generalize M2.put o _ = M3 at hS3 ⊢
        have hS4 := hS3.congr (fun j hj => sp_step hk' h2 h3 hj) (fun j hj => ow_step hk' h2 h3 hj) (fun j _ => rfl)
        rw [← fl_range]
        exact sums_loop ha hA hok hz ne hW fin k M3 _ _ _ _ _ _ _ _ (by omega) hS4
      · have k0 : k = 0 := by omega
        subst k0
        repeat fail
        have hS4 := hS1.congr (fun j hj => (z_self hj hk').1) (fun j hj => (z_self hj hk').2) (fun j _ => rfl)
        rw [← fl_range]
        exact sums_loop ha hA hok hz ne hW fin 0 M1 _ _ _ _ _ _ _ _ (by omega) hS4
    · have ew := wd_step (a := a) hk'
      have hS' : ∀ M1, Su M0 s o c w t.sz (spF t a (k + 1)) (owF t a (k + 1)) (fun j => if j = k then (TT t k).cnt k a else ctF t a (k + 1) j) ((wdL t a k).reverse.map bI) M1 → Su M0 s o c w t.sz (spF t a (k + 1)) (owF t a (k + 1)) (ctF t a k) ((wdL t a k).reverse.map bI) M1 := fun M1 h => h.congr (fun j _ => rfl) (fun j _ => rfl) fun j _ => ct_step
      have hcs := sp_self (a := a) hk'
      have hall : (wdL t a (k + 1)).length ≤ 1000 := by
        unfold wdL
        have := List.length_filterMap_le (fun j => (TT t j).word j a) (List.range' (k + 1) (t.sz - (k + 1)))
        rw [List.length_range'] at this
        omega
      have hct0 : ctF t a (k + 1) k = own1 (TT t k).here (a k) := by unfold ctF; rw [if_neg (by omega)]
      generalize hx : TT t k = x at *
      cases x with
      | raw hr lo hi =>
        rw [Th.d] at join ⊢
        repeat fail
        refine w_eqS (by decide +kernel) (by decide +kernel) ?_
        rw [show decide ((Str.ofString "raw") = (Str.ofString "made")) = false from by decide +kernel]
        repeat fail
        refine join _ M ⟨hS' M ?_, _, _, _, rfl⟩
        have ew2 : wdL t a k = wdL t a (k + 1) := by rw [ew]; rfl
        rw [ew2]
        refine hS.congr (fun j _ => rfl) (fun j _ => rfl) fun j _ => ?_
        by_cases e : j = k
        · subst e; rw [if_pos rfl, hct0]; rfl
        · rw [if_neg e]
      | made hr lo hi sh up dn ps =>
        obtain ⟨⟨hb1, hb2, hb3, hb4⟩, hko2⟩ := hko
        rw [cnt_made] at join hS'
        have ew2 : wdL t a k = [decide (sh * (Th.made hr lo hi sh up dn ps).cst k a ≤ 100 * (Th.made hr lo hi sh up dn ps).own k a)] ++ wdL t a (k + 1) := ew
        generalize (Th.made hr lo hi sh up dn ps).own k a = O at *
        generalize (Th.made hr lo hi sh up dn ps).cst k a = C at *
        rw [Th.d] at join ⊢
        unfold termD at join ⊢
        repeat fail
        refine w_eqS (by decide +kernel) (by decide +kernel) ?_
        rw [show decide ((Str.ofString "made") = (Str.ofString "made")) = true from by decide +kernel]
        repeat fail
        refine w_mulI (mulW2 (a := 7) (b := 64) (by decide) (by omega) (by decide)) ?_
        repeat fail
        refine w_ixRL hS.hs (at_range hk') ?_
        rw [hcs]
        repeat fail
        refine w_mulI (mulW2 (a := 7) (b := 64) (by omega) (by omega) (by decide)) ?_
        repeat fail
        refine w_ifd (fun z => ?_) fun z => ?_
        · rw [decide_eq_true z] at ew2
          repeat fail
          refine w_appO hS.hw ?_
          repeat fail
          refine w_appK hS.hw (by rw [List.length_map, List.length_reverse, sizeLine_eq]; omega) ?_
          have e1 : (wdL t a (k + 1)).reverse.map bI ++ [D.int 1] = (wdL t a k).reverse.map bI := by rw [ew2]; simp [bI]
          rw [e1]
          have hS2 := hS.pW (Y := (wdL t a k).reverse.map bI) ne
          generalize M.put w _ = M2 at hS2 ⊢
          repeat fail
          refine w_eqS (ol_up _) (by decide +kernel) ?_
          rw [dl_up]
          have e2 : cnt1 sh up dn O C = if up then C else O := by unfold cnt1; rw [if_pos z]
          rw [e2] at join hS'
          cases up <;> repeat fail
          · refine w_setL hS2.hc (by rw [List.length_map, List.length_range]; exact ixN_nat hk') ?_
            rw [set_lstI]
            exact join _ _ ⟨hS' _ (hS2.pC ne), _, _, _, rfl⟩
          · refine w_ixRL hS2.hs (at_range hk') ?_
            rw [hcs]
            repeat fail
            refine w_setL hS2.hc (by rw [List.length_map, List.length_range]; exact ixN_nat hk') ?_
            rw [set_lstI]
            exact join _ _ ⟨hS' _ (hS2.pC ne), _, _, _, rfl⟩
        · rw [decide_eq_false z] at ew2
          repeat fail
          refine w_appO hS.hw ?_
          repeat fail
          refine w_appK hS.hw (by rw [List.length_map, List.length_reverse, sizeLine_eq]; omega) ?_
          have e1 : (wdL t a (k + 1)).reverse.map bI ++ [D.int 0] = (wdL t a k).reverse.map bI := by rw [ew2]; simp [bI]
          rw [e1]
          have hS2 := hS.pW (Y := (wdL t a k).reverse.map bI) ne
          generalize M.put w _ = M2 at hS2 ⊢
          repeat fail
          refine w_eqS (ol_dn _) (by decide +kernel) ?_
          rw [dl_dn]
          have e2 : cnt1 sh up dn O C = if dn then O else 0 := by unfold cnt1; rw [if_neg z]
          rw [e2] at join hS'
          cases dn <;> repeat fail
          · refine w_setL hS2.hc (by rw [List.length_map, List.length_range]; exact ixN_nat hk') ?_
            rw [set_lstI]
            exact join _ _ ⟨hS' _ (hS2.pC ne), _, _, _, rfl⟩
          · refine w_setL hS2.hc (by rw [List.length_map, List.length_range]; exact ixN_nat hk') ?_
            rw [set_lstI]
            exact join _ _ ⟨hS' _ (hS2.pC ne), _, _, _, rfl⟩
end
set_option maxHeartbeats 4000000
section
variable {K : Fg} {c : Nat → Addr}
def ownD : D → D
  | .tup [.int v, .tup (_ :: .str l :: _)] => .int (if l = (Str.ofString "here") then v else 0)
  | _ => .non
theorem ownD_d (x : Th) (v : Int) : ownD (.tup [.int v, x.d]) = .int (own1 x.here v) := by
  have e : ∀ u : Bool, (if landS u = (Str.ofString "here") then v else 0) = own1 u v := fun u => by
    have := dl_land u
    by_cases z : landS u = (Str.ofString "here")
    · rw [if_pos z]; rw [decide_eq_true z] at this; rw [← this]; rfl
    · rw [if_neg z]; rw [decide_eq_false z] at this; rw [← this]; rfl
  cases x with
  | raw h _ _ => rw [Th.d]; show D.int _ = _; rw [e]; rfl
  | made h _ _ _ _ _ _ => rw [Th.d]; show D.int _ = _; rw [e]; rfl
def lstD (n : Nat) (F : Nat → Int) : D := .lst ((List.range n).map fun j => D.int (F j))
theorem sums_k {t : Th} {a : Nat → Int} {A : Int} (ha : ∀ k, 0 ≤ a k ∧ a k ≤ A) (hA : (40 : Int) * A ≤ 2 ^ 64) (hok : t.ok) (hz : t.sz ≤ 40) {M : Mem} {Q : QD} {Xd : XD}
    (h : Q (.tup [lstD t.sz fun j => (TT t j).cst j a, lstD t.sz fun j => (TT t j).own j a, lstD t.sz fun j => (TT t j).cnt j a, .lst ((wordsL t a).map bI)]) M) :
    Wsums_of K c [.lst (Th.ds t.fl), .lst (t.whs 0 .non), lstD t.sz a] M Q Xd := by
  refine Esums_of ?_
  unfold lstD
  repeat fail
  refine w_listOL ?_
  repeat fail
  intro s hs
  repeat fail
  refine w_lcO ?_
  repeat fail
  intro o ho
  have hwp : ∀ x0 x1 x2 x3 x4 x5 x6 x7 x8 x9 x10 x11 x12 x13 x14 : Option D, wipeD [x0, x1, x2, x3, x4, x5, x6, x7, x8, x9, x10, x11, x12, x13, x14] [5, 6] = [x0, x1, x2, x3, x4, none, none, x7, x8, x9, x10, x11, x12, x13, x14] := fun _ _ _ _ _ _ _ _ _ _ _ _ _ _ _ => rfl
  rw [hwp]
  have ezp : zpD ((List.range t.sz).map fun j => D.int (a j)) (Th.ds t.fl) = (List.range t.sz).map fun j => .tup [.int (a j), (TT t j).d] := by rw [fl_range, zp_map]
  rw [ezp]
  refine lc_mapO ownD (fun _ => wat_none) [] (by simp [sizeLine_eq]; omega) (fun d hd acc K hK => ?_) ?_
  · obtain ⟨j, hj, rfl⟩ := List.mem_map.mp hd
    rw [ownD_d] at hK
    repeat fail
    refine d_ix1 ?_
    unfold landD
    refine w_eqS (ol_land _) (by decide +kernel) ?_
    rw [dl_land]
    repeat fail
    refine w_ifb (fun z => ?_) fun z => ?_
    · repeat fail
      rw [z] at hK; exact hK
    · repeat fail
      rw [z] at hK; exact hK
  have eow : ([] : List D) ++ ((List.range t.sz).map fun j => .tup [.int (a j), (TT t j).d]).map ownD = (List.range t.sz).map fun j => D.int (own1 (TT t j).here (a j)) := by
    rw [List.nil_append, List.map_map]
    exact List.map_congr_left fun j _ => ownD_d _ _
  rw [eow]
  have nso : s ≠ o := fun e => by rw [← e, Mem.put_same] at ho; cases ho
  rw [Mem.put_ne (Ne.symm nso)] at ho
  have h1s : ((M.put s (.lst ((List.range t.sz).map fun j => D.int (a j)))).put o (lstI t.sz fun j => own1 (TT t j).here (a j))) s = some (lstI t.sz a) := by rw [Mem.put_ne nso, Mem.put_same]; rfl
  have h1o : ((M.put s (.lst ((List.range t.sz).map fun j => D.int (a j)))).put o (lstI t.sz fun j => own1 (TT t j).here (a j))) o = some (lstI t.sz fun j => own1 (TT t j).here (a j)) := Mem.put_same
  have h1e : ∀ x, x ≠ s → x ≠ o → ((M.put s (.lst ((List.range t.sz).map fun j => D.int (a j)))).put o (lstI t.sz fun j => own1 (TT t j).here (a j))) x = M x := fun x y z => by rw [Mem.put_ne z, Mem.put_ne y]
  rw [show (MO.lst ((List.range t.sz).map fun j => D.int (own1 (TT t j).here (a j)))) = lstI t.sz fun j => own1 (TT t j).here (a j) from rfl]
  generalize (M.put s (.lst ((List.range t.sz).map fun j => D.int (a j)))).put o (lstI t.sz fun j => own1 (TT t j).here (a j)) = M1 at h1s h1o h1e
  repeat fail
  refine w_listOR h1o ?_
  repeat fail
  intro c hc
  repeat fail
  refine w_lstO ?_
  repeat fail
  intro w hw
  have nsc : s ≠ c := fun e => by rw [← e, h1s] at hc; cases hc
  have noc : o ≠ c := fun e => by rw [← e, h1o] at hc; cases hc
  have nsw : s ≠ w := fun e => by rw [← e, Mem.put_ne nsc, h1s] at hw; cases hw
  have now : o ≠ w := fun e => by rw [← e, Mem.put_ne noc, h1o] at hw; cases hw
  have ncw : c ≠ w := fun e => by rw [← e, Mem.put_same] at hw; cases hw
  rw [Mem.put_ne (Ne.symm ncw)] at hw
  have ne : Ne4 s o c w := ⟨nso, nsc, nsw, noc, now, ncw⟩
  have hcM : M c = none := (h1e c (Ne.symm nsc) (Ne.symm noc)).symm.trans hc
  have hwM : M w = none := (h1e w (Ne.symm nsw) (Ne.symm now)).symm.trans hw
  have S0 : Su M s o c w t.sz a (fun j => own1 (TT t j).here (a j)) (fun j => own1 (TT t j).here (a j)) [] ((M1.put c (.lst ((List.range t.sz).map fun j => D.int (own1 (TT t j).here (a j))))).put w (.lst [])) :=
    ⟨by rw [Mem.put_ne nsw, Mem.put_ne nsc, h1s], by rw [Mem.put_ne now, Mem.put_ne noc, h1o], by rw [Mem.put_ne ncw, Mem.put_same]; rfl, Mem.put_same, fun x y1 y2 y3 y4 => by rw [Mem.put_ne y4, Mem.put_ne y3, h1e x y1 y2]⟩
  generalize (M1.put c (.lst ((List.range t.sz).map fun j => D.int (own1 (TT t j).here (a j))))).put w (.lst []) = M2 at S0
  have ewd : wdL t a t.sz = [] := by unfold wdL; rw [Nat.sub_self]; rfl
  have S1 : Su M s o c w t.sz (spF t a t.sz) (owF t a t.sz) (ctF t a t.sz) ((wdL t a t.sz).reverse.map bI) M2 := by
    rw [ewd]
    exact S0.congr (fun j hj => (sp_top hj).1.symm) (fun j hj => (sp_top hj).2.1.symm) (fun j hj => (sp_top hj).2.2.symm)
  repeat fail
  have el : ((((Th.ds t.fl).length : Nat) : Int)) = (t.sz : Int) := by rw [fl_range, List.length_map, List.length_range]
  rw [el]
  refine ⟨by omega, ?_⟩
  rw [Int.sub_zero, Int.toNat_natCast]
  refine sums_loop ha hA hok hz ne (fun _ => wat_none) (fun M3 x5 x6 x9 x10 x11 x12 x13 x14 S3 => ?_) t.sz M2 _ _ _ _ _ _ _ _ (Nat.le_refl _) S1
  repeat fail
  refine w_rvsO S3.hw ?_
  have ew : ((wdL t a 0).reverse.map bI).reverse = (wordsL t a).map bI := by
    rw [← List.map_reverse, List.reverse_reverse]
    unfold wdL wordsL
    rw [List.range_eq_range', Nat.sub_zero]
  rw [ew]
  have S4 := S3.pW (Y := (wordsL t a).map bI) ne
  generalize M3.put w _ = M4 at S4 ⊢
  repeat fail
  have S5 : Su M s o c w t.sz (fun j => (TT t j).cst j a) (fun j => (TT t j).own j a) (fun j => (TT t j).cnt j a) ((wordsL t a).map bI) M4 :=
    S4.congr (fun j _ => by unfold spF; rw [if_pos (Nat.zero_le _)]) (fun j _ => by unfold owF; rw [if_pos (Nat.zero_le _)]) (fun j _ => by unfold ctF; rw [if_pos (Nat.zero_le _)])
  refine lo_frzT 0 (by rfl) S5.hs ?_
  refine lo_frzT 1 (by rfl) ((Mem.del_ne (Ne.symm nso)).trans S5.ho) ?_
  refine lo_frzT 2 (by rfl) ((Mem.del_ne (Ne.symm noc)).trans ((Mem.del_ne (Ne.symm nsc)).trans S5.hc)) ?_
  refine lo_frzT 3 (by rfl) ((Mem.del_ne (Ne.symm ncw)).trans ((Mem.del_ne (Ne.symm now)).trans ((Mem.del_ne (Ne.symm nsw)).trans S5.hw))) ?_
  have eM : (((M4.del s).del o).del c).del w = M := by
    funext x
    by_cases ev : x = w
    · subst ev; rw [Mem.del_same, hwM]
    rw [Mem.del_ne ev]
    by_cases em : x = c
    · subst em; rw [Mem.del_same, hcM]
    rw [Mem.del_ne em]
    by_cases ew : x = o
    · subst ew; rw [Mem.del_same, ho]
    rw [Mem.del_ne ew]
    by_cases ef : x = s
    · subst ef; rw [Mem.del_same, hs]
    rw [Mem.del_ne ef]
    exact S5.el x ef ew em ev
  rw [eM]
  exact lo_same h
theorem fps_of : ∀ {rs : List (Th × List Nat)} {fs : List (Int × Int)}, (∀ r ∈ rs, r.1.ok) → RowR rs fs → FPs (rs.map (·.1)) fs
  | [], [], _, .nil => .nil
  | r :: rs, f :: fs, h, .cons hf hr => by
    have hb := ok_bnd (h r List.mem_cons_self)
    refine .cons ?_ (fps_of (fun x hx => h x (List.mem_cons_of_mem _ hx)) hr)
    have e1 : lowOf r.1 = Th.lo r.1 := by cases r.1 <;> rfl
    have e2 : higOf r.1 = Th.hi r.1 := by cases r.1 <;> rfl
    exact ⟨hf.pos, hf.cop, hf.dvd, by rw [e1]; exact hf.lo, by rw [e2]; exact hf.hi, by rw [e1, e2]; exact hb⟩
def rowA (fs : List (Int × Int)) (u : Int) (k : Nat) : Int := inU u (fs.getD k (0, 1))
theorem FPs.at {ts : List Th} {fs : List (Int × Int)} (h : FPs ts fs) : ∀ {k : Nat} {f : Int × Int}, fs[k]? = some f → ∃ t, ts[k]? = some t ∧ FP t f := by
  induction h with
  | nil => intro k f e; simp at e
  | cons h _ ih =>
    intro k f e
    cases k with
    | zero => simp at e; subst e; exact ⟨_, rfl, h⟩
    | succ k => simpa using ih (by simpa using e)
structure Pd (t : Th) (fs : List (Int × Int)) : Prop where
  ok : t.ok
  sz : t.sz ≤ 40
  fps : FPs t.fl fs
section
variable {t : Th} {fs : List (Int × Int)}
theorem Pd.mem (P : Pd t fs) : ∀ f ∈ fs, 0 < f.2 ∧ f.2 ∣ 2100 ∧ 0 ≤ f.1 ∧ f.1 ≤ 1000000 * f.2 := by
  intro f hf
  obtain ⟨k, hk⟩ := List.getElem?_of_mem hf
  obtain ⟨x, _, h⟩ := P.fps.at hk
  obtain ⟨b1, b2, b3⟩ := h.bd
  refine ⟨h.pos, h.dvd, ?_, ?_⟩
  · have := Int.mul_nonneg b1 (Int.le_of_lt h.pos)
    have := h.lo; omega
  · have := Int.mul_le_mul_of_nonneg_right b3 (Int.le_of_lt h.pos)
    have := h.hi; omega
theorem Pd.unit (P : Pd t fs) : 0 < unitF 1 fs ∧ unitF 1 fs ≤ 2100 ∧ ∀ f ∈ fs, f.2 ∣ unitF 1 fs := by
  have h := unitF_ok fs 1 (by decide) (by decide) fun f hf => ⟨(P.mem f hf).1, (P.mem f hf).2.1⟩
  exact ⟨h.1.1, dvd_le h.1.2 h.1.1, h.2.2⟩
theorem inU_bd {f : Int × Int} {u : Int} (hu : 0 < u ∧ u ≤ 2100) (h0 : 0 < f.2) (h1 : 0 ≤ f.1) (h2 : f.1 ≤ 1000000 * f.2) (hd : f.2 ∣ u) : (0 ≤ inU u f ∧ inU u f ≤ 2100000000) ∧ Rep u (inU u f) f := by
  unfold inU
  have e : u / f.2 * f.2 = u := Int.ediv_mul_cancel hd
  have q0 : 0 ≤ u / f.2 := Int.ediv_nonneg (by omega) (by omega)
  refine ⟨⟨Int.mul_nonneg h1 q0, ?_⟩, h0, ?_⟩
  · have := Int.mul_le_mul_of_nonneg_right h2 q0
    have e2 : 1000000 * f.2 * (u / f.2) = 1000000 * u := by rw [Int.mul_assoc, Int.mul_comm f.2, e]
    omega
  · rw [Int.mul_assoc, e]
theorem Pd.pr (P : Pd t fs) : PrOk fs t.sz (unitF 1 fs) 2100000000 (rowA fs (unitF 1 fs)) := by
  obtain ⟨u0, u1, u2⟩ := P.unit
  refine ⟨by rw [P.fps.len, fl_len], P.sz, fun k hk => ?_, fun k => ?_, u0, by omega, by decide⟩
  · have hl : k < fs.length := by rw [P.fps.len, fl_len]; exact hk
    have hm := List.getElem_mem hl
    obtain ⟨a1, a2, a3, a4⟩ := P.mem _ hm
    refine ⟨fs[k], List.getElem?_eq_getElem hl, ⟨by have := dvd_le a2 a1; omega, a1, by have := dvd_le a2 a1; omega⟩, ?_⟩
    unfold rowA
    rw [List.getD_eq_getElem?_getD, List.getElem?_eq_getElem hl]
    exact (inU_bd ⟨u0, u1⟩ a1 a3 a4 (u2 _ hm)).2
  · unfold rowA
    by_cases hl : k < fs.length
    · have hm := List.getElem_mem hl
      obtain ⟨a1, a2, a3, a4⟩ := P.mem _ hm
      rw [List.getD_eq_getElem?_getD, List.getElem?_eq_getElem hl]
      exact (inU_bd ⟨u0, u1⟩ a1 a3 a4 (u2 _ hm)).1
    · rw [List.getD_eq_getElem?_getD, List.getElem?_eq_none (by omega)]
      simp [inU]
end
theorem units_eq {t : Th} {fs : List (Int × Int)} (P : Pd t fs) : (fs.map (inU (unitF 1 fs))).map D.int = (List.range t.sz).map fun j => D.int (rowA fs (unitF 1 fs) j) := by
  have hl : fs.length = t.sz := by rw [P.fps.len, fl_len]
  rw [List.map_map]
  apply List.ext_getElem?
  intro i
  by_cases hi : i < t.sz
  · rw [List.getElem?_map, List.getElem?_eq_getElem (by omega), List.getElem?_map, List.getElem?_range hi]
    unfold rowA
    rw [Option.map_some, Option.map_some, List.getD_eq_getElem?_getD, List.getElem?_eq_getElem (by omega)]; rfl
  · rw [List.getElem?_eq_none (by rw [List.length_map]; omega), List.getElem?_eq_none (by rw [List.length_map, List.length_range]; omega)]
abbrev aP (fs : List (Int × Int)) : Nat → Int := rowA fs (unitF 1 fs)
theorem sums_at_k {t : Th} {fs : List (Int × Int)} (hg : t.good) (P : Pd t fs) {M : Mem} {Q : QD} {Xd : XD}
    (h : Q (.tup [lstD t.sz fun j => (TT t j).cst j (aP fs), lstD t.sz fun j => (TT t j).own j (aP fs), lstD t.sz fun j => (TT t j).cnt j (aP fs), .lst ((wordsL t (aP fs)).map bI), .int (unitF 1 fs)]) M) : W_sums_at K c [t.d, .tup (fs.map frD)] M Q Xd := by
  obtain ⟨u0, u1, u2⟩ := P.unit
  have hl : fs.length = t.sz := by rw [P.fps.len, fl_len]
  have hz := P.sz
  refine E_sums_at ?_
  repeat fail
  refine over_k hg ?_
  repeat fail
  refine need_k P.fps (by rw [fl_len]; omega) ?_
  repeat fail
  refine unit_k (fun f hf => ⟨(P.mem f hf).1, (P.mem f hf).2.1⟩) ?_
  repeat fail
  refine units_k ⟨u0, u1⟩ (fun f hf => ?_) (by omega) ?_
  · obtain ⟨a1, a2, a3, a4⟩ := P.mem f hf
    have := dvd_le a2 a1
    exact ⟨a1, this, by omega⟩
  rw [units_eq P]
  refine sums_k P.pr.ha P.pr.aB P.ok hz ?_
  repeat fail
  exact lo_same h
def tupF (n : Nat) (F : Nat → Int) (u : Int) : D := .tup ((List.range n).map fun j => frD (lt (F j) u))
theorem fracs_r {n : Nat} {F : Nat → Int} {u : Int} (hn : n ≤ 40) (hu : 0 < u ∧ u ≤ 2100) {M : Mem} {Q : QD} {Xd : XD} (h : Q (tupF n F u) M) : Wfractions_of K c [lstD n F, .int u] M Q Xd := by
  have e1 : (List.range n).map (fun j => D.int (F j)) = ((List.range n).map F).map D.int := by rw [List.map_map]; rfl
  unfold lstD
  rw [e1]
  have big : (2 : Nat) ^ 12 ≤ 2 ^ 4000 := Nat.pow_le_pow_right (by decide) (by decide)
  refine fracs_k hu.1 (Nat.le_trans (by omega) big) (by rw [List.length_map, List.length_range]; omega) ?_
  rw [List.map_map, List.map_map]
  exact h
section
variable {t : Th} {fs : List (Int × Int)} (hg : t.good) (P : Pd t fs) {M : Mem} {Q : QD} {Xd : XD}
include hg P
theorem costs_k (h : Q (tupF t.sz (fun j => (TT t j).cst j (aP fs)) (unitF 1 fs)) M) : Wcosts K c [t.d, .tup (fs.map frD)] M Q Xd := by
  refine Ecosts ?_
  repeat fail
  refine sums_at_k hg P ?_
  repeat fail
  exact fracs_r P.sz ⟨P.unit.1, P.unit.2.1⟩ (lo_same h)
theorem owns_k (h : Q (tupF t.sz (fun j => (TT t j).own j (aP fs)) (unitF 1 fs)) M) : Wowns K c [t.d, .tup (fs.map frD)] M Q Xd := by
  refine Eowns ?_
  repeat fail
  refine sums_at_k hg P ?_
  repeat fail
  exact fracs_r P.sz ⟨P.unit.1, P.unit.2.1⟩ (lo_same h)
theorem words_at_k (h : Q (.tup ((wordsL t (aP fs)).map bI)) M) : Wwords_at K c [t.d, .tup (fs.map frD)] M Q Xd := by
  refine Ewords_at ?_
  repeat fail
  refine sums_at_k hg P ?_
  repeat fail
  exact lo_same h
theorem words0 {a : Nat → Int} : ∃ b r, wordsL t a = b :: r ∧ t.word 0 a = some b := by
  have h0 := sz_pos t
  obtain ⟨n, hn⟩ : ∃ n, t.sz = n + 1 := ⟨t.sz - 1, by omega⟩
  have e0 : atR (rows t 0) 0 = t := by unfold atR; rw [rows_eq]; rfl
  unfold wordsL
  rw [hn, List.range_succ_eq_map, List.filterMap_cons, e0]
  have := hg.made
  cases t with
  | raw _ _ _ => cases this
  | made h lo hi sh u w ps => exact ⟨_, _, rfl, rfl⟩
theorem cost_pos : 0 < t.cst 0 (aP fs) := by
  -- some price is above 0
  have hpr : PrOk fs t.sz (unitF 1 fs) 2100000000 (aP fs) := P.pr
  obtain ⟨x, hx, hl⟩ := any_fl t hg.any
  obtain ⟨k, hk⟩ := List.getElem?_of_mem hx
  have hkl : k < t.fl.length := (List.getElem?_eq_some_iff.mp hk).1
  rw [fl_len] at hkl
  obtain ⟨f, hf1, hf2, hf3⟩ := hpr.at_ k hkl
  obtain ⟨y, hy, hfp⟩ := P.fps.at hf1
  rw [hk] at hy
  cases hy
  have pos : 0 < aP fs k := by
    have h1 := hfp.lo
    have h2 : 0 < lowOf x * f.2 := Int.mul_pos hl hfp.pos
    have h3 := hf3.2
    have h4 : 0 < f.1 * unitF 1 fs := Int.mul_pos (by omega) hpr.hu
    rw [h3] at h4
    by_cases z : 0 < aP fs k
    · exact z
    · have : aP fs k * f.2 ≤ 0 := Int.mul_nonpos_of_nonpos_of_nonneg (by omega) (by have := hfp.pos; omega)
      omega
  have key : ∀ (t : Th) (b k : Nat), b ≤ k → k < b + t.sz → aP fs k ≤ t.cst b (aP fs) := by
    intro t
    refine Th.rec (motive_1 := fun t => ∀ (b k : Nat), b ≤ k → k < b + t.sz → aP fs k ≤ t.cst b (aP fs)) (motive_2 := fun ts => ∀ (b k : Nat), b ≤ k → k < b + Th.szs ts → aP fs k ≤ Th.csts ts b (aP fs)) ?_ ?_ ?_ ?_ t
    · intro h lo hi b k h1 h2
      simp only [Th.sz] at h2
      have e : k = b := by omega
      subst e; exact Int.le_refl _
    · intro h lo hi sh u w ps ih b k h1 h2
      simp only [Th.sz] at h2
      simp only [Th.cst]
      have hb := hpr.ha b
      have hc := csts_bd hpr.ha ps (b + 1)
      by_cases e : k = b
      · subst e; omega
      · have := ih (b + 1) k (by omega) (by omega)
        omega
    · intro b k h1 h2
      simp only [Th.szs] at h2
      omega
    · intro t ts ih1 ih2 b k h1 h2
      simp only [Th.szs] at h2
      simp only [Th.csts]
      have hc := cst_bd hpr.ha t b
      have hd := csts_bd hpr.ha ts (b + t.sz)
      by_cases e : k < b + t.sz
      · have := ih1 b k h1 e; omega
      · have := ih2 (b + t.sz) k (by omega) (by omega); omega
  have := key t 0 k (by omega) (by omega)
  omega
theorem portion_at_k (h : Q (frD (lt (t.own 0 (aP fs)) (t.cst 0 (aP fs)))) M) : Wportion K c [t.d, .tup (fs.map frD)] M Q Xd := by
  have e0 : TT t 0 = t := by show atR (rows t 0) 0 = t; unfold atR; rw [rows_eq]; rfl
  have hz := sz_pos t
  have hp := cost_pos hg P
  have hb : 0 ≤ t.cst 0 (aP fs) ∧ t.cst 0 (aP fs) ≤ t.sz * 2100000000 := cst_bd P.pr.ha t 0
  have hz2 := P.sz
  refine Eportion ?_
  repeat fail
  refine sums_at_k hg P ?_
  repeat fail
  unfold lstD
  refine w_ixL (at_range (F := fun j => D.int ((TT t j).own j (aP fs))) (j := 0) hz) ?_
  repeat fail
  refine w_ixL (at_range (F := fun j => D.int ((TT t j).cst j (aP fs))) (j := 0) hz) ?_
  repeat fail
  rw [e0]
  have hA : (t.sz : Int) * 2100000000 ≤ 40 * 2100000000 := Int.mul_le_mul_of_nonneg_right (by omega) (by decide)
  have big : (2 : Nat) ^ 64 ≤ 2 ^ 4000 := Nat.pow_le_pow_right (by decide) (by decide)
  exact lowest_k hp (Nat.le_trans (by omega) big) (lo_same h)
end
end
set_option maxHeartbeats 1000000
section
variable {K : Fg} {c : Nat → Addr} {M : Mem} {Q : QD} {Xd : XD}
/-! ### _law_made: a thing changed from within -/
/-- what the function held does with a thing: F -/
def Does (S : D → SpD → Prop) (L : D) (F : Th → D) : Prop := ∃ sp, S L sp ∧ ∀ (t : Th) (M : Mem) (Q : QD) (Xd : XD), bnd (loT t) (hiT t) → Q (F t) M → sp [t.d] M Q Xd
mutual
def mapT (f : Th → Th) : Th → Th
  | .raw h lo hi => f (.raw h lo hi)
  | .made h lo hi sh u w ps => f (.made h lo hi sh u w (mapTs f ps))
def mapTs (f : Th → Th) : List Th → List Th
  | [] => []
  | t :: ts => mapT f t :: mapTs f ts
end
theorem mapTs_map (f : Th → Th) : ∀ ts : List Th, mapTs f ts = ts.map (mapT f)
  | [] => rfl
  | t :: ts => by rw [mapTs, mapTs_map f ts, List.map_cons]
def MadeOk (K : Fg) (c : Nat → Addr) (S : D → SpD → Prop) (L : D) (f : Th → Th) (n : Nat) : Prop := ∀ (t : Th) (M : Mem) (Q : QD) (Xd : XD), t.st + 1 ≤ n → t.ok → Q (mapT f t).d M → W_law_made K c S n [t.d, L] M Q Xd
theorem made_k {S : D → SpD → Prop} {L : D} {f : Th → Th} (hf : Does S L fun t => (f t).d) : ∀ n : Nat, MadeOk K c S L f n
  | 0 => fun _ _ _ _ h => by omega
  | n + 1 => fun t M Q Xd h hok q => by
    obtain ⟨sp, hS, hsp⟩ := hf
    refine E_law_made ?_
    cases t with
    | raw b lo hi =>
      rw [Th.d]
      repeat fail
      refine w_eqS (by decide +kernel) (by decide +kernel) ?_
      rw [show decide ((Str.ofString "raw") = (Str.ofString "made")) = false from by decide +kernel]
      repeat fail
      refine ⟨L, sp, rfl, hS, ?_⟩
      repeat fail
      exact hsp (.raw b lo hi) M _ _ hok (lo_same q)
    | made b lo hi sh u w ps =>
      simp only [Th.st] at h
      rw [Th.d]
      repeat fail
      refine w_eqS (by decide +kernel) (by decide +kernel) ?_
      rw [show decide ((Str.ofString "made") = (Str.ofString "made")) = true from by decide +kernel]
      repeat fail
      refine w_lc ?_
      repeat fail
      simp only [wipeD, List.set_cons_succ, List.set_cons_zero]
      intro q1 hq1
      rw [ds_map]
      have st_le : ∀ x ∈ ps, x.st ≤ Th.sts ps := fun x hx => by
        clear h hok q
        induction ps with
        | nil => cases hx
        | cons y ys ih =>
          simp only [Th.sts]
          rcases List.mem_cons.mp hx with rfl | hx
          · omega
          · have := ih hx; omega
      refine lc_gen (F := Th.d) (h := fun x => (mapT f x).d) hq1 (fun _ => wat_none) ps (by have := hok.2.2.1; rw [sizeLine_eq]; omega) (fun x hx acc K1 h1 => ?_) ?_
      · repeat fail
        refine made_k ⟨sp, hS, hsp⟩ n x _ _ _ (by have := st_le x hx; omega) (oks_mem hok.2.2.2 hx) ?_
        exact h1
      have e : (ps.map fun x => (mapT f x).d) = Th.ds (mapTs f ps) := by rw [ds_map, mapTs_map, List.map_map]; rfl
      rw [e]
      repeat fail
      refine w_addT (by rw [sizeLine_eq]; exact Nat.le_of_ble_eq_true rfl) ?_
      repeat fail
      refine ⟨L, sp, rfl, hS, ?_⟩
      repeat fail
      exact hsp (.made b lo hi sh u w (mapTs f ps)) M _ _ hok.1 (lo_same q)
end
set_option maxHeartbeats 1000000
/-! ### equal data -/
theorem eqv_ints : ∀ xs ys : List Int, PyData.eqvAll (xs.map PyData.int) (ys.map PyData.int) = decide (xs = ys)
  | [], [] => rfl
  | [], _ :: _ => rfl
  | _ :: _, [] => rfl
  | x :: xs, y :: ys => by
    rw [List.map_cons, List.map_cons, PyData.eqvAll, eqv_ints xs ys]
    have e : PyData.eqv (.int x) (.int y) = decide (x = y) := by
      by_cases z : x = y
      · subst z; rw [decide_eq_true rfl]; simp [PyData.eqv]
      · rw [decide_eq_false z]; simp [PyData.eqv, z]
    rw [e]
    by_cases z : x = y
    · subst z; simp
    · simp [z]
theorem eqT_ints (xs ys : List Int) : eqO (.tup (xs.map D.int)) (.tup (ys.map D.int)) = some (decide (xs = ys)) := by
  have e : ∀ xs : List Int, toPy (.tup (xs.map D.int)) = some (.tuple (xs.map PyData.int)) := fun xs => by rw [toPy, toPys_ints]; rfl
  have s : ∀ xs : List Int, SeqAt.shaped (.tuple (xs.map PyData.int)) = true := fun xs => by
    obtain ⟨h1, h2⟩ := lay_ints xs
    unfold SeqAt.shaped
    simp only [PyData.canLay0, h1, PyData.depth, h2]; rfl
  unfold eqO
  simp only [e, s, and_self, if_true]
  rw [PyData.eqv, eqv_ints]
theorem eqL_ints (xs ys : List Int) : eqO (.lst (xs.map D.int)) (.lst (ys.map D.int)) = some (decide (xs = ys)) := by
  have e : ∀ xs : List Int, toPy (.lst (xs.map D.int)) = some (.list (xs.map PyData.int)) := fun xs => by rw [toPy, toPys_ints]; rfl
  have s : ∀ xs : List Int, SeqAt.shaped (.list (xs.map PyData.int)) = true := fun xs => by
    obtain ⟨h1, h2⟩ := lay_ints xs
    unfold SeqAt.shaped
    simp only [PyData.canLay0, h1, PyData.depth, h2]; rfl
  unfold eqO
  simp only [e, s, and_self, if_true]
  rw [PyData.eqv, eqv_ints]
theorem eq_fr (f g : Int × Int) : eqO (frD f) (frD g) = some (decide (f = g)) := by
  have := eqT_ints [f.1, f.2] [g.1, g.2]
  have e : ([f.1, f.2] = [g.1, g.2]) ↔ f = g := by
    constructor
    · intro h; injection h with h1 h; injection h with h2 _; exact Prod.ext h1 h2
    · intro h; rw [h]
  rw [decide_eq_decide.mpr e] at this
  exact this
/-! ### the parts turned about -/
def fTurn : Th → Th
  | .raw h lo hi => .raw h lo hi
  | .made h lo hi sh u w ps => .made h lo hi sh u w ps.reverse
mutual
theorem mapT_rev : ∀ t : Th, mapT fTurn t = t.rev
  | .raw _ _ _ => rfl
  | .made _ _ _ _ _ _ ps => by rw [mapT, fTurn, Th.rev, mapTs_rev ps]
theorem mapTs_rev : ∀ ts : List Th, (mapTs fTurn ts).reverse = Th.revs ts
  | [] => rfl
  | t :: ts => by rw [mapTs, List.reverse_cons, mapTs_rev ts, mapT_rev t, Th.revs]
end
section
variable {K : Fg} {c : Nat → Addr} {M : Mem} {Q : QD} {Xd : XD}
theorem turned_k {t : Th} (q : Q (fTurn t).d M) : W_law_turned K c [t.d] M Q Xd := by
  refine E_law_turned ?_
  cases t with
  | raw b lo hi =>
    rw [Th.d]
    repeat fail
    refine w_eqS (by decide +kernel) (by decide +kernel) ?_
    rw [show decide ((Str.ofString "raw") = (Str.ofString "made")) = false from by decide +kernel]
    repeat fail
    exact lo_same q
  | made b lo hi sh u w ps =>
    rw [Th.d]
    repeat fail
    refine w_eqS (by decide +kernel) (by decide +kernel) ?_
    rw [show decide ((Str.ofString "made") = (Str.ofString "made")) = true from by decide +kernel]
    repeat fail
    refine w_addT (by rw [sizeLine_eq]; exact Nat.le_of_ble_eq_true rfl) ?_
    have e : (Th.ds ps).reverse = Th.ds ps.reverse := by rw [ds_map, ds_map, List.map_reverse]
    rw [e]
    exact lo_same q
theorem does_turn : Does (SG__law_turned K c) (.ref (c 5)) fun t => (fTurn t).d := ⟨_, ⟨rfl, rfl⟩, fun t M Q Xd _ h => turned_k h⟩
theorem turn_k {t : Th} (hst : t.st ≤ 7) (hok : t.ok) (q : Q t.rev.d M) : W_law_made K c (SG__law_turned K c) 8 [t.d, .ref (c 5)] M Q Xd :=
  made_k does_turn 8 t M Q Xd (by omega) hok (by rw [mapT_rev]; exact q)
/-! ### the order of the turned thing -/
def prsL : List Th → Nat → List (Th × Nat)
  | [], _ => []
  | t :: ts, k => (t, k) :: prsL ts (k + t.sz)
def prD (p : Th × Nat) : D := .tup [p.1.d, nI p.2]
theorem zip_prs : ∀ (ps : List Th) (k : Nat), zpD (Th.ds ps) ((nums k ps).map nI) = (prsL ps k).map prD
  | [], _ => rfl
  | t :: ts, k => by
    have ih := zip_prs ts (k + t.sz)
    rw [nums, prsL, List.map_cons, List.map_cons, ← ih]; rfl
theorem prs_mem : ∀ (ps : List Th) (k : Nat) (p : Th × Nat), p ∈ prsL ps k → p.1 ∈ ps
  | [], _, _, h => by cases h
  | t :: ts, k, p, h => by
    rw [prsL] at h
    rcases List.mem_cons.mp h with rfl | h
    · exact List.mem_cons_self
    · exact List.mem_cons_of_mem _ (prs_mem ts _ p h)
theorem ords_prs (b : Nat) : ∀ (ps : List Th) (k : Nat), ((prsL ps k).reverse.flatMap fun p => p.1.ord (b + p.2)) = Th.ords ps (b + k)
  | [], _ => rfl
  | t :: ts, k => by
    rw [prsL, List.reverse_cons, List.flatMap_append, ords_prs b ts (k + t.sz), Th.ords, Nat.add_assoc]
    simp
end
set_option maxHeartbeats 1000000
section
variable {K : Fg} {c : Nat → Addr} {M : Mem} {Q : QD} {Xd : XD}
def OrderOk (K : Fg) (c : Nat → Addr) (n : Nat) : Prop := ∀ (t : Th) (b : Nat) (M : Mem) (Q : QD) (Xd : XD), t.st + 1 ≤ n → t.st ≤ 7 → t.ok → t.sz ≤ 20 → Q (.lst ((t.ord b).map nI)) M → W_law_order K c n [t.d, .int b] M Q Xd
theorem order_loop {n : Nat} (ih : OrderOk K c n) {d0 : D} {b : Nat} {nx bk ct : SD → Mem → Prop} {rt : QD} {W : Mem → Prop} (hW : W M) {x2 : Option D} : ∀ (ps : List (Th × Nat)) (acc : List Nat) (o4 o5 : Option D), acc.length + 20 * ps.length ≤ 1000 → (∀ p ∈ ps, p.1.st + 1 ≤ n ∧ p.1.st ≤ 7 ∧ p.1.ok ∧ p.1.sz ≤ 20) →
    (∀ o4 o5, nx [some d0, some (.int b), x2, some (.lst ((acc ++ ps.flatMap fun p => p.1.ord (b + p.2)).map nI)), o4, o5] M) →
    sForL (gTp 2 (gCo (gNm 4) (gCo (gNm 5) (gNi)))) (sSet 3 (dOp addD (dVar 3) (dCall (W_law_order K c n) [] (dCons (dVar 4) (dCons (dOp addD (dVar 1) (dVar 5)) (dNil)))))) ⟨nx, rt, bk, ct, Xd⟩ W (ps.map prD) [some d0, some (.int b), x2, some (.lst (acc.map nI)), o4, o5] M
  | [], acc, o4, o5, _, _, h => w_forNil hW (by have := h o4 o5; simpa using this)
  | p :: ps, acc, o4, o5, hl, hp, h => by
    rw [List.length_cons] at hl
    obtain ⟨h1, h2, h3, h4⟩ := hp p List.mem_cons_self
    refine w_forCons hW ?_
    rw [show prD p = D.tup [p.1.d, .int (p.2 : Int)] from rfl]
    repeat fail
    have e : (b : Int) + (p.2 : Int) = ((b + p.2 : Nat) : Int) := by omega
    rw [e]
    refine ih p.1 (b + p.2) M _ _ h1 h2 h3 h4 ?_
    repeat fail
    refine w_addL (by rw [sizeLine_eq, List.length_map, List.length_map, ord_len]; omega) ?_
    rw [← List.map_append]
    refine order_loop ih hW ps _ _ _ (by rw [List.length_append, ord_len]; omega) (fun q hq => hp q (List.mem_cons_of_mem _ hq)) fun o4 o5 => ?_
    have := h o4 o5
    rw [List.flatMap_cons, ← List.append_assoc] at this
    exact this
theorem order_k : ∀ n : Nat, OrderOk K c n
  | 0 => fun _ _ _ _ _ h => by omega
  | n + 1 => fun t b M Q Xd h hst hok hz q => by
    refine E_law_order ?_
    repeat fail
    refine rows_k 8 t 0 _ _ _ (by omega) (by omega) ?_
    repeat fail
    cases t with
    | raw hr lo hi =>
      rw [Th.d]
      repeat fail
      refine w_eqS (by decide +kernel) (by decide +kernel) ?_
      rw [show decide ((Str.ofString "raw") = (Str.ofString "made")) = false from by decide +kernel]
      repeat fail
      exact lo_same q
    | made hr lo hi sh u w ps =>
      simp only [Th.st, Th.sz] at h hst hz
      have er : (rows (Th.made hr lo hi sh u w ps) 0).map rowD = rowD (Th.made hr lo hi sh u w ps, nums 1 ps) :: (rowss ps 1).map rowD := by rw [rows_eq]; rfl
      rw [er, Th.d]
      repeat fail
      refine w_eqS (by decide +kernel) (by decide +kernel) ?_
      rw [show decide ((Str.ofString "made") = (Str.ofString "made")) = true from by decide +kernel]
      repeat fail
      refine w_ixL (i := 0) (d := rowD (Th.made hr lo hi sh u w ps, nums 1 ps)) (by have y := atI_nat (xs := rowD (Th.made hr lo hi sh u w ps, nums 1 ps) :: (rowss ps 1).map rowD) (j := 0) (v := rowD (Th.made hr lo hi sh u w ps, nums 1 ps)) rfl; exact y) ?_
      unfold rowD
      repeat fail
      rw [show (nums 1 ps).map (fun (k : Nat) => D.int (k : Int)) = (nums 1 ps).map nI from rfl, zip_prs, ← List.map_reverse]
      have st_le : ∀ x ∈ ps, x.st ≤ Th.sts ps := fun x hx => by
        clear h hst hok hz q er
        induction ps with
        | nil => cases hx
        | cons y ys ih =>
          simp only [Th.sts]
          rcases List.mem_cons.mp hx with rfl | hx
          · omega
          · have := ih hx; omega
      have hpl : (prsL ps 1).length = ps.length := by
        have e : ∀ (ps : List Th) (k : Nat), (prsL ps k).length = ps.length := fun ps => by
          induction ps with
          | nil => intro k; rfl
          | cons t ts ih => intro k; rw [prsL, List.length_cons, ih, List.length_cons]
        exact e ps 1
      refine order_loop (order_k n) wat_none (prsL ps 1).reverse [b] none none ?_ (fun p hp => ?_) fun o4 o5 => ?_
      · rw [List.length_reverse, hpl]
        have := hok.2.2.1
        simp; omega
      · have hm := prs_mem ps 1 p (List.mem_reverse.mp hp)
        have h1 := st_le p.1 hm
        have h2 := sz_le hm
        exact ⟨by omega, by omega, oks_mem hok.2.2.2 hm, by omega⟩
      · rw [ords_prs]
        repeat fail
        exact lo_same q
end
set_option maxHeartbeats 1000000
/-! ### the prices in the order of the turned thing -/
def farL (t : Th) (fs : List (Int × Int)) : List (Int × Int) := (t.ord 0).map fun j => fs.getD j (0, 1)
theorem Pd.len {t : Th} {fs : List (Int × Int)} (P : Pd t fs) : fs.length = t.sz := by rw [P.fps.len, fl_len]
theorem ord_lt {t : Th} {j : Nat} (h : j ∈ t.ord 0) : j < t.sz := by
  have := (ord_perm t 0).mem_iff.mp h
  rw [← List.range_eq_range'] at this
  exact List.mem_range.mp this
theorem fps_map {F : Nat → Th} {g : Nat → Int × Int} : ∀ (js : List Nat), (∀ j ∈ js, FP (F j) (g j)) → FPs (js.map F) (js.map g)
  | [], _ => .nil
  | j :: js, h => .cons (h j List.mem_cons_self) (fps_map js fun k hk => h k (List.mem_cons_of_mem _ hk))
theorem fp_at {t : Th} {fs : List (Int × Int)} (P : Pd t fs) {j : Nat} (hj : j < t.sz) : FP (TT t j) (fs.getD j (0, 1)) := by
  have hl : j < fs.length := by rw [P.len]; exact hj
  have e : fs[j]? = some (fs.getD j (0, 1)) := by rw [List.getD_eq_getElem?_getD, List.getElem?_eq_getElem hl]; rfl
  obtain ⟨t', h1, h2⟩ := P.fps.at e
  rw [fl_at, List.getElem?_map, List.getElem?_range hj] at h1
  cases h1
  exact h2
theorem fp_rev {x : Th} {f : Int × Int} (h : FP x f) : FP x.rev f := by
  have e1 : lowOf x.rev = lowOf x := by cases x <;> rfl
  have e2 : higOf x.rev = higOf x := by cases x <;> rfl
  exact ⟨h.pos, h.cop, h.dvd, by rw [e1]; exact h.lo, by rw [e2]; exact h.hi, by rw [e1, e2]; exact h.bd⟩
theorem pd_rev {t : Th} {fs : List (Int × Int)} (P : Pd t fs) : Pd t.rev (farL t fs) := by
  refine ⟨rev_ok t P.ok, by rw [rev_sz]; exact P.sz, ?_⟩
  rw [rev_flat]
  exact fps_map _ fun j hj => fp_rev (fp_at P (ord_lt hj))
theorem lcm_swap (u x y : Int) : ((Nat.lcm ((Nat.lcm u.natAbs x.natAbs : Nat) : Int).natAbs y.natAbs : Nat) : Int) = ((Nat.lcm ((Nat.lcm u.natAbs y.natAbs : Nat) : Int).natAbs x.natAbs : Nat) : Int) := by
  rw [Int.natAbs_natCast, Int.natAbs_natCast, Nat.lcm_assoc, Nat.lcm_comm x.natAbs, ← Nat.lcm_assoc]
theorem unit_perm {l1 l2 : List (Int × Int)} (h : l1.Perm l2) : ∀ u, unitF u l1 = unitF u l2 := by
  induction h with
  | nil => intro u; rfl
  | cons x _ ih => intro u; exact ih _
  | swap x y l => intro u; unfold unitF; rw [List.foldl_cons, List.foldl_cons, List.foldl_cons, List.foldl_cons, lcm_swap]
  | trans _ _ ih1 ih2 => intro u; rw [ih1, ih2]
theorem list_getD {α : Type} (fs : List α) (d : α) : (List.range fs.length).map (fun j => fs.getD j d) = fs := by
  apply List.ext_getElem?
  intro i
  by_cases h : i < fs.length
  · rw [List.getElem?_map, List.getElem?_range h, List.getElem?_eq_getElem h]
    simp [List.getD_eq_getElem?_getD, List.getElem?_eq_getElem h]
  · rw [List.getElem?_eq_none (by rw [List.length_map, List.length_range]; omega), List.getElem?_eq_none (by omega)]
theorem far_perm {t : Th} {fs : List (Int × Int)} (P : Pd t fs) : (farL t fs).Perm fs := by
  have h := (ord_perm t 0).map fun j => fs.getD j ((0, 1) : Int × Int)
  rw [← List.range_eq_range', ← P.len, list_getD] at h
  exact h
theorem far_unit {t : Th} {fs : List (Int × Int)} (P : Pd t fs) : unitF 1 (farL t fs) = unitF 1 fs := unit_perm (far_perm P) 1
theorem far_row {t : Th} {fs : List (Int × Int)} (P : Pd t fs) : (List.range' 0 t.sz).map (aP (farL t fs)) = (t.ord 0).map (aP fs) := by
  apply List.ext_getElem?
  intro i
  rw [← List.range_eq_range']
  by_cases h : i < t.sz
  · have hl : i < (t.ord 0).length := by rw [ord_len]; exact h
    rw [List.getElem?_map, List.getElem?_range h, List.getElem?_map, List.getElem?_eq_getElem hl]
    show some (rowA (farL t fs) (unitF 1 (farL t fs)) i) = some (rowA fs (unitF 1 fs) (t.ord 0)[i])
    rw [far_unit P]
    unfold rowA farL
    rw [List.getD_eq_getElem?_getD (l := List.map _ _), List.getElem?_map, List.getElem?_eq_getElem hl]
    rfl
  · rw [List.getElem?_eq_none (by rw [List.length_map, List.length_range]; omega), List.getElem?_eq_none (by rw [List.length_map, ord_len]; omega)]
theorem turn_sums {t : Th} {fs : List (Int × Int)} (P : Pd t fs) : t.rev.cst 0 (aP (farL t fs)) = t.cst 0 (aP fs) ∧ t.rev.own 0 (aP (farL t fs)) = t.own 0 (aP fs) ∧ t.rev.word 0 (aP (farL t fs)) = t.word 0 (aP fs) := by
  obtain ⟨h1, h2, h3⟩ := rev_sum t 0 0 (far_row P)
  refine ⟨h1, h3, ?_⟩
  cases t with
  | raw _ _ _ => rfl
  | made hr lo hi sh u w ps =>
    show some (decide (sh * (Th.made hr lo hi sh u w ps).rev.cst 0 _ ≤ 100 * (Th.made hr lo hi sh u w ps).rev.own 0 _)) = _
    rw [h1, h3]; rfl
theorem TT0 (t : Th) : TT t 0 = t := by show atR (rows t 0) 0 = t; unfold atR; rw [rows_eq]; rfl
section
variable {K : Fg} {c : Nat → Addr} {M : Mem} {Q : QD} {Xd : XD}
theorem fr_at {fs : List (Int × Int)} {j : Nat} (h : j < fs.length) (q : Q (frD (fs.getD j (0, 1))) M) : ixD (.tup (fs.map frD)) (.int (j : Int)) M Q := by
  refine w_ixT (atI_nat (v := frD (fs.getD j (0, 1))) ?_) q
  rw [List.getElem?_map, List.getD_eq_getElem?_getD, List.getElem?_eq_getElem h]; rfl
/-- the first word -/
theorem word0_k {t : Th} {fs : List (Int × Int)} {b : Bool} (hg : t.good) (P : Pd t fs) (e : t.word 0 (aP fs) = some b) (q : Q (bI b) M) : Wwords_at K c [t.d, .tup (fs.map frD)] M (fun d M' => ixD d (.int 0) M' Q) Xd := by
  refine words_at_k hg P ?_
  obtain ⟨b', r, h1, h2⟩ := words0 hg P (a := aP fs)
  rw [e] at h2
  cases h2
  rw [h1, List.map_cons]
  exact w_ixT (d := bI b) (by have y := atI_nat (xs := bI b :: r.map bI) (j := 0) (v := bI b) rfl; exact y) q
theorem cost0_k {t : Th} {fs : List (Int × Int)} (hg : t.good) (P : Pd t fs) (q : Q (frD (lt (t.cst 0 (aP fs)) (unitF 1 fs))) M) : Wcosts K c [t.d, .tup (fs.map frD)] M (fun d M' => ixD d (.int 0) M' Q) Xd := by
  refine costs_k hg P ?_
  unfold tupF
  refine w_ixT (at_range (F := fun j => frD (lt ((TT t j).cst j (aP fs)) (unitF 1 fs))) (j := 0) (sz_pos t)) ?_
  rw [TT0]; exact q
theorem own0_k {t : Th} {fs : List (Int × Int)} (hg : t.good) (P : Pd t fs) (q : Q (frD (lt (t.own 0 (aP fs)) (unitF 1 fs))) M) : Wowns K c [t.d, .tup (fs.map frD)] M (fun d M' => ixD d (.int 0) M' Q) Xd := by
  refine owns_k hg P ?_
  unfold tupF
  refine w_ixT (at_range (F := fun j => frD (lt ((TT t j).own j (aP fs)) (unitF 1 fs))) (j := 0) (sz_pos t)) ?_
  rw [TT0]; exact q
theorem word_some {t : Th} (h : t.isMade = true) (b : Nat) (a : Nat → Int) : ∃ w, t.word b a = some w := by
  cases t with
  | raw _ _ _ => cases h
  | made _ _ _ _ _ _ _ => exact ⟨_, rfl⟩
theorem turned_right_k {t : Th} {fs : List (Int × Int)} (hg : t.good) (P : Pd t fs) (h : Q (.bl true) M) : W_law_turned_right K c [t.d, .tup (fs.map frD)] M Q Xd := by
  have hst := hg.st
  have hz := hg.sz
  have hr := rev_good hg
  have Pr := pd_rev P
  obtain ⟨e1, e2, e3⟩ := turn_sums P
  obtain ⟨b, eb⟩ := word_some hg.made 0 (aP fs)
  refine E_law_turned_right ?_
  repeat fail
  refine turn_k (by omega) hg.ok ?_
  repeat fail
  refine order_k 8 t 0 _ _ _ (by omega) (by omega) hg.ok (by omega) ?_
  repeat fail
  refine w_lc ?_
  repeat fail
  simp only [wipeD, List.set_cons_succ, List.set_cons_zero]
  intro q1 hq1
  refine lc_gen (F := nI) (h := fun j => frD (fs.getD j (0, 1))) hq1 (fun _ => wat_none) (t.ord 0) (by rw [ord_len, sizeLine_eq]; omega) (fun j hj acc K1 h1 => ?_) ?_
  · unfold nI
    repeat fail
    exact fr_at (by rw [P.len]; exact ord_lt hj) h1
  have ef : ((t.ord 0).map fun j => frD (fs.getD j (0, 1))) = (farL t fs).map frD := by unfold farL; rw [List.map_map]; rfl
  rw [ef]
  repeat fail
  refine portion_at_k hr Pr ?_
  repeat fail
  refine portion_at_k hg P ?_
  rw [e1, e2]
  refine w_neO (eq_fr _ _) ?_
  rw [decide_eq_true rfl]
  repeat fail
  refine word0_k hr Pr (by rw [e3]; exact eb) ?_
  repeat fail
  refine word0_k hg P eb ?_
  unfold bI
  repeat fail
  rw [decide_eq_true rfl]
  repeat fail
  refine cost0_k hr Pr ?_
  repeat fail
  refine cost0_k hg P ?_
  rw [e1, far_unit P]
  refine w_eqO (eq_fr _ _) ?_
  rw [decide_eq_true rfl]
  exact lo_same h
end
set_option maxHeartbeats 1000000
def f50 : Th → Th
  | .raw h lo hi => .raw h lo hi
  | .made h lo hi _ _ _ ps => .made h lo hi 50 false true ps
mutual
theorem mapT_50 : ∀ t : Th, mapT f50 t = t.o50
  | .raw _ _ _ => rfl
  | .made _ _ _ _ _ _ ps => by rw [mapT, f50, Th.o50, mapTs_50 ps]
theorem mapTs_50 : ∀ ts : List Th, mapTs f50 ts = Th.o50s ts
  | [] => rfl
  | t :: ts => by rw [mapTs, mapTs_50 ts, mapT_50 t, Th.o50s]
end
theorem fp_same {x y : Th} {f : Int × Int} (h : FP x f) (e1 : lowOf y = lowOf x) (e2 : higOf y = higOf x) : FP y f :=
  ⟨h.pos, h.cop, h.dvd, by rw [e1]; exact h.lo, by rw [e2]; exact h.hi, by rw [e1, e2]; exact h.bd⟩
theorem fps_same {g : Th → Th} (hg : ∀ x, lowOf (g x) = lowOf x ∧ higOf (g x) = higOf x) {ts : List Th} {fs : List (Int × Int)} (h : FPs ts fs) : FPs (ts.map g) fs := by
  induction h with
  | nil => exact .nil
  | cons h _ ih => exact .cons (fp_same h (hg _).1 (hg _).2) ih
theorem pd_50 {t : Th} {fs : List (Int × Int)} (P : Pd t fs) : Pd t.o50 fs := by
  refine ⟨o50_ok t P.ok, by rw [o50_sz]; exact P.sz, ?_⟩
  rw [o50_fl]
  exact fps_same (fun x => by cases x <;> exact ⟨rfl, rfl⟩) P.fps
theorem hereS_sum (a : Nat → Int) (L : Nat → Th) : ∀ (n b : Nat), hereS a ((List.range' b n).map L) b = (((List.range' b n).filter fun j => (L j).here).map a).sum
  | 0, _ => rfl
  | n + 1, b => by
    rw [List.range'_succ, List.map_cons, hereS, hereS_sum a L n (b + 1), List.filter_cons]
    cases (L b).here
    · simp [own1]
    · simp [own1]
def hereJ (t : Th) : List Nat := (List.range t.sz).filter fun j => (TT t j).here
theorem here_sum (t : Th) (a : Nat → Int) : hereS a t.fl 0 = ((hereJ t).map a).sum := by
  have := hereS_sum a (fun j => TT t j) t.sz 0
  rw [← List.range_eq_range', ← fl_at] at this
  exact this
theorem reps_map {u : Int} {g : Nat → Int × Int} {a : Nat → Int} : ∀ (js : List Nat), (∀ j ∈ js, Rep u (a j) (g j)) → Reps u (js.map g) (js.map a)
  | [], _ => .nil
  | j :: js, h => .cons (h j List.mem_cons_self) (reps_map js fun k hk => h k (List.mem_cons_of_mem _ hk))
theorem price_at {t : Th} {fs : List (Int × Int)} (P : Pd t fs) {j : Nat} (hj : j < t.sz) : FOk (fs.getD j (0, 1)) ∧ Rep (unitF 1 fs) (aP fs j) (fs.getD j (0, 1)) := by
  obtain ⟨f, hf1, hf2, hf3⟩ := P.pr.at_ j hj
  have e : fs.getD j (0, 1) = f := by rw [List.getD_eq_getElem?_getD, hf1]; rfl
  rw [e]; exact ⟨hf2, hf3⟩
section
variable {K : Fg} {c : Nat → Addr} {M : Mem} {Q : QD} {Xd : XD}
theorem termed_k {t : Th} (q : Q (f50 t).d M) : W_law_termed K c [t.d, .tup [.int 50, .str "own", .str "own"]] M Q Xd := by
  refine E_law_termed ?_
  cases t with
  | raw b lo hi =>
    rw [Th.d]
    repeat fail
    refine w_eqS (by decide +kernel) (by decide +kernel) ?_
    rw [show decide ((Str.ofString "raw") = (Str.ofString "made")) = false from by decide +kernel]
    repeat fail
    exact lo_same q
  | made b lo hi sh u w ps =>
    rw [Th.d]
    repeat fail
    refine w_eqS (by decide +kernel) (by decide +kernel) ?_
    rw [show decide ((Str.ofString "made") = (Str.ofString "made")) = true from by decide +kernel]
    repeat fail
    refine w_addT (by rw [sizeLine_eq]; exact Nat.le_of_ble_eq_true rfl) ?_
    repeat fail
    refine w_addT (by rw [sizeLine_eq]; exact Nat.le_of_ble_eq_true rfl) ?_
    exact lo_same q
theorem d_land {t : Th} (h : Q (landD t.here) M) : ixD t.d (.int 1) M Q := d_ix1 h
theorem own_right_k {t : Th} {fs : List (Int × Int)} (hg : t.good) (P : Pd t fs) (tm : TabsM (tabT c) M) (h : Q (.bl true) M) : W_law_own_right K c [t.d, .tup (fs.map frD)] M Q Xd := by
  have hst := hg.st
  have hz := hg.sz
  refine E_law_own_right ?_
  repeat fail
  refine ⟨tm, [], ⟨rfl, fun i j d z => by simp at z⟩, fun L => ?_⟩
  refine made_k (f := f50) ⟨_, ⟨rfl, rfl⟩, fun t M Q Xd _ h => ?_⟩ 8 t M _ _ (by omega) hg.ok ?_
  · exact termed_k (K := K) (c := c) h
  rw [mapT_50]
  repeat fail
  refine rows_k 8 t 0 _ _ _ (by omega) (by omega) ?_
  repeat fail
  refine w_lc ?_
  repeat fail
  rw [List.length_map, rows_len]
  refine w_rng1 (by omega) ?_
  have er : rngL 0 ((t.sz : Int)).toNat = (List.range t.sz).map nI := by
    unfold rngL; rw [Int.toNat_natCast]; refine List.map_congr_left fun j _ => ?_; rw [Int.zero_add]; rfl
  rw [er]
  simp only [wipeD, List.set_cons_succ, List.set_cons_zero]
  intro q hq
  refine lc_genF (F := nI) (h := fun j => frD (fs.getD j (0, 1))) (P := fun j => (TT t j).here) hq (fun _ => wat_none) (List.range t.sz) [] (by rw [List.length_range, sizeLine_eq]; simp; omega) (fun j hj acc K1 K0 h1 h0 => ?_) ?_
  · have hj := List.mem_range.mp hj
    unfold nI
    repeat fail
    have er : ((rows t 0).map rowD)[j]? = some (rowD (TT t j, numsT (TT t j) j)) := by rw [List.getElem?_map, at_row hj]; rfl
    refine w_ixL (atI_nat er) ?_
    unfold rowD
    repeat fail
    refine d_land ?_
    unfold landD
    repeat fail
    refine w_eqS (ol_land _) (by decide +kernel) ?_
    rw [dl_land]
    cases z : (TT t j).here
    · repeat fail
      exact h0 z
    · repeat fail
      refine fr_at (by rw [P.len]; exact hj) ?_
      exact h1 z
  rw [List.nil_append, show ((List.range t.sz).filter fun j => (TT t j).here) = hereJ t from rfl]
  have hin : ∀ j ∈ hereJ t, j < t.sz := fun j hj => List.mem_range.mp (List.mem_filter.mp hj).1
  have em : ((hereJ t).map fun j => frD (fs.getD j (0, 1))) = ((hereJ t).map fun j => fs.getD j (0, 1)).map frD := by rw [List.map_map]; rfl
  rw [em]
  repeat fail
  refine own0_k (o50_good hg) (pd_50 P) ?_
  repeat fail
  refine sum_k (fun g hgm => ?_) ?_ ?_
  · obtain ⟨j, hj, rfl⟩ := List.mem_map.mp hgm
    exact (price_at P (hin j hj)).1
  · rw [List.length_map]
    have := List.length_filter_le (fun j => (TT t j).here) (List.range t.sz)
    rw [List.length_range] at this
    unfold hereJ; omega
  have rs := Rep.sum (reps_map (u := unitF 1 fs) (g := fun j => fs.getD j (0, 1)) (a := aP fs) (hereJ t) fun j hj => (price_at P (hin j hj)).2)
  have hu := P.unit.1
  rw [(o50_sum t 0).2, here_sum, Rep.lt hu rs]
  refine w_eqO (eq_fr _ _) ?_
  rw [decide_eq_true rfl]
  exact lo_same h
end
set_option maxHeartbeats 1000000
/-! ### the share put anew -/
def shTo (k : Int) : Th → Th
  | .raw h lo hi => .raw h lo hi
  | .made h lo hi _ u w ps => .made h lo hi k u w ps
theorem shTo_good {t : Th} {k : Int} (hk : 0 ≤ k ∧ k ≤ 100) (hg : t.good) : (shTo k t).good := by
  obtain ⟨h1, h2, h3, h4, h5, h6⟩ := hg
  cases t with
  | raw _ _ _ => exact ⟨h1, h2, h3, h4, h5, h6⟩
  | made h lo hi sh u w ps => exact ⟨rfl, ⟨h2.1, hk, h2.2.2⟩, h3, h4, h5, h6⟩
theorem pd_sh {t : Th} {fs : List (Int × Int)} {k : Int} (hk : 0 ≤ k ∧ k ≤ 100) (P : Pd t fs) : Pd (shTo k t) fs := by
  obtain ⟨h1, h2, h3⟩ := P
  cases t with
  | raw _ _ _ => exact ⟨h1, h2, h3⟩
  | made h lo hi sh u w ps =>
    refine ⟨⟨h1.1, hk, h1.2.2⟩, h2, ?_⟩
    cases h3 with
    | cons a r => exact .cons (fp_same a rfl rfl) r
def ovr (t : Th) (a : Nat → Int) (k : Int) : Bool := decide (k * t.cst 0 a ≤ 100 * t.own 0 a)
theorem sh_word {t : Th} {k : Int} (hm : t.isMade = true) (a : Nat → Int) : (shTo k t).word 0 a = some (ovr t a k) := by
  cases t with
  | raw _ _ _ => cases hm
  | made h lo hi sh u w ps => rfl
def wI (t : Th) (a : Nat → Int) (k : Nat) : Int := if ovr t a (5 * (k : Int)) then 1 else 0
theorem wI_mono {t : Th} {a : Nat → Int} (hc : 0 ≤ t.cst 0 a) {j k : Nat} (h : j ≤ k) : wI t a k ≤ wI t a j := by
  unfold wI
  by_cases z : ovr t a (5 * (k : Int)) = true
  · have z2 : ovr t a (5 * (j : Int)) = true := by
      unfold ovr at z ⊢
      have z := of_decide_eq_true z
      refine decide_eq_true (Int.le_trans (Int.mul_le_mul_of_nonneg_right (by omega) hc) z)
    rw [z, z2]; exact Int.le_refl _
  · have z1 : ovr t a (5 * (k : Int)) = false := by simpa using z
    rw [z1]
    by_cases z2 : ovr t a (5 * (j : Int)) = true
    · rw [if_pos z2]; decide
    · rw [if_neg z2]; decide
theorem lt_inj {x y u : Int} (hu : 0 < u) (h : lt x u = lt y u) : x = y := by
  have h1 := lt_cross (p := x) (q := u)
  have h2 := lt_cross (p := y) (q := u)
  rw [h, h2] at h1
  exact (Int.eq_of_mul_eq_mul_right (by have := lt_pos (p := y) hu; omega) h1).symm
theorem perm_desc {xs ys : List Int} (h : ys.Perm xs) (hx : xs.Pairwise (· ≥ ·)) (hy : ys.Pairwise (· ≥ ·)) : ys = xs :=
  h.eq_of_pairwise (fun a b _ _ h1 h2 => Int.le_antisymm h2 h1) hy hx
section
variable {K : Fg} {c : Nat → Addr} {M : Mem} {Q : QD} {Xd : XD}
theorem sh_step {t : Th} {fs : List (Int × Int)} {k : Int} {x2 : Option D} (hg : t.good) (P : Pd t fs) (hkk : 0 ≤ k ∧ k ≤ 100) (q : Q (bI (ovr t (aP fs) k)) M) : (dOp ixD (dCall (Wwords_at K c) [] (dCons (dOp addD (dOp addD (dSl (dVar 0) (oNo) (oSo (dC (.int 4)))) (dTup (dCons (dOp addD (dTup (dCons (dVar 3) (dNil))) (dSl (dOp ixD (dVar 0) (dC (.int 4))) (oSo (dC (.int 1))) (oNo))) (dNil)))) (dSl (dVar 0) (oSo (dC (.int 5))) (oNo))) (dCons (dVar 1) (dNil)))) (dC (.int 0))) Xd [some t.d, some (.tup (fs.map frD)), x2, some (.int k)] M Q := by
  have hm := hg.made
  have Pk := pd_sh hkk P
  have hgk := shTo_good hkk hg
  have ew := sh_word (k := k) hm (aP fs)
  cases t with
  | raw _ _ _ => cases hm
  | made hr lo hi sh u w ps =>
    rw [Th.d]
    repeat fail
    unfold termD
    repeat fail
    refine w_addT (by rw [sizeLine_eq]; exact Nat.le_of_ble_eq_true rfl) ?_
    repeat fail
    refine w_addT (by rw [sizeLine_eq]; exact Nat.le_of_ble_eq_true rfl) ?_
    repeat fail
    refine w_addT (by rw [sizeLine_eq]; exact Nat.le_of_ble_eq_true rfl) ?_
    repeat fail
    show Wwords_at K c [.tup [.str "made", landD hr, .int lo, .int hi, .tup [.int k, .str (upS u), .str (dnS w)], .tup (Th.ds ps)], .tup (fs.map frD)] M (fun d M' => ixD d (.int 0) M' Q) Xd
    exact word0_k (t := .made hr lo hi k u w ps) hgk Pk ew q
theorem shares_loop {t : Th} {fs : List (Int × Int)} (hg : t.good) (P : Pd t fs) {p : Addr} {M0 : Mem} {nx bk ct : SD → Mem → Prop} {rt : QD} {W : Mem → Prop} (hW : ∀ M, W M) : ∀ (ks done : List Nat) (o3 : Option D), (∀ k ∈ ks, k ≤ 20) → done.length + ks.length ≤ 100 →
    (∀ o3, nx [some t.d, some (.tup (fs.map frD)), some (.ref p), o3] (M0.put p (.lst ((done ++ ks).map fun k => D.int (wI t (aP fs) k))))) →
    sForL (gNm 3) (sExpr (dApp (dVar 2) (dOp ixD (dCall (Wwords_at K c) [] (dCons (dOp addD (dOp addD (dSl (dVar 0) (oNo) (oSo (dC (.int 4)))) (dTup (dCons (dOp addD (dTup (dCons (dVar 3) (dNil))) (dSl (dOp ixD (dVar 0) (dC (.int 4))) (oSo (dC (.int 1))) (oNo))) (dNil)))) (dSl (dVar 0) (oSo (dC (.int 5))) (oNo))) (dCons (dVar 1) (dNil)))) (dC (.int 0))))) ⟨nx, rt, bk, ct, Xd⟩ W (ks.map fun (k : Nat) => D.int (5 * (k : Int))) [some t.d, some (.tup (fs.map frD)), some (.ref p), o3] (M0.put p (.lst (done.map fun k => D.int (wI t (aP fs) k))))
  | [], done, o3, _, _, h => w_forNil (hW _) (by have := h o3; simpa using this)
  | k :: ks, done, o3, hk, hl, h => by
    rw [List.length_cons] at hl
    have hk0 := hk k List.mem_cons_self
    have hkk : 0 ≤ 5 * (k : Int) ∧ 5 * (k : Int) ≤ 100 := by omega
    refine w_forCons (hW _) ?_
    repeat fail
    refine w_appO Mem.put_same ?_
    refine sh_step hg P hkk ?_
    refine w_appK Mem.put_same (by rw [sizeLine_eq, List.length_map]; omega) ?_
    rw [Mem.put_put]
    have e2 : (done.map fun k => D.int (wI t (aP fs) k)) ++ [bI (ovr t (aP fs) (5 * (k : Int)))] = (done ++ [k]).map fun k => D.int (wI t (aP fs) k) := by rw [List.map_append]; rfl
    rw [e2]
    repeat fail
    refine shares_loop hg P hW ks (done ++ [k]) _ (fun j hj => hk j (List.mem_cons_of_mem _ hj)) (by rw [List.length_append, List.length_singleton]; omega) fun o3 => ?_
    have := h o3
    rw [List.append_assoc]; exact this
theorem bl_eq (a b : Bool) : eqO (.bl a) (.bl b) = some (decide (a = b)) := by cases a <;> cases b <;> rfl
theorem shares_right_k {t : Th} {fs : List (Int × Int)} (hg : t.good) (P : Pd t fs) (h : Q (.bl true) M) : W_law_shares_right K c [t.d, .tup (fs.map frD)] M Q Xd := by
  have hC : 0 ≤ t.cst 0 (aP fs) := (cst_bd P.pr.ha t 0).1
  have hO : 0 ≤ t.own 0 (aP fs) ∧ t.own 0 (aP fs) ≤ t.cst 0 (aP fs) := (cnt_bd P.pr.ha t 0).2
  have hu := P.unit.1
  refine E_law_shares_right ?_
  repeat fail
  refine w_lstO ?_
  repeat fail
  intro p hp
  repeat fail
  refine ⟨0, 101, 5, 21, rfl, rgC_shares, ?_⟩
  have e0 : ((List.range 21).map fun (k : Nat) => D.int (0 + (k : Nat) * 5)) = (List.range 21).map fun (k : Nat) => D.int (5 * (k : Int)) := List.map_congr_left fun k _ => by congr 1; omega
  rw [e0]
  refine shares_loop hg P (fun _ => wat_none) (List.range 21) [] none (fun k hk => by have := List.mem_range.mp hk; omega) (by simp) fun o3 => ?_
  rw [List.nil_append]
  have ews : ((List.range 21).map fun k => D.int (wI t (aP fs) k)) = ((List.range 21).map (wI t (aP fs))).map D.int := by rw [List.map_map]; rfl
  rw [ews]
  have mono : ((List.range 21).map (wI t (aP fs))).Pairwise (· ≥ ·) := by
    rw [List.pairwise_map]
    exact List.pairwise_lt_range.imp fun {a b} hab => wI_mono hC (Nat.le_of_lt hab)
  have first : wI t (aP fs) 0 = 1 := by
    unfold wI ovr
    rw [decide_eq_true (show 5 * ((0 : Nat) : Int) * t.cst 0 (aP fs) ≤ 100 * t.own 0 (aP fs) from by simp; omega)]; rfl
  have last : wI t (aP fs) 20 = if t.own 0 (aP fs) = t.cst 0 (aP fs) then 1 else 0 := by
    unfold wI ovr
    by_cases z : t.own 0 (aP fs) = t.cst 0 (aP fs)
    · rw [if_pos z, decide_eq_true (show 5 * ((20 : Nat) : Int) * t.cst 0 (aP fs) ≤ 100 * t.own 0 (aP fs) from by rw [z]; exact Int.le_refl _)]; rfl
    · rw [if_neg z, decide_eq_false (show ¬ 5 * ((20 : Nat) : Int) * t.cst 0 (aP fs) ≤ 100 * t.own 0 (aP fs) from fun y => by
        have : 5 * ((20 : Nat) : Int) = 100 := by decide
        rw [this] at y
        omega)]; rfl
  generalize hws : (List.range 21).map (wI t (aP fs)) = ws at mono
  have hl : ws.length = 21 := by rw [← hws, List.length_map, List.length_range]
  have a0 : atI (ws.map D.int) 0 = some (.int 1) := by
    have y := atI_nat (xs := ws.map D.int) (j := 0) (v := .int 1) (by rw [← hws, ← first]; rfl)
    exact y
  have a20 : atI (ws.map D.int) (-1) = some (.int (wI t (aP fs) 20)) := by
    rw [← hws]; rfl
  have hMp : (M.put p (.lst (ws.map D.int))) p = some (.lst (ws.map D.int)) := Mem.put_same
  repeat fail
  refine w_ixRL hMp a0 ?_
  repeat fail
  rw [show (!decide ((1 : Int) = 1)) = false from rfl]
  repeat fail
  refine ⟨ws, by simp only [lsmO, hMp], by omega, fun is' hperm hdesc => ?_⟩
  have es : is' = ws := perm_desc hperm mono hdesc
  subst es
  refine w_neO (b := true) (by simp only [vw, vwO, hMp]; rw [eqL_ints, decide_eq_true rfl]) ?_
  repeat fail
  refine w_ixRL hMp a20 ?_
  repeat fail
  refine own0_k hg P ?_
  repeat fail
  refine cost0_k hg P ?_
  refine w_eqO (eq_fr _ _) ?_
  refine w_eqO (bl_eq _ _) ?_
  have key : decide (wI t (aP fs) 20 = 1) = decide (lt (t.own 0 (aP fs)) (unitF 1 fs) = lt (t.cst 0 (aP fs)) (unitF 1 fs)) := by
    rw [last]
    by_cases z : t.own 0 (aP fs) = t.cst 0 (aP fs)
    · rw [if_pos z, z]; simp
    · rw [if_neg z, decide_eq_false (by decide), decide_eq_false]
      intro y
      exact z (lt_inj hu y)
  rw [decide_eq_true key]
  exact lo_less (Ext.put Ext.refl hp) h
end
set_option maxHeartbeats 1000000
section
variable {K : Fg} {c : Nat → Addr} {M : Mem} {Q : QD} {Xd : XD}
def pOf (is : List Int) (k : Nat) : Int := is.getD k 1
theorem p_at {is : List Int} {k : Nat} (h : k < is.length) (q : Q (.int (pOf is k)) M) : ixD (.lst (is.map D.int)) (.int (k : Int)) M Q := by
  refine w_ixL (atI_nat (v := .int (pOf is k)) ?_) q
  unfold pOf
  rw [List.getElem?_map, List.getD_eq_getElem?_getD, List.getElem?_eq_getElem h]; rfl
def WithOk (K : Fg) (c : Nat → Addr) (is : List Int) (n : Nat) : Prop := ∀ (t : Th) (b : Nat) (M : Mem) (Q : QD) (Xd : XD), t.st + 1 ≤ n → t.ok → b + t.sz ≤ is.length → Q (.tup [(t.fix b (pOf is)).d, .int ((b + t.sz : Nat) : Int)]) M → W_law_with K c n [t.d, .lst (is.map D.int), .int b] M Q Xd
theorem with_loop {is : List Int} {n : Nat} (ih : WithOk K c is n) {p : Addr} {M0 : Mem} {d0 d2 d3 : Option D} {nx bk ct : SD → Mem → Prop} {rt : QD} {W : Mem → Prop} (hW : ∀ M, W M) : ∀ (ts : List Th) (k : Nat) (acc : List D) (o6 o7 : Option D), (∀ x ∈ ts, x.st + 1 ≤ n ∧ x.ok) → k + Th.szs ts ≤ is.length → acc.length + ts.length ≤ 1000 →
    (∀ o6 o7, nx [d0, some (.lst (is.map D.int)), d2, d3, some (.int ((k + Th.szs ts : Nat) : Int)), some (.ref p), o6, o7] (M0.put p (.lst (acc ++ Th.ds (Th.fixs ts k (pOf is)))))) →
    sForL (gNm 6) (sSeq (sAsg (dCall (W_law_with K c n) [] (dCons (dVar 6) (dCons (dVar 1) (dCons (dVar 4) (dNil))))) (gTp 2 (gCo (gNm 7) (gCo (gNm 4) (gNi))))) (sExpr (dApp (dVar 5) (dVar 7)))) ⟨nx, rt, bk, ct, Xd⟩ W (Th.ds ts) [d0, some (.lst (is.map D.int)), d2, d3, some (.int (k : Int)), some (.ref p), o6, o7] (M0.put p (.lst acc))
  | [], k, acc, o6, o7, _, _, _, h => w_forNil (hW _) (by have := h o6 o7; simpa [Th.szs, Th.fixs, Th.ds] using this)
  | t :: ts, k, acc, o6, o7, ht, hk, hl, h => by
    simp only [Th.szs] at hk
    rw [List.length_cons] at hl
    obtain ⟨h1, h2⟩ := ht t List.mem_cons_self
    refine w_forCons (hW _) ?_
    repeat fail
    refine ih t k _ _ _ h1 h2 (by omega) ?_
    repeat fail
    refine w_appO Mem.put_same ?_
    repeat fail
    refine w_appK Mem.put_same (by rw [sizeLine_eq]; omega) ?_
    rw [Mem.put_put]
    repeat fail
    refine with_loop ih hW ts (k + t.sz) (acc ++ [(t.fix k (pOf is)).d]) _ _ (fun x hx => ht x (List.mem_cons_of_mem _ hx)) (by omega) (by rw [List.length_append, List.length_singleton]; omega) fun o6 o7 => ?_
    have := h o6 o7
    simp only [Th.szs, Th.fixs, Th.ds] at this
    rw [List.append_assoc, Nat.add_assoc]
    exact this
theorem with_k {is : List Int} : ∀ n : Nat, WithOk K c is n
  | 0 => fun _ _ _ _ _ h => by omega
  | n + 1 => fun t b M Q Xd h hok hb q => by
    have hz := sz_pos t
    refine E_law_with ?_
    repeat fail
    refine p_at (by omega) ?_
    repeat fail
    cases t with
    | raw hr lo hi =>
      rw [Th.d]
      repeat fail
      refine w_eqS (by decide +kernel) (by decide +kernel) ?_
      rw [show decide ((Str.ofString "raw") = (Str.ofString "raw")) = true from by decide +kernel]
      repeat fail
      refine w_addT (by rw [sizeLine_eq]; exact Nat.le_of_ble_eq_true rfl) ?_
      repeat fail
      exact lo_same q
    | made hr lo hi sh u w ps =>
      simp only [Th.st, Th.sz] at h hb
      rw [Th.d]
      repeat fail
      refine w_eqS (by decide +kernel) (by decide +kernel) ?_
      rw [show decide ((Str.ofString "made") = (Str.ofString "raw")) = false from by decide +kernel]
      repeat fail
      refine w_lstO ?_
      repeat fail
      intro p hp
      repeat fail
      have st_le : ∀ x ∈ ps, x.st ≤ Th.sts ps := fun x hx => by
        clear h hok hb q hz
        induction ps with
        | nil => cases hx
        | cons y ys ih =>
          simp only [Th.sts]
          rcases List.mem_cons.mp hx with rfl | hx
          · omega
          · have := ih hx; omega
      have e1 : (b : Int) + 1 = ((b + 1 : Nat) : Int) := rfl
      rw [e1]
      refine with_loop (with_k n) (fun _ => wat_none) ps (b + 1) [] none none (fun x hx => ⟨by have := st_le x hx; omega, oks_mem hok.2.2.2 hx⟩) (by omega) (by have := hok.2.2.1; simp; omega) fun o6 o7 => ?_
      rw [List.nil_append]
      repeat fail
      refine w_tupR Mem.put_same ?_
      repeat fail
      refine w_addT (by rw [sizeLine_eq]; exact Nat.le_of_ble_eq_true rfl) ?_
      repeat fail
      have es : b + 1 + Th.szs ps = b + (Th.made hr lo hi sh u w ps).sz := by simp only [Th.sz]; omega
      rw [es]
      exact lo_less (Ext.put Ext.refl hp) q
end
/-! ### all prices times many -/
def fTimes (m : Int) : Th → Th
  | .raw h lo hi => .raw h (m * lo) (m * hi)
  | .made h lo hi sh u w ps => .made h (m * lo) (m * hi) sh u w ps
mutual
theorem mapT_times (m : Int) : ∀ t : Th, mapT (fTimes m) t = t.times m
  | .raw _ _ _ => rfl
  | .made _ _ _ _ _ _ ps => by rw [mapT, fTimes, Th.times, mapTs_times m ps]
theorem mapTs_times (m : Int) : ∀ ts : List Th, mapTs (fTimes m) ts = Th.timess m ts
  | [] => rfl
  | t :: ts => by rw [mapTs, mapTs_times m ts, mapT_times m t, Th.timess]
end
theorem fps_fx {p : Nat → Int} (hp : ∀ k, 0 < p k ∧ p k ≤ 1000000) : ∀ (xs : List Th) (b : Nat), Fx p xs b → FPs xs ((List.range' b xs.length).map fun k => (p k, 1))
  | [], _, _ => .nil
  | x :: xs, b, h => by
    rw [List.length_cons, List.range'_succ, List.map_cons]
    obtain ⟨h1, h2, h3⟩ := h
    have e1 : lowOf x = p b := by rw [← h1]; cases x <;> rfl
    have e2 : higOf x = p b := by rw [← h2]; cases x <;> rfl
    have hb := hp b
    exact .cons ⟨by show (0 : Int) < 1; decide, by show Int.gcd (p b) 1 = 1; simp, by show (1 : Int) ∣ 2100; decide, by rw [e1]; show p b * 1 ≤ p b; omega, by rw [e2]; show p b ≤ p b * 1; omega, by rw [e1, e2]; exact ⟨by omega, Int.le_refl _, hb.2⟩⟩ (fps_fx hp xs (b + 1) h3)
def rowL (n : Nat) (p : Nat → Int) : List (Int × Int) := (List.range n).map fun k => (p k, 1)
theorem pd_fix {t : Th} (hg : t.good) {p : Nat → Int} (hp : ∀ k, 0 < p k ∧ p k ≤ 1000000) : Pd (t.fix 0 p) (rowL t.sz p) := by
  have hz := hg.sz
  refine ⟨(fix_ok hp t 0 hg.ok).1, by rw [fix_sz]; omega, ?_⟩
  have := fps_fx hp (t.fix 0 p).fl 0 (fix_fx t 0)
  rw [fl_len, fix_sz, ← List.range_eq_range'] at this
  exact this
theorem unit_one : ∀ (ks : List Nat) (p : Nat → Int), unitF 1 (ks.map fun k => (p k, (1 : Int))) = 1
  | [], _ => rfl
  | k :: ks, p => by
    have ih := unit_one ks p
    unfold unitF at ih ⊢
    have e : (((1 : Int).natAbs.lcm ((p k, (1 : Int)).snd).natAbs : Nat) : Int) = 1 := by simp
    rw [List.map_cons, List.foldl_cons, e]
    exact ih
theorem aP_row (n : Nat) (p : Nat → Int) (k : Nat) : aP (rowL n p) k = if k < n then p k else 0 := by
  show inU (unitF 1 (rowL n p)) ((rowL n p).getD k (0, 1)) = _
  rw [show unitF 1 (rowL n p) = 1 from unit_one (List.range n) p]
  unfold rowL inU
  by_cases h : k < n
  · rw [if_pos h, List.getD_eq_getElem?_getD, List.getElem?_map, List.getElem?_range h]
    show p k * (1 / 1) = p k
    simp
  · rw [if_neg h, List.getD_eq_getElem?_getD, List.getElem?_eq_none (by rw [List.length_map, List.length_range]; omega)]
    show (0 : Int) * (1 / 1) = 0
    simp
theorem aP_mul (n : Nat) (p : Nat → Int) (m : Int) : aP (rowL n fun k => m * p k) = fun k => m * aP (rowL n p) k := by
  funext k
  rw [aP_row, aP_row]
  by_cases h : k < n
  · rw [if_pos h, if_pos h]
  · rw [if_neg h, if_neg h, Int.mul_zero]
theorem filterMap_same {α β : Type} {f g : α → Option β} : ∀ (l : List α), (∀ x ∈ l, f x = g x) → l.filterMap f = l.filterMap g
  | [], _ => rfl
  | x :: l, h => by rw [List.filterMap_cons, List.filterMap_cons, h x List.mem_cons_self, filterMap_same l fun y hy => h y (List.mem_cons_of_mem _ hy)]
theorem words_times {m : Int} (hm : 0 < m) (t : Th) (a : Nat → Int) : wordsL (t.times m) (fun k => m * a k) = wordsL t a := by
  unfold wordsL
  rw [times_sz]
  refine filterMap_same _ fun j hj => ?_
  have e := times_TT m t (List.mem_range.mp hj)
  show (TT (t.times m) j).word j _ = (TT t j).word j a
  rw [e]
  exact times_word hm _ _ _
theorem words_ints (ws : List Bool) : ws.map bI = (ws.map fun b => if b then (1 : Int) else 0).map D.int := by rw [List.map_map]; rfl
section
variable {K : Fg} {c : Nat → Addr} {M : Mem} {Q : QD} {Xd : XD}
theorem grown_k {m : Int} {t : Th} (hm : 0 ≤ m ∧ m ≤ 1000) (hok : bnd (loT t) (hiT t)) (q : Q (fTimes m t).d M) : bodyF (sRet (dOp addD (dOp addD (dSl (dVar 0) (oNo) (oSo (dC (.int 2)))) (dTup (dCons (dOp mulD (dVar 1) (dOp ixD (dVar 0) (dC (.int 2)))) (dCons (dOp mulD (dVar 1) (dOp ixD (dVar 0) (dC (.int 3)))) (dNil))))) (dSl (dVar 0) (oSo (dC (.int 4))) (oNo)))) ["thing", "many"] ([m].map D.int) [t.d] M Q Xd := by
  have mw : ∀ {x : Int}, 0 ≤ x ∧ x ≤ 1000000 → CMulW m x := fun {x} hx => mulW (Nat.lt_of_lt_of_le (show m.natAbs < 2 ^ 30 by omega) (by decide)) (Nat.lt_of_lt_of_le (show x.natAbs < 2 ^ 30 by omega) (by decide))
  show (sRet (dOp addD (dOp addD (dSl (dVar 0) (oNo) (oSo (dC (.int 2)))) (dTup (dCons (dOp mulD (dVar 1) (dOp ixD (dVar 0) (dC (.int 2)))) (dCons (dOp mulD (dVar 1) (dOp ixD (dVar 0) (dC (.int 3)))) (dNil))))) (dSl (dVar 0) (oSo (dC (.int 4))) (oNo)))) ⟨fun _ M' => Lo Q .non M', Lo Q, fun _ _ => False, fun _ _ => False, Xd⟩ [some t.d, some (.int m)] M
  cases t with
  | raw b lo hi =>
    obtain ⟨h1, h2, h3⟩ := hok
    simp only [loT, hiT] at h1 h2 h3
    rw [Th.d]
    repeat fail
    refine w_mulI (mw (by omega)) ?_
    repeat fail
    refine w_mulI (mw (by omega)) ?_
    repeat fail
    refine w_addT (by rw [sizeLine_eq]; exact Nat.le_of_ble_eq_true rfl) ?_
    repeat fail
    refine w_addT (by rw [sizeLine_eq]; exact Nat.le_of_ble_eq_true rfl) ?_
    exact lo_same q
  | made b lo hi sh u w ps =>
    obtain ⟨h1, h2, h3⟩ := hok
    simp only [loT, hiT] at h1 h2 h3
    rw [Th.d]
    repeat fail
    refine w_mulI (mw (by omega)) ?_
    repeat fail
    refine w_mulI (mw (by omega)) ?_
    repeat fail
    refine w_addT (by rw [sizeLine_eq]; exact Nat.le_of_ble_eq_true rfl) ?_
    repeat fail
    refine w_addT (by rw [sizeLine_eq]; exact Nat.le_of_ble_eq_true rfl) ?_
    exact lo_same q
theorem least1_k {i : Int} (b1 : i.natAbs ≤ 2 ^ 64) (q : Q (frD (i, 1)) M) : W_law_least K c [.int i, .int 1] M Q Xd := by
  refine least_k (by decide) (Nat.le_trans b1 (Nat.pow_le_pow_right (by decide) (by decide))) (Nat.le_trans (show (1 : Int).natAbs ≤ 2 ^ 0 from Nat.le_refl _) (Nat.pow_le_pow_right (by decide) (by decide))) ?_
  rw [lt_self (by decide) (by simp)]
  exact q
theorem times_right_k {t : Th} (hg : t.good) {p : Nat → Int} {m : Int} (hp : ∀ k, 0 < p k ∧ p k ≤ 1000) (hm : 0 < m ∧ m ≤ 1000) (tm : TabsM (tabT c) M) (h : Q (.bl true) M) : W_law_times_right K c [(t.fix 0 p).d, .tup ((rowL t.sz p).map frD), .int m] M Q Xd := by
  have hz := hg.sz
  have hp1 : ∀ k, 0 < p k ∧ p k ≤ 1000000 := fun k => ⟨(hp k).1, by have := (hp k).2; omega⟩
  have hp2 : ∀ k, 0 < m * p k ∧ m * p k ≤ 1000000 := fun k => ⟨Int.mul_pos hm.1 (hp k).1, by
    have : m * p k ≤ 1000 * 1000 := Int.mul_le_mul hm.2 (hp k).2 (by have := (hp k).1; omega) (by decide)
    omega⟩
  have g1 := fix_good hg hp1 0
  have g2 : ((t.fix 0 p).times m).good := by rw [fix_times]; exact fix_good hg hp2 0
  have P1 := pd_fix hg hp1
  have P2 : Pd ((t.fix 0 p).times m) (rowL t.sz fun k => m * p k) := by rw [fix_times]; exact pd_fix hg hp2
  have hst := g1.st
  refine E_law_times_right ?_
  refine ⟨by simp, tm, (t.fix 0 p).d, rfl, [m], ⟨rfl, fun i j d z1 z2 => ?_⟩, fun L => ?_⟩
  · cases i with
    | zero => cases z1; cases z2; rfl
    | succ i => simp at z1
  refine made_k (f := fTimes m) ⟨_, ⟨rfl, rfl⟩, fun x M Q Xd hb h => ?_⟩ 8 (t.fix 0 p) M _ _ (by omega) g1.ok ?_
  · exact grown_k (by omega) hb h
  rw [mapT_times]
  simp only [List.set_cons_succ, List.set_cons_zero]
  repeat fail
  refine w_lc ?_
  repeat fail
  simp only [wipeD, List.set_cons_succ, List.set_cons_zero]
  intro q1 hq1
  have e1 : (rowL t.sz p).map frD = (List.range t.sz).map fun k => frD (p k, 1) := by unfold rowL; rw [List.map_map]; rfl
  have e2 : ((List.range t.sz).map fun k => frD (m * p k, 1)) = (rowL t.sz fun k => m * p k).map frD := by unfold rowL; rw [List.map_map]; rfl
  rw [e1]
  refine lc_gen (F := fun k => frD (p k, 1)) (h := fun k => frD (m * p k, 1)) hq1 (fun _ => wat_none) (List.range t.sz) (by rw [List.length_range, sizeLine_eq]; omega) (fun k hk acc K1 h1 => ?_) ?_
  · unfold frD
    have hpk := hp k
    have hpm := hp2 k
    repeat fail
    refine w_mulI (mulW (Nat.lt_of_lt_of_le (show m.natAbs < 2 ^ 30 by omega) (by decide)) (Nat.lt_of_lt_of_le (show (p k).natAbs < 2 ^ 30 by omega) (by decide))) ?_
    repeat fail
    refine least1_k (by show (m * p k).natAbs ≤ 2 ^ 64; omega) ?_
    exact h1
  rw [e2, ← e1]
  repeat fail
  refine words_at_k g2 P2 ?_
  repeat fail
  refine words_at_k g1 P1 ?_
  rw [aP_mul, words_times hm.1, words_ints]
  refine w_eqO (eqT_ints _ _) ?_
  rw [decide_eq_true rfl]
  repeat fail
  refine portion_at_k g2 P2 ?_
  repeat fail
  refine portion_at_k g1 P1 ?_
  have hc1 := cost_pos g1 P1
  obtain ⟨s1, _, s3⟩ := times_sum (a := aP (rowL t.sz p)) hm.1 (t.fix 0 p) 0 m
  rw [aP_mul, s1, s3]
  have el : lt (m * (t.fix 0 p).own 0 (aP (rowL t.sz p))) (m * (t.fix 0 p).cst 0 (aP (rowL t.sz p))) = lt ((t.fix 0 p).own 0 (aP (rowL t.sz p))) ((t.fix 0 p).cst 0 (aP (rowL t.sz p))) :=
    lt_eq (by rw [Int.mul_assoc, Int.mul_left_comm]) (Int.mul_pos hm.1 hc1) hc1
  rw [el]
  refine w_eqO (eq_fr _ _) ?_
  rw [decide_eq_true rfl]
  exact lo_same h
end
set_option maxHeartbeats 1000000
section
variable {K : Fg} {c : Nat → Addr} {M : Mem} {Q : QD} {Xd : XD}
theorem begun2_k {ns : List Int} (hl : ns.length ≤ 1000) {M : Mem} {Q : QD} {Xd : XD}
    (h : ∀ (p : Addr) (M' : Mem) (cells : List Int), cells ≠ [] → Dr p cells 0 M' → M p = none → Sm p M M' → Q (.ref p) M') : W_law_begun K c [.fzn (ns.map D.int)] M Q Xd := by
  refine E_law_begun ?_
  repeat fail
  refine w_lc ?_
  repeat fail
  refine w_itemF ?_
  intro q hq
  have hwp : ∀ x0 x1 x2 : Option D, wipeD [x0, x1, x2] [2] = [x0, x1, none] := fun _ _ _ => rfl
  rw [hwp]
  refine lc_filt hq greatD (fun _ => wat_none) _ [] (by simp [sizeLine_eq]; omega) (fun d hd acc K1 K0 h1 h0 => ?_) ?_
  · obtain ⟨i, hi, rfl⟩ := List.mem_map.mp hd
    repeat fail
    refine w_powI ⟨by decide, by decide, by decide⟩ ?_
    repeat fail
    have e18 : (10 : Int) ^ (18 : Int).toNat = 10 ^ 18 := rfl
    rw [e18]
    refine w_ifd (fun z => ?_) fun z => ?_
    · repeat fail
      exact h1 _ (if_pos z)
    · exact h0 (if_neg z)
  have eg : ∃ gs : List Int, ([] : List D) ++ (ns.map D.int).filterMap greatD = gs.map D.int := by
    rw [List.nil_append]
    clear hl h hq
    induction ns with
    | nil => exact ⟨[], rfl⟩
    | cons n ns ih =>
      obtain ⟨gs, hg⟩ := ih
      rw [List.map_cons, List.filterMap_cons]
      by_cases z : (10 : Int) ^ 18 ≤ n
      · have : greatD (.int n) = some (.int n) := if_pos z
        rw [this]
        exact ⟨n :: gs, by simp only [hg, List.map_cons]⟩
      · have : greatD (.int n) = none := if_neg z
        rw [this]
        exact ⟨gs, hg⟩
  obtain ⟨gs, hgs⟩ := eg
  rw [hgs]
  repeat fail
  refine w_dct ?_
  intro p hp
  repeat fail
  refine w_listF ?_
  repeat fail
  refine w_lenF ?_
  repeat fail
  refine w_addL (by simp [sizeLine_eq]; omega) ?_
  repeat fail
  have fin : ∀ left : Int, (M.put p (.dct [] [])) p = some (.dct [] []) ∧ Lo Q (.ref p) ((M.put p (.dct [] [])).put p (.dct mK [.lst (ns.map D.int ++ [.int ((ns.map D.int).length : Int)]), .int left, .int 0])) := fun left => by
    refine ⟨Mem.put_same, lo_same (h p _ (ns ++ [(ns.length : Int)]) (by simp) ⟨left, 0, ?_, by decide, by decide⟩ hp fun x hx => ?_)⟩
    · rw [Mem.put_same]
      have e : ns.map D.int ++ [.int ((ns.map D.int).length : Int)] = (ns ++ [(ns.length : Int)]).map D.int := by simp
      rw [e]; rfl
    · rw [Mem.put_ne hx, Mem.put_ne hx]
  refine w_neO (eq_nil gs) ?_
  repeat fail
  refine w_ifnd (fun z => ?_) fun z => ?_
  · cases gs with
    | nil => exact absurd rfl z
    | cons g gs =>
      repeat fail
      refine w_ixL (by have y := atI_nat (xs := (g :: gs).map D.int) (j := 0) (v := .int g) rfl; exact y) ?_
      repeat fail
      exact fin g
  · repeat fail
    exact fin 0
theorem tabs_dr {T : List (Addr × Str)} {a : Addr} {cells : List Int} {b b' : Int} {M' : Mem} (tm : TabsM T M) (h : Dr a cells b M) (h' : Dr a cells b' M') (s : Sm a M M') : TabsM T M' := by
  obtain ⟨l, s1, e, _⟩ := h
  obtain ⟨l', s1', e', _⟩ := h'
  refine ⟨fun p hp => ?_, fun x q hx => ?_⟩
  · have z := tm.1 p hp
    have ne : p.1 ≠ a := fun y => by rw [y, e] at z; cases z
    rw [s _ ne]; exact z
  · by_cases y : x = a
    · subst y; rw [e'] at hx; cases hx
    · exact tm.2 x q (by rw [← s x y]; exact hx)
theorem tabs_new {T : List (Addr × Str)} {a : Addr} {cells : List Int} {b : Int} {M' : Mem} (tm : TabsM T M) (hp : M a = none) (h' : Dr a cells b M') (s : Sm a M M') : TabsM T M' := by
  obtain ⟨l', s1', e', _⟩ := h'
  refine ⟨fun p hx => ?_, fun x q hx => ?_⟩
  · have z := tm.1 p hx
    have ne : p.1 ≠ a := fun y => by rw [y, hp] at z; cases z
    rw [s _ ne]; exact z
  · by_cases y : x = a
    · subst y; rw [e'] at hx; cases hx
    · exact tm.2 x q (by rw [← s x y]; exact hx)
theorem fixed_loop {a p : Addr} {cells : List Int} (hc : cells ≠ []) (npa : p ≠ a) {M0 : Mem} (hp0 : M0 p = none) {W : Mem → Prop} (hW : ∀ M, W M) {B : Int} (hB : B < 2 ^ 40) {x0 x2 x3 x4 x5 x6 x7 x8 x9 x10 x11 : Option D} : ∀ (ds : List D) (acc : List Int) (b : Int) (M : Mem), Dr a cells b M → b + (ds.length : Int) ≤ B → M p = some (.lst (acc.map D.int)) → (∀ x, x ≠ a → x ≠ p → M x = M0 x) →
    (∀ i ∈ acc, 2 ≤ i ∧ i ≤ 51) → acc.length + ds.length ≤ 1000 →
    (∀ (is : List Int) M', is.length = acc.length + ds.length → (∀ i ∈ is, 2 ≤ i ∧ i ≤ 51) → Dr a cells B M' → Sm a M0 M' → Q (.lst (is.map D.int)) M') →
    dLcL (gNm 7) tYesD (dOp addD (dC (.int 2)) (dCall (W_law_draw K c) [] (dCons (dVar 1) (dCons (dC (.int 50)) (dNil))))) [x0, some (.ref a), x2, x3, x4, x5, x6, x7, x8, x9, x10, x11] W p Q ds M
  | [], acc, b, M, hD, hb, hM, ho, ha, hl, h => by
    refine w_lcNil (hW M) hM ?_
    refine h acc _ rfl ha ?_ fun x hx => ?_
    · obtain ⟨l, s, e, h0, h1⟩ := hD
      exact ⟨l, s, by rw [Mem.del_ne (Ne.symm npa)]; exact e, h0, by simp at hb; omega⟩
    · by_cases z : x = p
      · subst z; rw [Mem.del_same, hp0]
      · rw [Mem.del_ne z]; exact ho x hx z
  | d :: ds, acc, b, M, hD, hb, hM, ho, ha, hl, h => by
    rw [List.length_cons] at hb hl
    push_cast at hb
    refine w_lcCons (hW M) ?_
    repeat fail
    refine draw_k hc (by decide) (by decide) (by omega) hD fun r M1 r0 r1 hD1 hS1 => ?_
    repeat fail
    refine w_accK ((hS1 p npa).trans hM) (by rw [sizeLine_eq, List.length_map]; omega) ?_
    have e : acc.map D.int ++ [D.int (2 + r)] = (acc ++ [2 + r]).map D.int := by rw [List.map_append]; rfl
    rw [e]
    refine fixed_loop hc npa hp0 hW hB ds (acc ++ [2 + r]) (b + 1) _ (hD1.put (Ne.symm npa)) (by omega) Mem.put_same (fun x h1 h2 => ?_) (fun i hi => ?_) (by rw [List.length_append, List.length_singleton]; omega) fun is M' h1 h2 h3 h4 => ?_
    · rw [Mem.put_ne h2, hS1 x h1]; exact ho x h1 h2
    · rcases List.mem_append.mp hi with hi | hi
      · exact ha i hi
      · rw [List.mem_singleton] at hi; rw [hi]; omega
    · exact h is M' (by rw [h1, List.length_append, List.length_singleton, List.length_cons]; omega) h2 h3 h4
theorem again_step {a : Addr} {cells : List Int} (hc : cells ≠ []) {t : Th} (hg : t.good) {nx bk ct : SD → Mem → Prop} {rt : QD} {b : Int} (hb : b < 2 ^ 40) (tm : TabsM (tabT c) M) (hD : Dr a cells b M) {x0 x2 x4 x5 x6 x7 x8 x9 x10 x11 : Option D}
    (h : ∀ (fs : List (Int × Int)) (M' : Mem), Pd t fs → TabsM (tabT c) M' → Dr a cells (b + 30) M' → Sm a M M' → nx [x0, some (.ref a), x2, some t.d, x4, some (.tup (fs.map frD)), x6, x7, x8, x9, x10, x11] M') :
    (sSeq (sSet 5 (dCall (W_law_prices K c) [] (dCons (dVar 1) (dCons (dVar 3) (dNil))))) (sIf (tOrD (tNotD (dTru (dCall (W_law_turned_right K c) [] (dCons (dVar 3) (dCons (dVar 5) (dNil)))))) (tOrD (tNotD (dTru (dCall (W_law_own_right K c) [] (dCons (dVar 3) (dCons (dVar 5) (dNil)))))) (tNotD (dTru (dCall (W_law_shares_right K c) [] (dCons (dVar 3) (dCons (dVar 5) (dNil)))))))) (sRet (dC (.bl false))) (sNx))) ⟨nx, rt, bk, ct, Xd⟩ [x0, some (.ref a), x2, some t.d, x4, x5, x6, x7, x8, x9, x10, x11] M := by
  have hz := hg.sz
  have hst := hg.st
  repeat fail
  refine prices_k hc hg.ok (by omega) hz (by omega) hD fun fs M1 hr hD1 hS1 => ?_
  have tm1 := tabs_dr tm hD hD1 hS1
  have P : Pd t fs := ⟨hg.ok, by omega, by rw [fl_rows t 0]; exact fps_of (fun r hr => (rows_ok t 0 hg.ok r hr).1) hr⟩
  repeat fail
  refine turned_right_k hg P ?_
  repeat fail
  refine own_right_k hg P tm1 ?_
  repeat fail
  refine shares_right_k hg P ?_
  repeat fail
  exact h fs M1 P tm1 hD1 hS1
end
set_option maxHeartbeats 2000000
/-! ### the good that is written down -/
def oneT : Th := .made true 1 1 50 true true [.raw false 0 9]
theorem one_d : oneT.d = .tup [.str "made", .str "here", .int 1, .int 1, .tup [.int 50, .str "whole", .str "own"], .tup [.tup [.str "raw", .str "away", .int 0, .int 9]]] := rfl
theorem one_good : oneT.good := ⟨rfl, ⟨⟨by decide, by decide, by decide⟩, ⟨by decide, by decide⟩, ⟨by decide, by decide⟩, ⟨by decide, by decide, by decide⟩, trivial⟩, by decide, by decide, by decide, by decide⟩
theorem one_pd {k : Nat} (hk : k < 4) : Pd oneT [(1, 1), ((k : Int), 1)] := by
  refine ⟨one_good.ok, by decide, ?_⟩
  refine .cons ⟨by decide, by decide, by decide, by decide, by decide, by decide, by decide, by decide⟩ (.cons ⟨?_, ?_, ?_, ?_, ?_, ?_, ?_, ?_⟩ .nil)
  · show (0 : Int) < 1; decide
  · show Int.gcd (k : Int) 1 = 1; simp
  · show (1 : Int) ∣ 2100; decide
  · show (0 : Int) * 1 ≤ (k : Int); omega
  · show (k : Int) ≤ 9 * 1; omega
  · decide
  · decide
  · decide
theorem one_word {k : Nat} (hk : k < 4) : oneT.word 0 (aP [(1, 1), ((k : Int), 1)]) = some (decide (k ≤ 1)) := by
  match k, hk with
  | 0, _ => decide +kernel
  | 1, _ => decide +kernel
  | 2, _ => decide +kernel
  | 3, _ => decide +kernel
section
variable {K : Fg} {c : Nat → Addr} {M : Mem} {Q : QD} {Xd : XD}
theorem lap_loop {a : Addr} {cells : List Int} (hc : cells ≠ []) {nx bk ct : SD → Mem → Prop} {rt : QD} {W : Mem → Prop} (hW : ∀ M, W M) {B : Int} (hB : B < 2 ^ 39) {x0 : Option D}
    (h : ∀ M o2 o3 o4 o5 o6 o7 o8 o9 o10 o11, nx [x0, some (.ref a), o2, o3, o4, o5, o6, o7, o8, o9, o10, o11] M) :
    ∀ (ds : List D) (b : Int) (M : Mem) (o2 o3 o4 o5 o6 o7 o8 o9 o10 o11 : Option D), TabsM (tabT c) M → Dr a cells b M → b + 500 * (ds.length : Int) ≤ B →
    sForL (gNm 2) (sSeq (sSet 3 (dCall (W_law_good K c) [] (dCons (dVar 1) (dCons (dC (.int 3)) (dCons (dC (.int 4)) (dNil)))))) (sSeq (sFor (iRngD (dCons (dC (.int 2)) (dNil))) (gNm 4) (sSeq (sSet 5 (dCall (W_law_prices K c) [] (dCons (dVar 1) (dCons (dVar 3) (dNil))))) (sIf (tOrD (tNotD (dTru (dCall (W_law_turned_right K c) [] (dCons (dVar 3) (dCons (dVar 5) (dNil)))))) (tOrD (tNotD (dTru (dCall (W_law_own_right K c) [] (dCons (dVar 3) (dCons (dVar 5) (dNil)))))) (tNotD (dTru (dCall (W_law_shares_right K c) [] (dCons (dVar 3) (dCons (dVar 5) (dNil)))))))) (sRet (dC (.bl false))) (sNx)))) (sSeq (sSet 6 (dLc (iRngD (dCons (dCB lenC (dCons (dVar 5) (dNil))) (dNil))) (gNm 7) (tYesD) (dOp addD (dC (.int 2)) (dCall (W_law_draw K c) [] (dCons (dVar 1) (dCons (dC (.int 50)) (dNil))))) [7])) (sSeq (sAsg (dCall (W_law_with K c 8) [] (dCons (dVar 3) (dCons (dVar 6) (dCons (dC (.int 0)) (dNil))))) (gTp 2 (gCo (gNm 8) (gCo (gNm 9) (gNi))))) (sIf (tNotD (dTru (dCall (W_law_times_right K c) [] (dCons (dVar 8) (dCons (dCB tupleC (dCons (dLc (iSeqD (dVar 6)) (gNm 10) (tYesD) (dTup (dCons (dVar 10) (dCons (dC (.int 1)) (dNil)))) [10]) (dNil))) (dCons (dOp addD (dC (.int 2)) (dCall (W_law_draw K c) [] (dCons (dVar 1) (dCons (dC (.int 99)) (dNil))))) (dNil))))))) (sRet (dC (.bl false))) (sNx)))))) ⟨nx, rt, bk, ct, Xd⟩ W ds [x0, some (.ref a), o2, o3, o4, o5, o6, o7, o8, o9, o10, o11] M
  | [], b, M, o2, o3, o4, o5, o6, o7, o8, o9, o10, o11, _, _, _ => w_forNil (hW M) (h M _ _ _ _ _ _ _ _ _ _)
  | d :: ds, b, M, o2, o3, o4, o5, o6, o7, o8, o9, o10, o11, tm, hD, hb => by
    rw [List.length_cons] at hb
    push_cast at hb
    refine w_forCons (hW M) ?_
    repeat fail
    refine good_k (moving := 3) (making := 4) hc (by omega) (by decide) (by decide) hD fun t M1 hg _ _ hD1 hS1 => ?_
    have tm1 := tabs_dr tm hD hD1 hS1
    have hz := hg.sz
    have hst := hg.st
    repeat fail
    refine w_rng1 (by decide) ?_
    rw [show rngL 0 (2 : Int).toNat = [.int 0, .int 1] from rfl]
    refine w_forCons wat_none ?_
    fail
    refine again_step hc hg (by omega) tm1 hD1 fun fs0 M2 P0 tm2 hD2 hS2 => ?_
    refine w_forCons wat_none ?_
    fail
    refine again_step hc hg (by omega) tm2 hD2 fun fs M3 P tm3 hD3 hS3 => ?_
    refine w_forNil wat_none ?_
    repeat fail
    refine w_lc ?_
    repeat fail
    refine w_rng1 (by rw [List.length_map, P.len]; omega) ?_
    simp only [wipeD, List.set_cons_succ, List.set_cons_zero]
    intro p hp
    have npa : p ≠ a := fun e => by obtain ⟨_, _, z, _⟩ := hD3; rw [← e, hp] at z; cases z
    refine fixed_loop hc npa hp (fun _ => wat_none) (B := b + 250) (by omega) _ [] (b + 210) _ ((hD3.put (Ne.symm npa)).le (by omega)) ?_ Mem.put_same (fun x h1 h2 => Mem.put_ne h2) (fun i hi => by cases hi) ?_ fun is M4 hl hin hD4 hS4 => ?_
    · unfold rngL; rw [List.length_map, List.length_range, List.length_map, P.len, Int.toNat_natCast]; omega
    · unfold rngL; rw [List.length_map, List.length_range, List.length_map, P.len, Int.toNat_natCast]; simp; omega
    have tm4 := tabs_dr tm3 hD3 hD4 hS4
    have hlen : is.length = t.sz := by
      rw [hl]; unfold rngL; rw [List.length_map, List.length_range, List.length_map, P.len, Int.toNat_natCast]; simp
    have hpo : ∀ k, 0 < pOf is k ∧ pOf is k ≤ 1000 := fun k => by
      unfold pOf
      rw [List.getD_eq_getElem?_getD]
      cases e : is[k]? with
      | none => decide
      | some i =>
        have := hin i (List.mem_of_getElem? e)
        show 0 < i ∧ i ≤ 1000
        omega
    repeat fail
    refine with_k 8 t 0 _ _ _ (by omega) hg.ok (by omega) ?_
    repeat fail
    refine w_lc ?_
    repeat fail
    simp only [wipeD, List.set_cons_succ, List.set_cons_zero]
    intro q hq
    refine lc_gen (F := D.int) (h := fun i => frD (i, 1)) hq (fun _ => wat_none) is (by rw [hlen, sizeLine_eq]; omega) (fun i hi acc K1 h1 => ?_) ?_
    · repeat fail
      exact h1
    have er : (is.map fun i => frD (i, 1)) = (rowL t.sz (pOf is)).map frD := by
      unfold rowL
      rw [List.map_map, ← hlen]
      have e := list_getD is (1 : Int)
      have e2 : (List.range is.length).map (pOf is) = is := e
      calc (is.map fun i => frD (i, 1)) = ((List.range is.length).map (pOf is)).map fun i => frD (i, 1) := by rw [e2]
        _ = _ := by rw [List.map_map]; rfl
    rw [er]
    repeat fail
    refine draw_k hc (by decide) (by decide) (by omega) hD4 fun r M5 r0 r1 hD5 hS5 => ?_
    have tm5 := tabs_dr tm4 hD4 hD5 hS5
    repeat fail
    refine times_right_k hg hpo (by omega) tm5 ?_
    repeat fail
    exact lap_loop hc hW hB h ds _ M5 _ _ _ _ _ _ _ _ _ _ tm5 hD5 (by omega)
theorem law_k {ns : List Int} (hl : ns.length ≤ 63) (tm : TabsM (tabT c) M) (h : ∀ M', Q (.bl true) M') : Wlaw K c [.fzn (ns.map D.int)] M Q Xd := by
  refine Elaw ?_
  repeat fail
  refine begun2_k (by omega) fun a M1 cells hc hD hn hS => ?_
  have tm1 := tabs_new tm hn hD hS
  repeat fail
  refine w_lenF ?_
  repeat fail
  refine w_rng1 (by split <;> omega) ?_
  refine lap_loop hc (fun _ => wat_none) (B := 20000) (by decide) (fun M2 o2 o3 o4 o5 o6 o7 o8 o9 o10 o11 => ?_) _ 0 M1 _ _ _ _ _ _ _ _ _ _ tm1 hD ?_
  · repeat fail
    rw [← one_d]
    refine w_lc ?_
    repeat fail
    refine w_rng1 (by decide) ?_
    simp only [wipeD, List.set_cons_succ, List.set_cons_zero]
    intro q hq
    have er : rngL 0 (4 : Int).toNat = (List.range 4).map nI := by
      unfold rngL; refine List.map_congr_left fun j _ => ?_; rw [Int.zero_add]; rfl
    rw [er]
    refine lc_gen (F := nI) (h := fun k => bI (decide (k ≤ 1))) hq (fun _ => wat_none) (List.range 4) (by rw [List.length_range, sizeLine_eq]; decide) (fun k hk acc K1 h1 => ?_) ?_
    · have hk := List.mem_range.mp hk
      unfold nI
      repeat fail
      refine (show Wwords_at K c [oneT.d, .tup (([(1, 1), ((k : Int), 1)] : List (Int × Int)).map frD)] _ (fun d M' => ixD d (.int 0) M' K1) _ from word0_k one_good (one_pd hk) (one_word hk) h1)
    have e4 : ((List.range 4).map fun k => bI (decide (k ≤ 1))) = ([1, 1, 0, 0] : List Int).map D.int := rfl
    rw [e4]
    repeat fail
    refine w_eqO (eqL_ints [1, 1, 0, 0] [1, 1, 0, 0]) ?_
    rw [decide_eq_true rfl]
    exact lo_same (h _)
  · unfold rngL
    rw [List.length_map, List.length_range]
    split <;> omega
end
theorem law_d (K : Fg) (c : Nat → Addr) (_ : CF K c) (hn : ((tabT c).map (·.1)).Nodup) : DL.LawDT 63 (tabT c) (Wlaw K c) := fun ns hl => law_k hl (tabM_ok hn) fun _ => rfl
end G_madeofhere_k05_goods_beside_one_another
theorem PySem.Challenge.cw_madeofhere_k05_goods_beside_one_another_holds : PySem.Challenge.rw_madeofhere_k05_goods_beside_one_another.Holds := by
  exact G_madeofhere_k05_goods_beside_one_another.from_data G_madeofhere_k05_goods_beside_one_another.law_d
