import PyProof.Rows.All
import Wide.All
import OpenK.AllK
import Wide.FinOn
import HandS.ForMost
import HandS.Exc
import HandS.IsInst
import HandS.WordsExc
import HandS.ExcInit
import HandS.ExcValue
import HandS.Lambda
import HandS.Nested
import HandS.TupAny
import HandS.TupMul
import HandS.Wide
import HandS.Gcd
import HandS.Flow
import PyProof.StrBlock2
import HandS.Style
import HandS.Comp
import HandS.Iter
import HandS.RevRange
import KE.KMathGC
import PyProof.Rows.ReprR
import HandS.ExcField
import HandS.ExcIs
import KE.KExcInit
import HandS.Zip
import HandS.Star
import HandS.Ends
import HandS.More
import HandS.Words
import HandS.Defaults
import HandS.Head0
import HandS.Head1
import HandS.Head2
import HandS.HeadEnd
import HandS.HeadHook1
import HandS.HeadHook2
import KE.GoesMore
import PyProof.EnumMake
import PyProof.Draws
import HandS.TryOnly
import PyProof.CollectIter
import HandS.List
import HandS.Call
import KE.KTryMore
import PyProof.ReprRoads
import PyProof.ReprReads
import HandS.HotCalls
import HandS.HeadHook3
import HandS.HeadHook4
import HandS.EndTab
import PyProof.ReprLen
import PyProof.Rows.ReprOcc
import KE.GoesZip
import KE.KDictZip
import PyProof.ListNew
import KE.SortData
import HandS.Rev
import PyProof.Rows.SortRev
import HandS.Text
import HandS.FStr
import HandS.StrMore
import HandS.SetKeys
import HandS.Deep
import HandS.Head3
import PySem.Challenge.RW_madeofhere_k17_texts_back_and_forth
set_option Elab.async false
set_option linter.all false
set_option maxRecDepth 100000
set_option maxHeartbeats 1000000
namespace DL
open PySem PySem.Spec PyProof.Rows L2
/-! ### data -/
/-- a value as data: what is immutable (or never changed any more) is told whole; what is owned (still changed) is a reference -/
inductive D where
  | non | bl (b : Bool) | int (i : Int) | str (x : Str) | ref (a : Addr) | ty (n : String)
  | tup (ds : List D) | lst (ds : List D) | fzn (ds : List D) | dct (ks : List Key) (ds : List D) | exn (C : Addr) (ns : List Str) (ds : List D) | kdt (ks : List (List Int)) (ds : List D) | lam (f cc : Addr) (q : Str) (σ : L2.St) (js : List Nat) (ds : List D) | fn (f : Addr) (F : NdefX.NF)
  deriving Inhabited
/-- what stands at an owned address -/
inductive MO where
  | lst (ds : List D) | dct (ks : List Key) (ds : List D) | ins (C : Addr) (ns : List Str) (ds : List D) | gen (φ : List V → HO) (ds : List D) | tab (q : Str)
abbrev Mem := Addr → Option MO
abbrev Fg := PySem.W.Frag
/-- a list of the written part -/
def KL (K : Fg) (a : Addr) (xs : List V) : Prop := ∃ (o : Obj) (its : Array Value) (n : Nat), K.lookup a = some o ∧ o.cls = .type "list" ∧ o.dict = none ∧ o.data = .seq its n ∧ its.size ≤ sizeLine ∧ Vals xs its.toList
def KT (K : Fg) (a : Addr) (xs : List V) : Prop := ∃ (o : Obj) (its : Array Value) (n : Nat), K.lookup a = some o ∧ o.cls = .type "tuple" ∧ o.data = .seq its n ∧ its.size ≤ sizeLine ∧ Vals xs its.toList
/-- read, and not owned -/
def RL (K : Fg) (H : Hp) (M : Mem) (a : Addr) (xs : List V) : Prop := (L2.Rd H a (.lst xs) ∧ M a = none) ∨ KL K a xs
def RT (K : Fg) (H : Hp) (M : Mem) (a : Addr) (xs : List V) : Prop := (L2.Rd H a (.tup xs) ∧ M a = none) ∨ KT K a xs
theorem RL.sq {K : Fg} {H : Hp} {M : Mem} {a : Addr} {xs : List V} (h : RL K H M a xs) : SqL K H a xs := h.elim (fun h => .inl h.1) .inr
theorem RT.sq {K : Fg} {H : Hp} {M : Mem} {a : Addr} {xs : List V} (h : RT K H M a xs) : SqT K H a xs := h.elim (fun h => .inl h.1) .inr
/-- a caught exception of the class C with its dict at dx -/
def exc (a C dx : Addr) : HO := .ext fun h => ∃ (oe : Obj) (vs : Array Value), h.get? a = some oe ∧ Zc (.ref C) (some dx) oe ∧ oe.data = .fields vs
/-- an exception, held since it was made, or caught -/
def ExAt (H : Hp) (a C dx : Addr) : Prop := H a = some (exo a C (some dx)) ∨ H a = some (exc a C dx)
/-- its fields -/
def EdAt (H : Hp) (dx : Addr) (fs : List (Str × V)) : Prop := H dx = some (exd dx fs) ∨ H dx = some (.xd fs)
/-- a dict whose keys are tuples of ints, never changed: its one object -/
structure KdOk (a : Addr) (o : Obj) (es : Array DictEntry) (ep : Nat) (ks : List (List Int)) (qs : List Addr) (us : List Value) : Prop where
  sys : (a == sysModules) = false
  ex : o.ExactDict
  dat : o.data = .dict es ep
  ent : ∀ (P : Program) (w : World), es.toList = (ks.zip (qs.zip us)).map (entryOfKey (tupleKind (PySem.intKind P w)))
  nd : ks.Nodup
  lq : qs.length = ks.length
  sz : ks.length ≤ sizeLine
inductive KdKeys (K : Fg) (H : Hp) (M : Mem) : List (List Int) → List Addr → Prop
  | nil : KdKeys K H M [] []
  | cons {k : List Int} {q : Addr} {ks : List (List Int)} {qs : List Addr} (h : RT K H M q (k.map V.int)) (r : KdKeys K H M ks qs) : KdKeys K H M (k :: ks) (q :: qs)
/-- what a lambda's free names hold -/
def Caught (σ : L2.St) (js : List Nat) (xs : List V) : Prop := ∀ (i j : Nat) (x : V), js[i]? = some j → xs[i]? = some x → σ[j]? = some (some x)
mutual
/-- the value v reads as the data d -/
def Rv (K : Fg) (H : Hp) (M : Mem) : D → V → Prop
  | .non, v => v = .non
  | .bl b, v => v = .bl b
  | .int i, v => v = .int i
  | .str x, v => v = .str x
  | .ref a, v => v = .ref a
  | .ty n, v => v = .ty n
  | .tup ds, v => ∃ a xs, v = .ref a ∧ RT K H M a xs ∧ Rs K H M ds xs
  | .lst ds, v => ∃ a xs, v = .ref a ∧ H a = some (.lst xs) ∧ M a = none ∧ Rs K H M ds xs
  | .fzn ds, v => ∃ a xs, v = .ref a ∧ RL K H M a xs ∧ Rs K H M ds xs
  | .dct ks ds, v => ∃ a kvs xs, v = .ref a ∧ H a = some (.dK kvs) ∧ M a = none ∧ kvs = ks.zip xs ∧ ks.length = ds.length ∧ Rs K H M ds xs
  | .exn C ns ds, v => (∃ a dx xs, v = .ref a ∧ ExAt H a C dx ∧ M a = none ∧ EdAt H dx (ns.zip xs) ∧ M dx = none ∧ ns.length = ds.length ∧ Rs K H M ds xs) ∨ (ns = [] ∧ ds = [] ∧ ∃ a, v = .ref a ∧ H a = some (ExO (.ref C) a) ∧ M a = none)
  | .kdt ks ds, v => ∃ (a : Addr) (o : Obj) (es : Array DictEntry) (ep : Nat) (qs : List Addr) (us : List Value) (xs : List V), v = .ref a ∧ H a = some (.ext fun h => h.get? a = some o) ∧ M a = none ∧ KdOk a o es ep ks qs us ∧ KdKeys K H M ks qs ∧ ks.length = ds.length ∧ Vals xs us ∧ Rs K H M ds xs
  | .lam f cc q σ js ds, v => v = .ref f ∧ H cc = some (LamX.CodeO cc q) ∧ M cc = none ∧ js.length = ds.length ∧ ∃ xs, Caught σ js xs ∧ Rs K H M ds xs
  | .fn f F, v => v = .ref f ∧ H f = some (NdefX.FnO f F) ∧ M f = none ∧ H F.c = some (LamX.CodeO F.c F.qual) ∧ M F.c = none
def Rs (K : Fg) (H : Hp) (M : Mem) : List D → List V → Prop
  | [], vs => vs = []
  | d :: ds, vs => ∃ v r, vs = v :: r ∧ Rv K H M d v ∧ Rs K H M ds r
end
/-- a table of code objects, owned by the def that makes lambdas -/
def TabAt (H : Hp) (M : Mem) (a : Addr) (q : Str) : Prop := ∃ ps : Array Value, H a = some (.tbl ps) ∧ TriplesOk ps.toList ∧ ∀ (pos : Pos) (cv : Value), codeAmong pos ps.toList = some cv → ∃ cc, cv = .ref cc ∧ H cc = some (LamX.CodeO cc q) ∧ M cc = none
/-- what is owned stands so -/
def MObj (K : Fg) (H : Hp) (M : Mem) (a : Addr) : MO → Prop
  | .lst ds => ∃ xs, H a = some (.lst xs) ∧ Rs K H M ds xs
  | .dct ks ds => ∃ xs, H a = some (.dK (ks.zip xs)) ∧ ks.length = ds.length ∧ Rs K H M ds xs
  | .ins C ns ds => ∃ dx xs, H a = some (.ins C dx (ns.zip xs)) ∧ ns.length = ds.length ∧ H dx = some (.own a) ∧ M dx = none ∧ Rs K H M ds xs
  | .gen _ _ => False
  | .tab q => TabAt H M a q
def MOk (K : Fg) (H : Hp) (M : Mem) : Prop := ∀ a o, M a = some o → MObj K H M a o
/-- what was tracked and not owned stands as it was, not owned -/
def NoT (o : HO) : Prop := ∀ ps, o ≠ .tbl ps
def Gw (H : Hp) (M : Mem) (H' : Hp) (M' : Mem) : Prop := ∀ a o, H a = some o → M a = none → NoT o → H' a = some o ∧ M' a = none
theorem Gw.at {H H' : Hp} {M M' : Mem} {a : Addr} {o : HO} (g : Gw H M H' M') (h : H a = some o) (m : M a = none) (n : NoT o := by intro ps z; cases z) : H' a = some o ∧ M' a = none := g a o h m n
theorem TabAt.keep {H H' : Hp} {M M' : Mem} {a : Addr} {q : Str} (h : TabAt H M a q) (ha : H' a = H a) (g : Gw H M H' M') : TabAt H' M' a q := by
  obtain ⟨ps, h1, h2, h3⟩ := h
  refine ⟨ps, ha.trans h1, h2, fun pos cv hc => ?_⟩
  obtain ⟨cc, e, z1, z2⟩ := h3 pos cv hc
  exact ⟨cc, e, g.at z1 z2 LamX.codeO_ne⟩
theorem Gw.refl {H : Hp} {M : Mem} : Gw H M H M := fun _ _ h m _ => ⟨h, m⟩
theorem Gw.trans {H H1 H2 : Hp} {M M1 M2 : Mem} (a : Gw H M H1 M1) (b : Gw H1 M1 H2 M2) : Gw H M H2 M2 := fun x o h m n => b x o (a x o h m n).1 (a x o h m n).2 n
section
variable {K : Fg} {H H' : Hp} {M M' : Mem}
theorem Gw.rd {a : Addr} {u : HO} (g : Gw H M H' M') (h : L2.Rd H a u) (m : M a = none) (n : NoT u := by intro ps z; cases z) : L2.Rd H' a u ∧ M' a = none := by
  rcases h with h | ⟨o, h⟩
  · exact ⟨.inl (g.at h m n).1, (g.at h m n).2⟩
  · exact ⟨.inr ⟨o, (g.at h m).1⟩, (g.at h m).2⟩
theorem Gw.ex {a C dx : Addr} (g : Gw H M H' M') (h : ExAt H a C dx) (m : M a = none) : ExAt H' a C dx ∧ M' a = none := by
  rcases h with h | h
  · exact ⟨.inl (g.at h m).1, (g.at h m).2⟩
  · exact ⟨.inr (g.at h m).1, (g.at h m).2⟩
theorem Gw.ed {dx : Addr} {fs : List (Str × V)} (g : Gw H M H' M') (h : EdAt H dx fs) (m : M dx = none) : EdAt H' dx fs ∧ M' dx = none := by
  rcases h with h | h
  · exact ⟨.inl (g.at h m).1, (g.at h m).2⟩
  · exact ⟨.inr (g.at h m).1, (g.at h m).2⟩
theorem Gw.rl {a : Addr} {xs : List V} (g : Gw H M H' M') (h : RL K H M a xs) : RL K H' M' a xs := by
  rcases h with ⟨h, m⟩ | h
  · exact .inl (g.rd h m)
  · exact .inr h
theorem Gw.rt {a : Addr} {xs : List V} (g : Gw H M H' M') (h : RT K H M a xs) : RT K H' M' a xs := by
  rcases h with ⟨h, m⟩ | h
  · exact .inl (g.rd h m)
  · exact .inr h
theorem KdKeys.grow {ks : List (List Int)} {qs : List Addr} (h : KdKeys K H M ks qs) (g : Gw H M H' M') : KdKeys K H' M' ks qs := by
  induction h with
  | nil => exact .nil
  | cons h _ ih => exact .cons (g.rt h) ih
mutual
theorem Rv.grow (g : Gw H M H' M') : ∀ (d : D) (v : V), Rv K H M d v → Rv K H' M' d v
  | .non, v, h => h
  | .bl b, v, h => h
  | .int i, v, h => h
  | .str x, v, h => h
  | .ref a, v, h => h
  | .ty n, v, h => h
  | .tup ds, v, ⟨a, xs, e, r, q⟩ => ⟨a, xs, e, g.rt r, Rs.grow g ds xs q⟩
  | .lst ds, v, ⟨a, xs, e, r, m, q⟩ => ⟨a, xs, e, (g.at r m).1, (g.at r m).2, Rs.grow g ds xs q⟩
  | .fzn ds, v, ⟨a, xs, e, r, q⟩ => ⟨a, xs, e, g.rl r, Rs.grow g ds xs q⟩
  | .dct ks ds, v, ⟨a, kvs, xs, e, r, m, z, l, q⟩ => ⟨a, kvs, xs, e, (g.at r m).1, (g.at r m).2, z, l, Rs.grow g ds xs q⟩
  | .kdt ks ds, v, ⟨a, o, es, ep, qs, us, xs, e, r, m, z, y, l, vv, q⟩ => ⟨a, o, es, ep, qs, us, xs, e, (g.at r m).1, (g.at r m).2, z, y.grow g, l, vv, Rs.grow g ds xs q⟩
  | .lam f cc q σ js ds, v, ⟨e, h1, h2, l, xs, cx, r⟩ => ⟨e, (g.at h1 h2 (LamX.codeO_ne)).1, (g.at h1 h2 (LamX.codeO_ne)).2, l, xs, cx, Rs.grow g ds xs r⟩
  | .fn f F, v, ⟨e, h1, h2, h3, h4⟩ => ⟨e, (g.at h1 h2 NdefX.fnO_ne).1, (g.at h1 h2 NdefX.fnO_ne).2, (g.at h3 h4 LamX.codeO_ne).1, (g.at h3 h4 LamX.codeO_ne).2⟩
  | .exn C ns ds, v, .inl ⟨a, dx, xs, e, r, m, r2, m2, l, q⟩ => .inl ⟨a, dx, xs, e, (g.ex r m).1, (g.ex r m).2, (g.ed r2 m2).1, (g.ed r2 m2).2, l, Rs.grow g ds xs q⟩
  | .exn C ns ds, v, .inr ⟨e1, e2, a, e, r, m⟩ => .inr ⟨e1, e2, a, e, (g.at r m).1, (g.at r m).2⟩
theorem Rs.grow (g : Gw H M H' M') : ∀ (ds : List D) (vs : List V), Rs K H M ds vs → Rs K H' M' ds vs
  | [], vs, h => h
  | d :: ds, vs, ⟨v, r, e, h, q⟩ => ⟨v, r, e, Rv.grow g d v h, Rs.grow g ds r q⟩
end
theorem Rs.len : ∀ {ds : List D} {vs : List V}, Rs K H M ds vs → ds.length = vs.length
  | [], vs, h => by
    have e : vs = [] := h
    rw [e]; rfl
  | d :: ds, vs, ⟨v, r, e, h, q⟩ => by
    rw [e, List.length_cons, List.length_cons, Rs.len q]
theorem Rs.get : ∀ {ds : List D} {vs : List V} {i : Nat} {d : D}, Rs K H M ds vs → ds[i]? = some d → ∃ v, vs[i]? = some v ∧ Rv K H M d v
  | [], _, _, _, _, e => by simp at e
  | d :: ds, _, 0, _, ⟨v, r, rfl, h, q⟩, e => by
    simp at e; subst e; exact ⟨v, rfl, h⟩
  | d :: ds, _, i + 1, _, ⟨v, r, rfl, h, q⟩, e => by
    obtain ⟨w, e1, e2⟩ := Rs.get (i := i) q (by simpa using e)
    exact ⟨w, by simpa using e1, e2⟩
theorem Rs.nil : Rs K H M [] [] := rfl
theorem Rs.cons {d : D} {v : V} {ds : List D} {vs : List V} (h : Rv K H M d v) (q : Rs K H M ds vs) : Rs K H M (d :: ds) (v :: vs) := ⟨v, vs, rfl, h, q⟩
theorem Rs.append : ∀ {ds es : List D} {vs ws : List V}, Rs K H M ds vs → Rs K H M es ws → Rs K H M (ds ++ es) (vs ++ ws)
  | [], _, vs, _, h, q => by
    have e : vs = [] := h
    subst e
    exact q
  | d :: ds, _, _, _, ⟨v, r, rfl, h, q⟩, z => Rs.cons h (Rs.append q z)
theorem Rs.drop : ∀ {ds : List D} {vs : List V} (n : Nat), Rs K H M ds vs → Rs K H M (ds.drop n) (vs.drop n)
  | _, _, 0, h => h
  | [], vs, n + 1, h => by
    have e : vs = [] := h
    subst e; rfl
  | d :: ds, _, n + 1, ⟨v, r, rfl, h, q⟩ => Rs.drop n q
theorem Rs.take : ∀ {ds : List D} {vs : List V} (n : Nat), Rs K H M ds vs → Rs K H M (ds.take n) (vs.take n)
  | _, _, 0, h => rfl
  | [], vs, n + 1, h => by
    have e : vs = [] := h
    subst e; rfl
  | d :: ds, _, n + 1, ⟨v, r, rfl, h, q⟩ => Rs.cons h (Rs.take n q)
theorem Rs.reverse : ∀ {ds : List D} {vs : List V}, Rs K H M ds vs → Rs K H M ds.reverse vs.reverse
  | [], vs, h => by
    have e : vs = [] := h
    subst e; rfl
  | d :: ds, _, ⟨v, r, rfl, h, q⟩ => by
    rw [List.reverse_cons, List.reverse_cons]
    exact Rs.append (Rs.reverse q) (Rs.cons h Rs.nil)
theorem Rs.set {d : D} {v : V} (h : Rv K H M d v) : ∀ {ds : List D} {vs : List V} (i : Nat), Rs K H M ds vs → Rs K H M (ds.set i d) (vs.set i v)
  | [], vs, _, q => by
    have e : vs = [] := q
    subst e; rfl
  | _ :: _, _, 0, ⟨_, _, rfl, _, q⟩ => Rs.cons h q
  | _ :: _, _, i + 1, ⟨_, _, rfl, h', q⟩ => Rs.cons h' (Rs.set h i q)
end
/-! ### the states -/
abbrev SD := List (Option D)
structure StOk (K : Fg) (σ : L2.St) (H : Hp) (s : SD) (M : Mem) : Prop where
  len : s.length = σ.length
  sl : ∀ (i : Nat) (d : D), s[i]? = some (some d) → ∃ v, σ[i]? = some (some v) ∧ Rv K H M d v
  mem : MOk K H M
theorem StOk.grow {K : Fg} {σ : L2.St} {H H' : Hp} {s : SD} {M M' : Mem} (S : StOk K σ H s M) (g : Gw H M H' M') (m : MOk K H' M') : StOk K σ H' s M' :=
  ⟨S.len, fun i d e => let ⟨v, e1, e2⟩ := S.sl i d e; ⟨v, e1, Rv.grow g d v e2⟩, m⟩
theorem StOk.set {K : Fg} {σ : L2.St} {H : Hp} {s : SD} {M : Mem} {d : D} {v : V} (S : StOk K σ H s M) (i : Nat) (r : Rv K H M d v) : StOk K (σ.set i (some v)) H (s.set i (some d)) M := by
  refine ⟨by rw [List.length_set, List.length_set]; exact S.len, fun j e h => ?_, S.mem⟩
  by_cases hj : j = i
  · subst hj
    by_cases hl : j < s.length
    · rw [List.getElem?_set_self hl] at h
      cases h
      exact ⟨v, List.getElem?_set_self (by rw [← S.len]; exact hl), r⟩
    · rw [List.getElem?_eq_none (by rw [List.length_set]; omega)] at h
      cases h
  · rw [List.getElem?_set_ne (Ne.symm hj)] at h
    obtain ⟨w, e1, e2⟩ := S.sl j e h
    exact ⟨w, by rw [List.getElem?_set_ne (Ne.symm hj)]; exact e1, e2⟩
/-- what is wanted of an exception: its class, its fields -/
abbrev XD := Addr → List Str → List D → Mem → Prop
abbrev QD := D → Mem → Prop
abbrev TED := XD → SD → Mem → QD → Prop
abbrev TTD := XD → SD → Mem → (Bool → Mem → Prop) → Prop
abbrev TAD := XD → SD → Mem → (List D → Mem → Prop) → Prop
structure EndsD where
  nx : SD → Mem → Prop
  rt : QD
  bk : SD → Mem → Prop
  ct : SD → Mem → Prop
  ex : XD
abbrev TSD := EndsD → SD → Mem → Prop
def upE (K : Fg) (H : Hp) (M : Mem) (Q : QD) : VK := fun v H' => ∃ d M', Gw H M H' M' ∧ MOk K H' M' ∧ Rv K H' M' d v ∧ Q d M'
def upT (K : Fg) (H : Hp) (M : Mem) (Q : Bool → Mem → Prop) : Bool → Hp → Prop := fun b H' => ∃ M', Gw H M H' M' ∧ MOk K H' M' ∧ Q b M'
def upA (K : Fg) (H : Hp) (M : Mem) (Q : List D → Mem → Prop) : List V → Hp → Prop := fun vs H' => ∃ ds M', Gw H M H' M' ∧ MOk K H' M' ∧ Rs K H' M' ds vs ∧ Q ds M'
def upS (K : Fg) (H : Hp) (M : Mem) (Q : SD → Mem → Prop) : L2.St → Hp → Prop := fun σ' H' => ∃ s' M', Gw H M H' M' ∧ StOk K σ' H' s' M' ∧ Q s' M'
def upX (K : Fg) (H : Hp) (M : Mem) (Q : XD) : XK := fun c od H' => ∃ C d ns xs ds M', c = .ref C ∧ od = some d ∧ H' d = some (.xd (ns.zip xs)) ∧ M' d = none ∧ ns.length = ds.length ∧ Rs K H' M' ds xs ∧ Gw H M H' M' ∧ MOk K H' M' ∧ Q C ns ds M'
/-- the wish about exceptions of the data stands over that of the heap -/
def XTo (K : Fg) (H : Hp) (M : Mem) (Xd : XD) (E : XK) : Prop := ∀ c od H', upX K H M Xd c od H' → E c od H'
theorem XTo.grow {K : Fg} {H H' : Hp} {M M' : Mem} {Xd : XD} {E : XK} (x : XTo K H M Xd E) (g : Gw H M H' M') : XTo K H' M' Xd E := fun c od H2 ⟨C, d, ns, xs, ds, M2, a1, a2, a3, a4, a5, a6, a7, a8, a9⟩ =>
  x c od H2 ⟨C, d, ns, xs, ds, M2, a1, a2, a3, a4, a5, a6, g.trans a7, a8, a9⟩
def liftE (K : Fg) (E : XK) (t : TED) : TE := fun σ H Q => ∃ s M Qd Xd, StOk K σ H s M ∧ XTo K H M Xd E ∧ t Xd s M Qd ∧ ∀ v H', upE K H M Qd v H' → Q v H'
def liftT (K : Fg) (E : XK) (t : TTD) : TT := fun σ H Q => ∃ s M Qd Xd, StOk K σ H s M ∧ XTo K H M Xd E ∧ t Xd s M Qd ∧ ∀ v H', upT K H M Qd v H' → Q v H'
def liftA (K : Fg) (E : XK) (t : TAD) : TA := fun σ H Q => ∃ s M Qd Xd, StOk K σ H s M ∧ XTo K H M Xd E ∧ t Xd s M Qd ∧ ∀ v H', upA K H M Qd v H' → Q v H'
def liftS (K : Fg) (E : XK) (t : TSD) : TS := fun Z σ H => ∃ s M Y, StOk K σ H s M ∧ XTo K H M Y.ex E ∧ t Y s M ∧ (∀ σ' H', upS K H M Y.nx σ' H' → Z.nx σ' H') ∧ (∀ v H', upE K H M Y.rt v H' → Z.rt v H') ∧
  (∀ σ' H', upS K H M Y.bk σ' H' → Z.bk σ' H') ∧ (∀ σ' H', upS K H M Y.ct σ' H' → Z.ct σ' H')
structure DE (X : Cx) (E : XK) (e : Expr) (t : TED) : Prop where
  ok : PE X e (liftE X.K E t)
structure DT (X : Cx) (E : XK) (e : Expr) (t : TTD) : Prop where
  ok : PT X e (liftT X.K E t)
structure DA (X : Cx) (E : XK) (es : List Expr) (t : TAD) : Prop where
  ok : PA X es (liftA X.K E t)
structure DS (X : Cx) (E : XK) (st : Stmt) (t : TSD) : Prop where
  ok : PS X st (liftS X.K E t)
structure DSs (X : Cx) (E : XK) (st : List Stmt) (t : TSD) : Prop where
  ok : PSs X st (liftS X.K E t)
section
variable {X : Cx} {e : Expr}
theorem PE.imp {t t' : TE} (h : PE X e t) (i : ∀ σ H Q, t' σ H Q → t σ H Q) : PE X e t' := ⟨fun pins s σ H Q I q => h.run pins s σ H Q I (i σ H Q q)⟩
theorem PT.imp {t t' : TT} (h : PT X e t) (i : ∀ σ H Q, t' σ H Q → t σ H Q) : PT X e t' := ⟨fun pins s σ H Q I q => h.run pins s σ H Q I (i σ H Q q)⟩
theorem PW.imp {t t' : TT} (h : PW X e t) (i : ∀ σ H Q, t' σ H Q → t σ H Q) : PW X e t' := ⟨fun wh pins s σ H Q I q => h.run wh pins s σ H Q I (i σ H Q q)⟩
theorem PA.imp {es : List Expr} {t t' : TA} (h : PA X es t) (i : ∀ σ H Q, t' σ H Q → t σ H Q) : PA X es t' := ⟨fun pos pins s σ H Q I q => h.run pos pins s σ H Q I (i σ H Q q)⟩
theorem PS.imp {st : Stmt} {t t' : TS} (h : PS X st t) (i : ∀ Z σ H, t' Z σ H → t Z σ H) : PS X st t' := ⟨fun pins s σ H Z I q => h.run pins s σ H Z I (i Z σ H q)⟩
theorem PSs.imp {st : List Stmt} {t t' : TS} (h : PSs X st t) (i : ∀ Z σ H, t' Z σ H → t Z σ H) : PSs X st t' := ⟨fun pins s σ H Z I q => h.run pins s σ H Z I (i Z σ H q)⟩
end
/-- use of a lifted reading from a state of data -/
theorem useE {K : Fg} {E : XK} {t : TED} {σ : L2.St} {H : Hp} {s : SD} {M : Mem} {Xd : XD} {Qd : QD} {Q : VK} (S : StOk K σ H s M) (x : XTo K H M Xd E) (h : t Xd s M Qd)
    (q : ∀ d v M' H', Gw H M H' M' → StOk K σ H' s M' → XTo K H' M' Xd E → Rv K H' M' d v → Qd d M' → Q v H') : liftE K E t σ H Q :=
  ⟨s, M, Qd, Xd, S, x, h, fun v H' ⟨d, M', g, m, r, z⟩ => q d v M' H' g (S.grow g m) (x.grow g) r z⟩
theorem useT {K : Fg} {E : XK} {t : TTD} {σ : L2.St} {H : Hp} {s : SD} {M : Mem} {Xd : XD} {Qd : Bool → Mem → Prop} {Q : Bool → Hp → Prop} (S : StOk K σ H s M) (x : XTo K H M Xd E) (h : t Xd s M Qd)
    (q : ∀ b M' H', Gw H M H' M' → StOk K σ H' s M' → XTo K H' M' Xd E → Qd b M' → Q b H') : liftT K E t σ H Q :=
  ⟨s, M, Qd, Xd, S, x, h, fun v H' ⟨M', g, m, z⟩ => q v M' H' g (S.grow g m) (x.grow g) z⟩
theorem useA {K : Fg} {E : XK} {t : TAD} {σ : L2.St} {H : Hp} {s : SD} {M : Mem} {Xd : XD} {Qd : List D → Mem → Prop} {Q : List V → Hp → Prop} (S : StOk K σ H s M) (x : XTo K H M Xd E) (h : t Xd s M Qd)
    (q : ∀ ds vs M' H', Gw H M H' M' → StOk K σ H' s M' → XTo K H' M' Xd E → Rs K H' M' ds vs → Qd ds M' → Q vs H') : liftA K E t σ H Q :=
  ⟨s, M, Qd, Xd, S, x, h, fun vs H' ⟨ds, M', g, m, r, z⟩ => q ds vs M' H' g (S.grow g m) (x.grow g) r z⟩
end DL
set_option maxHeartbeats 1000000
namespace DL
open PySem PySem.Spec PyProof.Rows L2
/-- an owned list or dict as it stands -/
def vwO (a : Addr) : Option MO → D
  | some (.lst ds) => .lst ds
  | some (.dct ks ds) => .dct ks ds
  | some (.ins _ _ _) => .ref a
  | some (.gen _ _) => .ref a
  | some (.tab _) => .ref a
  | none => .ref a
def vw (M : Mem) : D → D
  | .ref a => vwO a (M a)
  | d => d
theorem vw_ref {M : Mem} {a : Addr} : vw M (.ref a) = vwO a (M a) := rfl
section
variable {K : Fg} {H : Hp} {M : Mem} {v : V}
theorem Rv.non (h : Rv K H M .non v) : v = .non := h
theorem vw_lst {d : D} {ds : List D} (mo : MOk K H M) (r : Rv K H M d v) (e : vw M d = .lst ds) : ∃ a xs, v = .ref a ∧ H a = some (.lst xs) ∧ Rs K H M ds xs := by
  cases d with
  | lst es =>
    have e' : es = ds := by simpa [vw] using e
    subst e'
    obtain ⟨a, xs, h1, h2, _, h3⟩ := r
    exact ⟨a, xs, h1, h2, h3⟩
  | ref a =>
    have r' : v = .ref a := r
    rw [vw_ref] at e
    cases q : M a with
    | none => rw [q] at e; cases e
    | some o =>
      rw [q] at e
      cases o with
      | lst es =>
        have e' : es = ds := by simpa [vwO] using e
        subst e'
        obtain ⟨xs, h2, h3⟩ := mo a _ q
        exact ⟨a, xs, r', h2, h3⟩
      | dct ks es => cases e
      | ins C ns es => cases e
      | gen φ es => cases e
      | tab q => cases e
  | _ => cases e
theorem vw_tup {d : D} {ds : List D} (r : Rv K H M d v) (e : vw M d = .tup ds) : ∃ a xs, v = .ref a ∧ RT K H M a xs ∧ Rs K H M ds xs := by
  cases d with
  | tup es =>
    have e' : es = ds := by simpa [vw] using e
    subst e'
    exact r
  | ref a =>
    rw [vw_ref] at e
    cases q : M a with
    | none => rw [q] at e; cases e
    | some o => rw [q] at e; cases o <;> cases e
  | _ => cases e
theorem vw_fzn {d : D} {ds : List D} (r : Rv K H M d v) (e : vw M d = .fzn ds) : ∃ a xs, v = .ref a ∧ RL K H M a xs ∧ Rs K H M ds xs := by
  cases d with
  | fzn es =>
    have e' : es = ds := by simpa [vw] using e
    subst e'
    exact r
  | ref a =>
    rw [vw_ref] at e
    cases q : M a with
    | none => rw [q] at e; cases e
    | some o => rw [q] at e; cases o <;> cases e
  | _ => cases e
theorem vw_dct {d : D} {ks : List Key} {ds : List D} (mo : MOk K H M) (r : Rv K H M d v) (e : vw M d = .dct ks ds) : ∃ a xs, v = .ref a ∧ H a = some (.dK (ks.zip xs)) ∧ ks.length = ds.length ∧ Rs K H M ds xs := by
  cases d with
  | dct ls es =>
    have e' : ls = ks ∧ es = ds := by simpa [vw] using e
    obtain ⟨rfl, rfl⟩ := e'
    obtain ⟨a, kvs, xs, h1, h2, _, rfl, h4, h3⟩ := r
    exact ⟨a, xs, h1, h2, h4, h3⟩
  | ref a =>
    have r' : v = .ref a := r
    rw [vw_ref] at e
    cases q : M a with
    | none => rw [q] at e; cases e
    | some o =>
      rw [q] at e
      cases o with
      | lst es => cases e
      | dct ls es =>
        have e' : ls = ks ∧ es = ds := by simpa [vwO] using e
        obtain ⟨rfl, rfl⟩ := e'
        obtain ⟨xs, h2, h4, h3⟩ := mo a _ q
        exact ⟨a, xs, r', h2, h4, h3⟩
      | ins C ns es => cases e
      | gen φ es => cases e
      | tab q => cases e
  | _ => cases e
theorem vw_int {d : D} {i : Int} (r : Rv K H M d v) (e : vw M d = .int i) : v = .int i := by
  cases d with
  | int j =>
    have e' : j = i := by simpa [vw] using e
    subst e'
    exact r
  | ref a =>
    rw [vw_ref] at e
    cases q : M a with
    | none => rw [q] at e; cases e
    | some o => rw [q] at e; cases o <;> cases e
  | _ => cases e
theorem vw_str {d : D} {x : Str} (r : Rv K H M d v) (e : vw M d = .str x) : v = .str x := by
  cases d with
  | str j =>
    have e' : j = x := by simpa [vw] using e
    subst e'
    exact r
  | ref a =>
    rw [vw_ref] at e
    cases q : M a with
    | none => rw [q] at e; cases e
    | some o => rw [q] at e; cases o <;> cases e
  | _ => cases e
theorem vw_bl {d : D} {b : Bool} (r : Rv K H M d v) (e : vw M d = .bl b) : v = .bl b := by
  cases d with
  | bl j =>
    have e' : j = b := by simpa [vw] using e
    subst e'
    exact r
  | ref a =>
    rw [vw_ref] at e
    cases q : M a with
    | none => rw [q] at e; cases e
    | some o => rw [q] at e; cases o <;> cases e
  | _ => cases e
theorem vw_non {d : D} (r : Rv K H M d v) (e : vw M d = .non) : v = .non := by
  cases d with
  | non => exact r
  | ref a =>
    rw [vw_ref] at e
    cases q : M a with
    | none => rw [q] at e; cases e
    | some o => rw [q] at e; cases o <;> cases e
  | _ => cases e
/-- what is new and not tracked ahead -/
theorem gw_new {p : Addr} {o : HO} (hp : H p = none) : Gw H M (upd H p o) M := fun a u h m _ => ⟨by rw [upd_ne (ne_of_none h hp)]; exact h, m⟩
theorem mok_new {p : Addr} {o : HO} (mo : MOk K H M) (hp : H p = none) : MOk K (upd H p o) M := fun a m e => by
  have g : Gw H M (upd H p o) M := gw_new hp
  have q := mo a m e
  cases m with
  | lst ds =>
    obtain ⟨xs, h1, h2⟩ := q
    exact ⟨xs, by rw [upd_ne (ne_of_none h1 hp)]; exact h1, Rs.grow g ds xs h2⟩
  | dct ks ds =>
    obtain ⟨xs, h1, h3, h2⟩ := q
    exact ⟨xs, by rw [upd_ne (ne_of_none h1 hp)]; exact h1, h3, Rs.grow g ds xs h2⟩
  | ins C ns ds =>
    obtain ⟨dx, xs, h1, h3, h4, h5, h2⟩ := q
    exact ⟨dx, xs, by rw [upd_ne (ne_of_none h1 hp)]; exact h1, h3, by rw [upd_ne (ne_of_none h4 hp)]; exact h4, h5, Rs.grow g ds xs h2⟩
  | gen φ ds => exact q.elim
  | tab q0 =>
    obtain ⟨ps, h1, _⟩ := id q
    exact TabAt.keep q (upd_ne (ne_of_none h1 hp)) g
theorem m_none {p : Addr} (mo : MOk K H M) (hp : H p = none) : M p = none := by
  cases q : M p with
  | none => rfl
  | some o =>
    have z := mo p o q
    cases o with
    | lst ds => obtain ⟨xs, h1, _⟩ := z; rw [hp] at h1; cases h1
    | dct ks ds => obtain ⟨xs, h1, _⟩ := z; rw [hp] at h1; cases h1
    | ins C ns ds => obtain ⟨dx, xs, h1, _⟩ := z; rw [hp] at h1; cases h1
    | gen φ ds => exact z.elim
    | tab q => obtain ⟨xs, h1, _⟩ := z; rw [hp] at h1; cases h1
/-- a new tuple as data -/
theorem new_tup {p : Addr} {ds : List D} {xs : List V} (mo : MOk K H M) (hp : H p = none) (r : Rs K H M ds xs) : Rv K (upd H p (.tup xs)) M (.tup ds) (.ref p) :=
  ⟨p, xs, rfl, .inl ⟨.inl upd_same, m_none mo hp⟩, Rs.grow (gw_new hp) ds xs r⟩
theorem new_lst {p : Addr} {ds : List D} {xs : List V} (mo : MOk K H M) (hp : H p = none) (r : Rs K H M ds xs) : Rv K (upd H p (.lst xs)) M (.lst ds) (.ref p) :=
  ⟨p, xs, rfl, upd_same, m_none mo hp, Rs.grow (gw_new hp) ds xs r⟩
end
/-! ### expressions -/
def dVar (i : Nat) : TED := fun _ s M Q => match s[i]? with
  | some (some d) => Q d M
  | _ => False
def dC (d : D) : TED := fun _ _ M Q => Q d M
section
variable {X : Cx} {E : XK} {e a b c : Expr} {pos : Pos} {ta tb tc : TED}
theorem de_var {i : Nat} (h : PE X e (tVar i)) : DE X E e (dVar i) := ⟨PE.imp h fun σ H Q ⟨s, M, Qd, Xd, S, x, t, q⟩ => by
  unfold dVar at t
  split at t
  · rename_i d hd
    obtain ⟨v, e1, e2⟩ := S.sl i d hd
    exact ⟨v, e1, q v H ⟨d, M, Gw.refl, S.mem, e2, t⟩⟩
  · exact t.elim⟩
/-- a reading that gives a constant -/
theorem de_const {v : V} {d : D} (h : PE X e (tC v)) (r : ∀ H M, Rv X.K H M d v) : DE X E e (dC d) := ⟨PE.imp h fun σ H Q ⟨s, M, Qd, Xd, S, x, t, q⟩ => q v H ⟨d, M, Gw.refl, S.mem, r H M, t⟩⟩
theorem de_int {i j} : DE X E (.Constant (.int i) j pos) (dC (.int i)) := de_const pe_int fun _ _ => rfl
theorem de_bl {i j} : DE X E (.Constant (.bool i) j pos) (dC (.bl i)) := de_const pe_bl fun _ _ => rfl
theorem de_non {j} : DE X E (.Constant .none j pos) (dC .non) := de_const pe_non fun _ _ => rfl
theorem de_str {i j} : DE X E (.Constant (.str i) j pos) (dC (.str i)) := de_const pe_str fun _ _ => rfl
/-! ### operators by values -/
abbrev O2 := D → D → Mem → QD → Prop
def DOp (X : Cx) (f : Value → Value → Sem Value) (o : O2) : Prop :=
  ∀ (pins : List (Addr × Obj)) (s : Shared) (σ : L2.St) (H : Hp) (M : Mem) (x y : V) (dx dy : D) (v u : Value) (Q : VK) (Qd : QD), Inv X pins σ H s → MOk X.K H M → Rv X.K H M dx x → Rv X.K H M dy y → RelV x v → RelV y u → o dx dy M Qd →
    (∀ v H', upE X.K H M Qd v H' → Q v H') → wpAny (model X.prog X.w) X.A (f v u) (EP X pins σ Q) X.xe s
def dOp (o : O2) (ta tb : TED) : TED := fun Xd s M Q => ta Xd s M fun x M1 => tb Xd s M1 fun y M2 => o x y M2 Q
theorem DOp.toR {f : Value → Value → Sem Value} {o : O2} (h : DOp X f o) : OpR X f (fun x y H Q => ∃ M dx dy Qd, MOk X.K H M ∧ Rv X.K H M dx x ∧ Rv X.K H M dy y ∧ o dx dy M Qd ∧ ∀ v H', upE X.K H M Qd v H' → Q v H') :=
  fun pins s σ H x y v u Q I rx ry ⟨M, dx, dy, Qd, mo, r1, r2, t, q⟩ => h pins s σ H M x y dx dy v u Q Qd I mo r1 r2 rx ry t q
/-- two readings in a row -/
theorem lift2 {o : O2} {r : R2} (hr : ∀ {x y : V} {H : Hp} {Q : VK} {M : Mem} {dx dy : D} {Qd : QD}, MOk X.K H M → Rv X.K H M dx x → Rv X.K H M dy y → o dx dy M Qd → (∀ v H', upE X.K H M Qd v H' → Q v H') → r x y H Q)
    {σ : L2.St} {H : Hp} {Q : VK} (h : liftE X.K E (dOp o ta tb) σ H Q) : tOp r (liftE X.K E ta) (liftE X.K E tb) σ H Q := by
  obtain ⟨s, M, Qd, Xd, S, x, t, q⟩ := h
  refine useE S x t fun dx v M1 H1 g1 S1 x1 r1 t1 => ?_
  refine useE S1 x1 t1 fun dy u M2 H2 g2 S2 x2 r2 t2 => ?_
  exact hr S2.mem (Rv.grow g2 _ _ r1) r2 t2 fun w H' ⟨d, M', g, m, r, z⟩ => q w H' ⟨d, M', (g1.trans g2).trans g, m, r, z⟩
theorem de_op {op : Operator} {o : O2} (h : DOp X (binaryOp op) o) (ha : DE X E a ta) (hb : DE X E b tb) : DE X E (.BinOp a op b pos) (dOp o ta tb) :=
  ⟨PE.imp (pe_op h.toR ha.ok hb.ok) fun σ H Q z => lift2 (fun mo r1 r2 t q => ⟨_, _, _, _, mo, r1, r2, t, q⟩) z⟩
theorem de_cmp {op : CmpOp} {o : O2} (h : DOp X (compareOp op) o) (ha : DE X E a ta) (hb : DE X E b tb) (hm : behindInMarks op b = false) : DE X E (.Compare a [op] [b] pos) (dOp o ta tb) :=
  ⟨PE.imp (pe_cmpR h.toR ha.ok hb.ok hm) fun σ H Q z => lift2 (fun mo r1 r2 t q => ⟨_, _, _, _, mo, r1, r2, t, q⟩) z⟩
/-- a value as a test -/
def tstB (Q : Bool → Mem → Prop) : QD := fun d M => match d with
  | .bl b => Q b M
  | _ => False
def dTst (t : TED) : TTD := fun Xd s M Q => t Xd s M (tstB Q)
theorem liftB {t : TED} {σ : L2.St} {H : Hp} {Q : Bool → Hp → Prop} (h : liftT X.K E (dTst t) σ H Q) : tTest (liftE X.K E t) σ H Q := by
  obtain ⟨s, M, Qd, Xd, S, x, z, q⟩ := h
  refine useE S x z fun d v M1 H1 g1 S1 x1 r1 t1 => ?_
  unfold tstB at t1
  split at t1
  · rename_i b
    exact ⟨b, r1, q b H1 ⟨M1, g1, S1.mem, t1⟩⟩
  · exact t1.elim
theorem dt_cmp {op : CmpOp} {o : O2} (h : DOp X (compareOp op) o) (ha : DE X E a ta) (hb : DE X E b tb) (hm : behindInMarks op b = false) : DT X E (.Compare a [op] [b] pos) (dTst (dOp o ta tb)) :=
  ⟨PT.imp (pt_cmpR h.toR ha.ok hb.ok hm) fun σ H Q z => by
    refine (?_ : tTest (tOp _ _ _) σ H Q)
    obtain ⟨k1, k2⟩ := (⟨liftB z, trivial⟩ : tTest (liftE X.K E (dOp o ta tb)) σ H Q ∧ True)
    exact lift2 (fun mo r1 r2 t q => ⟨_, _, _, _, mo, r1, r2, t, q⟩) k1⟩
end
end DL
set_option maxHeartbeats 1000000
namespace DL
open PySem PySem.Spec PyProof.Rows L2
/-! ### data as the library tells it -/
mutual
def toPy : D → Option PyData
  | .non => some .none
  | .bl b => some (.bool b)
  | .int i => some (.int i)
  | .str x => some (.str x)
  | .tup ds => (toPys ds).map PyData.tuple
  | .lst ds => (toPys ds).map PyData.list
  | .fzn ds => (toPys ds).map PyData.list
  | _ => none
def toPys : List D → Option (List PyData)
  | [] => some []
  | d :: ds => match toPy d, toPys ds with
    | some p, some ps => some (p :: ps)
    | _, _ => none
end
section
variable {K : Fg} {H : Hp} {M : Mem}
mutual
theorem Rv.dp : ∀ (d : D) (v : V) (p : PyData), Rv K H M d v → toPy d = some p → Dp K H v p
  | .non, v, p, h, e => by
    have h' : v = .non := h
    have e' : some PyData.none = some p := e
    cases e'; subst h'; exact .non
  | .bl b, v, p, h, e => by
    have h' : v = .bl b := h
    have e' : some (PyData.bool b) = some p := e
    cases e'; subst h'; exact .bl b
  | .int b, v, p, h, e => by
    have h' : v = .int b := h
    have e' : some (PyData.int b) = some p := e
    cases e'; subst h'; exact .int b
  | .str b, v, p, h, e => by
    have h' : v = .str b := h
    have e' : some (PyData.str b) = some p := e
    cases e'; subst h'; exact .str b
  | .tup ds, v, p, ⟨a, xs, hv, r, q⟩, e => by
    have e' : (toPys ds).map PyData.tuple = some p := e
    cases z : toPys ds with
    | none => rw [z] at e'; cases e'
    | some ps =>
      rw [z] at e'; cases e'; subst hv
      exact .tup r.sq (Rs.dp ds xs ps q z)
  | .lst ds, v, p, ⟨a, xs, hv, r, m, q⟩, e => by
    have e' : (toPys ds).map PyData.list = some p := e
    cases z : toPys ds with
    | none => rw [z] at e'; cases e'
    | some ps =>
      rw [z] at e'; cases e'; subst hv
      exact .lst (SqL.of r) (Rs.dp ds xs ps q z)
  | .fzn ds, v, p, ⟨a, xs, hv, r, q⟩, e => by
    have e' : (toPys ds).map PyData.list = some p := e
    cases z : toPys ds with
    | none => rw [z] at e'; cases e'
    | some ps =>
      rw [z] at e'; cases e'; subst hv
      exact .lst r.sq (Rs.dp ds xs ps q z)
  | .ref _, _, _, _, e => by cases (show (none : Option PyData) = some _ from e)
  | .ty _, _, _, _, e => by cases (show (none : Option PyData) = some _ from e)
  | .dct _ _, _, _, _, e => by cases (show (none : Option PyData) = some _ from e)
  | .exn _ _ _, _, _, _, e => by cases (show (none : Option PyData) = some _ from e)
  | .kdt _ _, _, _, _, e => by cases (show (none : Option PyData) = some _ from e)
theorem Rs.dp : ∀ (ds : List D) (vs : List V) (ps : List PyData), Rs K H M ds vs → toPys ds = some ps → DpAll K H vs ps
  | [], vs, ps, h, e => by
    have h' : vs = [] := h
    have e' : some [] = some ps := e
    cases e'; subst h'; exact .nil
  | d :: ds, _, ps, ⟨v, r, rfl, h, q⟩, e => by
    unfold toPys at e
    split at e
    · rename_i p qs h1 h2
      cases e
      exact .cons (Rv.dp d v p h h1) (Rs.dp ds r qs q h2)
    · cases e
end
/-- owned on top, seen as it stands -/
theorem vw_dp {d : D} {v : V} {p : PyData} (mo : MOk K H M) (r : Rv K H M d v) (e : toPy (vw M d) = some p) : Dp K H v p := by
  cases q : vw M d with
  | lst ds =>
    rw [q] at e
    obtain ⟨a, xs, rfl, h1, h2⟩ := vw_lst mo r q
    have e' : (toPys ds).map PyData.list = some p := e
    cases z : toPys ds with
    | none => rw [z] at e'; cases e'
    | some ps => rw [z] at e'; cases e'; exact .lst (SqL.of h1) (Rs.dp ds xs ps h2 z)
  | tup ds =>
    rw [q] at e
    obtain ⟨a, xs, rfl, h1, h2⟩ := vw_tup r q
    exact Rv.dp (M := M) (.tup ds) _ _ ⟨a, xs, rfl, h1, h2⟩ e
  | fzn ds =>
    rw [q] at e
    obtain ⟨a, xs, rfl, h1, h2⟩ := vw_fzn r q
    exact Rv.dp (M := M) (.fzn ds) _ _ ⟨a, xs, rfl, h1, h2⟩ e
  | int i => rw [q] at e; rw [vw_int r q]; exact Rv.dp (M := M) (.int i) _ _ rfl e
  | bl i => rw [q] at e; rw [vw_bl r q]; exact Rv.dp (M := M) (.bl i) _ _ rfl e
  | str i => rw [q] at e; rw [vw_str r q]; exact Rv.dp (M := M) (.str i) _ _ rfl e
  | non => rw [q] at e; rw [vw_non r q]; exact Rv.dp (M := M) .non _ _ rfl e
  | _ => rw [q] at e; cases e
end
/-- equality of data, where it is shaped -/
def eqO (x y : D) : Option Bool := match toPy x, toPy y with
  | some p, some q => if SeqAt.shaped p = true ∧ SeqAt.shaped q = true then some (PyData.eqv p q) else none
  | _, _ => none
theorem eqO_of {x y : D} {b : Bool} (h : eqO x y = some b) : ∃ p q, toPy x = some p ∧ toPy y = some q ∧ SeqAt.shaped p = true ∧ SeqAt.shaped q = true ∧ b = PyData.eqv p q := by
  unfold eqO at h
  split at h
  · rename_i p q h1 h2
    split at h
    · rename_i z
      exact ⟨p, q, h1, h2, z.1, z.2, (Option.some.inj h).symm⟩
    · cases h
  · cases h
/-! ### the operators -/
def addD : O2 := fun x y M Q => match vw M x, vw M y with
  | .int i, .int j => Q (.int (i + j)) M
  | .int i, .bl b => Q (.int (i + b2i b)) M
  | .str a, .str b => a.length + b.length ≤ sizeLine ∧ Q (.str (a ++ b)) M
  | .tup a, .tup b => a.length + b.length ≤ sizeLine ∧ Q (.tup (a ++ b)) M
  | .lst a, .lst b => a.length + b.length ≤ sizeLine ∧ Q (.lst (a ++ b)) M
  | _, _ => False
def subD : O2 := fun x y M Q => match vw M x, vw M y with
  | .int i, .int j => Q (.int (i - j)) M
  | _, _ => False
def repL (k : Nat) (ds : List D) : List D := (List.replicate k ds).flatten
def mulD : O2 := fun x y M Q => match vw M x, vw M y with
  | .int i, .int j => CMulW i j ∧ Q (.int (i * j)) M
  | .lst a, .int k => (-(2 ^ 63) ≤ k ∧ k < 2 ^ 63 ∧ a.length * k.toNat ≤ sizeLine) ∧ Q (.lst (repL k.toNat a)) M
  | .tup a, .int k => (a ≠ [] ∧ 2 ≤ k ∧ k ≤ 1000 ∧ a.length ≤ 1000) ∧ Q (.tup (repL k.toNat a)) M
  | .str x, .int k => MulOk x k ∧ Q (.str (Txt.mul x k)) M
  | _, _ => False
def fdivD : O2 := fun x y M Q => match vw M x, vw M y with
  | .int i, .int j => CDivW i j ∧ Q (.int (i / j)) M
  | _, _ => False
def modD : O2 := fun x y M Q => match vw M x, vw M y with
  | .int i, .int j => 0 < j ∧ Q (.int (i % j)) M
  | _, _ => False
def powD : O2 := fun x y M Q => match vw M x, vw M y with
  | .int i, .int j => CPow i j ∧ Q (.int (i ^ j.toNat)) M
  | _, _ => False
def cmpD (p : Int → Int → Bool) : O2 := fun x y M Q => match vw M x, vw M y with
  | .int i, .int j => Q (.bl (p i j)) M
  | _, _ => False
abbrev ltD : O2 := cmpD fun i j => decide (i < j)
abbrev leD : O2 := cmpD fun i j => decide (i ≤ j)
abbrev gtD : O2 := cmpD fun i j => decide (j < i)
abbrev geD : O2 := cmpD fun i j => decide (j ≤ i)
def eqD : O2 := fun x y M Q => match eqO (vw M x) (vw M y) with
  | some b => Q (.bl b) M
  | none => False
def neD : O2 := fun x y M Q => match eqO (vw M x) (vw M y) with
  | some b => Q (.bl (!b)) M
  | none => False
def isN : D → Bool
  | .non => true
  | _ => false
def isD : O2 := fun x y M Q => y = .non ∧ Q (.bl (isN x)) M
def isNotD : O2 := fun x y M Q => y = .non ∧ Q (.bl (!isN x)) M
theorem vlen {K : Fg} {H : Hp} {M : Mem} {ds : List D} {vs : List V} (r : Rs K H M ds vs) : vs.length = ds.length := (Rs.len r).symm
theorem rs_rep {K : Fg} {H : Hp} {M : Mem} {ds : List D} {vs : List V} (r : Rs K H M ds vs) : ∀ k, Rs K H M (repL k ds) (List.replicate k vs).flatten
  | 0 => rfl
  | k + 1 => by
    unfold repL
    rw [List.replicate_succ, List.replicate_succ, List.flatten_cons, List.flatten_cons]
    exact Rs.append r (rs_rep r k)
section
variable {X : Cx}
theorem up_same {K : Fg} {H : Hp} {M : Mem} {Q : QD} {d : D} {v : V} (mo : MOk K H M) (q : Q d M) (r : Rv K H M d v) : upE K H M Q v H := ⟨d, M, Gw.refl, mo, r, q⟩
theorem up_new_tup {K : Fg} {H : Hp} {M : Mem} {Q : QD} {ds : List D} {xs : List V} {p : Addr} (mo : MOk K H M) (hp : H p = none) (r : Rs K H M ds xs) (q : Q (.tup ds) M) : upE K H M Q (.ref p) (upd H p (.tup xs)) :=
  ⟨_, M, gw_new hp, mok_new mo hp, new_tup mo hp r, q⟩
theorem up_new_lst {K : Fg} {H : Hp} {M : Mem} {Q : QD} {ds : List D} {xs : List V} {p : Addr} (mo : MOk K H M) (hp : H p = none) (r : Rs K H M ds xs) (q : Q (.lst ds) M) : upE K H M Q (.ref p) (upd H p (.lst xs)) :=
  ⟨_, M, gw_new hp, mok_new mo hp, new_lst mo hp r, q⟩
theorem do_add : DOp X (binaryOp .Add) addD := by
  intro pins s σ H M x y dx dy v u Q Qd I mo r1 r2 rx ry t q
  unfold addD at t
  split at t
  · rename_i i j h1 h2
    exact op_add pins s σ H x y v u Q I rx ry ⟨i, j, vw_int r1 h1, vw_int r2 h2, q _ _ (up_same mo t rfl)⟩
  · rename_i i j h1 h2
    exact op_add_ib pins s σ H x y v u Q I rx ry ⟨i, j, vw_int r1 h1, vw_bl r2 h2, q _ _ (up_same mo t rfl)⟩
  · rename_i i j h1 h2
    exact op_add_str pins s σ H x y v u Q I rx ry ⟨i, j, vw_str r1 h1, vw_str r2 h2, t.1, q _ _ (up_same mo t.2 rfl)⟩
  · rename_i i j h1 h2
    obtain ⟨a, xs, rfl, ha, sa⟩ := vw_tup r1 h1
    obtain ⟨b, ys, rfl, hb, sb⟩ := vw_tup r2 h2
    refine op_catA pins s σ H _ _ v u Q I rx ry ⟨a, b, xs, ys, rfl, rfl, ha.sq, hb.sq, by rw [vlen sa, vlen sb]; exact t.1, fun e => ?_, fun _ e => ?_, fun _ _ p hp => ?_⟩
    · have e1 : i = [] := by
        have := Rs.len sa
        rw [e] at this
        exact List.eq_nil_of_length_eq_zero this
      subst e1
      exact q _ _ (up_same mo t.2 ⟨b, ys, rfl, hb, sb⟩)
    · have e1 : j = [] := by
        have := Rs.len sb
        rw [e] at this
        exact List.eq_nil_of_length_eq_zero this
      subst e1
      have t2 := t.2
      rw [List.append_nil] at t2
      exact q _ _ (up_same mo t2 ⟨a, xs, rfl, ha, sa⟩)
    · exact q _ _ (up_new_tup mo hp (Rs.append sa sb) t.2)
  · rename_i i j h1 h2
    obtain ⟨a, xs, rfl, ha, sa⟩ := vw_lst mo r1 h1
    obtain ⟨b, ys, rfl, hb, sb⟩ := vw_lst mo r2 h2
    exact op_cat pins s σ H _ _ v u Q I rx ry ⟨a, b, xs, ys, rfl, rfl, ha, hb, by rw [vlen sa, vlen sb]; exact t.1, fun p hp => q _ _ (up_new_lst mo hp (Rs.append sa sb) t.2)⟩
  · exact t.elim
theorem do_int {f : Value → Value → Sem Value} {C : Int → Int → Prop} {g : Int → Int → V} {gd : Int → Int → D} (h : OpR X f (rI C g)) (hg : ∀ i j (H : Hp) (M : Mem), Rv X.K H M (gd i j) (g i j)) :
    DOp X f (fun x y M Q => match vw M x, vw M y with
      | .int i, .int j => C i j ∧ Q (gd i j) M
      | _, _ => False) := by
  intro pins s σ H M x y dx dy v u Q Qd I mo r1 r2 rx ry t q
  split at t
  · rename_i i j h1 h2
    exact h pins s σ H x y v u Q I rx ry ⟨i, j, vw_int r1 h1, vw_int r2 h2, t.1, q _ _ (up_same mo t.2 (hg i j H M))⟩
  · exact t.elim
theorem do_int0 {f : Value → Value → Sem Value} {g : Int → Int → V} {gd : Int → Int → D} (h : OpR X f (rI0 g)) (hg : ∀ i j (H : Hp) (M : Mem), Rv X.K H M (gd i j) (g i j)) :
    DOp X f (fun x y M Q => match vw M x, vw M y with
      | .int i, .int j => Q (gd i j) M
      | _, _ => False) := by
  intro pins s σ H M x y dx dy v u Q Qd I mo r1 r2 rx ry t q
  split at t
  · rename_i i j h1 h2
    exact h pins s σ H x y v u Q I rx ry ⟨i, j, vw_int r1 h1, vw_int r2 h2, q _ _ (up_same mo t (hg i j H M))⟩
  · exact t.elim
theorem do_sub : DOp X (binaryOp .Sub) subD := do_int0 (gd := fun i j => .int (i - j)) op_sub fun _ _ _ _ => rfl
theorem do_fdiv : DOp X (binaryOp .FloorDiv) fdivD := do_int (gd := fun i j => .int (i / j)) op_fdivW fun _ _ _ _ => rfl
theorem do_mod : DOp X (binaryOp .Mod) modD := do_int (C := fun _ j => 0 < j) (gd := fun i j => .int (i % j)) op_mod fun _ _ _ _ => rfl
theorem do_pow : DOp X (binaryOp .Pow) powD := do_int (gd := fun i j => .int (i ^ j.toNat)) op_pow fun _ _ _ _ => rfl
theorem do_lt : DOp X (compareOp .Lt) ltD := do_int0 (gd := fun i j => .bl (decide (i < j))) op_lt fun _ _ _ _ => rfl
theorem do_le : DOp X (compareOp .LtE) leD := do_int0 (gd := fun i j => .bl (decide (i ≤ j))) op_le fun _ _ _ _ => rfl
theorem do_gt : DOp X (compareOp .Gt) gtD := do_int0 (gd := fun i j => .bl (decide (j < i))) op_gt fun _ _ _ _ => rfl
theorem do_ge : DOp X (compareOp .GtE) geD := do_int0 (gd := fun i j => .bl (decide (j ≤ i))) op_ge fun _ _ _ _ => rfl
theorem do_mul : DOp X (binaryOp .Mult) mulD := by
  intro pins s σ H M x y dx dy v u Q Qd I mo r1 r2 rx ry t q
  unfold mulD at t
  split at t
  · rename_i i j h1 h2
    exact op_mulW pins s σ H x y v u Q I rx ry ⟨i, j, vw_int r1 h1, vw_int r2 h2, t.1, q _ _ (up_same mo t.2 rfl)⟩
  · rename_i a k h1 h2
    obtain ⟨p, xs, rfl, ha, sa⟩ := vw_lst mo r1 h1
    exact op_rep pins s σ H _ _ v u Q I rx ry ⟨p, k, xs, rfl, vw_int r2 h2, ha, t.1.1, t.1.2.1, by rw [vlen sa]; exact t.1.2.2, fun l hl => q _ _ (up_new_lst mo hl (rs_rep sa _) t.2)⟩
  · rename_i a k h1 h2
    obtain ⟨p, xs, rfl, ha, sa⟩ := vw_tup r1 h1
    refine op_repT pins s σ H _ _ v u Q I rx ry ⟨p, k, xs, rfl, vw_int r2 h2, ha.sq, fun e => ?_, t.1.2.1, t.1.2.2.1, by rw [vlen sa]; exact t.1.2.2.2, fun l hl => q _ _ (up_new_tup mo hl (rs_rep sa _) t.2)⟩
    have := Rs.len sa
    rw [e] at this
    exact t.1.1 (List.eq_nil_of_length_eq_zero this)
  · rename_i x k h1 h2
    have e1 := vw_str r1 h1
    have e2 := vw_int r2 h2
    subst e1 e2
    obtain ⟨tk, rfl⟩ := rx
    obtain ⟨tk2, rfl⟩ := ry
    exact SB.mul t.1 fun t' k => ⟨.str _, H, I.tok k, ⟨t', rfl⟩, q _ _ (up_same mo t.2 rfl)⟩
  · exact t.elim
theorem do_eq (hu : X.A.units + 64 < cLine) : DOp X (compareOp .Eq) eqD := by
  intro pins s σ H M x y dx dy v u Q Qd I mo r1 r2 rx ry t q
  unfold eqD at t
  split at t
  · rename_i b hb
    obtain ⟨p, p', h1, h2, s1, s2, rfl⟩ := eqO_of hb
    exact op_eqD hu pins s σ H x y v u Q I rx ry ⟨p, p', vw_dp mo r1 h1, vw_dp mo r2 h2, s1, s2, q _ _ (up_same mo t rfl)⟩
  · exact t.elim
theorem do_ne (hu : X.A.units + 64 < cLine) : DOp X (compareOp .NotEq) neD := by
  intro pins s σ H M x y dx dy v u Q Qd I mo r1 r2 rx ry t q
  unfold neD at t
  split at t
  · rename_i b hb
    obtain ⟨p, p', h1, h2, s1, s2, rfl⟩ := eqO_of hb
    exact op_neD hu pins s σ H x y v u Q I rx ry ⟨p, p', vw_dp mo r1 h1, vw_dp mo r2 h2, s1, s2, q _ _ (up_same mo t rfl)⟩
  · exact t.elim
theorem isN_of {K : Fg} {H : Hp} {M : Mem} {d : D} {v : V} (r : Rv K H M d v) : decide (v = .non) = isN d := by
  cases d with
  | non => have e : v = .non := r; rw [e]; rfl
  | bl b => have e : v = .bl b := r; rw [e]; exact decide_eq_false (fun z => nomatch z)
  | int b => have e : v = .int b := r; rw [e]; exact decide_eq_false (fun z => nomatch z)
  | str b => have e : v = .str b := r; rw [e]; exact decide_eq_false (fun z => nomatch z)
  | ref b => have e : v = .ref b := r; rw [e]; exact decide_eq_false (fun z => nomatch z)
  | ty b => have e : v = .ty b := r; rw [e]; exact decide_eq_false (fun z => nomatch z)
  | tup b => obtain ⟨a, xs, e, _⟩ := r; rw [e]; exact decide_eq_false (fun z => nomatch z)
  | lst b => obtain ⟨a, xs, e, _⟩ := r; rw [e]; exact decide_eq_false (fun z => nomatch z)
  | fzn b => obtain ⟨a, xs, e, _⟩ := r; rw [e]; exact decide_eq_false (fun z => nomatch z)
  | dct b c => obtain ⟨a, _, xs, e, _⟩ := r; rw [e]; exact decide_eq_false (fun z => nomatch z)
  | kdt b c => obtain ⟨a, _, _, _, _, _, _, e, _⟩ := r; rw [e]; exact decide_eq_false (fun z => nomatch z)
  | lam f cc q st js b => obtain ⟨e, _⟩ := r; rw [e]; exact decide_eq_false (fun z => nomatch z)
  | fn f F => obtain ⟨e, _⟩ := r; rw [e]; exact decide_eq_false (fun z => nomatch z)
  | exn b c d => rcases r with ⟨a, _, xs, e, _⟩ | ⟨_, _, a, e, _⟩ <;> (rw [e]; exact decide_eq_false (fun z => nomatch z))
theorem do_is : DOp X (compareOp .Is) isD := by
  intro pins s σ H M x y dx dy v u Q Qd I mo r1 r2 rx ry t q
  obtain ⟨rfl, t⟩ := t
  exact op_isN pins s σ H x y v u Q I rx ry ⟨r2, by rw [isN_of r1]; exact q _ _ (up_same mo t rfl)⟩
end
end DL
set_option maxHeartbeats 1000000
namespace DL
open PySem PySem.Spec PyProof.Rows L2
def Mem.put (M : Mem) (a : Addr) (o : MO) : Mem := fun b => if b = a then some o else M b
def Mem.del (M : Mem) (a : Addr) : Mem := fun b => if b = a then none else M b
theorem Mem.put_same {M : Mem} {a : Addr} {o : MO} : M.put a o a = some o := by unfold Mem.put; rw [if_pos rfl]
theorem Mem.put_ne {M : Mem} {a b : Addr} {o : MO} (h : b ≠ a) : M.put a o b = M b := by unfold Mem.put; rw [if_neg h]
theorem Mem.del_same {M : Mem} {a : Addr} : M.del a a = none := by unfold Mem.del; rw [if_pos rfl]
theorem Mem.del_ne {M : Mem} {a b : Addr} (h : b ≠ a) : M.del a b = M b := by unfold Mem.del; rw [if_neg h]
theorem Mem.put_put {M : Mem} {a : Addr} {o u : MO} : (M.put a o).put a u = M.put a u := by funext b; unfold Mem.put; split <;> rfl
theorem Mem.del_put {M : Mem} {a : Addr} {o : MO} (h : M a = none) : (M.put a o).del a = M := by
  funext b; unfold Mem.del Mem.put
  by_cases e : b = a
  · rw [if_pos e, e, h]
  · rw [if_neg e, if_neg e]
section
variable {K : Fg} {H H' : Hp} {M M' : Mem}
/-- what MObj says is kept by growth where the object itself stands -/
theorem MObj.grow {a : Addr} {o : MO} (g : Gw H M H' M') (ha : H' a = H a) (hd : ∀ dx, H dx = some (.own a) → M dx = none → H' dx = some (.own a) ∧ M' dx = none) (h : MObj K H M a o) : MObj K H' M' a o := by
  cases o with
  | lst ds =>
    obtain ⟨xs, h1, h2⟩ := h
    exact ⟨xs, ha.trans h1, Rs.grow g ds xs h2⟩
  | dct ks ds =>
    obtain ⟨xs, h1, h3, h2⟩ := h
    exact ⟨xs, ha.trans h1, h3, Rs.grow g ds xs h2⟩
  | ins C ns ds =>
    obtain ⟨dx, xs, h1, h3, h4, h5, h2⟩ := h
    exact ⟨dx, xs, ha.trans h1, h3, (hd dx h4 h5).1, (hd dx h4 h5).2, Rs.grow g ds xs h2⟩
  | gen φ ds => exact h.elim
  | tab q => exact TabAt.keep h ha g
/-- an owned object is written -/
theorem gw_put {a : Addr} {o : HO} {mo mo' : MO} (h : M a = some mo) : Gw H M (upd H a o) (M.put a mo') := fun b u hb m _ => by
  have ne : b ≠ a := fun e => by rw [e, h] at m; cases m
  exact ⟨by rw [upd_ne ne]; exact hb, by rw [Mem.put_ne ne]; exact m⟩
theorem mok_put {a : Addr} {o : HO} {mo mo' : MO} (ok : MOk K H M) (h : M a = some mo) (new : MObj K (upd H a o) (M.put a mo') a mo') : MOk K (upd H a o) (M.put a mo') := fun b u e => by
  by_cases q : b = a
  · subst q
    rw [Mem.put_same] at e
    cases e
    exact new
  · rw [Mem.put_ne q] at e
    refine MObj.grow (gw_put h) (upd_ne q) (fun dx h1 h2 => ?_) (ok b u e)
    exact (gw_put h).at h1 h2
/-- a new owned object -/
theorem gw_own {p : Addr} {o : HO} {mo : MO} (hp : H p = none) : Gw H M (upd H p o) (M.put p mo) := fun b u hb m _ => by
  have ne : b ≠ p := ne_of_none hb hp
  exact ⟨by rw [upd_ne ne]; exact hb, by rw [Mem.put_ne ne]; exact m⟩
theorem mok_own {p : Addr} {o : HO} {mo : MO} (ok : MOk K H M) (hp : H p = none) (new : MObj K (upd H p o) (M.put p mo) p mo) : MOk K (upd H p o) (M.put p mo) := fun b u e => by
  by_cases q : b = p
  · subst q
    rw [Mem.put_same] at e
    cases e
    exact new
  · rw [Mem.put_ne q] at e
    exact MObj.grow (gw_own hp) (upd_ne q) (fun dx h1 h2 => (gw_own hp).at h1 h2) (ok b u e)
/-- less is owned: dropped, or frozen -/
theorem gw_less (h : ∀ a, M a = none → M' a = none) : Gw H M H M' := fun b u hb m _ => ⟨hb, h b m⟩
theorem mok_less (h : ∀ a o, M' a = some o → M a = some o) (hn : ∀ a, M a = none → M' a = none) (ok : MOk K H M) : MOk K H M' := fun b u e =>
  MObj.grow (gw_less hn) rfl (fun dx h1 h2 => ⟨h1, hn dx h2⟩) (ok b u (h b u e))
theorem up_own_lst {Q : QD} {ds : List D} {xs : List V} {p : Addr} (mo : MOk K H M) (hp : H p = none) (r : Rs K H M ds xs) (q : Q (.ref p) (M.put p (.lst ds))) : upE K H M Q (.ref p) (upd H p (.lst xs)) :=
  ⟨.ref p, M.put p (.lst ds), gw_own hp, mok_own mo hp (show MObj K (upd H p (.lst xs)) (M.put p (.lst ds)) p (.lst ds) from ⟨xs, upd_same, Rs.grow (gw_own hp) ds xs r⟩), rfl, q⟩
end
/-! ### arguments, displays -/
def dNil : TAD := fun _ _ M Q => Q [] M
def dCons (te : TED) (ta : TAD) : TAD := fun Xd s M Q => te Xd s M fun d M1 => ta Xd s M1 fun ds M2 => Q (d :: ds) M2
/-- arguments, n of them -/
structure DN (X : Cx) (E : XK) (n : Nat) (es : List Expr) (t : TAD) : Prop where
  ok : PA X es (fun σ H Q => ∃ s M Qd Xd, StOk X.K σ H s M ∧ XTo X.K H M Xd E ∧ t Xd s M Qd ∧ ∀ vs H', vs.length = n → upA X.K H M Qd vs H' → Q vs H')
section
variable {X : Cx} {E : XK} {n : Nat} {e a b c : Expr} {es : List Expr} {pos : Pos} {ta tb te : TED} {ts : TAD}
theorem dn_nil : DN X E 0 [] dNil := ⟨PA.imp pa_nil fun σ H Q ⟨s, M, Qd, Xd, S, x, t, q⟩ => q [] H rfl ⟨[], M, Gw.refl, S.mem, rfl, t⟩⟩
theorem dn_cons (h1 : DE X E e te) (h2 : DN X E n es ts) (hs : starEach (e :: es) X.env = (false, eval e X.env) :: starEach es X.env := by rfl) : DN X E (n + 1) (e :: es) (dCons te ts) :=
  ⟨PA.imp (pa_cons h1.ok h2.ok hs) fun σ H Q ⟨s, M, Qd, Xd, S, x, t, q⟩ => by
    refine useE S x t fun d v M1 H1 g1 S1 x1 r1 t1 => ?_
    refine ⟨s, M1, _, Xd, S1, x1, t1, fun vs H2 hl ⟨ds, M2, g2, m2, r2, t2⟩ => ?_⟩
    exact q _ _ (by rw [List.length_cons, hl]) ⟨d :: ds, M2, g1.trans g2, m2, Rs.cons (Rv.grow g2 _ _ r1) r2, t2⟩⟩
/-- what is known of arguments -/
theorem useN {σ : L2.St} {H : Hp} {s : SD} {M : Mem} {Xd : XD} {Qd : List D → Mem → Prop} {Q : List V → Hp → Prop} (S : StOk X.K σ H s M) (x : XTo X.K H M Xd E) (h : ts Xd s M Qd)
    (q : ∀ ds vs M' H', vs.length = n → Gw H M H' M' → StOk X.K σ H' s M' → XTo X.K H' M' Xd E → Rs X.K H' M' ds vs → Qd ds M' → Q vs H') :
    ∃ s M Qd Xd, StOk X.K σ H s M ∧ XTo X.K H M Xd E ∧ ts Xd s M Qd ∧ ∀ vs H', vs.length = n → upA X.K H M Qd vs H' → Q vs H' :=
  ⟨s, M, Qd, Xd, S, x, h, fun vs H' hl ⟨ds, M', g, m, r, z⟩ => q ds vs M' H' hl g (S.grow g m) (x.grow g) r z⟩
def dTup (t : TAD) : TED := fun Xd s M Q => t Xd s M fun ds M1 => Q (.tup ds) M1
def dLst (t : TAD) : TED := fun Xd s M Q => t Xd s M fun ds M1 => Q (.lst ds) M1
/-- a list that will be changed -/
def dLstO (t : TAD) : TED := fun Xd s M Q => t Xd s M fun ds M1 => ∀ p, M1 p = none → Q (.ref p) (M1.put p (.lst ds))
theorem de_tup {k} (h : DN X E n es ts) (hz : n ≤ sizeLine := by decide) : DE X E (.Tuple es k pos) (dTup ts) := ⟨PE.imp (pe_tup h.ok) fun σ H Q ⟨s, M, Qd, Xd, S, x, t, q⟩ => by
  refine useN S x t fun ds vs M1 H1 hl g1 S1 x1 r1 t1 => ⟨by rw [hl]; exact hz, fun p hp => ?_⟩
  exact q _ _ ⟨.tup ds, M1, g1.trans (gw_new hp), mok_new S1.mem hp, new_tup S1.mem hp r1, t1⟩⟩
theorem de_lst (h : DN X E n es ts) (hz : n ≤ sizeLine := by decide) : DE X E (.List es pos) (dLst ts) := ⟨PE.imp (pe_lst h.ok) fun σ H Q ⟨s, M, Qd, Xd, S, x, t, q⟩ => by
  refine useN S x t fun ds vs M1 H1 hl g1 S1 x1 r1 t1 => ⟨by rw [hl]; exact hz, fun p hp => ?_⟩
  exact q _ _ ⟨.lst ds, M1, g1.trans (gw_new hp), mok_new S1.mem hp, new_lst S1.mem hp r1, t1⟩⟩
theorem de_lstO (h : DN X E n es ts) (hz : n ≤ sizeLine := by decide) : DE X E (.List es pos) (dLstO ts) := ⟨PE.imp (pe_lst h.ok) fun σ H Q ⟨s, M, Qd, Xd, S, x, t, q⟩ => by
  refine useN S x t fun ds vs M1 H1 hl g1 S1 x1 r1 t1 => ⟨by rw [hl]; exact hz, fun p hp => ?_⟩
  obtain ⟨d, M', g, m, r, z⟩ := up_own_lst S1.mem hp r1 (t1 p (m_none S1.mem hp))
  exact q _ _ ⟨d, M', g1.trans g, m, r, z⟩⟩
/-! ### calls of built-ins by values -/
abbrev OC := List D → Mem → QD → Prop
def DC (X : Cx) (f : Value) (o : OC) : Prop :=
  ∀ (pins : List (Addr × Obj)) (s : Shared) (σ : L2.St) (H : Hp) (M : Mem) (xs : List V) (ds : List D) (us : List Value) (Q : VK) (Qd : QD), Inv X pins σ H s → MOk X.K H M → Rs X.K H M ds xs → Vals xs us → o ds M Qd →
    (∀ v H', upE X.K H M Qd v H' → Q v H') → wpAny (model X.prog X.w) X.A (call f us) (EP X pins σ Q) X.xe s
theorem DC.toR {f : Value} {o : OC} (h : DC X f o) : CallR X f (fun xs H Q => ∃ M ds Qd, MOk X.K H M ∧ Rs X.K H M ds xs ∧ o ds M Qd ∧ ∀ v H', upE X.K H M Qd v H' → Q v H') :=
  fun pins s σ H xs us Q I r ⟨M, ds, Qd, mo, r1, t, q⟩ => h pins s σ H M xs ds us Q Qd I mo r1 r t q
def dCB (o : OC) (t : TAD) : TED := fun Xd s M Q => t Xd s M fun ds M1 => o ds M1 Q
theorem liftCB {o : OC} {σ : L2.St} {H : Hp} {Q : VK} (z : liftE X.K E (dCB o ts) σ H Q) : tCB (fun xs H Q => ∃ M ds Qd, MOk X.K H M ∧ Rs X.K H M ds xs ∧ o ds M Qd ∧ ∀ v H', upE X.K H M Qd v H' → Q v H')
    (fun σ H Q => ∃ s M Qd Xd, StOk X.K σ H s M ∧ XTo X.K H M Xd E ∧ ts Xd s M Qd ∧ ∀ vs H', vs.length = n → upA X.K H M Qd vs H' → Q vs H') σ H Q := by
  obtain ⟨s, M, Qd, Xd, S, x, t, q⟩ := z
  refine useN S x t fun ds vs M1 H1 hl g1 S1 x1 r1 t1 => ?_
  exact ⟨M1, ds, Qd, S1.mem, r1, t1, fun v H' ⟨d, M', g, m, r, z⟩ => q v H' ⟨d, M', g1.trans g, m, r, z⟩⟩
theorem de_callB {id : String} {x : Str} {p : Pos} {o : OC} (hc : DC X (.builtin id) o) (hg : Gl X x) (hm : X.mg x = none) (hv : bootBuiltins x = some (.builtin id)) (ha : DN X E n (e :: es) ts) (hn : x ≠ "__name__" := by decide) (hdb : (x == ("__debug__" : Str)) = false := by decide)
    (he : starEach (e :: es) X.env = (false, eval e X.env) :: starEach es X.env := by rfl) (hpl : (backTo pos (starEach es X.env)).any (·.1) = false := by rfl) : DE X E (.Call (.Name x p) (e :: es) [] pos) (dCB o ts) :=
  ⟨PE.imp (pe_callB hc.toR hg hm hv ha.ok hn hdb he hpl) fun σ H Q z => liftCB z⟩
theorem de_callTy {T : String} {x : Str} {p : Pos} {o : OC} (hc : DC X (.type T) o) (hg : Gl X x) (hm : X.mg x = none) (hv : bootBuiltins x = some (.type T)) (ha : DN X E n (e :: es) ts) (hn : x ≠ "__name__" := by decide) (hdb : (x == ("__debug__" : Str)) = false := by decide)
    (he : starEach (e :: es) X.env = (false, eval e X.env) :: starEach es X.env := by rfl) (hpl : (backTo pos (starEach es X.env)).any (·.1) = false := by rfl) : DE X E (.Call (.Name x p) (e :: es) [] pos) (dCB o ts) :=
  ⟨PE.imp (pe_callTy hc.toR hg hm hv ha.ok hn hdb he hpl) fun σ H Q z => liftCB z⟩
/-! ### built-ins -/
theorem rs1 {K : Fg} {H : Hp} {M : Mem} {d : D} {xs : List V} (r : Rs K H M [d] xs) : ∃ v, xs = [v] ∧ Rv K H M d v := by
  obtain ⟨v, r, rfl, h, q⟩ := r
  have e : r = [] := q
  subst e
  exact ⟨v, rfl, h⟩
theorem rs2 {K : Fg} {H : Hp} {M : Mem} {d d2 : D} {xs : List V} (r : Rs K H M [d, d2] xs) : ∃ v w, xs = [v, w] ∧ Rv K H M d v ∧ Rv K H M d2 w := by
  obtain ⟨v, r, rfl, h, q⟩ := r
  obtain ⟨w, rfl, z⟩ := rs1 q
  exact ⟨v, w, rfl, h, z⟩
def lenO (M : Mem) (d : D) : Option Nat := match vw M d with
  | .tup ds => some ds.length
  | .lst ds => some ds.length
  | .fzn ds => some ds.length
  | .str x => if x.length ≤ sizeLine then some x.length else none
  | _ => none
def lenC : OC := fun ds M Q => match ds with
  | [d] => match lenO M d with
    | some n => Q (.int n) M
    | none => False
  | _ => False
theorem dc_len : DC X (.builtin "len") lenC := by
  intro pins s σ H M xs ds us Q Qd I mo r rv t q
  unfold lenC at t
  split at t
  · rename_i d
    obtain ⟨v, rfl, rd⟩ := rs1 r
    split at t
    · rename_i n hn
      unfold lenO at hn
      split at hn
      · rename_i es h
        obtain ⟨a, ys, rfl, ha, sa⟩ := vw_tup rd h
        cases hn
        exact call_len_seq pins s σ H _ us Q I rv ⟨a, ys, rfl, .inr ha.sq, q _ _ ⟨_, M, Gw.refl, mo, by rw [vlen sa]; exact rfl, t⟩⟩
      · rename_i es h
        obtain ⟨a, ys, rfl, ha, sa⟩ := vw_lst mo rd h
        cases hn
        exact call_len_seq pins s σ H _ us Q I rv ⟨a, ys, rfl, .inl (SqL.of ha), q _ _ ⟨_, M, Gw.refl, mo, by rw [vlen sa]; exact rfl, t⟩⟩
      · rename_i es h
        obtain ⟨a, ys, rfl, ha, sa⟩ := vw_fzn rd h
        cases hn
        exact call_len_seq pins s σ H _ us Q I rv ⟨a, ys, rfl, .inl ha.sq, q _ _ ⟨_, M, Gw.refl, mo, by rw [vlen sa]; exact rfl, t⟩⟩
      · rename_i x h
        split at hn
        · rename_i hz
          cases hn
          exact call_len_str pins s σ H _ us Q I rv ⟨x, by rw [vw_str rd h], hz, q _ _ (up_same mo t rfl)⟩
        · cases hn
      · cases hn
    · exact t.elim
  · exact t.elim
/-- the items of a list or tuple -/
def itemsO (M : Mem) (d : D) : Option (List D) := match vw M d with
  | .tup ds => some ds
  | .lst ds => some ds
  | .fzn ds => some ds
  | _ => none
theorem items_of {K : Fg} {H : Hp} {M : Mem} {d : D} {ds : List D} {v : V} (mo : MOk K H M) (r : Rv K H M d v) (e : itemsO M d = some ds) : ∃ a xs, v = .ref a ∧ (SqL K H a xs ∨ SqT K H a xs) ∧ Rs K H M ds xs := by
  unfold itemsO at e
  split at e
  · rename_i es h
    cases e
    obtain ⟨a, ys, rfl, ha, sa⟩ := vw_tup r h
    exact ⟨a, ys, rfl, .inr ha.sq, sa⟩
  · rename_i es h
    cases e
    obtain ⟨a, ys, rfl, ha, sa⟩ := vw_lst mo r h
    exact ⟨a, ys, rfl, .inl (SqL.of ha), sa⟩
  · rename_i es h
    cases e
    obtain ⟨a, ys, rfl, ha, sa⟩ := vw_fzn r h
    exact ⟨a, ys, rfl, .inl ha.sq, sa⟩
  · cases e
def listC : OC := fun ds M Q => match ds with
  | [d] => match itemsO M d with
    | some es => Q (.lst es) M
    | none => False
  | _ => False
theorem dc_list : DC X (.type "list") listC := by
  intro pins s σ H M xs ds us Q Qd I mo r rv t q
  unfold listC at t
  split at t
  · rename_i d
    obtain ⟨v, rfl, rd⟩ := rs1 r
    split at t
    · rename_i es he
      obtain ⟨a, ys, rfl, ha, sa⟩ := items_of mo rd he
      exact call_list_of pins s σ H _ us Q I rv ⟨a, ys, rfl, ha, fun l hl => q _ _ (up_new_lst mo hl sa t)⟩
    · exact t.elim
  · exact t.elim
def tupleC : OC := fun ds M Q => match ds with
  | [d] => match itemsO M d with
    | some es => Q (.tup es) M
    | none => False
  | _ => False
theorem dc_tuple : DC X (.type "tuple") tupleC := by
  intro pins s σ H M xs ds us Q Qd I mo r rv t q
  unfold tupleC at t
  split at t
  · rename_i d
    obtain ⟨v, rfl, rd⟩ := rs1 r
    split at t
    · rename_i es he
      unfold itemsO at he
      split at he
      · rename_i es h
        cases he
        obtain ⟨a, ys, rfl, ha, sa⟩ := vw_tup rd h
        exact call_tuple_of pins s σ H _ us Q I rv ⟨a, ys, rfl, .inr ⟨ha.sq, q _ _ (up_same mo t ⟨a, ys, rfl, ha, sa⟩)⟩⟩
      · rename_i es h
        cases he
        obtain ⟨a, ys, rfl, ha, sa⟩ := vw_lst mo rd h
        exact call_tuple_of pins s σ H _ us Q I rv ⟨a, ys, rfl, .inl ⟨SqL.of ha, fun l hl => q _ _ (up_new_tup mo hl sa t)⟩⟩
      · rename_i es h
        cases he
        obtain ⟨a, ys, rfl, ha, sa⟩ := vw_fzn rd h
        exact call_tuple_of pins s σ H _ us Q I rv ⟨a, ys, rfl, .inl ⟨ha.sq, fun l hl => q _ _ (up_new_tup mo hl sa t)⟩⟩
      · cases he
    · exact t.elim
  · exact t.elim
def intC : OC := fun ds M Q => match ds with
  | [d] => match vw M d with
    | .int i => Q (.int i) M
    | .bl b => Q (.int (if b then 1 else 0)) M
    | _ => False
  | _ => False
theorem dc_int : DC X (.type "int") intC := by
  intro pins s σ H M xs ds us Q Qd I mo r rv t q
  unfold intC at t
  split at t
  · rename_i d
    obtain ⟨v, rfl, rd⟩ := rs1 r
    split at t
    · rename_i i h
      exact call_int1 pins s σ H _ us Q I rv (.inl ⟨i, by rw [vw_int rd h], q _ _ (up_same mo t rfl)⟩)
    · rename_i i h
      exact call_int1 pins s σ H _ us Q I rv (.inr ⟨i, by rw [vw_bl rd h], q _ _ (up_same mo t rfl)⟩)
    · exact t.elim
  · exact t.elim
def absC : OC := fun ds M Q => match ds with
  | [d] => match vw M d with
    | .int i => Q (.int (if i < 0 then -i else i)) M
    | _ => False
  | _ => False
theorem dc_abs : DC X (.builtin "abs") absC := by
  intro pins s σ H M xs ds us Q Qd I mo r rv t q
  unfold absC at t
  split at t
  · rename_i d
    obtain ⟨v, rfl, rd⟩ := rs1 r
    split at t
    · rename_i i h
      exact call_abs pins s σ H _ us Q I rv ⟨i, by rw [vw_int rd h], q _ _ (up_same mo t rfl)⟩
    · exact t.elim
  · exact t.elim
def int2C (f : Int → Int → Int) : OC := fun ds M Q => match ds with
  | [d, e] => match vw M d, vw M e with
    | .int i, .int j => Q (.int (f i j)) M
    | _, _ => False
  | _ => False
theorem dc_int2 {id : Value} {f : Int → Int → Int} (h : CallR X id (fun xs H Q => ∃ i j, xs = [.int i, .int j] ∧ Q (.int (f i j)) H)) : DC X id (int2C f) := by
  intro pins s σ H M xs ds us Q Qd I mo r rv t q
  unfold int2C at t
  split at t
  · rename_i d e
    obtain ⟨v, w, rfl, rd, re⟩ := rs2 r
    split at t
    · rename_i i j h1 h2
      exact h pins s σ H _ us Q I rv ⟨i, j, by rw [vw_int rd h1, vw_int re h2], q _ _ (up_same mo t rfl)⟩
    · exact t.elim
  · exact t.elim
theorem dc_max2 (hc : X.calm = true) : DC X (.builtin "max") (int2C fun i j => if j > i then j else i) := dc_int2 (call_max2 hc)
theorem dc_min2 (hc : X.calm = true) : DC X (.builtin "min") (int2C fun i j => if j < i then j else i) := dc_int2 (call_min2 hc)
end
end DL
set_option maxHeartbeats 1000000
namespace DL
open PySem PySem.Spec PyProof.Rows L2
section
variable {X : Cx} {E : XK} {n : Nat} {e a b c o i : Expr} {es : List Expr} {pos p2 : Pos} {ta tb te : TED} {ts : TAD}
/-! ### a built-in's name as a value -/
theorem de_bltn {x : Str} {T : String} (hg : Gl X x) (hm : X.mg x = none) (hv : bootBuiltins x = some (.type T)) (hn : x ≠ "__name__" := by decide) (hd : (x == ("__debug__" : Str)) = false := by decide) : DE X E (.Name x pos) (dC (.ty T)) :=
  de_const (pe_bltn (v := .ty T) hg hm hv rfl hn hd) fun _ _ => rfl
/-- a module's constant, a class, a def, as a value -/
theorem de_glob {x : Str} {d : D} {v : V} {u : Value} (hg : Gl X x) (hm : X.mg x = some u) (r : RelV v u) (rd : ∀ H M, Rv X.K H M d v) (hd : (x == ("__debug__" : Str)) = false := by decide) : DE X E (.Name x pos) (dC d) :=
  de_const (pe_glob hg hm r hd) rd
/-! ### and, or, not, if else -/
def andK (tb : TED) (Xd : XD) (s : SD) (Q : QD) : QD := fun d M => match d with
  | .bl c => if c = true then tb Xd s M Q else Q (.bl false) M
  | _ => False
def orK (tb : TED) (Xd : XD) (s : SD) (Q : QD) : QD := fun d M => match d with
  | .bl c => if c = true then Q (.bl true) M else tb Xd s M Q
  | _ => False
def dAnd (ta tb : TED) : TED := fun Xd s M Q => ta Xd s M (andK tb Xd s Q)
def dOr (ta tb : TED) : TED := fun Xd s M Q => ta Xd s M (orK tb Xd s Q)
def notK (Q : QD) : QD := fun d M => match d with
  | .bl c => Q (.bl (!c)) M
  | _ => False
def dNot (ta : TED) : TED := fun Xd s M Q => ta Xd s M (notK Q)
theorem fwd {K : Fg} {H H1 : Hp} {M M1 : Mem} {Qd : QD} {Q : VK} (g : Gw H M H1 M1) (q : ∀ v H', upE K H M Qd v H' → Q v H') : ∀ v H', upE K H1 M1 Qd v H' → Q v H' :=
  fun v H' ⟨d, M', g', m, r, z⟩ => q v H' ⟨d, M', g.trans g', m, r, z⟩
theorem fwdT {K : Fg} {H H1 : Hp} {M M1 : Mem} {Qd : Bool → Mem → Prop} {Q : Bool → Hp → Prop} (g : Gw H M H1 M1) (q : ∀ v H', upT K H M Qd v H' → Q v H') : ∀ v H', upT K H1 M1 Qd v H' → Q v H' :=
  fun v H' ⟨M', g', m, z⟩ => q v H' ⟨M', g.trans g', m, z⟩
theorem fwdS {K : Fg} {H H1 : Hp} {M M1 : Mem} {Qd : SD → Mem → Prop} {Q : L2.St → Hp → Prop} (g : Gw H M H1 M1) (q : ∀ v H', upS K H M Qd v H' → Q v H') : ∀ v H', upS K H1 M1 Qd v H' → Q v H' :=
  fun v H' ⟨s', M', g', m, z⟩ => q v H' ⟨s', M', g.trans g', m, z⟩
theorem de_one {op} (h : DE X E a ta) : DE X E (.BoolOp op [a] pos) ta := ⟨pe_one h.ok⟩
theorem de_and {rest : List Expr} (ha : DE X E a ta) (hb : DE X E (.BoolOp .And (b :: rest) pos) tb) : DE X E (.BoolOp .And (a :: b :: rest) pos) (dAnd ta tb) :=
  ⟨PE.imp (pe_and ha.ok hb.ok) fun σ H Q ⟨s, M, Qd, Xd, S, x, t, q⟩ => by
    refine useE S x t fun d v M1 H1 g1 S1 x1 r1 t1 => ?_
    unfold andK at t1
    split at t1
    · rename_i c
      refine ⟨c, r1, ?_⟩
      cases c with
      | true => exact ⟨s, M1, Qd, Xd, S1, x1, t1, fwd g1 q⟩
      | false => exact q _ _ ⟨.bl false, M1, g1, S1.mem, rfl, t1⟩
    · exact t1.elim⟩
theorem de_or {rest : List Expr} (ha : DE X E a ta) (hb : DE X E (.BoolOp .Or (b :: rest) pos) tb) : DE X E (.BoolOp .Or (a :: b :: rest) pos) (dOr ta tb) :=
  ⟨PE.imp (pe_or ha.ok hb.ok) fun σ H Q ⟨s, M, Qd, Xd, S, x, t, q⟩ => by
    refine useE S x t fun d v M1 H1 g1 S1 x1 r1 t1 => ?_
    unfold orK at t1
    split at t1
    · rename_i c
      refine ⟨c, r1, ?_⟩
      cases c with
      | true => exact q _ _ ⟨.bl true, M1, g1, S1.mem, rfl, t1⟩
      | false => exact ⟨s, M1, Qd, Xd, S1, x1, t1, fwd g1 q⟩
    · exact t1.elim⟩
def unK (f : Int → Int) (Q : QD) : QD := fun d M => match d with
  | .int i => Q (.int (f i)) M
  | _ => False
def dNeg (ta : TED) : TED := fun Xd s M Q => ta Xd s M (unK (fun i => -i) Q)
theorem de_neg (ha : DE X E a ta) : DE X E (.UnaryOp .USub a pos) (dNeg ta) :=
  ⟨PE.imp (pe_un un_neg ha.ok) fun σ H Q ⟨s, M, Qd, Xd, S, x, t, q⟩ => by
    refine useE S x t fun d v M1 H1 g1 S1 x1 r1 t1 => ?_
    unfold unK at t1
    split at t1
    · rename_i c
      exact ⟨c, r1, q _ _ ⟨.int (-c), M1, g1, S1.mem, rfl, t1⟩⟩
    · exact t1.elim⟩
def dIte (t : TTD) (ta tb : TED) : TED := fun Xd s M Q => t Xd s M fun c M1 => if c = true then ta Xd s M1 Q else tb Xd s M1 Q
theorem de_ite {t : TTD} (hc : DT X E c t) (ha : DE X E a ta) (hb : DE X E b tb) : DE X E (.IfExp c a b pos) (dIte t ta tb) :=
  ⟨PE.imp (pe_ifExp hc.ok ha.ok hb.ok) fun σ H Q ⟨s, M, Qd, Xd, S, x, z, q⟩ => by
    refine useT S x z fun k M1 H1 g1 S1 x1 t1 => ?_
    cases k with
    | true => exact ⟨s, M1, Qd, Xd, S1, x1, t1, fwd g1 q⟩
    | false => exact ⟨s, M1, Qd, Xd, S1, x1, t1, fwd g1 q⟩⟩
/-! ### tests -/
structure DW (X : Cx) (E : XK) (e : Expr) (t : TTD) : Prop where
  ok : PW X e (liftT X.K E t)
theorem DW.dt {t : TTD} (h : DW X E e t) : DT X E e t := ⟨h.ok.pt⟩
def tAndD (t u : TTD) : TTD := fun Xd s M Q => t Xd s M fun c M1 => if c = true then u Xd s M1 Q else Q false M1
def tOrD (t u : TTD) : TTD := fun Xd s M Q => t Xd s M fun c M1 => if c = true then Q true M1 else u Xd s M1 Q
def tNotD (t : TTD) : TTD := fun Xd s M Q => t Xd s M fun c M1 => Q (!c) M1
theorem dw_and1 {t : TTD} (h : DT X E a t) : DW X E (.BoolOp .And [a] pos) t := ⟨pw_and1 h.ok⟩
theorem dw_or1 {t : TTD} (h : DT X E a t) : DW X E (.BoolOp .Or [a] pos) t := ⟨pw_or1 h.ok⟩
theorem dw_and {t u : TTD} {rest : List Expr} (ha : DT X E a t) (hb : DW X E (.BoolOp .And (b :: rest) pos) u) : DW X E (.BoolOp .And (a :: b :: rest) pos) (tAndD t u) :=
  ⟨PW.imp (pw_and ha.ok hb.ok) fun σ H Q ⟨s, M, Qd, Xd, S, x, z, q⟩ => by
    refine useT S x z fun k M1 H1 g1 S1 x1 t1 => ?_
    cases k with
    | true => exact ⟨s, M1, Qd, Xd, S1, x1, t1, fwdT g1 q⟩
    | false => exact q _ _ ⟨M1, g1, S1.mem, t1⟩⟩
theorem dw_or {t u : TTD} {rest : List Expr} (ha : DT X E a t) (hb : DW X E (.BoolOp .Or (b :: rest) pos) u) : DW X E (.BoolOp .Or (a :: b :: rest) pos) (tOrD t u) :=
  ⟨PW.imp (pw_or ha.ok hb.ok) fun σ H Q ⟨s, M, Qd, Xd, S, x, z, q⟩ => by
    refine useT S x z fun k M1 H1 g1 S1 x1 t1 => ?_
    cases k with
    | true => exact q _ _ ⟨M1, g1, S1.mem, t1⟩
    | false => exact ⟨s, M1, Qd, Xd, S1, x1, t1, fwdT g1 q⟩⟩
theorem dt_not {t : TTD} (h : DT X E a t) : DT X E (.UnaryOp .Not a pos) (tNotD t) :=
  ⟨PT.imp (pt_not h.ok) fun σ H Q ⟨s, M, Qd, Xd, S, x, z, q⟩ => useT S x z fun k M1 H1 g1 S1 x1 t1 => q _ _ ⟨M1, g1, S1.mem, t1⟩⟩
/-- a value's truth -/
def truO (M : Mem) (d : D) : Option Bool := match vw M d with
  | .non => some false
  | .bl b => some b
  | .int i => some (i != 0)
  | .str x => if x.length ≤ sizeLine then some ((x.length : Int) != 0) else none
  | .tup ds => some (!ds.isEmpty)
  | .lst ds => some (!ds.isEmpty)
  | .fzn ds => some (!ds.isEmpty)
  | _ => none
def truK (Q : Bool → Mem → Prop) : QD := fun d M => match truO M d with
  | some b => Q b M
  | none => False
def dTru (t : TED) : TTD := fun Xd s M Q => t Xd s M (truK Q)
theorem emp_of {K : Fg} {H : Hp} {M : Mem} {ds : List D} {xs : List V} (r : Rs K H M ds xs) : xs.isEmpty = ds.isEmpty := by
  have h := Rs.len r
  cases ds with
  | nil =>
    have e : xs = [] := List.eq_nil_of_length_eq_zero (by simpa using h.symm)
    subst e
    rfl
  | cons d ds =>
    cases xs with
    | nil => simp at h
    | cons x xs => rfl
theorem dt_tru (h : DE X E a ta) (he : ∀ whole, isTrue a X.env whole = (do let v ← whole; standAt a.pos; holding [v] (truthy v)) := by intro _; rfl) : DT X E a (dTru ta) :=
  ⟨PT.imp (pt_truth h.ok he) fun σ H Q ⟨s, M, Qd, Xd, S, x, z, q⟩ => by
    refine useE S x z fun d v M1 H1 g1 S1 x1 r1 t1 => ?_
    unfold truK at t1
    split at t1
    · rename_i k hk
      refine ⟨k, ?_, q k H1 ⟨M1, g1, S1.mem, t1⟩⟩
      unfold truO at hk
      split at hk
      · rename_i h; cases hk; rw [vw_non r1 h]; exact rfl
      · rename_i b h; cases hk; rw [vw_bl r1 h]; exact rfl
      · rename_i b h; cases hk; rw [vw_int r1 h]; exact rfl
      · rename_i b h
        split at hk
        · rename_i hz; cases hk; rw [vw_str r1 h]; exact ⟨hz, rfl⟩
        · cases hk
      · rename_i ds h
        cases hk
        obtain ⟨p, ys, rfl, ha, sa⟩ := vw_tup r1 h
        exact .inr (.inl ⟨ys, ha.sq, by rw [emp_of sa]⟩)
      · rename_i ds h
        cases hk
        obtain ⟨p, ys, rfl, ha, sa⟩ := vw_lst S1.mem r1 h
        exact .inl ⟨ys, SqL.of ha, by rw [emp_of sa]⟩
      · rename_i ds h
        cases hk
        obtain ⟨p, ys, rfl, ha, sa⟩ := vw_fzn r1 h
        exact .inl ⟨ys, ha.sq, by rw [emp_of sa]⟩
      · cases hk
    · exact t1.elim⟩
/-- a op1 b op2 c -/
def chK (o : O2) (y : D) (tc : TED) (Xd : XD) (s : SD) (Q : QD) : QD := fun d M => match d with
  | .bl k => if k = true then tc Xd s M fun z M2 => o y z M2 Q else Q (.bl false) M
  | _ => False
def dChain (o o' : O2) (ta tb tc : TED) : TED := fun Xd s M Q => ta Xd s M fun x M1 => tb Xd s M1 fun y M2 => o x y M2 (chK o' y tc Xd s Q)
theorem lift_chain {o1 o2 : O2} {r r' : R2} {tc : TED} (hr : ∀ {x y : V} {H : Hp} {Q : VK} {M : Mem} {dx dy : D} {Qd : QD}, MOk X.K H M → Rv X.K H M dx x → Rv X.K H M dy y → o1 dx dy M Qd → (∀ v H', upE X.K H M Qd v H' → Q v H') → r x y H Q)
    (hr' : ∀ {x y : V} {H : Hp} {Q : VK} {M : Mem} {dx dy : D} {Qd : QD}, MOk X.K H M → Rv X.K H M dx x → Rv X.K H M dy y → o2 dx dy M Qd → (∀ v H', upE X.K H M Qd v H' → Q v H') → r' x y H Q)
    {σ : L2.St} {H : Hp} {Q : VK} (z : liftE X.K E (dChain o1 o2 ta tb tc) σ H Q) : tChain r r' (liftE X.K E ta) (liftE X.K E tb) (liftE X.K E tc) σ H Q := by
  obtain ⟨s, M, Qd, Xd, S, x, t, q⟩ := z
  refine useE S x t fun dx v M1 H1 g1 S1 x1 r1 t1 => ?_
  refine useE S1 x1 t1 fun dy u M2 H2 g2 S2 x2 r2 t2 => ?_
  refine hr S2.mem (Rv.grow g2 _ _ r1) r2 t2 fun w H' ⟨d, M', g, m, rd, z⟩ => ?_
  unfold chK at z
  split at z
  · rename_i k
    refine ⟨k, rd, ?_⟩
    cases k with
    | false => exact q _ _ ⟨.bl false, M', (g1.trans g2).trans g, m, rfl, z⟩
    | true =>
      refine useE (S2.grow g m) (x2.grow g) z fun dz w M3 H3 g3 S3 x3 r3 t3 => ?_
      exact hr' S3.mem (Rv.grow g3 _ _ (Rv.grow g _ _ r2)) r3 t3 (fwd (((g1.trans g2).trans g).trans g3) q)
  · exact z.elim
theorem de_chain {op op' : CmpOp} {o1 o2 : O2} {tc : TED} (h : DOp X (compareOp op) o1) (h' : DOp X (compareOp op') o2) (ha : DE X E a ta) (hb : DE X E b tb) (hc : DE X E c tc) (hm : lastMarks [op, op'] [b, c] = false := by with_unfolding_all rfl) :
    DE X E (.Compare a [op, op'] [b, c] pos) (dChain o1 o2 ta tb tc) :=
  ⟨PE.imp (pe_chain h.toR h'.toR ha.ok hb.ok hc.ok hm) fun σ H Q z => lift_chain (fun mo r1 r2 t q => ⟨_, _, _, _, mo, r1, r2, t, q⟩) (fun mo r1 r2 t q => ⟨_, _, _, _, mo, r1, r2, t, q⟩) z⟩
theorem dt_chain {op op' : CmpOp} {o1 o2 : O2} {tc : TED} (h : DOp X (compareOp op) o1) (h' : DOp X (compareOp op') o2) (ha : DE X E a ta) (hb : DE X E b tb) (hc : DE X E c tc) (hm : lastMarks [op, op'] [b, c] = false := by with_unfolding_all rfl) :
    DT X E (.Compare a [op, op'] [b, c] pos) (dTst (dChain o1 o2 ta tb tc)) :=
  ⟨PT.imp (pt_chain h.toR h'.toR ha.ok hb.ok hc.ok hm) fun σ H Q z => lift_chain (fun mo r1 r2 t q => ⟨_, _, _, _, mo, r1, r2, t, q⟩) (fun mo r1 r2 t q => ⟨_, _, _, _, mo, r1, r2, t, q⟩) (liftB z)⟩
/-! ### subscripts -/
def valD (ks : List Key) (ds : List D) (k : Key) : Option D := ((ks.zip ds).find? fun kv => decide (kv.1 = k)).map (·.2)
def keyD : D → Option Key
  | .int i => some (.inl i)
  | .str x => some (.inr x)
  | _ => none
theorem zip_val {K : Fg} {H : Hp} {M : Mem} (k : Key) : ∀ {ks : List Key} {ds : List D} {xs : List V}, Rs K H M ds xs → ∀ {d : D}, valD ks ds k = some d → ∃ v, valV (ks.zip xs) k = some v ∧ Rv K H M d v
  | [], ds, xs, r, d, e => by cases e
  | j :: ks, [], xs, r, d, e => by
    have : valD (j :: ks) [] k = none := rfl
    rw [this] at e; cases e
  | j :: ks, d0 :: ds, _, ⟨v, rr, rfl, h, q⟩, d, e => by
    by_cases hj : j = k
    · have e1 : valD (j :: ks) (d0 :: ds) k = some d0 := by
        unfold valD
        rw [List.zip_cons_cons, List.find?_cons]
        simp [hj]
      rw [e1] at e; cases e
      exact ⟨v, by rw [List.zip_cons_cons]; exact valV_pos hj, h⟩
    · have e1 : valD (j :: ks) (d0 :: ds) k = valD ks ds k := by
        unfold valD
        rw [List.zip_cons_cons, List.find?_cons]
        simp [hj]
      rw [e1] at e
      obtain ⟨w, h1, h2⟩ := zip_val k q e
      exact ⟨w, by rw [List.zip_cons_cons, valV_neg hj]; exact h1, h2⟩
theorem zip_none {K : Fg} {H : Hp} {M : Mem} (k : Key) : ∀ {ks : List Key} {ds : List D} {xs : List V}, Rs K H M ds xs → (valV (ks.zip xs) k).isSome = (valD ks ds k).isSome
  | [], ds, xs, r => rfl
  | j :: ks, [], xs, r => by
    have e : xs = [] := r
    subst e; rfl
  | j :: ks, d0 :: ds, _, ⟨v, rr, rfl, h, q⟩ => by
    by_cases hj : j = k
    · have e1 : valD (j :: ks) (d0 :: ds) k = some d0 := by
        unfold valD
        rw [List.zip_cons_cons, List.find?_cons]
        simp [hj]
      rw [e1, List.zip_cons_cons, valV_pos hj]; rfl
    · have e1 : valD (j :: ks) (d0 :: ds) k = valD ks ds k := by
        unfold valD
        rw [List.zip_cons_cons, List.find?_cons]
        simp [hj]
      rw [e1, List.zip_cons_cons, valV_neg hj]
      exact zip_none k q
theorem key_of_d {K : Fg} {H : Hp} {M : Mem} {d : D} {k : Key} {v : V} (r : Rv K H M d v) (e : keyD d = some k) : v = kV k := by
  cases d with
  | int i => have e' : some (Sum.inl i) = some k := e; cases e'; exact r
  | str x => have e' : some (Sum.inr x) = some k := e; cases e'; exact r
  | _ => cases e
theorem ix_dict (hu : X.A.units + 1 < cLine) : IxR X (fun x y H Q => ∃ a v, x = .ref a ∧ DGet H a y (some v) ∧ Q v H) := by
  intro value slice pins s σ H x y v u Q I rx ry h hs
  obtain ⟨p, w, rfl, g, q⟩ := h
  cases rx
  exact tail_any (dict_typeIs I g) PySem.F.slot_dict_getitem.lookup (d_getItem hu I g ry fun w' s3 I3 rw' => ⟨w, H, I3, rw', q⟩) hs
def ixO (M : Mem) (x y : D) : Option D := match vw M x with
  | .tup ds => match y with
    | .int i => atI ds i
    | _ => none
  | .lst ds => match y with
    | .int i => atI ds i
    | _ => none
  | .fzn ds => match y with
    | .int i => atI ds i
    | _ => none
  | .dct ks ds => match keyD y with
    | some k => valD ks ds k
    | none => none
  | .str z => match y with
    | .int i => if z.length ≤ sizeLine then (atI z.cps.toList i).map fun c => .str ⟨#[c]⟩ else none
    | _ => none
  | _ => none
def ixD : O2 := fun x y M Q => match ixO M x y with
  | some d => Q d M
  | none => False
theorem atI_rs {K : Fg} {H : Hp} {M : Mem} {ds : List D} {xs : List V} {i : Int} {d : D} (r : Rs K H M ds xs) (e : atI ds i = some d) : ∃ v, atI xs i = some v ∧ Rv K H M d v := by
  unfold atI at e ⊢
  rw [← Rs.len r]
  cases q : ixN ds.length i with
  | none => rw [q] at e; cases e
  | some j =>
    rw [q] at e
    exact Rs.get r e
theorem de_ix (hu : X.A.units + 1 < cLine) (ha : DE X E a ta) (hb : DE X E b tb) (hs : PlainIx b) : DE X E (.Subscript a b pos) (dOp ixD ta tb) :=
  ⟨PE.imp (pe_ix (ix_seq.or (ix_dict hu)) ha.ok hb.ok hs) fun σ H Q z => lift2 (fun {x y H Q M dx dy Qd} mo r1 r2 t q => by
    unfold ixD at t
    split at t
    · rename_i d hd
      unfold ixO at hd
      split at hd
      · rename_i ds h
        split at hd
        · rename_i i
          obtain ⟨p, xs, rfl, hp, sp⟩ := vw_tup r1 h
          obtain ⟨v, hv, rv⟩ := atI_rs sp hd
          exact .inl (.inr (.inl ⟨p, xs, i, v, rfl, r2, hp.sq, hv, q _ _ ⟨d, M, Gw.refl, mo, rv, t⟩⟩))
        · cases hd
      · rename_i ds h
        split at hd
        · rename_i i
          obtain ⟨p, xs, rfl, hp, sp⟩ := vw_lst mo r1 h
          obtain ⟨v, hv, rv⟩ := atI_rs sp hd
          exact .inl (.inl ⟨p, xs, i, v, rfl, r2, SqL.of hp, hv, q _ _ ⟨d, M, Gw.refl, mo, rv, t⟩⟩)
        · cases hd
      · rename_i ds h
        split at hd
        · rename_i i
          obtain ⟨p, xs, rfl, hp, sp⟩ := vw_fzn r1 h
          obtain ⟨v, hv, rv⟩ := atI_rs sp hd
          exact .inl (.inl ⟨p, xs, i, v, rfl, r2, hp.sq, hv, q _ _ ⟨d, M, Gw.refl, mo, rv, t⟩⟩)
        · cases hd
      · rename_i ks ds h
        split at hd
        · rename_i k hk
          obtain ⟨p, xs, rfl, hp, hl, sp⟩ := vw_dct mo r1 h
          obtain ⟨v, hv, rv⟩ := zip_val k sp hd
          refine .inr ⟨p, v, rfl, ?_, q _ _ ⟨d, M, Gw.refl, mo, rv, t⟩⟩
          rw [key_of_d r2 hk, ← hv]
          exact DGet.k hp
        · cases hd
      · rename_i z h
        split at hd
        · rename_i i
          split at hd
          · rename_i hz
            cases hc : atI z.cps.toList i with
            | none => rw [hc] at hd; cases hd
            | some c =>
              rw [hc] at hd
              cases hd
              exact .inl (.inr (.inr ⟨z, i, c, vw_str r1 h, r2, hz, hc, q _ _ ⟨.str ⟨#[c]⟩, M, Gw.refl, mo, rfl, t⟩⟩))
          · cases hd
        · cases hd
      · cases hd
    · exact t.elim) z⟩
end
end DL
set_option maxHeartbeats 1000000
namespace DL
open PySem PySem.Spec PyProof.Rows L2
/-! ### defs -/
structure RoomG (k : Nat) (A : Around) : Prop where
  r : Room k A
  g : A.guards = some []
theorem RoomG.mono {j k : Nat} {A : Around} (h : RoomG k A) (le : j ≤ k) : RoomG j A := ⟨h.r.mono le, h.g⟩
theorem RoomG.deeper {k : Nat} {A : Around} (h : RoomG (k + 1) A) (env : Env) : RoomG k (A.deeper env) := ⟨h.r.deeper env, h.g⟩
abbrev SpD := List D → Mem → QD → XD → Prop
structure DFn (P : Program) (w : World) (K : Fg) (mg : Str → Option Value) (base : Heap) (k : Nat) (f : Addr) (fd : FuncData) (ps : List Str) (sp : SpD) : Prop where
  run : ∀ (A : Around) (outer : List Env) (s : Shared) (H : Hp) (M : Mem) (args : Args) (us : List Value) (vs : List V) (ds : List D) (Qd : QD) (Xd : XD) (Q : VK) (E : XK), RoomG k A → Env0 P w K mg base A outer s H → ds.length = ps.length → BindsTo s fd args (ps.zip us) → Vals vs us → MOk K H M → Rs K H M ds vs →
    sp ds M Qd Xd → (∀ v H', upE K H M Qd v H' → Q v H') → XTo K H M Xd E → codeAny (model P w) A (.call (.ref f) args) (CR (L2.CX P w) outer P w H s Q E) s
theorem DFn.mono {P : Program} {w : World} {K : Fg} {mg : Str → Option Value} {base : Heap} {j k : Nat} {f : Addr} {fd : FuncData} {ps : List Str} {sp : SpD} (F : DFn P w K mg base j f fd ps sp) (h : j ≤ k) : DFn P w K mg base k f fd ps sp :=
  ⟨fun A outer s H M args us vs ds Qd Xd Q E hr => F.run A outer s H M args us vs ds Qd Xd Q E (hr.mono h)⟩
theorem DFn.imp {P : Program} {w : World} {K : Fg} {mg : Str → Option Value} {base : Heap} {k : Nat} {f : Addr} {fd : FuncData} {ps : List Str} {sp sp' : SpD} (F : DFn P w K mg base k f fd ps sp) (h : ∀ ds M Q Xd, sp' ds M Q Xd → sp ds M Q Xd) : DFn P w K mg base k f fd ps sp' :=
  ⟨fun A outer s H M args us vs ds Qd Xd Q E hr e0 hl hb hv mo rs t => F.run A outer s H M args us vs ds Qd Xd Q E hr e0 hl hb hv mo rs (h _ _ _ _ t)⟩
/-- the result may be read as other data, of less that is owned -/
structure Le (M M2 : Mem) (d d2 : D) : Prop where
  sub : ∀ a o, M2 a = some o → M a = some o
  nn : ∀ a, M a = none → M2 a = none
  rv : ∀ (K : Fg) (H : Hp) (v : V), MOk K H M → Rv K H M d v → Rv K H M2 d2 v
def Lo (Q : QD) : QD := fun d M => ∃ d2 M2, Le M M2 d d2 ∧ Q d2 M2
theorem Le.refl {M : Mem} {d : D} : Le M M d d := ⟨fun _ _ h => h, fun _ h => h, fun _ _ _ _ h => h⟩
theorem lo_same {Q : QD} {d : D} {M : Mem} (h : Q d M) : Lo Q d M := ⟨d, M, .refl, h⟩
/-- drop what is owned at a -/
theorem lo_drop {Q : QD} {d : D} {M : Mem} (a : Addr) (h : Lo Q d (M.del a)) : Lo Q d M := by
  obtain ⟨d2, M2, l, q⟩ := h
  have hs : ∀ b o, (M.del a) b = some o → M b = some o := fun b o e => by
    by_cases z : b = a
    · subst z; rw [Mem.del_same] at e; cases e
    · rw [Mem.del_ne z] at e; exact e
  have hn : ∀ b, M b = none → (M.del a) b = none := fun b e => by
    by_cases z : b = a
    · subst z; exact Mem.del_same
    · rw [Mem.del_ne z]; exact e
  exact ⟨d2, M2, ⟨fun b o e => hs b o (l.sub b o e), fun b e => l.nn b (hn b e), fun K H v mo r => l.rv K H v (mok_less hs hn mo) (Rv.grow (gw_less hn) d v r)⟩, q⟩
theorem Le.up {K : Fg} {H H' : Hp} {M M1 M2 : Mem} {d d2 : D} {v : V} {Q : QD} (l : Le M1 M2 d d2) (g : Gw H M H' M1) (m : MOk K H' M1) (r : Rv K H' M1 d v) (q : Q d2 M2) : upE K H M Q v H' :=
  ⟨d2, M2, g.trans (gw_less l.nn), mok_less l.sub l.nn m, l.rv K H' v m r, q⟩
/-- the names' values at the entry, as data -/
def startD (N : List Str) (ds : List D) : SD := ds.map some ++ List.replicate (N.length - ds.length) none
theorem start_ok {K : Fg} {H : Hp} {M : Mem} {N : List Str} {ds : List D} {vs : List V} (mo : MOk K H M) (r : Rs K H M ds vs) : StOk K (L2.start N vs) H (startD N ds) M := by
  have hl := Rs.len r
  refine ⟨by unfold L2.start startD; rw [List.length_append, List.length_append, List.length_map, List.length_map, List.length_replicate, List.length_replicate, hl], fun i d e => ?_, mo⟩
  unfold startD at e
  by_cases hi : i < ds.length
  · rw [List.getElem?_append_left (by simpa using hi), List.getElem?_map] at e
    cases q : ds[i]? with
    | none => rw [q] at e; cases e
    | some d' =>
      rw [q] at e
      cases e
      obtain ⟨v, h1, h2⟩ := Rs.get r q
      refine ⟨v, ?_, h2⟩
      unfold L2.start
      rw [List.getElem?_append_left (by rw [List.length_map, ← hl]; exact hi), List.getElem?_map, h1]
      rfl
  · rw [List.getElem?_append_right (by simpa using hi), List.getElem?_replicate] at e
    split at e <;> cases e
/-- a def's body, read as td, keeps sp -/
def bodyD (td : TSD) (N : List Str) : SpD := fun ds M Q Xd => td { nx := fun _ M' => Lo Q .non M', rt := Lo Q, bk := fun _ _ => False, ct := fun _ _ => False, ex := Xd } (startD N ds) M
theorem dfn_of {P : Program} {w : World} {K : Fg} {mg : Str → Option Value} {base : Heap} {x qual : Str} {st : Stmt} {f : Addr} {fd : FuncData} {N ps : List Str} {k : Nat} {td : TSD} (F : Fun K x qual st f fd) (S : FnScope N ps (defScope st))
    (hbody : ∀ (cdv : Value) (A : Around) (outer : List Env) (s : Shared) (H : Hp) (E : XK), RoomG k (A.deeper (envOfC qual (defScope st) s.heap.objs.size f cdv)) →
      DSs (cxOf (L2.CX P w) P w K mg base N qual (defScope st) f cdv A outer s H E) E (defBody st) td) : DFn P w K mg base (k + 1) f fd ps (bodyD td N) := by
  obtain ⟨oc, od, kV, doc, pm, an, cdv, ct, osl, rfl, lk, hcd⟩ := F.ex
  refine ⟨fun A outer s H M args us vs ds Qd Xd Q E hr e0 hlen hb r mo rs hsp hq hx => ?_⟩
  have hl : vs.length = ps.length := (vlen rs).trans hlen
  have KX : K.In s.heap := e0.mod.kin.keeps fun b o e => (e0.bs b o e).1
  have lim : s.heap.NoLimit := e0.mod.nolimit.keeps fun b o e => (e0.bs b o e).1
  have hkind : ∀ y ∈ ps.zip us, (defScope st).names.lookup y.1 = some .local ∨ ((defScope st).names.lookup y.1 = some .cell ∧ ((cellsFrom (s.heap.objs.size + 1) (defScope st).names []).lookup y.1).isSome = true) := fun ⟨n, v⟩ hy => by
    rcases S.par n (List.of_mem_zip hy).1 with q | q
    · exact .inl q
    · exact .inr ⟨q, PySem.W.cellsFrom_some _ _ _ (.inl q)⟩
  refine codeAny_call_function hr.r.depth (KX _ _ lk) rfl S.co S.gen rfl (PySem.W.codeRec_of KX hcd) (hb _ _ _ _ ?_)
  refine wpAny_newFunctionEnv_cells S.kind hkind fun env he s1 x => ?_
  subst he
  refine ⟨lim.keeps x.toInCall.keep, codeAny_func ?_⟩
  have ht := hbody cdv A outer s H E (hr.deeper _)
  have I : Inv (cxOf (L2.CX P w) P w K mg base N qual (defScope st) f cdv A outer s H E) [] (L2.start N vs) H s1 := inv_start S hr.r.hd e0 hl r x
  refine wpAny_mono (ht.ok.run [] s1 (L2.start N vs) H { nx := fun _ H' => Q .non H', rt := Q } I ?_) (fun fl s' hs => ?_) fun e s' hs => hs
  · refine ⟨startD N ds, M, { nx := fun _ M' => Lo Qd .non M', rt := Lo Qd, bk := fun _ _ => False, ct := fun _ _ => False, ex := Xd }, start_ok mo rs, hx, hsp, fun σ' H' ⟨s', M', g, S', q⟩ => ?_, fun v H' ⟨d, M', g, m, rd, q⟩ => ?_, fun σ' H' ⟨s', M', g, S', q⟩ => q.elim, fun σ' H' ⟨s', M', g, S', q⟩ => q.elim⟩
    · obtain ⟨d2, M2, l, q⟩ := q
      exact hq _ _ (l.up g S'.mem rfl q)
    · obtain ⟨d2, M2, l, q⟩ := q
      exact hq _ _ (l.up g m rd q)
  have fin : ∀ {σ' : L2.St} {H' : Hp} {v : V} {u : Value}, Inv (cxOf (L2.CX P w) P w K mg base N qual (defScope st) f cdv A outer s H E) [] σ' H' s' → RelV v u → Q v H' → CE outer P w H s Q u s' :=
    fun {σ' H' v u} J rv q => ⟨v, H', J.os, J.bare, J.base, J.hok, rv, q⟩
  cases fl with
  | ret u =>
    obtain ⟨v, σ', H', J, rv, q⟩ := hs
    exact fin J rv q
  | next =>
    obtain ⟨σ', H', J, q⟩ := hs
    exact fin (v := V.non) (u := Value.none) J rfl q
  | brk =>
    obtain ⟨_, _, _, q⟩ := hs
    exact False.elim q
  | cont =>
    obtain ⟨_, _, _, q⟩ := hs
    exact False.elim q
section
variable {X : Cx} {E : XK} {n k : Nat} {f : Addr} {fd : FuncData} {ps : List Str} {sp : SpD} {ds0 : List Value} {dvs : List V} {dd : List D} {x : Str} {p pos : Pos} {e a b c : Expr} {es : List Expr} {ts : TAD} {te ta tb : TED}
theorem run_fnD {pins : List (Addr × Obj)} {σ : L2.St} {H : Hp} {M : Mem} {s : Shared} {Q : VK} {Qd : QD} {Xd : XD} {us : List Value} {vs : List V} {ds : List D} (F : DFn X.prog X.w X.K X.mg X.base k f fd ps sp) (hr : RoomG k X.A) (hb : Binds X.K fd ps ds0) (hd : Vals dvs ds0) (hx : Passes (L2.CX X.prog X.w) X E)
    (I : Inv X pins σ H s) (r : Vals vs us) (mo : MOk X.K H M) (rs : Rs X.K H M ds vs) (rd : Rs X.K H M dd dvs) (hlen : (ds ++ dd).length = ps.length) (h : sp (ds ++ dd) M Qd Xd) (q : ∀ v H', upE X.K H M Qd v H' → Q v H') (xt : XTo X.K H M Xd E) :
    wpAny (model X.prog X.w) X.A (call (.ref f) us) (EP X pins σ Q) X.xe s := by
  have r2 : Vals (vs ++ dvs) (us ++ ds0) := r.append hd
  have hl : (us ++ ds0).length = ps.length := by rw [← r2.length, ← hlen]; exact vlen (Rs.append rs rd)
  refine wpAny_call (codeAny_mono (F.run X.A X.stack s H M ⟨us, []⟩ (us ++ ds0) (vs ++ dvs) (ds ++ dd) Qd Xd Q E hr I.env0 hlen (hb s us I.kIn hl) r2 mo (Rs.append rs rd) h q xt) fun r s' hq => ?_)
  cases r with
  | error e => exact hx pins σ H s e s' I hq
  | ok fl =>
    cases fl with
    | ret u => exact I.after hq
    | next => exact False.elim hq
    | brk => exact False.elim hq
    | cont => exact False.elim hq
def dCall (sp : SpD) (dd : List D) (t : TAD) : TED := fun Xd s M Q => t Xd s M fun ds M1 => sp (ds ++ dd) M1 Q Xd
theorem de_call (F : DFn X.prog X.w X.K X.mg X.base k f fd ps sp) (hr : RoomG k X.A) (hg : Gl X x) (hm : X.mg x = some (.ref f)) (hk : PySem.W.keepIn X.K (.ref f) = true) (hb : Binds X.K fd ps ds0) (hd : Vals dvs ds0) (rd : ∀ H M, Rs X.K H M dd dvs) (hx : Passes (L2.CX X.prog X.w) X E)
    (ha : DN X E n (e :: es) ts) (hn : n + dvs.length = ps.length := by rfl) (hdb : (x == ("__debug__" : Str)) = false := by decide) (he : starEach (e :: es) X.env = (false, eval e X.env) :: starEach es X.env := by rfl) (hpl : (backTo pos (starEach es X.env)).any (·.1) = false := by rfl) :
    DE X E (.Call (.Name x p) (e :: es) [] pos) (dCall sp dd ts) := by
  refine ⟨⟨fun pins s σ H Q I ⟨sd, M, Qd, Xd, S, xt, t, q⟩ => ?_⟩⟩
  refine wpAny_Call_Name_kw (ld_glob I hg hm ?_ hdb)
  refine PySem.W.callWith_K (h₀ := X.base) I.ok.mod.kin hk (thn (ha.ok.run pos pins s σ H _ I (useN (n := n) (Q := fun vs H1 => vs.length = n ∧ ∃ ds M1, Gw H M H1 M1 ∧ StOk X.K σ H1 sd M1 ∧ XTo X.K H1 M1 Xd E ∧ Rs X.K H1 M1 ds vs ∧ sp (ds ++ dd) M1 Qd Xd) S xt t
    fun ds vs M1 H1 hl g1 S1 x1 r1 t1 => ⟨hl, ds, M1, g1, S1, x1, r1, t1⟩)) fun us s1 ⟨vs, H1, I1, r, hl, ds, M1, g1, S1, x1, r1, t1⟩ => ⟨I1.kIn, ?_⟩) he hpl
  refine run_fnD F hr hb hd hx I1 r S1.mem r1 (rd H1 M1) ?_ t1 (fwd g1 q) x1
  have h1 : ds.length = n := by rw [Rs.len r1, hl]
  have h2 : dd.length = dvs.length := Rs.len (rd H1 M1)
  rw [List.length_append, h1, h2]
  exact hn
/-! ### statements -/
theorem fwdE {K : Fg} {H H1 : Hp} {M M1 : Mem} {Y : EndsD} {Z : Ends} (g : Gw H M H1 M1)
    (h : (∀ σ' H', upS K H M Y.nx σ' H' → Z.nx σ' H') ∧ (∀ v H', upE K H M Y.rt v H' → Z.rt v H') ∧ (∀ σ' H', upS K H M Y.bk σ' H' → Z.bk σ' H') ∧ (∀ σ' H', upS K H M Y.ct σ' H' → Z.ct σ' H')) :
    (∀ σ' H', upS K H1 M1 Y.nx σ' H' → Z.nx σ' H') ∧ (∀ v H', upE K H1 M1 Y.rt v H' → Z.rt v H') ∧ (∀ σ' H', upS K H1 M1 Y.bk σ' H' → Z.bk σ' H') ∧ (∀ σ' H', upS K H1 M1 Y.ct σ' H' → Z.ct σ' H') :=
  ⟨fwdS g h.1, fwd g h.2.1, fwdS g h.2.2.1, fwdS g h.2.2.2⟩
theorem upS_here {K : Fg} {σ : L2.St} {H : Hp} {M : Mem} {s : SD} {Q : SD → Mem → Prop} (S : StOk K σ H s M) (q : Q s M) : upS K H M Q σ H := ⟨s, M, Gw.refl, S, q⟩
variable {st : Stmt} {rest body orelse : List Stmt} {t u : TSD}
def sNx : TSD := fun Y s M => Y.nx s M
def sSeq (t u : TSD) : TSD := fun Y s M => t { Y with nx := u Y } s M
theorem dss_nil : DSs X E [] sNx := ⟨PSs.imp pss_nil fun Z σ H ⟨s, M, Y, S, x, t, h⟩ => h.1 _ _ (upS_here S t)⟩
theorem dss_cons (h1 : DS X E st t) (h2 : DSs X E rest u) : DSs X E (st :: rest) (sSeq t u) :=
  ⟨PSs.imp (pss_cons h1.ok h2.ok) fun Z σ H ⟨s, M, Y, S, x, z, h⟩ => by
    refine ⟨s, M, { Y with nx := u Y }, S, x, z, fun σ' H' ⟨s', M', g, S', z'⟩ => ?_, h.2.1, h.2.2.1, h.2.2.2⟩
    exact ⟨s', M', Y, S', x.grow g, z', fwdE g h⟩⟩
theorem dss_one (h1 : DS X E st t) : DSs X E [st] t := ⟨pss_one h1.ok⟩
def sBk : TSD := fun Y s M => Y.bk s M
def sCt : TSD := fun Y s M => Y.ct s M
def sExpr (te : TED) : TSD := fun Y s M => te Y.ex s M fun _ M1 => Y.nx s M1
theorem ds_expr (he : DE X E e te) (hs : swapsWith e none pos.line X.env = pure false := by rfl) : DS X E (.Expr e pos) (sExpr te) :=
  ⟨PS.imp (ps_expr he.ok hs) fun Z σ H ⟨s, M, Y, S, x, t, h⟩ => useE S x t fun d v M1 H1 g1 S1 x1 r1 t1 => h.1 _ _ ⟨s, M1, g1, S1, t1⟩⟩
def sRet (te : TED) : TSD := fun Y s M => te Y.ex s M Y.rt
theorem ds_ret (he : DE X E e te) : DS X E (.Return (some e) pos) (sRet te) :=
  ⟨PS.imp (ps_ret he.ok) fun Z σ H ⟨s, M, Y, S, x, t, h⟩ => useE S x t fun d v M1 H1 g1 S1 x1 r1 t1 => h.2.1 _ _ ⟨d, M1, g1, S1.mem, r1, t1⟩⟩
def sRetN : TSD := fun Y s M => Y.rt .non M
def sIf (c : TTD) (t u : TSD) : TSD := fun Y s M => c Y.ex s M fun b M1 => if b = true then t Y s M1 else u Y s M1
theorem ds_if {tc : TTD} (hc : DT X E c tc) (ha : DSs X E body t) (hb : DSs X E orelse u) : DS X E (.If c body orelse pos) (sIf tc t u) :=
  ⟨PS.imp (ps_if hc.ok ha.ok hb.ok) fun Z σ H ⟨s, M, Y, S, x, z, h⟩ => useT S x z fun k M1 H1 g1 S1 x1 t1 => by
    cases k with
    | true => exact ⟨s, M1, Y, S1, x1, t1, fwdE g1 h⟩
    | false => exact ⟨s, M1, Y, S1, x1, t1, fwdE g1 h⟩⟩
/-! ### targets -/
abbrev TGD := D → XD → SD → Mem → (SD → Mem → Prop) → Prop
abbrev TGsD := List D → XD → SD → Mem → (SD → Mem → Prop) → Prop
structure DG (X : Cx) (E : XK) (target : Expr) (t : TGD) : Prop where
  ok : ∃ g, PG X target g ∧ ∀ {v : V} {d : D} {σ : L2.St} {H : Hp} {s : SD} {M : Mem} {Xd : XD} {Qd : SD → Mem → Prop} {Q : L2.St → Hp → Prop}, StOk X.K σ H s M → XTo X.K H M Xd E → Rv X.K H M d v → t d Xd s M Qd →
    (∀ σ' H', upS X.K H M Qd σ' H' → Q σ' H') → g v σ H Q
structure DGs (X : Cx) (E : XK) (targets : List Expr) (n : Nat) (t : TGsD) : Prop where
  ok : ∃ g, PGs X targets g ∧ ∀ {vs : List V} {ds : List D} {σ : L2.St} {H : Hp} {s : SD} {M : Mem} {Xd : XD} {Qd : SD → Mem → Prop} {Q : L2.St → Hp → Prop}, StOk X.K σ H s M → XTo X.K H M Xd E → Rs X.K H M ds vs → t ds Xd s M Qd →
    (∀ σ' H', upS X.K H M Qd σ' H' → Q σ' H') → g vs σ H Q
def gNm (i : Nat) : TGD := fun d _ s M Q => Q (s.set i (some d)) M
theorem dg_name {i : Nat} {x : Str} (hN : X.N.Nodup) (hi : X.N[i]? = some x) (hx : Loc X.env.scope x) (hf : X.fn x = true ∨ X.env.scope.names.lookup x = some .local := by first | exact .inl rfl | exact .inr rfl | assumption) : DG X E (.Name x pos) (gNm i) :=
  ⟨gName i, pg_name hN hi hx hf, fun S x r t q => q _ _ ⟨_, _, Gw.refl, S.set i r, t⟩⟩
def gNi : TGsD := fun ds _ s M Q => match ds with
  | [] => Q s M
  | _ => False
def gCo (t : TGD) (u : TGsD) : TGsD := fun ds Xd s M Q => match ds with
  | [] => False
  | d :: r => t d Xd s M fun s' M' => u r Xd s' M' Q
theorem dgs_nil : DGs X E [] 0 gNi := ⟨gNil, pgs_nil, fun {vs ds σ H s M Xd Qd Q} S x r t q => by
  cases ds with
  | nil => exact ⟨r, q _ _ (upS_here S t)⟩
  | cons d ds => exact t.elim⟩
theorem dgs_cons {t : TGD} {u : TGsD} (h1 : DG X E e t) (h2 : DGs X E es n u) (hs : (assignEach (e :: es) X.env).map (·.2) = assign e X.env :: (assignEach es X.env).map (·.2) := by rfl) : DGs X E (e :: es) (n + 1) (gCo t u) := by
  obtain ⟨g1, p1, q1⟩ := h1.ok
  obtain ⟨g2, p2, q2⟩ := h2.ok
  refine ⟨gCons g1 g2, pgs_cons p1 p2 hs, fun {vs ds σ H s M Xd Qd Q} S x r t q => ?_⟩
  cases ds with
  | nil => exact t.elim
  | cons d ds =>
    obtain ⟨v, vr, rfl, rd, rr⟩ := r
    refine ⟨v, vr, rfl, q1 S x rd t fun σ' H' ⟨s', M', g, S', z⟩ => ?_⟩
    exact q2 S' (x.grow g) (Rs.grow g _ _ rr) z (fwdS g q)
def gTp (n : Nat) (t : TGsD) : TGD := fun d Xd s M Q => match vw M d with
  | .tup ds => ds.length = n ∧ t ds Xd s M Q
  | _ => False
theorem dg_tup {k : Nat} {t : TGsD} (hc : X.calm = true) (h : DGs X E es n t) (hn : (assignEach es X.env).length = n := by rfl) (hst : (assignEach es X.env).findIdx? (·.1) = none := by rfl) : DG X E (.Tuple es k pos) (gTp n t) := by
  obtain ⟨g1, p1, q1⟩ := h.ok
  refine ⟨gTup X.K n g1, pg_tup hc p1 hn hst, fun {v d σ H s M Xd Qd Q} S x r t q => ?_⟩
  unfold gTp at t
  split at t
  · rename_i ds hd
    obtain ⟨a, xs, rfl, ha, sa⟩ := vw_tup r hd
    exact ⟨a, xs, rfl, ha.sq, by rw [vlen sa]; exact t.1, q1 S x sa t.2 q⟩
  · exact t.elim
def sAsg (te : TED) (g : TGD) : TSD := fun Y s M => te Y.ex s M fun d M1 => g d Y.ex s M1 Y.nx
theorem ds_asg {tg : Expr} {g : TGD} (he : DE X E e te) (hg : DG X E tg g) (hs : swapsWithSole [tg] e pos.line X.env = pure false := by rfl) (hw : swappedStores [tg] e X.env = pure none := by rfl)
    (h1 : (assignEach [tg] X.env).map (·.2) = [assign tg X.env] := by rfl) : DS X E (.Assign [tg] e pos) (sAsg te g) := by
  obtain ⟨g1, p1, q1⟩ := hg.ok
  exact ⟨PS.imp (ps_asg he.ok p1 hs hw h1) fun Z σ H ⟨s, M, Y, S, x, t, h⟩ => useE S x t fun d v M1 H1 gr S1 x1 r1 t1 => q1 S1 x1 r1 t1 (fwdS gr h.1)⟩
def sSet (i : Nat) (te : TED) : TSD := fun Y s M => te Y.ex s M fun d M1 => Y.nx (s.set i (some d)) M1
theorem ds_set {i : Nat} {x : Str} {pos' : Pos} (hN : X.N.Nodup) (hi : X.N[i]? = some x) (hx : Loc X.env.scope x) (he : DE X E e te) (hs : swapsWith e (some (.Name x pos')) pos.line X.env = pure false := by rfl) (hf : X.fn x = true ∨ X.env.scope.names.lookup x = some .local := by first | exact .inl rfl | exact .inr rfl | assumption) :
    DS X E (.Assign [.Name x pos'] e pos) (sSet i te) :=
  ⟨PS.imp (ps_set hN hi hx he.ok hs hf) fun Z σ H ⟨s, M, Y, S, x, t, h⟩ => useE S x t fun d v M1 H1 g1 S1 x1 r1 t1 => h.1 _ _ ⟨_, M1, g1, S1.set i r1, t1⟩⟩
/-- a, b = x, y -/
def sPar (i j : Nat) (ta : TAD) : TSD := fun Y s M => ta Y.ex s M fun ds M1 => match ds with
  | [d, e] => Y.nx ((s.set i (some d)).set j (some e)) M1
  | _ => False
/-! ### loops -/
/-- a walk gives the items ds, one by one, while what is watched stands -/
structure ItOk (K : Fg) (J : It) (H0 : Hp) (M0 : Mem) (ow : Option Addr) (ds : List D) : Prop where
  go : ∀ i H M, Gw H0 M0 H M → MOk K H M → (∀ a, ow = some a → M a = M0 a) → i < ds.length → J.go i H ∧ ∀ x H', J.yld i H x H' → ∃ d, ds[i]? = some d ∧ Gw H M H' M ∧ MOk K H' M ∧ Rv K H' M d x
  stop : ∀ H M, Gw H0 M0 H M → MOk K H M → (∀ a, ow = some a → M a = M0 a) → J.stop ds.length H
abbrev TID := XD → SD → Mem → (List D → Option Addr → Mem → Prop) → Prop
structure DI (X : Cx) (E : XK) (tg iter : Expr) (ti : TID) : Prop where
  ok : ∃ wi, PI X tg iter wi ∧ ∀ {σ : L2.St} {H : Hp} {s : SD} {M : Mem} {Xd : XD} {Qd : List D → Option Addr → Mem → Prop} {R : It → Hp → Prop}, StOk X.K σ H s M → XTo X.K H M Xd E → ti Xd s M Qd →
    (∀ J H' M' ow ds, Gw H M H' M' → MOk X.K H' M' → ItOk X.K J H' M' ow ds → Qd ds ow M' → R J H') → wi σ H R
def wat (ow : Option Addr) (M0 M : Mem) : Prop := match ow with
  | some a => M a = M0 a
  | none => True
theorem wat_of {ow : Option Addr} {M0 M : Mem} (h : wat ow M0 M) : ∀ a, ow = some a → M a = M0 a := fun a e => by subst e; exact h
def sForL (g : TGD) (tb : TSD) (Y : EndsD) (W : Mem → Prop) : List D → SD → Mem → Prop
  | [], s, M => W M ∧ Y.nx s M
  | d :: ds, s, M => W M ∧ g d Y.ex s M fun s' M' => tb { Y with nx := sForL g tb Y W ds, ct := sForL g tb Y W ds, bk := Y.nx } s' M'
def sFor (ti : TID) (g : TGD) (tb : TSD) : TSD := fun Y s M => ti Y.ex s M fun ds ow M1 => sForL g tb Y (wat ow M1) ds s M1
theorem ds_for {iter tg : Expr} {ti : TID} {g : TGD} {tb : TSD} (hp : PassesOwn (model X.prog X.w) X.A X.env X.xe) (hc : X.calm = true) (hi : DI X E tg iter ti) (hg : DG X E tg g) (hb : DSs X E body tb)
    (hs : ∀ x, foldedSetIterable iter X.env x = pure x := by intro _; rfl) : DS X E (.For tg iter body [] pos) (sFor ti g tb) := by
  obtain ⟨wi, pi, qi⟩ := hi.ok
  obtain ⟨g1, p1, q1⟩ := hg.ok
  refine ⟨PS.imp (ps_for hp hc pi p1 hb.ok hs) fun Z σ H ⟨s, M, Y, S, x, t, h⟩ => ?_⟩
  refine qi S x t fun J H1 M1 ow ds gr mo io td => ?_
  refine ⟨fun i m σ' H' => m = ds.length - i ∧ i ≤ ds.length ∧ ∃ s' M', Gw H1 M1 H' M' ∧ StOk X.K σ' H' s' M' ∧ sForL g tb Y (wat ow M1) (ds.drop i) s' M', ⟨ds.length, rfl, Nat.zero_le _, s, M1, Gw.refl, S.grow gr mo, td⟩, fun i m σ' H' hW => ?_⟩
  obtain ⟨em, hi', s', M', g', S', td'⟩ := hW
  by_cases hlt : i < ds.length
  · rw [List.drop_eq_getElem_cons hlt] at td'
    obtain ⟨hw, td'⟩ := td'
    obtain ⟨hgo, hy⟩ := io.go i H' M' g' S'.mem (wat_of hw) hlt
    refine .inr ⟨hgo, fun σ2 H2 => ∃ s2 M2, Gw H1 M1 H2 M2 ∧ StOk X.K σ2 H2 s2 M2 ∧ sForL g tb Y (wat ow M1) (ds.drop (i + 1)) s2 M2, fun σ2 H2 ⟨s2, M2, a1, a2, a3⟩ => ⟨ds.length - (i + 1), by omega, rfl, by omega, s2, M2, a1, a2, a3⟩, fun v H2 hyl => ?_⟩
    obtain ⟨d, hd, g2, m2, r2⟩ := hy v H2 hyl
    have ed : d = ds[i] := by rw [List.getElem?_eq_getElem hlt] at hd; exact (Option.some.inj hd).symm
    subst ed
    refine q1 (S'.grow g2 m2) (((x.grow gr).grow g').grow g2) r2 td' fun σ3 H3 ⟨s3, M3, g3, S3, z3⟩ => ?_
    have gg : Gw H1 M1 H3 M3 := (g'.trans g2).trans g3
    refine ⟨s3, M3, { Y with nx := sForL g tb Y (wat ow M1) (ds.drop (i + 1)), ct := sForL g tb Y (wat ow M1) (ds.drop (i + 1)), bk := Y.nx }, S3, ((x.grow gr).grow gg), z3, fun σ4 H4 ⟨s4, M4, g4, S4, z4⟩ => ⟨s4, M4, gg.trans g4, S4, z4⟩, fwd (gr.trans gg) h.2.1, fwdS (gr.trans gg) h.1, fun σ4 H4 ⟨s4, M4, g4, S4, z4⟩ => ⟨s4, M4, gg.trans g4, S4, z4⟩⟩
  · have e : i = ds.length := by omega
    subst e
    rw [List.drop_length] at td'
    obtain ⟨hw, td'⟩ := td'
    exact .inl ⟨io.stop H' M' g' S'.mem (wat_of hw), h.1 _ _ ⟨s', M', gr.trans g', S', td'⟩⟩
def sWhN (tc : TTD) (tb : TSD) (Y : EndsD) : Nat → SD → Mem → Prop
  | 0, _, _ => False
  | m + 1, s, M => tc Y.ex s M fun b M1 => if b = true then tb { Y with nx := sWhN tc tb Y m, ct := sWhN tc tb Y m, bk := Y.nx } s M1 else Y.nx s M1
def sWhile (tc : TTD) (tb : TSD) : TSD := fun Y s M => ∃ m, sWhN tc tb Y m s M
theorem ds_while {tc : TTD} {tb : TSD} (hp : PassesOwn (model X.prog X.w) X.A X.env X.xe) (hc : DT X E c tc) (hb : DSs X E body tb) : DS X E (.While c body [] pos) (sWhile tc tb) := by
  refine ⟨PS.imp (ps_while hp hc.ok hb.ok) fun Z σ H ⟨s, M, Y, S, x, ⟨m, t⟩, h⟩ => ?_⟩
  refine ⟨fun m σ' H' => ∃ s' M', Gw H M H' M' ∧ StOk X.K σ' H' s' M' ∧ sWhN tc tb Y m s' M', ⟨m, s, M, Gw.refl, S, t⟩, fun m σ' H' hW => ?_⟩
  obtain ⟨s', M', g', S', t'⟩ := hW
  cases m with
  | zero => exact t'.elim
  | succ m =>
    refine useT S' (x.grow g') t' fun b M1 H1 g1 S1 x1 t1 => ?_
    cases b with
    | true =>
      rw [if_pos rfl] at t1 ⊢
      refine ⟨fun σ2 H2 => ∃ s2 M2, Gw H M H2 M2 ∧ StOk X.K σ2 H2 s2 M2 ∧ sWhN tc tb Y m s2 M2, fun σ2 H2 hh => ⟨m, Nat.lt_succ_self m, hh⟩, ?_⟩
      have gg := g'.trans g1
      exact ⟨s', M1, { Y with nx := sWhN tc tb Y m, ct := sWhN tc tb Y m, bk := Y.nx }, S1, x1, t1, fun σ4 H4 ⟨s4, M4, g4, S4, z4⟩ => ⟨s4, M4, gg.trans g4, S4, z4⟩, fwd gg h.2.1, fwdS gg h.1, fun σ4 H4 ⟨s4, M4, g4, S4, z4⟩ => ⟨s4, M4, gg.trans g4, S4, z4⟩⟩
    | false =>
      rw [if_neg Bool.false_ne_true] at t1 ⊢
      exact h.1 _ _ ⟨s', M1, g'.trans g1, S1, t1⟩
end
end DL
set_option maxHeartbeats 1000000
namespace DL
open PySem PySem.Spec PyProof.Rows L2
section
variable {X : Cx} {E : XK} {n k : Nat} {x : Str} {p pos : Pos} {e a b c tg : Expr} {es : List Expr} {ts : TAD} {te ta tb : TED}
/-! ### what is walked -/
/-- a list or a tuple -/
def iSeq (K : Fg) (tl : TE) : TI := fun σ H R => tl σ H fun x H1 => ∃ a, x = .ref a ∧ (((∃ xs, SqL K H1 a xs) ∧ R (Itl K a) H1) ∨ ((∃ xs, SqT K H1 a xs) ∧ R (Itt K a) H1))
theorem pi_seq {l : Expr} {tl : TE} (hl : PE X l tl) : PI X tg l (iSeq X.K tl) := by
  refine ⟨fun pins s σ H R I h => ?_⟩
  refine thn (hl.run pins s σ H _ I h) fun v s1 ⟨x, H1, I1, r1, q1⟩ => ?_
  obtain ⟨a, e, q1⟩ := q1
  subst e
  cases r1
  have hf : ∀ b ∈ [s1.heap.objs.size], FpOk X pins H1 b := fun b hb => by
    have e : b = s1.heap.objs.size := by simpa using hb
    subst e
    exact I1.fpOk (Nat.le_refl _) (I1.hok.fresh (Nat.le_refl _))
  rcases q1 with ⟨⟨xs, hq⟩, q⟩ | ⟨⟨xs, hq⟩, q⟩
  · obtain ⟨its, rv, p, hz⟩ := I1.list hq
    refine wpAny_pyIter_list p.isList ?_
    exact ⟨s1.heap.objs.size, [s1.heap.objs.size], _, _, H1, rfl, I1.kept (t' := s1.toks) fun b o e => Heap.get?_push_of_some _ e, turn_list a _, ⟨_, Heap.get?_push_size _ rfl, rfl, rfl⟩, hf, q⟩
  · obtain ⟨its, rv, p, hz⟩ := I1.tuple hq
    refine wpAny_pyIter_tuple (show s1.heap.IsTuple a its.toArray from p) ?_
    exact ⟨s1.heap.objs.size, [s1.heap.objs.size], _, _, H1, rfl, I1.kept (t' := s1.toks) fun b o e => Heap.get?_push_of_some _ e, turn_tuple a _, ⟨_, Heap.get?_push_size _ rfl, rfl, rfl⟩, hf, q⟩
theorem ItOk.list {K : Fg} {H0 : Hp} {M0 : Mem} {ow : Option Addr} {ds : List D} {a : Addr} (hs : ∀ H M, Gw H0 M0 H M → MOk K H M → (∀ a, ow = some a → M a = M0 a) → ∃ xs, SqL K H a xs ∧ Rs K H M ds xs) : ItOk K (Itl K a) H0 M0 ow ds := by
  refine ⟨fun i H M g mo hw hi => ?_, fun H M g mo hw => ?_⟩
  · obtain ⟨xs, h1, h2⟩ := hs H M g mo hw
    obtain ⟨v, e1, e2⟩ := Rs.get h2 (List.getElem?_eq_getElem hi)
    refine ⟨⟨xs, v, h1, e1⟩, fun y H' ⟨eH, hy⟩ => ?_⟩
    subst eH
    have e3 := hy xs h1
    rw [e1] at e3; cases e3
    exact ⟨_, List.getElem?_eq_getElem hi, Gw.refl, mo, e2⟩
  · obtain ⟨xs, h1, h2⟩ := hs H M g mo hw
    exact ⟨xs, h1, by rw [vlen h2]; exact Nat.le_refl _⟩
theorem ItOk.tup {K : Fg} {H0 : Hp} {M0 : Mem} {ow : Option Addr} {ds : List D} {a : Addr} (hs : ∀ H M, Gw H0 M0 H M → MOk K H M → (∀ a, ow = some a → M a = M0 a) → ∃ xs, SqT K H a xs ∧ Rs K H M ds xs) : ItOk K (Itt K a) H0 M0 ow ds := by
  refine ⟨fun i H M g mo hw hi => ?_, fun H M g mo hw => ?_⟩
  · obtain ⟨xs, h1, h2⟩ := hs H M g mo hw
    obtain ⟨v, e1, e2⟩ := Rs.get h2 (List.getElem?_eq_getElem hi)
    refine ⟨⟨xs, v, h1, e1⟩, fun y H' ⟨eH, hy⟩ => ?_⟩
    subst eH
    have e3 := hy xs h1
    rw [e1] at e3; cases e3
    exact ⟨_, List.getElem?_eq_getElem hi, Gw.refl, mo, e2⟩
  · obtain ⟨xs, h1, h2⟩ := hs H M g mo hw
    exact ⟨xs, h1, by rw [vlen h2]; exact Nat.le_refl _⟩
theorem ItOk.rng1 {K : Fg} {H0 : Hp} {M0 : Mem} {lo : Int} {n : Nat} : ItOk K (Itr lo n) H0 M0 none ((List.range n).map fun i => D.int (lo + (i : Nat))) := by
  have hl : ((List.range n).map fun i => D.int (lo + (i : Nat))).length = n := by rw [List.length_map, List.length_range]
  refine ⟨fun i H M g mo hw hi => ?_, fun H M g mo hw => ?_⟩
  · rw [hl] at hi
    refine ⟨hi, fun y H' ⟨eH, hy⟩ => ?_⟩
    subst eH; subst hy
    exact ⟨.int (lo + (i : Nat)), by rw [List.getElem?_map, List.getElem?_range hi]; rfl, Gw.refl, mo, rfl⟩
  · rw [hl]; exact Nat.le_refl n
/-- the items of a value, and what is to stand while they are walked -/
def itemK (R : List D → Option Addr → Mem → Prop) : QD := fun d M => match d with
  | .tup ds => R ds none M
  | .lst ds => R ds none M
  | .fzn ds => R ds none M
  | .ref a => match M a with
    | some (.lst ds) => R ds (some a) M
    | _ => False
  | _ => False
def iSeqD (te : TED) : TID := fun Xd s M R => te Xd s M (itemK R)
theorem di_seq (h : DE X E e te) : DI X E tg e (iSeqD te) := by
  refine ⟨_, pi_seq h.ok, fun {σ H s M Xd Qd R} S x t q => ?_⟩
  refine useE S x t fun d v M1 H1 g1 S1 x1 r1 t1 => ?_
  unfold itemK at t1
  split at t1
  · rename_i ds
    obtain ⟨p, xs, rfl, hp, sp⟩ := r1
    exact ⟨p, rfl, .inr ⟨⟨xs, hp.sq⟩, q _ _ _ _ _ g1 S1.mem (ItOk.tup fun H M g mo _ => ⟨xs, (g.rt hp).sq, Rs.grow g ds xs sp⟩) t1⟩⟩
  · rename_i ds
    obtain ⟨p, xs, rfl, hp, hm, sp⟩ := r1
    exact ⟨p, rfl, .inl ⟨⟨xs, SqL.of hp⟩, q _ _ _ _ _ g1 S1.mem (ItOk.list fun H M g mo _ => ⟨xs, SqL.of (g.at hp hm).1, Rs.grow g ds xs sp⟩) t1⟩⟩
  · rename_i ds
    obtain ⟨p, xs, rfl, hp, sp⟩ := r1
    exact ⟨p, rfl, .inl ⟨⟨xs, hp.sq⟩, q _ _ _ _ _ g1 S1.mem (ItOk.list fun H M g mo _ => ⟨xs, (g.rl hp).sq, Rs.grow g ds xs sp⟩) t1⟩⟩
  · rename_i p
    split at t1
    · rename_i ds hm
      have hv : v = .ref p := r1
      obtain ⟨xs, hp, sp⟩ := S1.mem p _ hm
      refine ⟨p, hv, .inl ⟨⟨xs, SqL.of hp⟩, q _ _ _ (some p) _ g1 S1.mem (ItOk.list fun H M g mo hw => ?_) t1⟩⟩
      have e := hw p rfl
      rw [hm] at e
      obtain ⟨ys, h1, h2⟩ := mo p _ e
      exact ⟨ys, SqL.of h1, h2⟩
    · exact t1.elim
  · exact t1.elim
def rngL (lo : Int) (n : Nat) : List D := (List.range n).map fun i => D.int (lo + (i : Nat))
def rngK (R : List D → Option Addr → Mem → Prop) : List D → Mem → Prop := fun ds M => match ds with
  | [.int j] => (-(2 ^ 62) ≤ j ∧ j < 2 ^ 62) ∧ R (rngL 0 j.toNat) none M
  | [.int i, .int j] => (-(2 ^ 62) ≤ i ∧ i < 2 ^ 62 ∧ -(2 ^ 62) ≤ j ∧ j < 2 ^ 62) ∧ R (rngL i (j - i).toNat) none M
  | _ => False
def iRngD (t : TAD) : TID := fun Xd s M R => t Xd s M (rngK R)
theorem di_range1 (hg : Gl X "range") (hm : X.mg "range" = none) (h : DN X E 1 [a] ts) (hs : starEach [a] X.env = [(false, eval a X.env)] := by rfl) : DI X E tg (.Call (.Name "range" p) [a] [] pos) (iRngD ts) := by
  refine ⟨_, pi_range1 hg hm h.ok hs, fun {σ H s M Xd Qd R} S x t q => ?_⟩
  refine useN S x t fun ds vs M1 H1 hl g1 S1 x1 r1 t1 => ?_
  unfold rngK at t1
  split at t1
  · rename_i j
    obtain ⟨v, rfl, rd⟩ := rs1 r1
    exact ⟨j, by rw [show v = V.int j from rd], t1.1.1, t1.1.2, q _ _ _ _ _ g1 S1.mem ItOk.rng1 t1.2⟩
  · obtain ⟨v, w, rfl, _, _⟩ := rs2 r1
    simp at hl
  · exact t1.elim
/-! ### comprehensions -/
def wipeD (s : SD) : List Nat → SD
  | [] => s
  | i :: r => (wipeD s r).set i none
theorem StOk.wipe {K : Fg} {H : Hp} {M : Mem} {σ : L2.St} {s : SD} (S : StOk K σ H s M) : ∀ vs : List Nat, StOk K (L2.wipe σ vs) H (wipeD s vs) M
  | [] => S
  | i :: r => by
    have S1 := StOk.wipe S r
    refine ⟨by show ((wipeD s r).set i none).length = ((L2.wipe σ r).set i none).length; rw [List.length_set, List.length_set]; exact S1.len, fun j d e => ?_, S.mem⟩
    have e : ((wipeD s r).set i none)[j]? = some (some d) := e
    show ∃ v, ((L2.wipe σ r).set i none)[j]? = some (some v) ∧ Rv K H M d v
    by_cases hj : j = i
    · subst hj
      by_cases hl : j < (wipeD s r).length
      · rw [List.getElem?_set_self hl] at e; cases e
      · rw [List.getElem?_eq_none (by rw [List.length_set]; omega)] at e; cases e
    · rw [List.getElem?_set_ne (Ne.symm hj)] at e
      obtain ⟨v, e1, e2⟩ := S1.sl j d e
      exact ⟨v, by rw [List.getElem?_set_ne (Ne.symm hj)]; exact e1, e2⟩
theorem wipe_at (σ : L2.St) (j : Nat) : ∀ vs : List Nat, (L2.wipe σ vs)[j]? = if j ∈ vs then (σ[j]?).map (fun _ => none) else σ[j]?
  | [] => by rw [if_neg (by simp)]; rfl
  | i :: r => by
    have ih := wipe_at σ j r
    show ((L2.wipe σ r).set i none)[j]? = _
    by_cases hj : i = j
    · subst hj
      rw [if_pos List.mem_cons_self]
      by_cases hl : i < σ.length
      · rw [List.getElem?_set_self (by rw [L2.wipe_length]; exact hl), List.getElem?_eq_getElem hl]; rfl
      · rw [List.getElem?_eq_none (by rw [List.length_set, L2.wipe_length]; omega), List.getElem?_eq_none (by omega)]; rfl
    · rw [List.getElem?_set_ne hj, ih]
      by_cases hr : j ∈ r
      · rw [if_pos hr, if_pos (List.mem_cons_of_mem _ hr)]
      · rw [if_neg hr, if_neg (fun z => (List.mem_cons.mp z).elim (fun z => hj z.symm) hr)]
theorem wipe_set {o : Option V} {i : Nat} {vs : List Nat} {σ : L2.St} (h : i ∈ vs) : L2.wipe (σ.set i o) vs = L2.wipe σ vs := by
  apply List.ext_getElem?
  intro j
  rw [wipe_at, wipe_at]
  by_cases hj : i = j
  · subst hj
    rw [if_pos h, if_pos h]
    by_cases hl : i < σ.length
    · rw [List.getElem?_set_self hl, List.getElem?_eq_getElem hl]; rfl
    · rw [List.getElem?_eq_none (by rw [List.length_set]; omega), List.getElem?_eq_none (by omega)]
  · rw [List.getElem?_set_ne hj]
theorem wipe_wipe (σ : L2.St) (vs : List Nat) : L2.wipe (L2.wipe σ vs) vs = L2.wipe σ vs := by
  apply List.ext_getElem?
  intro j
  rw [wipe_at, wipe_at]
  by_cases hj : j ∈ vs
  · rw [if_pos hj, if_pos hj, Option.map_map]; rfl
  · rw [if_neg hj, if_neg hj]
def X0 : XD := fun _ _ _ _ => False
theorem x0_to {K : Fg} {H : Hp} {M : Mem} : XTo K H M X0 E0 := fun c od H' ⟨_, _, _, _, _, _, _, _, _, _, _, _, _, _, z⟩ => z
/-- the tests of a clause -/
structure DTs (X : Cx) (E : XK) (ifs : List Expr) (t : TTD) : Prop where
  ok : PTs X ifs (liftT X.K E t)
def tYesD : TTD := fun _ _ M Q => Q true M
theorem dts_nil : DTs X E [] tYesD := ⟨⟨fun pins s σ H Q I ⟨sd, M, Qd, Xd, S, x, t, q⟩ => pts_nil.run pins s σ H Q I (q true H ⟨M, Gw.refl, S.mem, t⟩)⟩⟩
theorem dts_one {t : TTD} (h : DT X E c t) : DTs X E [c] t := ⟨pts_one h.ok⟩
/-- what stands at the growing list -/
def accK (p : Addr) (r : D) (k : Mem → Prop) : Mem → Prop := fun M => match M p with
  | some (.lst acc) => acc.length < sizeLine ∧ k (M.put p (.lst (acc ++ [r])))
  | _ => False
def endK (p : Addr) (Q : QD) : Mem → Prop := fun M => match M p with
  | some (.lst acc) => Q (.lst acc) (M.del p)
  | _ => False
def dLcL (g : TGD) (tt : TTD) (te : TED) (s0 : SD) (W : Mem → Prop) (p : Addr) (Q : QD) : List D → Mem → Prop
  | [], M => W M ∧ endK p Q M
  | d :: ds, M => W M ∧ g d X0 s0 M fun s' M' => tt X0 s' M' fun b M2 => if b = true then te X0 s' M2 (fun r => accK p r (dLcL g tt te s0 W p Q ds)) else dLcL g tt te s0 W p Q ds M2
def dLc (ti : TID) (g : TGD) (tt : TTD) (te : TED) (vs : List Nat) : TED := fun Xd s M Q => ti Xd s M fun ds ow M1 => ∀ p, M1 p = none → dLcL g tt te (wipeD s vs) (wat ow M1) p Q ds (M1.put p (.lst []))
theorem lift_lc {J : It} {ow : Option Addr} {g : TGD} {g1 : TG} {tt : TTD} {Y : Cx} {vs : List Nat} {σ : L2.St} {s : SD} {H0 H1 : Hp} {M0 M1 : Mem} {ds : List D} {Qd : QD} {Q : VK} {p : Addr} (hK : Y.K = X.K)
    (q1 : ∀ {v : V} {d : D} {σ : L2.St} {H : Hp} {s : SD} {M : Mem} {Xd : XD} {Qd : SD → Mem → Prop} {Q : L2.St → Hp → Prop}, StOk X.K σ H s M → XTo X.K H M Xd E0 → Rv X.K H M d v → g d Xd s M Qd →
      (∀ σ' H', upS X.K H M Qd σ' H' → L2.wipe σ' vs = L2.wipe σ vs → Q σ' H') → g1 v σ H Q)
    (S : StOk X.K σ H1 s M1) (io : ItOk X.K J H1 M1 ow ds) (hp : H1 p = none) (td : dLcL g tt te (wipeD s vs) (wat ow M1) p Qd ds (M1.put p (.lst []))) (g0 : Gw H0 M0 H1 M1) (q : ∀ v H', upE X.K H0 M0 Qd v H' → Q v H') :
    ∃ W : Nat → Nat → Hp → Prop, (∃ m, W 0 m (upd H1 p (.lst []))) ∧ ∀ i m H, W i m H →
      (J.stop i H ∧ Q (.ref p) H) ∨ (J.go i H ∧ ∃ Nx : Hp → Prop, (∀ H', Nx H' → ∃ m', m' < m ∧ W (i + 1) m' H') ∧ ∀ x H', J.yld i H x H' → g1 x (L2.wipe σ vs) H' fun σ2 H2 => L2.wipe σ2 vs = L2.wipe σ vs ∧ liftT X.K E0 tt σ2 H2 fun b H3 =>
        if b = true then liftE X.K E0 te σ2 H3 fun y H4 => ∃ acc, H4 p = some (.lst acc) ∧ acc.length < sizeLine ∧ Nx (upd H4 p (.lst (acc ++ [y]))) else Nx H3) := by
  have ew : ∀ σ2 : L2.St, L2.wipe σ2 vs = L2.wipe (L2.wipe σ vs) vs → L2.wipe σ2 vs = L2.wipe σ vs := fun σ2 e => by rw [e, wipe_wipe]
  have S0 : StOk X.K (L2.wipe σ vs) H1 (wipeD s vs) M1 := S.wipe vs
  have gp : Gw H1 M1 (upd H1 p (.lst [])) (M1.put p (.lst [])) := gw_own hp
  have mp : MOk X.K (upd H1 p (.lst [])) (M1.put p (.lst [])) := mok_own S.mem hp (show MObj X.K (upd H1 p (.lst [])) (M1.put p (.lst [])) p (.lst []) from ⟨[], upd_same, rfl⟩)
  refine ⟨fun i m H => m = ds.length - i ∧ i ≤ ds.length ∧ ∃ M, Gw H1 M1 H M ∧ MOk X.K H M ∧ dLcL g tt te (wipeD s vs) (wat ow M1) p Qd (ds.drop i) M, ⟨ds.length, rfl, Nat.zero_le _, M1.put p (.lst []), gp, mp, td⟩, fun i m H hW => ?_⟩
  obtain ⟨em, hi', M, gM, mo, td'⟩ := hW
  by_cases hlt : i < ds.length
  · rw [List.drop_eq_getElem_cons hlt] at td'
    obtain ⟨hw, td'⟩ := td'
    obtain ⟨hgo, hy⟩ := io.go i H M gM mo (wat_of hw) hlt
    have back : ∀ H2 M2, Gw H1 M1 H2 M2 → MOk X.K H2 M2 → dLcL g tt te (wipeD s vs) (wat ow M1) p Qd (ds.drop (i + 1)) M2 → ∃ m', m' < m ∧ (m' = ds.length - (i + 1) ∧ i + 1 ≤ ds.length ∧ ∃ M, Gw H1 M1 H2 M ∧ MOk X.K H2 M ∧ dLcL g tt te (wipeD s vs) (wat ow M1) p Qd (ds.drop (i + 1)) M) :=
      fun H2 M2 a1 a2 a3 => ⟨ds.length - (i + 1), by omega, rfl, by omega, M2, a1, a2, a3⟩
    refine .inr ⟨hgo, fun H2 => ∃ M2, Gw H1 M1 H2 M2 ∧ MOk X.K H2 M2 ∧ dLcL g tt te (wipeD s vs) (wat ow M1) p Qd (ds.drop (i + 1)) M2, fun H2 ⟨M2, a1, a2, a3⟩ => back H2 M2 a1 a2 a3, fun v H2 hyl => ?_⟩
    obtain ⟨d, hd, g2, m2, r2⟩ := hy v H2 hyl
    have ed : d = ds[i] := by rw [List.getElem?_eq_getElem hlt] at hd; exact (Option.some.inj hd).symm
    subst ed
    have S2 : StOk X.K (L2.wipe σ vs) H2 (wipeD s vs) M := S0.grow (gM.trans g2) m2
    refine q1 S2 x0_to r2 td' fun σ3 H3 ⟨s3, M3, g3, S3, z3⟩ e3 => ⟨ew σ3 e3, ?_⟩
    refine useT S3 x0_to z3 fun bb M4 H4 g4 S4 x4 z4 => ?_
    have gg : Gw H1 M1 H4 M4 := ((gM.trans g2).trans g3).trans g4
    cases bb with
    | false =>
      rw [if_neg Bool.false_ne_true] at z4 ⊢
      exact ⟨M4, gg, S4.mem, z4⟩
    | true =>
      rw [if_pos rfl] at z4 ⊢
      refine useE S4 x4 z4 fun r y M5 H5 g5 S5 x5 r5 z5 => ?_
      unfold accK at z5
      split at z5
      · rename_i acc hacc
        obtain ⟨xs, h1, h2⟩ := S5.mem p _ hacc
        refine ⟨xs, h1, by rw [vlen h2]; exact z5.1, M5.put p (.lst (acc ++ [r])), (gg.trans g5).trans (gw_put hacc), mok_put S5.mem hacc ?_, z5.2⟩
        exact ⟨xs ++ [y], upd_same, Rs.grow (gw_put hacc) _ _ (Rs.append h2 (Rs.cons r5 Rs.nil))⟩
      · exact z5.elim
  · have e : i = ds.length := by omega
    subst e
    rw [List.drop_length] at td'
    obtain ⟨hw, td'⟩ := td'
    refine .inl ⟨io.stop H M gM mo (wat_of hw), ?_⟩
    unfold endK at td'
    split at td'
    · rename_i acc hacc
      obtain ⟨xs, h1, h2⟩ := mo p _ hacc
      have hs : ∀ b o, (M.del p) b = some o → M b = some o := fun b o e => by
        by_cases z : b = p
        · subst z; rw [Mem.del_same] at e; cases e
        · rw [Mem.del_ne z] at e; exact e
      have hn : ∀ b, M b = none → (M.del p) b = none := fun b e => by
        by_cases z : b = p
        · subst z; exact Mem.del_same
        · rw [Mem.del_ne z]; exact e
      exact q _ _ ⟨.lst acc, M.del p, (g0.trans gM).trans (gw_less hn), mok_less hs hn mo, ⟨p, xs, rfl, h1, Mem.del_same, Rs.grow (gw_less hn) _ _ h2⟩, td'⟩
    · exact td'.elim
theorem de_lc {elt iter : Expr} {ifs : List Expr} {scope : Scope} {own : List (Str × Nat)} {ti : TID} {g : TGD} {tt : TTD} (hc : X.calm = true) (hN : X.N.Nodup) (hi : DI X E tg iter ti) (ok : BlkOk X.N X.env.scope scope own) (g1 : TG)
    (hg : ∀ (s : Shared) (H : Hp) (C : Addr) (cl : List (Str × Addr)) (fp : List Addr), PG (X.blk s H scope (compEnvC scope cl C X.env) fp) tg g1)
    (hq : ∀ {v : V} {d : D} {σ : L2.St} {H : Hp} {s : SD} {M : Mem} {Xd : XD} {Qd : SD → Mem → Prop} {Q : L2.St → Hp → Prop}, StOk X.K σ H s M → XTo X.K H M Xd E0 → Rv X.K H M d v → g d Xd s M Qd →
      (∀ σ' H', upS X.K H M Qd σ' H' → L2.wipe σ' (own.map (·.2)) = L2.wipe σ (own.map (·.2)) → Q σ' H') → g1 v σ H Q)
    (ht : ∀ (s : Shared) (H : Hp) (C : Addr) (cl : List (Str × Addr)) (fp : List Addr), DTs (X.blk s H scope (compEnvC scope cl C X.env) fp) E0 ifs tt)
    (he : ∀ (s : Shared) (H : Hp) (C : Addr) (cl : List (Str × Addr)) (fp : List Addr), DE (X.blk s H scope (compEnvC scope cl C X.env) fp) E0 elt te) (hs : ∀ x, foldedSetIterable iter X.env x = pure x := by intro _; rfl) :
    DE X E (.ListComp elt [⟨tg, iter, ifs, 0⟩] scope pos) (dLc ti g tt te (own.map (·.2))) := by
  obtain ⟨wi, pi, qi⟩ := hi.ok
  refine ⟨PE.imp (pe_lc (tt := liftT X.K E0 tt) (te := liftE X.K E0 te) hc hN pi ok hg (fun s H C cl fp => (ht s H C cl fp).ok) (fun s H C cl fp => (he s H C cl fp).ok) hs) fun σ H Q ⟨s, M, Qd, Xd, S, x, t, q⟩ => ?_⟩
  refine qi S x t fun J H1 M1 ow ds gr mo io td p hp => ?_
  exact lift_lc (Y := X) rfl hq (S.grow gr mo) io hp (td p (m_none mo hp)) gr q
theorem ds_setLc {i : Nat} {y : Str} {py spos : Pos} {elt iter : Expr} {ifs : List Expr} {scope : Scope} {own : List (Str × Nat)} {ti : TID} {g : TGD} {tt : TTD} (hc : X.calm = true) (hN : X.N.Nodup) (hy : X.N[i]? = some y) (hyl : X.env.scope.names.lookup y = some .local)
    (hsw : swapsWith (.ListComp elt [⟨tg, iter, ifs, 0⟩] scope pos) (some (.Name y py)) spos.line X.env = pure true) (hi : DI X E tg iter ti) (ok : BlkOk X.N X.env.scope scope own) (g1 : TG)
    (hg : ∀ (s : Shared) (H : Hp) (C : Addr) (cl : List (Str × Addr)) (fp : List Addr), PG (X.blk s H scope (compEnvC scope cl C X.env) fp) tg g1)
    (hq : ∀ {v : V} {d : D} {σ : L2.St} {H : Hp} {s : SD} {M : Mem} {Xd : XD} {Qd : SD → Mem → Prop} {Q : L2.St → Hp → Prop}, StOk X.K σ H s M → XTo X.K H M Xd E0 → Rv X.K H M d v → g d Xd s M Qd →
      (∀ σ' H', upS X.K H M Qd σ' H' → L2.wipe σ' (own.map (·.2)) = L2.wipe σ (own.map (·.2)) → Q σ' H') → g1 v σ H Q)
    (ht : ∀ (s : Shared) (H : Hp) (C : Addr) (cl : List (Str × Addr)) (fp : List Addr), DTs (X.blk s H scope (compEnvC scope cl C X.env) fp) E0 ifs tt)
    (he : ∀ (s : Shared) (H : Hp) (C : Addr) (cl : List (Str × Addr)) (fp : List Addr), DE (X.blk s H scope (compEnvC scope cl C X.env) fp) E0 elt te) (hs : ∀ x, foldedSetIterable iter X.env x = pure x := by intro _; rfl) :
    DS X E (.Assign [.Name y py] (.ListComp elt [⟨tg, iter, ifs, 0⟩] scope pos) spos) (sSet i (dLc ti g tt te (own.map (·.2)))) := by
  obtain ⟨wi, pi, qi⟩ := hi.ok
  refine ⟨PS.imp (ps_setLc (tt := liftT X.K E0 tt) (te := liftE X.K E0 te) hc hN hy hyl hsw pi ok hg (fun s H C cl fp => (ht s H C cl fp).ok) (fun s H C cl fp => (he s H C cl fp).ok) hs) fun Z σ H ⟨s, M, Y, S, x, t, h⟩ => ?_⟩
  refine qi S x t fun J H1 M1 ow ds gr mo io td p hp => ?_
  refine lift_lc (Y := X) (Q := fun v H' => Z.nx (σ.set i (some v)) H') rfl hq (S.grow gr mo) io hp (td p (m_none mo hp)) gr fun v H' ⟨d, M', g, m, r, z⟩ => ?_
  exact h.1 _ _ ⟨s.set i (some d), M', g, (S.grow g m).set i r, z⟩
end
end DL
set_option maxHeartbeats 1000000
namespace DL
open PySem PySem.Spec PyProof.Rows L2
section
variable {X : Cx} {E : XK} {n k : Nat} {x : Str} {p pos : Pos} {e a b c tg o i value : Expr} {es : List Expr} {ts : TAD} {te ta tb td tv : TED}
/-- a, b = x, y with plain local names -/
theorem ds_par {i j : Nat} {x y : Str} {px py pt : Pos} {kt k2 pt2} (hc : X.calm = true) (hN : X.N.Nodup) (hi : X.N[i]? = some x) (hj : X.N[j]? = some y) (hij : i ≠ j)
    (hx : X.env.scope.names.lookup x = some .local) (hy : X.env.scope.names.lookup y = some .local) (ha : DN X E 2 [a, b] ts)
    (hw : swappedStores [.Tuple [.Name x px, .Name y py] kt pt] (.Tuple [a, b] k2 pt2) X.env = pure (some [x, y]))
    (hs : swapsWithSole [.Tuple [.Name x px, .Name y py] kt pt] (.Tuple [a, b] k2 pt2) pos.line X.env = pure false := by rfl) :
    DS X E (.Assign [.Tuple [.Name x px, .Name y py] kt pt] (.Tuple [a, b] k2 pt2) pos) (sPar i j ts) :=
  ⟨PS.imp (ps_par hc hN hi hj hij hx hy ha.ok hw hs) fun Z σ H ⟨s, M, Y, S, x, t, h⟩ => by
    refine useN S x t fun ds vs M1 H1 hl g1 S1 x1 r1 t1 => ?_
    split at t1
    · rename_i d e
      obtain ⟨v, w, rfl, rd, re⟩ := rs2 r1
      exact ⟨v, w, rfl, h.1 _ _ ⟨_, M1, g1, (S1.set i rd).set j re, t1⟩⟩
    · exact t1.elim⟩
/-! ### isinstance -/
def tyO (M : Mem) (d : D) : Option String := match vw M d with
  | .non => some "NoneType"
  | .bl _ => some "bool"
  | .int _ => some "int"
  | .str _ => some "str"
  | .tup _ => some "tuple"
  | .lst _ => some "list"
  | .fzn _ => some "list"
  | .dct _ _ => some "dict"
  | _ => none
theorem ty_of {K : Fg} {H : Hp} {M : Mem} {d : D} {v : V} {T : String} (mo : MOk K H M) (r : Rv K H M d v) (e : tyO M d = some T) : TyX K H v (.type T) := by
  unfold tyO at e
  split at e
  · rename_i h; cases e; rw [vw_non r h]; exact .base .non
  · rename_i b h; cases e; rw [vw_bl r h]; exact .base (.bl b)
  · rename_i b h; cases e; rw [vw_int r h]; exact .base (.int b)
  · rename_i b h; cases e; rw [vw_str r h]; exact .base (.str b)
  · rename_i ds h
    cases e
    obtain ⟨a, xs, rfl, ha, sa⟩ := vw_tup r h
    rcases ha with ⟨h1 | ⟨ob, h1⟩, _⟩ | ⟨ob, its, n, h1, h2, _⟩
    · exact .base (.tup h1)
    · exact .fTuple h1
    · exact .kTuple h1 h2
  · rename_i ds h
    cases e
    obtain ⟨a, xs, rfl, ha, sa⟩ := vw_lst mo r h
    exact .base (.lst ha)
  · rename_i ds h
    cases e
    obtain ⟨a, xs, rfl, ha, sa⟩ := vw_fzn r h
    rcases ha with ⟨h1 | ⟨ob, h1⟩, _⟩ | ⟨ob, its, n, h1, h2, _⟩
    · exact .base (.lst h1)
    · exact .base (.frz h1)
    · exact .kList h1 h2
  · rename_i ks ds h
    cases e
    obtain ⟨a, xs, rfl, ha, _⟩ := vw_dct mo r h
    exact .base (.dK ha)
  · cases e
def isiC : OC := fun ds M Q => match ds with
  | [d, .ty n] => match tyO M d with
    | some T => match kitB T n with
      | some b => Q (.bl b) M
      | none => False
    | none => False
  | _ => False
theorem dc_isi : DC X (.builtin "isinstance") isiC := by
  intro pins s σ H M xs ds us Q Qd I mo r rv t q
  unfold isiC at t
  split at t
  · rename_i d n
    obtain ⟨v, w, rfl, rd, re⟩ := rs2 r
    split at t
    · rename_i T hT
      split at t
      · rename_i b hb
        have ew : w = .ty n := re
        exact call_isi pins s σ H _ us Q I rv ⟨v, w, _, _, b, rfl, by rw [ew]; exact .ty n, ty_of mo rd hT, kit_ty hb, q _ _ (up_same mo t rfl)⟩
      · exact t.elim
    · exact t.elim
  · exact t.elim
/-! ### gcd, lcm -/
def gcdC : OC := fun ds M Q => match ds with
  | [d, e] => match vw M d, vw M e with
    | .int i, .int j => Q (.int ((Nat.gcd i.natAbs j.natAbs : Nat) : Int)) M
    | _, _ => False
  | _ => False
theorem dc_gcd : DC X (.builtin "math.gcd") gcdC := by
  intro pins s σ H M xs ds us Q Qd I mo r rv t q
  unfold gcdC at t
  split at t
  · rename_i d e
    obtain ⟨v, w, rfl, rd, re⟩ := rs2 r
    split at t
    · rename_i i j h1 h2
      exact cr_gcd pins s σ H _ us Q I rv ⟨i, j, by rw [vw_int rd h1, vw_int re h2], q _ _ (up_same mo t rfl)⟩
    · exact t.elim
  · exact t.elim
/-- a module's name for a built-in function -/
theorem de_callF {id : String} {oc : OC} (hc : DC X (.builtin id) oc) (hg : Gl X x) (hm : X.mg x = some (.builtin id)) (ha : DN X E n (e :: es) ts) (hdb : (x == ("__debug__" : Str)) = false := by decide)
    (he : starEach (e :: es) X.env = (false, eval e X.env) :: starEach es X.env := by rfl) (hpl : (backTo pos (starEach es X.env)).any (·.1) = false := by rfl) : DE X E (.Call (.Name x p) (e :: es) [] pos) (dCB oc ts) :=
  ⟨PE.imp (pe_callBfun hc.toR hg hm ha.ok hdb he hpl) fun σ H Q z => liftCB z⟩
/-! ### sum, max, min of ints -/
def lstO (M : Mem) (d : D) : Option (List D) := match vw M d with
  | .lst ds => some ds
  | .fzn ds => some ds
  | _ => none
/-! ### in -/
def flD : D → Option V
  | .non => some .non
  | .bl b => some (.bl b)
  | .int i => some (.int i)
  | .str x => some (.str x)
  | _ => none
theorem fl_of {K : Fg} {H : Hp} {M : Mem} {d : D} {u v : V} (r : Rv K H M d v) (e : flD d = some u) : v = u ∧ flatV v = true := by
  cases d with
  | non => have e' : some V.non = some u := e; cases e'; rw [show v = V.non from r]; exact ⟨rfl, rfl⟩
  | bl b => have e' : some (V.bl b) = some u := e; cases e'; rw [show v = V.bl b from r]; exact ⟨rfl, rfl⟩
  | int b => have e' : some (V.int b) = some u := e; cases e'; rw [show v = V.int b from r]; exact ⟨rfl, rfl⟩
  | str b => have e' : some (V.str b) = some u := e; cases e'; rw [show v = V.str b from r]; exact ⟨rfl, rfl⟩
  | _ => cases e
def flsD : List D → Option (List V)
  | [] => some []
  | d :: ds => match flD d, flsD ds with
    | some v, some vs => some (v :: vs)
    | _, _ => none
theorem fls_of {K : Fg} {H : Hp} {M : Mem} : ∀ {ds : List D} {us vs : List V}, Rs K H M ds vs → flsD ds = some us → vs = us ∧ vs.all flatV = true
  | [], us, vs, r, e => by
    have e' : some [] = some us := e
    cases e'
    have r' : vs = [] := r
    subst r'
    exact ⟨rfl, rfl⟩
  | d :: ds, us, vs, ⟨v, rr, ex, h, q⟩, e => by
    unfold flsD at e
    split at e
    · rename_i w ws h1 h2
      cases e
      obtain ⟨e1, f1⟩ := fl_of h h1
      obtain ⟨e2, f2⟩ := fls_of q h2
      subst ex
      exact ⟨by rw [e1, e2], by rw [List.all_cons, f1, f2]; rfl⟩
    · cases e
def inO (M : Mem) (x y : D) : Option Bool := match vw M y with
  | .dct ks ds => match keyD (vw M x) with
    | some k => some (valD ks ds k).isSome
    | none => none
  | _ => match itemsO M y with
    | some ds => match flD (vw M x), flsD ds with
      | some v, some vs => some (inV v vs)
      | _, _ => none
    | none => none
def inD : O2 := fun x y M Q => match inO M x y with
  | some b => Q (.bl b) M
  | none => False
end
end DL
set_option maxHeartbeats 1000000
namespace DL
open PySem PySem.Spec PyProof.Rows L2
section
variable {X : Cx} {E : XK} {n k : Nat} {x : Str} {p pos p2 pos' : Pos} {e a b c tg o i value : Expr} {es : List Expr} {ts : TAD} {te ta tb td tv : TED}
theorem vw_fl {K : Fg} {H : Hp} {M : Mem} {d : D} {u v : V} (r : Rv K H M d v) (e : flD (vw M d) = some u) : v = u ∧ flatV v = true := by
  cases q : vw M d with
  | non => rw [q] at e; rw [vw_non r q]; exact fl_of (K := K) (H := H) (M := M) (d := .non) rfl e
  | bl b => rw [q] at e; rw [vw_bl r q]; exact fl_of (K := K) (H := H) (M := M) (d := .bl b) rfl e
  | int b => rw [q] at e; rw [vw_int r q]; exact fl_of (K := K) (H := H) (M := M) (d := .int b) rfl e
  | str b => rw [q] at e; rw [vw_str r q]; exact fl_of (K := K) (H := H) (M := M) (d := .str b) rfl e
  | _ => rw [q] at e; cases e
theorem vw_key {K : Fg} {H : Hp} {M : Mem} {d : D} {k : Key} {v : V} (r : Rv K H M d v) (e : keyD (vw M d) = some k) : v = kV k := by
  cases q : vw M d with
  | int b => rw [q] at e; rw [vw_int r q]; exact key_of_d (K := K) (H := H) (M := M) (d := .int b) rfl e
  | str b => rw [q] at e; rw [vw_str r q]; exact key_of_d (K := K) (H := H) (M := M) (d := .str b) rfl e
  | _ => rw [q] at e; cases e
theorem in_cases {M : Mem} {dx dy : D} {b : Bool} (h : inO M dx dy = some b) :
    (∃ ks ds k, vw M dy = .dct ks ds ∧ keyD (vw M dx) = some k ∧ b = (valD ks ds k).isSome) ∨ ∃ ds v vs, itemsO M dy = some ds ∧ flD (vw M dx) = some v ∧ flsD ds = some vs ∧ b = inV v vs := by
  unfold inO at h
  split at h
  · rename_i ks ds hq
    split at h
    · rename_i k hk
      exact .inl ⟨ks, ds, k, hq, hk, (Option.some.inj h).symm⟩
    · cases h
  · split at h
    · rename_i ds hi
      split at h
      · rename_i v vs h1 h2
        exact .inr ⟨ds, v, vs, hi, h1, h2, (Option.some.inj h).symm⟩
      · cases h
    · cases h
theorem do_in (hu : X.A.units + 1 < cLine) : DOp X (compareOp .In) inD := by
  intro pins s σ H M x y dx dy v u Q Qd I mo r1 r2 rx ry t q
  unfold inD at t
  split at t
  · rename_i bb hb
    rcases in_cases hb with ⟨ks, ds, k, h1, h2, rfl⟩ | ⟨ds, w, ws, h1, h2, h3, rfl⟩
    · obtain ⟨p, xs, rfl, hp, hl, sp⟩ := vw_dct mo r2 h1
      have ex := vw_key r1 h2
      subst ex
      obtain rfl : u = Value.ref p := ry
      refine d_in hu I (DGet.k (k := k) hp) rx fun s3 I3 => ⟨.bl _, H, I3, rfl, ?_⟩
      rw [zip_none k sp]
      exact q _ _ (up_same mo t rfl)
    · obtain ⟨a, ys, rfl, ha, sa⟩ := items_of mo r2 h1
      obtain ⟨e1, f1⟩ := vw_fl r1 h2
      obtain ⟨e2, f2⟩ := fls_of sa h3
      subst e1 e2
      exact op_in_seq pins s σ H _ _ v u Q I rx ry ⟨a, _, rfl, ha, f1, f2, q _ _ (up_same mo t rfl)⟩
  · exact t.elim
/-! ### slices -/
abbrev TOD := XD → SD → Mem → (Option Int → Mem → Prop) → Prop
structure DO (X : Cx) (E : XK) (e : Option Expr) (t : TOD) : Prop where
  ok : PO X e (fun σ H Q => ∃ s M Qd Xd, StOk X.K σ H s M ∧ XTo X.K H M Xd E ∧ t Xd s M Qd ∧ ∀ l H', (∃ M', Gw H M H' M' ∧ MOk X.K H' M' ∧ Qd l M') → Q l H')
def oNo : TOD := fun _ _ M Q => Q none M
def oSoK (Q : Option Int → Mem → Prop) : QD := fun d M => match vw M d with
  | .int i => Q (some i) M
  | _ => False
def oSo (te : TED) : TOD := fun Xd s M Q => te Xd s M (oSoK Q)
theorem PO.imp {eo : Option Expr} {t t' : TO} (h : PO X eo t) (i : ∀ σ H Q, t' σ H Q → t σ H Q) : PO X eo t' := ⟨fun pins s σ H Q I q => h.run pins s σ H Q I (i σ H Q q)⟩
theorem do_none : DO X E none oNo := ⟨PO.imp po_none fun σ H Q ⟨s, M, Qd, Xd, S, x, t, q⟩ => q none H ⟨M, Gw.refl, S.mem, t⟩⟩
theorem do_some (h : DE X E e te) : DO X E (some e) (oSo te) := ⟨PO.imp (po_some h.ok) fun σ H Q ⟨s, M, Qd, Xd, S, x, t, q⟩ => by
  refine useE S x t fun d v M1 H1 g1 S1 x1 r1 t1 => ?_
  unfold oSoK at t1
  split at t1
  · rename_i i h
    exact ⟨i, vw_int r1 h, q (some i) H1 ⟨M1, g1, S1.mem, t1⟩⟩
  · exact t1.elim⟩
def cutD {α : Type} (xs : List α) (lo hi : Option Int) : List α := (xs.drop (HT.sIx xs.length 0 lo)).take (HT.sIx xs.length xs.length hi - HT.sIx xs.length 0 lo)
theorem rs_cut {K : Fg} {H : Hp} {M : Mem} {ds : List D} {xs : List V} (r : Rs K H M ds xs) (lo hi : Option Int) : Rs K H M (cutD ds lo hi) (cutV xs lo hi) := by
  unfold cutD cutV
  rw [vlen r]
  exact Rs.take _ (Rs.drop _ r)
def slO (M : Mem) (d : D) (lo hi : Option Int) : Option D := match vw M d with
  | .tup ds => some (.tup (cutD ds lo hi))
  | .lst ds => some (.lst (cutD ds lo hi))
  | .fzn ds => some (.lst (cutD ds lo hi))
  | _ => none
def slK (l u : Option Int) (d : D) (Q : QD) : Mem → Prop := fun M => match slO M d l u with
  | some r => Q r M
  | none => False
def dSl (te : TED) (tl tu : TOD) : TED := fun Xd s M Q => te Xd s M fun d M1 => tl Xd s M1 fun l M2 => tu Xd s M2 fun u M3 => slK l u d Q M3
theorem de_sl {lo hi : Option Expr} {tl tu : TOD} (he : DE X E e te) (hl : DO X E lo tl) (hu : DO X E hi tu) : DE X E (.Subscript e (.Slice lo hi none p2) pos) (dSl te tl tu) :=
  ⟨PE.imp (pe_slice (sl_list.or sl_tupA) he.ok hl.ok hu.ok) fun σ H Q ⟨s, M, Qd, Xd, S, x, t, q⟩ => by
    refine useE S x t fun d v M1 H1 g1 S1 x1 r1 t1 => ?_
    refine ⟨s, M1, _, Xd, S1, x1, t1, fun l H2 ⟨M2, g2, m2, t2⟩ => ?_⟩
    refine ⟨s, M2, _, Xd, S1.grow g2 m2, x1.grow g2, t2, fun u H3 ⟨M3, g3, m3, t3⟩ => ?_⟩
    have r3 : Rv X.K H3 M3 d v := Rv.grow g3 _ _ (Rv.grow g2 _ _ r1)
    have gg := (g1.trans g2).trans g3
    unfold slK at t3
    split at t3
    · rename_i r hr
      unfold slO at hr
      split at hr
      · rename_i ds h
        cases hr
        obtain ⟨p, ys, rfl, ha, sa⟩ := vw_tup r3 h
        refine .inr ⟨p, ys, rfl, ha.sq, fun hw => ?_, fun _ pp hl => q _ _ ⟨_, M3, gg.trans (gw_new hl), mok_new m3 hl, new_tup m3 hl (rs_cut sa l u), t3⟩⟩
        have e : cutD ds l u = ds := by
          unfold cutD
          rw [vlen sa] at hw
          rw [hw.1, hw.2, List.drop_zero, Nat.sub_zero, List.take_length]
        rw [e] at t3
        exact q _ _ ⟨.tup ds, M3, gg, m3, ⟨p, ys, rfl, ha, sa⟩, t3⟩
      · rename_i ds h
        cases hr
        obtain ⟨p, ys, rfl, ha, sa⟩ := vw_lst m3 r3 h
        exact .inl ⟨p, ys, rfl, SqL.of ha, fun pp hl => q _ _ ⟨_, M3, gg.trans (gw_new hl), mok_new m3 hl, new_lst m3 hl (rs_cut sa l u), t3⟩⟩
      · rename_i ds h
        cases hr
        obtain ⟨p, ys, rfl, ha, sa⟩ := vw_fzn r3 h
        exact .inl ⟨p, ys, rfl, ha.sq, fun pp hl => q _ _ ⟨_, M3, gg.trans (gw_new hl), mok_new m3 hl, new_lst m3 hl (rs_cut sa l u), t3⟩⟩
      · cases hr
    · exact t3.elim⟩
/-! ### dicts that are changed -/
/-- a key put, at its place or at the end -/
def putD : List Key → List D → Key → D → List Key × List D
  | [], [], k, v => ([k], [v])
  | j :: ks, d :: ds, k, v => if j = k then (j :: ks, v :: ds) else ((j :: (putD ks ds k v).1), (d :: (putD ks ds k v).2))
  | ks, ds, k, v => (ks, ds)
theorem putK_cons {p : Key × V} {r : List (Key × V)} {k : Key} {v : V} (hn : ¬ p.1 = k) : putK (p :: r) k v = p :: putK r k v := by
  unfold putK
  rw [List.any_cons, show decide (p.1 = k) = false from decide_eq_false hn, Bool.false_or]
  by_cases ha : (r.any fun kv => decide (kv.1 = k)) = true
  · rw [if_pos ha, if_pos ha, List.map_cons, if_neg hn]
  · rw [if_neg ha, if_neg ha]; rfl
theorem putK_head {p : Key × V} {r : List (Key × V)} {k : Key} {v : V} (hp : p.1 = k) (hr : ∀ q ∈ r, ¬ q.1 = k) : putK (p :: r) k v = (k, v) :: r := by
  unfold putK
  rw [List.any_cons, show decide (p.1 = k) = true from decide_eq_true hp, Bool.true_or, if_pos rfl, List.map_cons, if_pos hp, hp]
  congr 1
  have : ∀ l : List (Key × V), (∀ q ∈ l, ¬ q.1 = k) → (l.map fun kv => if kv.1 = k then (kv.1, v) else kv) = l := by
    intro l
    induction l with
    | nil => intro _; rfl
    | cons q r ih =>
      intro h
      rw [List.map_cons, if_neg (h q List.mem_cons_self), ih fun z hz => h z (List.mem_cons_of_mem _ hz)]
  exact this r hr
theorem put_rs {K : Fg} {H : Hp} {M : Mem} {k : Key} {d : D} {v : V} (rv : Rv K H M d v) : ∀ {ks : List Key} {ds : List D} {xs : List V}, ks.Nodup → ks.length = ds.length → Rs K H M ds xs →
    ∃ ys, Rs K H M (putD ks ds k d).2 ys ∧ putK (ks.zip xs) k v = (putD ks ds k d).1.zip ys ∧ (putD ks ds k d).1.length = (putD ks ds k d).2.length
  | [], [], xs, _, _, r => by
    have e : xs = [] := r
    subst e
    exact ⟨[v], Rs.cons rv Rs.nil, rfl, rfl⟩
  | [], _ :: _, _, _, hl, _ => by simp at hl
  | _ :: _, [], _, _, hl, _ => by simp at hl
  | j :: ks, d0 :: ds, _, nd, hl, ⟨v0, rr, rfl, h, q⟩ => by
    have nd' := List.nodup_cons.mp nd
    by_cases hj : j = k
    · have e1 : putD (j :: ks) (d0 :: ds) k d = (j :: ks, d :: ds) := by show (if j = k then _ else _) = _; rw [if_pos hj]
      rw [e1]
      refine ⟨v :: rr, Rs.cons rv q, ?_, hl⟩
      rw [List.zip_cons_cons, List.zip_cons_cons, putK_head hj (fun z hz e => ?_), hj]
      have : z.1 ∈ ks := (List.of_mem_zip (show (z.1, z.2) ∈ ks.zip rr from hz)).1
      rw [e, ← hj] at this
      exact nd'.1 this
    · have e1 : putD (j :: ks) (d0 :: ds) k d = ((j :: (putD ks ds k d).1), (d0 :: (putD ks ds k d).2)) := by show (if j = k then _ else _) = _; rw [if_neg hj]
      obtain ⟨ys, h1, h2, h3⟩ := put_rs rv nd'.2 (by simpa using hl) q
      rw [e1]
      refine ⟨v0 :: ys, Rs.cons h h1, ?_, by simp [h3]⟩
      rw [List.zip_cons_cons, putK_cons hj, h2, List.zip_cons_cons]
/-- o[i] = v -/
def setK (o i v : D) (k : Mem → Prop) : Mem → Prop := fun M => match o with
  | .ref a => match M a with
    | some (.lst ds) => match i with
      | .int z => match ixN ds.length z with
        | some j => k (M.put a (.lst (ds.set j v)))
        | none => False
      | _ => False
    | some (.dct ks ds) => match keyD i with
      | some key => (ks.Nodup ∧ ks.length < 1000) ∧ k (M.put a (.dct (putD ks ds key v).1 (putD ks ds key v).2))
      | none => False
    | _ => False
  | _ => False
def rSetA : V → V → V → Hp → (Hp → Prop) → Prop := fun o i v H Q => rSetL o i v H Q ∨ ∃ a H', o = .ref a ∧ DPut H a i v H' ∧ Q H'
theorem set_any (hu : X.A.units + 1 < cLine) : PSet X rSetA := by
  intro pins s σ H o i v ov iv u Q I ro ri rv h
  rcases h with h | ⟨a, H', rfl, g, q⟩
  · exact set_list pins s σ H o i v ov iv u Q I ro ri rv h
  · obtain rfl : ov = Value.ref a := ro
    exact d_setItem hu I g ri rv fun s4 I4 => ⟨H', I4, q⟩
theorem setK_ok {H H0 : Hp} {M M0 : Mem} {do_ di dv : D} {o i v : V} {k : Mem → Prop} {Q : Hp → Prop} (mo : MOk X.K H M) (ro : Rv X.K H M do_ o) (ri : Rv X.K H M di i) (rv : Rv X.K H M dv v) (t : setK do_ di dv k M)
    (q : ∀ H' M', Gw H M H' M' → MOk X.K H' M' → k M' → Q H') : rSetA o i v H Q := by
  unfold setK at t
  split at t
  · rename_i a
    have eo : o = .ref a := ro
    split at t
    · rename_i ds hm
      split at t
      · rename_i z
        split at t
        · rename_i j hj
          obtain ⟨xs, h1, h2⟩ := mo a _ hm
          refine .inl ⟨a, xs, z, j, eo, ri, h1, by rw [vlen h2]; exact hj, q (upd H a (.lst (xs.set j v))) (M.put a (.lst (ds.set j dv))) (gw_put hm) (mok_put mo hm ⟨xs.set j v, upd_same, Rs.grow (gw_put hm) _ _ (Rs.set rv j h2)⟩) t⟩
        · exact t.elim
      · exact t.elim
    · rename_i ks ds hm
      split at t
      · rename_i key hk
        obtain ⟨xs, h1, h3, h2⟩ := mo a _ hm
        obtain ⟨ys, e1, e2, e3⟩ := put_rs (k := key) rv t.1.1 h3 h2
        have hlen : (ks.zip xs).length < sizeLine := by
          rw [List.length_zip, sizeLine_eq]
          have := t.1.2
          omega
        refine .inr ⟨a, _, eo, ?_, q (upd H a (.dK ((putD ks ds key dv).1.zip ys))) (M.put a (.dct (putD ks ds key dv).1 (putD ks ds key dv).2)) (gw_put hm) (mok_put mo hm ⟨ys, upd_same, e3, Rs.grow (gw_put hm) _ _ e1⟩) t.2⟩
        rw [key_of_d ri hk, ← e2]
        exact DPut.k h1 hlen
      · exact t.elim
    · exact t.elim
  · exact t.elim
def gSb (to ti : TED) : TGD := fun d Xd s M Q => to Xd s M fun o M1 => ti Xd s M1 fun i M2 => setK o i d (fun M3 => Q s M3) M2
theorem dg_sub {to ti : TED} (hu : X.A.units + 1 < cLine) (ho : DE X E o to) (hi : DE X E i ti)
    (ha : ∀ v, assign (.Subscript o i pos) X.env v = (do
      let ov ← holding [v] (eval o X.env)
      let iv ← holding [v, ov] (eval i X.env)
      standAt pos
      holding [v, ov, iv] (setItem ov iv v)
      release [v, ov, iv] []) := by intro _; rfl) : DG X E (.Subscript o i pos) (gSb to ti) := by
  refine ⟨_, pg_sub ho.ok hi.ok (set_any hu) ha, fun {v d σ H s M Xd Qd Q} S x r t q => ?_⟩
  refine useE S x t fun od ov M1 H1 g1 S1 x1 r1 t1 => ?_
  refine useE S1 x1 t1 fun di iv M2 H2 g2 S2 x2 r2 t2 => ?_
  exact setK_ok (H0 := H) (M0 := M) S2.mem (Rv.grow g2 _ _ r1) r2 (Rv.grow g2 _ _ (Rv.grow g1 _ _ r)) t2 fun H3 M3 g3 m3 t3 => q _ _ ⟨s, M3, (g1.trans g2).trans g3, S2.grow g3 m3, t3⟩
/-- {k: v, ..}, changed later -/
def dPairs : List (Key × TED) → XD → SD → Mem → (List D → Mem → Prop) → Prop
  | [], _, _, M, Q => Q [] M
  | (_, t) :: r, Xd, s, M, Q => t Xd s M fun d M1 => dPairs r Xd s M1 fun ds M2 => Q (d :: ds) M2
def dDct (trs : List (Key × TED)) : TED := fun Xd s M Q => ∀ p, M p = none → dPairs trs Xd s (M.put p (.dct [] [])) fun ds M1 => M1 p = some (.dct [] []) ∧ Q (.ref p) (M1.put p (.dct (trs.map (·.1)) ds))
inductive DPs (X : Cx) (E : XK) (pos : Pos) : List (Option Expr) → List Expr → List (Key × TED) → List (TE × TE) → Prop
  | nil : DPs X E pos [] [] [] []
  | str {x : Str} {j : Nat} {p : Pos} {v : Expr} {t : TED} {ks : List (Option Expr)} {vs : List Expr} {r : List (Key × TED)} {q : List (TE × TE)} (hv : DE X E v t) (h : DPs X E pos ks vs r q) :
      DPs X E pos (some (.Constant (.str x) j p) :: ks) (v :: vs) ((.inr x, t) :: r) ((tC (.str x), liftE X.K E t) :: q)
theorem DPs.pps {ks : List (Option Expr)} {vs : List Expr} {r : List (Key × TED)} {q : List (TE × TE)} (h : DPs X E pos ks vs r q) : PPs X pos ks vs q := by
  induction h with
  | nil => exact pps_nil
  | str hv _ ih => exact pps_cons pe_str hv.ok ih
theorem DPs.lift {ks : List (Option Expr)} {vs : List Expr} {r : List (Key × TED)} {qs : List (TE × TE)} (h : DPs X E pos ks vs r qs) : ∀ {σ : L2.St} {H : Hp} {s : SD} {M : Mem} {Xd : XD} {Qd : List D → Mem → Prop} {Q : List (V × V) → Hp → Prop},
    StOk X.K σ H s M → XTo X.K H M Xd E → dPairs r Xd s M Qd → (∀ ds xs M' H', ds.length = r.length → Gw H M H' M' → StOk X.K σ H' s M' → Rs X.K H' M' ds xs → Qd ds M' → Q (((r.map (·.1)).zip xs).map fun kv => (kV kv.1, kv.2)) H') → tPairs qs σ H Q := by
  induction h with
  | nil =>
    intro σ H s M Xd Qd Q S x t q
    exact q [] [] M H rfl Gw.refl S rfl t
  | @str y j p v tt ks vs r qs hv _ ih =>
    intro σ H s M Xd Qd Q S x t q
    show tPairs ((tC (.str y), liftE X.K E tt) :: qs) σ H Q
    refine useE S x t fun d w M1 H1 g1 S1 x1 r1 t1 => ?_
    refine ih S1 x1 t1 fun ds xs M2 H2 e1 g2 S2 r2 t2 => ?_
    exact q (d :: ds) (w :: xs) M2 H2 (by simp [e1]) (g1.trans g2) S2 (Rs.cons (Rv.grow g2 _ _ r1) r2) t2
theorem merge_nodup : ∀ {more acc : List (Key × V)}, ((acc ++ more).map (·.1)).Nodup → mergeK acc more = acc ++ more
  | [], acc, _ => by show acc = acc ++ []; rw [List.append_nil]
  | p :: r, acc, nd => by
    have hn : valV acc p.1 = none := by
      cases e : valV acc p.1 with
      | none => rfl
      | some v =>
        exfalso
        unfold valV at e
        rw [Option.map_eq_some_iff] at e
        obtain ⟨kv, h1, _⟩ := e
        have hm := List.mem_of_find?_eq_some h1
        have hk : kv.1 = p.1 := by simpa using List.find?_some h1
        rw [List.map_append, List.map_cons] at nd
        have := (List.nodup_append.mp nd).2.2 kv.1 (List.mem_map.mpr ⟨kv, hm, rfl⟩) p.1 List.mem_cons_self
        exact this hk
    show mergeK (putK acc p.1 p.2) r = _
    rw [putK_new p.2 hn, merge_nodup (by rw [List.append_assoc]; exact nd), List.append_assoc]; rfl
theorem de_dct {keys : List (Option Expr)} {values : List Expr} {trs : List (Key × TED)} {qs : List (TE × TE)} (h : DPs X E pos keys values trs qs) (hall : keys.all (·.isSome) = true) (hl : keys.length = values.length) (h0 : keys ≠ []) (h15 : keys.length ≤ 15) (ht : trs.length ≤ 15)
    (nd : (trs.map (·.1)).Nodup) : DE X E (.Dict keys values pos) (dDct trs) :=
  ⟨PE.imp (pe_disp h.pps hall hl h0 h15) fun σ H Q ⟨s, M, Qd, Xd, S, x, t, q⟩ => fun p hp => by
    have t1 := t p (m_none S.mem hp)
    have gp : Gw H M (upd H p (.dK [])) (M.put p (.dct [] [])) := gw_own hp
    have mp : MOk X.K (upd H p (.dK [])) (M.put p (.dct [] [])) := mok_own S.mem hp (show MObj X.K (upd H p (.dK [])) (M.put p (.dct [] [])) p (.dct [] []) from ⟨[], upd_same, rfl, rfl⟩)
    refine h.lift (S.grow gp mp) (x.grow gp) t1 fun ds xs M2 H2 e1 g2 S2 r2 t2 => ?_
    obtain ⟨hm, t2⟩ := t2
    obtain ⟨ys, h1, _, h2⟩ := S2.mem p _ hm
    have e2 : (trs.map (·.1)).length = ds.length := by rw [List.length_map, e1]
    refine ⟨h1, (trs.map (·.1)).zip xs, rfl, ?_, ?_⟩
    · rw [List.length_zip, List.length_map]; omega
    · have hz : mergeK [] ((trs.map (·.1)).zip xs) = (trs.map (·.1)).zip xs := by
        rw [merge_nodup, List.nil_append]
        rw [List.nil_append, List.map_fst_zip (by rw [vlen r2, e2]; exact Nat.le_refl _)]
        exact nd
      rw [hz]
      exact q _ _ ⟨.ref p, M2.put p (.dct (trs.map (·.1)) ds), (gp.trans g2).trans (gw_put hm), mok_put S2.mem hm ⟨xs, upd_same, e2, Rs.grow (gw_put hm) _ _ r2⟩, rfl, t2⟩⟩
end
end DL
set_option maxHeartbeats 1000000
namespace DL
open PySem PySem.Spec PyProof.Rows L2
section
variable {X : Cx} {E : XK} {n k : Nat} {x : Str} {p pos p2 pos' apos : Pos} {e a b c tg o i value : Expr} {es : List Expr} {ts : TAD} {te ta tb td tv to : TED}
/-! ### append -/
def appK (d : D) (Q : QD) (p : Addr) : Mem → Prop := fun M => match M p with
  | some (.lst ds) => ds.length < sizeLine ∧ Q .non (M.put p (.lst (ds ++ [d])))
  | _ => False
def dApp (to te : TED) : TED := fun Xd s M Q => to Xd s M fun o M1 => match o with
  | .ref p => match M1 p with
    | some (.lst _) => te Xd s M1 fun d M2 => appK d Q p M2
    | _ => False
  | _ => False
theorem de_app (ho : DE X E o to) (he : DE X E e te) (hbase : attributeBase o "append" X.env (eval o X.env) = eval o X.env := by rfl)
    (hfew : ((backTo pos (starEach (e :: []) X.env)).all (fun x => !x.1) && (backToKw pos (keywordEach [] X.env)).all (fun x => x.1.isSome)
      && decide ((e :: []).length + ([] : List Keyword).length + (if ([] : List Keyword).isEmpty then 0 else 1) < 30)) = true := by rfl)
    (hline : (apos.endLine == pos.line) = true := by rfl) (hs : starEach (e :: []) X.env = (false, eval e X.env) :: starEach [] X.env := by rfl) : DE X E (.Call (.Attribute o "append" apos) [e] [] pos) (dApp to te) :=
  ⟨PE.imp (pe_bm PySem.F.plainAttrs_list PySem.F.slot_list_append PySem.F.type_list_append mt_append ho.ok (pa_cons he.ok pa_nil hs) hbase hfew hline hs (by rfl)) fun σ H Q ⟨s, M, Qd, Xd, S, x, t, q⟩ => by
    refine useE S x t fun od v M1 H1 g1 S1 x1 r1 t1 => ?_
    split at t1
    · rename_i l
      have ev : v = .ref l := r1
      split at t1
      · rename_i ds hm
        obtain ⟨xs, h1, h2⟩ := S1.mem l _ hm
        subst ev
        refine ⟨.inl ⟨rfl, xs, SqL.of h1⟩, ?_⟩
        refine useE S1 x1 t1 fun d w M2 H2 g2 S2 x2 r2 t2 => ?_
        unfold appK at t2
        split at t2
        · rename_i es he2
          obtain ⟨ys, h3, h4⟩ := S2.mem l _ he2
          refine ⟨l, ys, w, rfl, rfl, h3, by rw [vlen h4]; exact t2.1, q _ _ ⟨.non, M2.put l (.lst (es ++ [d])), (g1.trans g2).trans (gw_put he2), mok_put S2.mem he2 ⟨ys ++ [w], upd_same, Rs.grow (gw_put he2) _ _ (Rs.append h4 (Rs.cons r2 Rs.nil))⟩, rfl, t2.2⟩⟩
        · exact t2.elim
      · exact t1.elim
    · exact t1.elim⟩
/-! ### an empty dict -/
def dDctN : TED := fun _ _ M Q => ∀ p, M p = none → Q (.ref p) (M.put p (.dct [] []))
theorem de_dctN : DE X E (.Dict [] [] pos) dDctN := ⟨PE.imp pe_dnewK fun σ H Q ⟨s, M, Qd, Xd, S, x, t, q⟩ => fun p hp =>
  q _ _ ⟨.ref p, M.put p (.dct [] []), gw_own hp, mok_own S.mem hp (show MObj X.K (upd H p (.dK [])) (M.put p (.dct [] [])) p (.dct [] []) from ⟨[], upd_same, rfl, rfl⟩), rfl, t p (m_none S.mem hp)⟩⟩
/-! ### xs[::-1] of a list -/
def revK (Q : QD) : QD := fun d M => match lstO M d with
  | some ds => Q (.lst ds.reverse) M
  | none => False
def dRev (te : TED) : TED := fun Xd s M Q => te Xd s M (revK Q)
/-! ### ranges as values -/
theorem PRg.imp {t t' : L2.St → Hp → (Int → Int → Hp → Prop) → Prop} (h : PRg X e t) (i : ∀ σ H Q, t' σ H Q → t σ H Q) : PRg X e t' := fun pins s σ H Q I q => h pins s σ H Q I (i σ H Q q)
def rg1K (Q : Int → Int → Mem → Prop) : QD := fun d M => match d with
  | .int n => Q 0 n M
  | _ => False
def rg1 (te : TED) : XD → SD → Mem → (Int → Int → Mem → Prop) → Prop := fun Xd s M Q => te Xd s M (rg1K Q)
def dLstRg (t : XD → SD → Mem → (Int → Int → Mem → Prop) → Prop) : TED := fun Xd s M Q => t Xd s M fun i j M1 => RgOk i j ∧ Q (.lst (rngL i (j - i).toNat)) M1
def iRevD (t : XD → SD → Mem → (Int → Int → Mem → Prop) → Prop) : TID := fun Xd s M R => t Xd s M fun i j M1 => (-(2 ^ 62) ≤ i ∧ i < 2 ^ 62 ∧ -(2 ^ 62) ≤ j ∧ j < 2 ^ 62) ∧ R (rngL i (j - i).toNat).reverse none M1
/-! ### repr -/
/-- it can be shown -/
def ShOk (p : PyData) : Prop := p.showable = true ∧ p.shown.length ≤ sizeLine ∧ p.depth ≤ 60
end
end DL
set_option maxHeartbeats 1000000
namespace DL
open PySem PySem.Spec PyProof.Rows L2
/-! ### targets of clauses, by place -/
def GV (K : Fg) (vs : List Nat) (g : TGD) (g1 : TG) : Prop := ∀ {v : V} {d : D} {σ : L2.St} {H : Hp} {s : SD} {M : Mem} {Xd : XD} {Qd : SD → Mem → Prop} {Q : L2.St → Hp → Prop}, StOk K σ H s M → XTo K H M Xd E0 → Rv K H M d v → g d Xd s M Qd →
  (∀ σ' H', upS K H M Qd σ' H' → L2.wipe σ' vs = L2.wipe σ vs → Q σ' H') → g1 v σ H Q
def GVs (K : Fg) (vs : List Nat) (g : TGsD) (g1 : TGs) : Prop := ∀ {ws : List V} {ds : List D} {σ : L2.St} {H : Hp} {s : SD} {M : Mem} {Xd : XD} {Qd : SD → Mem → Prop} {Q : L2.St → Hp → Prop}, StOk K σ H s M → XTo K H M Xd E0 → Rs K H M ds ws → g ds Xd s M Qd →
  (∀ σ' H', upS K H M Qd σ' H' → L2.wipe σ' vs = L2.wipe σ vs → Q σ' H') → g1 ws σ H Q
section
variable {K : Fg} {vs : List Nat}
theorem gv_name {i : Nat} (h : i ∈ vs) : GV K vs (gNm i) (gName i) := fun S x r t q => q _ _ ⟨_, _, Gw.refl, S.set i r, t⟩ (wipe_set h)
theorem gvs_nil : GVs K vs gNi gNil := fun {ws ds σ H s M Xd Qd Q} S x r t q => by
  cases ds with
  | nil => exact ⟨r, q _ _ (upS_here S t) rfl⟩
  | cons d ds => exact t.elim
theorem gvs_cons {t : TGD} {u : TGsD} {g1 : TG} {g2 : TGs} (h1 : GV K vs t g1) (h2 : GVs K vs u g2) : GVs K vs (gCo t u) (gCons g1 g2) := fun {ws ds σ H s M Xd Qd Q} S x r t q => by
  cases ds with
  | nil => exact t.elim
  | cons d ds =>
    obtain ⟨v, vr, rfl, rd, rr⟩ := r
    refine ⟨v, vr, rfl, h1 S x rd t fun σ' H' ⟨s', M', g, S', z⟩ ew => ?_⟩
    exact h2 S' (x.grow g) (Rs.grow g _ _ rr) z fun σ2 H2 hu e2 => q σ2 H2 (fwdS (Q := fun a b => upS K H M Qd a b) g (fun _ _ c => c) σ2 H2 hu) (e2.trans ew)
theorem gv_tup {n : Nat} {t : TGsD} {g1 : TGs} (h : GVs K vs t g1) : GV K vs (gTp n t) (gTup K n g1) := fun {v d σ H s M Xd Qd Q} S x r t q => by
  unfold gTp at t
  split at t
  · rename_i ds hd
    obtain ⟨a, xs, rfl, ha, sa⟩ := vw_tup r hd
    exact ⟨a, xs, rfl, ha.sq, by rw [vlen sa]; exact t.1, h S x sa t.2 q⟩
  · exact t.elim
end
section
variable {X : Cx} {E : XK} {pos : Pos} {tg : Expr} {te : TED}
theorem de_comp {elt iter : Expr} {ifs : List Expr} {scope : Scope} (own : List (Str × Nat)) {ti : TID} {g : TGD} {tt : TTD} (g1 : TG) (hc : X.calm = true) (hN : X.N.Nodup) (hi : DI X E tg iter ti) (ok : BlkOk X.N X.env.scope scope own)
    (hg : ∀ (s : Shared) (H : Hp) (C : Addr) (cl : List (Str × Addr)) (fp : List Addr), PG (X.blk s H scope (compEnvC scope cl C X.env) fp) tg g1) (hq : GV X.K (own.map (·.2)) g g1)
    (ht : ∀ (s : Shared) (H : Hp) (C : Addr) (cl : List (Str × Addr)) (fp : List Addr), DTs (X.blk s H scope (compEnvC scope cl C X.env) fp) E0 ifs tt)
    (he : ∀ (s : Shared) (H : Hp) (C : Addr) (cl : List (Str × Addr)) (fp : List Addr), DE (X.blk s H scope (compEnvC scope cl C X.env) fp) E0 elt te) (hs : ∀ x, foldedSetIterable iter X.env x = pure x := by intro _; rfl) :
    DE X E (.ListComp elt [⟨tg, iter, ifs, 0⟩] scope pos) (dLc ti g tt te (own.map (·.2))) := de_lc hc hN hi ok g1 hg hq ht he hs
theorem ds_setComp {i : Nat} {y : Str} {py spos : Pos} {elt iter : Expr} {ifs : List Expr} {scope : Scope} (own : List (Str × Nat)) {ti : TID} {g : TGD} {tt : TTD} (g1 : TG) (hc : X.calm = true) (hN : X.N.Nodup) (hy : X.N[i]? = some y) (hyl : X.env.scope.names.lookup y = some .local)
    (hsw : swapsWith (.ListComp elt [⟨tg, iter, ifs, 0⟩] scope pos) (some (.Name y py)) spos.line X.env = pure true) (hi : DI X E tg iter ti) (ok : BlkOk X.N X.env.scope scope own)
    (hg : ∀ (s : Shared) (H : Hp) (C : Addr) (cl : List (Str × Addr)) (fp : List Addr), PG (X.blk s H scope (compEnvC scope cl C X.env) fp) tg g1) (hq : GV X.K (own.map (·.2)) g g1)
    (ht : ∀ (s : Shared) (H : Hp) (C : Addr) (cl : List (Str × Addr)) (fp : List Addr), DTs (X.blk s H scope (compEnvC scope cl C X.env) fp) E0 ifs tt)
    (he : ∀ (s : Shared) (H : Hp) (C : Addr) (cl : List (Str × Addr)) (fp : List Addr), DE (X.blk s H scope (compEnvC scope cl C X.env) fp) E0 elt te) (hs : ∀ x, foldedSetIterable iter X.env x = pure x := by intro _; rfl) :
    DS X E (.Assign [.Name y py] (.ListComp elt [⟨tg, iter, ifs, 0⟩] scope pos) spos) (sSet i (dLc ti g tt te (own.map (·.2)))) := ds_setLc hc hN hy hyl hsw hi ok g1 hg hq ht he hs
end
/-- what a callee lets out leaves the def -/
theorem pBody {P : Program} {w : World} {K : Fg} {mg : Str → Option Value} {base : Heap} {N : List Str} {qual : Str} {sc : Scope} {f : Addr} {cdv : Value} {A : Around} {outer : List Env} {s : Shared} {H : Hp} {E : XK} :
    Passes (L2.CX P w) (cxOf (L2.CX P w) P w K mg base N qual sc f cdv A outer s H E) E :=
  passes_call (takes_of rfl rfl rfl rfl) fun _ _ _ _ h => h
theorem oBody {P : Program} {w : World} {K : Fg} {mg : Str → Option Value} {base : Heap} {N : List Str} {qual : Str} {sc : Scope} {f : Addr} {cdv : Value} {A : Around} {outer : List Env} {s : Shared} {H : Hp} {E : XK} :
    PassesOwn (model P w) (cxOf (L2.CX P w) P w K mg base N qual sc f cdv A outer s H E).A (cxOf (L2.CX P w) P w K mg base N qual sc f cdv A outer s H E).env (cxOf (L2.CX P w) P w K mg base N qual sc f cdv A outer s H E).xe :=
  passes_of rfl
theorem dfn0 {P : Program} {w : World} {K : Fg} {mg : Str → Option Value} {base : Heap} {k : Nat} {f : Addr} {fd : FuncData} {ps : List Str} : DFn P w K mg base k f fd ps (fun _ _ _ _ => False) :=
  ⟨fun A outer s H M args us vs ds Qd Xd Q E hr e0 hl hb hv mo rs t => t.elim⟩
theorem rs0 {K : Fg} (H : Hp) (M : Mem) : Rs K H M [] [] := rfl
end DL
set_option maxHeartbeats 1000000
namespace PySem
namespace HandSPX
open Builtin Builtin.ObjectAttr
section
variable {M : Model} {A : Around} {E : Value → Shared → Prop} {h : Heap} {g : Array GenState} {d : Drawn} {t : Nat} {os : OsState}
variable {nm q : Str} {C N : Addr} {bs bm bmB : List Value} {hdct : Bool} {sn : List Str} {sub : List Value} {ab : Bool} {col : Option Bool} {dd : Option Addr} {k0 k1 k2 k3 k5 : Option Value} {B newId initId : String}
variable {prog : Program} {w : World} {R : Result → Shared → Prop} {kw : List (Str × Value)}
theorem dlk_check (F : ExcBaseFacts B newId initId bmB) (hT : ∀ X : String, bm.contains (.type X) = bmB.contains (.type X)) {rest : List Value} {Q : Unit → Shared → Prop}
    (hC : h.get? C = some (excClassObj nm q C N bs bm hdct sn sub ab col dd k0 k1 k2 k3 k5 newId)) (hq : Q () ⟨h, g, d, t, os⟩) : wpAny M A (checkBuiltinCall newId ⟨.ref C :: rest, kw⟩) Q E ⟨h, g, d, t, os⟩ := by
  have hc1 : (Value.ref C :: bm).contains (.type B) = true := by rw [List.contains_cons, hT, F.hasB, Bool.or_true]
  have hs1 := F.noStar
  simp only [checkBuiltinCall, F.newKind, F.newSplit, F.newRow]
  repeat (first | refine wpAny_loadPart_at hC ?_ | (refine wpAny_isSubtype_exc hC ?_; rw [hc1]) | refine wpAny_staticBase_exc hC ?_ | refine wpAny_madeBy_exc hC ?_ | simp only [bne_self_eq_false, Bool.false_eq_true, if_false] | wp_step)
  exact hq
theorem dlk_new (F : ExcBaseFacts B newId initId bmB) (hT : ∀ X : String, bm.contains (.type X) = bmB.contains (.type X)) {rest : List Value}
    (hC : h.get? C = some (excClassObj nm q C N bs bm hdct sn sub ab col dd k0 k1 k2 k3 k5 newId))
    (hq : R (.ok (.ret (.ref (h.objs.size + 1)))) ⟨(h.push (W.kdv_tup rest)).push (excO C h.objs.size), g, d, t, os⟩) (hz : rest.length ≤ sizeLine) :
    codeAny (model prog w) A (.builtin newId ⟨.ref C :: rest, kw⟩) R ⟨h, g, d, t, os⟩ := by
  have hends := F.ends
  have c1 : (Value.ref C :: bm).contains (.type B) = true := by rw [List.contains_cons, hT, F.hasB, Bool.or_true]
  have c2 : (Value.ref C :: bm).contains (.type "AttributeError") = false := by rw [List.contains_cons, hT, F.noAttr]; rfl
  have c3 : (Value.ref C :: bm).contains (.type "NameError") = false := by rw [List.contains_cons, hT, F.noName]; rfl
  refine codeAny_builtinAt F.entry ?_
  unfold Builtin.«BaseException.__new__»
  refine wpAt_bind ?_
  show wpAt _ _ _ (stack >>= _) _ _ _
  refine wpAt_bind (wpAt_stack fun p below => wpAt_of_wpAny ?_)
  wp_walk
  refine wpAt_of_wpAny ?_
  rw [F.owner]
  repeat (first | with_reducible refine wpAny_madeHere_exc F.canon hC ?_ | with_reducible refine wpAny_loadPart_at hC ?_ | (with_reducible refine wpAny_isSubtype_exc hC ?_; first | rw [c1] | rw [c2] | rw [c3]) | wp_step)
  show R _ _
  rw [Heap.size_push]; exact hq
theorem dlk_type (F : ExcBaseFacts B newId initId bmB) (hT : ∀ X : String, bm.contains (.type X) = bmB.contains (.type X)) {rest : List Value} {fI : Addr} {Q : Fin → Shared → Prop}
    (hC : h.get? C = some (excClassObj nm q C N bs bm hdct sn sub ab col dd k0 k1 k2 k3 k5 newId))
    (hi : W.Looks (model prog w) h (typeLookup (.ref C) "__init__") (some (.ref fI))) (hb : ∀ self, W.Looks (model prog w) h (bindSpecial (.ref fI) self) (.ref fI, [self])) (hz : rest.length ≤ sizeLine)
    (hq : codeAny (model prog w) A (.call (.ref fI) ⟨.ref (h.objs.size + 1) :: rest, kw⟩)
      (fun r s' => match r with | .ok (.ret v) => v = .none ∧ Q (.done (.ret (.ref (h.objs.size + 1)))) s' | .ok _ => False | .error e => E e s') ⟨(h.push (W.kdv_tup rest)).push (excO C h.objs.size), g, d, t, os⟩) :
    wpAny (model prog w) A (Builtin.«type.__call__» ⟨.ref C :: rest, kw⟩) Q E ⟨h, g, d, t, os⟩ := by
  have hF := F.toExcCallFacts
  repeat (first | with_reducible refine wpAny_loadPart_at hC ?_ | with_reducible refine wpAny_madeBy_exc hC ?_ | wp_step)
  refine codeAny_call_builtin_code (Code.quiet_builtin _ F.quiet) (dlk_check F hT hC ?_)
  refine dlk_new F hT hC ?_ hz
  show wpAny _ _ _ _ _ _
  have kp : ∀ b o, h.get? b = some o → ((h.push (W.kdv_tup rest)).push (excO C h.objs.size)).get? b = some o := fun b o e => Heap.get?_push_of_some _ (Heap.get?_push_of_some _ e)
  have hC1 := kp _ _ hC
  have hg1 : ((h.push (W.kdv_tup rest)).push (excO C h.objs.size)).get? (h.objs.size + 1) = some (excO C h.objs.size) := by heap_get
  have hcc : (Value.ref C :: bm).contains (.ref C) = true := by simp
  have i1 := hi.keeps kp
  have b1 := (hb (.ref (h.objs.size + 1))).keeps kp
  unfold isInstance
  repeat (first | with_reducible refine wpAny_loadPart_at hg1 ?_ | (with_reducible refine wpAny_isSubtype_exc hC1 ?_; rw [hcc]) | wp_step)
  show wpAny _ _ (typeLookup (.ref C) _) _ _ _
  refine i1.at (wpAny_holding (wpAny_bind (b1.at (wpAny_bind (wpAny_call (codeAny_mono hq fun r s' z => ?_))))))
  rcases r with e | (v | _ | _ | _) <;> first | exact z | exact z.elim | skip
  obtain ⟨rfl, z⟩ := z
  first
    | exact wpAny_pure (wpAny_pure z)
    | (wp_walk; exact z)
theorem dlk_call (F : ExcBaseFacts B newId initId bmB) (hT : ∀ X : String, bm.contains (.type X) = bmB.contains (.type X)) {rest : List Value} {fI : Addr}
    (hC : h.get? C = some (excClassObj nm q C N bs bm hdct sn sub ab col dd k0 k1 k2 k3 k5 newId))
    (hi : W.Looks (model prog w) h (typeLookup (.ref C) "__init__") (some (.ref fI))) (hb : ∀ self, W.Looks (model prog w) h (bindSpecial (.ref fI) self) (.ref fI, [self])) (hz : rest.length ≤ sizeLine)
    (hq : codeAny (model prog w) (A.under (.builtin "type.__call__" ⟨.ref C :: rest, kw⟩)) (.call (.ref fI) ⟨.ref (h.objs.size + 1) :: rest, kw⟩) (W.InitBack (h.objs.size + 1) R) ⟨(h.push (W.kdv_tup rest)).push (excO C h.objs.size), g, d, t, os⟩) :
    codeAny (model prog w) A (.call (.ref C) ⟨rest, kw⟩) R ⟨h, g, d, t, os⟩ := by
  have f1 := tc_lookup
  have f2 := tc_bind (.ref C)
  have hTy : (⟨h, g, d, t, os⟩ : Shared).TypeIs (.ref C) "type" := ⟨_, hC, rfl⟩
  refine codeAny_of_tree ?_
  show wpAny _ _ (callAny (.ref C) _) _ _ _
  repeat (any_goals (first | assumption | with_reducible refine wpAny_loadPart_at hC ?_ | wp_step))
  refine ⟨rfl, codeAny_call_builtin_at (Code.quiet_builtin _ (by decide +kernel)) entry_typeCall (wpAny_check_type_call_sub hC (dlk_type F hT hC hi hb hz ?_))⟩
  refine codeAny_mono hq fun r s' z => ?_
  rcases r with e | (v | _ | _ | _) <;> exact z
end
end HandSPX
end PySem
namespace DL
open PySem PySem.Spec PyProof.Rows L2
/-! ### an own class of exceptions over any built-in one -/
structure OexG (K : Fg) (C : Addr) : Prop where
  ex : ∃ B newId initId bmB, ExcBaseFacts B newId initId bmB ∧ StoreFacts B bmB "object.__setattr__" "object" ∧ PySem.W.excInitIn K C bmB newId = true ∧ PySem.W.excOver K C bmB = true
  hd : PySem.W.hasDictIn K C = true
  sa : PySem.W.findIn K (.ref C) "__setattr__" = some (some (.builtin "object.__setattr__"))
  exC : PySem.W.subIn K (.ref C) (.type "BaseException") = some true
  tyC : PySem.W.typeIn K (.ref C) = some (.type "type")
  kC : PySem.W.keepIn K (.ref C) = true
section
open PySem.W PySem.HandSPX Builtin Builtin.ObjectAttr
variable {prog : Program} {w : World} {A : Around} {E : Value → Shared → Prop} {R : Result → Shared → Prop} {hp : Heap} {g : Array GenState} {d : Drawn} {t : Nat} {os : OsState}
theorem osg_new {K : Fg} {name : Str} {tk : Tok} {v : Value} {x C : Addr} {fv : Array Value} (T : OexG K C) (X : K.In hp) (hx : hp.get? x = some { cls := .ref C, data := .fields fv }) (ha : findIn K (.ref C) name = some none)
    (hq : ∀ h' tk' dx, (∀ b o, b ≠ x → hp.get? b = some o → h'.get? b = some o) → hp.objs.size ≤ dx → dx ≠ x → h'.get? x = some { cls := .ref C, dict := some dx, data := .fields fv } → h'.Ns1 dx (fun y => if y = name then some v else none) → R (.ok (.ret .none)) ⟨h', g, d, tk', os⟩) :
    codeAny (model prog w) A (.call (.builtin "object.__setattr__") ⟨[.ref x, .str name tk, v], []⟩) R ⟨hp, g, d, t, os⟩ := by
  obtain ⟨B, newId, initId, bmB, F1, SF, _, ov⟩ := T.ex
  have I : InstAt hp x { cls := .ref C, data := .fields fv } C none := ⟨hx, rfl, rfl, trivial⟩
  have hxs : x ≠ hp.objs.size := Nat.ne_of_lt (Heap.lt_size hx)
  obtain ⟨cd, hcd, hh⟩ := any_some T.hd
  refine osa_openX SF X I ov (r := none) (by unfold takerIn; rw [ha]; rfl) fun b => ?_
  have hcls : Looks (model prog w) hp (classData C) cd := looks_clsIn X hcd
  show wpAny _ _ (storeInOwnDict (.ref x) (.ref C) (.str name tk) name v b) _ _ _
  obtain ⟨nm, bs, mro, ns, qn, hd, sn, sb, ab, col, del⟩ := cd
  dsimp only at hh
  subst hh
  unfold storeInOwnDict ownDictForStores
  repeat (first | with_reducible refine store_in_new ?_ ?_ | with_reducible refine wpAny_loadPart_at hx ?_ | with_reducible refine hcls.at ?_ | wp_step)
  · exact ⟨_, #[], _, (Heap.get?_update_ne _ _ _ _ hxs.symm).trans (Heap.get?_push_at rfl rfl), rfl, fun e he => absurd he (by simp), fun _ => rfl⟩
  · intro h' tk' hn' hs
    have hx1 : (hp.push { cls := .type "dict", data := .dict #[] }).get? x = some { cls := .ref C, data := .fields fv } := Heap.get?_push_of_some _ hx
    refine hq h' tk' hp.objs.size (fun b o hb ho => ?_) (Nat.le_refl _) hxs.symm ?_ hn'
    · exact (hs.2 b (Nat.ne_of_lt (Heap.lt_size ho))).trans ((Heap.get?_update_ne _ _ _ _ hb).trans (Heap.get?_push_of_some _ ho))
    · exact (hs.2 x hxs).trans (Heap.get?_update_self _ hx1 rfl)
theorem osg_old {K : Fg} {name : Str} {tk : Tok} {v : Value} {x C dx : Addr} {fv : Array Value} {m0 : Str → Option Value} {nl : List Str} (T : OexG K C)
    (X : K.In hp) (hx : hp.get? x = some { cls := .ref C, dict := some dx, data := .fields fv }) (hns : hp.Ns1 dx m0) (hw : Within m0 nl) (hz : nl.length ≤ 1000) (ha : findIn K (.ref C) name = some none)
    (hq : ∀ h' tk', (∀ b o, b ≠ dx → hp.get? b = some o → h'.get? b = some o) → h'.Ns1 dx (fun y => if y = name then some v else m0 y) → R (.ok (.ret .none)) ⟨h', g, d, tk', os⟩) :
    codeAny (model prog w) A (.call (.builtin "object.__setattr__") ⟨[.ref x, .str name tk, v], []⟩) R ⟨hp, g, d, t, os⟩ := by
  obtain ⟨B, newId, initId, bmB, F1, SF, _, ov⟩ := T.ex
  obtain ⟨oD, esD, epD, hoD, hdD, _⟩ := hns.count hw
  have I : InstAt hp x { cls := .ref C, dict := some dx, data := .fields fv } C (some oD) := ⟨hx, rfl, rfl, hoD⟩
  obtain ⟨cd, hcd, hh⟩ := any_some T.hd
  refine osa_openX SF X I ov (r := none) (by unfold takerIn; rw [ha]; rfl) fun b => ?_
  have hcls : Looks (model prog w) hp (classData C) cd := looks_clsIn X hcd
  show wpAny _ _ (storeInOwnDict (.ref x) (.ref C) (.str name tk) name v b) _ _ _
  obtain ⟨nm, bs, mro, ns, qn, hd, sn, sb, ab, col, del⟩ := cd
  dsimp only at hh
  subst hh
  unfold storeInOwnDict ownDictForStores
  repeat (first | with_reducible refine PySem.OEX.store_in_old hns hw hz ?_ | with_reducible refine wpAny_loadPart_at hx ?_ | with_reducible refine hcls.at ?_ | wp_step)
  intro h' tk' hn' hs
  exact hq h' tk' (fun b o hb ho => (hs.2 b hb).trans ho) hn'
end
end DL
set_option maxHeartbeats 1000000
namespace DL
open PySem PySem.Spec PyProof.Rows L2
/-! ### fields stored -/
section
variable {X : Cx} {pins : List (Addr × Obj)} {σ : L2.St} {H : Hp} {s : Shared} {a C dx : Addr} {f : Str} {y : V} {u : Value} {fs : List (Str × V)} {Q : Unit → Shared → Prop} {E : Value → Shared → Prop} {A : Around}
theorem osv_new (T : OexG X.K C) (I : Inv X pins σ H s) (e : H a = some (exo a C none)) (hno : PySem.W.findIn X.K (.ref C) f = some none) (ry : RelV y u)
    (h : ∀ dx s', H dx = none → dx ≠ a → Inv X pins σ (upd (upd H dx (exd dx [(f, y)])) a (exo a C (some dx))) s' → Q () s') : wpAny (model X.prog X.w) A (setAttr (.ref a) f u) Q E s := by
  obtain ⟨t1, ho⟩ := exo_at I.hok e
  obtain ⟨hp, ge, d, tk, os⟩ := s
  refine PySem.W.set_plain I.kIn (ox := { cls := .ref C, dict := none, data := .fields #[.ref t1, .none, .none, .none, .bool false, .none] }) (od := none) ⟨ho, rfl, rfl, trivial⟩ T.sa (osg_new T I.kIn ho hno fun h' tk' dx k dn dne hx hn => ?_)
  have hnd : H dx = none := I.hok.fresh dn
  have nd : ∀ {b : Addr} {o : Obj}, hp.get? b = some o → b ≠ dx := fun {b o} q => Nat.ne_of_lt (Nat.lt_of_lt_of_le (Heap.lt_size q) dn)
  have na : ∀ {b : Addr}, H b = none → b ≠ a := fun {b} n z => by rw [z, e] at n; cases n
  have U : Un X.fs [] H (upd (upd H dx (exd dx [(f, y)])) a (exo a C (some dx))) hp h' :=
    ⟨fun b o q n _ _ => k b o (na n) q, fun b o q n _ _ => ⟨o.slots, k b o (na n) q⟩, fun b o q n _ => by rw [upd_ne (na n), upd_ne (nd q)]; exact n,
      fun b o q _ => by
        by_cases hb : b = a
        · exact ⟨_, by rw [hb]; exact hx⟩
        · exact ⟨o, k b o hb q⟩,
      fun b xs q => by rw [upd_ne (at_ne e q exo_tup), upd_ne (ne_of_none q hnd)]; exact q, fun b o v q => by rw [upd_ne (at_ne e q exo_frz), upd_ne (ne_of_none q hnd)]; exact q,
      fun b ps q => ⟨#[], by rw [upd_ne (at_ne e q exo_tbl), upd_ne (ne_of_none q hnd), q]; simp⟩⟩
  refine h dx _ hnd dne (I.un (t' := tk') U fun b o q => ?_)
  by_cases hb : b = a
  · subst hb; rw [upd_same] at q; cases q; exact exo_ok hx
  · rw [upd_ne hb] at q
    by_cases hd : b = dx
    · subst hd; rw [upd_same] at q; cases q; exact exd_ok hn (relO_put (fs := []) ry fun g => True.intro)
    · rw [upd_ne hd] at q
      exact (I.hok b o q).stay (fun c v hc z => k c v (hc.elim (fun hc => by rw [hc]; exact hb) fun hc => at_ne e hc exo_own) z)
        (fun c hc => by rw [upd_ne (at_ne e hc exo_own), upd_ne (ne_of_none hc hnd)]; exact hc) (fun c xs hc => by rw [upd_ne (at_ne e hc exo_tup), upd_ne (ne_of_none hc hnd)]; exact hc)
theorem osv_old (T : OexG X.K C) (I : Inv X pins σ H s) (e : H a = some (exo a C (some dx))) (ed : H dx = some (exd dx fs)) (hl : fs.length ≤ 900) (hno : PySem.W.findIn X.K (.ref C) f = some none) (ry : RelV y u)
    (h : ∀ s', Inv X pins σ (upd H dx (exd dx ((f, y) :: fs))) s' → Q () s') : wpAny (model X.prog X.w) A (setAttr (.ref a) f u) Q E s := by
  obtain ⟨t1, ho⟩ := exo_at I.hok e
  obtain ⟨mA, hns, rel⟩ := exd_at I.hok ed
  obtain ⟨hp, ge, d, tk, os⟩ := s
  obtain ⟨oD, _, _, hoD, _, _⟩ := hns.count (within_of rel)
  refine PySem.W.set_plain I.kIn (ox := { cls := .ref C, dict := some dx, data := .fields #[.ref t1, .none, .none, .none, .bool false, .none] }) (od := some oD) ⟨ho, rfl, rfl, hoD⟩ T.sa
    (osg_old T I.kIn ho hns (within_of rel) (by rw [List.length_map]; omega) hno fun h' tk' k hn => ?_)
  have hd : ∃ o, h'.get? dx = some o := by obtain ⟨o, _, _, e', _⟩ := hn; exact ⟨o, e'⟩
  exact h _ (I.write (t' := tk') (x := dx) (e := dx) (o := exd dx ((f, y) :: fs)) (by rw [ed]; exact True.intro) (.inl rfl) k hd (exd_ok hn (relO_put ry rel)))
def tOsg (K : Fg) (f : Str) (to te : TE) : TS := fun D σ H => te σ H fun y H1 => to σ H1 fun x H2 => ∃ a C : Addr, x = .ref a ∧ OexG K C ∧ PySem.W.findIn K (.ref C) f = some none ∧
  ((H2 a = some (exo a C none) ∧ ∀ dx, H2 dx = none → dx ≠ a → D.nx σ (upd (upd H2 dx (exd dx [(f, y)])) a (exo a C (some dx)))) ∨
    ∃ (dx : Addr) (fs : List (Str × V)), H2 a = some (exo a C (some dx)) ∧ H2 dx = some (exd dx fs) ∧ fs.length ≤ 900 ∧ D.nx σ (upd H2 dx (exd dx ((f, y) :: fs))))
theorem ps_osg {o e : Expr} {to te : TE} {p' pos : Pos} (ho : PE X o to) (he : PE X e te) (hs : swapsWith e (some (.Attribute o f p')) pos.line X.env = pure false := by rfl) : PS X (.Assign [.Attribute o f p'] e pos) (tOsg X.K f to te) := by
  refine ⟨fun pins s σ H D I h => plainObj_wpAny_Assign_Attribute (thn (he.run pins s σ H _ I h) fun v s1 ⟨y, H1, I1, r1, q1⟩ => thn (ho.run pins s1 σ H1 _ I1 q1) fun u s2 ⟨x, H2, I2, r2, a, C, ex, T, hno, q⟩ => ?_) hs⟩
  subst ex
  obtain rfl : u = Value.ref a := r2
  rcases q with ⟨ea, q⟩ | ⟨dx, fs, ea, ed, hl, q⟩
  · exact osv_new T I2 ea hno r1 fun dx s' n ne J => ⟨σ, _, J, q dx n ne⟩
  · exact osv_old T I2 ea ed hl hno r1 fun s' J => ⟨σ, _, J, q⟩
end
/-! ### what an own __init__ of an exception leaves -/
/-- the exception at its address gets a dict of its fields ns, the last one stored first -/
def spEx (C : Addr) (ns : List Str) : Sp := fun vs H Q _ => ∃ a xs, vs = .ref a :: xs ∧ xs.length = ns.length ∧ H a = some (exo a C none) ∧
  ∀ d H', H d = none → d ≠ a → H' a = some (exo a C (some d)) → H' d = some (exd d (ns.zip xs.reverse)) → (∀ b, b ≠ a → b ≠ d → H' b = H b) → Q .non H'
theorem spEx_len {C : Addr} {ns ps : List Str} (h : ps.length = ns.length + 1) : ∀ vs H Q E, spEx C ns vs H Q E → vs.length = ps.length := fun vs H Q E ⟨a, xs, e, l, _⟩ => by
  rw [e, List.length_cons, l, h]
section
variable {X : Cx} {K : Fg} {C : Addr} {f g : Str} {p1 p2 p3 p4 p5 p6 p7 p8 : Pos}
theorem init_one {x : Str} (T : OexG X.K C) (hN : X.N = [("self" : Str), x]) (hno : PySem.W.findIn X.K (.ref C) f = some none) (ps : PE X (.Name "self" p1) (tVar 0)) (px : PE X (.Name x p3) (tVar 1)) {vs : List V} {H : Hp} {Q : VK} {E : XK} (h : spEx C [f] vs H Q E) :
    ∃ t, PSs X [.Assign [.Attribute (.Name "self" p1) f p2] (.Name x p3) p4] t ∧ t { nx := fun _ H' => Q .non H', rt := Q } (start X.N vs) H := by
  obtain ⟨a, xs, e, l, ha, q⟩ := h
  obtain ⟨v, rfl⟩ : ∃ v, xs = [v] := by
    match xs, l with
    | [v], _ => exact ⟨v, rfl⟩
  subst e
  refine ⟨_, pss_one (ps_osg ps px), ?_⟩
  rw [hN]
  refine ⟨v, rfl, .ref a, rfl, a, C, rfl, T, hno, .inl ⟨ha, fun dx hn ne => ?_⟩⟩
  refine q dx _ hn ne upd_same ?_ fun b h1 h2 => ?_
  · rw [upd_ne ne, upd_same]; rfl
  · rw [upd_ne h1, upd_ne h2]
theorem init_two {x y : Str} (T : OexG X.K C) (hN : X.N = [("self" : Str), x, y]) (hf : PySem.W.findIn X.K (.ref C) f = some none) (hg : PySem.W.findIn X.K (.ref C) g = some none) (ps : PE X (.Name "self" p1) (tVar 0)) (px : PE X (.Name x p3) (tVar 1))
    (ps2 : PE X (.Name "self" p5) (tVar 0)) (py : PE X (.Name y p7) (tVar 2)) {vs : List V} {H : Hp} {Q : VK} {E : XK} (h : spEx C [g, f] vs H Q E) :
    ∃ t, PSs X [.Assign [.Attribute (.Name "self" p1) f p2] (.Name x p3) p4, .Assign [.Attribute (.Name "self" p5) g p6] (.Name y p7) p8] t ∧ t { nx := fun _ H' => Q .non H', rt := Q } (start X.N vs) H := by
  obtain ⟨a, xs, e, l, ha, q⟩ := h
  obtain ⟨v, u, rfl⟩ : ∃ v u, xs = [v, u] := by
    match xs, l with
    | [v, u], _ => exact ⟨v, u, rfl⟩
  subst e
  refine ⟨_, pss_cons (ps_osg ps px) (pss_one (ps_osg ps2 py)), ?_⟩
  rw [hN]
  refine ⟨v, rfl, .ref a, rfl, a, C, rfl, T, hf, .inl ⟨ha, fun dx hn ne => ?_⟩⟩
  refine ⟨u, rfl, .ref a, rfl, a, C, rfl, T, hg, .inr ⟨dx, [(f, v)], upd_same, ?_, (by show 1 ≤ 900; decide), ?_⟩⟩
  · rw [upd_ne ne, upd_same]
  · refine q dx _ hn ne ?_ ?_ fun b h1 h2 => ?_
    · rw [upd_ne (Ne.symm ne), upd_same]
    · rw [upd_same]; rfl
    · rw [upd_ne h2, upd_ne h1, upd_ne h2]
end
/-! ### made and held -/
theorem mok_keep {K : Fg} {H H' : Hp} {M : Mem} (mo : MOk K H M) (k : ∀ a o, H a = some o → H' a = some o) : MOk K H' M := fun a m e => by
  have gw : Gw H M H' M := fun b u h z _ => ⟨k b u h, z⟩
  have q := mo a m e
  cases m with
  | lst ds => obtain ⟨xs, h1, h2⟩ := q; exact ⟨xs, k _ _ h1, Rs.grow gw ds xs h2⟩
  | dct ks ds => obtain ⟨xs, h1, h2, h3⟩ := q; exact ⟨xs, k _ _ h1, h2, Rs.grow gw ds xs h3⟩
  | ins C ns ds => obtain ⟨dx, xs, h1, h2, h3, h4, h5⟩ := q; exact ⟨dx, xs, k _ _ h1, h2, k _ _ h3, h4, Rs.grow gw ds xs h5⟩
  | gen φ ds => exact q.elim
  | tab q0 => obtain ⟨ps, h1, _⟩ := id q; exact TabAt.keep q ((k _ _ h1).trans h1.symm) gw
/-- what stands of a class of exceptions with an own __init__ that keeps the fields ns -/
structure MkOk (P : Program) (w : World) (K : Fg) (mg : Str → Option Value) (base : Heap) (k : Nat) (C : Addr) (ns ps : List Str) : Prop where
  T : OexG K C
  ex : ∃ (fI : Addr) (fd : FuncData), PySem.W.findIn K (.ref C) "__init__" = some (some (.ref fI)) ∧ PySem.W.typeIn K (.ref fI) = some (.type "function") ∧
    FnOk P w K mg base (L2.CX P w) k fI fd ps (spEx C ns) ∧ Binds K fd ps []
def dMk (C : Addr) (ns : List Str) (t : TAD) : TED := fun Xd s M Q => t Xd s M fun ds M1 => Q (.exn C ns ds.reverse) M1
def sRaise (C : Addr) (ns : List Str) (t : TAD) : TSD := fun Y s M => t Y.ex s M fun ds M1 => Y.ex C ns ds.reverse M1
section
variable {X : Cx} {E : XK} {n k : Nat} {C : Addr} {ns ps : List Str} {x : Str} {p pos : Pos} {e : Expr} {es : List Expr} {ts : TAD}
theorem pmk_mkv {ta : TA} (Z : MkOk X.prog X.w X.K X.mg X.base k C ns ps) (hr : Room (k + 1) X.A) (hx : Passes (L2.CX X.prog X.w) X (fun _ _ _ => False)) (hg : Gl X x) (hm : X.mg x = some (.ref C)) (ha : PA X (e :: es) ta)
    (hdb : (x == ("__debug__" : Str)) = false := by decide) (he : starEach (e :: es) X.env = (false, eval e X.env) :: starEach es X.env := by rfl) (hpl : (backTo pos (starEach es X.env)).any (·.1) = false := by rfl) :
    PMk X (.Call (.Name x p) (e :: es) [] pos) (fun σ H Q => ta σ H fun vs H1 => vs.length = ns.length ∧ vs.length ≤ 1000 ∧ ∀ d H2, H1 d = none → H2 d = some (.xd (ns.zip vs.reverse)) → (∀ b o, H1 b = some o → H2 b = some o) → Q (.ref C) (some d) H2) := by
  intro pins s σ H Q I h
  obtain ⟨fI, fd, iC, tI, F1, hb⟩ := Z.ex
  obtain ⟨B, newId, initId, bmB, FB, SF, xi, ov⟩ := Z.T.ex
  refine wpAny_Call_Name_kw (ld_glob I hg hm (PySem.W.callWith_K (h₀ := X.base) I.ok.mod.kin Z.T.kC (thn (ha.run pos pins s σ H _ I h) fun us s1 ⟨vs, H1, I1, r1, hl, hz, q1⟩ => ⟨I1.kIn, ?_⟩) he hpl) hdb)
  obtain ⟨hp, ge, dr, tk, os⟩ := s1
  have hsz := Nat.le_succ hp.objs.size
  have hn : H1 (hp.objs.size + 1) = none := I1.hok.fresh hsz
  have I2 := I1.laid (t' := tk) (a := hp.objs.size + 1) (o := exo (hp.objs.size + 1) C none) (h' := (hp.push (PySem.W.kdv_tup us)).push (PySem.HandSPX.excO C hp.objs.size)) (fun b o z => Heap.get?_push_of_some _ (Heap.get?_push_of_some _ z)) hsz (exo_ok (t1 := hp.objs.size) (by heap_get))
  have hl2 : (Value.ref (hp.objs.size + 1) :: us ++ []).length = ps.length := by
    rw [List.append_nil, List.length_cons, ← r1.length]
    have z := F1.len (.ref (hp.objs.size + 1) :: vs) (upd H1 (hp.objs.size + 1) (exo (hp.objs.size + 1) C none)) (fun _ _ => True) (fun _ _ _ => False) ⟨_, vs, rfl, hl, upd_same, fun _ _ _ _ _ _ _ => True.intro⟩
    rw [← z, List.length_cons]
  have hsp : spEx C ns (.ref (hp.objs.size + 1) :: vs) (upd H1 (hp.objs.size + 1) (exo (hp.objs.size + 1) C none)) (fun v H2 => v = .non ∧ ∃ d, H1 d = none ∧ d ≠ hp.objs.size + 1 ∧ H2 (hp.objs.size + 1) = some (exo (hp.objs.size + 1) C (some d)) ∧ H2 d = some (exd d (ns.zip vs.reverse)) ∧ ∀ b, b ≠ hp.objs.size + 1 → b ≠ d → H2 b = H1 b) (fun _ _ _ => False) :=
    ⟨_, vs, rfl, hl, upd_same, fun d H2 hd hne h1 h2 h3 => ⟨rfl, d, by rw [upd_ne hne] at hd; exact hd, hne, h1, h2, fun b hb hbd => (h3 b hb hbd).trans (upd_ne hb)⟩⟩
  have hus : us.length ≤ sizeLine := by rw [← r1.length, sizeLine_eq]; omega
  have e2 := I2.env0.make C us []
  obtain ⟨nm, N, qn, bs, bm, hdct, sn, sub, ab, col, dd, k0, k1, k2, k3, k5, hC, hbm⟩ := PySem.W.excInit_of I1.kIn xi
  show wpAny _ _ (call (.ref C) us) _ _ _
  refine wpAny_call (PySem.HandSPX.dlk_call FB hbm hC (PySem.W.looks_findIn I1.kIn iC) (fun self => PySem.W.bind_fn I1.kIn self tI) hus
    (codeAny_mono (F1.run _ X.stack _ _ ⟨.ref (hp.objs.size + 1) :: us, []⟩ (.ref (hp.objs.size + 1) :: us ++ []) (.ref (hp.objs.size + 1) :: vs) _ _ (hr.make C us []) e2 (hb _ (.ref (hp.objs.size + 1) :: us) I2.kIn hl2) (by rw [List.append_nil]; exact .cons rfl r1) hsp) ?_))
  · intro r s' hq'
    cases r with
    | error er => exact hx pins σ _ _ er s' I2 hq'
    | ok fl =>
      cases fl with
      | ret u =>
        obtain ⟨v, H2, os2, bare2, un2, hok2, rv, ev, d, hd1, hne, h1, h2, h3⟩ := hq'
        subst ev
        obtain ⟨hp2, g2, d2, t2, os'⟩ := s'
        refine ⟨rv, mk_end (raises_own Z.T.exC Z.T.tyC) I1 hsz (fun b o z => Heap.get?_push_of_some _ (Heap.get?_push_of_some _ z)) un2 hok2 os2 bare2 h1 h2 hd1 (q1 d _ hd1 upd_same fun b o z => ?_)⟩
        have z1 := ne_of_none z hn
        have z2 := ne_of_none z hd1
        rw [upd_ne z2, del_ne z1, h3 b z1 z2]; exact z
      | next => exact hq'.elim
      | brk => exact hq'.elim
      | cont => exact hq'.elim
theorem ds_raise {pos' : Pos} (Z : MkOk X.prog X.w X.K X.mg X.base k C ns ps) (hr : RoomG (k + 1) X.A) (hc : X.calm = true) (tk : Takes X (fun cls d _ H => E cls d H)) (hx : Passes (L2.CX X.prog X.w) X (fun _ _ _ => False)) (hg : Gl X x) (hm : X.mg x = some (.ref C)) (ha : DN X E n (e :: es) ts)
    (hn : n = ns.length := by rfl) (hz : n ≤ 1000 := by decide) (hdb : (x == ("__debug__" : Str)) = false := by decide) (he : starEach (e :: es) X.env = (false, eval e X.env) :: starEach es X.env := by rfl) (hpl : (backTo pos (starEach es X.env)).any (·.1) = false := by rfl) :
    DS X E (.Raise (some (.Call (.Name x p) (e :: es) [] pos)) none pos') (sRaise C ns ts) := by
  refine ⟨PS.imp (ps_raise hc tk (pmk_mkv Z hr.r hx hg hm ha.ok hdb he hpl)) fun D σ H ⟨s, M, Y, S, xt, t, q⟩ => ?_⟩
  refine useN S xt t fun ds vs M1 H1 hl g1 S1 x1 r1 t1 => ⟨by rw [hl, hn], by rw [hl]; exact hz, fun d H2 hd h2 kp => ?_⟩
  have gw : Gw H1 M1 H2 M1 := fun b o z m _ => ⟨kp b o z, m⟩
  refine x1 _ _ _ ⟨C, d, ns, vs.reverse, ds.reverse, M1, rfl, rfl, h2, m_none S1.mem hd, ?_, Rs.grow gw _ _ (Rs.reverse r1), gw, mok_keep S1.mem kp, t1⟩
  rw [List.length_reverse, Rs.len r1, hl, hn]
end
end DL
set_option maxHeartbeats 1000000
namespace DL
open PySem PySem.Spec PyProof.Rows L2
/-! ### isinstance of an exception that is held -/
section
variable {X : Cx} {pins : List (Addr × Obj)} {σ : L2.St} {H : Hp} {M : Mem} {s : Shared}
/-- the facts by which fields are read -/
structure FdOk (K : Fg) (C : Addr) (f : Str) : Prop where
  x : XfC K C
  no : PySem.W.findIn K (.ref C) f = some none
def dFd (K : Fg) (f : Str) (te : TED) : TED := fun Xd s M Q => te Xd s M fun d M1 => match d with
  | .exn C ns ds => FdOk K C f ∧ ∃ d, (ns.zip ds).lookup f = some d ∧ Q d M1
  | _ => False
end
end DL
set_option maxHeartbeats 1000000
namespace DL
open PySem PySem.Spec PyProof.Rows L2
/-! ### arguments by name -/
theorem PK.imp {X : Cx} {kws : List Keyword} {t t' : TA} (h : PK X kws t) (i : ∀ σ H Q, t' σ H Q → t σ H Q) : PK X kws t' := ⟨fun pos pins s σ H Q I q => h.run pos pins s σ H Q I (i σ H Q q)⟩
/-- an order of things -/
structure Prm where
  f : {α : Type} → List α → List α
  rel : ∀ {zs : List V} {ws : List Value}, Vals zs ws → Vals (f zs) (f ws)
  rs : ∀ {K : Fg} {H : Hp} {M : Mem} {ds : List D} {vs : List V}, Rs K H M ds vs → Rs K H M (f ds) (f vs)
  len : ∀ {α : Type} (l : List α), (f l).length = l.length
def dMkK (C : Addr) (ns : List Str) (pm : Prm) (t : TAD) : TED := fun Xd s M Q => t Xd s M fun ds M1 => Q (.exn C ns (pm.f ds).reverse) M1
end DL
set_option maxHeartbeats 1000000
namespace DL
open PySem PySem.Spec PyProof.Rows L2
/-! ### enumerate and zip of lists -/
def enmFrom : Nat → List D → List D
  | _, [] => []
  | i, d :: ds => .tup [.int (i : Nat), d] :: enmFrom (i + 1) ds
theorem enmFrom_get : ∀ (ds : List D) (i j : Nat), (enmFrom i ds)[j]? = ds[j]?.map fun d => D.tup [.int ((i + j : Nat) : Int), d]
  | [], i, j => by simp [enmFrom]
  | d :: ds, i, 0 => by simp [enmFrom]
  | d :: ds, i, j + 1 => by
    simp only [enmFrom, List.getElem?_cons_succ]
    rw [enmFrom_get ds (i + 1) j, show i + 1 + j = i + (j + 1) by omega]
theorem enmFrom_len : ∀ (ds : List D) (i : Nat), (enmFrom i ds).length = ds.length
  | [], _ => rfl
  | d :: ds, i => by simp [enmFrom, enmFrom_len ds (i + 1)]
theorem ItOk.enum {K : Fg} {H0 : Hp} {M0 : Mem} {ow : Option Addr} {ds : List D} {a : Addr} (hs : ∀ H M, Gw H0 M0 H M → MOk K H M → (∀ a, ow = some a → M a = M0 a) → ∃ xs, SqL K H a xs ∧ Rs K H M ds xs) : ItOk K (Ite K a) H0 M0 ow (enmFrom 0 ds) := by
  refine ⟨fun i H M g mo hw hi => ?_, fun H M g mo hw => ?_⟩
  · rw [enmFrom_len] at hi
    obtain ⟨xs, h1, h2⟩ := hs H M g mo hw
    obtain ⟨v, e1, e2⟩ := Rs.get h2 (List.getElem?_eq_getElem hi)
    refine ⟨⟨xs, v, h1, e1⟩, fun y H' ⟨T, x, eT, hT, eH, hy⟩ => ?_⟩
    subst eT; subst eH
    have e3 := hy xs h1
    rw [e1] at e3; cases e3
    refine ⟨.tup [.int ((0 + i : Nat) : Int), ds[i]], by rw [enmFrom_get, List.getElem?_eq_getElem hi]; rfl, gw_new hT, mok_new mo hT, new_tup mo hT (Rs.cons ?_ (Rs.cons e2 Rs.nil))⟩
    rw [Nat.zero_add]; exact rfl
  · rw [enmFrom_len]
    obtain ⟨xs, h1, h2⟩ := hs H M g mo hw
    exact ⟨xs, h1, by rw [vlen h2]; exact Nat.le_refl _⟩
/-! ### displays with stars -/
def seqK (R : List D → Mem → Prop) : QD := fun d M => match vw M d with
  | .tup ds => R ds M
  | .lst ds => R ds M
  | .fzn ds => R ds M
  | _ => False
def dStar (te : TED) (ta : TAD) : TAD := fun Xd s M Q => te Xd s M (seqK fun ds M1 => ta Xd s M1 fun es M2 => Q (ds ++ es) M2)
def dLstS (t : TAD) : TED := fun Xd s M Q => t Xd s M fun ds M1 => ds.length ≤ sizeLine ∧ Q (.lst ds) M1
def dTupS (t : TAD) : TED := fun Xd s M Q => t Xd s M fun ds M1 => ds.length ≤ sizeLine ∧ Q (.tup ds) M1
theorem seqK_use {K : Fg} {H : Hp} {M : Mem} {d : D} {v : V} {R : List D → Mem → Prop} (mo : MOk K H M) (r : Rv K H M d v) (t : seqK R d M) : ∃ p xs ds, v = .ref p ∧ (SqT K H p xs ∨ SqL K H p xs) ∧ Rs K H M ds xs ∧ R ds M := by
  unfold seqK at t
  split at t
  · rename_i ds hv
    obtain ⟨a, xs, e, h1, h2⟩ := vw_tup r hv
    exact ⟨a, xs, ds, e, .inl h1.sq, h2, t⟩
  · rename_i ds hv
    obtain ⟨a, xs, e, h1, h2⟩ := vw_lst mo r hv
    exact ⟨a, xs, ds, e, .inr (SqL.of h1), h2, t⟩
  · rename_i ds hv
    cases d with
    | fzn es =>
      have e' : es = ds := by simpa [vw] using hv
      subst e'
      obtain ⟨p, xs, e, hp, sp⟩ := r
      exact ⟨p, xs, es, e, .inr hp.sq, sp, t⟩
    | ref a =>
      rw [vw_ref] at hv
      cases q : M a with
      | none => rw [q] at hv; cases hv
      | some o => rw [q] at hv; cases o <;> cases hv
    | _ => simp [vw] at hv
  · exact t.elim
section
variable {X : Cx} {E : XK} {e : Expr} {es : List Expr} {te : TED} {ts : TAD} {pos p : Pos}
theorem da_nil : DA X E [] dNil := ⟨PA.imp pa_nil fun σ H Q ⟨s, M, Qd, Xd, S, x, t, q⟩ => q [] H ⟨[], M, Gw.refl, S.mem, rfl, t⟩⟩
theorem da_cons (h1 : DE X E e te) (h2 : DA X E es ts) (hs : starEach (e :: es) X.env = (false, eval e X.env) :: starEach es X.env := by rfl) : DA X E (e :: es) (dCons te ts) :=
  ⟨PA.imp (pa_cons h1.ok h2.ok hs) fun σ H Q ⟨s, M, Qd, Xd, S, x, t, q⟩ => useE S x t fun d v M1 H1 g1 S1 x1 r1 t1 => useA S1 x1 t1 fun ds vs M2 H2 g2 S2 x2 r2 t2 =>
    q _ _ ⟨d :: ds, M2, g1.trans g2, S2.mem, Rs.cons (Rv.grow g2 _ _ r1) r2, t2⟩⟩
theorem da_star (h1 : DE X E e te) (h2 : DA X E es ts) : DA X E (.Starred e p :: es) (dStar te ts) :=
  ⟨PA.imp (StX.pa_star h1.ok h2.ok) fun σ H Q ⟨s, M, Qd, Xd, S, x, t, q⟩ => useE S x t fun d v M1 H1 g1 S1 x1 r1 t1 => by
    obtain ⟨a, xs, ds, rfl, hq, rs, t1⟩ := seqK_use S1.mem r1 t1
    exact ⟨a, xs, rfl, hq, useA S1 x1 t1 fun es vs M2 H2 g2 S2 x2 r2 t2 => q _ _ ⟨ds ++ es, M2, g1.trans g2, S2.mem, Rs.append (Rs.grow g2 _ _ rs) r2, t2⟩⟩⟩
theorem de_lstS (h : DA X E es ts) : DE X E (.List es pos) (dLstS ts) := ⟨PE.imp (pe_lst h.ok) fun σ H Q ⟨s, M, Qd, Xd, S, x, t, q⟩ =>
  useA S x t fun ds vs M1 H1 g1 S1 x1 r1 t1 => ⟨by rw [← Rs.len r1]; exact t1.1, fun p hp => q _ _ ⟨.lst ds, M1, g1.trans (gw_new hp), mok_new S1.mem hp, new_lst S1.mem hp r1, t1.2⟩⟩⟩
theorem de_tupS {k : Nat} (h : DA X E es ts) : DE X E (.Tuple es k pos) (dTupS ts) := ⟨PE.imp (pe_tup h.ok) fun σ H Q ⟨s, M, Qd, Xd, S, x, t, q⟩ =>
  useA S x t fun ds vs M1 H1 g1 S1 x1 r1 t1 => ⟨by rw [← Rs.len r1]; exact t1.1, fun p hp => q _ _ ⟨.tup ds, M1, g1.trans (gw_new hp), mok_new S1.mem hp, new_tup S1.mem hp r1, t1.2⟩⟩⟩
end
end DL
set_option maxHeartbeats 1000000
namespace DL
open PySem PySem.Spec PyProof.Rows L2
/-! ### the end of a row whose law is read over data -/
/-- what the law's def must do over data: true for every script of at most n numbers -/
def LawD (n : Nat) (sp : SpD) : Prop := ∀ ns : List Int, ns.length ≤ n → sp [.fzn (ns.map D.int)] (fun _ => none) (fun d _ => d = .bl true) (fun _ _ _ _ => False)
theorem rs_ints {K : Fg} {H : Hp} {M : Mem} : ∀ ns : List Int, Rs K H M (ns.map D.int) (ns.map V.int)
  | [] => rfl
  | i :: r => Rs.cons rfl (rs_ints r)
theorem rl_of {K : Fg} {H : Hp} {a : Addr} {xs : List V} (h : SqL K H a xs) : RL K H (fun _ => none) a xs := h.elim (fun h => .inl ⟨h, rfl⟩) .inr
theorem d_call {P : Program} {w : World} {K : Fg} {mg mb : Str → Option Value} {k n : Nat} {fa a : Addr} {fd : FuncData} {x : Str} {sp : SpD} {s1 : Shared} {vs : List Value} {ns : List Int}
    (KX : K.In s1.heap) (hns : s1.heap.Ns mainGlobals mg) (hb : s1.heap.Ns builtinsNs mb) (hbb : ∀ x : Str, x ≠ "__name__" → mb x = bootBuiltins x) (hlim : s1.heap.NoLimit) (hg : s1.gens = #[])
    (ha : s1.heap.get? a = some { cls := .type "list", data := .seq vs.toArray }) (hi : IntsAre vs ns) (hl : ns.length ≤ sizeLine) (hln : ns.length ≤ n) (hr : RoomG k callerA)
    (F : ∀ base : Heap, K.In base → base.Ns mainGlobals mg → DFn P w K mg base k fa fd [x] sp) (hbind : ∀ (s : Shared) (u : Value), BindsTo s fd ⟨[u], []⟩ [(x, u)]) (hsp : LawD n sp) :
    codeAny (model P w) callerA (.call (.ref fa) ⟨[.ref a], []⟩) (fun r s' => r = .ok (.ret (.bool true)) ∧ OldK s1.heap s'.heap ∧ s'.os = s1.os ∧ AllBare s'.gens) s1 := by
  have rv := vals_ints hi
  have lv := hi.length
  have core : ∀ H : Hp, Only H → SqL K H a (ns.map V.int) → HOk P w H s1.heap → (∀ b, H b ≠ none → b = a) → (H a ≠ none → K.lookup a = none) →
      codeAny (model P w) callerA (.call (.ref fa) ⟨[.ref a], []⟩) (fun r s' => r = .ok (.ret (.bool true)) ∧ OldK s1.heap s'.heap ∧ s'.os = s1.os ∧ AllBare s'.gens) s1 := by
    intro H hO hS hok hA hK
    have b0 : ∀ {b : Addr} {o : Obj}, s1.heap.get? b = some o → H b = none → (hidT s1.heap H).get? b = some o := fun e z => hidT_get e z
    have nd : ∀ {b : Addr} {o : Obj} {es : Array DictEntry} {ep : Nat}, s1.heap.get? b = some o → o.data = .dict es ep → H b = none := fun {b o es ep} e d => by
      cases q : H b with
      | none => rfl
      | some u =>
        obtain rfl : b = a := hA b (by rw [q]; simp)
        rw [ha] at e; cases e
        exact absurd (show Data.seq vs.toArray _ = Data.dict es ep from d) (fun z => nomatch z)
    have nsK : ∀ {b : Addr} {m : Str → Option Value}, s1.heap.Ns b m → (hidT s1.heap H).Ns b m := fun {b m} ⟨o, es, ep, e, d, r⟩ => ⟨o, es, ep, b0 e (nd e d), d, r⟩
    have kb : K.In (hidT s1.heap H) := fun b o e => b0 (KX b o e) (by
      cases q : H b with
      | none => rfl
      | some u =>
        obtain rfl : b = a := hA b (by rw [q]; simp)
        rw [hK (by rw [q]; simp)] at e; cases e)
    have hM : Mod K mg (hidT s1.heap H) := ⟨kb, nsK hns, ⟨mb, nsK hb, hbb⟩, let ⟨mc, h1, h2⟩ := hlim; ⟨mc, nsK h1, h2⟩⟩
    have e0 : Env0 P w K mg (hidT s1.heap H) callerA [] s1 H := ⟨rfl, hM, fun b o e => of_hidT e, Nat.le_of_eq (hidT_size _ _), trivial, fun b hb => absurd (show b ∈ ([] : List Addr) from hb) (by simp), hok, .of_eq hg⟩
    refine codeAny_mono ((F _ kb (nsK hns)).run callerA [] s1 H (fun _ => none) ⟨[.ref a], []⟩ [.ref a] [.ref a] [.fzn (ns.map D.int)] (fun d _ => d = .bl true) (fun _ _ _ _ => False) (fun v _ => v = .bl true) (fun _ _ _ => False) hr e0 rfl (hbind s1 (.ref a)) (.cons rfl .nil)
      (fun b o e => by cases e) (Rs.cons ⟨a, _, rfl, rl_of hS, rs_ints ns⟩ Rs.nil) (hsp ns hln) (fun v H' ⟨d, M', _, _, rd, e⟩ => by subst e; exact rd) (fun c od H' ⟨_, _, _, _, _, _, _, _, _, _, _, _, _, _, z⟩ => z)) fun r s' h => ?_
    cases r with
    | error e => obtain ⟨_, _, _, _, _, _, _, _, _, _, _, _, z⟩ := h; exact z.elim
    | ok fl =>
      cases fl with
      | next => exact False.elim h
      | brk => exact False.elim h
      | cont => exact False.elim h
      | ret u =>
        obtain ⟨v, H', os, bare, un, hok', r', q⟩ := h
        obtain rfl : v = .bl true := q
        obtain rfl : u = Value.bool true := r'
        refine ⟨rfl, OldK.of_keep fun b o e => ?_, os, bare⟩
        cases q : H b with
        | none => exact un.keep b o e q (by intro z; exact absurd (show b ∈ ([] : List Addr) from z) (by simp)) (by simp)
        | some u =>
          rcases hO b with z | ⟨ob, xs, z⟩
          · rw [q] at z; cases z
          · obtain ⟨e1, _⟩ := hok b _ z
            obtain ⟨e2, _⟩ := hok' b _ (un.frzs b ob _ z)
            rw [e] at e1; cases e1; exact e2
  cases hk : K.lookup a with
  | some o =>
    have e := KX a o hk
    rw [ha] at e; cases e
    exact core (fun _ => none) (fun _ => .inl rfl) (.inr ⟨_, vs.toArray, _, hk, rfl, rfl, rfl, by rw [List.size_toArray, lv]; exact hl, by simpa using rv⟩) (fun b u z => by cases (show (none : Option HO) = some u from z)) (fun b z => absurd rfl z) fun z => absurd rfl z
  | none =>
    refine core (fun b => if b = a then some (.frz { cls := .type "list", data := .seq vs.toArray } (.lst (ns.map V.int))) else none) (fun b => ?_) (.inl (.inr ⟨{ cls := .type "list", data := .seq vs.toArray }, if_pos rfl⟩)) (fun b u z => ?_) (fun b z => ?_) fun _ => hk
    · by_cases hb : b = a
      · exact .inr ⟨_, _, if_pos hb⟩
      · exact .inl (if_neg hb)
    · by_cases hb : b = a
      · have z' := (if_pos hb).symm.trans z
        cases z'; subst hb
        exact ⟨ha, by rw [List.length_map]; exact hl, vs, _, rv, ha⟩
      · exact absurd ((if_neg hb).symm.trans z) (fun z => nomatch z)
    · exact Decidable.byContradiction fun hb => z (if_neg hb)
theorem d_walk {l : PySem.W.OpenLaw} {n k : Nat} {q : Program} {loose : List Str} {XP : (Str → Option Value) → Heap → Prop} {YP : World → Heap → Prop} {d : DefRec} {x : Str} (hn : l.most = some n) (hn2 : n ≤ sizeLine) (hdf : d.params.defaults = []) (hr : RoomG k callerA)
    (F : ∀ (w : World) (mg : Str → Option Value) (fa : Addr) (h : Heap), YP w h → h.Ns mainGlobals mg → mg d.name = some (.ref fa) →
      ∃ (K : Fg) (fd : FuncData) (sp : SpD), K.In h ∧ (∀ (s : Shared) (u : Value), BindsTo s fd ⟨[u], []⟩ [(x, u)]) ∧ LawD n sp ∧ ∀ base : Heap, K.In base → base.Ns mainGlobals mg → DFn l.prog w K mg base k fa fd [x] sp) :
    PySem.W.WalkO q loose XP YP l.row.toRowW d [] (fun f vs => PySem.call f vs) := by
  refine Att.attach_call hn hdf fun w s0 s1 mg mb fa o pm cd doc a vs ns G Y ho hd hcd hmg hobj hints hlen hg => ?_
  obtain ⟨K, fd, sp, KX, hb, hsp, hF⟩ := F w mg fa _ Y G.T.g hmg
  exact d_call KX G.T.g G.T.b G.T.builtins G.T.nolimit hg hobj hints (Nat.le_trans hlen hn2) hlen hr hF hb hsp
/-- a def as the head tells it -/
theorem fun_ofD {K : Fg} {x qual : Str} {st : Stmt} {f : Addr} {fd : FuncData} (F : FunD K x qual (defArgs st) (defBody st) (defScope st) [] [] f fd) : Fun K x qual st f fd := by
  obtain ⟨oc, od, dV, kV, doc, pm, an, cdv, ct, osl, e, lk, hcd, hD, hK⟩ := F.ex
  have e2 : dV = .none := by
    rcases hD with ⟨_, e⟩ | ⟨e, _⟩
    · exact e
    · exact absurd rfl e
  subst e2
  exact ⟨⟨oc, od, kV, doc, pm, an, cdv, ct, osl, e, lk, hcd⟩, F.kp⟩
end DL
set_option maxHeartbeats 1000000
namespace DL
open PySem PySem.Spec PyProof.Rows L2
/-! ### facts of the head: by names, and by one Bool more -/
abbrev AlE := He.AlD × Bool
def obsE (n : Nat) (fa : List He.Fa) (fn : List He.DefD) (ex : Fg → Bool) (g : Addr → Option Obj) : AlE := (He.obsD fa fn (He.frG g (He.asD g n)), ex (He.frG g (He.asD g n)))
def hookE (n : Nat) (fa : List He.Fa) (fn : List He.DefD) (ex : Fg → Bool) : PySem.W.Hook where
  α := AlE
  obs := fun s => obsE n fa fn ex s.heap.get?
  val := fun _ => (He.valD fn, true)
  says := fun _ h => ∃ K : Fg, K.In h ∧ He.SaysD fa fn K ∧ ex K = true
  of := fun _ _ e => ⟨_, He.frG_in, congrArg Prod.fst e, congrArg Prod.snd e⟩
  keeps := fun _ _ _ ⟨K, hK, c, e⟩ k => ⟨K, PySem.W.Frag.In.keeps hK k, c, e⟩
theorem obsE_eq {n : Nat} {fa : List He.Fa} {fn : List He.DefD} {ex : Fg → Bool} {g : Addr → Option Obj} {s : Shared} (h : ∀ a, g a = s.heap.get? a) : obsE n fa fn ex g = (hookE n fa fn ex).obs s := by
  have e : g = s.heap.get? := funext h
  rw [e] <;> rfl
theorem binds_of {K : Fg} {x qual : Str} {st : Stmt} {f : Addr} {fd : FuncData} {ps : List Str} (F : Fun K x qual st f fd)
    (h : ∀ (kV doc pm : Value) (an : Option Addr) (cdv ct : Value) (us : List Value), us.length = ps.length → bindArgs (PySem.W.fnOf x qual (defArgs st) (defBody st) (defScope st) .none kV doc pm an cdv ct) ⟨us, []⟩ = pure (ps.zip us)) : Binds K fd ps [] := F.binds h
end DL
set_option maxHeartbeats 1000000
namespace PySem
open AutoSeq1 (wpAny_loadPart')
theorem dl_enum_newT (l : Addr) (items : Array Value) (n : Nat) (dct : Option Addr) (sl : Array (Option Value)) :
    Meets (Builtin.«enumerate.__new__» ⟨[.type "enumerate", .ref l], []⟩) (fun _ R s => s.heap.get? l = some { cls := .type "tuple", dict := dct, data := .seq items n, slots := sl } ∧
      R (.ok (.ret (.ref (s.heap.push { cls := .type "tuple_iterator", data := .fields #[.ref l, .int 0 0] }).objs.size)))
        { s with heap := (s.heap.push { cls := .type "tuple_iterator", data := .fields #[.ref l, .int 0 0] }).push { cls := .type "enumerate", data := .fields #[.none, .bool false, .ref s.heap.objs.size, rawInt 0, .none, .none] } }) :=
  .of_wp fun prog w A R s h => by
    obtain ⟨hp, g, d, tk, os⟩ := s; obtain ⟨hl, h⟩ := h
    have hsub := sub_enumerate
    have hL : Heap.IsTuple (Shared.heap ⟨hp, g, d, tk, os⟩) l items := ⟨_, hl, rfl, n, rfl⟩
    wp_walk using wpAny_loadPart' hl
    refine wpAny_stack_any fun st => wpAny_pure ?_
    split
    · rename_i c _ _ _ _ _
      cases (c == Value.type "enumerate") <;> (wp_walk using wpAny_loadPart' hl, wpAny_pyIter_tuple hL; exact ⟨_, rfl, h⟩)
    · wp_walk using wpAny_loadPart' hl, wpAny_pyIter_tuple hL
      exact ⟨_, rfl, h⟩
theorem dl_call_enumT {prog : Program} {w : World} {A : Around} {E : Value → Shared → Prop} {s : Shared} {l : Addr} {items : Array Value} {Q : Value → Shared → Prop} (hL : s.heap.IsTuple l items)
    (h : ∀ h', IsEnum h' (s.heap.objs.size + 1) s.heap.objs.size 0 .none → h'.IsTupleIter s.heap.objs.size l 0 → h'.objs.size = s.heap.objs.size + 2 → (∀ b o, s.heap.get? b = some o → h'.get? b = some o) → Q (.ref (s.heap.objs.size + 1)) { s with heap := h' }) :
    wpAny (model prog w) A (call (.type "enumerate") [.ref l]) Q E s := by
  obtain ⟨⟨c, dct, dt, sl⟩, hl, hc, n, hd⟩ := hL
  obtain rfl : c = .type "tuple" := hc
  obtain rfl : dt = .seq items n := hd
  refine callType_new F.called_enumerate (by decide) (F.typeCall_enumerate_1 _) (F.newCall_enumerate_1 _) (fun obj => F.args_object_init_2 obj _) F.entry_enumerate_new (dl_enum_newT l items n dct sl) ⟨hl, ?_⟩
  have hz : (s.heap.push { cls := .type "tuple_iterator", data := .fields #[.ref l, .int 0 0] }).objs.size = s.heap.objs.size + 1 := Heap.size_push ..
  show _ ∧ _
  rw [hz]
  have he : IsEnum ((s.heap.push { cls := .type "tuple_iterator", data := .fields #[.ref l, .int 0 0] }).push { cls := .type "enumerate", data := .fields #[.none, .bool false, .ref s.heap.objs.size, rawInt 0, .none, .none] }) (s.heap.objs.size + 1) s.heap.objs.size 0 .none := by
    have z := Heap.get?_push_size (s.heap.push { cls := .type "tuple_iterator", data := .fields #[.ref l, .int 0 0] }) (o := { cls := .type "enumerate", data := .fields #[.none, .bool false, .ref s.heap.objs.size, rawInt 0, .none, .none] }) rfl
    rw [hz] at z; exact z
  refine ⟨⟨_, he, rfl⟩, h _ he ⟨_, Heap.get?_push_of_some _ (Heap.get?_push_size _ rfl), rfl, rfl⟩ (by rw [Heap.size_push, hz]) fun b o x => Heap.get?_push_of_some _ (Heap.get?_push_of_some _ x)⟩
theorem dl_draws_tup {prog : Program} {w : World} {A : Around} (hh : A.handled = none) (it l : Addr) (hne : l ≠ it) (items : Array Value) :
    Draws prog w A it [it, l] items.size (fun i v => items[i]? = some v) (fun i h => h.IsTupleIter it l i ∧ h.IsTuple l items) where
  live := fun _ _ st => let ⟨o, ho, _⟩ := st.1; ⟨o, ho⟩
  frame := fun _ _ _ st hk => ⟨let ⟨o, ho, r⟩ := st.1; ⟨o, hk it (by simp) o ho, r⟩, let ⟨o, ho, r⟩ := st.2; ⟨o, hk l (by simp) o ho, r⟩⟩
  item := fun i s Q E hi st hQ => wpAny_nextOf_tuple_item st.1 st.2 (x := items[i]) (by simp [hi]) fun h' hit' hs' => hQ _ h' s.toks (by simp [hi]) ⟨hit', st.2.extBut hs'.extBut hne⟩ hs'
  done := fun s Q E st hE => wpAny_nextOf_tuple_end hh st.1 st.2 (by simp) hE
end PySem
namespace DL
open PySem PySem.Spec PyProof.Rows L2
/-! ### enumerate of tuples -/
def IteT (K : Fg) (a : Addr) : It :=
  ⟨fun i H => ∃ (xs : List V) (x : V), SqT K H a xs ∧ xs[i]? = some x, fun i H v H' => ∃ T x, v = .ref T ∧ H T = none ∧ H' = upd H T (.tup [.int (i : Nat), x]) ∧ ∀ xs, SqT K H a xs → xs[i]? = some x, fun i H => ∃ xs : List V, SqT K H a xs ∧ xs.length ≤ i⟩
theorem turn_enT {P : Program} {w : World} {K : Fg} {elts : List Expr} {kk : Nat} {tpos : Pos} (a e it : Addr) :
    Turn P w K (.Tuple elts kk tpos) (IteT K a) [e, it] e (fun i h => (∃ old, IsEnum h e it ((i : Nat) : Int) old) ∧ h.IsTupleIter it a i ∧ e ≠ it) where
  mem := by simp
  obj := fun i h st b hb => by
    obtain ⟨⟨old, he⟩, ⟨o, ho, hc, hd⟩, _⟩ := st
    rcases (by simpa using hb : b = e ∨ b = it) with z | z
    · rw [z]; exact ⟨_, he, fun v q => nomatch q⟩
    · rw [z]; exact ⟨o, ho, fun v q => by rw [hd] at q; cases q⟩
  keep := fun i h h' st k => let ⟨⟨old, he⟩, ⟨o, ho, r⟩, hne⟩ := st; ⟨⟨old, k e (by simp) _ he⟩, ⟨o, k it (by simp) _ ho, r⟩, hne⟩
  item := by
    intro X hP hw hK hc i pins s σ H E I hf st hg
    subst hP hw hK
    obtain ⟨⟨old, he⟩, hit, hne⟩ := st
    obtain ⟨xs, x, hq, hx⟩ := hg
    obtain ⟨its, rv, p, hz⟩ := I.tuple hq
    have p' : s.heap.IsTuple a its.toArray := p
    have hel : e < s.heap.objs.size := Heap.lt_size he
    have hil : it < s.heap.objs.size := by obtain ⟨_, q, _⟩ := hit; exact Heap.lt_size q
    have hai : a ≠ it := fun z => by
      obtain ⟨o, h1, h2, _⟩ := p'
      obtain ⟨o2, h3, h4, _⟩ := hit
      rw [z, h3] at h1; cases h1
      rw [h2] at h4
      exact absurd (Value.type.inj h4) (by decide)
    have hea : e ≠ a := fun z => by
      obtain ⟨o, h1, h2, _⟩ := p'
      have h3 := he
      unfold IsEnum at h3
      rw [z, h1] at h3
      have h4 := congrArg (fun o : Option Obj => o.map (·.cls)) h3
      have h5 : o.cls = .type "enumerate" := Option.some.inj h4
      rw [h2] at h5
      exact absurd (Value.type.inj h5) (by decide)
    have hl := rv.length
    have hlt : i < its.toArray.size := by
      have : i < xs.length := by
        rcases Nat.lt_or_ge i xs.length with z | z
        · exact z
        · rw [List.getElem?_eq_none z] at hx; cases hx
      simpa [← hl] using this
    refine wpAny_pyNext_enum_itemD (dl_draws_tup (A := X.A.in1) (show X.A.in1.handled = none from I.ok.hd hc) it a hai its.toArray) he ⟨hit, p'⟩ hlt hne (by simp [hne, hea]) fun u h' tk hu ho st' hT hsz hk => ?_
    refine ⟨_, rfl, wpAny_letOwnedTupleGo_enum (s := { s with heap := h', toks := tk + 1 }) ho fun h'' he' sb => ?_⟩
    obtain ⟨u', hu', ru⟩ := rv.get hx
    obtain rfl : u = u' := by
      have hu2 : its.toArray[i]? = some u := hu
      rw [show its.toArray[i]? = its[i]? by simp, hu'] at hu2
      exact (Option.some.inj hu2).symm
    have hT2 : h''.get? s.heap.objs.size = some { cls := .type "tuple", data := .seq #[.int i tk, u] } := (sb.2 _ (Nat.ne_of_gt hel)).trans hT
    have new : ObjOk X.prog X.w (upd H s.heap.objs.size (.tup [.int (i : Nat), x])) h'' s.heap.objs.size (.tup [.int (i : Nat), x]) :=
      ⟨by show 2 ≤ sizeLine; decide, [.int i tk, u], .cons ⟨_, rfl⟩ (.cons ru .nil), ⟨_, hT2, rfl, _, rfl⟩⟩
    have I1 : Inv X pins σ (upd H s.heap.objs.size (.tup [.int (i : Nat), x])) { s with heap := h'', toks := tk + 1 } :=
      I.turnedNew (t' := tk + 1) (ch := [e, it]) (fun b ob hb q => (sb.2 b (fun z => hb (by simp [z]))).trans (hk b ob (fun z => hb (by simp [z])) (fun z => hb (by simp [z])) q)) hf (Nat.le_refl _) new
    refine ⟨.ref s.heap.objs.size, _, I1, rfl, ⟨_, x, rfl, I.hok.fresh (Nat.le_refl _), rfl, fun ys hy => by rw [I.tuple_inj hy hq]; exact hx⟩, ⟨⟨u, ?_⟩, ?_, hne⟩, fun b hb => ?_⟩
    · rw [show ((i + 1 : Nat) : Int) = (i : Int) + 1 by omega]; exact he'
    · obtain ⟨o2, h2, r2⟩ := st'.1
      exact ⟨o2, (sb.2 it (Ne.symm hne)).trans h2, r2⟩
    · have hb' : b < s.heap.objs.size := by
        rcases (by simpa using hb : b = e ∨ b = it) with z | z
        · rw [z]; exact hel
        · rw [z]; exact hil
      rw [upd_ne (Nat.ne_of_lt hb')]
      exact (hf b hb).1
  done := by
    intro X hP hw hK hc i pins s σ H E I hf st hg
    subst hP hw hK
    obtain ⟨⟨old, he⟩, hit, hne⟩ := st
    obtain ⟨xs, hq, hx⟩ := hg
    obtain ⟨its, rv, p, hz⟩ := I.tuple hq
    have p' : s.heap.IsTuple a its.toArray := p
    obtain ⟨f0, f1, f2, f3, f4, f5⟩ := hf it (by simp)
    have hT : s.TypeIs (.ref e) "enumerate" := ⟨_, he, rfl⟩
    have hl := rv.length
    unfold pyNext
    refine wpAny_bind (wpAny_attempt (wpAny_callSpecial?_slot (name := Str.ofString "__next__") hT F.slot_enumerate_next (wpAny_call_entry F.slot_enumerate_next hT F.entry_enumerate_next ?_ (F.args_enumerate_next_1 _))))
    show wpAny _ _ (field (.ref e) 2 >>= _) _ _ _
    refine wpAny_bind (wpAny_field he rfl (x := .ref it) rfl (wpAny_bind (wpAny_nextOf_tuple_end (I.ok.hd hc) hit p' (by simp; omega) fun h' x he' hx' => ?_)))
    obtain ⟨o, ho, hcs⟩ := hx'
    exact wpAny_bind (wpAny_isInstance (T := "StopIteration") (b := true) ⟨o, ho, hcs⟩ isSubtype_stop (wpAny_pure ⟨rfl, I.turned (t' := s.toks) (fun b o hb q => he' b o hb q) f0 f1 f3 f4 f5⟩))
  self := fun A i s Q E st h => let ⟨⟨_, he⟩, _⟩ := st; wpAny_pyIter_enum he h
def iEnB (K : Fg) (ta : TA) : TI := fun σ H R => ta σ H fun vs H1 => ∃ a, vs = [.ref a] ∧ (((∃ xs, SqL K H1 a xs) ∧ R (Ite K a) H1) ∨ ((∃ xs, SqT K H1 a xs) ∧ R (IteT K a) H1))
theorem pi_enB {X : Cx} {e : Expr} {ta : TA} {p pos tpos : Pos} {elts : List Expr} {kk : Nat} (hg : Gl X "enumerate") (hm : X.mg "enumerate" = none) (ha : PA X [e] ta) (hs : starEach [e] X.env = (false, eval e X.env) :: starEach [] X.env := by rfl) :
    PI X (.Tuple elts kk tpos) (.Call (.Name "enumerate" p) [e] [] pos) (iEnB X.K ta) := by
  refine ⟨fun pins s σ H R I h => Call_ (ld_blt I hg hm boot_enumerate (PyProof.Rows.callWith_type1 (thn (ha.run pos pins s σ H _ I h) fun us s1 ⟨vs, H1, I1, r1, a, ex, q1⟩ => ?_) hs rfl))⟩
  subst ex
  obtain ⟨u, rfl, ru⟩ := vals1 r1
  obtain rfl : u = .ref a := ru
  have fp : ∀ b ∈ [s1.heap.objs.size + 1, s1.heap.objs.size], FpOk X pins H1 b := fun b hb => by
    have hle : s1.heap.objs.size ≤ b := by
      rcases (by simpa using hb : b = s1.heap.objs.size + 1 ∨ b = s1.heap.objs.size) with z | z
      · rw [z]; exact Nat.le_add_right _ _
      · rw [z]; exact Nat.le_refl _
    exact I1.fpOk hle (I1.hok.fresh hle)
  rcases q1 with ⟨⟨xs, hq⟩, q⟩ | ⟨⟨xs, hq⟩, q⟩
  · obtain ⟨its, rv, p', hz⟩ := I1.list hq
    exact call_enumerate_list p'.isList fun h' he hit hsz hk => wpAny_pyIter_enum he ⟨s1.heap.objs.size + 1, [s1.heap.objs.size + 1, s1.heap.objs.size], _, _, H1, rfl, I1.kept (t' := s1.toks) hk, turn_enum a (s1.heap.objs.size + 1) s1.heap.objs.size, ⟨⟨.none, he⟩, hit, Nat.succ_ne_self _⟩, fp, q⟩
  · obtain ⟨its, rv, p', hz⟩ := I1.tuple hq
    exact dl_call_enumT (show s1.heap.IsTuple a its.toArray from p') fun h' he hit hsz hk => wpAny_pyIter_enum he ⟨s1.heap.objs.size + 1, [s1.heap.objs.size + 1, s1.heap.objs.size], _, _, H1, rfl, I1.kept (t' := s1.toks) hk, turn_enT a (s1.heap.objs.size + 1) s1.heap.objs.size, ⟨⟨.none, he⟩, hit, Nat.succ_ne_self _⟩, fp, q⟩
theorem ItOk.enumT {K : Fg} {H0 : Hp} {M0 : Mem} {ow : Option Addr} {ds : List D} {a : Addr} (hs : ∀ H M, Gw H0 M0 H M → MOk K H M → (∀ a, ow = some a → M a = M0 a) → ∃ xs, SqT K H a xs ∧ Rs K H M ds xs) : ItOk K (IteT K a) H0 M0 ow (enmFrom 0 ds) := by
  refine ⟨fun i H M g mo hw hi => ?_, fun H M g mo hw => ?_⟩
  · rw [enmFrom_len] at hi
    obtain ⟨xs, h1, h2⟩ := hs H M g mo hw
    obtain ⟨v, e1, e2⟩ := Rs.get h2 (List.getElem?_eq_getElem hi)
    refine ⟨⟨xs, v, h1, e1⟩, fun y H' ⟨T, x, eT, hT, eH, hy⟩ => ?_⟩
    subst eT; subst eH
    have e3 := hy xs h1
    rw [e1] at e3; cases e3
    refine ⟨.tup [.int ((0 + i : Nat) : Int), ds[i]], by rw [enmFrom_get, List.getElem?_eq_getElem hi]; rfl, gw_new hT, mok_new mo hT, new_tup mo hT (Rs.cons ?_ (Rs.cons e2 Rs.nil))⟩
    rw [Nat.zero_add]; exact rfl
  · rw [enmFrom_len]
    obtain ⟨xs, h1, h2⟩ := hs H M g mo hw
    exact ⟨xs, h1, by rw [vlen h2]; exact Nat.le_refl _⟩
def iEnmB (te : TED) : TID := fun Xd s M R => dCons te dNil Xd s M fun ds M1 => ∃ d, ds = [d] ∧ itemK (fun ds ow M1 => R (enmFrom 0 ds) ow M1) d M1
theorem di_enumB {X : Cx} {E : XK} {e : Expr} {te : TED} {p pos tpos : Pos} {elts : List Expr} {kk : Nat} (hg : Gl X "enumerate") (hm : X.mg "enumerate" = none) (he : DE X E e te) (hs : starEach [e] X.env = (false, eval e X.env) :: starEach [] X.env := by rfl) :
    DI X E (.Tuple elts kk tpos) (.Call (.Name "enumerate" p) [e] [] pos) (iEnmB te) := by
  refine ⟨_, pi_enB hg hm (dn_cons he dn_nil hs).ok hs, fun {σ H s M Xd Qd R} S x t q => ?_⟩
  refine useN S x t fun ds vs M1 H1 hl g1 S1 x1 r1 t1 => ?_
  obtain ⟨d, rfl, t1⟩ := t1
  obtain ⟨v, hv, rd⟩ := rs1 r1
  unfold itemK at t1
  split at t1
  · rename_i ds
    obtain ⟨p, xs, rfl, hp, sp⟩ := rd
    exact ⟨p, hv, .inr ⟨⟨xs, hp.sq⟩, q _ _ _ _ _ g1 S1.mem (ItOk.enumT fun H M g mo _ => ⟨xs, (g.rt hp).sq, Rs.grow g ds xs sp⟩) t1⟩⟩
  · rename_i ds
    obtain ⟨p, xs, rfl, hp, hm, sp⟩ := rd
    exact ⟨p, hv, .inl ⟨⟨xs, SqL.of hp⟩, q _ _ _ _ _ g1 S1.mem (ItOk.enum fun H M g mo _ => ⟨xs, SqL.of (g.at hp hm).1, Rs.grow g ds xs sp⟩) t1⟩⟩
  · rename_i ds
    obtain ⟨p, xs, rfl, hp, sp⟩ := rd
    exact ⟨p, hv, .inl ⟨⟨xs, hp.sq⟩, q _ _ _ _ _ g1 S1.mem (ItOk.enum fun H M g mo _ => ⟨xs, (g.rl hp).sq, Rs.grow g ds xs sp⟩) t1⟩⟩
  · rename_i p
    split at t1
    · rename_i ds hm
      have hv' : v = .ref p := rd
      subst hv'
      obtain ⟨xs, hp, sp⟩ := S1.mem p _ hm
      refine ⟨p, hv, .inl ⟨⟨xs, SqL.of hp⟩, q _ _ _ (some p) _ g1 S1.mem (ItOk.enum fun H M g mo hw => ?_) t1⟩⟩
      have e := hw p rfl
      rw [hm] at e
      obtain ⟨ys, h1, h2⟩ := mo p _ e
      exact ⟨ys, SqL.of h1, h2⟩
    · exact t1.elim
  · exact t1.elim
end DL
set_option maxHeartbeats 1000000
namespace DL
open PySem PySem.Spec PyProof.Rows L2 RZ
/-! ### zip of two lists, or of two tuples -/
def zpD : List D → List D → List D
  | d :: ds, e :: es => .tup [d, e] :: zpD ds es
  | _, _ => []
theorem zpD_get : ∀ (ds es : List D) (i : Nat), (zpD ds es)[i]? = match ds[i]?, es[i]? with | some d, some e => some (D.tup [d, e]) | _, _ => none
  | [], es, i => by simp [zpD]
  | d :: ds, [], i => by
    simp only [zpD, List.getElem?_nil]
    split <;> simp_all
  | d :: ds, e :: es, 0 => by simp [zpD]
  | d :: ds, e :: es, i + 1 => by
    simp only [zpD, List.getElem?_cons_succ]
    exact zpD_get ds es i
theorem zpD_len : ∀ (ds es : List D), (zpD ds es).length = min ds.length es.length
  | [], es => by simp [zpD]
  | d :: ds, [] => by simp [zpD]
  | d :: ds, e :: es => by
    simp only [zpD, List.length_cons, zpD_len ds es]; omega
theorem ItOk.zip {K : Fg} {H0 : Hp} {M0 : Mem} {ds es : List D} {a b : Addr} (hs : ∀ H M, Gw H0 M0 H M → ∃ xs, SqL K H a xs ∧ Rs K H M ds xs) (ht : ∀ H M, Gw H0 M0 H M → ∃ ys, SqL K H b ys ∧ Rs K H M es ys) : ItOk K (Itz K a b) H0 M0 none (zpD ds es) := by
  refine ⟨fun i H M g mo hw hi => ?_, fun H M g mo hw => ?_⟩
  · rw [zpD_len] at hi
    have i1 : i < ds.length := by omega
    have i2 : i < es.length := by omega
    obtain ⟨xs, h1, h2⟩ := hs H M g
    obtain ⟨ys, k1, k2⟩ := ht H M g
    obtain ⟨v, e1, e2⟩ := Rs.get h2 (List.getElem?_eq_getElem i1)
    obtain ⟨u, f1, f2⟩ := Rs.get k2 (List.getElem?_eq_getElem i2)
    refine ⟨⟨xs, ys, v, u, h1, k1, e1, f1⟩, fun z H' ⟨T, x, y, eT, hT, eH, hx, hy⟩ => ?_⟩
    subst eT; subst eH
    have e3 := hx xs h1
    rw [e1] at e3; cases e3
    have f3 := hy ys k1
    rw [f1] at f3; cases f3
    exact ⟨.tup [ds[i], es[i]], by rw [zpD_get, List.getElem?_eq_getElem i1, List.getElem?_eq_getElem i2], gw_new hT, mok_new mo hT, new_tup mo hT (Rs.cons e2 (Rs.cons f2 Rs.nil))⟩
  · rw [zpD_len]
    obtain ⟨xs, h1, h2⟩ := hs H M g
    obtain ⟨ys, k1, k2⟩ := ht H M g
    exact ⟨xs, ys, h1, k1, by rw [vlen h2, vlen k2]; omega⟩
/-- the items of a list that is not changed -/
def lsdO : D → Option (List D)
  | .lst ds => some ds
  | .fzn ds => some ds
  | _ => none
theorem lsdO_use {K : Fg} {H : Hp} {M : Mem} {d : D} {v : V} {ds : List D} (r : Rv K H M d v) (e : lsdO d = some ds) : ∃ p, v = .ref p ∧ ∀ H' M', Gw H M H' M' → ∃ ys, SqL K H' p ys ∧ Rs K H' M' ds ys := by
  cases d with
  | lst es => cases e; obtain ⟨p, xs, h, hp, hm, sp⟩ := r; exact ⟨p, h, fun H' M' g => ⟨xs, SqL.of (g.at hp hm).1, Rs.grow g _ xs sp⟩⟩
  | fzn es => cases e; obtain ⟨p, xs, h, hp, sp⟩ := r; exact ⟨p, h, fun H' M' g => ⟨xs, (g.rl hp).sq, Rs.grow g _ xs sp⟩⟩
  | _ => cases e
def zipK (R : List D → Option Addr → Mem → Prop) (d e : D) (M : Mem) : Prop := match d, e with
  | .tup ds, .tup es => R (zpD ds es) none M
  | d, e => ∃ ds es, lsdO d = some ds ∧ lsdO e = some es ∧ R (zpD ds es) none M
def iZipD (te te2 : TED) : TID := fun Xd s M R => dCons te (dCons te2 dNil) Xd s M fun ds M1 => ∃ d e, ds = [d, e] ∧ zipK R d e M1
end DL
set_option maxHeartbeats 1000000
namespace DL
open PySem PySem.Spec PyProof.Rows L2
/-! ### xs.index(i), a list of integers -/
end DL
set_option maxHeartbeats 1000000
namespace PySem
end PySem
namespace DL
open PySem PySem.Spec PyProof.Rows L2
/-! ### first, *rest = a list -/
theorem pgs_star {X : Cx} {e : Expr} {g : TG} {p : Pos} (h : PG X e g) (hs : (assignEach [.Starred e p] X.env).map (·.2) = [assign e X.env] := by rfl) : PGs X [.Starred e p] (gCons g gNil) := by
  refine ⟨fun pins s σ H vs us Q I r ⟨v, t, ev, hv⟩ => ?_⟩
  subst ev
  rw [hs]
  cases r with
  | @cons _ u _ ut rv rt =>
    show wpAny _ _ (holding ut (assign e X.env u) >>= fun _ => assignInOrder [] ut) _ _ _
    refine wpAny_bind (wpAny_holding (wpAny_mono (h.run pins s σ H v u _ I rv hv) (fun _ s' ⟨σ', H', I', et, q⟩ => ?_) fun _ _ z => z))
    subst et
    cases rt
    exact wpAny_pure ⟨σ', H', I', q⟩
theorem dgs_star {X : Cx} {E : XK} {e : Expr} {t : TGD} {p : Pos} (h : DG X E e t) (hs : (assignEach [.Starred e p] X.env).map (·.2) = [assign e X.env] := by rfl) : DGs X E [.Starred e p] 1 (gCo t gNi) := by
  obtain ⟨g1, p1, q1⟩ := h.ok
  obtain ⟨g2, p2, q2⟩ := (dgs_nil (X := X) (E := E)).ok
  refine ⟨gCons g1 gNil, pgs_star p1 hs, fun {vs ds σ H s M Xd Qd Q} S x r t q => ?_⟩
  cases ds with
  | nil => exact t.elim
  | cons d ds =>
    obtain ⟨v, vr, rfl, rd, rr⟩ := r
    cases ds with
    | nil =>
      have ev : vr = [] := rr
      subst ev
      exact ⟨v, [], rfl, q1 S x rd t fun σ' H' hu => ⟨rfl, q σ' H' hu⟩⟩
    | cons d2 ds2 => exact ⟨v, vr, rfl, q1 S x rd t fun σ' H' ⟨s', M', g, S', z⟩ => z.elim⟩
end DL
set_option maxHeartbeats 1000000
namespace DL
open PySem PySem.Spec PyProof.Rows L2
section
variable {X : Cx} {E E0' : XK} {n k : Nat} {x : Str} {p pos p2 pos' apos tpos : Pos} {e a b c tg o i value iter elt : Expr} {es : List Expr} {ts : TAD} {te ta tb td tv to ti : TED}
/-! ### list(x), to be changed -/
/-! ### xs.reverse() -/
def dRvs (to : TED) : TED := fun Xd s M Q => to Xd s M fun o M1 => match o with
  | .ref p => match M1 p with
    | some (.lst ds) => Q .non (M1.put p (.lst ds.reverse))
    | _ => False
  | _ => False
theorem de_rvs (ho : DE X E o to) (hbase : attributeBase o "reverse" X.env (eval o X.env) = eval o X.env := by rfl)
    (hline : (apos.endLine == pos.line) = true := by rfl) : DE X E (.Call (.Attribute o "reverse" apos) [] [] pos) (dRvs to) :=
  ⟨PE.imp (pe_bm0 PySem.F.plainAttrs_list PySem.F.slot_list_reverse PySem.F.type_list_reverse mt_reverse ho.ok hbase hline) fun σ H Q ⟨s, M, Qd, Xd, S, x, t, q⟩ => by
    refine useE S x t fun od v M1 H1 g1 S1 x1 r1 t1 => ?_
    split at t1
    · rename_i l
      have ev : v = .ref l := r1
      split at t1
      · rename_i ds hm
        obtain ⟨xs, h1, h2⟩ := S1.mem l _ hm
        subst ev
        refine ⟨.inl ⟨rfl, xs, SqL.of h1⟩, l, xs, rfl, rfl, h1, ?_⟩
        exact q _ _ ⟨.non, M1.put l (.lst ds.reverse), g1.trans (gw_put hm), mok_put S1.mem hm ⟨xs.reverse, upd_same, Rs.grow (gw_put hm) _ _ (Rs.reverse h2)⟩, rfl, t1⟩
      · exact t1.elim
    · exact t1.elim⟩
/-! ### xs[i] += e -/
/-- the list at an owned place -/
def augK (f : Int → Int → Int) (te : TED) (Y : EndsD) (s : SD) (o i : D) : Mem → Prop := fun M => match o, i with
  | .ref p, .int z => match M p with
    | some (.lst ds) => match atI ds z with
      | some (.int u) => te Y.ex s M fun y M1 => match y with
        | .int w => setK (.ref p) (.int z) (.int (f u w)) (fun M2 => Y.nx s M2) M1
        | _ => False
      | _ => False
    | _ => False
  | _, _ => False
def sAugS (f : Int → Int → Int) (to ti te : TED) : TSD := fun Y s M => to Y.ex s M fun o M1 => ti Y.ex s M1 fun i M2 => augK f te Y s o i M2
/-! ### x += e of an int -/
end
/-! ### freezing within a tuple -/
theorem rs_setf {K : Fg} {H : Hp} {M : Mem} {a : Addr} {ds : List D} {xs : List V} (h1 : H a = some (.lst xs)) (h2 : Rs K H (M.del a) ds xs) : ∀ {ts : List D} {vs : List V} {i : Nat}, Rs K H (M.del a) ts vs → ts[i]? = some (.ref a) → Rs K H (M.del a) (ts.set i (.lst ds)) vs
  | [], _, _, _, e => by simp at e
  | t :: ts, _, 0, ⟨v, r, rfl, q, w⟩, e => by
    simp at e; subst e
    exact Rs.cons ⟨a, xs, q, h1, Mem.del_same, h2⟩ w
  | t :: ts, _, i + 1, ⟨v, r, rfl, q, w⟩, e => Rs.cons q (rs_setf h1 h2 w (by simpa using e))
theorem lo_frzT {Q : QD} {M : Mem} {a : Addr} {ds ts : List D} (i : Nat) (hi : ts[i]? = some (.ref a)) (e : M a = some (.lst ds)) (h : Lo Q (.tup (ts.set i (.lst ds))) (M.del a)) : Lo Q (.tup ts) M := by
  obtain ⟨d2, M2, l, q⟩ := h
  have hs : ∀ b o, (M.del a) b = some o → M b = some o := fun b o e => by
    by_cases z : b = a
    · subst z; rw [Mem.del_same] at e; cases e
    · rw [Mem.del_ne z] at e; exact e
  have hn : ∀ b, M b = none → (M.del a) b = none := fun b e => by
    by_cases z : b = a
    · subst z; exact Mem.del_same
    · rw [Mem.del_ne z]; exact e
  refine ⟨d2, M2, ⟨fun b o e => hs b o (l.sub b o e), fun b e => l.nn b (hn b e), fun K H v mo r => ?_⟩, q⟩
  obtain ⟨xs, h1, h2⟩ := mo a _ e
  obtain ⟨p, vs, rfl, rt, rs⟩ := r
  have mo2 := mok_less hs hn mo
  refine l.rv K H _ mo2 ⟨p, vs, rfl, (gw_less hn).rt rt, rs_setf h1 (Rs.grow (gw_less hn) ds xs h2) (Rs.grow (gw_less hn) _ _ rs) hi⟩
/-! ### a comprehension whose list will be changed -/
end DL
set_option maxHeartbeats 1000000
namespace DL
open PySem PySem.Spec PyProof.Rows L2
section
variable {Xd : XD} {s : SD} {M : Mem} {Q : QD} {te ta tb tc to ti t1 : TED} {A : TAD} {t u : TSD} {c d1 : TTD} {d e x y : D} {nx bk ct : SD → Mem → Prop} {rt : QD} {ex : XD} {ds es : List D} {a p : Addr} {R : Bool → Mem → Prop} {L : List D → Mem → Prop}
/-! ### statements -/
theorem w_seq (h : t ⟨u ⟨nx, rt, bk, ct, ex⟩, rt, bk, ct, ex⟩ s M) : sSeq t u ⟨nx, rt, bk, ct, ex⟩ s M := h
theorem w_nx (h : nx s M) : sNx ⟨nx, rt, bk, ct, ex⟩ s M := h
theorem w_bk (h : bk s M) : sBk ⟨nx, rt, bk, ct, ex⟩ s M := h
theorem w_ct (h : ct s M) : sCt ⟨nx, rt, bk, ct, ex⟩ s M := h
theorem w_ret (h : te ex s M rt) : sRet te ⟨nx, rt, bk, ct, ex⟩ s M := h
theorem w_retN (h : rt .non M) : sRetN ⟨nx, rt, bk, ct, ex⟩ s M := h
theorem w_expr (h : te ex s M fun _ M1 => nx s M1) : sExpr te ⟨nx, rt, bk, ct, ex⟩ s M := h
theorem w_ifS (h : c ex s M fun b M1 => if b = true then t ⟨nx, rt, bk, ct, ex⟩ s M1 else u ⟨nx, rt, bk, ct, ex⟩ s M1) : sIf c t u ⟨nx, rt, bk, ct, ex⟩ s M := h
theorem w_asg {g : TGD} (h : te ex s M fun d M1 => g d ex s M1 nx) : sAsg te g ⟨nx, rt, bk, ct, ex⟩ s M := h
theorem w_augS {f} (h : to ex s M fun o M1 => ti ex s M1 fun i M2 => augK f te ⟨nx, rt, bk, ct, ex⟩ s o i M2) : sAugS f to ti te ⟨nx, rt, bk, ct, ex⟩ s M := h
theorem w_for {ti : TID} {g : TGD} (h : ti ex s M fun ds ow M1 => sForL g t ⟨nx, rt, bk, ct, ex⟩ (wat ow M1) ds s M1) : sFor ti g t ⟨nx, rt, bk, ct, ex⟩ s M := h
theorem w_forNil {g : TGD} {W : Mem → Prop} (hW : W M) (h : nx s M) : sForL g t ⟨nx, rt, bk, ct, ex⟩ W [] s M := ⟨hW, h⟩
theorem w_forCons {g : TGD} {W : Mem → Prop} (hW : W M) (h : g d ex s M fun s' M' => t ⟨sForL g t ⟨nx, rt, bk, ct, ex⟩ W ds, rt, nx, sForL g t ⟨nx, rt, bk, ct, ex⟩ W ds, ex⟩ s' M') : sForL g t ⟨nx, rt, bk, ct, ex⟩ W (d :: ds) s M := ⟨hW, h⟩
/-- what comes behind a statement, once for all its ways -/
theorem w_join {P : Mem → Prop} (hu : ∀ M1, P M1 → u ⟨nx, rt, bk, ct, ex⟩ s M1) (h : (∀ M1, P M1 → u ⟨nx, rt, bk, ct, ex⟩ s M1) → sSeq t u ⟨nx, rt, bk, ct, ex⟩ s M) : sSeq t u ⟨nx, rt, bk, ct, ex⟩ s M := h hu
theorem w_sl {l h : TOD} (H : te Xd s M fun d M1 => l Xd s M1 fun x M2 => h Xd s M2 fun y M3 => slK x y d Q M3) : dSl te l h Xd s M Q := H
theorem w_oNo {F : Option Int → Mem → Prop} (h : F none M) : oNo Xd s M F := h
theorem w_oSo {F : Option Int → Mem → Prop} (h : te Xd s M (oSoK F)) : oSo te Xd s M F := h
theorem w_oSoK {F : Option Int → Mem → Prop} {i : Int} (h : F (some i) M) : oSoK F (.int i) M := h
theorem w_slT {l h : Option Int} (H : Q (.tup (cutD ds l h)) M) : slK l h (.tup ds) Q M := H
theorem w_slL {l h : Option Int} (H : Q (.lst (cutD ds l h)) M) : slK l h (.lst ds) Q M := H
theorem w_dct {trs : List (Key × TED)} (h : ∀ p, M p = none → dPairs trs Xd s (M.put p (.dct [] [])) fun ds M1 => M1 p = some (.dct [] []) ∧ Q (.ref p) (M1.put p (.dct (trs.map (·.1)) ds))) : dDct trs Xd s M Q := h
theorem w_prN (h : L [] M) : dPairs [] Xd s M L := h
theorem w_prC {k : Key} {r : List (Key × TED)} (h : te Xd s M fun d M1 => dPairs r Xd s M1 fun ds M2 => L (d :: ds) M2) : dPairs ((k, te) :: r) Xd s M L := h
theorem w_lc {ti : TID} {g : TGD} {tt : TTD} {vs : List Nat} (h : ti Xd s M fun ds ow M1 => ∀ p, M1 p = none → dLcL g tt te (wipeD s vs) (wat ow M1) p Q ds (M1.put p (.lst []))) : dLc ti g tt te vs Xd s M Q := h
theorem wat_none {M0 : Mem} : wat none M0 M := True.intro
theorem wat_some {M0 : Mem} (h : M a = M0 a) : wat (some a) M0 M := h
theorem w_set0 {x0 : Option D} (h : te ex (x0 :: s) M fun d M1 => nx (some d :: s) M1) : sSet 0 te ⟨nx, rt, bk, ct, ex⟩ (x0 :: s) M := h
theorem w_gnm0 {x0 : Option D} {K : SD → Mem → Prop} (h : K (some d :: s) M) : gNm 0 d Xd (x0 :: s) M K := h
theorem w_var0 (h : Q d M) : dVar 0 Xd (some d :: s) M Q := h
theorem w_set1 {x0 x1 : Option D} (h : te ex (x0 :: x1 :: s) M fun d M1 => nx (x0 :: some d :: s) M1) : sSet 1 te ⟨nx, rt, bk, ct, ex⟩ (x0 :: x1 :: s) M := h
theorem w_gnm1 {x0 x1 : Option D} {K : SD → Mem → Prop} (h : K (x0 :: some d :: s) M) : gNm 1 d Xd (x0 :: x1 :: s) M K := h
theorem w_var1 {x0 : Option D} (h : Q d M) : dVar 1 Xd (x0 :: some d :: s) M Q := h
theorem w_set2 {x0 x1 x2 : Option D} (h : te ex (x0 :: x1 :: x2 :: s) M fun d M1 => nx (x0 :: x1 :: some d :: s) M1) : sSet 2 te ⟨nx, rt, bk, ct, ex⟩ (x0 :: x1 :: x2 :: s) M := h
theorem w_gnm2 {x0 x1 x2 : Option D} {K : SD → Mem → Prop} (h : K (x0 :: x1 :: some d :: s) M) : gNm 2 d Xd (x0 :: x1 :: x2 :: s) M K := h
theorem w_var2 {x0 x1 : Option D} (h : Q d M) : dVar 2 Xd (x0 :: x1 :: some d :: s) M Q := h
theorem w_set3 {x0 x1 x2 x3 : Option D} (h : te ex (x0 :: x1 :: x2 :: x3 :: s) M fun d M1 => nx (x0 :: x1 :: x2 :: some d :: s) M1) : sSet 3 te ⟨nx, rt, bk, ct, ex⟩ (x0 :: x1 :: x2 :: x3 :: s) M := h
theorem w_gnm3 {x0 x1 x2 x3 : Option D} {K : SD → Mem → Prop} (h : K (x0 :: x1 :: x2 :: some d :: s) M) : gNm 3 d Xd (x0 :: x1 :: x2 :: x3 :: s) M K := h
theorem w_var3 {x0 x1 x2 : Option D} (h : Q d M) : dVar 3 Xd (x0 :: x1 :: x2 :: some d :: s) M Q := h
theorem w_set4 {x0 x1 x2 x3 x4 : Option D} (h : te ex (x0 :: x1 :: x2 :: x3 :: x4 :: s) M fun d M1 => nx (x0 :: x1 :: x2 :: x3 :: some d :: s) M1) : sSet 4 te ⟨nx, rt, bk, ct, ex⟩ (x0 :: x1 :: x2 :: x3 :: x4 :: s) M := h
theorem w_gnm4 {x0 x1 x2 x3 x4 : Option D} {K : SD → Mem → Prop} (h : K (x0 :: x1 :: x2 :: x3 :: some d :: s) M) : gNm 4 d Xd (x0 :: x1 :: x2 :: x3 :: x4 :: s) M K := h
theorem w_var4 {x0 x1 x2 x3 : Option D} (h : Q d M) : dVar 4 Xd (x0 :: x1 :: x2 :: x3 :: some d :: s) M Q := h
theorem w_set5 {x0 x1 x2 x3 x4 x5 : Option D} (h : te ex (x0 :: x1 :: x2 :: x3 :: x4 :: x5 :: s) M fun d M1 => nx (x0 :: x1 :: x2 :: x3 :: x4 :: some d :: s) M1) : sSet 5 te ⟨nx, rt, bk, ct, ex⟩ (x0 :: x1 :: x2 :: x3 :: x4 :: x5 :: s) M := h
theorem w_gnm5 {x0 x1 x2 x3 x4 x5 : Option D} {K : SD → Mem → Prop} (h : K (x0 :: x1 :: x2 :: x3 :: x4 :: some d :: s) M) : gNm 5 d Xd (x0 :: x1 :: x2 :: x3 :: x4 :: x5 :: s) M K := h
theorem w_var5 {x0 x1 x2 x3 x4 : Option D} (h : Q d M) : dVar 5 Xd (x0 :: x1 :: x2 :: x3 :: x4 :: some d :: s) M Q := h
theorem w_set6 {x0 x1 x2 x3 x4 x5 x6 : Option D} (h : te ex (x0 :: x1 :: x2 :: x3 :: x4 :: x5 :: x6 :: s) M fun d M1 => nx (x0 :: x1 :: x2 :: x3 :: x4 :: x5 :: some d :: s) M1) : sSet 6 te ⟨nx, rt, bk, ct, ex⟩ (x0 :: x1 :: x2 :: x3 :: x4 :: x5 :: x6 :: s) M := h
theorem w_gnm6 {x0 x1 x2 x3 x4 x5 x6 : Option D} {K : SD → Mem → Prop} (h : K (x0 :: x1 :: x2 :: x3 :: x4 :: x5 :: some d :: s) M) : gNm 6 d Xd (x0 :: x1 :: x2 :: x3 :: x4 :: x5 :: x6 :: s) M K := h
theorem w_var6 {x0 x1 x2 x3 x4 x5 : Option D} (h : Q d M) : dVar 6 Xd (x0 :: x1 :: x2 :: x3 :: x4 :: x5 :: some d :: s) M Q := h
theorem w_set7 {x0 x1 x2 x3 x4 x5 x6 x7 : Option D} (h : te ex (x0 :: x1 :: x2 :: x3 :: x4 :: x5 :: x6 :: x7 :: s) M fun d M1 => nx (x0 :: x1 :: x2 :: x3 :: x4 :: x5 :: x6 :: some d :: s) M1) : sSet 7 te ⟨nx, rt, bk, ct, ex⟩ (x0 :: x1 :: x2 :: x3 :: x4 :: x5 :: x6 :: x7 :: s) M := h
theorem w_gnm7 {x0 x1 x2 x3 x4 x5 x6 x7 : Option D} {K : SD → Mem → Prop} (h : K (x0 :: x1 :: x2 :: x3 :: x4 :: x5 :: x6 :: some d :: s) M) : gNm 7 d Xd (x0 :: x1 :: x2 :: x3 :: x4 :: x5 :: x6 :: x7 :: s) M K := h
theorem w_var7 {x0 x1 x2 x3 x4 x5 x6 : Option D} (h : Q d M) : dVar 7 Xd (x0 :: x1 :: x2 :: x3 :: x4 :: x5 :: x6 :: some d :: s) M Q := h
theorem w_set8 {x0 x1 x2 x3 x4 x5 x6 x7 x8 : Option D} (h : te ex (x0 :: x1 :: x2 :: x3 :: x4 :: x5 :: x6 :: x7 :: x8 :: s) M fun d M1 => nx (x0 :: x1 :: x2 :: x3 :: x4 :: x5 :: x6 :: x7 :: some d :: s) M1) : sSet 8 te ⟨nx, rt, bk, ct, ex⟩ (x0 :: x1 :: x2 :: x3 :: x4 :: x5 :: x6 :: x7 :: x8 :: s) M := h
theorem w_gnm8 {x0 x1 x2 x3 x4 x5 x6 x7 x8 : Option D} {K : SD → Mem → Prop} (h : K (x0 :: x1 :: x2 :: x3 :: x4 :: x5 :: x6 :: x7 :: some d :: s) M) : gNm 8 d Xd (x0 :: x1 :: x2 :: x3 :: x4 :: x5 :: x6 :: x7 :: x8 :: s) M K := h
theorem w_var8 {x0 x1 x2 x3 x4 x5 x6 x7 : Option D} (h : Q d M) : dVar 8 Xd (x0 :: x1 :: x2 :: x3 :: x4 :: x5 :: x6 :: x7 :: some d :: s) M Q := h
theorem w_set9 {x0 x1 x2 x3 x4 x5 x6 x7 x8 x9 : Option D} (h : te ex (x0 :: x1 :: x2 :: x3 :: x4 :: x5 :: x6 :: x7 :: x8 :: x9 :: s) M fun d M1 => nx (x0 :: x1 :: x2 :: x3 :: x4 :: x5 :: x6 :: x7 :: x8 :: some d :: s) M1) : sSet 9 te ⟨nx, rt, bk, ct, ex⟩ (x0 :: x1 :: x2 :: x3 :: x4 :: x5 :: x6 :: x7 :: x8 :: x9 :: s) M := h
theorem w_gnm9 {x0 x1 x2 x3 x4 x5 x6 x7 x8 x9 : Option D} {K : SD → Mem → Prop} (h : K (x0 :: x1 :: x2 :: x3 :: x4 :: x5 :: x6 :: x7 :: x8 :: some d :: s) M) : gNm 9 d Xd (x0 :: x1 :: x2 :: x3 :: x4 :: x5 :: x6 :: x7 :: x8 :: x9 :: s) M K := h
theorem w_var9 {x0 x1 x2 x3 x4 x5 x6 x7 x8 : Option D} (h : Q d M) : dVar 9 Xd (x0 :: x1 :: x2 :: x3 :: x4 :: x5 :: x6 :: x7 :: x8 :: some d :: s) M Q := h
theorem w_set10 {x0 x1 x2 x3 x4 x5 x6 x7 x8 x9 x10 : Option D} (h : te ex (x0 :: x1 :: x2 :: x3 :: x4 :: x5 :: x6 :: x7 :: x8 :: x9 :: x10 :: s) M fun d M1 => nx (x0 :: x1 :: x2 :: x3 :: x4 :: x5 :: x6 :: x7 :: x8 :: x9 :: some d :: s) M1) : sSet 10 te ⟨nx, rt, bk, ct, ex⟩ (x0 :: x1 :: x2 :: x3 :: x4 :: x5 :: x6 :: x7 :: x8 :: x9 :: x10 :: s) M := h
theorem w_gnm10 {x0 x1 x2 x3 x4 x5 x6 x7 x8 x9 x10 : Option D} {K : SD → Mem → Prop} (h : K (x0 :: x1 :: x2 :: x3 :: x4 :: x5 :: x6 :: x7 :: x8 :: x9 :: some d :: s) M) : gNm 10 d Xd (x0 :: x1 :: x2 :: x3 :: x4 :: x5 :: x6 :: x7 :: x8 :: x9 :: x10 :: s) M K := h
theorem w_var10 {x0 x1 x2 x3 x4 x5 x6 x7 x8 x9 : Option D} (h : Q d M) : dVar 10 Xd (x0 :: x1 :: x2 :: x3 :: x4 :: x5 :: x6 :: x7 :: x8 :: x9 :: some d :: s) M Q := h
theorem w_set11 {x0 x1 x2 x3 x4 x5 x6 x7 x8 x9 x10 x11 : Option D} (h : te ex (x0 :: x1 :: x2 :: x3 :: x4 :: x5 :: x6 :: x7 :: x8 :: x9 :: x10 :: x11 :: s) M fun d M1 => nx (x0 :: x1 :: x2 :: x3 :: x4 :: x5 :: x6 :: x7 :: x8 :: x9 :: x10 :: some d :: s) M1) : sSet 11 te ⟨nx, rt, bk, ct, ex⟩ (x0 :: x1 :: x2 :: x3 :: x4 :: x5 :: x6 :: x7 :: x8 :: x9 :: x10 :: x11 :: s) M := h
theorem w_gnm11 {x0 x1 x2 x3 x4 x5 x6 x7 x8 x9 x10 x11 : Option D} {K : SD → Mem → Prop} (h : K (x0 :: x1 :: x2 :: x3 :: x4 :: x5 :: x6 :: x7 :: x8 :: x9 :: x10 :: some d :: s) M) : gNm 11 d Xd (x0 :: x1 :: x2 :: x3 :: x4 :: x5 :: x6 :: x7 :: x8 :: x9 :: x10 :: x11 :: s) M K := h
theorem w_var11 {x0 x1 x2 x3 x4 x5 x6 x7 x8 x9 x10 : Option D} (h : Q d M) : dVar 11 Xd (x0 :: x1 :: x2 :: x3 :: x4 :: x5 :: x6 :: x7 :: x8 :: x9 :: x10 :: some d :: s) M Q := h
theorem w_set12 {x0 x1 x2 x3 x4 x5 x6 x7 x8 x9 x10 x11 x12 : Option D} (h : te ex (x0 :: x1 :: x2 :: x3 :: x4 :: x5 :: x6 :: x7 :: x8 :: x9 :: x10 :: x11 :: x12 :: s) M fun d M1 => nx (x0 :: x1 :: x2 :: x3 :: x4 :: x5 :: x6 :: x7 :: x8 :: x9 :: x10 :: x11 :: some d :: s) M1) : sSet 12 te ⟨nx, rt, bk, ct, ex⟩ (x0 :: x1 :: x2 :: x3 :: x4 :: x5 :: x6 :: x7 :: x8 :: x9 :: x10 :: x11 :: x12 :: s) M := h
theorem w_gnm12 {x0 x1 x2 x3 x4 x5 x6 x7 x8 x9 x10 x11 x12 : Option D} {K : SD → Mem → Prop} (h : K (x0 :: x1 :: x2 :: x3 :: x4 :: x5 :: x6 :: x7 :: x8 :: x9 :: x10 :: x11 :: some d :: s) M) : gNm 12 d Xd (x0 :: x1 :: x2 :: x3 :: x4 :: x5 :: x6 :: x7 :: x8 :: x9 :: x10 :: x11 :: x12 :: s) M K := h
theorem w_var12 {x0 x1 x2 x3 x4 x5 x6 x7 x8 x9 x10 x11 : Option D} (h : Q d M) : dVar 12 Xd (x0 :: x1 :: x2 :: x3 :: x4 :: x5 :: x6 :: x7 :: x8 :: x9 :: x10 :: x11 :: some d :: s) M Q := h
theorem w_set13 {x0 x1 x2 x3 x4 x5 x6 x7 x8 x9 x10 x11 x12 x13 : Option D} (h : te ex (x0 :: x1 :: x2 :: x3 :: x4 :: x5 :: x6 :: x7 :: x8 :: x9 :: x10 :: x11 :: x12 :: x13 :: s) M fun d M1 => nx (x0 :: x1 :: x2 :: x3 :: x4 :: x5 :: x6 :: x7 :: x8 :: x9 :: x10 :: x11 :: x12 :: some d :: s) M1) : sSet 13 te ⟨nx, rt, bk, ct, ex⟩ (x0 :: x1 :: x2 :: x3 :: x4 :: x5 :: x6 :: x7 :: x8 :: x9 :: x10 :: x11 :: x12 :: x13 :: s) M := h
theorem w_gnm13 {x0 x1 x2 x3 x4 x5 x6 x7 x8 x9 x10 x11 x12 x13 : Option D} {K : SD → Mem → Prop} (h : K (x0 :: x1 :: x2 :: x3 :: x4 :: x5 :: x6 :: x7 :: x8 :: x9 :: x10 :: x11 :: x12 :: some d :: s) M) : gNm 13 d Xd (x0 :: x1 :: x2 :: x3 :: x4 :: x5 :: x6 :: x7 :: x8 :: x9 :: x10 :: x11 :: x12 :: x13 :: s) M K := h
theorem w_var13 {x0 x1 x2 x3 x4 x5 x6 x7 x8 x9 x10 x11 x12 : Option D} (h : Q d M) : dVar 13 Xd (x0 :: x1 :: x2 :: x3 :: x4 :: x5 :: x6 :: x7 :: x8 :: x9 :: x10 :: x11 :: x12 :: some d :: s) M Q := h
theorem w_set14 {x0 x1 x2 x3 x4 x5 x6 x7 x8 x9 x10 x11 x12 x13 x14 : Option D} (h : te ex (x0 :: x1 :: x2 :: x3 :: x4 :: x5 :: x6 :: x7 :: x8 :: x9 :: x10 :: x11 :: x12 :: x13 :: x14 :: s) M fun d M1 => nx (x0 :: x1 :: x2 :: x3 :: x4 :: x5 :: x6 :: x7 :: x8 :: x9 :: x10 :: x11 :: x12 :: x13 :: some d :: s) M1) : sSet 14 te ⟨nx, rt, bk, ct, ex⟩ (x0 :: x1 :: x2 :: x3 :: x4 :: x5 :: x6 :: x7 :: x8 :: x9 :: x10 :: x11 :: x12 :: x13 :: x14 :: s) M := h
theorem w_gnm14 {x0 x1 x2 x3 x4 x5 x6 x7 x8 x9 x10 x11 x12 x13 x14 : Option D} {K : SD → Mem → Prop} (h : K (x0 :: x1 :: x2 :: x3 :: x4 :: x5 :: x6 :: x7 :: x8 :: x9 :: x10 :: x11 :: x12 :: x13 :: some d :: s) M) : gNm 14 d Xd (x0 :: x1 :: x2 :: x3 :: x4 :: x5 :: x6 :: x7 :: x8 :: x9 :: x10 :: x11 :: x12 :: x13 :: x14 :: s) M K := h
theorem w_var14 {x0 x1 x2 x3 x4 x5 x6 x7 x8 x9 x10 x11 x12 x13 : Option D} (h : Q d M) : dVar 14 Xd (x0 :: x1 :: x2 :: x3 :: x4 :: x5 :: x6 :: x7 :: x8 :: x9 :: x10 :: x11 :: x12 :: x13 :: some d :: s) M Q := h
theorem w_set15 {x0 x1 x2 x3 x4 x5 x6 x7 x8 x9 x10 x11 x12 x13 x14 x15 : Option D} (h : te ex (x0 :: x1 :: x2 :: x3 :: x4 :: x5 :: x6 :: x7 :: x8 :: x9 :: x10 :: x11 :: x12 :: x13 :: x14 :: x15 :: s) M fun d M1 => nx (x0 :: x1 :: x2 :: x3 :: x4 :: x5 :: x6 :: x7 :: x8 :: x9 :: x10 :: x11 :: x12 :: x13 :: x14 :: some d :: s) M1) : sSet 15 te ⟨nx, rt, bk, ct, ex⟩ (x0 :: x1 :: x2 :: x3 :: x4 :: x5 :: x6 :: x7 :: x8 :: x9 :: x10 :: x11 :: x12 :: x13 :: x14 :: x15 :: s) M := h
theorem w_gnm15 {x0 x1 x2 x3 x4 x5 x6 x7 x8 x9 x10 x11 x12 x13 x14 x15 : Option D} {K : SD → Mem → Prop} (h : K (x0 :: x1 :: x2 :: x3 :: x4 :: x5 :: x6 :: x7 :: x8 :: x9 :: x10 :: x11 :: x12 :: x13 :: x14 :: some d :: s) M) : gNm 15 d Xd (x0 :: x1 :: x2 :: x3 :: x4 :: x5 :: x6 :: x7 :: x8 :: x9 :: x10 :: x11 :: x12 :: x13 :: x14 :: x15 :: s) M K := h
theorem w_var15 {x0 x1 x2 x3 x4 x5 x6 x7 x8 x9 x10 x11 x12 x13 x14 : Option D} (h : Q d M) : dVar 15 Xd (x0 :: x1 :: x2 :: x3 :: x4 :: x5 :: x6 :: x7 :: x8 :: x9 :: x10 :: x11 :: x12 :: x13 :: x14 :: some d :: s) M Q := h
theorem w_set16 {x0 x1 x2 x3 x4 x5 x6 x7 x8 x9 x10 x11 x12 x13 x14 x15 x16 : Option D} (h : te ex (x0 :: x1 :: x2 :: x3 :: x4 :: x5 :: x6 :: x7 :: x8 :: x9 :: x10 :: x11 :: x12 :: x13 :: x14 :: x15 :: x16 :: s) M fun d M1 => nx (x0 :: x1 :: x2 :: x3 :: x4 :: x5 :: x6 :: x7 :: x8 :: x9 :: x10 :: x11 :: x12 :: x13 :: x14 :: x15 :: some d :: s) M1) : sSet 16 te ⟨nx, rt, bk, ct, ex⟩ (x0 :: x1 :: x2 :: x3 :: x4 :: x5 :: x6 :: x7 :: x8 :: x9 :: x10 :: x11 :: x12 :: x13 :: x14 :: x15 :: x16 :: s) M := h
theorem w_gnm16 {x0 x1 x2 x3 x4 x5 x6 x7 x8 x9 x10 x11 x12 x13 x14 x15 x16 : Option D} {K : SD → Mem → Prop} (h : K (x0 :: x1 :: x2 :: x3 :: x4 :: x5 :: x6 :: x7 :: x8 :: x9 :: x10 :: x11 :: x12 :: x13 :: x14 :: x15 :: some d :: s) M) : gNm 16 d Xd (x0 :: x1 :: x2 :: x3 :: x4 :: x5 :: x6 :: x7 :: x8 :: x9 :: x10 :: x11 :: x12 :: x13 :: x14 :: x15 :: x16 :: s) M K := h
theorem w_var16 {x0 x1 x2 x3 x4 x5 x6 x7 x8 x9 x10 x11 x12 x13 x14 x15 : Option D} (h : Q d M) : dVar 16 Xd (x0 :: x1 :: x2 :: x3 :: x4 :: x5 :: x6 :: x7 :: x8 :: x9 :: x10 :: x11 :: x12 :: x13 :: x14 :: x15 :: some d :: s) M Q := h
theorem w_set17 {x0 x1 x2 x3 x4 x5 x6 x7 x8 x9 x10 x11 x12 x13 x14 x15 x16 x17 : Option D} (h : te ex (x0 :: x1 :: x2 :: x3 :: x4 :: x5 :: x6 :: x7 :: x8 :: x9 :: x10 :: x11 :: x12 :: x13 :: x14 :: x15 :: x16 :: x17 :: s) M fun d M1 => nx (x0 :: x1 :: x2 :: x3 :: x4 :: x5 :: x6 :: x7 :: x8 :: x9 :: x10 :: x11 :: x12 :: x13 :: x14 :: x15 :: x16 :: some d :: s) M1) : sSet 17 te ⟨nx, rt, bk, ct, ex⟩ (x0 :: x1 :: x2 :: x3 :: x4 :: x5 :: x6 :: x7 :: x8 :: x9 :: x10 :: x11 :: x12 :: x13 :: x14 :: x15 :: x16 :: x17 :: s) M := h
theorem w_gnm17 {x0 x1 x2 x3 x4 x5 x6 x7 x8 x9 x10 x11 x12 x13 x14 x15 x16 x17 : Option D} {K : SD → Mem → Prop} (h : K (x0 :: x1 :: x2 :: x3 :: x4 :: x5 :: x6 :: x7 :: x8 :: x9 :: x10 :: x11 :: x12 :: x13 :: x14 :: x15 :: x16 :: some d :: s) M) : gNm 17 d Xd (x0 :: x1 :: x2 :: x3 :: x4 :: x5 :: x6 :: x7 :: x8 :: x9 :: x10 :: x11 :: x12 :: x13 :: x14 :: x15 :: x16 :: x17 :: s) M K := h
theorem w_var17 {x0 x1 x2 x3 x4 x5 x6 x7 x8 x9 x10 x11 x12 x13 x14 x15 x16 : Option D} (h : Q d M) : dVar 17 Xd (x0 :: x1 :: x2 :: x3 :: x4 :: x5 :: x6 :: x7 :: x8 :: x9 :: x10 :: x11 :: x12 :: x13 :: x14 :: x15 :: x16 :: some d :: s) M Q := h
theorem w_set18 {x0 x1 x2 x3 x4 x5 x6 x7 x8 x9 x10 x11 x12 x13 x14 x15 x16 x17 x18 : Option D} (h : te ex (x0 :: x1 :: x2 :: x3 :: x4 :: x5 :: x6 :: x7 :: x8 :: x9 :: x10 :: x11 :: x12 :: x13 :: x14 :: x15 :: x16 :: x17 :: x18 :: s) M fun d M1 => nx (x0 :: x1 :: x2 :: x3 :: x4 :: x5 :: x6 :: x7 :: x8 :: x9 :: x10 :: x11 :: x12 :: x13 :: x14 :: x15 :: x16 :: x17 :: some d :: s) M1) : sSet 18 te ⟨nx, rt, bk, ct, ex⟩ (x0 :: x1 :: x2 :: x3 :: x4 :: x5 :: x6 :: x7 :: x8 :: x9 :: x10 :: x11 :: x12 :: x13 :: x14 :: x15 :: x16 :: x17 :: x18 :: s) M := h
theorem w_gnm18 {x0 x1 x2 x3 x4 x5 x6 x7 x8 x9 x10 x11 x12 x13 x14 x15 x16 x17 x18 : Option D} {K : SD → Mem → Prop} (h : K (x0 :: x1 :: x2 :: x3 :: x4 :: x5 :: x6 :: x7 :: x8 :: x9 :: x10 :: x11 :: x12 :: x13 :: x14 :: x15 :: x16 :: x17 :: some d :: s) M) : gNm 18 d Xd (x0 :: x1 :: x2 :: x3 :: x4 :: x5 :: x6 :: x7 :: x8 :: x9 :: x10 :: x11 :: x12 :: x13 :: x14 :: x15 :: x16 :: x17 :: x18 :: s) M K := h
theorem w_var18 {x0 x1 x2 x3 x4 x5 x6 x7 x8 x9 x10 x11 x12 x13 x14 x15 x16 x17 : Option D} (h : Q d M) : dVar 18 Xd (x0 :: x1 :: x2 :: x3 :: x4 :: x5 :: x6 :: x7 :: x8 :: x9 :: x10 :: x11 :: x12 :: x13 :: x14 :: x15 :: x16 :: x17 :: some d :: s) M Q := h
theorem w_set19 {x0 x1 x2 x3 x4 x5 x6 x7 x8 x9 x10 x11 x12 x13 x14 x15 x16 x17 x18 x19 : Option D} (h : te ex (x0 :: x1 :: x2 :: x3 :: x4 :: x5 :: x6 :: x7 :: x8 :: x9 :: x10 :: x11 :: x12 :: x13 :: x14 :: x15 :: x16 :: x17 :: x18 :: x19 :: s) M fun d M1 => nx (x0 :: x1 :: x2 :: x3 :: x4 :: x5 :: x6 :: x7 :: x8 :: x9 :: x10 :: x11 :: x12 :: x13 :: x14 :: x15 :: x16 :: x17 :: x18 :: some d :: s) M1) : sSet 19 te ⟨nx, rt, bk, ct, ex⟩ (x0 :: x1 :: x2 :: x3 :: x4 :: x5 :: x6 :: x7 :: x8 :: x9 :: x10 :: x11 :: x12 :: x13 :: x14 :: x15 :: x16 :: x17 :: x18 :: x19 :: s) M := h
theorem w_gnm19 {x0 x1 x2 x3 x4 x5 x6 x7 x8 x9 x10 x11 x12 x13 x14 x15 x16 x17 x18 x19 : Option D} {K : SD → Mem → Prop} (h : K (x0 :: x1 :: x2 :: x3 :: x4 :: x5 :: x6 :: x7 :: x8 :: x9 :: x10 :: x11 :: x12 :: x13 :: x14 :: x15 :: x16 :: x17 :: x18 :: some d :: s) M) : gNm 19 d Xd (x0 :: x1 :: x2 :: x3 :: x4 :: x5 :: x6 :: x7 :: x8 :: x9 :: x10 :: x11 :: x12 :: x13 :: x14 :: x15 :: x16 :: x17 :: x18 :: x19 :: s) M K := h
theorem w_var19 {x0 x1 x2 x3 x4 x5 x6 x7 x8 x9 x10 x11 x12 x13 x14 x15 x16 x17 x18 : Option D} (h : Q d M) : dVar 19 Xd (x0 :: x1 :: x2 :: x3 :: x4 :: x5 :: x6 :: x7 :: x8 :: x9 :: x10 :: x11 :: x12 :: x13 :: x14 :: x15 :: x16 :: x17 :: x18 :: some d :: s) M Q := h
/-! ### targets -/
variable {K : SD → Mem → Prop} {g : TGD} {G : TGsD}
theorem w_gTp {n} (hl : ds.length = n) (h : G ds Xd s M K) : gTp n G (.tup ds) Xd s M K := ⟨hl, h⟩
theorem w_gCo (h : g d Xd s M fun s' M' => G ds Xd s' M' K) : gCo g G (d :: ds) Xd s M K := h
theorem w_gNi (h : K s M) : gNi [] Xd s M K := h
theorem w_gSb (h : to Xd s M fun o M1 => ti Xd s M1 fun i M2 => setK o i d (fun M3 => K s M3) M2) : gSb to ti d Xd s M K := h
theorem w_setD {ks : List Key} {kk : Str} {k : Mem → Prop} (hM : M a = some (.dct ks ds)) (hn : ks.Nodup ∧ ks.length < 1000) (h : k (M.put a (.dct (putD ks ds (.inr kk) d).1 (putD ks ds (.inr kk) d).2))) : setK (.ref a) (.str kk) d k M := by
  unfold setK; simp only [hM, keyD]; exact ⟨hn, h⟩
/-! ### expressions -/
theorem w_c (h : Q d M) : dC d Xd s M Q := h
theorem w_op {o : O2} (h : ta Xd s M fun x M1 => tb Xd s M1 fun y M2 => o x y M2 Q) : dOp o ta tb Xd s M Q := h
theorem w_nil (h : L [] M) : dNil Xd s M L := h
theorem w_cons (h : te Xd s M fun d M1 => A Xd s M1 fun ds M2 => L (d :: ds) M2) : dCons te A Xd s M L := h
theorem w_tup (h : A Xd s M fun ds M1 => Q (.tup ds) M1) : dTup A Xd s M Q := h
theorem w_lst (h : A Xd s M fun ds M1 => Q (.lst ds) M1) : dLst A Xd s M Q := h
theorem w_lstO (h : A Xd s M fun ds M1 => ∀ p, M1 p = none → Q (.ref p) (M1.put p (.lst ds))) : dLstO A Xd s M Q := h
theorem w_cb {o : OC} (h : A Xd s M fun ds M1 => o ds M1 Q) : dCB o A Xd s M Q := h
theorem w_call {sp : SpD} (h : A Xd s M fun ds M1 => sp ds M1 Q Xd) : dCall sp [] A Xd s M Q := by
  unfold dCall
  have e : (fun ds M1 => sp (ds ++ []) M1 Q Xd) = fun ds M1 => sp ds M1 Q Xd := by funext ds M1; rw [List.append_nil]
  rw [e]; exact h
theorem w_ite (h : c Xd s M fun b M1 => if b = true then ta Xd s M1 Q else tb Xd s M1 Q) : dIte c ta tb Xd s M Q := h
theorem w_and (h : ta Xd s M (andK tb Xd s Q)) : dAnd ta tb Xd s M Q := h
theorem w_or (h : ta Xd s M (orK tb Xd s Q)) : dOr ta tb Xd s M Q := h
theorem w_not (h : ta Xd s M (notK Q)) : dNot ta Xd s M Q := h
theorem w_andT (h : tb Xd s M Q) : andK tb Xd s Q (.bl true) M := h
theorem w_andF (h : Q (.bl false) M) : andK tb Xd s Q (.bl false) M := h
theorem w_orT (h : Q (.bl true) M) : orK tb Xd s Q (.bl true) M := h
theorem w_orF (h : tb Xd s M Q) : orK tb Xd s Q (.bl false) M := h
theorem w_notB {b : Bool} (h : Q (.bl (!b)) M) : notK Q (.bl b) M := h
theorem w_neg (h : te Xd s M (unK (fun i => -i) Q)) : dNeg te Xd s M Q := h
theorem w_un {f : Int → Int} {i : Int} (h : Q (.int (f i)) M) : unK f Q (.int i) M := h
theorem w_tst (h : te Xd s M (tstB R)) : dTst te Xd s M R := h
theorem w_tstB {b : Bool} (h : R b M) : tstB R (.bl b) M := h
theorem w_tru (h : te Xd s M (truK R)) : dTru te Xd s M R := h
theorem w_truB {b : Bool} (h : R b M) : truK R (.bl b) M := h
theorem w_tAnd (h : c Xd s M fun b M1 => if b = true then d1 Xd s M1 R else R false M1) : tAndD c d1 Xd s M R := h
theorem w_tOr (h : c Xd s M fun b M1 => if b = true then R true M1 else d1 Xd s M1 R) : tOrD c d1 Xd s M R := h
theorem w_tNot (h : c Xd s M fun b M1 => R (!b) M1) : tNotD c Xd s M R := h
theorem w_chain {o o' : O2} (h : ta Xd s M fun x M1 => tb Xd s M1 fun y M2 => o x y M2 (chK o' y tc Xd s Q)) : dChain o o' ta tb tc Xd s M Q := h
theorem w_chT {o' : O2} (h : tc Xd s M fun z M1 => o' y z M1 Q) : chK o' y tc Xd s Q (.bl true) M := h
theorem w_chF {o' : O2} (h : Q (.bl false) M) : chK o' y tc Xd s Q (.bl false) M := h
theorem w_ifT {P U : Prop} (h : P) : if true = true then P else U := by rw [if_pos rfl]; exact h
theorem w_ifF {P U : Prop} (h : U) : if false = true then P else U := by rw [if_neg Bool.false_ne_true]; exact h
theorem w_ifnT {P U : Prop} (h : U) : if (!true) = true then P else U := w_ifF h
theorem w_ifnF {P U : Prop} (h : P) : if (!false) = true then P else U := w_ifT h
theorem w_ifdT {φ : Prop} [Decidable φ] {P U : Prop} (hφ : φ) (h : P) : if decide φ = true then P else U := by rw [if_pos (decide_eq_true hφ)]; exact h
theorem w_ifdF {φ : Prop} [Decidable φ] {P U : Prop} (hφ : ¬ φ) (h : U) : if decide φ = true then P else U := by rw [if_neg (fun z => hφ (of_decide_eq_true z))]; exact h
theorem w_ifd {φ : Prop} [Decidable φ] {P U : Prop} (h1 : φ → P) (h2 : ¬ φ → U) : if decide φ = true then P else U := by
  by_cases z : φ
  · exact w_ifdT z (h1 z)
  · exact w_ifdF z (h2 z)
theorem w_ifnd {φ : Prop} [Decidable φ] {P U : Prop} (h1 : ¬ φ → P) (h2 : φ → U) : if (!decide φ) = true then P else U := by
  by_cases z : φ
  · rw [decide_eq_true z]; exact w_ifF (h2 z)
  · rw [decide_eq_false z]; exact w_ifT (h1 z)
/-! ### operators -/
variable {i j : Int} {b b2 : Bool} {k : Str}
theorem w_addI (h : Q (.int (i + j)) M) : addD (.int i) (.int j) M Q := h
theorem w_addL (hl : ds.length + es.length ≤ sizeLine) (h : Q (.lst (ds ++ es)) M) : addD (.lst ds) (.lst es) M Q := ⟨hl, h⟩
theorem w_addT (hl : ds.length + es.length ≤ sizeLine) (h : Q (.tup (ds ++ es)) M) : addD (.tup ds) (.tup es) M Q := ⟨hl, h⟩
theorem w_subI (h : Q (.int (i - j)) M) : subD (.int i) (.int j) M Q := h
theorem w_mulI (hw : CMulW i j) (h : Q (.int (i * j)) M) : mulD (.int i) (.int j) M Q := ⟨hw, h⟩
theorem w_fdivI (hw : CDivW i j) (h : Q (.int (i / j)) M) : fdivD (.int i) (.int j) M Q := ⟨hw, h⟩
theorem w_modI (hw : 0 < j) (h : Q (.int (i % j)) M) : modD (.int i) (.int j) M Q := ⟨hw, h⟩
theorem w_powI (hw : CPow i j) (h : Q (.int (i ^ j.toNat)) M) : powD (.int i) (.int j) M Q := ⟨hw, h⟩
theorem w_lt (h : Q (.bl (decide (i < j))) M) : ltD (.int i) (.int j) M Q := h
theorem w_le (h : Q (.bl (decide (i ≤ j))) M) : leD (.int i) (.int j) M Q := h
theorem w_gt (h : Q (.bl (decide (j < i))) M) : gtD (.int i) (.int j) M Q := h
theorem w_ge (h : Q (.bl (decide (j ≤ i))) M) : geD (.int i) (.int j) M Q := h
theorem w_isN (h : Q (.bl (isN x)) M) : isD x .non M Q := ⟨rfl, h⟩
theorem w_isnN (h : Q (.bl (!isN x)) M) : isNotD x .non M Q := ⟨rfl, h⟩
theorem eq_ints : eqO (.int i) (.int j) = some (decide (i = j)) := by
  show (if SeqAt.shaped (.int i) = true ∧ SeqAt.shaped (.int j) = true then some (PyData.eqv (.int i) (.int j)) else none) = _
  rw [if_pos ⟨rfl, rfl⟩]
  rfl
theorem sh_str {k : Str} (h : PyData.strOk k = true) : SeqAt.shaped (.str k) = true := by
  unfold SeqAt.shaped; rw [show PyData.canLay0 (.str k) = PyData.strOk k from rfl, h]; rfl
theorem eq_strs {k l : Str} (h1 : PyData.strOk k = true) (h2 : PyData.strOk l = true) : eqO (.str k) (.str l) = some (decide (k = l)) := by
  show (if SeqAt.shaped (.str k) = true ∧ SeqAt.shaped (.str l) = true then some (PyData.eqv (.str k) (.str l)) else none) = _
  rw [if_pos ⟨sh_str h1, sh_str h2⟩]
  rfl
theorem w_eqI (h : Q (.bl (decide (i = j))) M) : eqD (.int i) (.int j) M Q := by
  unfold eqD; simp only [vw, eq_ints]; exact h
theorem w_neI (h : Q (.bl (!decide (i = j))) M) : neD (.int i) (.int j) M Q := by
  unfold neD; simp only [vw, eq_ints]; exact h
theorem w_eqS {k l : Str} (h1 : PyData.strOk k = true) (h2 : PyData.strOk l = true) (h : Q (.bl (decide (k = l))) M) : eqD (.str k) (.str l) M Q := by
  unfold eqD; simp only [vw, eq_strs h1 h2]; exact h
theorem w_neS {k l : Str} (h1 : PyData.strOk k = true) (h2 : PyData.strOk l = true) (h : Q (.bl (!decide (k = l))) M) : neD (.str k) (.str l) M Q := by
  unfold neD; simp only [vw, eq_strs h1 h2]; exact h
theorem w_eqO {x y : D} {b : Bool} (e : eqO (vw M x) (vw M y) = some b) (h : Q (.bl b) M) : eqD x y M Q := by
  unfold eqD; rw [e]; exact h
theorem w_neO {x y : D} {b : Bool} (e : eqO (vw M x) (vw M y) = some b) (h : Q (.bl (!b)) M) : neD x y M Q := by
  unfold neD; rw [e]; exact h
/-! ### subscripts -/
theorem w_ixL (e : atI ds i = some d) (h : Q d M) : ixD (.lst ds) (.int i) M Q := by
  unfold ixD; simp only [ixO, vw, e]; exact h
theorem w_ixT (e : atI ds i = some d) (h : Q d M) : ixD (.tup ds) (.int i) M Q := by
  unfold ixD; simp only [ixO, vw, e]; exact h
theorem w_ixRL (hM : M a = some (.lst ds)) (e : atI ds i = some d) (h : Q d M) : ixD (.ref a) (.int i) M Q := by
  unfold ixD; simp only [ixO, vw, vwO, hM, e]; exact h
theorem w_ixRD {ks : List Key} (hM : M a = some (.dct ks ds)) (e : valD ks ds (.inr k) = some d) (h : Q d M) : ixD (.ref a) (.str k) M Q := by
  unfold ixD; simp only [ixO, vw, vwO, hM, keyD, e]; exact h
theorem w_ixRDi {ks : List Key} (hM : M a = some (.dct ks ds)) (e : valD ks ds (.inl i) = some d) (h : Q d M) : ixD (.ref a) (.int i) M Q := by
  unfold ixD; simp only [ixO, vw, vwO, hM, keyD, e]; exact h
theorem w_ixT0 {x0 : D} (h : Q x0 M) : ixD (.tup (x0 :: ds)) (.int 0) M Q := w_ixT (by have z := atI_nat (xs := x0 :: ds) (j := 0) (v := x0) rfl; exact z) h
theorem w_ixL0 {x0 : D} (h : Q x0 M) : ixD (.lst (x0 :: ds)) (.int 0) M Q := w_ixL (by have z := atI_nat (xs := x0 :: ds) (j := 0) (v := x0) rfl; exact z) h
theorem w_ixT1 {x0 x1 : D} (h : Q x1 M) : ixD (.tup (x0 :: x1 :: ds)) (.int 1) M Q := w_ixT (by have z := atI_nat (xs := x0 :: x1 :: ds) (j := 1) (v := x1) rfl; exact z) h
theorem w_ixL1 {x0 x1 : D} (h : Q x1 M) : ixD (.lst (x0 :: x1 :: ds)) (.int 1) M Q := w_ixL (by have z := atI_nat (xs := x0 :: x1 :: ds) (j := 1) (v := x1) rfl; exact z) h
theorem w_ixT2 {x0 x1 x2 : D} (h : Q x2 M) : ixD (.tup (x0 :: x1 :: x2 :: ds)) (.int 2) M Q := w_ixT (by have z := atI_nat (xs := x0 :: x1 :: x2 :: ds) (j := 2) (v := x2) rfl; exact z) h
theorem w_ixT3 {x0 x1 x2 x3 : D} (h : Q x3 M) : ixD (.tup (x0 :: x1 :: x2 :: x3 :: ds)) (.int 3) M Q := w_ixT (by have z := atI_nat (xs := x0 :: x1 :: x2 :: x3 :: ds) (j := 3) (v := x3) rfl; exact z) h
theorem w_ixT4 {x0 x1 x2 x3 x4 : D} (h : Q x4 M) : ixD (.tup (x0 :: x1 :: x2 :: x3 :: x4 :: ds)) (.int 4) M Q := w_ixT (by have z := atI_nat (xs := x0 :: x1 :: x2 :: x3 :: x4 :: ds) (j := 4) (v := x4) rfl; exact z) h
theorem w_ixT5 {x0 x1 x2 x3 x4 x5 : D} (h : Q x5 M) : ixD (.tup (x0 :: x1 :: x2 :: x3 :: x4 :: x5 :: ds)) (.int 5) M Q := w_ixT (by have z := atI_nat (xs := x0 :: x1 :: x2 :: x3 :: x4 :: x5 :: ds) (j := 5) (v := x5) rfl; exact z) h
/-! ### built-ins -/
theorem w_lenL (h : Q (.int ds.length) M) : lenC [.lst ds] M Q := h
theorem w_lenT (h : Q (.int ds.length) M) : lenC [.tup ds] M Q := h
theorem w_lenR (hM : M a = some (.lst ds)) (h : Q (.int ds.length) M) : lenC [.ref a] M Q := by
  unfold lenC; simp only [lenO, vw, vwO, hM]; exact h
theorem w_int (h : Q (.int i) M) : intC [.int i] M Q := h
theorem w_intB {b : Bool} (h : Q (.int (if b then 1 else 0)) M) : intC [.bl b] M Q := h
theorem w_abs (h : Q (.int (if i < 0 then -i else i)) M) : absC [.int i] M Q := h
theorem w_listL (h : Q (.lst ds) M) : listC [.lst ds] M Q := h
theorem w_listT (h : Q (.lst ds) M) : listC [.tup ds] M Q := h
theorem w_tupL (h : Q (.tup ds) M) : tupleC [.lst ds] M Q := h
theorem w_tupT (h : Q (.tup ds) M) : tupleC [.tup ds] M Q := h
theorem w_tupR (hM : M a = some (.lst ds)) (h : Q (.tup ds) M) : tupleC [.ref a] M Q := by
  unfold tupleC; simp only [itemsO, vw, vwO, hM]; exact h
theorem w_int2 {f : Int → Int → Int} (h : Q (.int (f i j)) M) : int2C f [.int i, .int j] M Q := h
theorem w_gcd (h : Q (.int ((Nat.gcd i.natAbs j.natAbs : Nat) : Int)) M) : gcdC [.int i, .int j] M Q := h
def appO (te : TED) (Xd : XD) (s : SD) (Q : QD) : QD := fun o M1 => match o with
  | .ref p => match M1 p with
    | some (.lst _) => te Xd s M1 fun d M2 => appK d Q p M2
    | _ => False
  | _ => False
theorem w_app (h : to Xd s M (appO te Xd s Q)) : dApp to te Xd s M Q := h
theorem w_appO (hM : M p = some (.lst ds)) (h : te Xd s M fun d M2 => appK d Q p M2) : appO te Xd s Q (.ref p) M := by
  unfold appO; simp only [hM]; exact h
def rvsO (Q : QD) : QD := fun o M1 => match o with
  | .ref p => match M1 p with
    | some (.lst ds) => Q .non (M1.put p (.lst ds.reverse))
    | _ => False
  | _ => False
theorem w_rvs (h : to Xd s M (rvsO Q)) : dRvs to Xd s M Q := h
theorem w_rvsO (hM : M p = some (.lst ds)) (h : Q .non (M.put p (.lst ds.reverse))) : rvsO Q (.ref p) M := by
  unfold rvsO; simp only [hM]; exact h
theorem w_appK (hM : M p = some (.lst ds)) (hl : ds.length < sizeLine) (h : Q .non (M.put p (.lst (ds ++ [d])))) : appK d Q p M := by
  unfold appK; rw [hM]; exact ⟨hl, h⟩
/-! ### walks -/
variable {I : List D → Option Addr → Mem → Prop}
theorem w_iSeq (h : te Xd s M (itemK I)) : iSeqD te Xd s M I := h
theorem w_itemT (h : I ds none M) : itemK I (.tup ds) M := h
theorem w_itemL (h : I ds none M) : itemK I (.lst ds) M := h
theorem w_itemR (hM : M a = some (.lst ds)) (h : I ds (some a) M) : itemK I (.ref a) M := by
  unfold itemK; simp only [hM]; exact h
theorem w_iRng (h : A Xd s M (rngK I)) : iRngD A Xd s M I := h
theorem w_rng1 (hj : -(2 ^ 62) ≤ j ∧ j < 2 ^ 62) (h : I (rngL 0 j.toNat) none M) : rngK I [.int j] M := ⟨hj, h⟩
theorem w_iEnm (h : dCons te dNil Xd s M fun ds M1 => ∃ d, ds = [d] ∧ itemK (fun ds ow M1 => I (enmFrom 0 ds) ow M1) d M1) : iEnmB te Xd s M I := h
theorem w_sg1 {J : D → Prop} (h : J d) : ∃ e, [d] = [e] ∧ J e := ⟨d, rfl, h⟩
theorem w_iRev {T : XD → SD → Mem → (Int → Int → Mem → Prop) → Prop} (h : T Xd s M fun i j M1 => (-(2 ^ 62) ≤ i ∧ i < 2 ^ 62 ∧ -(2 ^ 62) ≤ j ∧ j < 2 ^ 62) ∧ I (rngL i (j - i).toNat).reverse none M1) : iRevD T Xd s M I := h
theorem w_rg1 {F : Int → Int → Mem → Prop} (h : te Xd s M (rg1K F)) : rg1 te Xd s M F := h
theorem w_rg1K {F : Int → Int → Mem → Prop} (h : F 0 i M) : rg1K F (.int i) M := h
end
end DL
set_option maxHeartbeats 1000000
namespace DL
open PySem PySem.Spec PyProof.Rows L2
def parK (i j : Nat) (nx : SD → Mem → Prop) (s : SD) : List D → Mem → Prop := fun ds M1 => match ds with
  | [d, e] => nx ((s.set i (some d)).set j (some e)) M1
  | _ => False
theorem w_par {i j : Nat} {ta : TAD} {s : SD} {M : Mem} {nx bk ct : SD → Mem → Prop} {rt : QD} {ex : XD} (h : ta ex s M (parK i j nx s)) : sPar i j ta ⟨nx, rt, bk, ct, ex⟩ s M := h
theorem w_parK {i j : Nat} {d e : D} {s s' : SD} {M : Mem} {nx : SD → Mem → Prop} (hs : (s.set i (some d)).set j (some e) = s') (h : nx s' M) : parK i j nx s [d, e] M := by
  subst hs; exact h
theorem w_while {c : TTD} {t : TSD} {s : SD} {M : Mem} {nx bk ct : SD → Mem → Prop} {rt : QD} {ex : XD} (m : Nat) (h : sWhN c t ⟨nx, rt, bk, ct, ex⟩ m s M) : sWhile c t ⟨nx, rt, bk, ct, ex⟩ s M := ⟨m, h⟩
theorem w_whS {c : TTD} {t : TSD} {s : SD} {M : Mem} {nx bk ct : SD → Mem → Prop} {rt : QD} {ex : XD} {m : Nat} (h : c ex s M fun b M1 => if b = true then t ⟨sWhN c t ⟨nx, rt, bk, ct, ex⟩ m, rt, nx, sWhN c t ⟨nx, rt, bk, ct, ex⟩ m, ex⟩ s M1 else nx s M1) : sWhN c t ⟨nx, rt, bk, ct, ex⟩ (m + 1) s M := h
theorem w_dRev {te : TED} {Xd : XD} {s : SD} {M : Mem} {Q : QD} (h : te Xd s M (revK Q)) : dRev te Xd s M Q := h
theorem w_revK {ds : List D} {M : Mem} {Q : QD} (h : Q (.lst ds.reverse) M) : revK Q (.lst ds) M := h
theorem w_lstRg {t : XD → SD → Mem → (Int → Int → Mem → Prop) → Prop} {Xd : XD} {s : SD} {M : Mem} {Q : QD} (h : t Xd s M fun i j M1 => RgOk i j ∧ Q (.lst (rngL i (j - i).toNat)) M1) : dLstRg t Xd s M Q := h
theorem w_dctN {Xd : XD} {s : SD} {M : Mem} {Q : QD} (h : ∀ p, M p = none → Q (.ref p) (M.put p (.dct [] []))) : dDctN Xd s M Q := h
/-! ### a dict that grows by new numbers -/
def kI (j : Nat) : Key := .inl (j : Int)
theorem val_nat (V : Nat → D) : ∀ (L : List Nat) (j : Nat), j ∈ L → valD (L.map kI) (L.map V) (kI j) = some (V j)
  | [], j, h => by cases h
  | i :: L, j, h => by
    unfold valD
    rw [List.map_cons, List.map_cons, List.zip_cons_cons, List.find?_cons]
    by_cases e : i = j
    · subst e; simp
    · have ne : ¬ (kI i = kI j) := fun z => e (by have := Sum.inl.inj z; omega)
      have hd : decide (kI i = kI j) = false := decide_eq_false ne
      simp only [hd]
      have := val_nat V L j (by
        rcases List.mem_cons.mp h with z | z
        · exact absurd z.symm e
        · exact z)
      exact this
theorem put_nat (V : Nat → D) (k : Nat) : ∀ (L : List Nat), k ∉ L → putD (L.map kI) (L.map V) (kI k) (V k) = ((L ++ [k]).map kI, (L ++ [k]).map V)
  | [], _ => rfl
  | i :: L, h => by
    have ne : ¬ (kI i = kI k) := fun z => h (by have := Sum.inl.inj z; have e : i = k := by omega
                                                subst e; exact List.mem_cons_self)
    have ih := put_nat V k L (fun z => h (List.mem_cons_of_mem _ z))
    rw [List.map_cons, List.map_cons]
    unfold putD
    simp only [ne, if_false, ih]
    rfl
theorem nodup_nat : ∀ {L : List Nat}, L.Nodup → (L.map kI).Nodup
  | [], _ => List.nodup_nil
  | i :: L, h => by
    rw [List.nodup_cons] at h
    rw [List.map_cons, List.nodup_cons]
    refine ⟨fun z => ?_, nodup_nat h.2⟩
    obtain ⟨j, hj, e⟩ := List.mem_map.mp z
    have := Sum.inl.inj e
    have e : j = i := by omega
    subst e; exact h.1 hj
theorem w_joinS {t u : TSD} {s : SD} {M : Mem} {nx bk ct : SD → Mem → Prop} {rt : QD} {ex : XD} {P : SD → Mem → Prop} (hu : ∀ s1 M1, P s1 M1 → u ⟨nx, rt, bk, ct, ex⟩ s1 M1) (h : (∀ s1 M1, P s1 M1 → u ⟨nx, rt, bk, ct, ex⟩ s1 M1) → sSeq t u ⟨nx, rt, bk, ct, ex⟩ s M) : sSeq t u ⟨nx, rt, bk, ct, ex⟩ s M := h hu
theorem w_yes {Xd : XD} {s : SD} {M : Mem} {R : Bool → Mem → Prop} (h : R true M) : tYesD Xd s M R := h
/-- [e for x in ds if c], without a change of what is owned -/
theorem lc_filt {g : TGD} {tt : TTD} {te : TED} {s0 : SD} {W : Mem → Prop} {p : Addr} {Q : QD} {M0 : Mem} (hp : M0 p = none) (f : D → Option D) (hW : ∀ acc, W (M0.put p (.lst acc))) : ∀ (ds acc : List D), acc.length + ds.length ≤ sizeLine →
    (∀ d ∈ ds, ∀ (acc : List D) (K1 : QD) (K0 : Mem → Prop), (∀ r, f d = some r → K1 r (M0.put p (.lst acc))) → (f d = none → K0 (M0.put p (.lst acc))) → g d X0 s0 (M0.put p (.lst acc)) fun s' M' => tt X0 s' M' fun b M2 => if b = true then te X0 s' M2 K1 else K0 M2) →
    Q (.lst (acc ++ ds.filterMap f)) M0 → dLcL g tt te s0 W p Q ds (M0.put p (.lst acc))
  | [], acc, _, _, h => ⟨hW acc, by
      unfold endK
      rw [Mem.put_same]
      rw [Mem.del_put hp]
      simpa using h⟩
  | d :: ds, acc, hl, st, h => ⟨hW acc, st d List.mem_cons_self acc _ _ (fun r hr => by
      unfold accK
      rw [Mem.put_same]
      rw [List.length_cons] at hl
      refine ⟨by omega, ?_⟩
      rw [Mem.put_put]
      refine lc_filt hp f hW ds (acc ++ [r]) (by rw [List.length_append, List.length_singleton]; omega) (fun e he => st e (List.mem_cons_of_mem _ he)) ?_
      rw [List.filterMap_cons_some hr] at h
      rw [List.append_assoc]; exact h) (fun hn => by
      rw [List.length_cons] at hl
      refine lc_filt hp f hW ds acc (by omega) (fun e he => st e (List.mem_cons_of_mem _ he)) ?_
      rw [List.filterMap_cons_none hn] at h
      exact h)⟩
end DL
set_option maxHeartbeats 1000000
namespace DL
open PySem PySem.Spec PyProof.Rows L2
/-! ### instances of own classes: made, stored to while made, read -/
section
variable {X : Cx} {E : XK} {n k : Nat} {f x : Str} {p pos p' pos' tpos : Pos} {e o : Expr} {es : List Expr} {te to : TED} {ts : TAD}
/-- o.f -/
def atK (K : Fg) (f : Str) (Q : QD) : QD := fun d M => match d with
  | .ref a => match M a with
    | some (.ins C ns ds) => (Cls K C ∧ NoAttr K C f) ∧ ∃ d, (ns.zip ds).lookup f = some d ∧ Q d M
    | _ => False
  | _ => False
def dAt (K : Fg) (f : Str) (te : TED) : TED := fun Xd s M Q => te Xd s M (atK K f Q)
/-- o.f = d, a field that is new -/
def atS (K : Fg) (f : Str) (o d : D) (k : Mem → Prop) : Mem → Prop := fun M => match o with
  | .ref a => match M a with
    | some (.ins C ns ds) => (Cls K C ∧ NoAttr K C f ∧ ns.length < 900 ∧ f ∉ ns) ∧ k (M.put a (.ins C (ns ++ [f]) (ds ++ [d])))
    | _ => False
  | _ => False
def sAt (K : Fg) (f : Str) (to te : TED) : TSD := fun Y s M => te Y.ex s M fun d M1 => to Y.ex s M1 fun o M2 => atS K f o d (fun M3 => Y.nx s M3) M2
def gAt (K : Fg) (f : Str) (to : TED) : TGD := fun d Xd s M Q => to Xd s M fun o M1 => atS K f o d (fun M2 => Q s M2) M1
/-! ### C(e, ..) -/
theorem RoomG.make {k : Nat} {A : Around} (h : RoomG (k + 1) A) (C : Addr) (us : List Value) (kw : List (Str × Value)) : RoomG k (A.under (.builtin "type.__call__" ⟨.ref C :: us, kw⟩)) := ⟨h.r.make C us kw, h.g⟩
end
end DL
set_option maxHeartbeats 1000000
namespace PySem
namespace HandSPX
open PySem.W
end HandSPX
end PySem
set_option maxHeartbeats 1000000
namespace DL
open PySem PySem.Spec PyProof.Rows L2
/-! ### try: the caught exception is tracked, and held as data -/
/-- a clause: its classes, the slot of its name, what its suite says -/
structure Cl where
  cs : List Value
  nm : Option Nat
  ts : TS
def Cl.ends (c : Cl) (D : Ends) : Ends := match c.nm with
  | none => D
  | some i => { nx := fun σ' H' => D.nx (σ'.set i none) H', rt := D.rt, bk := fun σ' H' => D.bk (σ'.set i none) H', ct := fun σ' H' => D.ct (σ'.set i none) H' }
def Cl.at (c : Cl) (σ : L2.St) (a : Addr) : L2.St := match c.nm with
  | none => σ
  | some i => σ.set i (some (.ref a))
end DL
set_option maxHeartbeats 1000000
namespace DL
open PySem PySem.Spec PyProof.Rows L2
/-! ### try, over data -/
structure ClD where
  cs : List Value
  nm : Option Nat
  ts : TSD
def ClD.ends (c : ClD) (Y : EndsD) : EndsD := match c.nm with
  | none => { Y with ex := fun _ _ _ _ => False }
  | some i => { nx := fun s M => Y.nx (s.set i none) M, rt := Y.rt, bk := fun s M => Y.bk (s.set i none) M, ct := fun s M => Y.ct (s.set i none) M, ex := fun _ _ _ _ => False }
def ClD.at (c : ClD) (s : SD) (d : D) : SD := match c.nm with
  | none => s
  | some i => s.set i (some d)
def xCl (K : Fg) (Y : EndsD) (s : SD) : List ClD → XD
  | [] => fun _ _ _ _ => False
  | c :: r => fun C ns ds M => ∃ b, PySem.W.exmAny K (.ref C) c.cs = some b ∧ (b = true → c.ts (c.ends Y) (c.at s (.exn C ns ds)) M) ∧ (b = false → xCl K Y s r C ns ds M)
def sTry (K : Fg) (tb : TSD) (cl : List ClD) : TSD := fun Y s M => tb { Y with ex := xCl K Y s cl } s M
/-! ### bodies of one statement -/
section
variable {X : Cx} {e : Expr} {te : TED} {pos : Pos}
theorem pass_no {X : Cx} : Passes (L2.CX X.prog X.w) X (fun _ _ _ => False) := fun _ _ _ _ _ _ _ ⟨_, _, _, _, _, _, _, _, _, _, _, _, z⟩ => z.elim
variable {n k : Nat} {C : Addr} {ns ps : List Str} {x : Str} {p : Pos} {es : List Expr} {ts : TAD}
variable {E : XK} {f : Addr} {fd : FuncData} {sp : SpD}
/-- a call of a def that may raise, in the body of a try -/
def dCallX (sp : SpD) (t : TAD) : TED := fun Xd s M Q => t (fun _ _ _ _ => False) s M fun ds M1 => sp ds M1 Q Xd
end
end DL
set_option maxHeartbeats 1000000
namespace DL
open PySem PySem.Spec PyProof.Rows L2
/-! ### repr of what holds dicts: only the dicts themselves must not be sys.modules -/
mutual
inductive Rn (h : Heap) : Value → PyData → Prop
  | none : Rn h .none .none
  | bool (b : Bool) : Rn h (.bool b) (.bool b)
  | int (i : Int) (t : Tok) : Rn h (.int i t) (.int i)
  | str (x : Str) (t : Tok) : Rn h (.str x t) (.str x)
  | list {a : Addr} {o : Obj} {vs : Array Value} {n : Nat} {xs : List PyData} (h1 : h.get? a = some o) (h2 : o.cls = .type "list") (h3 : o.data = .seq vs n) (h4 : RnAll h vs.toList xs) : Rn h (.ref a) (.list xs)
  | tuple {a : Addr} {o : Obj} {vs : Array Value} {n : Nat} {xs : List PyData} (h1 : h.get? a = some o) (h2 : o.cls = .type "tuple") (h3 : o.data = .seq vs n) (h4 : RnAll h vs.toList xs) : Rn h (.ref a) (.tuple xs)
  | dict {a : Addr} {o : Obj} {es : Array DictEntry} {n : Nat} {kvs : List (PyData × PyData)} (h1 : h.get? a = some o) (h2 : o.cls = .type "dict") (h3 : o.data = .dict es n) (hs : (a == sysModules) = false)
      (h4 : RnAll h (es.toList.map (·.key)) (kvs.map (·.1))) (h5 : RnAll h (es.toList.map (·.val)) (kvs.map (·.2))) : Rn h (.ref a) (.dict kvs)
inductive RnAll (h : Heap) : List Value → List PyData → Prop
  | nil : RnAll h [] []
  | cons {v : Value} {vs : List Value} {d : PyData} {ds : List PyData} (r : Rn h v d) (rs : RnAll h vs ds) : RnAll h (v :: vs) (d :: ds)
end
mutual
theorem Rn.reads {h : Heap} : ∀ {v : Value} {d : PyData}, Rn h v d → ∃ as, Reads h v d as
  | _, _, .none => ⟨_, .none⟩
  | _, _, .bool b => ⟨_, .bool b⟩
  | _, _, .int i t => ⟨_, .int i t⟩
  | _, _, .str x t => ⟨_, .str x t⟩
  | _, _, .list h1 h2 h3 h4 => let ⟨_, q⟩ := RnAll.reads h4; ⟨_, .list h1 h2 h3 q⟩
  | _, _, .tuple h1 h2 h3 h4 => let ⟨_, q⟩ := RnAll.reads h4; ⟨_, .tuple h1 h2 h3 q⟩
  | _, _, .dict h1 h2 h3 hs h4 h5 => let ⟨_, q⟩ := RnAll.reads h4; let ⟨_, q2⟩ := RnAll.reads h5; ⟨_, .dict h1 h2 h3 q q2⟩
theorem RnAll.reads {h : Heap} : ∀ {vs : List Value} {ds : List PyData}, RnAll h vs ds → ∃ as, ReadsAll h vs ds as
  | _, _, .nil => ⟨_, .nil⟩
  | _, _, .cons r rs => let ⟨_, q⟩ := Rn.reads r; let ⟨_, q2⟩ := RnAll.reads rs; ⟨_, .cons q q2⟩
end
section
variable {prog : Program} {w : World} {h₀ : Heap}
mutual
theorem Rn.shown {v : Value} {d : PyData} : Rn h₀ v d → d.showable = true → d.shown.length ≤ sizeLine → ∃ bs, ReadAtMost h₀ d.depth bs ∧ ReprK prog w bs h₀ d.depth v d.shown
  | .none, _, _ => ⟨[], (fun _ z => nomatch z), by simp only [PyData.shown]; exact .of_is ReprIs.none _ _ _⟩
  | .bool b, _, _ => ⟨[], (fun _ z => nomatch z), by simp only [PyData.shown]; exact .of_is (ReprIs.bool b) _ _ _⟩
  | .int i t, hw, _ => ⟨[], (fun _ z => nomatch z), by simp only [PyData.shown]; exact .of_is (ReprIs.int t (by simpa [PyData.showable] using hw)) _ _ _⟩
  | .str x t, _, hl => ⟨[], (fun _ z => nomatch z), by simp only [PyData.shown]; exact .of_is (ReprIs.str x t (by simpa only [PyData.shown] using hl)) _ _ _⟩
  | .list (a := a) (vs := vs) (xs := xs) h1 h2 h3 h4, hw, hl => by
    have lz : (listText (PyData.shownAll xs)).length ≤ sizeLine := by simpa only [PyData.shown] using hl
    obtain ⟨bs, q1, q2⟩ := RnAll.shown h4 (by simpa [PyData.showable] using hw) (fun t m => Nat.le_trans (listText_mem_le m) lz)
    obtain ⟨as, r⟩ := Rn.reads (.list h1 h2 h3 h4)
    have out : a ∉ bs := not_mem_of_deeper r (by simp only [PyData.depth]; omega) q1
    refine ⟨a :: bs, ReadAtMost.cons r (by simp only [PyData.depth]; omega) q1, ?_⟩
    simp only [PyData.shown]
    obtain ⟨l⟩ := vs
    cases l with
    | nil =>
      cases (show RnAll h₀ [] xs from h4)
      simp only [PyData.shownAll, listText_nil]
      exact ReprK.listEmpty h1 h2 h3
    | cons x l =>
      have e : (PyData.list xs).depth = PyData.depthAll xs + 1 := by simp only [PyData.depth]
      rw [e]
      exact ReprK.list h1 h2 h3 out (by simpa using q2.length_eq) fun i y z => q2.item i y (by simpa using z)
  | .tuple (a := a) (xs := xs) h1 h2 h3 h4, hw, hl => by
    have lz : (tupleText (PyData.shownAll xs)).length ≤ sizeLine := by simpa only [PyData.shown] using hl
    obtain ⟨bs, q1, q2⟩ := RnAll.shown h4 (by simpa [PyData.showable] using hw) (fun t m => Nat.le_trans (tupleText_mem_le m) lz)
    obtain ⟨as, r⟩ := Rn.reads (.tuple h1 h2 h3 h4)
    have out : a ∉ bs := not_mem_of_deeper r (by simp only [PyData.depth]; omega) q1
    refine ⟨a :: bs, ReadAtMost.cons r (by simp only [PyData.depth]; omega) q1, ?_⟩
    simp only [PyData.shown]
    have e : (PyData.tuple xs).depth = PyData.depthAll xs + 1 := by simp only [PyData.depth]
    rw [e]
    exact ReprK.tuple h1 h2 h3 out q2
  | .dict (a := a) (es := es) (kvs := kvs) h1 h2 h3 hs h4 h5, hw, hl => by
    have lz : (dictText (PyData.shownKv kvs)).length ≤ sizeLine := by simpa only [PyData.shown] using hl
    obtain ⟨w1, w2⟩ := PyData.showableKv_split kvs (by simpa [PyData.showable] using hw)
    obtain ⟨b1, q1, k1⟩ := RnAll.shown h4 w1 fun t m => by
      obtain ⟨p, hp, hl⟩ := PyData.shownKv_key_le kvs t m
      exact Nat.le_trans hl (Nat.le_trans (dictText_mem_le hp) lz)
    obtain ⟨b2, q2, k2⟩ := RnAll.shown h5 w2 fun t m => by
      obtain ⟨p, hp, hl⟩ := PyData.shownKv_val_le kvs t m
      exact Nat.le_trans hl (Nat.le_trans (dictText_mem_le hp) lz)
    obtain ⟨as, r⟩ := Rn.reads (.dict h1 h2 h3 hs h4 h5)
    have q : ReadAtMost h₀ (PyData.depthKv kvs) (b1 ++ b2) := ReadAtMost.append (q1.mono (PyData.depthAll_keys_le kvs)) (q2.mono (PyData.depthAll_vals_le kvs))
    have out : a ∉ b1 ++ b2 := not_mem_of_deeper r (by simp only [PyData.depth]; omega) q
    refine ⟨a :: (b1 ++ b2), ReadAtMost.cons r (by simp only [PyData.depth]; omega) q, ?_⟩
    simp only [PyData.shown, PyData.shownKv_eq]
    have e : (PyData.dict kvs).depth = PyData.depthKv kvs + 1 := by simp only [PyData.depth]
    rw [e]
    refine ReprK.dict h1 h2 h3 hs out (ReprEntriesK.of_two es.toList _ _ ?_ ?_)
    · exact k1.more_le (fun b hb => List.mem_append_left _ hb) (PyData.depthAll_keys_le kvs)
    · exact k2.more_le (fun b hb => List.mem_append_right _ hb) (PyData.depthAll_vals_le kvs)
theorem RnAll.shown {vs : List Value} {ds : List PyData} : RnAll h₀ vs ds → PyData.showableAll ds = true → (∀ t ∈ PyData.shownAll ds, t.length ≤ sizeLine) → ∃ bs, ReadAtMost h₀ (PyData.depthAll ds) bs ∧ ReprAllK prog w bs h₀ (PyData.depthAll ds) vs (PyData.shownAll ds)
  | .nil, _, _ => ⟨[], (fun _ z => nomatch z), .nil⟩
  | .cons (d := d) (ds := ds) r rs, hw, hl => by
    have hw2 : d.showable = true ∧ PyData.showableAll ds = true := by simpa [PyData.showableAll] using hw
    have sh : PyData.shownAll (d :: ds) = d.shown :: PyData.shownAll ds := by simp only [PyData.shownAll]
    have dp : PyData.depthAll (d :: ds) = max d.depth (PyData.depthAll ds) := by simp only [PyData.depthAll]
    rw [sh] at hl
    obtain ⟨b1, q1, k1⟩ := Rn.shown r hw2.1 (hl _ List.mem_cons_self)
    obtain ⟨b2, q2, k2⟩ := RnAll.shown rs hw2.2 fun t m => hl t (List.mem_cons_of_mem _ m)
    refine ⟨b1 ++ b2, ?_, ?_⟩
    · rw [dp]
      exact ReadAtMost.append (q1.mono (Nat.le_max_left _ _)) (q2.mono (Nat.le_max_right _ _))
    · rw [sh, dp]
      exact .cons ((k1.more fun b hb => List.mem_append_left _ hb).level_le (Nat.le_max_left _ _)) (k2.more_le (fun b hb => List.mem_append_right _ hb) (Nat.le_max_right _ _))
end
end
end DL
set_option maxHeartbeats 1000000
namespace DL
open PySem PySem.Spec PyProof.Rows L2
section
variable {prog : Program} {w : World} {h₀ : Heap} {A : Around} {E : Value → Shared → Prop} {s : Shared} {Q : Value → Shared → Prop}
theorem repr_rn {a : Addr} {d : PyData} (r : Rn h₀ (.ref a) d) (hw : d.showable = true) (hg : A.guards = some []) (hu : A.units + (d.depth + 1) < cLine) (k0 : ∀ b o, h₀.get? b = some o → s.heap.get? b = some o)
    (q : ∀ h' u tk, (∀ b o, s.heap.get? b = some o → h'.get? b = some o) → Q (.str d.shown u) { s with heap := h', toks := tk }) (hl : d.shown.length ≤ sizeLine) : wpAny (model prog w) A (call (.builtin "repr") [.ref a]) Q E s := by
  have q1 : ∀ h' u tk, (∀ b o, s.heap.get? b = some o → h'.get? b = some o) → ∃ x t, Value.str d.shown u = .str x t ∧ Q (.str d.shown u) { s with heap := h', toks := tk } := fun h' u tk k => ⟨_, _, rfl, q h' u tk k⟩
  have hu1 : A.units + 1 < cLine := by omega
  have hi : A.in1.units + d.depth < cLine := by show A.units + 1 + d.depth < cLine; omega
  cases r with
  | list h1 h2 h3 h4 =>
    rename_i o vs n xs
    have lz : (listText (PyData.shownAll xs)).length ≤ sizeLine := by simpa only [PyData.shown] using hl
    obtain ⟨bs, b1, b2⟩ := RnAll.shown (prog := prog) (w := w) h4 (by simpa [PyData.showable] using hw) (fun t m => Nat.le_trans (listText_mem_le m) lz)
    obtain ⟨as, r⟩ := Rn.reads (.list h1 h2 h3 h4)
    have out : a ∉ bs := not_mem_of_deeper r (by simp only [PyData.depth]; omega) b1
    refine call_repr_slot hu1 ⟨o, k0 _ _ h1, h2⟩ F.slot_list_repr.toG ?_
    simp only [PyData.depth] at hi
    simp only [PyData.shown] at q1
    obtain ⟨l⟩ := vs
    cases l with
    | nil =>
      cases (show RnAll h₀ [] xs from h4)
      simp only [PyData.shownAll, listText_nil] at q1
      exact call_list_repr_empty ⟨o, k0 _ _ h1, h2⟩ (k0 _ _ h1) h3 (q1 s.heap _ _ fun _ _ e => e)
    | cons x l => exact call_list_reprK h1 h2 h3 out (by simpa using b2.length_eq) (fun i y e => b2.item i y (by simpa using e)) hg (fun b _ => Clear.nil b) hi k0 q1 lz
  | tuple h1 h2 h3 h4 =>
    rename_i o vs n xs
    have lz : (tupleText (PyData.shownAll xs)).length ≤ sizeLine := by simpa only [PyData.shown] using hl
    obtain ⟨bs, b1, b2⟩ := RnAll.shown (prog := prog) (w := w) h4 (by simpa [PyData.showable] using hw) (fun t m => Nat.le_trans (tupleText_mem_le m) lz)
    obtain ⟨as, r⟩ := Rn.reads (.tuple h1 h2 h3 h4)
    have out : a ∉ bs := not_mem_of_deeper r (by simp only [PyData.depth]; omega) b1
    refine call_repr_slot hu1 ⟨o, k0 _ _ h1, h2⟩ F.slot_tuple_repr ?_
    simp only [PyData.depth] at hi
    simp only [PyData.shown] at q1
    exact call_tuple_reprK h1 h2 h3 out b2 hg (fun b _ => Clear.nil b) hi k0 q1 lz
  | dict h1 h2 h3 hs h4 h5 =>
    rename_i o es n kvs
    have lz : (dictText (PyData.shownKv kvs)).length ≤ sizeLine := by simpa only [PyData.shown] using hl
    obtain ⟨w1, w2⟩ := PyData.showableKv_split kvs (by simpa [PyData.showable] using hw)
    obtain ⟨b1, q3, k1⟩ := RnAll.shown (prog := prog) (w := w) h4 w1 fun t m => by
      obtain ⟨p, hp, hl⟩ := PyData.shownKv_key_le kvs t m
      exact Nat.le_trans hl (Nat.le_trans (dictText_mem_le hp) lz)
    obtain ⟨b2, q2, k2⟩ := RnAll.shown (prog := prog) (w := w) h5 w2 fun t m => by
      obtain ⟨p, hp, hl⟩ := PyData.shownKv_val_le kvs t m
      exact Nat.le_trans hl (Nat.le_trans (dictText_mem_le hp) lz)
    obtain ⟨as, r⟩ := Rn.reads (.dict h1 h2 h3 hs h4 h5)
    have qq : ReadAtMost h₀ (PyData.depthKv kvs) (b1 ++ b2) := ReadAtMost.append (q3.mono (PyData.depthAll_keys_le kvs)) (q2.mono (PyData.depthAll_vals_le kvs))
    have out : a ∉ b1 ++ b2 := not_mem_of_deeper r (by simp only [PyData.depth]; omega) qq
    refine call_repr_slot hu1 ⟨o, k0 _ _ h1, h2⟩ F.slot_dict_repr ?_
    simp only [PyData.depth] at hi
    simp only [PyData.shown, PyData.shownKv_eq] at q1
    refine call_dict_reprK h1 h2 h3 hs out (ReprEntriesK.of_two es.toList _ _ ?_ ?_) hg (fun b _ => Clear.nil b) hi k0 q1 (by rw [← PyData.shownKv_eq]; exact lz)
    · exact k1.more_le (fun b hb => List.mem_append_left _ hb) (PyData.depthAll_keys_le kvs)
    · exact k2.more_le (fun b hb => List.mem_append_right _ hb) (PyData.depthAll_vals_le kvs)
end
/-! ### over data -/
def kPy : Key → PyData
  | .inl i => .int i
  | .inr x => .str x
mutual
def toPyX : D → Option PyData
  | .non => some .none
  | .bl b => some (.bool b)
  | .int i => some (.int i)
  | .str x => some (.str x)
  | .tup ds => (toPyXs ds).map .tuple
  | .lst ds => (toPyXs ds).map .list
  | .fzn ds => (toPyXs ds).map .list
  | .dct ks ds => (toPyXs ds).map fun ps => .dict ((ks.map kPy).zip ps)
  | _ => none
def toPyXs : List D → Option (List PyData)
  | [] => some []
  | d :: ds => match toPyX d, toPyXs ds with
    | some p, some ps => some (p :: ps)
    | _, _ => none
end
section
variable {X : Cx} {pins : List (Addr × Obj)} {σ : L2.St} {H : Hp} {M : Mem} {s : Shared}
theorem pairs_keys {es : List DictEntry} {kvs : List (Key × Value)} (h : Pairs (mixKind X.prog X.w) es kvs) {hp : Heap} : RnAll hp (es.map (·.key)) (kvs.map fun q => kPy q.1) ∧ es.map (·.val) = kvs.map (·.2) := by
  induction h with
  | nil => exact ⟨.nil, rfl⟩
  | @cons e kv es kvs h1 h2 _ ih =>
    refine ⟨.cons ?_ ih.1, by rw [List.map_cons, List.map_cons, h2, ih.2]⟩
    rcases keyIs_shape (show keyIs kv.1 e.key = true from h1) with ⟨i, t, a, b⟩ | ⟨x, t, a, b⟩
    · show Rn hp e.key (kPy kv.1)
      rw [a, b]; exact .int i t
    · show Rn hp e.key (kPy kv.1)
      rw [a, b]; exact .str x t
theorem kv_both : ∀ {ks : List Key} {xs : List V} {vs : List (Key × Value)}, ks.length = xs.length → KV (ks.zip xs) vs → vs.map (·.1) = ks ∧ Vals xs (vs.map (·.2))
  | [], [], _, _, .nil => ⟨rfl, .nil⟩
  | k :: ks, x :: xs, _, hl, .cons (b := q) h t => by
    obtain ⟨a, b⟩ := kv_both (by simpa using hl) t
    exact ⟨by rw [List.map_cons, a, ← h.1], .cons h.2 b⟩
mutual
theorem Rv.rn (I : Inv X pins σ H s) : ∀ (d : D) (v : V) (u : Value) (p : PyData), Rv X.K H M d v → RelV v u → toPyX d = some p → Rn s.heap u p
  | .non, v, u, p, h, r, e => by
    obtain rfl : v = .non := h
    obtain rfl : u = .none := r
    cases (show some PyData.none = some p from e); exact .none
  | .bl b, v, u, p, h, r, e => by
    obtain rfl : v = .bl b := h
    obtain rfl : u = .bool b := r
    cases (show some (PyData.bool b) = some p from e); exact .bool b
  | .int b, v, u, p, h, r, e => by
    obtain rfl : v = .int b := h
    obtain ⟨t, rfl⟩ := r
    cases (show some (PyData.int b) = some p from e); exact .int b t
  | .str b, v, u, p, h, r, e => by
    obtain rfl : v = .str b := h
    obtain ⟨t, rfl⟩ := r
    cases (show some (PyData.str b) = some p from e); exact .str b t
  | .tup ds, v, u, p, ⟨a, xs, hv, rt, q⟩, r, e => by
    have e' : (toPyXs ds).map PyData.tuple = some p := e
    cases z : toPyXs ds with
    | none => rw [z] at e'; cases e'
    | some ps =>
      rw [z] at e'; cases e'; subst hv
      obtain rfl : u = .ref a := r
      obtain ⟨its, rv, ⟨o, ho, hc, n, hd⟩, _⟩ := I.tuple rt.sq
      exact .tuple ho hc hd (Rs.rn I ds xs _ ps q rv z)
  | .lst ds, v, u, p, ⟨a, xs, hv, rt, m, q⟩, r, e => by
    have e' : (toPyXs ds).map PyData.list = some p := e
    cases z : toPyXs ds with
    | none => rw [z] at e'; cases e'
    | some ps =>
      rw [z] at e'; cases e'; subst hv
      obtain rfl : u = .ref a := r
      obtain ⟨its, rv, ⟨o, n, ho, hc, _, hd⟩, _⟩ := I.list (SqL.of rt)
      exact .list ho hc hd (Rs.rn I ds xs _ ps q rv z)
  | .fzn ds, v, u, p, ⟨a, xs, hv, rt, q⟩, r, e => by
    have e' : (toPyXs ds).map PyData.list = some p := e
    cases z : toPyXs ds with
    | none => rw [z] at e'; cases e'
    | some ps =>
      rw [z] at e'; cases e'; subst hv
      obtain rfl : u = .ref a := r
      obtain ⟨its, rv, ⟨o, n, ho, hc, _, hd⟩, _⟩ := I.list rt.sq
      exact .list ho hc hd (Rs.rn I ds xs _ ps q rv z)
  | .dct ks ds, v, u, p, ⟨a, kvs, xs, hv, ha, m, ek, hl, q⟩, r, e => by
    have e' : (toPyXs ds).map (fun ps => PyData.dict ((ks.map kPy).zip ps)) = some p := e
    cases z : toPyXs ds with
    | none => rw [z] at e'; cases e'
    | some ps =>
      rw [z] at e'; cases e'; subst hv ek
      obtain rfl : u = .ref a := r
      obtain ⟨_, hs, vs, hkv, o, es, ep, ho, hx, hd, _, hp, _⟩ := (show ObjOk X.prog X.w H s.heap a (.dK (ks.zip xs)) from I.hok a _ ha)
      obtain ⟨k1, k2⟩ := kv_both (by rw [hl, Rs.len q]) hkv
      obtain ⟨p1, p2⟩ := pairs_keys hp (hp := s.heap)
      have hps := Rs.rn I ds xs _ ps q k2 z
      have lps : ps.length = ds.length := by
        have go : ∀ (ds : List D) (ps : List PyData), toPyXs ds = some ps → ps.length = ds.length := by
          intro ds
          induction ds with
          | nil => intro ps e; cases (show some [] = some ps from e); rfl
          | cons d ds ih =>
            intro ps e
            unfold toPyXs at e
            split at e
            · rename_i q qs _ h2
              cases e
              rw [List.length_cons, List.length_cons, ih _ h2]
            · cases e
        exact go ds ps z
      refine .dict ho hx.1 hd hs ?_ ?_
      · have e : ((ks.map kPy).zip ps).map (·.1) = vs.map fun q => kPy q.1 := by
          rw [List.map_fst_zip (by rw [List.length_map, lps, hl]; exact Nat.le_refl _), ← k1, List.map_map]; rfl
        rw [e]; exact p1
      · have e : ((ks.map kPy).zip ps).map (·.2) = ps := List.map_snd_zip (by rw [List.length_map, lps, hl]; exact Nat.le_refl _)
        rw [e, p2]; exact hps
  | .ref _, _, _, _, _, _, e => by cases (show (none : Option PyData) = some _ from e)
  | .ty _, _, _, _, _, _, e => by cases (show (none : Option PyData) = some _ from e)
  | .exn _ _ _, _, _, _, _, _, e => by cases (show (none : Option PyData) = some _ from e)
  | .kdt _ _, _, _, _, _, _, e => by cases (show (none : Option PyData) = some _ from e)
theorem Rs.rn (I : Inv X pins σ H s) : ∀ (ds : List D) (vs : List V) (us : List Value) (ps : List PyData), Rs X.K H M ds vs → Vals vs us → toPyXs ds = some ps → RnAll s.heap us ps
  | [], vs, us, ps, h, r, e => by
    obtain rfl : vs = [] := h
    cases r
    cases (show some [] = some ps from e); exact .nil
  | d :: ds, _, _, ps, ⟨v, r, rfl, h, q⟩, rv, e => by
    cases rv with
    | cons r1 r2 =>
      unfold toPyXs at e
      split at e
      · rename_i q1 qs h1 h2
        cases e
        exact .cons (Rv.rn I d v _ _ h r1 h1) (Rs.rn I ds r _ _ q r2 h2)
      · cases e
end
def reprX : OC := fun ds M Q => match ds with
  | [d] => match toPyX (vw M d) with
    | some p => ShOk p ∧ Q (.str p.shown) M
    | none => False
  | _ => False
theorem rn_vw (I : Inv X pins σ H s) {d : D} {v : V} {u : Value} {p : PyData} (mo : MOk X.K H M) (rd : Rv X.K H M d v) (ru : RelV v u) (e : toPyX (vw M d) = some p) : Rn s.heap u p := by
  cases d with
  | ref a =>
    have hv : v = .ref a := rd
    subst hv
    rw [vw_ref] at e
    cases q : M a with
    | none => rw [q] at e; cases (show (none : Option PyData) = some _ from e)
    | some o =>
      have z := mo a o q
      rw [q] at e
      obtain rfl : u = .ref a := ru
      cases o with
      | lst ds =>
        obtain ⟨xs, h1, h2⟩ := z
        have e' : (toPyXs ds).map PyData.list = some p := e
        cases z : toPyXs ds with
        | none => rw [z] at e'; cases e'
        | some ps =>
          rw [z] at e'; cases e'
          obtain ⟨its, rv, ⟨o, n, ho, hc, _, hd⟩, _⟩ := I.list (SqL.of h1)
          exact .list ho hc hd (Rs.rn I ds xs _ ps h2 rv z)
      | dct ks ds =>
        obtain ⟨xs, h1, h3, h2⟩ := z
        have g : Gw H M H (M.del a) := gw_less fun b e => by
          by_cases z : b = a
          · subst z; exact Mem.del_same
          · rw [Mem.del_ne z]; exact e
        exact Rv.rn I (M := M.del a) (.dct ks ds) (.ref a) (.ref a) p ⟨a, _, xs, rfl, h1, Mem.del_same, rfl, h3, Rs.grow g ds xs h2⟩ rfl e
      | ins C ns ds => cases (show (none : Option PyData) = some _ from e)
      | gen φ ds => cases (show (none : Option PyData) = some _ from e)
      | tab q => cases (show (none : Option PyData) = some _ from e)
  | _ => exact Rv.rn I _ v u p rd ru e
theorem dc_reprX (hg : X.A.guards = some []) (hu : X.A.units + 64 < cLine) : DC X (.builtin "repr") reprX := by
  intro pins s σ H M xs ds us Q Qd I mo r rv t q
  unfold reprX at t
  split at t
  · rename_i d
    obtain ⟨v, rfl, rd⟩ := rs1 r
    split at t
    · rename_i py hp
      obtain ⟨⟨h1, h2, h3⟩, t⟩ := t
      obtain ⟨u, rfl, ru⟩ := vals1 rv
      have rn := rn_vw I mo rd ru hp
      have fin : ∀ (h' : Heap) (tk : Tok) (t' : Nat), (∀ b o, s.heap.get? b = some o → h'.get? b = some o) → EP X pins σ Q (.str py.shown tk) { s with heap := h', toks := t' } := fun h' tk t' hk =>
        ⟨.str py.shown, H, I.kept hk, ⟨_, rfl⟩, q _ _ (up_same mo t rfl)⟩
      cases rn with
      | none => exact PySem.P.repr_of_none (by have z := fin s.heap s.toks (s.toks + 1) (fun _ _ z => z); simpa only [PyData.shown] using z)
      | bool b => exact PySem.P.repr_of_bool (by have z := fin s.heap s.toks (s.toks + 1) (fun _ _ z => z); simpa only [PyData.shown] using z)
      | int i tk => exact PySem.P.repr_of_int (by simpa [PyData.showable] using h1) (by have z := fin s.heap s.toks (s.toks + 1) (fun _ _ z => z); simpa only [PyData.shown] using z)
      | str y tk => exact PySem.P.repr_of_str (by have z := fin s.heap s.toks (s.toks + 1) (fun _ _ z => z); simpa only [PyData.shown] using z) (by simpa only [PyData.shown] using h2)
      | list a1 a2 a3 a4 => exact repr_rn (.list a1 a2 a3 a4) h1 hg (by omega) (fun _ _ z => z) (fun h' u tk hk => fin h' u tk hk) h2
      | tuple a1 a2 a3 a4 => exact repr_rn (.tuple a1 a2 a3 a4) h1 hg (by omega) (fun _ _ z => z) (fun h' u tk hk => fin h' u tk hk) h2
      | dict a1 a2 a3 a4 a5 a6 => exact repr_rn (.dict a1 a2 a3 a4 a5 a6) h1 hg (by omega) (fun _ _ z => z) (fun h' u tk hk => fin h' u tk hk) h2
    · exact t.elim
  · exact t.elim
end
end DL
set_option maxHeartbeats 1000000
namespace DL
open PySem PySem.Spec PyProof.Rows L2
/-! ### isinstance of anything -/
/-! ### what the head tells of a class of exceptions -/
structure ClsF (K : Fg) (C : Addr) : Prop where
  T : OexG K C
  x : XfC K C
  e : ExcC K C
open PySem.W in
def clsBB (K : Fg) (C : Addr) : Bool := hasDictIn K C && (He.eqO (findIn K (.ref C) "__setattr__") (some (some (.builtin "object.__setattr__"))) && (decide (subIn K (.ref C) (.type "BaseException") = some true) && (decide (typeIn K (.ref C) = some (.type "type")) && (keepIn K (.ref C) &&
  (He.eqO (findIn K (.ref C) "__getattribute__") (some (some (.builtin "BaseException.__getattribute__"))) && (He.eqO (findIn K (.ref C) "__getattr__") (some none) && (He.eqO (findIn K (.ref C) "__class__") (some (some (.builtin "object.__class__"))) &&
  (He.eqO (specialIn K (.builtin "object.__class__") "__get__") (some (some (.builtin "getset_descriptor.__get__"))) && (decide (takesIn K (.builtin "object.__class__") = some true) && decide (mroIn K C (.type "object") = some true))))))))))
def leBase : List Value := [.type "LookupError", .type "Exception", .type "BaseException", .type "object"]
def clsVB (K : Fg) (C : Addr) : Bool := PySem.W.excInitIn K C He.veBase "ValueError.__new__" && (PySem.W.excOver K C He.veBase && clsBB K C)
def clsLB (K : Fg) (C : Addr) : Bool := PySem.W.excInitIn K C leBase "LookupError.__new__" && (PySem.W.excOver K C leBase && clsBB K C)
theorem clsBB_ok {K : Fg} {C : Addr} (h : clsBB K C = true) : PySem.W.hasDictIn K C = true ∧ PySem.W.findIn K (.ref C) "__setattr__" = some (some (.builtin "object.__setattr__")) ∧ PySem.W.subIn K (.ref C) (.type "BaseException") = some true ∧
    PySem.W.typeIn K (.ref C) = some (.type "type") ∧ PySem.W.keepIn K (.ref C) = true ∧ XfC K C ∧ ExcC K C := by
  obtain ⟨h1, h⟩ := He.ba h
  obtain ⟨h2, h⟩ := He.ba h
  obtain ⟨h3, h⟩ := He.ba h
  obtain ⟨h4, h⟩ := He.ba h
  obtain ⟨h5, h⟩ := He.ba h
  obtain ⟨h6, h⟩ := He.ba h
  obtain ⟨h7, h⟩ := He.ba h
  obtain ⟨h8, h⟩ := He.ba h
  obtain ⟨h9, h⟩ := He.ba h
  obtain ⟨h10, h11⟩ := He.ba h
  have a3 := of_decide_eq_true h3
  exact ⟨h1, He.eqO_ok h2, a3, of_decide_eq_true h4, h5, ⟨He.eqO_ok h6, He.eqO_ok h7, a3, h1⟩, ⟨He.eqO_ok h6, He.eqO_ok h7, a3, h1, He.eqO_ok h8, He.eqO_ok h9, of_decide_eq_true h10, of_decide_eq_true h11⟩⟩
theorem clsVB_ok {K : Fg} {C : Addr} (h : clsVB K C = true) : ClsF K C := by
  obtain ⟨h1, h⟩ := He.ba h
  obtain ⟨h2, h⟩ := He.ba h
  obtain ⟨a1, a2, a3, a4, a5, a6, a7⟩ := clsBB_ok h
  exact ⟨⟨⟨_, _, _, _, PySem.F.excBase_ValueError, PySem.F.store_ValueError, h1, h2⟩, a1, a2, a3, a4, a5⟩, a6, a7⟩
theorem clsLB_ok {K : Fg} {C : Addr} (h : clsLB K C = true) : ClsF K C := by
  obtain ⟨h1, h⟩ := He.ba h
  obtain ⟨h2, h⟩ := He.ba h
  obtain ⟨a1, a2, a3, a4, a5, a6, a7⟩ := clsBB_ok h
  exact ⟨⟨⟨_, _, _, _, PySem.F.excBase_LookupError, PySem.F.store_LookupError, h1, h2⟩, a1, a2, a3, a4, a5⟩, a6, a7⟩
/-- the classes by number: whether the i-th stands under the j-th, under built-in ones; what is asked of the fields' names -/
def kitBB (K : Fg) (c : Nat → Addr) (n : Nat) (tb : Nat → Nat → Bool) (tys : List (String × (Nat → Bool))) (fds : List Str) : Bool :=
  (List.range n).all fun i => ((List.range n).all fun j => decide (PySem.W.kitOne K (.ref (c i)) (.ref (c j)) = some (tb i j)) && decide (PySem.W.exmOne K (.ref (c i)) (.ref (c j)) = some (tb i j))) &&
    ((tys.all fun t => decide (PySem.W.kitOne K (.ref (c i)) (.type t.1) = some (t.2 i))) && fds.all fun f => He.eqO (PySem.W.findIn K (.ref (c i)) f) (some none))
structure KitF (K : Fg) (c : Nat → Addr) (n : Nat) (tb : Nat → Nat → Bool) (tys : List (String × (Nat → Bool))) (fds : List Str) : Prop where
  kit : ∀ {i j : Nat}, i < n → j < n → PySem.W.kitOne K (.ref (c i)) (.ref (c j)) = some (tb i j)
  exm : ∀ {i j : Nat}, i < n → j < n → PySem.W.exmOne K (.ref (c i)) (.ref (c j)) = some (tb i j)
  ty : ∀ {i : Nat} {t : String × (Nat → Bool)}, i < n → t ∈ tys → PySem.W.kitOne K (.ref (c i)) (.type t.1) = some (t.2 i)
  no : ∀ {i : Nat} {f : Str}, i < n → f ∈ fds → PySem.W.findIn K (.ref (c i)) f = some none
theorem kitBB_ok {K : Fg} {c : Nat → Addr} {n : Nat} {tb : Nat → Nat → Bool} {tys : List (String × (Nat → Bool))} {fds : List Str} (h : kitBB K c n tb tys fds = true) : KitF K c n tb tys fds := by
  have h := fun {i : Nat} (hi : i < n) => List.all_eq_true.mp h i (List.mem_range.mpr hi)
  refine ⟨fun hi hj => ?_, fun hi hj => ?_, fun hi ht => ?_, fun hi hf => ?_⟩
  · obtain ⟨a, _⟩ := He.ba (h hi)
    exact of_decide_eq_true (He.ba (List.all_eq_true.mp a _ (List.mem_range.mpr hj))).1
  · obtain ⟨a, _⟩ := He.ba (h hi)
    exact of_decide_eq_true (He.ba (List.all_eq_true.mp a _ (List.mem_range.mpr hj))).2
  · obtain ⟨_, a⟩ := He.ba (h hi)
    exact of_decide_eq_true (List.all_eq_true.mp (He.ba a).1 _ ht)
  · obtain ⟨_, a⟩ := He.ba (h hi)
    exact He.eqO_ok (List.all_eq_true.mp (He.ba a).2 _ hf)
/-! ### calls within an except suite: what is called there lets nothing out -/
structure RoomQ (k : Nat) (A : Around) : Prop where
  dp : A.depth + 3 * k + 5 < recursionLimit
  un : A.units + 16 * k + 200 < cLine
  g : A.guards = some []
theorem RoomQ.mono {j k : Nat} {A : Around} (h : RoomQ k A) (le : j ≤ k) : RoomQ j A := ⟨by have := h.dp; omega, by have := h.un; omega, h.g⟩
theorem RoomQ.deeper {k : Nat} {A : Around} (h : RoomQ (k + 1) A) (env : Env) : RoomQ k (A.deeper env) :=
  ⟨by have := h.dp; show A.depth + 1 + 3 * k + 5 < _; omega, by have := h.un; show A.units + 3 + 16 * k + 200 < _; omega, h.g⟩
theorem RoomQ.units {k : Nat} {A : Around} (r : RoomQ k A) : A.units + 64 < cLine := by have := r.un; omega
end DL
namespace DL
open PySem PySem.Spec PyProof.Rows L2
def sRaiseX (C : Addr) (ns : List Str) (t : TAD) : TSD := sRaise C ns fun _ s M Q => t (fun _ _ _ _ => False) s M Q
/-! ### a class of exceptions without own __init__, called with one thing -/
structure K0 (K : Fg) (C : Addr) : Prop where
  ex : ∃ (B newId initId : String) (bmB : List Value), ExcBaseFacts B newId initId bmB ∧ PySem.W.excIn K C bmB newId = true
  kp : PySem.W.keepIn K (.ref C) = true
def dMk0 (C : Addr) (t : TED) : TED := fun Xd s M Q => t Xd s M fun _ M1 => Q (.exn C [] []) M1
end DL
namespace DL
open PySem PySem.Spec PyProof.Rows L2
/-! ### a display that is never changed is told whole -/
def dFz (te : TED) : TED := fun Xd s M Q => te Xd s M fun d M1 => match d with
  | .ref p => (match M1 p with
    | some (.dct ks ds) => Q (.dct ks ds) (M1.del p)
    | some (.lst ds) => Q (.lst ds) (M1.del p)
    | _ => False)
  | _ => False
theorem put_del {M : Mem} {p : Addr} {o : MO} (h : M p = none) : (M.put p o).del p = M := by
  funext b
  by_cases z : b = p
  · subst z; rw [Mem.del_same, h]
  · rw [Mem.del_ne z, Mem.put_ne z]
theorem w_fzN {Xd : XD} {s : SD} {M : Mem} {Q : QD} (h : Q (.dct [] []) M) : dFz dDctN Xd s M Q := fun p hp => by
  show (match (M.put p (.dct [] [])) p with
    | some (.dct ks ds) => Q (.dct ks ds) ((M.put p (.dct [] [])).del p)
    | some (.lst ds) => Q (.lst ds) ((M.put p (.dct [] [])).del p)
    | _ => False)
  rw [Mem.put_same]
  show Q (.dct [] []) ((M.put p (.dct [] [])).del p)
  rw [put_del hp]; exact h
end DL
namespace DL
open PySem PySem.Spec PyProof.Rows L2
end DL
set_option maxHeartbeats 2000000
namespace DL
open PySem PySem.Spec PyProof.Rows L2 LamX
/-! ### what a lambda holds, as data -/
/-! ### a(), where a holds a lambda -/
end DL
namespace DL
open PySem PySem.Spec PyProof.Rows L2 LamX
/-! ### x(lambda: body) -/
end DL
namespace DL
open PySem PySem.Spec PyProof.Rows L2 LamX
end DL
namespace DL
open PySem PySem.Spec PyProof.Rows L2 LamX
end DL
set_option maxHeartbeats 2000000
namespace DL
open PySem PySem.Spec PyProof.Rows L2 LamX
/-! ### the end of a row whose law makes lambdas: its tables of code objects are owned from the start -/
end DL
namespace DL
open PySem PySem.Spec PyProof.Rows L2 LamX
/-- the module of the built-ins stands behind the globals -/
def bmB (K : Fg) : Bool := match PySem.W.nsIn K mainGlobals "__builtins__" with
  | some (some (.ref bm)) => decide (bm ≠ builtinsNs) && (match K.lookup bm with
    | some o => decide (o.cls = .type "module") && decide (o.dict = some builtinsNs) && (match o.data with
      | .plain => true
      | _ => false)
    | none => false)
  | _ => false
end DL
set_option maxHeartbeats 1000000
namespace MH
open PySem PySem.Spec PyProof.Rows L2 DL
/-! ### things as trees -/
inductive Th where
  | raw (here : Bool) (lo hi : Int)
  | made (here : Bool) (lo hi share : Int) (up down : Bool) (parts : List Th)
  deriving Inhabited
def landS (b : Bool) : Str := if b then "here" else "away"
def upS (b : Bool) : Str := if b then "whole" else "own"
def dnS (b : Bool) : Str := if b then "own" else "none"
def landD (b : Bool) : D := .str (landS b)
def termD (share : Int) (up down : Bool) : D := .tup [.int share, .str (upS up), .str (dnS down)]
mutual
def Th.d : Th → D
  | .raw h lo hi => .tup [.str "raw", landD h, .int lo, .int hi]
  | .made h lo hi sh u w ps => .tup [.str "made", landD h, .int lo, .int hi, termD sh u w, .tup (Th.ds ps)]
def Th.ds : List Th → List D
  | [] => []
  | t :: ts => t.d :: Th.ds ts
end
theorem ds_map : ∀ ts : List Th, Th.ds ts = ts.map Th.d
  | [] => rfl
  | t :: ts => by rw [Th.ds, ds_map ts, List.map_cons]
mutual
def Th.sz : Th → Nat
  | .raw _ _ _ => 1
  | .made _ _ _ _ _ _ ps => 1 + Th.szs ps
def Th.szs : List Th → Nat
  | [] => 0
  | t :: ts => t.sz + Th.szs ts
end
mutual
/-- steps in it -/
def Th.st : Th → Nat
  | .raw _ _ _ => 0
  | .made _ _ _ _ _ _ ps => 1 + Th.sts ps
def Th.sts : List Th → Nat
  | [] => 0
  | t :: ts => t.st + Th.sts ts
end
def mv1 (lo hi : Int) : Nat := if lo < hi then 1 else 0
mutual
/-- how many move -/
def Th.mv : Th → Nat
  | .raw _ lo hi => mv1 lo hi
  | .made _ lo hi _ _ _ ps => mv1 lo hi + Th.mvs ps
def Th.mvs : List Th → Nat
  | [] => 0
  | t :: ts => t.mv + Th.mvs ts
end
def bnd (lo hi : Int) : Prop := 0 ≤ lo ∧ lo ≤ hi ∧ hi ≤ 1000000
mutual
/-- each thing by itself is as told -/
def Th.ok : Th → Prop
  | .raw _ lo hi => bnd lo hi
  | .made _ lo hi sh _ _ ps => bnd lo hi ∧ (0 ≤ sh ∧ sh ≤ 100) ∧ (1 ≤ ps.length ∧ ps.length ≤ 4) ∧ Th.oks ps
def Th.oks : List Th → Prop
  | [] => True
  | t :: ts => t.ok ∧ Th.oks ts
end
def Th.isMade : Th → Bool
  | .raw _ _ _ => false
  | .made _ _ _ _ _ _ _ => true
mutual
/-- some LOW is above 0 -/
def Th.any : Th → Bool
  | .raw _ lo _ => decide (0 < lo)
  | .made _ lo _ _ _ _ ps => decide (0 < lo) || Th.anys ps
def Th.anys : List Th → Bool
  | [] => false
  | t :: ts => t.any || Th.anys ts
end
/-- a good -/
structure Th.good (t : Th) : Prop where
  made : t.isMade = true
  ok : t.ok
  sz : t.sz ≤ 10
  st : t.st ≤ 4
  mv : t.mv ≤ 3
  any : t.any = true
theorem szs_app : ∀ a b : List Th, Th.szs (a ++ b) = Th.szs a + Th.szs b
  | [], b => by simp [Th.szs]
  | t :: a, b => by simp only [List.cons_append, Th.szs, szs_app a b]; omega
theorem sts_app : ∀ a b : List Th, Th.sts (a ++ b) = Th.sts a + Th.sts b
  | [], b => by simp [Th.sts]
  | t :: a, b => by simp only [List.cons_append, Th.sts, sts_app a b]; omega
theorem mvs_app : ∀ a b : List Th, Th.mvs (a ++ b) = Th.mvs a + Th.mvs b
  | [], b => by simp [Th.mvs]
  | t :: a, b => by simp only [List.cons_append, Th.mvs, mvs_app a b]; omega
theorem oks_app : ∀ a b : List Th, Th.oks (a ++ b) ↔ Th.oks a ∧ Th.oks b
  | [], b => by simp [Th.oks]
  | t :: a, b => by simp only [List.cons_append, Th.oks, oks_app a b, and_assoc]
theorem ds_app (a b : List Th) : Th.ds (a ++ b) = Th.ds a ++ Th.ds b := by rw [ds_map, ds_map, ds_map, List.map_append]
theorem sz_pos : ∀ t : Th, 1 ≤ t.sz
  | .raw _ _ _ => Nat.le_refl 1
  | .made _ _ _ _ _ _ ps => by unfold Th.sz; omega
theorem szs_ge : ∀ ts : List Th, ts.length ≤ Th.szs ts
  | [] => Nat.le_refl 0
  | t :: ts => by
    have := szs_ge ts
    have := sz_pos t
    simp only [Th.szs, List.length_cons]; omega
end MH
set_option maxHeartbeats 1000000
namespace MH
open PySem PySem.Spec PyProof.Rows L2 DL
/-- in least terms -/
def lt (p q : Int) : Int × Int := (p / (Int.gcd p q : Int), q / (Int.gcd p q : Int))
def frD (f : Int × Int) : D := .tup [.int f.1, .int f.2]
theorem gcd_pos' {p q : Int} (h : 0 < q) : (0 : Int) < (Int.gcd p q : Int) := by
  have : Int.gcd p q ≠ 0 := fun e => by
    have := Int.gcd_eq_zero_iff.mp e
    omega
  omega
theorem lt_mul {p q : Int} : (lt p q).1 * (Int.gcd p q : Int) = p ∧ (lt p q).2 * (Int.gcd p q : Int) = q := by
  refine ⟨Int.ediv_mul_cancel (Int.gcd_dvd_left ..), Int.ediv_mul_cancel (Int.gcd_dvd_right ..)⟩
theorem lt_pos {p q : Int} (h : 0 < q) : 0 < (lt p q).2 := by
  have g := gcd_pos' (p := p) h
  have e := (lt_mul (p := p) (q := q)).2
  by_cases z : 0 < (lt p q).2
  · exact z
  · have : (lt p q).2 * (Int.gcd p q : Int) ≤ 0 := Int.mul_nonpos_of_nonpos_of_nonneg (by omega) (by omega)
    omega
theorem lt_cross {p q : Int} : (lt p q).1 * q = p * (lt p q).2 := by
  have h := lt_mul (p := p) (q := q)
  generalize (lt p q).1 = a at h
  generalize (lt p q).2 = b at h
  generalize (Int.gcd p q : Int) = g at h
  obtain ⟨h1, h2⟩ := h
  rw [← h1, ← h2, Int.mul_assoc, Int.mul_comm g b]
theorem lt_cop {p q : Int} (h : 0 < q) : Int.gcd (lt p q).1 (lt p q).2 = 1 := by
  have g := gcd_pos' (p := p) h
  unfold lt
  exact Int.gcd_ediv_gcd_ediv_gcd (by omega)
theorem lt_le {p q : Int} (q0 : 0 < q) : (lt p q).2 ≤ q := by
  have e := (lt_mul (p := p) (q := q)).2
  have g := gcd_pos' (p := p) q0
  have b := lt_pos (p := p) q0
  have : (lt p q).2 * 1 ≤ (lt p q).2 * (Int.gcd p q : Int) := Int.mul_le_mul_of_nonneg_left (by omega) (by omega)
  omega
theorem lt_abs {p q : Int} (q0 : 0 < q) : (lt p q).1.natAbs ≤ p.natAbs := by
  have e := (lt_mul (p := p) (q := q)).1
  have g := gcd_pos' (p := p) q0
  have e2 : (lt p q).1.natAbs * Int.gcd p q = p.natAbs := by
    rw [← e, Int.natAbs_mul]; simp
    rw [e]
  have : (lt p q).1.natAbs * 1 ≤ (lt p q).1.natAbs * Int.gcd p q := Nat.mul_le_mul_left _ (by omega)
  omega
end MH
set_option maxHeartbeats 1000000
namespace MH
open PySem PySem.Spec PyProof.Rows L2 DL
/-! ### the rows of a thing: each with the numbers of its parts -/
def nums : Nat → List Th → List Nat
  | _, [] => []
  | b, t :: ts => b :: nums (b + t.sz) ts
mutual
def rows : Th → Nat → List (Th × List Nat)
  | .raw h lo hi, _ => [(.raw h lo hi, [])]
  | .made h lo hi sh u w ps, b => (.made h lo hi sh u w ps, nums (b + 1) ps) :: rowss ps (b + 1)
def rowss : List Th → Nat → List (Th × List Nat)
  | [], _ => []
  | t :: ts, b => rows t b ++ rowss ts (b + t.sz)
end
def rowD (r : Th × List Nat) : D := .tup [r.1.d, .lst (r.2.map fun (k : Nat) => D.int (k : Int))]
mutual
theorem rows_len : ∀ (t : Th) (b : Nat), (rows t b).length = t.sz
  | .raw _ _ _, _ => rfl
  | .made _ _ _ _ _ _ ps, b => by rw [rows, List.length_cons, rowss_len ps (b + 1), Th.sz]; omega
theorem rowss_len : ∀ (ts : List Th) (b : Nat), (rowss ts b).length = Th.szs ts
  | [], _ => rfl
  | t :: ts, b => by rw [rowss, List.length_append, rows_len t b, rowss_len ts _, Th.szs]
end
end MH
set_option maxHeartbeats 1000000
namespace MH
open PySem PySem.Spec PyProof.Rows L2 DL
theorem log2_le {n a : Nat} (h : n ≤ 2 ^ a) : n.log2 ≤ a := by
  by_cases z : n = 0
  · subst z; simp
  · have h2 : n < 2 ^ (a + 1) := by rw [Nat.pow_succ]; have := Nat.two_pow_pos a; omega
    have := (Nat.log2_lt z).mpr h2
    omega
theorem mulW2 {i j : Int} {a b : Nat} (h : i.natAbs ≤ 2 ^ a) (k : j.natAbs ≤ 2 ^ b) (ab : a + b < 1000000) : CMulW i j := by
  have := log2_le h
  have := log2_le k
  unfold CMulW; omega
theorem divW2 {j : Int} {b : Nat} (h : 0 < j) (k : j.natAbs ≤ 2 ^ b) (hb : b < 9000) : CDivW 0 j := by
  have := log2_le k
  exact ⟨h, by omega⟩
/-- the sum of fractions, not in least terms -/
def addF (f g : Int × Int) : Int × Int := (f.1 * g.2 + g.1 * f.2, f.2 * g.2)
def sumF (fs : List (Int × Int)) : Int × Int := fs.foldl addF (0, 1)
/-- what is a fraction within reach -/
def FOk (f : Int × Int) : Prop := f.1.natAbs ≤ 2 ^ 64 ∧ 0 < f.2 ∧ f.2.natAbs ≤ 2 ^ 64
def FB (k : Nat) (f : Int × Int) : Prop := f.1.natAbs ≤ 2 ^ (65 * k) ∧ 0 < f.2 ∧ f.2.natAbs ≤ 2 ^ (65 * k)
/-- it is v divided by u -/
def Rep (u v : Int) (f : Int × Int) : Prop := 0 < f.2 ∧ f.1 * u = v * f.2
theorem Rep.add {u v w : Int} {f g : Int × Int} (h : Rep u v f) (k : Rep u w g) : Rep u (v + w) (addF f g) := by
  obtain ⟨h1, h2⟩ := h
  obtain ⟨k1, k2⟩ := k
  refine ⟨Int.mul_pos h1 k1, ?_⟩
  show (f.1 * g.2 + g.1 * f.2) * u = (v + w) * (f.2 * g.2)
  have e1 : (f.1 * g.2 + g.1 * f.2) * u = f.1 * u * g.2 + g.1 * u * f.2 := by
    rw [Int.add_mul, Int.mul_right_comm, Int.mul_right_comm g.1]
  rw [e1, h2, k2, Int.add_mul, Int.mul_assoc, Int.mul_assoc w, Int.mul_comm g.2 f.2]
inductive Reps (u : Int) : List (Int × Int) → List Int → Prop
  | nil : Reps u [] []
  | cons {f v fs vs} (h : Rep u v f) (r : Reps u fs vs) : Reps u (f :: fs) (v :: vs)
theorem Rep.fold {u : Int} : ∀ {fs : List (Int × Int)} {vs : List Int} {f : Int × Int} {v : Int}, Rep u v f → Reps u fs vs → Rep u (v + vs.sum) (fs.foldl addF f)
  | [], [], f, v, h, _ => by simpa using h
  | g :: fs, w :: vs, f, v, h, .cons k r => by
    have := Rep.fold (h.add k) r
    rw [List.foldl_cons, List.sum_cons, ← Int.add_assoc]
    exact this
theorem Rep.sum {u : Int} {fs : List (Int × Int)} {vs : List Int} (h : Reps u fs vs) : Rep u vs.sum (sumF fs) := by
  have := Rep.fold (u := u) (f := (0, 1)) (v := 0) ⟨by decide, by simp⟩ h
  simpa [sumF] using this
theorem fok_lt {u v : Int} (hu : 0 < u) (h1 : v.natAbs ≤ 2 ^ 64) (h2 : u.natAbs ≤ 2 ^ 64) : FOk (MH.lt v u) := by
  refine ⟨Nat.le_trans (lt_abs hu) h1, lt_pos hu, ?_⟩
  have := lt_le (p := v) hu
  have := lt_pos (p := v) hu
  omega
end MH
set_option maxHeartbeats 1000000
namespace MH
open PySem PySem.Spec PyProof.Rows L2 DL
/-! ### sums over a thing, its number and the prices being told -/
def own1 (h : Bool) (x : Int) : Int := if h then x else 0
def cnt1 (sh : Int) (u w : Bool) (o c : Int) : Int := if sh * c ≤ 100 * o then (if u then c else o) else (if w then o else 0)
mutual
def Th.cst : Th → Nat → (Nat → Int) → Int
  | .raw _ _ _, b, a => a b
  | .made _ _ _ _ _ _ ps, b, a => a b + Th.csts ps (b + 1) a
def Th.csts : List Th → Nat → (Nat → Int) → Int
  | [], _, _ => 0
  | t :: ts, b, a => t.cst b a + Th.csts ts (b + t.sz) a
end
mutual
def Th.cnt : Th → Nat → (Nat → Int) → Int
  | .raw h _ _, b, a => own1 h (a b)
  | .made h _ _ sh u w ps, b, a => cnt1 sh u w (own1 h (a b) + Th.cnts ps (b + 1) a) (a b + Th.csts ps (b + 1) a)
def Th.cnts : List Th → Nat → (Nat → Int) → Int
  | [], _, _ => 0
  | t :: ts, b, a => t.cnt b a + Th.cnts ts (b + t.sz) a
end
def Th.own : Th → Nat → (Nat → Int) → Int
  | .raw h _ _, b, a => own1 h (a b)
  | .made h _ _ _ _ _ ps, b, a => own1 h (a b) + Th.cnts ps (b + 1) a
end MH
set_option maxHeartbeats 1000000
namespace MH
open PySem PySem.Spec PyProof.Rows L2 DL
section
variable {a : Nat → Int} {A : Int} (ha : ∀ k, 0 ≤ a k ∧ a k ≤ A)
include ha
mutual
theorem cst_bd : ∀ (t : Th) (b : Nat), 0 ≤ t.cst b a ∧ t.cst b a ≤ t.sz * A
  | .raw _ _ _, b => by
    have := ha b
    simp only [Th.cst, Th.sz]; omega
  | .made _ _ _ _ _ _ ps, b => by
    have h1 := ha b
    have h2 := csts_bd ps (b + 1)
    simp only [Th.cst, Th.sz]
    have e : ((1 + Th.szs ps : Nat) : Int) * A = A + (Th.szs ps : Int) * A := by
      rw [Int.natCast_add, Int.add_mul]; simp
    omega
theorem csts_bd : ∀ (ts : List Th) (b : Nat), 0 ≤ Th.csts ts b a ∧ Th.csts ts b a ≤ Th.szs ts * A
  | [], b => by simp [Th.csts, Th.szs]
  | t :: ts, b => by
    have h1 := cst_bd t b
    have h2 := csts_bd ts (b + t.sz)
    simp only [Th.csts, Th.szs]
    have e : ((t.sz + Th.szs ts : Nat) : Int) * A = (t.sz : Int) * A + (Th.szs ts : Int) * A := by
      rw [Int.natCast_add, Int.add_mul]
    omega
end
theorem own1_bd (h : Bool) (k : Nat) : 0 ≤ own1 h (a k) ∧ own1 h (a k) ≤ a k := by
  have := ha k
  unfold own1; split <;> omega
theorem cnt1_bd {sh : Int} {u w : Bool} {o c : Int} (h1 : 0 ≤ o) (h2 : o ≤ c) : 0 ≤ cnt1 sh u w o c ∧ cnt1 sh u w o c ≤ c := by
  unfold cnt1
  split
  · split <;> omega
  · split <;> omega
mutual
theorem cnt_bd : ∀ (t : Th) (b : Nat), (0 ≤ t.cnt b a ∧ t.cnt b a ≤ t.cst b a) ∧ (0 ≤ t.own b a ∧ t.own b a ≤ t.cst b a)
  | .raw h _ _, b => by
    have := own1_bd ha h b
    simp only [Th.cnt, Th.cst, Th.own]; omega
  | .made h _ _ sh u w ps, b => by
    have h1 := own1_bd ha h b
    have h2 := cnts_bd ps (b + 1)
    have h3 : 0 ≤ own1 h (a b) + Th.cnts ps (b + 1) a := by omega
    have h4 : own1 h (a b) + Th.cnts ps (b + 1) a ≤ a b + Th.csts ps (b + 1) a := by omega
    have h5 := cnt1_bd ha (sh := sh) (u := u) (w := w) h3 h4
    simp only [Th.cnt, Th.cst, Th.own]
    omega
theorem cnts_bd : ∀ (ts : List Th) (b : Nat), 0 ≤ Th.cnts ts b a ∧ Th.cnts ts b a ≤ Th.csts ts b a
  | [], b => by simp [Th.cnts, Th.csts]
  | t :: ts, b => by
    have h1 := (cnt_bd t b).1
    have h2 := cnts_bd ts (b + t.sz)
    simp only [Th.cnts, Th.csts]
    omega
end
end
end MH
set_option maxHeartbeats 1000000
namespace DL
open PySem PySem.Spec PyProof.Rows L2
section
variable {M : Mem} {Q : QD} {i : Int} {k : Str} {ds : List D} {b : Bool}
theorem w_isi {d : D} {n T : String} {b : Bool} (h1 : tyO M d = some T) (h2 : kitB T n = some b) (h : Q (.bl b) M) : isiC [d, .ty n] M Q := by
  unfold isiC; simp only [h1, h2]; exact h
theorem w_isiII (h : Q (.bl true) M) : isiC [.int i, .ty "int"] M Q := w_isi (T := "int") rfl (by decide +kernel) h
theorem w_isiIB (h : Q (.bl false) M) : isiC [.int i, .ty "bool"] M Q := w_isi (T := "int") rfl (by decide +kernel) h
theorem w_isiIS (h : Q (.bl false) M) : isiC [.int i, .ty "str"] M Q := w_isi (T := "int") rfl (by decide +kernel) h
theorem w_isiIT (h : Q (.bl false) M) : isiC [.int i, .ty "tuple"] M Q := w_isi (T := "int") rfl (by decide +kernel) h
theorem w_isiSI (h : Q (.bl false) M) : isiC [.str k, .ty "int"] M Q := w_isi (T := "str") rfl (by decide +kernel) h
theorem w_isiSB (h : Q (.bl false) M) : isiC [.str k, .ty "bool"] M Q := w_isi (T := "str") rfl (by decide +kernel) h
theorem w_isiSS (h : Q (.bl true) M) : isiC [.str k, .ty "str"] M Q := w_isi (T := "str") rfl (by decide +kernel) h
theorem w_isiST (h : Q (.bl false) M) : isiC [.str k, .ty "tuple"] M Q := w_isi (T := "str") rfl (by decide +kernel) h
theorem w_isiTI (h : Q (.bl false) M) : isiC [.tup ds, .ty "int"] M Q := w_isi (T := "tuple") rfl (by decide +kernel) h
theorem w_isiTB (h : Q (.bl false) M) : isiC [.tup ds, .ty "bool"] M Q := w_isi (T := "tuple") rfl (by decide +kernel) h
theorem w_isiTS (h : Q (.bl false) M) : isiC [.tup ds, .ty "str"] M Q := w_isi (T := "tuple") rfl (by decide +kernel) h
theorem w_isiTT (h : Q (.bl true) M) : isiC [.tup ds, .ty "tuple"] M Q := w_isi (T := "tuple") rfl (by decide +kernel) h
theorem w_isiNI (h : Q (.bl false) M) : isiC [.non, .ty "int"] M Q := w_isi (T := "NoneType") rfl (by decide +kernel) h
theorem w_isiNS (h : Q (.bl false) M) : isiC [.non, .ty "str"] M Q := w_isi (T := "NoneType") rfl (by decide +kernel) h
theorem w_isiNT (h : Q (.bl false) M) : isiC [.non, .ty "tuple"] M Q := w_isi (T := "NoneType") rfl (by decide +kernel) h
theorem w_isiBI (h : Q (.bl true) M) : isiC [.bl b, .ty "int"] M Q := w_isi (T := "bool") rfl (by decide +kernel) h
theorem w_isiBB (h : Q (.bl true) M) : isiC [.bl b, .ty "bool"] M Q := w_isi (T := "bool") rfl (by decide +kernel) h
theorem w_isiLT (h : Q (.bl false) M) : isiC [.lst ds, .ty "tuple"] M Q := w_isi (T := "list") rfl (by decide +kernel) h
theorem w_chdT {φ : Prop} [Decidable φ] {o' : O2} {y : D} {tc : TED} {Xd : XD} {s : SD} (z : φ) (h1 : tc Xd s M fun z M1 => o' y z M1 Q) : chK o' y tc Xd s Q (.bl (decide φ)) M := by
  rw [decide_eq_true z]; exact h1
theorem w_ifndT {φ : Prop} [Decidable φ] {P U : Prop} (z : φ) (h2 : U) : if (!decide φ) = true then P else U := by
  rw [decide_eq_true z]; exact w_ifF h2
theorem w_andD {φ : Prop} [Decidable φ] {tb : TED} {Xd : XD} {s : SD} (z : φ) (h : tb Xd s M Q) : andK tb Xd s Q (.bl (decide φ)) M := by
  rw [decide_eq_true z]; exact w_andT h
theorem w_orD {φ : Prop} [Decidable φ] {tb : TED} {Xd : XD} {s : SD} (h1 : φ → Q (.bl true) M) (h2 : ¬ φ → tb Xd s M Q) : orK tb Xd s Q (.bl (decide φ)) M := by
  by_cases z : φ
  · rw [decide_eq_true z]; exact w_orT (h1 z)
  · rw [decide_eq_false z]; exact w_orF (h2 z)
def augY (f : Int → Int → Int) (p : Addr) (z u : Int) (nx : SD → Mem → Prop) (s : SD) : QD := fun y M1 => match y with
  | .int w => setK (.ref p) (.int z) (.int (f u w)) (fun M2 => nx s M2) M1
  | _ => False
theorem w_augY {f : Int → Int → Int} {p : Addr} {z u w : Int} {nx : SD → Mem → Prop} {s : SD} (h : setK (.ref p) (.int z) (.int (f u w)) (fun M2 => nx s M2) M) : augY f p z u nx s (.int w) M := h
theorem w_iZip {te te2 : TED} {Xd : XD} {s : SD} {I : List D → Option Addr → Mem → Prop} (h : dCons te (dCons te2 dNil) Xd s M fun ds M1 => ∃ d e, ds = [d, e] ∧ zipK I d e M1) : iZipD te te2 Xd s M I := h
theorem w_sg2 {d e : D} {J : D → D → Prop} (h : J d e) : ∃ x y, [d, e] = [x, y] ∧ J x y := ⟨d, e, rfl, h⟩
theorem w_zipLL {es : List D} {I : List D → Option Addr → Mem → Prop} (h : I (zpD ds es) none M) : zipK I (.lst ds) (.lst es) M := ⟨ds, es, rfl, rfl, h⟩
theorem w_zipTT {es : List D} {I : List D → Option Addr → Mem → Prop} (h : I (zpD ds es) none M) : zipK I (.tup ds) (.tup es) M := h
end
end DL
set_option maxHeartbeats 1000000
namespace DL
open PySem PySem.Spec PyProof.Rows L2
/-! ### repr of data of a known size -/
theorem ok_mem {x : Str} : PyData.strOk x = true ↔ ∀ c ∈ x.cps.toList, c < 0x110000 := by
  unfold PyData.strOk
  rw [Array.all_eq_true_iff_forall_mem]
  constructor
  · intro h c hc
    have := h c (Array.mem_toList_iff.mp hc)
    simpa using this
  · intro h c hc
    have := h c (Array.mem_toList_iff.mpr hc)
    simpa using this
theorem ok_app {x y : Str} (h : PyData.strOk x = true) (k : PyData.strOk y = true) : PyData.strOk (x ++ y) = true := by
  rw [ok_mem] at *
  intro c hc
  rcases mem_cps_append.mp hc with hc | hc
  · exact h c hc
  · exact k c hc
theorem ok_from : ∀ (ts : List Str) (k : Nat) (acc : Str), PyData.strOk acc = true → (∀ t ∈ ts, PyData.strOk t = true) → PyData.strOk (textFrom k acc ts) = true
  | [], k, acc, h, _ => h
  | t :: ts, k, acc, h, hs => ok_from ts (k + 1) _ (ok_app (ok_app h (by split <;> decide +kernel)) (hs t List.mem_cons_self)) fun x hx => hs x (List.mem_cons_of_mem _ hx)
theorem ok_list {ts : List Str} (hs : ∀ t ∈ ts, PyData.strOk t = true) : PyData.strOk (listText ts) = true := ok_app (ok_from ts 0 _ (by decide +kernel) hs) (by decide +kernel)
theorem ok_join {ts : List Str} (hs : ∀ t ∈ ts, PyData.strOk t = true) : PyData.strOk (Str.join ", " ts) = true := by
  rw [ok_mem]
  intro c hc
  rcases (mem_join _ _ _).mp hc with ⟨t, ht, h⟩ | ⟨_, h⟩
  · exact ok_mem.mp (hs t ht) c h
  · rw [signs_sep] at h
    simp only [List.mem_cons, List.not_mem_nil, or_false] at h
    omega
theorem ok_tuple {ts : List Str} (hs : ∀ t ∈ ts, PyData.strOk t = true) : PyData.strOk (tupleText ts) = true := by
  unfold tupleText
  refine ok_app (ok_app (by decide +kernel) (ok_join hs)) ?_
  split <;> decide +kernel
structure RB (m d : Nat) (p : PyData) : Prop where
  sh : p.showable = true
  len : p.shown.length ≤ m
  dep : p.depth ≤ d
  ok : PyData.strOk p.shown = true
theorem RB.mono {m m' d d' : Nat} {p : PyData} (h : RB m d p) (hm : m ≤ m') (hd : d ≤ d') : RB m' d' p := ⟨h.sh, Nat.le_trans h.len hm, Nat.le_trans h.dep hd, h.ok⟩
theorem rb_int {i : Int} (h : i.natAbs ≤ 2 ^ 64) : RB 66 0 (.int i) := by
  have hl : i.natAbs.log2 < 65 := by
    by_cases z : i.natAbs = 0
    · rw [z]; decide
    · exact (Nat.log2_lt z).mpr (by omega)
  refine ⟨decide_eq_true (by omega), ?_, Nat.le_refl _, ok_mem.mpr fun c hc => ?_⟩
  · show (Str.ofString (toString i)).length ≤ 66
    rw [PySem.ofString_length]; exact int_text_length_le (by decide) hl
  · by_cases z : c < 0x110000
    · exact z
    · exact absurd hc (shown_int_free' (by omega) i)
theorem rb_str {x : Str} {m : Nat} (h : PyData.strOk (reprText x) = true) (hl : (reprText x).length ≤ m) : RB m 0 (.str x) := ⟨rfl, hl, Nat.le_refl _, h⟩
/-- data that can be shown within m signs -/
def RD (m d : Nat) (x : D) : Prop := ∃ p, toPy x = some p ∧ RB m d p
theorem RD.mono {m m' d d' : Nat} {x : D} (h : RD m d x) (hm : m ≤ m') (hd : d ≤ d') : RD m' d' x := by
  obtain ⟨p, h1, h2⟩ := h
  exact ⟨p, h1, h2.mono hm hd⟩
/-- of several, with the sum of their signs -/
structure RBs (m d : Nat) (xs : List PyData) : Prop where
  sh : PyData.showableAll xs = true
  len : ((PyData.shownAll xs).map (·.length)).sum ≤ m
  dep : PyData.depthAll xs ≤ d
  ok : ∀ t ∈ PyData.shownAll xs, PyData.strOk t = true
  n : (PyData.shownAll xs).length = xs.length
theorem rbs_nil {d : Nat} : RBs 0 d [] := ⟨rfl, by simp [PyData.shownAll], Nat.zero_le _, fun t h => by simp [PyData.shownAll] at h, rfl⟩
theorem rbs_cons {m m' d : Nat} {x : PyData} {xs : List PyData} (hx : RB m d x) (h : RBs m' d xs) : RBs (m + m') d (x :: xs) := by
  refine ⟨by simp only [PyData.showableAll, hx.sh, h.sh, Bool.and_self], ?_, ?_, ?_, ?_⟩
  · simp only [PyData.shownAll, List.map_cons, List.sum_cons]
    have := hx.len
    have := h.len
    omega
  · simp only [PyData.depthAll]
    have := hx.dep
    have := h.dep
    omega
  · intro t ht
    simp only [PyData.shownAll, List.mem_cons] at ht
    rcases ht with rfl | ht
    · exact hx.ok
    · exact h.ok t ht
  · simp only [PyData.shownAll, List.length_cons, h.n]
end DL
set_option maxHeartbeats 1000000
namespace DL
open PySem PySem.Spec PyProof.Rows L2
/-! ### one step of a reading each: exceptions -/
section
variable {K : Fg} {C : Addr} {ns : List Str} {ds : List D} {M : Mem} {Q : QD} {Xd : XD} {s : SD} {te : TED} {t : TAD} {tb : TSD} {nx bk ct : SD → Mem → Prop} {rt : QD} {ex : XD} {f : Str} {d : D}
theorem w_mk (h : t Xd s M fun ds M1 => Q (.exn C ns ds.reverse) M1) : dMk C ns t Xd s M Q := h
theorem w_mkK {pm : Prm} (h : t Xd s M fun ds M1 => Q (.exn C ns (pm.f ds).reverse) M1) : dMkK C ns pm t Xd s M Q := h
theorem w_mk0 (h : te Xd s M fun _ M1 => Q (.exn C [] []) M1) : dMk0 C te Xd s M Q := h
def fdK (K : Fg) (f : Str) (Q : QD) : QD := fun d M1 => match d with
  | .exn C ns ds => FdOk K C f ∧ ∃ d, (ns.zip ds).lookup f = some d ∧ Q d M1
  | _ => False
theorem w_fd (h : te Xd s M (fdK K f Q)) : dFd K f te Xd s M Q := h
theorem w_raise (h : t ex s M fun ds M1 => ex C ns ds.reverse M1) : sRaise C ns t ⟨nx, rt, bk, ct, ex⟩ s M := h
theorem w_raiseX (h : t (fun _ _ _ _ => False) s M fun ds M1 => ex C ns ds.reverse M1) : sRaiseX C ns t ⟨nx, rt, bk, ct, ex⟩ s M := h
theorem w_try {cl : List ClD} (h : tb ⟨nx, rt, bk, ct, xCl K ⟨nx, rt, bk, ct, ex⟩ s cl⟩ s M) : sTry K tb cl ⟨nx, rt, bk, ct, ex⟩ s M := h
theorem w_callX {sp : SpD} (h : t (fun _ _ _ _ => False) s M fun ds M1 => sp ds M1 Q Xd) : dCallX sp t Xd s M Q := h
end
/-! ### shown, with dicts -/
def RX (m d : Nat) (x : D) : Prop := ∃ p, toPyX x = some p ∧ RB m d p
theorem RX.mono {m m' d d' : Nat} {x : D} (h : RX m d x) (hm : m ≤ m') (hd : d ≤ d') : RX m' d' x := by
  obtain ⟨p, h1, h2⟩ := h
  exact ⟨p, h1, h2.mono hm hd⟩
theorem rx_int {i : Int} (h : i.natAbs ≤ 2 ^ 64) : RX 66 0 (.int i) := ⟨_, rfl, rb_int h⟩
def rbB (m d : Nat) (p : PyData) : Bool := p.showable && (decide (p.shown.length ≤ m) && (decide (p.depth ≤ d) && PyData.strOk p.shown))
theorem rbB_ok {m d : Nat} {p : PyData} (h : rbB m d p = true) : RB m d p := by
  obtain ⟨h1, h⟩ := He.ba h
  obtain ⟨h2, h⟩ := He.ba h
  obtain ⟨h3, h4⟩ := He.ba h
  exact ⟨h1, of_decide_eq_true h2, of_decide_eq_true h3, h4⟩
def rxB (m d : Nat) (x : D) : Bool := match toPyX x with
  | some p => rbB m d p
  | none => false
theorem rxB_ok {m d : Nat} {x : D} (h : rxB m d x = true) : RX m d x := by
  unfold rxB at h
  cases e : toPyX x with
  | none => rw [e] at h; cases h
  | some p => rw [e] at h; exact ⟨p, e, rbB_ok h⟩
def shX (x : D) : Str := match toPyX x with
  | some p => p.shown
  | none => ""
theorem w_reprX {m n : Nat} {x : D} {M : Mem} {Q : QD} (hr : RX m n x) (hv : vw M x = x) (hm : m ≤ 16777216) (hn : n ≤ 60) (h : Q (.str (shX x)) M) : reprX [x] M Q := by
  obtain ⟨p, h1, h2⟩ := hr
  unfold reprX
  simp only [hv, h1]
  refine ⟨⟨h2.sh, by rw [sizeLine_eq]; exact Nat.le_trans h2.len hm, Nat.le_trans h2.dep hn⟩, ?_⟩
  unfold shX at h
  rw [h1] at h; exact h
theorem shX_ok {m n : Nat} {x : D} (hr : RX m n x) : PyData.strOk (shX x) = true := by
  obtain ⟨p, h1, h2⟩ := hr
  unfold shX
  rw [h1]; exact h2.ok
theorem w_neShX {m n : Nat} {x : D} {M : Mem} {Q : QD} (hr : RX m n x) (h : Q (.bl false) M) : neD (.str (shX x)) (.str (shX x)) M Q := by
  refine w_neS (shX_ok hr) (shX_ok hr) ?_
  rw [decide_eq_true rfl]; exact h
theorem w_mulSI {x : Str} {k : Int} {M : Mem} {Q : QD} (hk : MulOk x k) (h : Q (.str (Txt.mul x k)) M) : mulD (.str x) (.int k) M Q := ⟨hk, h⟩
theorem w_inO {x y : D} {b : Bool} {M : Mem} {Q : QD} (e : inO M x y = some b) (h : Q (.bl b) M) : inD x y M Q := by unfold inD; rw [e]; exact h
end DL
namespace DL
end DL
namespace DL
open PySem PySem.Spec PyProof.Rows L2
end DL
set_option maxHeartbeats 2000000
namespace DL
open PySem PySem.Spec PyProof.Rows L2 LamX NdefX
/-! ### functions as data: what a parameter may hold that is called -/
structure HeldD (P : Program) (w : World) (K : Fg) (mg : Str → Option Value) (base : Heap) (k : Nat) (L : D) (n : Nat) (sp : SpD) : Prop where
  at_ : ∀ (s : Shared) (H : Hp) (M : Mem) (v : V), K.In base → (∀ b o, base.get? b = some o → s.heap.get? b = some o) → HOk P w H s.heap → Rv K H M L v → ∃ f, v = .ref f ∧ PySem.W.FnAt f s.heap
  run : ∀ (A : Around) (outer : List Env) (s : Shared) (H : Hp) (M : Mem) (us : List Value) (vs : List V) (ds : List D) (Qd : QD) (Xd : XD) (Q : VK) (E : XK) (f : Addr), RoomG k A → Env0 P w K mg base A outer s H → Rv K H M L (.ref f) → ds.length = n → Vals vs us → MOk K H M → Rs K H M ds vs →
    sp ds M Qd Xd → (∀ v H', upE K H M Qd v H' → Q v H') → XTo K H M Xd E → codeAny (model P w) A (.call (.ref f) ⟨us, []⟩) (CR (L2.CX P w) outer P w H s Q E) s
section
variable {P : Program} {w : World} {K : Fg} {mg : Str → Option Value} {base : Heap} {j k n : Nat} {f : Addr} {fd : FuncData} {ps : List Str} {sp : SpD} {L : D} {x qual : Str} {st : Stmt}
theorem HeldD.mono (h : HeldD P w K mg base j L n sp) (le : j ≤ k) : HeldD P w K mg base k L n sp := ⟨h.at_, fun A outer s H M us vs ds Qd Xd Q E f hr => h.run A outer s H M us vs ds Qd Xd Q E f (hr.mono le)⟩
end
/-! ### f(..), f a name that holds such a function -/
/-! ### a wider base: what stands now and is neither tracked nor a frame -/
/-- what the captured cells hold, in the base -/
structure CellsB (cl : List (Str × Addr)) (fr : List Str) (ws : List (Option V)) (base : Heap) : Prop where
  len : ws.length = fr.length
  all : ∀ y c, cl.lookup y = some c → ∃ v, base.IsCell c v
  inj : ∀ x y c, cl.lookup x = some c → cl.lookup y = some c → x = y
  has : ∀ (i : Nat) (y : Str), fr[i]? = some y → ∃ c, cl.lookup y = some c ∧ ∀ v, ws[i]? = some (some v) → ∃ u, L2.RelV v u ∧ base.IsCell c (some u)
theorem CellsB.at_ {cl : List (Str × Addr)} {fr : List Str} {ws : List (Option V)} {base h : Heap} {H : Hp} (C : CellsB cl fr ws base) (bs : ∀ b o, base.get? b = some o → h.get? b = some o ∧ H b = none) : CellsAt cl fr ws h H := by
  have kp : ∀ {c v}, base.IsCell c v → H c = none ∧ h.IsCell c v := fun {c v} ⟨o, ho, hd⟩ => ⟨(bs _ _ ho).2, o, (bs _ _ ho).1, hd⟩
  refine ⟨C.len, fun y c e => ?_, C.inj, fun i y e => ?_⟩
  · obtain ⟨v, z⟩ := C.all y c e
    exact ⟨(kp z).1, v, (kp z).2⟩
  · obtain ⟨c, hc, hv⟩ := C.has i y e
    exact ⟨c, hc, fun v ev => let ⟨u, r, z⟩ := hv v ev; ⟨u, r, (kp z).2⟩⟩
/-! ### the entry of a function made in a def: its parameters, what it captured -/
end DL
set_option maxHeartbeats 2000000
namespace DL
open PySem PySem.Spec PyProof.Rows L2 LamX NdefX
end DL
set_option maxHeartbeats 2000000
namespace DL
open PySem PySem.Spec PyProof.Rows L2 LamX NdefX
end DL
set_option maxHeartbeats 1000000
namespace DL
open PySem PySem.Spec PyProof.Rows L2
/-! ### a module's constant of ints, texts and tuples, as data -/
end DL
set_option maxHeartbeats 1000000
namespace PySem
open AutoSeq1 (wpAny_loadPart')
/-- lists and tuples by a Bool: true a tuple -/
def IterB (k : Bool) (h : Heap) (it l : Addr) (i : Nat) : Prop := match k with
  | true => h.IsTupleIter it l i
  | false => h.IsListIter it l i
def SeqB (k : Bool) (h : Heap) (l : Addr) (items : Array Value) : Prop := match k with
  | true => h.IsTuple l items
  | false => h.IsList l items
def itN (k : Bool) : String := match k with
  | true => "tuple_iterator"
  | false => "list_iterator"
theorem dl_draws_lst {prog : Program} {w : World} {A : Around} (hh : A.handled = none) (it l : Addr) (hne : l ≠ it) (items : Array Value) :
    Draws prog w A it [it, l] items.size (fun i v => items[i]? = some v) (fun i h => h.IsListIter it l i ∧ h.IsList l items) where
  live := fun _ _ st => let ⟨o, ho, _⟩ := st.1; ⟨o, ho⟩
  frame := fun _ _ _ st hk => ⟨let ⟨o, ho, r⟩ := st.1; ⟨o, hk it (by simp) o ho, r⟩, let ⟨o, ho, r⟩ := st.2; ⟨o, hk l (by simp) o ho, r⟩⟩
  item := fun i s Q E hi st hQ => wpAny_nextOf_list_item st.1 st.2 (x := items[i]) (by simp [hi]) fun h' hit' hs' => hQ _ h' s.toks (by simp [hi]) ⟨hit', st.2.extBut hs'.extBut hne⟩ hs'
  done := fun s Q E st hE => wpAny_nextOf_list_end hh st.1 st.2 (by simp) hE
theorem dl_draws {prog : Program} {w : World} {A : Around} (k : Bool) (hh : A.handled = none) (it l : Addr) (hne : l ≠ it) (items : Array Value) :
    Draws prog w A it [it, l] items.size (fun i v => items[i]? = some v) (fun i h => IterB k h it l i ∧ SeqB k h l items) := by
  cases k with
  | true => exact dl_draws_tup hh it l hne items
  | false => exact dl_draws_lst hh it l hne items
abbrev zmH1 (ka : Bool) (h : Heap) (l1 : Addr) : Heap := h.push { cls := .type (itN ka), data := .fields #[.ref l1, .int 0 0] }
abbrev zmH2 (ka kb : Bool) (h : Heap) (l1 l2 : Addr) : Heap := (zmH1 ka h l1).push { cls := .type (itN kb), data := .fields #[.ref l2, .int 0 0] }
abbrev zmH3 (ka kb : Bool) (h : Heap) (l1 l2 : Addr) : Heap := (zmH2 ka kb h l1 l2).push { cls := .type "tuple", data := .seq #[.ref h.objs.size, .ref (zmH1 ka h l1).objs.size] }
abbrev zmH4 (ka kb : Bool) (h : Heap) (l1 l2 : Addr) : Heap := (zmH3 ka kb h l1 l2).push { cls := .type "tuple", data := .seq #[.none, .none] }
abbrev zmH5 (ka kb : Bool) (h : Heap) (l1 l2 : Addr) : Heap := (zmH4 ka kb h l1 l2).push { cls := .type "zip", data := .fields #[.none, .bool false, .bool false, .ref (zmH2 ka kb h l1 l2).objs.size, .ref (zmH3 ka kb h l1 l2).objs.size] }
theorem meets_zipM (ka kb : Bool) (l1 l2 : Addr) (xs ys : Array Value) :
    Meets (Builtin.«zip.__new__» ⟨[.type "zip", .ref l1, .ref l2], []⟩) (fun _ R s => SeqB ka s.heap l1 xs ∧ SeqB kb s.heap l2 ys ∧
      R (.ok (.ret (.ref (zmH4 ka kb s.heap l1 l2).objs.size))) { s with heap := zmH5 ka kb s.heap l1 l2 }) :=
  .of_wp fun prog w A R s h => by
    obtain ⟨hp, g, d, tk, os⟩ := s; obtain ⟨hl1, hl2, h⟩ := h
    have hsub := sub_zip
    cases ka with
    | true =>
      have hL1 : Heap.IsTuple (Shared.heap ⟨hp, g, d, tk, os⟩) l1 xs := hl1
      cases kb with
      | true =>
        have hL2 : Heap.IsTuple (Shared.heap ⟨hp.push { cls := .type "tuple_iterator", data := .fields #[.ref l1, .int 0 0] }, g, d, tk, os⟩) l2 ys := Heap.IsTuple.push hl2 _
        wp_walk using wpAny_pyIter_tuple hL1, wpAny_pyIter_tuple hL2
        exact ⟨_, rfl, h⟩
      | false =>
        have hL2 : Heap.IsList (Shared.heap ⟨hp.push { cls := .type "tuple_iterator", data := .fields #[.ref l1, .int 0 0] }, g, d, tk, os⟩) l2 ys := Heap.IsList.push hl2 _
        wp_walk using wpAny_pyIter_tuple hL1, wpAny_pyIter_list hL2
        exact ⟨_, rfl, h⟩
    | false =>
      have hL1 : Heap.IsList (Shared.heap ⟨hp, g, d, tk, os⟩) l1 xs := hl1
      cases kb with
      | true =>
        have hL2 : Heap.IsTuple (Shared.heap ⟨hp.push { cls := .type "list_iterator", data := .fields #[.ref l1, .int 0 0] }, g, d, tk, os⟩) l2 ys := Heap.IsTuple.push hl2 _
        wp_walk using wpAny_pyIter_list hL1, wpAny_pyIter_tuple hL2
        exact ⟨_, rfl, h⟩
      | false =>
        have hL2 : Heap.IsList (Shared.heap ⟨hp.push { cls := .type "list_iterator", data := .fields #[.ref l1, .int 0 0] }, g, d, tk, os⟩) l2 ys := Heap.IsList.push hl2 _
        wp_walk using wpAny_pyIter_list hL1, wpAny_pyIter_list hL2
        exact ⟨_, rfl, h⟩
theorem iterB_at {k : Bool} {h : Heap} {it l : Addr} (e : h.get? it = some { cls := .type (itN k), data := .fields #[.ref l, .int 0 0] }) : IterB k h it l 0 := by
  cases k with
  | true => exact ⟨_, e, rfl, rfl⟩
  | false => exact ⟨_, e, rfl, rfl⟩
theorem call_zipM {prog : Program} {w : World} {A : Around} {E : Value → Shared → Prop} {s : Shared} {ka kb : Bool} {l1 l2 : Addr} {xs ys : Array Value} {Q : Value → Shared → Prop} (hl1 : SeqB ka s.heap l1 xs) (hl2 : SeqB kb s.heap l2 ys)
    (h : ∀ h', IsZip h' (s.heap.objs.size + 4) (s.heap.objs.size + 2) (s.heap.objs.size + 3) .none → IsTupOf2 h' (s.heap.objs.size + 2) (.ref s.heap.objs.size) (.ref (s.heap.objs.size + 1)) →
      IsTupOf2 h' (s.heap.objs.size + 3) .none .none → IterB ka h' s.heap.objs.size l1 0 → IterB kb h' (s.heap.objs.size + 1) l2 0 → h'.objs.size = s.heap.objs.size + 5 →
      (∀ c o, s.heap.get? c = some o → h'.get? c = some o) → Q (.ref (s.heap.objs.size + 4)) { s with heap := h' }) :
    wpAny (model prog w) A (call (.type "zip") [.ref l1, .ref l2]) Q E s := by
  refine callType_new F.called_zip (by decide) (F.typeCall_zip_2 _ _) (F.newCall_zip_2 _ _) (fun obj => F.args_object_init_3 obj _ _) F.entry_zip_new (meets_zipM ka kb l1 l2 xs ys) ⟨hl1, hl2, ?_⟩
  have z1 : (zmH1 ka s.heap l1).objs.size = s.heap.objs.size + 1 := Heap.size_push ..
  have z2 : (zmH2 ka kb s.heap l1 l2).objs.size = s.heap.objs.size + 2 := by rw [Heap.size_push, z1]
  have z3 : (zmH3 ka kb s.heap l1 l2).objs.size = s.heap.objs.size + 3 := by rw [Heap.size_push, z2]
  have z4 : (zmH4 ka kb s.heap l1 l2).objs.size = s.heap.objs.size + 4 := by rw [Heap.size_push, z3]
  have z5 : (zmH5 ka kb s.heap l1 l2).objs.size = s.heap.objs.size + 5 := by rw [Heap.size_push, z4]
  have n1 : ∀ k : Bool, ∀ l : Addr, Obj.isFreed { cls := .type (itN k), data := .fields #[.ref l, .int 0 0] } = false := fun k l => by cases k <;> rfl
  have g5 : (zmH5 ka kb s.heap l1 l2).get? (zmH4 ka kb s.heap l1 l2).objs.size = some _ := Heap.get?_push_size _ rfl
  have g4 : (zmH5 ka kb s.heap l1 l2).get? (zmH3 ka kb s.heap l1 l2).objs.size = some _ := Heap.get?_push_of_some _ (Heap.get?_push_size _ rfl)
  have g3 : (zmH5 ka kb s.heap l1 l2).get? (zmH2 ka kb s.heap l1 l2).objs.size = some _ := Heap.get?_push_of_some _ (Heap.get?_push_of_some _ (Heap.get?_push_size _ rfl))
  have g2 : (zmH5 ka kb s.heap l1 l2).get? (zmH1 ka s.heap l1).objs.size = some _ := Heap.get?_push_of_some _ (Heap.get?_push_of_some _ (Heap.get?_push_of_some _ (Heap.get?_push_size _ (n1 kb l2))))
  have g1 : (zmH5 ka kb s.heap l1 l2).get? s.heap.objs.size = some _ := Heap.get?_push_of_some _ (Heap.get?_push_of_some _ (Heap.get?_push_of_some _ (Heap.get?_push_of_some _ (Heap.get?_push_size _ (n1 ka l1)))))
  show _ ∧ _
  rw [z2, z3, z4] at g5
  rw [z1, z2] at g3
  rw [z3] at g4
  rw [z1] at g2
  rw [z4]
  exact ⟨⟨_, g5, rfl⟩, h _ g5 g3 g4 (iterB_at g1) (iterB_at g2) z5 fun c o x =>
    Heap.get?_push_of_some _ (Heap.get?_push_of_some _ (Heap.get?_push_of_some _ (Heap.get?_push_of_some _ (Heap.get?_push_of_some _ x))))⟩
end PySem
namespace DL
open PySem PySem.Spec PyProof.Rows L2 RZ
/-! ### zip of lists and tuples, mixed -/
def SqB (k : Bool) (K : Fg) (H : Hp) (a : Addr) (xs : List V) : Prop := match k with
  | true => SqT K H a xs
  | false => SqL K H a xs
theorem sqB_at {X : Cx} {pins : List (Addr × Obj)} {σ : L2.St} {H : Hp} {s : Shared} {k : Bool} {a : Addr} {xs : List V} (I : Inv X pins σ H s) (h : SqB k X.K H a xs) : ∃ its : List Value, Vals xs its ∧ SeqB k s.heap a its.toArray ∧ (∀ ys, SqB k X.K H a ys → ys = xs) := by
  cases k with
  | true =>
    obtain ⟨its, rv, p, _⟩ := I.tuple h
    exact ⟨its, rv, p, fun ys hy => I.tuple_inj hy h⟩
  | false =>
    obtain ⟨its, rv, p, _⟩ := I.list h
    exact ⟨its, rv, p.isList, fun ys hy => I.list_inj hy h⟩
theorem iterB_obj {k : Bool} {h : Heap} {it l : Addr} {i : Nat} (x : IterB k h it l i) : ∃ o, h.get? it = some o ∧ o.data = .fields #[.ref l, .int i 0] ∧ o.cls = .type (itN k) := by
  cases k with
  | true => obtain ⟨o, a, b, c⟩ := x; exact ⟨o, a, c, b⟩
  | false => obtain ⟨o, a, b, c⟩ := x; exact ⟨o, a, c, b⟩
theorem iterB_of {k : Bool} {h : Heap} {it l : Addr} {i : Nat} {o : Obj} (a : h.get? it = some o) (c : o.data = .fields #[.ref l, .int i 0]) (b : o.cls = .type (itN k)) : IterB k h it l i := by
  cases k with
  | true => exact ⟨o, a, b, c⟩
  | false => exact ⟨o, a, b, c⟩
theorem seqB_obj {k : Bool} {h : Heap} {l : Addr} {items : Array Value} (x : SeqB k h l items) : ∃ o, h.get? l = some o := by
  cases k with
  | true => obtain ⟨o, a, _⟩ := x; exact ⟨o, a⟩
  | false => obtain ⟨o, a, _⟩ := x; exact ⟨o, a⟩
def ItzM (K : Fg) (ka kb : Bool) (a b : Addr) : It :=
  ⟨fun i H => ∃ (xs ys : List V) (x y : V), SqB ka K H a xs ∧ SqB kb K H b ys ∧ xs[i]? = some x ∧ ys[i]? = some y,
    fun i H v H' => ∃ T x y, v = .ref T ∧ H T = none ∧ H' = upd H T (.tup [x, y]) ∧ (∀ xs, SqB ka K H a xs → xs[i]? = some x) ∧ ∀ ys, SqB kb K H b ys → ys[i]? = some y,
    fun i H => ∃ xs ys : List V, SqB ka K H a xs ∧ SqB kb K H b ys ∧ i ≤ xs.length ∧ i ≤ ys.length ∧ (xs.length = i ∨ ys.length = i)⟩
theorem turn_zipM {P : Program} {w : World} {K : Fg} {elts : List Expr} {kk : Nat} {tpos : Pos} {ka kb : Bool} {a b z TI TO i1 i2 : Addr} (S : ZipSep2 z TI TO i1 i2 [i1, a] [i2, b]) (na : a ≠ i1) (nb : b ≠ i2) :
    Turn P w K (.Tuple elts kk tpos) (ItzM K ka kb a b) [z, TI, TO, i1, i2] z (fun i h => IsZip h z TI TO .none ∧ IsTupOf2 h TI (.ref i1) (.ref i2) ∧ (∃ x y, IsTupOf2 h TO x y) ∧ IterB ka h i1 a i ∧ IterB kb h i2 b i) where
  mem := by simp
  obj := fun i h st c hc => by
    obtain ⟨hz, hTI, ⟨x, y, hTO⟩, h1, h2⟩ := st
    obtain ⟨o1, e1, d1, _⟩ := iterB_obj h1
    obtain ⟨o2, e2, d2, _⟩ := iterB_obj h2
    have e' : c = z ∨ c = TI ∨ c = TO ∨ c = i1 ∨ c = i2 := by simpa using hc
    rcases e' with q | q | q | q | q
    · rw [q]; exact ⟨_, hz, fun v q => nomatch q⟩
    · rw [q]; exact ⟨_, hTI, fun v q => nomatch q⟩
    · rw [q]; exact ⟨_, hTO, fun v q => nomatch q⟩
    · rw [q]; exact ⟨o1, e1, fun v q => by rw [d1] at q; cases q⟩
    · rw [q]; exact ⟨o2, e2, fun v q => by rw [d2] at q; cases q⟩
  keep := fun i h h' st k => by
    obtain ⟨hz, hTI, ⟨x, y, hTO⟩, h1, h2⟩ := st
    obtain ⟨o1, e1, d1, c1⟩ := iterB_obj h1
    obtain ⟨o2, e2, d2, c2⟩ := iterB_obj h2
    exact ⟨k z (by simp) _ hz, k TI (by simp) _ hTI, ⟨x, y, k TO (by simp) _ hTO⟩, iterB_of (k i1 (by simp) _ e1) d1 c1, iterB_of (k i2 (by simp) _ e2) d2 c2⟩
  item := by
    intro X hP hw hK hc i pins s σ H E I hf st hg
    subst hP hw hK
    obtain ⟨hz, hTI, ⟨x0, y0, hTO⟩, h1, h2⟩ := st
    obtain ⟨xs, ys, x, y, hqx, hqy, hx, hy⟩ := hg
    obtain ⟨its, rv, p, ux⟩ := sqB_at I hqx
    obtain ⟨its2, rv2, p2, uy⟩ := sqB_at I hqy
    obtain ⟨u, hu, ru⟩ := rv.get hx
    obtain ⟨u2, hu2, ru2⟩ := rv2.get hy
    have hzl : z < s.heap.objs.size := Heap.lt_size hz
    have hh : X.A.in1.handled = none := I.ok.hd hc
    have lt1 : i < its.toArray.size := by
      rcases Nat.lt_or_ge i its.length with q | q
      · simpa using q
      · rw [List.getElem?_eq_none q] at hu; cases hu
    have lt2 : i < its2.toArray.size := by
      rcases Nat.lt_or_ge i its2.length with q | q
      · simpa using q
      · rw [List.getElem?_eq_none q] at hu2; cases hu2
    refine wpAny_pyNext_zipD2_item S (dl_draws ka hh i1 a na its.toArray) (dl_draws kb hh i2 b nb its2.toArray) hz hTI hTO ⟨h1, p⟩ ⟨h2, p2⟩ lt1 lt2 fun x1 x2 h' tk P1 P2 z' TO' st1 st2 hT hsz hk => ?_
    have e1 : x1 = u := by
      have q : its.toArray[i]? = some x1 := P1
      rw [show its.toArray[i]? = its[i]? by simp, hu] at q
      exact (Option.some.inj q).symm
    have e2 : x2 = u2 := by
      have q : its2.toArray[i]? = some x2 := P2
      rw [show its2.toArray[i]? = its2[i]? by simp, hu2] at q
      exact (Option.some.inj q).symm
    subst e1 e2
    refine ⟨_, rfl, wpAny_letOwnedTupleGo_zip (s := { s with heap := h', toks := tk }) z' fun h'' z'' sb => ?_⟩
    have hT2 : h''.get? s.heap.objs.size = some { cls := .type "tuple", data := .seq #[x1, x2] } := (sb.2 _ (Nat.ne_of_gt hzl)).trans hT
    have new : ObjOk X.prog X.w (upd H s.heap.objs.size (.tup [x, y])) h'' s.heap.objs.size (.tup [x, y]) :=
      ⟨by show 2 ≤ sizeLine; decide, [x1, x2], .cons ru (.cons ru2 .nil), ⟨_, hT2, rfl, _, rfl⟩⟩
    have I1 : Inv X pins σ (upd H s.heap.objs.size (.tup [x, y])) { s with heap := h'', toks := tk } :=
      I.turnedNew (t' := tk) (ch := [z, TI, TO, i1, i2]) (fun c o hb q => (sb.2 c (fun q' => hb (by simp [q']))).trans (hk c o (fun q' => hb (by simp [q'])) (fun q' => hb (by simp [q'])) (fun q' => hb (by simp [q'])) (fun q' => hb (by simp [q'])) q)) hf (Nat.le_refl _) new
    have old : ∀ c, c ∈ [z, TI, TO, i1, i2] → c < s.heap.objs.size := fun c hcm => by
      have e' : c = z ∨ c = TI ∨ c = TO ∨ c = i1 ∨ c = i2 := by simpa using hcm
      rcases e' with q | q | q | q | q
      · rw [q]; exact hzl
      · rw [q]; exact Heap.lt_size hTI
      · rw [q]; exact Heap.lt_size hTO
      · rw [q]; obtain ⟨_, e1, _⟩ := iterB_obj h1; exact Heap.lt_size e1
      · rw [q]; obtain ⟨_, e2, _⟩ := iterB_obj h2; exact Heap.lt_size e2
    refine ⟨.ref s.heap.objs.size, _, I1, rfl, ⟨_, x, y, rfl, I.hok.fresh (Nat.le_refl _), rfl, fun l hl => by rw [ux l hl]; exact hx, fun l hl => by rw [uy l hl]; exact hy⟩, ⟨z'', ?_, ⟨x1, x2, ?_⟩, ?_, ?_⟩, fun c hcm => ?_⟩
    · exact (sb.2 _ S.TIz).trans (hk _ _ S.TIz S.TITO S.TIi1 S.TIi2 hTI)
    · exact (sb.2 _ S.TOz).trans TO'
    · obtain ⟨o1, a1, b1, c1⟩ := iterB_obj st1.1
      exact iterB_of ((sb.2 _ (Ne.symm S.zi1)).trans a1) b1 c1
    · obtain ⟨o1, a1, b1, c1⟩ := iterB_obj st2.1
      exact iterB_of ((sb.2 _ (Ne.symm S.zi2)).trans a1) b1 c1
    · rw [upd_ne (Nat.ne_of_lt (old c hcm))]
      exact (hf c hcm).1
  done := by
    intro X hP hw hK hc i pins s σ H E I hf st hg
    subst hP hw hK
    obtain ⟨hz, hTI, ⟨x0, y0, hTO⟩, h1, h2⟩ := st
    obtain ⟨xs, ys, hqx, hqy, le1, le2, hend⟩ := hg
    obtain ⟨its, rv, p, ux⟩ := sqB_at I hqx
    obtain ⟨its2, rv2, p2, uy⟩ := sqB_at I hqy
    have l1 := rv.length
    have l2 := rv2.length
    have hh : X.A.in1.handled = none := I.ok.hd hc
    have s1 : its.toArray.size = xs.length := by simp [l1]
    have s2 : its2.toArray.size = ys.length := by simp [l2]
    refine wpAny_pyNext_zipD2_end S (dl_draws ka hh i1 a na its.toArray) (dl_draws kb hh i2 b nb its2.toArray) hz hTI hTO ⟨h1, p⟩ ⟨h2, p2⟩ (by rw [s1]; exact le1) (by rw [s2]; exact le2) (by rw [s1, s2]; exact hend.imp Eq.symm Eq.symm) fun h' tk hk => ?_
    exact ⟨rfl, I.turnedL (t' := tk) (ch := [z, TI, TO, i1, i2]) (fun c o hb q => hk c o (fun q' => hb (by simp [q'])) (fun q' => hb (by simp [q'])) (fun q' => hb (by simp [q'])) (fun q' => hb (by simp [q'])) q) hf⟩
  self := fun A i s Q E st h => wpAny_pyIter_zip st.1 h
theorem nm2 {x y z : Nat} (h : z ≠ x) (k : z ≠ y) : z ∉ [x, y] := fun m => by
  rcases List.mem_cons.mp m with e | m
  · exact h e
  · exact k (List.mem_singleton.mp m)
theorem zsep (n a b : Nat) (la : a < n) (lb : b < n) : ZipSep2 (n + 4) (n + 2) (n + 3) n (n + 1) [n, a] [n + 1, b] where
  TIz := Nat.ne_of_lt (by omega)
  TOz := Nat.ne_of_lt (by omega)
  TITO := Nat.ne_of_lt (by omega)
  TIi1 := Nat.ne_of_gt (by omega)
  mem1 := List.mem_cons_self
  zf1 := nm2 (Nat.ne_of_gt (by omega)) (Nat.ne_of_gt (by omega))
  Tf1 := nm2 (Nat.ne_of_gt (by omega)) (Nat.ne_of_gt (by omega))
  TIi2 := Nat.ne_of_gt (by omega)
  mem2 := List.mem_cons_self
  zf2 := nm2 (Nat.ne_of_gt (by omega)) (Nat.ne_of_gt (by omega))
  Tf2 := nm2 (Nat.ne_of_gt (by omega)) (Nat.ne_of_gt (by omega))
  sep1_2 := nm2 (Nat.ne_of_lt (by omega)) (Nat.ne_of_gt (by omega))
  sep2_1 := nm2 (Nat.ne_of_gt (by omega)) (Nat.ne_of_gt (by omega))
def iZipM (K : Fg) (ta : TA) : TI := fun σ H R => ta σ H fun vs H1 => ∃ ka kb a b xs ys, vs = [.ref a, .ref b] ∧ SqB ka K H1 a xs ∧ SqB kb K H1 b ys ∧ R (ItzM K ka kb a b) H1
theorem pi_zipM {X : Cx} {e e2 : Expr} {ta : TA} {p pos tpos : Pos} {elts : List Expr} {kk : Nat} (hg : Gl X "zip") (hm : X.mg "zip" = none) (ha : PA X [e, e2] ta)
    (hs : starEach [e, e2] X.env = (false, eval e X.env) :: starEach [e2] X.env := by rfl) (hpl : (backTo pos (starEach [e2] X.env)).any (·.1) = false := by rfl) :
    PI X (.Tuple elts kk tpos) (.Call (.Name "zip" p) [e, e2] [] pos) (iZipM X.K ta) := by
  refine ⟨fun pins s σ H R I h => Call_ (ld_blt I hg hm PyProof.Rows.boot_zip (PyProof.Rows.callWith_type1 (thn (ha.run pos pins s σ H _ I h) fun us s1 ⟨vs, H1, I1, r1, ka, kb, a, b, xs, ys, ex, hqx, hqy, q⟩ => ?_) hs hpl))⟩
  subst ex
  obtain ⟨u, u2, rfl, ru, ru2⟩ := vals2 r1
  obtain rfl : u = .ref a := ru
  obtain rfl : u2 = .ref b := ru2
  have fresh5 : ∀ c, c ∈ [s1.heap.objs.size + 4, s1.heap.objs.size + 2, s1.heap.objs.size + 3, s1.heap.objs.size, s1.heap.objs.size + 1] → FpOk X pins H1 c := fun c hcm => by
    have e' : c = s1.heap.objs.size + 4 ∨ c = s1.heap.objs.size + 2 ∨ c = s1.heap.objs.size + 3 ∨ c = s1.heap.objs.size ∨ c = s1.heap.objs.size + 1 := by simpa using hcm
    have hle : s1.heap.objs.size ≤ c := by
      rcases e' with z | z | z | z | z <;> rw [z]
      · exact Nat.le_add_right _ _
      · exact Nat.le_add_right _ _
      · exact Nat.le_add_right _ _
      · exact Nat.le_refl _
      · exact Nat.le_add_right _ _
    exact I1.fpOk hle (I1.hok.fresh hle)
  obtain ⟨its, rv, p1, _⟩ := sqB_at I1 hqx
  obtain ⟨its2, rv2, p2, _⟩ := sqB_at I1 hqy
  obtain ⟨oa, ea⟩ := seqB_obj p1
  obtain ⟨ob, eb⟩ := seqB_obj p2
  have la : a < s1.heap.objs.size := Heap.lt_size ea
  have lb : b < s1.heap.objs.size := Heap.lt_size eb
  have S : ZipSep2 (s1.heap.objs.size + 4) (s1.heap.objs.size + 2) (s1.heap.objs.size + 3) s1.heap.objs.size (s1.heap.objs.size + 1) [s1.heap.objs.size, a] [s1.heap.objs.size + 1, b] := zsep _ a b la lb
  refine call_zipM p1 p2 fun h' hz hTI hTO h1 h2 hsz hk => wpAny_pyIter_zip hz ?_
  have I2 : Inv X pins σ H1 { s1 with heap := h' } := I1.kept (t' := s1.toks) hk
  exact ⟨s1.heap.objs.size + 4, [s1.heap.objs.size + 4, s1.heap.objs.size + 2, s1.heap.objs.size + 3, s1.heap.objs.size, s1.heap.objs.size + 1], _, _, H1, rfl, I2, turn_zipM S (Nat.ne_of_lt la) (Nat.ne_of_lt (Nat.lt_succ_of_lt lb)), ⟨hz, hTI, ⟨_, _, hTO⟩, h1, h2⟩, fresh5, q⟩
theorem ItOk.zipM {K : Fg} {H0 : Hp} {M0 : Mem} {ds es : List D} {ka kb : Bool} {a b : Addr} (hs : ∀ H M, Gw H0 M0 H M → ∃ xs, SqB ka K H a xs ∧ Rs K H M ds xs) (ht : ∀ H M, Gw H0 M0 H M → ∃ ys, SqB kb K H b ys ∧ Rs K H M es ys) : ItOk K (ItzM K ka kb a b) H0 M0 none (zpD ds es) := by
  refine ⟨fun i H M g mo hw hi => ?_, fun H M g mo hw => ?_⟩
  · rw [zpD_len] at hi
    have i1 : i < ds.length := by omega
    have i2 : i < es.length := by omega
    obtain ⟨xs, h1, h2⟩ := hs H M g
    obtain ⟨ys, k1, k2⟩ := ht H M g
    obtain ⟨v, e1, e2⟩ := Rs.get h2 (List.getElem?_eq_getElem i1)
    obtain ⟨u, f1, f2⟩ := Rs.get k2 (List.getElem?_eq_getElem i2)
    refine ⟨⟨xs, ys, v, u, h1, k1, e1, f1⟩, fun z H' ⟨T, x, y, eT, hT, eH, hx, hy⟩ => ?_⟩
    subst eT; subst eH
    have e3 := hx xs h1
    rw [e1] at e3; cases e3
    have f3 := hy ys k1
    rw [f1] at f3; cases f3
    exact ⟨.tup [ds[i], es[i]], by rw [zpD_get, List.getElem?_eq_getElem i1, List.getElem?_eq_getElem i2], gw_new hT, mok_new mo hT, new_tup mo hT (Rs.cons e2 (Rs.cons f2 Rs.nil))⟩
  · rw [zpD_len]
    obtain ⟨xs, h1, h2⟩ := hs H M g
    obtain ⟨ys, k1, k2⟩ := ht H M g
    exact ⟨xs, ys, h1, k1, by rw [vlen h2]; omega, by rw [vlen k2]; omega, by rw [vlen h2, vlen k2]; omega⟩
/-- the items of a list or tuple that is not changed -/
def sqdO : D → Option (List D)
  | .lst ds => some ds
  | .fzn ds => some ds
  | .tup ds => some ds
  | _ => none
theorem sqdO_use {K : Fg} {H : Hp} {M : Mem} {d : D} {v : V} {ds : List D} (r : Rv K H M d v) (e : sqdO d = some ds) : ∃ (k : Bool) (p : Addr), v = .ref p ∧ ∀ H' M', Gw H M H' M' → ∃ ys, SqB k K H' p ys ∧ Rs K H' M' ds ys := by
  cases d with
  | lst es => cases e; obtain ⟨p, xs, h, hp, hm, sp⟩ := r; exact ⟨false, p, h, fun H' M' g => ⟨xs, SqL.of (g.at hp hm).1, Rs.grow g _ xs sp⟩⟩
  | fzn es => cases e; obtain ⟨p, xs, h, hp, sp⟩ := r; exact ⟨false, p, h, fun H' M' g => ⟨xs, (g.rl hp).sq, Rs.grow g _ xs sp⟩⟩
  | tup es => cases e; obtain ⟨p, xs, h, hp, sp⟩ := r; exact ⟨true, p, h, fun H' M' g => ⟨xs, (g.rt hp).sq, Rs.grow g _ xs sp⟩⟩
  | _ => cases e
def zipMK (R : List D → Option Addr → Mem → Prop) : List D → Mem → Prop := fun l M => match l with
  | [d, e] => ∃ ds es, sqdO d = some ds ∧ sqdO e = some es ∧ R (zpD ds es) none M
  | _ => False
def iZipMD (te te2 : TED) : TID := fun Xd s M R => dCons te (dCons te2 dNil) Xd s M (zipMK R)
theorem di_zipM {X : Cx} {E : XK} {e e2 : Expr} {te te2 : TED} {p pos tpos : Pos} {elts : List Expr} {kk : Nat} (hg : Gl X "zip") (hm : X.mg "zip" = none) (he : DE X E e te) (he2 : DE X E e2 te2) (hs2 : starEach [e2] X.env = (false, eval e2 X.env) :: starEach [] X.env := by rfl)
    (hs : starEach [e, e2] X.env = (false, eval e X.env) :: starEach [e2] X.env := by rfl) (hpl : (backTo pos (starEach [e2] X.env)).any (·.1) = false := by rfl) : DI X E (.Tuple elts kk tpos) (.Call (.Name "zip" p) [e, e2] [] pos) (iZipMD te te2) := by
  refine ⟨_, pi_zipM hg hm (dn_cons he (dn_cons he2 dn_nil hs2) hs).ok hs hpl, fun {σ H s M Xd Qd R} S x t q => ?_⟩
  refine useN S x t fun ds vs M1 H1 hl g1 S1 x1 r1 t1 => ?_
  unfold zipMK at t1
  split at t1
  · rename_i d d2
    obtain ⟨ds, es, h1, h2, t1⟩ := t1
    obtain ⟨v, v2, hv, rd, rd2⟩ := rs2 r1
    obtain ⟨ka, a, rfl, fa⟩ := sqdO_use rd h1
    obtain ⟨kb, b, rfl, fb⟩ := sqdO_use rd2 h2
    obtain ⟨xs, hx, _⟩ := fa H1 M1 Gw.refl
    obtain ⟨ys, hy, _⟩ := fb H1 M1 Gw.refl
    exact ⟨ka, kb, a, b, xs, ys, hv, hx, hy, q _ _ _ _ _ g1 S1.mem (ItOk.zipM fa fb) t1⟩
  · exact t1.elim
end DL
set_option maxHeartbeats 4000000
namespace DL
open PySem PySem.Spec PyProof.Rows L2 DL
section
variable {X : Cx} {E : XK} {n k : Nat} {f x : Str} {p pos p' pos' tpos : Pos} {e o : Expr} {es : List Expr} {te to : TED} {ts : TAD}
/-- a class with a def __init__ -/
def dNewD (C : Addr) (sp : SpD) (dd : List D) (t : TAD) : TED := fun Xd s M Q => t Xd s M fun ds M1 => ∀ p, M1 p = none → sp (.ref p :: (ds ++ dd)) (M1.put p (.ins C [] [])) (fun d M2 => d = .non ∧ Q (.ref p) M2) Xd
end
end DL
set_option maxHeartbeats 4000000
/-! list(zip(a, b)): the tuples stay out -/
namespace PySem
open PySem.Spec PyProof.Rows
/-! ### list(it): the loop with a state of one's own -/
end PySem
set_option maxHeartbeats 4000000
namespace DL
open PySem PySem.Spec PyProof.Rows L2 RZ
/-! ### list(zip(a, b)) -/
end DL
set_option maxHeartbeats 4000000
namespace DL
open PySem PySem.Spec PyProof.Rows L2 RZ
def dLstZip (te te2 : TED) : TED := fun Xd s M Q => dCons te (dCons te2 dNil) Xd s M (zipMK fun l _ M1 => Q (.lst l) M1)
end DL
set_option maxHeartbeats 4000000
namespace DL
open PySem PySem.Spec PyProof.Rows L2 PySem.W
/-! ### sorted(xs): numbers, texts, tuples of these; reversed(xs) walked -/
section
variable {X : Cx} {pins : List (Addr × Obj)} {σ : L2.St} {H : Hp} {M : Mem} {s : Shared}
/-- the items of a list that is not changed, or of one that we own -/
def lsmO (M : Mem) : D → Option (List D)
  | .lst ds => some ds
  | .fzn ds => some ds
  | .ref a => match M a with
    | some (.lst ds) => some ds
    | _ => none
  | _ => none
theorem lsmO_use {d : D} {v : V} {ds : List D} (mo : MOk X.K H M) (r : Rv X.K H M d v) (e : lsmO M d = some ds) : ∃ p xs, v = .ref p ∧ SqL X.K H p xs ∧ Rs X.K H M ds xs := by
  cases d with
  | lst es => cases e; obtain ⟨p, xs, h, hp, hm, sp⟩ := r; exact ⟨p, xs, h, SqL.of hp, sp⟩
  | fzn es => cases e; obtain ⟨p, xs, h, hp, sp⟩ := r; exact ⟨p, xs, h, hp.sq, sp⟩
  | ref a =>
    have hv : v = .ref a := r
    subst hv
    have e : (match M a with | some (.lst ds) => some ds | _ => none) = some ds := e
    cases q : M a with
    | none => rw [q] at e; cases e
    | some o =>
      rw [q] at e
      cases o with
      | lst es =>
        cases e
        obtain ⟨xs, h1, h2⟩ := mo a _ q
        exact ⟨a, xs, rfl, SqL.of h1, h2⟩
      | dct ks es => cases e
      | ins C ns es => cases e
      | gen φ es => cases e
      | tab q => cases e
  | _ => cases e
/-! reversed(xs) walked -/
def revIK (R : List D → Option Addr → Mem → Prop) : QD := fun d M => ∃ ds, sqdO d = some ds ∧ R ds.reverse none M
def iRevSD (te : TED) : TID := fun Xd s M R => te Xd s M (revIK R)
theorem rev_at {ds : List D} {i : Nat} (h : i < ds.length) : ds.reverse[i]? = ds[ds.length - 1 - i]? := by
  rw [List.getElem?_reverse h]
theorem ItOk.revL {K : Fg} {H0 : Hp} {M0 : Mem} {ds : List D} {a : Addr} {n : Nat} (en : n = ds.length) (hs : ∀ H M, Gw H0 M0 H M → ∃ xs, SqL K H a xs ∧ Rs K H M ds xs) : ItOk K (Itv K a n) H0 M0 none ds.reverse := by
  subst en
  refine ⟨fun i H M g mo hw hi => ?_, fun H M g mo hw => ?_⟩
  · rw [List.length_reverse] at hi
    obtain ⟨xs, h1, h2⟩ := hs H M g
    have k : ds.length - 1 - i < ds.length := by omega
    obtain ⟨v, e1, e2⟩ := Rs.get h2 (List.getElem?_eq_getElem k)
    refine ⟨⟨hi, xs, v, h1, e1⟩, fun x H' ⟨eH, hx⟩ => ?_⟩
    subst eH
    have e3 := hx xs h1
    rw [e1] at e3; cases e3
    exact ⟨_, by rw [rev_at hi]; exact List.getElem?_eq_getElem k, Gw.refl, mo, e2⟩
  · rw [List.length_reverse]
    exact Nat.le_refl _
theorem ItOk.revT {K : Fg} {H0 : Hp} {M0 : Mem} {ds : List D} {a : Addr} {n : Nat} (en : n = ds.length) (hs : ∀ H M, Gw H0 M0 H M → ∃ xs, SqT K H a xs ∧ Rs K H M ds xs) : ItOk K (_root_.RT.ItvT K a n) H0 M0 none ds.reverse := by
  subst en
  refine ⟨fun i H M g mo hw hi => ?_, fun H M g mo hw => ?_⟩
  · rw [List.length_reverse] at hi
    obtain ⟨xs, h1, h2⟩ := hs H M g
    have k : ds.length - 1 - i < ds.length := by omega
    obtain ⟨v, e1, e2⟩ := Rs.get h2 (List.getElem?_eq_getElem k)
    refine ⟨⟨hi, xs, v, h1, e1⟩, fun x H' ⟨eH, hx⟩ => ?_⟩
    subst eH
    have e3 := hx xs h1
    rw [e1] at e3; cases e3
    exact ⟨_, by rw [rev_at hi]; exact List.getElem?_eq_getElem k, Gw.refl, mo, e2⟩
  · rw [List.length_reverse]
    exact Nat.le_refl _
end
theorem di_revS {X : Cx} {E : XK} {tg e : Expr} {te : TED} {p pos : Pos} (hg : Gl X "reversed") (hm : X.mg "reversed" = none) (he : DE X E e te) (hs : starEach [e] X.env = (false, eval e X.env) :: starEach [] X.env := by rfl) : DI X E tg (.Call (.Name "reversed" p) [e] [] pos) (iRevSD te) := by
  refine ⟨_, _root_.RT.pi_revA hg hm he.ok hs, fun {σ H s M Xd Qd R} S x t q => ?_⟩
  refine useE S x t fun d v M1 H1 g1 S1 x1 r1 t1 => ?_
  obtain ⟨ds, h1, t1⟩ := t1
  obtain ⟨k, a, rfl, fa⟩ := sqdO_use r1 h1
  obtain ⟨ys, hy, ry⟩ := fa H1 M1 Gw.refl
  cases k with
  | false => exact ⟨a, ys, rfl, .inl ⟨hy, q _ _ _ _ _ g1 S1.mem (ItOk.revL (vlen ry) fa) t1⟩⟩
  | true => exact ⟨a, ys, rfl, .inr ⟨hy, q _ _ _ _ _ g1 S1.mem (ItOk.revT (vlen ry) fa) t1⟩⟩
/-! range(a, b) as a value -/
def rg2K (x : D) (Q : Int → Int → Mem → Prop) : QD := fun y M => match x, y with
  | .int i, .int j => Q i j M
  | _, _ => False
def rg2 (ta tb : TED) : XD → SD → Mem → (Int → Int → Mem → Prop) → Prop := fun Xd s M Q => ta Xd s M fun x M1 => tb Xd s M1 (rg2K x Q)
end DL
set_option maxHeartbeats 2000000
namespace DL
open PySem PySem.Spec PyProof.Rows L2
/-! ### sorted(xs, reverse=True), whole numbers -/
end DL
set_option maxHeartbeats 2000000
namespace DL
open PySem PySem.Spec PyProof.Rows L2 LamX NdefX
/-! ### what gen3 names -/
end DL
set_option maxHeartbeats 2000000
namespace DL
open PySem PySem.Spec PyProof.Rows L2
/-! ### range(i, j, c) walked -/
end DL
set_option maxHeartbeats 2000000
namespace DL
open PySem PySem.Spec PyProof.Rows L2
/-! ### methods of texts -/
def dM0 (g : Str → D) (te : TED) : TED := fun Xd s M Q => te Xd s M fun d M1 => ∃ a, d = .str a ∧ Q (g a) M1
section
variable {X : Cx} {E : XK} {o e : Expr} {to te : TED} {apos pos : Pos}
theorem de_isdigit (ho : DE X E o to) (hbase : attributeBase o "isdigit" X.env (eval o X.env) = eval o X.env := by rfl) (hline : (apos.endLine == pos.line) = true := by rfl) : DE X E (.Call (.Attribute o "isdigit" apos) [] [] pos) (dM0 (fun a => .bl (Txt.isdigit a)) to) :=
  ⟨PE.imp (pe_m0 F.slot_str_isdigit F.type_str_isdigit mt_isdigit ho.ok hbase hline) fun σ H Q ⟨s, M, Qd, Xd, S, x, t, q⟩ => useE S x t fun d v M1 H1 g1 S1 x1 r1 ⟨a, ed, t1⟩ => by
    subst ed
    obtain rfl : v = .str a := r1
    exact ⟨⟨a, rfl⟩, a, rfl, rfl, trivial, q _ _ ⟨.bl (Txt.isdigit a), M1, g1, S1.mem, rfl, t1⟩⟩⟩
theorem de_isascii (ho : DE X E o to) (hbase : attributeBase o "isascii" X.env (eval o X.env) = eval o X.env := by rfl) (hline : (apos.endLine == pos.line) = true := by rfl) : DE X E (.Call (.Attribute o "isascii" apos) [] [] pos) (dM0 (fun a => .bl (Txt.isascii a)) to) :=
  ⟨PE.imp (pe_m0 F.slot_str_isascii F.type_str_isascii mt_isascii ho.ok hbase hline) fun σ H Q ⟨s, M, Qd, Xd, S, x, t, q⟩ => useE S x t fun d v M1 H1 g1 S1 x1 r1 ⟨a, ed, t1⟩ => by
    subst ed
    obtain rfl : v = .str a := r1
    exact ⟨⟨a, rfl⟩, a, rfl, rfl, trivial, q _ _ ⟨.bl (Txt.isascii a), M1, g1, S1.mem, rfl, t1⟩⟩⟩
/-- x.split(y) -/
def dSplit (to te : TED) : TED := fun Xd s M Q => to Xd s M fun d M1 => ∃ a, d = .str a ∧ te Xd s M1 fun f M2 => ∃ b, f = .str b ∧ (b.length == 0) = false ∧ a.length + 2 ≤ sizeLine ∧ Q (.lst ((Txt.split a b).map D.str)) M2
theorem rs_strs {K : Fg} {H : Hp} {M : Mem} : ∀ ys : List Str, Rs K H M (ys.map D.str) (ys.map V.str)
  | [] => rfl
  | _ :: ys => Rs.cons rfl (rs_strs ys)
theorem de_split (ho : DE X E o to) (he : DE X E e te) (hs : starEach [e] X.env = [(false, eval e X.env)] := by rfl) (hbase : attributeBase o "split" X.env (eval o X.env) = eval o X.env := by rfl) (hline : (apos.endLine == pos.line) = true := by rfl) :
    DE X E (.Call (.Attribute o "split" apos) [e] [] pos) (dSplit to te) :=
  ⟨PE.imp (pe_split ho.ok he.ok hs hbase hline) fun σ H Q ⟨s, M, Qd, Xd, S, x, t, q⟩ => useE S x t fun d v M1 H1 g1 S1 x1 r1 ⟨a, ed, t1⟩ => by
    subst ed
    obtain rfl : v = .str a := r1
    refine ⟨⟨a, rfl⟩, useE S1 x1 t1 fun f w M2 H2 g2 S2 x2 r2 ⟨b, ef, h1, h2, t2⟩ => ?_⟩
    subst ef
    obtain rfl : w = .str b := r2
    refine ⟨a, b, rfl, rfl, h1, h2, fun p hp => ?_⟩
    exact q _ _ ⟨_, M2, (g1.trans g2).trans (gw_new hp), mok_new S2.mem hp, new_lst S2.mem hp (rs_strs _), t2⟩⟩
/-- x.join(a list or a tuple of texts) -/
def strsO (M : Mem) : D → Option (List D)
  | .tup ds => some ds
  | d => lsmO M d
def dJoin (to te : TED) : TED := fun Xd s M Q => to Xd s M fun d M1 => ∃ a, d = .str a ∧ te Xd s M1 fun f M2 => ∃ ys : List Str, strsO M2 f = some (ys.map D.str) ∧ (ys.map (·.length)).sum + ys.length * a.length ≤ 16777216 ∧ Q (.str (Txt.join a ys)) M2
theorem strs_rs {K : Fg} {H : Hp} {M : Mem} : ∀ {ys : List Str} {xs : List V}, Rs K H M (ys.map D.str) xs → xs = ys.map V.str
  | [], xs, r => r
  | y :: ys, xs, r => by
    obtain ⟨v, r', e, h1, h2⟩ := r
    have ev : v = .str y := h1
    rw [e, ev, strs_rs h2]; rfl
theorem de_join (ho : DE X E o to) (he : DE X E e te) (hs : starEach [e] X.env = [(false, eval e X.env)] := by rfl) (hbase : attributeBase o "join" X.env (eval o X.env) = eval o X.env := by rfl) (hline : (apos.endLine == pos.line) = true := by rfl) :
    DE X E (.Call (.Attribute o "join" apos) [e] [] pos) (dJoin to te) :=
  ⟨PE.imp (pe_join ho.ok he.ok hs hbase hline) fun σ H Q ⟨s, M, Qd, Xd, S, x, t, q⟩ => useE S x t fun d v M1 H1 g1 S1 x1 r1 ⟨a, ed, t1⟩ => by
    subst ed
    obtain rfl : v = .str a := r1
    refine ⟨⟨a, rfl⟩, useE S1 x1 t1 fun f w M2 H2 g2 S2 x2 r2 ⟨ys, h1, h2, t2⟩ => ?_⟩
    have fin : ∀ v H', v = V.str (Txt.join a ys) → H' = H2 → Q v H' := fun v H' e1 e2 => by
      subst e1 e2
      exact q _ _ ⟨.str (Txt.join a ys), M2, g1.trans g2, S2.mem, rfl, t2⟩
    have viaL : ∀ {f : D}, Rv X.K H2 M2 f w → lsmO M2 f = some (ys.map D.str) → ∃ p, w = .ref p ∧ SqL X.K H2 p (ys.map V.str) := fun {f} r2 h1 => by
      obtain ⟨p, xs, e, hp, rs⟩ := lsmO_use S2.mem r2 h1
      rw [strs_rs rs] at hp
      exact ⟨p, e, hp⟩
    cases f with
    | tup ds =>
      have h1 : some ds = some (ys.map D.str) := h1
      cases h1
      obtain ⟨p, xs, e, hp, rs⟩ := r2
      rw [strs_rs rs] at hp
      exact ⟨a, p, ys, rfl, by rw [e], .inr hp.sq, h2, fin _ _ rfl rfl⟩
    | lst ds => obtain ⟨p, e, hp⟩ := viaL (f := .lst ds) r2 h1; exact ⟨a, p, ys, rfl, by rw [e], .inl hp, h2, fin _ _ rfl rfl⟩
    | fzn ds => obtain ⟨p, e, hp⟩ := viaL (f := .fzn ds) r2 h1; exact ⟨a, p, ys, rfl, by rw [e], .inl hp, h2, fin _ _ rfl rfl⟩
    | ref b => obtain ⟨p, e, hp⟩ := viaL (f := .ref b) r2 h1; exact ⟨a, p, ys, rfl, by rw [e], .inl hp, h2, fin _ _ rfl rfl⟩
    | _ => cases h1⟩
end
end DL
set_option maxHeartbeats 2000000
namespace DL
open PySem PySem.Spec PyProof.Rows L2
section
variable {X : Cx} {E : XK}
/-! ### int(a text), str(an int), all(a list of truths) -/
def intSC : OC := fun ds M Q => match ds with
  | [.str a] => ∃ n, PySem.intText? a = some n ∧ a.length ≤ 640 ∧ Q (.int n) M
  | _ => False
theorem dc_intS : DC X (.type "int") intSC := by
  intro pins s σ H M xs ds us Q Qd I mo r rv t q
  unfold intSC at t
  split at t
  · rename_i a
    obtain ⟨n, h1, h2, t⟩ := t
    obtain ⟨v, rfl, rd⟩ := rs1 r
    have ev : v = .str a := rd
    subst ev
    exact call_int_str pins s σ H _ us Q I rv ⟨a, n, rfl, h1, h2, q _ _ (up_same mo t rfl)⟩
  · exact t.elim
def strIC : OC := fun ds M Q => match ds with
  | [.int i] => i.natAbs.log2 < 1920 ∧ Q (.str (toString i)) M
  | _ => False
theorem dc_strI : DC X (.type "str") strIC := by
  intro pins s σ H M xs ds us Q Qd I mo r rv t q
  unfold strIC at t
  split at t
  · rename_i i
    obtain ⟨h1, t⟩ := t
    obtain ⟨v, rfl, rd⟩ := rs1 r
    have ev : v = .int i := rd
    subst ev
    exact call_str_int pins s σ H _ us Q I rv ⟨i, rfl, h1, q _ _ (up_same mo t rfl)⟩
  · exact t.elim
def allC : OC := fun ds M Q => match ds with
  | [d] => ∃ bs : List Bool, lsmO M d = some (bs.map D.bl) ∧ Q (.bl (bs.all id)) M
  | _ => False
theorem bls_rs {K : Fg} {H : Hp} {M : Mem} : ∀ {bs : List Bool} {xs : List V}, Rs K H M (bs.map D.bl) xs → xs = bs.map V.bl
  | [], xs, r => r
  | y :: ys, xs, r => by
    obtain ⟨v, r', e, h1, h2⟩ := r
    have ev : v = .bl y := h1
    rw [e, ev, bls_rs h2]; rfl
theorem dc_all (hc : X.calm = true) : DC X (.builtin "all") allC := by
  intro pins s σ H M xs ds us Q Qd I mo r rv t q
  unfold allC at t
  split at t
  · rename_i d
    obtain ⟨bs, h1, t⟩ := t
    obtain ⟨v, rfl, rd⟩ := rs1 r
    obtain ⟨p, ys, rfl, hp, rs⟩ := lsmO_use mo rd h1
    rw [bls_rs rs] at hp
    exact cr_all hc pins s σ H _ us Q I rv ⟨p, bs, rfl, hp, q _ _ (up_same mo t rfl)⟩
  · exact t.elim
/-! ### f-strings -/
def dFmt (te : TED) : TED := fun Xd s M Q => te Xd s M fun d M1 => (∃ y : Str, d = .str y ∧ y.length ≤ sizeLine ∧ Q (.str y) M1) ∨ ∃ i : Int, d = .int i ∧ i.natAbs.log2 < 1920 ∧ Q (.str (toString i)) M1
theorem de_fmt {e : Expr} {te : TED} {pos : Pos} (he : DE X E e te) : DE X E (.FormattedValue e (-1) none pos) (dFmt te) :=
  ⟨PE.imp (pe_fmt he.ok) fun σ H Q ⟨s, M, Qd, Xd, S, x, t, q⟩ => useE S x t fun d v M1 H1 g1 S1 x1 r1 t1 => by
    rcases t1 with ⟨y, ed, h1, t1⟩ | ⟨i, ed, h1, t1⟩
    · subst ed
      have ev : v = .str y := r1
      exact .inl ⟨y, ev, h1, q _ _ ⟨.str y, M1, g1, S1.mem, rfl, t1⟩⟩
    · subst ed
      have ev : v = .int i := r1
      exact .inr ⟨i, ev, h1, q _ _ ⟨.str (toString i), M1, g1, S1.mem, rfl, t1⟩⟩⟩
inductive DJ (X : Cx) (E : XK) : List Expr → List TED → Prop where
  | nil : DJ X E [] []
  | cons {e : Expr} {t : TED} {es : List Expr} {ts : List TED} (h : DE X E e t) (r : DJ X E es ts) : DJ X E (e :: es) (t :: ts)
theorem DJ.pj {es : List Expr} {ts : List TED} (h : DJ X E es ts) : PJ X es (ts.map fun t => liftE X.K E t) := by
  induction h with
  | nil => exact .nil
  | cons h _ ih => exact .cons h.ok ih
def dJs : List TED → Str → TED
  | [], acc => fun _ _ M Q => Q (.str acc) M
  | t :: ts, acc => fun Xd s M Q => t Xd s M fun d M1 => ∃ y : Str, d = .str y ∧ (acc ++ y).length ≤ sizeLine ∧ dJs ts (acc ++ y) Xd s M1 Q
theorem js_of {σ : L2.St} {s : SD} {Xd : XD} {Qd : QD} {Q : VK} : ∀ (ts : List TED) (acc : Str) (H : Hp) (M : Mem), StOk X.K σ H s M → XTo X.K H M Xd E → dJs ts acc Xd s M Qd → (∀ v H', upE X.K H M Qd v H' → Q v H') →
    tJs (ts.map fun t => liftE X.K E t) acc σ H (fun out H1 => Q (.str out) H1)
  | [], acc, H, M, S, x, t, q => q _ _ ⟨.str acc, M, Gw.refl, S.mem, rfl, t⟩
  | t :: ts, acc, H, M, S, x, h, q => by
    refine useE S x h fun d v M1 H1 g1 S1 x1 r1 ⟨y, ed, h1, h2⟩ => ?_
    subst ed
    exact ⟨y, r1, h1, js_of ts (acc ++ y) H1 M1 S1 x1 h2 (fwd g1 q)⟩
theorem de_joined {v1 v2 : Expr} {rest : List Expr} {ts : List TED} {pos : Pos} (h : DJ X E (v1 :: v2 :: rest) ts) : DE X E (.JoinedStr (v1 :: v2 :: rest) pos) (dJs ts Str.empty) :=
  ⟨PE.imp (pe_joined h.pj) fun σ H Q ⟨s, M, Qd, Xd, S, x, t, q⟩ => js_of ts Str.empty H M S x t q⟩
theorem set_sameD {d : Option D} : ∀ {s : SD} {j : Nat}, s[j]? = some d → s.set j d = s
  | [], j, e => by simp at e
  | x :: s, 0, e => by simp at e; rw [e]; rfl
  | x :: s, j + 1, e => by rw [List.set_cons_succ, set_sameD (s := s) (by simpa using e)]
/-! ### xs += a new list -/
def sExtN (i : Nat) (te : TED) : TSD := fun Y s M => ∃ p, s[i]? = some (some (.ref p)) ∧ te Y.ex s M fun d M1 => ∃ ds es, M1 p = some (.lst ds) ∧ d = .lst es ∧ ds.length + es.length ≤ sizeLine ∧ Y.nx s (M1.put p (.lst (ds ++ es)))
theorem ds_extN {i : Nat} {x : Str} {e : Expr} {te : TED} {pos pos' : Pos} (hN : X.N.Nodup) (hi : X.N[i]? = some x) (hx : Loc X.env.scope x) (he : DE X E e te) (hf : X.fn x = true ∨ X.env.scope.names.lookup x = some .local := by first | exact .inl rfl | exact .inr rfl | assumption) :
    DS X E (.AugAssign (.Name x pos') .Add e pos) (sExtN i te) :=
  ⟨PS.imp (ps_aug hN hi hx he.ok iop_ext hf) fun Z σ H ⟨s, M, Y, S, x, ⟨p, hs, t⟩, h⟩ => by
    obtain ⟨v, e1, e2⟩ := S.sl i _ hs
    have ev : v = .ref p := e2
    subst ev
    refine ⟨.ref p, e1, useE S x t fun d v M1 H1 g1 S1 x1 r1 ⟨ds, es, h1, ed, hl, t1⟩ => ?_⟩
    subst ed
    obtain ⟨b, ys, eb, hb, mb, rb⟩ := r1
    subst eb
    obtain ⟨xs, hp, rp⟩ := S1.mem p _ h1
    have lx : ds.length = xs.length := Rs.len rp
    have ly : es.length = ys.length := Rs.len rb
    refine ⟨p, b, xs, ys, rfl, rfl, hp, hb, by omega, ?_⟩
    have m2 := mok_put S1.mem h1 (o := .lst (xs ++ ys)) (mo' := .lst (ds ++ es)) ⟨xs ++ ys, upd_same, Rs.grow (gw_put h1) _ _ (Rs.append rp rb)⟩
    have S2 := (S1.grow (gw_put h1) m2).set i (d := .ref p) (v := .ref p) rfl
    have es' : s.set i (some (.ref p)) = s := set_sameD hs
    rw [es'] at S2
    exact h.1 _ _ ⟨s, _, g1.trans (gw_put h1), S2, t1⟩⟩
end
end DL
set_option maxHeartbeats 2000000
namespace PySem
open PySem.Spec PyProof.Rows L2 PySem.W PySem.Calls
theorem dl_walkK {prog : Program} {w : World} {A : Around} (k0 : Nat) (hh : A.handled = none) (it l : Addr) (hne : l ≠ it) (items : Array Value) (n : Nat) (hn : n + k0 = items.size) :
    WalksS prog w A it [it, l] [it] (fun a b => b = a) n (fun i v => items[i + k0]? = some v) (fun i s => s.heap.IsListIter it l (i + k0) ∧ s.heap.IsList l items) where
  sub := by simp
  grefl := fun _ => rfl
  gtrans := fun a b c h1 h2 => h2.trans h1
  frame := fun i s h' tk st _ k => ⟨st.1.at fun o e => k it (by simp) o e, st.2.at fun o e => k l (by simp) o e⟩
  item := fun i s Q E hi st hQ => wpAny_pyNext_list_item st.1 st.2 (x := items[i + k0]) (by first | (simp; done) | (simp; omega)) fun h' hit' hs' =>
    hQ _ _ (by first | (simp; done) | (simp; omega)) ⟨by rw [show i + 1 + k0 = i + k0 + 1 from by omega]; exact hit', st.2.extBut hs'.extBut hne⟩ ⟨fun b o hb e => hs'.extBut b o (by simpa using hb) e, rfl, rfl, rfl, Nat.le_refl _⟩
  done := fun s Q E st hQ => wpAny_pyNext_list_end hh st.1 st.2 (by first | (simp; done) | (simp; omega)) fun h' hx => hQ _ ⟨fun b o hb e => hx b o (by simpa using hb) e, rfl, rfl, rfl, Nat.le_refl _⟩
  self := fun i s Q E st h => wpAny_pyIter_listiter st.1 h
theorem dl_unpack4 {prog : Program} {w : World} {A : Around} {E : Value → Shared → Prop} {s : Shared} {l : Addr} {x1 x2 x3 x4 : Value} {r : List Value} {Q : List Value → Shared → Prop} (hh : A.handled = none) (hl : s.heap.IsList l (x1 :: x2 :: x3 :: x4 :: r).toArray) (hz : r.length ≤ sizeLine)
    (hQ : ∀ (h' : Heap) (tk : Nat), (∀ b o, s.heap.get? b = some o → h'.get? b = some o) → Q [x1, x2, x3, x4, .ref h'.objs.size] { s with heap := h'.push { cls := .type "list", data := .seq r.toArray }, toks := tk }) :
    wpAny (model prog w) A (unpackItems (.ref l) 5 (some 4)) Q E s := by
  have hne : l ≠ s.heap.objs.size := by obtain ⟨o, ho, _⟩ := hl; exact Nat.ne_of_lt (Heap.lt_size ho)
  unfold unpackItems
  refine wpAny_bind ?_
  unfold notIterableAtAll
  refine wpAny_bind (wpAny_specialOf hl.typeIs slot_list_iter.lookup (wpAny_pure ?_))
  simp only [Bool.false_eq_true, if_false]
  refine wpAny_bind (wpAny_holding (wpAny_pyIter_list hl ?_))
  have hl0 : (s.heap.push { cls := .type "list_iterator", data := .fields #[.ref l, .int 0 0] }).IsList l (x1 :: x2 :: x3 :: x4 :: r).toArray := by
    obtain ⟨o, ho, q⟩ := hl
    exact ⟨o, Heap.get?_push_of_some _ ho, q⟩
  refine wpAny_bind (wpAny_holding ?_)
  show wpAny _ _ (pyNext (.ref s.heap.objs.size) >>= _) _ _ _
  refine wpAny_bind (wpAny_pyNext_list_item (it := s.heap.objs.size) (l := l) (i := 0) (x := x1) ⟨_, Heap.get?_push_size _ rfl, rfl, rfl⟩ hl0 (by simp) fun h1 hit1 hs1 => ?_)
  have hl1 : h1.IsList l (x1 :: x2 :: x3 :: x4 :: r).toArray := hl0.extBut hs1.extBut hne
  refine wpAny_bind (wpAny_holding ?_)
  show wpAny _ _ (pyNext (.ref s.heap.objs.size) >>= _) _ _ _
  refine wpAny_bind (wpAny_pyNext_list_item (it := s.heap.objs.size) (l := l) (i := 1) (x := x2) hit1 hl1 (by simp) fun h2 hit2 hs2 => ?_)
  have hl2 : h2.IsList l (x1 :: x2 :: x3 :: x4 :: r).toArray := hl1.extBut hs2.extBut hne
  refine wpAny_bind (wpAny_holding ?_)
  show wpAny _ _ (pyNext (.ref s.heap.objs.size) >>= _) _ _ _
  refine wpAny_bind (wpAny_pyNext_list_item (it := s.heap.objs.size) (l := l) (i := 2) (x := x3) hit2 hl2 (by simp) fun h3 hit3 hs3 => ?_)
  have hl3 : h3.IsList l (x1 :: x2 :: x3 :: x4 :: r).toArray := hl2.extBut hs3.extBut hne
  refine wpAny_bind (wpAny_holding ?_)
  show wpAny _ _ (pyNext (.ref s.heap.objs.size) >>= _) _ _ _
  refine wpAny_bind (wpAny_pyNext_list_item (it := s.heap.objs.size) (l := l) (i := 3) (x := x4) hit3 hl3 (by simp) fun h4 hit4 hs4 => ?_)
  have hl4 : h4.IsList l (x1 :: x2 :: x3 :: x4 :: r).toArray := hl3.extBut hs4.extBut hne
  refine wpAny_bind (wpAny_holding ?_)
  show wpAny _ _ (pure []) _ _ _
  refine wpAny_pure (wpAny_pure (wpAny_pure (wpAny_pure (wpAny_pure ?_))))
  rw [if_neg (by simp)]
  have keep4 : ∀ b o, b ≠ s.heap.objs.size → s.heap.get? b = some o → h4.get? b = some o := fun b o nb e =>
    hs4.extBut b o nb (hs3.extBut b o nb (hs2.extBut b o nb (hs1.extBut b o nb (Heap.get?_push_of_some _ e))))
  refine wpAny_bind (wpAny_holding (wpAny_collect_iter (T := "list_iterator") (.inr (.inr (.inl rfl))) (dl_walkK (A := A.in1) 4 (show A.in1.handled = none from hh) s.heap.objs.size l hne (x1 :: x2 :: x3 :: x4 :: r).toArray r.length (by simp)) (fun i s st => st.1.typeIs) ⟨hit4, hl4⟩ (fun b hb => ?_) (by simp) (fun s' acc mv io => ?_) hz))
  · rcases (by simpa using hb : b = s.heap.objs.size ∨ b = l) with z | z
    · rw [z]; obtain ⟨_, q, _⟩ := hit4; exact Heap.lt_size q
    · rw [z]; obtain ⟨_, q, _⟩ := hl4; exact Heap.lt_size q
  · have ea : acc.toList = r := by
      apply List.ext_getElem?
      intro j
      by_cases hj : j < acc.size
      · have z := io.2 j acc[j] (by simp [hj])
        rw [show acc.toList[j]? = some acc[j] by simp [hj]]
        simpa using z.symm
      · rw [List.getElem?_eq_none (by simpa using hj), List.getElem?_eq_none (by rw [← io.1]; simpa using hj)]
    rw [ea, if_neg (by simp)]
    have e1 : List.take (r.length - (5 - 4 - 1)) r = r := List.take_of_length_le (by omega)
    have e2 : List.drop (r.length - (5 - 4 - 1)) r = [] := List.drop_of_length_le (by omega)
    rw [e1, e2]
    refine wpAny_bind (wpAny_newList (wpAny_pure ?_) hz)
    obtain ⟨h2, g2, d2, t2, o2⟩ := s'
    have eg : g2 = s.gens := mv.gens
    have ed : d2 = s.drawn := mv.drawn
    have eo : o2 = s.os := mv.os
    subst eg ed eo
    exact hQ _ _ fun b o e => mv.heap b o (by simpa using Nat.ne_of_lt (Heap.lt_size e)) (keep4 b o (Nat.ne_of_lt (Heap.lt_size e)) e)
end PySem
set_option maxHeartbeats 2000000
namespace DL
open PySem PySem.Spec PyProof.Rows L2
/-! ### a, b, c, d, *rest = a list -/
def gSt4 (K : Fg) (g : TGs) : TG := fun v σ H Q => ∃ a x1 x2 x3 x4 xs, v = .ref a ∧ SqL K H a (x1 :: x2 :: x3 :: x4 :: xs) ∧ ∀ p, H p = none → g [x1, x2, x3, x4, .ref p] σ (upd H p (.lst xs)) Q
theorem pg_st4 {X : Cx} {es : List Expr} {k : Nat} {pos : Pos} {g : TGs} (hc : X.calm = true) (h : PGs X es g) (hn : (assignEach es X.env).length = 5 := by rfl) (hst : (assignEach es X.env).findIdx? (·.1) = some 4 := by rfl) : PG X (.Tuple es k pos) (gSt4 X.K g) := by
  refine ⟨fun pins s σ H v u Q I r hw => ?_⟩
  obtain ⟨a, x1, x2, x3, x4, xs, e1, hq, hw⟩ := hw
  subst e1
  cases r
  obtain ⟨its, rv, pl, hz⟩ := I.list hq
  rw [PyProof.Rows.assign_Tuple]
  refine wpAny_bind (wpAny_standAt ?_)
  unfold unpack
  rw [hn, hst]
  cases rv with
  | @cons _ u1 _ ur r1 rr =>
  cases rr with
  | @cons _ u2 _ ur r2 rr =>
  cases rr with
  | @cons _ u3 _ ur r3 rr =>
  cases rr with
  | @cons _ u4 _ ur r4 rr =>
    have lr : ur.length ≤ sizeLine := by rw [← rr.length]; simp at hz; omega
    refine wpAny_bind (wpAny_holding (dl_unpack4 (I.ok.hd hc) pl.isList lr fun h' tk hk => ?_))
    have I1 : Inv X pins σ H { s with heap := h', toks := tk } := I.kept (t' := tk) hk
    have hf : H h'.objs.size = none := I1.hok.fresh (Nat.le_refl _)
    have I2 : Inv X pins σ (upd H h'.objs.size (.lst xs)) { s with heap := h'.push { cls := .type "list", data := .seq ur.toArray }, toks := tk } :=
      I1.laid (t' := tk) (a := h'.objs.size) (o := .lst xs) (h' := h'.push { cls := .type "list", data := .seq ur.toArray }) (fun b u e => Heap.get?_push_of_some _ e) (Nat.le_refl _) ⟨by simp at hz; omega, ur, 0, rr, Heap.get?_push_size _ rfl⟩
    exact h.run pins _ σ _ [x1, x2, x3, x4, .ref h'.objs.size] [u1, u2, u3, u4, .ref h'.objs.size] Q I2 (.cons r1 (.cons r2 (.cons r3 (.cons r4 (.cons rfl .nil))))) (hw _ hf)
def gSt4D (t : TGsD) : TGD := fun d Xd s M Q => ∃ x1 x2 x3 x4 r, lsdO d = some (x1 :: x2 :: x3 :: x4 :: r) ∧ t [x1, x2, x3, x4, .lst r] Xd s M Q
theorem dg_st4 {X : Cx} {E : XK} {es : List Expr} {k : Nat} {pos : Pos} {t : TGsD} (hc : X.calm = true) (h : DGs X E es 5 t) (hn : (assignEach es X.env).length = 5 := by rfl) (hst : (assignEach es X.env).findIdx? (·.1) = some 4 := by rfl) : DG X E (.Tuple es k pos) (gSt4D t) := by
  obtain ⟨g1, p1, q1⟩ := h.ok
  refine ⟨gSt4 X.K g1, pg_st4 hc p1 hn hst, fun {v d σ H s M Xd Qd Q} S x r ⟨y1, y2, y3, y4, rs, hd, t⟩ q => ?_⟩
  obtain ⟨a, rfl, ka⟩ := lsdO_use r hd
  obtain ⟨xs, hq, rx⟩ := ka H M Gw.refl
  obtain ⟨v1, vr, rfl, r1, rx⟩ := rx
  obtain ⟨v2, vr, rfl, r2, rx⟩ := rx
  obtain ⟨v3, vr, rfl, r3, rx⟩ := rx
  obtain ⟨v4, vr, rfl, r4, rr⟩ := rx
  refine ⟨a, v1, v2, v3, v4, vr, rfl, hq, fun p hp => ?_⟩
  have g := gw_new (o := .lst vr) (M := M) hp
  exact q1 (S.grow g (mok_new S.mem hp)) (x.grow g) (Rs.cons (Rv.grow g _ _ r1) (Rs.cons (Rv.grow g _ _ r2) (Rs.cons (Rv.grow g _ _ r3) (Rs.cons (Rv.grow g _ _ r4) (Rs.cons (new_lst S.mem hp rr) Rs.nil))))) t (fwdS g q)
/-! ### dicts: pop with a default, setdefault -/
theorem zip_valN {K : Fg} {H : Hp} {M : Mem} (k : Key) : ∀ {ks : List Key} {ds : List D} {xs : List V}, Rs K H M ds xs → ks.length = ds.length → valD ks ds k = none → valV (ks.zip xs) k = none
  | [], ds, xs, r, _, e => rfl
  | j :: ks, [], xs, r, hl, e => by simp at hl
  | j :: ks, d :: ds, xs, r, hl, e => by
    obtain ⟨v, r', ex, h1, h2⟩ := r
    subst ex
    by_cases z : j = k
    · simp [valD, z] at e
    · rw [List.zip_cons_cons, valV_neg z]
      refine zip_valN k h2 (by simpa using hl) ?_
      simpa [valD, z] using e
def dropD : List Key → List D → Key → List Key × List D
  | j :: ks, d :: ds, k => if j = k then dropD ks ds k else (j :: (dropD ks ds k).1, d :: (dropD ks ds k).2)
  | _, _, _ => ([], [])
theorem drop_rs {K : Fg} {H : Hp} {M : Mem} {k : Key} : ∀ {ks : List Key} {ds : List D} {xs : List V}, ks.length = ds.length → Rs K H M ds xs →
    ∃ ys, Rs K H M (dropD ks ds k).2 ys ∧ dropK (ks.zip xs) k = (dropD ks ds k).1.zip ys ∧ (dropD ks ds k).1.length = (dropD ks ds k).2.length
  | [], [], xs, _, r => by
    have e : xs = [] := r
    subst e
    exact ⟨[], Rs.nil, rfl, rfl⟩
  | [], _ :: _, _, hl, _ => by simp at hl
  | _ :: _, [], _, hl, _ => by simp at hl
  | j :: ks, d :: ds, xs, hl, r => by
    obtain ⟨v, r', ex, h1, h2⟩ := r
    subst ex
    obtain ⟨ys, k1, k2, k3⟩ := drop_rs (k := k) (by simpa using hl) h2
    by_cases z : j = k
    · refine ⟨ys, ?_, ?_, ?_⟩
      · rw [dropD, if_pos z]; exact k1
      · rw [dropD, if_pos z, List.zip_cons_cons]
        unfold dropK at k2 ⊢
        rw [List.filter_cons_of_neg (by simp [z])]
        exact k2
      · rw [dropD, if_pos z]; exact k3
    · refine ⟨v :: ys, ?_, ?_, ?_⟩
      · rw [dropD, if_neg z]; exact Rs.cons h1 k1
      · rw [dropD, if_neg z, List.zip_cons_cons, List.zip_cons_cons]
        unfold dropK at k2 ⊢
        rw [List.filter_cons_of_pos (by simp [z]), k2]
      · rw [dropD, if_neg z]; simp [k3]
section
variable {X : Cx} {E : XK} {o e f : Expr} {td ty tx : TED} {apos cpos : Pos}
/-- d.pop(i, z) -/
def dPop2 (td ty tx : TED) : TED := fun Xd s M Q => td Xd s M fun x M1 => ∃ a, x = .ref a ∧ (∃ ks ds, M1 a = some (.dct ks ds)) ∧ ty Xd s M1 fun y M2 => tx Xd s M2 fun z M3 => ∃ ks ds i, M3 a = some (.dct ks ds) ∧ y = .int i ∧
  (∀ v, valD ks ds (.inl i) = some v → Q v (M3.put a (.dct (dropD ks ds (.inl i)).1 (dropD ks ds (.inl i)).2))) ∧ (valD ks ds (.inl i) = none → Q z M3)
theorem de_pop2 (ho : DE X E o td) (he : DE X E e ty) (hf : DE X E f tx) (m : M2 X o "pop" apos e f cpos) : DE X E (.Call (.Attribute o "pop" apos) [e, f] [] cpos) (dPop2 td ty tx) :=
  ⟨PE.imp (pe_dpop2 ho.ok he.ok hf.ok m) fun σ H Q ⟨s, M, Qd, Xd, S, x, t, q⟩ => useE S x t fun d v M1 H1 g1 S1 x1 r1 ⟨a, ed, ⟨ks0, ds0, hm0⟩, t1⟩ => by
    subst ed
    have ev : v = .ref a := r1
    obtain ⟨xs0, h0, _⟩ := S1.mem a _ hm0
    refine ⟨a, ev, .inl ⟨_, .inl h0⟩, useE S1 x1 t1 fun y w M2 H2 g2 S2 x2 r2 t2 => ?_⟩
    refine useE S2 x2 t2 fun z u M3 H3 g3 S3 x3 r3 ⟨ks, ds, i, hm, ey, t3, t4⟩ => ?_
    subst ey
    have ew : w = .int i := r2
    obtain ⟨xs, h1, hl, rs⟩ := S3.mem a _ hm
    refine ⟨ks.zip xs, .inl i, h1, ew, fun v' hv => ?_, fun hn => ?_⟩
    · cases q0 : valD ks ds (.inl i) with
      | none => rw [zip_valN _ rs hl q0] at hv; cases hv
      | some d' =>
        obtain ⟨v2, hv2, rv2⟩ := zip_val _ rs q0
        rw [hv2] at hv; cases hv
        obtain ⟨ys, k1, k2, k3⟩ := drop_rs (k := .inl i) hl rs
        rw [k2]
        refine q _ _ ⟨d', M3.put a (.dct (dropD ks ds (.inl i)).1 (dropD ks ds (.inl i)).2), ((g1.trans g2).trans g3).trans (gw_put hm), mok_put S3.mem hm ⟨ys, upd_same, k3, Rs.grow (gw_put hm) _ _ k1⟩, Rv.grow (gw_put hm) d' _ rv2, t3 d' q0⟩
    · cases q0 : valD ks ds (.inl i) with
      | some d' =>
        obtain ⟨v2, hv2, rv2⟩ := zip_val _ rs q0
        rw [hv2] at hn; cases hn
      | none => exact q _ _ ⟨z, M3, (g1.trans g2).trans g3, S3.mem, r3, t4 q0⟩⟩
/-- d.setdefault(i, z) -/
def dSetd (td ty tx : TED) : TED := fun Xd s M Q => td Xd s M fun x M1 => ∃ a, x = .ref a ∧ (∃ ks ds, M1 a = some (.dct ks ds)) ∧ ty Xd s M1 fun y M2 => tx Xd s M2 fun z M3 => ∃ ks ds i, M3 a = some (.dct ks ds) ∧ y = .int i ∧ ks.Nodup ∧ ks.length < 1000 ∧
  (∀ v, valD ks ds (.inl i) = some v → Q v M3) ∧ (valD ks ds (.inl i) = none → Q z (M3.put a (.dct (putD ks ds (.inl i) z).1 (putD ks ds (.inl i) z).2)))
theorem de_setd (ho : DE X E o td) (he : DE X E e ty) (hf : DE X E f tx) (m : M2 X o "setdefault" apos e f cpos) : DE X E (.Call (.Attribute o "setdefault" apos) [e, f] [] cpos) (dSetd td ty tx) :=
  ⟨PE.imp (pe_dsetd ho.ok he.ok hf.ok m) fun σ H Q ⟨s, M, Qd, Xd, S, x, t, q⟩ => useE S x t fun d v M1 H1 g1 S1 x1 r1 ⟨a, ed, ⟨ks0, ds0, hm0⟩, t1⟩ => by
    subst ed
    have ev : v = .ref a := r1
    obtain ⟨xs0, h0, _⟩ := S1.mem a _ hm0
    refine ⟨a, ev, .inl ⟨_, .inl h0⟩, useE S1 x1 t1 fun y w M2 H2 g2 S2 x2 r2 t2 => ?_⟩
    refine useE S2 x2 t2 fun z u M3 H3 g3 S3 x3 r3 ⟨ks, ds, i, hm, ey, nd, kl, t3, t4⟩ => ?_
    subst ey
    have ew : w = .int i := r2
    obtain ⟨xs, h1, hl, rs⟩ := S3.mem a _ hm
    have lx : ds.length = xs.length := Rs.len rs
    refine ⟨ks.zip xs, .inl i, h1, ew, by rw [List.length_zip, sizeLine_eq]; omega, fun v' hv => ?_, fun hn => ?_⟩
    · cases q0 : valD ks ds (.inl i) with
      | none => rw [zip_valN _ rs hl q0] at hv; cases hv
      | some d' =>
        obtain ⟨v2, hv2, rv2⟩ := zip_val _ rs q0
        rw [hv2] at hv; cases hv
        exact q _ _ ⟨d', M3, (g1.trans g2).trans g3, S3.mem, rv2, t3 d' q0⟩
    · cases q0 : valD ks ds (.inl i) with
      | some d' =>
        obtain ⟨v2, hv2, rv2⟩ := zip_val _ rs q0
        rw [hv2] at hn; cases hn
      | none =>
        obtain ⟨ys, k1, k2, k3⟩ := put_rs (k := .inl i) r3 nd hl rs
        rw [k2]
        exact q _ _ ⟨z, M3.put a (.dct (putD ks ds (.inl i) z).1 (putD ks ds (.inl i) z).2), ((g1.trans g2).trans g3).trans (gw_put hm), mok_put S3.mem hm ⟨ys, upd_same, k3, Rs.grow (gw_put hm) _ _ k1⟩, Rv.grow (gw_put hm) z _ r3, t4 q0⟩⟩
end
end DL
set_option maxHeartbeats 2000000
namespace DL
open PySem PySem.Spec PyProof.Rows L2
theorem hu_65 {A : Around} {k : Nat} (hr : Room k A) : A.units + 65 < cLine := by have := hr.un; omega
section
variable {X : Cx} {E : XK} {a b : Expr} {ta tb : TED} {pos : Pos}
/-! ### a text's sign -/
def ixSD : O2 := fun x y M Q => ∃ z i k, x = .str z ∧ y = .int i ∧ z.length ≤ sizeLine ∧ atI z.cps.toList i = some k ∧ Q (.str ⟨#[k]⟩) M
theorem de_ixS (ha : DE X E a ta) (hb : DE X E b tb) (hs : PlainIx b) : DE X E (.Subscript a b pos) (dOp ixSD ta tb) :=
  ⟨PE.imp (pe_ix ix_str ha.ok hb.ok hs) fun σ H Q z => lift2 (fun {x y H Q M dx dy Qd} mo r1 r2 t q => by
    obtain ⟨z, i, k, e1, e2, h1, h2, t⟩ := t
    subst e1 e2
    exact ⟨z, i, k, r1, r2, h1, h2, q _ _ (up_same mo t rfl)⟩) z⟩
/-! ### x in a list, data -/
def inPD : O2 := fun x y M Q => ∃ d ds, toPy x = some d ∧ toPy y = some (.list ds) ∧ SeqAt.shaped d = true ∧ SeqAt.shaped (.list ds) = true ∧ Q (.bl (ds.any fun z => PyData.eqv z d)) M
theorem do_inP (hu : X.A.units + 65 < cLine) : DOp X (compareOp .In) inPD := by
  intro pins s σ H M x y dx dy v u Q Qd I mo r1 r2 rx ry t q
  obtain ⟨d, ds, e1, e2, h1, h2, t⟩ := t
  exact op_inD hu pins s σ H x y v u Q I rx ry ⟨d, ds, Rv.dp dx x d r1 e1, Rv.dp dy y _ r2 e2, h1, h2, q _ _ (up_same mo t rfl)⟩
end
end DL
set_option maxHeartbeats 2000000
namespace DL
open PySem PySem.Spec PyProof.Rows L2
/-! ### a list that is not changed any more -/
def sFrz (i : Nat) (u : TSD) : TSD := fun Y s M => ∃ p ds, s[i]? = some (some (.ref p)) ∧ M p = some (.lst ds) ∧ u Y (s.set i (some (.lst ds))) (M.del p)
theorem set_sameV {v : Option V} : ∀ {s : L2.St} {j : Nat}, s[j]? = some v → s.set j v = s
  | [], j, e => by simp at e
  | x :: s, 0, e => by simp at e; rw [e]; rfl
  | x :: s, j + 1, e => by rw [List.set_cons_succ, set_sameV (s := s) (by simpa using e)]
theorem dss_frz {X : Cx} {E : XK} {body : List Stmt} {i : Nat} {u : TSD} (h : DSs X E body u) : DSs X E body (sFrz i u) :=
  ⟨PSs.imp h.ok fun Z σ H ⟨s, M, Y, S, x, ⟨p, ds, hs, hM, t⟩, q⟩ => by
    have hn : ∀ a, M a = none → (M.del p) a = none := fun a e => by
      by_cases z : a = p
      · subst z; exact Mem.del_same
      · rw [Mem.del_ne z]; exact e
    have hs' : ∀ a o, (M.del p) a = some o → M a = some o := fun a o e => by
      by_cases z : a = p
      · subst z; rw [Mem.del_same] at e; cases e
      · rw [Mem.del_ne z] at e; exact e
    have g : Gw H M H (M.del p) := gw_less hn
    have m := mok_less hs' hn S.mem
    obtain ⟨v, e1, e2⟩ := S.sl i _ hs
    have ev : v = .ref p := e2
    subst ev
    obtain ⟨xs, h1, h2⟩ := S.mem p _ hM
    have rL : Rv X.K H (M.del p) (.lst ds) (.ref p) := ⟨p, xs, rfl, h1, Mem.del_same, Rs.grow g ds xs h2⟩
    have S2 := (S.grow g m).set i rL
    rw [set_sameV e1] at S2
    exact ⟨_, M.del p, Y, S2, x.grow g, t, fwdE g q⟩⟩
end DL
set_option maxHeartbeats 2000000
namespace PySem
open PySem.Spec PyProof.Rows L2 PySem.W PySem.Calls
theorem dl_unpack3 {prog : Program} {w : World} {A : Around} {E : Value → Shared → Prop} {s : Shared} {l : Addr} {x1 x2 x3 : Value} {Q : List Value → Shared → Prop} (hh : A.handled = none) (hl : s.heap.IsList l [x1, x2, x3].toArray)
    (hQ : ∀ (h' : Heap), (∀ b o, s.heap.get? b = some o → h'.get? b = some o) → Q [x1, x2, x3] { s with heap := h' }) :
    wpAny (model prog w) A (unpackItems (.ref l) 3 none) Q E s := by
  have hne : l ≠ s.heap.objs.size := by obtain ⟨o, ho, _⟩ := hl; exact Nat.ne_of_lt (Heap.lt_size ho)
  unfold unpackItems
  refine wpAny_bind ?_
  unfold notIterableAtAll
  refine wpAny_bind (wpAny_specialOf hl.typeIs slot_list_iter.lookup (wpAny_pure ?_))
  simp only [Bool.false_eq_true, if_false]
  refine wpAny_bind (wpAny_holding (wpAny_pyIter_list hl ?_))
  have hl0 : (s.heap.push { cls := .type "list_iterator", data := .fields #[.ref l, .int 0 0] }).IsList l [x1, x2, x3].toArray := by
    obtain ⟨o, ho, q⟩ := hl
    exact ⟨o, Heap.get?_push_of_some _ ho, q⟩
  refine wpAny_bind (wpAny_holding ?_)
  show wpAny _ _ (pyNext (.ref s.heap.objs.size) >>= _) _ _ _
  refine wpAny_bind (wpAny_pyNext_list_item (it := s.heap.objs.size) (l := l) (i := 0) (x := x1) ⟨_, Heap.get?_push_size _ rfl, rfl, rfl⟩ hl0 (by simp) fun h1 hit1 hs1 => ?_)
  have hl1 : h1.IsList l [x1, x2, x3].toArray := hl0.extBut hs1.extBut hne
  refine wpAny_bind (wpAny_holding ?_)
  show wpAny _ _ (pyNext (.ref s.heap.objs.size) >>= _) _ _ _
  refine wpAny_bind (wpAny_pyNext_list_item (it := s.heap.objs.size) (l := l) (i := 1) (x := x2) hit1 hl1 (by simp) fun h2 hit2 hs2 => ?_)
  have hl2 : h2.IsList l [x1, x2, x3].toArray := hl1.extBut hs2.extBut hne
  refine wpAny_bind (wpAny_holding ?_)
  show wpAny _ _ (pyNext (.ref s.heap.objs.size) >>= _) _ _ _
  refine wpAny_bind (wpAny_pyNext_list_item (it := s.heap.objs.size) (l := l) (i := 2) (x := x3) hit2 hl2 (by simp) fun h3 hit3 hs3 => ?_)
  have hl3 : h3.IsList l [x1, x2, x3].toArray := hl2.extBut hs3.extBut hne
  refine wpAny_bind (wpAny_holding ?_)
  show wpAny _ _ (pure []) _ _ _
  refine wpAny_pure (wpAny_pure (wpAny_pure (wpAny_pure ?_)))
  rw [if_neg (by simp)]
  have keep3 : ∀ b o, b ≠ s.heap.objs.size → s.heap.get? b = some o → h3.get? b = some o := fun b o nb e =>
    hs3.extBut b o nb (hs2.extBut b o nb (hs1.extBut b o nb (Heap.get?_push_of_some _ e)))
  refine wpAny_bind (wpAny_holding (wpAny_pyNext_list_end (it := s.heap.objs.size) (l := l) hh hit3 hl3 (by simp) fun h4 hx => ?_))
  exact wpAny_pure (hQ h4 fun b o e => hx b o (Nat.ne_of_lt (Heap.lt_size e)) (keep3 b o (Nat.ne_of_lt (Heap.lt_size e)) e))
end PySem
namespace DL
open PySem PySem.Spec PyProof.Rows L2
/-! ### a, b, c = a list -/
def gTl3 (K : Fg) (g : TGs) : TG := fun v σ H Q => ∃ a x1 x2 x3, v = .ref a ∧ SqL K H a [x1, x2, x3] ∧ g [x1, x2, x3] σ H Q
theorem pg_tl3 {X : Cx} {es : List Expr} {k : Nat} {pos : Pos} {g : TGs} (hc : X.calm = true) (h : PGs X es g) (hn : (assignEach es X.env).length = 3 := by rfl) (hst : (assignEach es X.env).findIdx? (·.1) = none := by rfl) : PG X (.Tuple es k pos) (gTl3 X.K g) := by
  refine ⟨fun pins s σ H v u Q I r hw => ?_⟩
  obtain ⟨a, x1, x2, x3, e1, hq, hw⟩ := hw
  subst e1
  cases r
  obtain ⟨its, rv, pl, hz⟩ := I.list hq
  rw [PyProof.Rows.assign_Tuple]
  refine wpAny_bind (wpAny_standAt ?_)
  unfold unpack
  rw [hn, hst]
  cases rv with
  | @cons _ u1 _ ur r1 rr =>
  cases rr with
  | @cons _ u2 _ ur r2 rr =>
  cases rr with
  | @cons _ u3 _ ur r3 rr =>
  cases rr
  refine wpAny_bind (wpAny_holding (dl_unpack3 (I.ok.hd hc) pl.isList fun h' hk => ?_))
  have I1 : Inv X pins σ H { s with heap := h' } := I.kept (t' := s.toks) hk
  exact h.run pins _ σ H [x1, x2, x3] [u1, u2, u3] Q I1 (.cons r1 (.cons r2 (.cons r3 .nil))) hw
def gTl3D (t : TGsD) : TGD := fun d Xd s M Q => ∃ x1 x2 x3, lsdO d = some [x1, x2, x3] ∧ t [x1, x2, x3] Xd s M Q
theorem dg_tl3 {X : Cx} {E : XK} {es : List Expr} {k : Nat} {pos : Pos} {t : TGsD} (hc : X.calm = true) (h : DGs X E es 3 t) (hn : (assignEach es X.env).length = 3 := by rfl) (hst : (assignEach es X.env).findIdx? (·.1) = none := by rfl) : DG X E (.Tuple es k pos) (gTl3D t) := by
  obtain ⟨g1, p1, q1⟩ := h.ok
  refine ⟨gTl3 X.K g1, pg_tl3 hc p1 hn hst, fun {v d σ H s M Xd Qd Q} S x r ⟨y1, y2, y3, hd, t⟩ q => ?_⟩
  obtain ⟨a, rfl, ka⟩ := lsdO_use r hd
  obtain ⟨xs, hq, rx⟩ := ka H M Gw.refl
  obtain ⟨v1, vr, rfl, r1, rx⟩ := rx
  obtain ⟨v2, vr, rfl, r2, rx⟩ := rx
  obtain ⟨v3, vr, rfl, r3, rx⟩ := rx
  obtain rfl : vr = [] := rx
  exact ⟨a, v1, v2, v3, rfl, hq, q1 S x (Rs.cons r1 (Rs.cons r2 (Rs.cons r3 Rs.nil))) t q⟩
end DL
set_option maxHeartbeats 4000000
/-! enumerate over an iterator that makes things as it turns -/
namespace PySem
open PySem.Spec PyProof.Rows
end PySem
set_option maxHeartbeats 4000000
/-! zip's next with its own tuple free, be it that none was handed out or that the last one is gone -/
namespace PySem
open PySem.Spec PyProof.Rows
def zObj (TI TO : Addr) (f0 : Value) (f : Bool) : Obj := { cls := .type "zip", dict := none, data := .fields #[f0, .bool f, .bool false, .ref TI, .ref TO], slots := #[] }
end PySem
set_option maxHeartbeats 4000000
/-! one turn of a zip, whatever became of its tuple -/
namespace PySem
open PySem.Spec PyProof.Rows
section
variable {prog : Program} {w : World} {A : Around} {E : Value → Shared → Prop} {s : Shared} {z TI TO i1 i2 : Addr} {f0 : Value} {f : Bool} {fp1 fp2 : List Addr} {n1 n2 i : Nat} {P1 P2 : Nat → Value → Prop} {St1 St2 : Nat → Heap → Prop} {a1 a2 : Value}
/-- a zip between two turns -/
def ZSt (h : Heap) (z TI TO i1 i2 : Addr) : Prop := (∃ f0 f, h.get? z = some (zObj TI TO f0 f) ∧ (f0 = .none ∨ ∃ T : Addr, f0 = rawInt T)) ∧ IsTupOf2 h TI (.ref i1) (.ref i2) ∧ ∃ a1 a2, IsTupOf2 h TO a1 a2
theorem ZSt.type {h : Heap} (x : ZSt s.heap z TI TO i1 i2) : s.TypeIs (.ref z) "zip" := by
  obtain ⟨⟨f0, f, hz, _⟩, _⟩ := x
  exact ⟨_, hz, rfl⟩
end
end PySem
set_option maxHeartbeats 4000000
namespace PySem
open PySem.Spec PyProof.Rows
end PySem
namespace DL
open PySem PySem.Spec PyProof.Rows L2 RZ
/-! ### enumerate(zip(a, b)) -/
end DL
set_option maxHeartbeats 4000000
namespace PySem
open AutoSeq1 (wpAny_loadPart')
open PySem.Spec PyProof.Rows
end PySem
set_option maxHeartbeats 4000000
namespace DL
open PySem PySem.Spec PyProof.Rows L2 RZ
def iEZD (te te2 : TED) : TID := fun Xd s M R => dCons te (dCons te2 dNil) Xd s M (zipMK fun l _ M1 => R (enmFrom 0 l) none M1)
end DL
set_option maxHeartbeats 4000000
namespace DL
open PySem PySem.Spec PyProof.Rows L2
/-! ### zip(xs, ys) walked where xs may be a list that we own -/
/-- the items of a list or tuple, and where it is if we own it -/
def sqwO (M : Mem) : D → Option (List D × Option Addr)
  | .ref a => match M a with
    | some (.lst ds) => some (ds, some a)
    | _ => none
  | d => (sqdO d).map fun ds => (ds, none)
def zipOK (R : List D → Option Addr → Mem → Prop) : List D → Mem → Prop := fun l M => match l with
  | [d, e] => ∃ ds ow es, sqwO M d = some (ds, ow) ∧ sqdO e = some es ∧ R (zpD ds es) ow M
  | _ => False
def iZipOD (te te2 : TED) : TID := fun Xd s M R => dCons te (dCons te2 dNil) Xd s M (zipOK R)
/-! ### xs + ys, a list that will be changed -/
/-! ### what a def leaves: all that it made is let go -/
/-- what was owned is still so -/
def Ext (M0 M : Mem) : Prop := ∀ a o, M0 a = some o → M a = some o
theorem Ext.refl {M : Mem} : Ext M M := fun _ _ h => h
theorem Ext.trans {M0 M1 M2 : Mem} (h : Ext M0 M1) (k : Ext M1 M2) : Ext M0 M2 := fun a o e => k a o (h a o e)
theorem Ext.put {M0 M : Mem} {p : Addr} {o : MO} (h : Ext M0 M) (hp : M0 p = none) : Ext M0 (M.put p o) := fun a u e => by
  have ne : a ≠ p := fun z => by subst z; rw [hp] at e; cases e
  rw [Mem.put_ne ne]; exact h a u e
theorem Ext.none {M0 M : Mem} {p : Addr} (h : Ext M0 M) (hp : M p = none) : M0 p = none := by
  cases e : M0 p with
  | none => rfl
  | some o => rw [h p o e] at hp; cases hp
theorem lo_less {Q : QD} {d : D} {M M0 : Mem} (h : Ext M0 M) (q : Q d M0) : Lo Q d M :=
  have hn : ∀ a, M a = none → M0 a = none := fun _ e => h.none e
  ⟨d, M0, ⟨h, hn, fun K H v mo r => Rv.grow (gw_less hn) d v r⟩, q⟩
end DL
set_option maxHeartbeats 4000000
namespace G_madeofhere_k17_texts_back_and_forth
open PySem PySem.Spec PyProof.Rows L2 DL
def tb : Nat → Nat → Bool := fun i j => ([[0], [0, 1], [0, 2], [0, 3]].getD i []).contains j
def tys : List (String × (Nat → Bool)) := [("ValueError", fun i => [0, 1, 2, 3].contains i)]
def fds : List Str := ["line", "number", "part"]
structure CF (K : Fg) (c : Nat → Addr) : Prop where
  cf : ∀ {i : Nat}, i < 4 → ClsF K (c i)
  kf : KitF K c 4 tb tys fds
def N_is_one_of : List Str := ["value", "words"]
def Bis_one_of (K : Fg) (c : Nat → Addr) : TSD := sRet (dAnd (dCB isiC (dCons (dVar 0) (dCons (dC (.ty "str")) (dNil)))) (dOp inD (dVar 0) (dVar 1)))
def Wis_one_of (K : Fg) (c : Nat → Addr) : SpD := bodyD (Bis_one_of K c) N_is_one_of
theorem Eis_one_of {K : Fg} {c : Nat → Addr} {a0 a1 : D} {M : Mem} {Q : QD} {Xd : XD} (h : (sRet (dAnd (dCB isiC (dCons (dVar 0) (dCons (dC (.ty "str")) (dNil)))) (dOp inD (dVar 0) (dVar 1)))) ⟨fun _ M' => Lo Q .non M', Lo Q, fun _ _ => False, fun _ _ => False, Xd⟩ [some a0, some a1] M) : Wis_one_of K c [a0, a1] M Q Xd := h
def N_is_rule : List Str := ["value", "share", "up", "down"]
def Bis_rule (K : Fg) (c : Nat → Addr) : TSD := sSeq (sIf (tOrD (tNotD (dTru (dCB isiC (dCons (dVar 0) (dCons (dC (.ty "tuple")) (dNil)))))) (dTst (dOp neD (dCB lenC (dCons (dVar 0) (dNil))) (dC (.int 3))))) (sRet (dC (.bl false))) (sNx)) (sSeq (sAsg (dVar 0) (gTp 3 (gCo (gNm 1) (gCo (gNm 2) (gCo (gNm 3) (gNi)))))) (sSeq (sIf (tOrD (tNotD (dTru (dCB isiC (dCons (dVar 1) (dCons (dC (.ty "int")) (dNil)))))) (tOrD (dTru (dCB isiC (dCons (dVar 1) (dCons (dC (.ty "bool")) (dNil))))) (tNotD (dTst (dChain leD leD (dC (.int 0)) (dVar 1) (dC (.int 100))))))) (sRet (dC (.bl false))) (sNx)) (sSeq (sIf (tOrD (tNotD (dTru (dCB isiC (dCons (dVar 2) (dCons (dC (.ty "str")) (dNil)))))) (tNotD (dTru (dCB isiC (dCons (dVar 3) (dCons (dC (.ty "str")) (dNil))))))) (sRet (dC (.bl false))) (sNx)) (sRet (dAnd (dOr (dOp eqD (dVar 2) (dC (.str "whole"))) (dOp eqD (dVar 2) (dC (.str "own")))) (dOr (dOp eqD (dVar 3) (dC (.str "own"))) (dOp eqD (dVar 3) (dC (.str "none")))))))))
def Wis_rule (K : Fg) (c : Nat → Addr) : SpD := bodyD (Bis_rule K c) N_is_rule
theorem Eis_rule {K : Fg} {c : Nat → Addr} {a0 : D} {M : Mem} {Q : QD} {Xd : XD} (h : (sSeq (sIf (tOrD (tNotD (dTru (dCB isiC (dCons (dVar 0) (dCons (dC (.ty "tuple")) (dNil)))))) (dTst (dOp neD (dCB lenC (dCons (dVar 0) (dNil))) (dC (.int 3))))) (sRet (dC (.bl false))) (sNx)) (sSeq (sAsg (dVar 0) (gTp 3 (gCo (gNm 1) (gCo (gNm 2) (gCo (gNm 3) (gNi)))))) (sSeq (sIf (tOrD (tNotD (dTru (dCB isiC (dCons (dVar 1) (dCons (dC (.ty "int")) (dNil)))))) (tOrD (dTru (dCB isiC (dCons (dVar 1) (dCons (dC (.ty "bool")) (dNil))))) (tNotD (dTst (dChain leD leD (dC (.int 0)) (dVar 1) (dC (.int 100))))))) (sRet (dC (.bl false))) (sNx)) (sSeq (sIf (tOrD (tNotD (dTru (dCB isiC (dCons (dVar 2) (dCons (dC (.ty "str")) (dNil)))))) (tNotD (dTru (dCB isiC (dCons (dVar 3) (dCons (dC (.ty "str")) (dNil))))))) (sRet (dC (.bl false))) (sNx)) (sRet (dAnd (dOr (dOp eqD (dVar 2) (dC (.str "whole"))) (dOp eqD (dVar 2) (dC (.str "own")))) (dOr (dOp eqD (dVar 3) (dC (.str "own"))) (dOp eqD (dVar 3) (dC (.str "none")))))))))) ⟨fun _ M' => Lo Q .non M', Lo Q, fun _ _ => False, fun _ _ => False, Xd⟩ [some a0, none, none, none] M) : Wis_rule K c [a0] M Q Xd := h
def N__need_bounds : List Str := ["number", "land", "low", "high"]
def B_need_bounds (K : Fg) (c : Nat → Addr) : TSD := sSeq (sIf (tOrD (tNotD (dTru (dCB isiC (dCons (dVar 1) (dCons (dC (.ty "str")) (dNil)))))) (tAndD (dTst (dOp neD (dVar 1) (dC (.str "here")))) (dTst (dOp neD (dVar 1) (dC (.str "away")))))) (sRaise (c 1) ["part", "number"] (dCons (dVar 0) (dCons (dC (.str "land")) (dNil)))) (sNx)) (sSeq (sIf (tOrD (tNotD (dTru (dCB isiC (dCons (dVar 2) (dCons (dC (.ty "int")) (dNil)))))) (tOrD (dTru (dCB isiC (dCons (dVar 2) (dCons (dC (.ty "bool")) (dNil))))) (tNotD (dTst (dChain leD leD (dC (.int 0)) (dVar 2) (dC (.int 1000000))))))) (sRaise (c 1) ["part", "number"] (dCons (dVar 0) (dCons (dC (.str "low")) (dNil)))) (sNx)) (sIf (tOrD (tNotD (dTru (dCB isiC (dCons (dVar 3) (dCons (dC (.ty "int")) (dNil)))))) (tOrD (dTru (dCB isiC (dCons (dVar 3) (dCons (dC (.ty "bool")) (dNil))))) (tNotD (dTst (dChain leD leD (dVar 2) (dVar 3) (dC (.int 1000000))))))) (sRaise (c 1) ["part", "number"] (dCons (dVar 0) (dCons (dC (.str "high")) (dNil)))) (sNx)))
def W_need_bounds (K : Fg) (c : Nat → Addr) : SpD := bodyD (B_need_bounds K c) N__need_bounds
theorem E_need_bounds {K : Fg} {c : Nat → Addr} {a0 a1 a2 a3 : D} {M : Mem} {Q : QD} {Xd : XD} (h : (sSeq (sIf (tOrD (tNotD (dTru (dCB isiC (dCons (dVar 1) (dCons (dC (.ty "str")) (dNil)))))) (tAndD (dTst (dOp neD (dVar 1) (dC (.str "here")))) (dTst (dOp neD (dVar 1) (dC (.str "away")))))) (sRaise (c 1) ["part", "number"] (dCons (dVar 0) (dCons (dC (.str "land")) (dNil)))) (sNx)) (sSeq (sIf (tOrD (tNotD (dTru (dCB isiC (dCons (dVar 2) (dCons (dC (.ty "int")) (dNil)))))) (tOrD (dTru (dCB isiC (dCons (dVar 2) (dCons (dC (.ty "bool")) (dNil))))) (tNotD (dTst (dChain leD leD (dC (.int 0)) (dVar 2) (dC (.int 1000000))))))) (sRaise (c 1) ["part", "number"] (dCons (dVar 0) (dCons (dC (.str "low")) (dNil)))) (sNx)) (sIf (tOrD (tNotD (dTru (dCB isiC (dCons (dVar 3) (dCons (dC (.ty "int")) (dNil)))))) (tOrD (dTru (dCB isiC (dCons (dVar 3) (dCons (dC (.ty "bool")) (dNil))))) (tNotD (dTst (dChain leD leD (dVar 2) (dVar 3) (dC (.int 1000000))))))) (sRaise (c 1) ["part", "number"] (dCons (dVar 0) (dCons (dC (.str "high")) (dNil)))) (sNx)))) ⟨fun _ M' => Lo Q .non M', Lo Q, fun _ _ => False, fun _ _ => False, Xd⟩ [some a0, some a1, some a2, some a3] M) : W_need_bounds K c [a0, a1, a2, a3] M Q Xd := h
def N__need_making : List Str := ["number", "rule", "parts"]
def B_need_making (K : Fg) (c : Nat → Addr) : TSD := sSeq (sIf (tNotD (dTru (dCall (Wis_rule K c) [] (dCons (dVar 1) (dNil))))) (sRaise (c 1) ["part", "number"] (dCons (dVar 0) (dCons (dC (.str "rule")) (dNil)))) (sNx)) (sIf (tOrD (tNotD (dTru (dCB isiC (dCons (dVar 2) (dCons (dC (.ty "tuple")) (dNil)))))) (tNotD (dTst (dChain leD leD (dC (.int 1)) (dCB lenC (dCons (dVar 2) (dNil))) (dC (.int 4)))))) (sRaise (c 1) ["part", "number"] (dCons (dVar 0) (dCons (dC (.str "parts")) (dNil)))) (sNx))
def W_need_making (K : Fg) (c : Nat → Addr) : SpD := bodyD (B_need_making K c) N__need_making
theorem E_need_making {K : Fg} {c : Nat → Addr} {a0 a1 a2 : D} {M : Mem} {Q : QD} {Xd : XD} (h : (sSeq (sIf (tNotD (dTru (dCall (Wis_rule K c) [] (dCons (dVar 1) (dNil))))) (sRaise (c 1) ["part", "number"] (dCons (dVar 0) (dCons (dC (.str "rule")) (dNil)))) (sNx)) (sIf (tOrD (tNotD (dTru (dCB isiC (dCons (dVar 2) (dCons (dC (.ty "tuple")) (dNil)))))) (tNotD (dTst (dChain leD leD (dC (.int 1)) (dCB lenC (dCons (dVar 2) (dNil))) (dC (.int 4)))))) (sRaise (c 1) ["part", "number"] (dCons (dVar 0) (dCons (dC (.str "parts")) (dNil)))) (sNx))) ⟨fun _ M' => Lo Q .non M', Lo Q, fun _ _ => False, fun _ _ => False, Xd⟩ [some a0, some a1, some a2] M) : W_need_making K c [a0, a1, a2] M Q Xd := h
def N__look_at : List Str := ["thing", "whole", "found", "wholes", "made", "moving", "number", "word", "is_step", "parts", "_", "land", "low", "high", "rule", "part"]
def B_look_at (K : Fg) (c : Nat → Addr) (self : SpD) : TSD := sSeq (sSet 6 (dCB lenC (dCons (dVar 2) (dNil)))) (sSeq (sSet 7 (dIte (tAndD (dTru (dCB isiC (dCons (dVar 0) (dCons (dC (.ty "tuple")) (dNil))))) (dTst (dOp gtD (dCB lenC (dCons (dVar 0) (dNil))) (dC (.int 0))))) (dOp ixD (dVar 0) (dC (.int 0))) (dC .non))) (sSeq (sSet 8 (dAnd (dCB isiC (dCons (dVar 7) (dCons (dC (.ty "str")) (dNil)))) (dOp eqD (dVar 7) (dC (.str "made"))))) (sSeq (sIf (dTru (dVar 8)) (sExpr (dApp (dVar 4) (dVar 6))) (sNx)) (sSeq (sIf (tOrD (dTst (dOp eqD (dVar 6) (dC (.int 10)))) (dTst (dOp gtD (dCB lenC (dCons (dVar 4) (dNil))) (dC (.int 4))))) (sRaise (c 1) ["part", "number"] (dCons (dVar 6) (dCons (dC (.str "many")) (dNil)))) (sNx)) (sSeq (sSet 9 (dTup (dNil))) (sSeq (sIf (tAndD (dTru (dVar 8)) (dTst (dOp eqD (dCB lenC (dCons (dVar 0) (dNil))) (dC (.int 6))))) (sSeq (sAsg (dVar 0) (gTp 6 (gCo (gNm 10) (gCo (gNm 11) (gCo (gNm 12) (gCo (gNm 13) (gCo (gNm 14) (gCo (gNm 9) (gNi))))))))) (sSeq (sExpr (dCall (W_need_bounds K c) [] (dCons (dVar 6) (dCons (dVar 11) (dCons (dVar 12) (dCons (dVar 13) (dNil))))))) (sExpr (dCall (W_need_making K c) [] (dCons (dVar 6) (dCons (dVar 14) (dCons (dVar 9) (dNil)))))))) (sIf (tAndD (dTru (dCB isiC (dCons (dVar 7) (dCons (dC (.ty "str")) (dNil))))) (tAndD (dTst (dOp eqD (dVar 7) (dC (.str "raw")))) (dTst (dOp eqD (dCB lenC (dCons (dVar 0) (dNil))) (dC (.int 4)))))) (sSeq (sAsg (dVar 0) (gTp 4 (gCo (gNm 10) (gCo (gNm 11) (gCo (gNm 12) (gCo (gNm 13) (gNi))))))) (sExpr (dCall (W_need_bounds K c) [] (dCons (dVar 6) (dCons (dVar 11) (dCons (dVar 12) (dCons (dVar 13) (dNil)))))))) (sRaise (c 1) ["part", "number"] (dCons (dVar 6) (dCons (dC (.str "form")) (dNil)))))) (sSeq (sExpr (dApp (dVar 2) (dVar 0))) (sSeq (sExpr (dApp (dVar 3) (dVar 1))) (sSeq (sIf (dTst (dOp ltD (dVar 12) (dVar 13))) (sExpr (dApp (dVar 5) (dVar 6))) (sNx)) (sFor (iSeqD (dVar 9)) (gNm 15) (sExpr (dCall self [] (dCons (dVar 15) (dCons (dVar 6) (dCons (dVar 2) (dCons (dVar 3) (dCons (dVar 4) (dCons (dVar 5) (dNil)))))))))))))))))))
def W_look_at (K : Fg) (c : Nat → Addr) : Nat → SpD
  | 0 => fun _ _ _ _ => False
  | n + 1 => bodyD (B_look_at K c (W_look_at K c n)) N__look_at
theorem E_look_at {K : Fg} {c : Nat → Addr} {a0 a1 a2 a3 a4 a5 : D} {n : Nat} {M : Mem} {Q : QD} {Xd : XD} (h : (sSeq (sSet 6 (dCB lenC (dCons (dVar 2) (dNil)))) (sSeq (sSet 7 (dIte (tAndD (dTru (dCB isiC (dCons (dVar 0) (dCons (dC (.ty "tuple")) (dNil))))) (dTst (dOp gtD (dCB lenC (dCons (dVar 0) (dNil))) (dC (.int 0))))) (dOp ixD (dVar 0) (dC (.int 0))) (dC .non))) (sSeq (sSet 8 (dAnd (dCB isiC (dCons (dVar 7) (dCons (dC (.ty "str")) (dNil)))) (dOp eqD (dVar 7) (dC (.str "made"))))) (sSeq (sIf (dTru (dVar 8)) (sExpr (dApp (dVar 4) (dVar 6))) (sNx)) (sSeq (sIf (tOrD (dTst (dOp eqD (dVar 6) (dC (.int 10)))) (dTst (dOp gtD (dCB lenC (dCons (dVar 4) (dNil))) (dC (.int 4))))) (sRaise (c 1) ["part", "number"] (dCons (dVar 6) (dCons (dC (.str "many")) (dNil)))) (sNx)) (sSeq (sSet 9 (dTup (dNil))) (sSeq (sIf (tAndD (dTru (dVar 8)) (dTst (dOp eqD (dCB lenC (dCons (dVar 0) (dNil))) (dC (.int 6))))) (sSeq (sAsg (dVar 0) (gTp 6 (gCo (gNm 10) (gCo (gNm 11) (gCo (gNm 12) (gCo (gNm 13) (gCo (gNm 14) (gCo (gNm 9) (gNi))))))))) (sSeq (sExpr (dCall (W_need_bounds K c) [] (dCons (dVar 6) (dCons (dVar 11) (dCons (dVar 12) (dCons (dVar 13) (dNil))))))) (sExpr (dCall (W_need_making K c) [] (dCons (dVar 6) (dCons (dVar 14) (dCons (dVar 9) (dNil)))))))) (sIf (tAndD (dTru (dCB isiC (dCons (dVar 7) (dCons (dC (.ty "str")) (dNil))))) (tAndD (dTst (dOp eqD (dVar 7) (dC (.str "raw")))) (dTst (dOp eqD (dCB lenC (dCons (dVar 0) (dNil))) (dC (.int 4)))))) (sSeq (sAsg (dVar 0) (gTp 4 (gCo (gNm 10) (gCo (gNm 11) (gCo (gNm 12) (gCo (gNm 13) (gNi))))))) (sExpr (dCall (W_need_bounds K c) [] (dCons (dVar 6) (dCons (dVar 11) (dCons (dVar 12) (dCons (dVar 13) (dNil)))))))) (sRaise (c 1) ["part", "number"] (dCons (dVar 6) (dCons (dC (.str "form")) (dNil)))))) (sSeq (sExpr (dApp (dVar 2) (dVar 0))) (sSeq (sExpr (dApp (dVar 3) (dVar 1))) (sSeq (sIf (dTst (dOp ltD (dVar 12) (dVar 13))) (sExpr (dApp (dVar 5) (dVar 6))) (sNx)) (sFor (iSeqD (dVar 9)) (gNm 15) (sExpr (dCall (W_look_at K c n) [] (dCons (dVar 15) (dCons (dVar 6) (dCons (dVar 2) (dCons (dVar 3) (dCons (dVar 4) (dCons (dVar 5) (dNil)))))))))))))))))))) ⟨fun _ M' => Lo Q .non M', Lo Q, fun _ _ => False, fun _ _ => False, Xd⟩ [some a0, some a1, some a2, some a3, some a4, some a5, none, none, none, none, none, none, none, none, none, none] M) : W_look_at K c (n + 1) [a0, a1, a2, a3, a4, a5] M Q Xd := h
def N_look_over : List Str := ["good", "found", "wholes", "made", "moving", "thing"]
def Blook_over (K : Fg) (c : Nat → Addr) : TSD := sSeq (sAsg (dTup (dCons (dLstO (dNil)) (dCons (dLstO (dNil)) (dCons (dLstO (dNil)) (dCons (dLstO (dNil)) (dNil)))))) (gTp 4 (gCo (gNm 1) (gCo (gNm 2) (gCo (gNm 3) (gCo (gNm 4) (gNi))))))) (sSeq (sExpr (dCall (W_look_at K c 8) [] (dCons (dVar 0) (dCons (dC .non) (dCons (dVar 1) (dCons (dVar 2) (dCons (dVar 3) (dCons (dVar 4) (dNil))))))))) (sSeq (sIf (dTst (dOp eqD (dCB lenC (dCons (dVar 3) (dNil))) (dC (.int 0)))) (sRaise (c 1) ["part", "number"] (dCons (dC (.int 0)) (dCons (dC (.str "raw")) (dNil)))) (sNx)) (sSeq (sIf (dTst (dOp gtD (dCB lenC (dCons (dVar 4) (dNil))) (dC (.int 3)))) (sRaise (c 1) ["part", "number"] (dCons (dC (.int 0)) (dCons (dC (.str "moves")) (dNil)))) (sNx)) (sSeq (sFor (iSeqD (dVar 1)) (gNm 5) (sIf (dTst (dOp gtD (dOp ixD (dVar 5) (dC (.int 2))) (dC (.int 0)))) (sRet (dTup (dCons (dVar 1) (dCons (dVar 2) (dCons (dVar 3) (dCons (dVar 4) (dNil))))))) (sNx))) (sRaise (c 1) ["part", "number"] (dCons (dC (.int 0)) (dCons (dC (.str "nothing")) (dNil))))))))
def Wlook_over (K : Fg) (c : Nat → Addr) : SpD := bodyD (Blook_over K c) N_look_over
theorem Elook_over {K : Fg} {c : Nat → Addr} {a0 : D} {M : Mem} {Q : QD} {Xd : XD} (h : (sSeq (sAsg (dTup (dCons (dLstO (dNil)) (dCons (dLstO (dNil)) (dCons (dLstO (dNil)) (dCons (dLstO (dNil)) (dNil)))))) (gTp 4 (gCo (gNm 1) (gCo (gNm 2) (gCo (gNm 3) (gCo (gNm 4) (gNi))))))) (sSeq (sExpr (dCall (W_look_at K c 8) [] (dCons (dVar 0) (dCons (dC .non) (dCons (dVar 1) (dCons (dVar 2) (dCons (dVar 3) (dCons (dVar 4) (dNil))))))))) (sSeq (sIf (dTst (dOp eqD (dCB lenC (dCons (dVar 3) (dNil))) (dC (.int 0)))) (sRaise (c 1) ["part", "number"] (dCons (dC (.int 0)) (dCons (dC (.str "raw")) (dNil)))) (sNx)) (sSeq (sIf (dTst (dOp gtD (dCB lenC (dCons (dVar 4) (dNil))) (dC (.int 3)))) (sRaise (c 1) ["part", "number"] (dCons (dC (.int 0)) (dCons (dC (.str "moves")) (dNil)))) (sNx)) (sSeq (sFor (iSeqD (dVar 1)) (gNm 5) (sIf (dTst (dOp gtD (dOp ixD (dVar 5) (dC (.int 2))) (dC (.int 0)))) (sRet (dTup (dCons (dVar 1) (dCons (dVar 2) (dCons (dVar 3) (dCons (dVar 4) (dNil))))))) (sNx))) (sRaise (c 1) ["part", "number"] (dCons (dC (.int 0)) (dCons (dC (.str "nothing")) (dNil))))))))) ⟨fun _ M' => Lo Q .non M', Lo Q, fun _ _ => False, fun _ _ => False, Xd⟩ [some a0, none, none, none, none, none] M) : Wlook_over K c [a0] M Q Xd := h
def N_need_good : List Str := ["thing"]
def Bneed_good (K : Fg) (c : Nat → Addr) : TSD := sSeq (sExpr (dCall (Wlook_over K c) [] (dCons (dVar 0) (dNil)))) (sRet (dVar 0))
def Wneed_good (K : Fg) (c : Nat → Addr) : SpD := bodyD (Bneed_good K c) N_need_good
theorem Eneed_good {K : Fg} {c : Nat → Addr} {a0 : D} {M : Mem} {Q : QD} {Xd : XD} (h : (sSeq (sExpr (dCall (Wlook_over K c) [] (dCons (dVar 0) (dNil)))) (sRet (dVar 0))) ⟨fun _ M' => Lo Q .non M', Lo Q, fun _ _ => False, fun _ _ => False, Xd⟩ [some a0] M) : Wneed_good K c [a0] M Q Xd := h
def N_is_fraction : List Str := ["value", "least", "most", "part", "of"]
def Bis_fraction (K : Fg) (c : Nat → Addr) : TSD := sSeq (sIf (tOrD (tNotD (dTru (dCB isiC (dCons (dVar 0) (dCons (dC (.ty "tuple")) (dNil)))))) (dTst (dOp neD (dCB lenC (dCons (dVar 0) (dNil))) (dC (.int 2))))) (sRet (dC (.bl false))) (sNx)) (sSeq (sAsg (dVar 0) (gTp 2 (gCo (gNm 3) (gCo (gNm 4) (gNi))))) (sSeq (sIf (tOrD (tNotD (dTru (dCB isiC (dCons (dVar 3) (dCons (dC (.ty "int")) (dNil)))))) (tOrD (dTru (dCB isiC (dCons (dVar 3) (dCons (dC (.ty "bool")) (dNil))))) (tOrD (tNotD (dTru (dCB isiC (dCons (dVar 4) (dCons (dC (.ty "int")) (dNil)))))) (dTru (dCB isiC (dCons (dVar 4) (dCons (dC (.ty "bool")) (dNil)))))))) (sRet (dC (.bl false))) (sNx)) (sRet (dAnd (dOr (dOp eqD (dVar 4) (dC (.int 1))) (dAnd (dOp gtD (dVar 4) (dC (.int 1))) (dOp eqD (dCB gcdC (dCons (dVar 3) (dCons (dVar 4) (dNil)))) (dC (.int 1))))) (dChain leD leD (dOp mulD (dVar 1) (dVar 4)) (dVar 3) (dOp mulD (dVar 2) (dVar 4)))))))
def Wis_fraction (K : Fg) (c : Nat → Addr) : SpD := bodyD (Bis_fraction K c) N_is_fraction
theorem Eis_fraction {K : Fg} {c : Nat → Addr} {a0 a1 a2 : D} {M : Mem} {Q : QD} {Xd : XD} (h : (sSeq (sIf (tOrD (tNotD (dTru (dCB isiC (dCons (dVar 0) (dCons (dC (.ty "tuple")) (dNil)))))) (dTst (dOp neD (dCB lenC (dCons (dVar 0) (dNil))) (dC (.int 2))))) (sRet (dC (.bl false))) (sNx)) (sSeq (sAsg (dVar 0) (gTp 2 (gCo (gNm 3) (gCo (gNm 4) (gNi))))) (sSeq (sIf (tOrD (tNotD (dTru (dCB isiC (dCons (dVar 3) (dCons (dC (.ty "int")) (dNil)))))) (tOrD (dTru (dCB isiC (dCons (dVar 3) (dCons (dC (.ty "bool")) (dNil))))) (tOrD (tNotD (dTru (dCB isiC (dCons (dVar 4) (dCons (dC (.ty "int")) (dNil)))))) (dTru (dCB isiC (dCons (dVar 4) (dCons (dC (.ty "bool")) (dNil)))))))) (sRet (dC (.bl false))) (sNx)) (sRet (dAnd (dOr (dOp eqD (dVar 4) (dC (.int 1))) (dAnd (dOp gtD (dVar 4) (dC (.int 1))) (dOp eqD (dCB gcdC (dCons (dVar 3) (dCons (dVar 4) (dNil)))) (dC (.int 1))))) (dChain leD leD (dOp mulD (dVar 1) (dVar 4)) (dVar 3) (dOp mulD (dVar 2) (dVar 4)))))))) ⟨fun _ M' => Lo Q .non M', Lo Q, fun _ _ => False, fun _ _ => False, Xd⟩ [some a0, some a1, some a2, none, none] M) : Wis_fraction K c [a0, a1, a2] M Q Xd := h
def N_need_prices : List Str := ["found", "prices", "number", "thing"]
def Bneed_prices (K : Fg) (c : Nat → Addr) : TSD := sSeq (sIf (tOrD (tNotD (dTru (dCB isiC (dCons (dVar 1) (dCons (dC (.ty "tuple")) (dNil)))))) (dTst (dOp neD (dCB lenC (dCons (dVar 1) (dNil))) (dCB lenC (dCons (dVar 0) (dNil)))))) (sRaise (c 2) ["number"] (dCons (dC .non) (dNil))) (sNx)) (sSeq (sFor (iEnmB (dVar 0)) (gTp 2 (gCo (gNm 2) (gCo (gNm 3) (gNi)))) (sIf (tNotD (dTru (dCall (Wis_fraction K c) [] (dCons (dOp ixD (dVar 1) (dVar 2)) (dCons (dOp ixD (dVar 3) (dC (.int 2))) (dCons (dOp ixD (dVar 3) (dC (.int 3))) (dNil))))))) (sRaise (c 2) ["number"] (dCons (dVar 2) (dNil))) (sNx))) (sRet (dVar 1)))
def Wneed_prices (K : Fg) (c : Nat → Addr) : SpD := bodyD (Bneed_prices K c) N_need_prices
theorem Eneed_prices {K : Fg} {c : Nat → Addr} {a0 a1 : D} {M : Mem} {Q : QD} {Xd : XD} (h : (sSeq (sIf (tOrD (tNotD (dTru (dCB isiC (dCons (dVar 1) (dCons (dC (.ty "tuple")) (dNil)))))) (dTst (dOp neD (dCB lenC (dCons (dVar 1) (dNil))) (dCB lenC (dCons (dVar 0) (dNil)))))) (sRaise (c 2) ["number"] (dCons (dC .non) (dNil))) (sNx)) (sSeq (sFor (iEnmB (dVar 0)) (gTp 2 (gCo (gNm 2) (gCo (gNm 3) (gNi)))) (sIf (tNotD (dTru (dCall (Wis_fraction K c) [] (dCons (dOp ixD (dVar 1) (dVar 2)) (dCons (dOp ixD (dVar 3) (dC (.int 2))) (dCons (dOp ixD (dVar 3) (dC (.int 3))) (dNil))))))) (sRaise (c 2) ["number"] (dCons (dVar 2) (dNil))) (sNx))) (sRet (dVar 1)))) ⟨fun _ M' => Lo Q .non M', Lo Q, fun _ _ => False, fun _ _ => False, Xd⟩ [some a0, some a1, none, none] M) : Wneed_prices K c [a0, a1] M Q Xd := h
def N_are_figures : List Str := ["word", "most"]
def Bare_figures (K : Fg) (c : Nat → Addr) : TSD := sSeq (sIf (tOrD (tNotD (dTst (dChain leD leD (dC (.int 1)) (dCB lenC (dCons (dVar 0) (dNil))) (dVar 1)))) (tOrD (tNotD (dTru (dM0 (fun a => .bl (Txt.isascii a)) (dVar 0)))) (tNotD (dTru (dM0 (fun a => .bl (Txt.isdigit a)) (dVar 0)))))) (sRet (dC (.bl false))) (sNx)) (sRet (dOr (dOp eqD (dVar 0) (dC (.str "0"))) (dOp neD (dOp ixSD (dVar 0) (dC (.int 0))) (dC (.str "0")))))
def Ware_figures (K : Fg) (c : Nat → Addr) : SpD := bodyD (Bare_figures K c) N_are_figures
theorem Eare_figures {K : Fg} {c : Nat → Addr} {a0 a1 : D} {M : Mem} {Q : QD} {Xd : XD} (h : (sSeq (sIf (tOrD (tNotD (dTst (dChain leD leD (dC (.int 1)) (dCB lenC (dCons (dVar 0) (dNil))) (dVar 1)))) (tOrD (tNotD (dTru (dM0 (fun a => .bl (Txt.isascii a)) (dVar 0)))) (tNotD (dTru (dM0 (fun a => .bl (Txt.isdigit a)) (dVar 0)))))) (sRet (dC (.bl false))) (sNx)) (sRet (dOr (dOp eqD (dVar 0) (dC (.str "0"))) (dOp neD (dOp ixSD (dVar 0) (dC (.int 0))) (dC (.str "0")))))) ⟨fun _ M' => Lo Q .non M', Lo Q, fun _ _ => False, fun _ _ => False, Xd⟩ [some a0, some a1] M) : Ware_figures K c [a0, a1] M Q Xd := h
def N_are_integers : List Str := ["words", "word"]
def Bare_integers (K : Fg) (c : Nat → Addr) : TSD := sRet (dCB allC (dCons (dLc (iSeqD (dVar 0)) (gNm 1) (tYesD) (dCall (Ware_figures K c) [] (dCons (dVar 1) (dCons (dC (.int 7)) (dNil)))) [1]) (dNil)))
def Ware_integers (K : Fg) (c : Nat → Addr) : SpD := bodyD (Bare_integers K c) N_are_integers
theorem Eare_integers {K : Fg} {c : Nat → Addr} {a0 : D} {M : Mem} {Q : QD} {Xd : XD} (h : (sRet (dCB allC (dCons (dLc (iSeqD (dVar 0)) (gNm 1) (tYesD) (dCall (Ware_figures K c) [] (dCons (dVar 1) (dCons (dC (.int 7)) (dNil)))) [1]) (dNil)))) ⟨fun _ M' => Lo Q .non M', Lo Q, fun _ _ => False, fun _ _ => False, Xd⟩ [some a0, none] M) : Ware_integers K c [a0] M Q Xd := h
def N_is_told_rule : List Str := ["words", "share", "up", "down"]
def Bis_told_rule (K : Fg) (c : Nat → Addr) : TSD := sSeq (sIf (dTst (dOp neD (dCB lenC (dCons (dVar 0) (dNil))) (dC (.int 3)))) (sRet (dC (.bl false))) (sNx)) (sSeq (sAsg (dVar 0) (gTl3D (gCo (gNm 1) (gCo (gNm 2) (gCo (gNm 3) (gNi)))))) (sRet (dAnd (dCall (Ware_integers K c) [] (dCons (dLst (dCons (dVar 1) (dNil))) (dNil))) (dAnd (dCall (Wis_one_of K c) [] (dCons (dVar 2) (dCons (dTup (dCons (dC (.str "whole")) (dCons (dC (.str "own")) (dNil)))) (dNil)))) (dCall (Wis_one_of K c) [] (dCons (dVar 3) (dCons (dTup (dCons (dC (.str "own")) (dCons (dC (.str "none")) (dNil)))) (dNil))))))))
def Wis_told_rule (K : Fg) (c : Nat → Addr) : SpD := bodyD (Bis_told_rule K c) N_is_told_rule
theorem Eis_told_rule {K : Fg} {c : Nat → Addr} {a0 : D} {M : Mem} {Q : QD} {Xd : XD} (h : (sSeq (sIf (dTst (dOp neD (dCB lenC (dCons (dVar 0) (dNil))) (dC (.int 3)))) (sRet (dC (.bl false))) (sNx)) (sSeq (sAsg (dVar 0) (gTl3D (gCo (gNm 1) (gCo (gNm 2) (gCo (gNm 3) (gNi)))))) (sRet (dAnd (dCall (Ware_integers K c) [] (dCons (dLst (dCons (dVar 1) (dNil))) (dNil))) (dAnd (dCall (Wis_one_of K c) [] (dCons (dVar 2) (dCons (dTup (dCons (dC (.str "whole")) (dCons (dC (.str "own")) (dNil)))) (dNil)))) (dCall (Wis_one_of K c) [] (dCons (dVar 3) (dCons (dTup (dCons (dC (.str "own")) (dCons (dC (.str "none")) (dNil)))) (dNil))))))))) ⟨fun _ M' => Lo Q .non M', Lo Q, fun _ _ => False, fun _ _ => False, Xd⟩ [some a0, none, none, none] M) : Wis_told_rule K c [a0] M Q Xd := h
def N_fraction_text : List Str := ["fraction", "part", "of"]
def Bfraction_text (K : Fg) (c : Nat → Addr) : TSD := sSeq (sAsg (dVar 0) (gTp 2 (gCo (gNm 1) (gCo (gNm 2) (gNi))))) (sRet (dJs [dFmt (dVar 1), dC (.str "/"), dFmt (dVar 2)] Str.empty))
def Wfraction_text (K : Fg) (c : Nat → Addr) : SpD := bodyD (Bfraction_text K c) N_fraction_text
theorem Efraction_text {K : Fg} {c : Nat → Addr} {a0 : D} {M : Mem} {Q : QD} {Xd : XD} (h : (sSeq (sAsg (dVar 0) (gTp 2 (gCo (gNm 1) (gCo (gNm 2) (gNi))))) (sRet (dJs [dFmt (dVar 1), dC (.str "/"), dFmt (dVar 2)] Str.empty))) ⟨fun _ M' => Lo Q .non M', Lo Q, fun _ _ => False, fun _ _ => False, Xd⟩ [some a0, none, none] M) : Wfraction_text K c [a0] M Q Xd := h
def N_told_fraction : List Str := ["word", "figures", "some", "part", "of"]
def Btold_fraction (K : Fg) (c : Nat → Addr) : TSD := sSeq (sSet 1 (dSplit (dVar 0) (dC (.str "/")))) (sSeq (sIf (tOrD (dTst (dOp neD (dCB lenC (dCons (dVar 1) (dNil))) (dC (.int 2)))) (tNotD (dTru (dCB allC (dCons (dLc (iSeqD (dVar 1)) (gNm 2) (tYesD) (dCall (Ware_figures K c) [] (dCons (dVar 2) (dCons (dC (.int 30)) (dNil)))) [2]) (dNil)))))) (sRet (dC .non)) (sNx)) (sSeq (sPar 3 4 (dCons (dCB intSC (dCons (dOp ixD (dVar 1) (dC (.int 0))) (dNil))) (dCons (dCB intSC (dCons (dOp ixD (dVar 1) (dC (.int 1))) (dNil))) (dNil)))) (sRet (dIte (tAndD (dTst (dOp gtD (dVar 4) (dC (.int 0)))) (dTst (dOp eqD (dCB gcdC (dCons (dVar 3) (dCons (dVar 4) (dNil)))) (dC (.int 1))))) (dTup (dCons (dVar 3) (dCons (dVar 4) (dNil)))) (dC .non)))))
def Wtold_fraction (K : Fg) (c : Nat → Addr) : SpD := bodyD (Btold_fraction K c) N_told_fraction
theorem Etold_fraction {K : Fg} {c : Nat → Addr} {a0 : D} {M : Mem} {Q : QD} {Xd : XD} (h : (sSeq (sSet 1 (dSplit (dVar 0) (dC (.str "/")))) (sSeq (sIf (tOrD (dTst (dOp neD (dCB lenC (dCons (dVar 1) (dNil))) (dC (.int 2)))) (tNotD (dTru (dCB allC (dCons (dLc (iSeqD (dVar 1)) (gNm 2) (tYesD) (dCall (Ware_figures K c) [] (dCons (dVar 2) (dCons (dC (.int 30)) (dNil)))) [2]) (dNil)))))) (sRet (dC .non)) (sNx)) (sSeq (sPar 3 4 (dCons (dCB intSC (dCons (dOp ixD (dVar 1) (dC (.int 0))) (dNil))) (dCons (dCB intSC (dCons (dOp ixD (dVar 1) (dC (.int 1))) (dNil))) (dNil)))) (sRet (dIte (tAndD (dTst (dOp gtD (dVar 4) (dC (.int 0)))) (dTst (dOp eqD (dCB gcdC (dCons (dVar 3) (dCons (dVar 4) (dNil)))) (dC (.int 1))))) (dTup (dCons (dVar 3) (dCons (dVar 4) (dNil)))) (dC .non)))))) ⟨fun _ M' => Lo Q .non M', Lo Q, fun _ _ => False, fun _ _ => False, Xd⟩ [some a0, none, none, none, none] M) : Wtold_fraction K c [a0] M Q Xd := h
def N__row_of : List Str := ["thing", "points", "words", "share", "up", "down"]
def B_row_of (K : Fg) (c : Nat → Addr) : TSD := sSeq (sSet 2 (dLstO (dCons (dOp ixD (dVar 0) (dC (.int 0))) (dCons (dOp ixD (dVar 0) (dC (.int 1))) (dCons (dCB strIC (dCons (dOp ixD (dVar 0) (dC (.int 2))) (dNil))) (dCons (dCB strIC (dCons (dOp ixD (dVar 0) (dC (.int 3))) (dNil))) (dNil))))))) (sSeq (sIf (dTst (dOp eqD (dOp ixD (dVar 0) (dC (.int 0))) (dC (.str "made")))) (sSeq (sAsg (dOp ixD (dVar 0) (dC (.int 4))) (gTp 3 (gCo (gNm 3) (gCo (gNm 4) (gCo (gNm 5) (gNi)))))) (sExtN 2 (dLst (dCons (dCB strIC (dCons (dVar 3) (dNil))) (dCons (dVar 4) (dCons (dVar 5) (dNil))))))) (sNx)) (sFrz 2 (sSeq (sIf (dTst (dOp gtD (dVar 1) (dC (.int 0)))) (sSet 2 (dLstS (dCons (dOp mulD (dC (.str ".")) (dVar 1)) (dStar (dVar 2) (dNil))))) (sNx)) (sRet (dJoin (dC (.str " ")) (dVar 2))))))
def W_row_of (K : Fg) (c : Nat → Addr) : SpD := bodyD (B_row_of K c) N__row_of
theorem E_row_of {K : Fg} {c : Nat → Addr} {a0 a1 : D} {M : Mem} {Q : QD} {Xd : XD} (h : (sSeq (sSet 2 (dLstO (dCons (dOp ixD (dVar 0) (dC (.int 0))) (dCons (dOp ixD (dVar 0) (dC (.int 1))) (dCons (dCB strIC (dCons (dOp ixD (dVar 0) (dC (.int 2))) (dNil))) (dCons (dCB strIC (dCons (dOp ixD (dVar 0) (dC (.int 3))) (dNil))) (dNil))))))) (sSeq (sIf (dTst (dOp eqD (dOp ixD (dVar 0) (dC (.int 0))) (dC (.str "made")))) (sSeq (sAsg (dOp ixD (dVar 0) (dC (.int 4))) (gTp 3 (gCo (gNm 3) (gCo (gNm 4) (gCo (gNm 5) (gNi)))))) (sExtN 2 (dLst (dCons (dCB strIC (dCons (dVar 3) (dNil))) (dCons (dVar 4) (dCons (dVar 5) (dNil))))))) (sNx)) (sFrz 2 (sSeq (sIf (dTst (dOp gtD (dVar 1) (dC (.int 0)))) (sSet 2 (dLstS (dCons (dOp mulD (dC (.str ".")) (dVar 1)) (dStar (dVar 2) (dNil))))) (sNx)) (sRet (dJoin (dC (.str " ")) (dVar 2))))))) ⟨fun _ M' => Lo Q .non M', Lo Q, fun _ _ => False, fun _ _ => False, Xd⟩ [some a0, some a1, none, none, none, none] M) : W_row_of K c [a0, a1] M Q Xd := h
def N_good_text : List Str := ["good", "found", "wholes", "_", "points", "whole", "thing", "many"]
def Bgood_text (K : Fg) (c : Nat → Addr) : TSD := sSeq (sAsg (dCall (Wlook_over K c) [] (dCons (dVar 0) (dNil))) (gTp 4 (gCo (gNm 1) (gCo (gNm 2) (gCo (gNm 3) (gCo (gNm 3) (gNi))))))) (sSeq (sSet 4 (dLstO (dCons (dC (.int 0)) (dNil)))) (sSeq (sFor (iSeqD (dSl (dVar 2) (oSo (dC (.int 1))) (oNo))) (gNm 5) (sExpr (dApp (dVar 4) (dOp addD (dOp ixD (dVar 4) (dVar 5)) (dC (.int 1)))))) (sFrz 4 (sRet (dJoin (dC (.str "\n")) (dLc (iZipMD (dVar 1) (dVar 4)) (gTp 2 (gCo (gNm 6) (gCo (gNm 7) (gNi)))) (tYesD) (dCall (W_row_of K c) [] (dCons (dVar 6) (dCons (dVar 7) (dNil)))) [6, 7]))))))
def Wgood_text (K : Fg) (c : Nat → Addr) : SpD := bodyD (Bgood_text K c) N_good_text
theorem Egood_text {K : Fg} {c : Nat → Addr} {a0 : D} {M : Mem} {Q : QD} {Xd : XD} (h : (sSeq (sAsg (dCall (Wlook_over K c) [] (dCons (dVar 0) (dNil))) (gTp 4 (gCo (gNm 1) (gCo (gNm 2) (gCo (gNm 3) (gCo (gNm 3) (gNi))))))) (sSeq (sSet 4 (dLstO (dCons (dC (.int 0)) (dNil)))) (sSeq (sFor (iSeqD (dSl (dVar 2) (oSo (dC (.int 1))) (oNo))) (gNm 5) (sExpr (dApp (dVar 4) (dOp addD (dOp ixD (dVar 4) (dVar 5)) (dC (.int 1)))))) (sFrz 4 (sRet (dJoin (dC (.str "\n")) (dLc (iZipMD (dVar 1) (dVar 4)) (gTp 2 (gCo (gNm 6) (gCo (gNm 7) (gNi)))) (tYesD) (dCall (W_row_of K c) [] (dCons (dVar 6) (dCons (dVar 7) (dNil)))) [6, 7]))))))) ⟨fun _ M' => Lo Q .non M', Lo Q, fun _ _ => False, fun _ _ => False, Xd⟩ [some a0, none, none, none, none, none, none, none] M) : Wgood_text K c [a0] M Q Xd := h
def N__told_thing : List Str := ["words", "word", "land", "low", "high", "rule", "share", "up", "down"]
def B_told_thing (K : Fg) (c : Nat → Addr) : TSD := sSeq (sIf (tOrD (dTst (dOp ltD (dCB lenC (dCons (dVar 0) (dNil))) (dC (.int 4)))) (tOrD (tNotD (dTru (dCall (Wis_one_of K c) [] (dCons (dOp ixD (dVar 0) (dC (.int 1))) (dCons (dTup (dCons (dC (.str "here")) (dCons (dC (.str "away")) (dNil)))) (dNil)))))) (tNotD (dTru (dCall (Ware_integers K c) [] (dCons (dSl (dVar 0) (oSo (dC (.int 2))) (oSo (dC (.int 4)))) (dNil))))))) (sRet (dC .non)) (sNx)) (sSeq (sAsg (dVar 0) (gSt4D (gCo (gNm 1) (gCo (gNm 2) (gCo (gNm 3) (gCo (gNm 4) (gCo (gNm 5) gNi))))))) (sSeq (sIf (tAndD (dTst (dOp eqD (dVar 1) (dC (.str "raw")))) (dTst (dOp eqD (dCB lenC (dCons (dVar 5) (dNil))) (dC (.int 0))))) (sRet (dTup (dCons (dVar 1) (dCons (dVar 2) (dCons (dCB intSC (dCons (dVar 3) (dNil))) (dCons (dCB intSC (dCons (dVar 4) (dNil))) (dNil))))))) (sNx)) (sSeq (sIf (tAndD (dTst (dOp eqD (dVar 1) (dC (.str "made")))) (dTru (dCall (Wis_told_rule K c) [] (dCons (dVar 5) (dNil))))) (sSeq (sAsg (dVar 5) (gTl3D (gCo (gNm 6) (gCo (gNm 7) (gCo (gNm 8) (gNi)))))) (sRet (dTup (dCons (dVar 1) (dCons (dVar 2) (dCons (dCB intSC (dCons (dVar 3) (dNil))) (dCons (dCB intSC (dCons (dVar 4) (dNil))) (dCons (dTup (dCons (dCB intSC (dCons (dVar 6) (dNil))) (dCons (dVar 7) (dCons (dVar 8) (dNil))))) (dNil))))))))) (sNx)) (sRet (dC .non)))))
def W_told_thing (K : Fg) (c : Nat → Addr) : SpD := bodyD (B_told_thing K c) N__told_thing
theorem E_told_thing {K : Fg} {c : Nat → Addr} {a0 : D} {M : Mem} {Q : QD} {Xd : XD} (h : (sSeq (sIf (tOrD (dTst (dOp ltD (dCB lenC (dCons (dVar 0) (dNil))) (dC (.int 4)))) (tOrD (tNotD (dTru (dCall (Wis_one_of K c) [] (dCons (dOp ixD (dVar 0) (dC (.int 1))) (dCons (dTup (dCons (dC (.str "here")) (dCons (dC (.str "away")) (dNil)))) (dNil)))))) (tNotD (dTru (dCall (Ware_integers K c) [] (dCons (dSl (dVar 0) (oSo (dC (.int 2))) (oSo (dC (.int 4)))) (dNil))))))) (sRet (dC .non)) (sNx)) (sSeq (sAsg (dVar 0) (gSt4D (gCo (gNm 1) (gCo (gNm 2) (gCo (gNm 3) (gCo (gNm 4) (gCo (gNm 5) gNi))))))) (sSeq (sIf (tAndD (dTst (dOp eqD (dVar 1) (dC (.str "raw")))) (dTst (dOp eqD (dCB lenC (dCons (dVar 5) (dNil))) (dC (.int 0))))) (sRet (dTup (dCons (dVar 1) (dCons (dVar 2) (dCons (dCB intSC (dCons (dVar 3) (dNil))) (dCons (dCB intSC (dCons (dVar 4) (dNil))) (dNil))))))) (sNx)) (sSeq (sIf (tAndD (dTst (dOp eqD (dVar 1) (dC (.str "made")))) (dTru (dCall (Wis_told_rule K c) [] (dCons (dVar 5) (dNil))))) (sSeq (sAsg (dVar 5) (gTl3D (gCo (gNm 6) (gCo (gNm 7) (gCo (gNm 8) (gNi)))))) (sRet (dTup (dCons (dVar 1) (dCons (dVar 2) (dCons (dCB intSC (dCons (dVar 3) (dNil))) (dCons (dCB intSC (dCons (dVar 4) (dNil))) (dCons (dTup (dCons (dCB intSC (dCons (dVar 6) (dNil))) (dCons (dVar 7) (dCons (dVar 8) (dNil))))) (dNil))))))))) (sNx)) (sRet (dC .non)))))) ⟨fun _ M' => Lo Q .non M', Lo Q, fun _ _ => False, fun _ _ => False, Xd⟩ [some a0, none, none, none, none, none, none, none, none] M) : W_told_thing K c [a0] M Q Xd := h
def N__told_row : List Str := ["row", "words", "points", "thing"]
def B_told_row (K : Fg) (c : Nat → Addr) : TSD := sSeq (sSet 1 (dSplit (dVar 0) (dC (.str " ")))) (sSeq (sSet 2 (dCB lenC (dCons (dOp ixD (dVar 1) (dC (.int 0))) (dNil)))) (sSeq (sIf (tAndD (dTst (dOp gtD (dVar 2) (dC (.int 0)))) (dTst (dOp eqD (dOp ixD (dVar 1) (dC (.int 0))) (dOp mulD (dC (.str ".")) (dVar 2))))) (sSet 1 (dSl (dVar 1) (oSo (dC (.int 1))) (oNo))) (sSet 2 (dC (.int 0)))) (sSeq (sSet 3 (dCall (W_told_thing K c) [] (dCons (dVar 1) (dNil)))) (sRet (dIte (dTst (dOp isD (dVar 3) (dC .non))) (dC .non) (dTup (dCons (dVar 2) (dCons (dVar 3) (dNil)))))))))
def W_told_row (K : Fg) (c : Nat → Addr) : SpD := bodyD (B_told_row K c) N__told_row
theorem E_told_row {K : Fg} {c : Nat → Addr} {a0 : D} {M : Mem} {Q : QD} {Xd : XD} (h : (sSeq (sSet 1 (dSplit (dVar 0) (dC (.str " ")))) (sSeq (sSet 2 (dCB lenC (dCons (dOp ixD (dVar 1) (dC (.int 0))) (dNil)))) (sSeq (sIf (tAndD (dTst (dOp gtD (dVar 2) (dC (.int 0)))) (dTst (dOp eqD (dOp ixD (dVar 1) (dC (.int 0))) (dOp mulD (dC (.str ".")) (dVar 2))))) (sSet 1 (dSl (dVar 1) (oSo (dC (.int 1))) (oNo))) (sSet 2 (dC (.int 0)))) (sSeq (sSet 3 (dCall (W_told_thing K c) [] (dCons (dVar 1) (dNil)))) (sRet (dIte (dTst (dOp isD (dVar 3) (dC .non))) (dC .non) (dTup (dCons (dVar 2) (dCons (dVar 3) (dNil)))))))))) ⟨fun _ M' => Lo Q .non M', Lo Q, fun _ _ => False, fun _ _ => False, Xd⟩ [some a0, none, none, none] M) : W_told_row K c [a0] M Q Xd := h
def N__may_follow : List Str := ["rows", "points", "ahead", "thing"]
def B_may_follow (K : Fg) (c : Nat → Addr) : TSD := sSeq (sIf (dTst (dOp eqD (dCB lenC (dCons (dVar 0) (dNil))) (dC (.int 0)))) (sRet (dOp eqD (dVar 1) (dC (.int 0)))) (sNx)) (sSeq (sAsg (dOp ixD (dVar 0) (dNeg (dC (.int 1)))) (gTp 2 (gCo (gNm 2) (gCo (gNm 3) (gNi))))) (sRet (dChain leD leD (dC (.int 1)) (dVar 1) (dIte (dTst (dOp eqD (dOp ixD (dVar 3) (dC (.int 0))) (dC (.str "made")))) (dOp addD (dVar 2) (dC (.int 1))) (dVar 2)))))
def W_may_follow (K : Fg) (c : Nat → Addr) : SpD := bodyD (B_may_follow K c) N__may_follow
theorem E_may_follow {K : Fg} {c : Nat → Addr} {a0 a1 : D} {M : Mem} {Q : QD} {Xd : XD} (h : (sSeq (sIf (dTst (dOp eqD (dCB lenC (dCons (dVar 0) (dNil))) (dC (.int 0)))) (sRet (dOp eqD (dVar 1) (dC (.int 0)))) (sNx)) (sSeq (sAsg (dOp ixD (dVar 0) (dNeg (dC (.int 1)))) (gTp 2 (gCo (gNm 2) (gCo (gNm 3) (gNi))))) (sRet (dChain leD leD (dC (.int 1)) (dVar 1) (dIte (dTst (dOp eqD (dOp ixD (dVar 3) (dC (.int 0))) (dC (.str "made")))) (dOp addD (dVar 2) (dC (.int 1))) (dVar 2)))))) ⟨fun _ M' => Lo Q .non M', Lo Q, fun _ _ => False, fun _ _ => False, Xd⟩ [some a0, some a1, none, none] M) : W_may_follow K c [a0, a1] M Q Xd := h
def N__built : List Str := ["rows", "waiting", "points", "thing", "inside"]
def B_built (K : Fg) (c : Nat → Addr) : TSD := sSeq (sSet 1 (dDctN)) (sSeq (sFor (iRevSD (dVar 0)) (gTp 2 (gCo (gNm 2) (gCo (gNm 3) (gNi)))) (sSeq (sSet 4 (dPop2 (dVar 1) (dOp addD (dVar 2) (dC (.int 1))) (dLstO (dNil)))) (sSeq (sExpr (dRvs (dVar 4))) (sExpr (dApp (dSetd (dVar 1) (dVar 2) (dLstO (dNil))) (dIte (dTst (dOp eqD (dOp ixD (dVar 3) (dC (.int 0))) (dC (.str "made")))) (dTupS (dStar (dVar 3) (dCons (dCB tupleC (dCons (dVar 4) (dNil))) (dNil)))) (dVar 3))))))) (sRet (dOp ixD (dOp ixD (dVar 1) (dC (.int 0))) (dC (.int 0)))))
def W_built (K : Fg) (c : Nat → Addr) : SpD := bodyD (B_built K c) N__built
theorem E_built {K : Fg} {c : Nat → Addr} {a0 : D} {M : Mem} {Q : QD} {Xd : XD} (h : (sSeq (sSet 1 (dDctN)) (sSeq (sFor (iRevSD (dVar 0)) (gTp 2 (gCo (gNm 2) (gCo (gNm 3) (gNi)))) (sSeq (sSet 4 (dPop2 (dVar 1) (dOp addD (dVar 2) (dC (.int 1))) (dLstO (dNil)))) (sSeq (sExpr (dRvs (dVar 4))) (sExpr (dApp (dSetd (dVar 1) (dVar 2) (dLstO (dNil))) (dIte (dTst (dOp eqD (dOp ixD (dVar 3) (dC (.int 0))) (dC (.str "made")))) (dTupS (dStar (dVar 3) (dCons (dCB tupleC (dCons (dVar 4) (dNil))) (dNil)))) (dVar 3))))))) (sRet (dOp ixD (dOp ixD (dVar 1) (dC (.int 0))) (dC (.int 0)))))) ⟨fun _ M' => Lo Q .non M', Lo Q, fun _ _ => False, fun _ _ => False, Xd⟩ [some a0, none, none, none, none] M) : W_built K c [a0] M Q Xd := h
def N_read_good : List Str := ["string", "rows", "at", "row", "told"]
def Bread_good (K : Fg) (c : Nat → Addr) : TSD := sSeq (sIf (tNotD (dTru (dCB isiC (dCons (dVar 0) (dCons (dC (.ty "str")) (dNil)))))) (sRaise (c 3) ["line"] (dCons (dC (.int 0)) (dNil))) (sNx)) (sSeq (sSet 1 (dLstO (dNil))) (sSeq (sFor (iEnmB (dSplit (dVar 0) (dC (.str "\n")))) (gTp 2 (gCo (gNm 2) (gCo (gNm 3) (gNi)))) (sSeq (sSet 4 (dCall (W_told_row K c) [] (dCons (dVar 3) (dNil)))) (sSeq (sIf (tOrD (dTst (dOp isD (dVar 4) (dC .non))) (tNotD (dTru (dCall (W_may_follow K c) [] (dCons (dVar 1) (dCons (dOp ixD (dVar 4) (dC (.int 0))) (dNil))))))) (sRaise (c 3) ["line"] (dCons (dOp addD (dVar 2) (dC (.int 1))) (dNil))) (sNx)) (sExpr (dApp (dVar 1) (dVar 4)))))) (sFrz 1 (sRet (dCall (Wneed_good K c) [] (dCons (dCall (W_built K c) [] (dCons (dVar 1) (dNil))) (dNil)))))))
def Wread_good (K : Fg) (c : Nat → Addr) : SpD := bodyD (Bread_good K c) N_read_good
theorem Eread_good {K : Fg} {c : Nat → Addr} {a0 : D} {M : Mem} {Q : QD} {Xd : XD} (h : (sSeq (sIf (tNotD (dTru (dCB isiC (dCons (dVar 0) (dCons (dC (.ty "str")) (dNil)))))) (sRaise (c 3) ["line"] (dCons (dC (.int 0)) (dNil))) (sNx)) (sSeq (sSet 1 (dLstO (dNil))) (sSeq (sFor (iEnmB (dSplit (dVar 0) (dC (.str "\n")))) (gTp 2 (gCo (gNm 2) (gCo (gNm 3) (gNi)))) (sSeq (sSet 4 (dCall (W_told_row K c) [] (dCons (dVar 3) (dNil)))) (sSeq (sIf (tOrD (dTst (dOp isD (dVar 4) (dC .non))) (tNotD (dTru (dCall (W_may_follow K c) [] (dCons (dVar 1) (dCons (dOp ixD (dVar 4) (dC (.int 0))) (dNil))))))) (sRaise (c 3) ["line"] (dCons (dOp addD (dVar 2) (dC (.int 1))) (dNil))) (sNx)) (sExpr (dApp (dVar 1) (dVar 4)))))) (sFrz 1 (sRet (dCall (Wneed_good K c) [] (dCons (dCall (W_built K c) [] (dCons (dVar 1) (dNil))) (dNil)))))))) ⟨fun _ M' => Lo Q .non M', Lo Q, fun _ _ => False, fun _ _ => False, Xd⟩ [some a0, none, none, none, none] M) : Wread_good K c [a0] M Q Xd := h
def N_prices_text : List Str := ["good", "prices", "found", "_", "price"]
def Bprices_text (K : Fg) (c : Nat → Addr) : TSD := sSeq (sAsg (dCall (Wlook_over K c) [] (dCons (dVar 0) (dNil))) (gTp 4 (gCo (gNm 2) (gCo (gNm 3) (gCo (gNm 3) (gCo (gNm 3) (gNi))))))) (sRet (dJoin (dC (.str " ")) (dLc (iSeqD (dCall (Wneed_prices K c) [] (dCons (dVar 2) (dCons (dVar 1) (dNil))))) (gNm 4) (tYesD) (dCall (Wfraction_text K c) [] (dCons (dVar 4) (dNil))) [4])))
def Wprices_text (K : Fg) (c : Nat → Addr) : SpD := bodyD (Bprices_text K c) N_prices_text
theorem Eprices_text {K : Fg} {c : Nat → Addr} {a0 a1 : D} {M : Mem} {Q : QD} {Xd : XD} (h : (sSeq (sAsg (dCall (Wlook_over K c) [] (dCons (dVar 0) (dNil))) (gTp 4 (gCo (gNm 2) (gCo (gNm 3) (gCo (gNm 3) (gCo (gNm 3) (gNi))))))) (sRet (dJoin (dC (.str " ")) (dLc (iSeqD (dCall (Wneed_prices K c) [] (dCons (dVar 2) (dCons (dVar 1) (dNil))))) (gNm 4) (tYesD) (dCall (Wfraction_text K c) [] (dCons (dVar 4) (dNil))) [4])))) ⟨fun _ M' => Lo Q .non M', Lo Q, fun _ _ => False, fun _ _ => False, Xd⟩ [some a0, some a1, none, none, none] M) : Wprices_text K c [a0, a1] M Q Xd := h
def N_read_prices : List Str := ["good", "string", "found", "_", "prices", "word"]
def Bread_prices (K : Fg) (c : Nat → Addr) : TSD := sSeq (sAsg (dCall (Wlook_over K c) [] (dCons (dVar 0) (dNil))) (gTp 4 (gCo (gNm 2) (gCo (gNm 3) (gCo (gNm 3) (gCo (gNm 3) (gNi))))))) (sSeq (sIf (tNotD (dTru (dCB isiC (dCons (dVar 1) (dCons (dC (.ty "str")) (dNil)))))) (sRaise (c 3) ["line"] (dCons (dC (.int 0)) (dNil))) (sNx)) (sSeq (sSet 4 (dLc (iSeqD (dSplit (dVar 1) (dC (.str " ")))) (gNm 5) (tYesD) (dCall (Wtold_fraction K c) [] (dCons (dVar 5) (dNil))) [5])) (sSeq (sIf (tOrD (dTst (dOp neD (dCB lenC (dCons (dVar 4) (dNil))) (dCB lenC (dCons (dVar 2) (dNil))))) (dTst (dOp inPD (dC .non) (dVar 4)))) (sRaise (c 3) ["line"] (dCons (dC (.int 1)) (dNil))) (sNx)) (sRet (dCall (Wneed_prices K c) [] (dCons (dVar 2) (dCons (dCB tupleC (dCons (dVar 4) (dNil))) (dNil))))))))
def Wread_prices (K : Fg) (c : Nat → Addr) : SpD := bodyD (Bread_prices K c) N_read_prices
theorem Eread_prices {K : Fg} {c : Nat → Addr} {a0 a1 : D} {M : Mem} {Q : QD} {Xd : XD} (h : (sSeq (sAsg (dCall (Wlook_over K c) [] (dCons (dVar 0) (dNil))) (gTp 4 (gCo (gNm 2) (gCo (gNm 3) (gCo (gNm 3) (gCo (gNm 3) (gNi))))))) (sSeq (sIf (tNotD (dTru (dCB isiC (dCons (dVar 1) (dCons (dC (.ty "str")) (dNil)))))) (sRaise (c 3) ["line"] (dCons (dC (.int 0)) (dNil))) (sNx)) (sSeq (sSet 4 (dLc (iSeqD (dSplit (dVar 1) (dC (.str " ")))) (gNm 5) (tYesD) (dCall (Wtold_fraction K c) [] (dCons (dVar 5) (dNil))) [5])) (sSeq (sIf (tOrD (dTst (dOp neD (dCB lenC (dCons (dVar 4) (dNil))) (dCB lenC (dCons (dVar 2) (dNil))))) (dTst (dOp inPD (dC .non) (dVar 4)))) (sRaise (c 3) ["line"] (dCons (dC (.int 1)) (dNil))) (sNx)) (sRet (dCall (Wneed_prices K c) [] (dCons (dVar 2) (dCons (dCB tupleC (dCons (dVar 4) (dNil))) (dNil))))))))) ⟨fun _ M' => Lo Q .non M', Lo Q, fun _ _ => False, fun _ _ => False, Xd⟩ [some a0, some a1, none, none, none, none] M) : Wread_prices K c [a0, a1] M Q Xd := h
def N__law_begun : List Str := ["script", "great", "cell"]
def B_law_begun (K : Fg) (c : Nat → Addr) : TSD := sSeq (sSet 1 (dLc (iSeqD (dVar 0)) (gNm 2) (dTst (dOp geD (dVar 2) (dOp powD (dC (.int 10)) (dC (.int 18))))) (dVar 2) [2])) (sRet (dDct [(.inr "cells", dOp addD (dCB listC (dCons (dVar 0) (dNil))) (dLst (dCons (dCB lenC (dCons (dVar 0) (dNil))) (dNil)))), (.inr "left", dIte (dTst (dOp neD (dVar 1) (dLst (dNil)))) (dOp ixD (dVar 1) (dC (.int 0))) (dC (.int 0))), (.inr "spot", dC (.int 0))]))
def W_law_begun (K : Fg) (c : Nat → Addr) : SpD := bodyD (B_law_begun K c) N__law_begun
theorem E_law_begun {K : Fg} {c : Nat → Addr} {a0 : D} {M : Mem} {Q : QD} {Xd : XD} (h : (sSeq (sSet 1 (dLc (iSeqD (dVar 0)) (gNm 2) (dTst (dOp geD (dVar 2) (dOp powD (dC (.int 10)) (dC (.int 18))))) (dVar 2) [2])) (sRet (dDct [(.inr "cells", dOp addD (dCB listC (dCons (dVar 0) (dNil))) (dLst (dCons (dCB lenC (dCons (dVar 0) (dNil))) (dNil)))), (.inr "left", dIte (dTst (dOp neD (dVar 1) (dLst (dNil)))) (dOp ixD (dVar 1) (dC (.int 0))) (dC (.int 0))), (.inr "spot", dC (.int 0))]))) ⟨fun _ M' => Lo Q .non M', Lo Q, fun _ _ => False, fun _ _ => False, Xd⟩ [some a0, none, none] M) : W_law_begun K c [a0] M Q Xd := h
def N__law_draw : List Str := ["m", "limit", "found", "spot", "cell", "mixed"]
def B_law_draw (K : Fg) (c : Nat → Addr) : TSD := sSeq (sIf (dTst (dOp gtD (dOp ixD (dVar 0) (dC (.str "left"))) (dC (.int 0)))) (sSeq (sSet 2 (dOp modD (dCB intC (dCons (dOp ixD (dVar 0) (dC (.str "left"))) (dNil))) (dVar 1))) (sSeq (sAsg (dOp fdivD (dOp ixD (dVar 0) (dC (.str "left"))) (dVar 1)) (gSb (dVar 0) (dC (.str "left")))) (sRet (dVar 2)))) (sNx)) (sSeq (sSet 3 (dOp addD (dOp ixD (dVar 0) (dC (.str "spot"))) (dC (.int 1)))) (sSeq (sAsg (dVar 3) (gSb (dVar 0) (dC (.str "spot")))) (sSeq (sSet 4 (dOp ixD (dOp ixD (dVar 0) (dC (.str "cells"))) (dOp modD (dCB intC (dCons (dVar 3) (dNil))) (dCB lenC (dCons (dOp ixD (dVar 0) (dC (.str "cells"))) (dNil)))))) (sSeq (sSet 5 (dOp mulD (dCB intC (dCons (dOp addD (dOp addD (dOp modD (dCB intC (dCons (dVar 4) (dNil))) (dC (.int 2147483629))) (dOp mulD (dC (.int 6133)) (dVar 3))) (dOp mulD (dOp mulD (dC (.int 23)) (dVar 3)) (dVar 3))) (dNil))) (dC (.int 48271)))) (sSeq (sSet 5 (dOp mulD (dCB intC (dCons (dOp addD (dOp modD (dCB intC (dCons (dVar 5) (dNil))) (dC (.int 2147483647))) (dOp mulD (dC (.int 93241)) (dVar 3))) (dNil))) (dC (.int 69621)))) (sRet (dOp modD (dCB intC (dCons (dOp fdivD (dOp modD (dCB intC (dCons (dVar 5) (dNil))) (dC (.int 2147483587))) (dC (.int 13))) (dNil))) (dVar 1))))))))
def W_law_draw (K : Fg) (c : Nat → Addr) : SpD := bodyD (B_law_draw K c) N__law_draw
def N__law_of : List Str := ["m", "some"]
def B_law_of (K : Fg) (c : Nat → Addr) : TSD := sRet (dOp ixD (dVar 1) (dCall (W_law_draw K c) [] (dCons (dVar 0) (dCons (dCB lenC (dCons (dVar 1) (dNil))) (dNil)))))
def W_law_of (K : Fg) (c : Nat → Addr) : SpD := bodyD (B_law_of K c) N__law_of
theorem E_law_of {K : Fg} {c : Nat → Addr} {a0 a1 : D} {M : Mem} {Q : QD} {Xd : XD} (h : (sRet (dOp ixD (dVar 1) (dCall (W_law_draw K c) [] (dCons (dVar 0) (dCons (dCB lenC (dCons (dVar 1) (dNil))) (dNil)))))) ⟨fun _ M' => Lo Q .non M', Lo Q, fun _ _ => False, fun _ _ => False, Xd⟩ [some a0, some a1] M) : W_law_of K c [a0, a1] M Q Xd := h
def N__law_span : List Str := ["m", "left", "low"]
def B_law_span (K : Fg) (c : Nat → Addr) : TSD := sSeq (sSet 2 (dCall (W_law_of K c) [] (dCons (dVar 0) (dCons (dLst (dCons (dC (.int 0)) (dCons (dC (.int 1)) (dCons (dC (.int 2)) (dCons (dC (.int 5)) (dCons (dC (.int 10)) (dCons (dCall (W_law_draw K c) [] (dCons (dVar 0) (dCons (dC (.int 50)) (dNil)))) (dCons (dCall (W_law_draw K c) [] (dCons (dVar 0) (dCons (dOp subD (dOp powD (dC (.int 10)) (dC (.int 6))) (dC (.int 40))) (dNil)))) (dNil))))))))) (dNil))))) (sSeq (sIf (tOrD (dTst (dOp eqD (dOp ixD (dVar 1) (dC (.str "moves"))) (dC (.int 0)))) (dTst (dOp eqD (dCall (W_law_draw K c) [] (dCons (dVar 0) (dCons (dC (.int 2)) (dNil)))) (dC (.int 0))))) (sRet (dTup (dCons (dVar 2) (dCons (dVar 2) (dNil))))) (sNx)) (sSeq (sAsg (dOp subD (dOp ixD (dVar 1) (dC (.str "moves"))) (dC (.int 1))) (gSb (dVar 1) (dC (.str "moves")))) (sRet (dTup (dCons (dVar 2) (dCons (dOp addD (dOp addD (dVar 2) (dC (.int 1))) (dCall (W_law_of K c) [] (dCons (dVar 0) (dCons (dLst (dCons (dC (.int 0)) (dCons (dC (.int 1)) (dCons (dCall (W_law_draw K c) [] (dCons (dVar 0) (dCons (dC (.int 30)) (dNil)))) (dNil))))) (dNil))))) (dNil)))))))
def W_law_span (K : Fg) (c : Nat → Addr) : SpD := bodyD (B_law_span K c) N__law_span
theorem E_law_span {K : Fg} {c : Nat → Addr} {a0 a1 : D} {M : Mem} {Q : QD} {Xd : XD} (h : (sSeq (sSet 2 (dCall (W_law_of K c) [] (dCons (dVar 0) (dCons (dLst (dCons (dC (.int 0)) (dCons (dC (.int 1)) (dCons (dC (.int 2)) (dCons (dC (.int 5)) (dCons (dC (.int 10)) (dCons (dCall (W_law_draw K c) [] (dCons (dVar 0) (dCons (dC (.int 50)) (dNil)))) (dCons (dCall (W_law_draw K c) [] (dCons (dVar 0) (dCons (dOp subD (dOp powD (dC (.int 10)) (dC (.int 6))) (dC (.int 40))) (dNil)))) (dNil))))))))) (dNil))))) (sSeq (sIf (tOrD (dTst (dOp eqD (dOp ixD (dVar 1) (dC (.str "moves"))) (dC (.int 0)))) (dTst (dOp eqD (dCall (W_law_draw K c) [] (dCons (dVar 0) (dCons (dC (.int 2)) (dNil)))) (dC (.int 0))))) (sRet (dTup (dCons (dVar 2) (dCons (dVar 2) (dNil))))) (sNx)) (sSeq (sAsg (dOp subD (dOp ixD (dVar 1) (dC (.str "moves"))) (dC (.int 1))) (gSb (dVar 1) (dC (.str "moves")))) (sRet (dTup (dCons (dVar 2) (dCons (dOp addD (dOp addD (dVar 2) (dC (.int 1))) (dCall (W_law_of K c) [] (dCons (dVar 0) (dCons (dLst (dCons (dC (.int 0)) (dCons (dC (.int 1)) (dCons (dCall (W_law_draw K c) [] (dCons (dVar 0) (dCons (dC (.int 30)) (dNil)))) (dNil))))) (dNil))))) (dNil)))))))) ⟨fun _ M' => Lo Q .non M', Lo Q, fun _ _ => False, fun _ _ => False, Xd⟩ [some a0, some a1, none] M) : W_law_span K c [a0, a1] M Q Xd := h
def N__law_term : List Str := ["m", "share"]
def B_law_term (K : Fg) (c : Nat → Addr) : TSD := sSeq (sSet 1 (dCall (W_law_of K c) [] (dCons (dVar 0) (dCons (dLst (dCons (dC (.int 0)) (dCons (dC (.int 30)) (dCons (dC (.int 50)) (dCons (dC (.int 60)) (dCons (dC (.int 100)) (dCons (dCall (W_law_draw K c) [] (dCons (dVar 0) (dCons (dC (.int 101)) (dNil)))) (dNil)))))))) (dNil))))) (sRet (dTup (dCons (dVar 1) (dCons (dCall (W_law_of K c) [] (dCons (dVar 0) (dCons (dLst (dCons (dC (.str "whole")) (dCons (dC (.str "whole")) (dCons (dC (.str "own")) (dNil))))) (dNil)))) (dCons (dCall (W_law_of K c) [] (dCons (dVar 0) (dCons (dLst (dCons (dC (.str "own")) (dCons (dC (.str "own")) (dCons (dC (.str "none")) (dNil))))) (dNil)))) (dNil))))))
def W_law_term (K : Fg) (c : Nat → Addr) : SpD := bodyD (B_law_term K c) N__law_term
theorem E_law_term {K : Fg} {c : Nat → Addr} {a0 : D} {M : Mem} {Q : QD} {Xd : XD} (h : (sSeq (sSet 1 (dCall (W_law_of K c) [] (dCons (dVar 0) (dCons (dLst (dCons (dC (.int 0)) (dCons (dC (.int 30)) (dCons (dC (.int 50)) (dCons (dC (.int 60)) (dCons (dC (.int 100)) (dCons (dCall (W_law_draw K c) [] (dCons (dVar 0) (dCons (dC (.int 101)) (dNil)))) (dNil)))))))) (dNil))))) (sRet (dTup (dCons (dVar 1) (dCons (dCall (W_law_of K c) [] (dCons (dVar 0) (dCons (dLst (dCons (dC (.str "whole")) (dCons (dC (.str "whole")) (dCons (dC (.str "own")) (dNil))))) (dNil)))) (dCons (dCall (W_law_of K c) [] (dCons (dVar 0) (dCons (dLst (dCons (dC (.str "own")) (dCons (dC (.str "own")) (dCons (dC (.str "none")) (dNil))))) (dNil)))) (dNil))))))) ⟨fun _ M' => Lo Q .non M', Lo Q, fun _ _ => False, fun _ _ => False, Xd⟩ [some a0, none] M) : W_law_term K c [a0] M Q Xd := h
def N__law_thing : List Str := ["m", "left", "must", "low", "high", "land", "size", "rows", "k"]
def B_law_thing (K : Fg) (c : Nat → Addr) (self : SpD) : TSD := sSeq (sAsg (dCall (W_law_span K c) [] (dCons (dVar 0) (dCons (dVar 1) (dNil)))) (gTp 2 (gCo (gNm 3) (gCo (gNm 4) (gNi))))) (sSeq (sSet 5 (dCall (W_law_of K c) [] (dCons (dVar 0) (dCons (dLst (dCons (dC (.str "here")) (dCons (dC (.str "away")) (dNil)))) (dNil))))) (sSeq (sIf (tAndD (tNotD (dTru (dVar 2))) (tOrD (dTst (dOp eqD (dOp ixD (dVar 1) (dC (.str "steps"))) (dC (.int 0)))) (tOrD (dTst (dOp eqD (dOp ixD (dVar 1) (dC (.str "things"))) (dC (.int 0)))) (dTst (dOp gtD (dCall (W_law_draw K c) [] (dCons (dVar 0) (dCons (dC (.int 3)) (dNil)))) (dC (.int 0))))))) (sRet (dTup (dCons (dC (.str "raw")) (dCons (dVar 5) (dCons (dVar 3) (dCons (dVar 4) (dNil))))))) (sNx)) (sSeq (sAsg (dOp subD (dOp ixD (dVar 1) (dC (.str "steps"))) (dC (.int 1))) (gSb (dVar 1) (dC (.str "steps")))) (sSeq (sSet 6 (dOp addD (dC (.int 1)) (dCall (W_law_draw K c) [] (dCons (dVar 0) (dCons (dCB (int2C (fun i j => if j < i then j else i)) (dCons (dC (.int 3)) (dCons (dOp ixD (dVar 1) (dC (.str "things"))) (dNil)))) (dNil)))))) (sSeq (sAsg (dTup (dCons (dOp subD (dOp ixD (dVar 1) (dC (.str "things"))) (dVar 6)) (dCons (dLstO (dNil)) (dNil)))) (gTp 2 (gCo (gSb (dVar 1) (dC (.str "things"))) (gCo (gNm 7) (gNi))))) (sSeq (sFor (iRngD (dCons (dVar 6) (dNil))) (gNm 8) (sExpr (dApp (dVar 7) (dCall self [] (dCons (dVar 0) (dCons (dVar 1) (dCons (dC (.bl false)) (dNil)))))))) (sRet (dTup (dCons (dC (.str "made")) (dCons (dVar 5) (dCons (dVar 3) (dCons (dVar 4) (dCons (dCall (W_law_term K c) [] (dCons (dVar 0) (dNil))) (dCons (dCB tupleC (dCons (dVar 7) (dNil))) (dNil)))))))))))))))
def W_law_thing (K : Fg) (c : Nat → Addr) : Nat → SpD
  | 0 => fun _ _ _ _ => False
  | n + 1 => bodyD (B_law_thing K c (W_law_thing K c n)) N__law_thing
theorem E_law_thing {K : Fg} {c : Nat → Addr} {a0 a1 a2 : D} {n : Nat} {M : Mem} {Q : QD} {Xd : XD} (h : (sSeq (sAsg (dCall (W_law_span K c) [] (dCons (dVar 0) (dCons (dVar 1) (dNil)))) (gTp 2 (gCo (gNm 3) (gCo (gNm 4) (gNi))))) (sSeq (sSet 5 (dCall (W_law_of K c) [] (dCons (dVar 0) (dCons (dLst (dCons (dC (.str "here")) (dCons (dC (.str "away")) (dNil)))) (dNil))))) (sSeq (sIf (tAndD (tNotD (dTru (dVar 2))) (tOrD (dTst (dOp eqD (dOp ixD (dVar 1) (dC (.str "steps"))) (dC (.int 0)))) (tOrD (dTst (dOp eqD (dOp ixD (dVar 1) (dC (.str "things"))) (dC (.int 0)))) (dTst (dOp gtD (dCall (W_law_draw K c) [] (dCons (dVar 0) (dCons (dC (.int 3)) (dNil)))) (dC (.int 0))))))) (sRet (dTup (dCons (dC (.str "raw")) (dCons (dVar 5) (dCons (dVar 3) (dCons (dVar 4) (dNil))))))) (sNx)) (sSeq (sAsg (dOp subD (dOp ixD (dVar 1) (dC (.str "steps"))) (dC (.int 1))) (gSb (dVar 1) (dC (.str "steps")))) (sSeq (sSet 6 (dOp addD (dC (.int 1)) (dCall (W_law_draw K c) [] (dCons (dVar 0) (dCons (dCB (int2C (fun i j => if j < i then j else i)) (dCons (dC (.int 3)) (dCons (dOp ixD (dVar 1) (dC (.str "things"))) (dNil)))) (dNil)))))) (sSeq (sAsg (dTup (dCons (dOp subD (dOp ixD (dVar 1) (dC (.str "things"))) (dVar 6)) (dCons (dLstO (dNil)) (dNil)))) (gTp 2 (gCo (gSb (dVar 1) (dC (.str "things"))) (gCo (gNm 7) (gNi))))) (sSeq (sFor (iRngD (dCons (dVar 6) (dNil))) (gNm 8) (sExpr (dApp (dVar 7) (dCall (W_law_thing K c n) [] (dCons (dVar 0) (dCons (dVar 1) (dCons (dC (.bl false)) (dNil)))))))) (sRet (dTup (dCons (dC (.str "made")) (dCons (dVar 5) (dCons (dVar 3) (dCons (dVar 4) (dCons (dCall (W_law_term K c) [] (dCons (dVar 0) (dNil))) (dCons (dCB tupleC (dCons (dVar 7) (dNil))) (dNil)))))))))))))))) ⟨fun _ M' => Lo Q .non M', Lo Q, fun _ _ => False, fun _ _ => False, Xd⟩ [some a0, some a1, some a2, none, none, none, none, none, none] M) : W_law_thing K c (n + 1) [a0, a1, a2] M Q Xd := h
def N__law_good : List Str := ["m", "moving", "making", "left", "found"]
def B_law_good (K : Fg) (c : Nat → Addr) : TSD := sSeq (sSet 3 (dDct [(.inr "moves", dCall (W_law_draw K c) [] (dCons (dVar 0) (dCons (dOp addD (dVar 1) (dC (.int 1))) (dNil)))), (.inr "steps", dOp addD (dC (.int 1)) (dCall (W_law_draw K c) [] (dCons (dVar 0) (dCons (dVar 2) (dNil))))), (.inr "things", dC (.int 9))])) (sSeq (sSet 4 (dCall (W_law_thing K c 8) [] (dCons (dVar 0) (dCons (dVar 3) (dCons (dC (.bl true)) (dNil)))))) (sRet (dOp addD (dOp addD (dSl (dVar 4) (oNo) (oSo (dC (.int 2)))) (dTup (dCons (dCB (int2C (fun i j => if j > i then j else i)) (dCons (dC (.int 1)) (dCons (dOp ixD (dVar 4) (dC (.int 2))) (dNil)))) (dCons (dCB (int2C (fun i j => if j > i then j else i)) (dCons (dC (.int 1)) (dCons (dOp ixD (dVar 4) (dC (.int 3))) (dNil)))) (dNil))))) (dSl (dVar 4) (oSo (dC (.int 4))) (oNo)))))
def W_law_good (K : Fg) (c : Nat → Addr) : SpD := bodyD (B_law_good K c) N__law_good
theorem E_law_good {K : Fg} {c : Nat → Addr} {a0 a1 a2 : D} {M : Mem} {Q : QD} {Xd : XD} (h : (sSeq (sSet 3 (dDct [(.inr "moves", dCall (W_law_draw K c) [] (dCons (dVar 0) (dCons (dOp addD (dVar 1) (dC (.int 1))) (dNil)))), (.inr "steps", dOp addD (dC (.int 1)) (dCall (W_law_draw K c) [] (dCons (dVar 0) (dCons (dVar 2) (dNil))))), (.inr "things", dC (.int 9))])) (sSeq (sSet 4 (dCall (W_law_thing K c 8) [] (dCons (dVar 0) (dCons (dVar 3) (dCons (dC (.bl true)) (dNil)))))) (sRet (dOp addD (dOp addD (dSl (dVar 4) (oNo) (oSo (dC (.int 2)))) (dTup (dCons (dCB (int2C (fun i j => if j > i then j else i)) (dCons (dC (.int 1)) (dCons (dOp ixD (dVar 4) (dC (.int 2))) (dNil)))) (dCons (dCB (int2C (fun i j => if j > i then j else i)) (dCons (dC (.int 1)) (dCons (dOp ixD (dVar 4) (dC (.int 3))) (dNil)))) (dNil))))) (dSl (dVar 4) (oSo (dC (.int 4))) (oNo)))))) ⟨fun _ M' => Lo Q .non M', Lo Q, fun _ _ => False, fun _ _ => False, Xd⟩ [some a0, some a1, some a2, none, none] M) : W_law_good K c [a0, a1, a2] M Q Xd := h
def N__law_rows : List Str := ["thing", "begin", "found", "numbers", "part"]
def B_law_rows (K : Fg) (c : Nat → Addr) (self : SpD) : TSD := sSeq (sPar 2 3 (dCons (dLst (dNil)) (dCons (dLst (dNil)) (dNil)))) (sSeq (sFor (iSeqD (dIte (dTst (dOp eqD (dOp ixD (dVar 0) (dC (.int 0))) (dC (.str "made")))) (dOp ixD (dVar 0) (dC (.int 5))) (dTup (dNil)))) (gNm 4) (sSeq (sSet 3 (dOp addD (dVar 3) (dLst (dCons (dOp addD (dOp addD (dVar 1) (dC (.int 1))) (dCB lenC (dCons (dVar 2) (dNil)))) (dNil))))) (sSet 2 (dOp addD (dVar 2) (dCall self [] (dCons (dVar 4) (dCons (dOp addD (dOp addD (dVar 1) (dC (.int 1))) (dCB lenC (dCons (dVar 2) (dNil)))) (dNil)))))))) (sRet (dOp addD (dLst (dCons (dTup (dCons (dVar 0) (dCons (dVar 3) (dNil)))) (dNil))) (dVar 2))))
def W_law_rows (K : Fg) (c : Nat → Addr) : Nat → SpD
  | 0 => fun _ _ _ _ => False
  | n + 1 => bodyD (B_law_rows K c (W_law_rows K c n)) N__law_rows
theorem E_law_rows {K : Fg} {c : Nat → Addr} {a0 a1 : D} {n : Nat} {M : Mem} {Q : QD} {Xd : XD} (h : (sSeq (sPar 2 3 (dCons (dLst (dNil)) (dCons (dLst (dNil)) (dNil)))) (sSeq (sFor (iSeqD (dIte (dTst (dOp eqD (dOp ixD (dVar 0) (dC (.int 0))) (dC (.str "made")))) (dOp ixD (dVar 0) (dC (.int 5))) (dTup (dNil)))) (gNm 4) (sSeq (sSet 3 (dOp addD (dVar 3) (dLst (dCons (dOp addD (dOp addD (dVar 1) (dC (.int 1))) (dCB lenC (dCons (dVar 2) (dNil)))) (dNil))))) (sSet 2 (dOp addD (dVar 2) (dCall (W_law_rows K c n) [] (dCons (dVar 4) (dCons (dOp addD (dOp addD (dVar 1) (dC (.int 1))) (dCB lenC (dCons (dVar 2) (dNil)))) (dNil)))))))) (sRet (dOp addD (dLst (dCons (dTup (dCons (dVar 0) (dCons (dVar 3) (dNil)))) (dNil))) (dVar 2))))) ⟨fun _ M' => Lo Q .non M', Lo Q, fun _ _ => False, fun _ _ => False, Xd⟩ [some a0, some a1, none, none, none] M) : W_law_rows K c (n + 1) [a0, a1] M Q Xd := h
def N__law_least : List Str := ["part", "of", "one", "two", "sign"]
def B_law_least (K : Fg) (c : Nat → Addr) : TSD := sSeq (sPar 2 3 (dCons (dCB absC (dCons (dVar 0) (dNil))) (dCons (dCB absC (dCons (dVar 1) (dNil))) (dNil)))) (sSeq (sWhile (dTst (dOp neD (dVar 3) (dC (.int 0)))) (sPar 2 3 (dCons (dVar 3) (dCons (dOp modD (dCB intC (dCons (dVar 2) (dNil))) (dVar 3)) (dNil))))) (sSeq (sSet 4 (dIte (dTst (dOp gtD (dVar 1) (dC (.int 0)))) (dC (.int 1)) (dNeg (dC (.int 1))))) (sRet (dTup (dCons (dOp fdivD (dOp mulD (dVar 4) (dVar 0)) (dVar 2)) (dCons (dOp fdivD (dOp mulD (dVar 4) (dVar 1)) (dVar 2)) (dNil)))))))
def W_law_least (K : Fg) (c : Nat → Addr) : SpD := bodyD (B_law_least K c) N__law_least
theorem E_law_least {K : Fg} {c : Nat → Addr} {a0 a1 : D} {M : Mem} {Q : QD} {Xd : XD} (h : (sSeq (sPar 2 3 (dCons (dCB absC (dCons (dVar 0) (dNil))) (dCons (dCB absC (dCons (dVar 1) (dNil))) (dNil)))) (sSeq (sWhile (dTst (dOp neD (dVar 3) (dC (.int 0)))) (sPar 2 3 (dCons (dVar 3) (dCons (dOp modD (dCB intC (dCons (dVar 2) (dNil))) (dVar 3)) (dNil))))) (sSeq (sSet 4 (dIte (dTst (dOp gtD (dVar 1) (dC (.int 0)))) (dC (.int 1)) (dNeg (dC (.int 1))))) (sRet (dTup (dCons (dOp fdivD (dOp mulD (dVar 4) (dVar 0)) (dVar 2)) (dCons (dOp fdivD (dOp mulD (dVar 4) (dVar 1)) (dVar 2)) (dNil)))))))) ⟨fun _ M' => Lo Q .non M', Lo Q, fun _ _ => False, fun _ _ => False, Xd⟩ [some a0, some a1, none, none, none] M) : W_law_least K c [a0, a1] M Q Xd := h
def N__law_prices : List Str := ["m", "good", "found", "thing", "numbers", "low", "high", "of", "part"]
def B_law_prices (K : Fg) (c : Nat → Addr) : TSD := sSeq (sSet 2 (dLstO (dNil))) (sSeq (sFor (iSeqD (dCall (W_law_rows K c 8) [] (dCons (dVar 1) (dCons (dC (.int 0)) (dNil))))) (gTp 2 (gCo (gNm 3) (gCo (gNm 4) (gNi)))) (sSeq (sPar 5 6 (dCons (dOp ixD (dVar 3) (dC (.int 2))) (dCons (dOp ixD (dVar 3) (dC (.int 3))) (dNil)))) (sSeq (sSet 7 (dCall (W_law_of K c) [] (dCons (dVar 0) (dCons (dLst (dCons (dC (.int 1)) (dCons (dC (.int 1)) (dCons (dC (.int 2)) (dCons (dC (.int 3)) (dCons (dC (.int 7)) (dCons (dC (.int 100)) (dNil)))))))) (dNil))))) (sSeq (sSet 8 (dCall (W_law_of K c) [] (dCons (dVar 0) (dCons (dLst (dCons (dC (.int 0)) (dCons (dOp mulD (dOp subD (dVar 6) (dVar 5)) (dVar 7)) (dCons (dCall (W_law_draw K c) [] (dCons (dVar 0) (dCons (dOp addD (dOp mulD (dOp subD (dVar 6) (dVar 5)) (dVar 7)) (dC (.int 1))) (dNil)))) (dNil))))) (dNil))))) (sExpr (dApp (dVar 2) (dCall (W_law_least K c) [] (dCons (dOp addD (dOp mulD (dVar 5) (dVar 7)) (dVar 8)) (dCons (dVar 7) (dNil)))))))))) (sRet (dCB tupleC (dCons (dVar 2) (dNil)))))
def W_law_prices (K : Fg) (c : Nat → Addr) : SpD := bodyD (B_law_prices K c) N__law_prices
theorem E_law_prices {K : Fg} {c : Nat → Addr} {a0 a1 : D} {M : Mem} {Q : QD} {Xd : XD} (h : (sSeq (sSet 2 (dLstO (dNil))) (sSeq (sFor (iSeqD (dCall (W_law_rows K c 8) [] (dCons (dVar 1) (dCons (dC (.int 0)) (dNil))))) (gTp 2 (gCo (gNm 3) (gCo (gNm 4) (gNi)))) (sSeq (sPar 5 6 (dCons (dOp ixD (dVar 3) (dC (.int 2))) (dCons (dOp ixD (dVar 3) (dC (.int 3))) (dNil)))) (sSeq (sSet 7 (dCall (W_law_of K c) [] (dCons (dVar 0) (dCons (dLst (dCons (dC (.int 1)) (dCons (dC (.int 1)) (dCons (dC (.int 2)) (dCons (dC (.int 3)) (dCons (dC (.int 7)) (dCons (dC (.int 100)) (dNil)))))))) (dNil))))) (sSeq (sSet 8 (dCall (W_law_of K c) [] (dCons (dVar 0) (dCons (dLst (dCons (dC (.int 0)) (dCons (dOp mulD (dOp subD (dVar 6) (dVar 5)) (dVar 7)) (dCons (dCall (W_law_draw K c) [] (dCons (dVar 0) (dCons (dOp addD (dOp mulD (dOp subD (dVar 6) (dVar 5)) (dVar 7)) (dC (.int 1))) (dNil)))) (dNil))))) (dNil))))) (sExpr (dApp (dVar 2) (dCall (W_law_least K c) [] (dCons (dOp addD (dOp mulD (dVar 5) (dVar 7)) (dVar 8)) (dCons (dVar 7) (dNil)))))))))) (sRet (dCB tupleC (dCons (dVar 2) (dNil)))))) ⟨fun _ M' => Lo Q .non M', Lo Q, fun _ _ => False, fun _ _ => False, Xd⟩ [some a0, some a1, none, none, none, none, none, none, none] M) : W_law_prices K c [a0, a1] M Q Xd := h
def N__law_text : List Str := ["thing", "depth", "found", "part"]
def B_law_text (K : Fg) (c : Nat → Addr) (self : SpD) : TSD := sSeq (sSet 2 (dIte (dTst (dOp gtD (dVar 1) (dC (.int 0)))) (dOp addD (dOp mulD (dC (.str ".")) (dVar 1)) (dC (.str " "))) (dC (.str "")))) (sSeq (sSet 2 (dOp addD (dVar 2) (dJoin (dC (.str " ")) (dLst (dCons (dOp ixD (dVar 0) (dC (.int 0))) (dCons (dOp ixD (dVar 0) (dC (.int 1))) (dCons (dCB strIC (dCons (dOp ixD (dVar 0) (dC (.int 2))) (dNil))) (dCons (dCB strIC (dCons (dOp ixD (dVar 0) (dC (.int 3))) (dNil))) (dNil))))))))) (sSeq (sIf (dTst (dOp eqD (dOp ixD (dVar 0) (dC (.int 0))) (dC (.str "raw")))) (sRet (dVar 2)) (sNx)) (sSeq (sSet 2 (dJoin (dC (.str " ")) (dLst (dCons (dVar 2) (dCons (dCB strIC (dCons (dOp ixD (dOp ixD (dVar 0) (dC (.int 4))) (dC (.int 0))) (dNil))) (dCons (dOp ixD (dOp ixD (dVar 0) (dC (.int 4))) (dC (.int 1))) (dCons (dOp ixD (dOp ixD (dVar 0) (dC (.int 4))) (dC (.int 2))) (dNil)))))))) (sSeq (sFor (iSeqD (dOp ixD (dVar 0) (dC (.int 5)))) (gNm 3) (sSet 2 (dOp addD (dOp addD (dVar 2) (dC (.str "\n"))) (dCall self [] (dCons (dVar 3) (dCons (dOp addD (dVar 1) (dC (.int 1))) (dNil))))))) (sRet (dVar 2))))))
def W_law_text (K : Fg) (c : Nat → Addr) : Nat → SpD
  | 0 => fun _ _ _ _ => False
  | n + 1 => bodyD (B_law_text K c (W_law_text K c n)) N__law_text
theorem E_law_text {K : Fg} {c : Nat → Addr} {a0 a1 : D} {n : Nat} {M : Mem} {Q : QD} {Xd : XD} (h : (sSeq (sSet 2 (dIte (dTst (dOp gtD (dVar 1) (dC (.int 0)))) (dOp addD (dOp mulD (dC (.str ".")) (dVar 1)) (dC (.str " "))) (dC (.str "")))) (sSeq (sSet 2 (dOp addD (dVar 2) (dJoin (dC (.str " ")) (dLst (dCons (dOp ixD (dVar 0) (dC (.int 0))) (dCons (dOp ixD (dVar 0) (dC (.int 1))) (dCons (dCB strIC (dCons (dOp ixD (dVar 0) (dC (.int 2))) (dNil))) (dCons (dCB strIC (dCons (dOp ixD (dVar 0) (dC (.int 3))) (dNil))) (dNil))))))))) (sSeq (sIf (dTst (dOp eqD (dOp ixD (dVar 0) (dC (.int 0))) (dC (.str "raw")))) (sRet (dVar 2)) (sNx)) (sSeq (sSet 2 (dJoin (dC (.str " ")) (dLst (dCons (dVar 2) (dCons (dCB strIC (dCons (dOp ixD (dOp ixD (dVar 0) (dC (.int 4))) (dC (.int 0))) (dNil))) (dCons (dOp ixD (dOp ixD (dVar 0) (dC (.int 4))) (dC (.int 1))) (dCons (dOp ixD (dOp ixD (dVar 0) (dC (.int 4))) (dC (.int 2))) (dNil)))))))) (sSeq (sFor (iSeqD (dOp ixD (dVar 0) (dC (.int 5)))) (gNm 3) (sSet 2 (dOp addD (dOp addD (dVar 2) (dC (.str "\n"))) (dCall (W_law_text K c n) [] (dCons (dVar 3) (dCons (dOp addD (dVar 1) (dC (.int 1))) (dNil))))))) (sRet (dVar 2))))))) ⟨fun _ M' => Lo Q .non M', Lo Q, fun _ _ => False, fun _ _ => False, Xd⟩ [some a0, some a1, none, none] M) : W_law_text K c (n + 1) [a0, a1] M Q Xd := h
def N_law : List Str := ["script", "m", "lap", "good", "text", "row", "words", "part", "of", "inner", "rows"]
def Blaw (K : Fg) (c : Nat → Addr) : TSD := sSeq (sSet 1 (dCall (W_law_begun K c) [] (dCons (dVar 0) (dNil)))) (sSeq (sFor (iRngD (dCons (dOp addD (dC (.int 8)) (dCB (int2C (fun i j => if j < i then j else i)) (dCons (dCB lenC (dCons (dVar 0) (dNil))) (dCons (dC (.int 16)) (dNil))))) (dNil))) (gNm 2) (sSeq (sSet 3 (dCall (W_law_good K c) [] (dCons (dVar 1) (dCons (dC (.int 3)) (dCons (dC (.int 4)) (dNil)))))) (sSeq (sSet 4 (dCall (W_law_text K c 8) [] (dCons (dVar 3) (dCons (dC (.int 0)) (dNil))))) (sSeq (sIf (tOrD (dTst (dOp neD (dLst (dCons (dCall (Wgood_text K c) [] (dCons (dVar 3) (dNil))) (dCons (dCall (Wgood_text K c) [] (dCons (dVar 3) (dNil))) (dNil)))) (dLst (dCons (dVar 4) (dCons (dVar 4) (dNil)))))) (dTst (dOp neD (dCB reprX (dCons (dCall (Wread_good K c) [] (dCons (dVar 4) (dNil))) (dNil))) (dCB reprX (dCons (dVar 3) (dNil)))))) (sRet (dC (.bl false))) (sNx)) (sSeq (sSet 5 (dCall (W_law_prices K c) [] (dCons (dVar 1) (dCons (dVar 3) (dNil))))) (sSeq (sSet 6 (dJoin (dC (.str " ")) (dLc (iSeqD (dVar 5)) (gTp 2 (gCo (gNm 7) (gCo (gNm 8) (gNi)))) (tYesD) (dOp addD (dOp addD (dCB strIC (dCons (dVar 7) (dNil))) (dC (.str "/"))) (dCB strIC (dCons (dVar 8) (dNil)))) [7, 8]))) (sIf (tOrD (dTst (dOp neD (dCall (Wprices_text K c) [] (dCons (dVar 3) (dCons (dVar 5) (dNil)))) (dVar 6))) (dTst (dOp neD (dCB reprX (dCons (dCall (Wread_prices K c) [] (dCons (dVar 3) (dCons (dVar 6) (dNil)))) (dNil))) (dCB reprX (dCons (dVar 5) (dNil)))))) (sRet (dC (.bl false))) (sNx)))))))) (sSeq (sSet 9 (dTup (dCons (dC (.str "made")) (dCons (dC (.str "here")) (dCons (dC (.int 2)) (dCons (dC (.int 2)) (dCons (dTup (dCons (dC (.int 50)) (dCons (dC (.str "whole")) (dCons (dC (.str "none")) (dNil))))) (dCons (dTup (dCons (dTup (dCons (dC (.str "raw")) (dCons (dC (.str "away")) (dCons (dC (.int 1)) (dCons (dC (.int 5)) (dNil)))))) (dCons (dTup (dCons (dC (.str "raw")) (dCons (dC (.str "here")) (dCons (dC (.int 1)) (dCons (dC (.int 1)) (dNil)))))) (dNil)))) (dNil))))))))) (sSeq (sSet 3 (dTup (dCons (dC (.str "made")) (dCons (dC (.str "away")) (dCons (dC (.int 1)) (dCons (dC (.int 1)) (dCons (dTup (dCons (dC (.int 60)) (dCons (dC (.str "own")) (dCons (dC (.str "own")) (dNil))))) (dCons (dTup (dCons (dVar 9) (dCons (dTup (dCons (dC (.str "raw")) (dCons (dC (.str "here")) (dCons (dC (.int 0)) (dCons (dC (.int 3)) (dNil)))))) (dNil)))) (dNil))))))))) (sSeq (sSet 10 (dLst (dCons (dC (.str "made away 1 1 60 own own")) (dCons (dC (.str ". made here 2 2 50 whole none")) (dCons (dC (.str ".. raw away 1 5")) (dNil)))))) (sSeq (sSet 4 (dJoin (dC (.str "\n")) (dOp addD (dVar 10) (dLst (dCons (dC (.str ".. raw here 1 1")) (dCons (dC (.str ". raw here 0 3")) (dNil))))))) (sSeq (sIf (tOrD (dTst (dOp neD (dCall (Wgood_text K c) [] (dCons (dVar 3) (dNil))) (dVar 4))) (dTst (dOp neD (dCall (Wread_good K c) [] (dCons (dVar 4) (dNil))) (dVar 3)))) (sRet (dC (.bl false))) (sNx)) (sSeq (sSet 5 (dTup (dCons (dTup (dCons (dC (.int 1)) (dCons (dC (.int 1)) (dNil)))) (dCons (dTup (dCons (dC (.int 2)) (dCons (dC (.int 1)) (dNil)))) (dCons (dTup (dCons (dC (.int 7)) (dCons (dC (.int 2)) (dNil)))) (dCons (dTup (dCons (dC (.int 1)) (dCons (dC (.int 1)) (dNil)))) (dCons (dTup (dCons (dC (.int 1)) (dCons (dC (.int 2)) (dNil)))) (dNil)))))))) (sSeq (sIf (dTst (dOp neD (dCall (Wprices_text K c) [] (dCons (dVar 3) (dCons (dVar 5) (dNil)))) (dC (.str "1/1 2/1 7/2 1/1 1/2")))) (sRet (dC (.bl false))) (sNx)) (sRet (dOp eqD (dCall (Wread_prices K c) [] (dCons (dVar 3) (dCons (dC (.str "1/1 2/1 7/2 1/1 1/2")) (dNil)))) (dVar 5)))))))))))
def Wlaw (K : Fg) (c : Nat → Addr) : SpD := bodyD (Blaw K c) N_law
theorem Elaw {K : Fg} {c : Nat → Addr} {a0 : D} {M : Mem} {Q : QD} {Xd : XD} (h : (sSeq (sSet 1 (dCall (W_law_begun K c) [] (dCons (dVar 0) (dNil)))) (sSeq (sFor (iRngD (dCons (dOp addD (dC (.int 8)) (dCB (int2C (fun i j => if j < i then j else i)) (dCons (dCB lenC (dCons (dVar 0) (dNil))) (dCons (dC (.int 16)) (dNil))))) (dNil))) (gNm 2) (sSeq (sSet 3 (dCall (W_law_good K c) [] (dCons (dVar 1) (dCons (dC (.int 3)) (dCons (dC (.int 4)) (dNil)))))) (sSeq (sSet 4 (dCall (W_law_text K c 8) [] (dCons (dVar 3) (dCons (dC (.int 0)) (dNil))))) (sSeq (sIf (tOrD (dTst (dOp neD (dLst (dCons (dCall (Wgood_text K c) [] (dCons (dVar 3) (dNil))) (dCons (dCall (Wgood_text K c) [] (dCons (dVar 3) (dNil))) (dNil)))) (dLst (dCons (dVar 4) (dCons (dVar 4) (dNil)))))) (dTst (dOp neD (dCB reprX (dCons (dCall (Wread_good K c) [] (dCons (dVar 4) (dNil))) (dNil))) (dCB reprX (dCons (dVar 3) (dNil)))))) (sRet (dC (.bl false))) (sNx)) (sSeq (sSet 5 (dCall (W_law_prices K c) [] (dCons (dVar 1) (dCons (dVar 3) (dNil))))) (sSeq (sSet 6 (dJoin (dC (.str " ")) (dLc (iSeqD (dVar 5)) (gTp 2 (gCo (gNm 7) (gCo (gNm 8) (gNi)))) (tYesD) (dOp addD (dOp addD (dCB strIC (dCons (dVar 7) (dNil))) (dC (.str "/"))) (dCB strIC (dCons (dVar 8) (dNil)))) [7, 8]))) (sIf (tOrD (dTst (dOp neD (dCall (Wprices_text K c) [] (dCons (dVar 3) (dCons (dVar 5) (dNil)))) (dVar 6))) (dTst (dOp neD (dCB reprX (dCons (dCall (Wread_prices K c) [] (dCons (dVar 3) (dCons (dVar 6) (dNil)))) (dNil))) (dCB reprX (dCons (dVar 5) (dNil)))))) (sRet (dC (.bl false))) (sNx)))))))) (sSeq (sSet 9 (dTup (dCons (dC (.str "made")) (dCons (dC (.str "here")) (dCons (dC (.int 2)) (dCons (dC (.int 2)) (dCons (dTup (dCons (dC (.int 50)) (dCons (dC (.str "whole")) (dCons (dC (.str "none")) (dNil))))) (dCons (dTup (dCons (dTup (dCons (dC (.str "raw")) (dCons (dC (.str "away")) (dCons (dC (.int 1)) (dCons (dC (.int 5)) (dNil)))))) (dCons (dTup (dCons (dC (.str "raw")) (dCons (dC (.str "here")) (dCons (dC (.int 1)) (dCons (dC (.int 1)) (dNil)))))) (dNil)))) (dNil))))))))) (sSeq (sSet 3 (dTup (dCons (dC (.str "made")) (dCons (dC (.str "away")) (dCons (dC (.int 1)) (dCons (dC (.int 1)) (dCons (dTup (dCons (dC (.int 60)) (dCons (dC (.str "own")) (dCons (dC (.str "own")) (dNil))))) (dCons (dTup (dCons (dVar 9) (dCons (dTup (dCons (dC (.str "raw")) (dCons (dC (.str "here")) (dCons (dC (.int 0)) (dCons (dC (.int 3)) (dNil)))))) (dNil)))) (dNil))))))))) (sSeq (sSet 10 (dLst (dCons (dC (.str "made away 1 1 60 own own")) (dCons (dC (.str ". made here 2 2 50 whole none")) (dCons (dC (.str ".. raw away 1 5")) (dNil)))))) (sSeq (sSet 4 (dJoin (dC (.str "\n")) (dOp addD (dVar 10) (dLst (dCons (dC (.str ".. raw here 1 1")) (dCons (dC (.str ". raw here 0 3")) (dNil))))))) (sSeq (sIf (tOrD (dTst (dOp neD (dCall (Wgood_text K c) [] (dCons (dVar 3) (dNil))) (dVar 4))) (dTst (dOp neD (dCall (Wread_good K c) [] (dCons (dVar 4) (dNil))) (dVar 3)))) (sRet (dC (.bl false))) (sNx)) (sSeq (sSet 5 (dTup (dCons (dTup (dCons (dC (.int 1)) (dCons (dC (.int 1)) (dNil)))) (dCons (dTup (dCons (dC (.int 2)) (dCons (dC (.int 1)) (dNil)))) (dCons (dTup (dCons (dC (.int 7)) (dCons (dC (.int 2)) (dNil)))) (dCons (dTup (dCons (dC (.int 1)) (dCons (dC (.int 1)) (dNil)))) (dCons (dTup (dCons (dC (.int 1)) (dCons (dC (.int 2)) (dNil)))) (dNil)))))))) (sSeq (sIf (dTst (dOp neD (dCall (Wprices_text K c) [] (dCons (dVar 3) (dCons (dVar 5) (dNil)))) (dC (.str "1/1 2/1 7/2 1/1 1/2")))) (sRet (dC (.bl false))) (sNx)) (sRet (dOp eqD (dCall (Wread_prices K c) [] (dCons (dVar 3) (dCons (dC (.str "1/1 2/1 7/2 1/1 1/2")) (dNil)))) (dVar 5)))))))))))) ⟨fun _ M' => Lo Q .non M', Lo Q, fun _ _ => False, fun _ _ => False, Xd⟩ [some a0, none, none, none, none, none, none, none, none, none, none] M) : Wlaw K c [a0] M Q Xd := h
end G_madeofhere_k17_texts_back_and_forth
set_option maxHeartbeats 4000000
namespace G_madeofhere_k17_texts_back_and_forth
open PySem PySem.Spec PyProof.Rows L2 DL
def topS (i : Nat) : Stmt := PySem.Challenge.pw_madeofhere_k17_texts_back_and_forth.main.body.getD i (.Pass ⟨0, 0, 0, 0⟩)
def methS (i j : Nat) : Stmt := match topS i with
  | .ClassDef _ _ _ b _ _ _ _ _ _ _ => b.getD j (.Pass ⟨0, 0, 0, 0⟩)
  | s => s
abbrev st_is_one_of : Stmt := topS 7
theorem sc_is_one_of : FnScope N_is_one_of ["value", "words"] (defScope st_is_one_of) := ⟨rfl, rfl, rfl, by decide +kernel, rfl, by decide +kernel, by decide +kernel⟩
abbrev st_is_rule : Stmt := topS 20
theorem sc_is_rule : FnScope N_is_rule ["value"] (defScope st_is_rule) := ⟨rfl, rfl, rfl, by decide +kernel, rfl, by decide +kernel, by decide +kernel⟩
abbrev st__need_bounds : Stmt := topS 21
theorem sc__need_bounds : FnScope N__need_bounds ["number", "land", "low", "high"] (defScope st__need_bounds) := ⟨rfl, rfl, rfl, by decide +kernel, rfl, by decide +kernel, by decide +kernel⟩
abbrev st__need_making : Stmt := topS 22
theorem sc__need_making : FnScope N__need_making ["number", "rule", "parts"] (defScope st__need_making) := ⟨rfl, rfl, rfl, by decide +kernel, rfl, by decide +kernel, by decide +kernel⟩
abbrev st__look_at : Stmt := topS 23
theorem sc__look_at : FnScope N__look_at ["thing", "whole", "found", "wholes", "made", "moving"] (defScope st__look_at) := ⟨rfl, rfl, rfl, by decide +kernel, rfl, by decide +kernel, by decide +kernel⟩
abbrev st_look_over : Stmt := topS 24
theorem sc_look_over : FnScope N_look_over ["good"] (defScope st_look_over) := ⟨rfl, rfl, rfl, by decide +kernel, rfl, by decide +kernel, by decide +kernel⟩
abbrev st_need_good : Stmt := topS 25
theorem sc_need_good : FnScope N_need_good ["thing"] (defScope st_need_good) := ⟨rfl, rfl, rfl, by decide +kernel, rfl, by decide +kernel, by decide +kernel⟩
abbrev st_is_fraction : Stmt := topS 27
theorem sc_is_fraction : FnScope N_is_fraction ["value", "least", "most"] (defScope st_is_fraction) := ⟨rfl, rfl, rfl, by decide +kernel, rfl, by decide +kernel, by decide +kernel⟩
abbrev st_need_prices : Stmt := topS 28
theorem sc_need_prices : FnScope N_need_prices ["found", "prices"] (defScope st_need_prices) := ⟨rfl, rfl, rfl, by decide +kernel, rfl, by decide +kernel, by decide +kernel⟩
abbrev st_are_figures : Stmt := topS 32
theorem sc_are_figures : FnScope N_are_figures ["word", "most"] (defScope st_are_figures) := ⟨rfl, rfl, rfl, by decide +kernel, rfl, by decide +kernel, by decide +kernel⟩
abbrev st_are_integers : Stmt := topS 33
theorem sc_are_integers : FnScope N_are_integers ["words"] (defScope st_are_integers) := ⟨rfl, rfl, rfl, by decide +kernel, rfl, by decide +kernel, by decide +kernel⟩
abbrev st_is_told_rule : Stmt := topS 34
theorem sc_is_told_rule : FnScope N_is_told_rule ["words"] (defScope st_is_told_rule) := ⟨rfl, rfl, rfl, by decide +kernel, rfl, by decide +kernel, by decide +kernel⟩
abbrev st_fraction_text : Stmt := topS 35
theorem sc_fraction_text : FnScope N_fraction_text ["fraction"] (defScope st_fraction_text) := ⟨rfl, rfl, rfl, by decide +kernel, rfl, by decide +kernel, by decide +kernel⟩
abbrev st_told_fraction : Stmt := topS 36
theorem sc_told_fraction : FnScope N_told_fraction ["word"] (defScope st_told_fraction) := ⟨rfl, rfl, rfl, by decide +kernel, rfl, by decide +kernel, by decide +kernel⟩
abbrev st__row_of : Stmt := topS 37
theorem sc__row_of : FnScope N__row_of ["thing", "points"] (defScope st__row_of) := ⟨rfl, rfl, rfl, by decide +kernel, rfl, by decide +kernel, by decide +kernel⟩
abbrev st_good_text : Stmt := topS 38
theorem sc_good_text : FnScope N_good_text ["good"] (defScope st_good_text) := ⟨rfl, rfl, rfl, by decide +kernel, rfl, by decide +kernel, by decide +kernel⟩
abbrev st__told_thing : Stmt := topS 39
theorem sc__told_thing : FnScope N__told_thing ["words"] (defScope st__told_thing) := ⟨rfl, rfl, rfl, by decide +kernel, rfl, by decide +kernel, by decide +kernel⟩
abbrev st__told_row : Stmt := topS 40
theorem sc__told_row : FnScope N__told_row ["row"] (defScope st__told_row) := ⟨rfl, rfl, rfl, by decide +kernel, rfl, by decide +kernel, by decide +kernel⟩
abbrev st__may_follow : Stmt := topS 41
theorem sc__may_follow : FnScope N__may_follow ["rows", "points"] (defScope st__may_follow) := ⟨rfl, rfl, rfl, by decide +kernel, rfl, by decide +kernel, by decide +kernel⟩
abbrev st__built : Stmt := topS 42
theorem sc__built : FnScope N__built ["rows"] (defScope st__built) := ⟨rfl, rfl, rfl, by decide +kernel, rfl, by decide +kernel, by decide +kernel⟩
abbrev st_read_good : Stmt := topS 43
theorem sc_read_good : FnScope N_read_good ["string"] (defScope st_read_good) := ⟨rfl, rfl, rfl, by decide +kernel, rfl, by decide +kernel, by decide +kernel⟩
abbrev st_prices_text : Stmt := topS 44
theorem sc_prices_text : FnScope N_prices_text ["good", "prices"] (defScope st_prices_text) := ⟨rfl, rfl, rfl, by decide +kernel, rfl, by decide +kernel, by decide +kernel⟩
abbrev st_read_prices : Stmt := topS 45
theorem sc_read_prices : FnScope N_read_prices ["good", "string"] (defScope st_read_prices) := ⟨rfl, rfl, rfl, by decide +kernel, rfl, by decide +kernel, by decide +kernel⟩
abbrev st__law_begun : Stmt := topS 47
theorem sc__law_begun : FnScope N__law_begun ["script"] (defScope st__law_begun) := ⟨rfl, rfl, rfl, by decide +kernel, rfl, by decide +kernel, by decide +kernel⟩
abbrev st__law_draw : Stmt := topS 48
theorem sc__law_draw : FnScope N__law_draw ["m", "limit"] (defScope st__law_draw) := ⟨rfl, rfl, rfl, by decide +kernel, rfl, by decide +kernel, by decide +kernel⟩
abbrev st__law_of : Stmt := topS 49
theorem sc__law_of : FnScope N__law_of ["m", "some"] (defScope st__law_of) := ⟨rfl, rfl, rfl, by decide +kernel, rfl, by decide +kernel, by decide +kernel⟩
abbrev st__law_span : Stmt := topS 50
theorem sc__law_span : FnScope N__law_span ["m", "left"] (defScope st__law_span) := ⟨rfl, rfl, rfl, by decide +kernel, rfl, by decide +kernel, by decide +kernel⟩
abbrev st__law_term : Stmt := topS 51
theorem sc__law_term : FnScope N__law_term ["m"] (defScope st__law_term) := ⟨rfl, rfl, rfl, by decide +kernel, rfl, by decide +kernel, by decide +kernel⟩
abbrev st__law_thing : Stmt := topS 52
theorem sc__law_thing : FnScope N__law_thing ["m", "left", "must"] (defScope st__law_thing) := ⟨rfl, rfl, rfl, by decide +kernel, rfl, by decide +kernel, by decide +kernel⟩
abbrev st__law_good : Stmt := topS 53
theorem sc__law_good : FnScope N__law_good ["m", "moving", "making"] (defScope st__law_good) := ⟨rfl, rfl, rfl, by decide +kernel, rfl, by decide +kernel, by decide +kernel⟩
abbrev st__law_rows : Stmt := topS 54
theorem sc__law_rows : FnScope N__law_rows ["thing", "begin"] (defScope st__law_rows) := ⟨rfl, rfl, rfl, by decide +kernel, rfl, by decide +kernel, by decide +kernel⟩
abbrev st__law_least : Stmt := topS 55
theorem sc__law_least : FnScope N__law_least ["part", "of"] (defScope st__law_least) := ⟨rfl, rfl, rfl, by decide +kernel, rfl, by decide +kernel, by decide +kernel⟩
abbrev st__law_prices : Stmt := topS 56
theorem sc__law_prices : FnScope N__law_prices ["m", "good"] (defScope st__law_prices) := ⟨rfl, rfl, rfl, by decide +kernel, rfl, by decide +kernel, by decide +kernel⟩
abbrev st__law_text : Stmt := topS 57
theorem sc__law_text : FnScope N__law_text ["thing", "depth"] (defScope st__law_text) := ⟨rfl, rfl, rfl, by decide +kernel, rfl, by decide +kernel, by decide +kernel⟩
abbrev st_law : Stmt := topS 58
theorem sc_law : FnScope N_law ["script"] (defScope st_law) := ⟨rfl, rfl, rfl, by decide +kernel, rfl, by decide +kernel, by decide +kernel⟩
abbrev st_BadGood : Stmt := methS 3 0
theorem sc_BadGood : FnScope ["self", "number", "part"] ["self", "number", "part"] (defScope st_BadGood) := ⟨rfl, rfl, rfl, by decide +kernel, rfl, by decide +kernel, by decide +kernel⟩
abbrev st_BadPrices : Stmt := methS 4 0
theorem sc_BadPrices : FnScope ["self", "number"] ["self", "number"] (defScope st_BadPrices) := ⟨rfl, rfl, rfl, by decide +kernel, rfl, by decide +kernel, by decide +kernel⟩
abbrev st_BadText : Stmt := methS 5 0
theorem sc_BadText : FnScope ["self", "line"] ["self", "line"] (defScope st_BadText) := ⟨rfl, rfl, rfl, by decide +kernel, rfl, by decide +kernel, by decide +kernel⟩
structure Adr where
  cls : Nat → Addr
  a_BadGood : Addr
  d_BadGood : FuncData
  a_BadPrices : Addr
  d_BadPrices : FuncData
  a_BadText : Addr
  d_BadText : FuncData
  a_is_one_of : Addr
  d_is_one_of : FuncData
  a_is_rule : Addr
  d_is_rule : FuncData
  a__need_bounds : Addr
  d__need_bounds : FuncData
  a__need_making : Addr
  d__need_making : FuncData
  a__look_at : Addr
  d__look_at : FuncData
  a_look_over : Addr
  d_look_over : FuncData
  a_need_good : Addr
  d_need_good : FuncData
  a_is_fraction : Addr
  d_is_fraction : FuncData
  a_need_prices : Addr
  d_need_prices : FuncData
  a_are_figures : Addr
  d_are_figures : FuncData
  a_are_integers : Addr
  d_are_integers : FuncData
  a_is_told_rule : Addr
  d_is_told_rule : FuncData
  a_fraction_text : Addr
  d_fraction_text : FuncData
  a_told_fraction : Addr
  d_told_fraction : FuncData
  a__row_of : Addr
  d__row_of : FuncData
  a_good_text : Addr
  d_good_text : FuncData
  a__told_thing : Addr
  d__told_thing : FuncData
  a__told_row : Addr
  d__told_row : FuncData
  a__may_follow : Addr
  d__may_follow : FuncData
  a__built : Addr
  d__built : FuncData
  a_read_good : Addr
  d_read_good : FuncData
  a_prices_text : Addr
  d_prices_text : FuncData
  a_read_prices : Addr
  d_read_prices : FuncData
  a__law_begun : Addr
  d__law_begun : FuncData
  a__law_draw : Addr
  d__law_draw : FuncData
  a__law_of : Addr
  d__law_of : FuncData
  a__law_span : Addr
  d__law_span : FuncData
  a__law_term : Addr
  d__law_term : FuncData
  a__law_thing : Addr
  d__law_thing : FuncData
  a__law_good : Addr
  d__law_good : FuncData
  a__law_rows : Addr
  d__law_rows : FuncData
  a__law_least : Addr
  d__law_least : FuncData
  a__law_prices : Addr
  d__law_prices : FuncData
  a__law_text : Addr
  d__law_text : FuncData
  a_law : Addr
  d_law : FuncData
structure Txt (K : Fg) (mg : Str → Option Value) (A : Adr) : Prop where
  F_is_one_of : Fun K "is_one_of" "is_one_of" st_is_one_of A.a_is_one_of A.d_is_one_of
  b_is_one_of : Binds K A.d_is_one_of ["value", "words"] []
  g_is_one_of : mg "is_one_of" = some (.ref A.a_is_one_of)
  F_is_rule : Fun K "is_rule" "is_rule" st_is_rule A.a_is_rule A.d_is_rule
  b_is_rule : Binds K A.d_is_rule ["value"] []
  g_is_rule : mg "is_rule" = some (.ref A.a_is_rule)
  F__need_bounds : Fun K "_need_bounds" "_need_bounds" st__need_bounds A.a__need_bounds A.d__need_bounds
  b__need_bounds : Binds K A.d__need_bounds ["number", "land", "low", "high"] []
  g__need_bounds : mg "_need_bounds" = some (.ref A.a__need_bounds)
  F__need_making : Fun K "_need_making" "_need_making" st__need_making A.a__need_making A.d__need_making
  b__need_making : Binds K A.d__need_making ["number", "rule", "parts"] []
  g__need_making : mg "_need_making" = some (.ref A.a__need_making)
  F__look_at : Fun K "_look_at" "_look_at" st__look_at A.a__look_at A.d__look_at
  b__look_at : Binds K A.d__look_at ["thing", "whole", "found", "wholes", "made", "moving"] []
  g__look_at : mg "_look_at" = some (.ref A.a__look_at)
  F_look_over : Fun K "look_over" "look_over" st_look_over A.a_look_over A.d_look_over
  b_look_over : Binds K A.d_look_over ["good"] []
  g_look_over : mg "look_over" = some (.ref A.a_look_over)
  F_need_good : Fun K "need_good" "need_good" st_need_good A.a_need_good A.d_need_good
  b_need_good : Binds K A.d_need_good ["thing"] []
  g_need_good : mg "need_good" = some (.ref A.a_need_good)
  F_is_fraction : Fun K "is_fraction" "is_fraction" st_is_fraction A.a_is_fraction A.d_is_fraction
  b_is_fraction : Binds K A.d_is_fraction ["value", "least", "most"] []
  g_is_fraction : mg "is_fraction" = some (.ref A.a_is_fraction)
  F_need_prices : Fun K "need_prices" "need_prices" st_need_prices A.a_need_prices A.d_need_prices
  b_need_prices : Binds K A.d_need_prices ["found", "prices"] []
  g_need_prices : mg "need_prices" = some (.ref A.a_need_prices)
  F_are_figures : Fun K "are_figures" "are_figures" st_are_figures A.a_are_figures A.d_are_figures
  b_are_figures : Binds K A.d_are_figures ["word", "most"] []
  g_are_figures : mg "are_figures" = some (.ref A.a_are_figures)
  F_are_integers : Fun K "are_integers" "are_integers" st_are_integers A.a_are_integers A.d_are_integers
  b_are_integers : Binds K A.d_are_integers ["words"] []
  g_are_integers : mg "are_integers" = some (.ref A.a_are_integers)
  F_is_told_rule : Fun K "is_told_rule" "is_told_rule" st_is_told_rule A.a_is_told_rule A.d_is_told_rule
  b_is_told_rule : Binds K A.d_is_told_rule ["words"] []
  g_is_told_rule : mg "is_told_rule" = some (.ref A.a_is_told_rule)
  F_fraction_text : Fun K "fraction_text" "fraction_text" st_fraction_text A.a_fraction_text A.d_fraction_text
  b_fraction_text : Binds K A.d_fraction_text ["fraction"] []
  g_fraction_text : mg "fraction_text" = some (.ref A.a_fraction_text)
  F_told_fraction : Fun K "told_fraction" "told_fraction" st_told_fraction A.a_told_fraction A.d_told_fraction
  b_told_fraction : Binds K A.d_told_fraction ["word"] []
  g_told_fraction : mg "told_fraction" = some (.ref A.a_told_fraction)
  F__row_of : Fun K "_row_of" "_row_of" st__row_of A.a__row_of A.d__row_of
  b__row_of : Binds K A.d__row_of ["thing", "points"] []
  g__row_of : mg "_row_of" = some (.ref A.a__row_of)
  F_good_text : Fun K "good_text" "good_text" st_good_text A.a_good_text A.d_good_text
  b_good_text : Binds K A.d_good_text ["good"] []
  g_good_text : mg "good_text" = some (.ref A.a_good_text)
  F__told_thing : Fun K "_told_thing" "_told_thing" st__told_thing A.a__told_thing A.d__told_thing
  b__told_thing : Binds K A.d__told_thing ["words"] []
  g__told_thing : mg "_told_thing" = some (.ref A.a__told_thing)
  F__told_row : Fun K "_told_row" "_told_row" st__told_row A.a__told_row A.d__told_row
  b__told_row : Binds K A.d__told_row ["row"] []
  g__told_row : mg "_told_row" = some (.ref A.a__told_row)
  F__may_follow : Fun K "_may_follow" "_may_follow" st__may_follow A.a__may_follow A.d__may_follow
  b__may_follow : Binds K A.d__may_follow ["rows", "points"] []
  g__may_follow : mg "_may_follow" = some (.ref A.a__may_follow)
  F__built : Fun K "_built" "_built" st__built A.a__built A.d__built
  b__built : Binds K A.d__built ["rows"] []
  g__built : mg "_built" = some (.ref A.a__built)
  F_read_good : Fun K "read_good" "read_good" st_read_good A.a_read_good A.d_read_good
  b_read_good : Binds K A.d_read_good ["string"] []
  g_read_good : mg "read_good" = some (.ref A.a_read_good)
  F_prices_text : Fun K "prices_text" "prices_text" st_prices_text A.a_prices_text A.d_prices_text
  b_prices_text : Binds K A.d_prices_text ["good", "prices"] []
  g_prices_text : mg "prices_text" = some (.ref A.a_prices_text)
  F_read_prices : Fun K "read_prices" "read_prices" st_read_prices A.a_read_prices A.d_read_prices
  b_read_prices : Binds K A.d_read_prices ["good", "string"] []
  g_read_prices : mg "read_prices" = some (.ref A.a_read_prices)
  F__law_begun : Fun K "_law_begun" "_law_begun" st__law_begun A.a__law_begun A.d__law_begun
  b__law_begun : Binds K A.d__law_begun ["script"] []
  g__law_begun : mg "_law_begun" = some (.ref A.a__law_begun)
  F__law_draw : Fun K "_law_draw" "_law_draw" st__law_draw A.a__law_draw A.d__law_draw
  b__law_draw : Binds K A.d__law_draw ["m", "limit"] []
  g__law_draw : mg "_law_draw" = some (.ref A.a__law_draw)
  F__law_of : Fun K "_law_of" "_law_of" st__law_of A.a__law_of A.d__law_of
  b__law_of : Binds K A.d__law_of ["m", "some"] []
  g__law_of : mg "_law_of" = some (.ref A.a__law_of)
  F__law_span : Fun K "_law_span" "_law_span" st__law_span A.a__law_span A.d__law_span
  b__law_span : Binds K A.d__law_span ["m", "left"] []
  g__law_span : mg "_law_span" = some (.ref A.a__law_span)
  F__law_term : Fun K "_law_term" "_law_term" st__law_term A.a__law_term A.d__law_term
  b__law_term : Binds K A.d__law_term ["m"] []
  g__law_term : mg "_law_term" = some (.ref A.a__law_term)
  F__law_thing : Fun K "_law_thing" "_law_thing" st__law_thing A.a__law_thing A.d__law_thing
  b__law_thing : Binds K A.d__law_thing ["m", "left", "must"] []
  g__law_thing : mg "_law_thing" = some (.ref A.a__law_thing)
  F__law_good : Fun K "_law_good" "_law_good" st__law_good A.a__law_good A.d__law_good
  b__law_good : Binds K A.d__law_good ["m", "moving", "making"] []
  g__law_good : mg "_law_good" = some (.ref A.a__law_good)
  F__law_rows : Fun K "_law_rows" "_law_rows" st__law_rows A.a__law_rows A.d__law_rows
  b__law_rows : Binds K A.d__law_rows ["thing", "begin"] []
  g__law_rows : mg "_law_rows" = some (.ref A.a__law_rows)
  F__law_least : Fun K "_law_least" "_law_least" st__law_least A.a__law_least A.d__law_least
  b__law_least : Binds K A.d__law_least ["part", "of"] []
  g__law_least : mg "_law_least" = some (.ref A.a__law_least)
  F__law_prices : Fun K "_law_prices" "_law_prices" st__law_prices A.a__law_prices A.d__law_prices
  b__law_prices : Binds K A.d__law_prices ["m", "good"] []
  g__law_prices : mg "_law_prices" = some (.ref A.a__law_prices)
  F__law_text : Fun K "_law_text" "_law_text" st__law_text A.a__law_text A.d__law_text
  b__law_text : Binds K A.d__law_text ["thing", "depth"] []
  g__law_text : mg "_law_text" = some (.ref A.a__law_text)
  F_law : Fun K "law" "law" st_law A.a_law A.d_law
  b_law : Binds K A.d_law ["script"] []
  g_law : mg "law" = some (.ref A.a_law)
  g_BadGood : mg "BadGood" = some (.ref (A.cls 1))
  g_BadPrices : mg "BadPrices" = some (.ref (A.cls 2))
  g_BadText : mg "BadText" = some (.ref (A.cls 3))
  C : CF K A.cls
  F_BadGood : Fun K "__init__" "BadGood.__init__" st_BadGood A.a_BadGood A.d_BadGood
  i_BadGood : PySem.W.findIn K (.ref (A.cls 1)) "__init__" = some (some (.ref A.a_BadGood))
  t_BadGood : PySem.W.typeIn K (.ref A.a_BadGood) = some (.type "function")
  b_BadGood : Binds K A.d_BadGood ["self", "number", "part"] []
  F_BadPrices : Fun K "__init__" "BadPrices.__init__" st_BadPrices A.a_BadPrices A.d_BadPrices
  i_BadPrices : PySem.W.findIn K (.ref (A.cls 2)) "__init__" = some (some (.ref A.a_BadPrices))
  t_BadPrices : PySem.W.typeIn K (.ref A.a_BadPrices) = some (.type "function")
  b_BadPrices : Binds K A.d_BadPrices ["self", "number"] []
  F_BadText : Fun K "__init__" "BadText.__init__" st_BadText A.a_BadText A.d_BadText
  i_BadText : PySem.W.findIn K (.ref (A.cls 3)) "__init__" = some (some (.ref A.a_BadText))
  t_BadText : PySem.W.typeIn K (.ref A.a_BadText) = some (.type "function")
  b_BadText : Binds K A.d_BadText ["self", "line"] []
  z_abs : mg "abs" = none
  z_all : mg "all" = none
  z_bool : mg "bool" = none
  z_enumerate : mg "enumerate" = none
  z_int : mg "int" = none
  z_isinstance : mg "isinstance" = none
  z_len : mg "len" = none
  z_list : mg "list" = none
  z_max : mg "max" = none
  z_min : mg "min" = none
  z_range : mg "range" = none
  z_repr : mg "repr" = none
  z_reversed : mg "reversed" = none
  z_str : mg "str" = none
  z_tuple : mg "tuple" = none
  z_zip : mg "zip" = none
  c_HIGH : ∃ u, mg "HIGH" = some u ∧ RelV (.int 3) u
  c_LAND : ∃ u, mg "LAND" = some u ∧ RelV (.int 1) u
  c_LOW : ∃ u, mg "LOW" = some u ∧ RelV (.int 2) u
  c_MAKING : ∃ u, mg "MAKING" = some u ∧ RelV (.int 0) u
  c_MOST_FIGURES : ∃ u, mg "MOST_FIGURES" = some u ∧ RelV (.int 7) u
  c_MOST_FIGURES_OF_PRICES : ∃ u, mg "MOST_FIGURES_OF_PRICES" = some u ∧ RelV (.int 30) u
  c_MOST_MOVES : ∃ u, mg "MOST_MOVES" = some u ∧ RelV (.int 3) u
  c_MOST_PARTS : ∃ u, mg "MOST_PARTS" = some u ∧ RelV (.int 4) u
  c_MOST_PRICE : ∃ u, mg "MOST_PRICE" = some u ∧ RelV (.int 1000000) u
  c_MOST_SHARE : ∃ u, mg "MOST_SHARE" = some u ∧ RelV (.int 100) u
  c_MOST_STEPS : ∃ u, mg "MOST_STEPS" = some u ∧ RelV (.int 4) u
  c_MOST_THINGS : ∃ u, mg "MOST_THINGS" = some u ∧ RelV (.int 10) u
  c_RULE : ∃ u, mg "RULE" = some u ∧ RelV (.int 4) u
  i_gcd : mg "gcd" = some (.builtin "math.gcd")
section
variable {P : Program} {w : World} {K : Fg} {mg : Str → Option Value} {base : Heap} {Ad : Adr}
theorem mk_BadGood (T : Txt K mg Ad) : MkOk P w K mg base 1 (Ad.cls 1) ["part", "number"] ["self", "number", "part"] := ⟨(T.C.cf (i := 1) (by decide)).T, _, _, T.i_BadGood, T.t_BadGood, T.F_BadGood.okX sc_BadGood (spEx_len rfl) (fun cdv A outer s H vs Q E hr hsp => init_two (T.C.cf (i := 1) (by decide)).T rfl (T.C.kf.no (i := 1) (by decide) (by simp [fds])) (T.C.kf.no (i := 1) (by decide) (by simp [fds])) (pv 0) (pv 1) (pv 0) (pv 2) hsp), T.b_BadGood⟩
theorem mk_BadPrices (T : Txt K mg Ad) : MkOk P w K mg base 1 (Ad.cls 2) ["number"] ["self", "number"] := ⟨(T.C.cf (i := 2) (by decide)).T, _, _, T.i_BadPrices, T.t_BadPrices, T.F_BadPrices.okX sc_BadPrices (spEx_len rfl) (fun cdv A outer s H vs Q E hr hsp => init_one (T.C.cf (i := 2) (by decide)).T rfl (T.C.kf.no (i := 2) (by decide) (by simp [fds])) (pv 0) (pv 1) hsp), T.b_BadPrices⟩
theorem mk_BadText (T : Txt K mg Ad) : MkOk P w K mg base 1 (Ad.cls 3) ["line"] ["self", "line"] := ⟨(T.C.cf (i := 3) (by decide)).T, _, _, T.i_BadText, T.t_BadText, T.F_BadText.okX sc_BadText (spEx_len rfl) (fun cdv A outer s H vs Q E hr hsp => init_one (T.C.cf (i := 3) (by decide)).T rfl (T.C.kf.no (i := 3) (by decide) (by simp [fds])) (pv 0) (pv 1) hsp), T.b_BadText⟩
theorem ok_is_one_of (T : Txt K mg Ad) : DFn P w K mg base 1 Ad.a_is_one_of Ad.d_is_one_of ["value", "words"] (Wis_one_of K Ad.cls) :=
  dfn_of T.F_is_one_of sc_is_one_of fun cdv A outer s H E hr => (dss_one (ds_ret (de_and (de_callB dc_isi (by rfl) T.z_isinstance (by decide +kernel) (dn_cons (de_var (pv 0)) (dn_cons (de_bltn (by rfl) T.z_str (by decide +kernel)) (dn_nil)))) (de_one (de_cmp (do_in (hu_of hr.r)) (de_var (pv 0)) (de_var (pv 1)) (by with_unfolding_all rfl))))))
theorem ok_is_rule (T : Txt K mg Ad) : DFn P w K mg base 1 Ad.a_is_rule Ad.d_is_rule ["value"] (Wis_rule K Ad.cls) :=
  dfn_of T.F_is_rule sc_is_rule fun cdv A outer s H E hr => (dss_cons (ds_if (DW.dt (dw_or (dt_not (dt_tru (de_callB dc_isi (by rfl) T.z_isinstance (by decide +kernel) (dn_cons (de_var (pv 0)) (dn_cons (de_bltn (by rfl) T.z_tuple (by decide +kernel)) (dn_nil)))))) (dw_or1 (dt_cmp (do_ne hr.r.units) (de_callB dc_len (by rfl) T.z_len (by decide +kernel) (dn_cons (de_var (pv 0)) (dn_nil))) (de_int) (nomark _))))) (dss_one (ds_ret (de_bl))) (dss_nil)) (dss_cons (ds_asg (de_var (pv 0)) (dg_tup rfl (dgs_cons (dg_name (i := 1) sc_is_rule.nd rfl (by first | exact .inl rfl | exact .inr rfl)) (dgs_cons (dg_name (i := 2) sc_is_rule.nd rfl (by first | exact .inl rfl | exact .inr rfl)) (dgs_cons (dg_name (i := 3) sc_is_rule.nd rfl (by first | exact .inl rfl | exact .inr rfl)) (dgs_nil)))))) (dss_cons (ds_if (DW.dt (dw_or (dt_not (dt_tru (de_callB dc_isi (by rfl) T.z_isinstance (by decide +kernel) (dn_cons (de_var (pv 1)) (dn_cons (de_bltn (by rfl) T.z_int (by decide +kernel)) (dn_nil)))))) (dw_or (dt_tru (de_callB dc_isi (by rfl) T.z_isinstance (by decide +kernel) (dn_cons (de_var (pv 1)) (dn_cons (de_bltn (by rfl) T.z_bool (by decide +kernel)) (dn_nil))))) (dw_or1 (dt_not (dt_chain do_le do_le (de_int) (de_var (pv 1)) ((T.c_MOST_SHARE.elim fun _ h => de_glob (by rfl) h.1 h.2 fun _ _ => rfl)))))))) (dss_one (ds_ret (de_bl))) (dss_nil)) (dss_cons (ds_if (DW.dt (dw_or (dt_not (dt_tru (de_callB dc_isi (by rfl) T.z_isinstance (by decide +kernel) (dn_cons (de_var (pv 2)) (dn_cons (de_bltn (by rfl) T.z_str (by decide +kernel)) (dn_nil)))))) (dw_or1 (dt_not (dt_tru (de_callB dc_isi (by rfl) T.z_isinstance (by decide +kernel) (dn_cons (de_var (pv 3)) (dn_cons (de_bltn (by rfl) T.z_str (by decide +kernel)) (dn_nil))))))))) (dss_one (ds_ret (de_bl))) (dss_nil)) (dss_one (ds_ret (de_and (de_or (de_cmp (do_eq hr.r.units) (de_var (pv 2)) (de_str) (nomark _)) (de_one (de_cmp (do_eq hr.r.units) (de_var (pv 2)) (de_str) (nomark _)))) (de_one (de_or (de_cmp (do_eq hr.r.units) (de_var (pv 3)) (de_str) (nomark _)) (de_one (de_cmp (do_eq hr.r.units) (de_var (pv 3)) (de_str) (nomark _))))))))))))
theorem ok__need_bounds (T : Txt K mg Ad) : DFn P w K mg base 3 Ad.a__need_bounds Ad.d__need_bounds ["number", "land", "low", "high"] (W_need_bounds K Ad.cls) :=
  dfn_of T.F__need_bounds sc__need_bounds fun cdv A outer s H E hr => (dss_cons (ds_if (DW.dt (dw_or (dt_not (dt_tru (de_callB dc_isi (by rfl) T.z_isinstance (by decide +kernel) (dn_cons (de_var (pv 1)) (dn_cons (de_bltn (by rfl) T.z_str (by decide +kernel)) (dn_nil)))))) (dw_or1 (DW.dt (dw_and (dt_cmp (do_ne hr.r.units) (de_var (pv 1)) (de_str) (nomark _)) (dw_and1 (dt_cmp (do_ne hr.r.units) (de_var (pv 1)) (de_str) (nomark _)))))))) (dss_one (ds_raise (mk_BadGood T) (hr.mono (by first | decide | omega | (simp only [Nat.add_eq]; omega))) rfl (takes_of rfl rfl rfl rfl) pass_no (by rfl) T.g_BadGood (dn_cons (de_var (pv 0)) (dn_cons (de_str) (dn_nil))))) (dss_nil)) (dss_cons (ds_if (DW.dt (dw_or (dt_not (dt_tru (de_callB dc_isi (by rfl) T.z_isinstance (by decide +kernel) (dn_cons (de_var (pv 2)) (dn_cons (de_bltn (by rfl) T.z_int (by decide +kernel)) (dn_nil)))))) (dw_or (dt_tru (de_callB dc_isi (by rfl) T.z_isinstance (by decide +kernel) (dn_cons (de_var (pv 2)) (dn_cons (de_bltn (by rfl) T.z_bool (by decide +kernel)) (dn_nil))))) (dw_or1 (dt_not (dt_chain do_le do_le (de_int) (de_var (pv 2)) ((T.c_MOST_PRICE.elim fun _ h => de_glob (by rfl) h.1 h.2 fun _ _ => rfl)))))))) (dss_one (ds_raise (mk_BadGood T) (hr.mono (by first | decide | omega | (simp only [Nat.add_eq]; omega))) rfl (takes_of rfl rfl rfl rfl) pass_no (by rfl) T.g_BadGood (dn_cons (de_var (pv 0)) (dn_cons (de_str) (dn_nil))))) (dss_nil)) (dss_one (ds_if (DW.dt (dw_or (dt_not (dt_tru (de_callB dc_isi (by rfl) T.z_isinstance (by decide +kernel) (dn_cons (de_var (pv 3)) (dn_cons (de_bltn (by rfl) T.z_int (by decide +kernel)) (dn_nil)))))) (dw_or (dt_tru (de_callB dc_isi (by rfl) T.z_isinstance (by decide +kernel) (dn_cons (de_var (pv 3)) (dn_cons (de_bltn (by rfl) T.z_bool (by decide +kernel)) (dn_nil))))) (dw_or1 (dt_not (dt_chain do_le do_le (de_var (pv 2)) (de_var (pv 3)) ((T.c_MOST_PRICE.elim fun _ h => de_glob (by rfl) h.1 h.2 fun _ _ => rfl)))))))) (dss_one (ds_raise (mk_BadGood T) (hr.mono (by first | decide | omega | (simp only [Nat.add_eq]; omega))) rfl (takes_of rfl rfl rfl rfl) pass_no (by rfl) T.g_BadGood (dn_cons (de_var (pv 0)) (dn_cons (de_str) (dn_nil))))) (dss_nil)))))
theorem ok__need_making (T : Txt K mg Ad) : DFn P w K mg base 3 Ad.a__need_making Ad.d__need_making ["number", "rule", "parts"] (W_need_making K Ad.cls) :=
  dfn_of T.F__need_making sc__need_making fun cdv A outer s H E hr => (dss_cons (ds_if (dt_not (dt_tru (de_call (ok_is_rule T) (hr.mono (by decide)) (by rfl) T.g_is_rule T.F_is_rule.kp T.b_is_rule .nil rs0 pBody (dn_cons (de_var (pv 1)) (dn_nil))))) (dss_one (ds_raise (mk_BadGood T) (hr.mono (by first | decide | omega | (simp only [Nat.add_eq]; omega))) rfl (takes_of rfl rfl rfl rfl) pass_no (by rfl) T.g_BadGood (dn_cons (de_var (pv 0)) (dn_cons (de_str) (dn_nil))))) (dss_nil)) (dss_one (ds_if (DW.dt (dw_or (dt_not (dt_tru (de_callB dc_isi (by rfl) T.z_isinstance (by decide +kernel) (dn_cons (de_var (pv 2)) (dn_cons (de_bltn (by rfl) T.z_tuple (by decide +kernel)) (dn_nil)))))) (dw_or1 (dt_not (dt_chain do_le do_le (de_int) (de_callB dc_len (by rfl) T.z_len (by decide +kernel) (dn_cons (de_var (pv 2)) (dn_nil))) ((T.c_MOST_PARTS.elim fun _ h => de_glob (by rfl) h.1 h.2 fun _ _ => rfl))))))) (dss_one (ds_raise (mk_BadGood T) (hr.mono (by first | decide | omega | (simp only [Nat.add_eq]; omega))) rfl (takes_of rfl rfl rfl rfl) pass_no (by rfl) T.g_BadGood (dn_cons (de_var (pv 0)) (dn_cons (de_str) (dn_nil))))) (dss_nil))))
theorem ok__look_at (T : Txt K mg Ad) : ∀ n : Nat, DFn P w K mg base (3 + n) Ad.a__look_at Ad.d__look_at ["thing", "whole", "found", "wholes", "made", "moving"] (W_look_at K Ad.cls n)
  | 0 => dfn0
  | n + 1 => by
    have ih := ok__look_at T n
    exact dfn_of T.F__look_at sc__look_at fun cdv A outer s H E hr => (dss_cons (ds_set (i := 6) sc__look_at.nd rfl (by first | exact .inl rfl | exact .inr rfl) (de_callB dc_len (by rfl) T.z_len (by decide +kernel) (dn_cons (de_var (pv 2)) (dn_nil)))) (dss_cons (ds_set (i := 7) sc__look_at.nd rfl (by first | exact .inl rfl | exact .inr rfl) (de_ite (DW.dt (dw_and (dt_tru (de_callB dc_isi (by rfl) T.z_isinstance (by decide +kernel) (dn_cons (de_var (pv 0)) (dn_cons (de_bltn (by rfl) T.z_tuple (by decide +kernel)) (dn_nil))))) (dw_and1 (dt_cmp do_gt (de_callB dc_len (by rfl) T.z_len (by decide +kernel) (dn_cons (de_var (pv 0)) (dn_nil))) (de_int) (nomark _))))) (de_ix (hu_of hr.r) (de_var (pv 0)) ((T.c_MAKING.elim fun _ h => de_glob (by rfl) h.1 h.2 fun _ _ => rfl)) (fun _ _ => rfl)) (de_non))) (dss_cons (ds_set (i := 8) sc__look_at.nd rfl (by first | exact .inl rfl | exact .inr rfl) (de_and (de_callB dc_isi (by rfl) T.z_isinstance (by decide +kernel) (dn_cons (de_var (pv 7)) (dn_cons (de_bltn (by rfl) T.z_str (by decide +kernel)) (dn_nil)))) (de_one (de_cmp (do_eq hr.r.units) (de_var (pv 7)) (de_str) (nomark _))))) (dss_cons (ds_if (dt_tru (de_var (pv 8))) (dss_one (ds_expr (de_app (de_var (pv 4)) (de_var (pv 6))))) (dss_nil)) (dss_cons (ds_if (DW.dt (dw_or (dt_cmp (do_eq hr.r.units) (de_var (pv 6)) ((T.c_MOST_THINGS.elim fun _ h => de_glob (by rfl) h.1 h.2 fun _ _ => rfl)) (nomark _)) (dw_or1 (dt_cmp do_gt (de_callB dc_len (by rfl) T.z_len (by decide +kernel) (dn_cons (de_var (pv 4)) (dn_nil))) ((T.c_MOST_STEPS.elim fun _ h => de_glob (by rfl) h.1 h.2 fun _ _ => rfl)) (nomark _))))) (dss_one (ds_raise (mk_BadGood T) (hr.mono (by first | decide | omega | (simp only [Nat.add_eq]; omega))) rfl (takes_of rfl rfl rfl rfl) pass_no (by rfl) T.g_BadGood (dn_cons (de_var (pv 6)) (dn_cons (de_str) (dn_nil))))) (dss_nil)) (dss_cons (ds_set (i := 9) sc__look_at.nd rfl (by first | exact .inl rfl | exact .inr rfl) (de_tup (dn_nil))) (dss_cons (ds_if (DW.dt (dw_and (dt_tru (de_var (pv 8))) (dw_and1 (dt_cmp (do_eq hr.r.units) (de_callB dc_len (by rfl) T.z_len (by decide +kernel) (dn_cons (de_var (pv 0)) (dn_nil))) (de_int) (nomark _))))) (dss_cons (ds_asg (de_var (pv 0)) (dg_tup rfl (dgs_cons (dg_name (i := 10) sc__look_at.nd rfl (by first | exact .inl rfl | exact .inr rfl)) (dgs_cons (dg_name (i := 11) sc__look_at.nd rfl (by first | exact .inl rfl | exact .inr rfl)) (dgs_cons (dg_name (i := 12) sc__look_at.nd rfl (by first | exact .inl rfl | exact .inr rfl)) (dgs_cons (dg_name (i := 13) sc__look_at.nd rfl (by first | exact .inl rfl | exact .inr rfl)) (dgs_cons (dg_name (i := 14) sc__look_at.nd rfl (by first | exact .inl rfl | exact .inr rfl)) (dgs_cons (dg_name (i := 9) sc__look_at.nd rfl (by first | exact .inl rfl | exact .inr rfl)) (dgs_nil))))))))) (dss_cons (ds_expr (de_call (ok__need_bounds T) (hr.mono (by first | omega | (simp only [Nat.add_eq]; omega))) (by rfl) T.g__need_bounds T.F__need_bounds.kp T.b__need_bounds .nil rs0 pBody (dn_cons (de_var (pv 6)) (dn_cons (de_var (pv 11)) (dn_cons (de_var (pv 12)) (dn_cons (de_var (pv 13)) (dn_nil))))))) (dss_one (ds_expr (de_call (ok__need_making T) (hr.mono (by first | omega | (simp only [Nat.add_eq]; omega))) (by rfl) T.g__need_making T.F__need_making.kp T.b__need_making .nil rs0 pBody (dn_cons (de_var (pv 6)) (dn_cons (de_var (pv 14)) (dn_cons (de_var (pv 9)) (dn_nil))))))))) (dss_one (ds_if (DW.dt (dw_and (dt_tru (de_callB dc_isi (by rfl) T.z_isinstance (by decide +kernel) (dn_cons (de_var (pv 7)) (dn_cons (de_bltn (by rfl) T.z_str (by decide +kernel)) (dn_nil))))) (dw_and (dt_cmp (do_eq hr.r.units) (de_var (pv 7)) (de_str) (nomark _)) (dw_and1 (dt_cmp (do_eq hr.r.units) (de_callB dc_len (by rfl) T.z_len (by decide +kernel) (dn_cons (de_var (pv 0)) (dn_nil))) (de_int) (nomark _)))))) (dss_cons (ds_asg (de_var (pv 0)) (dg_tup rfl (dgs_cons (dg_name (i := 10) sc__look_at.nd rfl (by first | exact .inl rfl | exact .inr rfl)) (dgs_cons (dg_name (i := 11) sc__look_at.nd rfl (by first | exact .inl rfl | exact .inr rfl)) (dgs_cons (dg_name (i := 12) sc__look_at.nd rfl (by first | exact .inl rfl | exact .inr rfl)) (dgs_cons (dg_name (i := 13) sc__look_at.nd rfl (by first | exact .inl rfl | exact .inr rfl)) (dgs_nil))))))) (dss_one (ds_expr (de_call (ok__need_bounds T) (hr.mono (by first | omega | (simp only [Nat.add_eq]; omega))) (by rfl) T.g__need_bounds T.F__need_bounds.kp T.b__need_bounds .nil rs0 pBody (dn_cons (de_var (pv 6)) (dn_cons (de_var (pv 11)) (dn_cons (de_var (pv 12)) (dn_cons (de_var (pv 13)) (dn_nil))))))))) (dss_one (ds_raise (mk_BadGood T) (hr.mono (by first | decide | omega | (simp only [Nat.add_eq]; omega))) rfl (takes_of rfl rfl rfl rfl) pass_no (by rfl) T.g_BadGood (dn_cons (de_var (pv 6)) (dn_cons (de_str) (dn_nil)))))))) (dss_cons (ds_expr (de_app (de_var (pv 2)) (de_var (pv 0)))) (dss_cons (ds_expr (de_app (de_var (pv 3)) (de_var (pv 1)))) (dss_cons (ds_if (dt_cmp do_lt (de_var (pv 12)) (de_var (pv 13)) (nomark _)) (dss_one (ds_expr (de_app (de_var (pv 5)) (de_var (pv 6))))) (dss_nil)) (dss_one (ds_for oBody rfl (di_seq (de_var (pv 9))) (dg_name (i := 15) sc__look_at.nd rfl (by first | exact .inl rfl | exact .inr rfl)) (dss_one (ds_expr (de_call ih (hr.mono (by first | omega | (simp only [Nat.add_eq]; omega))) (by rfl) T.g__look_at T.F__look_at.kp T.b__look_at .nil rs0 pBody (dn_cons (de_var (pv 15)) (dn_cons (de_var (pv 6)) (dn_cons (de_var (pv 2)) (dn_cons (de_var (pv 3)) (dn_cons (de_var (pv 4)) (dn_cons (de_var (pv 5)) (dn_nil))))))))))))))))))))))
theorem ok_look_over (T : Txt K mg Ad) : DFn P w K mg base 12 Ad.a_look_over Ad.d_look_over ["good"] (Wlook_over K Ad.cls) :=
  dfn_of T.F_look_over sc_look_over fun cdv A outer s H E hr => (dss_cons (ds_asg (de_tup (dn_cons (de_lstO (dn_nil)) (dn_cons (de_lstO (dn_nil)) (dn_cons (de_lstO (dn_nil)) (dn_cons (de_lstO (dn_nil)) (dn_nil)))))) (dg_tup rfl (dgs_cons (dg_name (i := 1) sc_look_over.nd rfl (by first | exact .inl rfl | exact .inr rfl)) (dgs_cons (dg_name (i := 2) sc_look_over.nd rfl (by first | exact .inl rfl | exact .inr rfl)) (dgs_cons (dg_name (i := 3) sc_look_over.nd rfl (by first | exact .inl rfl | exact .inr rfl)) (dgs_cons (dg_name (i := 4) sc_look_over.nd rfl (by first | exact .inl rfl | exact .inr rfl)) (dgs_nil))))))) (dss_cons (ds_expr (de_call (ok__look_at T 8) (hr.mono (by decide)) (by rfl) T.g__look_at T.F__look_at.kp T.b__look_at .nil rs0 pBody (dn_cons (de_var (pv 0)) (dn_cons (de_non) (dn_cons (de_var (pv 1)) (dn_cons (de_var (pv 2)) (dn_cons (de_var (pv 3)) (dn_cons (de_var (pv 4)) (dn_nil))))))))) (dss_cons (ds_if (dt_cmp (do_eq hr.r.units) (de_callB dc_len (by rfl) T.z_len (by decide +kernel) (dn_cons (de_var (pv 3)) (dn_nil))) (de_int) (nomark _)) (dss_one (ds_raise (mk_BadGood T) (hr.mono (by first | decide | omega | (simp only [Nat.add_eq]; omega))) rfl (takes_of rfl rfl rfl rfl) pass_no (by rfl) T.g_BadGood (dn_cons (de_int) (dn_cons (de_str) (dn_nil))))) (dss_nil)) (dss_cons (ds_if (dt_cmp do_gt (de_callB dc_len (by rfl) T.z_len (by decide +kernel) (dn_cons (de_var (pv 4)) (dn_nil))) ((T.c_MOST_MOVES.elim fun _ h => de_glob (by rfl) h.1 h.2 fun _ _ => rfl)) (nomark _)) (dss_one (ds_raise (mk_BadGood T) (hr.mono (by first | decide | omega | (simp only [Nat.add_eq]; omega))) rfl (takes_of rfl rfl rfl rfl) pass_no (by rfl) T.g_BadGood (dn_cons (de_int) (dn_cons (de_str) (dn_nil))))) (dss_nil)) (dss_cons (ds_for oBody rfl (di_seq (de_var (pv 1))) (dg_name (i := 5) sc_look_over.nd rfl (by first | exact .inl rfl | exact .inr rfl)) (dss_one (ds_if (dt_cmp do_gt (de_ix (hu_of hr.r) (de_var (pv 5)) ((T.c_LOW.elim fun _ h => de_glob (by rfl) h.1 h.2 fun _ _ => rfl)) (fun _ _ => rfl)) (de_int) (nomark _)) (dss_one (ds_ret (de_tup (dn_cons (de_var (pv 1)) (dn_cons (de_var (pv 2)) (dn_cons (de_var (pv 3)) (dn_cons (de_var (pv 4)) (dn_nil)))))))) (dss_nil)))) (dss_one (ds_raise (mk_BadGood T) (hr.mono (by first | decide | omega | (simp only [Nat.add_eq]; omega))) rfl (takes_of rfl rfl rfl rfl) pass_no (by rfl) T.g_BadGood (dn_cons (de_int) (dn_cons (de_str) (dn_nil))))))))))
theorem ok_need_good (T : Txt K mg Ad) : DFn P w K mg base 13 Ad.a_need_good Ad.d_need_good ["thing"] (Wneed_good K Ad.cls) :=
  dfn_of T.F_need_good sc_need_good fun cdv A outer s H E hr => (dss_cons (ds_expr (de_call (ok_look_over T) (hr.mono (by decide)) (by rfl) T.g_look_over T.F_look_over.kp T.b_look_over .nil rs0 pBody (dn_cons (de_var (pv 0)) (dn_nil)))) (dss_one (ds_ret (de_var (pv 0)))))
theorem ok_is_fraction (T : Txt K mg Ad) : DFn P w K mg base 1 Ad.a_is_fraction Ad.d_is_fraction ["value", "least", "most"] (Wis_fraction K Ad.cls) :=
  dfn_of T.F_is_fraction sc_is_fraction fun cdv A outer s H E hr => (dss_cons (ds_if (DW.dt (dw_or (dt_not (dt_tru (de_callB dc_isi (by rfl) T.z_isinstance (by decide +kernel) (dn_cons (de_var (pv 0)) (dn_cons (de_bltn (by rfl) T.z_tuple (by decide +kernel)) (dn_nil)))))) (dw_or1 (dt_cmp (do_ne hr.r.units) (de_callB dc_len (by rfl) T.z_len (by decide +kernel) (dn_cons (de_var (pv 0)) (dn_nil))) (de_int) (nomark _))))) (dss_one (ds_ret (de_bl))) (dss_nil)) (dss_cons (ds_asg (de_var (pv 0)) (dg_tup rfl (dgs_cons (dg_name (i := 3) sc_is_fraction.nd rfl (by first | exact .inl rfl | exact .inr rfl)) (dgs_cons (dg_name (i := 4) sc_is_fraction.nd rfl (by first | exact .inl rfl | exact .inr rfl)) (dgs_nil))))) (dss_cons (ds_if (DW.dt (dw_or (dt_not (dt_tru (de_callB dc_isi (by rfl) T.z_isinstance (by decide +kernel) (dn_cons (de_var (pv 3)) (dn_cons (de_bltn (by rfl) T.z_int (by decide +kernel)) (dn_nil)))))) (dw_or (dt_tru (de_callB dc_isi (by rfl) T.z_isinstance (by decide +kernel) (dn_cons (de_var (pv 3)) (dn_cons (de_bltn (by rfl) T.z_bool (by decide +kernel)) (dn_nil))))) (dw_or (dt_not (dt_tru (de_callB dc_isi (by rfl) T.z_isinstance (by decide +kernel) (dn_cons (de_var (pv 4)) (dn_cons (de_bltn (by rfl) T.z_int (by decide +kernel)) (dn_nil)))))) (dw_or1 (dt_tru (de_callB dc_isi (by rfl) T.z_isinstance (by decide +kernel) (dn_cons (de_var (pv 4)) (dn_cons (de_bltn (by rfl) T.z_bool (by decide +kernel)) (dn_nil)))))))))) (dss_one (ds_ret (de_bl))) (dss_nil)) (dss_one (ds_ret (de_and (de_or (de_cmp (do_eq hr.r.units) (de_var (pv 4)) (de_int) (nomark _)) (de_one (de_and (de_cmp do_gt (de_var (pv 4)) (de_int) (nomark _)) (de_one (de_cmp (do_eq hr.r.units) (de_callF dc_gcd (by rfl) T.i_gcd (dn_cons (de_var (pv 3)) (dn_cons (de_var (pv 4)) (dn_nil)))) (de_int) (nomark _)))))) (de_one (de_chain do_le do_le (de_op do_mul (de_var (pv 1)) (de_var (pv 4))) (de_var (pv 3)) (de_op do_mul (de_var (pv 2)) (de_var (pv 4)))))))))))
theorem ok_need_prices (T : Txt K mg Ad) : DFn P w K mg base 3 Ad.a_need_prices Ad.d_need_prices ["found", "prices"] (Wneed_prices K Ad.cls) :=
  dfn_of T.F_need_prices sc_need_prices fun cdv A outer s H E hr => (dss_cons (ds_if (DW.dt (dw_or (dt_not (dt_tru (de_callB dc_isi (by rfl) T.z_isinstance (by decide +kernel) (dn_cons (de_var (pv 1)) (dn_cons (de_bltn (by rfl) T.z_tuple (by decide +kernel)) (dn_nil)))))) (dw_or1 (dt_cmp (do_ne hr.r.units) (de_callB dc_len (by rfl) T.z_len (by decide +kernel) (dn_cons (de_var (pv 1)) (dn_nil))) (de_callB dc_len (by rfl) T.z_len (by decide +kernel) (dn_cons (de_var (pv 0)) (dn_nil))) (nomark _))))) (dss_one (ds_raise (mk_BadPrices T) (hr.mono (by first | decide | omega | (simp only [Nat.add_eq]; omega))) rfl (takes_of rfl rfl rfl rfl) pass_no (by rfl) T.g_BadPrices (dn_cons (de_non) (dn_nil)))) (dss_nil)) (dss_cons (ds_for oBody rfl (di_enumB (by rfl) T.z_enumerate (de_var (pv 0))) (dg_tup rfl (dgs_cons (dg_name (i := 2) sc_need_prices.nd rfl (by first | exact .inl rfl | exact .inr rfl)) (dgs_cons (dg_name (i := 3) sc_need_prices.nd rfl (by first | exact .inl rfl | exact .inr rfl)) (dgs_nil)))) (dss_one (ds_if (dt_not (dt_tru (de_call (ok_is_fraction T) (hr.mono (by decide)) (by rfl) T.g_is_fraction T.F_is_fraction.kp T.b_is_fraction .nil rs0 pBody (dn_cons (de_ix (hu_of hr.r) (de_var (pv 1)) (de_var (pv 2)) (fun _ _ => rfl)) (dn_cons (de_ix (hu_of hr.r) (de_var (pv 3)) ((T.c_LOW.elim fun _ h => de_glob (by rfl) h.1 h.2 fun _ _ => rfl)) (fun _ _ => rfl)) (dn_cons (de_ix (hu_of hr.r) (de_var (pv 3)) ((T.c_HIGH.elim fun _ h => de_glob (by rfl) h.1 h.2 fun _ _ => rfl)) (fun _ _ => rfl)) (dn_nil))))))) (dss_one (ds_raise (mk_BadPrices T) (hr.mono (by first | decide | omega | (simp only [Nat.add_eq]; omega))) rfl (takes_of rfl rfl rfl rfl) pass_no (by rfl) T.g_BadPrices (dn_cons (de_var (pv 2)) (dn_nil)))) (dss_nil)))) (dss_one (ds_ret (de_var (pv 1))))))
theorem ok_are_figures (T : Txt K mg Ad) : DFn P w K mg base 1 Ad.a_are_figures Ad.d_are_figures ["word", "most"] (Ware_figures K Ad.cls) :=
  dfn_of T.F_are_figures sc_are_figures fun cdv A outer s H E hr => (dss_cons (ds_if (DW.dt (dw_or (dt_not (dt_chain do_le do_le (de_int) (de_callB dc_len (by rfl) T.z_len (by decide +kernel) (dn_cons (de_var (pv 0)) (dn_nil))) (de_var (pv 1)))) (dw_or (dt_not (dt_tru (de_isascii (de_var (pv 0))))) (dw_or1 (dt_not (dt_tru (de_isdigit (de_var (pv 0))))))))) (dss_one (ds_ret (de_bl))) (dss_nil)) (dss_one (ds_ret (de_or (de_cmp (do_eq hr.r.units) (de_var (pv 0)) (de_str) (nomark _)) (de_one (de_cmp (do_ne hr.r.units) (de_ixS (de_var (pv 0)) (de_int) (fun _ _ => rfl)) (de_str) (nomark _)))))))
theorem ok_are_integers (T : Txt K mg Ad) : DFn P w K mg base 2 Ad.a_are_integers Ad.d_are_integers ["words"] (Ware_integers K Ad.cls) :=
  dfn_of T.F_are_integers sc_are_integers fun cdv A outer s H E hr => (dss_one (ds_ret (de_callB (dc_all rfl) (by rfl) T.z_all (by decide +kernel) (dn_cons (de_comp [("word", 1)] (gName 1) rfl sc_are_integers.nd (di_seq (de_var (pv 0))) (blkOk_by (N := N_are_integers) (sc := defScope st_are_integers) (by decide +kernel)) (fun _ _ _ _ _ => pg_name (i := 1) sc_are_integers.nd rfl (by first | exact .inl rfl | exact .inr rfl)) (gv_name (by decide)) (fun _ _ _ _ _ => dts_nil) (fun _ _ _ _ _ => de_call (ok_are_figures T) (hr.mono (by decide)) (by rfl) T.g_are_figures T.F_are_figures.kp T.b_are_figures .nil rs0 passL (dn_cons (de_var (pv 1)) (dn_cons ((T.c_MOST_FIGURES.elim fun _ h => de_glob (by rfl) h.1 h.2 fun _ _ => rfl)) (dn_nil))))) (dn_nil)))))
theorem ok_is_told_rule (T : Txt K mg Ad) : DFn P w K mg base 3 Ad.a_is_told_rule Ad.d_is_told_rule ["words"] (Wis_told_rule K Ad.cls) :=
  dfn_of T.F_is_told_rule sc_is_told_rule fun cdv A outer s H E hr => (dss_cons (ds_if (dt_cmp (do_ne hr.r.units) (de_callB dc_len (by rfl) T.z_len (by decide +kernel) (dn_cons (de_var (pv 0)) (dn_nil))) (de_int) (nomark _)) (dss_one (ds_ret (de_bl))) (dss_nil)) (dss_cons (ds_asg (de_var (pv 0)) (dg_tl3 rfl (dgs_cons (dg_name (i := 1) sc_is_told_rule.nd rfl (by first | exact .inl rfl | exact .inr rfl)) (dgs_cons (dg_name (i := 2) sc_is_told_rule.nd rfl (by first | exact .inl rfl | exact .inr rfl)) (dgs_cons (dg_name (i := 3) sc_is_told_rule.nd rfl (by first | exact .inl rfl | exact .inr rfl)) (dgs_nil)))))) (dss_one (ds_ret (de_and (de_call (ok_are_integers T) (hr.mono (by decide)) (by rfl) T.g_are_integers T.F_are_integers.kp T.b_are_integers .nil rs0 pBody (dn_cons (de_lst (dn_cons (de_var (pv 1)) (dn_nil))) (dn_nil))) (de_and (de_call (ok_is_one_of T) (hr.mono (by decide)) (by rfl) T.g_is_one_of T.F_is_one_of.kp T.b_is_one_of .nil rs0 pBody (dn_cons (de_var (pv 2)) (dn_cons (de_tup (dn_cons (de_str) (dn_cons (de_str) (dn_nil)))) (dn_nil)))) (de_one (de_call (ok_is_one_of T) (hr.mono (by decide)) (by rfl) T.g_is_one_of T.F_is_one_of.kp T.b_is_one_of .nil rs0 pBody (dn_cons (de_var (pv 3)) (dn_cons (de_tup (dn_cons (de_str) (dn_cons (de_str) (dn_nil)))) (dn_nil)))))))))))
theorem ok_fraction_text (T : Txt K mg Ad) : DFn P w K mg base 1 Ad.a_fraction_text Ad.d_fraction_text ["fraction"] (Wfraction_text K Ad.cls) :=
  dfn_of T.F_fraction_text sc_fraction_text fun cdv A outer s H E hr => (dss_cons (ds_asg (de_var (pv 0)) (dg_tup rfl (dgs_cons (dg_name (i := 1) sc_fraction_text.nd rfl (by first | exact .inl rfl | exact .inr rfl)) (dgs_cons (dg_name (i := 2) sc_fraction_text.nd rfl (by first | exact .inl rfl | exact .inr rfl)) (dgs_nil))))) (dss_one (ds_ret (de_joined (.cons (de_fmt (de_var (pv 1))) (.cons (de_str) (.cons (de_fmt (de_var (pv 2))) (.nil))))))))
theorem ok_told_fraction (T : Txt K mg Ad) : DFn P w K mg base 2 Ad.a_told_fraction Ad.d_told_fraction ["word"] (Wtold_fraction K Ad.cls) :=
  dfn_of T.F_told_fraction sc_told_fraction fun cdv A outer s H E hr => (dss_cons (ds_set (i := 1) sc_told_fraction.nd rfl (by first | exact .inl rfl | exact .inr rfl) (de_split (de_var (pv 0)) (de_str))) (dss_cons (ds_if (DW.dt (dw_or (dt_cmp (do_ne hr.r.units) (de_callB dc_len (by rfl) T.z_len (by decide +kernel) (dn_cons (de_var (pv 1)) (dn_nil))) (de_int) (nomark _)) (dw_or1 (dt_not (dt_tru (de_callB (dc_all rfl) (by rfl) T.z_all (by decide +kernel) (dn_cons (de_comp [("some", 2)] (gName 2) rfl sc_told_fraction.nd (di_seq (de_var (pv 1))) (blkOk_by (N := N_told_fraction) (sc := defScope st_told_fraction) (by decide +kernel)) (fun _ _ _ _ _ => pg_name (i := 2) sc_told_fraction.nd rfl (by first | exact .inl rfl | exact .inr rfl)) (gv_name (by decide)) (fun _ _ _ _ _ => dts_nil) (fun _ _ _ _ _ => de_call (ok_are_figures T) (hr.mono (by decide)) (by rfl) T.g_are_figures T.F_are_figures.kp T.b_are_figures .nil rs0 passL (dn_cons (de_var (pv 2)) (dn_cons ((T.c_MOST_FIGURES_OF_PRICES.elim fun _ h => de_glob (by rfl) h.1 h.2 fun _ _ => rfl)) (dn_nil))))) (dn_nil)))))))) (dss_one (ds_ret (de_non))) (dss_nil)) (dss_cons (ds_par (i := 3) (j := 4) rfl sc_told_fraction.nd rfl rfl (by decide) rfl rfl (dn_cons (de_callTy dc_intS (by rfl) T.z_int (by decide +kernel) (dn_cons (de_ix (hu_of hr.r) (de_var (pv 1)) (de_int) (fun _ _ => rfl)) (dn_nil))) (dn_cons (de_callTy dc_intS (by rfl) T.z_int (by decide +kernel) (dn_cons (de_ix (hu_of hr.r) (de_var (pv 1)) (de_int) (fun _ _ => rfl)) (dn_nil))) (dn_nil))) (by rfl)) (dss_one (ds_ret (de_ite (DW.dt (dw_and (dt_cmp do_gt (de_var (pv 4)) (de_int) (nomark _)) (dw_and1 (dt_cmp (do_eq hr.r.units) (de_callF dc_gcd (by rfl) T.i_gcd (dn_cons (de_var (pv 3)) (dn_cons (de_var (pv 4)) (dn_nil)))) (de_int) (nomark _))))) (de_tup (dn_cons (de_var (pv 3)) (dn_cons (de_var (pv 4)) (dn_nil)))) (de_non)))))))
theorem ok__row_of (T : Txt K mg Ad) : DFn P w K mg base 1 Ad.a__row_of Ad.d__row_of ["thing", "points"] (W_row_of K Ad.cls) :=
  dfn_of T.F__row_of sc__row_of fun cdv A outer s H E hr => (dss_cons (ds_set (i := 2) sc__row_of.nd rfl (by first | exact .inl rfl | exact .inr rfl) (de_lstO (dn_cons (de_ix (hu_of hr.r) (de_var (pv 0)) ((T.c_MAKING.elim fun _ h => de_glob (by rfl) h.1 h.2 fun _ _ => rfl)) (fun _ _ => rfl)) (dn_cons (de_ix (hu_of hr.r) (de_var (pv 0)) ((T.c_LAND.elim fun _ h => de_glob (by rfl) h.1 h.2 fun _ _ => rfl)) (fun _ _ => rfl)) (dn_cons (de_callTy dc_strI (by rfl) T.z_str (by decide +kernel) (dn_cons (de_ix (hu_of hr.r) (de_var (pv 0)) ((T.c_LOW.elim fun _ h => de_glob (by rfl) h.1 h.2 fun _ _ => rfl)) (fun _ _ => rfl)) (dn_nil))) (dn_cons (de_callTy dc_strI (by rfl) T.z_str (by decide +kernel) (dn_cons (de_ix (hu_of hr.r) (de_var (pv 0)) ((T.c_HIGH.elim fun _ h => de_glob (by rfl) h.1 h.2 fun _ _ => rfl)) (fun _ _ => rfl)) (dn_nil))) (dn_nil))))))) (dss_cons (ds_if (dt_cmp (do_eq hr.r.units) (de_ix (hu_of hr.r) (de_var (pv 0)) ((T.c_MAKING.elim fun _ h => de_glob (by rfl) h.1 h.2 fun _ _ => rfl)) (fun _ _ => rfl)) (de_str) (nomark _)) (dss_cons (ds_asg (de_ix (hu_of hr.r) (de_var (pv 0)) ((T.c_RULE.elim fun _ h => de_glob (by rfl) h.1 h.2 fun _ _ => rfl)) (fun _ _ => rfl)) (dg_tup rfl (dgs_cons (dg_name (i := 3) sc__row_of.nd rfl (by first | exact .inl rfl | exact .inr rfl)) (dgs_cons (dg_name (i := 4) sc__row_of.nd rfl (by first | exact .inl rfl | exact .inr rfl)) (dgs_cons (dg_name (i := 5) sc__row_of.nd rfl (by first | exact .inl rfl | exact .inr rfl)) (dgs_nil)))))) (dss_one (ds_extN (i := 2) sc__row_of.nd rfl (by first | exact .inl rfl | exact .inr rfl) (de_lst (dn_cons (de_callTy dc_strI (by rfl) T.z_str (by decide +kernel) (dn_cons (de_var (pv 3)) (dn_nil))) (dn_cons (de_var (pv 4)) (dn_cons (de_var (pv 5)) (dn_nil)))))))) (dss_nil)) (dss_frz (dss_cons (ds_if (dt_cmp do_gt (de_var (pv 1)) (de_int) (nomark _)) (dss_one (ds_set (i := 2) sc__row_of.nd rfl (by first | exact .inl rfl | exact .inr rfl) (de_lstS (da_cons (de_op do_mul (de_str) (de_var (pv 1))) (da_star (de_var (pv 2)) (da_nil)))))) (dss_nil)) (dss_one (ds_ret (de_join (de_str) (de_var (pv 2)))))))))
theorem ok_good_text (T : Txt K mg Ad) : DFn P w K mg base 13 Ad.a_good_text Ad.d_good_text ["good"] (Wgood_text K Ad.cls) :=
  dfn_of T.F_good_text sc_good_text fun cdv A outer s H E hr => (dss_cons (ds_asg (de_call (ok_look_over T) (hr.mono (by decide)) (by rfl) T.g_look_over T.F_look_over.kp T.b_look_over .nil rs0 pBody (dn_cons (de_var (pv 0)) (dn_nil))) (dg_tup rfl (dgs_cons (dg_name (i := 1) sc_good_text.nd rfl (by first | exact .inl rfl | exact .inr rfl)) (dgs_cons (dg_name (i := 2) sc_good_text.nd rfl (by first | exact .inl rfl | exact .inr rfl)) (dgs_cons (dg_name (i := 3) sc_good_text.nd rfl (by first | exact .inl rfl | exact .inr rfl)) (dgs_cons (dg_name (i := 3) sc_good_text.nd rfl (by first | exact .inl rfl | exact .inr rfl)) (dgs_nil))))))) (dss_cons (ds_set (i := 4) sc_good_text.nd rfl (by first | exact .inl rfl | exact .inr rfl) (de_lstO (dn_cons (de_int) (dn_nil)))) (dss_cons (ds_for oBody rfl (di_seq (de_sl (de_var (pv 2)) (DL.do_some (de_int)) (DL.do_none))) (dg_name (i := 5) sc_good_text.nd rfl (by first | exact .inl rfl | exact .inr rfl)) (dss_one (ds_expr (de_app (de_var (pv 4)) (de_op do_add (de_ix (hu_of hr.r) (de_var (pv 4)) (de_var (pv 5)) (fun _ _ => rfl)) (de_int)))))) (dss_frz (dss_one (ds_ret (de_join (de_str) (de_comp [("thing", 6), ("many", 7)] (gTup K 2 (gCons (gName 6) (gCons (gName 7) (gNil)))) rfl sc_good_text.nd (di_zipM (by rfl) T.z_zip (de_var (pv 1)) (de_var (pv 4))) (blkOk_by (N := N_good_text) (sc := defScope st_good_text) (by decide +kernel)) (fun _ _ _ _ _ => pg_tup rfl (pgs_cons (pg_name (i := 6) sc_good_text.nd rfl (by first | exact .inl rfl | exact .inr rfl)) (pgs_cons (pg_name (i := 7) sc_good_text.nd rfl (by first | exact .inl rfl | exact .inr rfl)) (pgs_nil)))) (gv_tup (gvs_cons (gv_name (by decide)) (gvs_cons (gv_name (by decide)) (gvs_nil)))) (fun _ _ _ _ _ => dts_nil) (fun _ _ _ _ _ => de_call (ok__row_of T) (hr.mono (by decide)) (by rfl) T.g__row_of T.F__row_of.kp T.b__row_of .nil rs0 passL (dn_cons (de_var (pv 6)) (dn_cons (de_var (pv 7)) (dn_nil))))))))))))
theorem ok__told_thing (T : Txt K mg Ad) : DFn P w K mg base 4 Ad.a__told_thing Ad.d__told_thing ["words"] (W_told_thing K Ad.cls) :=
  dfn_of T.F__told_thing sc__told_thing fun cdv A outer s H E hr => (dss_cons (ds_if (DW.dt (dw_or (dt_cmp do_lt (de_callB dc_len (by rfl) T.z_len (by decide +kernel) (dn_cons (de_var (pv 0)) (dn_nil))) (de_int) (nomark _)) (dw_or (dt_not (dt_tru (de_call (ok_is_one_of T) (hr.mono (by decide)) (by rfl) T.g_is_one_of T.F_is_one_of.kp T.b_is_one_of .nil rs0 pBody (dn_cons (de_ix (hu_of hr.r) (de_var (pv 0)) (de_int) (fun _ _ => rfl)) (dn_cons (de_tup (dn_cons (de_str) (dn_cons (de_str) (dn_nil)))) (dn_nil)))))) (dw_or1 (dt_not (dt_tru (de_call (ok_are_integers T) (hr.mono (by decide)) (by rfl) T.g_are_integers T.F_are_integers.kp T.b_are_integers .nil rs0 pBody (dn_cons (de_sl (de_var (pv 0)) (DL.do_some (de_int)) (DL.do_some (de_int))) (dn_nil))))))))) (dss_one (ds_ret (de_non))) (dss_nil)) (dss_cons (ds_asg (de_var (pv 0)) (dg_st4 rfl (dgs_cons (dg_name (i := 1) sc__told_thing.nd rfl (by first | exact .inl rfl | exact .inr rfl)) (dgs_cons (dg_name (i := 2) sc__told_thing.nd rfl (by first | exact .inl rfl | exact .inr rfl)) (dgs_cons (dg_name (i := 3) sc__told_thing.nd rfl (by first | exact .inl rfl | exact .inr rfl)) (dgs_cons (dg_name (i := 4) sc__told_thing.nd rfl (by first | exact .inl rfl | exact .inr rfl)) (dgs_star (dg_name (i := 5) sc__told_thing.nd rfl (by first | exact .inl rfl | exact .inr rfl))))))))) (dss_cons (ds_if (DW.dt (dw_and (dt_cmp (do_eq hr.r.units) (de_var (pv 1)) (de_str) (nomark _)) (dw_and1 (dt_cmp (do_eq hr.r.units) (de_callB dc_len (by rfl) T.z_len (by decide +kernel) (dn_cons (de_var (pv 5)) (dn_nil))) (de_int) (nomark _))))) (dss_one (ds_ret (de_tup (dn_cons (de_var (pv 1)) (dn_cons (de_var (pv 2)) (dn_cons (de_callTy dc_intS (by rfl) T.z_int (by decide +kernel) (dn_cons (de_var (pv 3)) (dn_nil))) (dn_cons (de_callTy dc_intS (by rfl) T.z_int (by decide +kernel) (dn_cons (de_var (pv 4)) (dn_nil))) (dn_nil)))))))) (dss_nil)) (dss_cons (ds_if (DW.dt (dw_and (dt_cmp (do_eq hr.r.units) (de_var (pv 1)) (de_str) (nomark _)) (dw_and1 (dt_tru (de_call (ok_is_told_rule T) (hr.mono (by decide)) (by rfl) T.g_is_told_rule T.F_is_told_rule.kp T.b_is_told_rule .nil rs0 pBody (dn_cons (de_var (pv 5)) (dn_nil))))))) (dss_cons (ds_asg (de_var (pv 5)) (dg_tl3 rfl (dgs_cons (dg_name (i := 6) sc__told_thing.nd rfl (by first | exact .inl rfl | exact .inr rfl)) (dgs_cons (dg_name (i := 7) sc__told_thing.nd rfl (by first | exact .inl rfl | exact .inr rfl)) (dgs_cons (dg_name (i := 8) sc__told_thing.nd rfl (by first | exact .inl rfl | exact .inr rfl)) (dgs_nil)))))) (dss_one (ds_ret (de_tup (dn_cons (de_var (pv 1)) (dn_cons (de_var (pv 2)) (dn_cons (de_callTy dc_intS (by rfl) T.z_int (by decide +kernel) (dn_cons (de_var (pv 3)) (dn_nil))) (dn_cons (de_callTy dc_intS (by rfl) T.z_int (by decide +kernel) (dn_cons (de_var (pv 4)) (dn_nil))) (dn_cons (de_tup (dn_cons (de_callTy dc_intS (by rfl) T.z_int (by decide +kernel) (dn_cons (de_var (pv 6)) (dn_nil))) (dn_cons (de_var (pv 7)) (dn_cons (de_var (pv 8)) (dn_nil))))) (dn_nil)))))))))) (dss_nil)) (dss_one (ds_ret (de_non)))))))
theorem ok__told_row (T : Txt K mg Ad) : DFn P w K mg base 5 Ad.a__told_row Ad.d__told_row ["row"] (W_told_row K Ad.cls) :=
  dfn_of T.F__told_row sc__told_row fun cdv A outer s H E hr => (dss_cons (ds_set (i := 1) sc__told_row.nd rfl (by first | exact .inl rfl | exact .inr rfl) (de_split (de_var (pv 0)) (de_str))) (dss_cons (ds_set (i := 2) sc__told_row.nd rfl (by first | exact .inl rfl | exact .inr rfl) (de_callB dc_len (by rfl) T.z_len (by decide +kernel) (dn_cons (de_ix (hu_of hr.r) (de_var (pv 1)) (de_int) (fun _ _ => rfl)) (dn_nil)))) (dss_cons (ds_if (DW.dt (dw_and (dt_cmp do_gt (de_var (pv 2)) (de_int) (nomark _)) (dw_and1 (dt_cmp (do_eq hr.r.units) (de_ix (hu_of hr.r) (de_var (pv 1)) (de_int) (fun _ _ => rfl)) (de_op do_mul (de_str) (de_var (pv 2))) (nomark _))))) (dss_one (ds_set (i := 1) sc__told_row.nd rfl (by first | exact .inl rfl | exact .inr rfl) (de_sl (de_var (pv 1)) (DL.do_some (de_int)) (DL.do_none)))) (dss_one (ds_set (i := 2) sc__told_row.nd rfl (by first | exact .inl rfl | exact .inr rfl) (de_int)))) (dss_cons (ds_set (i := 3) sc__told_row.nd rfl (by first | exact .inl rfl | exact .inr rfl) (de_call (ok__told_thing T) (hr.mono (by decide)) (by rfl) T.g__told_thing T.F__told_thing.kp T.b__told_thing .nil rs0 pBody (dn_cons (de_var (pv 1)) (dn_nil)))) (dss_one (ds_ret (de_ite (dt_cmp do_is (de_var (pv 3)) (de_non) (nomark _)) (de_non) (de_tup (dn_cons (de_var (pv 2)) (dn_cons (de_var (pv 3)) (dn_nil)))))))))))
theorem ok__may_follow (T : Txt K mg Ad) : DFn P w K mg base 1 Ad.a__may_follow Ad.d__may_follow ["rows", "points"] (W_may_follow K Ad.cls) :=
  dfn_of T.F__may_follow sc__may_follow fun cdv A outer s H E hr => (dss_cons (ds_if (dt_cmp (do_eq hr.r.units) (de_callB dc_len (by rfl) T.z_len (by decide +kernel) (dn_cons (de_var (pv 0)) (dn_nil))) (de_int) (nomark _)) (dss_one (ds_ret (de_cmp (do_eq hr.r.units) (de_var (pv 1)) (de_int) (nomark _)))) (dss_nil)) (dss_cons (ds_asg (de_ix (hu_of hr.r) (de_var (pv 0)) (de_neg (de_int)) (fun _ _ => rfl)) (dg_tup rfl (dgs_cons (dg_name (i := 2) sc__may_follow.nd rfl (by first | exact .inl rfl | exact .inr rfl)) (dgs_cons (dg_name (i := 3) sc__may_follow.nd rfl (by first | exact .inl rfl | exact .inr rfl)) (dgs_nil))))) (dss_one (ds_ret (de_chain do_le do_le (de_int) (de_var (pv 1)) (de_ite (dt_cmp (do_eq hr.r.units) (de_ix (hu_of hr.r) (de_var (pv 3)) ((T.c_MAKING.elim fun _ h => de_glob (by rfl) h.1 h.2 fun _ _ => rfl)) (fun _ _ => rfl)) (de_str) (nomark _)) (de_op do_add (de_var (pv 2)) (de_int)) (de_var (pv 2))))))))
theorem ok__built (T : Txt K mg Ad) : DFn P w K mg base 1 Ad.a__built Ad.d__built ["rows"] (W_built K Ad.cls) :=
  dfn_of T.F__built sc__built fun cdv A outer s H E hr => (dss_cons (ds_set (i := 1) sc__built.nd rfl (by first | exact .inl rfl | exact .inr rfl) (de_dctN)) (dss_cons (ds_for oBody rfl (di_revS (by rfl) T.z_reversed (de_var (pv 0))) (dg_tup rfl (dgs_cons (dg_name (i := 2) sc__built.nd rfl (by first | exact .inl rfl | exact .inr rfl)) (dgs_cons (dg_name (i := 3) sc__built.nd rfl (by first | exact .inl rfl | exact .inr rfl)) (dgs_nil)))) (dss_cons (ds_set (i := 4) sc__built.nd rfl (by first | exact .inl rfl | exact .inr rfl) (de_pop2 (de_var (pv 1)) (de_op do_add (de_var (pv 2)) (de_int)) (de_lstO (dn_nil)) ⟨by rfl, by rfl, by rfl, by rfl⟩)) (dss_cons (ds_expr (de_rvs (de_var (pv 4)))) (dss_one (ds_expr (de_app (de_setd (de_var (pv 1)) (de_var (pv 2)) (de_lstO (dn_nil)) ⟨by rfl, by rfl, by rfl, by rfl⟩) (de_ite (dt_cmp (do_eq hr.r.units) (de_ix (hu_of hr.r) (de_var (pv 3)) ((T.c_MAKING.elim fun _ h => de_glob (by rfl) h.1 h.2 fun _ _ => rfl)) (fun _ _ => rfl)) (de_str) (nomark _)) (de_tupS (da_star (de_var (pv 3)) (da_cons (de_callTy dc_tuple (by rfl) T.z_tuple (by decide +kernel) (dn_cons (de_var (pv 4)) (dn_nil))) (da_nil)))) (de_var (pv 3))))))))) (dss_one (ds_ret (de_ix (hu_of hr.r) (de_ix (hu_of hr.r) (de_var (pv 1)) (de_int) (fun _ _ => rfl)) (de_int) (fun _ _ => rfl))))))
theorem ok_read_good (T : Txt K mg Ad) : DFn P w K mg base 14 Ad.a_read_good Ad.d_read_good ["string"] (Wread_good K Ad.cls) :=
  dfn_of T.F_read_good sc_read_good fun cdv A outer s H E hr => (dss_cons (ds_if (dt_not (dt_tru (de_callB dc_isi (by rfl) T.z_isinstance (by decide +kernel) (dn_cons (de_var (pv 0)) (dn_cons (de_bltn (by rfl) T.z_str (by decide +kernel)) (dn_nil)))))) (dss_one (ds_raise (mk_BadText T) (hr.mono (by first | decide | omega | (simp only [Nat.add_eq]; omega))) rfl (takes_of rfl rfl rfl rfl) pass_no (by rfl) T.g_BadText (dn_cons (de_int) (dn_nil)))) (dss_nil)) (dss_cons (ds_set (i := 1) sc_read_good.nd rfl (by first | exact .inl rfl | exact .inr rfl) (de_lstO (dn_nil))) (dss_cons (ds_for oBody rfl (di_enumB (by rfl) T.z_enumerate (de_split (de_var (pv 0)) (de_str))) (dg_tup rfl (dgs_cons (dg_name (i := 2) sc_read_good.nd rfl (by first | exact .inl rfl | exact .inr rfl)) (dgs_cons (dg_name (i := 3) sc_read_good.nd rfl (by first | exact .inl rfl | exact .inr rfl)) (dgs_nil)))) (dss_cons (ds_set (i := 4) sc_read_good.nd rfl (by first | exact .inl rfl | exact .inr rfl) (de_call (ok__told_row T) (hr.mono (by decide)) (by rfl) T.g__told_row T.F__told_row.kp T.b__told_row .nil rs0 pBody (dn_cons (de_var (pv 3)) (dn_nil)))) (dss_cons (ds_if (DW.dt (dw_or (dt_cmp do_is (de_var (pv 4)) (de_non) (nomark _)) (dw_or1 (dt_not (dt_tru (de_call (ok__may_follow T) (hr.mono (by decide)) (by rfl) T.g__may_follow T.F__may_follow.kp T.b__may_follow .nil rs0 pBody (dn_cons (de_var (pv 1)) (dn_cons (de_ix (hu_of hr.r) (de_var (pv 4)) (de_int) (fun _ _ => rfl)) (dn_nil))))))))) (dss_one (ds_raise (mk_BadText T) (hr.mono (by first | decide | omega | (simp only [Nat.add_eq]; omega))) rfl (takes_of rfl rfl rfl rfl) pass_no (by rfl) T.g_BadText (dn_cons (de_op do_add (de_var (pv 2)) (de_int)) (dn_nil)))) (dss_nil)) (dss_one (ds_expr (de_app (de_var (pv 1)) (de_var (pv 4)))))))) (dss_frz (dss_one (ds_ret (de_call (ok_need_good T) (hr.mono (by decide)) (by rfl) T.g_need_good T.F_need_good.kp T.b_need_good .nil rs0 pBody (dn_cons (de_call (ok__built T) (hr.mono (by decide)) (by rfl) T.g__built T.F__built.kp T.b__built .nil rs0 pBody (dn_cons (de_var (pv 1)) (dn_nil))) (dn_nil)))))))))
theorem ok_prices_text (T : Txt K mg Ad) : DFn P w K mg base 13 Ad.a_prices_text Ad.d_prices_text ["good", "prices"] (Wprices_text K Ad.cls) :=
  dfn_of T.F_prices_text sc_prices_text fun cdv A outer s H E hr => (dss_cons (ds_asg (de_call (ok_look_over T) (hr.mono (by decide)) (by rfl) T.g_look_over T.F_look_over.kp T.b_look_over .nil rs0 pBody (dn_cons (de_var (pv 0)) (dn_nil))) (dg_tup rfl (dgs_cons (dg_name (i := 2) sc_prices_text.nd rfl (by first | exact .inl rfl | exact .inr rfl)) (dgs_cons (dg_name (i := 3) sc_prices_text.nd rfl (by first | exact .inl rfl | exact .inr rfl)) (dgs_cons (dg_name (i := 3) sc_prices_text.nd rfl (by first | exact .inl rfl | exact .inr rfl)) (dgs_cons (dg_name (i := 3) sc_prices_text.nd rfl (by first | exact .inl rfl | exact .inr rfl)) (dgs_nil))))))) (dss_one (ds_ret (de_join (de_str) (de_comp [("price", 4)] (gName 4) rfl sc_prices_text.nd (di_seq (de_call (ok_need_prices T) (hr.mono (by decide)) (by rfl) T.g_need_prices T.F_need_prices.kp T.b_need_prices .nil rs0 pBody (dn_cons (de_var (pv 2)) (dn_cons (de_var (pv 1)) (dn_nil))))) (blkOk_by (N := N_prices_text) (sc := defScope st_prices_text) (by decide +kernel)) (fun _ _ _ _ _ => pg_name (i := 4) sc_prices_text.nd rfl (by first | exact .inl rfl | exact .inr rfl)) (gv_name (by decide)) (fun _ _ _ _ _ => dts_nil) (fun _ _ _ _ _ => de_call (ok_fraction_text T) (hr.mono (by decide)) (by rfl) T.g_fraction_text T.F_fraction_text.kp T.b_fraction_text .nil rs0 passL (dn_cons (de_var (pv 4)) (dn_nil))))))))
theorem ok_read_prices (T : Txt K mg Ad) : DFn P w K mg base 13 Ad.a_read_prices Ad.d_read_prices ["good", "string"] (Wread_prices K Ad.cls) :=
  dfn_of T.F_read_prices sc_read_prices fun cdv A outer s H E hr => (dss_cons (ds_asg (de_call (ok_look_over T) (hr.mono (by decide)) (by rfl) T.g_look_over T.F_look_over.kp T.b_look_over .nil rs0 pBody (dn_cons (de_var (pv 0)) (dn_nil))) (dg_tup rfl (dgs_cons (dg_name (i := 2) sc_read_prices.nd rfl (by first | exact .inl rfl | exact .inr rfl)) (dgs_cons (dg_name (i := 3) sc_read_prices.nd rfl (by first | exact .inl rfl | exact .inr rfl)) (dgs_cons (dg_name (i := 3) sc_read_prices.nd rfl (by first | exact .inl rfl | exact .inr rfl)) (dgs_cons (dg_name (i := 3) sc_read_prices.nd rfl (by first | exact .inl rfl | exact .inr rfl)) (dgs_nil))))))) (dss_cons (ds_if (dt_not (dt_tru (de_callB dc_isi (by rfl) T.z_isinstance (by decide +kernel) (dn_cons (de_var (pv 1)) (dn_cons (de_bltn (by rfl) T.z_str (by decide +kernel)) (dn_nil)))))) (dss_one (ds_raise (mk_BadText T) (hr.mono (by first | decide | omega | (simp only [Nat.add_eq]; omega))) rfl (takes_of rfl rfl rfl rfl) pass_no (by rfl) T.g_BadText (dn_cons (de_int) (dn_nil)))) (dss_nil)) (dss_cons (ds_setComp (i := 4) [("word", 5)] (gName 5) rfl sc_read_prices.nd rfl rfl (sw_true rfl rfl rfl (by decide +kernel)) (di_seq (de_split (de_var (pv 1)) (de_str))) (blkOk_by (N := N_read_prices) (sc := defScope st_read_prices) (by decide +kernel)) (fun _ _ _ _ _ => pg_name (i := 5) sc_read_prices.nd rfl (by first | exact .inl rfl | exact .inr rfl)) (gv_name (by decide)) (fun _ _ _ _ _ => dts_nil) (fun _ _ _ _ _ => de_call (ok_told_fraction T) (hr.mono (by decide)) (by rfl) T.g_told_fraction T.F_told_fraction.kp T.b_told_fraction .nil rs0 passL (dn_cons (de_var (pv 5)) (dn_nil)))) (dss_cons (ds_if (DW.dt (dw_or (dt_cmp (do_ne hr.r.units) (de_callB dc_len (by rfl) T.z_len (by decide +kernel) (dn_cons (de_var (pv 4)) (dn_nil))) (de_callB dc_len (by rfl) T.z_len (by decide +kernel) (dn_cons (de_var (pv 2)) (dn_nil))) (nomark _)) (dw_or1 (dt_cmp (do_inP (hu_65 hr.r)) (de_non) (de_var (pv 4)) (by with_unfolding_all rfl))))) (dss_one (ds_raise (mk_BadText T) (hr.mono (by first | decide | omega | (simp only [Nat.add_eq]; omega))) rfl (takes_of rfl rfl rfl rfl) pass_no (by rfl) T.g_BadText (dn_cons (de_int) (dn_nil)))) (dss_nil)) (dss_one (ds_ret (de_call (ok_need_prices T) (hr.mono (by decide)) (by rfl) T.g_need_prices T.F_need_prices.kp T.b_need_prices .nil rs0 pBody (dn_cons (de_var (pv 2)) (dn_cons (de_callTy dc_tuple (by rfl) T.z_tuple (by decide +kernel) (dn_cons (de_var (pv 4)) (dn_nil))) (dn_nil))))))))))
theorem ok__law_begun (T : Txt K mg Ad) : DFn P w K mg base 1 Ad.a__law_begun Ad.d__law_begun ["script"] (W_law_begun K Ad.cls) :=
  dfn_of T.F__law_begun sc__law_begun fun cdv A outer s H E hr => (dss_cons (ds_setComp (i := 1) [("cell", 2)] (gName 2) rfl sc__law_begun.nd rfl rfl (sw_true rfl rfl rfl (by decide +kernel)) (di_seq (de_var (pv 0))) (blkOk_by (N := N__law_begun) (sc := defScope st__law_begun) (by decide +kernel)) (fun _ _ _ _ _ => pg_name (i := 2) sc__law_begun.nd rfl (by first | exact .inl rfl | exact .inr rfl)) (gv_name (by decide)) (fun _ _ _ _ _ => dts_one (dt_cmp do_ge (de_var (pv 2)) (de_op do_pow (de_int) (de_int)) (nomark _))) (fun _ _ _ _ _ => de_var (pv 2))) (dss_one (ds_ret (de_dct (.str (de_op do_add (de_callTy dc_list (by rfl) T.z_list (by decide +kernel) (dn_cons (de_var (pv 0)) (dn_nil))) (de_lst (dn_cons (de_callB dc_len (by rfl) T.z_len (by decide +kernel) (dn_cons (de_var (pv 0)) (dn_nil))) (dn_nil)))) (.str (de_ite (dt_cmp (do_ne hr.r.units) (de_var (pv 1)) (de_lst (dn_nil)) (nomark _)) (de_ix (hu_of hr.r) (de_var (pv 1)) (de_int) (fun _ _ => rfl)) (de_int)) (.str (de_int) (.nil)))) (by rfl) (by rfl) (fun z => by cases z) (by decide) (Nat.le_of_ble_eq_true rfl) (by first | decide +kernel | (simp only [List.map_cons, List.map_nil]; decide +kernel))))))
theorem ok__law_draw (T : Txt K mg Ad) : DFn P w K mg base 1 Ad.a__law_draw Ad.d__law_draw ["m", "limit"] (W_law_draw K Ad.cls) :=
  dfn_of T.F__law_draw sc__law_draw fun cdv A outer s H E hr => (dss_cons (ds_if (dt_cmp do_gt (de_ix (hu_of hr.r) (de_var (pv 0)) (de_str) (fun _ _ => rfl)) (de_int) (nomark _)) (dss_cons (ds_set (i := 2) sc__law_draw.nd rfl (by first | exact .inl rfl | exact .inr rfl) (de_op do_mod (de_callTy dc_int (by rfl) T.z_int (by decide +kernel) (dn_cons (de_ix (hu_of hr.r) (de_var (pv 0)) (de_str) (fun _ _ => rfl)) (dn_nil))) (de_var (pv 1)))) (dss_cons (ds_asg (de_op do_fdiv (de_ix (hu_of hr.r) (de_var (pv 0)) (de_str) (fun _ _ => rfl)) (de_var (pv 1))) (dg_sub (hu_of hr.r) (de_var (pv 0)) (de_str))) (dss_one (ds_ret (de_var (pv 2)))))) (dss_nil)) (dss_cons (ds_set (i := 3) sc__law_draw.nd rfl (by first | exact .inl rfl | exact .inr rfl) (de_op do_add (de_ix (hu_of hr.r) (de_var (pv 0)) (de_str) (fun _ _ => rfl)) (de_int))) (dss_cons (ds_asg (de_var (pv 3)) (dg_sub (hu_of hr.r) (de_var (pv 0)) (de_str))) (dss_cons (ds_set (i := 4) sc__law_draw.nd rfl (by first | exact .inl rfl | exact .inr rfl) (de_ix (hu_of hr.r) (de_ix (hu_of hr.r) (de_var (pv 0)) (de_str) (fun _ _ => rfl)) (de_op do_mod (de_callTy dc_int (by rfl) T.z_int (by decide +kernel) (dn_cons (de_var (pv 3)) (dn_nil))) (de_callB dc_len (by rfl) T.z_len (by decide +kernel) (dn_cons (de_ix (hu_of hr.r) (de_var (pv 0)) (de_str) (fun _ _ => rfl)) (dn_nil)))) (fun _ _ => rfl))) (dss_cons (ds_set (i := 5) sc__law_draw.nd rfl (by first | exact .inl rfl | exact .inr rfl) (de_op do_mul (de_callTy dc_int (by rfl) T.z_int (by decide +kernel) (dn_cons (de_op do_add (de_op do_add (de_op do_mod (de_callTy dc_int (by rfl) T.z_int (by decide +kernel) (dn_cons (de_var (pv 4)) (dn_nil))) (de_int)) (de_op do_mul (de_int) (de_var (pv 3)))) (de_op do_mul (de_op do_mul (de_int) (de_var (pv 3))) (de_var (pv 3)))) (dn_nil))) (de_int))) (dss_cons (ds_set (i := 5) sc__law_draw.nd rfl (by first | exact .inl rfl | exact .inr rfl) (de_op do_mul (de_callTy dc_int (by rfl) T.z_int (by decide +kernel) (dn_cons (de_op do_add (de_op do_mod (de_callTy dc_int (by rfl) T.z_int (by decide +kernel) (dn_cons (de_var (pv 5)) (dn_nil))) (de_int)) (de_op do_mul (de_int) (de_var (pv 3)))) (dn_nil))) (de_int))) (dss_one (ds_ret (de_op do_mod (de_callTy dc_int (by rfl) T.z_int (by decide +kernel) (dn_cons (de_op do_fdiv (de_op do_mod (de_callTy dc_int (by rfl) T.z_int (by decide +kernel) (dn_cons (de_var (pv 5)) (dn_nil))) (de_int)) (de_int)) (dn_nil))) (de_var (pv 1)))))))))))
theorem ok__law_of (T : Txt K mg Ad) : DFn P w K mg base 2 Ad.a__law_of Ad.d__law_of ["m", "some"] (W_law_of K Ad.cls) :=
  dfn_of T.F__law_of sc__law_of fun cdv A outer s H E hr => (dss_one (ds_ret (de_ix (hu_of hr.r) (de_var (pv 1)) (de_call (ok__law_draw T) (hr.mono (by decide)) (by rfl) T.g__law_draw T.F__law_draw.kp T.b__law_draw .nil rs0 pBody (dn_cons (de_var (pv 0)) (dn_cons (de_callB dc_len (by rfl) T.z_len (by decide +kernel) (dn_cons (de_var (pv 1)) (dn_nil))) (dn_nil)))) (fun _ _ => rfl))))
theorem ok__law_span (T : Txt K mg Ad) : DFn P w K mg base 3 Ad.a__law_span Ad.d__law_span ["m", "left"] (W_law_span K Ad.cls) :=
  dfn_of T.F__law_span sc__law_span fun cdv A outer s H E hr => (dss_cons (ds_set (i := 2) sc__law_span.nd rfl (by first | exact .inl rfl | exact .inr rfl) (de_call (ok__law_of T) (hr.mono (by decide)) (by rfl) T.g__law_of T.F__law_of.kp T.b__law_of .nil rs0 pBody (dn_cons (de_var (pv 0)) (dn_cons (de_lst (dn_cons (de_int) (dn_cons (de_int) (dn_cons (de_int) (dn_cons (de_int) (dn_cons (de_int) (dn_cons (de_call (ok__law_draw T) (hr.mono (by decide)) (by rfl) T.g__law_draw T.F__law_draw.kp T.b__law_draw .nil rs0 pBody (dn_cons (de_var (pv 0)) (dn_cons (de_int) (dn_nil)))) (dn_cons (de_call (ok__law_draw T) (hr.mono (by decide)) (by rfl) T.g__law_draw T.F__law_draw.kp T.b__law_draw .nil rs0 pBody (dn_cons (de_var (pv 0)) (dn_cons (de_op do_sub (de_op do_pow (de_int) (de_int)) (de_int)) (dn_nil)))) (dn_nil))))))))) (dn_nil))))) (dss_cons (ds_if (DW.dt (dw_or (dt_cmp (do_eq hr.r.units) (de_ix (hu_of hr.r) (de_var (pv 1)) (de_str) (fun _ _ => rfl)) (de_int) (nomark _)) (dw_or1 (dt_cmp (do_eq hr.r.units) (de_call (ok__law_draw T) (hr.mono (by decide)) (by rfl) T.g__law_draw T.F__law_draw.kp T.b__law_draw .nil rs0 pBody (dn_cons (de_var (pv 0)) (dn_cons (de_int) (dn_nil)))) (de_int) (nomark _))))) (dss_one (ds_ret (de_tup (dn_cons (de_var (pv 2)) (dn_cons (de_var (pv 2)) (dn_nil)))))) (dss_nil)) (dss_cons (ds_asg (de_op do_sub (de_ix (hu_of hr.r) (de_var (pv 1)) (de_str) (fun _ _ => rfl)) (de_int)) (dg_sub (hu_of hr.r) (de_var (pv 1)) (de_str))) (dss_one (ds_ret (de_tup (dn_cons (de_var (pv 2)) (dn_cons (de_op do_add (de_op do_add (de_var (pv 2)) (de_int)) (de_call (ok__law_of T) (hr.mono (by decide)) (by rfl) T.g__law_of T.F__law_of.kp T.b__law_of .nil rs0 pBody (dn_cons (de_var (pv 0)) (dn_cons (de_lst (dn_cons (de_int) (dn_cons (de_int) (dn_cons (de_call (ok__law_draw T) (hr.mono (by decide)) (by rfl) T.g__law_draw T.F__law_draw.kp T.b__law_draw .nil rs0 pBody (dn_cons (de_var (pv 0)) (dn_cons (de_int) (dn_nil)))) (dn_nil))))) (dn_nil))))) (dn_nil)))))))))
theorem ok__law_term (T : Txt K mg Ad) : DFn P w K mg base 3 Ad.a__law_term Ad.d__law_term ["m"] (W_law_term K Ad.cls) :=
  dfn_of T.F__law_term sc__law_term fun cdv A outer s H E hr => (dss_cons (ds_set (i := 1) sc__law_term.nd rfl (by first | exact .inl rfl | exact .inr rfl) (de_call (ok__law_of T) (hr.mono (by decide)) (by rfl) T.g__law_of T.F__law_of.kp T.b__law_of .nil rs0 pBody (dn_cons (de_var (pv 0)) (dn_cons (de_lst (dn_cons (de_int) (dn_cons (de_int) (dn_cons (de_int) (dn_cons (de_int) (dn_cons (de_int) (dn_cons (de_call (ok__law_draw T) (hr.mono (by decide)) (by rfl) T.g__law_draw T.F__law_draw.kp T.b__law_draw .nil rs0 pBody (dn_cons (de_var (pv 0)) (dn_cons (de_int) (dn_nil)))) (dn_nil)))))))) (dn_nil))))) (dss_one (ds_ret (de_tup (dn_cons (de_var (pv 1)) (dn_cons (de_call (ok__law_of T) (hr.mono (by decide)) (by rfl) T.g__law_of T.F__law_of.kp T.b__law_of .nil rs0 pBody (dn_cons (de_var (pv 0)) (dn_cons (de_lst (dn_cons (de_str) (dn_cons (de_str) (dn_cons (de_str) (dn_nil))))) (dn_nil)))) (dn_cons (de_call (ok__law_of T) (hr.mono (by decide)) (by rfl) T.g__law_of T.F__law_of.kp T.b__law_of .nil rs0 pBody (dn_cons (de_var (pv 0)) (dn_cons (de_lst (dn_cons (de_str) (dn_cons (de_str) (dn_cons (de_str) (dn_nil))))) (dn_nil)))) (dn_nil))))))))
theorem ok__law_thing (T : Txt K mg Ad) : ∀ n : Nat, DFn P w K mg base (3 + n) Ad.a__law_thing Ad.d__law_thing ["m", "left", "must"] (W_law_thing K Ad.cls n)
  | 0 => dfn0
  | n + 1 => by
    have ih := ok__law_thing T n
    exact dfn_of T.F__law_thing sc__law_thing fun cdv A outer s H E hr => (dss_cons (ds_asg (de_call (ok__law_span T) (hr.mono (by first | omega | (simp only [Nat.add_eq]; omega))) (by rfl) T.g__law_span T.F__law_span.kp T.b__law_span .nil rs0 pBody (dn_cons (de_var (pv 0)) (dn_cons (de_var (pv 1)) (dn_nil)))) (dg_tup rfl (dgs_cons (dg_name (i := 3) sc__law_thing.nd rfl (by first | exact .inl rfl | exact .inr rfl)) (dgs_cons (dg_name (i := 4) sc__law_thing.nd rfl (by first | exact .inl rfl | exact .inr rfl)) (dgs_nil))))) (dss_cons (ds_set (i := 5) sc__law_thing.nd rfl (by first | exact .inl rfl | exact .inr rfl) (de_call (ok__law_of T) (hr.mono (by first | omega | (simp only [Nat.add_eq]; omega))) (by rfl) T.g__law_of T.F__law_of.kp T.b__law_of .nil rs0 pBody (dn_cons (de_var (pv 0)) (dn_cons (de_lst (dn_cons (de_str) (dn_cons (de_str) (dn_nil)))) (dn_nil))))) (dss_cons (ds_if (DW.dt (dw_and (dt_not (dt_tru (de_var (pv 2)))) (dw_and1 (DW.dt (dw_or (dt_cmp (do_eq hr.r.units) (de_ix (hu_of hr.r) (de_var (pv 1)) (de_str) (fun _ _ => rfl)) (de_int) (nomark _)) (dw_or (dt_cmp (do_eq hr.r.units) (de_ix (hu_of hr.r) (de_var (pv 1)) (de_str) (fun _ _ => rfl)) (de_int) (nomark _)) (dw_or1 (dt_cmp do_gt (de_call (ok__law_draw T) (hr.mono (by first | omega | (simp only [Nat.add_eq]; omega))) (by rfl) T.g__law_draw T.F__law_draw.kp T.b__law_draw .nil rs0 pBody (dn_cons (de_var (pv 0)) (dn_cons (de_int) (dn_nil)))) (de_int) (nomark _))))))))) (dss_one (ds_ret (de_tup (dn_cons (de_str) (dn_cons (de_var (pv 5)) (dn_cons (de_var (pv 3)) (dn_cons (de_var (pv 4)) (dn_nil)))))))) (dss_nil)) (dss_cons (ds_asg (de_op do_sub (de_ix (hu_of hr.r) (de_var (pv 1)) (de_str) (fun _ _ => rfl)) (de_int)) (dg_sub (hu_of hr.r) (de_var (pv 1)) (de_str))) (dss_cons (ds_set (i := 6) sc__law_thing.nd rfl (by first | exact .inl rfl | exact .inr rfl) (de_op do_add (de_int) (de_call (ok__law_draw T) (hr.mono (by first | omega | (simp only [Nat.add_eq]; omega))) (by rfl) T.g__law_draw T.F__law_draw.kp T.b__law_draw .nil rs0 pBody (dn_cons (de_var (pv 0)) (dn_cons (de_callB (dc_min2 rfl) (by rfl) T.z_min (by decide +kernel) (dn_cons (de_int) (dn_cons (de_ix (hu_of hr.r) (de_var (pv 1)) (de_str) (fun _ _ => rfl)) (dn_nil)))) (dn_nil)))))) (dss_cons (ds_asg (de_tup (dn_cons (de_op do_sub (de_ix (hu_of hr.r) (de_var (pv 1)) (de_str) (fun _ _ => rfl)) (de_var (pv 6))) (dn_cons (de_lstO (dn_nil)) (dn_nil)))) (dg_tup rfl (dgs_cons (dg_sub (hu_of hr.r) (de_var (pv 1)) (de_str)) (dgs_cons (dg_name (i := 7) sc__law_thing.nd rfl (by first | exact .inl rfl | exact .inr rfl)) (dgs_nil))))) (dss_cons (ds_for oBody rfl (di_range1 (by rfl) T.z_range (dn_cons (de_var (pv 6)) (dn_nil))) (dg_name (i := 8) sc__law_thing.nd rfl (by first | exact .inl rfl | exact .inr rfl)) (dss_one (ds_expr (de_app (de_var (pv 7)) (de_call ih (hr.mono (by first | omega | (simp only [Nat.add_eq]; omega))) (by rfl) T.g__law_thing T.F__law_thing.kp T.b__law_thing .nil rs0 pBody (dn_cons (de_var (pv 0)) (dn_cons (de_var (pv 1)) (dn_cons (de_bl) (dn_nil))))))))) (dss_one (ds_ret (de_tup (dn_cons (de_str) (dn_cons (de_var (pv 5)) (dn_cons (de_var (pv 3)) (dn_cons (de_var (pv 4)) (dn_cons (de_call (ok__law_term T) (hr.mono (by first | omega | (simp only [Nat.add_eq]; omega))) (by rfl) T.g__law_term T.F__law_term.kp T.b__law_term .nil rs0 pBody (dn_cons (de_var (pv 0)) (dn_nil))) (dn_cons (de_callTy dc_tuple (by rfl) T.z_tuple (by decide +kernel) (dn_cons (de_var (pv 7)) (dn_nil))) (dn_nil)))))))))))))))))
theorem ok__law_good (T : Txt K mg Ad) : DFn P w K mg base 12 Ad.a__law_good Ad.d__law_good ["m", "moving", "making"] (W_law_good K Ad.cls) :=
  dfn_of T.F__law_good sc__law_good fun cdv A outer s H E hr => (dss_cons (ds_set (i := 3) sc__law_good.nd rfl (by first | exact .inl rfl | exact .inr rfl) (de_dct (.str (de_call (ok__law_draw T) (hr.mono (by decide)) (by rfl) T.g__law_draw T.F__law_draw.kp T.b__law_draw .nil rs0 pBody (dn_cons (de_var (pv 0)) (dn_cons (de_op do_add (de_var (pv 1)) (de_int)) (dn_nil)))) (.str (de_op do_add (de_int) (de_call (ok__law_draw T) (hr.mono (by decide)) (by rfl) T.g__law_draw T.F__law_draw.kp T.b__law_draw .nil rs0 pBody (dn_cons (de_var (pv 0)) (dn_cons (de_var (pv 2)) (dn_nil))))) (.str (de_int) (.nil)))) (by rfl) (by rfl) (fun z => by cases z) (by decide) (Nat.le_of_ble_eq_true rfl) (by first | decide +kernel | (simp only [List.map_cons, List.map_nil]; decide +kernel)))) (dss_cons (ds_set (i := 4) sc__law_good.nd rfl (by first | exact .inl rfl | exact .inr rfl) (de_call (ok__law_thing T 8) (hr.mono (by decide)) (by rfl) T.g__law_thing T.F__law_thing.kp T.b__law_thing .nil rs0 pBody (dn_cons (de_var (pv 0)) (dn_cons (de_var (pv 3)) (dn_cons (de_bl) (dn_nil)))))) (dss_one (ds_ret (de_op do_add (de_op do_add (de_sl (de_var (pv 4)) (DL.do_none) (DL.do_some (de_int))) (de_tup (dn_cons (de_callB (dc_max2 rfl) (by rfl) T.z_max (by decide +kernel) (dn_cons (de_int) (dn_cons (de_ix (hu_of hr.r) (de_var (pv 4)) (de_int) (fun _ _ => rfl)) (dn_nil)))) (dn_cons (de_callB (dc_max2 rfl) (by rfl) T.z_max (by decide +kernel) (dn_cons (de_int) (dn_cons (de_ix (hu_of hr.r) (de_var (pv 4)) (de_int) (fun _ _ => rfl)) (dn_nil)))) (dn_nil))))) (de_sl (de_var (pv 4)) (DL.do_some (de_int)) (DL.do_none)))))))
theorem ok__law_rows (T : Txt K mg Ad) : ∀ n : Nat, DFn P w K mg base (0 + n) Ad.a__law_rows Ad.d__law_rows ["thing", "begin"] (W_law_rows K Ad.cls n)
  | 0 => dfn0
  | n + 1 => by
    have ih := ok__law_rows T n
    exact dfn_of T.F__law_rows sc__law_rows fun cdv A outer s H E hr => (dss_cons (ds_par (i := 2) (j := 3) rfl sc__law_rows.nd rfl rfl (by decide) rfl rfl (dn_cons (de_lst (dn_nil)) (dn_cons (de_lst (dn_nil)) (dn_nil))) (by rfl)) (dss_cons (ds_for oBody rfl (di_seq (de_ite (dt_cmp (do_eq hr.r.units) (de_ix (hu_of hr.r) (de_var (pv 0)) (de_int) (fun _ _ => rfl)) (de_str) (nomark _)) (de_ix (hu_of hr.r) (de_var (pv 0)) (de_int) (fun _ _ => rfl)) (de_tup (dn_nil)))) (dg_name (i := 4) sc__law_rows.nd rfl (by first | exact .inl rfl | exact .inr rfl)) (dss_cons (ds_set (i := 3) sc__law_rows.nd rfl (by first | exact .inl rfl | exact .inr rfl) (de_op do_add (de_var (pv 3)) (de_lst (dn_cons (de_op do_add (de_op do_add (de_var (pv 1)) (de_int)) (de_callB dc_len (by rfl) T.z_len (by decide +kernel) (dn_cons (de_var (pv 2)) (dn_nil)))) (dn_nil))))) (dss_one (ds_set (i := 2) sc__law_rows.nd rfl (by first | exact .inl rfl | exact .inr rfl) (de_op do_add (de_var (pv 2)) (de_call ih (hr.mono (by first | omega | (simp only [Nat.add_eq]; omega))) (by rfl) T.g__law_rows T.F__law_rows.kp T.b__law_rows .nil rs0 pBody (dn_cons (de_var (pv 4)) (dn_cons (de_op do_add (de_op do_add (de_var (pv 1)) (de_int)) (de_callB dc_len (by rfl) T.z_len (by decide +kernel) (dn_cons (de_var (pv 2)) (dn_nil)))) (dn_nil))))))))) (dss_one (ds_ret (de_op do_add (de_lst (dn_cons (de_tup (dn_cons (de_var (pv 0)) (dn_cons (de_var (pv 3)) (dn_nil)))) (dn_nil))) (de_var (pv 2)))))))
theorem ok__law_least (T : Txt K mg Ad) : DFn P w K mg base 1 Ad.a__law_least Ad.d__law_least ["part", "of"] (W_law_least K Ad.cls) :=
  dfn_of T.F__law_least sc__law_least fun cdv A outer s H E hr => (dss_cons (ds_par (i := 2) (j := 3) rfl sc__law_least.nd rfl rfl (by decide) rfl rfl (dn_cons (de_callB dc_abs (by rfl) T.z_abs (by decide +kernel) (dn_cons (de_var (pv 0)) (dn_nil))) (dn_cons (de_callB dc_abs (by rfl) T.z_abs (by decide +kernel) (dn_cons (de_var (pv 1)) (dn_nil))) (dn_nil))) (by rfl)) (dss_cons (ds_while oBody (dt_cmp (do_ne hr.r.units) (de_var (pv 3)) (de_int) (nomark _)) (dss_one (ds_par (i := 2) (j := 3) rfl sc__law_least.nd rfl rfl (by decide) rfl rfl (dn_cons (de_var (pv 3)) (dn_cons (de_op do_mod (de_callTy dc_int (by rfl) T.z_int (by decide +kernel) (dn_cons (de_var (pv 2)) (dn_nil))) (de_var (pv 3))) (dn_nil))) (by rfl)))) (dss_cons (ds_set (i := 4) sc__law_least.nd rfl (by first | exact .inl rfl | exact .inr rfl) (de_ite (dt_cmp do_gt (de_var (pv 1)) (de_int) (nomark _)) (de_int) (de_neg (de_int)))) (dss_one (ds_ret (de_tup (dn_cons (de_op do_fdiv (de_op do_mul (de_var (pv 4)) (de_var (pv 0))) (de_var (pv 2))) (dn_cons (de_op do_fdiv (de_op do_mul (de_var (pv 4)) (de_var (pv 1))) (de_var (pv 2))) (dn_nil)))))))))
theorem ok__law_prices (T : Txt K mg Ad) : DFn P w K mg base 9 Ad.a__law_prices Ad.d__law_prices ["m", "good"] (W_law_prices K Ad.cls) :=
  dfn_of T.F__law_prices sc__law_prices fun cdv A outer s H E hr => (dss_cons (ds_set (i := 2) sc__law_prices.nd rfl (by first | exact .inl rfl | exact .inr rfl) (de_lstO (dn_nil))) (dss_cons (ds_for oBody rfl (di_seq (de_call (ok__law_rows T 8) (hr.mono (by decide)) (by rfl) T.g__law_rows T.F__law_rows.kp T.b__law_rows .nil rs0 pBody (dn_cons (de_var (pv 1)) (dn_cons (de_int) (dn_nil))))) (dg_tup rfl (dgs_cons (dg_name (i := 3) sc__law_prices.nd rfl (by first | exact .inl rfl | exact .inr rfl)) (dgs_cons (dg_name (i := 4) sc__law_prices.nd rfl (by first | exact .inl rfl | exact .inr rfl)) (dgs_nil)))) (dss_cons (ds_par (i := 5) (j := 6) rfl sc__law_prices.nd rfl rfl (by decide) rfl rfl (dn_cons (de_ix (hu_of hr.r) (de_var (pv 3)) (de_int) (fun _ _ => rfl)) (dn_cons (de_ix (hu_of hr.r) (de_var (pv 3)) (de_int) (fun _ _ => rfl)) (dn_nil))) (by rfl)) (dss_cons (ds_set (i := 7) sc__law_prices.nd rfl (by first | exact .inl rfl | exact .inr rfl) (de_call (ok__law_of T) (hr.mono (by decide)) (by rfl) T.g__law_of T.F__law_of.kp T.b__law_of .nil rs0 pBody (dn_cons (de_var (pv 0)) (dn_cons (de_lst (dn_cons (de_int) (dn_cons (de_int) (dn_cons (de_int) (dn_cons (de_int) (dn_cons (de_int) (dn_cons (de_int) (dn_nil)))))))) (dn_nil))))) (dss_cons (ds_set (i := 8) sc__law_prices.nd rfl (by first | exact .inl rfl | exact .inr rfl) (de_call (ok__law_of T) (hr.mono (by decide)) (by rfl) T.g__law_of T.F__law_of.kp T.b__law_of .nil rs0 pBody (dn_cons (de_var (pv 0)) (dn_cons (de_lst (dn_cons (de_int) (dn_cons (de_op do_mul (de_op do_sub (de_var (pv 6)) (de_var (pv 5))) (de_var (pv 7))) (dn_cons (de_call (ok__law_draw T) (hr.mono (by decide)) (by rfl) T.g__law_draw T.F__law_draw.kp T.b__law_draw .nil rs0 pBody (dn_cons (de_var (pv 0)) (dn_cons (de_op do_add (de_op do_mul (de_op do_sub (de_var (pv 6)) (de_var (pv 5))) (de_var (pv 7))) (de_int)) (dn_nil)))) (dn_nil))))) (dn_nil))))) (dss_one (ds_expr (de_app (de_var (pv 2)) (de_call (ok__law_least T) (hr.mono (by decide)) (by rfl) T.g__law_least T.F__law_least.kp T.b__law_least .nil rs0 pBody (dn_cons (de_op do_add (de_op do_mul (de_var (pv 5)) (de_var (pv 7))) (de_var (pv 8))) (dn_cons (de_var (pv 7)) (dn_nil))))))))))) (dss_one (ds_ret (de_callTy dc_tuple (by rfl) T.z_tuple (by decide +kernel) (dn_cons (de_var (pv 2)) (dn_nil)))))))
theorem ok__law_text (T : Txt K mg Ad) : ∀ n : Nat, DFn P w K mg base (0 + n) Ad.a__law_text Ad.d__law_text ["thing", "depth"] (W_law_text K Ad.cls n)
  | 0 => dfn0
  | n + 1 => by
    have ih := ok__law_text T n
    exact dfn_of T.F__law_text sc__law_text fun cdv A outer s H E hr => (dss_cons (ds_set (i := 2) sc__law_text.nd rfl (by first | exact .inl rfl | exact .inr rfl) (de_ite (dt_cmp do_gt (de_var (pv 1)) (de_int) (nomark _)) (de_op do_add (de_op do_mul (de_str) (de_var (pv 1))) (de_str)) (de_str))) (dss_cons (ds_set (i := 2) sc__law_text.nd rfl (by first | exact .inl rfl | exact .inr rfl) (de_op do_add (de_var (pv 2)) (de_join (de_str) (de_lst (dn_cons (de_ix (hu_of hr.r) (de_var (pv 0)) (de_int) (fun _ _ => rfl)) (dn_cons (de_ix (hu_of hr.r) (de_var (pv 0)) (de_int) (fun _ _ => rfl)) (dn_cons (de_callTy dc_strI (by rfl) T.z_str (by decide +kernel) (dn_cons (de_ix (hu_of hr.r) (de_var (pv 0)) (de_int) (fun _ _ => rfl)) (dn_nil))) (dn_cons (de_callTy dc_strI (by rfl) T.z_str (by decide +kernel) (dn_cons (de_ix (hu_of hr.r) (de_var (pv 0)) (de_int) (fun _ _ => rfl)) (dn_nil))) (dn_nil))))))))) (dss_cons (ds_if (dt_cmp (do_eq hr.r.units) (de_ix (hu_of hr.r) (de_var (pv 0)) (de_int) (fun _ _ => rfl)) (de_str) (nomark _)) (dss_one (ds_ret (de_var (pv 2)))) (dss_nil)) (dss_cons (ds_set (i := 2) sc__law_text.nd rfl (by first | exact .inl rfl | exact .inr rfl) (de_join (de_str) (de_lst (dn_cons (de_var (pv 2)) (dn_cons (de_callTy dc_strI (by rfl) T.z_str (by decide +kernel) (dn_cons (de_ix (hu_of hr.r) (de_ix (hu_of hr.r) (de_var (pv 0)) (de_int) (fun _ _ => rfl)) (de_int) (fun _ _ => rfl)) (dn_nil))) (dn_cons (de_ix (hu_of hr.r) (de_ix (hu_of hr.r) (de_var (pv 0)) (de_int) (fun _ _ => rfl)) (de_int) (fun _ _ => rfl)) (dn_cons (de_ix (hu_of hr.r) (de_ix (hu_of hr.r) (de_var (pv 0)) (de_int) (fun _ _ => rfl)) (de_int) (fun _ _ => rfl)) (dn_nil)))))))) (dss_cons (ds_for oBody rfl (di_seq (de_ix (hu_of hr.r) (de_var (pv 0)) (de_int) (fun _ _ => rfl))) (dg_name (i := 3) sc__law_text.nd rfl (by first | exact .inl rfl | exact .inr rfl)) (dss_one (ds_set (i := 2) sc__law_text.nd rfl (by first | exact .inl rfl | exact .inr rfl) (de_op do_add (de_op do_add (de_var (pv 2)) (de_str)) (de_call ih (hr.mono (by first | omega | (simp only [Nat.add_eq]; omega))) (by rfl) T.g__law_text T.F__law_text.kp T.b__law_text .nil rs0 pBody (dn_cons (de_var (pv 3)) (dn_cons (de_op do_add (de_var (pv 1)) (de_int)) (dn_nil)))))))) (dss_one (ds_ret (de_var (pv 2)))))))))
theorem ok_law (T : Txt K mg Ad) : DFn P w K mg base 15 Ad.a_law Ad.d_law ["script"] (Wlaw K Ad.cls) :=
  dfn_of T.F_law sc_law fun cdv A outer s H E hr => (dss_cons (ds_set (i := 1) sc_law.nd rfl (by first | exact .inl rfl | exact .inr rfl) (de_call (ok__law_begun T) (hr.mono (by decide)) (by rfl) T.g__law_begun T.F__law_begun.kp T.b__law_begun .nil rs0 pBody (dn_cons (de_var (pv 0)) (dn_nil)))) (dss_cons (ds_for oBody rfl (di_range1 (by rfl) T.z_range (dn_cons (de_op do_add (de_int) (de_callB (dc_min2 rfl) (by rfl) T.z_min (by decide +kernel) (dn_cons (de_callB dc_len (by rfl) T.z_len (by decide +kernel) (dn_cons (de_var (pv 0)) (dn_nil))) (dn_cons (de_int) (dn_nil))))) (dn_nil))) (dg_name (i := 2) sc_law.nd rfl (by first | exact .inl rfl | exact .inr rfl)) (dss_cons (ds_set (i := 3) sc_law.nd rfl (by first | exact .inl rfl | exact .inr rfl) (de_call (ok__law_good T) (hr.mono (by decide)) (by rfl) T.g__law_good T.F__law_good.kp T.b__law_good .nil rs0 pBody (dn_cons (de_var (pv 1)) (dn_cons (de_int) (dn_cons (de_int) (dn_nil)))))) (dss_cons (ds_set (i := 4) sc_law.nd rfl (by first | exact .inl rfl | exact .inr rfl) (de_call (ok__law_text T 8) (hr.mono (by decide)) (by rfl) T.g__law_text T.F__law_text.kp T.b__law_text .nil rs0 pBody (dn_cons (de_var (pv 3)) (dn_cons (de_int) (dn_nil))))) (dss_cons (ds_if (DW.dt (dw_or (dt_cmp (do_ne hr.r.units) (de_lst (dn_cons (de_call (ok_good_text T) (hr.mono (by decide)) (by rfl) T.g_good_text T.F_good_text.kp T.b_good_text .nil rs0 pBody (dn_cons (de_var (pv 3)) (dn_nil))) (dn_cons (de_call (ok_good_text T) (hr.mono (by decide)) (by rfl) T.g_good_text T.F_good_text.kp T.b_good_text .nil rs0 pBody (dn_cons (de_var (pv 3)) (dn_nil))) (dn_nil)))) (de_lst (dn_cons (de_var (pv 4)) (dn_cons (de_var (pv 4)) (dn_nil)))) (nomark _)) (dw_or1 (dt_cmp (do_ne hr.r.units) (de_callB (dc_reprX hr.g hr.r.units) (by rfl) T.z_repr (by decide +kernel) (dn_cons (de_call (ok_read_good T) (hr.mono (by decide)) (by rfl) T.g_read_good T.F_read_good.kp T.b_read_good .nil rs0 pBody (dn_cons (de_var (pv 4)) (dn_nil))) (dn_nil))) (de_callB (dc_reprX hr.g hr.r.units) (by rfl) T.z_repr (by decide +kernel) (dn_cons (de_var (pv 3)) (dn_nil))) (nomark _))))) (dss_one (ds_ret (de_bl))) (dss_nil)) (dss_cons (ds_set (i := 5) sc_law.nd rfl (by first | exact .inl rfl | exact .inr rfl) (de_call (ok__law_prices T) (hr.mono (by decide)) (by rfl) T.g__law_prices T.F__law_prices.kp T.b__law_prices .nil rs0 pBody (dn_cons (de_var (pv 1)) (dn_cons (de_var (pv 3)) (dn_nil))))) (dss_cons (ds_set (i := 6) sc_law.nd rfl (by first | exact .inl rfl | exact .inr rfl) (de_join (de_str) (de_comp [("part", 7), ("of", 8)] (gTup K 2 (gCons (gName 7) (gCons (gName 8) (gNil)))) rfl sc_law.nd (di_seq (de_var (pv 5))) (blkOk_by (N := N_law) (sc := defScope st_law) (by decide +kernel)) (fun _ _ _ _ _ => pg_tup rfl (pgs_cons (pg_name (i := 7) sc_law.nd rfl (by first | exact .inl rfl | exact .inr rfl)) (pgs_cons (pg_name (i := 8) sc_law.nd rfl (by first | exact .inl rfl | exact .inr rfl)) (pgs_nil)))) (gv_tup (gvs_cons (gv_name (by decide)) (gvs_cons (gv_name (by decide)) (gvs_nil)))) (fun _ _ _ _ _ => dts_nil) (fun _ _ _ _ _ => de_op do_add (de_op do_add (de_callTy dc_strI (by rfl) T.z_str (by decide +kernel) (dn_cons (de_var (pv 7)) (dn_nil))) (de_str)) (de_callTy dc_strI (by rfl) T.z_str (by decide +kernel) (dn_cons (de_var (pv 8)) (dn_nil))))))) (dss_one (ds_if (DW.dt (dw_or (dt_cmp (do_ne hr.r.units) (de_call (ok_prices_text T) (hr.mono (by decide)) (by rfl) T.g_prices_text T.F_prices_text.kp T.b_prices_text .nil rs0 pBody (dn_cons (de_var (pv 3)) (dn_cons (de_var (pv 5)) (dn_nil)))) (de_var (pv 6)) (nomark _)) (dw_or1 (dt_cmp (do_ne hr.r.units) (de_callB (dc_reprX hr.g hr.r.units) (by rfl) T.z_repr (by decide +kernel) (dn_cons (de_call (ok_read_prices T) (hr.mono (by decide)) (by rfl) T.g_read_prices T.F_read_prices.kp T.b_read_prices .nil rs0 pBody (dn_cons (de_var (pv 3)) (dn_cons (de_var (pv 6)) (dn_nil)))) (dn_nil))) (de_callB (dc_reprX hr.g hr.r.units) (by rfl) T.z_repr (by decide +kernel) (dn_cons (de_var (pv 5)) (dn_nil))) (nomark _))))) (dss_one (ds_ret (de_bl))) (dss_nil))))))))) (dss_cons (ds_set (i := 9) sc_law.nd rfl (by first | exact .inl rfl | exact .inr rfl) (de_tup (dn_cons (de_str) (dn_cons (de_str) (dn_cons (de_int) (dn_cons (de_int) (dn_cons (de_tup (dn_cons (de_int) (dn_cons (de_str) (dn_cons (de_str) (dn_nil))))) (dn_cons (de_tup (dn_cons (de_tup (dn_cons (de_str) (dn_cons (de_str) (dn_cons (de_int) (dn_cons (de_int) (dn_nil)))))) (dn_cons (de_tup (dn_cons (de_str) (dn_cons (de_str) (dn_cons (de_int) (dn_cons (de_int) (dn_nil)))))) (dn_nil)))) (dn_nil))))))))) (dss_cons (ds_set (i := 3) sc_law.nd rfl (by first | exact .inl rfl | exact .inr rfl) (de_tup (dn_cons (de_str) (dn_cons (de_str) (dn_cons (de_int) (dn_cons (de_int) (dn_cons (de_tup (dn_cons (de_int) (dn_cons (de_str) (dn_cons (de_str) (dn_nil))))) (dn_cons (de_tup (dn_cons (de_var (pv 9)) (dn_cons (de_tup (dn_cons (de_str) (dn_cons (de_str) (dn_cons (de_int) (dn_cons (de_int) (dn_nil)))))) (dn_nil)))) (dn_nil))))))))) (dss_cons (ds_set (i := 10) sc_law.nd rfl (by first | exact .inl rfl | exact .inr rfl) (de_lst (dn_cons (de_str) (dn_cons (de_str) (dn_cons (de_str) (dn_nil)))))) (dss_cons (ds_set (i := 4) sc_law.nd rfl (by first | exact .inl rfl | exact .inr rfl) (de_join (de_str) (de_op do_add (de_var (pv 10)) (de_lst (dn_cons (de_str) (dn_cons (de_str) (dn_nil))))))) (dss_cons (ds_if (DW.dt (dw_or (dt_cmp (do_ne hr.r.units) (de_call (ok_good_text T) (hr.mono (by decide)) (by rfl) T.g_good_text T.F_good_text.kp T.b_good_text .nil rs0 pBody (dn_cons (de_var (pv 3)) (dn_nil))) (de_var (pv 4)) (nomark _)) (dw_or1 (dt_cmp (do_ne hr.r.units) (de_call (ok_read_good T) (hr.mono (by decide)) (by rfl) T.g_read_good T.F_read_good.kp T.b_read_good .nil rs0 pBody (dn_cons (de_var (pv 4)) (dn_nil))) (de_var (pv 3)) (nomark _))))) (dss_one (ds_ret (de_bl))) (dss_nil)) (dss_cons (ds_set (i := 5) sc_law.nd rfl (by first | exact .inl rfl | exact .inr rfl) (de_tup (dn_cons (de_tup (dn_cons (de_int) (dn_cons (de_int) (dn_nil)))) (dn_cons (de_tup (dn_cons (de_int) (dn_cons (de_int) (dn_nil)))) (dn_cons (de_tup (dn_cons (de_int) (dn_cons (de_int) (dn_nil)))) (dn_cons (de_tup (dn_cons (de_int) (dn_cons (de_int) (dn_nil)))) (dn_cons (de_tup (dn_cons (de_int) (dn_cons (de_int) (dn_nil)))) (dn_nil)))))))) (dss_cons (ds_if (dt_cmp (do_ne hr.r.units) (de_call (ok_prices_text T) (hr.mono (by decide)) (by rfl) T.g_prices_text T.F_prices_text.kp T.b_prices_text .nil rs0 pBody (dn_cons (de_var (pv 3)) (dn_cons (de_var (pv 5)) (dn_nil)))) (de_str) (nomark _)) (dss_one (ds_ret (de_bl))) (dss_nil)) (dss_one (ds_ret (de_cmp (do_eq hr.r.units) (de_call (ok_read_prices T) (hr.mono (by decide)) (by rfl) T.g_read_prices T.F_read_prices.kp T.b_read_prices .nil rs0 pBody (dn_cons (de_var (pv 3)) (dn_cons (de_str) (dn_nil)))) (de_var (pv 5)) (nomark _)))))))))))))
end
end G_madeofhere_k17_texts_back_and_forth
set_option maxHeartbeats 0
namespace G_madeofhere_k17_texts_back_and_forth
open PySem PySem.Spec PyProof.Rows L2 DL
def dd_BadGood : He.DefD := ⟨("BadGood", some "__init__"), "__init__", "BadGood.__init__", defArgs st_BadGood, defBody st_BadGood, defScope st_BadGood, [], []⟩
def dd_BadPrices : He.DefD := ⟨("BadPrices", some "__init__"), "__init__", "BadPrices.__init__", defArgs st_BadPrices, defBody st_BadPrices, defScope st_BadPrices, [], []⟩
def dd_BadText : He.DefD := ⟨("BadText", some "__init__"), "__init__", "BadText.__init__", defArgs st_BadText, defBody st_BadText, defScope st_BadText, [], []⟩
def clsN : List Str := [("MakeError" : Str), ("BadGood" : Str), ("BadPrices" : Str), ("BadText" : Str)]
def clsA (K : Fg) : Nat → Addr := fun i => He.ga K (clsN.getD i "")
def exC (K : Fg) : Bool := ((List.range 4).all fun i => if [true, true, true, true].getD i true = true then clsVB K (clsA K i) else clsLB K (clsA K i)) && (kitBB K (clsA K) 4 tb tys fds && (true))
theorem exC_cf {K : Fg} (h : exC K = true) : CF K (clsA K) := by
  obtain ⟨h1, h2⟩ := He.ba h
  refine ⟨fun {i} hi => ?_, kitBB_ok (He.ba h2).1⟩
  have q := List.all_eq_true.mp h1 i (List.mem_range.mpr hi)
  by_cases z : [true, true, true, true].getD i true = true
  · rw [if_pos z] at q; exact clsVB_ok q
  · rw [if_neg z] at q; exact clsLB_ok q
def dd_is_one_of : He.DefD := ⟨("is_one_of", none), "is_one_of", "is_one_of", defArgs st_is_one_of, defBody st_is_one_of, defScope st_is_one_of, [], []⟩
def dd_is_rule : He.DefD := ⟨("is_rule", none), "is_rule", "is_rule", defArgs st_is_rule, defBody st_is_rule, defScope st_is_rule, [], []⟩
def dd__need_bounds : He.DefD := ⟨("_need_bounds", none), "_need_bounds", "_need_bounds", defArgs st__need_bounds, defBody st__need_bounds, defScope st__need_bounds, [], []⟩
def dd__need_making : He.DefD := ⟨("_need_making", none), "_need_making", "_need_making", defArgs st__need_making, defBody st__need_making, defScope st__need_making, [], []⟩
def dd__look_at : He.DefD := ⟨("_look_at", none), "_look_at", "_look_at", defArgs st__look_at, defBody st__look_at, defScope st__look_at, [], []⟩
def dd_look_over : He.DefD := ⟨("look_over", none), "look_over", "look_over", defArgs st_look_over, defBody st_look_over, defScope st_look_over, [], []⟩
def dd_need_good : He.DefD := ⟨("need_good", none), "need_good", "need_good", defArgs st_need_good, defBody st_need_good, defScope st_need_good, [], []⟩
def dd_is_fraction : He.DefD := ⟨("is_fraction", none), "is_fraction", "is_fraction", defArgs st_is_fraction, defBody st_is_fraction, defScope st_is_fraction, [], []⟩
def dd_need_prices : He.DefD := ⟨("need_prices", none), "need_prices", "need_prices", defArgs st_need_prices, defBody st_need_prices, defScope st_need_prices, [], []⟩
def dd_are_figures : He.DefD := ⟨("are_figures", none), "are_figures", "are_figures", defArgs st_are_figures, defBody st_are_figures, defScope st_are_figures, [], []⟩
def dd_are_integers : He.DefD := ⟨("are_integers", none), "are_integers", "are_integers", defArgs st_are_integers, defBody st_are_integers, defScope st_are_integers, [], []⟩
def dd_is_told_rule : He.DefD := ⟨("is_told_rule", none), "is_told_rule", "is_told_rule", defArgs st_is_told_rule, defBody st_is_told_rule, defScope st_is_told_rule, [], []⟩
def dd_fraction_text : He.DefD := ⟨("fraction_text", none), "fraction_text", "fraction_text", defArgs st_fraction_text, defBody st_fraction_text, defScope st_fraction_text, [], []⟩
def dd_told_fraction : He.DefD := ⟨("told_fraction", none), "told_fraction", "told_fraction", defArgs st_told_fraction, defBody st_told_fraction, defScope st_told_fraction, [], []⟩
def dd__row_of : He.DefD := ⟨("_row_of", none), "_row_of", "_row_of", defArgs st__row_of, defBody st__row_of, defScope st__row_of, [], []⟩
def dd_good_text : He.DefD := ⟨("good_text", none), "good_text", "good_text", defArgs st_good_text, defBody st_good_text, defScope st_good_text, [], []⟩
def dd__told_thing : He.DefD := ⟨("_told_thing", none), "_told_thing", "_told_thing", defArgs st__told_thing, defBody st__told_thing, defScope st__told_thing, [], []⟩
def dd__told_row : He.DefD := ⟨("_told_row", none), "_told_row", "_told_row", defArgs st__told_row, defBody st__told_row, defScope st__told_row, [], []⟩
def dd__may_follow : He.DefD := ⟨("_may_follow", none), "_may_follow", "_may_follow", defArgs st__may_follow, defBody st__may_follow, defScope st__may_follow, [], []⟩
def dd__built : He.DefD := ⟨("_built", none), "_built", "_built", defArgs st__built, defBody st__built, defScope st__built, [], []⟩
def dd_read_good : He.DefD := ⟨("read_good", none), "read_good", "read_good", defArgs st_read_good, defBody st_read_good, defScope st_read_good, [], []⟩
def dd_prices_text : He.DefD := ⟨("prices_text", none), "prices_text", "prices_text", defArgs st_prices_text, defBody st_prices_text, defScope st_prices_text, [], []⟩
def dd_read_prices : He.DefD := ⟨("read_prices", none), "read_prices", "read_prices", defArgs st_read_prices, defBody st_read_prices, defScope st_read_prices, [], []⟩
def dd__law_begun : He.DefD := ⟨("_law_begun", none), "_law_begun", "_law_begun", defArgs st__law_begun, defBody st__law_begun, defScope st__law_begun, [], []⟩
def dd__law_draw : He.DefD := ⟨("_law_draw", none), "_law_draw", "_law_draw", defArgs st__law_draw, defBody st__law_draw, defScope st__law_draw, [], []⟩
def dd__law_of : He.DefD := ⟨("_law_of", none), "_law_of", "_law_of", defArgs st__law_of, defBody st__law_of, defScope st__law_of, [], []⟩
def dd__law_span : He.DefD := ⟨("_law_span", none), "_law_span", "_law_span", defArgs st__law_span, defBody st__law_span, defScope st__law_span, [], []⟩
def dd__law_term : He.DefD := ⟨("_law_term", none), "_law_term", "_law_term", defArgs st__law_term, defBody st__law_term, defScope st__law_term, [], []⟩
def dd__law_thing : He.DefD := ⟨("_law_thing", none), "_law_thing", "_law_thing", defArgs st__law_thing, defBody st__law_thing, defScope st__law_thing, [], []⟩
def dd__law_good : He.DefD := ⟨("_law_good", none), "_law_good", "_law_good", defArgs st__law_good, defBody st__law_good, defScope st__law_good, [], []⟩
def dd__law_rows : He.DefD := ⟨("_law_rows", none), "_law_rows", "_law_rows", defArgs st__law_rows, defBody st__law_rows, defScope st__law_rows, [], []⟩
def dd__law_least : He.DefD := ⟨("_law_least", none), "_law_least", "_law_least", defArgs st__law_least, defBody st__law_least, defScope st__law_least, [], []⟩
def dd__law_prices : He.DefD := ⟨("_law_prices", none), "_law_prices", "_law_prices", defArgs st__law_prices, defBody st__law_prices, defScope st__law_prices, [], []⟩
def dd__law_text : He.DefD := ⟨("_law_text", none), "_law_text", "_law_text", defArgs st__law_text, defBody st__law_text, defScope st__law_text, [], []⟩
def dd_law : He.DefD := ⟨("law", none), "law", "law", defArgs st_law, defBody st_law, defScope st_law, [], []⟩
def fn : List He.DefD := [dd_is_one_of, dd_is_rule, dd__need_bounds, dd__need_making, dd__look_at, dd_look_over, dd_need_good, dd_is_fraction, dd_need_prices, dd_are_figures, dd_are_integers, dd_is_told_rule, dd_fraction_text, dd_told_fraction, dd__row_of, dd_good_text, dd__told_thing, dd__told_row, dd__may_follow, dd__built, dd_read_good, dd_prices_text, dd_read_prices, dd__law_begun, dd__law_draw, dd__law_of, dd__law_span, dd__law_term, dd__law_thing, dd__law_good, dd__law_rows, dd__law_least, dd__law_prices, dd__law_text, dd_law, dd_BadGood, dd_BadPrices, dd_BadText]
def fa : List He.Fa := [.glo "is_one_of", .glo "is_rule", .glo "_need_bounds", .glo "_need_making", .glo "_look_at", .glo "look_over", .glo "need_good", .glo "is_fraction", .glo "need_prices", .glo "are_figures", .glo "are_integers", .glo "is_told_rule", .glo "fraction_text", .glo "told_fraction", .glo "_row_of", .glo "good_text", .glo "_told_thing", .glo "_told_row", .glo "_may_follow", .glo "_built", .glo "read_good", .glo "prices_text", .glo "read_prices", .glo "_law_begun", .glo "_law_draw", .glo "_law_of", .glo "_law_span", .glo "_law_term", .glo "_law_thing", .glo "_law_good", .glo "_law_rows", .glo "_law_least", .glo "_law_prices", .glo "_law_text", .glo "law", .free "abs", .free "all", .free "bool", .free "enumerate", .free "int", .free "isinstance", .free "len", .free "list", .free "max", .free "min", .free "range", .free "repr", .free "reversed", .free "str", .free "tuple", .free "zip", .int "HIGH" 3, .int "LAND" 1, .int "LOW" 2, .int "MAKING" 0, .int "MOST_FIGURES" 7, .int "MOST_FIGURES_OF_PRICES" 30, .int "MOST_MOVES" 3, .int "MOST_PARTS" 4, .int "MOST_PRICE" 1000000, .int "MOST_SHARE" 100, .int "MOST_STEPS" 4, .int "MOST_THINGS" 10, .int "RULE" 4, .glo "BadGood", .glo "BadPrices", .glo "BadText", .meth "BadGood" "__init__", .meth "BadPrices" "__init__", .meth "BadText" "__init__"]
def exI (K : Fg) : Bool := [(("gcd" : Str), "math.gcd")].all fun q => decide (PySem.W.nsIn K mainGlobals q.1 = some (some (.builtin q.2)))
def ex (K : Fg) : Bool := exI K && exC K
theorem ex_ok {K : Fg} (e : exI K = true) (i : Nat) {q : Str × String} (h : [(("gcd" : Str), "math.gcd")][i]? = some q) : PySem.W.nsIn K mainGlobals q.1 = some (some (.builtin q.2)) := of_decide_eq_true (List.all_eq_true.mp e q (List.mem_of_getElem? h))
abbrev R : PySem.W.OpenRow := PySem.W.OpenLaw.row PySem.Challenge.rw_madeofhere_k17_texts_back_and_forth
abbrev hk : PySem.W.Hook := hookE 6 fa fn ex
def ob (s : PySem.W.SharedT) : AlE := obsE 6 fa fn ex (HandSHeadRun.getT s)
theorem ob_eq (s : PySem.W.SharedT) : ob s = hk.obs s.abs := obsE_eq (HandSHeadRun.getT_eq s)
def lo0 : List Str := [("__name__" : Str), ("MakeError" : Str), ("BadGood" : Str), ("BadPrices" : Str), ("BadText" : Str), ("is_one_of" : Str), ("MAKING" : Str), ("LAND" : Str), ("LOW" : Str), ("HIGH" : Str), ("RULE" : Str), ("MOST_PRICE" : Str), ("MOST_SHARE" : Str), ("MOST_PARTS" : Str), ("MOST_THINGS" : Str), ("MOST_STEPS" : Str), ("MOST_MOVES" : Str), ("is_rule" : Str), ("_need_bounds" : Str), ("_need_making" : Str), ("_look_at" : Str), ("look_over" : Str), ("need_good" : Str), ("is_fraction" : Str), ("need_prices" : Str), ("MOST_FIGURES" : Str), ("MOST_FIGURES_OF_PRICES" : Str), ("are_figures" : Str), ("are_integers" : Str), ("is_told_rule" : Str), ("fraction_text" : Str), ("told_fraction" : Str), ("_row_of" : Str), ("good_text" : Str), ("_told_thing" : Str), ("_told_row" : Str), ("_may_follow" : Str), ("_built" : Str), ("read_good" : Str), ("prices_text" : Str)]
def lo1 : List Str := [("read_prices" : Str), ("_law_begun" : Str), ("_law_draw" : Str), ("_law_of" : Str), ("_law_span" : Str), ("_law_term" : Str), ("_law_thing" : Str), ("_law_good" : Str), ("_law_rows" : Str), ("_law_least" : Str), ("_law_prices" : Str), ("_law_text" : Str)]
def loose : List Str := lo0 ++ lo1
theorem run (w : World) : HandSHeadRun.RunEqI R (PySem.W.view R.prog [0, 58]) hk ob 40000 loose w := by
  unfold HandSHeadRun.RunEqI
  kernel_rfl
theorem txt {K : Fg} {h : Heap} {mg : Str → Option Value} (X : K.In h) (G : h.Ns mainGlobals mg) (c : He.SaysD fa fn K) (e : ex K = true) : ∃ A : Adr, Txt K mg A ∧ A.a_law = He.ga K "law" := by
  obtain ⟨eI, eC⟩ := He.ba e
  obtain ⟨q0, F0⟩ := c.def_ 0 (d := dd_is_one_of) rfl
  have F0 : Fun K "is_one_of" "is_one_of" st_is_one_of (He.ga K "is_one_of") q0 := fun_ofD (st := st_is_one_of) F0
  obtain ⟨q1, F1⟩ := c.def_ 1 (d := dd_is_rule) rfl
  have F1 : Fun K "is_rule" "is_rule" st_is_rule (He.ga K "is_rule") q1 := fun_ofD (st := st_is_rule) F1
  obtain ⟨q2, F2⟩ := c.def_ 2 (d := dd__need_bounds) rfl
  have F2 : Fun K "_need_bounds" "_need_bounds" st__need_bounds (He.ga K "_need_bounds") q2 := fun_ofD (st := st__need_bounds) F2
  obtain ⟨q3, F3⟩ := c.def_ 3 (d := dd__need_making) rfl
  have F3 : Fun K "_need_making" "_need_making" st__need_making (He.ga K "_need_making") q3 := fun_ofD (st := st__need_making) F3
  obtain ⟨q4, F4⟩ := c.def_ 4 (d := dd__look_at) rfl
  have F4 : Fun K "_look_at" "_look_at" st__look_at (He.ga K "_look_at") q4 := fun_ofD (st := st__look_at) F4
  obtain ⟨q5, F5⟩ := c.def_ 5 (d := dd_look_over) rfl
  have F5 : Fun K "look_over" "look_over" st_look_over (He.ga K "look_over") q5 := fun_ofD (st := st_look_over) F5
  obtain ⟨q6, F6⟩ := c.def_ 6 (d := dd_need_good) rfl
  have F6 : Fun K "need_good" "need_good" st_need_good (He.ga K "need_good") q6 := fun_ofD (st := st_need_good) F6
  obtain ⟨q7, F7⟩ := c.def_ 7 (d := dd_is_fraction) rfl
  have F7 : Fun K "is_fraction" "is_fraction" st_is_fraction (He.ga K "is_fraction") q7 := fun_ofD (st := st_is_fraction) F7
  obtain ⟨q8, F8⟩ := c.def_ 8 (d := dd_need_prices) rfl
  have F8 : Fun K "need_prices" "need_prices" st_need_prices (He.ga K "need_prices") q8 := fun_ofD (st := st_need_prices) F8
  obtain ⟨q9, F9⟩ := c.def_ 9 (d := dd_are_figures) rfl
  have F9 : Fun K "are_figures" "are_figures" st_are_figures (He.ga K "are_figures") q9 := fun_ofD (st := st_are_figures) F9
  obtain ⟨q10, F10⟩ := c.def_ 10 (d := dd_are_integers) rfl
  have F10 : Fun K "are_integers" "are_integers" st_are_integers (He.ga K "are_integers") q10 := fun_ofD (st := st_are_integers) F10
  obtain ⟨q11, F11⟩ := c.def_ 11 (d := dd_is_told_rule) rfl
  have F11 : Fun K "is_told_rule" "is_told_rule" st_is_told_rule (He.ga K "is_told_rule") q11 := fun_ofD (st := st_is_told_rule) F11
  obtain ⟨q12, F12⟩ := c.def_ 12 (d := dd_fraction_text) rfl
  have F12 : Fun K "fraction_text" "fraction_text" st_fraction_text (He.ga K "fraction_text") q12 := fun_ofD (st := st_fraction_text) F12
  obtain ⟨q13, F13⟩ := c.def_ 13 (d := dd_told_fraction) rfl
  have F13 : Fun K "told_fraction" "told_fraction" st_told_fraction (He.ga K "told_fraction") q13 := fun_ofD (st := st_told_fraction) F13
  obtain ⟨q14, F14⟩ := c.def_ 14 (d := dd__row_of) rfl
  have F14 : Fun K "_row_of" "_row_of" st__row_of (He.ga K "_row_of") q14 := fun_ofD (st := st__row_of) F14
  obtain ⟨q15, F15⟩ := c.def_ 15 (d := dd_good_text) rfl
  have F15 : Fun K "good_text" "good_text" st_good_text (He.ga K "good_text") q15 := fun_ofD (st := st_good_text) F15
  obtain ⟨q16, F16⟩ := c.def_ 16 (d := dd__told_thing) rfl
  have F16 : Fun K "_told_thing" "_told_thing" st__told_thing (He.ga K "_told_thing") q16 := fun_ofD (st := st__told_thing) F16
  obtain ⟨q17, F17⟩ := c.def_ 17 (d := dd__told_row) rfl
  have F17 : Fun K "_told_row" "_told_row" st__told_row (He.ga K "_told_row") q17 := fun_ofD (st := st__told_row) F17
  obtain ⟨q18, F18⟩ := c.def_ 18 (d := dd__may_follow) rfl
  have F18 : Fun K "_may_follow" "_may_follow" st__may_follow (He.ga K "_may_follow") q18 := fun_ofD (st := st__may_follow) F18
  obtain ⟨q19, F19⟩ := c.def_ 19 (d := dd__built) rfl
  have F19 : Fun K "_built" "_built" st__built (He.ga K "_built") q19 := fun_ofD (st := st__built) F19
  obtain ⟨q20, F20⟩ := c.def_ 20 (d := dd_read_good) rfl
  have F20 : Fun K "read_good" "read_good" st_read_good (He.ga K "read_good") q20 := fun_ofD (st := st_read_good) F20
  obtain ⟨q21, F21⟩ := c.def_ 21 (d := dd_prices_text) rfl
  have F21 : Fun K "prices_text" "prices_text" st_prices_text (He.ga K "prices_text") q21 := fun_ofD (st := st_prices_text) F21
  obtain ⟨q22, F22⟩ := c.def_ 22 (d := dd_read_prices) rfl
  have F22 : Fun K "read_prices" "read_prices" st_read_prices (He.ga K "read_prices") q22 := fun_ofD (st := st_read_prices) F22
  obtain ⟨q23, F23⟩ := c.def_ 23 (d := dd__law_begun) rfl
  have F23 : Fun K "_law_begun" "_law_begun" st__law_begun (He.ga K "_law_begun") q23 := fun_ofD (st := st__law_begun) F23
  obtain ⟨q24, F24⟩ := c.def_ 24 (d := dd__law_draw) rfl
  have F24 : Fun K "_law_draw" "_law_draw" st__law_draw (He.ga K "_law_draw") q24 := fun_ofD (st := st__law_draw) F24
  obtain ⟨q25, F25⟩ := c.def_ 25 (d := dd__law_of) rfl
  have F25 : Fun K "_law_of" "_law_of" st__law_of (He.ga K "_law_of") q25 := fun_ofD (st := st__law_of) F25
  obtain ⟨q26, F26⟩ := c.def_ 26 (d := dd__law_span) rfl
  have F26 : Fun K "_law_span" "_law_span" st__law_span (He.ga K "_law_span") q26 := fun_ofD (st := st__law_span) F26
  obtain ⟨q27, F27⟩ := c.def_ 27 (d := dd__law_term) rfl
  have F27 : Fun K "_law_term" "_law_term" st__law_term (He.ga K "_law_term") q27 := fun_ofD (st := st__law_term) F27
  obtain ⟨q28, F28⟩ := c.def_ 28 (d := dd__law_thing) rfl
  have F28 : Fun K "_law_thing" "_law_thing" st__law_thing (He.ga K "_law_thing") q28 := fun_ofD (st := st__law_thing) F28
  obtain ⟨q29, F29⟩ := c.def_ 29 (d := dd__law_good) rfl
  have F29 : Fun K "_law_good" "_law_good" st__law_good (He.ga K "_law_good") q29 := fun_ofD (st := st__law_good) F29
  obtain ⟨q30, F30⟩ := c.def_ 30 (d := dd__law_rows) rfl
  have F30 : Fun K "_law_rows" "_law_rows" st__law_rows (He.ga K "_law_rows") q30 := fun_ofD (st := st__law_rows) F30
  obtain ⟨q31, F31⟩ := c.def_ 31 (d := dd__law_least) rfl
  have F31 : Fun K "_law_least" "_law_least" st__law_least (He.ga K "_law_least") q31 := fun_ofD (st := st__law_least) F31
  obtain ⟨q32, F32⟩ := c.def_ 32 (d := dd__law_prices) rfl
  have F32 : Fun K "_law_prices" "_law_prices" st__law_prices (He.ga K "_law_prices") q32 := fun_ofD (st := st__law_prices) F32
  obtain ⟨q33, F33⟩ := c.def_ 33 (d := dd__law_text) rfl
  have F33 : Fun K "_law_text" "_law_text" st__law_text (He.ga K "_law_text") q33 := fun_ofD (st := st__law_text) F33
  obtain ⟨q34, F34⟩ := c.def_ 34 (d := dd_law) rfl
  have F34 : Fun K "law" "law" st_law (He.ga K "law") q34 := fun_ofD (st := st_law) F34
  obtain ⟨q35, F35⟩ := c.def_ 35 (d := dd_BadGood) rfl
  have F35 : Fun K "__init__" "BadGood.__init__" st_BadGood (He.ma K (clsA K 1) "__init__") q35 := fun_ofD (st := st_BadGood) F35
  obtain ⟨q36, F36⟩ := c.def_ 36 (d := dd_BadPrices) rfl
  have F36 : Fun K "__init__" "BadPrices.__init__" st_BadPrices (He.ma K (clsA K 2) "__init__") q36 := fun_ofD (st := st_BadPrices) F36
  obtain ⟨q37, F37⟩ := c.def_ 37 (d := dd_BadText) rfl
  have F37 : Fun K "__init__" "BadText.__init__" st_BadText (He.ma K (clsA K 3) "__init__") q37 := fun_ofD (st := st_BadText) F37
  exact ⟨{ cls := clsA K, a_BadGood := He.ma K (clsA K 1) "__init__", d_BadGood := q35, a_BadPrices := He.ma K (clsA K 2) "__init__", d_BadPrices := q36, a_BadText := He.ma K (clsA K 3) "__init__", d_BadText := q37, a_is_one_of := (He.ga K "is_one_of"), d_is_one_of := q0, a_is_rule := (He.ga K "is_rule"), d_is_rule := q1, a__need_bounds := (He.ga K "_need_bounds"), d__need_bounds := q2, a__need_making := (He.ga K "_need_making"), d__need_making := q3, a__look_at := (He.ga K "_look_at"), d__look_at := q4, a_look_over := (He.ga K "look_over"), d_look_over := q5, a_need_good := (He.ga K "need_good"), d_need_good := q6, a_is_fraction := (He.ga K "is_fraction"), d_is_fraction := q7, a_need_prices := (He.ga K "need_prices"), d_need_prices := q8, a_are_figures := (He.ga K "are_figures"), d_are_figures := q9, a_are_integers := (He.ga K "are_integers"), d_are_integers := q10, a_is_told_rule := (He.ga K "is_told_rule"), d_is_told_rule := q11, a_fraction_text := (He.ga K "fraction_text"), d_fraction_text := q12, a_told_fraction := (He.ga K "told_fraction"), d_told_fraction := q13, a__row_of := (He.ga K "_row_of"), d__row_of := q14, a_good_text := (He.ga K "good_text"), d_good_text := q15, a__told_thing := (He.ga K "_told_thing"), d__told_thing := q16, a__told_row := (He.ga K "_told_row"), d__told_row := q17, a__may_follow := (He.ga K "_may_follow"), d__may_follow := q18, a__built := (He.ga K "_built"), d__built := q19, a_read_good := (He.ga K "read_good"), d_read_good := q20, a_prices_text := (He.ga K "prices_text"), d_prices_text := q21, a_read_prices := (He.ga K "read_prices"), d_read_prices := q22, a__law_begun := (He.ga K "_law_begun"), d__law_begun := q23, a__law_draw := (He.ga K "_law_draw"), d__law_draw := q24, a__law_of := (He.ga K "_law_of"), d__law_of := q25, a__law_span := (He.ga K "_law_span"), d__law_span := q26, a__law_term := (He.ga K "_law_term"), d__law_term := q27, a__law_thing := (He.ga K "_law_thing"), d__law_thing := q28, a__law_good := (He.ga K "_law_good"), d__law_good := q29, a__law_rows := (He.ga K "_law_rows"), d__law_rows := q30, a__law_least := (He.ga K "_law_least"), d__law_least := q31, a__law_prices := (He.ga K "_law_prices"), d__law_prices := q32, a__law_text := (He.ga K "_law_text"), d__law_text := q33, a_law := (He.ga K "law"), d_law := q34 },
  { F_is_one_of := F0,
    g_is_one_of := He.glo_ok X G (c.fact 0 (f := .glo "is_one_of") rfl),
    b_is_one_of := binds_of F0 (fun _ _ _ _ _ _ us hl => match us, hl with | [_, _], _ => rfl),
    F_is_rule := F1,
    g_is_rule := He.glo_ok X G (c.fact 1 (f := .glo "is_rule") rfl),
    b_is_rule := binds_of F1 (fun _ _ _ _ _ _ us hl => match us, hl with | [_], _ => rfl),
    F__need_bounds := F2,
    g__need_bounds := He.glo_ok X G (c.fact 2 (f := .glo "_need_bounds") rfl),
    b__need_bounds := binds_of F2 (fun _ _ _ _ _ _ us hl => match us, hl with | [_, _, _, _], _ => rfl),
    F__need_making := F3,
    g__need_making := He.glo_ok X G (c.fact 3 (f := .glo "_need_making") rfl),
    b__need_making := binds_of F3 (fun _ _ _ _ _ _ us hl => match us, hl with | [_, _, _], _ => rfl),
    F__look_at := F4,
    g__look_at := He.glo_ok X G (c.fact 4 (f := .glo "_look_at") rfl),
    b__look_at := binds_of F4 (fun _ _ _ _ _ _ us hl => match us, hl with | [_, _, _, _, _, _], _ => rfl),
    F_look_over := F5,
    g_look_over := He.glo_ok X G (c.fact 5 (f := .glo "look_over") rfl),
    b_look_over := binds_of F5 (fun _ _ _ _ _ _ us hl => match us, hl with | [_], _ => rfl),
    F_need_good := F6,
    g_need_good := He.glo_ok X G (c.fact 6 (f := .glo "need_good") rfl),
    b_need_good := binds_of F6 (fun _ _ _ _ _ _ us hl => match us, hl with | [_], _ => rfl),
    F_is_fraction := F7,
    g_is_fraction := He.glo_ok X G (c.fact 7 (f := .glo "is_fraction") rfl),
    b_is_fraction := binds_of F7 (fun _ _ _ _ _ _ us hl => match us, hl with | [_, _, _], _ => rfl),
    F_need_prices := F8,
    g_need_prices := He.glo_ok X G (c.fact 8 (f := .glo "need_prices") rfl),
    b_need_prices := binds_of F8 (fun _ _ _ _ _ _ us hl => match us, hl with | [_, _], _ => rfl),
    F_are_figures := F9,
    g_are_figures := He.glo_ok X G (c.fact 9 (f := .glo "are_figures") rfl),
    b_are_figures := binds_of F9 (fun _ _ _ _ _ _ us hl => match us, hl with | [_, _], _ => rfl),
    F_are_integers := F10,
    g_are_integers := He.glo_ok X G (c.fact 10 (f := .glo "are_integers") rfl),
    b_are_integers := binds_of F10 (fun _ _ _ _ _ _ us hl => match us, hl with | [_], _ => rfl),
    F_is_told_rule := F11,
    g_is_told_rule := He.glo_ok X G (c.fact 11 (f := .glo "is_told_rule") rfl),
    b_is_told_rule := binds_of F11 (fun _ _ _ _ _ _ us hl => match us, hl with | [_], _ => rfl),
    F_fraction_text := F12,
    g_fraction_text := He.glo_ok X G (c.fact 12 (f := .glo "fraction_text") rfl),
    b_fraction_text := binds_of F12 (fun _ _ _ _ _ _ us hl => match us, hl with | [_], _ => rfl),
    F_told_fraction := F13,
    g_told_fraction := He.glo_ok X G (c.fact 13 (f := .glo "told_fraction") rfl),
    b_told_fraction := binds_of F13 (fun _ _ _ _ _ _ us hl => match us, hl with | [_], _ => rfl),
    F__row_of := F14,
    g__row_of := He.glo_ok X G (c.fact 14 (f := .glo "_row_of") rfl),
    b__row_of := binds_of F14 (fun _ _ _ _ _ _ us hl => match us, hl with | [_, _], _ => rfl),
    F_good_text := F15,
    g_good_text := He.glo_ok X G (c.fact 15 (f := .glo "good_text") rfl),
    b_good_text := binds_of F15 (fun _ _ _ _ _ _ us hl => match us, hl with | [_], _ => rfl),
    F__told_thing := F16,
    g__told_thing := He.glo_ok X G (c.fact 16 (f := .glo "_told_thing") rfl),
    b__told_thing := binds_of F16 (fun _ _ _ _ _ _ us hl => match us, hl with | [_], _ => rfl),
    F__told_row := F17,
    g__told_row := He.glo_ok X G (c.fact 17 (f := .glo "_told_row") rfl),
    b__told_row := binds_of F17 (fun _ _ _ _ _ _ us hl => match us, hl with | [_], _ => rfl),
    F__may_follow := F18,
    g__may_follow := He.glo_ok X G (c.fact 18 (f := .glo "_may_follow") rfl),
    b__may_follow := binds_of F18 (fun _ _ _ _ _ _ us hl => match us, hl with | [_, _], _ => rfl),
    F__built := F19,
    g__built := He.glo_ok X G (c.fact 19 (f := .glo "_built") rfl),
    b__built := binds_of F19 (fun _ _ _ _ _ _ us hl => match us, hl with | [_], _ => rfl),
    F_read_good := F20,
    g_read_good := He.glo_ok X G (c.fact 20 (f := .glo "read_good") rfl),
    b_read_good := binds_of F20 (fun _ _ _ _ _ _ us hl => match us, hl with | [_], _ => rfl),
    F_prices_text := F21,
    g_prices_text := He.glo_ok X G (c.fact 21 (f := .glo "prices_text") rfl),
    b_prices_text := binds_of F21 (fun _ _ _ _ _ _ us hl => match us, hl with | [_, _], _ => rfl),
    F_read_prices := F22,
    g_read_prices := He.glo_ok X G (c.fact 22 (f := .glo "read_prices") rfl),
    b_read_prices := binds_of F22 (fun _ _ _ _ _ _ us hl => match us, hl with | [_, _], _ => rfl),
    F__law_begun := F23,
    g__law_begun := He.glo_ok X G (c.fact 23 (f := .glo "_law_begun") rfl),
    b__law_begun := binds_of F23 (fun _ _ _ _ _ _ us hl => match us, hl with | [_], _ => rfl),
    F__law_draw := F24,
    g__law_draw := He.glo_ok X G (c.fact 24 (f := .glo "_law_draw") rfl),
    b__law_draw := binds_of F24 (fun _ _ _ _ _ _ us hl => match us, hl with | [_, _], _ => rfl),
    F__law_of := F25,
    g__law_of := He.glo_ok X G (c.fact 25 (f := .glo "_law_of") rfl),
    b__law_of := binds_of F25 (fun _ _ _ _ _ _ us hl => match us, hl with | [_, _], _ => rfl),
    F__law_span := F26,
    g__law_span := He.glo_ok X G (c.fact 26 (f := .glo "_law_span") rfl),
    b__law_span := binds_of F26 (fun _ _ _ _ _ _ us hl => match us, hl with | [_, _], _ => rfl),
    F__law_term := F27,
    g__law_term := He.glo_ok X G (c.fact 27 (f := .glo "_law_term") rfl),
    b__law_term := binds_of F27 (fun _ _ _ _ _ _ us hl => match us, hl with | [_], _ => rfl),
    F__law_thing := F28,
    g__law_thing := He.glo_ok X G (c.fact 28 (f := .glo "_law_thing") rfl),
    b__law_thing := binds_of F28 (fun _ _ _ _ _ _ us hl => match us, hl with | [_, _, _], _ => rfl),
    F__law_good := F29,
    g__law_good := He.glo_ok X G (c.fact 29 (f := .glo "_law_good") rfl),
    b__law_good := binds_of F29 (fun _ _ _ _ _ _ us hl => match us, hl with | [_, _, _], _ => rfl),
    F__law_rows := F30,
    g__law_rows := He.glo_ok X G (c.fact 30 (f := .glo "_law_rows") rfl),
    b__law_rows := binds_of F30 (fun _ _ _ _ _ _ us hl => match us, hl with | [_, _], _ => rfl),
    F__law_least := F31,
    g__law_least := He.glo_ok X G (c.fact 31 (f := .glo "_law_least") rfl),
    b__law_least := binds_of F31 (fun _ _ _ _ _ _ us hl => match us, hl with | [_, _], _ => rfl),
    F__law_prices := F32,
    g__law_prices := He.glo_ok X G (c.fact 32 (f := .glo "_law_prices") rfl),
    b__law_prices := binds_of F32 (fun _ _ _ _ _ _ us hl => match us, hl with | [_, _], _ => rfl),
    F__law_text := F33,
    g__law_text := He.glo_ok X G (c.fact 33 (f := .glo "_law_text") rfl),
    b__law_text := binds_of F33 (fun _ _ _ _ _ _ us hl => match us, hl with | [_, _], _ => rfl),
    F_law := F34,
    g_law := He.glo_ok X G (c.fact 34 (f := .glo "law") rfl),
    b_law := binds_of F34 (fun _ _ _ _ _ _ us hl => match us, hl with | [_], _ => rfl),
    F_BadGood := F35,
    b_BadGood := binds_of F35 (fun _ _ _ _ _ _ us hl => match us, hl with | [_, _, _], _ => rfl),
    F_BadPrices := F36,
    b_BadPrices := binds_of F36 (fun _ _ _ _ _ _ us hl => match us, hl with | [_, _], _ => rfl),
    F_BadText := F37,
    b_BadText := binds_of F37 (fun _ _ _ _ _ _ us hl => match us, hl with | [_, _], _ => rfl),
    C := exC_cf eC,
    z_abs := He.free_ok X G (c.fact 35 (f := .free "abs") rfl),
    z_all := He.free_ok X G (c.fact 36 (f := .free "all") rfl),
    z_bool := He.free_ok X G (c.fact 37 (f := .free "bool") rfl),
    z_enumerate := He.free_ok X G (c.fact 38 (f := .free "enumerate") rfl),
    z_int := He.free_ok X G (c.fact 39 (f := .free "int") rfl),
    z_isinstance := He.free_ok X G (c.fact 40 (f := .free "isinstance") rfl),
    z_len := He.free_ok X G (c.fact 41 (f := .free "len") rfl),
    z_list := He.free_ok X G (c.fact 42 (f := .free "list") rfl),
    z_max := He.free_ok X G (c.fact 43 (f := .free "max") rfl),
    z_min := He.free_ok X G (c.fact 44 (f := .free "min") rfl),
    z_range := He.free_ok X G (c.fact 45 (f := .free "range") rfl),
    z_repr := He.free_ok X G (c.fact 46 (f := .free "repr") rfl),
    z_reversed := He.free_ok X G (c.fact 47 (f := .free "reversed") rfl),
    z_str := He.free_ok X G (c.fact 48 (f := .free "str") rfl),
    z_tuple := He.free_ok X G (c.fact 49 (f := .free "tuple") rfl),
    z_zip := He.free_ok X G (c.fact 50 (f := .free "zip") rfl),
    c_HIGH := (He.int_ok X G (c.fact 51 (f := .int "HIGH" 3) rfl)).elim fun t e => ⟨_, e, t, rfl⟩,
    c_LAND := (He.int_ok X G (c.fact 52 (f := .int "LAND" 1) rfl)).elim fun t e => ⟨_, e, t, rfl⟩,
    c_LOW := (He.int_ok X G (c.fact 53 (f := .int "LOW" 2) rfl)).elim fun t e => ⟨_, e, t, rfl⟩,
    c_MAKING := (He.int_ok X G (c.fact 54 (f := .int "MAKING" 0) rfl)).elim fun t e => ⟨_, e, t, rfl⟩,
    c_MOST_FIGURES := (He.int_ok X G (c.fact 55 (f := .int "MOST_FIGURES" 7) rfl)).elim fun t e => ⟨_, e, t, rfl⟩,
    c_MOST_FIGURES_OF_PRICES := (He.int_ok X G (c.fact 56 (f := .int "MOST_FIGURES_OF_PRICES" 30) rfl)).elim fun t e => ⟨_, e, t, rfl⟩,
    c_MOST_MOVES := (He.int_ok X G (c.fact 57 (f := .int "MOST_MOVES" 3) rfl)).elim fun t e => ⟨_, e, t, rfl⟩,
    c_MOST_PARTS := (He.int_ok X G (c.fact 58 (f := .int "MOST_PARTS" 4) rfl)).elim fun t e => ⟨_, e, t, rfl⟩,
    c_MOST_PRICE := (He.int_ok X G (c.fact 59 (f := .int "MOST_PRICE" 1000000) rfl)).elim fun t e => ⟨_, e, t, rfl⟩,
    c_MOST_SHARE := (He.int_ok X G (c.fact 60 (f := .int "MOST_SHARE" 100) rfl)).elim fun t e => ⟨_, e, t, rfl⟩,
    c_MOST_STEPS := (He.int_ok X G (c.fact 61 (f := .int "MOST_STEPS" 4) rfl)).elim fun t e => ⟨_, e, t, rfl⟩,
    c_MOST_THINGS := (He.int_ok X G (c.fact 62 (f := .int "MOST_THINGS" 10) rfl)).elim fun t e => ⟨_, e, t, rfl⟩,
    c_RULE := (He.int_ok X G (c.fact 63 (f := .int "RULE" 4) rfl)).elim fun t e => ⟨_, e, t, rfl⟩,
    g_BadGood := He.glo_ok X G (c.fact 64 (f := .glo "BadGood") rfl),
    g_BadPrices := He.glo_ok X G (c.fact 65 (f := .glo "BadPrices") rfl),
    g_BadText := He.glo_ok X G (c.fact 66 (f := .glo "BadText") rfl),
    i_BadGood := (He.meth_ok (c.fact 67 (f := .meth "BadGood" "__init__") rfl)).at_,
    t_BadGood := beq_iff_eq.mp (He.meth_ok (c.fact 67 (f := .meth "BadGood" "__init__") rfl)).fn,
    i_BadPrices := (He.meth_ok (c.fact 68 (f := .meth "BadPrices" "__init__") rfl)).at_,
    t_BadPrices := beq_iff_eq.mp (He.meth_ok (c.fact 68 (f := .meth "BadPrices" "__init__") rfl)).fn,
    i_BadText := (He.meth_ok (c.fact 69 (f := .meth "BadText" "__init__") rfl)).at_,
    t_BadText := beq_iff_eq.mp (He.meth_ok (c.fact 69 (f := .meth "BadText" "__init__") rfl)).fn,
    i_gcd := PySem.W.mg_of X G (ex_ok eI 0 rfl) }, rfl⟩
end G_madeofhere_k17_texts_back_and_forth
open PySem PySem.W PySem.Calls PyProof.Rows
theorem G_madeofhere_k17_texts_back_and_forth.from_data (hl : ∀ (K : DL.Fg) (c : Nat → PySem.Addr), G_madeofhere_k17_texts_back_and_forth.CF K c → DL.LawD 63 (G_madeofhere_k17_texts_back_and_forth.Wlaw K c)) : PySem.Challenge.rw_madeofhere_k17_texts_back_and_forth.Holds := by
  w_on; o_law
  refine HandSHeadRun.head_imp (r := G_madeofhere_k17_texts_back_and_forth.R) (q := view G_madeofhere_k17_texts_back_and_forth.R.prog [0, 58]) (H := G_madeofhere_k17_texts_back_and_forth.hk) (ob := G_madeofhere_k17_texts_back_and_forth.ob) (M := 40000) (loose := G_madeofhere_k17_texts_back_and_forth.loose) (d := HandSHeadRun.topDef G_madeofhere_k17_texts_back_and_forth.R.prog 58) (kwd := []) G_madeofhere_k17_texts_back_and_forth.ob_eq
    G_madeofhere_k17_texts_back_and_forth.run (by kernel_rfl) (by kernel_rfl) (by kernel_rfl) (by rfl) (by first | assumption | decide +kernel) (by decide +kernel) ⟨rfl, rfl, rfl, rfl, rfl, by decide +kernel⟩ ?hw ?hc
  case hw => w_witness2
  case hc =>
    refine DL.d_walk (l := PySem.Challenge.rw_madeofhere_k17_texts_back_and_forth) (n := 63) (k := 15) (x := "script") rfl (by decide) (by kernel_rfl) ⟨⟨rfl, by decide, by decide⟩, rfl⟩ ?F
    intro w mg fa h Y G hmg0
    obtain ⟨K, KX, c, e⟩ := Y
    have hmg : mg ("law" : PySem.Str) = some (.ref fa) := by
      have e : (HandSHeadRun.topDef G_madeofhere_k17_texts_back_and_forth.R.prog 58).name = ("law" : PySem.Str) := by kernel_rfl
      rw [← e]
      exact hmg0
    obtain ⟨A, T, eA⟩ := G_madeofhere_k17_texts_back_and_forth.txt KX G c e
    have ef := hmg.symm.trans T.g_law
    cases ef
    exact ⟨K, A.d_law, G_madeofhere_k17_texts_back_and_forth.Wlaw K A.cls, KX, fun s v => (by obtain ⟨_, _, _, _, _, _, _, _, _, e2, _, _⟩ := T.F_law.ex; rw [e2]; exact .of_eq rfl), hl K A.cls T.C, fun base _ _ => G_madeofhere_k17_texts_back_and_forth.ok_law T⟩
set_option maxHeartbeats 1000000
namespace MH
open PySem PySem.Spec PyProof.Rows L2 DL
end MH
set_option maxHeartbeats 1000000
namespace DL
open PySem PySem.Spec PyProof.Rows L2
/-! ### one step of a reading each: own classes, zip, sorted, stars -/
section
variable {K : Fg} {C p a : Addr} {ns fs : List Str} {ds es : List D} {M : Mem} {Q : QD} {Xd : XD} {s : SD} {te te2 to ta tb : TED} {t : TAD} {nx bk ct : SD → Mem → Prop} {rt : QD} {ex : XD} {f : Str} {d e x y : D} {R : List D → Option Addr → Mem → Prop} {i j : Int}
theorem w_at (h : te Xd s M (atK K f Q)) : dAt K f te Xd s M Q := h
theorem w_sAt (h : te ex s M fun d M1 => to ex s M1 fun o M2 => atS K f o d (fun M3 => nx s M3) M2) : sAt K f to te ⟨nx, rt, bk, ct, ex⟩ s M := h
theorem w_gAt {Kx : SD → Mem → Prop} (h : to Xd s M fun o M1 => atS K f o d (fun M2 => Kx s M2) M1) : gAt K f to d Xd s M Kx := h
theorem w_newD {sp : SpD} {dd : List D} (h : t Xd s M fun ds M1 => ∀ p, M1 p = none → sp (.ref p :: (ds ++ dd)) (M1.put p (.ins C [] [])) (fun d M2 => d = .non ∧ Q (.ref p) M2) Xd) : dNewD C sp dd t Xd s M Q := h
theorem w_iZipM (h : dCons te (dCons te2 dNil) Xd s M (zipMK R)) : iZipMD te te2 Xd s M R := h
theorem w_zmLL (h : R (zpD ds es) none M) : zipMK R [.lst ds, .lst es] M := ⟨_, _, rfl, rfl, h⟩
theorem w_zmLT (h : R (zpD ds es) none M) : zipMK R [.lst ds, .tup es] M := ⟨_, _, rfl, rfl, h⟩
theorem w_zmTL (h : R (zpD ds es) none M) : zipMK R [.tup ds, .lst es] M := ⟨_, _, rfl, rfl, h⟩
theorem w_zmTT (h : R (zpD ds es) none M) : zipMK R [.tup ds, .tup es] M := ⟨_, _, rfl, rfl, h⟩
theorem w_iZipO (h : dCons te (dCons te2 dNil) Xd s M (zipOK R)) : iZipOD te te2 Xd s M R := h
theorem w_lstZip (h : dCons te (dCons te2 dNil) Xd s M (zipMK fun l _ M1 => Q (.lst l) M1)) : dLstZip te te2 Xd s M Q := h
theorem w_iRevS (h : te Xd s M (revIK R)) : iRevSD te Xd s M R := h
theorem w_revIL (h : R ds.reverse none M) : revIK R (.lst ds) M := ⟨ds, rfl, h⟩
theorem w_iEZ (h : dCons te (dCons te2 dNil) Xd s M (zipMK fun l _ M1 => R (enmFrom 0 l) none M1)) : iEZD te te2 Xd s M R := h
theorem w_rg2 {F : Int → Int → Mem → Prop} (h : ta Xd s M fun x M1 => tb Xd s M1 (rg2K x F)) : rg2 ta tb Xd s M F := h
theorem w_rg2K {F : Int → Int → Mem → Prop} (h : F i j M) : rg2K (.int i) F (.int j) M := h
theorem w_tupS (h : t Xd s M fun ds M1 => ds.length ≤ sizeLine ∧ Q (.tup ds) M1) : dTupS t Xd s M Q := h
theorem w_star {L : List D → Mem → Prop} (h : te Xd s M (seqK fun ds M1 => t Xd s M1 fun es M2 => L (ds ++ es) M2)) : dStar te t Xd s M L := h
theorem w_seqT {L : List D → Mem → Prop} (h : L ds M) : seqK L (.tup ds) M := h
theorem w_seqL {L : List D → Mem → Prop} (h : L ds M) : seqK L (.lst ds) M := h
end
end DL
set_option maxHeartbeats 1000000
namespace MH
open PySem PySem.Spec PyProof.Rows L2 DL
/-! ### what the program keeps of a good: lists by numbers -/
def nI (k : Nat) : D := .int (k : Int)
mutual
def Th.fl : Th → List Th
  | .raw h lo hi => [.raw h lo hi]
  | .made h lo hi sh u w ps => .made h lo hi sh u w ps :: Th.fls ps
def Th.fls : List Th → List Th
  | [] => []
  | t :: ts => t.fl ++ Th.fls ts
end
mutual
def Th.whs : Th → Nat → D → List D
  | .raw _ _ _, _, p => [p]
  | .made _ _ _ _ _ _ ps, k, p => p :: Th.whss ps (k + 1) (nI k)
def Th.whss : List Th → Nat → D → List D
  | [], _, _ => []
  | t :: ts, k, p => t.whs k p ++ Th.whss ts (k + t.sz) p
end
mutual
def Th.mds : Th → Nat → List Nat
  | .raw _ _ _, _ => []
  | .made _ _ _ _ _ _ ps, k => k :: Th.mdss ps (k + 1)
def Th.mdss : List Th → Nat → List Nat
  | [], _ => []
  | t :: ts, k => t.mds k ++ Th.mdss ts (k + t.sz)
end
def mvn1 (lo hi : Int) (k : Nat) : List Nat := if lo < hi then [k] else []
mutual
def Th.mvn : Th → Nat → List Nat
  | .raw _ lo hi, k => mvn1 lo hi k
  | .made _ lo hi _ _ _ ps, k => mvn1 lo hi k ++ Th.mvns ps (k + 1)
def Th.mvns : List Th → Nat → List Nat
  | [], _ => []
  | t :: ts, k => t.mvn k ++ Th.mvns ts (k + t.sz)
end
mutual
theorem fl_len : ∀ t : Th, t.fl.length = t.sz
  | .raw _ _ _ => rfl
  | .made _ _ _ _ _ _ ps => by rw [Th.fl, List.length_cons, fls_len ps, Th.sz]; omega
theorem fls_len : ∀ ts : List Th, (Th.fls ts).length = Th.szs ts
  | [] => rfl
  | t :: ts => by rw [Th.fls, List.length_append, fl_len t, fls_len ts, Th.szs]
end
mutual
theorem mds_len : ∀ (t : Th) (k : Nat), (t.mds k).length = t.st
  | .raw _ _ _, _ => rfl
  | .made _ _ _ _ _ _ ps, k => by rw [Th.mds, List.length_cons, mdss_len ps, Th.st]; omega
theorem mdss_len : ∀ (ts : List Th) (k : Nat), (Th.mdss ts k).length = Th.sts ts
  | [], _ => rfl
  | t :: ts, k => by rw [Th.mdss, List.length_append, mds_len t, mdss_len ts, Th.sts]
end
theorem mvn1_len (lo hi : Int) (k : Nat) : (mvn1 lo hi k).length = mv1 lo hi := by unfold mvn1 mv1; split <;> rfl
mutual
theorem mvn_len : ∀ (t : Th) (k : Nat), (t.mvn k).length = t.mv
  | .raw _ _ _, _ => by rw [Th.mvn, mvn1_len, Th.mv]
  | .made _ _ _ _ _ _ ps, k => by rw [Th.mvn, List.length_append, mvn1_len, mvns_len ps, Th.mv]
theorem mvns_len : ∀ (ts : List Th) (k : Nat), (Th.mvns ts k).length = Th.mvs ts
  | [], _ => rfl
  | t :: ts, k => by rw [Th.mvns, List.length_append, mvn_len t, mvns_len ts, Th.mvs]
end
mutual
theorem whs_len : ∀ (t : Th) (k : Nat) (p : D), (t.whs k p).length = t.sz
  | .raw _ _ _, _, _ => rfl
  | .made _ _ _ _ _ _ ps, k, p => by rw [Th.whs, List.length_cons, whss_len ps, Th.sz]; omega
theorem whss_len : ∀ (ts : List Th) (k : Nat) (p : D), (Th.whss ts k p).length = Th.szs ts
  | [], _, _ => rfl
  | t :: ts, k, p => by rw [Th.whss, List.length_append, whs_len t, whss_len ts, Th.szs]
end
theorem mv1_le (lo hi : Int) : mv1 lo hi ≤ 1 := by unfold mv1; split <;> omega
mutual
theorem mv_le_sz : ∀ t : Th, t.mv ≤ t.sz
  | .raw _ lo hi => by simp only [Th.mv, Th.sz]; exact mv1_le lo hi
  | .made _ lo hi _ _ _ ps => by
    have := mv1_le lo hi
    have := mvs_le_szs ps
    simp only [Th.mv, Th.sz]; omega
theorem mvs_le_szs : ∀ ts : List Th, Th.mvs ts ≤ Th.szs ts
  | [] => Nat.le_refl 0
  | t :: ts => by
    have := mv_le_sz t
    have := mvs_le_szs ts
    simp only [Th.mvs, Th.szs]; omega
end
/-- four lists that are owned -/
structure S4 (M0 : Mem) (f w m v : Addr) (F W : List D) (Dd V : List D) (M : Mem) : Prop where
  hf : M f = some (.lst F)
  hw : M w = some (.lst W)
  hm : M m = some (.lst Dd)
  hv : M v = some (.lst V)
  o : ∀ x, x ≠ f → x ≠ w → x ≠ m → x ≠ v → M x = M0 x
structure Ne4 (f w m v : Addr) : Prop where
  fw : f ≠ w
  fm : f ≠ m
  fv : f ≠ v
  wm : w ≠ m
  wv : w ≠ v
  mv : m ≠ v
section
variable {M0 M : Mem} {f w m v : Addr} {F W Dd V X : List D}
theorem S4.putF (h : S4 M0 f w m v F W Dd V M) (n : Ne4 f w m v) : S4 M0 f w m v X W Dd V (M.put f (.lst X)) :=
  ⟨Mem.put_same, (Mem.put_ne (Ne.symm n.fw)).trans h.hw, (Mem.put_ne (Ne.symm n.fm)).trans h.hm, (Mem.put_ne (Ne.symm n.fv)).trans h.hv, fun x a b c d => (Mem.put_ne a).trans (h.o x a b c d)⟩
theorem S4.putW (h : S4 M0 f w m v F W Dd V M) (n : Ne4 f w m v) : S4 M0 f w m v F X Dd V (M.put w (.lst X)) :=
  ⟨(Mem.put_ne n.fw).trans h.hf, Mem.put_same, (Mem.put_ne (Ne.symm n.wm)).trans h.hm, (Mem.put_ne (Ne.symm n.wv)).trans h.hv, fun x a b c d => (Mem.put_ne b).trans (h.o x a b c d)⟩
theorem S4.putM (h : S4 M0 f w m v F W Dd V M) (n : Ne4 f w m v) : S4 M0 f w m v F W X V (M.put m (.lst X)) :=
  ⟨(Mem.put_ne n.fm).trans h.hf, (Mem.put_ne n.wm).trans h.hw, Mem.put_same, (Mem.put_ne (Ne.symm n.mv)).trans h.hv, fun x a b c d => (Mem.put_ne c).trans (h.o x a b c d)⟩
theorem S4.putV (h : S4 M0 f w m v F W Dd V M) (n : Ne4 f w m v) : S4 M0 f w m v F W Dd X (M.put v (.lst X)) :=
  ⟨(Mem.put_ne n.fv).trans h.hf, (Mem.put_ne n.wv).trans h.hw, (Mem.put_ne n.mv).trans h.hm, Mem.put_same, fun x a b c d => (Mem.put_ne d).trans (h.o x a b c d)⟩
end
end MH
set_option maxHeartbeats 1000000
namespace MH
open PySem PySem.Spec PyProof.Rows L2 DL TL
/-! ### texts joined and cut -/
theorem tl_inj {x y : Str} (h : tl x = tl y) : x = y := by rw [← mk_tl x, ← mk_tl y, h]
theorem join_cons2 (y x z : Str) (r : List Str) : Str.join y (x :: z :: r) = x ++ y ++ Str.join y (z :: r) := by
  apply tl_inj
  rw [tl_join, tl_append, tl_append, tl_join]
  show joinL (tl y) (tl x :: tl z :: r.map tl) = _
  rw [List.append_assoc]; rfl
theorem join_one (y x : Str) : Str.join y [x] = x := by apply tl_inj; rw [tl_join]; rfl
theorem join_consN (y x : Str) {r : List Str} (h : r ≠ []) : Str.join y (x :: r) = x ++ y ++ Str.join y r := by
  cases r with
  | nil => exact absurd rfl h
  | cons z r => exact join_cons2 y x z r
theorem str_assoc (x y z : Str) : x ++ y ++ z = x ++ (y ++ z) := by apply tl_inj; simp only [tl_append, List.append_assoc]
theorem join_app (y : Str) : ∀ (xs ys : List Str), xs ≠ [] → ys ≠ [] → Str.join y (xs ++ ys) = Str.join y xs ++ y ++ Str.join y ys
  | [], _, h, _ => absurd rfl h
  | [x], ys, _, hy => by rw [List.singleton_append, join_consN y x hy, join_one]
  | x :: z :: r, ys, _, hy => by
    rw [List.cons_append, List.cons_append, join_cons2, ← List.cons_append, join_app y (z :: r) ys (by simp) hy, join_cons2]
    simp only [str_assoc]
def sp : Str := " "
def nl : Str := "\n"
def sl : Str := "/"
theorem tl_sp : tl sp = 32 :: [] := by decide +kernel
theorem tl_nl : tl nl = 10 :: [] := by decide +kernel
theorem tl_sl : tl sl = 47 :: [] := by decide +kernel
theorem split_sp {ws : List Str} (hne : ws ≠ []) (h : ∀ w ∈ ws, 32 ∉ tl w) : Txt.split (Txt.join sp ws) sp = ws := split_join tl_sp (by decide +kernel) hne h
theorem split_nl {ws : List Str} (hne : ws ≠ []) (h : ∀ w ∈ ws, 10 ∉ tl w) : Txt.split (Txt.join nl ws) nl = ws := split_join tl_nl (by decide +kernel) hne h
theorem split_sl {ws : List Str} (hne : ws ≠ []) (h : ∀ w ∈ ws, 47 ∉ tl w) : Txt.split (Txt.join sl ws) sl = ws := split_join tl_sl (by decide +kernel) hne h
theorem joinL_mem {y : List Nat} {s : Nat} : ∀ {parts : List (List Nat)}, s ∈ joinL y parts → s ∈ y ∨ ∃ p ∈ parts, s ∈ p
  | [], h => by cases h
  | [p], h => .inr ⟨p, List.mem_singleton.mpr rfl, h⟩
  | p :: q :: r, h => by
    have h' : s ∈ p ++ (y ++ joinL y (q :: r)) := h
    rcases List.mem_append.mp h' with h' | h'
    · exact .inr ⟨p, List.mem_cons_self, h'⟩
    · rcases List.mem_append.mp h' with h' | h'
      · exact .inl h'
      · rcases joinL_mem h' with z | ⟨w, h1, h2⟩
        · exact .inl z
        · exact .inr ⟨w, List.mem_cons_of_mem _ h1, h2⟩
theorem join_free {y : Str} {s : Nat} {ws : List Str} (hy : s ∉ tl y) (h : ∀ w ∈ ws, s ∉ tl w) : s ∉ tl (Str.join y ws) := fun z => by
  rw [tl_join] at z
  rcases joinL_mem z with z | ⟨p, hp, z⟩
  · exact hy z
  · obtain ⟨w, hw, rfl⟩ := List.mem_map.mp hp
    exact h w hw z
/-! ### numbers -/
def iS (i : Int) : Str := toString i
theorem iS_tl {i : Int} (h : 0 ≤ i) : tl (iS i) = numL i.toNat := by
  have e : i = ((i.toNat : Nat) : Int) := by omega
  unfold iS
  rw [e]; exact tl_num _
theorem iS_free {i : Int} {s : Nat} (h : 0 ≤ i) (hs : s < 48 ∨ 57 < s) : s ∉ tl (iS i) := by rw [iS_tl h]; exact numL_free hs
theorem iS_len {i : Int} {k : Nat} (h : 0 ≤ i) (hk : 0 < k) (h2 : i < 10 ^ k) : 1 ≤ (iS i).length ∧ (iS i).length ≤ k := by
  rw [len_tl, iS_tl h]
  refine ⟨?_, numL_len hk ?_⟩
  · have := numL_ne i.toNat
    cases e : numL i.toNat with
    | nil => exact absurd e this
    | cons _ _ => simp
  · have e : ((10 : Int) ^ k) = ((10 ^ k : Nat) : Int) := by simp
    rw [e] at h2
    omega
theorem all_tl (x : Str) (p : Nat → Bool) : x.cps.all p = (tl x).all p := by rw [← Array.all_toList]
theorem iS_ascii {i : Int} (h : 0 ≤ i) : Txt.isascii (iS i) = true := by
  unfold Txt.isascii
  rw [all_tl, iS_tl h, List.all_eq_true]
  intro c hc
  have := numL_digits i.toNat c hc
  exact decide_eq_true (by omega)
theorem iS_digit {i : Int} (h : 0 ≤ i) : Txt.isdigit (iS i) = true := by
  unfold Txt.isdigit
  rw [all_tl, Bool.and_eq_true]
  refine ⟨?_, ?_⟩
  · have := numL_ne i.toNat
    rw [len_tl, iS_tl h]
    cases e : numL i.toNat with
    | nil => exact absurd e this
    | cons _ _ => simp
  · rw [iS_tl h, List.all_eq_true]
    intro c hc
    have hd := numL_digits i.toNat c hc
    have key : ∀ c, 48 ≤ c → c ≤ 57 → Unicode.isDigit c = true := by
      intro c h1 h2
      have : ∀ k : Fin 10, Unicode.isDigit (48 + k.val) = true := by decide +kernel
      have e := this ⟨c - 48, by omega⟩
      rw [show 48 + (c - 48) = c from by omega] at e
      exact e
    exact key c hd.1 hd.2
theorem numL_head (n : Nat) : 0 < n → ∃ c r, numL n = c :: r ∧ c ≠ 48 := by
  induction n using Nat.strongRecOn with
  | _ n ih =>
    intro hn
    by_cases h : n < 10
    · exact ⟨48 + n, [], numL_lt h, by omega⟩
    · obtain ⟨c, r, e, hc⟩ := ih (n / 10) (by omega) (by omega)
      exact ⟨c, r ++ [48 + n % 10], by rw [numL_step (by omega), e]; rfl, hc⟩
theorem iS_zero : iS 0 = ("0" : Str) := by decide +kernel
theorem iS_head {i : Int} (h : 0 < i) : ∃ c r, tl (iS i) = c :: r ∧ c ≠ 48 := by
  rw [iS_tl (by omega)]; exact numL_head _ (by omega)
theorem iS_int {i : Int} (h : 0 ≤ i) (h2 : i < 10 ^ 30) : PySem.intText? (iS i) = some i := by
  have e : i = ((i.toNat : Nat) : Int) := by omega
  have hl : (numL i.toNat).length ≤ 30 := numL_len (by decide) (by
    have e2 : ((10 : Int) ^ 30) = ((10 ^ 30 : Nat) : Int) := by simp
    rw [e2] at h2; omega)
  have := int_num (n := i.toNat) (by omega)
  rw [← e] at this
  exact this
/-! ### the rows of a thing's text -/
def dotS (d : Nat) : Str := Txt.mul "." (d : Int)
def wordsW : Th → List Str
  | .raw h lo hi => ["raw", landS h, iS lo, iS hi]
  | .made h lo hi sh u w _ => ["made", landS h, iS lo, iS hi, iS sh, upS u, dnS w]
def rowW (t : Th) (d : Nat) : List Str := if d = 0 then wordsW t else dotS d :: wordsW t
def lineW (t : Th) (d : Nat) : Str := Str.join sp (rowW t d)
mutual
def linesW : Th → Nat → List Str
  | .raw h lo hi, d => [lineW (.raw h lo hi) d]
  | .made h lo hi sh u w ps, d => lineW (.made h lo hi sh u w ps) d :: linessW ps (d + 1)
def linessW : List Th → Nat → List Str
  | [], _ => []
  | t :: ts, d => linesW t d ++ linessW ts d
end
mutual
/-- the depth of each -/
def deps : Th → Nat → List Nat
  | .raw _ _ _, d => [d]
  | .made _ _ _ _ _ _ ps, d => d :: depss ps (d + 1)
def depss : List Th → Nat → List Nat
  | [], _ => []
  | t :: ts, d => deps t d ++ depss ts d
end
mutual
theorem lines_fl : ∀ (t : Th) (d : Nat), linesW t d = (t.fl.zip (deps t d)).map fun p => lineW p.1 p.2
  | .raw _ _ _, _ => rfl
  | .made _ _ _ _ _ _ ps, d => by rw [linesW, Th.fl, deps, List.zip_cons_cons, List.map_cons, liness_fl ps (d + 1)]
theorem liness_fl : ∀ (ts : List Th) (d : Nat), linessW ts d = ((Th.fls ts).zip (depss ts d)).map fun p => lineW p.1 p.2
  | [], _ => rfl
  | t :: ts, d => by
    rw [linessW, Th.fls, depss, List.zip_append (by rw [fl_len, deps_len t d]), List.map_append, lines_fl t d, liness_fl ts d]
theorem deps_len : ∀ (t : Th) (d : Nat), (deps t d).length = t.sz
  | .raw _ _ _, _ => rfl
  | .made _ _ _ _ _ _ ps, d => by rw [deps, List.length_cons, depss_len ps, Th.sz]; omega
theorem depss_len : ∀ (ts : List Th) (d : Nat), (depss ts d).length = Th.szs ts
  | [], _ => rfl
  | t :: ts, d => by rw [depss, List.length_append, deps_len t, depss_len ts, Th.szs]
end
end MH
namespace MH
open PySem PySem.Spec PyProof.Rows L2 DL TL
/-! ### plain texts -/
def Asc (x : Str) : Prop := ∀ c ∈ tl x, c < 128
theorem Asc.ok {x : Str} (h : Asc x) : PyData.strOk x = true := by
  unfold PyData.strOk
  rw [all_tl, List.all_eq_true]
  intro c hc
  have := h c hc
  exact decide_eq_true (by omega)
theorem asc_join {y : Str} {ws : List Str} (hy : Asc y) (h : ∀ w ∈ ws, Asc w) : Asc (Str.join y ws) := fun c hc => by
  rw [tl_join] at hc
  rcases joinL_mem hc with z | ⟨p, hp, z⟩
  · exact hy c z
  · obtain ⟨w, hw, rfl⟩ := List.mem_map.mp hp
    exact h w hw c z
theorem asc_by {x : Str} (h : ((tl x).all fun c => decide (c < 128)) = true) : Asc x := fun c hc => of_decide_eq_true (List.all_eq_true.mp h c hc)
theorem iS_asc {i : Int} (h : 0 ≤ i) : Asc (iS i) := fun c hc => by
  rw [iS_tl h] at hc
  have := numL_digits i.toNat c hc
  omega
/-- a word: no blank, no line's end, short -/
structure Wd (x : Str) : Prop where
  asc : Asc x
  sp : 32 ∉ tl x
  nl : 10 ∉ tl x
  len : x.length ≤ 40
theorem wd_by {x : Str} (h : ((tl x).all fun c => decide (c < 128)) = true ∧ 32 ∉ tl x ∧ 10 ∉ tl x ∧ x.length ≤ 40) : Wd x := ⟨asc_by h.1, h.2.1, h.2.2.1, h.2.2.2⟩
theorem wd_int {i : Int} (h : 0 ≤ i) (h2 : i < 10 ^ 30) : Wd (iS i) := ⟨iS_asc h, iS_free h (by omega), iS_free h (by omega), by have := (iS_len (k := 30) h (by decide) h2).2; omega⟩
theorem wd_land (b : Bool) : Wd (landS b) := by cases b <;> exact wd_by (by decide +kernel)
theorem wd_up (b : Bool) : Wd (upS b) := by cases b <;> exact wd_by (by decide +kernel)
theorem wd_dn (b : Bool) : Wd (dnS b) := by cases b <;> exact wd_by (by decide +kernel)
theorem wd_raw : Wd "raw" := wd_by (by decide +kernel)
theorem wd_made : Wd "made" := wd_by (by decide +kernel)
theorem dot_ok {d : Nat} (h : d ≤ 5) : Wd (dotS d) ∧ (dotS d).length = d ∧ (0 < d → dotS d ≠ Str.empty) := by
  have : ∀ k : Fin 6, (((tl (dotS k.val)).all fun c => decide (c < 128)) = true ∧ 32 ∉ tl (dotS k.val) ∧ 10 ∉ tl (dotS k.val) ∧ (dotS k.val).length ≤ 40) ∧ (dotS k.val).length = k.val := by decide +kernel
  obtain ⟨h1, h2⟩ := this ⟨d, by omega⟩
  refine ⟨wd_by h1, h2, fun hd e => ?_⟩
  have e0 : (dotS d).length = 0 := by rw [e]; rfl
  simp only at h2
  omega
theorem words_wd {t : Th} (h : t.ok) : ∀ w ∈ wordsW t, Wd w := by
  cases t with
  | raw b lo hi =>
    obtain ⟨h1, h2, h3⟩ := h
    intro w hw
    simp only [wordsW, List.mem_cons, List.not_mem_nil, or_false] at hw
    rcases hw with rfl | rfl | rfl | rfl
    · exact wd_raw
    · exact wd_land _
    · exact wd_int (by omega) (by omega)
    · exact wd_int (by omega) (by omega)
  | made b lo hi sh u dn ps =>
    obtain ⟨⟨h1, h2, h3⟩, hs, _⟩ := h
    intro w hw
    simp only [wordsW, List.mem_cons, List.not_mem_nil, or_false] at hw
    rcases hw with rfl | rfl | rfl | rfl | rfl | rfl | rfl
    · exact wd_made
    · exact wd_land _
    · exact wd_int (by omega) (by omega)
    · exact wd_int (by omega) (by omega)
    · exact wd_int (by omega) (by omega)
    · exact wd_up _
    · exact wd_dn _
theorem row_wd {t : Th} {d : Nat} (h : t.ok) (hd : d ≤ 5) : ∀ w ∈ rowW t d, Wd w := fun w hw => by
  unfold rowW at hw
  by_cases z : d = 0
  · rw [if_pos z] at hw; exact words_wd h w hw
  · rw [if_neg z] at hw
    rcases List.mem_cons.mp hw with rfl | hw
    · exact (dot_ok hd).1
    · exact words_wd h w hw
theorem words_ne (t : Th) : wordsW t ≠ [] := by cases t <;> simp [wordsW]
theorem words_len (t : Th) : (wordsW t).length ≤ 7 := by cases t <;> simp [wordsW]
theorem row_ne (t : Th) (d : Nat) : rowW t d ≠ [] := by
  unfold rowW
  by_cases z : d = 0
  · rw [if_pos z]; exact words_ne t
  · rw [if_neg z]; simp
theorem row_len (t : Th) (d : Nat) : (rowW t d).length ≤ 8 := by
  unfold rowW
  have := words_len t
  by_cases z : d = 0
  · rw [if_pos z]; omega
  · rw [if_neg z, List.length_cons]; omega
theorem asc_sp : Asc sp := asc_by (by decide +kernel)
theorem asc_nl : Asc nl := asc_by (by decide +kernel)
theorem line_asc {t : Th} {d : Nat} (h : t.ok) (hd : d ≤ 5) : Asc (lineW t d) ∧ 10 ∉ tl (lineW t d) :=
  ⟨asc_join asc_sp fun w hw => (row_wd h hd w hw).asc, join_free (by decide +kernel) fun w hw => (row_wd h hd w hw).nl⟩
theorem line_split {t : Th} {d : Nat} (h : t.ok) (hd : d ≤ 5) : Txt.split (lineW t d) sp = rowW t d := by
  have := split_sp (row_ne t d) fun w hw => (row_wd h hd w hw).sp
  rw [join_eq] at this
  exact this
theorem len_join (y : Str) : ∀ ws : List Str, (Str.join y ws).length ≤ (ws.map (·.length)).sum + ws.length * y.length
  | [] => by simp [len_tl, tl_join, joinL]
  | [x] => by rw [join_one]; simp
  | x :: z :: r => by
    have ih := len_join y (z :: r)
    rw [join_cons2, len_tl, tl_append, tl_append, List.length_append, List.length_append, ← len_tl, ← len_tl, ← len_tl]
    simp only [List.map_cons, List.sum_cons, List.length_cons, Nat.succ_mul] at ih ⊢
    omega
theorem sum_le {ws : List Str} {k : Nat} (h : ∀ w ∈ ws, w.length ≤ k) : (ws.map (·.length)).sum ≤ ws.length * k := by
  induction ws with
  | nil => simp
  | cons w ws ih =>
    have h1 := h w List.mem_cons_self
    have h2 := ih fun x hx => h x (List.mem_cons_of_mem _ hx)
    simp only [List.map_cons, List.sum_cons, List.length_cons, Nat.succ_mul]
    omega
theorem line_len {t : Th} {d : Nat} (h : t.ok) (hd : d ≤ 5) : (lineW t d).length ≤ 400 := by
  have h1 := len_join sp (rowW t d)
  have h2 := sum_le (ws := rowW t d) (k := 40) fun w hw => (row_wd h hd w hw).len
  have h3 := row_len t d
  have h4 : sp.length = 1 := by decide +kernel
  rw [h4] at h1
  unfold lineW
  omega
end MH
set_option maxHeartbeats 1000000
namespace DL
open PySem PySem.Spec PyProof.Rows L2
/-! ### a comprehension over what is told by a function -/
section
variable {g : TGD} {tt : TTD} {te : TED} {s0 : SD} {W : Mem → Prop} {p : Addr} {Q : QD} {M0 M : Mem} {acc : List D}
theorem w_lcNil (hW : W M) (hM : M p = some (.lst acc)) (h : Q (.lst acc) (M.del p)) : dLcL g tt te s0 W p Q [] M := ⟨hW, by unfold endK; rw [hM]; exact h⟩
theorem w_accK {r : D} {k : Mem → Prop} (hM : M p = some (.lst acc)) (hl : acc.length < sizeLine) (h : k (M.put p (.lst (acc ++ [r])))) : accK p r k M := by
  unfold accK; rw [hM]; exact ⟨hl, h⟩
theorem lc_genF {α : Type} {F h : α → D} {P : α → Bool} (hp : M0 p = none) (hW : ∀ acc, W (M0.put p (.lst acc))) : ∀ (xs : List α) (acc : List D), acc.length + xs.length ≤ sizeLine →
    (∀ x ∈ xs, ∀ (acc : List D) (K1 : QD) (K0 : Mem → Prop), (P x = true → K1 (h x) (M0.put p (.lst acc))) → (P x = false → K0 (M0.put p (.lst acc))) → g (F x) X0 s0 (M0.put p (.lst acc)) fun s' M' => tt X0 s' M' fun b M2 => if b = true then te X0 s' M2 K1 else K0 M2) →
    Q (.lst (acc ++ (xs.filter P).map h)) M0 → dLcL g tt te s0 W p Q (xs.map F) (M0.put p (.lst acc))
  | [], acc, _, _, q => w_lcNil (hW acc) Mem.put_same (by rw [put_del hp]; simpa using q)
  | x :: xs, acc, hl, st, q => by
    rw [List.length_cons] at hl
    refine ⟨hW acc, st x List.mem_cons_self acc _ _ (fun hx => ?_) (fun hx => ?_)⟩
    · refine w_accK Mem.put_same (by omega) ?_
      rw [Mem.put_put]
      refine lc_genF hp hW xs _ (by rw [List.length_append, List.length_singleton]; omega) (fun y hy => st y (List.mem_cons_of_mem _ hy)) ?_
      rw [List.filter_cons_of_pos hx, List.map_cons] at q
      rw [List.append_assoc]; exact q
    · refine lc_genF hp hW xs _ (by omega) (fun y hy => st y (List.mem_cons_of_mem _ hy)) ?_
      rw [List.filter_cons_of_neg (by rw [hx]; exact Bool.false_ne_true)] at q
      exact q
theorem lc_gen {α : Type} {F h : α → D} (hp : M0 p = none) (hW : ∀ acc, W (M0.put p (.lst acc))) (xs : List α) (hl : xs.length ≤ sizeLine)
    (st : ∀ x ∈ xs, ∀ (acc : List D) (K1 : QD), K1 (h x) (M0.put p (.lst acc)) → g (F x) X0 s0 (M0.put p (.lst acc)) fun s' M' => te X0 s' M' K1)
    (q : Q (.lst (xs.map h)) M0) : dLcL g tYesD te s0 W p Q (xs.map F) (M0.put p (.lst [])) := by
  refine lc_genF (P := fun _ => true) (h := h) hp hW xs [] (by simpa using hl) (fun x hx acc K1 K0 h1 _ => ?_) ?_
  · refine (?_ : g (F x) X0 s0 (M0.put p (.lst acc)) fun s' M' => if true = true then te X0 s' M' K1 else K0 M')
    simp only [if_true]
    exact st x hx acc K1 (h1 rfl)
  · rw [List.nil_append, List.filter_eq_self.mpr fun _ _ => rfl]; exact q
end
end DL
set_option maxHeartbeats 1000000
namespace MH
open PySem PySem.Spec PyProof.Rows L2 DL TL
mutual
theorem deps_le : ∀ (t : Th) (d : Nat), ∀ x ∈ deps t d, x ≤ d + t.st
  | .raw _ _ _, d, x, h => by rw [deps, List.mem_singleton] at h; omega
  | .made _ _ _ _ _ _ ps, d, x, h => by
    rw [deps] at h
    rw [Th.st]
    rcases List.mem_cons.mp h with rfl | h
    · omega
    · have := depss_le ps (d + 1) x h; omega
theorem depss_le : ∀ (ts : List Th) (d : Nat), ∀ x ∈ depss ts d, x ≤ d + Th.sts ts
  | [], d, x, h => by cases h
  | t :: ts, d, x, h => by
    rw [depss] at h
    rw [Th.sts]
    rcases List.mem_append.mp h with h | h
    · have := deps_le t d x h; omega
    · have := depss_le ts d x h; omega
end
mutual
theorem fl_ok : ∀ (t : Th), t.ok → ∀ x ∈ t.fl, x.ok
  | .raw _ _ _, h, x, hx => by rw [Th.fl, List.mem_singleton] at hx; rw [hx]; exact h
  | .made _ _ _ _ _ _ ps, h, x, hx => by
    rw [Th.fl] at hx
    rcases List.mem_cons.mp hx with rfl | hx
    · exact h
    · exact fls_ok ps h.2.2.2 x hx
theorem fls_ok : ∀ (ts : List Th), Th.oks ts → ∀ x ∈ Th.fls ts, x.ok
  | [], _, x, hx => by cases hx
  | t :: ts, h, x, hx => by
    rw [Th.fls] at hx
    rcases List.mem_append.mp hx with hx | hx
    · exact fl_ok t h.1 x hx
    · exact fls_ok ts h.2 x hx
end
def textW (t : Th) : Str := Str.join nl (linesW t 0)
theorem lines_ne : ∀ (t : Th) (d : Nat), linesW t d ≠ []
  | .raw _ _ _, _ => by simp [linesW]
  | .made _ _ _ _ _ _ _, _ => by simp [linesW]
theorem lines_len (t : Th) (d : Nat) : (linesW t d).length = t.sz := by
  rw [lines_fl, List.length_map, List.length_zip, deps_len, fl_len, Nat.min_self]
theorem lines_all {t : Th} (h : t.ok) (hst : t.st ≤ 5) : ∀ x ∈ linesW t 0, ∃ u d, u.ok ∧ d ≤ 5 ∧ x = lineW u d := fun x hx => by
  rw [lines_fl] at hx
  obtain ⟨p, hp, rfl⟩ := List.mem_map.mp hx
  have := List.of_mem_zip hp
  exact ⟨p.1, p.2, fl_ok t h _ this.1, by have := deps_le t 0 _ this.2; omega, rfl⟩
theorem zip_d : ∀ (ts : List Th) (ds : List Nat), zpD (Th.ds ts) (ds.map nI) = (ts.zip ds).map fun p => D.tup [p.1.d, nI p.2]
  | [], _ => by cases ‹List Nat› <;> rfl
  | t :: ts, [] => rfl
  | t :: ts, d :: ds => by
    show _ :: zpD (Th.ds ts) (ds.map nI) = _
    rw [zip_d ts ds]; rfl
theorem cut_f1 {α : Type} {x : α} {xs : List α} : DL.cutD (x :: xs) (some 1) none = xs := by
  unfold DL.cutD
  rw [show (1 : Int) = ((1 : Nat) : Int) from rfl, HT.sIx_nat, Nat.min_eq_left (by simp)]
  show ((x :: xs).drop 1).take (xs.length + 1 - 1) = _
  rw [List.take_of_length_le (by simp)]
  rfl
end MH
namespace MH
open PySem PySem.Spec PyProof.Rows L2 DL TL
theorem lines_le {t : Th} (h : t.ok) {d : Nat} (hst : d + t.st ≤ 5) : ∀ x ∈ linesW t d, x.length ≤ 400 := fun x hx => by
  rw [lines_fl] at hx
  obtain ⟨p, hp, rfl⟩ := List.mem_map.mp hx
  have := List.of_mem_zip hp
  exact line_len (fl_ok t h _ this.1) (by have := deps_le t d _ this.2; omega)
theorem join_len {A : List Str} (h : ∀ x ∈ A, x.length ≤ 400) (hl : A.length ≤ 10) : (Str.join nl A).length ≤ 4010 := by
  have h1 := len_join nl A
  have h2 := sum_le (ws := A) (k := 400) h
  have h4 : nl.length = 1 := by decide +kernel
  rw [h4] at h1
  omega
theorem pre_row {t : Th} {d : Nat} : lineW t d = (if 0 < d then dotS d ++ sp else Str.ofString "") ++ Str.join sp (wordsW t) := by
  unfold lineW rowW
  by_cases z : d = 0
  · rw [if_pos z, if_neg (by omega)]
    apply tl_inj
    rw [tl_append]; rfl
  · rw [if_neg z, if_pos (by omega), join_consN _ _ (words_ne t)]
theorem made_row {a b c d e f g : Str} (pre : Str) : Str.join sp [pre ++ Str.join sp [a, b, c, d], e, f, g] = pre ++ Str.join sp [a, b, c, d, e, f, g] := by
  rw [join_consN sp _ (by simp), show [a, b, c, d, e, f, g] = [a, b, c, d] ++ [e, f, g] from rfl, join_app sp _ _ (by simp) (by simp)]
  simp only [str_assoc]
end MH
namespace MH
theorem cut_24 {α : Type} {a b c d : α} {r : List α} : DL.cutD (a :: b :: c :: d :: r) (some 2) (some 4) = [c, d] := by
  unfold DL.cutD
  rw [show (2 : Int) = ((2 : Nat) : Int) from rfl, show (4 : Int) = ((4 : Nat) : Int) from rfl, HT.sIx_nat, HT.sIx_nat, Nat.min_eq_left (by simp), Nat.min_eq_left (by simp)]
  rfl
end MH
set_option maxHeartbeats 1000000
namespace MH
open PySem PySem.Spec PyProof.Rows L2 DL TL
/-! ### which row may follow which -/
def okNext : Option (Th × Nat) → Nat → Prop
  | none, d => d = 0
  | some p, d => 1 ≤ d ∧ d ≤ (if p.1.isMade = true then p.2 + 1 else p.2)
def Chain : Option (Th × Nat) → List (Th × Nat) → Prop
  | _, [] => True
  | q, p :: r => okNext q p.2 ∧ Chain (some p) r
def pz (t : Th) (d : Nat) : List (Th × Nat) := t.fl.zip (deps t d)
def pzs (ts : List Th) (d : Nat) : List (Th × Nat) := (Th.fls ts).zip (depss ts d)
theorem pz_made {b lo hi sh u w ps d} : pz (.made b lo hi sh u w ps) d = (.made b lo hi sh u w ps, d) :: pzs ps (d + 1) := by unfold pz; rw [Th.fl, deps]; rfl
theorem pzs_cons {t : Th} {ts : List Th} {d : Nat} : pzs (t :: ts) d = pz t d ++ pzs ts d := by
  unfold pzs pz
  rw [Th.fls, depss, List.zip_append (by rw [fl_len, deps_len])]
theorem pz_lines (t : Th) (d : Nat) : linesW t d = (pz t d).map fun p => lineW p.1 p.2 := lines_fl t d
theorem ok_down {q : Option (Th × Nat)} {d : Nat} (hd : 1 ≤ d) (h : okNext q (d + 1)) : okNext q d := by
  cases q with
  | none => exact absurd h (Nat.succ_ne_zero d)
  | some p => exact ⟨hd, Nat.le_trans (Nat.le_succ d) h.2⟩
mutual
theorem chain_t : ∀ (t : Th) (d : Nat) (q : Option (Th × Nat)) (r : List (Th × Nat)), 1 ≤ d → okNext q d → (∀ q, okNext q d → Chain q r) → Chain q (pz t d ++ r)
  | .raw b lo hi, d, q, r, hd, h, hr => ⟨h, hr _ ⟨hd, Nat.le_refl d⟩⟩
  | .made b lo hi sh u w ps, d, q, r, hd, h, hr => by
    rw [pz_made]
    exact ⟨h, chain_ts ps (d + 1) _ r (by omega) ⟨by omega, Nat.le_refl (d + 1)⟩ fun q hq => hr q (ok_down hd hq)⟩
theorem chain_ts : ∀ (ts : List Th) (d : Nat) (q : Option (Th × Nat)) (r : List (Th × Nat)), 1 ≤ d → okNext q d → (∀ q, okNext q d → Chain q r) → Chain q (pzs ts d ++ r)
  | [], d, q, r, hd, h, hr => hr q h
  | t :: ts, d, q, r, hd, h, hr => by
    rw [pzs_cons, List.append_assoc]
    exact chain_t t d q _ hd h fun q hq => chain_ts ts d q r hd hq hr
end
theorem chain_root {b lo hi sh u w ps} : Chain none (pz (.made b lo hi sh u w ps) 0) := by
  rw [pz_made, ← List.append_nil (pzs ps (0 + 1))]
  exact ⟨rfl, chain_ts ps (0 + 1) _ [] (by omega) ⟨by omega, Nat.le_refl _⟩ fun _ _ => trivial⟩
end MH
set_option maxHeartbeats 1000000
namespace MH
open PySem PySem.Spec PyProof.Rows L2 DL TL
/-! ### a dict of lists that wait -/
def upN (F : Nat → List D) (k : Nat) (X : List D) : Nat → List D := fun j => if j = k then X else F j
def upA (A : Nat → Addr) (k : Nat) (p : Addr) : Nat → Addr := fun j => if j = k then p else A j
theorem upN_same {F : Nat → List D} {k : Nat} {X : List D} : upN F k X k = X := if_pos rfl
theorem upN_ne {F : Nat → List D} {k j : Nat} {X : List D} (h : j ≠ k) : upN F k X j = F j := if_neg h
theorem upA_same {A : Nat → Addr} {k : Nat} {p : Addr} : upA A k p k = p := if_pos rfl
theorem upA_ne {A : Nat → Addr} {k j : Nat} {p : Addr} (h : j ≠ k) : upA A k p j = A j := if_neg h
structure BI (w : Addr) (M0 : Mem) (n : Nat) (F : Nat → List D) (M : Mem) : Prop where
  ext : Ext M0 M
  w0 : M0 w = none
  ex : ∃ (L : List Nat) (A : Nat → Addr), M w = some (.dct (L.map kI) (L.map fun k => D.ref (A k))) ∧ L.Nodup ∧ L.length ≤ n ∧ (∀ k ∈ L, A k ≠ w ∧ M0 (A k) = none ∧ M (A k) = some (.lst (F k))) ∧ (∀ j ∈ L, ∀ k ∈ L, A j = A k → j = k) ∧ (∀ k, k ∉ L → F k = [])
  fl : ∀ k, (F k).length ≤ n
theorem val_none (V : Nat → D) : ∀ (L : List Nat) (j : Nat), j ∉ L → valD (L.map kI) (L.map V) (kI j) = none
  | [], j, h => rfl
  | i :: L, j, h => by
    unfold valD
    rw [List.map_cons, List.map_cons, List.zip_cons_cons, List.find?_cons]
    have ne : ¬ (kI i = kI j) := fun z => h (by
      have := Sum.inl.inj z
      have e : j = i := by omega
      rw [e]; exact List.mem_cons_self)
    have hd : decide (kI i = kI j) = false := decide_eq_false ne
    simp only [hd]
    exact val_none V L j fun z => h (List.mem_cons_of_mem _ z)
theorem drop_nat (V : Nat → D) (k : Nat) : ∀ L : List Nat, dropD (L.map kI) (L.map V) (kI k) = ((L.filter (· ≠ k)).map kI, (L.filter (· ≠ k)).map V)
  | [] => rfl
  | i :: L => by
    have ih := drop_nat V k L
    rw [List.map_cons, List.map_cons]
    unfold dropD
    by_cases e : i = k
    · subst e
      rw [if_pos rfl, ih, List.filter_cons_of_neg (by simp)]
    · have ne : ¬ (kI i = kI k) := fun z => e (by have := Sum.inl.inj z; omega)
      rw [if_neg ne, ih, List.filter_cons_of_pos (by simpa using e)]
      rfl
theorem bi_new {w : Addr} {M0 : Mem} (h : M0 w = none) : BI w M0 0 (fun _ => []) (M0.put w (.dct [] [])) where
  ext := fun a o e => by
    rw [Mem.put_ne (fun z => by rw [z, h] at e; cases e)]; exact e
  w0 := h
  ex := ⟨[], fun _ => w, Mem.put_same, List.nodup_nil, Nat.le_refl _, (by intro k hk; cases hk), (by intro k hk; cases hk), fun _ _ => rfl⟩
  fl := fun _ => Nat.le_refl _
theorem bi_pop {w z : Addr} {M0 M : Mem} {n k : Nat} {F : Nat → List D} {Q : QD} (b : BI w M0 n F M) (hz : M z = none)
    (q : ∀ q M', M0 q = none → q ≠ w → M' q = some (.lst (F k)) → (∀ X, BI w M0 n (upN F k []) (M'.put q (.lst X))) → Q (.ref q) M') :
    ∃ ks ds, (M.put z (.lst [])) w = some (.dct ks ds) ∧ (∀ v, valD ks ds (kI k) = some v → Q v ((M.put z (.lst [])).put w (.dct (dropD ks ds (kI k)).1 (dropD ks ds (kI k)).2))) ∧ (valD ks ds (kI k) = none → Q (.ref z) (M.put z (.lst []))) := by
  obtain ⟨ext, w0, ⟨L, A, hw, nd, ln, hA, inj, off⟩, fl⟩ := b
  have zw : w ≠ z := fun e => by rw [e, hz] at hw; cases hw
  have zA : ∀ k ∈ L, A k ≠ z := fun k hk e => by have := (hA k hk).2.2; rw [e, hz] at this; cases this
  have z0 : M0 z = none := ext.none hz
  have fl' : ∀ j, (upN F k [] j).length ≤ n := fun j => by
    by_cases e : j = k
    · rw [e, upN_same]; exact Nat.zero_le _
    · rw [upN_ne e]; exact fl j
  refine ⟨_, _, by rw [Mem.put_ne zw]; exact hw, fun v hv => ?_, fun hv => ?_⟩
  · by_cases hk : k ∈ L
    · rw [val_nat (fun k => D.ref (A k)) L k hk] at hv
      obtain rfl := Option.some.inj hv
      rw [drop_nat]
      obtain ⟨a1, a2, a3⟩ := hA k hk
      refine q (A k) _ a2 a1 (by rw [Mem.put_ne a1, Mem.put_ne (zA k hk)]; exact a3) fun X => ⟨?_, w0, ⟨L.filter (· ≠ k), A, ?_, nd.filter _, Nat.le_trans (List.length_filter_le _ _) ln, fun j hj => ?_, fun i hi j hj => inj i (List.mem_filter.mp hi).1 j (List.mem_filter.mp hj).1, fun j hj => ?_⟩, fl'⟩
      · exact ((ext.put z0).put w0).put a2
      · rw [Mem.put_ne a1.symm, Mem.put_same]
      · obtain ⟨h1, h2⟩ := List.mem_filter.mp hj
        have ne : j ≠ k := by simpa using h2
        obtain ⟨b1, b2, b3⟩ := hA j h1
        refine ⟨b1, b2, ?_⟩
        rw [Mem.put_ne (fun e => ne (inj j h1 k hk e)), Mem.put_ne b1, Mem.put_ne (zA j h1), upN_ne ne]; exact b3
      · by_cases e : j = k
        · rw [e, upN_same]
        · rw [upN_ne e]
          exact off j fun z => hj (List.mem_filter.mpr ⟨z, by simpa using e⟩)
    · rw [val_none _ L k hk] at hv; cases hv
  · by_cases hk : k ∈ L
    · rw [val_nat (fun k => D.ref (A k)) L k hk] at hv; cases hv
    · refine q z _ z0 zw.symm (by rw [Mem.put_same, off k hk]) fun X => ⟨?_, w0, ⟨L, A, ?_, nd, ln, fun j hj => ?_, inj, fun j hj => ?_⟩, fl'⟩
      · exact (ext.put z0).put z0
      · rw [Mem.put_put, Mem.put_ne zw]; exact hw
      · obtain ⟨b1, b2, b3⟩ := hA j hj
        refine ⟨b1, b2, ?_⟩
        rw [Mem.put_put, Mem.put_ne (zA j hj), upN_ne (fun e => hk (by rw [← e]; exact hj))]; exact b3
      · by_cases e : j = k
        · rw [e, upN_same]
        · rw [upN_ne e]; exact off j hj
theorem bi_setd {w z : Addr} {M0 M : Mem} {n k : Nat} {F : Nat → List D} {Q : QD} (b : BI w M0 n F M) (hz : M z = none) (hn : n ≤ 900)
    (q : ∀ p M', M' p = some (.lst (F k)) → (∀ a o, M a = some o → a ≠ w → M' a = some o) → (∀ X, X.length ≤ n + 1 → BI w M0 (n + 1) (upN F k X) (M'.put p (.lst X))) → Q (.ref p) M') :
    ∃ ks ds, (M.put z (.lst [])) w = some (.dct ks ds) ∧ ks.Nodup ∧ ks.length < 1000 ∧ (∀ v, valD ks ds (kI k) = some v → Q v (M.put z (.lst []))) ∧ (valD ks ds (kI k) = none → Q (.ref z) ((M.put z (.lst [])).put w (.dct (putD ks ds (kI k) (.ref z)).1 (putD ks ds (kI k) (.ref z)).2))) := by
  obtain ⟨ext, w0, ⟨L, A, hw, nd, ln, hA, inj, off⟩, fl⟩ := b
  have zw : w ≠ z := fun e => by rw [e, hz] at hw; cases hw
  have zA : ∀ k ∈ L, A k ≠ z := fun k hk e => by have := (hA k hk).2.2; rw [e, hz] at this; cases this
  have z0 : M0 z = none := ext.none hz
  have fl' : ∀ X : List D, X.length ≤ n + 1 → ∀ j, (upN F k X j).length ≤ n + 1 := fun X hX j => by
    by_cases e : j = k
    · rw [e, upN_same]; exact hX
    · rw [upN_ne e]; exact Nat.le_succ_of_le (fl j)
  refine ⟨_, _, by rw [Mem.put_ne zw]; exact hw, nodup_nat nd, by rw [List.length_map]; omega, fun v hv => ?_, fun hv => ?_⟩
  · by_cases hk : k ∈ L
    · rw [val_nat (fun k => D.ref (A k)) L k hk] at hv
      obtain rfl := Option.some.inj hv
      obtain ⟨a1, a2, a3⟩ := hA k hk
      refine q (A k) _ (by rw [Mem.put_ne (zA k hk)]; exact a3) (fun a o e _ => by rw [Mem.put_ne (fun y => by rw [y, hz] at e; cases e)]; exact e) fun X hX => ⟨?_, w0, ⟨L, A, ?_, nd, Nat.le_succ_of_le ln, fun j hj => ?_, inj, fun j hj => ?_⟩, fl' X hX⟩
      · exact (ext.put z0).put a2
      · rw [Mem.put_ne a1.symm, Mem.put_ne zw]; exact hw
      · obtain ⟨b1, b2, b3⟩ := hA j hj
        refine ⟨b1, b2, ?_⟩
        by_cases e : j = k
        · rw [e, upN_same, Mem.put_same]
        · rw [Mem.put_ne (fun y => e (inj j hj k hk y)), Mem.put_ne (zA j hj), upN_ne e]; exact b3
      · rw [upN_ne (fun e => hj (by rw [e]; exact hk))]; exact off j hj
    · rw [val_none _ L k hk] at hv; cases hv
  · by_cases hk : k ∈ L
    · rw [val_nat (fun k => D.ref (A k)) L k hk] at hv; cases hv
    · have eL : L.map (fun k => D.ref (A k)) = L.map fun j => D.ref (upA A k z j) := List.map_congr_left fun j hj => by rw [upA_ne (fun e => hk (by rw [← e]; exact hj))]
      rw [eL]
      have ep := put_nat (fun j => D.ref (upA A k z j)) k L hk
      simp only [upA_same] at ep
      rw [ep]
      refine q z _ (by rw [Mem.put_ne zw.symm, Mem.put_same, off k hk]) (fun a o e ne => by rw [Mem.put_ne ne, Mem.put_ne (fun y => by rw [y, hz] at e; cases e)]; exact e) fun X hX => ⟨?_, w0, ⟨L ++ [k], upA A k z, ?_, ?_, by rw [List.length_append, List.length_singleton]; omega, fun j hj => ?_, fun i hi j hj e => ?_, fun j hj => ?_⟩, fl' X hX⟩
      · exact ((ext.put z0).put w0).put z0
      · rw [Mem.put_ne zw, Mem.put_same]
      · rw [List.nodup_append]
        refine ⟨nd, by simp, fun a ha b hb => ?_⟩
        rw [List.mem_singleton] at hb
        subst hb
        exact fun e => hk (by rw [← e]; exact ha)
      · by_cases e : j = k
        · rw [e, upA_same, upN_same]
          exact ⟨zw.symm, z0, Mem.put_same⟩
        · rcases List.mem_append.mp hj with hj | hj
          · obtain ⟨b1, b2, b3⟩ := hA j hj
            rw [upA_ne e, upN_ne e]
            refine ⟨b1, b2, ?_⟩
            rw [Mem.put_ne (zA j hj), Mem.put_ne b1, Mem.put_ne (zA j hj)]; exact b3
          · exact absurd (List.mem_singleton.mp hj) e
      · have mem : ∀ j, j ∈ L ++ [k] → j ≠ k → j ∈ L := fun j hj ne => by
          rcases List.mem_append.mp hj with hj | hj
          · exact hj
          · exact absurd (List.mem_singleton.mp hj) ne
        by_cases ei : i = k
        · by_cases ej : j = k
          · rw [ei, ej]
          · rw [ei, upA_same, upA_ne ej] at e
            exact absurd e.symm (zA j (mem j hj ej))
        · by_cases ej : j = k
          · rw [ej, upA_same, upA_ne ei] at e
            exact absurd e (zA i (mem i hi ei))
          · rw [upA_ne ei, upA_ne ej] at e
            exact inj i (mem i hi ei) j (mem j hj ej) e
      · have ne : j ≠ k := fun e => hj (by rw [e]; simp)
        rw [upN_ne ne]
        exact off j fun z => hj (List.mem_append_left _ z)
end MH
namespace MH
open PySem PySem.Spec PyProof.Rows L2 DL TL
theorem bi_pop' {w z : Addr} {M0 M : Mem} {n d : Nat} {F : Nat → List D} (Q : QD) (b : BI w M0 n F M) (hz : M z = none)
    (q : ∀ q M', M0 q = none → q ≠ w → M' q = some (.lst (F (d + 1))) → (∀ X, BI w M0 n (upN F (d + 1) []) (M'.put q (.lst X))) → Q (.ref q) M') :
    ∃ ks ds i, (M.put z (.lst [])) w = some (.dct ks ds) ∧ D.int ((d : Int) + 1) = .int i ∧ (∀ v, valD ks ds (.inl i) = some v → Q v ((M.put z (.lst [])).put w (.dct (dropD ks ds (.inl i)).1 (dropD ks ds (.inl i)).2))) ∧ (valD ks ds (.inl i) = none → Q (.ref z) (M.put z (.lst []))) := by
  obtain ⟨ks, ds, e1, e2, e3⟩ := bi_pop (k := d + 1) b hz q
  exact ⟨ks, ds, (d : Int) + 1, e1, rfl, e2, e3⟩
theorem bi_setd' {w z : Addr} {M0 M : Mem} {n d : Nat} {F : Nat → List D} (Q : QD) (b : BI w M0 n F M) (hz : M z = none) (hn : n ≤ 900)
    (q : ∀ p M', M' p = some (.lst (F d)) → (∀ a o, M a = some o → a ≠ w → M' a = some o) → (∀ X, X.length ≤ n + 1 → BI w M0 (n + 1) (upN F d X) (M'.put p (.lst X))) → Q (.ref p) M') :
    ∃ ks ds i, (M.put z (.lst [])) w = some (.dct ks ds) ∧ D.int (d : Int) = .int i ∧ ks.Nodup ∧ ks.length < 1000 ∧ (∀ v, valD ks ds (.inl i) = some v → Q v (M.put z (.lst []))) ∧ (valD ks ds (.inl i) = none → Q (.ref z) ((M.put z (.lst [])).put w (.dct (putD ks ds (.inl i) (.ref z)).1 (putD ks ds (.inl i) (.ref z)).2))) := by
  obtain ⟨ks, ds, e1, e2, e3, e4, e5⟩ := bi_setd (k := d) b hz hn q
  exact ⟨ks, ds, (d : Int), e1, rfl, e2, e3, e4, e5⟩
end MH
set_option maxHeartbeats 2000000
namespace MH
open PySem PySem.Spec PyProof.Rows L2 DL
/-! ### data that can be shown: weight, depth -/
def RXs (m d : Nat) (xs : List D) : Prop := ∃ ps, toPyXs xs = some ps ∧ RBs m d ps ∧ ps.length = xs.length
theorem rxs_nil {d : Nat} : RXs 0 d [] := ⟨[], rfl, rbs_nil, rfl⟩
theorem rxs_cons {m m' d : Nat} {x : D} {xs : List D} (hx : RX m d x) (h : RXs m' d xs) : RXs (m + m') d (x :: xs) := by
  obtain ⟨p, h1, h2⟩ := hx
  obtain ⟨ps, k1, k2, k3⟩ := h
  exact ⟨p :: ps, by rw [toPyXs, h1, k1], rbs_cons h2 k2, by rw [List.length_cons, List.length_cons, k3]⟩
theorem rxs_tup {m d : Nat} {xs : List D} (h : RXs m d xs) : RX (m + 2 * xs.length + 3) (d + 1) (.tup xs) := by
  obtain ⟨ps, h1, h2, h3⟩ := h
  have hl := tupleText_len_le (PyData.shownAll ps)
  have := h2.len
  have := h2.n
  have := h2.dep
  refine ⟨.tuple ps, by rw [toPyX, h1]; rfl, by simp only [PyData.showable]; exact h2.sh, ?_, by simp only [PyData.depth]; omega, by simp only [PyData.shown]; exact ok_tuple h2.ok⟩
  simp only [PyData.shown]; omega
theorem rxs_lst {m d : Nat} {xs : List D} (h : RXs m d xs) : RX (m + 2 * xs.length + 3) (d + 1) (.lst xs) := by
  obtain ⟨ps, h1, h2, h3⟩ := h
  have hl := listText_len_le (PyData.shownAll ps)
  have := h2.len
  have := h2.n
  have := h2.dep
  refine ⟨.list ps, by rw [toPyX, h1]; rfl, by simp only [PyData.showable]; exact h2.sh, ?_, by simp only [PyData.depth]; omega, by simp only [PyData.shown]; exact ok_list h2.ok⟩
  simp only [PyData.shown]; omega
mutual
def wt : D → Nat
  | .tup ds => 4 + wts ds
  | .lst ds => 4 + wts ds
  | _ => 70
def wts : List D → Nat
  | [] => 0
  | d :: ds => wt d + 2 + wts ds
end
mutual
def dpt : D → Nat
  | .tup ds => dpts ds + 1
  | .lst ds => dpts ds + 1
  | _ => 1
def dpts : List D → Nat
  | [] => 0
  | d :: ds => max (dpt d) (dpts ds)
end
inductive Ok (N : Nat) : D → Prop
  | non : Ok N .non
  | bl (b : Bool) : Ok N (.bl b)
  | int (i : Int) (h : i.natAbs ≤ N) : Ok N (.int i)
  | str (x : Str) (h1 : PyData.strOk x = true) (h2 : PyData.strOk (reprText x) = true) (h3 : (reprText x).length ≤ 66) : Ok N (.str x)
  | tup (ds : List D) (h : ∀ d ∈ ds, Ok N d) : Ok N (.tup ds)
  | lst (ds : List D) (h : ∀ d ∈ ds, Ok N d) : Ok N (.lst ds)
  | dct : Ok N (.dct [] [])
theorem Ok.mono {N N' : Nat} {d : D} (h : Ok N d) (le : N ≤ N') : Ok N' d := by
  induction h with
  | non => exact .non
  | bl b => exact .bl b
  | int i h => exact .int i (by omega)
  | str x h1 h2 h3 => exact .str x h1 h2 h3
  | tup ds _ ih => exact .tup ds ih
  | lst ds _ ih => exact .lst ds ih
  | dct => exact .dct
theorem rxs_of : ∀ {ds : List D} {b : Nat}, (∀ d ∈ ds, RX (wt d) (dpt d) d) → dpts ds ≤ b → ∃ m, RXs m b ds ∧ m + 2 * ds.length = wts ds
  | [], b, _, _ => ⟨0, rxs_nil, rfl⟩
  | d :: ds, b, h, hb => by
    simp only [dpts] at hb
    obtain ⟨m, h1, h2⟩ := rxs_of (ds := ds) (b := b) (fun x hx => h x (List.mem_cons_of_mem _ hx)) (by omega)
    refine ⟨wt d + m, rxs_cons ((h d List.mem_cons_self).mono (Nat.le_refl _) (by omega)) h1, ?_⟩
    simp only [wts, List.length_cons]; omega
theorem Ok.rx {N : Nat} {d : D} (h : Ok N d) (hN : N ≤ 2 ^ 64) : RX (wt d) (dpt d) d := by
  induction h with
  | non => exact rxB_ok (by decide +kernel)
  | bl b => cases b <;> exact rxB_ok (by decide +kernel)
  | int i h => exact (rx_int (by omega)).mono (by simp only [wt]; decide) (Nat.zero_le _)
  | str x h1 h2 h3 => exact ⟨_, rfl, (rb_str h2 h3).mono (by simp only [wt]; decide) (Nat.zero_le _)⟩
  | tup ds _ ih =>
    obtain ⟨m, h1, h2⟩ := rxs_of ih (Nat.le_refl _)
    exact (rxs_tup h1).mono (by simp only [wt]; omega) (by simp only [dpt]; omega)
  | lst ds _ ih =>
    obtain ⟨m, h1, h2⟩ := rxs_of ih (Nat.le_refl _)
    exact (rxs_lst h1).mono (by simp only [wt]; omega) (by simp only [dpt]; omega)
  | dct => exact rxB_ok (by decide +kernel)
/-! closed data, looked at -/
mutual
def okB (N : Nat) : D → Bool
  | .non => true
  | .bl _ => true
  | .int i => decide (i.natAbs ≤ N)
  | .str x => PyData.strOk x && (PyData.strOk (reprText x) && decide ((reprText x).length ≤ 66))
  | .tup ds => okBs N ds
  | .lst ds => okBs N ds
  | .dct [] [] => true
  | _ => false
def okBs (N : Nat) : List D → Bool
  | [] => true
  | d :: ds => okB N d && okBs N ds
end
mutual
theorem okB_ok {N : Nat} : ∀ {d : D}, okB N d = true → Ok N d
  | .non, _ => .non
  | .bl b, _ => .bl b
  | .int i, h => .int i (of_decide_eq_true h)
  | .str x, h => by
    have h' : (PyData.strOk x && (PyData.strOk (reprText x) && decide ((reprText x).length ≤ 66))) = true := h
    obtain ⟨h1, h2⟩ := Bool.and_eq_true_iff.mp h'
    obtain ⟨h2, h3⟩ := Bool.and_eq_true_iff.mp h2
    exact .str x h1 h2 (of_decide_eq_true h3)
  | .tup ds, h => .tup ds (okBs_ok (show okBs N ds = true from h))
  | .lst ds, h => .lst ds (okBs_ok (show okBs N ds = true from h))
  | .dct [] [], _ => .dct
  | .dct (_ :: _) _, h => by cases h
  | .dct [] (_ :: _), h => by cases h
  | .ref _, h => by cases h
  | .ty _, h => by cases h
  | .fzn _, h => by cases h
  | .exn _ _ _, h => by cases h
  | .kdt _ _, h => by cases h
  | .lam _ _ _ _ _ _, h => by cases h
  | .fn _ _, h => by cases h
theorem okBs_ok {N : Nat} : ∀ {ds : List D}, okBs N ds = true → ∀ d ∈ ds, Ok N d
  | [], _ => fun d hd => by cases hd
  | x :: ds, h =>
    have h' : okB N x = true ∧ okBs N ds = true := Bool.and_eq_true_iff.mp h
    have a := okB_ok h'.1
    have b := okBs_ok h'.2
    fun d hd => by
      rcases List.mem_cons.mp hd with e | hd
      · rw [e]; exact a
      · exact b d hd
end
mutual
theorem wt_th : ∀ t : Th, wt t.d + 2 ≤ 600 * t.sz
  | .raw b l r => by
    cases b <;> simp only [Th.d, landD, wt, wts, Th.sz] <;> decide
  | .made b l r sh u w ps => by
    have h := wts_th ps
    have e : wt (Th.made b l r sh u w ps).d = 522 - 2 + wts (Th.ds ps) := by
      simp only [Th.d, landD, termD, wt, wts]; omega
    rw [e, Th.sz]; omega
theorem wts_th : ∀ ts : List Th, wts (Th.ds ts) ≤ 600 * Th.szs ts
  | [] => Nat.zero_le _
  | t :: ts => by
    have h1 := wt_th t
    have h2 := wts_th ts
    simp only [Th.ds, Th.szs, wts]; omega
end
mutual
theorem dpt_th : ∀ t : Th, dpt t.d ≤ 2 * t.st + 2
  | .raw b l r => by
    simp only [Th.d, landD, dpt, dpts, Th.st]; decide
  | .made b l r sh u w ps => by
    have h := dpts_th ps
    simp only [Th.d, landD, termD, dpt, dpts, Th.st]; omega
theorem dpts_th : ∀ ts : List Th, dpts (Th.ds ts) ≤ 2 * Th.sts ts + 2
  | [] => Nat.zero_le _
  | t :: ts => by
    have h1 := dpt_th t
    have h2 := dpts_th ts
    simp only [Th.ds, Th.sts, dpts]; omega
end
theorem ok_land (b : Bool) : Ok 1000000 (landD b) := by cases b <;> exact okB_ok (by decide +kernel)
theorem ok_term {sh : Int} {u w : Bool} (h : 0 ≤ sh ∧ sh ≤ 100) : Ok 1000000 (termD sh u w) := by
  refine .tup _ fun d hd => ?_
  simp only [List.mem_cons, List.not_mem_nil, or_false] at hd
  rcases hd with rfl | rfl | rfl
  · exact .int _ (by omega)
  · cases u <;> exact okB_ok (by decide +kernel)
  · cases w <;> exact okB_ok (by decide +kernel)
theorem ok_bnd {l r : Int} (h : bnd l r) : Ok 1000000 (.int l) ∧ Ok 1000000 (.int r) := by
  obtain ⟨h1, h2, h3⟩ := h
  exact ⟨.int _ (by omega), .int _ (by omega)⟩
mutual
theorem ok_th : ∀ t : Th, t.ok → Ok 1000000 t.d
  | .raw b l r, h => by
    have hb := ok_bnd (show bnd l r from h)
    refine .tup _ fun d hd => ?_
    simp only [List.mem_cons, List.not_mem_nil, or_false] at hd
    rcases hd with rfl | rfl | rfl | rfl
    · exact okB_ok (by decide +kernel)
    · exact ok_land b
    · exact hb.1
    · exact hb.2
  | .made b l r sh u w ps, h => by
    obtain ⟨h1, h2, h3, h4⟩ := h
    have hb := ok_bnd h1
    have hp := ok_ths ps h4
    refine .tup _ fun d hd => ?_
    simp only [List.mem_cons, List.not_mem_nil, or_false] at hd
    rcases hd with rfl | rfl | rfl | rfl | rfl | rfl
    · exact okB_ok (by decide +kernel)
    · exact ok_land b
    · exact hb.1
    · exact hb.2
    · exact ok_term h2
    · exact .tup _ hp
theorem ok_ths : ∀ ts : List Th, Th.oks ts → ∀ d ∈ Th.ds ts, Ok 1000000 d
  | [], _, d, hd => by cases hd
  | t :: ts, h, d, hd => by
    simp only [Th.ds] at hd
    rcases List.mem_cons.mp hd with e | hd
    · rw [e]; exact ok_th t h.1
    · exact ok_ths ts h.2 d hd
end
theorem th_rx {t : Th} (h : t.ok) (hz : t.sz ≤ 10) (hs : t.st ≤ 10) : RX 6000 30 t.d :=
  ((ok_th t h).rx (by decide)).mono (by have := wt_th t; omega) (by have := dpt_th t; omega)
theorem frs_wt : ∀ fs : List (Int × Int), wts (fs.map frD) = 150 * fs.length ∧ dpts (fs.map frD) ≤ 2
  | [] => ⟨rfl, by decide⟩
  | f :: fs => by
    obtain ⟨h1, h2⟩ := frs_wt fs
    simp only [List.map_cons, wts, dpts, frD, wt, dpt, h1, List.length_cons]
    omega
theorem frs_rx {fs : List (Int × Int)} (h : ∀ f ∈ fs, f.1.natAbs ≤ 2 ^ 40 ∧ f.2.natAbs ≤ 2 ^ 40) (hl : fs.length ≤ 10) : RX 6000 30 (.tup (fs.map frD)) := by
  have o : Ok (2 ^ 40) (.tup (fs.map frD)) := .tup _ fun d hd => by
    obtain ⟨f, hf, rfl⟩ := List.mem_map.mp hd
    refine .tup _ fun x hx => ?_
    simp only [List.mem_cons, List.not_mem_nil, or_false] at hx
    rcases hx with rfl | rfl
    · exact .int _ (h f hf).1
    · exact .int _ (h f hf).2
  obtain ⟨h1, h2⟩ := frs_wt fs
  refine (o.rx (by decide)).mono ?_ ?_
  · show 4 + wts (fs.map frD) ≤ 6000
    rw [h1]; omega
  · show dpts (fs.map frD) + 1 ≤ 30
    omega
end MH
set_option maxHeartbeats 1000000
namespace MH
open PySem PySem.Spec PyProof.Rows L2 DL
mutual
theorem fl_rows : ∀ (t : Th) (b : Nat), t.fl = (rows t b).map (·.1)
  | .raw _ _ _, _ => rfl
  | .made _ _ _ _ _ _ ps, b => by rw [Th.fl, rows, List.map_cons, fls_rows ps (b + 1)]
theorem fls_rows : ∀ (ts : List Th) (b : Nat), Th.fls ts = (rowss ts b).map (·.1)
  | [], _ => rfl
  | t :: ts, b => by rw [Th.fls, rowss, List.map_append, fl_rows t b, fls_rows ts (b + t.sz)]
end
/-! ### what has been added up to a number -/
end MH
set_option maxHeartbeats 4000000
namespace G_madeofhere_k17_texts_back_and_forth
open PySem PySem.Spec PyProof.Rows L2 DL MH
local macro_rules | `(tactic| fail) => `(tactic| first | with_reducible refine w_seq ?_ | with_reducible refine w_nx ?_ | with_reducible refine w_ret ?_ | with_reducible refine w_retN ?_ | with_reducible refine w_expr ?_ | with_reducible refine w_ifS ?_ | with_reducible refine w_asg ?_ | with_reducible refine w_augS ?_ | with_reducible refine w_for ?_ | with_reducible refine w_bk ?_ | with_reducible refine w_ct ?_ | with_reducible refine w_set0 ?_ | with_reducible refine w_set1 ?_ | with_reducible refine w_set2 ?_ | with_reducible refine w_set3 ?_ | with_reducible refine w_set4 ?_ | with_reducible refine w_set5 ?_ | with_reducible refine w_set6 ?_ | with_reducible refine w_set7 ?_ | with_reducible refine w_set8 ?_ | with_reducible refine w_set9 ?_ | with_reducible refine w_set10 ?_ | with_reducible refine w_set11 ?_ | with_reducible refine w_set12 ?_ | with_reducible refine w_set13 ?_ | with_reducible refine w_set14 ?_ | with_reducible refine w_set15 ?_ | with_reducible refine w_set16 ?_ | with_reducible refine w_set17 ?_ | with_reducible refine w_set18 ?_ | with_reducible refine w_set19 ?_ | with_reducible refine w_var0 ?_ | with_reducible refine w_var1 ?_ | with_reducible refine w_var2 ?_ | with_reducible refine w_var3 ?_ | with_reducible refine w_var4 ?_ | with_reducible refine w_var5 ?_ | with_reducible refine w_var6 ?_ | with_reducible refine w_var7 ?_ | with_reducible refine w_var8 ?_ | with_reducible refine w_var9 ?_ | with_reducible refine w_var10 ?_ | with_reducible refine w_var11 ?_ | with_reducible refine w_var12 ?_ | with_reducible refine w_var13 ?_ | with_reducible refine w_var14 ?_ | with_reducible refine w_var15 ?_ | with_reducible refine w_var16 ?_ | with_reducible refine w_var17 ?_ | with_reducible refine w_var18 ?_ | with_reducible refine w_var19 ?_ | with_reducible refine w_gnm0 ?_ | with_reducible refine w_gnm1 ?_ | with_reducible refine w_gnm2 ?_ | with_reducible refine w_gnm3 ?_ | with_reducible refine w_gnm4 ?_ | with_reducible refine w_gnm5 ?_ | with_reducible refine w_gnm6 ?_ | with_reducible refine w_gnm7 ?_ | with_reducible refine w_gnm8 ?_ | with_reducible refine w_gnm9 ?_ | with_reducible refine w_gnm10 ?_ | with_reducible refine w_gnm11 ?_ | with_reducible refine w_gnm12 ?_ | with_reducible refine w_gnm13 ?_ | with_reducible refine w_gnm14 ?_ | with_reducible refine w_gnm15 ?_ | with_reducible refine w_gnm16 ?_ | with_reducible refine w_gnm17 ?_ | with_reducible refine w_gnm18 ?_ | with_reducible refine w_gnm19 ?_ | with_reducible refine w_mk ?_ | with_reducible refine w_mkK ?_ | with_reducible refine w_mk0 ?_ | with_reducible refine w_fd ?_ | with_reducible refine w_raise ?_ | with_reducible refine w_raiseX ?_ | with_reducible refine w_try ?_ | with_reducible refine w_callX ?_ | with_reducible refine w_fzN ?_ | with_reducible refine w_gTp rfl ?_ | with_reducible refine w_gCo ?_ | with_reducible refine w_gNi ?_ | with_reducible refine w_gSb ?_ | with_reducible refine w_c ?_ | with_reducible refine w_op ?_ | with_reducible refine w_nil ?_ | with_reducible refine w_cons ?_ | with_reducible refine w_tup ?_ | with_reducible refine w_lst ?_ | with_reducible refine w_cb ?_ | with_reducible refine w_call ?_ | with_reducible refine w_ite ?_ | with_reducible refine w_and ?_ | with_reducible refine w_or ?_ | with_reducible refine w_not ?_ | with_reducible refine w_andT ?_ | with_reducible refine w_andF ?_ | with_reducible refine w_orT ?_ | with_reducible refine w_orF ?_ | with_reducible refine w_neg ?_ | with_reducible refine w_un ?_ | with_reducible refine w_tst ?_ | with_reducible refine w_tstB ?_ | with_reducible refine w_tru ?_ | with_reducible refine w_truB ?_ | with_reducible refine w_tAnd ?_ | with_reducible refine w_tOr ?_ | with_reducible refine w_tNot ?_ | with_reducible refine w_chain ?_ | with_reducible refine w_chT ?_ | with_reducible refine w_chF ?_ | with_reducible refine w_ifT ?_ | with_reducible refine w_ifF ?_ | with_reducible refine w_ifnT ?_ | with_reducible refine w_ifnF ?_ | with_reducible refine w_rvs ?_ | with_reducible refine w_yes ?_ | with_reducible refine w_iZip ?_ | with_reducible refine w_sg2 ?_ | with_reducible refine w_zipLL ?_ | with_reducible refine w_zipTT ?_ | with_reducible refine w_augY ?_ | with_reducible refine w_isiII ?_ | with_reducible refine w_isiIB ?_ | with_reducible refine w_isiSS ?_ | with_reducible refine w_isiTT ?_ | with_reducible refine w_isiIT ?_ | with_reducible refine w_isiIS ?_ | with_reducible refine w_isiSI ?_ | with_reducible refine w_isiSB ?_ | with_reducible refine w_isiST ?_ | with_reducible refine w_isiTI ?_ | with_reducible refine w_isiTB ?_ | with_reducible refine w_isiTS ?_ | with_reducible refine w_isiNI ?_ | with_reducible refine w_isiNS ?_ | with_reducible refine w_isiNT ?_ | with_reducible refine w_isiBI ?_ | with_reducible refine w_isiBB ?_ | with_reducible refine w_isiLT ?_ | with_reducible refine w_dRev ?_ | with_reducible refine w_revK ?_ | with_reducible refine w_lstRg ?_ | with_reducible refine w_par ?_ | with_reducible refine w_parK (by dsimp only [List.set] <;> rfl) ?_ | with_reducible refine w_sl ?_ | with_reducible refine w_slT ?_ | with_reducible refine w_slL ?_ | with_reducible refine w_oNo ?_ | with_reducible refine w_oSo ?_ | with_reducible refine w_oSoK ?_ | with_reducible refine w_prN ?_ | with_reducible refine w_prC ?_ | with_reducible refine w_addI ?_ | with_reducible refine w_subI ?_ | with_reducible refine w_lt ?_ | with_reducible refine w_le ?_ | with_reducible refine w_gt ?_ | with_reducible refine w_ge ?_ | with_reducible refine w_isN ?_ | with_reducible refine w_isnN ?_ | with_reducible refine w_eqI ?_ | with_reducible refine w_neI ?_ | with_reducible refine w_ixT0 ?_ | with_reducible refine w_ixT1 ?_ | with_reducible refine w_ixT2 ?_ | with_reducible refine w_ixT3 ?_ | with_reducible refine w_ixT4 ?_ | with_reducible refine w_ixT5 ?_ | with_reducible refine w_lenL ?_ | with_reducible refine w_lenT ?_ | with_reducible refine w_int ?_ | with_reducible refine w_intB ?_ | with_reducible refine w_abs ?_ | with_reducible refine w_listL ?_ | with_reducible refine w_listT ?_ | with_reducible refine w_tupL ?_ | with_reducible refine w_tupT ?_ | with_reducible refine w_int2 ?_ | with_reducible refine w_gcd ?_ | with_reducible refine w_app ?_ | with_reducible refine w_iSeq ?_ | with_reducible refine w_itemT ?_ | with_reducible refine w_itemL ?_ | with_reducible refine w_iRng ?_ | with_reducible refine w_iEnm ?_ | with_reducible refine w_sg1 ?_ | with_reducible refine w_iRev ?_ | with_reducible refine w_rg1 ?_ | with_reducible refine w_rg1K ?_ | with_reducible refine w_notB ?_ | with_reducible refine w_at ?_ | with_reducible refine w_sAt ?_ | with_reducible refine w_gAt ?_ | with_reducible refine w_newD ?_ | with_reducible refine w_iZipM ?_ | with_reducible refine w_zmLL ?_ | with_reducible refine w_zmLT ?_ | with_reducible refine w_zmTL ?_ | with_reducible refine w_zmTT ?_ | with_reducible refine w_iZipO ?_ | with_reducible refine w_lstZip ?_ | with_reducible refine w_iRevS ?_ | with_reducible refine w_revIL ?_ | with_reducible refine w_iEZ ?_ | with_reducible refine w_rg2 ?_ | with_reducible refine w_rg2K ?_ | with_reducible refine w_tupS ?_ | with_reducible refine w_revT ?_ | with_reducible refine w_revTK ?_ | with_reducible refine w_star ?_ | with_reducible refine w_seqT ?_ | with_reducible refine w_seqL ?_)
section
variable {K : Fg} {c : Nat → Addr}
def mK : List Key := [.inr "cells", .inr "left", .inr "spot"]
def mV (cells : List Int) (left spot : Int) : List D := [.lst (cells.map D.int), .int left, .int spot]
theorem vl_l (c : List Int) (l s : Int) : valD mK (mV c l s) (.inr "left") = some (.int l) := by rfl
theorem vl_s (c : List Int) (l s : Int) : valD mK (mV c l s) (.inr "spot") = some (.int s) := by rfl
theorem vl_c (c : List Int) (l s : Int) : valD mK (mV c l s) (.inr "cells") = some (.lst (c.map D.int)) := by rfl
theorem pt_l (c : List Int) (l s l' : Int) : putD mK (mV c l s) (.inr "left") (.int l') = (mK, mV c l' s) := by rfl
theorem pt_s (c : List Int) (l s s' : Int) : putD mK (mV c l s) (.inr "spot") (.int s') = (mK, mV c l s') := by rfl
theorem mK_nd : mK.Nodup := by decide
theorem ix_d {M : Mem} {a : Addr} {ks : List Key} {ds : List D} {x : Str} {Q : QD} (h : M a = some (.dct ks ds)) : ixD (.ref a) (.str x) M Q = match valD ks ds (.inr x) with | some d => Q d M | none => False := by
  simp only [ixD, ixO, vw, vwO, h, DL.keyD]
  all_goals (cases valD ks ds (.inr x) <;> rfl)
theorem set_d {M : Mem} {a : Addr} {ks : List Key} {ds : List D} {x : Str} {v : D} {k : Mem → Prop} (h : M a = some (.dct ks ds)) : setK (.ref a) (.str x) v k M = ((ks.Nodup ∧ ks.length < 1000) ∧ k (M.put a (.dct (putD ks ds (.inr x) v).1 (putD ks ds (.inr x) v).2))) := by
  simp [setK, h, DL.keyD]
theorem put_at {M : Mem} {a : Addr} {o : MO} : (M.put a o) a = some o := Mem.put_same
theorem mod_i {i j : Int} {M : Mem} {Q : QD} : modD (.int i) (.int j) M Q = (0 < j ∧ Q (.int (i % j)) M) := rfl
theorem fdiv_i {i j : Int} {M : Mem} {Q : QD} : fdivD (.int i) (.int j) M Q = (CDivW i j ∧ Q (.int (i / j)) M) := rfl
theorem mul_i {i j : Int} {M : Mem} {Q : QD} : mulD (.int i) (.int j) M Q = (CMulW i j ∧ Q (.int (i * j)) M) := rfl
theorem add_i {i j : Int} {M : Mem} {Q : QD} : addD (.int i) (.int j) M Q = Q (.int (i + j)) M := rfl
theorem int_i {i : Int} {M : Mem} {Q : QD} : intC [.int i] M Q = Q (.int i) M := rfl
theorem gt_i {i j : Int} {M : Mem} {Q : QD} : gtD (.int i) (.int j) M Q = Q (.bl (decide (i > j))) M := rfl
theorem len_l {ds : List D} {M : Mem} {Q : QD} : lenC [.lst ds] M Q = Q (.int ds.length) M := rfl
theorem ix_l {ns : List Int} {j : Int} {M : Mem} {Q : QD} (h0 : 0 ≤ j) (h1 : j < ns.length) : ixD (.lst (ns.map D.int)) (.int j) M Q = Q (.int (ns[j.toNat]'(by omega))) M := by
  have e : atI (ns.map D.int) j = some (.int (ns[j.toNat]'(by omega))) := by
    have z := atI_nat (xs := ns.map D.int) (j := j.toNat) (v := .int (ns[j.toNat]'(by omega))) (by rw [List.getElem?_map, List.getElem?_eq_getElem (by omega)]; rfl)
    rwa [Int.toNat_of_nonneg h0] at z
  simp only [ixD, ixO, vw, e]
theorem divW {i j : Int} (h : 0 < j) (h2 : j < 2 ^ 60) : CDivW i j := ⟨h, by
  have : j.natAbs.log2 < 60 := (Nat.log2_lt (by omega)).mpr (by omega)
  omega⟩
theorem mulW {i j : Int} (h : i.natAbs < 2 ^ 200) (h2 : j.natAbs < 2 ^ 200) : CMulW i j := by
  unfold CMulW
  have a : ∀ n : Nat, n < 2 ^ 200 → n.log2 ≤ 200 := fun n hn => by
    by_cases z : n = 0
    · subst z; decide
    · exact Nat.le_of_lt ((Nat.log2_lt z).mpr hn)
  have := a _ h
  have := a _ h2
  omega
theorem draw_ok (a : Addr) (M : Mem) (cells : List Int) (left spot limit : Int) (hc : cells ≠ []) (hl : 0 < limit) (hl2 : limit < 2 ^ 60) (hs : 0 ≤ spot) (hs2 : spot < 2 ^ 60) (hM : M a = some (.dct mK (mV cells left spot))) (Q : QD) (Xd : XD)
    (h : ∀ r l' s' : Int, 0 ≤ r → r < limit → spot ≤ s' → s' ≤ spot + 1 → Q (.int r) (M.put a (.dct mK (mV cells l' s')))) : W_law_draw K c [.ref a, .int limit] M Q Xd := by
  unfold W_law_draw bodyD B_law_draw
  simp only [sSeq, sIf, dTst, dOp, dVar, dC, startD, N__law_draw, List.map, List.length, List.replicate, List.getElem?_cons_zero, List.getElem?_cons_succ, List.cons_append, List.nil_append, sNx, sSet, sAsg, sRet, gSb, dCB, dCons, dNil, List.set,
    ix_d hM, vl_l, vl_s, vl_c, gt_i, tstB, int_i, mod_i, fdiv_i, set_d hM, pt_l, pt_s]
  by_cases z : left > 0
  · rw [decide_eq_true z, if_pos rfl]
    refine ⟨hl, divW hl hl2, ⟨mK_nd, by decide⟩, lo_same (h _ _ _ (Int.emod_nonneg _ (by omega)) (Int.emod_lt_of_pos _ hl) (Int.le_refl _) (by omega))⟩
  · rw [decide_eq_false z, if_neg Bool.false_ne_true]
    have hlen : 0 < cells.length := List.length_pos_iff.mpr hc
    have j0 : 0 ≤ (spot + 1) % (cells.length : Int) := Int.emod_nonneg _ (by omega)
    have j1 : (spot + 1) % (cells.length : Int) < cells.length := Int.emod_lt_of_pos _ (by omega)
    simp only [add_i, set_d hM, pt_s, ix_d put_at, vl_c, int_i, len_l, mod_i, List.length_map, ix_l j0 j1, mul_i, fdiv_i]
    generalize cells[((spot + 1) % (cells.length : Int)).toNat]'(by omega) = c
    have b1 : 0 ≤ c % 2147483629 := Int.emod_nonneg _ (by decide)
    have b2 : c % 2147483629 < 2147483629 := Int.emod_lt_of_pos _ (by decide)
    generalize c % 2147483629 = c1 at b1 b2
    have e0 : 23 * (spot + 1) * (spot + 1) = 23 * ((spot + 1) * (spot + 1)) := Int.mul_assoc _ _ _
    have q0 : 0 ≤ (spot + 1) * (spot + 1) := Int.mul_nonneg (by omega) (by omega)
    have q1 : (spot + 1) * (spot + 1) ≤ 2 ^ 60 * 2 ^ 60 := Int.mul_le_mul (by omega) (by omega) (by omega) (by decide)
    rw [e0]
    generalize (spot + 1) * (spot + 1) = sq at q0 q1
    have r1 : 0 ≤ (c1 + 6133 * (spot + 1) + 23 * sq) * 48271 % 2147483647 := Int.emod_nonneg _ (by decide)
    have r2 : (c1 + 6133 * (spot + 1) + 23 * sq) * 48271 % 2147483647 < 2147483647 := Int.emod_lt_of_pos _ (by decide)
    refine ⟨⟨mK_nd, by decide⟩, by omega, by decide, mulW (by omega) (by omega), mulW (by omega) (by omega), mulW (by omega) (by omega), mulW (by omega) (by omega), by decide, mulW (by omega) (by omega), mulW (by omega) (by omega), by decide, divW (by decide) (by decide), hl,
      lo_same (h _ _ _ (Int.emod_nonneg _ (by omega)) (Int.emod_lt_of_pos _ hl) (by omega) (by omega))⟩
/-- the state of the draws stands, its counter not far -/
def Dr (a : Addr) (cells : List Int) (b : Int) (M : Mem) : Prop := ∃ l s : Int, M a = some (.dct mK (mV cells l s)) ∧ 0 ≤ s ∧ s ≤ b
/-- all but the state of the draws stays -/
def Sm (a : Addr) (M M' : Mem) : Prop := ∀ b, b ≠ a → M' b = M b
theorem Sm.refl {a : Addr} {M : Mem} : Sm a M M := fun _ _ => rfl
theorem Sm.trans {a : Addr} {M M1 M2 : Mem} (h : Sm a M M1) (k : Sm a M1 M2) : Sm a M M2 := fun b z => (k b z).trans (h b z)
theorem draw_k {a : Addr} {M : Mem} {cells : List Int} {b limit : Int} (hc : cells ≠ []) (hl : 0 < limit) (hl2 : limit < 2 ^ 60) (hb : b < 2 ^ 50) (hM : Dr a cells b M) {Q : QD} {Xd : XD}
    (h : ∀ (r : Int) (M' : Mem), 0 ≤ r → r < limit → Dr a cells (b + 1) M' → Sm a M M' → Q (.int r) M') : W_law_draw K c [.ref a, .int limit] M Q Xd := by
  obtain ⟨l, s, h1, h2, h3⟩ := hM
  exact draw_ok a M cells l s limit hc hl hl2 h2 (by omega) h1 Q Xd fun r l' s' r0 r1 s0 s1 => h r _ r0 r1 ⟨l', s', Mem.put_same, by omega, by omega⟩ fun b z => Mem.put_ne z
theorem atI_mem {ds : List D} {i : Int} (h0 : 0 ≤ i) (h1 : i < ds.length) : ∃ d, atI ds i = some d ∧ d ∈ ds := by
  have hi : i.toNat < ds.length := by omega
  have z := atI_nat (xs := ds) (j := i.toNat) (v := ds[i.toNat]) (List.getElem?_eq_getElem hi)
  rw [Int.toNat_of_nonneg h0] at z
  exact ⟨_, z, List.getElem_mem hi⟩
theorem of_k {a : Addr} {M : Mem} {cells : List Int} {b : Int} {ds : List D} (hc : cells ≠ []) (hb : b < 2 ^ 50) (hd : 0 < ds.length) (hd2 : ds.length < 2 ^ 24) (hM : Dr a cells b M) {Q : QD} {Xd : XD}
    (h : ∀ (d : D) (M' : Mem), d ∈ ds → Dr a cells (b + 1) M' → Sm a M M' → Q d M') : W_law_of K c [.ref a, .lst ds] M Q Xd := by
  refine E_law_of ?_
  repeat fail
  refine draw_k hc (by omega) (by omega) hb hM fun r M' r0 r1 hD hS => ?_
  obtain ⟨d, e, hm⟩ := atI_mem r0 r1
  exact w_ixL e (lo_same (h d M' hm hD hS))
theorem Dr.le {a : Addr} {cells : List Int} {b c : Int} {M : Mem} (h : Dr a cells b M) (k : b ≤ c) : Dr a cells c M := by
  obtain ⟨l, s, h1, h2, h3⟩ := h
  exact ⟨l, s, h1, h2, by omega⟩
theorem w_itemF {ds : List D} {M : Mem} {I : List D → Option Addr → Mem → Prop} (h : I ds none M) : itemK I (.fzn ds) M := h
theorem w_lenF {ds : List D} {M : Mem} {Q : QD} (h : Q (.int ds.length) M) : lenC [.fzn ds] M Q := h
theorem w_listF {ds : List D} {M : Mem} {Q : QD} (h : Q (.lst ds) M) : listC [.fzn ds] M Q := h
theorem toPys_ints : ∀ ns : List Int, toPys (ns.map D.int) = some (ns.map PyData.int)
  | [] => rfl
  | n :: ns => by rw [List.map_cons, toPys, toPys_ints ns]; rfl
theorem lay_ints : ∀ ns : List Int, PyData.canLayAll0 (ns.map PyData.int) = true ∧ PyData.depthAll (ns.map PyData.int) = 0
  | [] => ⟨rfl, rfl⟩
  | n :: ns => by
    obtain ⟨h1, h2⟩ := lay_ints ns
    refine ⟨by rw [List.map_cons]; simp only [PyData.canLayAll0, PyData.canLay0, h1, Bool.and_self], by rw [List.map_cons]; simp only [PyData.depthAll, PyData.depth, h2]; rfl⟩
theorem eq_nil (ns : List Int) : eqO (.lst (ns.map D.int)) (.lst []) = some (decide (ns = [])) := by
  have e : toPy (.lst (ns.map D.int)) = some (.list (ns.map PyData.int)) := by rw [toPy, toPys_ints]; rfl
  have e0 : toPy (.lst []) = some (.list []) := rfl
  obtain ⟨h1, h2⟩ := lay_ints ns
  have s1 : SeqAt.shaped (.list (ns.map PyData.int)) = true := by
    unfold SeqAt.shaped
    simp only [PyData.canLay0, h1, PyData.depth, h2]; rfl
  have s2 : SeqAt.shaped (.list []) = true := rfl
  unfold eqO
  simp only [e, e0, s1, s2, and_self, if_true]
  cases ns with
  | nil => rfl
  | cons n ns => rfl
def greatD : D → Option D
  | .int i => if (10 : Int) ^ 18 ≤ i then some (.int i) else none
  | _ => none
theorem begun_k {ns : List Int} (hl : ns.length ≤ 1000) {M : Mem} {Q : QD} {Xd : XD}
    (h : ∀ (p : Addr) (M' : Mem) (cells : List Int), cells ≠ [] → Dr p cells 0 M' → Sm p M M' → Q (.ref p) M') : W_law_begun K c [.fzn (ns.map D.int)] M Q Xd := by
  refine E_law_begun ?_
  repeat fail
  refine w_lc ?_
  repeat fail
  refine w_itemF ?_
  intro q hq
  have hwp : ∀ x0 x1 x2 : Option D, wipeD [x0, x1, x2] [2] = [x0, x1, none] := fun _ _ _ => rfl
  rw [hwp]
  refine lc_filt hq greatD (fun _ => wat_none) _ [] (by simp [sizeLine_eq]; omega) (fun d hd acc K1 K0 h1 h0 => ?_) ?_
  · obtain ⟨i, hi, rfl⟩ := List.mem_map.mp hd
    repeat fail
    refine w_powI ⟨by decide, by decide, by decide⟩ ?_
    repeat fail
    have e18 : (10 : Int) ^ (18 : Int).toNat = 10 ^ 18 := rfl
    rw [e18]
    refine w_ifd (fun z => ?_) fun z => ?_
    · repeat fail
      exact h1 _ (if_pos z)
    · exact h0 (if_neg z)
  have eg : ∃ gs : List Int, ([] : List D) ++ (ns.map D.int).filterMap greatD = gs.map D.int := by
    rw [List.nil_append]
    clear hl h hq
    induction ns with
    | nil => exact ⟨[], rfl⟩
    | cons n ns ih =>
      obtain ⟨gs, hg⟩ := ih
      rw [List.map_cons, List.filterMap_cons]
      by_cases z : (10 : Int) ^ 18 ≤ n
      · have : greatD (.int n) = some (.int n) := if_pos z
        rw [this]
        exact ⟨n :: gs, by simp only [hg, List.map_cons]⟩
      · have : greatD (.int n) = none := if_neg z
        rw [this]
        exact ⟨gs, hg⟩
  obtain ⟨gs, hgs⟩ := eg
  rw [hgs]
  repeat fail
  refine w_dct ?_
  intro p hp
  repeat fail
  refine w_listF ?_
  repeat fail
  refine w_lenF ?_
  repeat fail
  refine w_addL (by simp [sizeLine_eq]; omega) ?_
  repeat fail
  have fin : ∀ left : Int, (M.put p (.dct [] [])) p = some (.dct [] []) ∧ Lo Q (.ref p) ((M.put p (.dct [] [])).put p (.dct mK [.lst (ns.map D.int ++ [.int ((ns.map D.int).length : Int)]), .int left, .int 0])) := fun left => by
    refine ⟨Mem.put_same, lo_same (h p _ (ns ++ [(ns.length : Int)]) (by simp) ⟨left, 0, ?_, by decide, by decide⟩ fun x hx => ?_)⟩
    · rw [Mem.put_same]
      have e : ns.map D.int ++ [.int ((ns.map D.int).length : Int)] = (ns ++ [(ns.length : Int)]).map D.int := by simp
      rw [e]; rfl
    · rw [Mem.put_ne hx, Mem.put_ne hx]
  refine w_neO (eq_nil gs) ?_
  repeat fail
  refine w_ifnd (fun z => ?_) fun z => ?_
  · cases gs with
    | nil => exact absurd rfl z
    | cons g gs =>
      repeat fail
      refine w_ixL (by have y := atI_nat (xs := (g :: gs).map D.int) (j := 0) (v := .int g) rfl; exact y) ?_
      repeat fail
      exact fin g
  · repeat fail
    exact fin 0
end
set_option maxHeartbeats 4000000
section
variable {K : Fg} {c : Nat → Addr}
theorem rule_k {sh : Int} {u w : Bool} {M : Mem} {Q : QD} {Xd : XD} (h0 : 0 ≤ sh ∧ sh ≤ 100) (h : Q (.bl true) M) : Wis_rule K c [termD sh u w] M Q Xd := by
  refine Eis_rule ?_
  unfold termD
  repeat fail
  refine w_ifF ?_
  repeat fail
  refine w_chdT h0.1 ?_
  repeat fail
  refine w_ifndT h0.2 ?_
  repeat fail
  cases u <;> cases w
  all_goals
    repeat fail
    refine w_eqS (by decide +kernel) (by decide +kernel) ?_
    first
    | rw [show decide (upS true = (Str.ofString "whole")) = true from by decide +kernel]
    | rw [show decide (upS false = (Str.ofString "whole")) = false from by decide +kernel]
    repeat fail
    try
      refine w_eqS (by decide +kernel) (by decide +kernel) ?_
      rw [show decide (upS false = (Str.ofString "own")) = true from by decide +kernel]
      repeat fail
    refine w_eqS (by decide +kernel) (by decide +kernel) ?_
    first
    | rw [show decide (dnS true = (Str.ofString "own")) = true from by decide +kernel]
    | rw [show decide (dnS false = (Str.ofString "own")) = false from by decide +kernel]
    repeat fail
    try
      refine w_eqS (by decide +kernel) (by decide +kernel) ?_
      rw [show decide (dnS false = (Str.ofString "none")) = true from by decide +kernel]
      repeat fail
    exact lo_same h
end
set_option maxHeartbeats 4000000
section
variable {K : Fg} {c : Nat → Addr}
theorem bounds_k {n : D} {hr : Bool} {lo hi : Int} {M : Mem} {Q : QD} {Xd : XD} (h0 : bnd lo hi) (h : Q .non M) : W_need_bounds K c [n, landD hr, .int lo, .int hi] M Q Xd := by
  obtain ⟨b1, b2, b3⟩ := h0
  refine E_need_bounds ?_
  refine w_join (P := fun M1 => M1 = M) (fun M1 e => ?_) fun join => ?_
  · subst e
    repeat fail
    refine w_chdT b1 ?_
    repeat fail
    refine w_ifndT (by omega) ?_
    repeat fail
    refine w_chdT b2 ?_
    repeat fail
    refine w_ifndT b3 ?_
    repeat fail
    exact lo_same h
  · unfold landD
    repeat fail
    cases hr
    · refine w_neS (by decide +kernel) (by decide +kernel) ?_
      rw [show decide (landS false = (Str.ofString "here")) = false from by decide +kernel]
      repeat fail
      refine w_neS (by decide +kernel) (by decide +kernel) ?_
      rw [show decide (landS false = (Str.ofString "away")) = true from by decide +kernel]
      repeat fail
      exact join M rfl
    · refine w_neS (by decide +kernel) (by decide +kernel) ?_
      rw [show decide (landS true = (Str.ofString "here")) = true from by decide +kernel]
      repeat fail
      exact join M rfl
theorem making_k {n : D} {sh : Int} {u w : Bool} {ps : List Th} {M : Mem} {Q : QD} {Xd : XD} (h0 : 0 ≤ sh ∧ sh ≤ 100) (h1 : 1 ≤ ps.length ∧ ps.length ≤ 4) (h : Q .non M) : W_need_making K c [n, termD sh u w, .tup (Th.ds ps)] M Q Xd := by
  refine E_need_making ?_
  repeat fail
  refine rule_k h0 ?_
  repeat fail
  have e : (Th.ds ps).length = ps.length := by rw [ds_map, List.length_map]
  refine w_chdT (by rw [e]; omega) ?_
  repeat fail
  refine w_ifndT (by rw [e]; omega) ?_
  repeat fail
  exact lo_same h
def LookOk (K : Fg) (c : Nat → Addr) (n : Nat) : Prop := ∀ (t : Th) (par : D) (f w m v : Addr) (F W : List D) (Dd V : List Nat) (M0 M : Mem) (Q : QD) (Xd : XD), Ne4 f w m v → t.ok → t.st + 1 ≤ n → F.length + t.sz ≤ 10 → W.length ≤ 10 → W.length = F.length → V.length ≤ F.length → Dd.length + t.st ≤ 4 → S4 M0 f w m v F W (Dd.map nI) (V.map nI) M →
  (∀ M', S4 M0 f w m v (F ++ Th.ds t.fl) (W ++ t.whs F.length par) ((Dd ++ t.mds F.length).map nI) ((V ++ t.mvn F.length).map nI) M' → Q .non M') → W_look_at K c n [t.d, par, .ref f, .ref w, .ref m, .ref v] M Q Xd
theorem look_loop {n : Nat} (ih : LookOk K c n) {f w m v : Addr} (ne : Ne4 f w m v) {M0 : Mem} {nx bk ct : SD → Mem → Prop} {rt : QD} {Xd : XD} {Wt : Mem → Prop} (hW : ∀ M, Wt M) {k : Nat} {d0 d1 x7 x8 x9 x10 x11 x12 x13 x14 : Option D} :
    ∀ (ts : List Th) (F W : List D) (Dd V : List Nat) (M : Mem) (o : Option D), Th.oks ts → Th.sts ts + 1 ≤ n → F.length + Th.szs ts ≤ 10 → W.length = F.length → V.length ≤ F.length → Dd.length + Th.sts ts ≤ 4 → S4 M0 f w m v F W (Dd.map nI) (V.map nI) M →
      (∀ M' o, S4 M0 f w m v (F ++ Th.ds (Th.fls ts)) (W ++ Th.whss ts F.length (nI k)) ((Dd ++ Th.mdss ts F.length).map nI) ((V ++ Th.mvns ts F.length).map nI) M' → nx [d0, d1, some (.ref f), some (.ref w), some (.ref m), some (.ref v), some (.int (k : Int)), x7, x8, x9, x10, x11, x12, x13, x14, o] M') →
      sForL (gNm 15) (sExpr (dCall (W_look_at K c n) [] (dCons (dVar 15) (dCons (dVar 6) (dCons (dVar 2) (dCons (dVar 3) (dCons (dVar 4) (dCons (dVar 5) (dNil))))))))) ⟨nx, rt, bk, ct, Xd⟩ Wt (Th.ds ts) [d0, d1, some (.ref f), some (.ref w), some (.ref m), some (.ref v), some (.int (k : Int)), x7, x8, x9, x10, x11, x12, x13, x14, o] M
  | [], F, W, Dd, V, M, o, h1, h2, h3, h4, h4', h5, h6, h => w_forNil (hW _) (h M o (by simpa [Th.ds, Th.fls, Th.whss, Th.mdss, Th.mvns] using h6))
  | t :: ts, F, W, Dd, V, M, o, h1, h2, h3, h4, h4', h5, h6, h => by
    simp only [Th.sts, Th.szs] at h2 h3 h5
    have := sz_pos t
    refine w_forCons (hW _) ?_
    repeat fail
    refine ih t (nI k) f w m v F W Dd V M0 M _ _ ne h1.1 (by omega) (by omega) (by omega) h4 h4' (by omega) h6 fun M' h7 => ?_
    have hm := mv_le_sz t
    refine look_loop ih ne hW ts _ _ _ _ M' _ h1.2 (by omega) (by rw [List.length_append, ds_map, List.length_map, fl_len]; omega) (by rw [List.length_append, List.length_append, whs_len, ds_map, List.length_map, fl_len, h4]) (by rw [List.length_append, List.length_append, mvn_len, ds_map, List.length_map, fl_len]; omega) (by rw [List.length_append, mds_len]; omega) h7 fun M2 o h8 => h M2 o ?_
    have e : (F ++ Th.ds t.fl).length = F.length + t.sz := by rw [List.length_append, ds_map, List.length_map, fl_len]
    rw [e] at h8
    simp only [Th.fls, Th.whss, Th.mdss, Th.mvns, ds_app]
    simp only [List.append_assoc] at h8
    exact h8
theorem look_k : ∀ n : Nat, LookOk K c n
  | 0 => fun _ _ _ _ _ _ _ _ _ _ _ _ _ _ _ _ h _ _ _ _ _ _ => by omega
  | n + 1 => fun t par f w m v F W Dd V M0 M Q Xd ne hok hn hF hW0 hWF hVF hD hS h => by
    refine E_look_at ?_
    cases t with
    | raw hr lo hi =>
      simp only [Th.sz, Th.st] at hF hD hn
      rw [Th.d]
      repeat fail
      refine w_lenR hS.hf ?_
      repeat fail
      refine w_ifT ?_
      repeat fail
      refine w_eqS (by decide +kernel) (by decide +kernel) ?_
      rw [show decide ((Str.ofString "raw") = (Str.ofString "made")) = false from by decide +kernel]
      repeat fail
      refine w_ifdF (by omega) ?_
      repeat fail
      refine w_lenR hS.hm ?_
      repeat fail
      refine w_ifdF (by rw [List.length_map]; omega) ?_
      repeat fail
      refine w_eqS (by decide +kernel) (by decide +kernel) ?_
      rw [show decide ((Str.ofString "raw") = (Str.ofString "raw")) = true from by decide +kernel]
      repeat fail
      refine w_ifT ?_
      repeat fail
      refine bounds_k hok ?_
      repeat fail
      refine w_appO hS.hf ?_
      repeat fail
      refine w_appK hS.hf (by rw [sizeLine_eq]; omega) ?_
      have hS2 := hS.putF (X := F ++ [(Th.raw hr lo hi).d]) ne
      rw [Th.d] at hS2
      generalize M.put f _ = M2 at hS2 ⊢
      repeat fail
      refine w_appO hS2.hw ?_
      repeat fail
      refine w_appK hS2.hw (by rw [sizeLine_eq]; omega) ?_
      have hS3 := hS2.putW (X := W ++ [par]) ne
      generalize M2.put w _ = M3 at hS3 ⊢
      repeat fail
      refine w_ifd (fun z => ?_) fun z => ?_
      · repeat fail
        refine w_appO hS3.hv ?_
        repeat fail
        refine w_appK hS3.hv (by rw [sizeLine_eq, List.length_map]; omega) ?_
        have hS4 := hS3.putV (X := V.map nI ++ [D.int (F.length : Int)]) ne
        generalize M3.put v _ = M4 at hS4 ⊢
        repeat fail
        refine w_forNil wat_none ?_
        refine lo_same (h M4 ?_)
        simp only [Th.fl, Th.ds, Th.whs, Th.mds, Th.mvn, mvn1, if_pos z, List.append_nil, List.map_append, List.map_cons, List.map_nil]
        exact hS4
      · repeat fail
        refine w_forNil wat_none ?_
        refine lo_same (h M3 ?_)
        simp only [Th.fl, Th.ds, Th.whs, Th.mds, Th.mvn, mvn1, if_neg z, List.append_nil, List.map_append, List.map_cons, List.map_nil]
        exact hS3
    | made hr lo hi sh up dn ps =>
      simp only [Th.sz, Th.st] at hF hD hn
      obtain ⟨q1, q2, q3, q4⟩ := hok
      rw [Th.d]
      repeat fail
      refine w_lenR hS.hf ?_
      repeat fail
      refine w_ifT ?_
      repeat fail
      refine w_eqS (by decide +kernel) (by decide +kernel) ?_
      rw [show decide ((Str.ofString "made") = (Str.ofString "made")) = true from by decide +kernel]
      repeat fail
      refine w_appO hS.hm ?_
      repeat fail
      refine w_appK hS.hm (by rw [sizeLine_eq, List.length_map]; omega) ?_
      have hS1 := hS.putM (X := Dd.map nI ++ [D.int (F.length : Int)]) ne
      generalize M.put m _ = M1 at hS1 ⊢
      repeat fail
      refine w_ifdF (by omega) ?_
      repeat fail
      refine w_lenR hS1.hm ?_
      repeat fail
      refine w_ifdF (by rw [List.length_append, List.length_map, List.length_singleton]; omega) ?_
      repeat fail
      refine w_ifT ?_
      repeat fail
      refine bounds_k q1 ?_
      repeat fail
      refine making_k q2 q3 ?_
      repeat fail
      refine w_appO hS1.hf ?_
      repeat fail
      refine w_appK hS1.hf (by rw [sizeLine_eq]; omega) ?_
      have hS2 := hS1.putF (X := F ++ [(Th.made hr lo hi sh up dn ps).d]) ne
      rw [Th.d] at hS2
      generalize M1.put f _ = M2 at hS2 ⊢
      repeat fail
      refine w_appO hS2.hw ?_
      repeat fail
      refine w_appK hS2.hw (by rw [sizeLine_eq]; omega) ?_
      have hS3 := hS2.putW (X := W ++ [par]) ne
      generalize M2.put w _ = M3 at hS3 ⊢
      refine w_joinS (P := fun s1 M1 => S4 M0 f w m v (F ++ [(Th.made hr lo hi sh up dn ps).d]) (W ++ [par]) ((Dd ++ [F.length]).map nI) ((V ++ mvn1 lo hi F.length).map nI) M1 ∧
        ∃ x7 x8 x10 x11 x12 x13 x14 x15, s1 = [some (Th.made hr lo hi sh up dn ps).d, some par, some (.ref f), some (.ref w), some (.ref m), some (.ref v), some (.int (F.length : Int)), x7, x8, some (.tup (Th.ds ps)), x10, x11, x12, x13, x14, x15]) (fun s1 M1 ⟨hS4, x7, x8, x10, x11, x12, x13, x14, x15, es⟩ => ?_) fun join => ?_
      · subst es
        repeat fail
        have e1 : (F ++ [(Th.made hr lo hi sh up dn ps).d]).length = F.length + 1 := by rw [List.length_append, List.length_singleton]
        have hm1 : (mvn1 lo hi F.length).length ≤ 1 := by rw [mvn1_len]; unfold mv1; split <;> omega
        refine look_loop (look_k n) ne (fun _ => wat_none) ps _ _ _ _ M1 _ q4 (by omega) (by rw [e1]; omega) (by rw [e1, List.length_append, List.length_singleton, hWF]) (by rw [e1, List.length_append]; omega) (by rw [List.length_append, List.length_singleton]; omega) hS4 fun M' o h8 => ?_
        refine lo_same (h M' ?_)
        rw [e1] at h8
        simp only [Th.fl, Th.ds, Th.whs, Th.mds, Th.mvn]
        simp only [List.append_assoc, List.singleton_append] at h8
        exact h8
      · repeat fail
        refine w_ifd (fun z => ?_) fun z => ?_
        · repeat fail
          refine w_appO hS3.hv ?_
          repeat fail
          refine w_appK hS3.hv (by rw [sizeLine_eq, List.length_map]; omega) ?_
          have hS4 := hS3.putV (X := V.map nI ++ [D.int (F.length : Int)]) ne
          generalize M3.put v _ = M4 at hS4 ⊢
          refine join _ M4 ⟨?_, _, _, _, _, _, _, _, _, by rw [Th.d]⟩
          simp only [mvn1, if_pos z, List.map_append, List.map_cons, List.map_nil]
          rw [Th.d]
          exact hS4
        · repeat fail
          refine join _ M3 ⟨?_, _, _, _, _, _, _, _, _, by rw [Th.d]⟩
          simp only [mvn1, if_neg z, List.map_append, List.map_cons, List.map_nil, List.append_nil]
          rw [Th.d]
          exact hS3
end
set_option maxHeartbeats 4000000
section
variable {K : Fg} {c : Nat → Addr}
def lowOf : Th → Int
  | .raw _ lo _ => lo
  | .made _ lo _ _ _ _ _ => lo
def higOf : Th → Int
  | .raw _ _ hi => hi
  | .made _ _ hi _ _ _ _ => hi
theorem d_ix2' {t : Th} {M : Mem} {Q : QD} (h : Q (.int (lowOf t)) M) : ixD t.d (.int 2) M Q := by
  cases t with
  | raw _ _ _ => rw [Th.d]; exact w_ixT2 h
  | made _ _ _ _ _ _ _ => rw [Th.d]; exact w_ixT2 h
theorem d_ix3' {t : Th} {M : Mem} {Q : QD} (h : Q (.int (higOf t)) M) : ixD t.d (.int 3) M Q := by
  cases t with
  | raw _ _ _ => rw [Th.d]; exact w_ixT3 h
  | made _ _ _ _ _ _ _ => rw [Th.d]; exact w_ixT3 h
mutual
theorem any_fl : ∀ t : Th, t.any = true → ∃ x ∈ t.fl, 0 < lowOf x
  | .raw h lo hi, e => ⟨_, List.mem_singleton.mpr rfl, by have e : decide (0 < lo) = true := e; exact of_decide_eq_true e⟩
  | .made h lo hi sh u w ps, e => by
    simp only [Th.any, Bool.or_eq_true, decide_eq_true_eq] at e
    rcases e with e | e
    · exact ⟨_, List.mem_cons_self, e⟩
    · obtain ⟨x, h1, h2⟩ := any_fls ps e
      exact ⟨x, List.mem_cons_of_mem _ h1, h2⟩
theorem any_fls : ∀ ts : List Th, Th.anys ts = true → ∃ x ∈ Th.fls ts, 0 < lowOf x
  | [], e => by cases e
  | t :: ts, e => by
    simp only [Th.anys, Bool.or_eq_true] at e
    rcases e with e | e
    · obtain ⟨x, h1, h2⟩ := any_fl t e
      exact ⟨x, List.mem_append_left _ h1, h2⟩
    · obtain ⟨x, h1, h2⟩ := any_fls ts e
      exact ⟨x, List.mem_append_right _ h1, h2⟩
end
theorem low_loop {nx bk ct : SD → Mem → Prop} {rt : QD} {Xd : XD} {d0 : Option D} {f w m v : Addr} {W : Mem → Prop} {M : Mem} (hW : W M) (h : rt (.tup [.ref f, .ref w, .ref m, .ref v]) M) : ∀ (ts : List Th) (o : Option D), (∃ x ∈ ts, 0 < lowOf x) →
    sForL (gNm 5) (sIf (dTst (dOp gtD (dOp ixD (dVar 5) (dC (.int 2))) (dC (.int 0)))) (sRet (dTup (dCons (dVar 1) (dCons (dVar 2) (dCons (dVar 3) (dCons (dVar 4) (dNil))))))) (sNx)) ⟨nx, rt, bk, ct, Xd⟩ W (Th.ds ts) [d0, some (.ref f), some (.ref w), some (.ref m), some (.ref v), o] M
  | [], _, ⟨x, hx, _⟩ => by cases hx
  | t :: ts, o, ⟨x, hx, hl⟩ => by
    refine w_forCons hW ?_
    repeat fail
    refine d_ix2' ?_
    repeat fail
    refine w_ifd (fun z => ?_) fun z => ?_
    · repeat fail
      exact h
    · repeat fail
      refine low_loop hW h ts _ ?_
      rcases List.mem_cons.mp hx with rfl | hx
      · exact absurd hl z
      · exact ⟨x, hx, hl⟩
theorem over_k {t : Th} (hg : t.good) {M : Mem} {Q : QD} {Xd : XD} (h : Q (.tup [.lst (Th.ds t.fl), .lst (t.whs 0 .non), .lst ((t.mds 0).map nI), .lst ((t.mvn 0).map nI)]) M) : Wlook_over K c [t.d] M Q Xd := by
  obtain ⟨h1, h2, h3, h4, h5, h6⟩ := hg
  refine Elook_over ?_
  repeat fail
  refine w_lstO ?_
  repeat fail
  intro f hf
  repeat fail
  refine w_lstO ?_
  repeat fail
  intro w hw
  repeat fail
  refine w_lstO ?_
  repeat fail
  intro m hm
  repeat fail
  refine w_lstO ?_
  repeat fail
  intro v hv
  repeat fail
  have nfw : f ≠ w := fun e => by rw [← e, Mem.put_same] at hw; cases hw
  have nfm : f ≠ m := fun e => by rw [← e, Mem.put_ne nfw, Mem.put_same] at hm; cases hm
  have nwm : w ≠ m := fun e => by rw [← e, Mem.put_same] at hm; cases hm
  have nfv : f ≠ v := fun e => by rw [← e, Mem.put_ne nfm, Mem.put_ne nfw, Mem.put_same] at hv; cases hv
  have nwv : w ≠ v := fun e => by rw [← e, Mem.put_ne nwm, Mem.put_same] at hv; cases hv
  have nmv : m ≠ v := fun e => by rw [← e, Mem.put_same] at hv; cases hv
  rw [Mem.put_ne (Ne.symm nfw)] at hw
  rw [Mem.put_ne (Ne.symm nwm), Mem.put_ne (Ne.symm nfm)] at hm
  rw [Mem.put_ne (Ne.symm nmv), Mem.put_ne (Ne.symm nwv), Mem.put_ne (Ne.symm nfv)] at hv
  have ne : Ne4 f w m v := ⟨nfw, nfm, nfv, nwm, nwv, nmv⟩
  have S : S4 M f w m v [] [] (([] : List Nat).map nI) (([] : List Nat).map nI) ((((M.put f (.lst [])).put w (.lst [])).put m (.lst [])).put v (.lst [])) :=
    ⟨by rw [Mem.put_ne nfv, Mem.put_ne nfm, Mem.put_ne nfw, Mem.put_same], by rw [Mem.put_ne nwv, Mem.put_ne nwm, Mem.put_same], by rw [Mem.put_ne nmv, Mem.put_same]; rfl, Mem.put_same, fun x a b c d => by rw [Mem.put_ne d, Mem.put_ne c, Mem.put_ne b, Mem.put_ne a]⟩
  generalize (((M.put f (.lst [])).put w (.lst [])).put m (.lst [])).put v (.lst []) = M1 at S
  refine look_k 8 t .non f w m v [] [] [] [] M M1 _ _ ne h2 (by omega) (by simp; omega) (by simp) rfl (by simp) (by simp; omega) S fun M2 S2 => ?_
  simp only [List.nil_append, List.length_nil] at S2
  repeat fail
  refine w_lenR S2.hm ?_
  repeat fail
  have hst : 0 < (t.mds 0).length := by
    rw [mds_len]
    cases t with
    | raw _ _ _ => cases h1
    | made _ _ _ _ _ _ ps => simp only [Th.st]; omega
  refine w_ifdF (by rw [List.length_map]; omega) ?_
  repeat fail
  refine w_lenR S2.hv ?_
  repeat fail
  refine w_ifdF (by rw [List.length_map, mvn_len]; omega) ?_
  repeat fail
  refine w_itemR S2.hf ?_
  refine low_loop (wat_some rfl) ?_ _ none (any_fl t h6)
  refine lo_frzT 0 (by rfl) S2.hf ?_
  refine lo_frzT 1 (by rfl) ((Mem.del_ne (Ne.symm nfw)).trans S2.hw) ?_
  refine lo_frzT 2 (by rfl) ((Mem.del_ne (Ne.symm nwm)).trans ((Mem.del_ne (Ne.symm nfm)).trans S2.hm)) ?_
  refine lo_frzT 3 (by rfl) ((Mem.del_ne (Ne.symm nmv)).trans ((Mem.del_ne (Ne.symm nwv)).trans ((Mem.del_ne (Ne.symm nfv)).trans S2.hv))) ?_
  have eM : (((M2.del f).del w).del m).del v = M := by
    funext x
    by_cases ev : x = v
    · subst ev; rw [Mem.del_same, hv]
    rw [Mem.del_ne ev]
    by_cases em : x = m
    · subst em; rw [Mem.del_same, hm]
    rw [Mem.del_ne em]
    by_cases ew : x = w
    · subst ew; rw [Mem.del_same, hw]
    rw [Mem.del_ne ew]
    by_cases ef : x = f
    · subst ef; rw [Mem.del_same, hf]
    rw [Mem.del_ne ef]
    exact S2.o x ef ew em ev
  rw [eM]
  exact lo_same h
end
set_option maxHeartbeats 4000000
section
variable {K : Fg} {c : Nat → Addr}
theorem term_k {a : Addr} {M : Mem} {cells : List Int} {b : Int} (hc : cells ≠ []) (hb : b < 2 ^ 49) (hM : Dr a cells b M) {Q : QD} {Xd : XD}
    (h : ∀ (sh : Int) (u w : Bool) (M' : Mem), 0 ≤ sh → sh ≤ 100 → Dr a cells (b + 4) M' → Sm a M M' → Q (termD sh u w) M') : W_law_term K c [.ref a] M Q Xd := by
  refine E_law_term ?_
  repeat fail
  refine draw_k hc (by omega) (by omega) (by omega) hM fun r1 M1 a1 a2 hD1 hS1 => ?_
  repeat fail
  refine of_k hc (by omega) (by simp) (by simp) hD1 fun d M2 hd hD2 hS2 => ?_
  obtain ⟨sh, rfl, b1, b2⟩ : ∃ sh : Int, d = .int sh ∧ 0 ≤ sh ∧ sh ≤ 100 := by
    simp only [List.mem_cons, List.not_mem_nil, or_false] at hd
    rcases hd with rfl | rfl | rfl | rfl | rfl | rfl <;> exact ⟨_, rfl, by omega, by omega⟩
  repeat fail
  refine of_k hc (by omega) (by simp) (by simp) hD2 fun d M3 hd hD3 hS3 => ?_
  obtain ⟨u, rfl⟩ : ∃ u : Bool, d = .str (upS u) := by
    simp only [List.mem_cons, List.not_mem_nil, or_false] at hd
    rcases hd with rfl | rfl | rfl
    · exact ⟨true, rfl⟩
    · exact ⟨true, rfl⟩
    · exact ⟨false, rfl⟩
  repeat fail
  refine of_k hc (by omega) (by simp) (by simp) hD3 fun d M4 hd hD4 hS4 => ?_
  obtain ⟨w, rfl⟩ : ∃ u : Bool, d = .str (dnS u) := by
    simp only [List.mem_cons, List.not_mem_nil, or_false] at hd
    rcases hd with rfl | rfl | rfl
    · exact ⟨true, rfl⟩
    · exact ⟨true, rfl⟩
    · exact ⟨false, rfl⟩
  repeat fail
  exact lo_same (h sh u w M4 b1 b2 (by have e : b + 4 = b + 1 + 1 + 1 + 1 := by omega
                                       rw [e]; exact hD4) (((hS1.trans hS2).trans hS3).trans hS4))
def lK : List Key := [.inr "moves", .inr "steps", .inr "things"]
def lV (mv st th : Nat) : List D := [.int mv, .int st, .int th]
def Lf (l : Addr) (mv st th : Nat) (M : Mem) : Prop := M l = some (.dct lK (lV mv st th))
theorem lK_nd : lK.Nodup ∧ lK.length < 1000 := by decide
theorem Sm.lf {a l : Addr} {M M' : Mem} {mv st th : Nat} (h : Sm a M M') (ne : l ≠ a) (k : Lf l mv st th M) : Lf l mv st th M' := (h l ne).trans k
theorem vl_m (mv st th : Nat) : valD lK (lV mv st th) (.inr "moves") = some (.int mv) := rfl
theorem vl_st (mv st th : Nat) : valD lK (lV mv st th) (.inr "steps") = some (.int st) := rfl
theorem vl_th (mv st th : Nat) : valD lK (lV mv st th) (.inr "things") = some (.int th) := rfl
def Sm2 (a l : Addr) (M M' : Mem) : Prop := ∀ b, b ≠ a → b ≠ l → M' b = M b
theorem Sm2.refl {a l : Addr} {M : Mem} : Sm2 a l M M := fun _ _ _ => rfl
theorem Sm2.trans {a l : Addr} {M M1 M2 : Mem} (h : Sm2 a l M M1) (k : Sm2 a l M1 M2) : Sm2 a l M M2 := fun b y z => (k b y z).trans (h b y z)
theorem Sm.two {a l : Addr} {M M' : Mem} (h : Sm a M M') : Sm2 a l M M' := fun b y _ => h b y
theorem Dr.put {a l : Addr} {cells : List Int} {b : Int} {M : Mem} {o : MO} (h : Dr a cells b M) (ne : a ≠ l) : Dr a cells b (M.put l o) := by
  obtain ⟨x, s, h1, h2, h3⟩ := h
  exact ⟨x, s, by rw [Mem.put_ne ne]; exact h1, h2, h3⟩
theorem span_k {a l : Addr} {M : Mem} {cells : List Int} {b : Int} {mv st th : Nat} (hc : cells ≠ []) (hb : b < 2 ^ 49) (ne : l ≠ a) (hM : Dr a cells b M) (hL : Lf l mv st th M) {Q : QD} {Xd : XD}
    (h : ∀ (lo hi : Int) (mv' : Nat) (M' : Mem), bnd lo hi → mv' + mv1 lo hi = mv → Dr a cells (b + 6) M' → Lf l mv' st th M' → Sm2 a l M M' → Q (.tup [.int lo, .int hi]) M') : W_law_span K c [.ref a, .ref l] M Q Xd := by
  refine E_law_span ?_
  repeat fail
  refine draw_k hc (by omega) (by omega) (by omega) hM fun r1 M1 a1 a2 hD1 hS1 => ?_
  repeat fail
  refine w_powI ⟨by decide, by decide, by decide⟩ ?_
  repeat fail
  refine draw_k hc (by decide) (by decide) (by omega) hD1 fun r2 M2 a3 a4 hD2 hS2 => ?_
  have a4 : r2 < 999960 := a4
  repeat fail
  refine of_k hc (by omega) (by simp) (by simp) hD2 fun d M3 hd hD3 hS3 => ?_
  obtain ⟨lo, rfl, b1, b2⟩ : ∃ sh : Int, d = .int sh ∧ 0 ≤ sh ∧ sh ≤ 999960 := by
    simp only [List.mem_cons, List.not_mem_nil, or_false] at hd
    rcases hd with rfl | rfl | rfl | rfl | rfl | rfl | rfl <;> exact ⟨_, rfl, by omega, by omega⟩
  have hL3 : Lf l mv st th M3 := hS3.lf ne (hS2.lf ne (hS1.lf ne hL))
  have s3 : Sm2 a l M M3 := ((hS1.trans hS2).trans hS3).two
  repeat fail
  refine w_ixRD hL3 (vl_m _ _ _) ?_
  repeat fail
  refine w_ifd (fun z => ?_) fun z => ?_
  · repeat fail
    refine lo_same (h lo lo mv M3 ⟨b1, Int.le_refl _, by omega⟩ (by unfold mv1; rw [if_neg (Int.lt_irrefl _)]; rfl) (hD3.le (by omega)) hL3 s3)
  repeat fail
  refine draw_k hc (by omega) (by omega) (by omega) hD3 fun r4 M4 a5 a6 hD4 hS4 => ?_
  have hL4 := hS4.lf ne hL3
  repeat fail
  by_cases z2 : r4 = 0
  · rw [decide_eq_true z2]
    repeat fail
    refine lo_same (h lo lo mv M4 ⟨b1, Int.le_refl _, by omega⟩ (by unfold mv1; rw [if_neg (Int.lt_irrefl _)]; rfl) (hD4.le (by omega)) hL4 (s3.trans hS4.two))
  rw [decide_eq_false z2]
  repeat fail
  refine w_ixRD hL4 (vl_m _ _ _) ?_
  repeat fail
  obtain ⟨k, rfl⟩ : ∃ k : Nat, mv = k + 1 := ⟨mv - 1, by omega⟩
  refine w_setD hL4 lK_nd ?_
  have e5 : M4.put l (.dct (putD lK (lV (k + 1) st th) (.inr "moves") (.int (((k + 1 : Nat) : Int) - 1))).1 (putD lK (lV (k + 1) st th) (.inr "moves") (.int (((k + 1 : Nat) : Int) - 1))).2) = M4.put l (.dct lK (lV k st th)) := by
    have : ((k + 1 : Nat) : Int) - 1 = (k : Int) := by omega
    rw [this]; rfl
  refine (congrArg _ e5).mpr ?_
  have hL5 : Lf l k st th (M4.put l (.dct lK (lV k st th))) := Mem.put_same
  have hD5 : Dr a cells _ (M4.put l (.dct lK (lV k st th))) := hD4.put (Ne.symm ne)
  have s5 : Sm2 a l M4 (M4.put l (.dct lK (lV k st th))) := fun b y z => Mem.put_ne z
  generalize M4.put l (.dct lK (lV k st th)) = M5 at hL5 hD5 s5
  repeat fail
  refine draw_k hc (by omega) (by omega) (by omega) hD5 fun r6 M6 a7 a8 hD6 hS6 => ?_
  repeat fail
  refine of_k hc (by omega) (by simp) (by simp) hD6 fun d M7 hd hD7 hS7 => ?_
  obtain ⟨up, rfl, c1, c2⟩ : ∃ sh : Int, d = .int sh ∧ 0 ≤ sh ∧ sh ≤ 29 := by
    simp only [List.mem_cons, List.not_mem_nil, or_false] at hd
    rcases hd with rfl | rfl | rfl <;> exact ⟨_, rfl, by omega, by omega⟩
  repeat fail
  refine lo_same (h lo (lo + 1 + up) k M7 ⟨b1, by omega, by omega⟩ (by unfold mv1; rw [if_pos (by omega)]) (hD7.le (by omega)) (hS7.lf ne (hS6.lf ne hL5)) (((s3.trans hS4.two).trans s5).trans (hS6.trans hS7).two))
end
set_option maxHeartbeats 4000000
section
variable {K : Fg} {c : Nat → Addr}
theorem Lf.put_st (mv st th : Nat) (l : Addr) (M : Mem) : M.put l (.dct (putD lK (lV mv (st + 1) th) (.inr "steps") (.int (((st + 1 : Nat) : Int) - 1))).1 (putD lK (lV mv (st + 1) th) (.inr "steps") (.int (((st + 1 : Nat) : Int) - 1))).2) = M.put l (.dct lK (lV mv st th)) := by
  have : ((st + 1 : Nat) : Int) - 1 = (st : Int) := by omega
  rw [this]; rfl
theorem Lf.put_th (mv st th k : Nat) (l : Addr) (M : Mem) : M.put l (.dct (putD lK (lV mv st (th + k)) (.inr "things") (.int (((th + k : Nat) : Int) - (k : Nat)))).1 (putD lK (lV mv st (th + k)) (.inr "things") (.int (((th + k : Nat) : Int) - (k : Nat)))).2) = M.put l (.dct lK (lV mv st th)) := by
  have : ((th + k : Nat) : Int) - (k : Nat) = (th : Int) := by omega
  rw [this]; rfl
theorem Sm2.drop {a l p : Addr} {M M' : Mem} (hp : M p = none) (h : ∀ b, b ≠ a → b ≠ l → b ≠ p → M' b = M b) : Sm2 a l M (M'.del p) := fun b y z => by
  by_cases e : b = p
  · subst e; rw [Mem.del_same, hp]
  · rw [Mem.del_ne e]; exact h b y z e
def ThingOk (K : Fg) (c : Nat → Addr) (a l : Addr) (cells : List Int) (n : Nat) : Prop := ∀ (M : Mem) (b : Int) (mv st th : Nat) (must : Bool) (Q : QD) (Xd : XD), st + 1 ≤ n → (must = true → 1 ≤ st ∧ 1 ≤ th) → th < 1000 → b + 14 * (th + 1) < 2 ^ 48 → Dr a cells b M → Lf l mv st th M →
    (∀ (t : Th) (mv' st' th' : Nat) (M' : Mem), t.ok → mv' + t.mv = mv → st' + t.st = st → th' + t.sz = th + 1 → (must = true → t.isMade = true) → Dr a cells (b + 14 * t.sz) M' → Lf l mv' st' th' M' → Sm2 a l M M' → Q t.d M') → W_law_thing K c n [.ref a, .ref l, .bl must] M Q Xd
theorem thing_loop {a l p : Addr} {cells : List Int} (ne : l ≠ a) (np : p ≠ l) (npa : p ≠ a) {n : Nat} (ih : ThingOk K c a l cells n) {M0 : Mem} {b : Int} {mv st th k : Nat} {d2 d3 d4 d5 d6 : D} {Xd : XD} {nx bk ct : SD → Mem → Prop} {rt : QD} {W : Mem → Prop} (hW : ∀ M, W M)
    (hn : st + 1 ≤ n) (hth : th < 1000) (hb : b + 14 * (th + k) < 2 ^ 48)
    (fin : ∀ (ts : List Th) (mv' st' th' : Nat) (M' : Mem) (o : Option D), ts.length = k → Th.oks ts → mv' + Th.mvs ts = mv → st' + Th.sts ts = st → th' + Th.szs ts = th + k → Dr a cells (b + 14 * Th.szs ts) M' → Lf l mv' st' th' M' → (∀ x, x ≠ a → x ≠ l → x ≠ p → M' x = M0 x) → M' p = some (.lst (Th.ds ts)) →
      nx [some (.ref a), some (.ref l), some d2, some d3, some d4, some d5, some d6, some (.ref p), o] M') :
    ∀ (is : List D) (ts : List Th) (mv' st' th' : Nat) (M' : Mem) (o : Option D), ts.length + is.length = k → k ≤ 3 → Th.oks ts → mv' + Th.mvs ts = mv → st' + Th.sts ts = st → th' + Th.szs ts = th + ts.length → Dr a cells (b + 14 * Th.szs ts) M' → Lf l mv' st' th' M' → (∀ x, x ≠ a → x ≠ l → x ≠ p → M' x = M0 x) → M' p = some (.lst (Th.ds ts)) →
      sForL (gNm 8) (sExpr (dApp (dVar 7) (dCall (W_law_thing K c n) [] (dCons (dVar 0) (dCons (dVar 1) (dCons (dC (.bl false)) dNil)))))) ⟨nx, rt, bk, ct, Xd⟩ W is [some (.ref a), some (.ref l), some d2, some d3, some d4, some d5, some d6, some (.ref p), o] M'
  | [], ts, mv', st', th', M', o, e, hk, h1, h2, h3, h4, h5, h6, h7, h8 => by
    have e : ts.length = k := by simpa using e
    exact w_forNil (hW _) (fin ts mv' st' th' M' o e h1 h2 h3 (by omega) h5 h6 h7 h8)
  | i :: is, ts, mv', st', th', M', o, e, hk, h1, h2, h3, h4, h5, h6, h7, h8 => by
    rw [List.length_cons] at e
    refine w_forCons (hW _) ?_
    repeat fail
    refine w_appO h8 ?_
    repeat fail
    have hge := szs_ge ts
    refine ih M' (b + 14 * Th.szs ts) mv' st' th' false _ _ (by omega) (fun z => by cases z) (by omega) (by omega) h5 h6 fun t mv2 st2 th2 M2 q1 q2 q3 q4 _ q5 q6 q7 => ?_
    have hp2 : M2 p = some (.lst (Th.ds ts)) := (q7 p npa np).trans h8
    refine w_appK hp2 (by rw [ds_map, List.length_map, sizeLine_eq]; omega) ?_
    have e1 : Th.ds ts ++ [t.d] = Th.ds (ts ++ [t]) := by rw [ds_app]; rfl
    rw [e1]
    refine thing_loop ne np npa ih hW hn hth hb fin is (ts ++ [t]) mv2 st2 th2 _ _ (by rw [List.length_append, List.length_singleton]; omega) hk ((oks_app _ _).mpr ⟨h1, q1, trivial⟩) (by rw [mvs_app]; simp only [Th.mvs]; omega) (by rw [sts_app]; simp only [Th.sts]; omega)
      (by rw [szs_app, List.length_append, List.length_singleton]; simp only [Th.szs]; omega) ((q5.put (Ne.symm npa)).le (by rw [szs_app]; simp only [Th.szs]; omega)) ((Mem.put_ne (Ne.symm np)).trans q6)
      (fun x z1 z2 z3 => by rw [Mem.put_ne z3, q7 x z1 z2]; exact h7 x z1 z2 z3) Mem.put_same
theorem thing_k {a l : Addr} {cells : List Int} (hc : cells ≠ []) (ne : l ≠ a) : ∀ (n : Nat), ThingOk K c a l cells n
  | 0 => fun _ _ _ _ _ _ _ _ hn _ _ _ _ _ _ => by omega
  | n + 1 => fun M b mv st th must Q Xd hn hm hth hb hD hL h => by
    refine E_law_thing ?_
    repeat fail
    refine span_k hc (by omega) ne hD hL fun lo hi mv1' M1 hbd hmv hD1 hL1 s1 => ?_
    repeat fail
    refine of_k hc (by omega) (by simp) (by simp) hD1 fun d M2 hd hD2 hS2 => ?_
    obtain ⟨hr, rfl⟩ : ∃ u : Bool, d = landD u := by
      simp only [List.mem_cons, List.not_mem_nil, or_false] at hd
      rcases hd with rfl | rfl
      · exact ⟨true, rfl⟩
      · exact ⟨false, rfl⟩
    have hL2 := hS2.lf ne hL1
    have s2 := s1.trans hS2.two
    -- what comes of a raw one
    have raw : ∀ (M' : Mem), must = false → Dr a cells (b + 8) M' → Lf l mv1' st th M' → Sm2 a l M M' → Lo Q (.tup [.str "raw", landD hr, .int lo, .int hi]) M' := fun M' hmu hD' hL' s' =>
      lo_same (h (.raw hr lo hi) mv1' st th M' hbd hmv (by show st + 0 = st; rfl) (by show th + 1 = th + 1; rfl) (fun z => by rw [hmu] at z; cases z) (hD'.le (by show b + 8 ≤ b + 14 * ((1 : Nat) : Int); omega)) hL' s')
    refine w_join (P := fun M3 => 1 ≤ st ∧ 1 ≤ th ∧ Dr a cells (b + 8) M3 ∧ Lf l mv1' st th M3 ∧ Sm2 a l M M3) (fun M3 ⟨st1, th1, hD3, hL3, s3⟩ => ?_) (fun join => ?_)
    · obtain ⟨st, rfl⟩ : ∃ k, st = k + 1 := ⟨st - 1, by omega⟩
      repeat fail
      refine w_ixRD hL3 (vl_st _ _ _) ?_
      repeat fail
      refine w_setD hL3 lK_nd ?_
      refine (congrArg _ (Lf.put_st mv1' st th l M3)).mpr ?_
      have hL4 : Lf l mv1' st th (M3.put l (.dct lK (lV mv1' st th))) := Mem.put_same
      have hD4 : Dr a cells _ (M3.put l (.dct lK (lV mv1' st th))) := hD3.put (Ne.symm ne)
      have s4 : Sm2 a l M (M3.put l (.dct lK (lV mv1' st th))) := s3.trans fun b y z => Mem.put_ne z
      generalize M3.put l (.dct lK (lV mv1' st th)) = M4 at hL4 hD4 s4
      repeat fail
      refine w_ixRD hL4 (vl_th _ _ _) ?_
      repeat fail
      refine draw_k hc (by split <;> omega) (by split <;> omega) (by omega) hD4 fun r M5 r0 r1 hD5 hS5 => ?_
      have hL5 := hS5.lf ne hL4
      have s5 := s4.trans hS5.two
      obtain ⟨k, rfl⟩ : ∃ k : Nat, r = (k : Int) := ⟨r.toNat, by omega⟩
      have hk : k + 1 ≤ 3 ∧ k + 1 ≤ th := by split at r1 <;> omega
      clear r1
      obtain ⟨th, rfl⟩ : ∃ j, th = j + (k + 1) := ⟨th - (k + 1), by omega⟩
      have ek : (1 : Int) + (k : Int) = ((k + 1 : Nat) : Int) := by omega
      refine w_addI ?_
      rw [ek]
      repeat fail
      refine w_ixRD hL5 (vl_th _ _ _) ?_
      repeat fail
      refine w_lstO ?_
      repeat fail
      intro p hp
      repeat fail
      have np : p ≠ l := fun e => by rw [e] at hp; rw [show M5 l = _ from hL5] at hp; cases hp
      have npa : p ≠ a := fun e => by obtain ⟨_, _, z, _⟩ := hD5; rw [← e, hp] at z; cases z
      have hpM : M p = none := (s5 p npa np).symm.trans hp
      have hL6 : Lf l mv1' st (th + (k + 1)) (M5.put p (.lst [])) := (Mem.put_ne (Ne.symm np)).trans hL5
      refine w_setD hL6 lK_nd ?_
      rw [Lf.put_th mv1' st th (k + 1) l]
      have hL7 : Lf l mv1' st th ((M5.put p (.lst [])).put l (.dct lK (lV mv1' st th))) := Mem.put_same
      have hD7 : Dr a cells _ ((M5.put p (.lst [])).put l (.dct lK (lV mv1' st th))) := (hD5.put (Ne.symm npa)).put (Ne.symm ne)
      have s7 : ∀ b, b ≠ a → b ≠ l → b ≠ p → ((M5.put p (.lst [])).put l (.dct lK (lV mv1' st th))) b = M b := fun b y z w => by
        rw [Mem.put_ne z, Mem.put_ne w]; exact s5 b y z
      have hp7 : ((M5.put p (.lst [])).put l (.dct lK (lV mv1' st th))) p = some (.lst (Th.ds [])) := by rw [Mem.put_ne np]; exact Mem.put_same
      generalize (M5.put p (.lst [])).put l (.dct lK (lV mv1' st th)) = M7 at hL7 hD7 s7 hp7
      repeat fail
      refine w_rng1 (by omega) ?_
      rw [Int.toNat_natCast]
      refine thing_loop (th := th) (mv := mv1') (st := st) (b := b + 9) (k := k + 1) (M0 := M) ne np npa (thing_k hc ne n) (fun _ => wat_none) (by omega) (by omega) (by omega) (fun ts mv' st' th' M' o g1 g2 g3 g4 g5 g6 g7 g8 g9 => ?_) (rngL 0 (k + 1)) [] mv1' st th M7 none (by unfold rngL; simp) hk.1 True.intro (by simp [Th.mvs]) (by simp [Th.sts]) (by simp [Th.szs]) (hD7.le (by simp only [Th.szs]; omega)) hL7 s7 hp7
      repeat fail
      refine term_k hc (by omega) g6 fun sh u w M8 b1 b2 hD8 hS8 => ?_
      repeat fail
      refine w_tupR ((hS8 p npa).trans g9) ?_
      repeat fail
      refine lo_drop p (lo_same ?_)
      have hD9 : Dr a cells (b + 9 + 14 * Th.szs ts + 4) (M8.del p) := by
        obtain ⟨x, s, z1, z2, z3⟩ := hD8
        exact ⟨x, s, (Mem.del_ne (Ne.symm npa)).trans z1, z2, z3⟩
      exact h (.made hr lo hi sh u w ts) mv' st' th' (M8.del p) ⟨hbd, ⟨b1, b2⟩, ⟨by omega, by omega⟩, g2⟩ (by simp only [Th.mv]; omega) (by simp only [Th.st]; omega) (by simp only [Th.sz]; omega) (fun _ => rfl) (hD9.le (by simp only [Th.sz]; omega)) ((Mem.del_ne (Ne.symm np)).trans ((hS8 l ne).trans g7))
        (Sm2.drop hpM fun x z1 z2 z3 => (hS8 x z1).trans (g8 x z1 z2 z3))
    · cases must with
      | true =>
        repeat fail
        exact join M2 ⟨(hm rfl).1, (hm rfl).2, hD2.le (by omega), hL2, s2⟩
      | false =>
        repeat fail
        refine w_ixRD hL2 (vl_st _ _ _) ?_
        repeat fail
        refine w_ifd (fun z => ?_) fun z => ?_
        · repeat fail
          exact raw M2 rfl (hD2.le (by omega)) hL2 s2
        repeat fail
        refine w_ixRD hL2 (vl_th _ _ _) ?_
        repeat fail
        refine w_ifd (fun z => ?_) fun z2 => ?_
        · repeat fail
          exact raw M2 rfl (hD2.le (by omega)) hL2 s2
        repeat fail
        refine draw_k hc (by omega) (by omega) (by omega) hD2 fun r M3 r0 r1 hD3 hS3 => ?_
        repeat fail
        refine w_ifd (fun z => ?_) fun z3 => ?_
        · repeat fail
          exact raw M3 rfl (hD3.le (by omega)) (hS3.lf ne hL2) (s2.trans hS3.two)
        repeat fail
        exact join M3 ⟨by omega, by omega, hD3.le (by omega), hS3.lf ne hL2, s2.trans hS3.two⟩
theorem mv1_max {lo hi : Int} : mv1 (if (lo : Int) > 1 then lo else 1) (if hi > 1 then hi else 1) ≤ mv1 lo hi := by
  unfold mv1
  split <;> split <;> split <;> omega
theorem good_k {a : Addr} {M : Mem} {cells : List Int} {b : Int} {moving making : Nat} (hc : cells ≠ []) (hb : b < 2 ^ 47) (hmo : moving ≤ 3) (hma : 1 ≤ making ∧ making ≤ 4) (hM : Dr a cells b M) {Q : QD} {Xd : XD}
    (h : ∀ (t : Th) (M' : Mem), t.good → t.mv ≤ moving → t.st ≤ making → Dr a cells (b + 150) M' → Sm a M M' → Q t.d M') : W_law_good K c [.ref a, .int moving, .int making] M Q Xd := by
  refine E_law_good ?_
  repeat fail
  refine w_dct ?_
  intro p hp
  have npa : p ≠ a := fun e => by obtain ⟨_, _, z, _⟩ := hM; rw [← e, hp] at z; cases z
  have hM1 : Dr a cells b (M.put p (.dct [] [])) := hM.put (Ne.symm npa)
  have s1 : ∀ x, x ≠ a → x ≠ p → (M.put p (.dct [] [])) x = M x := fun x _ z => Mem.put_ne z
  have e1 : (M.put p (.dct [] [])) p = some (.dct [] []) := Mem.put_same
  generalize M.put p (.dct [] []) = M1 at hM1 s1 e1
  repeat fail
  refine draw_k hc (by omega) (by omega) (by omega) hM1 fun r1 M2 a1 a2 hD2 hS2 => ?_
  repeat fail
  refine draw_k hc (by omega) (by omega) (by omega) hD2 fun r2 M3 a3 a4 hD3 hS3 => ?_
  have hS := hS2.trans hS3
  repeat fail
  refine ⟨(hS p npa).trans e1, ?_⟩
  obtain ⟨mv, rfl⟩ : ∃ k : Nat, r1 = (k : Int) := ⟨r1.toNat, by omega⟩
  obtain ⟨st, hst⟩ : ∃ k : Nat, 1 + r2 = (k : Int) := ⟨(1 + r2).toNat, by omega⟩
  rw [hst]
  have hL4 : Lf p mv st 9 (M3.put p (.dct lK (lV mv st 9))) := Mem.put_same
  have hD4 : Dr a cells _ (M3.put p (.dct lK (lV mv st 9))) := hD3.put (Ne.symm npa)
  have s4 : ∀ x, x ≠ a → x ≠ p → (M3.put p (.dct lK (lV mv st 9))) x = M x := fun x y z => by rw [Mem.put_ne z, hS x y, s1 x y z]
  show sSeq _ _ _ _ (M3.put p (.dct lK (lV mv st 9)))
  generalize M3.put p (.dct lK (lV mv st 9)) = M4 at hL4 hD4 s4
  repeat fail
  refine thing_k hc npa 8 M4 (b + 1 + 1) mv st 9 true _ _ (by omega) (fun _ => ⟨by omega, by omega⟩) (by omega) (by omega) hD4 hL4 fun t mv' st' th' M5 t1 t2 t3 t4 t5 hD5 hL5 hS5 => ?_
  have s5 : ∀ x, x ≠ a → x ≠ p → M5 x = M x := fun x y z => (hS5 x y z).trans (s4 x y z)
  cases t with
  | raw _ _ _ => cases t5 rfl
  | made hr lo hi sh u w ps =>
    rw [Th.d]
    repeat fail
    refine w_addT ?_ ?_
    · show 2 + 2 ≤ sizeLine; decide
    repeat fail
    refine w_addT ?_ ?_
    · show 4 + 2 ≤ sizeLine; decide
    obtain ⟨q1, q2, q3, q4⟩ := t1
    simp only [Th.mv, Th.st, Th.sz] at t2 t3 t4
    have hm1 := mv1_max (lo := lo) (hi := hi)
    refine lo_drop p (lo_same (h (.made hr (if lo > 1 then lo else 1) (if hi > 1 then hi else 1) sh u w ps) (M5.del p) ⟨rfl, ⟨?_, q2, q3, q4⟩, by simp only [Th.sz]; omega, by simp only [Th.st]; omega, by simp only [Th.mv]; omega, ?_⟩ (by simp only [Th.mv]; omega) (by simp only [Th.st]; omega) ?_ ?_))
    · obtain ⟨c1, c2, c3⟩ := q1
      unfold bnd
      split <;> split <;> omega
    · simp only [Th.any, Bool.or_eq_true, decide_eq_true_eq]
      left; split <;> omega
    · obtain ⟨x, s, z1, z2, z3⟩ := hD5
      exact ⟨x, s, (Mem.del_ne (Ne.symm npa)).trans z1, z2, by simp only [Th.sz] at z3; omega⟩
    · intro x hx
      by_cases e : x = p
      · subst e; rw [Mem.del_same, hp]
      · rw [Mem.del_ne e]; exact s5 x hx e
end
set_option maxHeartbeats 4000000
section
variable {K : Fg} {c : Nat → Addr}
def RowsOk (K : Fg) (c : Nat → Addr) (n : Nat) : Prop := ∀ (t : Th) (b : Nat) (M : Mem) (Q : QD) (Xd : XD), t.st + 1 ≤ n → t.sz ≤ 1000 → Q (.lst ((rows t b).map rowD)) M → W_law_rows K c n [t.d, .int b] M Q Xd
theorem rows_loop {n : Nat} (ih : RowsOk K c n) {d0 : D} {b : Nat} {nx bk ct : SD → Mem → Prop} {rt : QD} {Xd : XD} {M : Mem} {W : Mem → Prop} (hW : W M) :
    ∀ (ts : List Th) (nn : List Nat) (rr : List (Th × List Nat)) (o : Option D), rr.length + Th.szs ts ≤ 1000 → nn.length ≤ rr.length → Th.sts ts + 1 ≤ n + 0 → 
    (∀ o, nx [some d0, some (.int b), some (.lst ((rr ++ rowss ts (b + 1 + rr.length)).map rowD)), some (.lst ((nn ++ nums (b + 1 + rr.length) ts).map fun (k : Nat) => D.int (k : Int))), o] M) →
    sForL (gNm 4) (sSeq (sSet 3 (dOp addD (dVar 3) (dLst (dCons (dOp addD (dOp addD (dVar 1) (dC (.int 1))) (dCB lenC (dCons (dVar 2) (dNil)))) (dNil))))) (sSet 2 (dOp addD (dVar 2) (dCall (W_law_rows K c n) [] (dCons (dVar 4) (dCons (dOp addD (dOp addD (dVar 1) (dC (.int 1))) (dCB lenC (dCons (dVar 2) (dNil)))) (dNil))))))) ⟨nx, rt, bk, ct, Xd⟩ W (Th.ds ts)
      [some d0, some (.int b), some (.lst (rr.map rowD)), some (.lst (nn.map fun (k : Nat) => D.int (k : Int))), o] M
  | [], nn, rr, o, h1, h2, h3, h => w_forNil hW (by have := h o; simpa [rowss, nums] using this)
  | t :: ts, nn, rr, o, h1, h2, h3, h => by
    simp only [Th.szs, Th.sts] at h1 h3
    have := sz_pos t
    refine w_forCons hW ?_
    repeat fail
    refine w_addL (by simp only [List.length_map, List.length_singleton, sizeLine_eq]; omega) ?_
    repeat fail
    have e0 : (b : Int) + 1 + (((rr.map rowD).length : Nat) : Int) = ((b + 1 + rr.length : Nat) : Int) := by rw [List.length_map]; omega
    rw [e0]
    refine ih t _ M _ _ (by omega) (by omega) ?_
    repeat fail
    refine w_addL (by simp only [List.length_map, sizeLine_eq, rows_len]; omega) ?_
    have e1 : (nn.map fun (k : Nat) => D.int (k : Int)) ++ [D.int ((b + 1 + rr.length : Nat) : Int)] = ((nn ++ [b + 1 + rr.length]).map fun (k : Nat) => D.int (k : Int)) := by simp
    have e2 : rr.map rowD ++ (rows t (b + 1 + rr.length)).map rowD = (rr ++ rows t (b + 1 + rr.length)).map rowD := by simp
    rw [e1, e2]
    refine rows_loop ih hW ts _ _ _ (by rw [List.length_append, rows_len]; omega) (by rw [List.length_append, List.length_append, List.length_singleton, rows_len]; omega) (by omega) ?_
    intro o
    have := h o
    rw [rowss, nums, ← List.append_assoc] at this
    rw [List.append_assoc nn, List.length_append, rows_len]
    have e3 : b + 1 + (rr.length + t.sz) = b + 1 + rr.length + t.sz := by omega
    rw [e3]
    exact this
theorem rows_k : ∀ n : Nat, RowsOk K c n
  | 0 => fun _ _ _ _ _ h _ _ => by omega
  | n + 1 => fun t b M Q Xd h hz q => by
    refine E_law_rows ?_
    cases t with
    | raw hr lo hi =>
      repeat fail
      refine w_eqS (by decide +kernel) (by decide +kernel) ?_
      rw [show decide ((Str.ofString "raw") = (Str.ofString "made")) = false from by decide +kernel]
      repeat fail
      refine w_forNil wat_none ?_
      repeat fail
      refine w_addL (by simp [sizeLine_eq]) ?_
      exact lo_same q
    | made hr lo hi sh u w ps =>
      simp only [Th.st, Th.sz] at h hz
      repeat fail
      refine w_eqS (by decide +kernel) (by decide +kernel) ?_
      rw [show decide ((Str.ofString "made") = (Str.ofString "made")) = true from by decide +kernel]
      repeat fail
      refine rows_loop (rows_k n) (b := b) wat_none ps [] [] none (by simp; omega) (by simp) (by omega) ?_
      intro o
      repeat fail
      refine w_addL (by simp only [List.length_map, List.length_singleton, sizeLine_eq, List.nil_append, rowss_len]; omega) ?_
      exact lo_same q
end
set_option maxHeartbeats 4000000
section
variable {K : Fg} {c : Nat → Addr}
theorem abs_e (i : Int) : (if i < 0 then -i else i) = (i.natAbs : Int) := by split <;> omega
theorem gcd_loop {nx bk ct : SD → Mem → Prop} {rt : QD} {Xd : XD} {M : Mem} {d0 d1 : D} {o : Option D} : ∀ (n i j : Nat), j < n → nx [some d0, some d1, some (.int (Nat.gcd i j : Nat)), some (.int 0), o] M →
    sWhN (dTst (dOp neD (dVar 3) (dC (.int 0)))) (sPar 2 3 (dCons (dVar 3) (dCons (dOp modD (dCB intC (dCons (dVar 2) (dNil))) (dVar 3)) (dNil)))) ⟨nx, rt, bk, ct, Xd⟩ n [some d0, some d1, some (.int i), some (.int j), o] M
  | 0, _, _, h, _ => by omega
  | n + 1, i, j, h, q => by
    refine w_whS ?_
    repeat fail
    refine w_ifnd (fun z => ?_) fun z => ?_
    · repeat fail
      refine w_modI (by omega) ?_
      repeat fail
      rw [← Int.natCast_emod]
      have hj : 0 < j := by omega
      have := Nat.mod_lt i hj
      refine gcd_loop n j (i % j) (by omega) ?_
      have e : Nat.gcd j (i % j) = Nat.gcd i j := by
        rw [Nat.gcd_comm i j, Nat.gcd_rec j i, Nat.gcd_comm]
      rw [e]; exact q
    · have hj : j = 0 := by omega
      subst hj
      rw [Nat.gcd_zero_right] at q
      exact q
theorem least_k {p q : Int} {M : Mem} {Q : QD} {Xd : XD} (hq : 0 < q) (b1 : p.natAbs ≤ 2 ^ 4000) (b2 : q.natAbs ≤ 2 ^ 4000) (h : Q (frD (lt p q)) M) : W_law_least K c [.int p, .int q] M Q Xd := by
  refine E_law_least ?_
  repeat fail
  rw [abs_e, abs_e]
  refine w_while (q.natAbs + 1) (gcd_loop _ _ _ (Nat.lt_succ_self _) ?_)
  have hg : (0 : Int) < (Nat.gcd p.natAbs q.natAbs : Nat) := gcd_pos' (p := p) hq
  have hgb : Nat.gcd p.natAbs q.natAbs ≤ 2 ^ 4000 := Nat.le_trans (Nat.gcd_le_right _ (by omega)) b2
  repeat fail
  refine w_ifdT hq ?_
  repeat fail
  refine w_mulI (mulW2 (a := 1) (b := 4000) (by decide) b1 (by decide)) ?_
  repeat fail
  refine w_fdivI (divW2 (b := 4000) hg hgb (by decide)) ?_
  repeat fail
  refine w_mulI (mulW2 (a := 1) (b := 4000) (by decide) b2 (by decide)) ?_
  repeat fail
  refine w_fdivI (divW2 (b := 4000) hg hgb (by decide)) ?_
  repeat fail
  rw [Int.one_mul, Int.one_mul]
  exact lo_same h
end
set_option maxHeartbeats 4000000
set_option maxHeartbeats 4000000
section
variable {K : Fg} {c : Nat → Addr}
structure PrOk (row : List (Int × Int)) (n : Nat) (u A : Int) (a : Nat → Int) : Prop where
  len : row.length = n
  nn : n ≤ 40
  at_ : ∀ k, k < n → ∃ f, row[k]? = some f ∧ FOk f ∧ Rep u (a k) f
  ha : ∀ k, 0 ≤ a k ∧ a k ≤ A
  hu : 0 < u
  uB : u.natAbs ≤ 2 ^ 64
  aB : (40 : Int) * A ≤ 2 ^ 64
mutual
theorem rows_ok : ∀ (t : Th) (b : Nat), t.ok → ∀ r ∈ rows t b, r.1.ok ∧ r.1.sz ≤ t.sz
  | .raw h lo hi, b, ho, r, hr => by
    simp only [rows, List.mem_singleton] at hr
    subst hr; exact ⟨ho, Nat.le_refl _⟩
  | .made h lo hi sh u w ps, b, ho, r, hr => by
    rw [rows, List.mem_cons] at hr
    rcases hr with rfl | hr
    · exact ⟨ho, Nat.le_refl _⟩
    · have := rowss_ok ps (b + 1) ho.2.2.2 r hr
      simp only [Th.sz]
      exact ⟨this.1, by omega⟩
theorem rowss_ok : ∀ (ts : List Th) (b : Nat), Th.oks ts → ∀ r ∈ rowss ts b, r.1.ok ∧ r.1.sz ≤ Th.szs ts
  | [], _, _, r, hr => by cases hr
  | t :: ts, b, ho, r, hr => by
    rw [rowss, List.mem_append] at hr
    simp only [Th.szs]
    rcases hr with hr | hr
    · have := rows_ok t b ho.1 r hr
      exact ⟨this.1, by omega⟩
    · have := rowss_ok ts _ ho.2 r hr
      exact ⟨this.1, by omega⟩
end
section
variable {row : List (Int × Int)} {n : Nat} {u A : Int} {a : Nat → Int}
theorem PrOk.A0 (P : PrOk row n u A a) : 0 ≤ A := by have := P.ha 0; omega
theorem PrOk.cst (P : PrOk row n u A a) {t : Th} (ht : t.sz ≤ 40) (b : Nat) : FOk (lt (t.cst b a) u) := by
  have h := cst_bd P.ha t b
  have h1 : (t.sz : Int) * A ≤ 40 * A := Int.mul_le_mul_of_nonneg_right (by omega) P.A0
  have := P.aB
  exact fok_lt P.hu (by omega) P.uB
theorem PrOk.cnt (P : PrOk row n u A a) {t : Th} (ht : t.sz ≤ 40) (b : Nat) : FOk (lt (t.cnt b a) u) ∧ FOk (lt (t.own b a) u) := by
  have h := cst_bd P.ha t b
  have h1 : (t.sz : Int) * A ≤ 40 * A := Int.mul_le_mul_of_nonneg_right (by omega) P.A0
  have h2 := cnt_bd P.ha t b
  have := P.aB
  exact ⟨fok_lt P.hu (by omega) P.uB, fok_lt P.hu (by omega) P.uB⟩
end
end
set_option maxHeartbeats 4000000
set_option maxHeartbeats 4000000
section
variable {K : Fg} {c : Nat → Addr}
def Th.lo : Th → Int
  | .raw _ lo _ => lo
  | .made _ lo _ _ _ _ _ => lo
def Th.hi : Th → Int
  | .raw _ _ hi => hi
  | .made _ _ hi _ _ _ _ => hi
theorem d_ix2 {t : Th} {M : Mem} {Q : QD} (h : Q (.int (Th.lo t)) M) : ixD t.d (.int 2) M Q := by
  cases t with
  | raw _ _ _ => rw [Th.d]; exact w_ixT2 h
  | made _ _ _ _ _ _ _ => rw [Th.d]; exact w_ixT2 h
theorem d_ix3 {t : Th} {M : Mem} {Q : QD} (h : Q (.int (Th.hi t)) M) : ixD t.d (.int 3) M Q := by
  cases t with
  | raw _ _ _ => rw [Th.d]; exact w_ixT3 h
  | made _ _ _ _ _ _ _ => rw [Th.d]; exact w_ixT3 h
structure FPr (t : Th) (f : Int × Int) : Prop where
  pos : 0 < f.2
  cop : Int.gcd f.1 f.2 = 1
  dvd : f.2 ∣ 2100
  lo : Th.lo t * f.2 ≤ f.1
  hi : f.1 ≤ Th.hi t * f.2
inductive RowR : List (Th × List Nat) → List (Int × Int) → Prop
  | nil : RowR [] []
  | cons {e : Th × List Nat} {f : Int × Int} {rs : List (Th × List Nat)} {fs : List (Int × Int)} (h : FPr e.1 f) (r : RowR rs fs) : RowR (e :: rs) (f :: fs)
theorem ok_bnd {t : Th} (h : t.ok) : bnd (Th.lo t) (Th.hi t) := by
  cases t with
  | raw _ _ _ => exact h
  | made _ _ _ _ _ _ _ => exact h.1
theorem fpr_of {t : Th} {of part : Int} (ho : 0 < of) (hd : of ∣ 2100) (h0 : 0 ≤ part) (h1 : part ≤ (Th.hi t - Th.lo t) * of) : FPr t (lt (Th.lo t * of + part) of) := by
  have hp := lt_pos (p := Th.lo t * of + part) ho
  have hc := lt_cross (p := Th.lo t * of + part) (q := of)
  have hm := lt_mul (p := Th.lo t * of + part) (q := of)
  refine ⟨hp, lt_cop ho, ?_, ?_, ?_⟩
  · exact Int.dvd_trans ⟨_, hm.2.symm⟩ hd
  · refine Int.le_of_mul_le_mul_right (a := of) ?_ ho
    rw [hc, Int.mul_right_comm]
    exact Int.mul_le_mul_of_nonneg_right (by omega) (by omega)
  · refine Int.le_of_mul_le_mul_right (a := of) ?_ ho
    rw [hc, Int.mul_right_comm]
    refine Int.mul_le_mul_of_nonneg_right ?_ (by omega)
    rw [Int.sub_mul] at h1
    omega
theorem prices_loop {a : Addr} {cells : List Int} {p : Addr} (hc : cells ≠ []) (npa : p ≠ a) {M0 : Mem} {nx bk ct : SD → Mem → Prop} {rt : QD} {Xd : XD} {d1 : D} {W : Mem → Prop} (hW : ∀ M, W M) {B : Int} (hB : B + 3 * 50 < 2 ^ 48) :
    ∀ (rs : List (Th × List Nat)) (done : List (Int × Int)) (M' : Mem) (o3 o4 o5 o6 o7 o8 : Option D), (∀ r ∈ rs, r.1.ok) → done.length + rs.length ≤ 50 → Dr a cells (B + 3 * done.length) M' → M' p = some (.lst (done.map frD)) → (∀ x, x ≠ a → x ≠ p → M' x = M0 x) →
      (∀ (fs : List (Int × Int)) (M' : Mem) (o3 o4 o5 o6 o7 o8 : Option D), RowR rs fs → Dr a cells (B + 3 * (done.length + rs.length)) M' → M' p = some (.lst ((done ++ fs).map frD)) → (∀ x, x ≠ a → x ≠ p → M' x = M0 x) → nx [some (.ref a), some d1, some (.ref p), o3, o4, o5, o6, o7, o8] M') →
      sForL (gTp 2 (gCo (gNm 3) (gCo (gNm 4) (gNi)))) (sSeq (sPar 5 6 (dCons (dOp ixD (dVar 3) (dC (.int 2))) (dCons (dOp ixD (dVar 3) (dC (.int 3))) (dNil)))) (sSeq (sSet 7 (dCall (W_law_of K c) [] (dCons (dVar 0) (dCons (dLst (dCons (dC (.int 1)) (dCons (dC (.int 1)) (dCons (dC (.int 2)) (dCons (dC (.int 3)) (dCons (dC (.int 7)) (dCons (dC (.int 100)) (dNil)))))))) (dNil))))) (sSeq (sSet 8 (dCall (W_law_of K c) [] (dCons (dVar 0) (dCons (dLst (dCons (dC (.int 0)) (dCons (dOp mulD (dOp subD (dVar 6) (dVar 5)) (dVar 7)) (dCons (dCall (W_law_draw K c) [] (dCons (dVar 0) (dCons (dOp addD (dOp mulD (dOp subD (dVar 6) (dVar 5)) (dVar 7)) (dC (.int 1))) (dNil)))) (dNil))))) (dNil))))) (sExpr (dApp (dVar 2) (dCall (W_law_least K c) [] (dCons (dOp addD (dOp mulD (dVar 5) (dVar 7)) (dVar 8)) (dCons (dVar 7) (dNil))))))))) ⟨nx, rt, bk, ct, Xd⟩ W (rs.map rowD) [some (.ref a), some d1, some (.ref p), o3, o4, o5, o6, o7, o8] M'
  | [], done, M', o3, o4, o5, o6, o7, o8, h1, h2, h3, h4, h5, h => w_forNil (hW _) (h [] M' o3 o4 o5 o6 o7 o8 .nil (by simpa using h3) (by simpa using h4) h5)
  | (t, ns) :: rs, done, M', o3, o4, o5, o6, o7, o8, h1, h2, h3, h4, h5, h => by
    have ht : bnd (Th.lo t) (Th.hi t) := ok_bnd (h1 (t, ns) List.mem_cons_self)
    rw [List.length_cons] at h2
    refine w_forCons (hW _) ?_
    have erD : rowD (t, ns) = .tup [t.d, .lst (ns.map fun (j : Nat) => D.int (j : Int))] := rfl
    rw [erD]
    repeat fail
    refine d_ix2 ?_
    repeat fail
    refine d_ix3 ?_
    repeat fail
    refine of_k hc (by omega) (by simp) (by simp) h3 fun d M1 hd hD1 hS1 => ?_
    obtain ⟨of, rfl, o1, o2, o3'⟩ : ∃ of : Int, d = .int of ∧ 0 < of ∧ of ≤ 100 ∧ of ∣ 2100 := by
      simp only [List.mem_cons, List.not_mem_nil, or_false] at hd
      rcases hd with rfl | rfl | rfl | rfl | rfl | rfl <;> exact ⟨_, rfl, by decide, by decide, by decide⟩
    unfold bnd at ht

    have hw0 : 0 ≤ Th.hi t - Th.lo t := by omega
    have hw1 : (Th.hi t - Th.lo t) * of ≤ 1000000 * 100 := Int.mul_le_mul (by omega) o2 (by omega) (by omega)
    have hw2 : 0 ≤ (Th.hi t - Th.lo t) * of := Int.mul_nonneg hw0 (by omega)
    have hw3 : CMulW (Th.hi t - Th.lo t) of := mulW2 (a := 20) (b := 7) (by omega) (by omega) (by decide)
    repeat fail
    refine w_mulI hw3 ?_
    repeat fail
    refine w_mulI hw3 ?_
    repeat fail
    generalize hgw : (Th.hi t - Th.lo t) * of = w at hw1 hw2
    refine draw_k hc (by omega) (by omega) (by omega) hD1 fun r M2 a1 a2 hD2 hS2 => ?_
    repeat fail
    refine of_k hc (by omega) (by simp) (by simp) hD2 fun d M3 hd hD3 hS3 => ?_
    obtain ⟨part, rfl, p1, p2⟩ : ∃ x : Int, d = .int x ∧ 0 ≤ x ∧ x ≤ w := by
      simp only [List.mem_cons, List.not_mem_nil, or_false] at hd
      rcases hd with rfl | rfl | rfl <;> exact ⟨_, rfl, by omega, by omega⟩
    have hS := (hS1.trans hS2).trans hS3
    have h4' : M3 p = some (.lst (done.map frD)) := (hS p npa).trans h4
    repeat fail
    refine w_appO h4' ?_
    repeat fail
    refine w_mulI (mulW2 (a := 20) (b := 7) (by omega) (by omega) (by decide)) ?_
    repeat fail
    have lb : 0 ≤ Th.lo t * of := Int.mul_nonneg (by omega) (by omega)
    have lb2 : Th.lo t * of ≤ 1000000 * 100 := Int.mul_le_mul (by omega) o2 (by omega) (by omega)
    have big : (2 : Nat) ^ 40 ≤ 2 ^ 4000 := Nat.pow_le_pow_right (by decide) (by decide)
    refine least_k o1 (Nat.le_trans (by omega) big) (Nat.le_trans (by omega) big) ?_
    have hf := fpr_of (t := t) o1 o3' p1 (by rw [hgw]; exact p2)
    generalize lt (Th.lo t * of + part) of = f at hf
    refine w_appK h4' (by rw [List.length_map, sizeLine_eq]; omega) ?_
    have e1 : done.map frD ++ [frD f] = (done ++ [f]).map frD := by simp
    rw [e1]
    refine prices_loop (M0 := M0) hc npa hW hB rs (done ++ [f]) _ _ _ _ _ _ _ (fun r hr => h1 r (List.mem_cons_of_mem _ hr)) (by rw [List.length_append, List.length_singleton]; omega) ((hD3.put (Ne.symm npa)).le (by rw [List.length_append, List.length_singleton]; omega)) Mem.put_same
      (fun x z1 z2 => by rw [Mem.put_ne z2, hS x z1]; exact h5 x z1 z2) fun fs M4 o3 o4 o5 o6 o7 o8 k1 k2 k3 k4 => ?_
    refine h (f :: fs) M4 o3 o4 o5 o6 o7 o8 (.cons hf k1) (by rw [List.length_append, List.length_singleton] at k2; rw [List.length_cons]; exact k2.le (by omega)) (by rw [List.append_assoc] at k3; exact k3) k4
theorem prices_k {a : Addr} {cells : List Int} {t : Th} {b : Int} (hc : cells ≠ []) (ht : t.ok) (hst : t.st ≤ 7) (hz : t.sz ≤ 10) (hb : b < 2 ^ 47) {M : Mem} (hD : Dr a cells b M) {Q : QD} {Xd : XD}
    (h : ∀ (fs : List (Int × Int)) (M' : Mem), RowR (rows t 0) fs → Dr a cells (b + 30) M' → Sm a M M' → Q (.tup (fs.map frD)) M') : W_law_prices K c [.ref a, t.d] M Q Xd := by
  refine E_law_prices ?_
  repeat fail
  refine w_lstO ?_
  repeat fail
  intro p hp
  have npa : p ≠ a := fun e => by obtain ⟨_, _, z, _⟩ := hD; rw [← e, hp] at z; cases z
  repeat fail
  refine rows_k 8 t 0 _ _ _ (by omega) (by omega) ?_
  repeat fail
  refine prices_loop (B := b) (M0 := M) hc npa (fun _ => wat_none) (by omega) (rows t 0) [] _ none none none none none none (fun r hr => (rows_ok t 0 ht r hr).1) (by rw [rows_len]; simp; omega) ((hD.put (Ne.symm npa)).le (by simp)) Mem.put_same (fun x z1 z2 => Mem.put_ne z2) fun fs M' o3 o4 o5 o6 o7 o8 k1 k2 k3 k4 => ?_
  repeat fail
  refine w_tupR k3 ?_
  repeat fail
  refine lo_drop p (lo_same (h fs _ k1 ?_ ?_))
  · obtain ⟨x, s, z1, z2, z3⟩ := k2
    exact ⟨x, s, (Mem.del_ne (Ne.symm npa)).trans z1, z2, by rw [rows_len] at z3; simp at z3; omega⟩
  · intro x hx
    by_cases e : x = p
    · subst e; rw [Mem.del_same, hp]
    · rw [Mem.del_ne e]; exact k4 x hx e
end
set_option maxHeartbeats 4000000
section
variable {K : Fg} {c : Nat → Addr}
theorem fraction_k {p q lo hi : Int} {M : Mem} {Q : QD} {Xd : XD} (hq : 0 < q) (hc : Int.gcd p q = 1) (h1 : lo * q ≤ p) (h2 : p ≤ hi * q) (w1 : CMulW lo q) (w2 : CMulW hi q) (h : Q (.bl true) M) : Wis_fraction K c [.tup [.int p, .int q], .int lo, .int hi] M Q Xd := by
  refine Eis_fraction ?_
  repeat fail
  refine w_ifF ?_
  repeat fail
  refine w_orD (fun z => ?_) fun z => ?_
  · repeat fail
    refine w_mulI w1 ?_
    repeat fail
    refine w_chdT h1 ?_
    repeat fail
    refine w_mulI w2 ?_
    repeat fail
    rw [decide_eq_true h2]
    exact lo_same h
  · repeat fail
    refine w_andD (by omega) ?_
    repeat fail
    have e : ((Nat.gcd p.natAbs q.natAbs : Nat) : Int) = 1 := by
      have : Nat.gcd p.natAbs q.natAbs = 1 := hc
      omega
    rw [decide_eq_true e]
    repeat fail
    refine w_mulI w1 ?_
    repeat fail
    refine w_chdT h1 ?_
    repeat fail
    refine w_mulI w2 ?_
    repeat fail
    rw [decide_eq_true h2]
    exact lo_same h
structure FP (t : Th) (f : Int × Int) : Prop where
  pos : 0 < f.2
  cop : Int.gcd f.1 f.2 = 1
  dvd : f.2 ∣ 2100
  lo : lowOf t * f.2 ≤ f.1
  hi : f.1 ≤ higOf t * f.2
  bd : bnd (lowOf t) (higOf t)
inductive FPs : List Th → List (Int × Int) → Prop
  | nil : FPs [] []
  | cons {t : Th} {f : Int × Int} {ts : List Th} {fs : List (Int × Int)} (h : FP t f) (r : FPs ts fs) : FPs (t :: ts) (f :: fs)
theorem FPs.len {ts : List Th} {fs : List (Int × Int)} (h : FPs ts fs) : fs.length = ts.length := by
  induction h with
  | nil => rfl
  | cons _ _ ih => rw [List.length_cons, List.length_cons, ih]
theorem dvd_le {q : Int} (h : q ∣ 2100) (h0 : 0 < q) : q ≤ 2100 := Int.le_of_dvd (by decide) h
theorem prices_walk {nx bk ct : SD → Mem → Prop} {rt : QD} {Xd : XD} {d0 : D} {W : Mem → Prop} {M : Mem} (hW : W M) {all : List (Int × Int)} (hl : all.length ≤ 1000) (h : ∀ o2 o3, nx [some d0, some (.tup (all.map frD)), o2, o3] M) : ∀ (ts : List Th) (fs pre : List (Int × Int)) (o2 o3 : Option D), FPs ts fs → all = pre ++ fs →
    sForL (gTp 2 (gCo (gNm 2) (gCo (gNm 3) (gNi)))) (sIf (tNotD (dTru (dCall (Wis_fraction K c) [] (dCons (dOp ixD (dVar 1) (dVar 2)) (dCons (dOp ixD (dVar 3) (dC (.int 2))) (dCons (dOp ixD (dVar 3) (dC (.int 3))) (dNil))))))) (sRaise (c 2) ["number"] (dCons (dVar 2) (dNil))) (sNx)) ⟨nx, rt, bk, ct, Xd⟩ W (enmFrom pre.length (Th.ds ts)) [some d0, some (.tup (all.map frD)), o2, o3] M
  | [], [], pre, o2, o3, .nil, e => w_forNil hW (h _ _)
  | t :: ts, f :: fs, pre, o2, o3, .cons hf hr, e => by
    rw [Th.ds, enmFrom]
    refine w_forCons hW ?_
    repeat fail
    have e1 : (all.map frD)[pre.length]? = some (frD f) := by rw [e, List.getElem?_map, List.getElem?_append_right (Nat.le_refl _)]; simp
    refine w_ixT (atI_nat e1) ?_
    repeat fail
    refine d_ix2' ?_
    repeat fail
    refine d_ix3' ?_
    repeat fail
    have hb := dvd_le hf.dvd hf.pos
    obtain ⟨b1, b2, b3⟩ := hf.bd
    have hp := hf.pos
    refine fraction_k hf.pos hf.cop hf.lo hf.hi (mulW2 (a := 20) (b := 12) (by omega) (by omega) (by decide)) (mulW2 (a := 20) (b := 12) (by omega) (by omega) (by decide)) ?_
    repeat fail
    have := prices_walk (bk := bk) (ct := ct) (rt := rt) (Xd := Xd) hW hl h ts fs (pre ++ [f]) (some (.int (pre.length : Int))) (some t.d) hr (by rw [e, List.append_assoc]; rfl)
    rw [List.length_append, List.length_singleton] at this
    exact this
theorem need_k {ts : List Th} {fs : List (Int × Int)} {M : Mem} {Q : QD} {Xd : XD} (hf : FPs ts fs) (hl : ts.length ≤ 1000) (h : Q (.tup (fs.map frD)) M) : Wneed_prices K c [.lst (Th.ds ts), .tup (fs.map frD)] M Q Xd := by
  have e := hf.len
  refine Eneed_prices ?_
  repeat fail
  refine w_ifnd (fun z => ?_) fun z => ?_
  · exact absurd (by rw [List.length_map, ds_map, List.length_map, e]) z
  repeat fail
  refine prices_walk wat_none (by omega) (fun o2 o3 => ?_) ts fs [] none none hf rfl
  repeat fail
  exact lo_same h
end
end G_madeofhere_k17_texts_back_and_forth
set_option maxHeartbeats 1000000
namespace G_madeofhere_k17_texts_back_and_forth
open PySem PySem.Spec PyProof.Rows L2 DL MH TL
local macro_rules | `(tactic| fail) => `(tactic| first | with_reducible refine w_seq ?_ | with_reducible refine w_nx ?_ | with_reducible refine w_ret ?_ | with_reducible refine w_retN ?_ | with_reducible refine w_expr ?_ | with_reducible refine w_ifS ?_ | with_reducible refine w_asg ?_ | with_reducible refine w_augS ?_ | with_reducible refine w_for ?_ | with_reducible refine w_bk ?_ | with_reducible refine w_ct ?_ | with_reducible refine w_set0 ?_ | with_reducible refine w_set1 ?_ | with_reducible refine w_set2 ?_ | with_reducible refine w_set3 ?_ | with_reducible refine w_set4 ?_ | with_reducible refine w_set5 ?_ | with_reducible refine w_set6 ?_ | with_reducible refine w_set7 ?_ | with_reducible refine w_set8 ?_ | with_reducible refine w_set9 ?_ | with_reducible refine w_set10 ?_ | with_reducible refine w_set11 ?_ | with_reducible refine w_set12 ?_ | with_reducible refine w_set13 ?_ | with_reducible refine w_set14 ?_ | with_reducible refine w_set15 ?_ | with_reducible refine w_set16 ?_ | with_reducible refine w_set17 ?_ | with_reducible refine w_set18 ?_ | with_reducible refine w_set19 ?_ | with_reducible refine w_var0 ?_ | with_reducible refine w_var1 ?_ | with_reducible refine w_var2 ?_ | with_reducible refine w_var3 ?_ | with_reducible refine w_var4 ?_ | with_reducible refine w_var5 ?_ | with_reducible refine w_var6 ?_ | with_reducible refine w_var7 ?_ | with_reducible refine w_var8 ?_ | with_reducible refine w_var9 ?_ | with_reducible refine w_var10 ?_ | with_reducible refine w_var11 ?_ | with_reducible refine w_var12 ?_ | with_reducible refine w_var13 ?_ | with_reducible refine w_var14 ?_ | with_reducible refine w_var15 ?_ | with_reducible refine w_var16 ?_ | with_reducible refine w_var17 ?_ | with_reducible refine w_var18 ?_ | with_reducible refine w_var19 ?_ | with_reducible refine w_gnm0 ?_ | with_reducible refine w_gnm1 ?_ | with_reducible refine w_gnm2 ?_ | with_reducible refine w_gnm3 ?_ | with_reducible refine w_gnm4 ?_ | with_reducible refine w_gnm5 ?_ | with_reducible refine w_gnm6 ?_ | with_reducible refine w_gnm7 ?_ | with_reducible refine w_gnm8 ?_ | with_reducible refine w_gnm9 ?_ | with_reducible refine w_gnm10 ?_ | with_reducible refine w_gnm11 ?_ | with_reducible refine w_gnm12 ?_ | with_reducible refine w_gnm13 ?_ | with_reducible refine w_gnm14 ?_ | with_reducible refine w_gnm15 ?_ | with_reducible refine w_gnm16 ?_ | with_reducible refine w_gnm17 ?_ | with_reducible refine w_gnm18 ?_ | with_reducible refine w_gnm19 ?_ | with_reducible refine w_mk ?_ | with_reducible refine w_mkK ?_ | with_reducible refine w_mk0 ?_ | with_reducible refine w_fd ?_ | with_reducible refine w_raise ?_ | with_reducible refine w_raiseX ?_ | with_reducible refine w_try ?_ | with_reducible refine w_callX ?_ | with_reducible refine w_fzN ?_ | with_reducible refine w_gTp rfl ?_ | with_reducible refine w_gCo ?_ | with_reducible refine w_gNi ?_ | with_reducible refine w_gSb ?_ | with_reducible refine w_c ?_ | with_reducible refine w_op ?_ | with_reducible refine w_nil ?_ | with_reducible refine w_cons ?_ | with_reducible refine w_tup ?_ | with_reducible refine w_lst ?_ | with_reducible refine w_cb ?_ | with_reducible refine w_call ?_ | with_reducible refine w_ite ?_ | with_reducible refine w_and ?_ | with_reducible refine w_or ?_ | with_reducible refine w_not ?_ | with_reducible refine w_andT ?_ | with_reducible refine w_andF ?_ | with_reducible refine w_orT ?_ | with_reducible refine w_orF ?_ | with_reducible refine w_neg ?_ | with_reducible refine w_un ?_ | with_reducible refine w_tst ?_ | with_reducible refine w_tstB ?_ | with_reducible refine w_tru ?_ | with_reducible refine w_truB ?_ | with_reducible refine w_tAnd ?_ | with_reducible refine w_tOr ?_ | with_reducible refine w_tNot ?_ | with_reducible refine w_chain ?_ | with_reducible refine w_chT ?_ | with_reducible refine w_chF ?_ | with_reducible refine w_ifT ?_ | with_reducible refine w_ifF ?_ | with_reducible refine w_ifnT ?_ | with_reducible refine w_ifnF ?_ | with_reducible refine w_rvs ?_ | with_reducible refine w_yes ?_ | with_reducible refine w_iZip ?_ | with_reducible refine w_sg2 ?_ | with_reducible refine w_zipLL ?_ | with_reducible refine w_zipTT ?_ | with_reducible refine w_augY ?_ | with_reducible refine w_isiII ?_ | with_reducible refine w_isiIB ?_ | with_reducible refine w_isiSS ?_ | with_reducible refine w_isiTT ?_ | with_reducible refine w_isiIT ?_ | with_reducible refine w_isiIS ?_ | with_reducible refine w_isiSI ?_ | with_reducible refine w_isiSB ?_ | with_reducible refine w_isiST ?_ | with_reducible refine w_isiTI ?_ | with_reducible refine w_isiTB ?_ | with_reducible refine w_isiTS ?_ | with_reducible refine w_isiNI ?_ | with_reducible refine w_isiNS ?_ | with_reducible refine w_isiNT ?_ | with_reducible refine w_isiBI ?_ | with_reducible refine w_isiBB ?_ | with_reducible refine w_isiLT ?_ | with_reducible refine w_dRev ?_ | with_reducible refine w_revK ?_ | with_reducible refine w_lstRg ?_ | with_reducible refine w_par ?_ | with_reducible refine w_parK (by dsimp only [List.set] <;> rfl) ?_ | with_reducible refine w_sl ?_ | with_reducible refine w_slT ?_ | with_reducible refine w_slL ?_ | with_reducible refine w_oNo ?_ | with_reducible refine w_oSo ?_ | with_reducible refine w_oSoK ?_ | with_reducible refine w_prN ?_ | with_reducible refine w_prC ?_ | with_reducible refine w_addI ?_ | with_reducible refine w_subI ?_ | with_reducible refine w_lt ?_ | with_reducible refine w_le ?_ | with_reducible refine w_gt ?_ | with_reducible refine w_ge ?_ | with_reducible refine w_isN ?_ | with_reducible refine w_isnN ?_ | with_reducible refine w_eqI ?_ | with_reducible refine w_neI ?_ | with_reducible refine w_ixT0 ?_ | with_reducible refine w_ixT1 ?_ | with_reducible refine w_ixT2 ?_ | with_reducible refine w_ixT3 ?_ | with_reducible refine w_ixT4 ?_ | with_reducible refine w_ixT5 ?_ | with_reducible refine w_lenL ?_ | with_reducible refine w_lenT ?_ | with_reducible refine w_int ?_ | with_reducible refine w_intB ?_ | with_reducible refine w_abs ?_ | with_reducible refine w_listL ?_ | with_reducible refine w_listT ?_ | with_reducible refine w_tupL ?_ | with_reducible refine w_tupT ?_ | with_reducible refine w_int2 ?_ | with_reducible refine w_gcd ?_ | with_reducible refine w_app ?_ | with_reducible refine w_iSeq ?_ | with_reducible refine w_itemT ?_ | with_reducible refine w_itemL ?_ | with_reducible refine w_iRng ?_ | with_reducible refine w_iEnm ?_ | with_reducible refine w_sg1 ?_ | with_reducible refine w_iRev ?_ | with_reducible refine w_rg1 ?_ | with_reducible refine w_rg1K ?_ | with_reducible refine w_notB ?_ | with_reducible refine w_at ?_ | with_reducible refine w_sAt ?_ | with_reducible refine w_gAt ?_ | with_reducible refine w_newD ?_ | with_reducible refine w_iZipM ?_ | with_reducible refine w_zmLL ?_ | with_reducible refine w_zmLT ?_ | with_reducible refine w_zmTL ?_ | with_reducible refine w_zmTT ?_ | with_reducible refine w_iZipO ?_ | with_reducible refine w_lstZip ?_ | with_reducible refine w_iRevS ?_ | with_reducible refine w_revIL ?_ | with_reducible refine w_iEZ ?_ | with_reducible refine w_rg2 ?_ | with_reducible refine w_rg2K ?_ | with_reducible refine w_tupS ?_ | with_reducible refine w_revT ?_ | with_reducible refine w_revTK ?_ | with_reducible refine w_star ?_ | with_reducible refine w_seqT ?_ | with_reducible refine w_seqL ?_)
section
variable {K : Fg} {c : Nat → Addr} {M : Mem} {Q : QD} {Xd : XD}
theorem w_lenS {x : Str} {M : Mem} {Q : QD} (hx : x.length ≤ sizeLine) (h : Q (.int x.length) M) : lenC [.str x] M Q := by
  show (match lenO M (.str x) with
    | some n => Q (.int n) M
    | none => False)
  have e : lenO M (.str x) = some x.length := by show (if x.length ≤ sizeLine then some x.length else none) = _; rw [if_pos hx]
  rw [e]; exact h
theorem log_ok {i : Int} (h0 : 0 ≤ i) (h1 : i < 10 ^ 30) : i.natAbs.log2 < 1920 := by
  by_cases z : i.natAbs = 0
  · rw [z]; decide
  · rw [Nat.log2_lt z]
    have : i.natAbs < 10 ^ 30 := by
      have e : ((10 : Int) ^ 30) = ((10 ^ 30 : Nat) : Int) := by simp
      rw [e] at h1; omega
    exact Nat.lt_trans this (by decide +kernel)
theorem w_strI {i : Int} {M : Mem} {Q : QD} (h0 : 0 ≤ i) (h1 : i < 10 ^ 30) (h : Q (.str (iS i)) M) : strIC [.int i] M Q := ⟨log_ok h0 h1, h⟩
theorem dot_mul (d : Nat) (hd : d ≤ 5) : MulOk (Str.ofString ".") (d : Int) := by
  have : ∀ k : Fin 6, MulOk (Str.ofString ".") ((k.val : Nat) : Int) := by unfold MulOk; decide +kernel
  exact this ⟨d, by omega⟩
theorem w_frz1 {u : TSD} {Y : _} {x0 : Option D} {s : SD} {p : Addr} {ds : List D} {M : Mem} (hM : M p = some (.lst ds)) (h : u Y (x0 :: some (.lst ds) :: s) (M.del p)) : sFrz 1 u Y (x0 :: some (.ref p) :: s) M := ⟨p, ds, rfl, hM, h⟩
theorem w_frz2 {u : TSD} {Y : _} {x0 x1 : Option D} {s : SD} {p : Addr} {ds : List D} {M : Mem} (hM : M p = some (.lst ds)) (h : u Y (x0 :: x1 :: some (.lst ds) :: s) (M.del p)) : sFrz 2 u Y (x0 :: x1 :: some (.ref p) :: s) M := ⟨p, ds, rfl, hM, h⟩
theorem w_frz4 {u : TSD} {Y : _} {x0 x1 x2 x3 : Option D} {s : SD} {p : Addr} {ds : List D} {M : Mem} (hM : M p = some (.lst ds)) (h : u Y (x0 :: x1 :: x2 :: x3 :: some (.lst ds) :: s) (M.del p)) : sFrz 4 u Y (x0 :: x1 :: x2 :: x3 :: some (.ref p) :: s) M := ⟨p, ds, rfl, hM, h⟩
/-! ### words of the program about texts -/
theorem one_of_k {x a b : Str} {t : Bool} (e : inO M (.str x) (.tup [.str a, .str b]) = some t) (h : Q (.bl t) M) : Wis_one_of K c [.str x, .tup [.str a, .str b]] M Q Xd := by
  refine Eis_one_of ?_
  repeat fail
  exact w_inO e (lo_same h)
theorem land_in (b : Bool) : inO M (.str (landS b)) (.tup [.str "here", .str "away"]) = some true := by cases b <;> rfl
theorem up_in (b : Bool) : inO M (.str (upS b)) (.tup [.str "whole", .str "own"]) = some true := by cases b <;> rfl
theorem dn_in (b : Bool) : inO M (.str (dnS b)) (.tup [.str "own", .str "none"]) = some true := by cases b <;> rfl
theorem zero_ok : PyData.strOk (Str.ofString "0") = true := by decide +kernel
theorem figures_k {i : Int} {k : Nat} (h0 : 0 ≤ i) (hk : 0 < k ∧ k ≤ 30) (h1 : i < 10 ^ k) (h : Q (.bl true) M) : Ware_figures K c [.str (iS i), .int (k : Int)] M Q Xd := by
  obtain ⟨l1, l2⟩ := iS_len h0 hk.1 h1
  refine Eare_figures ?_
  repeat fail
  refine w_lenS (by unfold sizeLine; omega) ?_
  refine w_le ?_
  refine w_chdT (by omega) ?_
  repeat fail
  rw [decide_eq_true (show ((iS i).length : Int) ≤ (k : Int) by omega)]
  repeat fail
  refine ⟨_, rfl, ?_⟩
  show truK _ (.bl (Txt.isascii (iS i))) M
  rw [iS_ascii h0]
  repeat fail
  refine ⟨_, rfl, ?_⟩
  show truK _ (.bl (Txt.isdigit (iS i))) M
  rw [iS_digit h0]
  repeat fail
  refine w_eqS (iS_asc h0).ok zero_ok ?_
  refine w_orD (fun e => ?_) (fun e => ?_)
  · exact lo_same h
  · repeat fail
    obtain ⟨a, r, e1, e2⟩ := iS_head (i := i) (by
      rcases Int.lt_or_eq_of_le h0 with z | z
      · exact z
      · subst z; exact absurd iS_zero e)
    refine ⟨_, _, a, rfl, rfl, by unfold sizeLine; omega, ?_, ?_⟩
    · show atI (tl (iS i)) 0 = _
      rw [e1]; exact atI_nat (xs := a :: r) (j := 0) (v := a) rfl
    · refine w_neS ?_ zero_ok ?_
      · have := (iS_asc h0) a (by rw [e1]; exact List.mem_cons_self)
        exact Asc.ok fun x hx => by
          have : tl (⟨#[a]⟩ : Str) = [a] := rfl
          rw [this] at hx
          rw [List.mem_singleton.mp hx]; omega
      · rw [decide_eq_false (fun z => e2 (by
          have z1 := congrArg tl z
          have z2 : tl (Str.ofString "0") = [48] := by decide +kernel
          rw [z2] at z1
          exact (List.cons.inj z1).1))]
        exact lo_same h
theorem ints_k {is : List Int} (hl : is.length ≤ 100) (hi : ∀ i ∈ is, 0 ≤ i ∧ i < 10 ^ 7) (h : Q (.bl true) M) : Ware_integers K c [.lst (is.map fun i => .str (iS i))] M Q Xd := by
  refine Eare_integers ?_
  repeat fail
  refine w_lc ?_
  repeat fail
  intro p hp
  refine lc_gen (h := fun _ => .bl true) hp (fun _ => trivial) is (by unfold sizeLine; omega) (fun i hi' acc K1 q => ?_) ?_
  · repeat fail
    exact figures_k (K := K) (c := c) (k := 7) (hi i hi').1 (by decide) (hi i hi').2 q
  · refine ⟨is.map fun _ => true, by rw [List.map_map]; rfl, ?_⟩
    have e : (is.map fun _ => true).all id = true := by rw [List.all_eq_true]; intro b hb; obtain ⟨_, _, rfl⟩ := List.mem_map.mp hb; rfl
    rw [e]
    exact lo_same h
theorem told_rule_k {sh : Int} {u w : Bool} (hs : 0 ≤ sh ∧ sh < 10 ^ 7) (h : Q (.bl true) M) : Wis_told_rule K c [.lst [.str (iS sh), .str (upS u), .str (dnS w)]] M Q Xd := by
  refine Eis_told_rule ?_
  repeat fail
  refine w_ifndT rfl ?_
  repeat fail
  refine ⟨_, _, _, rfl, ?_⟩
  repeat fail
  refine ints_k (K := K) (c := c) (is := [sh]) (by simp) (fun i hi => by rw [List.mem_singleton] at hi; subst hi; exact hs) ?_
  repeat fail
  refine one_of_k (K := K) (c := c) (up_in u) ?_
  repeat fail
  exact one_of_k (K := K) (c := c) (dn_in w) (lo_same h)
theorem row_end {t : Th} {d : Nat} {p : Addr} {M1 : Mem} {nx bk ct : SD → Mem → Prop} (hd : d ≤ 5) (hk : t.ok) (hM : M1 p = some (.lst ((wordsW t).map D.str))) (h : Q (.str (lineW t d)) (M1.del p)) {x0 x3 x4 x5 : Option D} :
    (sFrz 2 (sSeq (sIf (dTst (dOp gtD (dVar 1) (dC (.int 0)))) (sSet 2 (dLstS (dCons (dOp mulD (dC (.str ".")) (dVar 1)) (dStar (dVar 2) (dNil))))) (sNx)) (sRet (dJoin (dC (.str " ")) (dVar 2))))) ⟨nx, Lo Q, bk, ct, Xd⟩ [x0, some (.int (d : Int)), some (.ref p), x3, x4, x5] M1 := by
  have len : ∀ ws : List Str, (∀ w ∈ ws, Wd w) → ws.length ≤ 8 → (ws.map (·.length)).sum + ws.length * (Str.ofString " ").length ≤ 16777216 := fun ws hw hl => by
    have h2 := sum_le (ws := ws) (k := 40) fun w hx => (hw w hx).len
    have h4 : (Str.ofString " ").length = 1 := by decide +kernel
    rw [h4]; omega
  refine w_frz2 hM ?_
  repeat fail
  refine w_ifd (fun z => ?_) (fun z => ?_)
  · repeat fail
    show dCons _ _ _ _ _ _
    repeat fail
    refine w_mulSI (dot_mul d hd) ?_
    repeat fail
    refine ⟨?_, ?_⟩
    · have := words_len t
      simp only [List.length_cons, List.length_append, List.length_map, List.length_nil]
      unfold sizeLine; omega
    repeat fail
    refine ⟨_, rfl, ?_⟩
    repeat fail
    have e : rowW t d = dotS d :: wordsW t := by unfold rowW; rw [if_neg (by omega)]
    refine ⟨dotS d :: wordsW t, ?_, ?_, ?_⟩
    · show some _ = _
      rw [List.append_nil]; rfl
    · rw [← e]; exact len _ (row_wd hk hd) (row_len t d)
    · rw [← e, join_eq]; exact lo_same h
  · repeat fail
    refine ⟨_, rfl, ?_⟩
    repeat fail
    have e : rowW t d = wordsW t := by unfold rowW; rw [if_pos (by omega)]
    refine ⟨wordsW t, rfl, ?_, ?_⟩
    · rw [← e]; exact len _ (row_wd hk hd) (row_len t d)
    · rw [← e, join_eq]; exact lo_same h
theorem row_of_k {t : Th} {d : Nat} (hd : d ≤ 5) (hk : t.ok) (h : Q (.str (lineW t d)) M) : W_row_of K c [t.d, .int (d : Int)] M Q Xd := by
  refine E_row_of ?_
  cases t with
  | raw b lo hi =>
    obtain ⟨h1, h2, h3⟩ := id hk
    unfold Th.d
    repeat fail
    refine w_lstO ?_
    repeat fail
    refine w_strI h1 (by omega) ?_
    repeat fail
    refine w_strI (by omega) (by omega) ?_
    repeat fail
    intro p hp
    repeat fail
    refine w_eqS (by decide +kernel) (by decide +kernel) ?_
    repeat fail
    refine w_ifdF (by decide +kernel) ?_
    repeat fail
    refine row_end hd hk Mem.put_same ?_
    rw [put_del hp]; exact h
  | made b lo hi sh u w ps =>
    obtain ⟨⟨h1, h2, h3⟩, hs, _⟩ := id hk
    unfold Th.d termD
    repeat fail
    refine w_lstO ?_
    repeat fail
    refine w_strI h1 (by omega) ?_
    repeat fail
    refine w_strI (by omega) (by omega) ?_
    repeat fail
    intro p hp
    repeat fail
    refine w_eqS (by decide +kernel) (by decide +kernel) ?_
    repeat fail
    refine w_ifdT rfl ?_
    repeat fail
    refine ⟨p, rfl, ?_⟩
    repeat fail
    refine w_strI (by omega) (by omega) ?_
    repeat fail
    refine ⟨_, _, Mem.put_same, rfl, by simp [sizeLine], ?_⟩
    rw [Mem.put_put]
    repeat fail
    refine row_end hd hk Mem.put_same ?_
    rw [put_del hp]; exact h
end
set_option maxHeartbeats 1000000
section
variable {K : Fg} {c : Nat → Addr} {M : Mem} {Q : QD} {Xd : XD}
/-! ### good_text -/
section
variable {p : Addr} {nx bk ct : SD → Mem → Prop} {rt : QD} {W : Mem → Prop} {x0 x1 x2 x3 x6 x7 : Option D} {M0 : Mem}
theorem pts_one (hW : ∀ M, W M) {j e : Nat} {acc : List Nat} {rest : List D} {x5 : Option D} (hj : acc[j]? = some e) (hz : acc.length ≤ 100)
    (h : sForL (gNm 5) (sExpr (dApp (dVar 4) (dOp addD (dOp ixD (dVar 4) (dVar 5)) (dC (.int 1))))) ⟨nx, rt, bk, ct, Xd⟩ W rest [x0, x1, x2, x3, some (.ref p), some (nI j), x6, x7] (M0.put p (.lst ((acc ++ [e + 1]).map nI)))) :
    sForL (gNm 5) (sExpr (dApp (dVar 4) (dOp addD (dOp ixD (dVar 4) (dVar 5)) (dC (.int 1))))) ⟨nx, rt, bk, ct, Xd⟩ W (nI j :: rest) [x0, x1, x2, x3, some (.ref p), x5, x6, x7] (M0.put p (.lst (acc.map nI))) := by
  refine w_forCons (hW _) ?_
  repeat fail
  refine w_appO Mem.put_same ?_
  repeat fail
  refine w_ixRL Mem.put_same (atI_nat (j := j) (v := nI e) (by rw [List.getElem?_map, hj]; rfl)) ?_
  have e1 : (acc ++ [e + 1]).map nI = acc.map nI ++ [.int ((e : Int) + 1)] := by rw [List.map_append]; rfl
  rw [e1] at h
  unfold nI at h ⊢
  repeat fail
  refine w_appK Mem.put_same (by rw [List.length_map]; unfold sizeLine; omega) ?_
  rw [Mem.put_put]
  exact h
mutual
theorem pts_loop (hW : ∀ M, W M) : ∀ (t : Th) (k j e : Nat) (acc : List Nat) (rest : List D) (x5 : Option D), acc.length = k → acc[j]? = some e → k + t.sz ≤ 20 →
    (∀ y, sForL (gNm 5) (sExpr (dApp (dVar 4) (dOp addD (dOp ixD (dVar 4) (dVar 5)) (dC (.int 1))))) ⟨nx, rt, bk, ct, Xd⟩ W rest [x0, x1, x2, x3, some (.ref p), y, x6, x7] (M0.put p (.lst ((acc ++ deps t (e + 1)).map nI)))) →
    sForL (gNm 5) (sExpr (dApp (dVar 4) (dOp addD (dOp ixD (dVar 4) (dVar 5)) (dC (.int 1))))) ⟨nx, rt, bk, ct, Xd⟩ W (t.whs k (nI j) ++ rest) [x0, x1, x2, x3, some (.ref p), x5, x6, x7] (M0.put p (.lst (acc.map nI)))
  | .raw _ _ _, k, j, e, acc, rest, x5, hk, hj, hz, h => pts_one hW hj (by omega) (h _)
  | .made _ _ _ _ _ _ ps, k, j, e, acc, rest, x5, hk, hj, hz, h => by
    rw [Th.sz] at hz
    rw [Th.whs]
    refine pts_one hW hj (by omega) ?_
    refine ptss_loop hW ps (k + 1) k (e + 1) _ rest _ (by rw [List.length_append, hk]; rfl) (by rw [List.getElem?_append_right (by omega), hk, Nat.sub_self]; rfl) (by omega) fun y => ?_
    rw [List.append_assoc]
    exact h y
theorem ptss_loop (hW : ∀ M, W M) : ∀ (ts : List Th) (k j e : Nat) (acc : List Nat) (rest : List D) (x5 : Option D), acc.length = k → acc[j]? = some e → k + Th.szs ts ≤ 20 →
    (∀ y, sForL (gNm 5) (sExpr (dApp (dVar 4) (dOp addD (dOp ixD (dVar 4) (dVar 5)) (dC (.int 1))))) ⟨nx, rt, bk, ct, Xd⟩ W rest [x0, x1, x2, x3, some (.ref p), y, x6, x7] (M0.put p (.lst ((acc ++ depss ts (e + 1)).map nI)))) →
    sForL (gNm 5) (sExpr (dApp (dVar 4) (dOp addD (dOp ixD (dVar 4) (dVar 5)) (dC (.int 1))))) ⟨nx, rt, bk, ct, Xd⟩ W (Th.whss ts k (nI j) ++ rest) [x0, x1, x2, x3, some (.ref p), x5, x6, x7] (M0.put p (.lst (acc.map nI)))
  | [], k, j, e, acc, rest, x5, hk, hj, hz, h => by
    have := h x5
    rw [depss, List.append_nil] at this
    exact this
  | t :: ts, k, j, e, acc, rest, x5, hk, hj, hz, h => by
    rw [Th.szs] at hz
    rw [Th.whss, List.append_assoc]
    refine pts_loop hW t k j e acc _ x5 hk hj (by omega) fun y => ?_
    refine ptss_loop hW ts (k + t.sz) j e _ rest y (by rw [List.length_append, deps_len, hk]) (by rw [List.getElem?_append_left (by have := (List.getElem?_eq_some_iff.mp hj).1; omega)]; exact hj) (by omega) fun y => ?_
    rw [List.append_assoc, ← depss]; exact h y
end
end
theorem wipe67 {a b c d e f g h : Option D} : wipeD [a, b, c, d, e, f, g, h] [6, 7] = [a, b, c, d, e, f, none, none] := rfl
theorem good_text_k {t : Th} (hg : t.good) (h : Q (.str (textW t)) M) : Wgood_text K c [t.d] M Q Xd := by
  have hk := hg.ok
  have hst := hg.st
  have hz := hg.sz
  refine Egood_text ?_
  repeat fail
  refine over_k hg ?_
  repeat fail
  refine w_lstO ?_
  repeat fail
  intro p hp
  repeat fail
  cases t with
  | raw => exact absurd hg.made Bool.false_ne_true
  | made b lo hi sh u w ps =>
    rw [Th.sz] at hz
    have hd := deps_le (.made b lo hi sh u w ps) 0
    have ho := fl_ok _ hk
    have el : textW (.made b lo hi sh u w ps) = Str.join nl ((((Th.made b lo hi sh u w ps).fl.zip (deps (.made b lo hi sh u w ps) 0)).map fun p => lineW p.1 p.2)) := by unfold textW; rw [lines_fl]
    have ll : ((Th.made b lo hi sh u w ps).fl.zip (deps (.made b lo hi sh u w ps) 0)).length ≤ 10 := by
      rw [List.length_zip, deps_len, fl_len, Nat.min_self, Th.sz]; omega
    generalize ed : deps (.made b lo hi sh u w ps) 0 = dd at hd el ll
    rw [deps] at ed
    generalize (Th.made b lo hi sh u w ps).fl = ff at ho el ll ⊢
    rw [Th.whs, cut_f1, ← List.append_nil (Th.whss ps (0 + 1) (nI 0))]
    refine ptss_loop (fun _ => wat_none) ps (0 + 1) 0 0 [0] [] none rfl rfl (by omega) fun y => ?_
    rw [show [0] ++ depss ps (0 + 1) = dd from ed]
    refine w_forNil wat_none ?_
    refine w_frz4 Mem.put_same ?_
    rw [put_del hp]
    repeat fail
    refine ⟨_, rfl, ?_⟩
    refine w_lc ?_
    repeat fail
    intro q hq
    rw [zip_d, wipe67]
    refine lc_gen (h := fun p => .str (lineW p.1 p.2)) hq (fun _ => wat_none) _ (by unfold sizeLine; omega) (fun z hz' acc K1 q1 => ?_) ?_
    · have hm := List.of_mem_zip hz'
      unfold nI
      repeat fail
      exact row_of_k (K := K) (c := c) (by have := hd _ hm.2; omega) (ho _ hm.1) q1
    · refine ⟨(ff.zip dd).map fun p => lineW p.1 p.2, by rw [List.map_map]; rfl, ?_, ?_⟩
      · have h1 := sum_le (ws := (ff.zip dd).map fun p => lineW p.1 p.2) (k := 400) fun w hw => by
          obtain ⟨z, hz', rfl⟩ := List.mem_map.mp hw
          have hm := List.of_mem_zip hz'
          exact line_len (ho _ hm.1) (by have := hd _ hm.2; omega)
        have h4 : (Str.ofString "\n").length = 1 := by decide +kernel
        rw [List.length_map] at h1
        rw [h4, List.length_map]
        omega
      · show Lo Q (.str (Txt.join nl _)) M
        rw [join_eq, ← el]
        exact lo_same h
end
set_option maxHeartbeats 1000000
section
variable {K : Fg} {c : Nat → Addr} {M : Mem} {Q : QD} {Xd : XD}
theorem w_addS {a b : Str} {M : Mem} {Q : QD} (hl : a.length + b.length ≤ sizeLine) (h : Q (.str (a ++ b)) M) : addD (.str a) (.str b) M Q := ⟨hl, h⟩
/-! ### _law_text -/
def TextOk (K : Fg) (c : Nat → Addr) (n : Nat) : Prop := ∀ (t : Th) (d : Nat) (M : Mem) (Q : QD) (Xd : XD), t.st + 1 ≤ n → t.ok → d + t.st ≤ 5 → t.sz ≤ 10 → Q (.str (Str.join nl (linesW t d))) M → W_law_text K c n [t.d, .int (d : Int)] M Q Xd
theorem text_loop {n : Nat} (ih : TextOk K c n) {W : Mem → Prop} (hW : ∀ M, W M) {nx bk ct : SD → Mem → Prop} {rt : QD} {x0 : Option D} {d : Nat} : ∀ (ts : List Th) (A : List Str) (y : Option D), A ≠ [] → (∀ a ∈ A, a.length ≤ 400) → A.length + Th.szs ts ≤ 10 → Th.oks ts → d + 1 + Th.sts ts ≤ 5 → Th.sts ts + 1 ≤ n →
    (∀ y, nx [x0, some (.int (d : Int)), some (.str (Str.join nl (A ++ linessW ts (d + 1)))), y] M) →
    sForL (gNm 3) (sSet 2 (dOp addD (dOp addD (dVar 2) (dC (.str "\n"))) (dCall (W_law_text K c n) [] (dCons (dVar 3) (dCons (dOp addD (dVar 1) (dC (.int 1))) (dNil)))))) ⟨nx, rt, bk, ct, Xd⟩ W (Th.ds ts) [x0, some (.int (d : Int)), some (.str (Str.join nl A)), y] M
  | [], A, y, hA, hl, hz, hk, hs, hn, h => by
    refine w_forNil (hW _) ?_
    have := h y
    rw [linessW, List.append_nil] at this
    exact this
  | t :: ts, A, y, hA, hl, hz, hk, hs, hn, h => by
    rw [Th.szs] at hz
    rw [Th.sts] at hs hn
    have lA := join_len hl (by omega)
    have l1 : nl.length = 1 := by decide +kernel
    have lt := join_len (lines_le hk.1 (d := d + 1) (by omega)) (by rw [lines_len]; omega)
    refine w_forCons (hW _) ?_
    repeat fail
    refine w_addS (show (Str.join nl A).length + nl.length ≤ sizeLine by unfold sizeLine; omega) ?_
    repeat fail
    refine ih t (d + 1) _ _ _ (by omega) hk.1 (by omega) (by omega) ?_
    repeat fail
    refine w_addS (show (Str.join nl A ++ nl).length + _ ≤ sizeLine by
      rw [len_tl (Str.join nl A ++ nl), tl_append, List.length_append, ← len_tl, ← len_tl]
      unfold sizeLine; omega) ?_
    repeat fail
    show sForL _ _ _ _ _ [_, _, some (.str (Str.join nl A ++ nl ++ Str.join nl (linesW t (d + 1)))), _] _
    rw [← join_app nl A _ hA (lines_ne t _)]
    refine text_loop ih hW ts (A ++ linesW t (d + 1)) _ (by simp [hA]) (fun a ha => ?_) (by rw [List.length_append, lines_len]; omega) hk.2 (by omega) (by omega) fun y => ?_
    · rcases List.mem_append.mp ha with ha | ha
      · exact hl a ha
      · exact lines_le hk.1 (by omega) a ha
    · rw [List.append_assoc]; exact h y
theorem text_rest {n : Nat} (ih : TextOk K c n) {t : Th} {d : Nat} {pre : Str} (hn : t.st + 1 ≤ n + 1) (hk : t.ok) (hd : d + t.st ≤ 5) (hz : t.sz ≤ 10) (hp : lineW t d = pre ++ Str.join sp (wordsW t)) (hl : pre.length ≤ 10) (q : Q (.str (Str.join nl (linesW t d))) M) {x3 : Option D} :
    (sSeq (sSet 2 (dOp addD (dVar 2) (dJoin (dC (.str " ")) (dLst (dCons (dOp ixD (dVar 0) (dC (.int 0))) (dCons (dOp ixD (dVar 0) (dC (.int 1))) (dCons (dCB strIC (dCons (dOp ixD (dVar 0) (dC (.int 2))) (dNil))) (dCons (dCB strIC (dCons (dOp ixD (dVar 0) (dC (.int 3))) (dNil))) (dNil))))))))) (sSeq (sIf (dTst (dOp eqD (dOp ixD (dVar 0) (dC (.int 0))) (dC (.str "raw")))) (sRet (dVar 2)) (sNx)) (sSeq (sSet 2 (dJoin (dC (.str " ")) (dLst (dCons (dVar 2) (dCons (dCB strIC (dCons (dOp ixD (dOp ixD (dVar 0) (dC (.int 4))) (dC (.int 0))) (dNil))) (dCons (dOp ixD (dOp ixD (dVar 0) (dC (.int 4))) (dC (.int 1))) (dCons (dOp ixD (dOp ixD (dVar 0) (dC (.int 4))) (dC (.int 2))) (dNil)))))))) (sSeq (sFor (iSeqD (dOp ixD (dVar 0) (dC (.int 5)))) (gNm 3) (sSet 2 (dOp addD (dOp addD (dVar 2) (dC (.str "\n"))) (dCall (W_law_text K c n) [] (dCons (dVar 3) (dCons (dOp addD (dVar 1) (dC (.int 1))) (dNil))))))) (sRet (dVar 2)))))) ⟨fun _ M' => Lo Q .non M', Lo Q, fun _ _ => False, fun _ _ => False, Xd⟩ [some t.d, some (.int (d : Int)), some (.str pre), x3] M := by
  have l1 : (Str.ofString " ").length = 1 := by decide +kernel
  have jl : ∀ ws : List Str, (∀ w ∈ ws, Wd w) → ws.length ≤ 8 → (Str.join sp ws).length ≤ 328 := fun ws hw h8 => by
    have h1 := len_join sp ws
    have h2 := sum_le (ws := ws) (k := 40) fun w hx => (hw w hx).len
    have h4 : sp.length = 1 := by decide +kernel
    rw [h4] at h1; omega
  have hw := words_wd hk
  cases t with
  | raw b lo hi =>
    obtain ⟨h1, h2, h3⟩ := id hk
    unfold Th.d
    repeat fail
    refine ⟨_, rfl, ?_⟩
    repeat fail
    refine w_strI h1 (by omega) ?_
    repeat fail
    refine w_strI (by omega) (by omega) ?_
    repeat fail
    have j4 := jl (wordsW (.raw b lo hi)) hw (by simp [wordsW])
    refine ⟨wordsW (.raw b lo hi), rfl, ?_, ?_⟩
    · have h2 := sum_le (ws := wordsW (.raw b lo hi)) (k := 40) fun w hx => (hw w hx).len
      rw [l1]; simp only [wordsW, List.length_cons, List.length_nil] at h2 ⊢; omega
    refine w_addS (show pre.length + (Txt.join sp (wordsW (.raw b lo hi))).length ≤ sizeLine by rw [join_eq]; unfold sizeLine; omega) ?_
    repeat fail
    refine w_eqS (by decide +kernel) (by decide +kernel) ?_
    repeat fail
    refine w_ifdT rfl ?_
    repeat fail
    show Lo Q (.str (pre ++ Txt.join sp (wordsW (.raw b lo hi)))) M
    rw [join_eq, ← hp]
    rw [linesW, MH.join_one] at q
    exact lo_same q
  | made b lo hi sh u w ps =>
    obtain ⟨⟨h1, h2, h3⟩, hs, hps, hks⟩ := id hk
    rw [Th.sz] at hz
    rw [Th.st] at hd hn
    have hw4 : ∀ x ∈ [Str.ofString "made", landS b, iS lo, iS hi], Wd x := fun x hx => hw x (by
      simp only [wordsW, List.mem_cons, List.not_mem_nil, or_false] at hx ⊢
      rcases hx with e | e | e | e
      · exact .inl e
      · exact .inr (.inl e)
      · exact .inr (.inr (.inl e))
      · exact .inr (.inr (.inr (.inl e))))
    have j4 := jl _ hw4 (by simp)
    unfold Th.d termD
    repeat fail
    refine ⟨_, rfl, ?_⟩
    repeat fail
    refine w_strI h1 (by omega) ?_
    repeat fail
    refine w_strI (by omega) (by omega) ?_
    repeat fail
    refine ⟨[Str.ofString "made", landS b, iS lo, iS hi], rfl, ?_, ?_⟩
    · have h2 := sum_le (ws := [Str.ofString "made", landS b, iS lo, iS hi]) (k := 40) fun w hx => (hw4 w hx).len
      rw [l1]; simp only [List.length_cons, List.length_nil] at h2 ⊢; omega
    refine w_addS (show pre.length + (Txt.join sp _).length ≤ sizeLine by rw [join_eq]; unfold sizeLine; omega) ?_
    repeat fail
    refine w_eqS (by decide +kernel) (by decide +kernel) ?_
    repeat fail
    refine w_ifdF (by decide +kernel) ?_
    repeat fail
    refine ⟨_, rfl, ?_⟩
    repeat fail
    refine w_strI (by omega) (by omega) ?_
    repeat fail
    have e2 : Txt.join (Str.ofString " ") [pre ++ Txt.join (Str.ofString " ") [Str.ofString "made", landS b, iS lo, iS hi], iS sh, upS u, dnS w] = Str.join nl [lineW (.made b lo hi sh u w ps) d] := by
      show Txt.join sp [pre ++ Txt.join sp _, _, _, _] = _
      rw [join_eq, join_eq, made_row, MH.join_one, hp]; rfl
    refine ⟨[pre ++ Txt.join (Str.ofString " ") [Str.ofString "made", landS b, iS lo, iS hi], iS sh, upS u, dnS w], rfl, ?_, ?_⟩
    · have p4 : (pre ++ Txt.join (Str.ofString " ") [Str.ofString "made", landS b, iS lo, iS hi]).length ≤ 338 := by
        show (pre ++ Txt.join sp _).length ≤ 338
        rw [join_eq, len_tl, tl_append, List.length_append, ← len_tl, ← len_tl]; omega
      have w5 := (hw (iS sh) (by simp [wordsW])).len
      have w6 := (hw (upS u) (by simp [wordsW])).len
      have w7 := (hw (dnS w) (by simp [wordsW])).len
      rw [l1]
      simp only [List.map_cons, List.map_nil, List.sum_cons, List.sum_nil, List.length_cons, List.length_nil]
      omega
    · rw [e2]
      refine (?_ : (sSeq _ _) _ [_, _, some (.str (Str.join nl [lineW (.made b lo hi sh u w ps) d])), x3] M)
      repeat fail
      refine text_loop ih (fun _ => wat_none) ps [lineW (.made b lo hi sh u w ps) d] _ (by simp) (fun a ha => by rw [List.mem_singleton] at ha; subst ha; exact line_len hk (by omega)) (by simp; omega) hks (by omega) (by omega) fun y => ?_
      repeat fail
      rw [linesW] at q
      exact lo_same q
theorem text_k : ∀ n : Nat, TextOk K c n
  | 0 => fun _ _ _ _ _ h => by omega
  | n + 1 => fun t d M Q Xd hn hk hd hz q => by
    refine E_law_text ?_
    repeat fail
    refine w_ifd (fun z => ?_) (fun z => ?_)
    · repeat fail
      refine w_mulSI (dot_mul d (by omega)) ?_
      repeat fail
      have d5 := (dot_ok (d := d) (by omega)).2.1
      refine w_addS (show (dotS d).length + (Str.ofString " ").length ≤ sizeLine by
        have l1 : (Str.ofString " ").length = 1 := by decide +kernel
        rw [l1]; unfold sizeLine; omega) ?_
      repeat fail
      refine text_rest (text_k n) hn hk hd hz ?_ ?_ q
      · rw [pre_row, if_pos (by omega)]; rfl
      · have l1 : sp.length = 1 := by decide +kernel
        show (dotS d ++ sp).length ≤ 10
        rw [len_tl, tl_append, List.length_append, ← len_tl, ← len_tl]; omega
    · repeat fail
      refine text_rest (text_k n) hn hk hd hz ?_ ?_ q
      · rw [pre_row, if_neg (by omega)]
      · decide +kernel
end
set_option maxHeartbeats 1000000
section
variable {K : Fg} {c : Nat → Addr} {M : Mem} {Q : QD} {Xd : XD}
/-! ### a row read -/
def bareD : Th → D
  | .raw b lo hi => .tup [.str "raw", landD b, .int lo, .int hi]
  | .made b lo hi sh u w _ => .tup [.str "made", landD b, .int lo, .int hi, termD sh u w]
theorem w_intS {i : Int} {M : Mem} {Q : QD} (h0 : 0 ≤ i) (h1 : i < 10 ^ 30) (h : Q (.int i) M) : intSC [.str (iS i)] M Q := ⟨i, iS_int h0 h1, by have := (iS_len (k := 30) h0 (by decide) h1).2; omega, h⟩
theorem told_thing_k {t : Th} (hk : t.ok) (h : Q (bareD t) M) : W_told_thing K c [.lst ((wordsW t).map D.str)] M Q Xd := by
  refine E_told_thing ?_
  cases t with
  | raw b lo hi =>
    obtain ⟨h1, h2, h3⟩ := id hk
    show (sSeq _ _) _ [some (.lst [.str "raw", .str (landS b), .str (iS lo), .str (iS hi)]), none, none, none, none, none, none, none, none] M
    repeat fail
    refine w_ifdF (by simp) ?_
    repeat fail
    refine one_of_k (K := K) (c := c) (land_in b) ?_
    repeat fail
    rw [cut_24]
    refine ints_k (K := K) (c := c) (is := [lo, hi]) (by simp) (fun i hi' => ?_) ?_
    · simp only [List.mem_cons, List.not_mem_nil, or_false] at hi'
      rcases hi' with e | e <;> rw [e] <;> omega
    repeat fail
    refine ⟨_, _, _, _, _, rfl, ?_⟩
    repeat fail
    refine w_eqS (by decide +kernel) (by decide +kernel) ?_
    repeat fail
    refine w_ifdT rfl ?_
    repeat fail
    refine w_ifdT rfl ?_
    repeat fail
    refine w_intS h1 (by omega) ?_
    repeat fail
    refine w_intS (by omega) (by omega) ?_
    repeat fail
    exact lo_same h
  | made b lo hi sh u w ps =>
    obtain ⟨⟨h1, h2, h3⟩, hs, hps, hks⟩ := id hk
    show (sSeq _ _) _ [some (.lst [.str "made", .str (landS b), .str (iS lo), .str (iS hi), .str (iS sh), .str (upS u), .str (dnS w)]), none, none, none, none, none, none, none, none] M
    repeat fail
    refine w_ifdF (by simp) ?_
    repeat fail
    refine one_of_k (K := K) (c := c) (land_in b) ?_
    repeat fail
    rw [cut_24]
    refine ints_k (K := K) (c := c) (is := [lo, hi]) (by simp) (fun i hi' => ?_) ?_
    · simp only [List.mem_cons, List.not_mem_nil, or_false] at hi'
      rcases hi' with e | e <;> rw [e] <;> omega
    repeat fail
    refine ⟨_, _, _, _, _, rfl, ?_⟩
    repeat fail
    refine w_eqS (by decide +kernel) (by decide +kernel) ?_
    repeat fail
    refine w_ifdF (by decide +kernel) ?_
    repeat fail
    refine w_eqS (by decide +kernel) (by decide +kernel) ?_
    repeat fail
    refine w_ifdT rfl ?_
    repeat fail
    refine told_rule_k (K := K) (c := c) (by omega) ?_
    repeat fail
    refine ⟨_, _, _, rfl, ?_⟩
    repeat fail
    refine w_intS h1 (by omega) ?_
    repeat fail
    refine w_intS (by omega) (by omega) ?_
    repeat fail
    refine w_intS (by omega) (by omega) ?_
    repeat fail
    exact lo_same h
theorem told_row_k {t : Th} {d : Nat} (hk : t.ok) (hd : d ≤ 5) (h : Q (.tup [.int (d : Int), bareD t]) M) : W_told_row K c [.str (lineW t d)] M Q Xd := by
  have hl := line_len hk hd
  have sl1 : (Str.ofString " ").length = 1 := by decide +kernel
  have sp0 : Str.ofString " " = sp := rfl
  have dw := row_wd hk hd
  refine E_told_row ?_
  repeat fail
  refine ⟨_, rfl, ?_⟩
  repeat fail
  refine ⟨sp, rfl, by decide +kernel, by unfold sizeLine; omega, ?_⟩
  rw [line_split hk hd]
  unfold rowW at dw ⊢
  have fin : ∀ (x y z : Option D) (M' : Mem), M' = M → (sSeq (sSet 3 (dCall (W_told_thing K c) [] (dCons (dVar 1) (dNil)))) (sRet (dIte (dTst (dOp isD (dVar 3) (dC .non))) (dC .non) (dTup (dCons (dVar 2) (dCons (dVar 3) (dNil))))))) ⟨fun _ M' => Lo Q .non M', Lo Q, fun _ _ => False, fun _ _ => False, Xd⟩ [x, some (.lst ((wordsW t).map D.str)), some (.int (d : Int)), z] M' := fun x y z M' e => by
    subst e
    repeat fail
    refine told_thing_k (K := K) (c := c) hk ?_
    repeat fail
    have e : isN (bareD t) = false := by cases t <;> rfl
    rw [e]
    repeat fail
    exact lo_same h
  by_cases z : d = 0
  · rw [if_pos z] at dw ⊢
    subst z
    obtain ⟨w, r, e, hw, h3, h4, h5, h6⟩ : ∃ w r, wordsW t = w :: r ∧ PyData.strOk w = true ∧ (w.length = 3 ∨ w.length = 4) ∧ w ≠ Txt.mul (Str.ofString ".") (w.length : Int) ∧ MulOk (Str.ofString ".") (w.length : Int) ∧ PyData.strOk (Txt.mul (Str.ofString ".") (w.length : Int)) = true := by
      cases t with
      | raw b lo hi => exact ⟨Str.ofString "raw", _, rfl, by decide +kernel, by decide +kernel, by decide +kernel, by unfold MulOk; decide +kernel, by decide +kernel⟩
      | made b lo hi sh u w ps => exact ⟨Str.ofString "made", _, rfl, by decide +kernel, by decide +kernel, by decide +kernel, by unfold MulOk; decide +kernel, by decide +kernel⟩
    have f := fin (some (.str (lineW t 0))) none none M rfl
    rw [e, List.map_cons] at f ⊢
    repeat fail
    refine w_ixL0 ?_
    repeat fail
    refine w_lenS (by unfold sizeLine; omega) ?_
    repeat fail
    refine w_ifdT (by omega) ?_
    repeat fail
    refine w_ixL0 ?_
    repeat fail
    refine w_mulSI h5 ?_
    repeat fail
    refine w_eqS hw h6 ?_
    repeat fail
    refine w_ifdF h4 ?_
    repeat fail
    exact f
  · rw [if_neg z] at dw ⊢
    obtain ⟨h1, h2, h3⟩ := dot_ok (d := d) (by omega)
    rw [List.map_cons]
    repeat fail
    repeat fail
    refine w_ixL0 ?_
    repeat fail
    refine w_lenS (by rw [h2]; unfold sizeLine; omega) ?_
    rw [h2]
    repeat fail
    refine w_ifdT (by omega) ?_
    repeat fail
    refine w_ixL0 ?_
    repeat fail
    refine w_mulSI (dot_mul d hd) ?_
    repeat fail
    refine w_eqS h1.asc.ok h1.asc.ok ?_
    repeat fail
    refine w_ifdT rfl ?_
    repeat fail
    rw [cut_f1]
    repeat fail
    exact fin (some (.str (lineW t d))) none none M rfl
end
set_option maxHeartbeats 1000000
section
variable {K : Fg} {c : Nat → Addr} {M : Mem} {Q : QD} {Xd : XD}
/-! ### rows read one after another -/
def rowD (p : Th × Nat) : D := .tup [.int (p.2 : Int), bareD p.1]
theorem atI_last (L : List (Th × Nat)) (x : Th × Nat) : atI ((L ++ [x]).map rowD) (-1) = some (rowD x) := by
  rw [List.map_append]
  have e : ixN (L.map rowD ++ [x].map rowD).length (-1) = some L.length := by
    unfold ixN
    rw [List.length_append, List.length_map]
    rw [if_neg (by omega), if_pos (by simp; omega)]
    congr 1
    simp; omega
  unfold atI
  rw [e]
  show (L.map rowD ++ [x].map rowD)[L.length]? = _
  rw [List.getElem?_append_right (by rw [List.length_map]; exact Nat.le_refl _), List.length_map, Nat.sub_self]; rfl
theorem may_follow_k {p : Addr} {L : List (Th × Nat)} {d : Nat} (hM : M p = some (.lst (L.map rowD))) (hc : okNext L.getLast? d) (hl : L.length ≤ 20) (h : Q (.bl true) M) : W_may_follow K c [.ref p, .int (d : Int)] M Q Xd := by
  refine E_may_follow ?_
  repeat fail
  refine w_lenR hM ?_
  rw [List.length_map]
  repeat fail
  rcases List.eq_nil_or_concat L with e | ⟨I, x, e⟩
  · subst e
    refine w_ifdT rfl ?_
    repeat fail
    have e : d = 0 := hc
    subst e
    exact lo_same h
  · rw [List.concat_eq_append] at e
    subst e
    rw [List.getLast?_append, List.getLast?_singleton, Option.some_or] at hc
    refine w_ifdF (by rw [List.length_append]; simp; omega) ?_
    repeat fail
    refine w_ixRL hM (atI_last _ _) ?_
    obtain ⟨u, e⟩ := x
    unfold rowD
    have mk : ∃ k r, bareD u = .tup (.str k :: r) ∧ PyData.strOk k = true ∧ (k = Str.ofString "made" ↔ u.isMade = true) := by
      cases u with
      | raw b lo hi => exact ⟨Str.ofString "raw", _, rfl, by decide +kernel, ⟨fun z => absurd z (by decide +kernel), fun z => absurd (show false = true from z) Bool.false_ne_true⟩⟩
      | made b lo hi sh u w ps => exact ⟨Str.ofString "made", _, rfl, by decide +kernel, by constructor <;> (intro z; rfl)⟩
    obtain ⟨k, r, eb, hk, hm⟩ := mk
    rw [eb]
    repeat fail
    refine w_chdT (by have := hc.1; omega) ?_
    repeat fail
    refine w_eqS hk (by decide +kernel) ?_
    repeat fail
    have h2 : d ≤ (if u.isMade = true then e + 1 else e) := hc.2
    refine w_ifd (fun z => ?_) (fun z => ?_)
    · rw [if_pos (hm.mp z)] at h2
      repeat fail
      rw [decide_eq_true (show (d : Int) ≤ (e : Int) + 1 by omega)]
      exact lo_same h
    · rw [if_neg (fun y => z (hm.mpr y))] at h2
      repeat fail
      rw [decide_eq_true (show (d : Int) ≤ (e : Int) by omega)]
      exact lo_same h
theorem read_loop {x0 : Option D} {p : Addr} {M0 : Mem} {W : Mem → Prop} (hW : ∀ M, W M) {nx bk ct : SD → Mem → Prop} {rt : QD} : ∀ (L A : List (Th × Nat)) (i : Nat) (x2 x3 x4 : Option D), Chain A.getLast? L → (∀ z ∈ L, z.1.ok ∧ z.2 ≤ 5) → A.length + L.length ≤ 20 →
    (∀ y2 y3 y4, nx [x0, some (.ref p), y2, y3, y4] (M0.put p (.lst ((A ++ L).map rowD)))) →
    sForL (gTp 2 (gCo (gNm 2) (gCo (gNm 3) (gNi)))) (sSeq (sSet 4 (dCall (W_told_row K c) [] (dCons (dVar 3) (dNil)))) (sSeq (sIf (tOrD (dTst (dOp isD (dVar 4) (dC .non))) (tNotD (dTru (dCall (W_may_follow K c) [] (dCons (dVar 1) (dCons (dOp ixD (dVar 4) (dC (.int 0))) (dNil))))))) (sRaise (c 3) ["line"] (dCons (dOp addD (dVar 2) (dC (.int 1))) (dNil))) (sNx)) (sExpr (dApp (dVar 1) (dVar 4))))) ⟨nx, rt, bk, ct, Xd⟩ W (enmFrom i (L.map fun z => D.str (lineW z.1 z.2))) [x0, some (.ref p), x2, x3, x4] (M0.put p (.lst (A.map rowD)))
  | [], A, i, x2, x3, x4, hc, ho, hl, h => by
    refine w_forNil (hW _) ?_
    have := h x2 x3 x4
    rw [List.append_nil] at this
    exact this
  | (u, d) :: L, A, i, x2, x3, x4, hc, ho, hl, h => by
    rw [List.length_cons] at hl
    have hu := ho _ List.mem_cons_self
    refine w_forCons (hW _) ?_
    repeat fail
    refine told_row_k (K := K) (c := c) hu.1 hu.2 ?_
    repeat fail
    refine may_follow_k (K := K) (c := c) (L := A) Mem.put_same hc.1 (by omega) ?_
    repeat fail
    refine w_appO Mem.put_same ?_
    repeat fail
    refine w_appK Mem.put_same (by rw [List.length_map]; unfold sizeLine; omega) ?_
    rw [Mem.put_put]
    have e : A.map rowD ++ [rowD (u, d)] = (A ++ [(u, d)]).map rowD := by rw [List.map_append]; rfl
    show sForL _ _ _ _ (enmFrom (i + 1) (L.map fun z => D.str (lineW z.1 z.2))) _ (M0.put p (.lst (A.map rowD ++ [rowD (u, d)])))
    rw [e]
    refine read_loop hW L (A ++ [(u, d)]) (i + 1) _ _ _ ?_ (fun z hz => ho z (List.mem_cons_of_mem _ hz)) (by rw [List.length_append, List.length_singleton]; omega) fun y2 y3 y4 => ?_
    · rw [List.getLast?_append, List.getLast?_singleton, Option.some_or]; exact hc.2
    · rw [List.append_assoc]; exact h y2 y3 y4
end
set_option maxHeartbeats 1000000
section
variable {K : Fg} {c : Nat → Addr} {M : Mem} {Q : QD} {Xd : XD}
/-! ### _built -/
/-- what one row adds -/
def newX (u : Th) (R : List D) : D := match u with
  | .raw b lo hi => .tup [.str "raw", landD b, .int lo, .int hi]
  | .made b lo hi sh u w _ => .tup [.str "made", landD b, .int lo, .int hi, termD sh u w, .tup R.reverse]
def stepF (F : Nat → List D) (u : Th) (d : Nat) : Nat → List D := upN (upN F (d + 1) []) d (F d ++ [newX u (F (d + 1))])
section
variable {w : Addr} {M0 : Mem} {nx bk ct : SD → Mem → Prop} {rt : QD} {W : Mem → Prop} {x0 : Option D}
theorem built_step (hW : ∀ M, W M) {u : Th} {d n : Nat} {F : Nat → List D} {rest : List D} {x2 x3 x4 : Option D} {M : Mem} (b : BI w M0 n F M) (hn : n ≤ 900)
    (h : ∀ M' y2 y3 y4, BI w M0 (n + 1) (stepF F u d) M' → sForL (gTp 2 (gCo (gNm 2) (gCo (gNm 3) (gNi)))) (sSeq (sSet 4 (dPop2 (dVar 1) (dOp addD (dVar 2) (dC (.int 1))) (dLstO (dNil)))) (sSeq (sExpr (dRvs (dVar 4))) (sExpr (dApp (dSetd (dVar 1) (dVar 2) (dLstO (dNil))) (dIte (dTst (dOp eqD (dOp ixD (dVar 3) (dC (.int 0))) (dC (.str "made")))) (dTupS (dStar (dVar 3) (dCons (dCB tupleC (dCons (dVar 4) (dNil))) (dNil)))) (dVar 3)))))) ⟨nx, rt, bk, ct, Xd⟩ W rest [x0, some (.ref w), y2, y3, y4] M') :
    sForL (gTp 2 (gCo (gNm 2) (gCo (gNm 3) (gNi)))) (sSeq (sSet 4 (dPop2 (dVar 1) (dOp addD (dVar 2) (dC (.int 1))) (dLstO (dNil)))) (sSeq (sExpr (dRvs (dVar 4))) (sExpr (dApp (dSetd (dVar 1) (dVar 2) (dLstO (dNil))) (dIte (dTst (dOp eqD (dOp ixD (dVar 3) (dC (.int 0))) (dC (.str "made")))) (dTupS (dStar (dVar 3) (dCons (dCB tupleC (dCons (dVar 4) (dNil))) (dNil)))) (dVar 3)))))) ⟨nx, rt, bk, ct, Xd⟩ W (rowD (u, d) :: rest) [x0, some (.ref w), x2, x3, x4] M := by
  refine w_forCons (hW _) ?_
  unfold rowD
  repeat fail
  obtain ⟨L0, A0, hw0, _⟩ := id b.ex
  refine ⟨w, rfl, ⟨_, _, hw0⟩, ?_⟩
  repeat fail
  refine w_lstO ?_
  repeat fail
  intro z hz
  refine bi_pop' (d := d) (fun d_1 M1 => (sSeq (sExpr (dRvs (dVar 4))) (sExpr (dApp (dSetd (dVar 1) (dVar 2) (dLstO (dNil))) (dIte (dTst (dOp eqD (dOp ixD (dVar 3) (dC (.int 0))) (dC (.str "made")))) (dTupS (dStar (dVar 3) (dCons (dCB tupleC (dCons (dVar 4) (dNil))) (dNil)))) (dVar 3))))) ⟨sForL (gTp 2 (gCo (gNm 2) (gCo (gNm 3) (gNi)))) (sSeq (sSet 4 (dPop2 (dVar 1) (dOp addD (dVar 2) (dC (.int 1))) (dLstO (dNil)))) (sSeq (sExpr (dRvs (dVar 4))) (sExpr (dApp (dSetd (dVar 1) (dVar 2) (dLstO (dNil))) (dIte (dTst (dOp eqD (dOp ixD (dVar 3) (dC (.int 0))) (dC (.str "made")))) (dTupS (dStar (dVar 3) (dCons (dCB tupleC (dCons (dVar 4) (dNil))) (dNil)))) (dVar 3)))))) ⟨nx, rt, bk, ct, Xd⟩ W rest, rt, nx, sForL (gTp 2 (gCo (gNm 2) (gCo (gNm 3) (gNi)))) (sSeq (sSet 4 (dPop2 (dVar 1) (dOp addD (dVar 2) (dC (.int 1))) (dLstO (dNil)))) (sSeq (sExpr (dRvs (dVar 4))) (sExpr (dApp (dSetd (dVar 1) (dVar 2) (dLstO (dNil))) (dIte (dTst (dOp eqD (dOp ixD (dVar 3) (dC (.int 0))) (dC (.str "made")))) (dTupS (dStar (dVar 3) (dCons (dCB tupleC (dCons (dVar 4) (dNil))) (dNil)))) (dVar 3)))))) ⟨nx, rt, bk, ct, Xd⟩ W rest, Xd⟩ [x0, some (.ref w), some (.int (d : Int)), some (bareD u), some d_1] M1) b hz fun q M1 hq0 hqw hq1 b1 => ?_
  repeat fail
  refine w_rvsO hq1 ?_
  repeat fail
  have b2 := b1 (F (d + 1)).reverse
  obtain ⟨L2, A2, hw2, _⟩ := id b2.ex
  refine ⟨w, rfl, ⟨_, _, hw2⟩, ?_⟩
  repeat fail
  refine w_lstO ?_
  repeat fail
  intro z2 hz2
  refine bi_setd' (d := d) (appO _ _ _ _) b2 hz2 hn fun p M3 hp3 hk3 b3 => ?_
  have hq3 := hk3 q _ Mem.put_same hqw
  rw [upN_ne (by omega)] at hp3
  refine w_appO hp3 ?_
  have fin : ∀ x, x = newX u (F (d + 1)) → appK x (fun x M1 => sForL (gTp 2 (gCo (gNm 2) (gCo (gNm 3) (gNi)))) (sSeq (sSet 4 (dPop2 (dVar 1) (dOp addD (dVar 2) (dC (.int 1))) (dLstO (dNil)))) (sSeq (sExpr (dRvs (dVar 4))) (sExpr (dApp (dSetd (dVar 1) (dVar 2) (dLstO (dNil))) (dIte (dTst (dOp eqD (dOp ixD (dVar 3) (dC (.int 0))) (dC (.str "made")))) (dTupS (dStar (dVar 3) (dCons (dCB tupleC (dCons (dVar 4) (dNil))) (dNil)))) (dVar 3)))))) ⟨nx, rt, bk, ct, Xd⟩ W rest [x0, some (.ref w), some (.int (d : Int)), some (bareD u), some (.ref q)] M1) p M3 := fun x ex => by
    have lF : (F d).length ≤ n := b.fl d
    refine w_appK hp3 (by unfold sizeLine; omega) ?_
    subst ex
    refine h _ _ _ _ ?_
    unfold stepF
    exact b3 _ (by rw [List.length_append, List.length_singleton]; omega)
  cases u with
  | raw bb lo hi =>
    unfold bareD at fin ⊢
    repeat fail
    refine w_eqS (by decide +kernel) (by decide +kernel) ?_
    repeat fail
    refine w_ifdF (by decide +kernel) ?_
    repeat fail
    exact fin _ rfl
  | made bb lo hi sh u w' ps =>
    unfold bareD at fin ⊢
    repeat fail
    refine w_eqS (by decide +kernel) (by decide +kernel) ?_
    repeat fail
    refine w_ifdT rfl ?_
    repeat fail
    refine w_tupR hq3 ?_
    repeat fail
    refine ⟨by simp [sizeLine], ?_⟩
    exact fin _ rfl
theorem upN_id {F : Nat → List D} {k : Nat} (h : F k = []) : upN F k [] = F := by
  funext j
  by_cases e : j = k
  · rw [e, upN_same, h]
  · rw [upN_ne e]
theorem upN_up {F : Nat → List D} {k : Nat} {X Y : List D} : upN (upN F k X) k Y = upN F k Y := by
  funext j
  by_cases e : j = k
  · rw [e, upN_same, upN_same]
  · rw [upN_ne e, upN_ne e, upN_ne e]
theorem upN_self {F : Nat → List D} {k : Nat} : upN F k (F k ++ []) = F := by
  funext j
  by_cases e : j = k
  · rw [e, upN_same, List.append_nil]
  · rw [upN_ne e]
mutual
theorem built_t (hW : ∀ M, W M) : ∀ (t : Th) (d n : Nat) (F : Nat → List D) (rest : List D) (x2 x3 x4 : Option D) (M : Mem), BI w M0 n F M → (∀ k, d < k → F k = []) → n + t.sz ≤ 900 →
    (∀ M' y2 y3 y4, BI w M0 (n + t.sz) (upN F d (F d ++ [t.d])) M' → sForL (gTp 2 (gCo (gNm 2) (gCo (gNm 3) (gNi)))) (sSeq (sSet 4 (dPop2 (dVar 1) (dOp addD (dVar 2) (dC (.int 1))) (dLstO (dNil)))) (sSeq (sExpr (dRvs (dVar 4))) (sExpr (dApp (dSetd (dVar 1) (dVar 2) (dLstO (dNil))) (dIte (dTst (dOp eqD (dOp ixD (dVar 3) (dC (.int 0))) (dC (.str "made")))) (dTupS (dStar (dVar 3) (dCons (dCB tupleC (dCons (dVar 4) (dNil))) (dNil)))) (dVar 3)))))) ⟨nx, rt, bk, ct, Xd⟩ W rest [x0, some (.ref w), y2, y3, y4] M') →
    sForL (gTp 2 (gCo (gNm 2) (gCo (gNm 3) (gNi)))) (sSeq (sSet 4 (dPop2 (dVar 1) (dOp addD (dVar 2) (dC (.int 1))) (dLstO (dNil)))) (sSeq (sExpr (dRvs (dVar 4))) (sExpr (dApp (dSetd (dVar 1) (dVar 2) (dLstO (dNil))) (dIte (dTst (dOp eqD (dOp ixD (dVar 3) (dC (.int 0))) (dC (.str "made")))) (dTupS (dStar (dVar 3) (dCons (dCB tupleC (dCons (dVar 4) (dNil))) (dNil)))) (dVar 3)))))) ⟨nx, rt, bk, ct, Xd⟩ W ((pz t d).reverse.map rowD ++ rest) [x0, some (.ref w), x2, x3, x4] M
  | .raw b lo hi, d, n, F, rest, x2, x3, x4, M, hb, h0, hn, h => by
    rw [Th.sz] at hn h
    refine built_step hW hb (by omega) fun M' y2 y3 y4 hb' => h M' y2 y3 y4 ?_
    unfold stepF at hb'
    rw [upN_id (h0 (d + 1) (by omega))] at hb'
    exact hb'
  | .made b lo hi sh u w' ps, d, n, F, rest, x2, x3, x4, M, hb, h0, hn, h => by
    rw [Th.sz] at hn h
    rw [pz_made, List.reverse_cons, List.map_append, List.append_assoc]
    refine built_ts hW ps (d + 1) n F _ x2 x3 x4 M hb (fun k hk => h0 k (by omega)) (by omega) fun M' y2 y3 y4 hb1 => ?_
    refine built_step hW hb1 (by omega) fun M' y2 y3 y4 hb' => h M' y2 y3 y4 ?_
    unfold stepF at hb'
    rw [upN_up, upN_same, upN_ne (by omega), h0 (d + 1) (by omega), upN_id (h0 (d + 1) (by omega)), List.nil_append] at hb'
    have e : newX (.made b lo hi sh u w' ps) (Th.ds ps).reverse = (Th.made b lo hi sh u w' ps).d := by
      show D.tup [_, _, _, _, _, .tup (Th.ds ps).reverse.reverse] = _
      rw [List.reverse_reverse]; rfl
    rw [e] at hb'
    rw [show n + (1 + Th.szs ps) = n + Th.szs ps + 1 by omega]
    exact hb'
theorem built_ts (hW : ∀ M, W M) : ∀ (ts : List Th) (d n : Nat) (F : Nat → List D) (rest : List D) (x2 x3 x4 : Option D) (M : Mem), BI w M0 n F M → (∀ k, d < k → F k = []) → n + Th.szs ts ≤ 900 →
    (∀ M' y2 y3 y4, BI w M0 (n + Th.szs ts) (upN F d (F d ++ (Th.ds ts).reverse)) M' → sForL (gTp 2 (gCo (gNm 2) (gCo (gNm 3) (gNi)))) (sSeq (sSet 4 (dPop2 (dVar 1) (dOp addD (dVar 2) (dC (.int 1))) (dLstO (dNil)))) (sSeq (sExpr (dRvs (dVar 4))) (sExpr (dApp (dSetd (dVar 1) (dVar 2) (dLstO (dNil))) (dIte (dTst (dOp eqD (dOp ixD (dVar 3) (dC (.int 0))) (dC (.str "made")))) (dTupS (dStar (dVar 3) (dCons (dCB tupleC (dCons (dVar 4) (dNil))) (dNil)))) (dVar 3)))))) ⟨nx, rt, bk, ct, Xd⟩ W rest [x0, some (.ref w), y2, y3, y4] M') →
    sForL (gTp 2 (gCo (gNm 2) (gCo (gNm 3) (gNi)))) (sSeq (sSet 4 (dPop2 (dVar 1) (dOp addD (dVar 2) (dC (.int 1))) (dLstO (dNil)))) (sSeq (sExpr (dRvs (dVar 4))) (sExpr (dApp (dSetd (dVar 1) (dVar 2) (dLstO (dNil))) (dIte (dTst (dOp eqD (dOp ixD (dVar 3) (dC (.int 0))) (dC (.str "made")))) (dTupS (dStar (dVar 3) (dCons (dCB tupleC (dCons (dVar 4) (dNil))) (dNil)))) (dVar 3)))))) ⟨nx, rt, bk, ct, Xd⟩ W ((pzs ts d).reverse.map rowD ++ rest) [x0, some (.ref w), x2, x3, x4] M
  | [], d, n, F, rest, x2, x3, x4, M, hb, h0, hn, h => by
    refine h M x2 x3 x4 ?_
    show BI w M0 n (upN F d (F d ++ [])) M
    rw [upN_self]; exact hb
  | t :: ts, d, n, F, rest, x2, x3, x4, M, hb, h0, hn, h => by
    rw [Th.szs] at hn h
    rw [pzs_cons, List.reverse_append, List.map_append, List.append_assoc]
    refine built_ts hW ts d n F _ x2 x3 x4 M hb h0 (by omega) fun M' y2 y3 y4 hb1 => ?_
    refine built_t hW t d _ _ _ y2 y3 y4 M' hb1 (fun k hk => by rw [upN_ne (by omega)]; exact h0 k hk) (by omega) fun M' y2 y3 y4 hb2 => h M' y2 y3 y4 ?_
    rw [upN_up, upN_same, List.append_assoc] at hb2
    rw [show n + (t.sz + Th.szs ts) = n + Th.szs ts + t.sz by omega]
    rw [Th.ds, List.reverse_cons]
    exact hb2
end
end
theorem built_k {t : Th} (hz : t.sz ≤ 800) (h : Q t.d M) : W_built K c [.lst ((pz t 0).map rowD)] M Q Xd := by
  refine E_built ?_
  repeat fail
  refine w_dctN ?_
  intro w hw
  repeat fail
  rw [← List.map_reverse, ← List.append_nil ((pz t 0).reverse.map rowD)]
  refine built_t (fun _ => wat_none) t 0 0 (fun _ => []) [] none none none _ (bi_new hw) (fun _ _ => rfl) (by omega) fun M' y2 y3 y4 hb => ?_
  refine w_forNil wat_none ?_
  obtain ⟨L, A, hd, nd, ln, hA, inj, off⟩ := hb.ex
  have h0 : 0 ∈ L := Decidable.byContradiction fun z => by
    have := off 0 z
    rw [upN_same] at this; cases this
  obtain ⟨a1, a2, a3⟩ := hA 0 h0
  rw [upN_same] at a3
  repeat fail
  refine w_ixRDi hd (val_nat (fun k => D.ref (A k)) L 0 h0) ?_
  repeat fail
  refine w_ixRL a3 (atI_nat (j := 0) (v := t.d) rfl) ?_
  exact lo_less hb.ext h
end
set_option maxHeartbeats 1000000
section
variable {K : Fg} {c : Nat → Addr} {M : Mem} {Q : QD} {Xd : XD}
theorem need_good_k {t : Th} (hg : t.good) (h : Q t.d M) : Wneed_good K c [t.d] M Q Xd := by
  refine Eneed_good ?_
  repeat fail
  refine over_k hg ?_
  repeat fail
  exact lo_same h
theorem text_len {t : Th} (hg : t.good) : (textW t).length ≤ 4010 := by
  have hz := hg.sz
  exact join_len (lines_le hg.ok (d := 0) (by have := hg.st; omega)) (by rw [lines_len]; omega)
theorem text_split {t : Th} (hg : t.good) : Txt.split (textW t) nl = (pz t 0).map fun z => lineW z.1 z.2 := by
  unfold textW
  rw [← join_eq, ← pz_lines]
  refine split_nl (lines_ne t 0) fun x hx => ?_
  obtain ⟨u, d, hu, hd, rfl⟩ := lines_all hg.ok (by have := hg.st; omega) x hx
  exact (line_asc hu hd).2
theorem read_good_k {t : Th} (hg : t.good) (h : Q t.d M) : Wread_good K c [.str (textW t)] M Q Xd := by
  have hk := hg.ok
  have hst := hg.st
  have hz := hg.sz
  have hl := text_len hg
  refine Eread_good ?_
  repeat fail
  refine w_lstO ?_
  repeat fail
  intro p hp
  repeat fail
  have hc : Chain none (pz t 0) := by
    cases t with
    | raw => exact absurd hg.made Bool.false_ne_true
    | made b lo hi sh u w ps => exact chain_root
  have ho : ∀ z ∈ pz t 0, z.1.ok ∧ z.2 ≤ 5 := fun z hz => by
    have hm := List.of_mem_zip hz
    exact ⟨fl_ok t hk _ hm.1, by have := deps_le t 0 _ hm.2; omega⟩
  have hlen : (pz t 0).length ≤ 10 := by unfold pz; rw [List.length_zip, deps_len, fl_len, Nat.min_self]; exact hz
  refine ⟨textW t, rfl, nl, rfl, by decide +kernel, by unfold sizeLine; omega, ?_⟩
  rw [text_split hg, List.map_map]
  repeat fail
  refine read_loop (fun _ => wat_none) (pz t 0) [] 0 none none none hc ho (by simp; omega) fun y2 y3 y4 => ?_
  refine w_frz1 Mem.put_same ?_
  rw [put_del hp, List.nil_append]
  repeat fail
  refine built_k (K := K) (c := c) (by omega) ?_
  repeat fail
  exact need_good_k (K := K) (c := c) hg (lo_same h)
end
set_option maxHeartbeats 1000000
section
variable {K : Fg} {c : Nat → Addr} {M : Mem} {Q : QD} {Xd : XD}
/-! ### prices as texts -/
def Frk (f : Int × Int) : Prop := 0 ≤ f.1 ∧ f.1 < 10 ^ 28 ∧ 0 < f.2 ∧ f.2 < 10 ^ 28 ∧ Int.gcd f.1 f.2 = 1
def fracW (f : Int × Int) : Str := Str.join sl [iS f.1, iS f.2]
def pricesW (fs : List (Int × Int)) : Str := Str.join sp (fs.map fracW)
theorem frac_eq (f : Int × Int) : fracW f = iS f.1 ++ sl ++ iS f.2 := by unfold fracW; rw [join_cons2, MH.join_one]
theorem frac_wd {f : Int × Int} (h : Frk f) : Asc (fracW f) ∧ 32 ∉ tl (fracW f) ∧ (fracW f).length ≤ 100 := by
  obtain ⟨h1, h2, h3, h4, _⟩ := h
  have l1 := (iS_len (k := 28) h1 (by decide) h2).2
  have l2 := (iS_len (k := 28) (i := f.2) (by omega) (by decide) h4).2
  have l3 : sl.length = 1 := by decide +kernel
  refine ⟨asc_join (asc_by (by decide +kernel)) fun w hw => ?_, join_free (by decide +kernel) fun w hw => ?_, ?_⟩
  · simp only [List.mem_cons, List.not_mem_nil, or_false] at hw
    rcases hw with e | e <;> rw [e] <;> exact iS_asc (by omega)
  · simp only [List.mem_cons, List.not_mem_nil, or_false] at hw
    rcases hw with e | e <;> rw [e] <;> exact iS_free (by omega) (by omega)
  · rw [frac_eq, len_tl, tl_append, tl_append, List.length_append, List.length_append, ← len_tl, ← len_tl, ← len_tl]; omega
theorem frac_split {f : Int × Int} (h : Frk f) : Txt.split (fracW f) sl = [iS f.1, iS f.2] := by
  obtain ⟨h1, h2, h3, h4, _⟩ := h
  unfold fracW
  rw [← join_eq]
  refine split_sl (by simp) fun w hw => ?_
  simp only [List.mem_cons, List.not_mem_nil, or_false] at hw
  rcases hw with e | e <;> rw [e] <;> exact iS_free (by omega) (by omega)
theorem emp_app (x : Str) : Str.empty ++ x = x := by apply tl_inj; rw [tl_append]; rfl
theorem fraction_text_k {f : Int × Int} (hf : Frk f) (h : Q (.str (fracW f)) M) : Wfraction_text K c [frD f] M Q Xd := by
  have hw := frac_wd hf
  have he := frac_eq f
  obtain ⟨h1, h2, h3, h4, h5⟩ := hf
  have p30 : (10 : Int) ^ 28 ≤ 10 ^ 30 := by decide
  have l1 := (iS_len (k := 28) h1 (by decide) h2).2
  have l2 := (iS_len (k := 28) (i := f.2) (by omega) (by decide) h4).2
  have l3 : sl.length = 1 := by decide +kernel
  refine Efraction_text ?_
  unfold frD
  repeat fail
  refine .inr ⟨f.1, rfl, log_ok h1 (by omega), ?_⟩
  refine ⟨iS f.1, rfl, by rw [emp_app]; unfold sizeLine; omega, ?_⟩
  rw [emp_app]
  refine ⟨sl, rfl, by rw [len_tl, tl_append, List.length_append, ← len_tl, ← len_tl]; unfold sizeLine; omega, ?_⟩
  refine .inr ⟨f.2, rfl, log_ok (by omega) (by omega), ?_⟩
  refine ⟨iS f.2, rfl, by rw [← he]; unfold sizeLine; omega, ?_⟩
  rw [← he]
  exact lo_same h
theorem told_fraction_k {f : Int × Int} (hf : Frk f) (h : Q (frD f) M) : Wtold_fraction K c [.str (fracW f)] M Q Xd := by
  have hw := frac_wd hf
  have hs := frac_split hf
  obtain ⟨h1, h2, h3, h4, h5⟩ := hf
  have p30 : (10 : Int) ^ 28 ≤ 10 ^ 30 := by decide
  refine Etold_fraction ?_
  repeat fail
  refine ⟨_, rfl, sl, rfl, by decide +kernel, by unfold sizeLine; omega, ?_⟩
  rw [hs]
  repeat fail
  refine w_ifndT rfl ?_
  repeat fail
  refine w_lc ?_
  repeat fail
  intro p hp
  show dLcL _ _ _ _ _ _ _ ([f.1, f.2].map fun i => D.str (iS i)) _
  refine lc_gen (h := fun _ => .bl true) hp (fun _ => wat_none) [f.1, f.2] (by simp [sizeLine]) (fun i hi' acc K1 q => ?_) ?_
  · simp only [List.mem_cons, List.not_mem_nil, or_false] at hi'
    repeat fail
    refine figures_k (K := K) (c := c) (k := 30) ?_ (by decide) ?_ q
    · rcases hi' with e | e <;> rw [e] <;> omega
    · rcases hi' with e | e <;> rw [e] <;> omega
  · refine ⟨[true, true], rfl, ?_⟩
    show truK _ (D.bl true) M
    repeat fail
    refine w_ixL0 ?_
    repeat fail
    refine w_intS h1 (by omega) ?_
    repeat fail
    refine w_ixL1 ?_
    repeat fail
    refine w_intS (by omega) (by omega) ?_
    repeat fail
    refine w_ifdT h3 ?_
    repeat fail
    refine w_ifdT (by have z := h5; unfold Int.gcd at z; omega) ?_
    repeat fail
    exact lo_same h
theorem frk_of {t : Th} {f : Int × Int} (h : FP t f) : Frk f := by
  obtain ⟨b1, b2, b3⟩ := h.bd
  have q := dvd_le h.dvd h.pos
  have l := h.lo
  have u := h.hi
  have z1 : 0 ≤ lowOf t * f.2 := Int.mul_nonneg b1 (by have := h.pos; omega)
  have z2 : higOf t * f.2 ≤ 1000000 * 2100 := Int.mul_le_mul b3 q (by have := h.pos; omega) (by decide)
  exact ⟨by omega, by omega, h.pos, by omega, h.cop⟩
theorem frks_of : ∀ {ts : List Th} {fs : List (Int × Int)}, FPs ts fs → ∀ f ∈ fs, Frk f
  | _, _, .nil, f, hf => by cases hf
  | _, _, .cons h r, f, hf => by
    rcases List.mem_cons.mp hf with e | hf
    · rw [e]; exact frk_of h
    · exact frks_of r f hf
theorem prices_len {fs : List (Int × Int)} (h : ∀ f ∈ fs, Frk f) (hl : fs.length ≤ 10) : ((fs.map fracW).map (·.length)).sum + (fs.map fracW).length * (Str.ofString " ").length ≤ 1010 ∧ (pricesW fs).length ≤ 1010 := by
  have h2 := sum_le (ws := fs.map fracW) (k := 100) fun w hw => by
    obtain ⟨f, hf, rfl⟩ := List.mem_map.mp hw
    exact (frac_wd (h f hf)).2.2
  have h1 := len_join sp (fs.map fracW)
  have h4 : sp.length = 1 := by decide +kernel
  have h5 : (Str.ofString " ").length = 1 := by decide +kernel
  rw [h4] at h1
  rw [h5]
  rw [List.length_map] at h1 h2 ⊢
  unfold pricesW
  constructor <;> omega
theorem prices_text_k {t : Th} {fs : List (Int × Int)} (hg : t.good) (hf : FPs t.fl fs) (h : Q (.str (pricesW fs)) M) : Wprices_text K c [t.d, .tup (fs.map frD)] M Q Xd := by
  have hfl : fs.length ≤ 10 := by rw [hf.len, fl_len]; exact hg.sz
  have hk := frks_of hf
  refine Eprices_text ?_
  repeat fail
  refine over_k hg ?_
  repeat fail
  refine ⟨_, rfl, ?_⟩
  refine w_lc ?_
  repeat fail
  refine need_k (K := K) (c := c) hf (by rw [← hf.len]; omega) ?_
  repeat fail
  intro p hp
  refine lc_gen (h := fun f => .str (fracW f)) hp (fun _ => wat_none) fs (by unfold sizeLine; omega) (fun f hf' acc K1 q1 => ?_) ?_
  · repeat fail
    exact fraction_text_k (K := K) (c := c) (hk f hf') q1
  · refine ⟨fs.map fracW, by rw [List.map_map]; rfl, Nat.le_trans (prices_len hk hfl).1 (by decide), ?_⟩
    show Lo Q (.str (Txt.join sp (fs.map fracW))) M
    rw [join_eq]
    exact lo_same h
theorem split_prices {fs : List (Int × Int)} (hne : fs ≠ []) (hk : ∀ f ∈ fs, Frk f) : Txt.split (pricesW fs) sp = fs.map fracW := by
  unfold pricesW
  rw [← join_eq]
  refine split_sp (by simpa using hne) fun w hw => ?_
  obtain ⟨f, hf, rfl⟩ := List.mem_map.mp hw
  exact (frac_wd (hk f hf)).2.1
def frP (f : Int × Int) : PyData := .tuple [.int f.1, .int f.2]
theorem py_frs : ∀ fs : List (Int × Int), toPys (fs.map frD) = some (fs.map frP)
  | [] => rfl
  | f :: fs => by rw [List.map_cons, toPys, py_frs fs]; rfl
theorem lay_frs : ∀ fs : List (Int × Int), PyData.canLayAll0 (fs.map frP) = true ∧ PyData.depthAll (fs.map frP) ≤ 1
  | [] => ⟨rfl, by decide⟩
  | f :: fs => by
    obtain ⟨h1, h2⟩ := lay_frs fs
    refine ⟨?_, ?_⟩
    · rw [List.map_cons, PyData.canLayAll0, h1]; rfl
    · rw [List.map_cons, PyData.depthAll]
      exact Nat.max_le.mpr ⟨by show PyData.depth (.tuple [.int f.1, .int f.2]) ≤ 1; simp [PyData.depth, PyData.depthAll], h2⟩
theorem shaped_frs (fs : List (Int × Int)) : SeqAt.shaped (.list (fs.map frP)) = true := by
  obtain ⟨h1, h2⟩ := lay_frs fs
  unfold SeqAt.shaped
  rw [PyData.canLay0, h1, Bool.true_and, PyData.depth]
  exact decide_eq_true (by omega)
theorem none_frs (fs : List (Int × Int)) : ((fs.map frP).any fun z => PyData.eqv z .none) = false := by
  rw [List.any_eq_false]
  intro z hz
  obtain ⟨f, _, rfl⟩ := List.mem_map.mp hz
  unfold frP
  simp [PyData.eqv]
theorem read_prices_k {t : Th} {fs : List (Int × Int)} (hg : t.good) (hf : FPs t.fl fs) (h : Q (.tup (fs.map frD)) M) : Wread_prices K c [t.d, .str (pricesW fs)] M Q Xd := by
  have hfl : fs.length ≤ 10 := by rw [hf.len, fl_len]; exact hg.sz
  have hk := frks_of hf
  refine Eread_prices ?_
  repeat fail
  refine over_k hg ?_
  repeat fail
  have hne : fs ≠ [] := fun e => by
    have := hf.len
    rw [e, fl_len] at this
    have := sz_pos t
    simp at *
    omega
  refine w_lc ?_
  repeat fail
  refine ⟨_, rfl, sp, rfl, by decide +kernel, by have := (prices_len hk hfl).2; unfold sizeLine; omega, ?_⟩
  rw [split_prices hne hk, List.map_map]
  repeat fail
  intro p hp
  refine lc_gen (F := fun f => D.str (fracW f)) (h := frD) hp (fun _ => wat_none) fs (by unfold sizeLine; omega) (fun f hf' acc K1 q1 => ?_) ?_
  · repeat fail
    exact told_fraction_k (K := K) (c := c) (hk f hf') q1
  · repeat fail
    have el : (fs.map frD).length = (Th.ds t.fl).length := by rw [List.length_map, hf.len, ds_map, List.length_map]
    rw [el]
    refine w_ifndT rfl ?_
    repeat fail
    refine ⟨.none, fs.map frP, rfl, by show (toPys (fs.map frD)).map PyData.list = _; rw [py_frs]; rfl, by decide +kernel, shaped_frs fs, ?_⟩
    rw [none_frs]
    repeat fail
    exact need_k (K := K) (c := c) hf (by rw [← hf.len]; omega) (lo_same h)
end
set_option maxHeartbeats 2000000
theorem fps_of : ∀ {rs : List (Th × List Nat)} {fs : List (Int × Int)}, (∀ r ∈ rs, r.1.ok) → RowR rs fs → FPs (rs.map (·.1)) fs
  | [], [], _, .nil => .nil
  | r :: rs, f :: fs, h, .cons hf hr => by
    have hb := ok_bnd (h r List.mem_cons_self)
    refine .cons ?_ (fps_of (fun x hx => h x (List.mem_cons_of_mem _ hx)) hr)
    have e1 : lowOf r.1 = Th.lo r.1 := by cases r.1 <;> rfl
    have e2 : higOf r.1 = Th.hi r.1 := by cases r.1 <;> rfl
    exact ⟨hf.pos, hf.cop, hf.dvd, by rw [e1]; exact hf.lo, by rw [e2]; exact hf.hi, by rw [e1, e2]; exact hb⟩
theorem text_asc {t : Th} (hg : t.good) : Asc (textW t) := by
  unfold textW
  refine asc_join asc_nl fun x hx => ?_
  obtain ⟨u, d, hu, hd, rfl⟩ := lines_all hg.ok (by have := hg.st; omega) x hx
  exact (line_asc hu hd).1
theorem prices_asc {fs : List (Int × Int)} (h : ∀ f ∈ fs, Frk f) : Asc (pricesW fs) := by
  unfold pricesW
  refine asc_join asc_sp fun x hx => ?_
  obtain ⟨f, hf, rfl⟩ := List.mem_map.mp hx
  exact (frac_wd (h f hf)).1
theorem eqO_two {x : Str} (h : PyData.strOk x = true) : eqO (.lst [.str x, .str x]) (.lst [.str x, .str x]) = some true := by
  have s : SeqAt.shaped (.list [.str x, .str x]) = true := by
    unfold SeqAt.shaped
    simp only [PyData.canLay0, PyData.canLayAll0, h, PyData.depth, PyData.depthAll]; rfl
  have e : PyData.eqv (.list [.str x, .str x]) (.list [.str x, .str x]) = true := by
    simp [PyData.eqv, PyData.eqvAll]
  show (if SeqAt.shaped (.list [.str x, .str x]) = true ∧ SeqAt.shaped (.list [.str x, .str x]) = true then some (PyData.eqv (.list [.str x, .str x]) (.list [.str x, .str x])) else none) = some true
  rw [if_pos ⟨s, s⟩, e]
theorem frk_abs {f : Int × Int} {t : Th} (h : FP t f) : f.1.natAbs ≤ 2 ^ 40 ∧ f.2.natAbs ≤ 2 ^ 40 := by
  obtain ⟨b1, b2, b3⟩ := h.bd
  have q := dvd_le h.dvd h.pos
  have p := h.pos
  have l := h.lo
  have u := h.hi
  have z1 : 0 ≤ lowOf t * f.2 := Int.mul_nonneg b1 (by omega)
  have z2 : higOf t * f.2 ≤ 1000000 * 2100 := Int.mul_le_mul b3 q (by omega) (by decide)
  omega
theorem frs_abs : ∀ {ts : List Th} {fs : List (Int × Int)}, FPs ts fs → ∀ f ∈ fs, f.1.natAbs ≤ 2 ^ 40 ∧ f.2.natAbs ≤ 2 ^ 40
  | _, _, .nil, f, hf => by cases hf
  | _, _, .cons h r, f, hf => by
    rcases List.mem_cons.mp hf with e | hf
    · rw [e]; exact frk_abs h
    · exact frs_abs r f hf
section
variable {K : Fg} {c : Nat → Addr} {M : Mem} {Q : QD} {Xd : XD}
theorem vw_th (M : Mem) (t : Th) : vw M t.d = t.d := by cases t <;> rfl
theorem lap_loop {a : Addr} {cells : List Int} (hc : cells ≠ []) {nx bk ct : SD → Mem → Prop} {rt : QD} {W : Mem → Prop} (hW : ∀ M, W M) {B : Int} (hB : B < 2 ^ 39) {x0 : Option D}
    (h : ∀ M o2 o3 o4 o5 o6 o7 o8 o9 o10, nx [x0, some (.ref a), o2, o3, o4, o5, o6, o7, o8, o9, o10] M) :
    ∀ (ds : List D) (b : Int) (M : Mem) (o2 o3 o4 o5 o6 o7 o8 o9 o10 : Option D), Dr a cells b M → b + 500 * (ds.length : Int) ≤ B →
    sForL (gNm 2) (sSeq (sSet 3 (dCall (W_law_good K c) [] (dCons (dVar 1) (dCons (dC (.int 3)) (dCons (dC (.int 4)) (dNil)))))) (sSeq (sSet 4 (dCall (W_law_text K c 8) [] (dCons (dVar 3) (dCons (dC (.int 0)) (dNil))))) (sSeq (sIf (tOrD (dTst (dOp neD (dLst (dCons (dCall (Wgood_text K c) [] (dCons (dVar 3) (dNil))) (dCons (dCall (Wgood_text K c) [] (dCons (dVar 3) (dNil))) (dNil)))) (dLst (dCons (dVar 4) (dCons (dVar 4) (dNil)))))) (dTst (dOp neD (dCB reprX (dCons (dCall (Wread_good K c) [] (dCons (dVar 4) (dNil))) (dNil))) (dCB reprX (dCons (dVar 3) (dNil)))))) (sRet (dC (.bl false))) (sNx)) (sSeq (sSet 5 (dCall (W_law_prices K c) [] (dCons (dVar 1) (dCons (dVar 3) (dNil))))) (sSeq (sSet 6 (dJoin (dC (.str " ")) (dLc (iSeqD (dVar 5)) (gTp 2 (gCo (gNm 7) (gCo (gNm 8) (gNi)))) (tYesD) (dOp addD (dOp addD (dCB strIC (dCons (dVar 7) (dNil))) (dC (.str "/"))) (dCB strIC (dCons (dVar 8) (dNil)))) [7, 8]))) (sIf (tOrD (dTst (dOp neD (dCall (Wprices_text K c) [] (dCons (dVar 3) (dCons (dVar 5) (dNil)))) (dVar 6))) (dTst (dOp neD (dCB reprX (dCons (dCall (Wread_prices K c) [] (dCons (dVar 3) (dCons (dVar 6) (dNil)))) (dNil))) (dCB reprX (dCons (dVar 5) (dNil)))))) (sRet (dC (.bl false))) (sNx))))))) ⟨nx, rt, bk, ct, Xd⟩ W ds [x0, some (.ref a), o2, o3, o4, o5, o6, o7, o8, o9, o10] M
  | [], b, M, o2, o3, o4, o5, o6, o7, o8, o9, o10, _, _ => w_forNil (hW M) (h M _ _ _ _ _ _ _ _ _)
  | d :: ds, b, M, o2, o3, o4, o5, o6, o7, o8, o9, o10, hD, hb => by
    rw [List.length_cons] at hb
    push_cast at hb
    refine w_forCons (hW M) ?_
    repeat fail
    refine good_k (moving := 3) (making := 4) hc (by omega) (by decide) (by decide) hD fun t M1 hg _ _ hD1 hS1 => ?_
    have hz := hg.sz
    have hst := hg.st
    have ha := text_asc hg
    have hrx := th_rx hg.ok (by omega) (by omega)
    repeat fail
    refine text_k 8 t 0 _ _ _ (by omega) hg.ok (by omega) (by omega) ?_
    rw [show Str.join nl (linesW t 0) = textW t from rfl]
    repeat fail
    refine good_text_k hg ?_
    repeat fail
    refine good_text_k hg ?_
    repeat fail
    refine w_neO (eqO_two ha.ok) ?_
    repeat fail
    refine read_good_k hg ?_
    repeat fail
    refine w_reprX hrx (vw_th _ t) (by decide) (by decide) ?_
    repeat fail
    refine w_reprX hrx (vw_th _ t) (by decide) (by decide) ?_
    repeat fail
    refine w_neShX hrx ?_
    repeat fail
    refine prices_k hc hg.ok (by omega) hz (by omega) hD1 fun fs M2 hr hD2 hS2 => ?_
    have hf : FPs t.fl fs := by rw [fl_rows t 0]; exact fps_of (fun r hr => (rows_ok t 0 hg.ok r hr).1) hr
    have hk := frks_of hf
    have hfl : fs.length ≤ 10 := by rw [hf.len, fl_len]; exact hz
    have pa := prices_asc hk
    have prx := frs_rx (frs_abs hf) hfl
    repeat fail
    refine ⟨_, rfl, ?_⟩
    refine w_lc ?_
    repeat fail
    intro p hp
    simp only [wipeD, List.set_cons_succ, List.set_cons_zero]
    refine lc_gen (F := frD) (h := fun f => .str (fracW f)) hp (fun _ => wat_none) fs (by unfold sizeLine; omega) (fun f hf' acc K1 q1 => ?_) ?_
    · have fk := hk f hf'
      have hw := (frac_wd fk).2.2
      have he := frac_eq f
      obtain ⟨f1, f2, f3, f4, f5⟩ := fk
      have p30 : (10 : Int) ^ 28 ≤ 10 ^ 30 := by decide
      have l1 := (iS_len (k := 28) f1 (by decide) f2).2
      have l2 := (iS_len (k := 28) (i := f.2) (by omega) (by decide) f4).2
      have l3 : sl.length = 1 := by decide +kernel
      unfold frD
      repeat fail
      refine w_strI f1 (by omega) ?_
      repeat fail
      refine w_addS (b := sl) (by unfold sizeLine; omega) ?_
      repeat fail
      refine w_strI (by omega) (by omega) ?_
      repeat fail
      refine w_addS (by rw [len_tl (iS f.1 ++ sl), tl_append, List.length_append, ← len_tl, ← len_tl]; unfold sizeLine; omega) ?_
      rw [← he]
      exact q1
    · refine ⟨fs.map fracW, by rw [List.map_map]; rfl, Nat.le_trans (prices_len hk hfl).1 (by decide), ?_⟩
      have e : Txt.join (Str.ofString " ") (fs.map fracW) = pricesW fs := by show Txt.join sp _ = _; rw [join_eq]; rfl
      rw [e]
      repeat fail
      refine prices_text_k (K := K) (c := c) hg hf ?_
      repeat fail
      refine w_neS pa.ok pa.ok ?_
      rw [decide_eq_true rfl]
      repeat fail
      refine read_prices_k (K := K) (c := c) hg hf ?_
      repeat fail
      refine w_reprX prx rfl (by decide) (by decide) ?_
      repeat fail
      refine w_reprX prx rfl (by decide) (by decide) ?_
      repeat fail
      refine w_neShX prx ?_
      repeat fail
      exact lap_loop hc hW hB h ds _ M2 _ _ _ _ _ _ _ _ _ hD2 (by omega)
/-! ### the good that is written down -/
def innT : Th := .made true 2 2 50 true false [.raw false 1 5, .raw true 1 1]
def outT : Th := .made false 1 1 60 false true [innT, .raw true 0 3]
def outF : List (Int × Int) := [(1, 1), (2, 1), (7, 2), (1, 1), (1, 2)]
theorem out_good : outT.good := ⟨rfl, ⟨⟨by decide, by decide, by decide⟩, ⟨by decide, by decide⟩, ⟨by decide, by decide⟩, ⟨⟨by decide, by decide, by decide⟩, ⟨by decide, by decide⟩, ⟨by decide, by decide⟩, ⟨by decide, by decide, by decide⟩, ⟨by decide, by decide, by decide⟩, trivial⟩, ⟨by decide, by decide, by decide⟩, trivial⟩, by decide, by decide, by decide, by decide⟩
theorem out_fp : FPs outT.fl outF :=
  .cons ⟨by decide, by decide, by decide, by decide, by decide, by decide, by decide, by decide⟩ <| .cons ⟨by decide, by decide, by decide, by decide, by decide, by decide, by decide, by decide⟩ <|
  .cons ⟨by decide, by decide, by decide, by decide, by decide, by decide, by decide, by decide⟩ <| .cons ⟨by decide, by decide, by decide, by decide, by decide, by decide, by decide, by decide⟩ <|
  .cons ⟨by decide, by decide, by decide, by decide, by decide, by decide, by decide, by decide⟩ .nil
theorem out_text : Txt.join (Str.ofString "\n") ["made away 1 1 60 own own", ". made here 2 2 50 whole none", ".. raw away 1 5", ".. raw here 1 1", ". raw here 0 3"] = textW outT := by decide +kernel
theorem out_prices : (Str.ofString "1/1 2/1 7/2 1/1 1/2") = pricesW outF := by decide +kernel
theorem out_d : outT.d = .tup [.str "made", .str "away", .int 1, .int 1, .tup [.int 60, .str "own", .str "own"], .tup [.tup [.str "made", .str "here", .int 2, .int 2, .tup [.int 50, .str "whole", .str "none"], .tup [.tup [.str "raw", .str "away", .int 1, .int 5], .tup [.str "raw", .str "here", .int 1, .int 1]]], .tup [.str "raw", .str "here", .int 0, .int 3]]] := rfl
theorem out_f : D.tup (outF.map frD) = .tup [.tup [.int 1, .int 1], .tup [.int 2, .int 1], .tup [.int 7, .int 2], .tup [.int 1, .int 1], .tup [.int 1, .int 2]] := rfl
theorem out_eq : eqO outT.d outT.d = some true := by decide +kernel
theorem outf_eq : eqO (.tup (outF.map frD)) (.tup (outF.map frD)) = some true := by decide +kernel
theorem law_k {ns : List Int} (hl : ns.length ≤ 63) (h : ∀ M', Q (.bl true) M') : Wlaw K c [.fzn (ns.map D.int)] M Q Xd := by
  refine Elaw ?_
  repeat fail
  refine begun_k (by omega) fun a M1 cells hc hD hS => ?_
  repeat fail
  refine w_lenF ?_
  repeat fail
  refine w_rng1 (by split <;> omega) ?_
  refine lap_loop hc (fun _ => wat_none) (B := 20000) (by decide) (fun M2 o2 o3 o4 o5 o6 o7 o8 o9 o10 => ?_) _ 0 M1 _ _ _ _ _ _ _ _ _ hD ?_
  · repeat fail
    rw [← out_d]
    refine ⟨_, rfl, ?_⟩
    repeat fail
    refine w_addL (by simp [sizeLine]) ?_
    repeat fail
    refine ⟨["made away 1 1 60 own own", ". made here 2 2 50 whole none", ".. raw away 1 5", ".. raw here 1 1", ". raw here 0 3"], rfl, by decide +kernel, ?_⟩
    rw [out_text]
    repeat fail
    refine good_text_k (K := K) (c := c) out_good ?_
    repeat fail
    refine w_neS (text_asc out_good).ok (text_asc out_good).ok ?_
    rw [decide_eq_true rfl]
    repeat fail
    refine read_good_k (K := K) (c := c) out_good ?_
    repeat fail
    refine w_neO (x := outT.d) (y := outT.d) (b := true) out_eq ?_
    repeat fail
    rw [← out_f]
    refine prices_text_k (K := K) (c := c) out_good out_fp ?_
    repeat fail
    rw [out_prices]
    refine w_neS (prices_asc (frks_of out_fp)).ok (prices_asc (frks_of out_fp)).ok ?_
    rw [decide_eq_true rfl]
    repeat fail
    refine read_prices_k (K := K) (c := c) out_good out_fp ?_
    repeat fail
    refine w_eqO (x := .tup (outF.map frD)) (y := .tup (outF.map frD)) (b := true) outf_eq ?_
    repeat fail
    exact lo_same (h _)
  · unfold rngL
    rw [List.length_map, List.length_range]
    split <;> omega
theorem law_d (K : Fg) (c : Nat → Addr) (_ : CF K c) : DL.LawD 63 (Wlaw K c) := fun ns hl => law_k hl fun _ => rfl
end
end G_madeofhere_k17_texts_back_and_forth
theorem PySem.Challenge.cw_madeofhere_k17_texts_back_and_forth_holds : PySem.Challenge.rw_madeofhere_k17_texts_back_and_forth.Holds := by
  exact G_madeofhere_k17_texts_back_and_forth.from_data G_madeofhere_k17_texts_back_and_forth.law_d
