import PyProof.Rows.All
import Wide.All
import OpenK.AllK
import Wide.FinOn
import HandS.ForMost
import HandS.Wide
import HandS.WideBits
import HandS.Flow
import HandS.Style
import HandS.Small
import HandS.SortInts
import HandS.IsInst
import HandS.TupAny
import HandS.RaiseMore
import HandS.Defaults
import HandS.Codes
import KE.IntTextLaws
import KE.KExcSuper
import KE.KSuper
import HandS.Nested
import HandS.ExcInit
import HandS.ExcField
import HandS.WordsExc
import HandS.ForExc
import KE.KExcIs
import HandS.ExcIs
import KE.KIsAll
import HandS.Property
import HandS.OwnEq
import HandS.MakeKw
import HandS.Text
import HandS.More
import KE.KBits
import HandS.Ends
import PyProof.ReprRoads
import HandS.FStrTup
import HandS.FStr
import KE.BitLaws
import HandS.DictComp
import HandS.Comp
import HandS.WordsDict
import HandS.Walk
import HandS.Star
import HandS.Iter
import PyProof.AutoSeq1
import HandS.Replace
import HandS.ReplaceLit
import HandS.TupLe
import HandS.HeadHook3
import PySem.Challenge.RW_farbits_k61_integer_parts
set_option Elab.async false
set_option linter.all false
set_option maxRecDepth 100000
set_option maxHeartbeats 4000000
namespace Fb
open PySem L2
/-- a def that stands in the module and keeps a promise -/
structure Has (P : Program) (w : World) (K : PySem.W.Frag) (mg : Str → Option Value) (base : Heap) (k : Nat) (x : Str) (ps : List Str) (dvs : List V) (sp : Sp) : Prop where
  ex : ∃ f fd ds, FnOk P w K mg base CX0 k f fd ps sp ∧ PySem.W.keepIn K (.ref f) = true ∧ mg x = some (.ref f) ∧ Vals dvs ds ∧ Binds K fd ps ds
section
variable {X : Cx} {k : Nat} {x : Str} {ps : List Str} {dvs : List V} {sp : Sp} {e : Expr} {es : List Expr} {t : TA} {p pos : Pos}
theorem pe_H (C : Has X.prog X.w X.K X.mg X.base k x ps dvs sp) (hr : Room k X.A) (hg : Gl X x) (ha : PA X (e :: es) t) (hdb : (x == ("__debug__" : Str)) = false := by decide)
    (he : starEach (e :: es) X.env = (false, eval e X.env) :: starEach es X.env := by rfl) (hpl : (backTo pos (starEach es X.env)).any (·.1) = false := by rfl) :
    PE X (.Call (.Name x p) (e :: es) [] pos) (tCall sp dvs E0 t) := by
  obtain ⟨f, fd, ds, F, hk, hm, hd, hb⟩ := C.ex
  exact pe_call F hr hg hm hk hb hd pass0 ha hdb he hpl
/-- a def with defaults, its body over CX0 -/
theorem funD_ok {P : Program} {w : World} {K : PySem.W.Frag} {mg : Str → Option Value} {base : Heap} {x qual : Str} {st : Stmt} {dvs : List V} {kws : List (Str × V)} {f : Addr} {fd : FuncData} {N ps : List Str} {k : Nat} {sp : Sp} (F : FunD K x qual (defArgs st) (defBody st) (defScope st) dvs kws f fd) (S : FnScope N ps (defScope st)) (len : ∀ vs H Q E, sp vs H Q E → vs.length = ps.length)
    (hbody : ∀ (cdv : Value) (A : Around) (outer : List Env) (s : Shared) (H : Hp) (vs : List V) (Q : VK) (E : XK), Room k (A.deeper (PyProof.Rows.envOfC qual (defScope st) s.heap.objs.size f cdv)) → sp vs H Q E →
      ∃ t, PSs (cxOf CX0 P w K mg base N qual (defScope st) f cdv A outer s H E).nox (defBody st) t ∧ t { nx := fun _ H' => Q .non H', rt := Q } (L2.start N vs) H) : FnOk P w K mg base CX0 (k + 1) f fd ps sp :=
  F.ok S len fun cdv A outer s H vs Q E hr h => by
    obtain ⟨t, h, q⟩ := hbody cdv A outer s H vs Q E hr h
    exact ⟨t, h.nox, q⟩
end
/-- the built-ins that the text names are the built-ins -/
structure Blt (mg : Str → Option Value) : Prop where
  len : mg "len" = none
  int : mg "int" = none
  isinstance : mg "isinstance" = none
  sum : mg "sum" = none
  max : mg "max" = none
  min : mg "min" = none
  sorted : mg "sorted" = none
  tuple : mg "tuple" = none
  list : mg "list" = none
  range : mg "range" = none
  repr : mg "repr" = none
  bool : mg "bool" = none
  abs : mg "abs" = none
  enumerate : mg "enumerate" = none
  zip : mg "zip" = none
  str : mg "str" = none
  dict : mg "dict" = none
/-! ### heaps: all but the dicts is as it was -/
structure Nd (H H' : Hp) : Prop where
  k : ∀ b o, H b = some o → (∀ kv, o ≠ .dK kv) → H' b = some o
  f : ∀ b, H' b = none → H b = none
theorem Nd.refl (H : Hp) : Nd H H := ⟨fun _ _ h _ => h, fun _ h => h⟩
theorem Nd.trans {H H1 H2 : Hp} (a : Nd H H1) (b : Nd H1 H2) : Nd H H2 := ⟨fun x o h n => b.k x o (a.k x o h n) n, fun x h => a.f x (b.f x h)⟩
theorem Nd.of {H H' : Hp} (a : Same H H') : Nd H H' := ⟨fun x o h _ => a x o h, fun _ h => a.free h⟩
theorem upd_none {H : Hp} {p b : Addr} {o : HO} (h : upd H p o b = none) : H b = none ∧ b ≠ p := by
  have hn : b ≠ p := by rintro rfl; rw [upd_same] at h; cases h
  rw [upd_ne hn] at h
  exact ⟨h, hn⟩
theorem Nd.tape {t : Addr} {H : Hp} {o : HO} {kv : List (Key × V)} (h : H t = some (.dK kv)) : Nd H (upd H t o) := ⟨fun x u e n => by
  rw [upd_ne (by rintro rfl; rw [h] at e; cases e; exact n _ rfl)]; exact e, fun _ h => (upd_none h).1⟩
theorem Nd.new {p : Addr} {H : Hp} {o : HO} (h : H p = none) : Nd H (upd H p o) := ⟨fun x u e _ => by rw [upd_ne (ne_of_none e h)]; exact e, fun _ h => (upd_none h).1⟩
theorem Nd.sql {K : PySem.W.Frag} {c : Addr} {H H' : Hp} {xs : List V} (e : Nd H H') (h : SqL K H c xs) : SqL K H' c xs := by
  rcases h with (h | ⟨o, h⟩) | h
  · exact .inl (.inl (e.k _ _ h fun _ z => nomatch z))
  · exact .inl (.inr ⟨o, e.k _ _ h fun _ z => nomatch z⟩)
  · exact .inr h
theorem Nd.sqt {K : PySem.W.Frag} {c : Addr} {H H' : Hp} {xs : List V} (e : Nd H H') (h : SqT K H c xs) : SqT K H' c xs := by
  rcases h with (h | ⟨o, h⟩) | h
  · exact .inl (.inl (e.k _ _ h fun _ z => nomatch z))
  · exact .inl (.inr ⟨o, e.k _ _ h fun _ z => nomatch z⟩)
  · exact .inr h
theorem Nd.lst {a : Addr} {H H' : Hp} {xs : List V} (e : Nd H H') (h : H a = some (.lst xs)) : H' a = some (.lst xs) := e.k _ _ h fun _ z => nomatch z
mutual
theorem Nd.dp {K : PySem.W.Frag} {H H' : Hp} (e : Nd H H') : ∀ (d : PyData) (v : V), Dp K H v d → Dp K H' v d
  | .none, _, h => by cases h; exact .non
  | .bool b, _, h => by cases h; exact .bl b
  | .int i, _, h => by cases h; exact .int i
  | .str x, _, h => by cases h; exact .str x
  | .list ds, _, h => by
    cases h with
    | lst hs ha => exact .lst (e.sql hs) (Nd.dps e ds _ ha)
  | .tuple ds, _, h => by
    cases h with
    | tup hs ha => exact .tup (e.sqt hs) (Nd.dps e ds _ ha)
  | .dict _, _, h => by cases h
theorem Nd.dps {K : PySem.W.Frag} {H H' : Hp} (e : Nd H H') : ∀ (ds : List PyData) (vs : List V), DpAll K H vs ds → DpAll K H' vs ds
  | [], _, h => by cases h; exact .nil
  | d :: ds, _, h => by
    cases h with
    | cons h1 h2 => exact .cons (Nd.dp e d _ h1) (Nd.dps e ds _ h2)
end
theorem Nd.d {K : PySem.W.Frag} {H H' : Hp} {d : PyData} {v : V} (e : Nd H H') (h : Dp K H v d) : Dp K H' v d := Nd.dp e d v h
theorem Nd.ds {K : PySem.W.Frag} {H H' : Hp} {ds : List PyData} {vs : List V} (e : Nd H H') (h : DpAll K H vs ds) : DpAll K H' vs ds := Nd.dps e ds vs h
theorem Same.new {p : Addr} {H : Hp} {o : HO} (h : H p = none) : Same H (upd H p o) := fun b u q => by rw [upd_ne (ne_of_none q h)]; exact q
/-- a list that grows, made by this very call -/
theorem Same.mut {H H' : Hp} {p : Addr} {o : HO} (e : Same H H') (h : H p = none) : Same H (upd H' p o) := fun a u ha => by
  rw [upd_ne (ne_of_none ha h)]
  exact e a u ha
theorem Nd.mut {H H' : Hp} {p : Addr} {o : HO} (e : Nd H H') (h : H p = none) : Nd H (upd H' p o) := ⟨fun a u ha n => by
  rw [upd_ne (ne_of_none ha h)]
  exact e.k a u ha n, fun _ h => e.f _ (upd_none h).1⟩
theorem dps_length {K : PySem.W.Frag} {H : Hp} : ∀ {vs : List V} {ds : List PyData}, DpAll K H vs ds → vs.length = ds.length
  | _, _, .nil => rfl
  | _, _, .cons _ h => by rw [List.length_cons, List.length_cons, dps_length h]
theorem dps_get {K : PySem.W.Frag} {H : Hp} : ∀ {vs : List V} {ds : List PyData} {i : Nat} {v : V}, DpAll K H vs ds → vs[i]? = some v → ∃ d, ds[i]? = some d ∧ Dp K H v d
  | [], _, _, _, _, h => by cases h
  | w :: vs, [], _, _, hd, _ => by cases hd
  | w :: vs, d :: ds, 0, _, hd, h => by cases hd with | cons h1 h2 => cases h; exact ⟨_, rfl, h1⟩
  | w :: vs, d :: ds, i + 1, _, hd, h => by cases hd with | cons h1 h2 => exact dps_get (vs := vs) (ds := ds) (i := i) h2 (by simpa using h)
theorem dps_app {K : PySem.W.Frag} {H : Hp} : ∀ {vs ws : List V} {ds es : List PyData}, DpAll K H vs ds → DpAll K H ws es → DpAll K H (vs ++ ws) (ds ++ es)
  | _, _, _, _, .nil, h => h
  | _, _, _, _, .cons h1 h2, h => .cons h1 (dps_app h2 h)
theorem dps_ints {K : PySem.W.Frag} {H : Hp} : ∀ (ns : List Int), DpAll K H (ns.map V.int) (ns.map PyData.int)
  | [] => .nil
  | n :: ns => .cons (.int n) (dps_ints ns)
theorem dps_ints_inv {K : PySem.W.Frag} {H : Hp} : ∀ {ns : List Int} {vs : List V}, DpAll K H vs (ns.map PyData.int) → vs = ns.map V.int
  | [], _, h => by cases h; rfl
  | n :: ns, _, h => by
    cases h with
    | cons h1 h2 =>
      cases h1
      rw [dps_ints_inv h2]
      rfl
/-- the tape: a dict of the cells, the place, the rest; n draws are left -/
def tp (c : Addr) (at_ rest : Int) : List (Key × V) := [(.inr "cells", .ref c), (.inr "at", .int at_), (.inr "rest", .int rest)]
/-- the tape as it stands -/
structure TS (K : PySem.W.Frag) (t c : Addr) (cs : List Int) (a r : Int) (H : Hp) : Prop where
  d : H t = some (.dK (tp c a r))
  s : SqL K H c (cs.map V.int)
theorem TS.new {K : PySem.W.Frag} {t c p : Addr} {cs : List Int} {a r : Int} {H : Hp} {o : HO} (h : TS K t c cs a r H) (np : H p = none) : TS K t c cs a r (upd H p o) :=
  ⟨by rw [upd_ne (ne_of_none h.d np)]; exact h.d, (Nd.new np).sql h.s⟩
theorem TS.put {K : PySem.W.Frag} {t c : Addr} {cs : List Int} {a r b u : Int} {H : Hp} (h : TS K t c cs a r H) : TS K t c cs b u (upd H t (.dK (tp c b u))) :=
  ⟨upd_same, (Nd.tape h.d).sql h.s⟩
theorem TS.cells {K : PySem.W.Frag} {t c : Addr} {cs : List Int} {a r : Int} {H : Hp} (h : TS K t c cs a r H) : DGet H t (.str "cells") (some (.ref c)) := DGet.k (k := Sum.inr "cells") h.d
theorem TS.at_ {K : PySem.W.Frag} {t c : Addr} {cs : List Int} {a r : Int} {H : Hp} (h : TS K t c cs a r H) : DGet H t (.str "at") (some (.int a)) := DGet.k (k := Sum.inr "at") h.d
theorem TS.rest {K : PySem.W.Frag} {t c : Addr} {cs : List Int} {a r : Int} {H : Hp} (h : TS K t c cs a r H) : DGet H t (.str "rest") (some (.int r)) := DGet.k (k := Sum.inr "rest") h.d
theorem TS.pat {K : PySem.W.Frag} {t c : Addr} {cs : List Int} {a r b : Int} {H : Hp} (h : TS K t c cs a r H) : DPut H t (.str "at") (.int b) (upd H t (.dK (tp c b r))) := DPut.k (k := Sum.inr "at") h.d (by show 3 < sizeLine; decide)
theorem TS.prest {K : PySem.W.Frag} {t c : Addr} {cs : List Int} {a r b : Int} {H : Hp} (h : TS K t c cs a r H) : DPut H t (.str "rest") (.int b) (upd H t (.dK (tp c a b))) := DPut.k (k := Sum.inr "rest") h.d (by show 3 < sizeLine; decide)
theorem iteD {c A B : Prop} [Decidable c] (h1 : c → A) (h2 : ¬ c → B) : if decide c = true then A else B := by
  by_cases h : c
  · rw [decide_eq_true h, if_pos rfl]
    exact h1 h
  · rw [decide_eq_false h, if_neg Bool.false_ne_true]
    exact h2 h
theorem iteDN {c A B : Prop} [Decidable c] (h1 : ¬ c → A) (h2 : c → B) : if (!decide c) = true then A else B := by
  by_cases h : c
  · rw [decide_eq_true h]
    exact iteF (h2 h)
  · rw [decide_eq_false h]
    exact iteT (h1 h)
def rIntI : List V → Hp → VK → Prop := fun xs H Q => ∃ i, xs = [.int i] ∧ Q (.int i) H
theorem call_intI {X : Cx} : CallR X (.type "int") rIntI := fun pins s σ H xs us Q I r h =>
  call_int1 pins s σ H xs us Q I r (.inl h)
def rIntB : List V → Hp → VK → Prop := fun xs H Q => ∃ k, xs = [.bl k] ∧ Q (.int (if k then 1 else 0)) H
theorem call_intB {X : Cx} : CallR X (.type "int") rIntB := fun pins s σ H xs us Q I r h =>
  call_int1 pins s σ H xs us Q I r (.inr h)
def rLenL (K : PySem.W.Frag) : List V → Hp → VK → Prop := fun xs H Q => ∃ p ys, xs = [.ref p] ∧ SqL K H p ys ∧ Q (.int ys.length) H
theorem call_lenL {X : Cx} : CallR X (.builtin "len") (rLenL X.K) := fun pins s σ H xs us Q I r ⟨p, ys, e, h, q⟩ =>
  call_len_seq pins s σ H xs us Q I r ⟨p, ys, e, .inl h, q⟩
def rLenT (K : PySem.W.Frag) : List V → Hp → VK → Prop := fun xs H Q => ∃ p ys, xs = [.ref p] ∧ SqT K H p ys ∧ Q (.int ys.length) H
theorem call_lenT {X : Cx} : CallR X (.builtin "len") (rLenT X.K) := fun pins s σ H xs us Q I r ⟨p, ys, e, h, q⟩ =>
  call_len_seq pins s σ H xs us Q I r ⟨p, ys, e, .inr h, q⟩
def rTupL (K : PySem.W.Frag) : List V → Hp → VK → Prop := fun xs H Q => ∃ p ys, xs = [.ref p] ∧ SqL K H p ys ∧ ∀ l, H l = none → Q (.ref l) (upd H l (.tup ys))
theorem call_tupL {X : Cx} : CallR X (.type "tuple") (rTupL X.K) := fun pins s σ H xs us Q I r ⟨p, ys, e, h, q⟩ =>
  call_tuple_of pins s σ H xs us Q I r ⟨p, ys, e, .inl ⟨h, q⟩⟩
def rListL (K : PySem.W.Frag) : List V → Hp → VK → Prop := fun xs H Q => ∃ p ys, xs = [.ref p] ∧ SqL K H p ys ∧ ∀ l, H l = none → Q (.ref l) (upd H l (.lst ys))
theorem call_listL {X : Cx} : CallR X (.type "list") (rListL X.K) := fun pins s σ H xs us Q I r ⟨p, ys, e, h, q⟩ =>
  call_list_of pins s σ H xs us Q I r ⟨p, ys, e, .inl h, q⟩
def rListT (K : PySem.W.Frag) : List V → Hp → VK → Prop := fun xs H Q => ∃ p ys, xs = [.ref p] ∧ SqT K H p ys ∧ ∀ l, H l = none → Q (.ref l) (upd H l (.lst ys))
theorem call_listT {X : Cx} : CallR X (.type "list") (rListT X.K) := fun pins s σ H xs us Q I r ⟨p, ys, e, h, q⟩ =>
  call_list_of pins s σ H xs us Q I r ⟨p, ys, e, .inr h, q⟩
/-- a tape: its dict, its cells -/
structure Tp where
  t : Addr
  c : Addr
  cs : List Int
/-- the tape stands, n draws are left -/
def Tape (K : PySem.W.Frag) (τ : Tp) (n : Nat) (H : Hp) : Prop := ∃ at_ rest : Int, TS K τ.t τ.c τ.cs at_ rest H ∧ τ.cs ≠ [] ∧ τ.cs.length ≤ 63 ∧ 0 ≤ at_ ∧ at_ + n ≤ 2 ^ 40 ∧ 0 ≤ rest
theorem Tape.mono {K : PySem.W.Frag} {τ : Tp} {n m : Nat} {H : Hp} (h : Tape K τ n H) (e : m ≤ n) : Tape K τ m H := by
  obtain ⟨a, r, h1, h3, h4, h5, h6, h7⟩ := h
  exact ⟨a, r, h1, h3, h4, h5, by omega, h7⟩
theorem Tape.same {K : PySem.W.Frag} {τ : Tp} {n : Nat} {H H' : Hp} (h : Tape K τ n H) (e : Same H H') : Tape K τ n H' := by
  obtain ⟨a, r, h1, h3⟩ := h
  exact ⟨a, r, ⟨e _ _ h1.d, e.seq h1.s⟩, h3⟩
theorem Tape.new {K : PySem.W.Frag} {τ : Tp} {n : Nat} {H : Hp} {p : Addr} {o : HO} (h : Tape K τ n H) (np : H p = none) : Tape K τ n (upd H p o) := h.same fun b u q => by rw [upd_ne (ne_of_none q np)]; exact q
/-- an object made behind H0 may change -/
theorem Tape.mut {K : PySem.W.Frag} {τ : Tp} {n m : Nat} {H H0 : Hp} {p : Addr} {o : HO} (h0 : Tape K τ m H0) (np : H0 p = none) (h : Tape K τ n H) : Tape K τ n (upd H p o) := by
  obtain ⟨a0, r0, k1, _⟩ := h0
  obtain ⟨a, r, h1, h3⟩ := h
  refine ⟨a, r, ⟨by rw [upd_ne (by rintro rfl; rw [k1.d] at np; cases np)]; exact h1.d, ?_⟩, h3⟩
  have key : ∀ u, H0 τ.c = some u → SqL K (upd H p o) τ.c (τ.cs.map V.int) := fun u hu => by
    have hn : τ.c ≠ p := by intro z; rw [z, np] at hu; cases hu
    rcases h1.s with (h | ⟨w, h⟩) | h
    · exact .inl (.inl (by rw [upd_ne hn]; exact h))
    · exact .inl (.inr ⟨w, by rw [upd_ne hn]; exact h⟩)
    · exact .inr h
  rcases k1.s with (h | ⟨w, h⟩) | h
  · exact key _ h
  · exact key _ h
  · exact .inr h
/-- what a drawn bound may be -/
def BigL : Int := 2 ^ 8000
theorem lt_BigL {z : Int} (h : z ≤ 2 ^ 200) : z < BigL := Int.lt_of_le_of_lt h (by unfold BigL; decide +kernel)
theorem div_BigL {z i : Int} (h0 : 0 < z) (h : z < BigL) : CDivW i z := by
  refine wide_div (b := 8000) h0 ?_ (by decide) (by decide)
  have e : BigL = ((2 ^ 8000 : Nat) : Int) := by unfold BigL; exact (Int.natCast_pow 2 8000).symm
  rw [e] at h
  generalize 2 ^ 8000 = N at h
  omega
def spDraw (K : PySem.W.Frag) : Sp := fun vs H Q _ => ∃ (τ : Tp) (lim : Int) (n : Nat), vs = [.ref τ.t, .int lim] ∧ Tape K τ (n + 1) H ∧ 0 < lim ∧ lim < BigL ∧
  ∀ (d : Int) (H' : Hp), Nd H H' → Tape K τ n H' → 0 ≤ d → d < lim → Q (.int d) H'
theorem atI_mod {α : Type} {xs : List α} {k : Int} (h : xs ≠ []) : ∃ v, atI xs (k.fmod (xs.length : Int)) = some v ∧ v ∈ xs := by
  have hl : 0 < xs.length := List.length_pos_iff.mpr h
  have h0 : 0 ≤ k.fmod (xs.length : Int) := Int.fmod_nonneg_of_pos _ (by omega)
  have h1 : k.fmod (xs.length : Int) < xs.length := Int.fmod_lt_of_pos _ (by omega)
  obtain ⟨j, hj⟩ := Int.eq_ofNat_of_zero_le h0
  rw [hj]
  have hj' : j < xs.length := by omega
  exact ⟨xs[j], atI_nat (List.getElem?_eq_getElem hj'), List.getElem_mem hj'⟩
theorem tp_cells {c : Addr} {a r : Int} : valV (tp c a r) (.inr "cells") = some (.ref c) := by rfl
theorem tp_at {c : Addr} {a r : Int} : valV (tp c a r) (.inr "at") = some (.int a) := by rfl
theorem tp_rest {c : Addr} {a r : Int} : valV (tp c a r) (.inr "rest") = some (.int r) := by rfl
theorem tp_pat {c : Addr} {a r b : Int} : putK (tp c a r) (.inr "at") (.int b) = tp c b r := by rfl
theorem tp_prest {c : Addr} {a r b : Int} : putK (tp c a r) (.inr "rest") (.int b) = tp c a b := by rfl
end Fb
/-! ### items side by side -/
namespace Fb
inductive Bes {α β : Type} (R : α → β → Prop) : List α → List β → Prop
  | nil : Bes R [] []
  | cons {a : α} {b : β} {xs : List α} {ys : List β} (h : R a b) (r : Bes R xs ys) : Bes R (a :: xs) (b :: ys)
section
variable {α β : Type} {R S : α → β → Prop}
theorem Bes.mono (h : ∀ a b, R a b → S a b) {xs : List α} {ys : List β} (r : Bes R xs ys) : Bes S xs ys := by
  induction r with
  | nil => exact .nil
  | cons h1 _ ih => exact .cons (h _ _ h1) ih
theorem Bes.mono_mem {xs : List α} {ys : List β} (r : Bes R xs ys) (h : ∀ a b, b ∈ ys → R a b → S a b) : Bes S xs ys := by
  induction r with
  | nil => exact .nil
  | cons h1 _ ih => exact .cons (h _ _ (List.mem_cons_self ..) h1) (ih fun a b m => h a b (List.mem_cons_of_mem _ m))
theorem Bes.len {xs : List α} {ys : List β} (r : Bes R xs ys) : xs.length = ys.length := by
  induction r with
  | nil => rfl
  | cons _ _ ih => rw [List.length_cons, List.length_cons, ih]
theorem Bes.get {xs : List α} {ys : List β} (r : Bes R xs ys) : ∀ {i : Nat} {x : α}, xs[i]? = some x → ∃ y, ys[i]? = some y ∧ R x y := by
  induction r with
  | nil => intro i x e; cases e
  | cons h _ ih =>
    intro i x e
    cases i with
    | zero => cases e; exact ⟨_, rfl, h⟩
    | succ i => exact ih e
theorem Bes.app {xs xs' : List α} {ys ys' : List β} (r : Bes R xs ys) (r' : Bes R xs' ys') : Bes R (xs ++ xs') (ys ++ ys') := by
  induction r with
  | nil => exact r'
  | cons h _ ih => exact .cons h ih
theorem Bes.of_map {γ : Type} {f : γ → β} : ∀ {xs : List α} {zs : List γ}, Bes R xs (zs.map f) → Bes (fun a c => R a (f c)) xs zs
  | [], [], _ => .nil
  | _ :: _, [], h => by cases h
  | [], _ :: _, h => by cases h
  | _ :: _, _ :: _, h => by
    cases h with
    | cons h1 h2 => exact .cons h1 (Bes.of_map h2)
end
end Fb
/-! ### texts as lists of characters, their tokens, and how they are read -/
namespace Fb
open PySem L2 PySem.NumText
abbrev Chs := List Nat
def txt (l : Chs) : Str := ⟨l.toArray⟩
theorem txt_list (l : Chs) : (txt l).cps.toList = l := rfl
theorem txt_of (z : Str) : txt z.cps.toList = z := by
  cases z
  show Str.mk _ = Str.mk _
  rw [Array.toArray_toList]
theorem txt_len (l : Chs) : (txt l).length = l.length := rfl
theorem str_len (z : Str) : z.length = z.cps.toList.length := by
  show z.cps.size = _
  rw [Array.length_toList]
theorem txt_inj {a b : Chs} : txt a = txt b ↔ a = b := by
  constructor
  · intro h
    have := congrArg (fun z : Str => z.cps.toList) h
    exact this
  · intro h; rw [h]
def isDig (c : Nat) : Bool := decide (48 ≤ c ∧ c ≤ 57)
def isLet (c : Nat) : Bool := decide (97 ≤ c ∧ c ≤ 122)
def cLONG : List Chs := [[42, 42], [47, 47], [60, 60], [62, 62], [61, 61], [33, 61], [60, 61], [62, 61]]
def cSHORT : Chs := [124, 94, 38, 43, 45, 42, 126, 40, 41, 60, 62]
/-- how long the row is -/
def runL (f : Nat → Bool) (l : Chs) : Nat := (l.takeWhile f).length
theorem runL_le (f : Nat → Bool) (l : Chs) : runL f l ≤ l.length := by
  unfold runL
  exact (List.takeWhile_sublist f).length_le
theorem runL_nil (f : Nat → Bool) : runL f [] = 0 := rfl
theorem runL_cons (f : Nat → Bool) (c : Nat) (l : Chs) : runL f (c :: l) = if f c then 1 + runL f l else 0 := by
  unfold runL
  rw [List.takeWhile_cons]
  split
  · rw [List.length_cons, Nat.add_comm]
  · rfl
/-- how long the token is -/
def tokL : Chs → Option Nat
  | [] => none
  | c :: l => if isDig c then some (runL isDig (c :: l)) else if isLet c then some (runL isLet (c :: l)) else if cLONG.contains ((c :: l).take 2) then some 2 else if cSHORT.contains c then some 1 else none
theorem tokL_cons (c : Nat) (l : Chs) : tokL (c :: l) = if isDig c then some (runL isDig (c :: l)) else if isLet c then some (runL isLet (c :: l)) else if cLONG.contains ((c :: l).take 2) then some 2 else if cSHORT.contains c then some 1 else none := rfl
theorem tokL_pos {l : Chs} {k : Nat} (h : tokL l = some k) : 1 ≤ k ∧ k ≤ l.length := by
  cases l with
  | nil => cases h
  | cons c l =>
    rw [tokL_cons] at h
    split at h
    · injection h with h
      subst h
      have := runL_le isDig (c :: l)
      rw [runL_cons] at this ⊢
      rw [if_pos (by assumption)] at this ⊢
      omega
    · split at h
      · injection h with h
        subst h
        have := runL_le isLet (c :: l)
        rw [runL_cons] at this ⊢
        rw [if_pos (by assumption)] at this ⊢
        omega
      · split at h
        · rename_i hc
          injection h with h
          subst h
          refine ⟨by decide, ?_⟩
          cases l with
          | nil =>
            rw [show (c :: ([] : Chs)).take 2 = [c] from rfl] at hc
            have : ∀ c : Nat, cLONG.contains [c] = false := fun c => by simp [cLONG]
            rw [this] at hc
            cases hc
          | cons _ _ => rw [List.length_cons, List.length_cons]; omega
        · split at h
          · injection h with h
            subst h
            rw [List.length_cons]
            omega
          · cases h
inductive Tk
  | tok (s : Chs) (p : Nat)
  | bad (p : Nat)
  | fin (p : Nat)
def Tk.at : Tk → Nat
  | .tok _ p => p
  | .bad p => p
  | .fin p => p
def isBl (c : Nat) : Bool := c == 32
def lexF : Nat → Chs → Nat → List Tk
  | 0, l, p => [.fin (p + l.length)]
  | n + 1, l, p => match tokL (l.drop (runL isBl l)) with
    | some k => .tok ((l.drop (runL isBl l)).take k) (p + runL isBl l) :: lexF n ((l.drop (runL isBl l)).drop k) (p + runL isBl l + k)
    | none => if l.drop (runL isBl l) = [] then [.fin (p + runL isBl l)] else [.bad (p + runL isBl l)]
theorem lexF_more : ∀ (n m : Nat) (l : Chs) (p : Nat), l.length < n → l.length < m → lexF n l p = lexF m l p
  | 0, _, l, _, h, _ => absurd h (Nat.not_lt_zero _)
  | _ + 1, 0, l, _, _, h => absurd h (Nat.not_lt_zero _)
  | n + 1, m + 1, l, p, h1, h2 => by
    unfold lexF
    cases e : tokL (l.drop (runL isBl l)) with
    | none => rfl
    | some k =>
      have := tokL_pos e
      rw [List.length_drop] at this
      dsimp only
      rw [lexF_more n m _ _ (by rw [List.length_drop, List.length_drop]; omega) (by rw [List.length_drop, List.length_drop]; omega)]
/-- the tokens of a text, each with its place -/
def lex (l : Chs) (p : Nat) : List Tk := lexF (l.length + 1) l p
theorem lex_eq (l : Chs) (p : Nat) : lex l p = match tokL (l.drop (runL isBl l)) with
    | some k => .tok ((l.drop (runL isBl l)).take k) (p + runL isBl l) :: lex ((l.drop (runL isBl l)).drop k) (p + runL isBl l + k)
    | none => if l.drop (runL isBl l) = [] then [.fin (p + runL isBl l)] else [.bad (p + runL isBl l)] := by
  show lexF (l.length + 1) l p = _
  unfold lexF
  cases e : tokL (l.drop (runL isBl l)) with
  | none => rfl
  | some k =>
    have := tokL_pos e
    rw [List.length_drop] at this
    dsimp only
    unfold lex
    rw [lexF_more l.length (((l.drop (runL isBl l)).drop k).length + 1) _ _ (by rw [List.length_drop, List.length_drop]; omega) (by omega)]
theorem runL_bl_drop (l : Chs) : runL isBl (l.drop (runL isBl l)) = 0 := by
  induction l with
  | nil => rfl
  | cons c l ih =>
    rw [runL_cons]
    by_cases h : isBl c = true
    · rw [if_pos h, Nat.add_comm, List.drop_succ_cons]; exact ih
    · rw [if_neg h, List.drop_zero, runL_cons, if_neg h]
/-- behind the blanks -/
theorem lex_bl (l : Chs) (p : Nat) : lex (l.drop (runL isBl l)) (p + runL isBl l) = lex l p := by
  rw [lex_eq (l.drop (runL isBl l)), lex_eq l, runL_bl_drop, List.drop_zero, Nat.add_zero]
/-! ### steps, and what waits -/
structure Stp where
  k : Str
  w : V
  p : Nat
inductive Pd
  | par
  | op (k : Nat) (s : Stp)
def Pd.str : Pd → Nat
  | .par => 0
  | .op k _ => k
def isLv (d : Pd) : Bool := d.str == 0 || d.str == 7 || d.str == 8
def isPar : Pd → Bool
  | .par => true
  | .op _ _ => false
def lvl (P : List Pd) : Nat := P.countP isLv
def opn (P : List Pd) : Nat := P.countP isPar
/-- what settles, the last one first -/
def settle (k : Nat) : List Pd → List Stp × List Pd
  | .op j s :: r => if k ≤ j then (s :: (settle k r).1, (settle k r).2) else ([], .op j s :: r)
  | l => ([], l)
def kNUMBER : Str := "number"
def kNAME : Str := "name"
def kAHEAD : Str := "ahead"
def kBETWEEN : Str := "between"
def cNO : List Chs := [[114, 101, 112, 101, 97, 116], [105, 102], [101, 108, 115, 101], [101, 110, 100]]
def isNm (s : Chs) : Bool := decide (1 ≤ s.length ∧ s.length ≤ 8) && !cNO.contains s && decide (runL isLet s = s.length)
def isNum (s : Chs) : Bool := match s with
  | [] => false
  | c :: _ => isDig c && decide (s.length ≤ 1000)
theorem isNum_cons (c : Nat) (s : Chs) : isNum (c :: s) = (isDig c && decide ((c :: s).length ≤ 1000)) := rfl
def strg (s : Chs) : Option Nat :=
  if s = [124] then some 1 else if s = [94] then some 2 else if s = [38] then some 3 else if s = [60, 60] then some 4 else if s = [62, 62] then some 4 else if s = [43] then some 5
  else if s = [45] then some 5 else if s = [42] then some 6 else if s = [47, 47] then some 6 else if s = [42, 42] then some 8 else none
inductive Rs
  | err (p : Nat)
  | ok (S : List Stp) (p : Nat)
/-- the reader: whether an operand is due, what is to be read, the steps, what waits (the last one first) -/
def runR (sg : Chs → Bool) : Bool → List Tk → List Stp → List Pd → Rs
  | _, [], _, _ => .err 0
  | _, .bad p :: _, _, _ => .err p
  | true, .fin p :: _, _, _ => .err p
  | true, .tok s p :: ts, S, P =>
    if s = [40] then (if lvl P = 20 then .err p else runR sg true ts S (.par :: P))
    else if s = [45] ∨ s = [43] ∨ s = [126] then (if lvl P = 20 then .err p else runR sg true ts S (.op 7 ⟨kAHEAD, .str (txt s), p⟩ :: P))
    else if isNm s then runR sg false ts (S ++ [⟨kNAME, .str (txt s), p⟩]) P
    else if isNum s then runR sg false ts (S ++ [⟨kNUMBER, .int ((digitsVal s : Nat) : Int), p⟩]) P
    else .err p
  | false, .fin p :: _, S, P => if opn P = 0 then .ok (S ++ (settle 1 P).1) p else .err p
  | false, .tok s p :: ts, S, P =>
    if s = [41] ∧ 0 < opn P then runR sg false ts (S ++ (settle 1 P).1) ((settle 1 P).2.drop 1)
    else if opn P = 0 ∧ sg s = true then .ok (S ++ (settle 1 P).1) p
    else match strg s with
      | none => .err p
      | some k => if k = 8 then (if lvl P = 20 then .err p else runR sg true ts S (.op 8 ⟨kBETWEEN, .str (txt s), p⟩ :: P))
        else runR sg true ts (S ++ (settle k P).1) (.op k ⟨kBETWEEN, .str (txt s), p⟩ :: (settle k P).2)
end Fb
namespace Fb
open PySem L2 NdefX
/-! ### an __init__ that begins with super().__init__(e), two classes above ValueError -/
structure SxF (P : Program) (K : PySem.W.Frag) (mg : Str → Option Value) (C cc cda : Addr) (qual : Str) : Prop where
  cod : PySem.W.codeIn K (.ref cda) qual = true
  file : ∃ ccl cdd vs ccs file tf, K.lookup cda = some ⟨ccl, cdd, .fields vs, ccs⟩ ∧ vs[2]? = some (.str file tf) ∧ ((P.main.file : Str) == file) = true
  cell : ∃ cl cld csl, K.lookup cc = some ⟨cl, cld, .cell (some (.ref C)), csl⟩
  sup : PySem.W.ks_superIn K C C "__init__" = some (some (.builtin "ValueError.__init__"))
  subVE : PySem.W.subIn K (.ref C) (.type "ValueError") = some true
  mroS : PySem.W.mroIn K C (.ref C) = some true
  oex : OexC K C
  opq : PySem.W.nsIn K cStatics "thirdparty.any" = some none
  top : (P.main.scope.names.lookup ("super" : Str)).isSome = false
  mgS : mg "super" = none
/-- the built-in __init__ bound to an exception, called -/
theorem call_mwVE {prog : Program} {w : World} {A : Around} {E : Value → Shared → Prop} {h : Heap} {g : Array GenState} {d : Drawn} {t : Nat} {os : OsState} {nm q : Str} {C N : Addr} {bs bm : List Value} {hdct : Bool} {sn : List Str} {sub : List Value} {ab : Bool} {col : Option Bool} {dd : Option Addr} {k0 k1 k2 k3 k5 : Option Value}
    {u e t0 : Addr} {rest : List Value} {Q : Value → Shared → Prop}
    (hC : h.get? C = some (excClassObj nm q C N bs bm hdct sn sub ab col dd k0 k1 k2 k3 k5 "ValueError.__new__")) (he : h.get? e = some (HandSPX.excO C t0)) (hu : h.get? u = some (PySem.W.kxs_mw "ValueError.__init__" e)) (hrest : rest.length ≤ sizeLine)
    (hq : ∀ h' t1, (∀ b o, b ≠ e → h.get? b = some o → h'.get? b = some o) → h'.get? e = some (HandSPX.excO C t1) → Q .none ⟨h', g, d, t, os⟩) :
    wpAny (model prog w) A (call (.ref u) rest) Q E ⟨h, g, d, t, os⟩ := by
  refine wpAny_call (codeAny_of_tree ?_)
  show wpAny _ A.in1 (callAny (.ref u) ⟨rest, []⟩) _ _ _
  simp only [callAny]
  refine wpAny_bind (wpAny_load hu ?_)
  simp only [PySem.W.kxs_mw, show (Value.type "method-wrapper" == Value.type "method" || Value.type "method-wrapper" == Value.type "builtin_function_or_method" || Value.type "method-wrapper" == Value.type "method-wrapper") = true by decide, if_true]
  refine PySem.W.KFB.if_so (by decide) ?_
  refine wpAny_bind (PySem.W.check_bound_init F.excBase_ValueError.toExcCallFacts hC he rfl ?_)
  refine wpAny_bind (wpAny_pure (wpAny_pure ?_))
  refine ⟨Code.quiet_builtin _ (by decide +kernel), codeAny_builtin F.excBase_ValueError.initEntry ?_⟩
  rw [Around.under_plainId F.excBase_ValueError.init.plain _]
  exact PySem.W.exc_init_tree (cls := .ref C) (t0 := t0) (dv := none) (c2 := .none) (c3 := .none) (b4 := .bool false) he hrest fun h' k e' _ => hq h' h.objs.size k e'
abbrev sxN (qual : Str) (st : Stmt) (cc cda : Addr) : NF := ⟨"__init__", qual, defArgs st, defBody st, defScope st, [("__class__", cc)], cda⟩
abbrev sxFd (qual : Str) (st : Stmt) (cc cda : Addr) (kV doc pm : Value) (an : Option Addr) (ct : Value) : FuncData := PySem.W.fnX "__init__" qual (defArgs st) (defBody st) (defScope st) [("__class__", cc)] .none kV doc pm an (.ref cda) ct
theorem sx_ok {P : Program} {w : World} {K : PySem.W.Frag} {mg : Str → Option Value} {base : Heap} {k : Nat} {C f cc cda : Addr} {qual : Str} {st : Stmt} {N ps : List Str} {sp : Sp} {oc : Value} {od : Option Addr} {osl : Array (Option Value)} {kV doc pm ct : Value} {an : Option Addr}
    {p0 p1 ap cp ep : Pos} {e : Expr} {rest : List Stmt} {ar : Arg} {pl : Sem Bool}
    (T : SxF P K mg C cc cda qual) (lk : K.lookup f = some ⟨oc, od, .func (sxFd qual st cc cda kV doc pm an ct), osl⟩) (S : NScope N ps ["__class__"] (defScope st)) (hsu : (defScope st).names.lookup ("super" : Str) = some .globalImplicit)
    (hst : defBody st = .Expr (.Call (.Attribute (.Call (.Name "super" p0) [] [] p1) "__init__" ap) [e] [] cp) ep :: rest)
    (hi : ∀ L, interactive (envF (sxN qual st cc cda) f L) = false) (hs : ∀ L, swapsWith (.Call (.Attribute (.Call (.Name "super" p0) [] [] p1) "__init__" ap) [e] [] cp) none ep.line (envF (sxN qual st cc cda) f L) = pure false)
    (hcall : ∀ L, eval (.Call (.Attribute (.Call (.Name "super" p0) [] [] p1) "__init__" ap) [e] [] cp) (envF (sxN qual st cc cda) f L) = (do
      let ov ← attributeBase (.Call (.Name "super" p0) [] [] p1) "__init__" (envF (sxN qual st cc cda) f L) (eval (.Call (.Name "super" p0) [] [] p1) (envF (sxN qual st cc cda) f L))
      standAt ap.atName
      let (g, first) ← holding [ov] (getMethod ov "__init__" pl)
      callWith cp g first (backTo cp (starEach [e] (envF (sxN qual st cc cda) f L))) []))
    (hstar : ∀ L, starEach [e] (envF (sxN qual st cc cda) f L) = [(false, eval e (envF (sxN qual st cc cda) f L))])
    (hpar : ((defArgs st).posonlyargs ++ (defArgs st).args).head? = some ar) (har : ps[0]? = some ar.arg) (len : ∀ vs H Q E, sp vs H Q E → vs.length = ps.length)
    (hbody : ∀ (A : Around) (outer : List Env) (s : Shared) (H : Hp) (vs : List V) (Q : VK) (E : XK), Room k (A.deeper (envF (sxN qual st cc cda) f s.heap.objs.size)) → sp vs H Q E →
      ∃ a ws ta t, vs = V.ref a :: ws ∧ H a = some (exo a C none) ∧ PA (ncx CX0 P w K mg base N (sxN qual st cc cda) f A outer s H E) [e] ta ∧ PSs (ncx CX0 P w K mg base N (sxN qual st cc cda) f A outer s H E) rest t ∧
        ta (startF N vs [some (.ref C)]) H fun us H1 => us.length ≤ 1000 ∧ H1 a = some (exo a C none) ∧ t { nx := fun _ H' => Q .non H', rt := Q } (startF N vs [some (.ref C)]) H1) :
    FnOk P w K mg base CX0 (k + 1) f (sxFd qual st cc cda kV doc pm an ct) ps sp := by
  refine ⟨len, fun A outer s H args us vs Q E hr e0 hb r hsp => ?_⟩
  have hl := len _ _ _ _ hsp
  have KX : K.In s.heap := e0.mod.kin.keeps fun b o e => (e0.bs b o e).1
  have lim : s.heap.NoLimit := e0.mod.nolimit.keeps fun b o e => (e0.bs b o e).1
  obtain ⟨cl, cld, csl, hcell⟩ := T.cell
  have hcc := e0.bs _ _ (e0.mod.kin _ _ hcell)
  have CA : CellsAt (sxN qual st cc cda).cl ["__class__"] [some (.ref C)] s.heap H := by
    have key : ∀ y c, ([("__class__", cc)] : List (Str × Addr)).lookup y = some c → y = "__class__" ∧ c = cc := fun y c h => by
      by_cases hy : y = ("__class__" : Str)
      · subst hy
        exact ⟨rfl, (Option.some.inj (show some cc = some c from h)).symm⟩
      · rw [List.lookup_cons, show (y == ("__class__" : Str)) = false from beq_eq_false_iff_ne.mpr hy] at h
        cases h
    exact ⟨rfl, fun y c h => by
      obtain ⟨_, rfl⟩ := key y c h
      exact ⟨hcc.2, _, _, hcc.1, rfl⟩, fun x y c h1 h2 => (key x c h1).1.trans (key y c h2).1.symm, fun i y hy => by
      cases i with
      | zero =>
        cases hy
        exact ⟨cc, rfl, fun v hv => by cases hv; exact ⟨.ref C, rfl, _, hcc.1, rfl⟩⟩
      | succ i => cases hy⟩
  refine codeAny_call_function hr.depth (KX _ _ lk) rfl S.co S.gen rfl (PySem.W.codeRec_of KX T.cod) (hb _ _ _ _ ?_)
  refine wpAny_newFunctionEnv S.nocell (fun ⟨n, _⟩ hy => S.par n (List.of_mem_zip hy).1) (fun h₁ hns hsb => ⟨lim.fresh _ hsb, ?_⟩) S.kind
  show codeAny _ _ (.func (sxN qual st cc cda).body (envF (sxN qual st cc cda) f s.heap.objs.size)) _ _
  refine ks_codeAny_funcAt ?_
  have kp : ∀ b o, s.heap.get? b = some o → h₁.get? b = some o := fun b o e => hsb.extBut b o (Nat.ne_of_lt (Heap.lt_size e)) (Heap.get?_push_of_some _ e)
  obtain ⟨a, ws, ta, t, rfl, ha, hpa, ht, hq⟩ := hbody A outer s H _ Q E (hr.deeper _) hsp
  have I : Inv (ncx CX0 P w K mg base N (sxN qual st cc cda) f A outer s H E) [] (startF N (V.ref a :: ws) [some (.ref C)]) H { s with heap := h₁, toks := s.toks + (ps.zip us).length } := inv_startN S hr.hd e0 hl r CA hns kp
  show _root_.PySem.wpAt (model P w) (A.deeper (envF (sxN qual st cc cda) f s.heap.objs.size)) (.func (defBody st) (envF (sxN qual st cc cda) f s.heap.objs.size)) (execs (defBody st) (envF (sxN qual st cc cda) f s.heap.objs.size)) _ _ _
  have fin : ∀ {σ' : L2.St} {H' : Hp} {v : V} {u : Value} {s' : Shared}, Inv (ncx CX0 P w K mg base N (sxN qual st cc cda) f A outer s H E) [] σ' H' s' → L2.RelV v u → Q v H' → CE outer P w H s Q u s' :=
    fun {σ' H' v u s'} J rv q => ⟨v, H', J.os, J.bare, J.base, J.hok, rv, q⟩
  -- what follows the first statement
  have restOk : ∀ (H1 : Hp) (s1 : Shared), Inv (ncx CX0 P w K mg base N (sxN qual st cc cda) f A outer s H E) [] (startF N (V.ref a :: ws) [some (.ref C)]) H1 s1 → t { nx := fun _ H' => Q .non H', rt := Q } (startF N (V.ref a :: ws) [some (.ref C)]) H1 →
      wpAny (model P w) (A.deeper (envF (sxN qual st cc cda) f s.heap.objs.size)) (execs rest (envF (sxN qual st cc cda) f s.heap.objs.size)) (fun f s' => CR CX0 outer P w H s Q E (.ok (.ret (match f with | .ret v => v | _ => .none))) s')
        (fun e s' => wpAny (model P w) (A.deeper (envF (sxN qual st cc cda) f s.heap.objs.size)) (leaving (envF (sxN qual st cc cda) f s.heap.objs.size) e) (fun _ s'' => CR CX0 outer P w H s Q E (.error e) s'') (fun e' s'' => CR CX0 outer P w H s Q E (.error e') s'') s') s1 := fun H1 s1 I1 q1 => by
    refine wpAny_mono (ht.run [] _ _ H1 _ I1 q1) (fun fl s' hs => ?_) fun e s' hs => hs
    cases fl with
    | ret u =>
      obtain ⟨v, σ', H', J, rv, q⟩ := hs
      exact fin J rv q
    | next =>
      obtain ⟨σ', H', J, q⟩ := hs
      exact fin (v := V.non) (u := Value.none) J rfl q
    | brk =>
      obtain ⟨_, _, _, q⟩ := hs
      exact False.elim q
    | cont =>
      obtain ⟨_, _, _, q⟩ := hs
      exact False.elim q
  rw [hst]
  generalize hX : ncx CX0 P w K mg base N (sxN qual st cc cda) f A outer s H E = X at *
  refine ks_wpAt_execs_cons (ks_wpAt_Expr_any ?_ (hi _) (hs _))
  refine ks_wpAt_MethodCall (pl := pl) ?_ (hcall _)
  obtain ⟨ccl, cdd, vs0, ccs, file, tf, hcode, hvs, hfile⟩ := T.file
  obtain ⟨nm, q, NN, bs, bm, sn, sub, ab, col, dd, k0, k1, k2, k3, k5, hC, hbm⟩ := T.oex.cls
  obtain ⟨t1, hae⟩ := exo_at I.hok ha
  have KX1 : K.In h₁ := KX.keeps kp
  have hCo := KX1 _ _ hC
  obtain ⟨mb, hb1, hb2⟩ := e0.mod.blt
  have bk : ∀ b o, base.get? b = some o → h₁.get? b = some o := fun b o z => kp _ _ (e0.bs b o z).1
  have hself : (fun y => (ps.zip us).reverse.lookup y) ar.arg = some (.ref a) := by
    cases r with
    | @cons _ u0 _ ur ra rw' =>
      obtain rfl : u0 = Value.ref a := ra
      refine zip_look (i := 0) ?_ har rfl
      have q := S.nd.sublist (List.take_sublist (ps.length + [("__class__" : Str)].length) N)
      rw [S.pre] at q
      exact (List.nodup_append.mp q).1
  refine ks_wpAt_super_base (env := envF (sxN qual st cc cda) f s.heap.objs.size) hsu (S.frk _ (List.mem_singleton.mpr rfl)) (by decide) rfl (KX1 _ _ lk) rfl hpar rfl (KX1 _ _ hcode) rfl hvs hfile T.top ?_
  refine PySem.W.ks_loadName_global S.kind hsu (Calls.loadGlobal_builtin (env := envF (sxN qual st cc cda) f s.heap.objs.size) (e0.mod.glob.keeps bk) T.mgS (hb1.keeps bk) ((hb2 _ (by decide)).trans (by decide +kernel)) ⟨rfl, ?_⟩)
  refine wpAny_loadName_free S.kind (S.frk _ (List.mem_singleton.mpr rfl)) rfl ⟨_, KX1 _ _ hcell, rfl⟩ ?_
  refine wpAny_loadName_local S.kind (S.par _ (List.mem_of_getElem? har)) hns hself ?_
  have hcl : PySem.W.clsIn K C = some { name := nm, bases := bs, mro := .ref C :: bm, ns := NN, qualname := q, hasDict := true, slotNames := sn, subclasses := sub, abstract := ab, collection := col, hasDel := false } := by unfold PySem.W.clsIn; rw [hC] <;> rfl
  refine ks_wpAny_isType_cls hCo rfl ⟨rfl, ?_⟩
  have IA : PySem.W.InstAt h₁ a { cls := .ref C, dict := none, data := .fields #[.ref t1, .none, .none, .none, .bool false, .none] } C none := ⟨hae, rfl, rfl, trivial⟩
  refine ks_wpAny_call_super hCo rfl hae rfl (fun c e => by cases e) (PySem.W.looks_mroIn KX1 T.mroS) (fun h2 hso k2 => ?_)
  have KX2 : K.In h2 := KX1.keeps k2
  have hsup := T.sup
  unfold PySem.W.ks_superIn at hsup
  rw [hcl] at hsup
  have hae2 := k2 _ _ hae
  have IA2 : PySem.W.InstAt h2 a { cls := .ref C, dict := none, data := .fields #[.ref t1, .none, .none, .none, .bool false, .none] } C none := ⟨hae2, rfl, rfl, trivial⟩
  have hane : a ≠ C := PySem.W.ks_ne KX2 IA2 hcl
  refine PySem.W.kxs_getMethod PySem.W.kxs_ValueError hso (PySem.W.looks_opaque KX2 T.opq) (l₀ := .ref C :: bm) ?_ rfl KX2 hsup (IA2.type.andThen (PySem.W.looks_subIn KX2 T.subVE)) hane (by decide) ?_
  · exact fun A Q E s k q => wpAny_bind ((PySem.W.looks_clsIn KX2 hcl) A _ E s k (wpAny_pure q))
  have kp2 : ∀ b o, h₁.get? b = some o → (h2.push (PySem.W.kxs_mw "ValueError.__init__" a)).get? b = some o := fun b o z => Heap.get?_push_of_some _ (k2 b o z)
  have I2 := I.kept (t' := s.toks + (ps.zip us).length + 1) kp2
  have hu : (h2.push (PySem.W.kxs_mw "ValueError.__init__" a)).get? h2.objs.size = some (PySem.W.kxs_mw "ValueError.__init__" a) := Heap.get?_push_at rfl rfl
  have hsz : h₁.objs.size ≤ h2.objs.size := Nat.le_of_lt (Heap.lt_size hso)
  have I3 : Inv X [(h2.objs.size, PySem.W.kxs_mw "ValueError.__init__" a)] (startF N (V.ref a :: ws) [some (.ref C)]) H _ := I2.pins_of fun p hp => by
    rcases List.mem_singleton.mp hp with rfl
    refine ⟨hu, I.hok.fresh hsz, ?_, I.nofs hsz, fun v z => by cases z⟩
    exact fun z => by have := I.lt; rw [← z] at this; exact absurd this (Nat.not_lt.mpr hsz)
  rw [hstar]
  refine PySem.W.kxs_callWith (i := "ValueError.__init__") (x := a) rfl ?_
  refine Calls.evalArgs_plain ?_
  subst hX
  have hrun := hpa.run cp _ _ _ H _ I3 hq
  rw [show starEach [e] (ncx CX0 P w K mg base N (sxN qual st cc cda) f A outer s H E).env = [(false, eval e (envF (sxN qual st cc cda) f s.heap.objs.size))] from hstar _] at hrun
  refine thn hrun fun us1 s1 ⟨vs1, H1, J, r1, hl1, ha1, q1⟩ => ?_
  have hmw := (J.pin (h2.objs.size, PySem.W.kxs_mw "ValueError.__init__" a) (List.mem_singleton.mpr rfl)).1
  refine ⟨hmw, ?_⟩
  obtain ⟨t2, hae3⟩ := exo_at J.hok ha1
  have hC3 := J.kIn _ _ hC
  have hus : us1.length ≤ sizeLine := by
    rw [← Paired.length r1, sizeLine_eq]
    omega
  obtain ⟨h3, g3, d3, tk3, os3⟩ := s1
  refine call_mwVE hC3 hae3 hmw hus fun h4 t4 k4 hx4 => ?_
  have L := J.write (t' := tk3) (x := a) (e := a) (o := exo a C none) (by rw [ha1]; exact True.intro) (.inl rfl) k4 ⟨_, hx4⟩ (exo_ok hx4)
  have eu : upd H1 a (exo a C none) = H1 := by
    funext b
    by_cases hb : b = a
    · rw [hb, upd_same, ha1]
    · rw [upd_ne hb]
  rw [eu] at L
  have L0 := L.pins_of (pins' := []) fun p hp => absurd (show p ∈ ([] : List (Addr × Obj)) from hp) (by simp)
  exact wpAt_of_wpAny (restOk H1 _ L0 q1)
end Fb
namespace Fb
open PySem L2 NdefX
def spErr (C : Addr) (fs : List Str) (good : List V → Prop) : Sp := fun vs H Q _ => ∃ a ws, vs = V.ref a :: ws ∧ ws.length = fs.length ∧ good ws ∧ H a = some (exo a C none) ∧
  ∀ d, H d = none → d ≠ a → Q .non (upd (upd H d (exd d (fs.zip ws).reverse)) a (exo a C (some d)))
structure SxT (st : Stmt) (f cc cda : Addr) (qual : Str) (e : Expr) (rest : List Stmt) : Prop where
  ex : ∃ (p0 p1 ap cp ep : Pos) (pl : Sem Bool), defBody st = .Expr (.Call (.Attribute (.Call (.Name "super" p0) [] [] p1) "__init__" ap) [e] [] cp) ep :: rest ∧
    (∀ L, interactive (envF (sxN qual st cc cda) f L) = false) ∧ (∀ L, swapsWith (.Call (.Attribute (.Call (.Name "super" p0) [] [] p1) "__init__" ap) [e] [] cp) none ep.line (envF (sxN qual st cc cda) f L) = pure false) ∧
    (∀ L, eval (.Call (.Attribute (.Call (.Name "super" p0) [] [] p1) "__init__" ap) [e] [] cp) (envF (sxN qual st cc cda) f L) = (do
      let ov ← attributeBase (.Call (.Name "super" p0) [] [] p1) "__init__" (envF (sxN qual st cc cda) f L) (eval (.Call (.Name "super" p0) [] [] p1) (envF (sxN qual st cc cda) f L))
      standAt ap.atName
      let (g, first) ← holding [ov] (getMethod ov "__init__" pl)
      callWith cp g first (backTo cp (starEach [e] (envF (sxN qual st cc cda) f L))) [])) ∧
    (∀ L, starEach [e] (envF (sxN qual st cc cda) f L) = [(false, eval e (envF (sxN qual st cc cda) f L))])
  su : (defScope st).names.lookup ("super" : Str) = some .globalImplicit
  par : ∃ ar, ((defArgs st).posonlyargs ++ (defArgs st).args).head? = some ar ∧ ar.arg = "self"
theorem upd_swap {H : Hp} {a b : Addr} {o u : HO} (h : a ≠ b) : upd (upd H a o) b u = upd (upd H b u) a o := by
  funext x
  by_cases h1 : x = b
  · subst h1; rw [upd_same, upd_ne (Ne.symm h), upd_same]
  · by_cases h2 : x = a
    · subst h2; rw [upd_ne h1, upd_same, upd_same]
    · rw [upd_ne h1, upd_ne h2, upd_ne h2, upd_ne h1]
theorem upd_twice {H : Hp} {a : Addr} {o u : HO} : upd (upd H a o) a u = upd H a u := by
  funext x
  by_cases h1 : x = a
  · subst h1; rw [upd_same, upd_same]
  · rw [upd_ne h1, upd_ne h1, upd_ne h1]
section
variable {P : Program} {w : World} {K : PySem.W.Frag} {mg : Str → Option Value} {base : Heap} {C f cc cda : Addr} {qual : Str} {st : Stmt} {oc : Value} {od : Option Addr} {osl : Array (Option Value)} {kV doc pm ct : Value} {an : Option Addr} {e : Expr} {good : List V → Prop}
theorem err1_ok {fld p : Str} {q1 q2 q3 q4 : Pos} (T : SxF P K mg C cc cda qual) (lk : K.lookup f = some ⟨oc, od, .func (sxFd qual st cc cda kV doc pm an ct), osl⟩) (S : NScope ["self", p, "__class__"] ["self", p] ["__class__"] (defScope st))
    (W : SxT st f cc cda qual e [.Assign [.Attribute (.Name "self" q1) fld q2] (.Name p q3) q4]) (no : PySem.W.findIn K (.ref C) fld = some none)
    (pd : (p == ("__debug__" : Str)) = false) (pc : (p == ("__classdict__" : Str)) = false) (hsw : ∀ L, swapsWith (.Name p q3) (some (.Attribute (.Name "self" q1) fld q2)) q4.line (envF (sxN qual st cc cda) f L) = pure false)
    (hmsg : ∀ (A : Around) (outer : List Env) (s : Shared) (H : Hp) (E : XK), ∃ ta, PA (ncx CX0 P w K mg base ["self", p, "__class__"] (sxN qual st cc cda) f A outer s H E) [e] ta ∧
      ∀ (a : Addr) (v : V) (H : Hp) (Q : List V → Hp → Prop), good [v] → (∀ z, Q [.str z] H) → ta [some (.ref a), some v, some (.ref C)] H Q) :
    FnOk P w K mg base CX0 1 f (sxFd qual st cc cda kV doc pm an ct) ["self", p] (spErr C [fld] good) := by
  obtain ⟨p0, p1, ap, cp, ep, pl, h1, h2, h3, h4, h5⟩ := W.ex
  obtain ⟨ar, h6, h7⟩ := W.par
  refine sx_ok (pl := pl) T lk S W.su h1 h2 h3 h4 h5 h6 (by rw [h7]; rfl) (fun vs H Q E h => ?_) (fun A outer s H vs Q E hr h => ?_)
  · obtain ⟨a, ws, rfl, hl, _⟩ := h
    show ws.length + 1 = 2
    rw [hl]; rfl
  · obtain ⟨a, ws, rfl, hl, hg, ha, q⟩ := h
    match ws, hl with
    | [v], _ =>
    obtain ⟨ta, h8, h9⟩ := hmsg A outer s H E
    refine ⟨a, [v], ta, _, rfl, ha, h8, pss_one (ps_ost (pe_var (i := 0) rfl (.inl (S.par _ (by simp)))) (pe_var (i := 1) rfl (.inl (S.par _ (by simp))) pd pc) (hsw _)), ?_⟩
    refine h9 a v H _ hg fun z => ⟨(by show 1 ≤ 1000; decide), ha, ?_⟩
    refine ⟨_, rfl, _, rfl, a, C, rfl, T.oex, no, .inl ⟨ha, fun d hd hda => ?_⟩⟩
    exact q d hd hda
end
structure Err (P : Program) (w : World) (K : PySem.W.Frag) (mg : Str → Option Value) (base : Heap) (x : Str) (C : Addr) (fs : List Str) (good : List V → Prop) : Prop where
  oex : OexC K C
  xf : XfC K C
  gC : mg x = some (.ref C)
  ini : ∃ fI fd ps, PySem.W.findIn K (.ref C) "__init__" = some (some (.ref fI)) ∧ PySem.W.typeIn K (.ref fI) = some (.type "function") ∧ FnOk P w K mg base CX0 1 fI fd ps (spErr C fs good) ∧ Binds K fd ps []
  te : PySem.W.exmOne K (.ref C) (.ref C) = some true
theorem pmk_err {X : Cx} {x : Str} {C : Addr} {fs : List Str} {good : List V → Prop} {e : Expr} {es : List Expr} {ta : TA} {p pos : Pos} (T : Err X.prog X.w X.K X.mg X.base x C fs good) (hr : Room 2 X.A) (hg : Gl X x) (ha : PA X (e :: es) ta)
    (hdb : (x == ("__debug__" : Str)) = false := by decide) (he : starEach (e :: es) X.env = (false, eval e X.env) :: starEach es X.env := by rfl) (hpl : (backTo pos (starEach es X.env)).any (·.1) = false := by rfl) :
    PMk X (.Call (.Name x p) (e :: es) [] pos) (tMkO C (spErr C fs good) [] ta) := by
  obtain ⟨fI, fd, ps, iC, tI, F1, hb⟩ := T.ini
  exact pmk_oex (x := x) (p := p) (pos := pos) T.oex iC tI F1 hr hb .nil pass0 hg T.gC ha hdb he hpl
theorem err_mk {C : Addr} {fs : List Str} {good : List V → Prop} {vs : List V} {H1 : Hp} {Q : XK} (hl : vs.length = fs.length) (hf : fs.length ≤ 10) (hg : good vs) (h : ∀ d, H1 d = none → Q (.ref C) (some d) (upd H1 d (.xd (fs.zip vs).reverse))) :
    vs.length ≤ 1000 ∧ ∀ a, H1 a = none → spErr C fs good (.ref a :: (vs ++ [])) (upd H1 a (exo a C none))
      (fun v H2 => v = .non ∧ ∃ (d : Addr) (fs : List (Str × V)), H2 a = some (exo a C (some d)) ∧ H2 d = some (exd d fs) ∧ H1 d = none ∧ Q (.ref C) (some d) (upd (del H2 a) d (.xd fs))) (fun _ _ _ => False) := by
  refine ⟨by omega, fun a ha => ⟨a, vs, by rw [List.append_nil], hl, hg, upd_same, fun d hd hda => ⟨rfl, d, (fs.zip vs).reverse, upd_same, by rw [upd_ne hda, upd_same], ?_, ?_⟩⟩⟩
  · rw [upd_ne hda] at hd; exact hd
  · have hd1 : H1 d = none := by rw [upd_ne hda] at hd; exact hd
    have q := h d hd1
    have e : upd (del (upd (upd (upd H1 a (exo a C none)) d (exd d (fs.zip vs).reverse)) a (exo a C (some d))) a) d (.xd (fs.zip vs).reverse) = upd H1 d (.xd (fs.zip vs).reverse) := by
      funext x
      by_cases h1 : x = d
      · subst h1; rw [upd_same, upd_same]
      · rw [upd_ne h1, upd_ne h1]
        by_cases h2 : x = a
        · subst h2; rw [del_same, ha]
        · rw [del_ne h2, upd_ne h2, upd_ne h1, upd_ne h2]
    rw [e]
    exact q
end Fb
namespace Fb
open PySem L2 NdefX PySem.Spec PyProof.Rows
/-! ### defs that raise -/
structure HasX (P : Program) (w : World) (K : PySem.W.Frag) (mg : Str → Option Value) (base : Heap) (k : Nat) (x : Str) (ps : List Str) (sp : Sp) : Prop where
  ex : ∃ f fd, FnOk P w K mg base (L2.CX P w) k f fd ps sp ∧ PySem.W.keepIn K (.ref f) = true ∧ mg x = some (.ref f) ∧ Binds K fd ps []
theorem pe_HX {X : Cx} {W : WX} {k : Nat} {x : Str} {ps : List Str} {sp : Sp} {e : Expr} {es : List Expr} {t : TA} {p pos : Pos} (C : HasX X.prog X.w X.K X.mg X.base k x ps sp) (tk : Takes X W) (hr : Room k X.A) (hg : Gl X x) (ha : PA X (e :: es) t)
    (hdb : (x == ("__debug__" : Str)) = false := by decide) (he : starEach (e :: es) X.env = (false, eval e X.env) :: starEach es X.env := by rfl) (hpl : (backTo pos (starEach es X.env)).any (·.1) = false := by rfl) :
    PE X (.Call (.Name x p) (e :: es) [] pos) (tCallS sp (fun σ => WE W σ) t) := by
  obtain ⟨f, fd, F, kp, hm, hb⟩ := C.ex
  exact pe_callS F hr hg hm kp hb (fun σ => passAt tk σ) ha hdb he hpl
/-! ### isinstance of a caught error that has fields -/
def rIsEd (K : PySem.W.Frag) (D a : Addr) (cls : Value) (d : Option Addr) : List V → Hp → VK → Prop := fun xs H Q => ∃ (c : V) (cv : Value) (b : Bool) (dd : Addr) (fs : List (Str × V)), xs = [.ref a, c] ∧ cls = .ref D ∧ d = some dd ∧ H dd = some (.xd fs) ∧ (∀ u, RelV c u → u = cv) ∧ PySem.W.kitOne K (.ref D) cv = some b ∧ Q (.bl b) H
theorem call_isEd {X : Cx} {a D : Addr} {oe : Obj} {cls : Value} {d : Option Addr} {pn : List (Addr × Obj)} (C : L2.ExcC X.K D) (hz : Zc cls d oe) (hf : ∃ vs, oe.data = .fields vs) : CallR (X.suite a ((a, oe) :: pn)) (.builtin "isinstance") (rIsEd X.K D a cls d) := by
  intro pins s σ H xs us Q I r h
  obtain ⟨c, cv, b, dd, fs, rfl, rfl, rfl, hd, hcv, e, q⟩ := h
  cases r with
  | cons rx rr =>
    cases rr with
    | cons rt rr =>
      cases rr
      cases rx
      have ec := hcv _ rt
      subst ec
      obtain ⟨hget, _⟩ := I.pin (a, oe) (List.mem_append.mpr (.inl List.mem_cons_self))
      obtain ⟨vs, hv⟩ := hf
      have hx : ObjOk X.prog X.w H s.heap dd (.xd fs) := I.hok dd _ hd
      obtain ⟨mA, hns, hr⟩ := hx
      obtain ⟨od, es, ep, ho, hl⟩ := hns
      have J : PySem.W.InstAt s.heap a oe D (some od) := by
        obtain ⟨oc, odd, oda, osl⟩ := oe
        obtain ⟨h1, h2⟩ := hz
        dsimp only at h1 h2 hv
        subst h1 h2 hv
        exact ⟨hget, rfl, rfl, ho⟩
      have hcl : (PySem.W.clsIn X.K D).isSome = true := by
        obtain ⟨cd, hc, _⟩ := PySem.W.any_some C.hd
        rw [hc]; rfl
      exact PySem.W.kia_one (PySem.W.kitx_exc hcl C.hg C.hk C.hs C.ha C.hn C.ht C.hm) I.kIn J e (fun z => nomatch z) fun tk => ⟨.bl b, H, I.kept (t' := tk) fun _ _ z => z, rfl, q⟩
/-! ### what K says of an error class two steps above ValueError -/
theorem exm_self {K : PySem.W.Frag} {S : Addr} (h1 : PySem.W.subIn K (.ref S) (.type "BaseException") = some true) (h2 : (PySem.W.clsIn K S).isSome = true) (h3 : PySem.W.typeIn K (.ref S) = some (.type "type")) (h4 : PySem.W.subIn K (.ref S) (.ref S) = some true) :
    PySem.W.exmOne K (.ref S) (.ref S) = some true := by
  have e1 : (PySem.W.subIn K (.ref S) (.type "BaseException") == some true) = true := by rw [h1] <;> rfl
  have e2 : ((PySem.W.clsIn K S).isSome && PySem.W.typeIn K (.ref S) == some (.type "type")) = true := by
    rw [h2, h3] <;> rfl
  show (if (PySem.W.subIn K (.ref S) (.type "BaseException") == some true) = true then (if ((PySem.W.clsIn K S).isSome && PySem.W.typeIn K (.ref S) == some (.type "type")) = true then PySem.W.subIn K (.ref S) (.ref S) else none) else none) = some true
  rw [if_pos e1, if_pos e2]
  exact h4
/-- isinstance(e, F), F a class of the program -/
theorem kit_ref {K : PySem.W.Frag} {C F : Addr} (h2 : (PySem.W.clsIn K F).isSome = true) (h3 : PySem.W.typeIn K (.ref F) = some (.type "type")) (h4 : PySem.W.subIn K (.ref C) (.ref F) = some true) : PySem.W.kitOne K (.ref C) (.ref F) = some true := by
  have e2 : ((PySem.W.clsIn K F).isSome && PySem.W.typeIn K (.ref F) == some (.type "type")) = true := by
    rw [h2, h3] <;> rfl
  unfold PySem.W.kitOne
  split
  · rfl
  · show (if ((PySem.W.clsIn K F).isSome && PySem.W.typeIn K (.ref F) == some (.type "type")) = true then PySem.W.subIn K (.ref C) (.ref F) else none) = some true
    rw [if_pos e2, h4]
theorem kit_ty {K : PySem.W.Frag} {C : Addr} {T : String} (h : PySem.W.kitMeta T = true) (h4 : PySem.W.subIn K (.ref C) (.type T) = some true) : PySem.W.kitOne K (.ref C) (.type T) = some true := by
  unfold PySem.W.kitOne
  rw [if_neg (by intro z; cases z)]
  show (if PySem.W.kitMeta T = true then PySem.W.subIn K (.ref C) (.type T) else none) = some true
  rw [if_pos h, h4]
structure ErrK (K : PySem.W.Frag) (C F fI cc cda : Addr) (qual : Str) : Prop where
  xC : ∃ nm q N bs sn sub ab col dd k0 k1 k2 k3 k5, K.lookup C = some (excClassObj nm q C N bs [.ref F, .type "ValueError", .type "Exception", .type "BaseException", .type "object"] true sn sub ab col dd k0 k1 k2 k3 k5 "ValueError.__new__")
  xF : ∃ nm q N bs sn sub ab col dd k0 k1 k2 k3 k5, K.lookup F = some (excClassObj nm q F N bs [.type "ValueError", .type "Exception", .type "BaseException", .type "object"] true sn sub ab col dd k0 k1 k2 k3 k5 "ValueError.__new__")
  fi : PySem.W.findIn K (.ref F) "__init__" = some (some (.builtin "ValueError.__init__"))
  sa : PySem.W.findIn K (.ref C) "__setattr__" = some (some (.builtin "object.__setattr__"))
  ga : PySem.W.findIn K (.ref C) "__getattribute__" = some (some (.builtin "BaseException.__getattribute__"))
  gg : PySem.W.findIn K (.ref C) "__getattr__" = some none
  gc : PySem.W.findIn K (.ref C) "__class__" = some (some (.builtin "object.__class__"))
  ia : PySem.W.findIn K (.ref C) "__init__" = some (some (.ref fI))
  it : PySem.W.typeIn K (.ref fI) = some (.type "function")
  exC : PySem.W.subIn K (.ref C) (.type "BaseException") = some true
  veC : PySem.W.subIn K (.ref C) (.type "ValueError") = some true
  suC : PySem.W.subIn K (.ref C) (.ref C) = some true
  suF : PySem.W.subIn K (.ref C) (.ref F) = some true
  tyC : PySem.W.typeIn K (.ref C) = some (.type "type")
  tyF : PySem.W.typeIn K (.ref F) = some (.type "type")
  kC : PySem.W.keepIn K (.ref C) = true
  mS : PySem.W.mroIn K C (.ref C) = some true
  mO : PySem.W.mroIn K C (.type "object") = some true
  sp : PySem.W.specialIn K (.builtin "object.__class__") "__get__" = some (some (.builtin "getset_descriptor.__get__"))
  tk : PySem.W.takesIn K (.builtin "object.__class__") = some true
  opq : PySem.W.nsIn K cStatics "thirdparty.any" = some none
  cod : PySem.W.codeIn K (.ref cda) qual = true
  cell : ∃ cl cld csl, K.lookup cc = some ⟨cl, cld, .cell (some (.ref C)), csl⟩
section
variable {P : Program} {w : World} {K : PySem.W.Frag} {mg : Str → Option Value} {base : Heap} {C F fI cc cda : Addr} {qual : Str}
theorem ErrK.cls (T : ErrK K C F fI cc cda qual) : (PySem.W.clsIn K C).isSome = true := by
  obtain ⟨_, _, _, _, _, _, _, _, _, _, _, _, _, _, h⟩ := T.xC
  unfold PySem.W.clsIn; rw [h]; rfl
theorem ErrK.clsF (T : ErrK K C F fI cc cda qual) : (PySem.W.clsIn K F).isSome = true := by
  obtain ⟨_, _, _, _, _, _, _, _, _, _, _, _, _, _, h⟩ := T.xF
  unfold PySem.W.clsIn; rw [h]; rfl
theorem ErrK.oex (T : ErrK K C F fI cc cda qual) : OexC K C := by
  obtain ⟨nm, q, N, bs, sn, sub, ab, col, dd, k0, k1, k2, k3, k5, h⟩ := T.xC
  exact ⟨⟨nm, q, N, bs, _, sn, sub, ab, col, dd, k0, k1, k2, k3, k5, h, rfl⟩, T.sa, T.exC, T.tyC, T.kC⟩
theorem ErrK.hd (T : ErrK K C F fI cc cda qual) : PySem.W.hasDictIn K C = true := by
  obtain ⟨nm, q, N, bs, sn, sub, ab, col, dd, k0, k1, k2, k3, k5, h⟩ := T.xC
  unfold PySem.W.hasDictIn PySem.W.clsIn
  rw [h]; rfl
theorem ErrK.xf (T : ErrK K C F fI cc cda qual) : XfC K C := ⟨T.ga, T.gg, T.exC, T.hd⟩
theorem ErrK.ec (T : ErrK K C F fI cc cda qual) : L2.ExcC K C := ⟨T.ga, T.gg, T.exC, T.hd, T.gc, T.sp, T.tk, T.mO⟩
theorem ErrK.te (T : ErrK K C F fI cc cda qual) : PySem.W.exmOne K (.ref C) (.ref C) = some true := exm_self T.exC T.cls T.tyC T.suC
theorem ErrK.isF (T : ErrK K C F fI cc cda qual) : PySem.W.kitOne K (.ref C) (.ref F) = some true := kit_ref T.clsF T.tyF T.suF
theorem ErrK.isVE (T : ErrK K C F fI cc cda qual) : PySem.W.kitOne K (.ref C) (.type "ValueError") = some true := kit_ty (by decide +kernel) T.veC
theorem ErrK.sup (T : ErrK K C F fI cc cda qual) : PySem.W.ks_superIn K C C "__init__" = some (some (.builtin "ValueError.__init__")) := by
  obtain ⟨nm, q, N, bs, sn, sub, ab, col, dd, k0, k1, k2, k3, k5, h⟩ := T.xC
  obtain ⟨nm', q', N', bs', sn', sub', ab', col', dd', k0', k1', k2', k3', k5', h'⟩ := T.xF
  have fi := T.fi
  unfold PySem.W.findIn at fi
  dsimp only at fi
  rw [h'] at fi
  unfold PySem.W.ks_superIn PySem.W.clsIn
  rw [h]
  have e : (Value.ref C != Value.ref C) = false := by simp
  show PySem.W.alongIn K "__init__" ((List.dropWhile (fun x => x != Value.ref C) (Value.ref C :: [.ref F, .type "ValueError", .type "Exception", .type "BaseException", .type "object"])).drop 1) = _
  rw [List.dropWhile_cons, e]
  exact fi
theorem ErrK.sx (T : ErrK K C F fI cc cda qual) (file : ∃ ccl cdd vs ccs file tf, K.lookup cda = some ⟨ccl, cdd, .fields vs, ccs⟩ ∧ vs[2]? = some (.str file tf) ∧ ((P.main.file : Str) == file) = true)
    (top : (P.main.scope.names.lookup ("super" : Str)).isSome = false) (mgS : mg "super" = none) : SxF P K mg C cc cda qual :=
  ⟨T.cod, file, T.cell, T.sup, T.veC, T.mS, T.oex, T.opq, top, mgS⟩
theorem ErrK.err {x : Str} {fs : List Str} {good : List V → Prop} {fd : FuncData} {ps : List Str} (T : ErrK K C F fI cc cda qual) (gC : mg x = some (.ref C)) (F1 : FnOk P w K mg base CX0 1 fI fd ps (spErr C fs good)) (hb : Binds K fd ps []) : Err P w K mg base x C fs good :=
  ⟨T.oex, T.xf, gC, ⟨fI, fd, ps, T.ia, T.it, F1, hb⟩, T.te⟩
end
end Fb
/-! ### != of an instance whose class has an own ==, and no own != -/
namespace FN
open PySem PySem.Spec PyProof.Rows PySem.SeqAt
section
variable {M : Model} {prog : Program} {w : World} {A : Around} {E : Value → Shared → Prop} {s : Shared} {K : PySem.W.Frag} {x C f L : Addr} {ox : Obj} {od : Option Obj} {b : Value} {h₀ : Heap} {m : Str → Option Value} {tb : Value}
theorem ifBound_objNe {args : List Value} {Q : Option Value → Shared → Prop} (X : K.In s.heap) (I : PySem.W.InstAt s.heap x ox C od) (hs : PySem.W.findIn K (.ref C) "__ne__" = some (some (.builtin "object.__ne__")))
    (h : wpAny M A (call (.builtin "object.__ne__") (.ref x :: args)) (fun v => Q (some v)) E s) : wpAny M A (callSpecialIfBound? (.ref x) "__ne__" args) Q E s := by
  simp only [callSpecialIfBound?, bindSpecialIfBound?]
  refine wpAny_holding (wpAny_bind (wpAny_bind (wpAny_bind (I.type.here ((PySem.W.looks_findIn X hs).here ?_)))))
  refine wpAny_bind (wpAny_askSetting (wpAny_ite ?_))
  have fin : wpAny M A (call (.builtin "object.__ne__") ([.ref x] ++ args) >>= fun v => pure (some v)) Q E s := wpAny_bind (wpAny_mono h (fun v s' h' => wpAny_pure h') fun _ _ h' => h')
  split
  · exact wpAny_bind (wpAny_of_eq (F.cmp_object.ne.bind _) (wpAny_pure (by exact fin)))
  · exact wpAny_tryCatch (wpAny_bind (wpAny_of_eq (F.cmp_object.ne.bind _) (wpAny_pure (by exact fin))))
def NeBack (Q : Value → Shared → Prop) (v : Value) (s' : Shared) : Prop := ∃ r : Bool, v = .bool r ∧ Q (.bool (!r)) s'
theorem entry_ne {Q : Fin → Shared → Prop} (hu : A.units < cLine) (X : K.In s.heap) (I : PySem.W.InstAt s.heap x ox C od) (hs : PySem.W.findIn K (.ref C) "__eq__" = some (some (.ref f))) (hf : PySem.W.isFn K (.ref f) = true)
    (h : wpAny M A (call (.ref f) [.ref x, b]) (NeBack fun v s' => Q (.done (.ret v)) s') E s) : wpAny M A (Builtin.«object.__ne__» ⟨[.ref x, b], []⟩) Q E s := by
  unfold Builtin.«object.__ne__»
  repeat (first | with_reducible refine wpAny_cRoomFor hu ?_ | with_reducible refine wpAny_bind (PySem.W.ifBound_K X I hs hf (wpAny_mono h (fun v s' hv => ?_) fun _ _ e => e)) | wp_step)
  obtain ⟨r, rfl, q⟩ := hv
  repeat (first | with_reducible refine wpAny_truthy_bool ?_ | wp_step)
  exact q
theorem call_objNe {Q : Value → Shared → Prop} (hu : A.in1.units < cLine) (X : K.In s.heap) (I : PySem.W.InstAt s.heap x ox C od) (hm : PySem.W.mroIn K C (.type "object") = some true) (hs : PySem.W.findIn K (.ref C) "__eq__" = some (some (.ref f))) (hf : PySem.W.isFn K (.ref f) = true)
    (h : wpAny (model prog w) A.in1 (call (.ref f) [.ref x, b]) (NeBack Q) E s) :
    wpAny (model prog w) A (call (.builtin "object.__ne__") [.ref x, b]) Q E s :=
  wpAny_call (codeAny_call_builtin F.cmp_object.ne.plain F.cmpEntry_ne (PySem.W.check_slot F.cmpKind_ne F.cmpSplit_ne (I.type.andThen (PySem.W.looks_mroIn X hm)) (F.cmpArgs_ne _ _) (entry_ne hu X I hs hf h)))
theorem ne_K {Q : Value → Shared → Prop} (hu : A.units < cLine) (hu1 : A.in1.units < cLine) (F : PyProof.Rows.Fr h₀ L s.heap m) (X₀ : K.In h₀) (I : PySem.W.InstAt s.heap x ox C od) (hb : PySem.W.Looks (model prog w) s.heap (typeOf b) tb) (hn : PySem.W.notFirst K C tb = true)
    (hne : PySem.W.findIn K (.ref C) "__ne__" = some (some (.builtin "object.__ne__"))) (hm : PySem.W.mroIn K C (.type "object") = some true)
    (hs : PySem.W.findIn K (.ref C) "__eq__" = some (some (.ref f))) (hf : PySem.W.isFn K (.ref f) = true)
    (h : wpAny (model prog w) A.in1 (call (.ref f) [.ref x, b]) (NeBack Q) E s) : wpAny (model prog w) A (richCompare .NotEq (.ref x) b) Q E s := by
  have X := X₀.keeps F.keep
  have one : wpAny (model prog w) A (tryCompare (.ref x) "__ne__" b) (fun r s' => ∃ v, r = some v ∧ Q v s') E s := by
    unfold tryCompare
    refine wpAny_bind (ifBound_objNe X I hne (wpAny_mono (call_objNe (Q := fun v s' => ∃ r : Bool, v = .bool r ∧ Q v s') hu1 X I hm hs hf (wpAny_mono h (fun v s' hv => ?_) fun _ _ e => e)) (fun v s' hv => ?_) fun _ _ e => e))
    · obtain ⟨r, rfl, q⟩ := hv
      exact ⟨r, rfl, _, rfl, q⟩
    · obtain ⟨r, rfl, q⟩ := hv
      exact wpAny_pure ⟨_, rfl, q⟩
  unfold richCompare
  simp only [oneThing_ref]
  refine wpAny_holding (wpAny_bind (wpAny_cRoomFor hu ?_))
  refine wpAny_bind (I.type.here (wpAny_bind (hb.here ?_)))
  split
  · rename_i q
    have e : PySem.W.subIn K tb (.ref C) = some false := by
      rcases Bool.or_eq_true_iff.mp hn with e | e
      · rw [beq_iff_eq.mp e] at q; simp at q
      · exact beq_iff_eq.mp e
    refine wpAny_bind ((PySem.W.looks_subIn X e).here ?_)
    simp only [Bool.false_eq_true, if_false]
    refine wpAny_bind (wpAny_mono one (fun r s' z => ?_) fun _ _ e => e)
    obtain ⟨v, rfl, hq⟩ := z
    exact wpAny_pure hq
  · refine wpAny_bind (wpAny_pure ?_)
    simp only [Bool.false_eq_true, if_false]
    refine wpAny_bind (wpAny_mono one (fun r s' z => ?_) fun _ _ e => e)
    obtain ⟨v, rfl, hq⟩ := z
    exact wpAny_pure hq
end
end FN
namespace Fb
open PySem L2 PySem.Spec PyProof.Rows
/-! ### all but instances stays -/
def Xd (H H' : Hp) : Prop := ∀ b o, H b = some o → (∀ C dx fs, o ≠ .ins C dx fs) → H' b = some o
theorem Xd.sql {K : PySem.W.Frag} {c : Addr} {H H' : Hp} {xs : List V} (e : Xd H H') (h : SqL K H c xs) : SqL K H' c xs := by
  rcases h with (h | ⟨o, h⟩) | h
  · exact .inl (.inl (e _ _ h (fun _ _ _ z => nomatch z)))
  · exact .inl (.inr ⟨o, e _ _ h (fun _ _ _ z => nomatch z)⟩)
  · exact .inr h
theorem Xd.sqt {K : PySem.W.Frag} {c : Addr} {H H' : Hp} {xs : List V} (e : Xd H H') (h : SqT K H c xs) : SqT K H' c xs := by
  rcases h with (h | ⟨o, h⟩) | h
  · exact .inl (.inl (e _ _ h (fun _ _ _ z => nomatch z)))
  · exact .inl (.inr ⟨o, e _ _ h (fun _ _ _ z => nomatch z)⟩)
  · exact .inr h
mutual
theorem Xd.dp {K : PySem.W.Frag} {H H' : Hp} (e : Xd H H') : ∀ (d : PyData) (v : V), Dp K H v d → Dp K H' v d
  | .none, _, h => by cases h; exact .non
  | .bool b, _, h => by cases h; exact .bl b
  | .int i, _, h => by cases h; exact .int i
  | .str x, _, h => by cases h; exact .str x
  | .list ds, _, h => by
    cases h with
    | lst hs ha => exact .lst (e.sql hs) (Xd.dps e ds _ ha)
  | .tuple ds, _, h => by
    cases h with
    | tup hs ha => exact .tup (e.sqt hs) (Xd.dps e ds _ ha)
  | .dict _, _, h => by cases h
theorem Xd.dps {K : PySem.W.Frag} {H H' : Hp} (e : Xd H H') : ∀ (ds : List PyData) (vs : List V), DpAll K H vs ds → DpAll K H' vs ds
  | [], _, h => by cases h; exact .nil
  | d :: ds, _, h => by
    cases h with
    | cons h1 h2 => exact .cons (Xd.dp e d _ h1) (Xd.dps e ds _ h2)
end
theorem Xd.put {H : Hp} {p C dx : Addr} {fs : List (Str × V)} (h : H p = some (.ins C dx fs)) (o : HO) : Xd H (upd H p o) := fun b o' e n => by
  by_cases hb : b = p
  · subst hb
    rw [h] at e
    injection e with e
    exact absurd e.symm (n C dx fs)
  · rw [upd_ne hb]; exact e
/-! ### classes of the program: their making, methods, properties, own comparisons -/
structure HasMk (P : Program) (w : World) (K : PySem.W.Frag) (mg : Str → Option Value) (base : Heap) (k : Nat) (x : Str) (C : Addr) (ps : List Str) (dvs : List V) (sp : Sp) : Prop where
  ex : ∃ f fd ds, Mk K C f ∧ FnOk P w K mg base CX0 k f fd ps sp ∧ mg x = some (.ref C) ∧ Vals dvs ds ∧ Binds K fd ps ds
structure HasMeth (P : Program) (w : World) (K : PySem.W.Frag) (mg : Str → Option Value) (base : Heap) (k : Nat) (m : Str) (C : Addr) (ps : List Str) (sp : Sp) : Prop where
  ex : ∃ f fd, Meth K C m f ∧ FnOk P w K mg base CX0 k f fd ps sp ∧ Binds K fd ps []
structure HasProp (P : Program) (w : World) (K : PySem.W.Frag) (mg : Str → Option Value) (base : Heap) (k : Nat) (m : Str) (C : Addr) (sp : Sp) : Prop where
  ex : ∃ p g fd, PropOf K C m p g ∧ FnOk P w K mg base CX0 k g fd ["self"] sp ∧ Binds K fd ["self"] []
section
variable {X : Cx} {k : Nat} {x m : Str} {ps : List Str} {dvs : List V} {sp : Sp} {e o : Expr} {es : List Expr} {t : TA} {ta : TE} {p pos apos : Pos} {C : Addr}
theorem pe_mk (M : HasMk X.prog X.w X.K X.mg X.base k x C ps dvs sp) (hr : Room (k + 1) X.A) (hg : Gl X x) (ha : PA X (e :: es) t) (hdb : (x == ("__debug__" : Str)) = false := by decide)
    (he : starEach (e :: es) X.env = (false, eval e X.env) :: starEach es X.env := by rfl) (hpl : (backTo pos (starEach es X.env)).any (·.1) = false := by rfl) :
    PE X (.Call (.Name x p) (e :: es) [] pos) (tMake C sp dvs E0 t) := by
  obtain ⟨f, fd, ds, mk, F, hm, hd, hb⟩ := M.ex
  exact pe_make mk F hr hg hm hb hd pass0 ha hdb he hpl
theorem pe_me0 {pl : Sem Bool} (c : Cls X.K C) (M : HasMeth X.prog X.w X.K X.mg X.base k m C ps sp) (hr : Room k X.A) (he : PE X o ta)
    (ht : eval (.Call (.Attribute o m apos) [] [] pos) X.env = (do
      let ov ← eval o X.env
      standAt apos.atName
      let (f, first) ← holding [ov] (getMethod ov m pl)
      callWith pos f first (backTo pos (starEach [] X.env)) (backToKw pos (keywordEach [] X.env))) := by rfl) :
    PE X (.Call (.Attribute o m apos) [] [] pos) (tMeth C m sp [] E0 ta tNil) := by
  obtain ⟨f, fd, hm, F, hb⟩ := M.ex
  exact pe_meth0 he c hm F hr hb .nil pass0 ht
theorem pe_pr (c : Cls X.K C) (M : HasProp X.prog X.w X.K X.mg X.base k m C sp) (hr : Room (k + 1) X.A) (he : PE X e ta) (hab : attributeBase e m X.env (eval e X.env) = eval e X.env := by rfl) : PE X (.Attribute e m pos) (tProp C sp [] E0 ta) := by
  obtain ⟨p, g, fd, hp, F, hb⟩ := M.ex
  exact pe_prop he c hp F hr hb .nil pass0 hab
theorem pss_never {ss : List Stmt} : PSs X ss tNever := ⟨fun _ _ _ _ _ _ h => h.elim⟩
/-- a right side: an int, a text, None, a truth, or an instance -/
inductive RightOk (K : PySem.W.Frag) (C : Addr) (H : Hp) : V → Prop where
  | int (i : Int) (h : PySem.W.notFirst K C (.type "int") = true) : RightOk K C H (.int i)
  | ins {b C' dy : Addr} {gs : List (Str × V)} (e : H b = some (.ins C' dy gs)) (h : PySem.W.notFirst K C (.ref C') = true) : RightOk K C H (.ref b)
theorem RightOk.looks {pins : List (Addr × Obj)} {σ : L2.St} {H : Hp} {s : Shared} {y : V} {v : Value} (I : Inv X pins σ H s) (r : RelV y v) (h : RightOk X.K C H y) : ∃ tb, PySem.W.Looks (model X.prog X.w) s.heap (typeOf v) tb ∧ PySem.W.notFirst X.K C tb = true := by
  cases h with
  | int i h =>
    obtain ⟨t, rfl⟩ := r
    exact ⟨.type "int", PySem.W.Looks.of_pure rfl, h⟩
  | ins e h =>
    cases r
    obtain ⟨mB, J', _⟩ := ins_get I.hok e
    obtain ⟨od', J', _⟩ := J'.look
    exact ⟨_, J'.type, h⟩
/-- x op y by the class's own def -/
def rCmpI (K : PySem.W.Frag) (C : Addr) (sp : Sp) : R2 := fun x y H Q => ∃ a dx fs, x = .ref a ∧ H a = some (.ins C dx fs) ∧ RightOk K C H y ∧ sp [x, y] H Q E0
theorem back_ne {z : V} {w : Value} (r : RelV z w) {Q : Value → Shared → Prop} {s : Shared} (q : Q w s) : PySem.W.CmpBack Q w s := by
  cases z with
  | non => cases r; exact q
  | bl b => cases r; exact q
  | int i => obtain ⟨t, rfl⟩ := r; exact q
  | str x => obtain ⟨t, rfl⟩ := r; exact q
  | byt x => obtain ⟨t, rfl⟩ := r; exact q
  | flt x => obtain ⟨t, rfl⟩ := r; exact q
  | ref a => cases r; exact q
  | ty n => cases r; exact q
theorem op_cmpI {op : CmpOp} (hop : ∀ a b, compareOp op a b = richCompare op a b) (M : HasMeth X.prog X.w X.K X.mg X.base k (cmpInfo op).2.1 C ps sp) (hr : Room k X.A) : OpR X (compareOp op) (rCmpI X.K C sp) := by
  intro pins s σ H x y v u Q I rx ry h
  obtain ⟨f, fd, hm, F, hb⟩ := M.ex
  obtain ⟨a, dx, fs, rfl, ha, hR, q⟩ := h
  cases (show v = Value.ref a from rx)
  obtain ⟨tb, L, hn⟩ := hR.looks I ry
  obtain ⟨mA, J, _⟩ := ins_get I.hok ha
  obtain ⟨od, J, _⟩ := J.look
  obtain ⟨m', hF⟩ := I.fr
  rw [hop]
  refine PySem.W.cmp_K (op := op) (tb := tb) hr.units0 hF I.ok.mod.kin J L hn hm.at_ hm.fn ?_
  refine wpAny_mono (run_fn (ds := []) (dvs := []) (us := [.ref a, u]) (vs := [.ref a, y]) F hr hb .nil pass0 I (.cons rfl (.cons ry .nil)) q) (fun w s' z => ?_) fun _ _ x => x
  obtain ⟨z', H', I', rz, qz⟩ := z
  exact back_ne rz ⟨z', H', I', rz, qz⟩
/-- x != y by the class's own == -/
structure NeK (K : PySem.W.Frag) (C : Addr) : Prop where
  ne : PySem.W.findIn K (.ref C) "__ne__" = some (some (.builtin "object.__ne__"))
  mo : PySem.W.mroIn K C (.type "object") = some true
def rNeI (K : PySem.W.Frag) (C : Addr) (sp : Sp) : R2 := fun x y H Q => ∃ a dx fs, x = .ref a ∧ H a = some (.ins C dx fs) ∧ RightOk K C H y ∧ sp [x, y] H (fun v H' => ∃ b, v = .bl b ∧ Q (.bl (!b)) H') E0
theorem op_neI (N : NeK X.K C) (M : HasMeth X.prog X.w X.K X.mg X.base k "__eq__" C ps sp) (hr : Room (k + 1) X.A) : OpR X (compareOp .NotEq) (rNeI X.K C sp) := by
  intro pins s σ H x y v u Q I rx ry h
  obtain ⟨f, fd, hm, F, hb⟩ := M.ex
  obtain ⟨a, dx, fs, rfl, ha, hR, q⟩ := h
  cases (show v = Value.ref a from rx)
  obtain ⟨tb, L, hn⟩ := hR.looks I ry
  obtain ⟨mA, J, _⟩ := ins_get I.hok ha
  obtain ⟨od, J, _⟩ := J.look
  obtain ⟨m', hF⟩ := I.fr
  show wpAny (model X.prog X.w) X.A (richCompare .NotEq (.ref a) u) _ _ _
  refine FN.ne_K (tb := tb) hr.units0 hr.in1.units0 hF I.ok.mod.kin J L hn N.ne N.mo hm.at_ hm.fn ?_
  have hl := F.len _ _ _ _ q
  refine wpAny_call (codeAny_mono (F.run X.A.in1 X.stack s H ⟨[.ref a, u], []⟩ [.ref a, u] [.ref a, y] _ E0 hr.in1 I.env0.in1 (by
    have := hb s [.ref a, u] I.kIn (by simpa using hl)
    simpa using this) (.cons rfl (.cons ry .nil)) q) fun r s' hq => ?_)
  cases r with
  | error e => exact hq.elim
  | ok fl =>
    cases fl with
    | ret w =>
      obtain ⟨z, H', I', rz, b, rfl, qz⟩ := I.after hq
      cases rz
      exact ⟨b, rfl, .bl (!b), H', I', rfl, qz⟩
    | next => exact False.elim hq
    | brk => exact False.elim hq
    | cont => exact False.elim hq
end
/-! ### calls by two keywords -/
structure HasKR (P : Program) (w : World) (K : PySem.W.Frag) (mg : Str → Option Value) (base : Heap) (k : Nat) (x p1 p2 : Str) (sp : Sp) : Prop where
  ex : ∃ f fd, FnOk P w K mg base CX0 k f fd [p1, p2] sp ∧ PySem.W.keepIn K (.ref f) = true ∧ mg x = some (.ref f) ∧ (∀ (s : Shared) (u v : Value), K.In s.heap → BindsTo s fd ⟨[], [(p2, u), (p1, v)]⟩ [(p1, v), (p2, u)]) ∧ ∀ (s : Shared) (u v : Value), K.In s.heap → BindsTo s fd ⟨[], [(p1, u), (p2, v)]⟩ [(p1, u), (p2, v)]
theorem Fun.kr {K : PySem.W.Frag} {x qual m n : Str} {st : Stmt} {f : Addr} {fd : FuncData} (F : Fun K x qual st f fd)
    (h0 : ∀ (kV doc pm : Value) (an : Option Addr) (cdv ct u v : Value), bindArgs (PySem.W.fnOf x qual (defArgs st) (defBody st) (defScope st) .none kV doc pm an cdv ct) ⟨[], [(n, u), (m, v)]⟩ = pure [(m, v), (n, u)])
    (h1 : ∀ (kV doc pm : Value) (an : Option Addr) (cdv ct u v : Value), bindArgs (PySem.W.fnOf x qual (defArgs st) (defBody st) (defScope st) .none kV doc pm an cdv ct) ⟨[], [(m, u), (n, v)]⟩ = pure [(m, u), (n, v)]) :
    (∀ (s : Shared) (u v : Value), K.In s.heap → BindsTo s fd ⟨[], [(n, u), (m, v)]⟩ [(m, v), (n, u)]) ∧ ∀ (s : Shared) (u v : Value), K.In s.heap → BindsTo s fd ⟨[], [(m, u), (n, v)]⟩ [(m, u), (n, v)] := by
  obtain ⟨oc, od, kV, doc, pm, an, cdv, ct, osl, rfl, lk, hcd⟩ := F.ex
  exact ⟨fun s u v _ => .of_eq (h0 kV doc pm an cdv ct u v), fun s u v _ => .of_eq (h1 kV doc pm an cdv ct u v)⟩
def tCallKR (sp : Sp) (rev : Bool) (tk : TA) : TE := fun σ H Q => tk σ H fun zs H2 => ∃ u v, zs = [u, v] ∧ sp (if rev then [v, u] else [u, v]) H2 Q E0
section
variable {X : Cx} {k : Nat} {x p1 p2 : Str} {sp : Sp} {kws : List Keyword} {tk : TA} {p pos : Pos}
theorem run_kr {f : Addr} {fd : FuncData} {pins : List (Addr × Obj)} {σ : L2.St} {H : Hp} {s : Shared} {Q : VK} {kw : List (Str × Value)} {us : List Value} {vs : List V} (F : FnOk X.prog X.w X.K X.mg X.base CX0 k f fd [p1, p2] sp) (hr : Room k X.A) (hb : BindsTo s fd ⟨[], kw⟩ ([p1, p2].zip us))
    (I : Inv X pins σ H s) (r : Vals vs us) (h : sp vs H Q E0) : wpAny (model X.prog X.w) X.A (call (.ref f) [] kw) (EP X pins σ Q) X.xe s := by
  refine wpAny_call (codeAny_mono (F.run X.A X.stack s H ⟨[], kw⟩ us vs Q E0 hr I.env0 hb r h) fun r s' hq => ?_)
  cases r with
  | error e => exact hq.elim
  | ok fl =>
    cases fl with
    | ret u => exact I.after hq
    | next => exact False.elim hq
    | brk => exact False.elim hq
    | cont => exact False.elim hq
theorem pe_KR (C : HasKR X.prog X.w X.K X.mg X.base k x p1 p2 sp) (rev : Bool) (hr : Room k X.A) (hg : Gl X x) (hkw : PK X kws tk)
    (hall : (backToKw pos (keywordEach kws X.env)).all (·.1.isSome) = true := by rfl) (hks : (backToKw pos (keywordEach kws X.env)).filterMap (·.1) = (if rev then [p2, p1] else [p1, p2]) := by rfl) (hdb : (x == ("__debug__" : Str)) = false := by decide)
    (hpl : ((backTo pos (starEach [] X.env)).any (·.1) || (backToKw pos (keywordEach kws X.env)).any (·.1.isNone)) = false := by rfl) : PE X (.Call (.Name x p) [] kws pos) (tCallKR sp rev tk) := by
  obtain ⟨f, fd, F, hk, hm, hb1, hb2⟩ := C.ex
  refine ⟨fun pins s σ H Q I h => ?_⟩
  refine wpAny_Call_Name_kw (ld_glob I hg hm ?_ hdb)
  refine PySem.W.callWith_KW0 (h₀ := X.base) I.ok.mod.kin hk hall (thn (hkw.run pos pins s σ H _ I h) fun ws s2 ⟨zs, H2, I2, rz, q2⟩ => ⟨I2.kIn, ?_⟩) hpl
  rw [hks]
  obtain ⟨u, v, rfl, q2⟩ := q2
  cases rz with
  | cons r1 rz =>
    cases rz with
    | cons r2 rz =>
      cases rz
      cases rev with
      | true => exact run_kr (us := [_, _]) F hr (hb1 s2 _ _ I2.kIn) I2 (.cons r2 (.cons r1 .nil)) q2
      | false => exact run_kr (us := [_, _]) F hr (hb2 s2 _ _ I2.kIn) I2 (.cons r1 (.cons r2 .nil)) q2
end
end Fb
namespace Fb
open PySem L2 NdefX PySem.Spec PyProof.Rows
/-! ### methods that raise -/
structure HasMX (P : Program) (w : World) (K : PySem.W.Frag) (mg : Str → Option Value) (base : Heap) (k : Nat) (m : Str) (C : Addr) (ps : List Str) (sp : Sp) : Prop where
  ex : ∃ f fd, Meth K C m f ∧ FnOk P w K mg base (L2.CX P w) k f fd ps sp ∧ Binds K fd ps []
def tMethS (C : Addr) (m : Str) (sp : Sp) (E : L2.St → XK) (ta : TE) : TE := fun σ H Q => ta σ H fun x H1 => ∃ a dx fs, x = .ref a ∧ H1 a = some (.ins C dx fs) ∧ fs.lookup m = none ∧ sp [x] H1 Q (E σ)
theorem pe_mx0 {X : Cx} {W : WX} {k : Nat} {m : Str} {C : Addr} {ps : List Str} {sp : Sp} {o : Expr} {ta : TE} {pos apos : Pos} {pl : Sem Bool} (c : Cls X.K C) (M : HasMX X.prog X.w X.K X.mg X.base k m C ps sp) (tk : Takes X W) (hr : Room k X.A) (he : PE X o ta)
    (ht : eval (.Call (.Attribute o m apos) [] [] pos) X.env = (do
      let ov ← eval o X.env
      standAt apos.atName
      let (f, first) ← holding [ov] (getMethod ov m pl)
      callWith pos f first (backTo pos (starEach [] X.env)) (backToKw pos (keywordEach [] X.env))) := by rfl) :
    PE X (.Call (.Attribute o m apos) [] [] pos) (tMethS C m sp (fun σ => WE W σ) ta) := by
  obtain ⟨f, fd, hm, F, hb⟩ := M.ex
  refine ⟨fun pins s σ H Q I h => ?_⟩
  refine PySem.W.methodCall_KW (pl := pl) (thn (he.run pins s σ H _ I h) fun u s1 ⟨x, H1, I1, rx, a, dx, fs, ex, ea, l, q⟩ => ?_) ht
  subst ex
  obtain rfl : u = Value.ref a := rx
  refine getmeth_ok I1 ea c hm l ?_
  exact PySem.W.callWith_K0 (first := [.ref a]) I1.kIn hm.kp (run_fnS (us := [.ref a]) (vs := [.ref a]) F hr hb (passAt tk σ) I1 (.cons rfl .nil) q)
end Fb
/-! ### methods with arguments, raising ones too -/
namespace Fb
open PySem L2 NdefX PySem.Spec PyProof.Rows
def tMethSA (C : Addr) (m : Str) (sp : Sp) (E : L2.St → XK) (ta : TE) (t : TA) : TE := fun σ H Q => ta σ H fun x H1 => ∃ a dx fs, x = .ref a ∧ H1 a = some (.ins C dx fs) ∧ fs.lookup m = none ∧ t σ H1 fun vs H2 => sp (x :: vs) H2 Q (E σ)
theorem pe_mxA {X : Cx} {W : WX} {k : Nat} {m : Str} {C : Addr} {ps : List Str} {sp : Sp} {o e : Expr} {es : List Expr} {ta : TE} {t : TA} {pos apos : Pos} {pl : Sem Bool} (c : Cls X.K C) (M : HasMX X.prog X.w X.K X.mg X.base k m C ps sp) (tk : Takes X W) (hr : Room k X.A) (he : PE X o ta) (ha : PA X (e :: es) t)
    (hst : starEach (e :: es) X.env = (false, eval e X.env) :: starEach es X.env := by rfl) (hpl : (backTo pos (starEach es X.env)).any (·.1) = false := by rfl)
    (ht : eval (.Call (.Attribute o m apos) (e :: es) [] pos) X.env = (do
      let ov ← eval o X.env
      standAt apos.atName
      let (f, first) ← holding [ov] (getMethod ov m pl)
      callWith pos f first (backTo pos (starEach (e :: es) X.env)) (backToKw pos (keywordEach [] X.env))) := by rfl) :
    PE X (.Call (.Attribute o m apos) (e :: es) [] pos) (tMethSA C m sp (fun σ => WE W σ) ta t) := by
  obtain ⟨f, fd, hm, F, hb⟩ := M.ex
  refine ⟨fun pins s σ H Q I h => ?_⟩
  refine PySem.W.methodCall_KW (pl := pl) (thn (he.run pins s σ H _ I h) fun u s1 ⟨x, H1, I1, rx, a, dx, fs, ex, ea, l, q⟩ => ?_) ht
  subst ex
  obtain rfl : u = Value.ref a := rx
  refine getmeth_ok I1 ea c hm l ?_
  refine PySem.W.callWith_K (first := [.ref a]) (h₀ := X.base) I.ok.mod.kin hm.kp (thn (ha.run pos pins s1 σ H1 _ I1 q) fun us s2 ⟨vs, H2, I2, r, q2⟩ => ⟨I2.kIn, ?_⟩) hst hpl
  exact run_fnS (us := .ref a :: us) (vs := .ref a :: vs) F hr hb (passAt tk σ) I2 (.cons rfl r) q2
/-- the same where nothing is raised -/
theorem pe_meA {X : Cx} {k : Nat} {m : Str} {C : Addr} {ps : List Str} {sp : Sp} {o e : Expr} {es : List Expr} {ta : TE} {t : TA} {pos apos : Pos} {pl : Sem Bool} (c : Cls X.K C) (M : HasMeth X.prog X.w X.K X.mg X.base k m C ps sp) (hr : Room k X.A) (he : PE X o ta) (ha : PA X (e :: es) t)
    (hst : starEach (e :: es) X.env = (false, eval e X.env) :: starEach es X.env := by rfl) (hpl : (backTo pos (starEach es X.env)).any (·.1) = false := by rfl)
    (ht : eval (.Call (.Attribute o m apos) (e :: es) [] pos) X.env = (do
      let ov ← eval o X.env
      standAt apos.atName
      let (f, first) ← holding [ov] (getMethod ov m pl)
      callWith pos f first (backTo pos (starEach (e :: es) X.env)) (backToKw pos (keywordEach [] X.env))) := by rfl) :
    PE X (.Call (.Attribute o m apos) (e :: es) [] pos) (tMeth C m sp [] E0 ta t) := by
  obtain ⟨f, fd, hm, F, hb⟩ := M.ex
  exact pe_meth (pl := pl) he c hm F hr hb .nil pass0 ha hst hpl ht
end Fb
namespace Fb
open PySem L2
def top (i : Nat) : Stmt := PySem.Challenge.pw_farbits_k61_integer_parts.main.body.getD i (.Pass ⟨0, 0, 0, 0⟩)
end Fb
namespace Fb
open PySem L2 NdefX PySem.NumText
/-- isinstance(a text, str) -/
theorem call_isiS {X : Cx} (K : PySem.W.Frag) (hK : X.K = K := by rfl) : CallR X (.builtin "isinstance") (fun xs H Q => ∃ x, xs = [.str x, .ty "str"] ∧ Q (.bl true) H) := fun pins s σ H xs us Q I r ⟨x, e, q⟩ => by
  subst hK
  exact call_isi pins s σ H xs us Q I r ⟨.str x, _, _, _, true, e, .ty _, .base (.str x), L2.kit_ty (by decide +kernel), q⟩
/-- the texts and tuples at the top that tokens are told by -/
structure ExpK (K : PySem.W.Frag) (mg : Str → Option Value) (T_LONG_SIGNS T_NO_NAMES T_SIGNS_AHEAD T_STRENGTHS_OF_LEVELS : Addr) : Prop where
  dig : ∃ t, mg "DIGITS" = some (.str "0123456789" t)
  let_ : ∃ t, mg "LETTERS" = some (.str "abcdefghijklmnopqrstuvwxyz" t)
  sho : ∃ t, mg "SHORT_SIGNS" = some (.str "|^&+-*~()<>" t)
  long : mg "LONG_SIGNS" = some (.ref T_LONG_SIGNS)
  longs : ∀ H, SqT K H T_LONG_SIGNS (cLONG.map fun c => V.str (txt c))
  no : mg "NO_NAMES" = some (.ref T_NO_NAMES)
  nos : ∀ H, SqT K H T_NO_NAMES (cNO.map fun c => V.str (txt c))
  ah : mg "SIGNS_AHEAD" = some (.ref T_SIGNS_AHEAD)
  ahs : ∀ H, SqT K H T_SIGNS_AHEAD ([[45], [43], [126]].map fun c => V.str (txt c))
  lv : mg "STRENGTHS_OF_LEVELS" = some (.ref T_STRENGTHS_OF_LEVELS)
  lvs : ∀ H, SqT K H T_STRENGTHS_OF_LEVELS [.int 0, .int 7, .int 8]
  ml : ∃ t, mg "MOST_LETTERS" = some (.int 8 t)
  md : ∃ t, mg "MOST_DIGITS" = some (.int 1000 t)
  mo : ∃ t, mg "MOST_LEVELS_OPEN" = some (.int 20 t)
  sp : ∃ t, mg "STRENGTH_OF_PARENTHESIS" = some (.int 0 t)
  ls : ∃ t, mg "LEAST_STRENGTH" = some (.int 1 t)
  sa : ∃ t, mg "STRENGTH_AHEAD" = some (.int 7 t)
  sw : ∃ t, mg "STRENGTH_OF_POWER" = some (.int 8 t)
  kA : ∃ t, mg "AHEAD" = some (.str "ahead" t)
  kN : ∃ t, mg "NAME" = some (.str "name" t)
  kU : ∃ t, mg "NUMBER" = some (.str "number" t)
  kB : ∃ t, mg "BETWEEN" = some (.str "between" t)
theorem at_ch {l : Chs} {i : Nat} {c : Nat} (h : l[i]? = some c) : atI l (i : Int) = some c := atI_nat h
theorem drop_at {l : Chs} {i : Nat} (h : i < l.length) : l.drop i = l[i] :: l.drop (i + 1) := List.drop_eq_getElem_cons h
theorem dig_mem (c : Nat) : decide (c ∈ ("0123456789" : Str).cps.toList) = isDig c := by
  have e : ("0123456789" : Str).cps.toList = [48, 49, 50, 51, 52, 53, 54, 55, 56, 57] := by decide +kernel
  rw [e]
  unfold isDig
  refine decide_eq_decide.mpr ?_
  simp only [List.mem_cons, List.not_mem_nil, or_false]
  omega
theorem let_mem (c : Nat) : decide (c ∈ ("abcdefghijklmnopqrstuvwxyz" : Str).cps.toList) = isLet c := by
  have e : ("abcdefghijklmnopqrstuvwxyz" : Str).cps.toList = [97, 98, 99, 100, 101, 102, 103, 104, 105, 106, 107, 108, 109, 110, 111, 112, 113, 114, 115, 116, 117, 118, 119, 120, 121, 122] := by decide +kernel
  rw [e]
  unfold isLet
  refine decide_eq_decide.mpr ?_
  simp only [List.mem_cons, List.not_mem_nil, or_false]
  omega
theorem sho_mem (c : Nat) : decide (c ∈ ("|^&+-*~()<>" : Str).cps.toList) = cSHORT.contains c := by
  have e : ("|^&+-*~()<>" : Str).cps.toList = cSHORT := by decide +kernel
  rw [e, List.contains_eq_mem]
theorem inV_txt (s : Chs) : ∀ l : List Chs, inV (.str (txt s)) (l.map fun c => V.str (txt c)) = l.contains s
  | [] => rfl
  | c :: l => by
    have ih := inV_txt s l
    show (eqV (.str (txt c)) (.str (txt s)) || inV (.str (txt s)) (l.map fun c => V.str (txt c))) = _
    rw [ih, List.contains_cons]
    congr 1
    show decide (txt c = txt s) = (s == c)
    by_cases h : s = c
    · subst h
      rw [decide_eq_true rfl]
      exact (beq_self_eq_true s).symm
    · rw [decide_eq_false (fun e => h (txt_inj.mp e).symm)]
      exact (beq_eq_false_iff_ne.mpr h).symm
theorem all_flat (l : List Chs) : (l.map fun c => V.str (txt c)).all flatV = true := by
  rw [List.all_map, List.all_eq_true]
  exact fun _ _ => rfl
theorem cutS_txt {l : Chs} {i j : Nat} (hi : i ≤ l.length) (hj : i ≤ j) : cutS (txt l) (some (i : Int)) (some (j : Int)) = txt ((l.drop i).take (j - i)) := by
  unfold cutS
  rw [txt_list, txt_len, HT.sIx_nat, HT.sIx_nat, Nat.min_eq_left hi]
  show txt _ = txt _
  rw [txt_inj]
  by_cases h : j ≤ l.length
  · rw [Nat.min_eq_left h]
  · rw [Nat.min_eq_right (by omega), List.take_of_length_le (by rw [List.length_drop]; omega), List.take_of_length_le (by rw [List.length_drop]; omega)]
section
variable {P : Program} {w : World} {K : PySem.W.Frag} {mg : Str → Option Value} {base : Heap} {f : Addr} {fd : FuncData} {T_LONG_SIGNS T_NO_NAMES T_SIGNS_AHEAD T_STRENGTHS_OF_LEVELS : Addr}
abbrev S_row_end : Stmt := top 10
abbrev N_row_end : List Str := ["text", "start", "letters", "end"]
abbrev P_row_end : List Str := ["text", "start", "letters"]
theorem sc_row_end : FnScope N_row_end P_row_end (defScope S_row_end) := ⟨rfl, rfl, rfl, by decide +kernel, rfl, by decide +kernel, by decide +kernel⟩
def spRowEnd : Sp := fun vs H Q _ => ∃ (l : Chs) (A : Str) (g : Nat → Bool) (i : Nat), vs = [.str (txt l), .int (i : Int), .str A] ∧ (∀ c, decide (c ∈ A.cps.toList) = g c) ∧ i ≤ l.length ∧ l.length ≤ 1000000 ∧ Q (.int ((i + runL g (l.drop i) : Nat) : Int)) H
theorem ok_rowend (F : Fun K "row_end" "row_end" S_row_end f fd) (B : Blt mg) : FnOk P w K mg base CX0 1 f fd P_row_end spRowEnd := by
  have nd := sc_row_end.nd
  refine F.ok sc_row_end (fun vs H Q E h => ?_) (fun cdv A outer s H vs Q E hr h => ?_)
  · obtain ⟨l, A, g, i, rfl, _⟩ := h
    rfl
  obtain ⟨l, A, g, i, rfl, hg, hi, hl, q⟩ := h
  refine ⟨_, (pss_cons (ps_set (i := 3) nd rfl (Or.inl rfl) (pv 1))
    (pss_cons (ps_while PassesOwn.never (PW.pt (pw_and (pt_cmpR op_lt (pv 3) (pe_callB call_len_str (by rfl) B.len PySem.boot_len (pa_cons (pv 0) pa_nil)) (nomark _)) (pw_and1 (pt_cmpR op_in_sign (pe_ix ix_str (pv 0) (pv 3) (fun _ _ => rfl)) (pv 2) (by rfl))))) (pss_one (ps_aug (i := 3) nd rfl (Or.inl rfl) pe_int ip_add)))
    (pss_one (ps_ret (pv 3))))), ?_⟩
  refine ⟨_, rfl, ?_⟩
  refine ⟨fun k σ H' => ∃ j : Nat, k = l.length - j ∧ σ = [some (.str (txt l)), some (.int (i : Int)), some (.str A), some (.int (j : Int))] ∧ H' = H ∧ i ≤ j ∧ j ≤ l.length ∧ i + runL g (l.drop i) = j + runL g (l.drop j), ⟨_, i, rfl, rfl, rfl, Nat.le_refl i, hi, rfl⟩, ?_⟩
  rintro k σ H' ⟨j, rfl, rfl, rfl, h1, h2, h3⟩
  refine ⟨_, rfl, _, rfl, _, rfl, (by rw [txt_len]; exact Nat.le_trans hl (by decide)), _, _, rfl, rfl, _, rfl, ?_⟩
  rw [txt_len]
  refine iteD (fun c => ?_) (fun c => ?_)
  · have hj : j < l.length := by omega
    refine ⟨_, rfl, _, rfl, txt l, _, l[j], rfl, rfl, Nat.le_trans hl (by decide), at_ch (List.getElem?_eq_getElem hj), _, rfl, l[j], A, rfl, rfl, _, rfl, ?_⟩
    rw [hg]
    have e := runL_cons g l[j] (l.drop (j + 1))
    rw [← drop_at hj] at e
    cases hc : g l[j] with
    | true =>
      rw [hc, if_pos rfl] at e
      refine ⟨fun σ H2 => σ = [some (.str (txt l)), some (.int (i : Int)), some (.str A), some (.int ((j + 1 : Nat) : Int))] ∧ H2 = H', ?_, ?_⟩
      · rintro σ H2 ⟨rfl, rfl⟩
        exact ⟨_, show l.length - (j + 1) < l.length - j by omega, j + 1, rfl, rfl, rfl, by omega, hj, by omega⟩
      · exact ⟨_, rfl, _, _, rfl, rfl, rfl, rfl⟩
    | false =>
      rw [hc] at e
      refine ⟨_, rfl, ?_⟩
      rw [h3, e] at q
      exact q
  · have hj : j = l.length := by omega
    subst hj
    refine ⟨_, rfl, ?_⟩
    rw [h3, List.drop_length] at q
    exact q
abbrev S_is_name : Stmt := top 9
abbrev N_is_name : List Str := ["value"]
abbrev P_is_name : List Str := ["value"]
theorem sc_is_name : FnScope N_is_name P_is_name (defScope S_is_name) := ⟨rfl, rfl, rfl, by decide +kernel, rfl, by decide +kernel, by decide +kernel⟩
def spIsNm : Sp := fun vs H Q _ => ∃ s : Chs, vs = [.str (txt s)] ∧ s.length ≤ 1000000 ∧ Q (.bl (isNm s)) H
theorem ok_isname (T : ExpK K mg T_LONG_SIGNS T_NO_NAMES T_SIGNS_AHEAD T_STRENGTHS_OF_LEVELS) (F : Fun K "is_name" "is_name" S_is_name f fd) (B : Blt mg) (Crow_end : Has P w K mg base 1 "row_end" P_row_end [] spRowEnd) : FnOk P w K mg base CX0 2 f fd P_is_name spIsNm := by
  have nd := sc_is_name.nd
  obtain ⟨_, MG_MOST_LETTERS⟩ := T.ml
  obtain ⟨_, MG_LETTERS⟩ := T.let_
  have MG_NO_NAMES := T.no
  refine F.ok sc_is_name (fun vs H Q E h => ?_) (fun cdv A outer s H vs Q E hr h => ?_)
  · obtain ⟨s, rfl, _⟩ := h
    rfl
  obtain ⟨l, rfl, hl, q⟩ := h
  refine ⟨_, (pss_cons (ps_if (PW.pt (pw_or (pt_not (pt_val (pe_callB (call_isiS K) (by rfl) B.isinstance (by decide +kernel) (pa_cons (pv 0) (pa_cons (pe_bltn (by rfl) B.str (by decide +kernel) (show RelV (.ty "str") (.type "str") from rfl)) pa_nil))))) (pw_or1 (pt_not (pt_chain op_le op_le pe_int (pe_callB call_len_str (by rfl) B.len PySem.boot_len (pa_cons (pv 0) pa_nil)) (pe_glob (v := .int 8) rfl MG_MOST_LETTERS ⟨_, rfl⟩)))))) (pss_one (ps_ret pe_bl)) pss_nil)
    (pss_one (ps_ret (pe_and (pe_cmpR op_notIn_seq (pv 0) (pe_glob (v := .ref T_NO_NAMES) rfl MG_NO_NAMES rfl) (by rfl)) (pe_one (pe_cmpR op_eq (pe_H Crow_end (hr.mono (by decide)) rfl (pa_cons (pv 0) (pa_cons pe_int (pa_cons (pe_glob (v := .str "abcdefghijklmnopqrstuvwxyz") rfl MG_LETTERS ⟨_, rfl⟩) pa_nil)))) (pe_callB call_len_str (by rfl) B.len PySem.boot_len (pa_cons (pv 0) pa_nil)) (nomark _))))))), ?_⟩
  have l1 : (txt l).length ≤ sizeLine := Nat.le_trans hl (by decide)
  have lt : (txt l).length = l.length := rfl
  refine ⟨_, rfl, _, rfl, _, rfl, iteF ?_⟩
  have qf : (isNm l = false) → Q (.bl false) H := fun e => by rw [e] at q; exact q
  refine ⟨_, rfl, _, rfl, l1, _, _, rfl, rfl, _, rfl, ?_⟩
  rw [lt]
  refine iteD (fun c => ?_) (fun c => ?_)
  · refine ⟨_, _, rfl, rfl, _, rfl, ?_⟩
    have c8 : decide (1 ≤ l.length ∧ l.length ≤ 8) = decide (l.length ≤ 8) := decide_eq_decide.mpr ⟨fun h => h.2, fun h => ⟨by omega, h⟩⟩
    refine iteDN (fun c2 => ?_) (fun c2 => ?_)
    · refine qf ?_
      unfold isNm
      rw [c8, decide_eq_false (fun h => c2 (by omega)), Bool.false_and, Bool.false_and]
    · refine ⟨_, rfl, T_NO_NAMES, _, rfl, .inr (T.nos _), rfl, all_flat _, _, rfl, ?_⟩
      have ei : isNm l = (!cNO.contains l && decide (runL isLet l = l.length)) := by
        unfold isNm
        rw [c8, decide_eq_true (show l.length ≤ 8 by omega), Bool.true_and]
      show if (!inV (.str (txt l)) (cNO.map fun c => V.str (txt c))) = true then _ else _
      rw [inV_txt]
      cases hc : cNO.contains l with
      | true =>
        rw [hc] at ei
        exact qf ei
      | false =>
        rw [hc] at ei
        refine ⟨_, rfl, l, _, isLet, 0, rfl, let_mem, Nat.zero_le _, hl, ?_⟩
        refine ⟨_, rfl, _, rfl, l1, rfl, ?_⟩
        rw [List.drop_zero, Nat.zero_add]
        rw [ei, Bool.not_false, Bool.true_and] at q
        have e2 : decide (V.int ((runL isLet l : Nat) : Int) = V.int ((txt l).length : Int)) = decide (runL isLet l = l.length) := by
          refine decide_eq_decide.mpr ⟨fun h => ?_, fun h => by rw [h, lt]⟩
          injection h with h
          rw [lt] at h
          omega
        rw [e2]
        exact q
  · refine ⟨_, rfl, iteT ?_⟩
    refine qf ?_
    unfold isNm
    rw [decide_eq_false (fun h => c (by omega)), Bool.false_and, Bool.false_and]
abbrev S_token_end : Stmt := top 30
abbrev N_token_end : List Str := ["text", "place", "first"]
abbrev P_token_end : List Str := ["text", "place"]
theorem sc_token_end : FnScope N_token_end P_token_end (defScope S_token_end) := ⟨rfl, rfl, rfl, by decide +kernel, rfl, by decide +kernel, by decide +kernel⟩
/-- what may be raised at a place of the text -/
def BadE (C : Addr) (E : XK) (H : Hp) (p : Nat) : Prop := ∀ (H' : Hp) (a : Addr), Same H H' → H' a = none → E (.ref C) (some a) (upd H' a (.xd [("place", .int (p : Int))]))
def onePl (vs : List V) : Prop := ∃ i : Nat, vs = [.int (i : Int)] ∧ i < 10 ^ 10
def spTokEnd (C : Addr) : Sp := fun vs H Q E => ∃ (l : Chs) (p : Nat), vs = [.str (txt l), .int (p : Int)] ∧ p < l.length ∧ l.length ≤ 1000000 ∧ (match tokL (l.drop p) with
  | some k => Q (.int ((p + k : Nat) : Int)) H
  | none => BadE C E H p)
theorem ok_tokend {C : Addr} (T : ExpK K mg T_LONG_SIGNS T_NO_NAMES T_SIGNS_AHEAD T_STRENGTHS_OF_LEVELS) (F : Fun K "token_end" "token_end" S_token_end f fd) (B : Blt mg) (Crow_end : Has P w K mg base 1 "row_end" P_row_end [] spRowEnd) (TB : Err P w K mg base "BadText" C ["place"] onePl) : FnOk P w K mg base (L2.CX P w) 4 f fd P_token_end (spTokEnd C) := by
  have nd := sc_token_end.nd
  obtain ⟨_, MG_DIGITS⟩ := T.dig
  obtain ⟨_, MG_LETTERS⟩ := T.let_
  obtain ⟨_, MG_SHORT_SIGNS⟩ := T.sho
  have MG_LONG_SIGNS := T.long
  refine F.okX sc_token_end (fun vs H Q E h => ?_) (fun cdv A outer s H vs Q E hr h => ?_)
  · obtain ⟨l, p, rfl, _⟩ := h
    rfl
  obtain ⟨l, p, rfl, hp, hl, q⟩ := h
  refine ⟨_, (pss_cons (ps_set (i := 2) nd rfl (Or.inl rfl) (pe_ix ix_str (pv 0) (pv 1) (fun _ _ => rfl)))
    (pss_cons (ps_if (pt_cmpR op_in_sign (pv 2) (pe_glob (v := .str "0123456789") rfl MG_DIGITS ⟨_, rfl⟩) (by rfl)) (pss_one (ps_ret (pe_H Crow_end (hr.mono (by decide)) rfl (pa_cons (pv 0) (pa_cons (pv 1) (pa_cons (pe_glob (v := .str "0123456789") rfl MG_DIGITS ⟨_, rfl⟩) pa_nil)))))) pss_nil)
    (pss_cons (ps_if (pt_cmpR op_in_sign (pv 2) (pe_glob (v := .str "abcdefghijklmnopqrstuvwxyz") rfl MG_LETTERS ⟨_, rfl⟩) (by rfl)) (pss_one (ps_ret (pe_H Crow_end (hr.mono (by decide)) rfl (pa_cons (pv 0) (pa_cons (pv 1) (pa_cons (pe_glob (v := .str "abcdefghijklmnopqrstuvwxyz") rfl MG_LETTERS ⟨_, rfl⟩) pa_nil)))))) pss_nil)
    (pss_cons (ps_if (pt_cmpR op_in_seq (pe_slice sl_str (pv 0) (po_some (pv 1)) (po_some (pe_op op_add (pv 1) pe_int))) (pe_glob (v := .ref T_LONG_SIGNS) rfl MG_LONG_SIGNS rfl) (by rfl)) (pss_one (ps_ret (pe_op op_add (pv 1) pe_int))) pss_nil)
    (pss_cons (ps_if (pt_cmpR op_in_sign (pv 2) (pe_glob (v := .str "|^&+-*~()<>") rfl MG_SHORT_SIGNS ⟨_, rfl⟩) (by rfl)) (pss_one (ps_ret (pe_op op_add (pv 1) pe_int))) pss_nil)
    (pss_one (ps_raise rfl (takes_of rfl rfl rfl rfl) (pmk_err TB (hr.mono (by decide)) rfl (pa_cons (pv 1) pa_nil))))))))), ?_⟩
  have l1 : (txt l).length ≤ sizeLine := Nat.le_trans hl (by decide)
  have ed := drop_at hp
  refine ⟨_, rfl, _, rfl, txt l, _, l[p], rfl, rfl, l1, at_ch (List.getElem?_eq_getElem hp), ?_⟩
  rw [ed, tokL_cons] at q
  refine ⟨_, rfl, l[p], _, rfl, rfl, _, rfl, ?_⟩
  rw [dig_mem]
  cases c1 : isDig l[p] with
  | true =>
    rw [c1, if_pos rfl, ← ed] at q
    refine iteT ?_
    exact ⟨_, rfl, _, rfl, l, _, isDig, p, rfl, dig_mem, by omega, hl, q⟩
  | false =>
  rw [c1, if_neg (by decide)] at q
  refine iteF ?_
  refine ⟨_, rfl, l[p], _, rfl, rfl, _, rfl, ?_⟩
  rw [let_mem]
  cases c2 : isLet l[p] with
  | true =>
    rw [c2, if_pos rfl, ← ed] at q
    refine iteT ?_
    exact ⟨_, rfl, _, rfl, l, _, isLet, p, rfl, let_mem, by omega, hl, q⟩
  | false =>
  rw [c2, if_neg (by decide)] at q
  refine iteF ?_
  refine ⟨_, rfl, _, rfl, _, rfl, _, rfl, _, _, rfl, rfl, _, rfl, txt l, rfl, l1, ?_⟩
  have ec : cutS (txt l) (some (p : Int)) (some ((p : Int) + 2)) = txt ((l[p] :: l.drop (p + 1)).take 2) := by
    rw [show (p : Int) + 2 = ((p + 2 : Nat) : Int) by omega, cutS_txt (by omega) (by omega), ← ed]
    congr 2
    omega
  refine ⟨T_LONG_SIGNS, _, rfl, .inr (T.longs _), rfl, all_flat _, _, rfl, ?_⟩
  show if inV (.str (cutS (txt l) (some (p : Int)) (some ((p : Int) + 2)))) (cLONG.map fun c => V.str (txt c)) = true then _ else _
  rw [ec, inV_txt]
  cases c3 : cLONG.contains ((l[p] :: l.drop (p + 1)).take 2) with
  | true =>
    rw [c3, if_pos rfl] at q
    refine iteT ?_
    exact ⟨_, rfl, _, _, rfl, rfl, q⟩
  | false =>
  rw [c3, if_neg (by decide)] at q
  refine iteF ?_
  refine ⟨_, rfl, l[p], _, rfl, rfl, _, rfl, ?_⟩
  rw [sho_mem]
  cases c4 : cSHORT.contains l[p] with
  | true =>
    rw [c4, if_pos rfl] at q
    refine iteT ?_
    exact ⟨_, rfl, _, _, rfl, rfl, q⟩
  | false =>
    rw [c4, if_neg (by decide)] at q
    refine iteF ?_
    exact ⟨_, rfl, err_mk rfl (by decide) ⟨p, rfl, by omega⟩ fun d hd => q H d (Same.refl H) hd⟩
end
end Fb
namespace Fb
open PySem L2 NdefX PySem.NumText
/-! ### the reader as an object -/
/-- all but three objects stay -/
structure Mu (x a b : Addr) (H H' : Hp) : Prop where
  k : ∀ c o, c ≠ x → c ≠ a → c ≠ b → H c = some o → H' c = some o
  f : ∀ c, H' c = none → H c = none
theorem Mu.refl {x a b : Addr} {H : Hp} : Mu x a b H H := ⟨fun _ _ _ _ _ h => h, fun _ h => h⟩
theorem Mu.trans {x a b : Addr} {H H1 H2 : Hp} (h : Mu x a b H H1) (g : Mu x a b H1 H2) : Mu x a b H H2 := ⟨fun c o n1 n2 n3 e => g.k c o n1 n2 n3 (h.k c o n1 n2 n3 e), fun c e => h.f c (g.f c e)⟩
theorem Mu.of {x a b : Addr} {H H' : Hp} (e : Same H H') : Mu x a b H H' := ⟨fun c o _ _ _ h => e c o h, fun _ h => e.free h⟩
theorem Mu.set {x a b c : Addr} {H : Hp} {o o' : HO} (h : H c = some o') (hc : c = x ∨ c = a ∨ c = b) : Mu x a b H (upd H c o) := by
  refine ⟨fun d u n1 n2 n3 e => ?_, fun d e => ?_⟩
  · have : d ≠ c := by rcases hc with rfl | rfl | rfl <;> assumption
    rw [upd_ne this]
    exact e
  · by_cases z : d = c
    · subst z
      rw [upd_same] at e
      cases e
    · rw [upd_ne z] at e
      exact e
/-- a step, and what waits -/
def StV (K : PySem.W.Frag) (H : Hp) (v : V) (s : Stp) : Prop := ∃ a, v = .ref a ∧ SqT K H a [.str s.k, s.w, .int (s.p : Int)]
def PdV (K : PySem.W.Frag) (H : Hp) (v : V) : Pd → Prop
  | .par => ∃ a, v = .ref a ∧ SqT K H a [.int 0, .non]
  | .op k s => ∃ a u, v = .ref a ∧ SqT K H a [.int (k : Int), u] ∧ StV K H u s ∧ 1 ≤ k
/-- tuples stay -/
def Tps (K : PySem.W.Frag) (H H' : Hp) : Prop := ∀ a xs, SqT K H a xs → SqT K H' a xs
theorem StV.tps {K : PySem.W.Frag} {H H' : Hp} (e : Tps K H H') {v : V} {s : Stp} (h : StV K H v s) : StV K H' v s := by
  obtain ⟨a, h1, h2⟩ := h
  exact ⟨a, h1, e _ _ h2⟩
theorem PdV.tps {K : PySem.W.Frag} {H H' : Hp} (e : Tps K H H') {v : V} : ∀ {d : Pd}, PdV K H v d → PdV K H' v d
  | .par, h => by
    obtain ⟨a, h1, h2⟩ := h
    exact ⟨a, h1, e _ _ h2⟩
  | .op k s, h => by
    obtain ⟨a, u, h1, h2, h3, h4⟩ := h
    exact ⟨a, u, h1, e _ _ h2, h3.tps e, h4⟩
def rdF (l : Chs) (p : Nat) (sl ql : Addr) (lv o : Nat) : List (Str × V) := [("text", .str (txt l)), ("place", .int (p : Int)), ("steps", .ref sl), ("pending", .ref ql), ("levels", .int (lv : Int)), ("opened", .int (o : Int))]
structure RdO (K : PySem.W.Frag) (C : Addr) (H : Hp) (x sl ql : Addr) (l : Chs) (p lv o : Nat) (S : List Stp) (P : List Pd) : Prop where
  i : ∃ dx, H x = some (.ins C dx (rdF l p sl ql lv o))
  s : ∃ vs, H sl = some (.lst vs) ∧ Bes (StV K H) vs S
  q : ∃ ws, H ql = some (.lst ws) ∧ Bes (PdV K H) ws P.reverse
  n : sl ≠ ql
  b : S.length + P.length ≤ p + 1
  lp : p ≤ l.length
  ll : l.length ≤ 1000000
theorem put_place (l : Chs) (p p' : Nat) (sl ql : Addr) (lv o : Nat) : putF "place" (.int (p' : Int)) (rdF l p sl ql lv o) = rdF l p' sl ql lv o := rfl
theorem put_levels (l : Chs) (p lv' : Nat) (sl ql : Addr) (lv o : Nat) : putF "levels" (.int (lv' : Int)) (rdF l p sl ql lv o) = rdF l p sl ql lv' o := rfl
theorem put_opened (l : Chs) (p o' : Nat) (sl ql : Addr) (lv o : Nat) : putF "opened" (.int (o' : Int)) (rdF l p sl ql lv o) = rdF l p sl ql lv o' := rfl
section
variable {K : PySem.W.Frag} {C x sl ql : Addr} {H H' : Hp} {l : Chs} {p lv o : Nat} {S : List Stp} {P : List Pd}
theorem RdO.ne (h : RdO K C H x sl ql l p lv o S P) : x ≠ sl ∧ x ≠ ql := by
  obtain ⟨_, e⟩ := h.i
  obtain ⟨_, e1, _⟩ := h.s
  obtain ⟨_, e2, _⟩ := h.q
  constructor
  · intro z; rw [z, e1] at e; cases e
  · intro z; rw [z, e2] at e; cases e
/-- a tuple is none of the three -/
theorem RdO.tps (h : RdO K C H x sl ql l p lv o S P) (m : Mu x sl ql H H') : Tps K H H' := fun a xs g => by
  obtain ⟨_, e⟩ := h.i
  obtain ⟨_, e1, _⟩ := h.s
  obtain ⟨_, e2, _⟩ := h.q
  have key : ∀ u, H a = some u → (∀ y z w, u ≠ .ins y z w) → (∀ y, u ≠ .lst y) → H' a = some u := fun u hu n1 n2 => m.k a u (by rintro rfl; rw [e] at hu; injection hu with hu; exact n1 _ _ _ hu.symm) (by rintro rfl; rw [e1] at hu; injection hu with hu; exact n2 _ hu.symm) (by rintro rfl; rw [e2] at hu; injection hu with hu; exact n2 _ hu.symm) hu
  rcases g with (g | ⟨w, g⟩) | g
  · exact .inl (.inl (key _ g (fun _ _ _ z => by cases z) fun _ z => by cases z))
  · exact .inl (.inr ⟨w, key _ g (fun _ _ _ z => by cases z) fun _ z => by cases z⟩)
  · exact .inr g
theorem RdO.same (h : RdO K C H x sl ql l p lv o S P) (e : Same H H') : RdO K C H' x sl ql l p lv o S P := by
  have t := h.tps (Mu.of e)
  obtain ⟨dx, h1⟩ := h.i
  obtain ⟨vs, h2, h3⟩ := h.s
  obtain ⟨ws, h4, h5⟩ := h.q
  exact ⟨⟨dx, e _ _ h1⟩, ⟨vs, e _ _ h2, h3.mono fun _ _ g => g.tps t⟩, ⟨ws, e _ _ h4, h5.mono fun _ _ g => g.tps t⟩, h.n, h.b, h.lp, h.ll⟩
/-- another place, or other counts -/
theorem RdO.set (h : RdO K C H x sl ql l p lv o S P) {dx : Addr} {p' lv' o' : Nat} (hp : S.length + P.length ≤ p' + 1) (hl : p' ≤ l.length) : RdO K C (upd H x (.ins C dx (rdF l p' sl ql lv' o'))) x sl ql l p' lv' o' S P ∧ Mu x sl ql H (upd H x (.ins C dx (rdF l p' sl ql lv' o'))) := by
  obtain ⟨n1, n2⟩ := h.ne
  obtain ⟨dy, h1⟩ := h.i
  have m : Mu x sl ql H (upd H x (.ins C dx (rdF l p' sl ql lv' o'))) := Mu.set h1 (.inl rfl)
  have t := h.tps m
  obtain ⟨vs, h2, h3⟩ := h.s
  obtain ⟨ws, h4, h5⟩ := h.q
  exact ⟨⟨⟨_, upd_same⟩, ⟨vs, by rw [upd_ne n1.symm]; exact h2, h3.mono fun _ _ g => g.tps t⟩, ⟨ws, by rw [upd_ne n2.symm]; exact h4, h5.mono fun _ _ g => g.tps t⟩, h.n, hp, hl, h.ll⟩, m⟩
/-- other steps -/
theorem RdO.steps (h : RdO K C H x sl ql l p lv o S P) {us : List V} {S' : List Stp} (r : Bes (StV K H) us S') (hp : S'.length + P.length ≤ p + 1) : RdO K C (upd H sl (.lst us)) x sl ql l p lv o S' P ∧ Mu x sl ql H (upd H sl (.lst us)) := by
  obtain ⟨n1, n2⟩ := h.ne
  obtain ⟨dy, h1⟩ := h.i
  obtain ⟨vs, h2, h3⟩ := h.s
  obtain ⟨ws, h4, h5⟩ := h.q
  have m : Mu x sl ql H (upd H sl (.lst us)) := Mu.set h2 (.inr (.inl rfl))
  have t := h.tps m
  exact ⟨⟨⟨dy, by rw [upd_ne n1]; exact h1⟩, ⟨us, upd_same, r.mono fun _ _ g => g.tps t⟩, ⟨ws, by rw [upd_ne h.n.symm]; exact h4, h5.mono fun _ _ g => g.tps t⟩, h.n, hp, h.lp, h.ll⟩, m⟩
/-- something else waits -/
theorem RdO.pends (h : RdO K C H x sl ql l p lv o S P) {us : List V} {P' : List Pd} (r : Bes (PdV K H) us P'.reverse) (hp : S.length + P'.length ≤ p + 1) : RdO K C (upd H ql (.lst us)) x sl ql l p lv o S P' ∧ Mu x sl ql H (upd H ql (.lst us)) := by
  obtain ⟨n1, n2⟩ := h.ne
  obtain ⟨dy, h1⟩ := h.i
  obtain ⟨vs, h2, h3⟩ := h.s
  obtain ⟨ws, h4, h5⟩ := h.q
  have m : Mu x sl ql H (upd H ql (.lst us)) := Mu.set h4 (.inr (.inr rfl))
  have t := h.tps m
  exact ⟨⟨⟨dy, by rw [upd_ne n2]; exact h1⟩, ⟨vs, by rw [upd_ne h.n]; exact h2, h3.mono fun _ _ g => g.tps t⟩, ⟨us, upd_same, r.mono fun _ _ g => g.tps t⟩, h.n, hp, h.lp, h.ll⟩, m⟩
end
/-- what is asked of the class -/
structure ReK (K : PySem.W.Frag) (C : Addr) : Prop where
  cl : Cls K C
  text : NoAttr K C "text"
  place : NoAttr K C "place"
  steps : NoAttr K C "steps"
  pend : NoAttr K C "pending"
  lv : NoAttr K C "levels"
  op : NoAttr K C "opened"
/-- a refusal of the text -/
def BadM (C : Addr) (E : XK) (x sl ql : Addr) (H : Hp) (p : Nat) : Prop := ∀ (H' : Hp) (a : Addr), Mu x sl ql H H' → H' a = none → E (.ref C) (some a) (upd H' a (.xd [("place", .int (p : Int))]))
theorem BadM.from {C : Addr} {E : XK} {x sl ql : Addr} {H H1 : Hp} {p : Nat} (h : BadM C E x sl ql H p) (m : Mu x sl ql H H1) : BadM C E x sl ql H1 p := fun H' a m' ha => h H' a (m.trans m') ha
section
variable {P : Program} {w : World} {K : PySem.W.Frag} {mg : Str → Option Value} {base : Heap} {f : Addr} {fd : FuncData} {T_LONG_SIGNS T_NO_NAMES T_SIGNS_AHEAD T_STRENGTHS_OF_LEVELS C_Reader C_BadText : Addr}
abbrev S_Reader_skip : Stmt := inClass (top 31) 2
abbrev N_Reader_skip : List Str := ["self", "token"]
abbrev P_Reader_skip : List Str := ["self", "token"]
theorem sc_Reader_skip : FnScope N_Reader_skip P_Reader_skip (defScope S_Reader_skip) := ⟨rfl, rfl, rfl, by decide +kernel, rfl, by decide +kernel, by decide +kernel⟩
def spSkip (K : PySem.W.Frag) (C : Addr) : Sp := fun vs H Q _ => ∃ (x sl ql : Addr) (l s : Chs) (p lv o : Nat) (S : List Stp) (P : List Pd), vs = [.ref x, .str (txt s)] ∧ RdO K C H x sl ql l p lv o S P ∧ p + s.length ≤ l.length ∧ ∀ H', Mu x sl ql H H' → RdO K C H' x sl ql l (p + s.length) lv o S P → Q .non H'
theorem ok_skip (R : ReK K C_Reader) (F : Fun K "skip" "Reader.skip" S_Reader_skip f fd) (B : Blt mg) : FnOk P w K mg base CX0 1 f fd P_Reader_skip (spSkip K C_Reader) := by
  have nd := sc_Reader_skip.nd
  refine F.ok sc_Reader_skip (fun vs H Q E h => ?_) (fun cdv A outer s H vs Q E hr h => ?_)
  · obtain ⟨x, sl, ql, l, s, p, lv, o, S, P, rfl, _⟩ := h
    rfl
  obtain ⟨x, sl, ql, l, s, p, lv, o, S, P, rfl, r, hs, q⟩ := h
  refine ⟨_, (pss_one (ps_fld (pv 0) (pe_op op_add (pe_fld (pv 0) rfl) (pe_callB call_len_str (by rfl) B.len PySem.boot_len (pa_cons (pv 1) pa_nil))) rfl)), ?_⟩
  obtain ⟨dx, h1⟩ := r.i
  refine ⟨_, rfl, x, C_Reader, dx, _, _, rfl, h1, R.cl, R.place, rfl, _, rfl, _, rfl, ?_, _, _, rfl, rfl, _, rfl, x, C_Reader, dx, _, rfl, h1, R.cl, R.place, by show 6 < 1000; decide, ?_⟩
  · rw [txt_len]; have := r.ll; exact Nat.le_trans (show _ ≤ 1000000 by omega) (by decide)
  · obtain ⟨r2, m⟩ := r.set (dx := dx) (p' := p + s.length) (lv' := lv) (o' := o) (by have := r.b; omega) hs
    have := q _ m r2
    exact this
abbrev S_Reader_peek : Stmt := inClass (top 31) 1
abbrev N_Reader_peek : List Str := ["self"]
abbrev P_Reader_peek : List Str := ["self"]
theorem sc_Reader_peek : FnScope N_Reader_peek P_Reader_peek (defScope S_Reader_peek) := ⟨rfl, rfl, rfl, by decide +kernel, rfl, by decide +kernel, by decide +kernel⟩
def spPeek (K : PySem.W.Frag) (C CB : Addr) : Sp := fun vs H Q E => ∃ (x sl ql : Addr) (l : Chs) (p lv o : Nat) (S : List Stp) (P : List Pd) (t : Tk) (ts : List Tk), vs = [.ref x] ∧ RdO K C H x sl ql l p lv o S P ∧ lex (l.drop p) p = t :: ts ∧
  match t with
  | .bad q => BadM CB E x sl ql H q
  | .tok s q => ∀ H', Mu x sl ql H H' → RdO K C H' x sl ql l q lv o S P → p ≤ q → lex (l.drop (q + s.length)) (q + s.length) = ts → 1 ≤ s.length → q + s.length ≤ l.length → (l.drop q).take s.length = s → tokL (l.drop q) = some s.length → Q (.str (txt s)) H'
  | .fin q => ∀ H', Mu x sl ql H H' → RdO K C H' x sl ql l q lv o S P → p ≤ q → q = l.length → Q (.str (txt [])) H'
theorem ok_peek (R : ReK K C_Reader) (F : Fun K "peek" "Reader.peek" S_Reader_peek f fd) (B : Blt mg) (Ctoken_end : HasX P w K mg base 4 "token_end" P_token_end (spTokEnd C_BadText)) : FnOk P w K mg base (L2.CX P w) 5 f fd P_Reader_peek (spPeek K C_Reader C_BadText) := by
  have nd := sc_Reader_peek.nd
  refine F.okX sc_Reader_peek (fun vs H Q E h => ?_) (fun cdv A outer s H vs Q E hr h => ?_)
  · obtain ⟨x, sl, ql, l, p, lv, o, S, P, t, ts, rfl, _⟩ := h
    rfl
  obtain ⟨x, sl, ql, l, p, lv, o, S, P, t, ts, rfl, r, ht, q⟩ := h
  refine ⟨_, (C8.pss_cut (ps_while (passes_of rfl) (PW.pt (pw_and (pt_cmpR op_lt (pe_fld (pv 0) rfl) (pe_callB call_len_str (by rfl) B.len PySem.boot_len (pa_cons (pe_fld (pv 0) rfl) pa_nil)) (nomark _)) (pw_and1 (pt_cmpR op_eq (pe_ix ix_str (pe_fld (pv 0) rfl) (pe_fld (pv 0) rfl) (fun _ _ => rfl)) pe_str (nomark _))))) (pss_one (ps_fldaug (pv 0) pe_int in_add)))
    (pss_cons (ps_if (pt_cmpR op_eq (pe_fld (pv 0) rfl) (pe_callB call_len_str (by rfl) B.len PySem.boot_len (pa_cons (pe_fld (pv 0) rfl) pa_nil)) (nomark _)) (pss_one (ps_ret pe_str)) pss_nil)
    (pss_one (ps_ret (pe_slice sl_str (pe_fld (pv 0) rfl) (po_some (pe_fld (pv 0) rfl)) (po_some (pe_HX Ctoken_end (takes_of rfl rfl rfl rfl) (hr.mono (by decide)) rfl (pa_cons (pe_fld (pv 0) rfl) (pa_cons (pe_fld (pv 0) rfl) pa_nil))))))))), ?_⟩
  have lt : (txt l).length = l.length := rfl
  have l1 : (txt l).length ≤ sizeLine := by have := r.ll; exact Nat.le_trans (show _ ≤ 1000000 by omega) (by decide)
  have en := runL_le isBl (l.drop p)
  rw [List.length_drop] at en
  refine ⟨fun σ H' => ∃ j : Nat, σ = [some (.ref x)] ∧ Mu x sl ql H H' ∧ RdO K C_Reader H' x sl ql l j lv o S P ∧ p ≤ j ∧ j = p + runL isBl (l.drop p), ?_, ?_⟩
  · refine ⟨fun k σ H' => ∃ j : Nat, k = l.length - j ∧ σ = [some (.ref x)] ∧ Mu x sl ql H H' ∧ RdO K C_Reader H' x sl ql l j lv o S P ∧ p ≤ j ∧ j + runL isBl (l.drop j) = p + runL isBl (l.drop p), ⟨_, p, rfl, rfl, Mu.refl, r, Nat.le_refl p, rfl⟩, ?_⟩
    rintro k σ H' ⟨j, rfl, rfl, m, r, h1, h2⟩
    obtain ⟨dx, hx⟩ := r.i
    have hj := r.lp
    refine ⟨_, rfl, x, C_Reader, dx, _, _, rfl, hx, R.cl, R.place, rfl, _, rfl, x, C_Reader, dx, _, _, rfl, hx, R.cl, R.text, rfl, txt l, rfl, l1, _, _, rfl, rfl, _, rfl, ?_⟩
    rw [lt]
    refine iteD (fun c => ?_) (fun c => ?_)
    · have hl : j < l.length := by omega
      have ed := drop_at hl
      refine ⟨_, rfl, x, C_Reader, dx, _, _, rfl, hx, R.cl, R.text, rfl, _, rfl, x, C_Reader, dx, _, _, rfl, hx, R.cl, R.place, rfl, txt l, _, l[j], rfl, rfl, l1, at_ch (List.getElem?_eq_getElem hl), rfl, _, rfl, ?_⟩
      have e32 : (V.str ⟨#[l[j]]⟩ = V.str " ") ↔ l[j] = 32 := by
        have e0 : (" " : Str) = ⟨#[32]⟩ := by decide +kernel
        rw [e0]
        constructor
        · intro h
          injection h with h
          injection h with h
          simpa using h
        · intro h; rw [h]
      refine iteD (fun c => ?_) (fun c => ?_)
      · have hb : isBl l[j] = true := by rw [e32.mp c]; rfl
        have e1 := runL_cons isBl l[j] (l.drop (j + 1))
        rw [← ed, if_pos hb] at e1
        refine ⟨fun σ H2 => σ = [some (.ref x)] ∧ Mu x sl ql H H2 ∧ RdO K C_Reader H2 x sl ql l (j + 1) lv o S P, ?_, ?_⟩
        · rintro σ H2 ⟨rfl, m2, r2⟩
          exact ⟨_, show l.length - (j + 1) < l.length - j by omega, j + 1, rfl, rfl, m2, r2, by omega, by omega⟩
        · obtain ⟨r2, m2⟩ := r.set (dx := dx) (p' := j + 1) (lv' := lv) (o' := o) (by have := r.b; omega) hl
          exact ⟨_, rfl, x, C_Reader, dx, _, _, rfl, hx, R.cl, R.place, rfl, _, _, rfl, rfl, dx, _, hx, by show 6 < 1000; decide, rfl, m.trans m2, r2⟩
      · have hb : ¬ isBl l[j] = true := fun z => c (e32.mpr (beq_iff_eq.mp z))
        have e1 := runL_cons isBl l[j] (l.drop (j + 1))
        rw [← ed, if_neg hb] at e1
        exact ⟨j, rfl, m, r, h1, by omega⟩
    · have e1 : l.drop j = [] := List.drop_of_length_le (by omega)
      rw [e1, runL_nil] at h2
      exact ⟨j, rfl, m, r, h1, by omega⟩
  rintro σ H' ⟨j, rfl, m, r, h1, h2⟩
  obtain ⟨dx, hx⟩ := r.i
  have hj := r.lp
  have ej : (l.drop p).drop (runL isBl (l.drop p)) = l.drop j := by rw [List.drop_drop, h2]
  have hb : runL isBl (l.drop j) = 0 := by rw [← ej]; exact runL_bl_drop _
  have hx2 : lex (l.drop j) j = t :: ts := by
    have := lex_bl (l.drop p) p
    rw [ej, ← h2] at this
    rw [this, ht]
  rw [lex_eq, hb, List.drop_zero, Nat.add_zero] at hx2
  refine ⟨_, rfl, x, C_Reader, dx, _, _, rfl, hx, R.cl, R.place, rfl, _, rfl, x, C_Reader, dx, _, _, rfl, hx, R.cl, R.text, rfl, txt l, rfl, l1, rfl, _, rfl, ?_⟩
  rw [lt]
  refine iteD (fun c => ?_) (fun c => ?_)
  · have el : j = l.length := by injection c with c; omega
    have e1 : l.drop j = [] := List.drop_of_length_le (by omega)
    rw [e1] at hx2
    have hx3 : [Tk.fin j] = t :: ts := hx2
    injection hx3 with e2 e3
    subst e2
    exact q H' m r h1 el
  · have hl : j < l.length := by
      rcases Nat.lt_or_eq_of_le hj with h | h
      · exact h
      · exact absurd (by rw [h]) c
    refine ⟨_, rfl, x, C_Reader, dx, _, _, rfl, hx, R.cl, R.text, rfl, _, rfl, x, C_Reader, dx, _, _, rfl, hx, R.cl, R.place, rfl, _, rfl, ?_⟩
    refine ⟨_, rfl, x, C_Reader, dx, _, _, rfl, hx, R.cl, R.text, rfl, _, rfl, x, C_Reader, dx, _, _, rfl, hx, R.cl, R.place, rfl, l, j, rfl, hl, r.ll, ?_⟩
    have ne : l.drop j ≠ [] := by rw [drop_at hl]; exact List.cons_ne_nil _ _
    cases e : tokL (l.drop j) with
    | none =>
      rw [e] at hx2
      dsimp only at hx2
      rw [if_neg ne] at hx2
      injection hx2 with e2 e3
      subst e2
      exact fun H2 a e ha => q H2 a (m.trans (Mu.of e)) ha
    | some k =>
      rw [e] at hx2
      injection hx2 with e2 e3
      subst e2
      obtain ⟨k1, k2⟩ := tokL_pos e
      rw [List.length_drop] at k2
      have lk : ((l.drop j).take k).length = k := by rw [List.length_take, List.length_drop]; omega
      have q := q H' m r h1 (by rw [lk, ← e3, List.drop_drop]) (by rw [lk]; exact k1) (by rw [lk]; omega) (by rw [lk]) (by rw [lk]; exact e)
      refine ⟨_, rfl, txt l, rfl, l1, ?_⟩
      rw [cutS_txt hj (by omega), show j + k - j = k by omega]
      exact q
/-- what waits, as it is handed over -/
def PdW (K : PySem.W.Frag) (H : Hp) (v : V) : Pd → Prop
  | .par => v = .non
  | .op k s => StV K H v s ∧ 1 ≤ k
theorem PdW.tps {H H' : Hp} (e : Tps K H H') {v : V} : ∀ {d : Pd}, PdW K H v d → PdW K H' v d
  | .par, h => h
  | .op _ _, h => ⟨h.1.tps e, h.2⟩
theorem same_tps {H H' : Hp} (e : Same H H') : Tps K H H' := fun _ _ h => (Nd.of e).sqt h
theorem pd_make {H : Hp} {a : Addr} {v : V} : ∀ {d : Pd}, H a = some (.tup [.int (d.str : Int), v]) → PdW K H v d → PdV K H (.ref a) d
  | .par, h, g => by
    obtain rfl : v = .non := g
    exact ⟨a, rfl, SqT.of h⟩
  | .op k s, h, g => ⟨a, v, rfl, SqT.of h, g.1, g.2⟩
theorem pd_open {H : Hp} {v : V} : ∀ {d : Pd}, PdV K H v d → ∃ a u, v = .ref a ∧ SqT K H a [.int (d.str : Int), u] ∧ PdW K H u d
  | .par, h => by
    obtain ⟨a, h1, h2⟩ := h
    exact ⟨a, .non, h1, h2, rfl⟩
  | .op k s, h => by
    obtain ⟨a, u, h1, h2, h3, h4⟩ := h
    exact ⟨a, u, h1, h2, h3, h4⟩
theorem lvl_cons (d : Pd) (P : List Pd) : lvl (d :: P) = lvl P + if isLv d then 1 else 0 := by
  unfold lvl
  rw [List.countP_cons]
theorem opn_cons (d : Pd) (P : List Pd) : opn (d :: P) = opn P + if isPar d then 1 else 0 := by
  unfold opn
  rw [List.countP_cons]
abbrev S_Reader_open_level : Stmt := inClass (top 31) 6
abbrev N_Reader_open_level : List Str := ["self", "strength", "step"]
abbrev P_Reader_open_level : List Str := ["self", "strength", "step"]
theorem sc_Reader_open_level : FnScope N_Reader_open_level P_Reader_open_level (defScope S_Reader_open_level) := ⟨rfl, rfl, rfl, by decide +kernel, rfl, by decide +kernel, by decide +kernel⟩
def spOpen (K : PySem.W.Frag) (C CB : Addr) : Sp := fun vs H Q E => ∃ (x sl ql : Addr) (l : Chs) (p lv o : Nat) (S : List Stp) (P : List Pd) (d : Pd) (v : V), vs = [.ref x, .int (d.str : Int), v] ∧ RdO K C H x sl ql l p lv o S P ∧ S.length + P.length ≤ p ∧ p < l.length ∧ PdW K H v d ∧
  (lv = 20 → BadM CB E x sl ql H p) ∧ (lv ≠ 20 → ∀ H', Mu x sl ql H H' → RdO K C H' x sl ql l p (lv + 1) o S (d :: P) → Q .non H')
theorem ok_openlv (T : ExpK K mg T_LONG_SIGNS T_NO_NAMES T_SIGNS_AHEAD T_STRENGTHS_OF_LEVELS) (R : ReK K C_Reader) (F : Fun K "open_level" "Reader.open_level" S_Reader_open_level f fd) (B : Blt mg) (TB : Err P w K mg base "BadText" C_BadText ["place"] onePl) : FnOk P w K mg base (L2.CX P w) 4 f fd P_Reader_open_level (spOpen K C_Reader C_BadText) := by
  have nd := sc_Reader_open_level.nd
  obtain ⟨_, MG_MOST_LEVELS_OPEN⟩ := T.mo
  refine F.okX sc_Reader_open_level (fun vs H Q E h => ?_) (fun cdv A outer s H vs Q E hr h => ?_)
  · obtain ⟨x, sl, ql, l, p, lv, o, S, P, d, v, rfl, _⟩ := h
    rfl
  obtain ⟨x, sl, ql, l, p, lv, o, S, P, d, v, rfl, r, hb, hp, hv, q1, q2⟩ := h
  refine ⟨_, (C8.pss_cut (ps_if (pt_cmpR op_eq (pe_fld (pv 0) rfl) (pe_glob (v := .int 20) rfl MG_MOST_LEVELS_OPEN ⟨_, rfl⟩) (nomark _)) (pss_one (ps_raise rfl (takes_of rfl rfl rfl rfl) (pmk_err TB (hr.mono (by decide)) rfl (pa_cons (pe_fld (pv 0) rfl) pa_nil)))) pss_nil)
    (pss_cons (ps_fldaug (pv 0) pe_int in_add)
    (pss_one (ps_expr (pe_bm PySem.F.plainAttrs_list PySem.F.slot_list_append PySem.F.type_list_append mt_append (pe_fld (pv 0) rfl) (pa_cons (pe_tup (pa_cons (pv 1) (pa_cons (pv 2) pa_nil))) pa_nil)))))), ?_⟩
  obtain ⟨dx, hx⟩ := r.i
  have ll := r.ll
  refine ⟨fun σ H' => σ = [some (.ref x), some (.int (d.str : Int)), some v] ∧ H' = H ∧ lv ≠ 20, ?_, ?_⟩
  · refine ⟨_, rfl, x, C_Reader, dx, _, _, rfl, hx, R.cl, R.lv, rfl, rfl, _, rfl, ?_⟩
    refine iteD (fun c => ?_) (fun c => ?_)
    · have e : lv = 20 := by injection c with c; omega
      exact ⟨_, rfl, x, C_Reader, dx, _, _, rfl, hx, R.cl, R.place, rfl, err_mk rfl (by decide) ⟨p, rfl, by omega⟩ fun dd hd => q1 e H dd Mu.refl hd⟩
    · exact ⟨rfl, rfl, fun e => c (by rw [e]; rfl)⟩
  rintro σ H' ⟨rfl, rfl, ne⟩
  refine ⟨_, rfl, x, C_Reader, dx, _, _, rfl, hx, R.cl, R.lv, rfl, _, _, rfl, rfl, dx, _, hx, by show 6 < 1000; decide, ?_⟩
  generalize hh : upd H' x _ = H2
  obtain ⟨r2, m2⟩ := r.set (dx := dx) (p' := p) (lv' := lv + 1) (o' := o) (by omega) r.lp
  have hx2 : upd H' x (.ins C_Reader dx (rdF l p sl ql (lv + 1) o)) x = _ := upd_same
  rw [show upd H' x (.ins C_Reader dx (rdF l p sl ql (lv + 1) o)) = H2 from hh] at r2 m2 hx2
  have hv2 := hv.tps (r.tps m2)
  obtain ⟨ws, h4, h5⟩ := r2.q
  refine ⟨_, rfl, x, C_Reader, dx, _, _, rfl, hx2, R.cl, R.pend, rfl, .inl ⟨rfl, _, SqL.of h4⟩, _, rfl, _, rfl, (by show 2 ≤ sizeLine; decide), fun t nt => ?_⟩
  have s3 := Same.new (o := .tup [.int (d.str : Int), v]) nt
  have r3 := r2.same s3
  have h43 := s3 _ _ h4
  have hv3 := pd_make (a := t) upd_same (hv2.tps (same_tps s3))
  generalize upd H2 t (.tup [.int (d.str : Int), v]) = H3 at s3 r3 h43 hv3 ⊢
  obtain ⟨ws', h6, h7⟩ := r3.q
  have ew : ws' = ws := by rw [h6] at h43; injection h43 with h; injection h
  subst ew
  have lw := h7.len
  rw [List.length_reverse] at lw
  refine ⟨ql, ws', _, rfl, rfl, h6, Nat.lt_of_le_of_lt (show ws'.length ≤ 2000000 by omega) (by decide), ?_⟩
  obtain ⟨r4, m4⟩ := r3.pends (us := ws' ++ [.ref t]) (P' := d :: P) (by rw [List.reverse_cons]; exact h7.app (.cons hv3 .nil)) (by rw [List.length_cons]; omega)
  exact q2 ne _ (m2.trans ((Mu.of s3).trans m4)) r4
theorem bes_last {α β : Type} {R : α → β → Prop} {d : β} : ∀ {A : List β} {ws : List α}, Bes R ws (A ++ [d]) → ∃ ws' y, ws = ws' ++ [y] ∧ Bes R ws' A ∧ R y d
  | [], ws, h => by
    cases h with
    | cons a b => cases b; exact ⟨[], _, rfl, .nil, a⟩
  | c :: A, ws, h => by
    cases h with
    | cons a b =>
      obtain ⟨ws', y, rfl, e1, e2⟩ := bes_last b
      exact ⟨_ :: ws', y, rfl, .cons a e1, e2⟩
abbrev S_Reader_close_last : Stmt := inClass (top 31) 8
abbrev N_Reader_close_last : List Str := ["self", "strength", "step"]
abbrev P_Reader_close_last : List Str := ["self"]
theorem sc_Reader_close_last : FnScope N_Reader_close_last P_Reader_close_last (defScope S_Reader_close_last) := ⟨rfl, rfl, rfl, by decide +kernel, rfl, by decide +kernel, by decide +kernel⟩
def spClose (K : PySem.W.Frag) (C : Addr) : Sp := fun vs H Q _ => ∃ (x sl ql : Addr) (l : Chs) (p lv o : Nat) (S : List Stp) (P : List Pd) (d : Pd), vs = [.ref x] ∧ RdO K C H x sl ql l p (lv + if isLv d then 1 else 0) o S (d :: P) ∧
  ∀ H' v, Mu x sl ql H H' → RdO K C H' x sl ql l p lv o S P → PdW K H' v d → Q v H'
theorem isLv_str {K : PySem.W.Frag} {H : Hp} {v : V} {d : Pd} (h : PdW K H v d) : inV (.int (d.str : Int)) [.int 0, .int 7, .int 8] = isLv d := by
  show (eqV (.int 0) (.int (d.str : Int)) || (eqV (.int 7) (.int (d.str : Int)) || (eqV (.int 8) (.int (d.str : Int)) || false))) = (d.str == 0 || d.str == 7 || d.str == 8)
  have e : ∀ n : Nat, eqV (.int (n : Int)) (.int (d.str : Int)) = (d.str == n) := fun n => by
    show decide ((n : Int) = (d.str : Int)) = _
    by_cases c : d.str = n
    · rw [c]; simp
    · rw [decide_eq_false (by omega)]
      exact (beq_eq_false_iff_ne.mpr c).symm
  have e0 := e 0
  have e7 := e 7
  have e8 := e 8
  rw [show eqV (.int 0) (.int (d.str : Int)) = (d.str == 0) from e0, show eqV (.int 7) (.int (d.str : Int)) = (d.str == 7) from e7, show eqV (.int 8) (.int (d.str : Int)) = (d.str == 8) from e8, Bool.or_false, Bool.or_assoc]
theorem ok_closelast (T : ExpK K mg T_LONG_SIGNS T_NO_NAMES T_SIGNS_AHEAD T_STRENGTHS_OF_LEVELS) (R : ReK K C_Reader) (F : Fun K "close_last" "Reader.close_last" S_Reader_close_last f fd) (B : Blt mg) : FnOk P w K mg base CX0 1 f fd P_Reader_close_last (spClose K C_Reader) := by
  have nd := sc_Reader_close_last.nd
  have MG_STRENGTHS_OF_LEVELS := T.lv
  refine F.ok sc_Reader_close_last (fun vs H Q E h => ?_) (fun cdv A outer s H vs Q E hr h => ?_)
  · obtain ⟨x, sl, ql, l, p, lv, o, S, P, d, rfl, _⟩ := h
    rfl
  obtain ⟨x, sl, ql, l, p, lv, o, S, P, d, rfl, r, q⟩ := h
  refine ⟨_, (C8.pss_cut (ps_asg (pe_bm0 PySem.F.plainAttrs_list PySem.F.slot_list_pop PySem.F.type_list_pop mt_pop (pe_fld (pv 0) rfl)) (pg_tup rfl (pgs_cons (pg_name (i := 1) nd rfl (Or.inl rfl)) (pgs_cons (pg_name (i := 2) nd rfl (Or.inl rfl)) pgs_nil))))
    (C8.pss_cut (ps_if (pt_cmpR op_in_seq (pv 1) (pe_glob (v := .ref T_STRENGTHS_OF_LEVELS) rfl MG_STRENGTHS_OF_LEVELS rfl) (by rfl)) (pss_one (ps_fldaug (pv 0) pe_int in_sub)) pss_nil)
    (pss_one (ps_ret (pv 2))))), ?_⟩
  obtain ⟨dx, hx⟩ := r.i
  obtain ⟨ws, h4, h5⟩ := r.q
  rw [List.reverse_cons] at h5
  refine ⟨fun σ H' => ∃ v, σ = [some (.ref x), some (.int (d.str : Int)), some v] ∧ Mu x sl ql H H' ∧ RdO K C_Reader H' x sl ql l p (lv + if isLv d then 1 else 0) o S P ∧ PdW K H' v d, ?_, ?_⟩
  · obtain ⟨ws', y, rfl, e1, e2⟩ := bes_last h5
    obtain ⟨a, u, rfl, ht, hw⟩ := pd_open e2
    refine ⟨_, rfl, x, C_Reader, dx, _, _, rfl, hx, R.cl, R.pend, rfl, .inl ⟨rfl, _, SqL.of h4⟩, ql, _, _, rfl, rfl, h4, (by rw [List.length_append, List.length_singleton, Nat.add_sub_cancel, List.getElem?_append_right (Nat.le_refl _), Nat.sub_self]; rfl), ?_⟩
    rw [List.dropLast_concat]
    obtain ⟨r2, m2⟩ := r.pends (us := ws') (P' := P) e1 (by have := r.b; rw [List.length_cons] at this; omega)
    have t2 := r.tps m2
    exact ⟨a, _, rfl, t2 _ _ ht, rfl, _, _, rfl, _, _, rfl, rfl, u, rfl, m2, r2, hw.tps t2⟩
  rintro σ H' ⟨v, rfl, m, r, hw⟩
  refine ⟨fun σ H2 => σ = [some (.ref x), some (.int (d.str : Int)), some v] ∧ Mu x sl ql H H2 ∧ RdO K C_Reader H2 x sl ql l p lv o S P ∧ PdW K H2 v d, ?_, ?_⟩
  · refine ⟨_, rfl, T_STRENGTHS_OF_LEVELS, _, rfl, .inr (T.lvs _), rfl, rfl, _, rfl, ?_⟩
    show if inV (.int (d.str : Int)) [.int 0, .int 7, .int 8] = true then _ else _
    rw [isLv_str hw]
    cases hc : isLv d with
    | true =>
      rw [hc, if_pos rfl] at r
      obtain ⟨dx, hx⟩ := r.i
      refine iteT ?_
      refine ⟨_, rfl, x, C_Reader, dx, _, _, rfl, hx, R.cl, R.lv, rfl, _, _, rfl, rfl, dx, _, hx, by show 6 < 1000; decide, ?_⟩
      have el : ((lv + 1 : Nat) : Int) - 1 = (lv : Int) := by omega
      rw [el]
      obtain ⟨r2, m2⟩ := r.set (dx := dx) (p' := p) (lv' := lv) (o' := o) r.b r.lp
      exact ⟨rfl, m.trans m2, r2, hw.tps (r.tps m2)⟩
    | false =>
      rw [hc, if_neg (by decide)] at r
      refine iteF ?_
      exact ⟨rfl, m, r, hw⟩
  rintro σ H2 ⟨rfl, m, r, hw⟩
  exact ⟨_, rfl, q H2 v m r hw⟩
abbrev S_Reader_settle : Stmt := inClass (top 31) 7
abbrev N_Reader_settle : List Str := ["self", "strength"]
abbrev P_Reader_settle : List Str := ["self", "strength"]
theorem sc_Reader_settle : FnScope N_Reader_settle P_Reader_settle (defScope S_Reader_settle) := ⟨rfl, rfl, rfl, by decide +kernel, rfl, by decide +kernel, by decide +kernel⟩
def spSettle (K : PySem.W.Frag) (C : Addr) : Sp := fun vs H Q _ => ∃ (x sl ql : Addr) (l : Chs) (p o k : Nat) (S : List Stp) (P : List Pd), vs = [.ref x, .int (k : Int)] ∧ RdO K C H x sl ql l p (lvl P) o S P ∧ 1 ≤ k ∧
  ∀ H', Mu x sl ql H H' → RdO K C H' x sl ql l p (lvl (settle k P).2) o (S ++ (settle k P).1) (settle k P).2 → Q .non H'
theorem ok_settle (R : ReK K C_Reader) (F : Fun K "settle" "Reader.settle" S_Reader_settle f fd) (B : Blt mg) (ME_Reader_close_last : HasMeth P w K mg base 1 "close_last" C_Reader P_Reader_close_last (spClose K C_Reader)) : FnOk P w K mg base CX0 2 f fd P_Reader_settle (spSettle K C_Reader) := by
  have nd := sc_Reader_settle.nd
  have CL_Reader := R.cl
  refine F.ok sc_Reader_settle (fun vs H Q E h => ?_) (fun cdv A outer s H vs Q E hr h => ?_)
  · obtain ⟨x, sl, ql, l, p, o, k, S, P, rfl, _⟩ := h
    rfl
  obtain ⟨x, sl, ql, l, p, o, k, S, P, rfl, r, k1, q⟩ := h
  refine ⟨_, (pss_one (ps_while PassesOwn.never (PW.pt (pw_and (pt_truth (pe_fld (pv 0) rfl) (by intro _; rfl)) (pw_and1 (pt_cmpR op_ge (pe_ix ix_tup (pe_ix ix_list (pe_fld (pv 0) rfl) (pe_un un_neg pe_int) (fun _ _ => rfl)) pe_int (fun _ _ => rfl)) (pv 1) (nomark _))))) (pss_one (ps_expr (pe_bm PySem.F.plainAttrs_list PySem.F.slot_list_append PySem.F.type_list_append mt_append (pe_fld (pv 0) rfl) (pa_cons (pe_me0 CL_Reader ME_Reader_close_last (hr.mono (by decide)) (pv 0)) pa_nil)))))), ?_⟩
  refine ⟨fun m σ H' => ∃ (S' : List Stp) (P' : List Pd), m = P'.length ∧ σ = [some (.ref x), some (.int (k : Int))] ∧ Mu x sl ql H H' ∧ RdO K C_Reader H' x sl ql l p (lvl P') o S' P' ∧ S' ++ (settle k P').1 = S ++ (settle k P).1 ∧ (settle k P').2 = (settle k P).2, ⟨_, S, P, rfl, rfl, Mu.refl, r, rfl, rfl⟩, ?_⟩
  rintro n σ H' ⟨S', P', rfl, rfl, m, r, e1, e2⟩
  obtain ⟨dx, hx⟩ := r.i
  obtain ⟨ws, h4, h5⟩ := r.q
  have lw := h5.len
  rw [List.length_reverse] at lw
  have fin : (settle k P').1 = [] → (settle k P').2 = P' → Q .non H' := fun a b => by
    rw [a, List.append_nil] at e1
    rw [b] at e2
    refine q H' m ?_
    rw [← e1, ← e2]
    exact r
  refine ⟨_, rfl, x, C_Reader, dx, _, _, rfl, hx, R.cl, R.pend, rfl, !ws.isEmpty, .inl ⟨ws, SqL.of h4, rfl⟩, ?_⟩
  cases P' with
  | nil =>
    obtain rfl : ws = [] := List.length_eq_zero_iff.mp lw
    refine iteF ?_
    exact fin rfl rfl
  | cons d P' =>
    rw [List.reverse_cons] at h5
    obtain ⟨ws', y, rfl, b1, b2⟩ := bes_last h5
    obtain ⟨a, u, rfl, ht, hw⟩ := pd_open b2
    rw [show (!(ws' ++ [V.ref a]).isEmpty) = true by simp]
    refine iteT ?_
    refine ⟨_, rfl, x, C_Reader, dx, _, _, rfl, hx, R.cl, R.pend, rfl, _, rfl, ql, _, _, .ref a, rfl, rfl, SqL.of h4, atI_last _ _, a, _, _, _, rfl, rfl, ht, atI_nat (j := 0) rfl, _, rfl, _, _, rfl, rfl, _, rfl, ?_⟩
    refine iteD (fun c => ?_) (fun c => ?_)
    · cases d with
      | par => exact absurd c (by show ¬ (k : Int) ≤ ((0 : Nat) : Int); omega)
      | op j st =>
        have c' : k ≤ j := by have : (k : Int) ≤ (j : Int) := c; omega
        have es : settle k (.op j st :: P') = (st :: (settle k P').1, (settle k P').2) := if_pos c'
        rw [es] at e1 e2
        obtain ⟨us, g1, g2⟩ := r.s
        refine ⟨fun σ H2 => σ = [some (.ref x), some (.int (k : Int))] ∧ Mu x sl ql H H2 ∧ RdO K C_Reader H2 x sl ql l p (lvl P') o (S' ++ [st]) P', ?_, ?_⟩
        · rintro σ H2 ⟨rfl, m2, r2⟩
          exact ⟨_, show P'.length < (Pd.op j st :: P').length from Nat.lt_succ_self _, S' ++ [st], P', rfl, rfl, m2, r2, by rw [List.append_assoc]; exact e1, e2⟩
        · rw [lvl_cons] at r
          refine ⟨_, rfl, x, C_Reader, dx, _, _, rfl, hx, R.cl, R.steps, rfl, .inl ⟨rfl, _, SqL.of g1⟩, _, rfl, x, dx, _, rfl, hx, rfl, x, sl, ql, l, p, lvl P', o, S', P', .op j st, rfl, r, fun H2 v m2 r2 hw2 => ?_⟩
          obtain ⟨us2, g3, g4⟩ := r2.s
          have lu := g4.len
          have bb := r2.b
          have ll := r2.ll
          have lp := r2.lp
          refine ⟨sl, us2, v, rfl, rfl, g3, Nat.lt_of_le_of_lt (show us2.length ≤ 2000000 by omega) (by decide), ?_⟩
          obtain ⟨r3, m3⟩ := r2.steps (us := us2 ++ [v]) (S' := S' ++ [st]) (g4.app (.cons hw2.1 .nil)) (by have := r.b; rw [List.length_cons] at this; rw [List.length_append, List.length_singleton]; omega)
          exact ⟨rfl, m.trans (m2.trans m3), r3⟩
    · refine fin ?_ ?_
      · cases d with
        | par => rfl
        | op j st => show (if k ≤ j then _ else _ : List Stp × List Pd).1 = []; rw [if_neg (fun h => c (by show (k : Int) ≤ (j : Int); omega))]
      · cases d with
        | par => rfl
        | op j st => show (if k ≤ j then _ else _ : List Stp × List Pd).2 = _; rw [if_neg (fun h => c (by show (k : Int) ≤ (j : Int); omega))]
abbrev S_Reader_close_parenthesis : Stmt := inClass (top 31) 9
abbrev N_Reader_close_parenthesis : List Str := ["self"]
abbrev P_Reader_close_parenthesis : List Str := ["self"]
theorem sc_Reader_close_parenthesis : FnScope N_Reader_close_parenthesis P_Reader_close_parenthesis (defScope S_Reader_close_parenthesis) := ⟨rfl, rfl, rfl, by decide +kernel, rfl, by decide +kernel, by decide +kernel⟩
def spClosePar (K : PySem.W.Frag) (C : Addr) : Sp := fun vs H Q _ => ∃ (x sl ql : Addr) (l : Chs) (p o : Nat) (S : List Stp) (P R : List Pd), vs = [.ref x] ∧ RdO K C H x sl ql l p (lvl P) (o + 1) S P ∧ (settle 1 P).2 = .par :: R ∧
  ∀ H', Mu x sl ql H H' → RdO K C H' x sl ql l p (lvl R) o (S ++ (settle 1 P).1) R → Q .non H'
theorem ok_closepar (T : ExpK K mg T_LONG_SIGNS T_NO_NAMES T_SIGNS_AHEAD T_STRENGTHS_OF_LEVELS) (R : ReK K C_Reader) (F : Fun K "close_parenthesis" "Reader.close_parenthesis" S_Reader_close_parenthesis f fd) (B : Blt mg) (ME_Reader_close_last : HasMeth P w K mg base 1 "close_last" C_Reader P_Reader_close_last (spClose K C_Reader)) (ME_Reader_settle : HasMeth P w K mg base 2 "settle" C_Reader P_Reader_settle (spSettle K C_Reader)) : FnOk P w K mg base CX0 3 f fd P_Reader_close_parenthesis (spClosePar K C_Reader) := by
  have nd := sc_Reader_close_parenthesis.nd
  have CL_Reader := R.cl
  obtain ⟨_, MG_LEAST_STRENGTH⟩ := T.ls
  refine F.ok sc_Reader_close_parenthesis (fun vs H Q E h => ?_) (fun cdv A outer s H vs Q E hr h => ?_)
  · obtain ⟨x, sl, ql, l, p, o, S, P, Rs, rfl, _⟩ := h
    rfl
  obtain ⟨x, sl, ql, l, p, o, S, P, Rs, rfl, r, es, q⟩ := h
  refine ⟨_, (pss_cons (ps_expr (pe_meA CL_Reader ME_Reader_settle (hr.mono (by decide)) (pv 0) (pa_cons (pe_glob (v := .int 1) rfl MG_LEAST_STRENGTH ⟨_, rfl⟩) pa_nil)))
    (pss_cons (ps_expr (pe_me0 CL_Reader ME_Reader_close_last (hr.mono (by decide)) (pv 0)))
    (pss_one (ps_fldaug (pv 0) pe_int in_sub)))), ?_⟩
  obtain ⟨dx, hx⟩ := r.i
  refine ⟨_, rfl, x, dx, _, rfl, hx, rfl, x, sl, ql, l, p, o + 1, 1, S, P, rfl, r, Nat.le_refl 1, fun H1 m1 r1 => ?_⟩
  rw [es, lvl_cons] at r1
  obtain ⟨dx1, hx1⟩ := r1.i
  refine ⟨_, rfl, x, dx1, _, rfl, hx1, rfl, x, sl, ql, l, p, lvl Rs, o + 1, _, Rs, .par, rfl, r1, fun H2 v m2 r2 hw => ?_⟩
  obtain ⟨dx2, hx2⟩ := r2.i
  refine ⟨_, rfl, x, C_Reader, dx2, _, _, rfl, hx2, R.cl, R.op, rfl, _, _, rfl, rfl, dx2, _, hx2, by show 6 < 1000; decide, ?_⟩
  have el : ((o + 1 : Nat) : Int) - 1 = (o : Int) := by omega
  rw [el]
  obtain ⟨r3, m3⟩ := r2.set (dx := dx2) (p' := p) (lv' := lvl Rs) (o' := o) r2.b r2.lp
  exact q _ (m1.trans (m2.trans m3)) r3
abbrev S_Reader_begin_right_side : Stmt := inClass (top 31) 5
abbrev N_Reader_begin_right_side : List Str := ["self", "strength", "step"]
abbrev P_Reader_begin_right_side : List Str := ["self", "strength", "step"]
theorem sc_Reader_begin_right_side : FnScope N_Reader_begin_right_side P_Reader_begin_right_side (defScope S_Reader_begin_right_side) := ⟨rfl, rfl, rfl, by decide +kernel, rfl, by decide +kernel, by decide +kernel⟩
def spBegin_ (K : PySem.W.Frag) (C CB : Addr) : Sp := fun vs H Q E => ∃ (x sl ql : Addr) (l : Chs) (p o k : Nat) (S : List Stp) (P : List Pd) (st : Stp) (v : V), vs = [.ref x, .int (k : Int), v] ∧ RdO K C H x sl ql l p (lvl P) o S P ∧ S.length + P.length ≤ p ∧ p < l.length ∧ StV K H v st ∧ 1 ≤ k ∧ k ≠ 7 ∧
  (if k = 8 then (lvl P = 20 → BadM CB E x sl ql H p) ∧ (lvl P ≠ 20 → ∀ H', Mu x sl ql H H' → RdO K C H' x sl ql l p (lvl (.op 8 st :: P)) o S (.op 8 st :: P) → Q .non H')
   else ∀ H', Mu x sl ql H H' → RdO K C H' x sl ql l p (lvl (.op k st :: (settle k P).2)) o (S ++ (settle k P).1) (.op k st :: (settle k P).2) → Q .non H')
theorem settle_len (k : Nat) : ∀ P : List Pd, (settle k P).1.length + (settle k P).2.length = P.length
  | [] => rfl
  | .par :: P => by show 0 + (P.length + 1) = P.length + 1; omega
  | .op j s :: P => by
    have ih := settle_len k P
    show (if k ≤ j then (s :: (settle k P).1, (settle k P).2) else ([], .op j s :: P)).1.length + (if k ≤ j then (s :: (settle k P).1, (settle k P).2) else ([], .op j s :: P)).2.length = P.length + 1
    split
    · show ((settle k P).1.length + 1) + (settle k P).2.length = _; omega
    · show 0 + (P.length + 1) = _; omega
theorem ok_beginright (T : ExpK K mg T_LONG_SIGNS T_NO_NAMES T_SIGNS_AHEAD T_STRENGTHS_OF_LEVELS) (R : ReK K C_Reader) (F : Fun K "begin_right_side" "Reader.begin_right_side" S_Reader_begin_right_side f fd) (B : Blt mg) (ME_Reader_settle : HasMeth P w K mg base 2 "settle" C_Reader P_Reader_settle (spSettle K C_Reader)) (ME_Reader_open_level : HasMX P w K mg base 4 "open_level" C_Reader P_Reader_open_level (spOpen K C_Reader C_BadText)) : FnOk P w K mg base (L2.CX P w) 5 f fd P_Reader_begin_right_side (spBegin_ K C_Reader C_BadText) := by
  have nd := sc_Reader_begin_right_side.nd
  have CL_Reader := R.cl
  obtain ⟨_, MG_STRENGTH_OF_POWER⟩ := T.sw
  refine F.okX sc_Reader_begin_right_side (fun vs H Q E h => ?_) (fun cdv A outer s H vs Q E hr h => ?_)
  · obtain ⟨x, sl, ql, l, p, o, k, S, P, st, v, rfl, _⟩ := h
    rfl
  obtain ⟨x, sl, ql, l, p, o, k, S, P, st, v, rfl, r, hb, hp, hv, k1, k7, q⟩ := h
  refine ⟨_, (pss_one (ps_if (pt_cmpR op_eq (pv 1) (pe_glob (v := .int 8) rfl MG_STRENGTH_OF_POWER ⟨_, rfl⟩) (nomark _)) (pss_one (ps_expr (pe_mxA CL_Reader ME_Reader_open_level (takes_of rfl rfl rfl rfl) (hr.mono (by decide)) (pv 0) (pa_cons (pv 1) (pa_cons (pv 2) pa_nil))))) (pss_cons (ps_expr (pe_meA CL_Reader ME_Reader_settle (hr.mono (by decide)) (pv 0) (pa_cons (pv 1) pa_nil)))
    (pss_one (ps_expr (pe_bm PySem.F.plainAttrs_list PySem.F.slot_list_append PySem.F.type_list_append mt_append (pe_fld (pv 0) rfl) (pa_cons (pe_tup (pa_cons (pv 1) (pa_cons (pv 2) pa_nil))) pa_nil))))))), ?_⟩
  obtain ⟨dx, hx⟩ := r.i
  refine ⟨_, rfl, rfl, _, rfl, ?_⟩
  refine iteD (fun c => ?_) (fun c => ?_)
  · have e : k = 8 := by injection c with c; omega
    subst e
    rw [if_pos rfl] at q
    refine ⟨_, rfl, x, dx, _, rfl, hx, rfl, _, rfl, _, rfl, x, sl, ql, l, p, lvl P, o, S, P, .op 8 st, v, rfl, r, hb, hp, ⟨hv, k1⟩, q.1, fun ne H' m r' => q.2 ne H' m ?_⟩
    rw [lvl_cons]
    exact r'
  · have e : k ≠ 8 := fun e => c (by rw [e]; rfl)
    rw [if_neg e] at q
    refine ⟨_, rfl, x, dx, _, rfl, hx, rfl, _, rfl, x, sl, ql, l, p, o, k, S, P, rfl, r, k1, fun H1 m1 r1 => ?_⟩
    obtain ⟨dx1, hx1⟩ := r1.i
    obtain ⟨ws, h4, h5⟩ := r1.q
    refine ⟨_, rfl, x, C_Reader, dx1, _, _, rfl, hx1, R.cl, R.pend, rfl, .inl ⟨rfl, _, SqL.of h4⟩, _, rfl, _, rfl, (by show 2 ≤ sizeLine; decide), fun t nt => ?_⟩
    have s3 := Same.new (o := .tup [.int (k : Int), v]) nt
    have r3 := r1.same s3
    have h43 := s3 _ _ h4
    have hv3 : PdV K _ (.ref t) (.op k st) := ⟨t, v, rfl, SqT.of (upd_same (a := t) (H := H1) (o := .tup [.int (k : Int), v])), (hv.tps (r.tps m1)).tps (same_tps s3), k1⟩
    generalize upd H1 t (.tup [.int (k : Int), v]) = H3 at s3 r3 h43 hv3 ⊢
    obtain ⟨ws', h6, h7⟩ := r3.q
    have ew : ws' = ws := by rw [h6] at h43; injection h43 with h; injection h
    subst ew
    have lw := h7.len
    rw [List.length_reverse] at lw
    have sl1 := settle_len k P
    have ll := r.ll
    refine ⟨ql, ws', _, rfl, rfl, h6, Nat.lt_of_le_of_lt (show ws'.length ≤ 2000000 by omega) (by decide), ?_⟩
    obtain ⟨r4, m4⟩ := r3.pends (us := ws' ++ [.ref t]) (P' := .op k st :: (settle k P).2) (by rw [List.reverse_cons]; exact h7.app (.cons hv3 .nil)) (by rw [List.length_cons, List.length_append]; omega)
    refine q _ (m1.trans ((Mu.of s3).trans m4)) ?_
    have ez : isLv (.op k st) = false := by
      unfold isLv Pd.str
      rw [show (k == 0) = false from beq_eq_false_iff_ne.mpr (by omega), show (k == 7) = false from beq_eq_false_iff_ne.mpr k7, show (k == 8) = false from beq_eq_false_iff_ne.mpr e]
      rfl
    rw [lvl_cons, ez, if_neg (by decide), Nat.add_zero]
    exact r4
end
end Fb
namespace Fb
open PySem L2 NdefX PySem.NumText
def tkOf (s : Chs) (q : Nat) : Tk := if s = [] then .fin q else .tok s q
/-- what is known of a token that was looked at -/
def PkA (l : Chs) (q : Nat) (s : Chs) (ts : List Tk) : Prop := (s ≠ [] ∧ lex (l.drop (q + s.length)) (q + s.length) = ts ∧ q + s.length ≤ l.length ∧ (l.drop q).take s.length = s ∧ tokL (l.drop q) = some s.length) ∨ (s = [] ∧ q = l.length)
/-- no number is too long -/
def NumB (l : Chs) : Prop := ∀ q, runL isDig (l.drop q) ≤ 640
theorem lex_cons (l : Chs) (p : Nat) : ∃ t ts, lex l p = t :: ts := by
  rw [lex_eq]
  cases tokL (l.drop (runL isBl l)) with
  | some k => exact ⟨_, _, rfl⟩
  | none =>
    dsimp only
    split
    · exact ⟨_, _, rfl⟩
    · exact ⟨_, _, rfl⟩
theorem run_take (f : Nat → Bool) : ∀ l : Chs, ∀ c ∈ l.take (runL f l), f c = true
  | [], c, h => by cases h
  | a :: l, c, h => by
    rw [runL_cons] at h
    by_cases e : f a = true
    · rw [if_pos e, Nat.add_comm, List.take_succ_cons] at h
      rcases List.mem_cons.mp h with rfl | h
      · exact e
      · exact run_take f l c h
    · rw [if_neg e, List.take_zero] at h
      cases h
theorem PkA.num {l : Chs} {q : Nat} {s : Chs} {ts : List Tk} (h : PkA l q s ts) (nb : NumB l) (hn : isNum s = true) : AllDigits s ∧ s ≠ [] ∧ s.length ≤ 640 := by
  rcases h with ⟨ne, _, _, e1, e2⟩ | ⟨rfl, _⟩
  · cases s with
    | nil => exact absurd rfl ne
    | cons c s =>
      rw [isNum_cons, Bool.and_eq_true] at hn
      cases hd : l.drop q with
      | nil => rw [hd] at e1; cases e1
      | cons c' r =>
        rw [hd] at e1 e2
        have ec : c' = c := by
          have := congrArg List.head? e1
          simpa using this
        subst ec
        rw [tokL_cons, if_pos hn.1] at e2
        injection e2 with e2
        have nq := nb q
        rw [hd, e2] at nq
        refine ⟨?_, List.cons_ne_nil _ _, nq⟩
        have all := run_take isDig (c' :: r)
        rw [e2, e1] at all
        intro c hc
        have := all c hc
        unfold isDig at this
        exact of_decide_eq_true this
  · cases hn
theorem runR_bad {sg : Chs → Bool} {b : Bool} {q : Nat} {ts : List Tk} {S : List Stp} {P : List Pd} : runR sg b (.bad q :: ts) S P = .err q := by cases b <;> rfl
theorem runR_fin {sg : Chs → Bool} {q : Nat} {ts : List Tk} {S : List Stp} {P : List Pd} : runR sg true (.fin q :: ts) S P = .err q := rfl
theorem runR_tok {sg : Chs → Bool} {s : Chs} {q : Nat} {ts : List Tk} {S : List Stp} {P : List Pd} : runR sg true (.tok s q :: ts) S P = if s = [40] then (if lvl P = 20 then .err q else runR sg true ts S (.par :: P))
    else if s = [45] ∨ s = [43] ∨ s = [126] then (if lvl P = 20 then .err q else runR sg true ts S (.op 7 ⟨kAHEAD, .str (txt s), q⟩ :: P))
    else if isNm s then runR sg false ts (S ++ [⟨kNAME, .str (txt s), q⟩]) P
    else if isNum s then runR sg false ts (S ++ [⟨kNUMBER, .int ((digitsVal s : Nat) : Int), q⟩]) P
    else .err q := rfl
theorem forkP {G A C : Prop} (main : (C → G) → A) (pk : C → G) : A := main pk
theorem str_par : ("(" : Str) = txt [40] := by decide +kernel
theorem eq_txt {s c : Chs} {z : Str} (h : z = txt c) : decide (V.str (txt s) = V.str z) = decide (s = c) := by
  subst h
  refine decide_eq_decide.mpr ⟨fun h => ?_, fun h => by rw [h]⟩
  injection h with h
  exact txt_inj.mp h
theorem PkA.pos {l : Chs} {q : Nat} {s : Chs} {ts : List Tk} (h : PkA l q s ts) (ne : s ≠ []) : q < l.length ∧ lex (l.drop (q + s.length)) (q + s.length) = ts ∧ q + s.length ≤ l.length ∧ 1 ≤ s.length := by
  rcases h with ⟨_, e, e2, _, e3⟩ | ⟨e, _⟩
  · have := tokL_pos e3
    exact ⟨by omega, e, e2, this.1⟩
  · exact absurd e ne
section
variable {K : PySem.W.Frag} {C CB x sl ql : Addr} {H : Hp} {l : Chs} {p lv o : Nat} {S : List Stp} {P : List Pd} {Q : VK} {E : XK}
theorem peek_use (r : RdO K C H x sl ql l p lv o S P) (hb : ∀ q ts, lex (l.drop p) p = .bad q :: ts → BadM CB E x sl ql H q)
    (hq : ∀ H' q s ts, Mu x sl ql H H' → RdO K C H' x sl ql l q lv o S P → p ≤ q → lex (l.drop p) p = tkOf s q :: ts → PkA l q s ts → Q (.str (txt s)) H') : spPeek K C CB [.ref x] H Q E := by
  obtain ⟨t, ts, e⟩ := lex_cons (l.drop p) p
  refine ⟨x, sl, ql, l, p, lv, o, S, P, t, ts, rfl, r, e, ?_⟩
  cases t with
  | bad q => exact hb q ts e
  | tok s q =>
    intro H' m r' h1 h2 h3 h4 h5 h6
    have ne : s ≠ [] := fun z => by subst z; exact absurd h3 (by decide)
    exact hq H' q s ts m r' h1 (by rw [e]; unfold tkOf; rw [if_neg ne]) (.inl ⟨ne, h2, h4, h5, h6⟩)
  | fin q =>
    intro H' m r' h1 h2
    exact hq H' q [] ts m r' h1 (by rw [e]; rfl) (.inr ⟨rfl, h2⟩)
end
section
variable {P : Program} {w : World} {K : PySem.W.Frag} {mg : Str → Option Value} {base : Heap} {f : Addr} {fd : FuncData} {T_LONG_SIGNS T_NO_NAMES T_SIGNS_AHEAD T_STRENGTHS_OF_LEVELS C_Reader C_BadText : Addr}
abbrev S_Reader_take_operand : Stmt := inClass (top 31) 3
abbrev N_Reader_take_operand : List Str := ["self", "token"]
abbrev P_Reader_take_operand : List Str := ["self"]
theorem sc_Reader_take_operand : FnScope N_Reader_take_operand P_Reader_take_operand (defScope S_Reader_take_operand) := ⟨rfl, rfl, rfl, by decide +kernel, rfl, by decide +kernel, by decide +kernel⟩
/-- the reader goes on: what the whole reading ends as -/
def spGo (K : PySem.W.Frag) (C CB : Addr) (b : Bool) (sg : Chs → Bool) (x sl ql : Addr) (l : Chs) (R : Rs) (p0 : Nat) (H0 : Hp) (Q : Hp → Prop) (E : XK) : Prop :=
  (∀ q, R = .err q → BadM CB E x sl ql H0 q) ∧ ∀ H' p' S' P', p0 < p' → Mu x sl ql H0 H' → RdO K C H' x sl ql l p' (lvl P') (opn P') S' P' → S'.length + P'.length ≤ p' → runR sg b (lex (l.drop p') p') S' P' = R → Q H'
def spOpd (K : PySem.W.Frag) (C CB : Addr) : Sp := fun vs H Q E => ∃ (x sl ql : Addr) (l : Chs) (p : Nat) (S : List Stp) (P : List Pd) (sg : Chs → Bool) (R : Rs), vs = [.ref x] ∧ RdO K C H x sl ql l p (lvl P) (opn P) S P ∧ S.length + P.length ≤ p ∧ NumB l ∧ runR sg true (lex (l.drop p) p) S P = R ∧ spGo K C CB false sg x sl ql l R p H (Q .non) E
theorem ok_operand (T : ExpK K mg T_LONG_SIGNS T_NO_NAMES T_SIGNS_AHEAD T_STRENGTHS_OF_LEVELS) (R : ReK K C_Reader) (F : Fun K "take_operand" "Reader.take_operand" S_Reader_take_operand f fd) (B : Blt mg) (TB : Err P w K mg base "BadText" C_BadText ["place"] onePl) (Cis_name : Has P w K mg base 2 "is_name" P_is_name [] spIsNm)
    (ME_Reader_peek : HasMX P w K mg base 5 "peek" C_Reader P_Reader_peek (spPeek K C_Reader C_BadText)) (ME_Reader_skip : HasMeth P w K mg base 1 "skip" C_Reader P_Reader_skip (spSkip K C_Reader)) (ME_Reader_open_level : HasMX P w K mg base 4 "open_level" C_Reader P_Reader_open_level (spOpen K C_Reader C_BadText)) : FnOk P w K mg base (L2.CX P w) 6 f fd P_Reader_take_operand (spOpd K C_Reader C_BadText) := by
  have nd := sc_Reader_take_operand.nd
  have CL_Reader := R.cl
  have MG_SIGNS_AHEAD := T.ah
  obtain ⟨_, MG_STRENGTH_OF_PARENTHESIS⟩ := T.sp
  obtain ⟨_, MG_STRENGTH_AHEAD⟩ := T.sa
  obtain ⟨_, MG_AHEAD⟩ := T.kA
  obtain ⟨_, MG_NAME⟩ := T.kN
  obtain ⟨_, MG_NUMBER⟩ := T.kU
  obtain ⟨_, MG_DIGITS⟩ := T.dig
  obtain ⟨_, MG_MOST_DIGITS⟩ := T.md
  refine F.okX sc_Reader_take_operand (fun vs H Q E h => ?_) (fun cdv A outer s H vs Q E hr h => ?_)
  · obtain ⟨x, sl, ql, l, p, S, P, sg, R, rfl, _⟩ := h
    rfl
  obtain ⟨x, sl, ql, l, p, S, P, sg, Rz, rfl, r, hb, nb, hR, qe, q⟩ := h
  refine ⟨_, (pss_cons (ps_set (i := 1) nd rfl (Or.inl rfl) (pe_mx0 CL_Reader ME_Reader_peek (takes_of rfl rfl rfl rfl) (hr.mono (by decide)) (pv 0)))
    (C8.pss_cut (ps_while (passes_of rfl) (PW.pt (pw_or (pt_cmpR op_eq (pv 1) pe_str (nomark _)) (pw_or1 (pt_cmpR op_in_seq (pv 1) (pe_glob (v := .ref T_SIGNS_AHEAD) rfl MG_SIGNS_AHEAD rfl) (by rfl))))) (C8.pss_cut (ps_if (pt_cmpR op_eq (pv 1) pe_str (nomark _)) (pss_cons (ps_expr (pe_mxA CL_Reader ME_Reader_open_level (takes_of rfl rfl rfl rfl) (hr.mono (by decide)) (pv 0) (pa_cons (pe_glob (v := .int 0) rfl MG_STRENGTH_OF_PARENTHESIS ⟨_, rfl⟩) (pa_cons pe_non pa_nil))))
    (pss_one (ps_fldaug (pv 0) pe_int in_add))) (pss_one (ps_expr (pe_mxA CL_Reader ME_Reader_open_level (takes_of rfl rfl rfl rfl) (hr.mono (by decide)) (pv 0) (pa_cons (pe_glob (v := .int 7) rfl MG_STRENGTH_AHEAD ⟨_, rfl⟩) (pa_cons (pe_tup (pa_cons (pe_glob (v := .str "ahead") rfl MG_AHEAD ⟨_, rfl⟩) (pa_cons (pv 1) (pa_cons (pe_fld (pv 0) rfl) pa_nil)))) pa_nil))))))
    (pss_cons (ps_expr (pe_meA CL_Reader ME_Reader_skip (hr.mono (by decide)) (pv 0) (pa_cons (pv 1) pa_nil)))
    (pss_one (ps_set (i := 1) nd rfl (Or.inl rfl) (pe_mx0 CL_Reader ME_Reader_peek (takes_of rfl rfl rfl rfl) (hr.mono (by decide)) (pv 0)))))))
    (C8.pss_cut (ps_if (pt_val (pe_H Cis_name (hr.mono (by decide)) rfl (pa_cons (pv 1) pa_nil))) (pss_one (ps_expr (pe_bm PySem.F.plainAttrs_list PySem.F.slot_list_append PySem.F.type_list_append mt_append (pe_fld (pv 0) rfl) (pa_cons (pe_tup (pa_cons (pe_glob (v := .str "name") rfl MG_NAME ⟨_, rfl⟩) (pa_cons (pv 1) (pa_cons (pe_fld (pv 0) rfl) pa_nil)))) pa_nil)))) (pss_one (ps_if (PW.pt (pw_and (pt_truth (pv 1) (by intro _; rfl)) (pw_and (pt_cmpR op_in_sign (pe_ix ix_str (pv 1) pe_int (fun _ _ => rfl)) (pe_glob (v := .str "0123456789") rfl MG_DIGITS ⟨_, rfl⟩) (by rfl)) (pw_and1 (pt_cmpR op_le (pe_callB call_len_str (by rfl) B.len PySem.boot_len (pa_cons (pv 1) pa_nil)) (pe_glob (v := .int 1000) rfl MG_MOST_DIGITS ⟨_, rfl⟩) (nomark _)))))) (pss_one (ps_expr (pe_bm PySem.F.plainAttrs_list PySem.F.slot_list_append PySem.F.type_list_append mt_append (pe_fld (pv 0) rfl) (pa_cons (pe_tup (pa_cons (pe_glob (v := .str "number") rfl MG_NUMBER ⟨_, rfl⟩) (pa_cons (pe_callTy call_int_str (by rfl) B.int (by decide +kernel) (pa_cons (pv 1) pa_nil)) (pa_cons (pe_fld (pv 0) rfl) pa_nil)))) pa_nil)))) (pss_one (ps_raise rfl (takes_of rfl rfl rfl rfl) (pmk_err TB (hr.mono (by decide)) rfl (pa_cons (pe_fld (pv 0) rfl) pa_nil)))))))
    (pss_one (ps_expr (pe_meA CL_Reader ME_Reader_skip (hr.mono (by decide)) (pv 0) (pa_cons (pv 1) pa_nil))))))), ?_⟩
  obtain ⟨dx, hx⟩ := r.i
  refine ⟨_, rfl, x, dx, _, rfl, hx, rfl, peek_use r (fun q0 ts e => ?_) fun H1 q1 s1 ts1 m1 r1 h1 e1 k1 => ?_⟩
  · rw [e, runR_bad] at hR
    exact qe q0 hR.symm
  rw [e1] at hR
  refine ⟨fun σ H' => ∃ q s ts P', σ = [some (.ref x), some (.str (txt s))] ∧ p ≤ q ∧ Mu x sl ql H H' ∧ RdO K C_Reader H' x sl ql l q (lvl P') (opn P') S P' ∧ S.length + P'.length ≤ q ∧ PkA l q s ts ∧ runR sg true (tkOf s q :: ts) S P' = Rz ∧ s ≠ [40] ∧ ¬ (s = [45] ∨ s = [43] ∨ s = [126]), ?_, ?_⟩
  · refine ⟨fun k σ H' => ∃ q s ts P', k = l.length - q ∧ σ = [some (.ref x), some (.str (txt s))] ∧ p ≤ q ∧ Mu x sl ql H H' ∧ RdO K C_Reader H' x sl ql l q (lvl P') (opn P') S P' ∧ S.length + P'.length ≤ q ∧ PkA l q s ts ∧ runR sg true (tkOf s q :: ts) S P' = Rz, ⟨_, q1, s1, ts1, P, rfl, rfl, h1, m1, r1, by omega, k1, hR⟩, ?_⟩
    clear hR e1 k1 m1 r1 hx r hb
    rintro k σ H' ⟨q2, s, ts, P', rfl, rfl, hpq, m, r, hb, k1, hR⟩
    have exit_ : s ≠ [40] → ¬ (s = [45] ∨ s = [43] ∨ s = [126]) → ∃ q s' ts P', ([some (.ref x), some (.str (txt s))] : L2.St) = [some (.ref x), some (.str (txt s'))] ∧ p ≤ q ∧ Mu x sl ql H H' ∧ RdO K C_Reader H' x sl ql l q (lvl P') (opn P') S P' ∧ S.length + P'.length ≤ q ∧ PkA l q s' ts ∧ runR sg true (tkOf s' q :: ts) S P' = Rz ∧ s' ≠ [40] ∧ ¬ (s' = [45] ∨ s' = [43] ∨ s' = [126]) := fun a b => ⟨q2, s, ts, P', rfl, hpq, m, r, hb, k1, hR, a, b⟩
    have step : s = [40] ∨ (s = [45] ∨ s = [43] ∨ s = [126]) → q2 < l.length ∧ s ≠ [] ∧ (lvl P' = 20 → BadM C_BadText E x sl ql H' q2) := fun h => by
      have ne : s ≠ [] := by rcases h with rfl | rfl | rfl | rfl <;> exact List.cons_ne_nil _ _
      obtain ⟨p1, _, _, _⟩ := k1.pos ne
      refine ⟨p1, ne, fun h20 => (qe q2 ?_).from m⟩
      rw [← hR]
      unfold tkOf
      rw [if_neg ne, runR_tok]
      rcases h with h | h
      · rw [if_pos h, if_pos h20]
      · rw [if_neg (by rcases h with rfl | rfl | rfl <;> decide), if_pos h, if_pos h20]
    apply forkP (C := s = [40] ∨ (s = [45] ∨ s = [43] ∨ s = [126]))
    · intro body
      refine ⟨_, rfl, rfl, _, rfl, ?_⟩
      rw [eq_txt str_par]
      refine iteD (fun c => iteT (body (.inl c))) (fun c => ?_)
      refine ⟨_, rfl, T_SIGNS_AHEAD, _, rfl, .inr (T.ahs _), rfl, all_flat _, _, rfl, ?_⟩
      show if inV (.str (txt s)) ([[45], [43], [126]].map fun c => V.str (txt c)) = true then _ else _
      rw [inV_txt]
      cases hc : ([[45], [43], [126]] : List Chs).contains s with
      | true =>
        refine iteT (body (.inr ?_))
        simpa using hc
      | false =>
        refine iteF (exit_ c ?_)
        intro h
        have : ([[45], [43], [126]] : List Chs).contains s = true := by simpa using h
        rw [hc] at this
        cases this
    · intro c
      obtain ⟨p1, ne, h20⟩ := step c
      obtain ⟨_, p2, p3, p4⟩ := k1.pos ne
      clear exit_ step
      obtain ⟨dx, hx⟩ := r.i
      have eR : runR sg true (.tok s q2 :: ts) S P' = Rz := by
        rw [← hR]
        unfold tkOf
        rw [if_neg ne]
      rw [runR_tok] at eR
      refine ⟨fun σ H2 => ∃ q s' ts' P2, σ = [some (.ref x), some (.str (txt s'))] ∧ p ≤ q ∧ Mu x sl ql H H2 ∧ RdO K C_Reader H2 x sl ql l q (lvl P2) (opn P2) S P2 ∧ S.length + P2.length ≤ q ∧ PkA l q s' ts' ∧ runR sg true (tkOf s' q :: ts') S P2 = Rz ∧ q2 < q, ?_, ?_⟩
      · rintro σ H2 ⟨q, s', ts', P2, rfl, hpq2, m2, r2, b2, k2, e2, lt⟩
        exact ⟨_, show l.length - q < l.length - q2 by omega, q, s', ts', P2, rfl, rfl, hpq2, m2, r2, b2, k2, e2⟩
      refine ⟨fun σ H2 => σ = [some (.ref x), some (.str (txt s))] ∧ Mu x sl ql H' H2 ∧ ∃ P2, RdO K C_Reader H2 x sl ql l q2 (lvl P2) (opn P2) S P2 ∧ S.length + P2.length ≤ q2 + 1 ∧ runR sg true ts S P2 = Rz, ?_, ?_⟩
      · refine ⟨_, rfl, rfl, _, rfl, ?_⟩
        rw [eq_txt str_par]
        refine iteD (fun c1 => ?_) (fun c1 => ?_)
        · rw [if_pos c1] at eR
          refine ⟨_, rfl, x, dx, _, rfl, hx, rfl, x, sl, ql, l, q2, lvl P', opn P', S, P', .par, .non, rfl, r, hb, p1, rfl, h20, fun n20 H2 m2 r2 => ?_⟩
          rw [if_neg n20] at eR
          obtain ⟨dx2, hx2⟩ := r2.i
          refine ⟨_, rfl, x, C_Reader, dx2, _, _, rfl, hx2, R.cl, R.op, rfl, _, _, rfl, rfl, dx2, _, hx2, by show 6 < 1000; decide, ?_⟩
          obtain ⟨r3, m3⟩ := r2.set (dx := dx2) (p' := q2) (lv' := lvl P' + 1) (o' := opn P' + 1) r2.b r2.lp
          exact ⟨rfl, m2.trans m3, .par :: P', by rw [lvl_cons, opn_cons]; exact r3, by rw [List.length_cons]; omega, eR⟩
        · have c2 : s = [45] ∨ s = [43] ∨ s = [126] := c.resolve_left c1
          rw [if_neg c1, if_pos c2] at eR
          refine ⟨_, rfl, x, dx, _, rfl, hx, rfl, _, rfl, _, rfl, x, C_Reader, dx, _, _, rfl, hx, R.cl, R.place, rfl, (by show 3 ≤ sizeLine; decide), fun t nt => ?_⟩
          have s3 := Same.new (o := .tup [.str "ahead", .str (txt s), .int (q2 : Int)]) nt
          have r3 := r.same s3
          refine ⟨x, sl, ql, l, q2, lvl P', opn P', S, P', .op 7 ⟨kAHEAD, .str (txt s), q2⟩, .ref t, rfl, r3, hb, p1, ⟨⟨t, rfl, SqT.of upd_same⟩, by decide⟩, fun e => (h20 e).from (Mu.of s3), fun n20 H2 m2 r2 => ?_⟩
          rw [if_neg n20] at eR
          exact ⟨rfl, (Mu.of s3).trans m2, .op 7 ⟨kAHEAD, .str (txt s), q2⟩ :: P', by rw [lvl_cons, opn_cons]; exact r2, by rw [List.length_cons]; omega, eR⟩
      rintro σ H2 ⟨rfl, m2, P2, r2, b2, e2⟩
      obtain ⟨dx2, hx2⟩ := r2.i
      refine ⟨_, rfl, x, dx2, _, rfl, hx2, rfl, _, rfl, x, sl, ql, l, s, q2, lvl P2, opn P2, S, P2, rfl, r2, p3, fun H3 m3 r3 => ?_⟩
      obtain ⟨dx3, hx3⟩ := r3.i
      refine ⟨_, rfl, x, dx3, _, rfl, hx3, rfl, peek_use r3 (fun q0 ts0 e => ?_) fun H4 q4 s4 ts4 m4 r4 h4 e4 k4 => ?_⟩
      · refine (qe q0 ?_).from (m.trans (m2.trans m3))
        rw [p2] at e
        rw [← e2, e, runR_bad]
      · rw [p2] at e4
        rw [e4] at e2
        exact ⟨q4, s4, ts4, P2, rfl, by omega, m.trans (m2.trans (m3.trans m4)), r4, by omega, k4, e2, by omega⟩
  rintro σ H2 ⟨q2, s, ts, P', rfl, hpq, m, r, hb2, k2, hR2, c1, c2⟩
  obtain ⟨dx, hx⟩ := r.i
  have ll := r.ll
  have lp := r.lp
  have ls : s.length ≤ 1000000 := by
    rcases k2 with ⟨_, _, e, _, _⟩ | ⟨rfl, _⟩
    · omega
    · exact Nat.zero_le _
  have l1 : (txt s).length ≤ sizeLine := Nat.le_trans ls (by decide)
  have cA : isNm s = true → s ≠ [] := fun h z => by subst z; cases h
  have cB : isNum s = true → s ≠ [] := fun h z => by subst z; cases h
  have eR : runR sg true (.tok s q2 :: ts) S P' = Rz ∨ (s = [] ∧ Rz = .err q2) := by
    unfold tkOf at hR2
    by_cases z : s = []
    · rw [if_pos z] at hR2
      exact .inr ⟨z, hR2.symm⟩
    · rw [if_neg z] at hR2
      exact .inl hR2
  have bad : isNm s = false → isNum s = false → BadM C_BadText E x sl ql H q2 := fun a b => by
    refine qe q2 ?_
    rcases eR with e | ⟨_, e⟩
    · rw [runR_tok, if_neg c1, if_neg c2, a, b] at e
      rw [← e]
      rfl
    · exact e
  obtain ⟨us, g1, g2⟩ := r.s
  have lu := g2.len
  -- a step more
  have more : ∀ (k : Str) (w : V) (t : Addr), H2 t = none → s ≠ [] → runR sg false ts (S ++ [⟨k, w, q2⟩]) P' = Rz → ∃ S', (RdO K C_Reader (upd (upd H2 t (.tup [.str k, w, .int (q2 : Int)])) sl (.lst (us ++ [.ref t]))) x sl ql l q2 (lvl P') (opn P') S' P' ∧ S'.length + P'.length ≤ q2 + 1 ∧ runR sg false ts S' P' = Rz) ∧ Mu x sl ql H2 (upd (upd H2 t (.tup [.str k, w, .int (q2 : Int)])) sl (.lst (us ++ [.ref t]))) ∧ (upd H2 t (.tup [.str k, w, .int (q2 : Int)])) sl = some (.lst us) := fun k w t nt ne e => by
    have s3 := Same.new (o := .tup [.str k, w, .int (q2 : Int)]) nt
    have r3 := r.same s3
    have st : StV K (upd H2 t (.tup [.str k, w, .int (q2 : Int)])) (.ref t) ⟨k, w, q2⟩ := ⟨t, rfl, SqT.of upd_same⟩
    obtain ⟨r4, m4⟩ := r3.steps (us := us ++ [.ref t]) (S' := S ++ [⟨k, w, q2⟩]) ((g2.mono fun _ _ g => g.tps (same_tps s3)).app (.cons st .nil)) (by rw [List.length_append, List.length_singleton]; omega)
    exact ⟨_, ⟨r4, by rw [List.length_append, List.length_singleton]; omega, e⟩, (Mu.of s3).trans m4, s3 _ _ g1⟩
  refine ⟨fun σ H3 => σ = [some (.ref x), some (.str (txt s))] ∧ Mu x sl ql H2 H3 ∧ s ≠ [] ∧ ∃ S', RdO K C_Reader H3 x sl ql l q2 (lvl P') (opn P') S' P' ∧ S'.length + P'.length ≤ q2 + 1 ∧ runR sg false ts S' P' = Rz, ?_, ?_⟩
  · refine ⟨_, rfl, s, rfl, ls, _, rfl, ?_⟩
    cases hc : isNm s with
    | true =>
      refine iteT ?_
      refine ⟨_, rfl, x, C_Reader, dx, _, _, rfl, hx, R.cl, R.steps, rfl, .inl ⟨rfl, _, SqL.of g1⟩, _, rfl, _, rfl, x, C_Reader, dx, _, _, rfl, hx, R.cl, R.place, rfl, (by show 3 ≤ sizeLine; decide), fun t nt => ?_⟩
      have ne := cA hc
      have eR' := eR.resolve_right fun h => ne h.1
      rw [runR_tok, if_neg c1, if_neg c2, hc, if_pos rfl] at eR'
      obtain ⟨S', ⟨a, b, c⟩, m3, g3⟩ := more kNAME (.str (txt s)) t nt ne eR'
      exact ⟨sl, us, _, rfl, rfl, g3, Nat.lt_of_le_of_lt (show us.length ≤ 2000000 by omega) (by decide), rfl, m3, ne, S', a, b, c⟩
    | false =>
      refine iteF ?_
      refine ⟨_, rfl, _, ⟨l1, rfl⟩, ?_⟩
      have bads : isNum s = false → ∀ (H' : Hp) (a : Addr), Mu x sl ql H H' → H' a = none → E (.ref C_BadText) (some a) (upd H' a (.xd [("place", .int (q2 : Int))])) := fun h => bad hc h
      cases s with
      | nil =>
        refine iteF ?_
        exact ⟨_, rfl, x, C_Reader, dx, _, _, rfl, hx, R.cl, R.place, rfl, err_mk rfl (by decide) ⟨q2, rfl, by omega⟩ fun dd hd => bads rfl H2 dd m hd⟩
      | cons c s =>
        refine iteT ?_
        refine ⟨_, rfl, txt (c :: s), 0, c, rfl, rfl, l1, at_ch (l := c :: s) (i := 0) rfl, c, _, rfl, rfl, _, rfl, ?_⟩
        rw [dig_mem]
        cases hd : isDig c with
        | false =>
          refine iteF ?_
          exact ⟨_, rfl, x, C_Reader, dx, _, _, rfl, hx, R.cl, R.place, rfl, err_mk rfl (by decide) ⟨q2, rfl, by omega⟩ fun dd hd' => bads (by rw [isNum_cons, hd]; rfl) H2 dd m hd'⟩
        | true =>
          refine iteT ?_
          refine ⟨_, rfl, _, rfl, l1, _, _, rfl, rfl, _, rfl, ?_⟩
          rw [txt_len]
          refine iteD (fun c3 => ?_) (fun c3 => ?_)
          · have hn : isNum (c :: s) = true := by
              rw [isNum_cons, hd, decide_eq_true (show (c :: s).length ≤ 1000 by omega)]
              rfl
            obtain ⟨n1, n2, n3⟩ := k2.num nb hn
            have eR' := eR.resolve_right fun h => cB hn h.1
            rw [runR_tok, if_neg c1, if_neg c2, hc, if_neg (by decide), hn, if_pos rfl] at eR'
            refine ⟨_, rfl, x, C_Reader, dx, _, _, rfl, hx, R.cl, R.steps, rfl, .inl ⟨rfl, _, SqL.of g1⟩, _, rfl, txt (c :: s), _, rfl, intText_digits (x := txt (c :: s)) n1 n2 (by rw [txt_len]; omega), n3, _, rfl, x, C_Reader, dx, _, _, rfl, hx, R.cl, R.place, rfl, (by show 3 ≤ sizeLine; decide), fun t nt => ?_⟩
            obtain ⟨S', ⟨a, b, c'⟩, m3, g3⟩ := more kNUMBER (.int ((digitsVal (c :: s) : Nat) : Int)) t nt (cB hn) eR'
            exact ⟨sl, us, _, rfl, rfl, g3, Nat.lt_of_le_of_lt (show us.length ≤ 2000000 by omega) (by decide), rfl, m3, cB hn, S', a, b, c'⟩
          · exact ⟨_, rfl, x, C_Reader, dx, _, _, rfl, hx, R.cl, R.place, rfl, err_mk rfl (by decide) ⟨q2, rfl, by omega⟩ fun dd hd' => bads (by rw [isNum_cons, hd, decide_eq_false (fun h => c3 (by omega))]; rfl) H2 dd m hd'⟩
  rintro σ H3 ⟨rfl, m3, ne, S', r3, b3, e3⟩
  obtain ⟨p1, p2, p3, p4⟩ := k2.pos ne
  obtain ⟨dx3, hx3⟩ := r3.i
  refine ⟨_, rfl, x, dx3, _, rfl, hx3, rfl, _, rfl, x, sl, ql, l, s, q2, lvl P', opn P', S', P', rfl, r3, p3, fun H4 m4 r4 => ?_⟩
  exact q H4 (q2 + s.length) S' P' (by omega) (m.trans (m3.trans m4)) r4 (by omega) (by rw [p2]; exact e3)
end
end Fb
namespace Fb
open PySem L2 NdefX PySem.NumText
/-- the dict of strengths -/
structure StrG (K : PySem.W.Frag) (w : World) (mg : Str → Option Value) (T : Addr) : Prop where
  g : mg "STRENGTHS" = some (.ref T)
  d : ∃ es n, KDict K w T es n
  f : ∀ s : Chs, ∃ r, PySem.W.nsIn K T (txt s) = some r ∧ match strg s with
    | some k => ∃ t, r = some (.int (k : Int) t)
    | none => r = none
theorem runR_Bfin {sg : Chs → Bool} {q : Nat} {ts : List Tk} {S : List Stp} {P : List Pd} : runR sg false (.fin q :: ts) S P = if opn P = 0 then .ok (S ++ (settle 1 P).1) q else .err q := rfl
theorem runR_Btok {sg : Chs → Bool} {s : Chs} {q : Nat} {ts : List Tk} {S : List Stp} {P : List Pd} : runR sg false (.tok s q :: ts) S P = if s = [41] ∧ 0 < opn P then runR sg false ts (S ++ (settle 1 P).1) ((settle 1 P).2.drop 1)
    else if opn P = 0 ∧ sg s = true then .ok (S ++ (settle 1 P).1) q
    else match strg s with
      | none => .err q
      | some k => if k = 8 then (if lvl P = 20 then .err q else runR sg true ts S (.op 8 ⟨kBETWEEN, .str (txt s), q⟩ :: P))
        else runR sg true ts (S ++ (settle k P).1) (.op k ⟨kBETWEEN, .str (txt s), q⟩ :: (settle k P).2) := rfl
theorem strg_range {s : Chs} {k : Nat} (h : strg s = some k) : 1 ≤ k ∧ k ≠ 7 := by
  unfold strg at h
  repeat' split at h
  all_goals first
    | (injection h with h; subst h; exact ⟨by decide, by decide⟩)
    | cases h
theorem settle_opn (k : Nat) : ∀ P : List Pd, opn (settle k P).2 = opn P
  | [] => rfl
  | .par :: P => rfl
  | .op j s :: P => by
    show opn (if k ≤ j then (s :: (settle k P).1, (settle k P).2) else ([], .op j s :: P)).2 = _
    split
    · rw [opn_cons, show isPar (.op j s) = false from rfl, if_neg (by decide), Nat.add_zero]
      exact settle_opn k P
    · rfl
theorem settle_par : ∀ {P : List Pd}, (∀ k s, .op k s ∈ P → 1 ≤ k) → 0 < opn P → ∃ R, (settle 1 P).2 = .par :: R
  | [], _, h => by cases h
  | .par :: P, _, _ => ⟨P, rfl⟩
  | .op j s :: P, a, h => by
    rw [opn_cons, show isPar (.op j s) = false from rfl, if_neg (by decide), Nat.add_zero] at h
    obtain ⟨R, e⟩ := settle_par (P := P) (fun k s m => a k s (List.mem_cons_of_mem _ m)) h
    refine ⟨R, ?_⟩
    show (if 1 ≤ j then (s :: (settle 1 P).1, (settle 1 P).2) else ([], .op j s :: P)).2 = _
    rw [if_pos (a j s List.mem_cons_self)]
    exact e
theorem RdO.ops {K : PySem.W.Frag} {C x sl ql : Addr} {H : Hp} {l : Chs} {p lv o : Nat} {S : List Stp} {P : List Pd} (h : RdO K C H x sl ql l p lv o S P) : ∀ k s, .op k s ∈ P → 1 ≤ k := fun k s m => by
  obtain ⟨ws, hq, r⟩ := h.q
  clear hq
  have m' : Pd.op k s ∈ P.reverse := List.mem_reverse.mpr m
  generalize P.reverse = A at r m'
  induction r with
  | nil => cases m'
  | cons a _ ih =>
    rcases List.mem_cons.mp m' with rfl | m'
    · obtain ⟨_, _, _, _, _, e⟩ := a
      exact e
    · exact ih m'
theorem str_parR : (")" : Str) = txt [41] := by decide +kernel
theorem str_nil : ("" : Str) = txt [] := by decide +kernel
section
variable {P : Program} {w : World} {K : PySem.W.Frag} {mg : Str → Option Value} {base : Heap} {f : Addr} {fd : FuncData} {T_LONG_SIGNS T_NO_NAMES T_SIGNS_AHEAD T_STRENGTHS_OF_LEVELS T_STRENGTHS C_Reader C_BadText : Addr}
abbrev S_Reader_take_operator : Stmt := inClass (top 31) 4
abbrev N_Reader_take_operator : List Str := ["self", "signs", "token"]
abbrev P_Reader_take_operator : List Str := ["self", "signs"]
theorem sc_Reader_take_operator : FnScope N_Reader_take_operator P_Reader_take_operator (defScope S_Reader_take_operator) := ⟨rfl, rfl, rfl, by decide +kernel, rfl, by decide +kernel, by decide +kernel⟩
def spOpr (K : PySem.W.Frag) (C CB : Addr) : Sp := fun vs H Q E => ∃ (x sl ql tg : Addr) (l : Chs) (p : Nat) (S : List Stp) (P : List Pd) (sgl : List Chs) (R : Rs), vs = [.ref x, .ref tg] ∧ SqT K H tg (sgl.map fun c => V.str (txt c)) ∧ RdO K C H x sl ql l p (lvl P) (opn P) S P ∧ S.length + P.length ≤ p ∧ runR sgl.contains false (lex (l.drop p) p) S P = R ∧ spGo K C CB true sgl.contains x sl ql l R p H (Q (.bl true)) E ∧
  ∀ H' S' q P' lv o, Mu x sl ql H H' → RdO K C H' x sl ql l q lv o S' P' → R = .ok S' q → Q (.bl false) H'
theorem ok_operator (T : ExpK K mg T_LONG_SIGNS T_NO_NAMES T_SIGNS_AHEAD T_STRENGTHS_OF_LEVELS) (G : StrG K w mg T_STRENGTHS) (R : ReK K C_Reader) (F : Fun K "take_operator" "Reader.take_operator" S_Reader_take_operator f fd) (B : Blt mg) (TB : Err P w K mg base "BadText" C_BadText ["place"] onePl)
    (ME_Reader_peek : HasMX P w K mg base 5 "peek" C_Reader P_Reader_peek (spPeek K C_Reader C_BadText)) (ME_Reader_skip : HasMeth P w K mg base 1 "skip" C_Reader P_Reader_skip (spSkip K C_Reader)) (ME_Reader_settle : HasMeth P w K mg base 2 "settle" C_Reader P_Reader_settle (spSettle K C_Reader)) (ME_Reader_close_parenthesis : HasMeth P w K mg base 3 "close_parenthesis" C_Reader P_Reader_close_parenthesis (spClosePar K C_Reader))
    (ME_Reader_begin_right_side : HasMX P w K mg base 5 "begin_right_side" C_Reader P_Reader_begin_right_side (spBegin_ K C_Reader C_BadText)) : FnOk P w K mg base (L2.CX P w) 6 f fd P_Reader_take_operator (spOpr K C_Reader C_BadText) := by
  have nd := sc_Reader_take_operator.nd
  have CL_Reader := R.cl
  have MG_STRENGTHS := G.g
  obtain ⟨es, n, D_STRENGTHS⟩ := G.d
  obtain ⟨_, MG_LEAST_STRENGTH⟩ := T.ls
  obtain ⟨_, MG_BETWEEN⟩ := T.kB
  refine F.okX sc_Reader_take_operator (fun vs H Q E h => ?_) (fun cdv A outer s H vs Q E hr h => ?_)
  · obtain ⟨x, sl, ql, tg, l, p, S, P, sgl, R, rfl, _⟩ := h
    rfl
  obtain ⟨x, sl, ql, tg, l, p, S, P, sgl, Rz, rfl, htg, r, hb, hR, ⟨qe, qt⟩, qf⟩ := h
  refine ⟨_, (pss_cons (ps_set (i := 2) nd rfl (Or.inl rfl) (pe_mx0 CL_Reader ME_Reader_peek (takes_of rfl rfl rfl rfl) (hr.mono (by decide)) (pv 0)))
    (C8.pss_cut (ps_while (passes_of rfl) (PW.pt (pw_and (pt_cmpR op_eq (pv 2) pe_str (nomark _)) (pw_and1 (pt_cmpR op_gt (pe_fld (pv 0) rfl) pe_int (nomark _))))) (pss_cons (ps_expr (pe_me0 CL_Reader ME_Reader_close_parenthesis (hr.mono (by decide)) (pv 0)))
    (pss_cons (ps_expr (pe_meA CL_Reader ME_Reader_skip (hr.mono (by decide)) (pv 0) (pa_cons (pv 2) pa_nil)))
    (pss_one (ps_set (i := 2) nd rfl (Or.inl rfl) (pe_mx0 CL_Reader ME_Reader_peek (takes_of rfl rfl rfl rfl) (hr.mono (by decide)) (pv 0)))))))
    (C8.pss_cut (ps_if (PW.pt (pw_and (pt_cmpR op_eq (pe_fld (pv 0) rfl) pe_int (nomark _)) (pw_and1 (PW.pt (pw_or (pt_cmpR op_eq (pv 2) pe_str (nomark _)) (pw_or1 (pt_cmpR op_in_seq (pv 2) (pv 1) (by rfl)))))))) (pss_cons (ps_expr (pe_meA CL_Reader ME_Reader_settle (hr.mono (by decide)) (pv 0) (pa_cons (pe_glob (v := .int 1) rfl MG_LEAST_STRENGTH ⟨_, rfl⟩) pa_nil)))
    (pss_one (ps_ret pe_bl))) pss_nil)
    (C8.pss_cut (ps_if (pt_cmpR (op_notIn_kd D_STRENGTHS) (pv 2) (pe_glob (v := .ref T_STRENGTHS) rfl MG_STRENGTHS rfl) (by rfl)) (pss_one (ps_raise rfl (takes_of rfl rfl rfl rfl) (pmk_err TB (hr.mono (by decide)) rfl (pa_cons (pe_fld (pv 0) rfl) pa_nil)))) pss_nil)
    (pss_cons (ps_expr (pe_mxA CL_Reader ME_Reader_begin_right_side (takes_of rfl rfl rfl rfl) (hr.mono (by decide)) (pv 0) (pa_cons (pe_ix ix_kdict (pe_glob (v := .ref T_STRENGTHS) rfl MG_STRENGTHS rfl) (pv 2) (fun _ _ => rfl)) (pa_cons (pe_tup (pa_cons (pe_glob (v := .str "between") rfl MG_BETWEEN ⟨_, rfl⟩) (pa_cons (pv 2) (pa_cons (pe_fld (pv 0) rfl) pa_nil)))) pa_nil))))
    (pss_cons (ps_expr (pe_meA CL_Reader ME_Reader_skip (hr.mono (by decide)) (pv 0) (pa_cons (pv 2) pa_nil)))
    (pss_one (ps_ret pe_bl)))))))), ?_⟩
  obtain ⟨dx, hx⟩ := r.i
  refine ⟨_, rfl, x, dx, _, rfl, hx, rfl, peek_use r (fun q0 ts e => ?_) fun H1 q1 s1 ts1 m1 r1 h1 e1 k1 => ?_⟩
  · rw [e, runR_bad] at hR
    exact qe q0 hR.symm
  rw [e1] at hR
  have htg1 := r.tps m1 _ _ htg
  refine ⟨fun σ H' => ∃ q s ts S' P', σ = [some (.ref x), some (.ref tg), some (.str (txt s))] ∧ p ≤ q ∧ Mu x sl ql H H' ∧ SqT K H' tg (sgl.map fun c => V.str (txt c)) ∧ RdO K C_Reader H' x sl ql l q (lvl P') (opn P') S' P' ∧ S'.length + P'.length ≤ q ∧ PkA l q s ts ∧ runR sgl.contains false (tkOf s q :: ts) S' P' = Rz ∧ ¬ (s = [41] ∧ 0 < opn P'), ?_, ?_⟩
  · refine ⟨fun k σ H' => ∃ q s ts S' P', k = l.length - q ∧ σ = [some (.ref x), some (.ref tg), some (.str (txt s))] ∧ p ≤ q ∧ Mu x sl ql H H' ∧ SqT K H' tg (sgl.map fun c => V.str (txt c)) ∧ RdO K C_Reader H' x sl ql l q (lvl P') (opn P') S' P' ∧ S'.length + P'.length ≤ q ∧ PkA l q s ts ∧ runR sgl.contains false (tkOf s q :: ts) S' P' = Rz, ⟨_, q1, s1, ts1, S, P, rfl, rfl, h1, m1, htg1, r1, by omega, k1, hR⟩, ?_⟩
    clear hR e1 k1 m1 r1 hx r hb htg htg1
    rintro k σ H' ⟨q2, s, ts, S', P', rfl, rfl, hpq, m, htg, r, hb, k1, hR⟩
    obtain ⟨dx, hx⟩ := r.i
    have exit_ : ¬ (s = [41] ∧ 0 < opn P') → ∃ q s' ts S' P', ([some (.ref x), some (.ref tg), some (.str (txt s))] : L2.St) = [some (.ref x), some (.ref tg), some (.str (txt s'))] ∧ p ≤ q ∧ Mu x sl ql H H' ∧ SqT K H' tg (sgl.map fun c => V.str (txt c)) ∧ RdO K C_Reader H' x sl ql l q (lvl P') (opn P') S' P' ∧ S'.length + P'.length ≤ q ∧ PkA l q s' ts ∧ runR sgl.contains false (tkOf s' q :: ts) S' P' = Rz ∧ ¬ (s' = [41] ∧ 0 < opn P') := fun a => ⟨q2, s, ts, S', P', rfl, hpq, m, htg, r, hb, k1, hR, a⟩
    refine ⟨_, rfl, rfl, _, rfl, ?_⟩
    rw [eq_txt str_parR]
    refine iteD (fun c1 => ?_) (fun c1 => iteF (exit_ fun h => c1 h.1))
    refine ⟨_, rfl, x, C_Reader, dx, _, _, rfl, hx, R.cl, R.op, rfl, _, _, rfl, rfl, _, rfl, ?_⟩
    refine iteD (fun c2 => ?_) (fun c2 => exit_ fun h => c2 (by have := h.2; omega))
    have o1 : 0 < opn P' := by omega
    have ne : s ≠ [] := by rw [c1]; exact List.cons_ne_nil _ _
    obtain ⟨p1, p2, p3, p4⟩ := k1.pos ne
    obtain ⟨Rs, es⟩ := settle_par r.ops o1
    have eR : runR sgl.contains false ts (S' ++ (settle 1 P').1) Rs = Rz := by
      rw [← hR]
      unfold tkOf
      rw [if_neg ne, runR_Btok, if_pos ⟨c1, o1⟩, es]
      rfl
    have eo : opn P' = opn Rs + 1 := by
      have := settle_opn 1 P'
      rw [es, opn_cons] at this
      exact this.symm
    have el := settle_len 1 P'
    rw [es, List.length_cons] at el
    clear exit_
    refine ⟨fun σ H2 => ∃ q s' ts' S2 P2, σ = [some (.ref x), some (.ref tg), some (.str (txt s'))] ∧ p ≤ q ∧ Mu x sl ql H H2 ∧ SqT K H2 tg (sgl.map fun c => V.str (txt c)) ∧ RdO K C_Reader H2 x sl ql l q (lvl P2) (opn P2) S2 P2 ∧ S2.length + P2.length ≤ q ∧ PkA l q s' ts' ∧ runR sgl.contains false (tkOf s' q :: ts') S2 P2 = Rz ∧ q2 < q, ?_, ?_⟩
    · rintro σ H2 ⟨q, s', ts', S2, P2, rfl, hpq2, m2, g2, r2, b2, k2, e2, lt⟩
      exact ⟨_, show l.length - q < l.length - q2 by omega, q, s', ts', S2, P2, rfl, rfl, hpq2, m2, g2, r2, b2, k2, e2⟩
    rw [eo] at r
    refine ⟨_, rfl, x, dx, _, rfl, hx, rfl, x, sl, ql, l, q2, opn Rs, S', P', Rs, rfl, r, es, fun H2 m2 r2 => ?_⟩
    obtain ⟨dx2, hx2⟩ := r2.i
    refine ⟨_, rfl, x, dx2, _, rfl, hx2, rfl, _, rfl, x, sl, ql, l, s, q2, _, _, _, _, rfl, r2, p3, fun H3 m3 r3 => ?_⟩
    obtain ⟨dx3, hx3⟩ := r3.i
    refine ⟨_, rfl, x, dx3, _, rfl, hx3, rfl, peek_use r3 (fun q0 ts0 e => ?_) fun H4 q4 s4 ts4 m4 r4 h4 e4 k4 => ?_⟩
    · refine (qe q0 ?_).from (m.trans (m2.trans m3))
      rw [p2] at e
      rw [← eR, e, runR_bad]
    · rw [p2] at e4
      rw [e4] at eR
      have mm := m2.trans (m3.trans m4)
      exact ⟨q4, s4, ts4, _, Rs, rfl, by omega, m.trans mm, r.tps mm _ _ htg, r4, by rw [List.length_append]; omega, k4, eR, by omega⟩
  clear hR e1 k1 m1 r1 hx r hb htg htg1
  rintro σ H' ⟨q2, s, ts, S', P', rfl, hpq, m, htg, r, hb, k1, hR, cp⟩
  obtain ⟨dx, hx⟩ := r.i
  have eN : s ≠ [] → runR sgl.contains false (.tok s q2 :: ts) S' P' = Rz := fun ne => by
    rw [← hR]
    unfold tkOf
    rw [if_neg ne]
  have eF : s = [] → runR sgl.contains false (.fin q2 :: ts) S' P' = Rz := fun ne => by
    rw [← hR]
    unfold tkOf
    rw [if_pos ne]
  refine ⟨fun σ H2 => σ = [some (.ref x), some (.ref tg), some (.str (txt s))] ∧ H2 = H' ∧ ¬ (opn P' = 0 ∧ (s = [] ∨ sgl.contains s = true)), ?_, ?_⟩
  · apply forkP (C := opn P' = 0 ∧ (s = [] ∨ sgl.contains s = true))
    · intro body
      refine ⟨_, rfl, x, C_Reader, dx, _, _, rfl, hx, R.cl, R.op, rfl, rfl, _, rfl, ?_⟩
      refine iteD (fun c1 => ?_) (fun c1 => iteF ⟨rfl, rfl, fun h => c1 (by rw [h.1]; rfl)⟩)
      have o0 : opn P' = 0 := by injection c1 with c1; omega
      refine ⟨_, rfl, rfl, _, rfl, ?_⟩
      rw [eq_txt str_nil]
      refine iteD (fun c2 => iteT (body ⟨o0, .inl c2⟩)) (fun c2 => ?_)
      refine ⟨_, rfl, _, rfl, tg, _, rfl, .inr htg, rfl, all_flat _, _, rfl, ?_⟩
      show if inV (.str (txt s)) (sgl.map fun c => V.str (txt c)) = true then _ else _
      rw [inV_txt]
      cases hc : sgl.contains s with
      | true => exact iteT (body ⟨o0, .inr hc⟩)
      | false => exact iteF ⟨rfl, rfl, fun h => h.2.elim c2 (fun z => by cases z)⟩
    · rintro ⟨o0, hs⟩
      have eO : Rz = .ok (S' ++ (settle 1 P').1) q2 := by
        by_cases z : s = []
        · rw [← eF z, runR_Bfin, if_pos o0]
        · rw [← eN z, runR_Btok, if_neg cp, if_pos ⟨o0, hs.resolve_left z⟩]
      refine ⟨_, rfl, x, dx, _, rfl, hx, rfl, x, sl, ql, l, q2, opn P', 1, S', P', rfl, r, Nat.le_refl 1, fun H2 m2 r2 => ?_⟩
      exact qf H2 _ q2 _ _ _ (m.trans m2) r2 eO
  rintro σ H2 ⟨rfl, rfl, cd⟩
  obtain ⟨u, eu, ku⟩ := G.f s
  refine ⟨fun σ H3 => σ = [some (.ref x), some (.ref tg), some (.str (txt s))] ∧ H3 = H2 ∧ ∃ k t, strg s = some k ∧ u = some (.int (k : Int) t), ?_, ?_⟩
  · refine ⟨_, rfl, txt s, u, rfl, rfl, eu, _, rfl, ?_⟩
    cases hk : strg s with
    | none =>
      rw [hk] at ku
      dsimp only at ku
      subst ku
      refine iteT ?_
      have eE : Rz = .err q2 := by
        by_cases z : s = []
        · rw [← eF z, runR_Bfin, if_neg (fun h => cd ⟨h, .inl z⟩)]
        · rw [← eN z, runR_Btok, if_neg cp, if_neg (fun h => cd ⟨h.1, .inr h.2⟩), hk]
      have ll := r.ll
      have lp := r.lp
      exact ⟨_, rfl, x, C_Reader, dx, _, _, rfl, hx, R.cl, R.place, rfl, err_mk rfl (by decide) ⟨q2, rfl, by omega⟩ fun dd hd => qe q2 eE _ dd m hd⟩
    | some k =>
      rw [hk] at ku
      obtain ⟨t, rfl⟩ := ku
      exact iteF ⟨rfl, rfl, k, t, rfl, rfl⟩
  rintro σ H3 ⟨rfl, rfl, k, tk, hk, rfl⟩
  have ne : s ≠ [] := fun z => by subst z; cases (show (none : Option Nat) = some k from hk)
  obtain ⟨p1, p2, p3, p4⟩ := k1.pos ne
  obtain ⟨k0, k7⟩ := strg_range hk
  have eR := eN ne
  rw [runR_Btok, if_neg cp, if_neg (fun h => cd ⟨h.1, .inr h.2⟩), hk] at eR
  dsimp only at eR
  refine ⟨_, rfl, x, dx, _, rfl, hx, rfl, _, rfl, T_STRENGTHS, txt s, .int (k : Int), rfl, rfl, ⟨es, n, _, D_STRENGTHS.at_, D_STRENGTHS.lit, eu, ⟨tk, rfl⟩⟩, _, rfl, _, rfl, x, C_Reader, dx, _, _, rfl, hx, R.cl, R.place, rfl, (by show 3 ≤ sizeLine; decide), fun t nt => ?_⟩
  have s3 := Same.new (o := .tup [.str "between", .str (txt s), .int (q2 : Int)]) nt
  have r3 := r.same s3
  have st3 : StV K _ (.ref t) ⟨kBETWEEN, .str (txt s), q2⟩ := ⟨t, rfl, SqT.of (upd_same (a := t) (H := H3) (o := .tup [.str "between", .str (txt s), .int (q2 : Int)]))⟩
  have sl1 := settle_len k P'
  have tail : ∀ S2 P2 H4, Mu x sl ql H3 H4 → RdO K C_Reader H4 x sl ql l q2 (lvl P2) (opn P2) S2 P2 → S2.length + P2.length ≤ q2 + 1 → runR sgl.contains true ts S2 P2 = Rz → ∀ H5, Mu x sl ql H4 H5 → RdO K C_Reader H5 x sl ql l (q2 + s.length) (lvl P2) (opn P2) S2 P2 → Q (.bl true) H5 := fun S2 P2 H4 m4 r4 b4 e4 H5 m5 r5 => qt H5 (q2 + s.length) S2 P2 (by omega) (m.trans (m4.trans m5)) r5 (by omega) (by rw [p2]; exact e4)
  refine ⟨x, sl, ql, l, q2, opn P', k, S', P', _, .ref t, rfl, r3, hb, p1, st3, k0, k7, ?_⟩
  by_cases c8 : k = 8
  · subst c8
    rw [if_pos rfl] at eR
    rw [if_pos rfl]
    refine ⟨fun h20 => (qe q2 ?_).from (m.trans (Mu.of s3)), fun n20 H4 m4 r4 => ?_⟩
    · rw [← eR, if_pos h20]
    · rw [if_neg n20] at eR
      obtain ⟨dx4, hx4⟩ := r4.i
      have o4 : opn (.op 8 ⟨kBETWEEN, .str (txt s), q2⟩ :: P') = opn P' := by rw [opn_cons]; rfl
      rw [← o4] at r4
      exact ⟨_, rfl, x, dx4, _, rfl, hx4, rfl, _, rfl, x, sl, ql, l, s, q2, _, _, _, _, rfl, r4, p3, fun H5 m5 r5 => tail _ _ H4 ((Mu.of s3).trans m4) r4 (by rw [List.length_cons]; omega) eR H5 m5 r5⟩
  · rw [if_neg c8] at eR
    rw [if_neg c8]
    intro H4 m4 r4
    obtain ⟨dx4, hx4⟩ := r4.i
    have o4 : opn (.op k ⟨kBETWEEN, .str (txt s), q2⟩ :: (settle k P').2) = opn P' := by
      rw [opn_cons, show isPar (.op k ⟨kBETWEEN, .str (txt s), q2⟩) = false from rfl, if_neg (by decide), Nat.add_zero, settle_opn]
    rw [← o4] at r4
    exact ⟨_, rfl, x, dx4, _, rfl, hx4, rfl, _, rfl, x, sl, ql, l, s, q2, _, _, _, _, rfl, r4, p3, fun H5 m5 r5 => tail _ _ H4 ((Mu.of s3).trans m4) r4 (by rw [List.length_cons, List.length_append]; omega) eR H5 m5 r5⟩
end
end Fb
namespace Fb
open PySem L2
/-! ### a call by keywords alone of a def that may raise -/
structure HasXK (P : Program) (w : World) (K : PySem.W.Frag) (mg : Str → Option Value) (base : Heap) (k : Nat) (x : Str) (ps ks : List Str) (sp : Sp) : Prop where
  ex : ∃ f fd, FnOk P w K mg base (L2.CX P w) k f fd ps sp ∧ PySem.W.keepIn K (.ref f) = true ∧ mg x = some (.ref f) ∧ ∀ (s : Shared) (ws : List Value), K.In s.heap → ws.length = ps.length → BindsTo s fd ⟨[], ks.zip ws⟩ (ps.zip ws)
theorem run_fnSK {X : Cx} {CX : CXT} {k : Nat} {f : Addr} {fd : FuncData} {ps ks : List Str} {sp : Sp} {σ : St} {E : XK} {pins : List (Addr × Obj)} {H : Hp} {s : Shared} {Q : VK} {ws : List Value} {zs : List V} (F : FnOk X.prog X.w X.K X.mg X.base CX k f fd ps sp) (hr : Room k X.A) (hb : ∀ (s : Shared) (ws : List Value), X.K.In s.heap → ws.length = ps.length → BindsTo s fd ⟨[], ks.zip ws⟩ (ps.zip ws)) (hx : PassesAt CX X σ E)
    (I : Inv X pins σ H s) (r : Vals zs ws) (h : sp zs H Q E) : wpAny (model X.prog X.w) X.A (call (.ref f) [] (ks.zip ws)) (EP X pins σ Q) X.xe s := by
  have hl : ws.length = ps.length := by rw [← r.length]; exact F.len _ _ _ _ h
  refine wpAny_call (codeAny_mono (F.run X.A X.stack s H ⟨[], ks.zip ws⟩ ws zs Q E hr I.env0 (hb s ws I.kIn hl) r h) fun r s' hq => ?_)
  cases r with
  | error e => exact hx pins H s e s' I hq
  | ok fl =>
    cases fl with
    | ret u => exact I.after hq
    | next => exact False.elim hq
    | brk => exact False.elim hq
    | cont => exact False.elim hq
theorem pe_HXK0 {X : Cx} {W : WX} {k : Nat} {x : Str} {ps ks : List Str} {sp : Sp} {kws : List Keyword} {tk : TA} {p pos : Pos} (C : HasXK X.prog X.w X.K X.mg X.base k x ps ks sp) (tks : Takes X W) (hr : Room k X.A) (hg : Gl X x) (hkw : PK X kws tk)
    (hall : (backToKw pos (keywordEach kws X.env)).all (·.1.isSome) = true := by rfl) (hks : (backToKw pos (keywordEach kws X.env)).filterMap (·.1) = ks := by rfl) (hdb : (x == ("__debug__" : Str)) = false := by decide)
    (hpl : ((backTo pos (starEach [] X.env)).any (·.1) || (backToKw pos (keywordEach kws X.env)).any (·.1.isNone)) = false := by rfl) : PE X (.Call (.Name x p) [] kws pos) (tCallS sp (fun σ => WE W σ) tk) := by
  obtain ⟨f, fd, F, hk, hm, hb⟩ := C.ex
  refine ⟨fun pins s σ H Q I h => ?_⟩
  refine wpAny_Call_Name_kw (ld_glob I hg hm ?_ hdb)
  refine PySem.W.callWith_KW0 (h₀ := X.base) I.ok.mod.kin hk hall (thn (hkw.run pos pins s σ H _ I h) fun ws s2 ⟨zs, H2, I2, rz, q2⟩ => ⟨I2.kIn, ?_⟩) hpl
  rw [hks]
  exact run_fnSK F hr hb (passAt tks σ) I2 rz q2
theorem Fun.kx2 {K : PySem.W.Frag} {x qual m n : Str} {st : Stmt} {f : Addr} {fd : FuncData} (F : Fun K x qual st f fd)
    (h0 : ∀ (kV doc pm : Value) (an : Option Addr) (cdv ct u v : Value), bindArgs (PySem.W.fnOf x qual (defArgs st) (defBody st) (defScope st) .none kV doc pm an cdv ct) ⟨[], [(m, u), (n, v)]⟩ = pure [(m, u), (n, v)]) :
    ∀ (s : Shared) (ws : List Value), K.In s.heap → ws.length = 2 → BindsTo s fd ⟨[], [m, n].zip ws⟩ ([m, n].zip ws) := by
  obtain ⟨oc, od, kV, doc, pm, an, cdv, ct, osl, rfl, lk, hcd⟩ := F.ex
  exact fun s ws _ hl => match ws, hl with
    | [u, v], _ => .of_eq (h0 kV doc pm an cdv ct u v)
end Fb
/-! ### calls by keywords alone, in any order -/
namespace Fb
open PySem L2
def clsBody (s : Stmt) : List Stmt := match s with
  | .ClassDef _ _ _ b _ _ _ _ _ _ _ => b
  | _ => []
def pmL {α : Type} (pi : List Nat) (d : α) (us : List α) : List α := pi.map fun i => us.getD i d
theorem vals_getD : ∀ {vs : List V} {us : List Value}, Vals vs us → ∀ i : Nat, RelV (vs.getD i .non) (us.getD i .none)
  | _, _, .nil, i => by
    show RelV (([] : List V).getD i .non) (([] : List Value).getD i .none)
    rw [List.getD_nil, List.getD_nil]
    rfl
  | _, _, .cons r rz, 0 => r
  | _, _, .cons r rz, i + 1 => by
    rw [List.getD_cons_succ, List.getD_cons_succ]
    exact vals_getD rz i
theorem vals_pm {vs : List V} {us : List Value} (r : Vals vs us) : ∀ pi : List Nat, Vals (pmL pi .non vs) (pmL pi .none us)
  | [] => .nil
  | i :: pi => .cons (vals_getD r i) (vals_pm r pi)
structure HasKP (P : Program) (w : World) (K : PySem.W.Frag) (mg : Str → Option Value) (base : Heap) (k : Nat) (x : Str) (ks ps : List Str) (pi : List Nat) (sp : Sp) : Prop where
  ex : ∃ f fd, FnOk P w K mg base CX0 k f fd ps sp ∧ PySem.W.keepIn K (.ref f) = true ∧ mg x = some (.ref f) ∧ ∀ (s : Shared) (us : List Value), us.length = ks.length → BindsTo s fd ⟨[], ks.zip us⟩ (ps.zip (pmL pi .none us))
theorem Fun.kp_ {K : PySem.W.Frag} {x qual : Str} {st : Stmt} {f : Addr} {fd : FuncData} {ks ps : List Str} {pi : List Nat} (F : Fun K x qual st f fd)
    (h : ∀ (kV doc pm : Value) (an : Option Addr) (cdv ct : Value) (us : List Value), us.length = ks.length → bindArgs (PySem.W.fnOf x qual (defArgs st) (defBody st) (defScope st) .none kV doc pm an cdv ct) ⟨[], ks.zip us⟩ = pure (ps.zip (pmL pi .none us))) :
    ∀ (s : Shared) (us : List Value), us.length = ks.length → BindsTo s fd ⟨[], ks.zip us⟩ (ps.zip (pmL pi .none us)) := by
  obtain ⟨oc, od, kV, doc, pm, an, cdv, ct, osl, rfl, lk, hcd⟩ := F.ex
  exact fun s us hl => .of_eq (h kV doc pm an cdv ct us hl)
def tCallKP (sp : Sp) (n : Nat) (pi : List Nat) (tk : TA) : TE := fun σ H Q => tk σ H fun zs H2 => zs.length = n ∧ sp (pmL pi .non zs) H2 Q E0
section
variable {X : Cx} {k : Nat} {x : Str} {ks ps : List Str} {pi : List Nat} {sp : Sp} {kws : List Keyword} {tk : TA} {p pos : Pos}
theorem run_kp {f : Addr} {fd : FuncData} {pins : List (Addr × Obj)} {σ : L2.St} {H : Hp} {s : Shared} {Q : VK} {kw : List (Str × Value)} {us : List Value} {vs : List V} (F : FnOk X.prog X.w X.K X.mg X.base CX0 k f fd ps sp) (hr : Room k X.A) (hb : BindsTo s fd ⟨[], kw⟩ (ps.zip us))
    (I : Inv X pins σ H s) (r : Vals vs us) (h : sp vs H Q E0) : wpAny (model X.prog X.w) X.A (call (.ref f) [] kw) (EP X pins σ Q) X.xe s := by
  refine wpAny_call (codeAny_mono (F.run X.A X.stack s H ⟨[], kw⟩ us vs Q E0 hr I.env0 hb r h) fun r s' hq => ?_)
  cases r with
  | error e => exact hq.elim
  | ok fl =>
    cases fl with
    | ret u => exact I.after hq
    | next => exact False.elim hq
    | brk => exact False.elim hq
    | cont => exact False.elim hq
theorem vals_len : ∀ {vs : List V} {us : List Value}, Vals vs us → us.length = vs.length
  | _, _, .nil => rfl
  | _, _, .cons _ rz => by rw [List.length_cons, List.length_cons, vals_len rz]
theorem pe_KP (C : HasKP X.prog X.w X.K X.mg X.base k x ks ps pi sp) (hr : Room k X.A) (hg : Gl X x) (hkw : PK X kws tk)
    (hall : (backToKw pos (keywordEach kws X.env)).all (·.1.isSome) = true := by rfl) (hks : (backToKw pos (keywordEach kws X.env)).filterMap (·.1) = ks := by rfl) (hdb : (x == ("__debug__" : Str)) = false := by decide)
    (hpl : ((backTo pos (starEach [] X.env)).any (·.1) || (backToKw pos (keywordEach kws X.env)).any (·.1.isNone)) = false := by rfl) : PE X (.Call (.Name x p) [] kws pos) (tCallKP sp ks.length pi tk) := by
  obtain ⟨f, fd, F, hk, hm, hb⟩ := C.ex
  refine ⟨fun pins s σ H Q I h => ?_⟩
  refine wpAny_Call_Name_kw (ld_glob I hg hm ?_ hdb)
  refine PySem.W.callWith_KW0 (h₀ := X.base) I.ok.mod.kin hk hall (thn (hkw.run pos pins s σ H _ I h) fun ws s2 ⟨zs, H2, I2, rz, hl, q2⟩ => ⟨I2.kIn, ?_⟩) hpl
  rw [hks]
  exact run_kp F hr (hb s2 ws (by rw [vals_len rz, hl])) I2 (vals_pm rz pi) q2
end
/-! ### the same of a def that may raise -/
structure HasXP (P : Program) (w : World) (K : PySem.W.Frag) (mg : Str → Option Value) (base : Heap) (k : Nat) (x : Str) (ks ps : List Str) (pi : List Nat) (sp : Sp) : Prop where
  ex : ∃ f fd, FnOk P w K mg base (L2.CX P w) k f fd ps sp ∧ PySem.W.keepIn K (.ref f) = true ∧ mg x = some (.ref f) ∧ ∀ (s : Shared) (us : List Value), us.length = ks.length → BindsTo s fd ⟨[], ks.zip us⟩ (ps.zip (pmL pi .none us))
def tCallXP (sp : Sp) (n : Nat) (pi : List Nat) (E : St → XK) (tk : TA) : TE := fun σ H Q => tk σ H fun zs H2 => zs.length = n ∧ sp (pmL pi .non zs) H2 Q (E σ)
theorem pe_XP {X : Cx} {W : WX} {k : Nat} {x : Str} {ps ks : List Str} {pi : List Nat} {sp : Sp} {kws : List Keyword} {tk : TA} {p pos : Pos} (C : HasXP X.prog X.w X.K X.mg X.base k x ks ps pi sp) (tks : Takes X W) (hr : Room k X.A) (hg : Gl X x) (hkw : PK X kws tk)
    (hall : (backToKw pos (keywordEach kws X.env)).all (·.1.isSome) = true := by rfl) (hks : (backToKw pos (keywordEach kws X.env)).filterMap (·.1) = ks := by rfl) (hdb : (x == ("__debug__" : Str)) = false := by decide)
    (hpl : ((backTo pos (starEach [] X.env)).any (·.1) || (backToKw pos (keywordEach kws X.env)).any (·.1.isNone)) = false := by rfl) : PE X (.Call (.Name x p) [] kws pos) (tCallXP sp ks.length pi (fun σ => WE W σ) tk) := by
  obtain ⟨f, fd, F, hk, hm, hb⟩ := C.ex
  refine ⟨fun pins s σ H Q I h => ?_⟩
  refine wpAny_Call_Name_kw (ld_glob I hg hm ?_ hdb)
  refine PySem.W.callWith_KW0 (h₀ := X.base) I.ok.mod.kin hk hall (thn (hkw.run pos pins s σ H _ I h) fun ws s2 ⟨zs, H2, I2, rz, hl, q2⟩ => ⟨I2.kIn, ?_⟩) hpl
  rw [hks]
  have hx : PassesAt (L2.CX X.prog X.w) X σ (WE W σ) := passAt tks σ
  refine wpAny_call (codeAny_mono (F.run X.A X.stack s2 H2 ⟨[], ks.zip ws⟩ _ _ Q (WE W σ) hr I2.env0 (hb s2 ws (by rw [vals_len rz, hl])) (vals_pm rz pi) q2) fun r s' hq => ?_)
  cases r with
  | error e => exact hx pins H2 s2 e s' I2 hq
  | ok fl =>
    cases fl with
    | ret u => exact I2.after hq
    | next => exact False.elim hq
    | brk => exact False.elim hq
    | cont => exact False.elim hq
end Fb
namespace Fb
open PySem
/-! ### the ones of a number, the turns of an int -/
def ones (m : Nat) : List Nat := if h : m = 0 then [] else (if m % 2 = 1 then [0] else []) ++ (ones (m / 2)).map (· + 1)
termination_by m
decreasing_by omega
theorem ones_zero : ones 0 = [] := by rw [ones]; rfl
theorem ones_pos {m : Nat} (h : m ≠ 0) : ones m = (if m % 2 = 1 then [0] else []) ++ (ones (m / 2)).map (· + 1) := by rw [ones, dif_neg h]
theorem ones_even (m : Nat) : ones (2 * m) = (ones m).map (· + 1) := by
  by_cases h : m = 0
  · subst h; rw [ones_zero]; rfl
  · rw [ones_pos (by omega), if_neg (by omega), show 2 * m / 2 = m by omega]; rfl
theorem ones_odd (m : Nat) : ones (2 * m + 1) = 0 :: (ones m).map (· + 1) := by
  rw [ones_pos (by omega), if_pos (by omega), show (2 * m + 1) / 2 = m by omega]; rfl
theorem ones_shift (k m : Nat) : ones (2 ^ k * m) = (ones m).map (· + k) := by
  induction k with
  | zero => simp
  | succ k ih =>
    rw [show 2 ^ (k + 1) * m = 2 * (2 ^ k * m) by rw [Nat.pow_succ]; simp [Nat.mul_comm, Nat.mul_left_comm, Nat.mul_assoc], ones_even, ih, List.map_map]
    exact List.map_congr_left fun x _ => by show x + k + 1 = x + (k + 1); omega
/-- the lowest one -/
theorem low_of {m : Nat} (h : m ≠ 0) : ∃ k a, m = 2 ^ k * (2 * a + 1) := by
  induction m using Nat.strongRecOn with
  | _ m ih =>
    by_cases e : m % 2 = 1
    · exact ⟨0, m / 2, by omega⟩
    · obtain ⟨k, a, q⟩ := ih (m / 2) (by omega) (by omega)
      exact ⟨k + 1, a, by rw [Nat.pow_succ, Nat.mul_right_comm, ← q]; omega⟩
theorem ones_low (k a : Nat) : ones (2 ^ k * (2 * a + 1)) = k :: ones (2 ^ k * (2 * a)) := by
  rw [ones_shift, ones_odd, show 2 ^ k * (2 * a) = 2 ^ k * (2 * a) from rfl, ones_shift, ones_even]
  simp
theorem ones_lt {m n : Nat} (h : m < 2 ^ n) : ∀ p ∈ ones m, p < n := by
  induction n generalizing m with
  | zero => rw [show m = 0 by omega, ones_zero]; simp
  | succ n ih =>
    intro p hp
    by_cases e : m = 0
    · rw [e, ones_zero] at hp; cases hp
    · rw [ones_pos e] at hp
      rcases List.mem_append.mp hp with hp | hp
      · split at hp <;> simp at hp; omega
      · obtain ⟨q, hq, rfl⟩ := List.mem_map.mp hp
        have := ih (m := m / 2) (by rw [Nat.pow_succ] at h; omega) q hq
        omega
theorem ones_asc (m : Nat) : (ones m).Pairwise (· < ·) := by
  induction m using Nat.strongRecOn with
  | _ m ih =>
    by_cases e : m = 0
    · rw [e, ones_zero]; exact .nil
    · have q := ih (m / 2) (by omega)
      have q1 : ((ones (m / 2)).map (· + 1)).Pairwise (· < ·) := List.pairwise_map.mpr (q.imp fun h => by omega)
      rw [ones_pos e]
      split
      · refine List.pairwise_cons.mpr ⟨fun x hx => ?_, q1⟩
        obtain ⟨y, _, rfl⟩ := List.mem_map.mp (show x ∈ (ones (m / 2)).map (· + 1) from hx)
        omega
      · exact q1
theorem ones_eq_nil {m : Nat} : ones m = [] ↔ m = 0 := by
  constructor
  · intro h
    by_cases e : m = 0
    · exact e
    · obtain ⟨k, a, rfl⟩ := low_of e
      rw [ones_low] at h; cases h
  · rintro rfl; exact ones_zero
theorem ones_len {m n : Nat} (h : m < 2 ^ n) : (ones m).length ≤ n := by
  induction n generalizing m with
  | zero => rw [show m = 0 by omega, ones_zero]; simp
  | succ n ih =>
    by_cases e : m = 0
    · rw [e, ones_zero]; simp
    · have := ih (m := m / 2) (by rw [Nat.pow_succ] at h; omega)
      rw [ones_pos e]
      split <;> simp <;> omega
/-! ### the marks of an int: its turns -/
open PyProof.Rows PySem.W in
theorem xor_halves (x y : Int) : Builtin.bitXor x y = 2 * Builtin.bitXor (x / 2) (y / 2) + (x + y) % 2 := by
  rw [bitXor_and, bitXor_and, kbt_halves x y]
  split <;> omega
def mk (b x : Int) : Int := Builtin.bitXor x (2 * x + b)
theorem mk_step {b x : Int} (h0 : 0 ≤ b) (h1 : b < 2) : mk b x = 2 * mk (x % 2) (x / 2) + (x + b) % 2 := by
  unfold mk
  rw [xor_halves, show (2 * x + b) / 2 = x by omega, show 2 * (x / 2) + x % 2 = x by omega]
  omega
/-- alternating powers of two -/
def alt (s : Int) : List Nat → Int
  | [] => 0
  | p :: ps => s * 2 ^ p + alt (-s) ps
theorem alt_up (s : Int) (ps : List Nat) : alt s (ps.map (· + 1)) = 2 * alt s ps := by
  induction ps generalizing s with
  | nil => rfl
  | cons p ps ih =>
    show s * 2 ^ (p + 1) + alt (-s) (ps.map (· + 1)) = 2 * (s * 2 ^ p + alt (-s) ps)
    rw [ih, Int.pow_succ, Int.mul_add, ← Int.mul_assoc, Int.mul_comm _ 2]
theorem mk_all (n : Nat) : ∀ b x : Int, 0 ≤ b → b < 2 → -(2 ^ n) ≤ x → x < 2 ^ n → 0 ≤ mk b x ∧ mk b x < 2 ^ (n + 1) ∧ alt (2 * b - 1) (ones (mk b x).toNat) = x + b := by
  induction n with
  | zero =>
    intro b x h0 h1 h2 h3
    have hx : x = 0 ∨ x = -1 := by simp at h2 h3; omega
    have hb : b = 0 ∨ b = 1 := by omega
    have c00 : mk 0 0 = 0 := by decide +kernel
    have c10 : mk 1 0 = 1 := by decide +kernel
    have c01 : mk 0 (-1) = 1 := by decide +kernel
    have c11 : mk 1 (-1) = 0 := by decide +kernel
    have o1 : ones 1 = [0] := by rw [show (1 : Nat) = 2 * 0 + 1 from rfl, ones_odd, ones_zero]; rfl
    rcases hx with rfl | rfl <;> rcases hb with rfl | rfl
    · rw [c00]; refine ⟨by decide, by decide, ?_⟩; rw [show (0 : Int).toNat = 0 from rfl, ones_zero]; rfl
    · rw [c10]; refine ⟨by decide, by decide, ?_⟩; rw [show (1 : Int).toNat = 1 from rfl, o1]; rfl
    · rw [c01]; refine ⟨by decide, by decide, ?_⟩; rw [show (1 : Int).toNat = 1 from rfl, o1]; rfl
    · rw [c11]; refine ⟨by decide, by decide, ?_⟩; rw [show (0 : Int).toNat = 0 from rfl, ones_zero]; rfl
  | succ n ih =>
    intro b x h0 h1 h2 h3
    rw [Int.pow_succ] at h2 h3
    obtain ⟨k0, k1, k2⟩ := ih (x % 2) (x / 2) (by omega) (by omega) (by omega) (by omega)
    rw [mk_step h0 h1]
    refine ⟨by omega, by rw [Int.pow_succ]; omega, ?_⟩
    generalize hm : mk (x % 2) (x / 2) = m at k0 k1 k2
    by_cases e : (x + b) % 2 = 0
    · rw [e, show (2 * m + 0).toNat = 2 * m.toNat by omega, ones_even, alt_up, show 2 * b - 1 = 2 * (x % 2) - 1 by omega, k2]
      omega
    · rw [show (x + b) % 2 = 1 by omega, show (2 * m + 1).toNat = 2 * m.toNat + 1 by omega, ones_odd]
      show (2 * b - 1) * 2 ^ 0 + alt (-(2 * b - 1)) _ = _
      rw [alt_up, show -(2 * b - 1) = 2 * (x % 2) - 1 by omega, k2]
      simp
      omega
def marks (x : Int) : Nat := (Builtin.bitXor x (x * 2)).toNat
theorem marks_eq (x : Int) : Builtin.bitXor x (x * 2) = mk 0 x := by unfold mk; rw [show x * 2 = 2 * x + 0 by omega]
def turnsN (x : Int) : List Nat := ones (marks x)
def turnsZ (x : Int) : List Int := (turnsN x).map Int.ofNat
theorem marks_cast {x : Int} : ∃ n : Nat, -(2 ^ n) ≤ x ∧ x < 2 ^ n := by
  refine ⟨x.natAbs, ?_, ?_⟩ <;>
  · have h : x.natAbs < 2 ^ x.natAbs := Nat.lt_two_pow_self
    have h2 : ((2 ^ x.natAbs : Nat) : Int) = (2 : Int) ^ x.natAbs := by simp
    omega
theorem marks_nonneg (x : Int) : 0 ≤ Builtin.bitXor x (x * 2) := by
  obtain ⟨n, h0, h1⟩ := marks_cast (x := x)
  rw [marks_eq]; exact (mk_all n 0 x (by decide) (by decide) h0 h1).1
theorem marks_val (x : Int) : Builtin.bitXor x (x * 2) = (marks x : Int) := by
  have := marks_nonneg x
  unfold marks; omega
theorem marks_lt {x : Int} {n : Nat} (h0 : -(2 ^ n) ≤ x) (h1 : x < 2 ^ n) : marks x < 2 ^ (n + 1) := by
  have h := (mk_all n 0 x (by decide) (by decide) h0 h1).2.1
  rw [← marks_eq, marks_val] at h
  have h2 : ((2 ^ (n + 1) : Nat) : Int) = (2 : Int) ^ (n + 1) := by simp
  omega
/-- the turns tell the int -/
theorem turns_alt (x : Int) : alt (-1) (turnsN x) = x := by
  obtain ⟨n, h0, h1⟩ := marks_cast (x := x)
  have h : alt (-1) (ones (mk 0 x).toNat) = x + 0 := (mk_all n 0 x (by decide) (by decide) h0 h1).2.2
  rw [← marks_eq] at h
  unfold turnsN marks
  omega
theorem turns_lt {x : Int} {n : Nat} (h0 : -(2 ^ n) ≤ x) (h1 : x < 2 ^ n) : ∀ p ∈ turnsN x, p ≤ n := fun p hp => Nat.le_of_lt_succ (ones_lt (marks_lt h0 h1) p hp)
theorem turns_len {x : Int} {n : Nat} (h0 : -(2 ^ n) ≤ x) (h1 : x < 2 ^ n) : (turnsN x).length ≤ n + 1 := ones_len (marks_lt h0 h1)
theorem turns_asc (x : Int) : (turnsN x).Pairwise (· < ·) := ones_asc _
/-- a step of the loop over the marks -/
theorem marks_low {m : Nat} (h : m ≠ 0) : ∃ k : Nat, Builtin.bitAnd (m : Int) (-(m : Int)) = 2 ^ k ∧ 2 ^ k ≤ m ∧ ones m = k :: ones (m - 2 ^ k) := by
  obtain ⟨k, a, rfl⟩ := low_of h
  refine ⟨k, ?_, ?_, ?_⟩
  · have := PySem.W.kbt_low k (a : Int)
    rw [← this]
    simp
  · exact Nat.le_mul_of_pos_right _ (by omega)
  · rw [ones_low, Nat.mul_add, Nat.mul_one, Nat.add_sub_cancel]
end Fb
namespace Fb
open PySem L2
/-! ### trees of ints and tuples -/
def dTy : PyData → String
  | .none => "NoneType" | .bool _ => "bool" | .int _ => "int" | .str _ => "str" | .list _ => "list" | .tuple _ => "tuple" | .dict _ => "dict"
theorem tyx_dp {K : PySem.W.Frag} {H : Hp} {v : V} {d : PyData} (h : Dp K H v d) : TyX K H v (.type (dTy d)) := by
  cases h with
  | non => exact .base .non
  | bl b => exact .base (.bl b)
  | int i => exact .base (.int i)
  | str x => exact .base (.str x)
  | lst hs _ =>
    rcases hs with (h | ⟨o, h⟩) | ⟨o, its, n, h1, h2, _⟩
    · exact .base (.lst h)
    · exact .base (.frz h)
    · exact .kList h1 h2
  | tup hs _ =>
    rcases hs with (h | ⟨o, h⟩) | ⟨o, its, n, h1, h2, _⟩
    · exact .base (.tup h)
    · exact .fTuple h
    · exact .kTuple h1 h2
def isI (d : PyData) : Bool := match d with | .int _ => true | .bool _ => true | _ => false
def isT (d : PyData) : Bool := match d with | .tuple _ => true | _ => false
theorem kit_I : ∀ d : PyData, kitB (dTy d) "int" = some (isI d)
  | .none => by show kitB "NoneType" "int" = some false; decide +kernel
  | .bool _ => by show kitB "bool" "int" = some true; decide +kernel
  | .int _ => by show kitB "int" "int" = some true; decide +kernel
  | .str _ => by show kitB "str" "int" = some false; decide +kernel
  | .list _ => by show kitB "list" "int" = some false; decide +kernel
  | .tuple _ => by show kitB "tuple" "int" = some false; decide +kernel
  | .dict _ => by show kitB "dict" "int" = some false; decide +kernel
theorem kit_T : ∀ d : PyData, kitB (dTy d) "tuple" = some (isT d)
  | .none => by show kitB "NoneType" "tuple" = some false; decide +kernel
  | .bool _ => by show kitB "bool" "tuple" = some false; decide +kernel
  | .int _ => by show kitB "int" "tuple" = some false; decide +kernel
  | .str _ => by show kitB "str" "tuple" = some false; decide +kernel
  | .list _ => by show kitB "list" "tuple" = some false; decide +kernel
  | .tuple _ => by show kitB "tuple" "tuple" = some true; decide +kernel
  | .dict _ => by show kitB "dict" "tuple" = some false; decide +kernel
/-- isinstance(x, int) of a datum -/
def rIsD (K : PySem.W.Frag) (T : String) (t : PyData → Bool) : List V → Hp → VK → Prop := fun xs H Q => ∃ x d, xs = [x, .ty T] ∧ Dp K H x d ∧ Q (.bl (t d)) H
theorem call_isiI {X : Cx} (K : PySem.W.Frag) (hK : X.K = K := by rfl) : CallR X (.builtin "isinstance") (rIsD K "int" isI) := fun pins s σ H xs us Q I r ⟨x, d, e, h, q⟩ => by
  subst hK
  refine call_isi pins s σ H xs us Q I r ⟨x, _, _, _, isI d, e, .ty _, tyx_dp h, kit_ty (kit_I d), q⟩
/-- isinstance(x, tuple) of a datum -/
theorem call_isiT_ {X : Cx} (K : PySem.W.Frag) (hK : X.K = K := by rfl) : CallR X (.builtin "isinstance") (rIsD K "tuple" isT) := fun pins s σ H xs us Q I r ⟨x, d, e, h, q⟩ => by
  subst hK
  refine call_isi pins s σ H xs us Q I r ⟨x, _, _, _, isT d, e, .ty _, tyx_dp h, kit_ty (kit_T d), q⟩
theorem lcT {σ : L2.St} {H : Hp} {A B : Hp → Prop} (h : A H) : tYes σ H (fun b H3 => if b = true then A H3 else B H3) := by
  show (if true = true then A H else B H)
  rw [if_pos rfl]
  exact h
theorem ix_listK {X : Cx} (K : PySem.W.Frag) (hK : X.K = K := by rfl) : IxR X (rIxL K) := by subst hK; exact ix_list
theorem ix_tupK {X : Cx} (K : PySem.W.Frag) (hK : X.K = K := by rfl) : IxR X (rIxT K) := by subst hK; exact ix_tup
theorem call_lenLK {X : Cx} (K : PySem.W.Frag) (hK : X.K = K := by rfl) : CallR X (.builtin "len") (rLenL K) := by subst hK; exact call_lenL
/-- a tree of ints and tuples, at most n tuples deep -/
def Fm : Nat → PyData → Prop
  | 0, d => ∃ i, d = .int i
  | n + 1, d => (∃ i, d = .int i) ∨ ∃ ds, d = .tuple ds ∧ ds.length ≤ 9000 ∧ ∀ x ∈ ds, Fm n x
theorem Fm.succ : ∀ {n : Nat} {d : PyData}, Fm n d → Fm (n + 1) d
  | 0, _, h => .inl h
  | n + 1, _, h => by
    rcases h with h | ⟨ds, e, l, h⟩
    · exact .inl h
    · exact .inr ⟨ds, e, l, fun x hx => (h x hx).succ⟩
theorem Fm.mono {n m : Nat} {d : PyData} (h : Fm n d) (e : n ≤ m) : Fm m d := by
  induction e with
  | refl => exact h
  | step _ ih => exact ih.succ
theorem Fm.int {n : Nat} (i : Int) : Fm n (.int i) := by cases n <;> first | exact ⟨i, rfl⟩ | exact .inl ⟨i, rfl⟩
/-- size -/
def sz : Nat → PyData → Int
  | n + 1, .tuple ds => 1 + (ds.map (sz n)).sum
  | _, _ => 1
theorem sz_int (n : Nat) (i : Int) : sz n (.int i) = 1 := by cases n <;> rfl
/-- the greatest of some ints, 0 if there is none -/
def maxI : List Int → Int
  | [] => 0
  | x :: xs => max x (maxI xs)
def ht : Nat → PyData → Int
  | n + 1, .tuple ds => 1 + maxI (ds.map (ht n))
  | _, _ => 0
theorem ht_int (n : Nat) (i : Int) : ht n (.int i) = 0 := by cases n <;> rfl
theorem ht_nonneg : ∀ (n : Nat) (d : PyData), 0 ≤ ht n d
  | 0, _ => Int.le_refl _
  | n + 1, .tuple ds => by
    show 0 ≤ 1 + maxI _
    have : ∀ l : List Int, (∀ x ∈ l, 0 ≤ x) → 0 ≤ maxI l := fun l hl => by cases l with | nil => exact Int.le_refl _ | cons x xs => have := hl x List.mem_cons_self; show 0 ≤ max x _; omega
    have := this (ds.map (ht n)) (fun x hx => by obtain ⟨d, _, rfl⟩ := List.mem_map.mp hx; exact ht_nonneg n d)
    omega
  | n + 1, .none => Int.le_refl _
  | n + 1, .bool _ => Int.le_refl _
  | n + 1, .int _ => Int.le_refl _
  | n + 1, .str _ => Int.le_refl _
  | n + 1, .list _ => Int.le_refl _
  | n + 1, .dict _ => Int.le_refl _
theorem maxI_le {l : List Int} {x : Int} (h : x ∈ l) : x ≤ maxI l := by
  induction l with
  | nil => cases h
  | cons y ys ih =>
    show x ≤ max y (maxI ys)
    rcases List.mem_cons.mp h with rfl | h
    · omega
    · have := ih h; omega
theorem maxI_mem {l : List Int} (h : l ≠ []) (h0 : ∀ x ∈ l, 0 ≤ x) : maxI l ∈ l := by
  induction l with
  | nil => exact absurd rfl h
  | cons y ys ih =>
    by_cases e : ys = []
    · subst e
      show max y 0 ∈ [y]
      have := h0 y List.mem_cons_self
      rw [show max y 0 = y by omega]; exact List.mem_cons_self
    · have := ih e fun x hx => h0 x (List.mem_cons_of_mem _ hx)
      show max y (maxI ys) ∈ _
      by_cases c : y ≤ maxI ys
      · rw [show max y (maxI ys) = maxI ys by omega]; exact List.mem_cons_of_mem _ this
      · rw [show max y (maxI ys) = y by omega]; exact List.mem_cons_self
theorem maxI_eq {l : List Int} {m : Int} (hm : m ∈ l) (h0 : ∀ x ∈ l, 0 ≤ x) (h : ∀ y ∈ l, y ≤ m) : maxI l = m := by
  have a := maxI_le hm
  have b := h _ (maxI_mem (List.ne_nil_of_mem hm) h0)
  omega
/-- the row of the last turns -/
def lv : Nat → PyData → Int
  | n + 1, .tuple ds => match ds.getLast? with
    | some d => 1 + lv n d
    | none => 1
  | _, _ => 0
/-- no tuple is empty on the way of the last turns, and there the last one is of the greatest height -/
def Sp_ : Nat → PyData → Prop
  | n + 1, .tuple ds => ∃ d, ds.getLast? = some d ∧ (∀ x ∈ ds, ht n x ≤ ht n d) ∧ Sp_ n d
  | _, _ => True
theorem lv_ht : ∀ (n : Nat) (d : PyData), Sp_ n d → lv n d = ht n d
  | 0, d, _ => by cases d <;> rfl
  | n + 1, .tuple ds, h => by
    obtain ⟨d, e, h1, h2⟩ := h
    show (match ds.getLast? with | some d => 1 + lv n d | none => 1) = 1 + maxI _
    rw [e]
    have m : d ∈ ds := List.mem_of_getLast? e
    rw [maxI_eq (List.mem_map.mpr ⟨d, m, rfl⟩) (fun x hx => by obtain ⟨y, _, rfl⟩ := List.mem_map.mp hx; exact ht_nonneg n y) (fun x hx => by obtain ⟨y, hy, rfl⟩ := List.mem_map.mp hx; exact h1 y hy), ← lv_ht n d h2]
  | n + 1, .none, _ => rfl
  | n + 1, .bool _, _ => rfl
  | n + 1, .int _, _ => rfl
  | n + 1, .str _, _ => rfl
  | n + 1, .list _, _ => rfl
  | n + 1, .dict _, _ => rfl
theorem sz_bd : ∀ (n : Nat) (d : PyData), Fm n d → 1 ≤ sz n d ∧ sz n d ≤ 9001 ^ n
  | 0, d, h => by obtain ⟨i, rfl⟩ := h; exact ⟨Int.le_refl 1, Int.le_refl 1⟩
  | n + 1, d, h => by
    rcases h with ⟨i, rfl⟩ | ⟨ds, rfl, l, h⟩
    · rw [sz_int]
      refine ⟨by omega, ?_⟩
      have := Int.pow_pos (n := 9001) (m := n + 1) (by decide)
      omega
    · have key : ∀ l : List PyData, (∀ x ∈ l, Fm n x) → 0 ≤ (l.map (sz n)).sum ∧ (l.map (sz n)).sum ≤ l.length * 9001 ^ n := by
        intro l
        induction l with
        | nil => intro _; simp
        | cons x xs ih =>
          intro hl
          have a := ih fun y hy => hl y (List.mem_cons_of_mem _ hy)
          have b := sz_bd n x (hl x List.mem_cons_self)
          simp only [List.map_cons, List.sum_cons, List.length_cons]
          push_cast
          rw [Int.add_mul]
          omega
      have a := key ds h
      have c := Int.pow_pos (n := 9001) (m := n) (by decide)
      have e : (ds.length : Int) * 9001 ^ n ≤ 9000 * 9001 ^ n := Int.mul_le_mul_of_nonneg_right (by omega) (by omega)
      show 1 ≤ 1 + _ ∧ 1 + _ ≤ _
      rw [Int.pow_succ]
      omega
end Fb
namespace Fb
open PySem L2
/-! ### tuples stand -/
def Td (H H' : Hp) : Prop := ∀ a xs, Rd H a (.tup xs) → Rd H' a (.tup xs)
theorem Td.of {H H' : Hp} (e : Nd H H') : Td H H' := fun a xs h => by
  rcases h with h | ⟨o, h⟩
  · exact .inl (e.k _ _ h fun _ z => nomatch z)
  · exact .inr ⟨o, e.k _ _ h fun _ z => nomatch z⟩
theorem Td.trans {H H1 H2 : Hp} (a : Td H H1) (b : Td H1 H2) : Td H H2 := fun x xs h => b x xs (a x xs h)
theorem Td.lst {H : Hp} {p : Addr} {ys : List V} {o : HO} (h : H p = some (.lst ys)) : Td H (upd H p o) := fun a xs k => by
  rcases k with k | ⟨u, k⟩
  · exact .inl (by rw [upd_ne (by rintro rfl; rw [h] at k; cases k)]; exact k)
  · exact .inr ⟨u, by rw [upd_ne (by rintro rfl; rw [h] at k; cases k)]; exact k⟩
theorem Td.sqt {K : PySem.W.Frag} {H H' : Hp} {a : Addr} {xs : List V} (e : Td H H') (h : SqT K H a xs) : SqT K H' a xs := by
  rcases h with h | h
  · exact .inl (e _ _ h)
  · exact .inr h
theorem Td.dp {K : PySem.W.Frag} {H H' : Hp} (e : Td H H') : ∀ (n : Nat) (d : PyData) (v : V), Fm n d → Dp K H v d → Dp K H' v d := by
  intro n
  induction n with
  | zero => rintro d v ⟨i, rfl⟩ h; cases h; exact .int i
  | succ n ih =>
    intro d v hf h
    rcases hf with ⟨i, rfl⟩ | ⟨ds, rfl, _, hf⟩
    · cases h; exact .int i
    · cases h with
      | @tup a xs _ hs ha =>
        have key : ∀ (es : List PyData) (xs : List V), (∀ x ∈ es, Fm n x) → DpAll K H xs es → DpAll K H' xs es := by
          intro es
          induction es with
          | nil => intro xs _ h; cases h; exact .nil
          | cons y ys ihy =>
            intro xs hx h
            cases h with
            | cons h1 h2 => exact .cons (ih y _ (hx y List.mem_cons_self) h1) (ihy _ (fun z hz => hx z (List.mem_cons_of_mem _ hz)) h2)
        exact .tup (e.sqt hs) (key ds xs hf ha)
theorem Td.d {K : PySem.W.Frag} {H H' : Hp} {n : Nat} {d : PyData} {v : V} (e : Td H H') (hf : Fm n d) (h : Dp K H v d) : Dp K H' v d := e.dp n d v hf h
theorem Td.ds {K : PySem.W.Frag} {H H' : Hp} {n : Nat} (e : Td H H') : ∀ {es : List PyData} {xs : List V}, (∀ x ∈ es, Fm n x) → DpAll K H xs es → DpAll K H' xs es
  | [], _, _, h => by cases h; exact .nil
  | y :: ys, _, hx, h => by
    cases h with
    | cons h1 h2 => exact .cons (e.d (hx y List.mem_cons_self) h1) (e.ds (fun z hz => hx z (List.mem_cons_of_mem _ hz)) h2)
theorem fm_bool {n : Nat} {b : Bool} (h : Fm n (.bool b)) : False := by
  cases n with
  | zero => obtain ⟨i, h⟩ := h; cases h
  | succ n => rcases h with ⟨i, h⟩ | ⟨ts, h, _⟩ <;> cases h
/-! ### ints of turns, forms as data -/
def InB (x : Int) : Prop := -(2 ^ 600000) ≤ x ∧ x < 2 ^ 600000
theorem InB.of {x : Int} {n : Nat} (h0 : -(2 ^ n) ≤ x) (h1 : x < 2 ^ n) (hn : n ≤ 600000) : InB x := by
  have h : (2 : Int) ^ n ≤ 2 ^ 600000 := by
    have h' : ((2 ^ n : Nat) : Int) ≤ ((2 ^ 600000 : Nat) : Int) := Int.ofNat_le.mpr (Nat.pow_le_pow_right (by decide) hn)
    rw [Int.natCast_pow, Int.natCast_pow] at h'
    exact h'
  unfold InB
  generalize (2 : Int) ^ 600000 = B at h ⊢
  omega
def nI (ns : List Nat) : List V := ns.map fun (n : Nat) => V.int (n : Int)
def nD (ns : List Nat) : List PyData := ns.map fun (n : Nat) => PyData.int (n : Int)
theorem dps_n {K : PySem.W.Frag} {H : Hp} : ∀ (ns : List Nat), DpAll K H (nI ns) (nD ns)
  | [] => .nil
  | n :: ns => .cons (.int n) (dps_n ns)
theorem dps_n_inv {K : PySem.W.Frag} {H : Hp} : ∀ {ns : List Nat} {vs : List V}, DpAll K H vs (nD ns) → vs = nI ns
  | [], _, h => by cases h; rfl
  | n :: ns, _, h => by
    cases h with
    | cons h1 h2 =>
      cases h1
      rw [dps_n_inv h2]
      rfl
def plain (x : Int) : Prop := -(2 ^ 64) ≤ x ∧ x < 2 ^ 64
instance (x : Int) : Decidable (plain x) := by unfold plain; infer_instance
def formD (x : Int) : PyData := if plain x then .int x else .tuple (nD (turnsN x))
def natOf : PyData → Nat
  | .int i => i.toNat
  | _ => 0
theorem natOf_nD (ns : List Nat) : (nD ns).map natOf = ns := by
  unfold nD
  rw [List.map_map]
  conv => rhs; rw [← List.map_id ns]
  exact List.map_congr_left fun n _ => rfl
def isNear : PyData → Bool
  | .int i => decide (i ≤ 64)
  | _ => false
/-- the form of a row of places -/
def rowD (ds : List PyData) : PyData := match ds.getLast? with
  | none => .int 0
  | some d => if isNear d = true then .int (alt (-1) (ds.map natOf)) else .tuple ds
/-- where the last place is near, all are small ints -/
def RowC (ds : List PyData) : Prop := ∀ d, ds.getLast? = some d → isNear d = true → ∃ ns : List Nat, ds = nD ns ∧ ∀ n ∈ ns, n ≤ 64
theorem rowD_near {ns : List Nat} {d : PyData} (h : (nD ns).getLast? = some d) (h2 : isNear d = true) : rowD (nD ns) = .int (alt (-1) ns) := by
  unfold rowD
  rw [h]
  show (if isNear d = true then _ else _) = _
  rw [if_pos h2, natOf_nD]
theorem rowD_far {ds : List PyData} {d : PyData} (h : ds.getLast? = some d) (h2 : isNear d = false) : rowD ds = .tuple ds := by
  unfold rowD
  rw [h]
  show (if isNear d = true then _ else _) = _
  rw [h2, if_neg Bool.false_ne_true]
theorem Fm.lay : ∀ {n : Nat} {d : PyData}, Fm n d → d.canLay0 = true ∧ d.depth ≤ n := by
  intro n
  induction n with
  | zero => rintro d ⟨i, rfl⟩; exact ⟨by rw [PyData.canLay0], by rw [PyData.depth] <;> first | exact Nat.le_refl _ | simp⟩
  | succ n ih =>
    intro d h
    rcases h with ⟨i, rfl⟩ | ⟨ds, rfl, _, h⟩
    · exact ⟨by rw [PyData.canLay0], by rw [PyData.depth] <;> first | exact Nat.zero_le _ | simp⟩
    · have key : ∀ l : List PyData, (∀ x ∈ l, Fm n x) → PyData.canLayAll0 l = true ∧ PyData.depthAll l ≤ n := by
        intro l
        induction l with
        | nil => intro _; exact ⟨by rw [PyData.canLayAll0], by rw [PyData.depthAll]; exact Nat.zero_le _⟩
        | cons x xs ihl =>
          intro hl
          obtain ⟨a1, a2⟩ := ih (hl x List.mem_cons_self)
          obtain ⟨b1, b2⟩ := ihl fun y hy => hl y (List.mem_cons_of_mem _ hy)
          refine ⟨by rw [PyData.canLayAll0, a1, b1]; rfl, ?_⟩
          rw [PyData.depthAll]
          exact Nat.max_le.mpr ⟨a2, b2⟩
      obtain ⟨a, b⟩ := key ds h
      exact ⟨by rw [PyData.canLay0]; exact a, by rw [PyData.depth]; omega⟩
theorem shaped_list {n : Nat} {ds : List PyData} (hn : n ≤ 40) (h : ∀ x ∈ ds, Fm n x) : SeqAt.shaped (.list ds) = true := by
  have key : ∀ l : List PyData, (∀ x ∈ l, Fm n x) → PyData.canLayAll0 l = true ∧ PyData.depthAll l ≤ n := by
    intro l
    induction l with
    | nil => intro _; exact ⟨by rw [PyData.canLayAll0], by rw [PyData.depthAll]; exact Nat.zero_le _⟩
    | cons x xs ihl =>
      intro hl
      obtain ⟨a1, a2⟩ := (hl x List.mem_cons_self).lay
      obtain ⟨b1, b2⟩ := ihl fun y hy => hl y (List.mem_cons_of_mem _ hy)
      refine ⟨by rw [PyData.canLayAll0, a1, b1]; rfl, ?_⟩
      rw [PyData.depthAll]
      exact Nat.max_le.mpr ⟨a2, b2⟩
  obtain ⟨a, b⟩ := key ds h
  unfold SeqAt.shaped
  rw [PyData.canLay0, a, PyData.depth]
  simp
  omega
theorem shaped_nil : SeqAt.shaped (.list []) = true := shaped_list (n := 0) (by decide) (fun x h => by cases h)
theorem eqv_nil (ds : List PyData) : PyData.eqv (.list ds) (.list []) = ds.isEmpty := by
  rw [PyData.eqv]
  cases ds with
  | nil => rw [PyData.eqvAll]; rfl
  | cons _ _ => rw [PyData.eqvAll]; rfl
/-! ### fields: where the groups of bits lie -/
def F2 (low g : Int) (f : PyData) : Prop := (∃ d, 0 ≤ d ∧ d < 90 ∧ f = .tuple [.int low, .int (low + 1 + d)]) ∨
  ∃ d, 0 ≤ d ∧ d < 10 ^ 9 ∧ f = .tuple [.int low, .int (low + 7), .int (low + 9 + g), .int (low + 11 + 2 * g + d)]
def F3 (g : Int) (f2 f3 : PyData) : Prop := f3 = .tuple [.int g, f2] ∨ (∃ e ts, 0 ≤ e ∧ e < 60 ∧ f2 = .tuple ts ∧ f3 = .tuple [f2, .tuple (.int (e + 1) :: .int 64 :: ts)]) ∨
  f3 = .tuple [.int g, .int (g + 1), f2, .tuple [.int g, f2]]
structure Fields (fs : List PyData) : Prop where
  ex : ∃ (a low g : Int) (f2 f3 : PyData), fs = [.int 0, .int a, f2, f3] ∧ 130 ≤ a ∧ a < 2 ^ 64 ∧ 200 ≤ low ∧ low < 260 ∧ 150 ≤ g ∧ g < 190 ∧ F2 low g f2 ∧ F3 g f2 f3
def placeD (fs : List PyData) (p : Nat) : PyData := match fs[p / 200]? with
  | some (.int a) => formD (a + ((p % 200 : Nat) : Int))
  | some (.tuple ts) => .tuple (nD (turnsN ((p % 200 : Nat) : Int)) ++ ts)
  | _ => .none
def movedD (fs : List PyData) (c : Int) : PyData := rowD ((turnsN c).map (placeD fs))
end Fb
namespace Fb
open PySem
/-! ### the size of an alternating sum, by its last place -/
def flip (s : Int) : Nat → Int
  | 0 => s
  | n + 1 => flip (-s) n
theorem flip_pm {s : Int} (h : s = 1 ∨ s = -1) : ∀ n, flip s n = 1 ∨ flip s n = -1 := by
  intro n
  induction n generalizing s with
  | zero => exact h
  | succ n ih => exact ih (by omega)
theorem flip_succ (s : Int) (n : Nat) : flip s (n + 1) = -flip s n := by
  induction n generalizing s with
  | zero => rfl
  | succ n ih => exact ih (-s)
theorem alt_snoc (s : Int) (l : List Nat) (p : Nat) : alt s (l ++ [p]) = alt s l + flip s l.length * 2 ^ p := by
  induction l generalizing s with
  | nil => show s * 2 ^ p + 0 = 0 + s * 2 ^ p; omega
  | cons q l ih =>
    show s * 2 ^ q + alt (-s) (l ++ [p]) = s * 2 ^ q + alt (-s) l + flip (-s) l.length * 2 ^ p
    rw [ih]; omega
theorem alt_sum {s : Int} (h : s = 1 ∨ s = -1) : ∀ (l : List Nat) (a n : Nat), l.Pairwise (· < ·) → (∀ p ∈ l, a ≤ p ∧ p < n) → a ≤ n → -(2 ^ n - 2 ^ a) ≤ alt s l ∧ alt s l ≤ 2 ^ n - 2 ^ a := by
  intro l
  induction l generalizing s with
  | nil =>
    intro a n _ _ hn
    have := Nat.pow_le_pow_right (n := 2) (by decide) hn
    have h1 : ((2 ^ a : Nat) : Int) = 2 ^ a := Int.natCast_pow 2 a
    have h2 : ((2 ^ n : Nat) : Int) = 2 ^ n := Int.natCast_pow 2 n
    show -(2 ^ n - 2 ^ a) ≤ (0 : Int) ∧ (0 : Int) ≤ _
    omega
  | cons p l ih =>
    intro a n hp hb hn
    obtain ⟨h1, h2⟩ := List.pairwise_cons.mp hp
    obtain ⟨b1, b2⟩ := hb p List.mem_cons_self
    obtain ⟨c1, c2⟩ := ih (s := -s) (by omega) (p + 1) n h2 (fun q hq => ⟨h1 q hq, (hb q (List.mem_cons_of_mem _ hq)).2⟩) (by omega)
    have e := Nat.pow_le_pow_right (n := 2) (by decide) b1
    have h1 : ((2 ^ a : Nat) : Int) = 2 ^ a := Int.natCast_pow 2 a
    have h2 : ((2 ^ p : Nat) : Int) = 2 ^ p := Int.natCast_pow 2 p
    have h3 : (2 : Int) ^ (p + 1) = 2 ^ p * 2 := Int.pow_succ 2 p
    have h4 : (0 : Int) < 2 ^ p := Int.pow_pos (by decide)
    show -(2 ^ n - 2 ^ a) ≤ s * 2 ^ p + alt (-s) l ∧ s * 2 ^ p + alt (-s) l ≤ _
    rcases h with rfl | rfl <;> omega
theorem alt_lt {s : Int} (h : s = 1 ∨ s = -1) {l : List Nat} {n : Nat} (hp : l.Pairwise (· < ·)) (hb : ∀ p ∈ l, p < n) : -(2 ^ n) < alt s l ∧ alt s l < 2 ^ n := by
  have := alt_sum h l 0 n hp (fun p q => ⟨Nat.zero_le _, hb p q⟩) (Nat.zero_le _)
  have h0 : (2 : Int) ^ 0 = 1 := rfl
  omega
/-- the last place tells the sign -/
theorem alt_sign {s : Int} (h : s = 1 ∨ s = -1) {l : List Nat} {p : Nat} (hp : (l ++ [p]).Pairwise (· < ·)) : (flip s l.length = 1 → 0 < alt s (l ++ [p])) ∧ (flip s l.length = -1 → alt s (l ++ [p]) < 0) := by
  obtain ⟨h1, _, h3⟩ := List.pairwise_append.mp hp
  have := alt_lt h (n := p) h1 fun q hq => h3 q hq p List.mem_cons_self
  rw [alt_snoc]
  constructor <;> intro e <;> rw [e] <;> omega
/-- an int from 0 on is below 2 to its last turn -/
theorem last_lt {c : Int} (h0 : 0 ≤ c) {l : List Nat} {p : Nat} (h : turnsN c = l ++ [p]) : c < 2 ^ p ∧ (2 : Int) ^ p ≤ 2 * c := by
  have asc := turns_asc c
  have e := turns_alt c
  rw [h] at asc e
  obtain ⟨h1, _, h3⟩ := List.pairwise_append.mp asc
  have b := alt_lt (s := -1) (.inr rfl) (n := p) h1 fun q hq => h3 q hq p List.mem_cons_self
  have sg := alt_sign (s := -1) (.inr rfl) asc
  have pm := flip_pm (s := -1) (.inr rfl) l.length
  have f1 : flip (-1) l.length = 1 := by
    rcases pm with h | h
    · exact h
    · have := sg.2 h; omega
  constructor
  · rcases List.eq_nil_or_concat l with rfl | ⟨l', q, rfl⟩
    · cases f1
    · rw [List.concat_eq_append] at *
      have sg2 := alt_sign (s := -1) (.inr rfl) h1
      have f2 : flip (-1) l'.length = -1 := by
        rw [List.length_append, List.length_singleton, flip_succ] at f1
        omega
      have := sg2.2 f2
      rw [alt_snoc, f1] at e
      omega
  · by_cases c0 : 2 * c < 2 ^ p
    · cases p with
      | zero => 
        have : c = 0 := by have : (2 : Int) ^ 0 = 1 := rfl; omega
        subst this
        have z : turnsN 0 = [] := by decide +kernel
        rw [z] at h
        simp at h
      | succ p =>
        rw [Int.pow_succ] at c0
        have := turns_lt (x := c) (n := p) (by have := Int.pow_pos (n := 2) (m := p) (by decide); omega) (by omega) (p + 1) (by rw [h]; simp)
        omega
    · omega
theorem last_mono {c c' : Int} (h0 : 0 ≤ c) (hc : c ≤ c') {l l' : List Nat} {p p' : Nat} (h : turnsN c = l ++ [p]) (h' : turnsN c' = l' ++ [p']) : p ≤ p' := by
  have a := (last_lt h0 h).2
  have b := (last_lt (by omega) h').1
  by_cases e : p ≤ p'
  · exact e
  · have := Nat.pow_le_pow_right (n := 2) (by decide) (show p' + 1 ≤ p by omega)
    have h1 : ((2 ^ (p' + 1) : Nat) : Int) = 2 ^ (p' + 1) := Int.natCast_pow 2 _
    have h2 : ((2 ^ p : Nat) : Int) = 2 ^ p := Int.natCast_pow 2 p
    rw [Int.pow_succ] at h1
    omega
theorem alt_dvd : ∀ (l : List Nat) (s : Int) (a : Nat), (∀ p ∈ l, a ≤ p) → ∃ k, alt s l = 2 ^ a * k := by
  intro l
  induction l with
  | nil => intro s a _; exact ⟨0, by show (0 : Int) = _; omega⟩
  | cons p l ih =>
    intro s a h
    obtain ⟨k, hk⟩ := ih (-s) a fun q hq => h q (List.mem_cons_of_mem _ hq)
    obtain ⟨e, rfl⟩ : ∃ e, p = a + e := ⟨p - a, by have := h p List.mem_cons_self; omega⟩
    refine ⟨s * 2 ^ e + k, ?_⟩
    show s * 2 ^ (a + e) + alt (-s) l = _
    rw [hk, Int.pow_add, Int.mul_add, ← Int.mul_assoc, ← Int.mul_assoc, Int.mul_comm s]
theorem odd_ne {s : Int} (h : s = 1 ∨ s = -1) (p : Nat) (k m : Int) : s * 2 ^ p + 2 ^ (p + 1) * k ≠ 2 ^ (p + 1) * m := by
  intro e
  have h1 : (0 : Int) < 2 ^ p := Int.pow_pos (by decide)
  have e2 : (2 : Int) ^ p * (s + 2 * k) = 2 ^ p * (2 * m) := by
    rw [Int.mul_add, ← Int.mul_assoc, ← Int.mul_assoc, ← Int.pow_succ, Int.mul_comm _ s]
    exact e
  have := Int.eq_of_mul_eq_mul_left (by omega) e2
  omega
/-- turns are unique: an ascending row is the turns of its sum -/
theorem alt_inj : ∀ (l l' : List Nat) (s : Int), (s = 1 ∨ s = -1) → l.Pairwise (· < ·) → l'.Pairwise (· < ·) → alt s l = alt s l' → l = l' := by
  intro l
  induction l with
  | nil =>
    intro l' s h _ h2 e
    cases l' with
    | nil => rfl
    | cons q l' =>
      obtain ⟨b1, b2⟩ := List.pairwise_cons.mp h2
      obtain ⟨k, hk⟩ := alt_dvd l' (-s) (q + 1) b1
      have e' : (0 : Int) = s * 2 ^ q + alt (-s) l' := e
      rw [hk] at e'
      exact absurd e'.symm (by have := odd_ne h q k 0; rwa [Int.mul_zero] at this)
  | cons p l ih =>
    intro l' s h h1 h2 e
    obtain ⟨a1, a2⟩ := List.pairwise_cons.mp h1
    cases l' with
    | nil =>
      obtain ⟨k, hk⟩ := alt_dvd l (-s) (p + 1) a1
      have e' : s * 2 ^ p + alt (-s) l = 0 := e
      rw [hk] at e'
      exact absurd e' (by have := odd_ne h p k 0; rwa [Int.mul_zero] at this)
    | cons q l' =>
      obtain ⟨b1, b2⟩ := List.pairwise_cons.mp h2
      have e' : s * 2 ^ p + alt (-s) l = s * 2 ^ q + alt (-s) l' := e
      obtain ⟨k, hk⟩ := alt_dvd l (-s) (p + 1) a1
      obtain ⟨m, hm⟩ := alt_dvd l' (-s) (q + 1) b1
      have pq : p = q := by
        rcases Nat.lt_trichotomy p q with c | c | c
        · obtain ⟨z, hz⟩ := alt_dvd (q :: l') s (p + 1) (fun r hr => by
            rcases List.mem_cons.mp hr with rfl | hr
            · exact c
            · have := b1 r hr; omega)
          have ez : s * 2 ^ q + alt (-s) l' = 2 ^ (p + 1) * z := hz
          rw [ez, hk] at e'
          exact absurd e' (odd_ne h p k z)
        · exact c
        · obtain ⟨z, hz⟩ := alt_dvd (p :: l) s (q + 1) (fun r hr => by
            rcases List.mem_cons.mp hr with rfl | hr
            · exact c
            · have := a1 r hr; omega)
          have ez : s * 2 ^ p + alt (-s) l = 2 ^ (q + 1) * z := hz
          rw [ez, hm] at e'
          exact absurd e'.symm (odd_ne h q m z)
      subst pq
      rw [ih l' (-s) (by omega) a2 b2 (by omega)]
/-- the turns of an alternating sum -/
theorem turns_of_alt {l : List Nat} (h : l.Pairwise (· < ·)) : turnsN (alt (-1) l) = l :=
  alt_inj _ _ (-1) (.inr rfl) (turns_asc _) h (turns_alt _)
end Fb
namespace Fb
open PySem L2
def Ne : Nat → PyData → Prop
  | n + 1, .tuple ds => ds ≠ [] ∧ ∀ x ∈ ds, Ne n x
  | _, _ => True
theorem Ne.int (n : Nat) (i : Int) : Ne n (.int i) := by cases n <;> exact True.intro
theorem Sp_.int (n : Nat) (i : Int) : Sp_ n (.int i) := by cases n <;> exact True.intro
/-- a tree whose last place is the highest one, everywhere -/
structure Gd (n : Nat) (h : Int) (d : PyData) : Prop where
  fm : Fm n d
  ne : Ne n d
  sp : Sp_ n d
  ht : ht n d = h
theorem gd_int (n : Nat) (i : Int) : Gd n 0 (.int i) := ⟨Fm.int i, Ne.int n i, Sp_.int n i, ht_int n i⟩
theorem gd_tup {n : Nat} {h : Int} {ds : List PyData} {dl : PyData} (hl : ds.length ≤ 9000) (e : ds.getLast? = some dl) (gl : Gd n h dl) (g : ∀ x ∈ ds, ∃ h', h' ≤ h ∧ Gd n h' x) : Gd (n + 1) (h + 1) (.tuple ds) := by
  have m : dl ∈ ds := List.mem_of_getLast? e
  refine ⟨.inr ⟨ds, rfl, hl, fun x hx => ?_⟩, ⟨List.ne_nil_of_mem m, fun x hx => ?_⟩, ⟨dl, e, fun x hx => ?_, gl.sp⟩, ?_⟩
  · obtain ⟨h', _, k⟩ := g x hx; exact k.fm
  · obtain ⟨h', _, k⟩ := g x hx; exact k.ne
  · obtain ⟨h', l, k⟩ := g x hx; rw [k.ht, gl.ht]; exact l
  · show 1 + maxI (ds.map (Fb.ht n)) = h + 1
    rw [maxI_eq (List.mem_map.mpr ⟨dl, m, gl.ht⟩) (fun x hx => by obtain ⟨y, _, rfl⟩ := List.mem_map.mp hx; exact ht_nonneg n y) (fun y hy => by
      obtain ⟨x, hx, rfl⟩ := List.mem_map.mp hy
      obtain ⟨h', l, k⟩ := g x hx
      rw [k.ht]; exact l)]
    omega
theorem mem_nD {ns : List Nat} {x : PyData} (h : x ∈ nD ns) : ∃ n : Nat, x = .int (n : Int) := by
  obtain ⟨n, _, rfl⟩ := List.mem_map.mp (show x ∈ ns.map _ from h); exact ⟨n, rfl⟩
theorem len_nD (ns : List Nat) : (nD ns).length = ns.length := by unfold nD; rw [List.length_map]
theorem gd_ints {n : Nat} {ns : List Nat} (h0 : ns ≠ []) (hl : ns.length ≤ 9000) : Gd (n + 1) 1 (.tuple (nD ns)) := by
  obtain ⟨d, e⟩ : ∃ d, (nD ns).getLast? = some d := by
    rcases List.eq_nil_or_concat ns with rfl | ⟨m, q, rfl⟩
    · exact absurd rfl h0
    · rw [List.concat_eq_append]; unfold nD; rw [List.map_append]; exact ⟨_, List.getLast?_concat ..⟩
  obtain ⟨m, rfl⟩ := mem_nD (List.mem_of_getLast? e)
  exact gd_tup (h := 0) (by rw [len_nD]; exact hl) e (gd_int n _) fun x hx => by
    obtain ⟨k, rfl⟩ := mem_nD hx; exact ⟨0, Int.le_refl 0, gd_int n _⟩
def hI (x : Int) : Int := if plain x then 0 else 1
theorem gd_form {n : Nat} {x : Int} (h0 : -(2 ^ 2000) ≤ x) (h1 : x < 2 ^ 2000) : Gd (n + 1) (hI x) (formD x) := by
  unfold hI formD
  by_cases c : plain x
  · rw [if_pos c, if_pos c]; exact gd_int _ x
  · rw [if_neg c, if_neg c]
    refine gd_ints (fun e => ?_) (Nat.le_trans (turns_len (n := 2000) h0 h1) (by decide))
    have := turns_alt x
    rw [e] at this
    have h : x = 0 := this.symm
    subst h
    exact c (by decide)
theorem gd_app {n : Nat} {h : Int} {ns : List Nat} {ts : List PyData} (hn : ns.length ≤ 2000) (ht : ts.length ≤ 50) (h0 : 0 ≤ h) {dl : PyData} (e : ts.getLast? = some dl) (gl : Gd n h dl) (g : ∀ x ∈ ts, ∃ h', h' ≤ h ∧ Gd n h' x) : Gd (n + 1) (h + 1) (.tuple (nD ns ++ ts)) := by
  refine gd_tup (by rw [List.length_append, len_nD]; omega) (by rw [List.getLast?_append, e]; rfl) gl fun x hx => ?_
  rcases List.mem_append.mp hx with hx | hx
  · obtain ⟨k, rfl⟩ := mem_nD hx; exact ⟨0, h0, gd_int n _⟩
  · exact g x hx
/-- what a field's tuple is made of -/
def TsOk (n : Nat) (h : Int) (ts : List PyData) : Prop := ts.length ≤ 50 ∧ 0 ≤ h ∧ ∃ dl, ts.getLast? = some dl ∧ Gd n h dl ∧ ∀ x ∈ ts, ∃ h', h' ≤ h ∧ Gd n h' x
theorem TsOk.gd {n : Nat} {h : Int} {ts : List PyData} (t : TsOk n h ts) {ns : List Nat} (hn : ns.length ≤ 2000) : Gd (n + 1) (h + 1) (.tuple (nD ns ++ ts)) := by
  obtain ⟨l, h0, dl, e, gl, g⟩ := t
  exact gd_app hn l h0 e gl g
theorem TsOk.gd0 {n : Nat} {h : Int} {ts : List PyData} (t : TsOk n h ts) : Gd (n + 1) (h + 1) (.tuple ts) := t.gd (ns := []) (by decide)
theorem f2_ok {n : Nat} {low g : Int} {f2 : PyData} (h : F2 low g f2) : ∃ ts, f2 = .tuple ts ∧ TsOk n 0 ts := by
  rcases h with ⟨d, _, _, rfl⟩ | ⟨d, _, _, rfl⟩
  · exact ⟨_, rfl, by show 2 ≤ 50; decide, Int.le_refl 0, _, rfl, gd_int n _, fun x hx => by
      simp at hx; rcases hx with rfl | rfl <;> exact ⟨0, Int.le_refl 0, gd_int n _⟩⟩
  · exact ⟨_, rfl, by show 4 ≤ 50; decide, Int.le_refl 0, _, rfl, gd_int n _, fun x hx => by
      simp at hx; rcases hx with rfl | rfl | rfl | rfl <;> exact ⟨0, Int.le_refl 0, gd_int n _⟩⟩
theorem f3_ok {n : Nat} {low g : Int} {f2 f3 : PyData} (h2 : F2 low g f2) (h : F3 g f2 f3) : ∃ ts h, f3 = .tuple ts ∧ 1 ≤ h ∧ TsOk (n + 2) h ts := by
  obtain ⟨t2, rfl, k2⟩ := f2_ok (n := n) h2
  obtain ⟨t2', e2, k2'⟩ := f2_ok (n := n + 1) h2
  cases e2
  have g2 : Gd (n + 1) 1 (.tuple t2) := k2.gd0
  have g2' : Gd (n + 2) 1 (.tuple t2) := k2'.gd0
  rcases h with rfl | ⟨e, ts, _, _, et, rfl⟩ | rfl
  · exact ⟨_, 1, rfl, Int.le_refl 1, by show 2 ≤ 50; decide, by decide, _, rfl, g2', fun x hx => by
      simp at hx
      rcases hx with rfl | rfl
      · exact ⟨0, by decide, gd_int _ _⟩
      · exact ⟨1, Int.le_refl 1, g2'⟩⟩
  · cases et
    have g3 : Gd (n + 2) 1 (.tuple (.int (e + 1) :: .int 64 :: t2)) := by
      obtain ⟨l, h0, dl, e1, gl, g⟩ := k2'
      refine gd_tup (h := 0) (by show t2.length + 2 ≤ 9000; omega) (dl := dl) ?_ gl fun x hx => ?_
      · rw [List.getLast?_cons, List.getLast?_cons, e1]; rfl
      · rcases List.mem_cons.mp hx with rfl | hx
        · exact ⟨0, Int.le_refl 0, gd_int _ _⟩
        · rcases List.mem_cons.mp hx with rfl | hx
          · exact ⟨0, Int.le_refl 0, gd_int _ _⟩
          · exact g x hx
    exact ⟨_, 1, rfl, Int.le_refl 1, by show 2 ≤ 50; decide, by decide, _, rfl, g3, fun x hx => by
      simp at hx
      rcases hx with rfl | rfl
      · exact ⟨1, Int.le_refl 1, g2'⟩
      · exact ⟨1, Int.le_refl 1, g3⟩⟩
  · have g3 : Gd (n + 2) 2 (.tuple [.int g, .tuple t2]) := gd_tup (h := 1) (by show 2 ≤ 9000; decide) rfl g2 fun x hx => by
      simp at hx
      rcases hx with rfl | rfl
      · exact ⟨0, by decide, gd_int _ _⟩
      · exact ⟨1, Int.le_refl 1, g2⟩
    exact ⟨_, 2, rfl, by decide, by show 4 ≤ 50; decide, by decide, _, rfl, g3, fun x hx => by
      simp at hx
      rcases hx with rfl | rfl | rfl | rfl
      · exact ⟨0, by decide, gd_int _ _⟩
      · exact ⟨0, by decide, gd_int _ _⟩
      · exact ⟨1, by decide, g2'⟩
      · exact ⟨2, by decide, g3⟩⟩
/-! ### places -/
theorem step_in (p : Nat) : -(2 ^ 100) ≤ ((p % 200 : Nat) : Int) ∧ ((p % 200 : Nat) : Int) < 2 ^ 100 := by
  have := Nat.mod_lt p (show 0 < 200 by decide); omega
theorem step_len (p : Nat) : (turnsN ((p % 200 : Nat) : Int)).length ≤ 2000 := by
  have h := Nat.mod_lt p (show 0 < 200 by decide)
  have := turns_len (x := ((p % 200 : Nat) : Int)) (n := 10) (by omega) (by omega)
  omega
theorem place0 {fs : List PyData} (F : Fields fs) {p : Nat} (h : p < 200) : placeD fs p = .int (p : Int) := by
  obtain ⟨a, low, g, f2, f3, rfl, _⟩ := F.ex
  unfold placeD
  rw [show p / 200 = 0 by omega]
  show formD (0 + ((p % 200 : Nat) : Int)) = _
  rw [show p % 200 = p by omega]
  unfold formD
  rw [if_pos (by constructor <;> omega)]
  congr 1
  omega
/-- the height of a place, ever greater -/
theorem places {fs : List PyData} (F : Fields fs) (n : Nat) : ∃ hp : Nat → Int, (∀ p q, p ≤ q → q < 800 → hp p ≤ hp q) ∧ ∀ p, p < 800 → 0 ≤ hp p ∧ Gd (n + 3) (hp p) (placeD fs p) ∧ (64 < p → isNear (placeD fs p) = false) := by
  have F' := F
  obtain ⟨a, low, g, f2, f3, rfl, a0, a1, _, _, _, _, k2, k3⟩ := F.ex
  obtain ⟨t2, rfl, o2⟩ := f2_ok (n := n + 2) k2
  obtain ⟨t3, h3, rfl, h1, o3⟩ := f3_ok (n := n) k2 k3
  refine ⟨fun p => if p < 200 then 0 else if p < 400 then hI (a + ((p % 200 : Nat) : Int)) else if p < 600 then 1 else h3 + 1, ?_, ?_⟩
  · intro p q pq q8
    have hi : ∀ x, 0 ≤ hI x ∧ hI x ≤ 1 := fun x => by unfold hI; split <;> decide
    have mono : ∀ x y : Int, 0 ≤ x → x ≤ y → hI x ≤ hI y := fun x y x0 xy => by
      unfold hI
      by_cases c : plain y
      · have c' : plain x := ⟨by omega, by have := c.2; omega⟩
        rw [if_pos c, if_pos c']; decide
      · rw [if_neg c]
        split <;> decide
    dsimp only
    have b1 := hi (a + ((p % 200 : Nat) : Int))
    have b2 := hi (a + ((q % 200 : Nat) : Int))
    by_cases c1 : p < 200
    · rw [if_pos c1]
      split
      · exact Int.le_refl 0
      · split
        · omega
        · split <;> omega
    · rw [if_neg c1, if_neg (show ¬ q < 200 by omega)]
      by_cases c2 : p < 400
      · rw [if_pos c2]
        split
        · exact mono _ _ (by omega) (by omega)
        · split <;> omega
      · rw [if_neg c2, if_neg (show ¬ q < 400 by omega)]
        split
        · split <;> omega
        · rw [if_neg (show ¬ q < 600 by omega)]; omega
  · intro p p8
    dsimp only
    by_cases c1 : p < 200
    · rw [if_pos c1, place0 F' c1]
      exact ⟨Int.le_refl 0, gd_int _ _, fun h => decide_eq_false (by omega)⟩
    · rw [if_neg c1]
      by_cases c2 : p < 400
      · rw [if_pos c2]
        unfold placeD
        rw [show p / 200 = 1 by omega]
        have hs := step_in p
        refine ⟨by unfold hI; split <;> decide, ?_, fun _ => ?_⟩
        · have big : (2 : Int) ^ 101 ≤ 2 ^ 2000 := by
            have h' : ((2 ^ 101 : Nat) : Int) ≤ ((2 ^ 2000 : Nat) : Int) := Int.ofNat_le.mpr (Nat.pow_le_pow_right (by decide) (by decide))
            rw [Int.natCast_pow, Int.natCast_pow] at h'
            exact h'
          refine gd_form ?_ ?_
          · generalize (2 : Int) ^ 2000 = B at big ⊢; omega
          · generalize (2 : Int) ^ 2000 = B at big ⊢; omega
        · show isNear (formD _) = false
          unfold formD
          split
          · exact decide_eq_false (by omega)
          · rfl
      · rw [if_neg c2]
        by_cases c3 : p < 600
        · rw [if_pos c3]
          unfold placeD
          rw [show p / 200 = 2 by omega]
          exact ⟨by decide, o2.gd (step_len p), fun _ => rfl⟩
        · rw [if_neg c3]
          unfold placeD
          rw [show p / 200 = 3 by omega]
          exact ⟨by omega, o3.gd (step_len p), fun _ => rfl⟩
theorem place_fm {fs : List PyData} (F : Fields fs) {p : Nat} (h : p < 800) : Fm 3 (placeD fs p) := by
  obtain ⟨hp, _, k⟩ := places F 0
  exact (k p h).2.1.fm
/-- the row of places of a code keeps the word for row_form -/
theorem places_row {fs : List PyData} (F : Fields fs) {ns : List Nat} (asc : ns.Pairwise (· < ·)) (hb : ∀ p ∈ ns, p < 800) : RowC (ns.map (placeD fs)) := by
  intro d hd hn
  rcases List.eq_nil_or_concat ns with rfl | ⟨m, q, rfl⟩
  · cases hd
  rw [List.concat_eq_append] at *
  rw [List.map_append, List.map_singleton, List.getLast?_concat] at hd
  cases hd
  obtain ⟨hp, _, k⟩ := places F 0
  have q8 : q < 800 := hb q (by simp)
  have q64 : q ≤ 64 := by
    by_cases c : 64 < q
    · have := (k q q8).2.2 c
      rw [hn] at this
      cases this
    · omega
  have all : ∀ p ∈ m ++ [q], p ≤ 64 := fun p hp => by
    rcases List.mem_append.mp hp with hp | hp
    · have := (List.pairwise_append.mp asc).2.2 p hp q List.mem_cons_self; omega
    · simp at hp; omega
  refine ⟨m ++ [q], ?_, all⟩
  unfold nD
  exact List.map_congr_left fun p hp => place0 F (by have := all p hp; omega)
theorem turns_800 {c : Int} (h0 : 0 ≤ c) (h1 : c < 2 ^ 799) : ∀ p ∈ turnsN c, p < 800 := fun p hp => by
  have := turns_lt (n := 799) (by generalize (2 : Int) ^ 799 = B at h1 ⊢; omega) h1 p hp; omega
/-- a moved code: an int if it is small, else a tuple; its height by its last turn -/
theorem moved_cases {fs : List PyData} (F : Fields fs) {c : Int} (h0 : 0 ≤ c) (h1 : c < 2 ^ 799) :
    ((∀ p ∈ turnsN c, p ≤ 64) ∧ movedD fs c = .int c) ∨ ∃ l p, turnsN c = l ++ [p] ∧ 64 < p ∧ movedD fs c = .tuple ((turnsN c).map (placeD fs)) := by
  have hb := turns_800 h0 h1
  have asc := turns_asc c
  have e := turns_alt c
  have near : (∀ p ∈ turnsN c, p ≤ 64) → movedD fs c = .int c := fun all => by
    unfold movedD
    have e1 : (turnsN c).map (placeD fs) = nD (turnsN c) := by
      unfold nD
      exact List.map_congr_left fun p hp => place0 F (by have := all p hp; omega)
    rw [e1]
    cases hl : (nD (turnsN c)).getLast? with
    | none =>
      have : turnsN c = [] := by
        have := List.getLast?_eq_none_iff.mp hl
        unfold nD at this
        exact List.map_eq_nil_iff.mp this
      rw [this] at e ⊢
      show PyData.int 0 = .int c
      congr 1
    | some d =>
      obtain ⟨n, hn, rfl⟩ := List.mem_map.mp (List.mem_of_getLast? hl)
      rw [rowD_near hl (decide_eq_true (by have := all n hn; omega)), e]
  rcases List.eq_nil_or_concat (turnsN c) with h | ⟨m, q, h⟩
  · left
    have all : ∀ p ∈ turnsN c, p ≤ 64 := by rw [h]; intro p hp; cases hp
    exact ⟨all, near all⟩
  · rw [List.concat_eq_append] at h
    by_cases c64 : q ≤ 64
    · left
      have all : ∀ p ∈ turnsN c, p ≤ 64 := by
        rw [h] at asc ⊢
        intro p hp
        rcases List.mem_append.mp hp with hp | hp
        · have := (List.pairwise_append.mp asc).2.2 p hp q List.mem_cons_self; omega
        · simp at hp; omega
      exact ⟨all, near all⟩
    · right
      refine ⟨m, q, h, by omega, ?_⟩
      obtain ⟨hp, _, k⟩ := places F 0
      have q8 : q < 800 := hb q (by rw [h]; simp)
      unfold movedD
      refine rowD_far (d := placeD fs q) ?_ ((k q q8).2.2 (by omega))
      rw [h, List.map_append, List.map_singleton, List.getLast?_concat]
theorem len_turns {c : Int} (h0 : 0 ≤ c) (h1 : c < 2 ^ 799) : (turnsN c).length ≤ 800 :=
  turns_len (n := 799) (by generalize (2 : Int) ^ 799 = B at h1 ⊢; omega) h1
/-- the height of a moved code, ever greater -/
theorem moveds {fs : List PyData} (F : Fields fs) (n : Nat) : ∃ hm : Int → Int, (∀ c c', 0 ≤ c → c ≤ c' → c' < 2 ^ 799 → hm c ≤ hm c') ∧ ∀ c, 0 ≤ c → c < 2 ^ 799 → 0 ≤ hm c ∧ Gd (n + 4) (hm c) (movedD fs c) ∧ (isNear (movedD fs c) = true → c ≤ 64) := by
  obtain ⟨hp, mono, k⟩ := places F n
  refine ⟨fun c => match (turnsN c).getLast? with | none => 0 | some p => if p ≤ 64 then 0 else hp p + 1, ?_, ?_⟩
  · intro c c' c0 cc c8
    dsimp only
    have hb := turns_800 (c := c') (by omega) c8
    have hb0 := turns_800 (c := c) c0 (by generalize (2 : Int) ^ 799 = B at c8 ⊢; omega)
    rcases List.eq_nil_or_concat (turnsN c) with h | ⟨m, q, h⟩
    · rw [h]
      show (0 : Int) ≤ _
      split
      · exact Int.le_refl 0
      · rename_i p hpe
        split
        · exact Int.le_refl 0
        · have := (k p (hb p (List.mem_of_getLast? hpe))).1; omega
    · rw [List.concat_eq_append] at h
      rcases List.eq_nil_or_concat (turnsN c') with h' | ⟨m', q', h'⟩
      · have e' := turns_alt c'
        rw [h'] at e'
        have z : c' = 0 := e'.symm
        have z0 : c = 0 := by omega
        rw [z0] at h
        rw [z] at h'
        rw [h'] at h
        simp at h
      · rw [List.concat_eq_append] at h'
        have pq := last_mono c0 cc h h'
        have q8 : q' < 800 := hb q' (by rw [h']; simp)
        rw [h, h', List.getLast?_concat, List.getLast?_concat]
        show (if q ≤ 64 then (0 : Int) else hp q + 1) ≤ if q' ≤ 64 then 0 else hp q' + 1
        have := mono q q' pq q8
        have := (k q' q8).1
        split <;> split <;> omega
  · intro c c0 c8
    dsimp only
    have hb := turns_800 (c := c) c0 c8
    have asc := turns_asc c
    rcases moved_cases F c0 c8 with ⟨all, e⟩ | ⟨l, p, e1, p64, e⟩
    · rw [e]
      have z : (match (turnsN c).getLast? with | none => (0 : Int) | some p => if p ≤ 64 then 0 else hp p + 1) = 0 := by
        split
        · rfl
        · rename_i p hpe
          rw [if_pos (all p (List.mem_of_getLast? hpe))]
      rw [z]
      exact ⟨Int.le_refl 0, gd_int _ _, fun h => of_decide_eq_true h⟩
    · rw [e, e1, List.getLast?_concat]
      show 0 ≤ (if p ≤ 64 then (0 : Int) else hp p + 1) ∧ Gd (n + 4) (if p ≤ 64 then (0 : Int) else hp p + 1) _ ∧ _
      rw [if_neg (by omega)]
      have p8 : p < 800 := hb p (by rw [e1]; simp)
      have kp := k p p8
      refine ⟨by omega, gd_tup (dl := placeD fs p) ?_ ?_ kp.2.1 fun x hx => ?_, fun h => by cases h⟩
      · have := len_turns c0 c8
        rw [e1] at this
        rw [List.length_map]; omega
      · rw [List.map_append, List.map_singleton, List.getLast?_concat]
      · obtain ⟨q, hq, rfl⟩ := List.mem_map.mp hx
        have q8 : q < 800 := hb q (by rw [e1]; exact hq)
        refine ⟨hp q, mono q p ?_ p8, (k q q8).2.1⟩
        rw [e1] at asc
        rcases List.mem_append.mp hq with hq | hq
        · have := (List.pairwise_append.mp asc).2.2 q hq p List.mem_cons_self; omega
        · simp at hq; omega
/-- codes that ascend -/
def Codes (cs : List Int) : Prop := cs.Pairwise (· < ·) ∧ (∀ c ∈ cs, 0 ≤ c ∧ c < 2 ^ 799) ∧ cs.length ≤ 2000
def codesD (fs : List PyData) (cs : List Int) : PyData := rowD (cs.map (movedD fs))
theorem small_moved {fs : List PyData} (F : Fields fs) {c : Int} (h0 : 0 ≤ c) (h1 : c ≤ 64) : movedD fs c = .int c := by
  have h7 : c < 2 ^ 7 := by omega
  have c8 : c < 2 ^ 799 := by
    have big : (2 : Int) ^ 7 ≤ 2 ^ 799 := by
      have h' : ((2 ^ 7 : Nat) : Int) ≤ ((2 ^ 799 : Nat) : Int) := Int.ofNat_le.mpr (Nat.pow_le_pow_right (by decide) (by decide))
      rw [Int.natCast_pow, Int.natCast_pow] at h'
      exact h'
    generalize (2 : Int) ^ 799 = B at big ⊢; omega
  rcases moved_cases F h0 c8 with ⟨_, e⟩ | ⟨l, p, e1, p64, _⟩
  · exact e
  · have := turns_lt (n := 7) (by omega) h7 p (by rw [e1]; simp)
    omega
theorem codes_row {fs : List PyData} (F : Fields fs) {cs : List Int} (h : Codes cs) : RowC (cs.map (movedD fs)) := by
  obtain ⟨asc, hb, _⟩ := h
  intro d hd hn
  rcases List.eq_nil_or_concat cs with rfl | ⟨m, q, rfl⟩
  · cases hd
  rw [List.concat_eq_append] at *
  rw [List.map_append, List.map_singleton, List.getLast?_concat] at hd
  cases hd
  obtain ⟨hm, _, k⟩ := moveds F 0
  have hq := hb q (by simp)
  have q64 := (k q hq.1 hq.2).2.2 hn
  have all : ∀ c ∈ m ++ [q], c ≤ 64 := fun c hc => by
    rcases List.mem_append.mp hc with hc | hc
    · have := (List.pairwise_append.mp asc).2.2 c hc q List.mem_cons_self; omega
    · simp at hc; omega
  refine ⟨(m ++ [q]).map Int.toNat, ?_, fun n hn => ?_⟩
  · unfold nD
    rw [List.map_map]
    refine List.map_congr_left fun c hc => ?_
    rw [small_moved F (hb c hc).1 (all c hc)]
    show PyData.int c = .int ((c.toNat : Nat) : Int)
    have := (hb c hc).1
    congr 1
    omega
  · obtain ⟨c, hc, rfl⟩ := List.mem_map.mp hn
    have := all c hc
    omega
theorem codes_gd {fs : List PyData} (F : Fields fs) {cs : List Int} (h : Codes cs) (n : Nat) : ∃ hh, Gd (n + 5) hh (codesD fs cs) := by
  obtain ⟨asc, hb, hl⟩ := h
  obtain ⟨hm, mono, k⟩ := moveds F n
  unfold codesD
  rcases List.eq_nil_or_concat cs with rfl | ⟨m, q, rfl⟩
  · exact ⟨0, gd_int _ _⟩
  rw [List.concat_eq_append] at *
  have e : ((m ++ [q]).map (movedD fs)).getLast? = some (movedD fs q) := by rw [List.map_append, List.map_singleton, List.getLast?_concat]
  have hq := hb q (by simp)
  by_cases c : isNear (movedD fs q) = true
  · unfold rowD
    rw [e]
    show ∃ hh, Gd (n + 5) hh (if isNear (movedD fs q) = true then _ else _)
    rw [if_pos c]
    exact ⟨0, gd_int _ _⟩
  · rw [rowD_far e (Bool.eq_false_iff.mpr c)]
    refine ⟨hm q + 1, gd_tup (by rw [List.length_map]; omega) e (k q hq.1 hq.2).2.1 fun x hx => ?_⟩
    obtain ⟨c', hc', rfl⟩ := List.mem_map.mp hx
    have hc := hb c' hc'
    refine ⟨hm c', mono c' q hc.1 ?_ hq.2, (k c' hc.1 hc.2).2.1⟩
    rcases List.mem_append.mp hc' with h | h
    · have := (List.pairwise_append.mp asc).2.2 c' h q List.mem_cons_self; omega
    · simp at h; omega
end Fb
namespace Fb
open PySem L2
theorem cpow {i j : Int} (h : 0 ≤ j ∧ j ≤ 1000000 ∧ i.natAbs < 2 ^ 64) : CPow i j := h
theorem dps_last {K : PySem.W.Frag} {H : Hp} {ini : List PyData} {d : PyData} {xs : List V} (h : DpAll K H xs (ini ++ [d])) : ∃ x, atI xs (-1) = some x ∧ Dp K H x d := by
  have hl := dps_length h
  rw [List.length_append, List.length_singleton] at hl
  have hi : ini.length < xs.length := by omega
  have e : xs[ini.length]? = some xs[ini.length] := List.getElem?_eq_getElem hi
  obtain ⟨d', h1, h2⟩ := dps_get h e
  rw [List.getElem?_append_right (Nat.le_refl _), Nat.sub_self] at h1
  cases h1
  refine ⟨_, ?_, h2⟩
  unfold atI ixN
  rw [if_neg (by decide), if_pos (by omega)]
  show xs[((-1 : Int) + xs.length).toNat]? = _
  rw [show ((-1 : Int) + xs.length).toNat = ini.length by omega]
  exact e
/-! ### codes: groups of bits 200 places apart -/
def val4 (d : Nat → Int) : Int := d 0 + d 1 * 2 ^ 200 + d 2 * 2 ^ 400 + d 3 * 2 ^ 600
def CodeB (m : Nat) (b c : Int) : Prop := ∃ d : Nat → Int, c = val4 d ∧ (∀ k, 0 ≤ d k ∧ d k < b) ∧ ∀ k, m ≤ k → d k = 0
def cb (j : Nat) : Int := 2 ^ 57 + 4 * (j : Int)
abbrev Code (m j : Nat) (c : Int) : Prop := CodeB m (cb j) c
theorem CodeB.mono {m : Nat} {b b' c : Int} (h : CodeB m b c) (e : b ≤ b') : CodeB m b' c := by
  obtain ⟨d, h1, h2, h3⟩ := h
  exact ⟨d, h1, fun k => ⟨(h2 k).1, by have := (h2 k).2; omega⟩, h3⟩
theorem code_small {m : Nat} {b e : Int} (hm : 1 ≤ m) (h0 : 0 ≤ e) (h1 : e < b) : CodeB m b e := by
  refine ⟨fun k => if k = 0 then e else 0, ?_, fun k => ?_, fun k hk => ?_⟩
  · unfold val4; simp
  · dsimp only; split <;> omega
  · dsimp only; rw [if_neg (by omega)]
theorem code_add {m : Nat} {b c e : Int} (hm : 1 ≤ m) (h : CodeB m b c) (h0 : 0 ≤ e) : CodeB m (b + e) (c + e) := by
  obtain ⟨d, rfl, h2, h3⟩ := h
  refine ⟨fun k => if k = 0 then d 0 + e else d k, ?_, fun k => ?_, fun k hk => ?_⟩
  · unfold val4; simp; omega
  · dsimp only
    have := h2 0
    have := h2 k
    split <;> omega
  · dsimp only; rw [if_neg (by omega)]; exact h3 k hk
theorem code_piece {m : Nat} {b c pc : Int} {k s : Nat} (h : CodeB m b c) (hk : k < m) (hm : m ≤ 4) (p0 : 0 ≤ pc) (p1 : pc < 2 ^ 40) (hs : s < 15) : CodeB m (b + 2 ^ 55) (c + pc * 2 ^ (200 * k + s)) := by
  obtain ⟨d, rfl, h2, h3⟩ := h
  have hs1 : (0 : Int) < 2 ^ s := Int.pow_pos (by decide)
  have hs2 : (2 : Int) ^ s ≤ 2 ^ 14 := by
    have h' : ((2 ^ s : Nat) : Int) ≤ ((2 ^ 14 : Nat) : Int) := Int.ofNat_le.mpr (Nat.pow_le_pow_right (by decide) (by omega))
    rw [Int.natCast_pow, Int.natCast_pow] at h'
    exact h'
  have q0 : 0 ≤ pc * 2 ^ s := Int.mul_nonneg p0 (by omega)
  have q1 : pc * 2 ^ s < 2 ^ 55 := by
    have a : pc * 2 ^ s ≤ pc * 2 ^ 14 := Int.mul_le_mul_of_nonneg_left hs2 p0
    omega
  have e : pc * 2 ^ (200 * k + s) = (pc * 2 ^ s) * 2 ^ (200 * k) := by rw [Int.pow_add, Int.mul_assoc, Int.mul_comm (2 ^ (200 * k))]
  rw [e]
  generalize pc * 2 ^ s = z at q0 q1 ⊢
  refine ⟨fun i => if i = k then d k + z else d i, ?_, fun i => ?_, fun i hi => ?_⟩
  · match k, (by omega : k < 4) with
    | 0, _ => unfold val4; simp; omega
    | 1, _ => unfold val4; simp; rw [Int.add_mul]; omega
    | 2, _ => unfold val4; simp; rw [Int.add_mul]; omega
    | 3, _ => unfold val4; simp; rw [Int.add_mul]; omega
  · dsimp only
    have := h2 k
    have := h2 i
    split <;> omega
  · dsimp only; rw [if_neg (by omega)]; exact h3 i hi
theorem p_le {a b : Nat} (h : a ≤ b) : (2 : Int) ^ a ≤ 2 ^ b := by
  have h' : ((2 ^ a : Nat) : Int) ≤ ((2 ^ b : Nat) : Int) := Int.ofNat_le.mpr (Nat.pow_le_pow_right (by decide) h)
  rw [Int.natCast_pow, Int.natCast_pow] at h'
  exact h'
/-- a code's size by its groups -/
theorem code_lt {m : Nat} {b c : Int} (h : CodeB m b c) (hm1 : 1 ≤ m) (hm : m ≤ 4) (hb : b ≤ 2 ^ 60) : 0 ≤ c ∧ c < 2 ^ (200 * (m - 1) + 61) := by
  obtain ⟨d, rfl, h2, h3⟩ := h
  have a0 := h2 0; have a1 := h2 1; have a2 := h2 2; have a3 := h2 3
  unfold val4
  match m, hm1, hm with
  | 1, _, _ =>
    have z1 := h3 1 (by decide); have z2 := h3 2 (by decide); have z3 := h3 3 (by decide)
    rw [z1, z2, z3]
    show 0 ≤ _ ∧ _ < (2 : Int) ^ 61
    omega
  | 2, _, _ =>
    have z2 := h3 2 (by decide); have z3 := h3 3 (by decide)
    rw [z2, z3]
    show 0 ≤ _ ∧ _ < (2 : Int) ^ 261
    omega
  | 3, _, _ =>
    have z3 := h3 3 (by decide)
    rw [z3]
    show 0 ≤ _ ∧ _ < (2 : Int) ^ 461
    omega
  | 4, _, _ =>
    show 0 ≤ _ ∧ _ < (2 : Int) ^ 661
    omega
theorem code_799 {m : Nat} {b c : Int} (h : CodeB m b c) (hm1 : 1 ≤ m) (hm : m ≤ 4) (hb : b ≤ 2 ^ 60) : 0 ≤ c ∧ c < 2 ^ 799 := by
  obtain ⟨h0, h1⟩ := code_lt h hm1 hm hb
  refine ⟨h0, Int.lt_of_lt_of_le h1 (p_le (by omega))⟩
theorem code_turns {m : Nat} {b c : Int} (h : CodeB m b c) (hm1 : 1 ≤ m) (hm : m ≤ 4) (hb : b ≤ 2 ^ 60) : ∀ p ∈ turnsN c, p / 200 < m := fun p hp => by
  obtain ⟨h0, h1⟩ := code_lt h hm1 hm hb
  have := turns_lt (n := 200 * (m - 1) + 61) (by have := Int.pow_pos (n := 2) (m := 200 * (m - 1) + 61) (by decide); omega) h1 p hp
  omega
theorem inV_int (c : Int) (l : List Int) : inV (.int c) (l.map V.int) = decide (c ∈ l) := by
  unfold inV
  induction l with
  | nil => rfl
  | cons x xs ih =>
    rw [List.map_cons, List.any_cons, ih]
    show (x == c || decide (c ∈ xs)) = _
    by_cases h : x = c
    · subst h; simp
    · rw [beq_false_of_ne h, Bool.false_or]
      simp [Ne.symm h]
theorem flat_ints (l : List Int) : (l.map V.int).all flatV = true := by
  rw [List.all_eq_true]
  intro x hx
  obtain ⟨c, _, rfl⟩ := List.mem_map.mp hx
  rfl
/-- sorted, without duplicates: strictly ascending -/
theorem strict_of {l l' : List Int} (hp : l'.Perm l) (hn : l.Nodup) (hs : l'.Pairwise (· ≤ ·)) : l'.Pairwise (· < ·) := by
  have hn' : l'.Nodup := hp.nodup_iff.mpr hn
  exact (hs.and hn').imp fun h => by obtain ⟨a, b⟩ := h; omega
theorem eqv_nil' (l : List Int) : PyData.eqv (.list (l.map PyData.int)) (.list []) = decide (l = []) := by
  rw [eqv_nil]
  cases l <;> rfl
theorem dps_map_int {K : PySem.W.Frag} {H : Hp} (l : List Int) : DpAll K H (l.map V.int) (l.map PyData.int) := dps_ints l
theorem shaped_ints (l : List Int) : SeqAt.shaped (.list (l.map PyData.int)) = true := shaped_list (n := 0) (by decide) fun x hx => by
  obtain ⟨i, _, rfl⟩ := List.mem_map.mp hx; exact ⟨i, rfl⟩
end Fb
namespace Fb
open PySem L2
/-! ### order: of ints, of rows by their last places, of forms -/
def sgnI (a b : Int) : Int := if a = b then 0 else if a < b then -1 else 1
theorem sgnI_self (a : Int) : sgnI a a = 0 := if_pos rfl
theorem sgnI_lt {a b : Int} (h : a < b) : sgnI a b = -1 := by unfold sgnI; rw [if_neg (by omega), if_pos h]
theorem sgnI_gt {a b : Int} (h : b < a) : sgnI a b = 1 := by unfold sgnI; rw [if_neg (by omega), if_neg (by omega)]
theorem sgnI_swap (a b : Int) : sgnI b a = -sgnI a b := by
  unfold sgnI
  by_cases h : a = b
  · rw [if_pos h, if_pos h.symm]; rfl
  · rw [if_neg h, if_neg (Ne.symm h)]
    by_cases c : a < b
    · rw [if_pos c, if_neg (by omega)]; rfl
    · rw [if_neg c, if_pos (by omega)]
theorem sgnI_pm {a b : Int} (h : a ≠ b) : sgnI a b = 1 ∨ sgnI a b = -1 := by
  unfold sgnI; rw [if_neg h]; split
  · exact .inr rfl
  · exact .inl rfl
theorem sgnI_add (a b z : Int) : sgnI (a + z) (b + z) = sgnI a b := by
  by_cases e : a = b
  · subst e; rw [sgnI_self, sgnI_self]
  · by_cases c : a < b
    · rw [sgnI_lt c, sgnI_lt (by omega)]
    · rw [sgnI_gt (show b < a by omega), sgnI_gt (by omega)]
def par (k : Nat) (s : Int) : Int := if k % 2 = 1 then -s else s
/-- from the top: rows that are turned round -/
def lexR : List Int → List Int → Int
  | [], [] => 0
  | [], _ :: _ => -1
  | x :: xs, [] => par (xs.length + 1) 1
  | x :: xs, y :: ys => if x = y then lexR xs ys else par (xs.length + 1) (sgnI x y)
/-- the order of rows of turns -/
def cmpS (l l' : List Int) : Int :=
  if l.length % 2 ≠ l'.length % 2 then (if l.length % 2 = 1 then -1 else 1) else lexR l.reverse l'.reverse
def altZ (s : Int) (l : List Nat) : Int := alt s l
theorem flip_eq (s : Int) (n : Nat) : flip s n = par n s := by
  induction n generalizing s with
  | zero => rfl
  | succ n ih =>
    show flip (-s) n = _
    rw [ih]
    unfold par
    by_cases h : n % 2 = 1
    · rw [if_pos h, if_neg (by omega)]; omega
    · rw [if_neg h, if_pos (by omega)]
/-- the size of a row's sum by its last place -/
theorem alt_size {m : List Nat} {p : Nat} (hp : (m ++ [p]).Pairwise (· < ·)) : ∃ v : Int, alt (-1) (m ++ [p]) = flip (-1) m.length * v ∧ (m.length = 0 → v = 2 ^ p) ∧ (1 ≤ m.length → v < 2 ^ p) ∧ (m.length = 1 → 2 ^ p ≤ 2 * v) ∧ (2 ≤ m.length → 2 ^ p < 2 * v) ∧ 0 < v := by
  obtain ⟨h1, _, h3⟩ := List.pairwise_append.mp hp
  have pp : (0 : Int) < 2 ^ p := Int.pow_pos (by decide)
  have fpm := flip_pm (s := -1) (.inr rfl) m.length
  refine ⟨flip (-1) m.length * alt (-1) (m ++ [p]), ?_, ?_⟩
  · rw [← Int.mul_assoc]
    rcases fpm with f | f <;> rw [f] <;> omega
  rw [alt_snoc]
  rcases List.eq_nil_or_concat m with rfl | ⟨m', q, rfl⟩
  · have e : flip (-1) (([] : List Nat).length) * (alt (-1) [] + flip (-1) (([] : List Nat).length) * 2 ^ p) = 2 ^ p := by
      show (-1 : Int) * (0 + -1 * 2 ^ p) = 2 ^ p
      omega
    rw [e]
    exact ⟨fun _ => rfl, fun h => by simp at h, fun h => by simp at h, fun h => by simp at h, pp⟩
  · rw [List.concat_eq_append] at *
    have qp : q < p := h3 q (by simp) p List.mem_cons_self
    have q2 : (2 : Int) * 2 ^ q ≤ 2 ^ p := by
      have := p_le (a := q + 1) (b := p) (by omega)
      rw [Int.pow_succ] at this; omega
    have pq : (0 : Int) < 2 ^ q := Int.pow_pos (by decide)
    obtain ⟨k1, _, k3⟩ := List.pairwise_append.mp h1
    have sm := alt_lt (s := -1) (.inr rfl) (n := q) k1 fun r hr => k3 r hr q List.mem_cons_self
    have sg := alt_sign (s := -1) (.inr rfl) h1
    rw [alt_snoc] at sg
    rw [alt_snoc]
    have fl : flip (-1) (m' ++ [q]).length = -flip (-1) m'.length := by rw [List.length_append, List.length_singleton, flip_succ]
    rw [fl]
    have f' := flip_pm (s := -1) (.inr rfl) m'.length
    -- for two places and more the sum of the others is less than 2 to q
    have strict : 1 ≤ m'.length → (flip (-1) m'.length = 1 → alt (-1) m' < 0) ∧ (flip (-1) m'.length = -1 → 0 < alt (-1) m') := fun hl => by
      rcases List.eq_nil_or_concat m' with rfl | ⟨m2, r, rfl⟩
      · simp at hl
      · rw [List.concat_eq_append] at *
        have sg2 := alt_sign (s := -1) (.inr rfl) k1
        have fl2 : flip (-1) (m2 ++ [r]).length = -flip (-1) m2.length := by rw [List.length_append, List.length_singleton, flip_succ]
        constructor
        · intro h; exact sg2.2 (by omega)
        · intro h; exact sg2.1 (by omega)
    have len : (m' ++ [q]).length = m'.length + 1 := by rw [List.length_append, List.length_singleton]
    rw [len]
    have zero : m'.length = 0 → alt (-1) m' = 0 := fun h => by
      have : m' = [] := List.length_eq_zero_iff.mp h
      subst this; rfl
    rcases f' with f | f <;> rw [f] at sg strict ⊢ <;> refine ⟨fun h => by omega, fun _ => ?_, fun h => ?_, fun h => ?_, ?_⟩
    · have := sg.1 rfl; omega
    · have := zero (by omega); omega
    · have := (strict (by omega)).1 rfl; omega
    · omega
    · have := sg.2 rfl; omega
    · have := zero (by omega); omega
    · have := (strict (by omega)).2 rfl; omega
    · omega
theorem lexR_tail : ∀ (t a b : List Int), lexR (t ++ a) (t ++ b) = lexR a b
  | [], _, _ => rfl
  | x :: t, a, b => by
    show (if x = x then lexR (t ++ a) (t ++ b) else _) = _
    rw [if_pos rfl, lexR_tail t a b]
def zs (l : List Nat) : List Int := l.map Int.ofNat
/-- the order of rows is that of their sums -/
theorem lex_alt : ∀ (l l' : List Nat), l.Pairwise (· < ·) → l'.Pairwise (· < ·) → l.length % 2 = l'.length % 2 → lexR (zs l).reverse (zs l').reverse = sgnI (alt (-1) l) (alt (-1) l') := by
  intro l
  generalize hn : l.length = n
  induction n generalizing l with
  | zero =>
    intro l' _ h2 hp
    have : l = [] := List.length_eq_zero_iff.mp hn
    subst this
    rcases List.eq_nil_or_concat l' with rfl | ⟨m, q, rfl⟩
    · rfl
    · rw [List.concat_eq_append] at *
      have e : (zs (m ++ [q])).reverse = (q : Int) :: (zs m).reverse := by unfold zs; rw [List.map_append, List.reverse_append]; rfl
      rw [e]
      show (-1 : Int) = sgnI 0 _
      have sg := alt_sign (s := -1) (.inr rfl) h2
      rw [flip_eq] at sg
      rw [List.length_append, List.length_singleton] at hp
      have f1 : par m.length (-1) = 1 := by unfold par; rw [if_pos (by omega)]; rfl
      rw [sgnI_lt (sg.1 f1)]
  | succ n ih =>
    intro l' h1 h2 hp
    rcases List.eq_nil_or_concat l with rfl | ⟨k, p, rfl⟩
    · cases hn
    rw [List.concat_eq_append] at *
    have hk : k.length = n := by rw [List.length_append, List.length_singleton] at hn; omega
    have ek : (zs (k ++ [p])).reverse = (p : Int) :: (zs k).reverse := by unfold zs; rw [List.map_append, List.reverse_append]; rfl
    have lk : (zs k).reverse.length = k.length := by unfold zs; rw [List.length_reverse, List.length_map]
    obtain ⟨v, v1, v2, v3, v4, v5, v6⟩ := alt_size h1
    rcases List.eq_nil_or_concat l' with rfl | ⟨m, q, rfl⟩
    · rw [ek]
      show par ((zs k).reverse.length + 1) 1 = sgnI _ 0
      rw [lk, v1, flip_eq]
      simp at hp
      have f1 : par k.length (-1) = 1 := by unfold par; rw [if_pos (by omega)]; rfl
      have f2 : par (k.length + 1) 1 = 1 := by unfold par; rw [if_neg (by omega)]
      rw [f1, f2, sgnI_gt (by omega)]
    rw [List.concat_eq_append] at *
    have em : (zs (m ++ [q])).reverse = (q : Int) :: (zs m).reverse := by unfold zs; rw [List.map_append, List.reverse_append]; rfl
    rw [List.length_append, List.length_singleton] at hp
    have hpm : k.length % 2 = m.length % 2 := by omega
    rw [ek, em]
    show (if (p : Int) = q then lexR (zs k).reverse (zs m).reverse else par ((zs k).reverse.length + 1) (sgnI p q)) = _
    have fe : flip (-1) k.length = flip (-1) m.length := by rw [flip_eq, flip_eq]; unfold par; rw [hpm]
    by_cases c : p = q
    · subst c
      rw [if_pos rfl, ih k hk m (List.pairwise_append.mp h1).1 (List.pairwise_append.mp h2).1 (by omega), alt_snoc, alt_snoc, fe]
      exact (sgnI_add _ _ _).symm
    · rw [if_neg (by omega), lk]
      obtain ⟨u, u1, u2, u3, u4, u5, u6⟩ := alt_size h2
      have key : ∀ (k m : List Nat) (p q : Nat) (v u : Int), p < q → k.length % 2 = m.length % 2 → (k.length = 0 → v = 2 ^ p) → (1 ≤ k.length → v < 2 ^ p) → (m.length = 0 → u = 2 ^ q) → (m.length = 1 → 2 ^ q ≤ 2 * u) → (2 ≤ m.length → 2 ^ q < 2 * u) → v < u := by
        intro k m p q v u pq hp a1 a2 b1 b2 b3
        have h : (2 : Int) * 2 ^ p ≤ 2 ^ q := by
          have := p_le (a := p + 1) (b := q) (by omega)
          rw [Int.pow_succ] at this; omega
        have pp : (0 : Int) < 2 ^ p := Int.pow_pos (by decide)
        by_cases z : m.length = 0
        · have := b1 z
          by_cases z2 : k.length = 0
          · have := a1 z2; omega
          · have := a2 (by omega); omega
        · by_cases z1 : m.length = 1
          · have := b2 z1
            have := a2 (by omega)
            omega
          · have := b3 (by omega)
            by_cases z2 : k.length = 0
            · have := a1 z2; omega
            · have := a2 (by omega); omega
      rw [v1, u1, fe, flip_eq]
      rcases Nat.lt_or_gt_of_ne c with pq | pq
      · have vu := key k m p q v u pq hpm v2 v3 u2 u4 u5
        rw [sgnI_lt (show (p : Int) < q by omega)]
        unfold par
        by_cases o : m.length % 2 = 1
        · rw [if_pos o, if_neg (by omega), sgnI_lt (by omega)]
        · rw [if_neg o, if_pos (by omega), sgnI_gt (by omega)]; rfl
      · have vu := key m k q p u v pq hpm.symm u2 u3 v2 v4 v5
        rw [sgnI_gt (show (q : Int) < p by omega)]
        unfold par
        by_cases o : m.length % 2 = 1
        · rw [if_pos o, if_neg (by omega), sgnI_gt (by omega)]
        · rw [if_neg o, if_pos (by omega), sgnI_lt (by omega)]
theorem alt_par {l : List Nat} (h : l.Pairwise (· < ·)) : (l.length % 2 = 1 → alt (-1) l < 0) ∧ (l.length % 2 = 0 → 0 ≤ alt (-1) l) := by
  rcases List.eq_nil_or_concat l with rfl | ⟨m, q, rfl⟩
  · exact ⟨fun h => (by simp at h), fun _ => Int.le_refl 0⟩
  · rw [List.concat_eq_append] at *
    have sg := alt_sign (s := -1) (.inr rfl) h
    rw [flip_eq] at sg
    rw [List.length_append, List.length_singleton]
    constructor
    · intro o
      exact sg.2 (by unfold par; rw [if_neg (by omega)])
    · intro o
      exact Int.le_of_lt (sg.1 (by unfold par; rw [if_pos (by omega)]; rfl))
theorem len_zs (l : List Nat) : (zs l).length = l.length := by unfold zs; rw [List.length_map]
theorem cmpS_alt {l l' : List Nat} (h1 : l.Pairwise (· < ·)) (h2 : l'.Pairwise (· < ·)) : cmpS (zs l) (zs l') = sgnI (alt (-1) l) (alt (-1) l') := by
  unfold cmpS
  rw [len_zs, len_zs]
  have a := alt_par h1
  have b := alt_par h2
  by_cases c : l.length % 2 = l'.length % 2
  · rw [if_neg (by omega), lex_alt l l' h1 h2 c]
  · rw [if_pos c]
    by_cases o : l.length % 2 = 1
    · rw [if_pos o, sgnI_lt (by have := a.1 o; have := b.2 (by omega); omega)]
    · rw [if_neg o, sgnI_gt (by have := a.2 (by omega); have := b.1 (by omega); omega)]
theorem cmpS_turns (x y : Int) : cmpS (zs (turnsN x)) (zs (turnsN y)) = sgnI x y := by
  rw [cmpS_alt (turns_asc x) (turns_asc y), turns_alt, turns_alt]
/-- rows led by an ascending map -/
theorem lexR_map (r : Int → Int) : ∀ (l l' : List Int), (∀ a ∈ l, ∀ b ∈ l', (a = b ↔ r a = r b) ∧ (a < b ↔ r a < r b)) → lexR (l.map r) (l'.map r) = lexR l l'
  | [], [], _ => rfl
  | [], _ :: _, _ => rfl
  | x :: xs, [], _ => by show par ((xs.map r).length + 1) 1 = par (xs.length + 1) 1; rw [List.length_map]
  | x :: xs, y :: ys, h => by
    have hx := h x List.mem_cons_self y List.mem_cons_self
    show (if r x = r y then lexR (xs.map r) (ys.map r) else par ((xs.map r).length + 1) (sgnI (r x) (r y))) = if x = y then lexR xs ys else par (xs.length + 1) (sgnI x y)
    rw [List.length_map]
    by_cases e : x = y
    · rw [if_pos e, if_pos (hx.1.mp e), lexR_map r xs ys fun a ha b hb => h a (List.mem_cons_of_mem _ ha) b (List.mem_cons_of_mem _ hb)]
    · rw [if_neg e, if_neg (fun h => e (hx.1.mpr h))]
      unfold sgnI
      rw [if_neg e, if_neg (fun h => e (hx.1.mpr h))]
      by_cases c : x < y
      · rw [if_pos c, if_pos (hx.2.mp c)]
      · rw [if_neg c, if_neg (fun h => c (hx.2.mpr h))]
theorem cmpS_map (r : Int → Int) {l l' : List Int} (h : ∀ a ∈ l, ∀ b ∈ l', (a = b ↔ r a = r b) ∧ (a < b ↔ r a < r b)) : cmpS (l.map r) (l'.map r) = cmpS l l' := by
  unfold cmpS
  rw [List.length_map, List.length_map, ← List.map_reverse, ← List.map_reverse, lexR_map r _ _ fun a ha b hb => h a (List.mem_reverse.mp ha) b (List.mem_reverse.mp hb)]
end Fb
namespace Fb
open PySem L2
/-! ### the program's order of forms -/
def negD : PyData → Bool
  | .int i => decide (i < 0)
  | .tuple ds => decide (ds.length % 2 = 1)
  | _ => false
def lexD (c : PyData → PyData → Int) : List PyData → List PyData → Int
  | [], [] => 0
  | [], _ :: _ => -1
  | x :: xs, [] => par (xs.length + 1) 1
  | x :: xs, y :: ys => if PyData.eqv x y = true then lexD c xs ys else par (xs.length + 1) (c x y)
def cmpD : Nat → PyData → PyData → Int
  | 0, x, y => match x, y with
    | .int a, .int b => sgnI a b
    | _, _ => 0
  | n + 1, x, y => match x, y with
    | .int a, .int b => sgnI a b
    | .int a, .tuple ys => if negD (.int a) = negD (.tuple ys) then (if negD (.int a) = true then 1 else -1) else (if negD (.int a) = true then -1 else 1)
    | .tuple xs, .int b => if negD (.tuple xs) = true then -1 else 1
    | .tuple xs, .tuple ys => if negD (.tuple xs) = negD (.tuple ys) then lexD (cmpD n) xs.reverse ys.reverse else (if negD (.tuple xs) = true then -1 else 1)
    | _, _ => 0
def ctail : List PyData → List PyData → Nat
  | x :: xs, y :: ys => if PyData.eqv x y = true then ctail xs ys + 1 else 0
  | _, _ => 0
theorem ctail_le : ∀ xs ys : List PyData, ctail xs ys ≤ xs.length ∧ ctail xs ys ≤ ys.length
  | [], _ => ⟨Nat.le_refl 0, Nat.zero_le _⟩
  | _ :: _, [] => ⟨Nat.zero_le _, Nat.le_refl 0⟩
  | x :: xs, y :: ys => by
    have := ctail_le xs ys
    show (if _ then _ else _) ≤ _ ∧ (if _ then _ else _) ≤ _
    split
    · exact ⟨Nat.succ_le_succ this.1, Nat.succ_le_succ this.2⟩
    · exact ⟨Nat.zero_le _, Nat.zero_le _⟩
/-- the places from the top on are alike -/
def AlikeTo (k : Nat) (xs ys : List PyData) : Prop := ∀ i, i < k → ∀ a b, xs[i]? = some a → ys[i]? = some b → PyData.eqv a b = true
theorem le_ctail : ∀ (k : Nat) (xs ys : List PyData), k ≤ ctail xs ys ↔ k ≤ xs.length ∧ k ≤ ys.length ∧ AlikeTo k xs ys
  | 0, xs, ys => ⟨fun _ => ⟨Nat.zero_le _, Nat.zero_le _, fun i h => absurd h (Nat.not_lt_zero _)⟩, fun _ => Nat.zero_le _⟩
  | k + 1, [], ys => ⟨fun h => absurd h (Nat.not_succ_le_zero k), fun h => absurd h.1 (Nat.not_succ_le_zero k)⟩
  | k + 1, x :: xs, [] => ⟨fun h => absurd h (Nat.not_succ_le_zero k), fun h => absurd h.2.1 (Nat.not_succ_le_zero k)⟩
  | k + 1, x :: xs, y :: ys => by
    show k + 1 ≤ (if PyData.eqv x y = true then ctail xs ys + 1 else 0) ↔ _
    have ih := le_ctail k xs ys
    by_cases e : PyData.eqv x y = true
    · rw [if_pos e]
      constructor
      · intro h
        obtain ⟨a, b, c⟩ := ih.mp (Nat.le_of_succ_le_succ h)
        refine ⟨Nat.succ_le_succ a, Nat.succ_le_succ b, fun i hi p q hp hq => ?_⟩
        cases i with
        | zero => cases hp; cases hq; exact e
        | succ i => exact c i (Nat.lt_of_succ_lt_succ hi) p q (by simpa using hp) (by simpa using hq)
      · rintro ⟨a, b, c⟩
        exact Nat.succ_le_succ (ih.mpr ⟨Nat.le_of_succ_le_succ a, Nat.le_of_succ_le_succ b, fun i hi p q hp hq => c (i + 1) (Nat.succ_lt_succ hi) p q (by simpa using hp) (by simpa using hq)⟩)
    · rw [if_neg e]
      constructor
      · intro h; exact absurd h (Nat.not_succ_le_zero k)
      · rintro ⟨_, _, c⟩
        exact absurd (c 0 (Nat.zero_lt_succ k) x y rfl rfl) e
theorem ctail_next : ∀ {s : Nat} {xs ys : List PyData} {a b : PyData}, s ≤ ctail xs ys → xs[s]? = some a → ys[s]? = some b → (PyData.eqv a b = true → s + 1 ≤ ctail xs ys) ∧ (¬ PyData.eqv a b = true → ctail xs ys = s)
  | 0, x :: xs, y :: ys, a, b, _, ha, hb => by
    cases ha; cases hb
    show (_ → 0 + 1 ≤ (if PyData.eqv x y = true then ctail xs ys + 1 else 0)) ∧ (_ → (if PyData.eqv x y = true then ctail xs ys + 1 else 0) = 0)
    constructor
    · intro e; rw [if_pos e]; omega
    · intro e; rw [if_neg e]
  | s + 1, x :: xs, y :: ys, a, b, h, ha, hb => by
    have h' : s + 1 ≤ (if PyData.eqv x y = true then ctail xs ys + 1 else 0) := h
    by_cases e : PyData.eqv x y = true
    · rw [if_pos e] at h'
      obtain ⟨p, q⟩ := ctail_next (s := s) (xs := xs) (ys := ys) (by omega) (by simpa using ha) (by simpa using hb)
      have ec : ctail (x :: xs) (y :: ys) = ctail xs ys + 1 := by show (if PyData.eqv x y = true then _ else _) = _; rw [if_pos e]
      rw [ec]
      exact ⟨fun k => by have := p k; omega, fun k => by have := q k; omega⟩
    · rw [if_neg e] at h'; omega
  | s, [], _, _, _, _, ha, _ => by simp at ha
  | s, _ :: _, [], _, _, _, _, hb => by simp at hb
def atD (c : PyData → PyData → Int) (xs ys : List PyData) (s : Nat) : Int := match xs[s]?, ys[s]? with
  | some a, some b => c a b
  | _, _ => 0
theorem atD_eq {c : PyData → PyData → Int} {xs ys : List PyData} {s : Nat} {a b : PyData} (h1 : xs[s]? = some a) (h2 : ys[s]? = some b) : atD c xs ys s = c a b := by
  unfold atD; rw [h1, h2]
/-- what compare_far reckons, by the common tail -/
theorem lexD_tail (c : PyData → PyData → Int) : ∀ xs ys : List PyData,
    lexD c xs ys = (if ctail xs ys = xs.length ∧ ctail xs ys = ys.length then 0 else par (xs.length - ctail xs ys)
      (if ctail xs ys = xs.length then -1 else if ctail xs ys = ys.length then 1 else atD c xs ys (ctail xs ys)))
  | [], [] => rfl
  | [], _ :: _ => rfl
  | x :: xs, [] => rfl
  | x :: xs, y :: ys => by
    show (if PyData.eqv x y = true then lexD c xs ys else par (xs.length + 1) (c x y)) = _
    by_cases e : PyData.eqv x y = true
    · have ec : ctail (x :: xs) (y :: ys) = ctail xs ys + 1 := by show (if PyData.eqv x y = true then _ else _) = _; rw [if_pos e]
      rw [if_pos e, lexD_tail c xs ys, ec]
      simp only [atD, List.length_cons, Nat.add_right_cancel_iff, List.getElem?_cons_succ, Nat.add_sub_add_right]
    · have ec : ctail (x :: xs) (y :: ys) = 0 := by show (if PyData.eqv x y = true then _ else _) = _; rw [if_neg e]
      rw [if_neg e, ec]
      simp [atD]
theorem eqvAll_iff : ∀ xs ys : List PyData, PyData.eqvAll xs ys = true ↔ xs.length = ys.length ∧ AlikeTo xs.length xs ys
  | [], [] => by rw [PyData.eqvAll]; exact ⟨fun _ => ⟨rfl, fun i h => absurd h (Nat.not_lt_zero _)⟩, fun _ => rfl⟩
  | [], _ :: _ => by rw [PyData.eqvAll]; exact ⟨fun h => absurd h Bool.false_ne_true, fun h => absurd h.1 (by simp)⟩
  | _ :: _, [] => by rw [PyData.eqvAll]; exact ⟨fun h => absurd h Bool.false_ne_true, fun h => absurd h.1 (by simp)⟩
  | x :: xs, y :: ys => by
    rw [PyData.eqvAll, Bool.and_eq_true, eqvAll_iff xs ys]
    constructor
    · rintro ⟨e, l, c⟩
      refine ⟨congrArg Nat.succ l, fun i hi p q hp hq => ?_⟩
      cases i with
      | zero => cases hp; cases hq; exact e
      | succ i => exact c i (Nat.lt_of_succ_lt_succ hi) p q (by simpa using hp) (by simpa using hq)
    · rintro ⟨l, c⟩
      exact ⟨c 0 (Nat.zero_lt_succ _) x y rfl rfl, Nat.succ.inj l, fun i hi p q hp hq => c (i + 1) (Nat.succ_lt_succ hi) p q (by simpa using hp) (by simpa using hq)⟩
/-- the part of a row from place a on, b places -/
def seg {α : Type} (ds : List α) (same more : Nat) : List α := (ds.drop (ds.length - more)).take (more - same)
theorem seg_get {ds : List PyData} {same more j : Nat} (h : more ≤ ds.length) (hj : j < more - same) : (seg ds same more)[j]? = ds.reverse[more - 1 - j]? := by
  unfold seg
  rw [List.getElem?_take, if_pos hj, List.getElem?_drop, List.getElem?_reverse (by omega)]
  congr 1
  omega
theorem seg_len {ds : List PyData} {same more : Nat} (h : more ≤ ds.length) : (seg ds same more).length = more - same := by
  unfold seg
  rw [List.length_take, List.length_drop]
  omega
/-- a further part is alike exactly if the tail goes on -/
theorem seg_alike {ds es : List PyData} {same more : Nat} (hs : same ≤ ctail ds.reverse es.reverse) (hm : same ≤ more) (h1 : more ≤ ds.length) (h2 : more ≤ es.length) :
    PyData.eqv (.tuple (seg ds same more)) (.tuple (seg es same more)) = true ↔ more ≤ ctail ds.reverse es.reverse := by
  rw [PyData.eqv, eqvAll_iff, seg_len h1, seg_len h2, le_ctail, List.length_reverse, List.length_reverse]
  obtain ⟨_, _, c⟩ := (le_ctail same _ _).mp hs
  constructor
  · rintro ⟨_, d⟩
    refine ⟨h1, h2, fun i hi p q hp hq => ?_⟩
    by_cases hi2 : i < same
    · exact c i hi2 p q hp hq
    · refine d (more - 1 - i) (by omega) p q ?_ ?_
      · rw [seg_get h1 (by omega), show more - 1 - (more - 1 - i) = i by omega]; exact hp
      · rw [seg_get h2 (by omega), show more - 1 - (more - 1 - i) = i by omega]; exact hq
  · rintro ⟨_, _, d⟩
    refine ⟨rfl, fun j hj p q hp hq => ?_⟩
    rw [seg_get h1 hj] at hp
    rw [seg_get h2 hj] at hq
    exact d (more - 1 - j) (by omega) p q hp hq
/-- the n-th place from the end -/
theorem atI_end {α : Type} {xs : List α} {s : Nat} {v : α} (h : xs.reverse[s]? = some v) : atI xs (-1 - (s : Int)) = some v := by
  have hs : s < xs.length := by
    have := (List.getElem?_eq_some_iff.mp h).1
    rwa [List.length_reverse] at this
  unfold atI ixN
  rw [if_neg (by omega), if_pos (by omega)]
  show xs[((-1 - (s : Int)) + xs.length).toNat]? = _
  rw [List.getElem?_reverse hs] at h
  rw [show ((-1 - (s : Int)) + xs.length).toNat = xs.length - 1 - s by omega]
  exact h
theorem dps_rev {K : PySem.W.Frag} {H : Hp} : ∀ {vs : List V} {ds : List PyData}, DpAll K H vs ds → DpAll K H vs.reverse ds.reverse
  | [], _, h => by cases h; exact .nil
  | v :: vs, _, h => by
    cases h with
    | cons h1 h2 => rw [List.reverse_cons, List.reverse_cons]; exact dps_app (dps_rev h2) (.cons h1 .nil)
theorem dps_take {K : PySem.W.Frag} {H : Hp} : ∀ (k : Nat) {vs : List V} {ds : List PyData}, DpAll K H vs ds → DpAll K H (vs.take k) (ds.take k)
  | 0, _, _, _ => .nil
  | k + 1, _, _, .nil => .nil
  | k + 1, _, _, .cons h1 h2 => .cons h1 (dps_take k h2)
theorem dps_drop {K : PySem.W.Frag} {H : Hp} : ∀ (k : Nat) {vs : List V} {ds : List PyData}, DpAll K H vs ds → DpAll K H (vs.drop k) (ds.drop k)
  | 0, _, _, h => h
  | k + 1, _, _, .nil => .nil
  | k + 1, _, _, .cons _ h2 => dps_drop k h2
theorem fm_kind {n : Nat} {d : PyData} (h : Fm n d) : (isI d = true ∨ isT d = true) ∧ ∀ b, d ≠ .bool b := by
  cases n with
  | zero => obtain ⟨i, rfl⟩ := h; exact ⟨.inl rfl, fun b e => by cases e⟩
  | succ n =>
    rcases h with ⟨i, rfl⟩ | ⟨ds, rfl, _⟩
    · exact ⟨.inl rfl, fun b e => by cases e⟩
    · exact ⟨.inr rfl, fun b e => by cases e⟩
theorem fm_int {n : Nat} {d : PyData} (h : Fm n d) (c : isI d = true) : ∃ i, d = .int i := by
  cases n with
  | zero => exact h
  | succ n =>
    rcases h with h | ⟨ds, rfl, _⟩
    · exact h
    · cases c
theorem fm_tup {n : Nat} {d : PyData} (h : Fm (n + 1) d) (c : ¬ isI d = true) : ∃ ds, d = .tuple ds ∧ ds.length ≤ 9000 ∧ ∀ x ∈ ds, Fm n x := by
  rcases h with ⟨i, rfl⟩ | h
  · exact absurd rfl c
  · exact h
theorem cmp_ne {n : Nat} {x y : PyData} (fx : Fm (n + 1) x) (fy : Fm (n + 1) y) (h : ¬ (isI x = true ∧ isI y = true)) (c : negD x ≠ negD y) : cmpD (n + 1) x y = if negD x = true then -1 else 1 := by
  rcases fx with ⟨i, rfl⟩ | ⟨xs, rfl, _⟩ <;> rcases fy with ⟨j, rfl⟩ | ⟨ys, rfl, _⟩
  · exact absurd ⟨rfl, rfl⟩ h
  · exact if_neg c
  · rfl
  · exact if_neg c
theorem cmp_ix {n : Nat} {x y : PyData} (fx : Fm (n + 1) x) (fy : Fm (n + 1) y) (h : ¬ (isI x = true ∧ isI y = true)) (c : negD x = negD y) (k : isI x = true) : cmpD (n + 1) x y = if negD x = true then 1 else -1 := by
  rcases fx with ⟨i, rfl⟩ | ⟨xs, rfl, _⟩ <;> rcases fy with ⟨j, rfl⟩ | ⟨ys, rfl, _⟩
  · exact absurd ⟨rfl, rfl⟩ h
  · exact if_pos c
  · cases k
  · cases k
theorem cmp_iy {n : Nat} {x y : PyData} (fx : Fm (n + 1) x) (fy : Fm (n + 1) y) (h : ¬ (isI x = true ∧ isI y = true)) (c : negD x = negD y) (k : ¬ isI x = true) (k2 : isI y = true) : cmpD (n + 1) x y = if negD x = true then -1 else 1 := by
  rcases fx with ⟨i, rfl⟩ | ⟨xs, rfl, _⟩ <;> rcases fy with ⟨j, rfl⟩ | ⟨ys, rfl, _⟩
  · exact absurd rfl k
  · exact absurd rfl k
  · rfl
  · cases k2
/-- a slice of a tuple, new or the tuple itself -/
def rSlD (K : PySem.W.Frag) : V → Option Int → Option Int → Hp → VK → Prop := fun x lo hi H Q => ∃ a xs, x = .ref a ∧ SqT K H a xs ∧ ∀ b H', Same H H' → SqT K H' b (cutV xs lo hi) → Q (.ref b) H'
theorem sl_tupD {X : Cx} : SlR X (rSlD X.K) := by
  intro pins s σ H x v vl vu lo hi sl Q I rx hs pl pu h
  obtain ⟨a, xs, rfl, hx, q⟩ := h
  refine sl_tupA pins s σ H _ v vl vu lo hi sl Q I rx hs pl pu ⟨a, xs, rfl, hx, fun hw => ?_, fun _ p np => q p _ (Same.new np) (SqT.of upd_same)⟩
  refine q a H (Same.refl H) ?_
  unfold cutV
  rw [hw.1, hw.2, List.drop_zero, Nat.sub_zero, List.take_length]
  exact hx
theorem cut_seg {xs : List V} {same more : Nat} (h : more ≤ xs.length) (h2 : same ≤ more) : cutV xs (some ((xs.length : Int) - (more : Int))) (some ((xs.length : Int) - (same : Int))) = seg xs same more := by
  unfold cutV seg
  rw [show (xs.length : Int) - (more : Int) = ((xs.length - more : Nat) : Int) by omega, show (xs.length : Int) - (same : Int) = ((xs.length - same : Nat) : Int) by omega, HT.sIx_nat, HT.sIx_nat]
  congr 1
  · omega
  · congr 1
    omega
theorem dps_seg {K : PySem.W.Frag} {H : Hp} {vs : List V} {ds : List PyData} (h : DpAll K H vs ds) (same more : Nat) : DpAll K H (seg vs same more) (seg ds same more) := by
  unfold seg
  rw [dps_length h]
  exact dps_take _ (dps_drop _ h)
end Fb
namespace Fb
open PySem L2
theorem eqv_fm : ∀ {n : Nat} {x y : PyData}, Fm n x → Fm n y → (PyData.eqv x y = true ↔ x = y) := by
  intro n
  induction n with
  | zero =>
    rintro x y ⟨i, rfl⟩ ⟨j, rfl⟩
    rw [PyData.eqv]
    simp
  | succ n ih =>
    intro x y hx hy
    rcases hx with ⟨i, rfl⟩ | ⟨xs, rfl, _, hx⟩ <;> rcases hy with ⟨j, rfl⟩ | ⟨ys, rfl, _, hy⟩
    · rw [PyData.eqv]; simp
    · rw [PyData.eqv]; simp
    · rw [PyData.eqv]; simp
    · rw [PyData.eqv, eqvAll_iff]
      constructor
      · rintro ⟨l, c⟩
        congr 1
        refine List.ext_getElem? fun i => ?_
        by_cases hi : i < xs.length
        · have h1 : xs[i]? = some xs[i] := List.getElem?_eq_getElem hi
          have h2 : ys[i]? = some (ys[i]'(l ▸ hi)) := List.getElem?_eq_getElem (l ▸ hi)
          have := c i hi _ _ h1 h2
          rw [h1, h2, (ih (hx _ (List.getElem_mem hi)) (hy _ (List.getElem_mem (l ▸ hi)))).mp this]
        · rw [List.getElem?_eq_none (by omega), List.getElem?_eq_none (by omega)]
      · intro e
        injection e with e
        subst e
        refine ⟨rfl, fun i hi a b ha hb => ?_⟩
        rw [ha] at hb
        cases hb
        exact (ih (hx a (List.mem_of_getElem? ha)) (hx a (List.mem_of_getElem? ha))).mpr rfl
theorem lexD_self {n : Nat} (c : PyData → PyData → Int) : ∀ xs : List PyData, (∀ x ∈ xs, Fm n x) → lexD c xs xs = 0
  | [], _ => rfl
  | x :: xs, h => by
    show (if PyData.eqv x x = true then lexD c xs xs else _) = 0
    rw [if_pos ((eqv_fm (h x List.mem_cons_self) (h x List.mem_cons_self)).mpr rfl)]
    exact lexD_self c xs fun y hy => h y (List.mem_cons_of_mem _ hy)
theorem cmpD_self : ∀ {n : Nat} {d : PyData}, Fm n d → cmpD n d d = 0
  | 0, d, h => by obtain ⟨i, rfl⟩ := h; exact sgnI_self i
  | n + 1, d, h => by
    rcases h with ⟨i, rfl⟩ | ⟨ds, rfl, _, h⟩
    · exact sgnI_self i
    · show (if negD (.tuple ds) = negD (.tuple ds) then lexD (cmpD n) ds.reverse ds.reverse else _) = 0
      rw [if_pos rfl]
      exact lexD_self _ _ fun x hx => h x (List.mem_reverse.mp hx)
theorem par_neg (k : Nat) (s : Int) : par k (-s) = -par k s := by unfold par; split <;> omega
theorem lexD_anti {n : Nat} {c : PyData → PyData → Int} (hc : ∀ a b, Fm n a → Fm n b → c b a = -c a b) : ∀ xs ys : List PyData, (∀ x ∈ xs, Fm n x) → (∀ x ∈ ys, Fm n x) → xs.length % 2 = ys.length % 2 → lexD c ys xs = -lexD c xs ys
  | [], [], _, _, _ => rfl
  | [], y :: ys, _, _, h => by
    show par (ys.length + 1) 1 = -(-1)
    unfold par
    rw [if_neg (by simp at h; omega)]
    rfl
  | x :: xs, [], _, _, h => by
    show (-1 : Int) = -par (xs.length + 1) 1
    unfold par
    rw [if_neg (by simp at h; omega)]
  | x :: xs, y :: ys, hx, hy, h => by
    have fx := hx x List.mem_cons_self
    have fy := hy y List.mem_cons_self
    show (if PyData.eqv y x = true then lexD c ys xs else par (ys.length + 1) (c y x)) = -(if PyData.eqv x y = true then lexD c xs ys else par (xs.length + 1) (c x y))
    have hl : xs.length % 2 = ys.length % 2 := by simp at h; omega
    by_cases e : x = y
    · rw [if_pos ((eqv_fm fy fx).mpr e.symm), if_pos ((eqv_fm fx fy).mpr e)]
      exact lexD_anti hc xs ys (fun z hz => hx z (List.mem_cons_of_mem _ hz)) (fun z hz => hy z (List.mem_cons_of_mem _ hz)) hl
    · rw [if_neg (fun h => e ((eqv_fm fy fx).mp h).symm), if_neg (fun h => e ((eqv_fm fx fy).mp h)), hc x y fx fy, par_neg]
      unfold par
      by_cases o : (xs.length + 1) % 2 = 1
      · rw [if_pos o, if_pos (by omega)]
      · rw [if_neg o, if_neg (by omega)]
theorem cmpD_anti : ∀ (n : Nat) (x y : PyData), Fm n x → Fm n y → cmpD n y x = -cmpD n x y := by
  intro n
  induction n with
  | zero => rintro x y ⟨i, rfl⟩ ⟨j, rfl⟩; exact sgnI_swap i j
  | succ n ih =>
    intro x y hx hy
    have fx := hx
    have fy := hy
    rcases hx with ⟨i, rfl⟩ | ⟨xs, rfl, _, hx⟩ <;> rcases hy with ⟨j, rfl⟩ | ⟨ys, rfl, _, hy⟩
    · exact sgnI_swap i j
    · by_cases c : negD (.int i) = negD (.tuple ys)
      · rw [cmp_ix fx fy (fun h => by cases h.2) c rfl, cmp_iy fy fx (fun h => by cases h.1) c.symm (fun h => by cases h) rfl, c]
        split <;> rfl
      · rw [cmp_ne fx fy (fun h => by cases h.2) c, cmp_ne fy fx (fun h => by cases h.1) (Ne.symm c)]
        cases h1 : negD (.int i) <;> cases h2 : negD (.tuple ys) <;> first | exact absurd (h1.trans h2.symm) c | rfl
    · by_cases c : negD (.tuple xs) = negD (.int j)
      · rw [cmp_ix fy fx (fun h => by cases h.2) c.symm rfl, cmp_iy fx fy (fun h => by cases h.1) c (fun h => by cases h) rfl, c]
        split <;> rfl
      · rw [cmp_ne fx fy (fun h => by cases h.1) c, cmp_ne fy fx (fun h => by cases h.2) (Ne.symm c)]
        cases h1 : negD (.tuple xs) <;> cases h2 : negD (.int j) <;> first | exact absurd (h1.trans h2.symm) c | rfl
    · by_cases c : negD (.tuple xs) = negD (.tuple ys)
      · show (if negD (.tuple ys) = negD (.tuple xs) then lexD (cmpD n) ys.reverse xs.reverse else _) = -(if negD (.tuple xs) = negD (.tuple ys) then lexD (cmpD n) xs.reverse ys.reverse else _)
        rw [if_pos c, if_pos c.symm]
        have hl : xs.length % 2 = ys.length % 2 := by
          have := decide_eq_decide.mp (show decide (xs.length % 2 = 1) = decide (ys.length % 2 = 1) from c)
          omega
        exact lexD_anti (n := n) ih _ _ (fun z hz => hx z (List.mem_reverse.mp hz)) (fun z hz => hy z (List.mem_reverse.mp hz)) (by rw [List.length_reverse, List.length_reverse]; exact hl)
      · rw [cmp_ne fx fy (fun h => by cases h.1) c, cmp_ne fy fx (fun h => by cases h.1) (Ne.symm c)]
        cases h1 : negD (.tuple xs) <;> cases h2 : negD (.tuple ys) <;> first | exact absurd (h1.trans h2.symm) c | rfl
/-! ### maps that keep the order -/
structure Ord (n : Nat) (f : Int → PyData) (S : Int → Prop) : Prop where
  fm : ∀ a, S a → Fm n (f a)
  ord : ∀ a b, S a → S b → cmpD n (f a) (f b) = sgnI a b
theorem Ord.eqv {n : Nat} {f : Int → PyData} {S : Int → Prop} (o : Ord n f S) {a b : Int} (ha : S a) (hb : S b) : PyData.eqv (f a) (f b) = true ↔ a = b := by
  rw [eqv_fm (o.fm a ha) (o.fm b hb)]
  constructor
  · intro e
    have h := o.ord a b ha hb
    rw [e, cmpD_self (o.fm b hb)] at h
    by_cases c : a = b
    · exact c
    · rcases sgnI_pm c with k | k <;> omega
  · intro e; rw [e]
theorem Ord.lex {n : Nat} {f : Int → PyData} {S : Int → Prop} (o : Ord n f S) : ∀ l l' : List Int, (∀ a ∈ l, S a) → (∀ a ∈ l', S a) → lexD (cmpD n) (l.map f) (l'.map f) = lexR l l'
  | [], [], _, _ => rfl
  | [], _ :: _, _, _ => rfl
  | x :: xs, [], _, _ => by show par ((xs.map f).length + 1) 1 = par (xs.length + 1) 1; rw [List.length_map]
  | x :: xs, y :: ys, hx, hy => by
    have sx := hx x List.mem_cons_self
    have sy := hy y List.mem_cons_self
    show (if PyData.eqv (f x) (f y) = true then lexD (cmpD n) (xs.map f) (ys.map f) else par ((xs.map f).length + 1) (cmpD n (f x) (f y))) = if x = y then lexR xs ys else par (xs.length + 1) (sgnI x y)
    rw [List.length_map, o.ord x y sx sy]
    by_cases e : x = y
    · rw [if_pos ((o.eqv sx sy).mpr e), if_pos e, o.lex xs ys (fun a h => hx a (List.mem_cons_of_mem _ h)) (fun a h => hy a (List.mem_cons_of_mem _ h))]
    · rw [if_neg (fun h => e ((o.eqv sx sy).mp h)), if_neg e]
/-- .. and where near places are ints -/
structure OrdN (n : Nat) (f : Int → PyData) (S : Int → Prop) : Prop extends Ord n f S where
  pos : ∀ a, S a → 0 ≤ a
  near : ∀ a, S a → a ≤ 64 → f a = .int a
  far : ∀ a, S a → 64 < a → isNear (f a) = false
def rowF (f : Int → PyData) (l : List Int) : PyData := rowD (l.map f)
theorem zs_toNat {l : List Int} (h : ∀ a ∈ l, 0 ≤ a) : zs (l.map Int.toNat) = l := by
  unfold zs
  rw [List.map_map]
  conv => rhs; rw [← List.map_id l]
  refine List.map_congr_left fun a ha => ?_
  have := h a ha
  show ((a.toNat : Nat) : Int) = a
  omega
theorem asc_toNat {l : List Int} (h : ∀ a ∈ l, 0 ≤ a) (hp : l.Pairwise (· < ·)) : (l.map Int.toNat).Pairwise (· < ·) := by
  have e := zs_toNat h
  rw [← e] at hp
  unfold zs at hp
  exact (List.pairwise_map.mp hp).imp fun h => Int.ofNat_lt.mp h
theorem row_cases {n : Nat} {f : Int → PyData} {S : Int → Prop} (o : OrdN n f S) {l : List Int} (hs : ∀ a ∈ l, S a) (hp : l.Pairwise (· < ·)) :
    ((∀ a ∈ l, a ≤ 64) ∧ rowF f l = .int (alt (-1) (l.map Int.toNat))) ∨ ∃ m p, l = m ++ [p] ∧ 64 < p ∧ rowF f l = .tuple (l.map f) := by
  have near : (∀ a ∈ l, a ≤ 64) → rowF f l = .int (alt (-1) (l.map Int.toNat)) := fun all => by
    unfold rowF
    have e1 : l.map f = nD (l.map Int.toNat) := by
      unfold nD
      rw [List.map_map]
      refine List.map_congr_left fun a ha => ?_
      rw [o.near a (hs a ha) (all a ha)]
      have := o.pos a (hs a ha)
      show PyData.int a = .int ((a.toNat : Nat) : Int)
      congr 1
      omega
    rw [e1]
    cases hl : (nD (l.map Int.toNat)).getLast? with
    | none =>
      have : l.map Int.toNat = [] := by
        have := List.getLast?_eq_none_iff.mp hl
        unfold nD at this
        exact List.map_eq_nil_iff.mp this
      rw [this]
      rfl
    | some d =>
      obtain ⟨k, hk, rfl⟩ := List.mem_map.mp (List.mem_of_getLast? hl)
      obtain ⟨a, ha, rfl⟩ := List.mem_map.mp hk
      rw [rowD_near hl (decide_eq_true (by have := all a ha; omega))]
  rcases List.eq_nil_or_concat l with rfl | ⟨m, q, rfl⟩
  · left; exact ⟨fun a h => (by cases h), near fun a h => (by cases h)⟩
  · rw [List.concat_eq_append] at *
    by_cases c64 : q ≤ 64
    · left
      have all : ∀ a ∈ m ++ [q], a ≤ 64 := fun a ha => by
        rcases List.mem_append.mp ha with ha | ha
        · have := (List.pairwise_append.mp hp).2.2 a ha q List.mem_cons_self; omega
        · simp at ha; omega
      exact ⟨all, near all⟩
    · right
      refine ⟨m, q, rfl, by omega, ?_⟩
      unfold rowF
      refine rowD_far (d := f q) ?_ (o.far q (hs q (by simp)) (by omega))
      rw [List.map_append, List.map_singleton, List.getLast?_concat]
theorem row_fm {n : Nat} {f : Int → PyData} {S : Int → Prop} (o : OrdN n f S) {l : List Int} (hs : ∀ a ∈ l, S a) (hp : l.Pairwise (· < ·)) (hl : l.length ≤ 9000) : Fm (n + 1) (rowF f l) := by
  rcases row_cases o hs hp with ⟨_, e⟩ | ⟨m, p, _, _, e⟩
  · rw [e]; exact Fm.int _
  · rw [e]
    refine .inr ⟨_, rfl, by rw [List.length_map]; exact hl, fun x hx => ?_⟩
    obtain ⟨a, ha, rfl⟩ := List.mem_map.mp hx
    exact o.fm a (hs a ha)
theorem row_neg {n : Nat} {f : Int → PyData} {S : Int → Prop} (o : OrdN n f S) {l : List Int} (hs : ∀ a ∈ l, S a) (hp : l.Pairwise (· < ·)) : negD (rowF f l) = decide (l.length % 2 = 1) := by
  rcases row_cases o hs hp with ⟨_, e⟩ | ⟨m, p, _, _, e⟩
  · rw [e]
    have := alt_par (asc_toNat (fun a ha => o.pos a (hs a ha)) hp)
    rw [List.length_map] at this
    show decide (alt (-1) (l.map Int.toNat) < 0) = _
    refine decide_eq_decide.mpr ⟨fun h => ?_, fun h => this.1 h⟩
    by_cases c : l.length % 2 = 1
    · exact c
    · have := this.2 (by omega); omega
  · rw [e]
    show decide ((l.map f).length % 2 = 1) = _
    rw [List.length_map]
theorem row_ord {n : Nat} {f : Int → PyData} {S : Int → Prop} (o : OrdN n f S) {l l' : List Int} (hs : ∀ a ∈ l, S a) (hs' : ∀ a ∈ l', S a) (hp : l.Pairwise (· < ·)) (hp' : l'.Pairwise (· < ·)) (hl : l.length ≤ 9000) (hl' : l'.length ≤ 9000) :
    cmpD (n + 1) (rowF f l) (rowF f l') = cmpS l l' := by
  have fx := row_fm o hs hp hl
  have fy := row_fm o hs' hp' hl'
  have nx := row_neg o hs hp
  have ny := row_neg o hs' hp'
  rcases row_cases o hs hp with ⟨a1, e⟩ | ⟨m, p, el, p64, e⟩ <;> rcases row_cases o hs' hp' with ⟨a2, e'⟩ | ⟨m', p', el', p64', e'⟩
  · rw [e, e']
    show sgnI _ _ = _
    have h := cmpS_alt (asc_toNat (fun a ha => o.pos a (hs a ha)) hp) (asc_toNat (fun a ha => o.pos a (hs' a ha)) hp')
    rw [zs_toNat (fun a ha => o.pos a (hs a ha)), zs_toNat (fun a ha => o.pos a (hs' a ha))] at h
    exact h.symm
  · have hno : ¬ (isI (rowF f l) = true ∧ isI (rowF f l') = true) := by rw [e, e']; exact fun h => by cases h.2
    have ix : isI (rowF f l) = true := by rw [e]; rfl
    unfold cmpS
    by_cases c : l.length % 2 = l'.length % 2
    · rw [if_neg (by omega), cmp_ix fx fy hno (by rw [nx, ny]; exact decide_eq_decide.mpr (by omega)) ix, nx]
      subst el'
      rw [List.reverse_append]
      rcases List.eq_nil_or_concat l with rfl | ⟨k, q, rfl⟩
      · rfl
      · rw [List.concat_eq_append] at *
        rw [List.reverse_append]
        have q64 := a1 q (by simp)
        have hr : lexR ([q].reverse ++ k.reverse) ([p'].reverse ++ m'.reverse) = par (k.length + 1) (-1) := by
          show (if q = p' then lexR k.reverse m'.reverse else par (k.reverse.length + 1) (sgnI q p')) = _
          rw [if_neg (show ¬ q = p' by omega), sgnI_lt (show q < p' by omega), List.length_reverse]
        rw [hr, show (k ++ [q]).length = k.length + 1 by simp]
        unfold par
        by_cases od : (k.length + 1) % 2 = 1
        · rw [if_pos od, decide_eq_true od, if_pos rfl]; rfl
        · rw [if_neg od, decide_eq_false od, if_neg Bool.false_ne_true]
    · rw [if_pos c, cmp_ne fx fy hno (by rw [nx, ny]; exact fun h => c (by have := decide_eq_decide.mp h; omega)), nx]
      by_cases od : l.length % 2 = 1
      · rw [if_pos od, decide_eq_true od, if_pos rfl]
      · rw [if_neg od, decide_eq_false od, if_neg Bool.false_ne_true]
  · have hno : ¬ (isI (rowF f l) = true ∧ isI (rowF f l') = true) := by rw [e, e']; exact fun h => by cases h.1
    have ix : ¬ isI (rowF f l) = true := by rw [e]; exact fun h => by cases h
    have iy : isI (rowF f l') = true := by rw [e']; rfl
    unfold cmpS
    by_cases c : l.length % 2 = l'.length % 2
    · rw [if_neg (by omega), cmp_iy fx fy hno (by rw [nx, ny]; exact decide_eq_decide.mpr (by omega)) ix iy, nx]
      subst el
      rw [List.reverse_append]
      rcases List.eq_nil_or_concat l' with rfl | ⟨k, q, rfl⟩
      · have hr : lexR ([p].reverse ++ m.reverse) ([] : List Int).reverse = par (m.length + 1) 1 := by
          show par (m.reverse.length + 1) 1 = _
          rw [List.length_reverse]
        have c' : ¬ (m.length + 1) % 2 = 1 := by simp at c; omega
        rw [hr, show (m ++ [p]).length = m.length + 1 by simp]
        unfold par
        rw [if_neg c', decide_eq_false c', if_neg Bool.false_ne_true]
      · rw [List.concat_eq_append] at *
        rw [List.reverse_append]
        have q64 := a2 q (by simp)
        have hr : lexR ([p].reverse ++ m.reverse) ([q].reverse ++ k.reverse) = par (m.length + 1) 1 := by
          show (if p = q then lexR m.reverse k.reverse else par (m.reverse.length + 1) (sgnI p q)) = _
          rw [if_neg (show ¬ p = q by omega), sgnI_gt (show q < p by omega), List.length_reverse]
        rw [hr, show (m ++ [p]).length = m.length + 1 by simp]
        unfold par
        by_cases od : (m.length + 1) % 2 = 1
        · rw [if_pos od, decide_eq_true od, if_pos rfl]
        · rw [if_neg od, decide_eq_false od, if_neg Bool.false_ne_true]
    · rw [if_pos c, cmp_ne fx fy hno (by rw [nx, ny]; exact fun h => c (by have := decide_eq_decide.mp h; omega)), nx]
      by_cases od : l.length % 2 = 1
      · rw [if_pos od, decide_eq_true od, if_pos rfl]
      · rw [if_neg od, decide_eq_false od, if_neg Bool.false_ne_true]
  · unfold cmpS
    rw [e] at nx ⊢
    rw [e'] at ny ⊢
    show (if negD (.tuple (l.map f)) = negD (.tuple (l'.map f)) then lexD (cmpD n) (l.map f).reverse (l'.map f).reverse else (if negD (.tuple (l.map f)) = true then -1 else 1)) = _
    rw [nx, ny]
    by_cases c : l.length % 2 = l'.length % 2
    · rw [if_pos (decide_eq_decide.mpr (by omega)), if_neg (by omega), ← List.map_reverse, ← List.map_reverse]
      exact o.toOrd.lex _ _ (fun a h => hs a (List.mem_reverse.mp h)) (fun a h => hs' a (List.mem_reverse.mp h))
    · rw [if_neg (fun h => c (by have := decide_eq_decide.mp h; omega)), if_pos c]
      by_cases od : l.length % 2 = 1
      · rw [if_pos od, decide_eq_true od, if_pos rfl]
      · rw [if_neg od, decide_eq_false od, if_neg Bool.false_ne_true]
end Fb
namespace Fb
open PySem L2
/-! ### forms of ints -/
theorem ordN_int (n : Nat) : OrdN n PyData.int (fun a => 0 ≤ a) :=
  { fm := fun a _ => Fm.int a, ord := fun a b _ _ => by cases n <;> rfl, pos := fun a h => h, near := fun a _ _ => rfl, far := fun a _ h => decide_eq_false (by omega) }
theorem zs_pos {l : List Nat} : ∀ a ∈ zs l, 0 ≤ a := fun a h => by
  obtain ⟨n, _, rfl⟩ := List.mem_map.mp h
  show (0 : Int) ≤ ((n : Nat) : Int)
  omega
theorem zs_asc {l : List Nat} (h : l.Pairwise (· < ·)) : (zs l).Pairwise (· < ·) := List.pairwise_map.mpr (h.imp fun h => Int.ofNat_lt.mpr h)
theorem zs_nat (l : List Nat) : (zs l).map Int.toNat = l := by
  unfold zs
  rw [List.map_map]
  conv => rhs; rw [← List.map_id l]
  exact List.map_congr_left fun a _ => rfl
/-- an int is plain exactly if no turn is above 64 -/
theorem plain_iff (x : Int) : plain x ↔ ∀ p ∈ turnsN x, p ≤ 64 := by
  constructor
  · intro h; exact turns_lt (n := 64) h.1 h.2
  · intro h
    have e := turns_alt x
    have asc := turns_asc x
    rcases List.eq_nil_or_concat (turnsN x) with h0 | ⟨m, p, h0⟩
    · rw [h0] at e
      have : x = 0 := e.symm
      subst this
      decide
    · rw [List.concat_eq_append] at h0
      rw [h0] at e asc h
      obtain ⟨v, v1, v2, v3, _, _, v6⟩ := alt_size asc
      rw [v1] at e
      have hp := p_le (h p (by simp))
      rcases flip_pm (s := -1) (.inr rfl) m.length with f | f
      · have hm : 1 ≤ m.length := by
          by_cases z : m.length = 0
          · rw [z] at f; cases f
          · omega
        have := v3 hm
        rw [f] at e
        constructor <;> omega
      · have : v ≤ 2 ^ p := by
          by_cases z : m.length = 0
          · have := v2 z; omega
          · have := v3 (by omega); omega
        rw [f] at e
        constructor <;> omega
theorem form_row (x : Int) : formD x = rowF PyData.int (zs (turnsN x)) := by
  rcases row_cases (ordN_int 0) (l := zs (turnsN x)) zs_pos (zs_asc (turns_asc x)) with ⟨all, e⟩ | ⟨m, p, el, p64, e⟩
  · have hp : plain x := (plain_iff x).mpr fun p hp => by have := all (p : Int) (List.mem_map.mpr ⟨p, hp, rfl⟩); omega
    rw [e, zs_nat, turns_alt]
    unfold formD
    rw [if_pos hp]
  · have hp : ¬ plain x := fun h => by
      have hpm : p ∈ zs (turnsN x) := by rw [el]; simp
      obtain ⟨q, hq, rfl⟩ := List.mem_map.mp hpm
      have := (plain_iff x).mp h q hq
      have : (64 : Int) < ((q : Nat) : Int) := p64
      omega
    rw [e]
    unfold formD
    rw [if_neg hp]
    congr 1
    unfold nD zs
    rw [List.map_map]
    rfl
theorem form_ord {n : Nat} {x y : Int} (hx : (turnsN x).length ≤ 9000) (hy : (turnsN y).length ≤ 9000) : cmpD (n + 1) (formD x) (formD y) = sgnI x y := by
  rw [form_row, form_row, row_ord (ordN_int n) zs_pos zs_pos (zs_asc (turns_asc x)) (zs_asc (turns_asc y)) (by rw [len_zs]; exact hx) (by rw [len_zs]; exact hy), cmpS_turns]
theorem even_turns {x : Int} (h : 0 ≤ x) : (turnsN x).length % 2 = 0 := by
  have := (alt_par (turns_asc x)).1
  rw [turns_alt] at this
  by_cases c : (turnsN x).length % 2 = 1
  · have := this c; omega
  · omega
/-! ### places -/
theorem lexD_app {n : Nat} (c : PyData → PyData → Int) : ∀ (t xs ys : List PyData), (∀ x ∈ t, Fm n x) → lexD c (t ++ xs) (t ++ ys) = lexD c xs ys
  | [], _, _, _ => rfl
  | x :: t, xs, ys, h => by
    show (if PyData.eqv x x = true then lexD c (t ++ xs) (t ++ ys) else _) = _
    rw [if_pos ((eqv_fm (h x List.mem_cons_self) (h x List.mem_cons_self)).mpr rfl)]
    exact lexD_app c t xs ys fun y hy => h y (List.mem_cons_of_mem _ hy)
/-- two tuples with the same upper places -/
theorem same_field {n : Nat} {s t : Int} {ts : List PyData} (hs : 0 ≤ s) (ht : 0 ≤ t) (hts : ∀ x ∈ ts, Fm n x) (hev : ts.length % 2 = 0) : cmpD (n + 1) (.tuple (nD (turnsN s) ++ ts)) (.tuple (nD (turnsN t) ++ ts)) = sgnI s t := by
  have es := even_turns hs
  have et := even_turns ht
  show (if negD (.tuple (nD (turnsN s) ++ ts)) = negD (.tuple (nD (turnsN t) ++ ts)) then lexD (cmpD n) (nD (turnsN s) ++ ts).reverse (nD (turnsN t) ++ ts).reverse else _) = _
  have n1 : ∀ l : List Nat, l.length % 2 = 0 → negD (.tuple (nD l ++ ts)) = false := fun l hl => decide_eq_false (by rw [List.length_append, len_nD]; omega)
  rw [n1 _ es, n1 _ et, if_pos rfl, List.reverse_append, List.reverse_append, lexD_app (n := n) _ _ _ _ (fun x h => hts x (List.mem_reverse.mp h))]
  have e : ∀ l : List Nat, (nD l).reverse = (zs l).reverse.map PyData.int := fun l => by
    rw [← List.map_reverse.symm]
    congr 1
    unfold nD zs
    rw [List.map_map]
    rfl
  rw [e, e, (ordN_int n).toOrd.lex _ _ (fun a h => zs_pos a (List.mem_reverse.mp h)) (fun a h => zs_pos a (List.mem_reverse.mp h))]
  have := cmpS_turns s t
  unfold cmpS at this
  rw [len_zs, len_zs, if_neg (by omega)] at this
  exact this
/-- a tuple whose last place is greater -/
theorem last_less {n : Nat} {xs ys : List PyData} {a b : PyData} (hx : xs.length % 2 = 0) (hy : ys.length % 2 = 0) (ex : xs.getLast? = some a) (ey : ys.getLast? = some b) (fa : Fm n a) (fb : Fm n b) (hab : cmpD n a b = -1) :
    cmpD (n + 1) (.tuple xs) (.tuple ys) = -1 := by
  show (if negD (.tuple xs) = negD (.tuple ys) then lexD (cmpD n) xs.reverse ys.reverse else _) = -1
  have n1 : ∀ l : List PyData, l.length % 2 = 0 → negD (.tuple l) = false := fun l hl => decide_eq_false (by omega)
  rw [n1 _ hx, n1 _ hy, if_pos rfl]
  obtain ⟨m, rfl⟩ := List.getLast?_eq_some_iff.mp ex
  obtain ⟨k, rfl⟩ := List.getLast?_eq_some_iff.mp ey
  rw [List.reverse_append, List.reverse_append]
  show (if PyData.eqv a b = true then lexD (cmpD n) m.reverse k.reverse else par (m.reverse.length + 1) (cmpD n a b)) = -1
  have ne : ¬ PyData.eqv a b = true := fun h => by
    rw [(eqv_fm fa fb).mp h, cmpD_self fb] at hab
    cases hab
  rw [if_neg ne, hab, List.length_reverse]
  rw [List.length_append, List.length_singleton] at hx
  unfold par
  rw [if_neg (by omega)]
theorem int_less {n : Nat} {i : Int} {ys : List PyData} (h0 : 0 ≤ i) (hy : ys.length % 2 = 0) : cmpD (n + 1) (.int i) (.tuple ys) = -1 := by
  have n1 : negD (.tuple ys) = false := decide_eq_false (by omega)
  have n2 : negD (.int i) = false := decide_eq_false (by omega)
  show (if negD (.int i) = negD (.tuple ys) then (if negD (.int i) = true then 1 else -1) else _) = -1
  rw [n1, n2, if_pos rfl, if_neg Bool.false_ne_true]
/-- what the fields' tuples are, for the order -/
structure Top2 (ts : List PyData) : Prop where
  ev : ts.length % 2 = 0
  fm : ∀ x ∈ ts, Fm 0 x
  la : ∃ i : Int, ts.getLast? = some (.int i) ∧ 200 ≤ i
structure Top3 (ts : List PyData) : Prop where
  ev : ts.length % 2 = 0
  fm : ∀ x ∈ ts, Fm 2 x
  la : ∃ us : List PyData, ts.getLast? = some (.tuple us) ∧ us.length % 2 = 0
theorem f2_top {low g : Int} {f2 : PyData} (hl : 200 ≤ low) (hg : 0 ≤ g) (h : F2 low g f2) : ∃ ts, f2 = .tuple ts ∧ Top2 ts := by
  rcases h with ⟨d, d0, _, rfl⟩ | ⟨d, d0, _, rfl⟩
  · refine ⟨_, rfl, (by simp), fun x hx => ?_, low + 1 + d, rfl, by omega⟩
    simp at hx; rcases hx with rfl | rfl <;> exact ⟨_, rfl⟩
  · refine ⟨_, rfl, (by simp), fun x hx => ?_, low + 11 + 2 * g + d, rfl, by omega⟩
    simp at hx; rcases hx with rfl | rfl | rfl | rfl <;> exact ⟨_, rfl⟩
theorem f3_top {g : Int} {t2 : List PyData} {f3 : PyData} (k2 : Top2 t2) (hl : t2.length ≤ 50) (h : F3 g (.tuple t2) f3) : ∃ ts, f3 = .tuple ts ∧ Top3 ts := by
  have f1 : Fm 1 (.tuple t2) := .inr ⟨_, rfl, by omega, k2.fm⟩
  have f2 : Fm 2 (.tuple t2) := f1.succ
  rcases h with rfl | ⟨e, ts, _, _, et, rfl⟩ | rfl
  · refine ⟨_, rfl, (by simp), fun x hx => ?_, t2, rfl, k2.ev⟩
    simp at hx; rcases hx with rfl | rfl
    · exact Fm.int _
    · exact f2
  · cases et
    refine ⟨_, rfl, (by simp), fun x hx => ?_, _, rfl, by show (t2.length + 1 + 1) % 2 = 0; have := k2.ev; omega⟩
    simp at hx; rcases hx with rfl | rfl
    · exact f2
    · refine .inr ⟨_, rfl, by show t2.length + 1 + 1 ≤ 9000; omega, fun x hx => ?_⟩
      rcases List.mem_cons.mp hx with rfl | hx
      · exact Fm.int _
      · rcases List.mem_cons.mp hx with rfl | hx
        · exact Fm.int _
        · exact (k2.fm x hx).succ
  · refine ⟨_, rfl, (by simp), fun x hx => ?_, _, rfl, (by simp)⟩
    simp at hx; rcases hx with rfl | rfl | rfl | rfl
    · exact Fm.int _
    · exact Fm.int _
    · exact f2
    · refine .inr ⟨_, rfl, by show 2 ≤ 9000; decide, fun x hx => ?_⟩
      simp at hx; rcases hx with rfl | rfl
      · exact Fm.int _
      · exact f1
def Pl (a : Int) : Prop := 0 ≤ a ∧ a < 800 ∧ a % 200 < 64
/-- the last of a form's turns is small -/
theorem form_small {x : Int} (h0 : 0 ≤ x) (h1 : x < 2 ^ 65) : formD x = .int x ∨ ∃ m p, formD x = .tuple (nD (m ++ [p])) ∧ p ≤ 65 ∧ (m ++ [p]).length % 2 = 0 := by
  unfold formD
  by_cases c : plain x
  · left; rw [if_pos c]
  · right
    rw [if_neg c]
    have ev := even_turns h0
    have le := turns_lt (x := x) (n := 65) (by omega) h1
    rcases List.eq_nil_or_concat (turnsN x) with h | ⟨m, p, h⟩
    · have e := turns_alt x
      rw [h] at e
      have : x = 0 := e.symm
      subst this
      exact absurd (by decide) c
    · rw [List.concat_eq_append] at h
      rw [h] at ev le ⊢
      exact ⟨m, p, rfl, le p (by simp), ev⟩
theorem place_le {fs : List PyData} (F : Fields fs) {p q : Nat} (hp : Pl p) (hq : Pl q) (h : p < q) : cmpD 3 (placeD fs p) (placeD fs q) = -1 := by
  obtain ⟨a, low, g, f2, f3, rfl, a0, a1, l0, l1, g0, g1, k2, k3⟩ := F.ex
  obtain ⟨_, p1, p2⟩ := hp
  obtain ⟨_, q1, q2⟩ := hq
  obtain ⟨t2, rfl, o2⟩ := f2_ok (n := 0) k2
  obtain ⟨t2', e2, m2⟩ := f2_top l0 (by omega) k2
  cases e2
  obtain ⟨t3, rfl, m3⟩ := f3_top m2 o2.1 k3
  have len : ∀ s : Nat, s < 200 → (turnsN ((s : Nat) : Int)).length ≤ 9000 := fun s hs => by
    have := turns_len (x := ((s : Nat) : Int)) (n := 10) (by omega) (by omega); omega
  have lenf : ∀ x : Int, 0 ≤ x → x < 2 ^ 65 → (turnsN x).length ≤ 9000 := fun x h0 h1 => by
    have := turns_len (x := x) (n := 65) (by omega) h1; omega
  have pl0 : ∀ r : Nat, r < 200 → placeD [.int 0, .int a, .tuple t2, .tuple t3] r = formD (r : Int) := fun r hr => by
    rw [place0 F hr]; unfold formD; rw [if_pos (by constructor <;> omega)]
  have pl1 : ∀ r : Nat, 200 ≤ r → r < 400 → placeD [.int 0, .int a, .tuple t2, .tuple t3] r = formD (a + ((r % 200 : Nat) : Int)) := fun r h1 h2 => by
    unfold placeD; rw [show r / 200 = 1 by omega]; rfl
  have pl2 : ∀ r : Nat, 400 ≤ r → r < 600 → placeD [.int 0, .int a, .tuple t2, .tuple t3] r = .tuple (nD (turnsN ((r % 200 : Nat) : Int)) ++ t2) := fun r h1 h2 => by
    unfold placeD; rw [show r / 200 = 2 by omega]; rfl
  have pl3 : ∀ r : Nat, 600 ≤ r → r < 800 → placeD [.int 0, .int a, .tuple t2, .tuple t3] r = .tuple (nD (turnsN ((r % 200 : Nat) : Int)) ++ t3) := fun r h1 h2 => by
    unfold placeD; rw [show r / 200 = 3 by omega]; rfl
  have ev : ∀ (r : Nat) (ts : List PyData), ts.length % 2 = 0 → (nD (turnsN ((r % 200 : Nat) : Int)) ++ ts).length % 2 = 0 := fun r ts h => by
    have := even_turns (x := ((r % 200 : Nat) : Int)) (by omega)
    rw [List.length_append, len_nD]; omega
  have la : ∀ (r : Nat) (ts : List PyData) (d : PyData), ts.getLast? = some d → (nD (turnsN ((r % 200 : Nat) : Int)) ++ ts).getLast? = some d := fun r ts d h => by
    rw [List.getLast?_append, h]; rfl
  obtain ⟨i2, e2, i200⟩ := m2.la
  obtain ⟨us, e3, uev⟩ := m3.la
  have fus : Fm 2 (.tuple us) := m3.fm _ (List.mem_of_getLast? e3)
  -- an int's form against a tuple that lies above
  have low23 : ∀ (x : Int) (r : Nat), 0 ≤ x → x < 2 ^ 65 → cmpD 3 (formD x) (.tuple (nD (turnsN ((r % 200 : Nat) : Int)) ++ t2)) = -1 ∧ cmpD 3 (formD x) (.tuple (nD (turnsN ((r % 200 : Nat) : Int)) ++ t3)) = -1 := fun x r h0 h1 => by
    rcases form_small h0 h1 with e | ⟨m, p, e, p65, pev⟩
    · rw [e]
      exact ⟨int_less h0 (ev r t2 m2.ev), int_less h0 (ev r t3 m3.ev)⟩
    · rw [e]
      have el : (nD (m ++ [p])).getLast? = some (.int (p : Int)) := by unfold nD; rw [List.map_append]; exact List.getLast?_concat ..
      have elv : (nD (m ++ [p])).length % 2 = 0 := by rw [len_nD]; exact pev
      refine ⟨last_less elv (ev r t2 m2.ev) el (la r t2 _ e2) (Fm.int _) (Fm.int _) (sgnI_lt (by omega)), last_less elv (ev r t3 m3.ev) el (la r t3 _ e3) (Fm.int _) fus (int_less (by omega) uev)⟩
  by_cases c1 : p < 200
  · by_cases d1 : q < 200
    · rw [pl0 p c1, pl0 q d1, form_ord (len p c1) (len q d1), sgnI_lt (by omega)]
    · by_cases d2 : q < 400
      · rw [pl0 p c1, pl1 q (by omega) d2, form_ord (len p c1) (lenf _ (by omega) (by omega)), sgnI_lt (by omega)]
      · by_cases d3 : q < 600
        · rw [pl0 p c1, pl2 q (by omega) d3]; exact (low23 p q (by omega) (by omega)).1
        · rw [pl0 p c1, pl3 q (by omega) (by omega)]; exact (low23 p q (by omega) (by omega)).2
  · by_cases c2 : p < 400
    · rw [pl1 p (by omega) c2]
      by_cases d2 : q < 400
      · rw [pl1 q (by omega) d2, form_ord (lenf _ (by omega) (by omega)) (lenf _ (by omega) (by omega)), sgnI_lt (by omega)]
      · by_cases d3 : q < 600
        · rw [pl2 q (by omega) d3]; exact (low23 _ q (by omega) (by omega)).1
        · rw [pl3 q (by omega) (by omega)]; exact (low23 _ q (by omega) (by omega)).2
    · by_cases c3 : p < 600
      · rw [pl2 p (by omega) c3]
        by_cases d3 : q < 600
        · rw [pl2 q (by omega) d3, same_field (n := 2) (by omega) (by omega) (fun x h => (m2.fm x h).mono (by decide)) m2.ev, sgnI_lt (by omega)]
        · rw [pl3 q (by omega) (by omega)]
          exact last_less (ev p t2 m2.ev) (ev q t3 m3.ev) (la p t2 _ e2) (la q t3 _ e3) (Fm.int _) fus (int_less (by omega) uev)
      · rw [pl3 p (by omega) (by omega), pl3 q (by omega) (by omega), same_field (n := 2) (by omega) (by omega) m3.fm m3.ev, sgnI_lt (by omega)]
theorem ordN_place {fs : List PyData} (F : Fields fs) : OrdN 3 (fun a => placeD fs a.toNat) Pl := by
  have lift : ∀ a, Pl a → ((a.toNat : Nat) : Int) = a := fun a h => by have := h.1; omega
  refine { fm := fun a h => ?_, ord := fun a b ha hb => ?_, pos := fun a h => h.1, near := fun a h h64 => ?_, far := fun a h h64 => ?_ }
  · have := h.1; have := h.2.1
    exact place_fm F (by omega)
  · have la := lift a ha
    have lb := lift b hb
    have a8 := ha.2.1
    have b8 := hb.2.1
    rcases Int.lt_trichotomy a b with c | c | c
    · rw [sgnI_lt c]
      exact place_le F (by rw [la]; exact ha) (by rw [lb]; exact hb) (by omega)
    · subst c
      rw [sgnI_self]
      exact cmpD_self (place_fm F (by omega))
    · rw [sgnI_gt c, cmpD_anti 3 (placeD fs b.toNat) (placeD fs a.toNat) (place_fm F (by omega)) (place_fm F (by omega)), place_le F (by rw [lb]; exact hb) (by rw [la]; exact ha) (by omega)]
      rfl
  · show placeD fs a.toNat = .int a
    rw [place0 F (by omega), lift a h]
  · obtain ⟨hp, _, k⟩ := places F 0
    have := h.2.1
    exact (k a.toNat (by omega)).2.2 (by omega)
/-! ### moved codes -/
theorem alt_append (s : Int) (l l' : List Nat) : alt s (l ++ l') = alt s l + alt (flip s l.length) l' := by
  induction l generalizing s with
  | nil => show alt s l' = 0 + alt s l'; omega
  | cons p l ih =>
    show s * 2 ^ p + alt (-s) (l ++ l') = s * 2 ^ p + alt (-s) l + alt (flip (-s) l.length) l'
    rw [ih]; omega
theorem alt_shift (k : Nat) (s : Int) (l : List Nat) : alt s (l.map (· + k)) = 2 ^ k * alt s l := by
  induction l generalizing s with
  | nil => show (0 : Int) = 2 ^ k * 0; omega
  | cons p l ih =>
    show s * 2 ^ (p + k) + alt (-s) (l.map (· + k)) = 2 ^ k * (s * 2 ^ p + alt (-s) l)
    rw [ih, Int.pow_add, Int.mul_add, Int.mul_comm (2 ^ k) (s * 2 ^ p), Int.mul_assoc]
theorem flip_even {s : Int} {n : Nat} (h : n % 2 = 0) : flip s n = s := by rw [flip_eq]; unfold par; rw [if_neg (by omega)]
/-- the turns of two groups of bits -/
theorem turns_two {a b : Int} {k : Nat} (ha : 0 ≤ a) (hb : 0 ≤ b) (hk : ∀ p ∈ turnsN a, p < k) : turnsN (a + b * 2 ^ k) = turnsN a ++ (turnsN b).map (· + k) := by
  have asc : (turnsN a ++ (turnsN b).map (· + k)).Pairwise (· < ·) := by
    rw [List.pairwise_append]
    refine ⟨turns_asc a, List.pairwise_map.mpr ((turns_asc b).imp fun h => by omega), fun p hp q hq => ?_⟩
    obtain ⟨r, _, rfl⟩ := List.mem_map.mp hq
    have := hk p hp
    omega
  rw [← turns_of_alt asc, alt_append, turns_alt, flip_even (even_turns ha), alt_shift, turns_alt, Int.mul_comm b]
theorem digit_turns {d : Int} (h0 : 0 ≤ d) (h1 : d < 2 ^ 60) : ∀ p ∈ turnsN d, p < 64 := fun p hp => by
  have := turns_lt (x := d) (n := 60) (by omega) h1 p hp; omega
/-- the turns of a code lie in its groups -/
theorem code_places {m : Nat} {c : Int} (h : CodeB m (2 ^ 60) c) : ∀ p ∈ turnsN c, Pl p := by
  obtain ⟨d, rfl, h2, _⟩ := h
  have t0 := digit_turns (h2 0).1 (h2 0).2
  have t1 := digit_turns (h2 1).1 (h2 1).2
  have t2 := digit_turns (h2 2).1 (h2 2).2
  have t3 := digit_turns (h2 3).1 (h2 3).2
  have n3 : 0 ≤ d 2 + d 3 * 2 ^ 200 := by have := (h2 2).1; have := (h2 3).1; omega
  have n2 : 0 ≤ d 1 + (d 2 + d 3 * 2 ^ 200) * 2 ^ 200 := by have := (h2 1).1; omega
  have e : val4 d = d 0 + (d 1 + (d 2 + d 3 * 2 ^ 200) * 2 ^ 200) * 2 ^ 200 := by unfold val4; omega
  rw [e, turns_two (h2 0).1 n2 (fun p hp => by have := t0 p hp; omega), turns_two (h2 1).1 n3 (fun p hp => by have := t1 p hp; omega), turns_two (h2 2).1 (h2 3).1 (fun p hp => by have := t2 p hp; omega)]
  intro p hp
  simp only [List.mem_append, List.map_append, List.mem_map] at hp
  rcases hp with hp | ⟨q, hq, rfl⟩ | ⟨q, ⟨r, hr, rfl⟩ , rfl⟩ | ⟨q, ⟨r, ⟨u, hu, rfl⟩, rfl⟩, rfl⟩
  · have := t0 p hp; exact ⟨by omega, by omega, by omega⟩
  · have := t1 q hq; exact ⟨by omega, by omega, by omega⟩
  · have := t2 r hr; exact ⟨by omega, by omega, by omega⟩
  · have := t3 u hu; exact ⟨by omega, by omega, by omega⟩
def Cd (c : Int) : Prop := CodeB 4 (2 ^ 60) c
theorem moved_row (fs : List PyData) (c : Int) : movedD fs c = rowF (fun a => placeD fs a.toNat) (zs (turnsN c)) := by
  unfold movedD rowF zs
  rw [List.map_map]
  rfl
theorem Cd.b {c : Int} (h : Cd c) : 0 ≤ c ∧ c < 2 ^ 799 := code_799 h (by decide) (by decide) (Int.le_refl _)
theorem ordN_moved {fs : List PyData} (F : Fields fs) : OrdN 4 (movedD fs) Cd := by
  have o := ordN_place F
  have pl : ∀ c, Cd c → ∀ a ∈ zs (turnsN c), Pl a := fun c h a ha => by
    obtain ⟨p, hp, rfl⟩ := List.mem_map.mp ha
    exact code_places h p hp
  have le : ∀ c, Cd c → (zs (turnsN c)).length ≤ 9000 := fun c h => by
    rw [len_zs]
    have := len_turns h.b.1 h.b.2
    omega
  refine { fm := fun c h => ?_, ord := fun c c' h h' => ?_, pos := fun c h => h.b.1, near := fun c h h64 => small_moved F h.b.1 h64, far := fun c h h64 => ?_ }
  · rw [moved_row]
    exact row_fm o (pl c h) (zs_asc (turns_asc c)) (le c h)
  · show cmpD 4 (movedD fs c) (movedD fs c') = _
    rw [moved_row, moved_row, row_ord o (pl c h) (pl c' h') (zs_asc (turns_asc c)) (zs_asc (turns_asc c')) (le c h) (le c' h'), cmpS_turns]
  · obtain ⟨hm, _, k⟩ := moveds F 0
    have := (k c h.b.1 h.b.2).2.2
    by_cases e : isNear (movedD fs c) = true
    · have := this e; omega
    · exact Bool.eq_false_iff.mpr e
/-- the order of numbers made of codes -/
theorem codes_ord {fs : List PyData} (F : Fields fs) {l l' : List Int} (hs : ∀ c ∈ l, Cd c) (hs' : ∀ c ∈ l', Cd c) (hp : l.Pairwise (· < ·)) (hp' : l'.Pairwise (· < ·)) (hl : l.length ≤ 2000) (hl' : l'.length ≤ 2000) :
    cmpD 5 (codesD fs l) (codesD fs l') = cmpS l l' ∧ Fm 5 (codesD fs l) ∧ Fm 5 (codesD fs l') :=
  ⟨row_ord (ordN_moved F) hs hs' hp hp' (by omega) (by omega), row_fm (ordN_moved F) hs hp (by omega), row_fm (ordN_moved F) hs' hp' (by omega)⟩
theorem lexR_self : ∀ l : List Int, lexR l l = 0
  | [] => rfl
  | x :: xs => by show (if x = x then lexR xs xs else _) = 0; rw [if_pos rfl, lexR_self xs]
theorem cmpS_self (l : List Int) : cmpS l l = 0 := by unfold cmpS; rw [if_neg (fun h => h rfl), lexR_self]
theorem lexR_anti : ∀ l l' : List Int, l.length % 2 = l'.length % 2 → lexR l' l = -lexR l l'
  | [], [], _ => rfl
  | [], y :: ys, h => by
    show par (ys.length + 1) 1 = -(-1)
    unfold par; rw [if_neg (by simp at h; omega)]; rfl
  | x :: xs, [], h => by
    show (-1 : Int) = -par (xs.length + 1) 1
    unfold par; rw [if_neg (by simp at h; omega)]
  | x :: xs, y :: ys, h => by
    have hl : xs.length % 2 = ys.length % 2 := by simp at h; omega
    show (if y = x then lexR ys xs else par (ys.length + 1) (sgnI y x)) = -(if x = y then lexR xs ys else par (xs.length + 1) (sgnI x y))
    by_cases e : x = y
    · rw [if_pos e, if_pos e.symm, lexR_anti xs ys hl]
    · rw [if_neg e, if_neg (Ne.symm e), sgnI_swap, par_neg]
      unfold par
      by_cases o : (xs.length + 1) % 2 = 1
      · rw [if_pos o, if_pos (by omega)]
      · rw [if_neg o, if_neg (by omega)]
theorem cmpS_anti (l l' : List Int) : cmpS l' l = -cmpS l l' := by
  unfold cmpS
  by_cases c : l.length % 2 = l'.length % 2
  · rw [if_neg (by omega), if_neg (by omega), lexR_anti]
    rw [List.length_reverse, List.length_reverse]; exact c
  · rw [if_pos c, if_pos (Ne.symm c)]
    by_cases o : l.length % 2 = 1
    · rw [if_pos o, if_neg (by omega)]; rfl
    · rw [if_neg o, if_pos (by omega)]
end Fb
namespace Fb
open PySem L2 PySem.Spec PyProof.Rows
/-! ### a def called where no guard stands (the law's own) -/
def FnG (P : Program) (w : World) (K : PySem.W.Frag) (mg : Str → Option Value) (base : Heap) (k : Nat) (f : Addr) (fd : FuncData) (ps : List Str) (sp : Sp) : Prop :=
  ∀ (B : Around) (os : List Env) (s : Shared) (H : Hp) (ar : Args) (us : List Value) (vs : List V) (R : VK) (T : XK), Room k B → B.guards = some [] → Env0 P w K mg base B os s H → BindsTo s fd ar (ps.zip us) → Vals vs us → sp vs H R T →
    codeAny (model P w) B (.call (.ref f) ar) (CR CX0 os P w H s R T) s
theorem fng_of {P : Program} {w : World} {K : PySem.W.Frag} {mg : Str → Option Value} {base : Heap} {x qual : Str} {st : Stmt} {f : Addr} {fd : FuncData} {N ps : List Str} {k : Nat} {sp : Sp} (F : Fun K x qual st f fd) (S : FnScope N ps (defScope st)) (len : ∀ vs H R T, sp vs H R T → vs.length = ps.length)
    (go : ∀ (cdv : Value) (B : Around) (os : List Env) (s : Shared) (H : Hp) (vs : List V) (R : VK) (T : XK), Room k (B.deeper (envOfC qual (defScope st) s.heap.objs.size f cdv)) → B.guards = some [] → sp vs H R T →
      ∃ t, PSs (cxOf CX0 P w K mg base N qual (defScope st) f cdv B os s H T).nox (defBody st) t ∧ t { nx := fun _ H1 => R .non H1, rt := R } (L2.start N vs) H) : FnG P w K mg base (k + 1) f fd ps sp := by
  intro B os s H ar us vs R T room ng e0 bd rv hs
  obtain ⟨_, _, kV, doc, pm, an, cdv, ct, _, rfl, at_, code⟩ := F.ex
  have old : ∀ b o, base.get? b = some o → s.heap.get? b = some o := fun b o z => (e0.bs b o z).1
  have kin := e0.mod.kin.keeps old
  have vis : ∀ y ∈ ps.zip us, (defScope st).names.lookup y.1 = some .local ∨ ((defScope st).names.lookup y.1 = some .cell ∧ ((cellsFrom (s.heap.objs.size + 1) (defScope st).names []).lookup y.1).isSome = true) := by
    rintro ⟨nm, u⟩ hy
    exact (S.par nm (List.of_mem_zip hy).1).imp id fun q => ⟨q, PySem.W.cellsFrom_some _ _ _ (.inl q)⟩
  apply codeAny_call_function room.depth (kin _ _ at_) rfl S.co S.gen rfl (PySem.W.codeRec_of kin code)
  apply bd
  apply wpAny_newFunctionEnv_cells S.kind vis
  rintro env rfl s2 inc
  have lim := (e0.mod.nolimit.keeps old).keeps inc.toInCall.keep
  refine ⟨lim, codeAny_func ?_⟩
  obtain ⟨t, pt, ht⟩ := go cdv B os s H vs R T (room.deeper _) ng hs
  have J := inv_start (CX := CX0) (E := T) S room.hd e0 (len _ _ _ _ hs) rv inc
  apply wpAny_mono (pt.nox.run [] s2 (L2.start N vs) H _ J ht)
  · intro fl s3 h3
    match fl, h3 with
    | .ret u, ⟨v, _, H3, J3, r3, q3⟩ => exact ⟨v, H3, J3.os, J3.bare, J3.base, J3.hok, r3, q3⟩
    | .next, ⟨_, H3, J3, q3⟩ => exact ⟨V.non, H3, J3.os, J3.bare, J3.base, J3.hok, rfl, q3⟩
    | .brk, ⟨_, _, _, q3⟩ => exact q3.elim
    | .cont, ⟨_, _, _, q3⟩ => exact q3.elim
  · intro _ _ z
    exact z
/-- the first call of the law's def: the guards are empty there -/
theorem callG {P : Program} {w : World} {K : PySem.W.Frag} {mg mb : Str → Option Value} {k : Nat} {fa a : Addr} {fd : FuncData} {x : Str} {sp : Sp} {s1 : Shared} {us : List Value} {zs : List Int}
    (kx : K.In s1.heap) (nm : s1.heap.Ns mainGlobals mg) (nb : s1.heap.Ns builtinsNs mb) (bb : ∀ y : Str, y ≠ "__name__" → mb y = bootBuiltins y) (nl : s1.heap.NoLimit) (ng : s1.gens = #[])
    (at_ : s1.heap.get? a = some { cls := .type "list", data := .seq us.toArray }) (iz : IntsAre us zs) (short : zs.length ≤ sizeLine) (room : Room k callerA)
    (F : ∀ base : Heap, K.In base → base.Ns mainGlobals mg → FnG P w K mg base k fa fd [x] sp) (bd : ∀ (s : Shared) (u : Value), BindsTo s fd ⟨[u], []⟩ [(x, u)])
    (spec : ∀ H : Hp, SqL K H a (zs.map V.int) → sp [.ref a] H (fun v _ => v = .bl true) fun _ _ _ => False) :
    codeAny (model P w) callerA (.call (.ref fa) ⟨[.ref a], []⟩) (fun r s2 => r = .ok (.ret (.bool true)) ∧ OldK s1.heap s2.heap ∧ s2.os = s1.os ∧ AllBare s2.gens) s1 := by
  have rv := vals_ints iz
  have lz := iz.length
  obtain ⟨H, hH, hn, hs⟩ : ∃ H : Hp, (∀ b u, H b = some u → b = a ∧ u = .frz { cls := .type "list", data := .seq us.toArray } (.lst (zs.map V.int))) ∧ (∀ o, K.lookup a = some o → H a = none) ∧ SqL K H a (zs.map V.int) := by
    cases hk : K.lookup a with
    | none =>
      refine ⟨fun b => if b = a then some (.frz { cls := .type "list", data := .seq us.toArray } (.lst (zs.map V.int))) else none, fun b u z => ?_, (fun o z => by cases z), .inl (.inr ⟨_, if_pos rfl⟩)⟩
      by_cases e : b = a
      · exact ⟨e, (Option.some.inj ((if_pos e).symm.trans z)).symm⟩
      · exact nomatch (if_neg e).symm.trans z
    | some o =>
      have e := at_.symm.trans (kx a o hk)
      cases e
      exact ⟨fun _ => none, (fun _ _ z => by cases z), fun _ _ => rfl, .inr ⟨_, us.toArray, _, hk, rfl, rfl, rfl, by rw [List.size_toArray, lz]; exact short, by simpa using rv⟩⟩
  have dict : ∀ (b : Addr) (o : Obj) (es : Array DictEntry) (ep : Nat), s1.heap.get? b = some o → o.data = .dict es ep → H b = none := fun b o es ep e d => by
    cases q : H b with
    | none => rfl
    | some u =>
      obtain ⟨rfl, _⟩ := hH b u q
      have e2 := Option.some.inj (at_.symm.trans e)
      rw [← e2] at d
      cases d
  have names : ∀ (b : Addr) (m : Str → Option Value), s1.heap.Ns b m → (hidT s1.heap H).Ns b m := by
    rintro b m ⟨o, es, ep, e, d, r⟩
    exact ⟨o, es, ep, hidT_get e (dict b o es ep e d), d, r⟩
  have kb : K.In (hidT s1.heap H) := fun b o e => hidT_get (kx b o e) <| by
    cases q : H b with
    | none => rfl
    | some u =>
      obtain ⟨rfl, _⟩ := hH b u q
      rw [hn o e] at q
      cases q
  have lim : (hidT s1.heap H).NoLimit := by
    obtain ⟨m, q1, q2⟩ := nl
    exact ⟨m, names _ _ q1, q2⟩
  have ok : HOk P w H s1.heap := fun b u q => by
    obtain ⟨rfl, rfl⟩ := hH b u q
    exact ⟨at_, by rw [List.length_map]; exact short, us, _, rv, at_⟩
  have env : Env0 P w K mg (hidT s1.heap H) callerA [] s1 H := by
    refine ⟨rfl, ⟨kb, names _ _ nm, ⟨mb, names _ _ nb, bb⟩, lim⟩, fun b o e => of_hidT e, Nat.le_of_eq (hidT_size _ _), trivial, fun b q => ?_, ok, .of_eq ng⟩
    cases q
  have main := F _ kb (names _ _ nm) callerA [] s1 H ⟨[.ref a], []⟩ [.ref a] [.ref a] _ _ room rfl env (bd s1 (.ref a)) (.cons rfl .nil) (spec H hs)
  apply codeAny_mono main
  intro r s2 z
  match r, z with
  | .ok (.ret u), ⟨v, H2, os, bare, un, ok2, rel, q⟩ =>
    have qv : v = .bl true := q
    subst qv
    have ru : u = Value.bool true := rel
    refine ⟨by rw [ru], OldK.of_keep fun b o e => ?_, os, bare⟩
    cases q2 : H b with
    | none => exact un.keep b o e q2 (fun y => by cases y) (by simp)
    | some t =>
      obtain ⟨rfl, rfl⟩ := hH b t q2
      have o1 := (ok b _ q2).1
      have o2 := (ok2 b _ (un.frzs b _ _ q2)).1
      exact o2.trans (o1.symm.trans e)
  | .ok .next, z => exact z.elim
  | .ok .brk, z => exact z.elim
  | .ok .cont, z => exact z.elim
  | .error e, z => exact z.elim
theorem walkG {l : PySem.W.OpenLaw} {n k : Nat} {q : Program} {loose : List Str} {XP : (Str → Option Value) → Heap → Prop} {YP : World → Heap → Prop} {d : DefRec} {K : Params → PySem.W.Frag} {sp : World → Sp} {x : Str}
    (most : l.most = some n) (nz : n ≤ sizeLine) (df : d.params.defaults = []) (room : Room k callerA) (inK : ∀ (w : World) (h : Heap), YP w h → (K w.params).In h)
    (F : ∀ (w : World) (mg : Str → Option Value) (fa : Addr) (h : Heap), (K w.params).In h → h.Ns mainGlobals mg → mg d.name = some (.ref fa) →
      ∃ fd : FuncData, (∀ (s : Shared) (u : Value), BindsTo s fd ⟨[u], []⟩ [(x, u)]) ∧ ∀ base : Heap, (K w.params).In base → base.Ns mainGlobals mg → FnG l.prog w (K w.params) mg base k fa fd [x] (sp w))
    (spec : ∀ (w : World) (H : Hp) (a : Addr) (zs : List Int), zs.length ≤ n → SqL (K w.params) H a (zs.map V.int) → sp w [.ref a] H (fun v _ => v = .bl true) fun _ _ _ => False) :
    PySem.W.WalkO q loose XP YP l.row.toRowW d [] (fun f vs => PySem.call f vs) := by
  apply Att.attach_call most df
  intro w s0 s1 mg mb fa o pm cd doc a us zs G Y _ _ _ hmg at_ iz len ng
  have kx := inK w _ Y
  obtain ⟨fd, bd, go⟩ := F w mg fa _ kx G.T.g hmg
  exact callG kx G.T.g G.T.b G.T.builtins G.T.nolimit ng at_ iz (Nat.le_trans len nz) room go bd fun H => spec w H a zs len
end Fb
namespace Fb
open PySem L2 PySem.Spec PyProof.Rows
/-! ### repr of data -/
/-- data that can be shown: how deep, how long -/
structure Sh (d : PyData) : Prop where
  show_ : d.showable = true
  nod : d.hasDict = false
  deep : d.depth ≤ 40
  long : d.shown.length ≤ sizeLine
def rReprD (K : PySem.W.Frag) : List V → Hp → VK → Prop := fun xs H Q => ∃ (v : V) (d : PyData), xs = [v] ∧ Dp K H v d ∧ Sh d ∧ Q (.str d.shown) H
theorem call_reprD {X : Cx} (ng : X.A.guards = some []) (room : X.A.units + 64 < cLine) : CallR X (.builtin "repr") (rReprD X.K) := by
  intro pins s σ H xs us Q I rel h
  obtain ⟨v, d, rfl, dp, sh, q⟩ := h
  obtain ⟨u, rfl, ru⟩ : ∃ u, us = [u] ∧ RelV v u := by
    cases rel with
    | cons a b => cases b; exact ⟨_, rfl, a⟩
  obtain ⟨as, rd⟩ := Dp.reads I d v u dp ru
  have deep := sh.deep
  cases dp with
  | non =>
    cases ru
    exact PySem.P.repr_of_none ⟨.str _, H, I.tok _, ⟨_, rfl⟩, q⟩
  | bl b =>
    cases ru
    exact PySem.P.repr_of_bool ⟨.str _, H, I.tok _, ⟨_, rfl⟩, q⟩
  | int i =>
    obtain ⟨t, rfl⟩ := ru
    have hi : i.natAbs.log2 < 1920 := by
      have := sh.show_
      rw [PyData.showable] at this
      exact of_decide_eq_true this
    have hq : Q (.str (toString i)) H := by rw [PyData.shown] at q; exact q
    exact PySem.P.repr_of_int hi ⟨.str _, H, I.tok _, ⟨_, rfl⟩, hq⟩
  | str x =>
    obtain ⟨t, rfl⟩ := ru
    have hx : (reprText x).length ≤ sizeLine := by
      have := sh.long
      rw [PyData.shown] at this
      exact this
    have hq : Q (.str (reprText x)) H := by rw [PyData.shown] at q; exact q
    exact PySem.P.repr_of_str ⟨.str _, H, I.tok _, ⟨_, rfl⟩, hq⟩ hx
  | lst hs ha =>
    cases ru
    exact repr_of_reads' rd sh.show_ (fun z => by rw [sh.nod] at z; cases z) ng (by omega) (fun _ _ e => e) (fun h' t tk keep => ⟨.str _, H, I.kept keep, ⟨_, rfl⟩, q⟩) sh.long
  | tup hs ha =>
    cases ru
    exact repr_of_reads' rd sh.show_ (fun z => by rw [sh.nod] at z; cases z) ng (by omega) (fun _ _ e => e) (fun h' t tk keep => ⟨.str _, H, I.kept keep, ⟨_, rfl⟩, q⟩) sh.long
end Fb
namespace Fb
open PySem L2 PySem.Spec PyProof.Rows
/-! ### how long the forms are when they are shown -/
structure Sw (n b : Nat) (d : PyData) : Prop where
  a : d.showable = true
  c : d.hasDict = false
  e : d.depth ≤ n
  l : d.shown.length ≤ b
structure Lw (n b : Nat) (ds : List PyData) : Prop where
  a : PyData.showableAll ds = true
  c : PyData.hasDictAll ds = false
  e : PyData.depthAll ds ≤ n
  l : piled (PyData.shownAll ds) ≤ b
theorem Sw.sh {n b : Nat} {d : PyData} (h : Sw n b d) (hn : n ≤ 40) (hb : b ≤ 16777216) : Sh d := ⟨h.a, h.c, Nat.le_trans h.e hn, Nat.le_trans h.l hb⟩
theorem Sw.mono {n b n' b' : Nat} {d : PyData} (h : Sw n b d) (hn : n ≤ n') (hb : b ≤ b') : Sw n' b' d := ⟨h.a, h.c, Nat.le_trans h.e hn, Nat.le_trans h.l hb⟩
theorem Lw.mono {n b n' b' : Nat} {d : List PyData} (h : Lw n b d) (hn : n ≤ n') (hb : b ≤ b') : Lw n' b' d := ⟨h.a, h.c, Nat.le_trans h.e hn, Nat.le_trans h.l hb⟩
theorem sw_int {i : Int} (h : i.natAbs < 10 ^ 20) : Sw 0 21 (.int i) := by
  have big : (10 : Nat) ^ 20 < 2 ^ 1920 := by decide +kernel
  refine ⟨?_, ?_, ?_, ?_⟩
  · rw [PyData.showable]
    exact decide_eq_true (PySem.Flt.log2_lt_of (by decide) (Nat.lt_trans h big))
  · rw [PyData.hasDict]
  · rw [PyData.depth]; exact Nat.le_refl 0
  · rw [PyData.shown]
    have := int_text_length_le10 (a := i) (k := 20) (by decide) h
    rw [PySem.ofString_length]
    exact this
theorem lw_nil (n : Nat) : Lw n 0 [] := ⟨rfl, rfl, Nat.zero_le _, Nat.le_refl 0⟩
theorem lw_cons {n b c : Nat} {d : PyData} {ds : List PyData} (h : Sw n b d) (hs : Lw n c ds) : Lw n (b + 2 + c) (d :: ds) := by
  refine ⟨?_, ?_, ?_, ?_⟩
  · rw [PyData.showableAll, h.a, hs.a]; rfl
  · rw [PyData.hasDictAll, h.c, hs.c]; rfl
  · rw [PyData.depthAll]; exact Nat.max_le.mpr ⟨h.e, hs.e⟩
  · rw [PyData.shownAll, piled_cons]
    have := h.l
    have := hs.l
    omega
theorem lw_all {n b : Nat} : ∀ {ds : List PyData}, (∀ d ∈ ds, Sw n b d) → Lw n (ds.length * (b + 2)) ds
  | [], _ => (lw_nil n).mono (Nat.le_refl n) (Nat.zero_le _)
  | d :: ds, h => by
    have := lw_cons (h d List.mem_cons_self) (lw_all fun x hx => h x (List.mem_cons_of_mem _ hx))
    refine this.mono (Nat.le_refl n) ?_
    rw [List.length_cons, Nat.add_mul]
    omega
theorem lw_app {n b c : Nat} : ∀ {ds es : List PyData}, Lw n b ds → Lw n c es → Lw n (b + c) (ds ++ es)
  | [], es, _, h => h.mono (Nat.le_refl n) (Nat.le_add_left _ _)
  | d :: ds, es, h, h2 => by
    have ha := h.a
    have hc := h.c
    have he := h.e
    have hl := h.l
    rw [PyData.showableAll, Bool.and_eq_true] at ha
    rw [PyData.hasDictAll, Bool.or_eq_false_iff] at hc
    rw [PyData.depthAll] at he
    rw [PyData.shownAll, piled_cons] at hl
    have r := lw_app (n := n) (b := piled (PyData.shownAll ds)) (c := c) (ds := ds) ⟨ha.2, hc.2, by omega, Nat.le_refl _⟩ h2
    have s : Sw n d.shown.length d := ⟨ha.1, hc.1, by omega, Nat.le_refl _⟩
    exact (lw_cons s r).mono (Nat.le_refl n) (by omega)
theorem Lw.tup {n b : Nat} {ds : List PyData} (h : Lw n b ds) : Sw (n + 1) (b + 2) (.tuple ds) := by
  refine ⟨?_, ?_, ?_, ?_⟩
  · rw [PyData.showable]; exact h.a
  · rw [PyData.hasDict]; exact h.c
  · rw [PyData.depth]; have := h.e; omega
  · rw [PyData.shown]
    have := fmt_text (PyData.shownAll ds)
    have := h.l
    omega
theorem sw_nat {p : Nat} (h : p < 10 ^ 20) : Sw 0 21 (.int (p : Int)) := sw_int (by omega)
theorem lw_nD {ns : List Nat} (h : ∀ p ∈ ns, p < 10 ^ 20) : Lw 0 (ns.length * 23) (nD ns) := by
  have := lw_all (n := 0) (b := 21) (ds := nD ns) fun d hd => by
    obtain ⟨p, hp, rfl⟩ := List.mem_map.mp hd
    exact sw_nat (h p hp)
  unfold nD at this
  rw [List.length_map] at this
  exact this
/-- rows of entries -/
theorem sw_row {n b m : Nat} {f : Int → PyData} {S : Int → Prop} (o : OrdN n f S) {l : List Int} (hs : ∀ a ∈ l, S a) (hp : l.Pairwise (· < ·)) (hw : ∀ a ∈ l, Sw m b (f a)) : Sw (m + 1) (l.length * (b + 2) + 21) (rowF f l) := by
  rcases row_cases o hs hp with ⟨all, e⟩ | ⟨_, _, _, _, e⟩
  · rw [e]
    have asc := asc_toNat (fun a ha => o.pos a (hs a ha)) hp
    have bd := alt_lt (s := -1) (.inr rfl) (n := 65) asc fun p hp => by
      obtain ⟨a, ha, rfl⟩ := List.mem_map.mp hp
      have := all a ha
      omega
    have e65 : (2 : Int) ^ 65 = 36893488147419103232 := by decide +kernel
    exact (sw_int (by rw [e65] at bd; omega)).mono (Nat.zero_le _) (Nat.le_add_left _ _)
  · rw [e]
    have := (lw_all (n := m) (b := b) (ds := l.map f) fun d hd => by
      obtain ⟨a, ha, rfl⟩ := List.mem_map.mp hd
      exact hw a ha).tup
    rw [List.length_map] at this
    exact this.mono (Nat.le_refl _) (by omega)
theorem sw_form {x : Int} {k : Nat} (h0 : -(2 ^ k) ≤ x) (h1 : x < 2 ^ k) (hk : k < 10 ^ 20) : Sw 1 ((k + 1) * 23 + 21) (formD x) := by
  rw [form_row]
  have lt := turns_len h0 h1
  have r := sw_row (m := 0) (b := 21) (ordN_int 0) (l := zs (turnsN x)) zs_pos (zs_asc (turns_asc x)) fun a ha => by
    obtain ⟨p, hp, rfl⟩ := List.mem_map.mp ha
    have := turns_lt h0 h1 p hp
    exact sw_nat (p := p) (by omega)
  rw [len_zs] at r
  refine r.mono (Nat.le_refl _) ?_
  have := Nat.mul_le_mul_right 23 lt
  omega
/-- a place -/
theorem sw_place {fs : List PyData} (F : Fields fs) {p : Nat} (hp : Pl p) : Sw 3 1600 (placeD fs p) := by
  obtain ⟨a, low, g, f2, f3, rfl, a0, a1, l0, l1, g0, g1, h2, h3⟩ := F.ex
  have i20 : ∀ i : Int, 0 ≤ i → i < 10 ^ 19 → Sw 0 21 (.int i) := fun i q0 q1 => sw_int (by omega)
  have r0 : p % 200 < 64 := by have := hp.2.2; omega
  have t7 : ((turnsN ((p % 200 : Nat) : Int)).length ≤ 7) ∧ ∀ q ∈ turnsN ((p % 200 : Nat) : Int), q < 10 ^ 20 := by
    have b0 : -(2 ^ 6) ≤ (((p % 200 : Nat)) : Int) := by omega
    have b1 : (((p % 200 : Nat)) : Int) < 2 ^ 6 := by omega
    exact ⟨turns_len b0 b1, fun q hq => by have := turns_lt b0 b1 q hq; omega⟩
  have small : Lw 0 161 (nD (turnsN ((p % 200 : Nat) : Int))) := (lw_nD t7.2).mono (Nat.le_refl 0) (by have := t7.1; omega)
  have w2 : ∃ t2, f2 = .tuple t2 ∧ Lw 0 92 t2 := by
    rcases h2 with ⟨d, d0, d1, rfl⟩ | ⟨d, d0, d1, rfl⟩
    · exact ⟨_, rfl, (lw_cons (i20 _ (by omega) (by omega)) (lw_cons (i20 _ (by omega) (by omega)) (lw_nil 0))).mono (Nat.le_refl 0) (by omega)⟩
    · exact ⟨_, rfl, (lw_cons (i20 _ (by omega) (by omega)) (lw_cons (i20 _ (by omega) (by omega)) (lw_cons (i20 _ (by omega) (by omega)) (lw_cons (i20 _ (by omega) (by omega)) (lw_nil 0))))).mono (Nat.le_refl 0) (by omega)⟩
  obtain ⟨t2, rfl, k2⟩ := w2
  have s2 : Sw 2 94 (.tuple t2) := k2.tup.mono (by decide) (Nat.le_refl _)
  have gi : ∀ i : Int, 0 ≤ i → i < 10 ^ 19 → Sw 2 21 (.int i) := fun i q0 q1 => (i20 i q0 q1).mono (by decide) (Nat.le_refl _)
  have w3 : ∃ t3, f3 = .tuple t3 ∧ Lw 2 500 t3 := by
    rcases h3 with rfl | ⟨e, ts, e0, e1, et, rfl⟩ | rfl
    · exact ⟨_, rfl, (lw_cons (gi _ (by omega) (by omega)) (lw_cons s2 (lw_nil 2))).mono (Nat.le_refl 2) (by omega)⟩
    · cases et
      have q : Sw 2 150 (.tuple (.int (e + 1) :: .int 64 :: t2)) := ((lw_cons (i20 (e + 1) (by omega) (by omega)) (lw_cons (i20 64 (by omega) (by omega)) k2)).tup).mono (by decide) (by omega)
      exact ⟨_, rfl, (lw_cons s2 (lw_cons q (lw_nil 2))).mono (Nat.le_refl 2) (by omega)⟩
    · have q : Sw 2 150 (.tuple [.int g, .tuple t2]) := ((lw_cons ((i20 g (by omega) (by omega)).mono (Nat.zero_le 1) (Nat.le_refl _)) (lw_cons (k2.tup) (lw_nil 1))).tup).mono (by decide) (by omega)
      exact ⟨_, rfl, (lw_cons (gi _ (by omega) (by omega)) (lw_cons (gi _ (by omega) (by omega)) (lw_cons s2 (lw_cons q (lw_nil 2))))).mono (Nat.le_refl 2) (by omega)⟩
  obtain ⟨t3, rfl, k3⟩ := w3
  have h4 : p / 200 = 0 ∨ p / 200 = 1 ∨ p / 200 = 2 ∨ p / 200 = 3 := by have := hp.2.1; omega
  have fw : ∀ x : Int, 0 ≤ x → x < 2 ^ 64 + 200 → Sw 3 1600 (formD x) := fun x x0 x1 => by
    refine (sw_form (k := 65) (x := x) (Int.le_trans (by decide) x0) (Int.lt_of_lt_of_le x1 (by decide)) (by decide)).mono (by decide) (by decide)
  rcases h4 with e | e | e | e
  · have pe : placeD [.int 0, .int a, .tuple t2, .tuple t3] p = formD (0 + ((p % 200 : Nat) : Int)) := by unfold placeD; rw [e]; rfl
    rw [pe]; exact fw _ (by omega) (by omega)
  · have pe : placeD [.int 0, .int a, .tuple t2, .tuple t3] p = formD (a + ((p % 200 : Nat) : Int)) := by unfold placeD; rw [e]; rfl
    rw [pe]; exact fw _ (by omega) (by omega)
  · have pe : placeD [.int 0, .int a, .tuple t2, .tuple t3] p = .tuple (nD (turnsN ((p % 200 : Nat) : Int)) ++ t2) := by unfold placeD; rw [e]; rfl
    rw [pe]; exact ((lw_app small k2).tup).mono (by decide) (by decide)
  · have pe : placeD [.int 0, .int a, .tuple t2, .tuple t3] p = .tuple (nD (turnsN ((p % 200 : Nat) : Int)) ++ t3) := by unfold placeD; rw [e]; rfl
    rw [pe]; exact ((lw_app (small.mono (by decide) (Nat.le_refl _)) k3).tup).mono (by decide) (by decide)
theorem sw_moved {fs : List PyData} (F : Fields fs) {c : Int} (h : Cd c) : Sw 4 1281621 (movedD fs c) := by
  rw [moved_row]
  have pl : ∀ a ∈ zs (turnsN c), Pl a := fun a ha => by
    obtain ⟨p, hp, rfl⟩ := List.mem_map.mp ha
    exact code_places h p hp
  have r := sw_row (m := 3) (b := 1600) (ordN_place F) pl (zs_asc (turns_asc c)) fun a ha => by
    have q := pl a ha
    have e : ((a.toNat : Nat) : Int) = a := by have := q.1; omega
    exact sw_place F (p := a.toNat) (by rw [e]; exact q)
  rw [len_zs] at r
  refine r.mono (Nat.le_refl _) ?_
  have lt := len_turns h.b.1 h.b.2
  have := Nat.mul_le_mul_right 1602 lt
  omega
theorem sw_codes {fs : List PyData} (F : Fields fs) {cs : List Int} (h : ∀ c ∈ cs, Cd c) (hp : cs.Pairwise (· < ·)) : Sw 5 (cs.length * 1281623 + 21) (codesD fs cs) :=
  sw_row (m := 4) (b := 1281621) (ordN_moved F) h hp fun _ hc => sw_moved F (h _ hc)
theorem sh_codes {fs : List PyData} (F : Fields fs) {cs : List Int} (h : ∀ c ∈ cs, Cd c) (hp : cs.Pairwise (· < ·)) (hl : cs.length ≤ 12) : Sh (codesD fs cs) :=
by
  have hb : cs.length * 1281623 + 21 ≤ 16777216 := by omega
  have r := sw_codes F h hp
  generalize cs.length * 1281623 + 21 = B at hb r
  exact r.sh (by decide) hb
end Fb
namespace Fb
open PySem L2 NdefX
section
variable {P : Program} {w : World} {K : PySem.W.Frag} {mg : Str → Option Value} {base : Heap} {C f cc cda : Addr} {qual : Str} {st : Stmt} {oc : Value} {od : Option Addr} {osl : Array (Option Value)} {kV doc pm ct : Value} {an : Option Addr} {e : Expr} {good : List V → Prop}
theorem err2_ok {fl1 fl2 p r : Str} {q1 q2 q3 q4 q5 q6 q7 q8 : Pos} (T : SxF P K mg C cc cda qual) (lk : K.lookup f = some ⟨oc, od, .func (sxFd qual st cc cda kV doc pm an ct), osl⟩) (S : NScope ["self", p, r, "__class__"] ["self", p, r] ["__class__"] (defScope st))
    (W : SxT st f cc cda qual e [.Assign [.Attribute (.Name "self" q1) fl1 q2] (.Name p q3) q4, .Assign [.Attribute (.Name "self" q5) fl2 q6] (.Name r q7) q8]) (no1 : PySem.W.findIn K (.ref C) fl1 = some none) (no2 : PySem.W.findIn K (.ref C) fl2 = some none)
    (pd : (p == ("__debug__" : Str)) = false) (pc : (p == ("__classdict__" : Str)) = false) (rd : (r == ("__debug__" : Str)) = false) (rc : (r == ("__classdict__" : Str)) = false)
    (hs1 : ∀ L, swapsWith (.Name p q3) (some (.Attribute (.Name "self" q1) fl1 q2)) q4.line (envF (sxN qual st cc cda) f L) = pure false) (hs2 : ∀ L, swapsWith (.Name r q7) (some (.Attribute (.Name "self" q5) fl2 q6)) q8.line (envF (sxN qual st cc cda) f L) = pure false)
    (hmsg : ∀ (A : Around) (outer : List Env) (s : Shared) (H : Hp) (E : XK), ∃ ta, PA (ncx CX0 P w K mg base ["self", p, r, "__class__"] (sxN qual st cc cda) f A outer s H E) [e] ta ∧
      ∀ (a : Addr) (v u : V) (H : Hp) (Q : List V → Hp → Prop), good [v, u] → (∀ z, Q [.str z] H) → ta [some (.ref a), some v, some u, some (.ref C)] H Q) :
    FnOk P w K mg base CX0 1 f (sxFd qual st cc cda kV doc pm an ct) ["self", p, r] (spErr C [fl1, fl2] good) := by
  obtain ⟨p0, p1, ap, cp, ep, pl, h1, h2, h3, h4, h5⟩ := W.ex
  obtain ⟨ar, h6, h7⟩ := W.par
  refine sx_ok (pl := pl) T lk S W.su h1 h2 h3 h4 h5 h6 (by rw [h7]; rfl) (fun vs H Q E h => ?_) (fun A outer s H vs Q E hr h => ?_)
  · obtain ⟨a, ws, rfl, hl, _⟩ := h
    show ws.length + 1 = 3
    rw [hl]; rfl
  · obtain ⟨a, ws, rfl, hl, hg, ha, q⟩ := h
    match ws, hl with
    | [v, u], _ =>
    obtain ⟨ta, h8, h9⟩ := hmsg A outer s H E
    refine ⟨a, [v, u], ta, _, rfl, ha, h8, pss_cons (ps_ost (pe_var (i := 0) rfl (.inl (S.par _ (by simp)))) (pe_var (i := 1) rfl (.inl (S.par _ (by simp))) pd pc) (hs1 _))
      (pss_one (ps_ost (pe_var (i := 0) rfl (.inl (S.par _ (by simp)))) (pe_var (i := 2) rfl (.inl (S.par _ (by simp))) rd rc) (hs2 _))), ?_⟩
    refine h9 a v u H _ hg fun z => ⟨(by show 1 ≤ 1000; decide), ha, ?_⟩
    refine ⟨_, rfl, _, rfl, a, C, rfl, T.oex, no1, .inl ⟨ha, fun d hd hda => ?_⟩⟩
    refine ⟨_, rfl, _, rfl, a, C, rfl, T.oex, no2, .inr ⟨d, [(fl1, v)], upd_same, ?_, (by show 1 ≤ 900; decide), ?_⟩⟩
    · rw [upd_ne hda, upd_same]
    · have k := q d hd hda
      rw [upd_swap (Ne.symm hda), upd_twice]
      exact k
end
/-- two small ints: what a message may show -/
def twoInts (ws : List V) : Prop := ∃ i j : Int, ws = [.int i, .int j] ∧ i.natAbs < 10 ^ 20 ∧ j.natAbs < 10 ^ 20
theorem small_log {i : Int} (h : i.natAbs < 10 ^ 20) : i.natAbs.log2 < 1920 := PySem.Flt.log2_lt_of (by decide) (Nat.lt_trans h (by decide +kernel))
theorem small_txt {i : Int} (h : i.natAbs < 10 ^ 20) : (PySem.Str.ofString (toString i)).length ≤ 21 := by
  rw [PySem.ofString_length]
  exact PySem.int_text_length_le10 (a := i) (k := 20) (by decide) h
end Fb
namespace Fb
open PySem L2 NdefX PySem.NumText PySem.Spec PyProof.Rows
abbrev S_BadText : Stmt := (clsBody (top 2)).getD 0 (.Pass ⟨0, 0, 0, 0⟩)
section
variable {P : Program} {w : World} {K : PySem.W.Frag} {mg : Str → Option Value} {base : Heap}
theorem ok_BadText {C f cc cda : Addr} {oc : Value} {od : Option Addr} {osl : Array (Option Value)} {kV doc pm ct : Value} {an : Option Addr} (T : SxF P K mg C cc cda "BadText.__init__")
    (lk : K.lookup f = some ⟨oc, od, .func (sxFd "BadText.__init__" S_BadText cc cda kV doc pm an ct), osl⟩) (no : PySem.W.findIn K (.ref C) "place" = some none) :
    FnOk P w K mg base CX0 1 f (sxFd "BadText.__init__" S_BadText cc cda kV doc pm an ct) ["self", "place"] (spErr C ["place"] onePl) := by
  have S : NScope ["self", "place", "__class__"] ["self", "place"] ["__class__"] (defScope S_BadText) := nscope_by (by decide +kernel)
  refine err1_ok T lk S ⟨⟨_, _, _, _, _, _, rfl, fun _ => rfl, fun _ => rfl, fun _ => rfl, fun _ => rfl⟩, rfl, ⟨_, rfl, rfl⟩⟩ no rfl rfl (fun _ => rfl) (fun A outer s H E => ⟨_, pa_cons (pe_joined (.cons pe_str (.cons (pe_fmt (pe_var (i := 1) rfl (.inl (S.par _ (by simp))))) .nil))) pa_nil, fun a v H Q hg q => ?_⟩)
  obtain ⟨n, e, hi⟩ := hg
  cases e
  have hi : ((n : Int)).natAbs < 10 ^ 20 := by omega
  have li : (Str.ofString (toString (n : Int))).length ≤ 21 := by
    rw [PySem.ofString_length]
    exact int_text_length_le10 (a := (n : Int)) (k := 20) (by decide) hi
  have big : (10 : Nat) ^ 20 < 2 ^ 1920 := by decide +kernel
  refine ⟨_, rfl, ?_, _, rfl, .inr ⟨(n : Int), rfl, PySem.Flt.log2_lt_of (by decide) (Nat.lt_trans hi big), _, rfl, ?_, q _⟩⟩
  all_goals
    simp only [PySem.Str.length_append]
    have a0 : PySem.Str.empty.length = 0 := rfl
    have a1 : ("no expression goes on at " : Str).length = 25 := by decide +kernel
    rw [PySem.sizeLine_eq]
    omega
end
section
variable {P : Program} {w : World} {K : PySem.W.Frag} {mg : Str → Option Value} {base : Heap} {f : Addr} {fd : FuncData} {C_Reader C_BadText : Addr}
abbrev S_Reader___init__ : Stmt := inClass (top 31) 0
abbrev N_Reader___init__ : List Str := ["self", "text", "place"]
abbrev P_Reader___init__ : List Str := ["self", "text", "place"]
theorem sc_Reader___init__ : FnScope N_Reader___init__ P_Reader___init__ (defScope S_Reader___init__) := ⟨rfl, rfl, rfl, by decide +kernel, rfl, by decide +kernel, by decide +kernel⟩
def spInitR (K : PySem.W.Frag) (C : Addr) : Sp := fun vs H Q _ => ∃ (x dx : Addr) (l : Chs) (p : Nat), vs = [.ref x, .str (txt l), .int (p : Int)] ∧ H x = some (.ins C dx []) ∧ p ≤ l.length ∧ l.length ≤ 1000000 ∧
  ∀ H' sl ql, (∀ a o, a ≠ x → H a = some o → H' a = some o) → (∀ a, H' a = none → H a = none) → H sl = none → H ql = none → RdO K C H' x sl ql l p 0 0 [] [] → Q .non H'
theorem ok_initR (R : ReK K C_Reader) (F : Fun K "__init__" "Reader.__init__" S_Reader___init__ f fd) : FnOk P w K mg base CX0 1 f fd P_Reader___init__ (spInitR K C_Reader) := by
  have nd := sc_Reader___init__.nd
  refine F.ok sc_Reader___init__ (fun vs H Q E h => ?_) (fun cdv A outer s H vs Q E hr h => ?_)
  · obtain ⟨x, dx, l, p, rfl, _⟩ := h
    rfl
  obtain ⟨x, dx, l, p, rfl, hx, hp, hl, q⟩ := h
  refine ⟨_, (pss_cons (ps_fld (pv 0) (pv 1) rfl)
    (pss_cons (ps_fld (pv 0) (pv 2) rfl)
    (pss_cons (ps_fld (pv 0) (pe_lst pa_nil) rfl)
    (pss_cons (ps_fld (pv 0) (pe_lst pa_nil) rfl)
    (pss_cons (ps_fld (pv 0) pe_int rfl)
    (pss_one (ps_fld (pv 0) pe_int rfl))))))), ?_⟩
  refine ⟨_, rfl, _, rfl, x, C_Reader, dx, [], rfl, hx, R.cl, R.text, by show 0 < 1000; decide, ?_⟩
  refine ⟨_, rfl, _, rfl, x, C_Reader, dx, _, rfl, upd_same, R.cl, R.place, by show 1 < 1000; decide, ?_⟩
  refine ⟨(by show 0 ≤ sizeLine; decide), fun sl nsl => ?_⟩
  have nx : x ≠ sl := by rintro rfl; rw [upd_same] at nsl; cases nsl
  refine ⟨_, rfl, x, C_Reader, dx, _, rfl, by rw [upd_ne nx]; exact upd_same, R.cl, R.steps, by show 2 < 1000; decide, ?_⟩
  refine ⟨(by show 0 ≤ sizeLine; decide), fun ql nql => ?_⟩
  have nx2 : x ≠ ql := by rintro rfl; rw [upd_same] at nql; cases nql
  have ns : sl ≠ ql := by rintro rfl; rw [upd_ne nx.symm, upd_same] at nql; cases nql
  refine ⟨_, rfl, x, C_Reader, dx, _, rfl, by rw [upd_ne nx2]; exact upd_same, R.cl, R.pend, by show 3 < 1000; decide, ?_⟩
  refine ⟨_, rfl, x, C_Reader, dx, _, rfl, upd_same, R.cl, R.lv, by show 4 < 1000; decide, ?_⟩
  refine ⟨_, rfl, x, C_Reader, dx, _, rfl, upd_same, R.cl, R.op, by show 5 < 1000; decide, ?_⟩
  have n1 : H sl = none := by rw [upd_ne nx.symm, upd_ne nx.symm] at nsl; exact nsl
  have n2 : H ql = none := by rw [upd_ne nx2.symm, upd_ne ns.symm, upd_ne nx2.symm, upd_ne nx2.symm] at nql; exact nql
  refine q _ sl ql (fun a o na ha => ?_) (fun a ha => ?_) n1 n2 ⟨⟨dx, upd_same⟩, ⟨[], ?_, .nil⟩, ⟨[], ?_, .nil⟩, ns, Nat.zero_le _, hp, hl⟩
  · have h1 : a ≠ sl := by rintro rfl; rw [n1] at ha; cases ha
    have h2 : a ≠ ql := by rintro rfl; rw [n2] at ha; cases ha
    rw [upd_ne na, upd_ne na, upd_ne na, upd_ne h2, upd_ne na, upd_ne h1, upd_ne na, upd_ne na]
    exact ha
  · by_cases na : a = x
    · subst na; rw [upd_same] at ha; cases ha
    by_cases h2 : a = ql
    · subst h2; exact n2
    by_cases h1 : a = sl
    · subst h1; exact n1
    rw [upd_ne na, upd_ne na, upd_ne na, upd_ne h2, upd_ne na, upd_ne h1, upd_ne na, upd_ne na] at ha
    exact ha
  · rw [upd_ne nx.symm, upd_ne nx.symm, upd_ne nx.symm, upd_ne ns, upd_ne nx.symm, upd_same]
  · rw [upd_ne nx2.symm, upd_ne nx2.symm, upd_ne nx2.symm, upd_same]
abbrev S_expression_at : Stmt := top 29
abbrev N_expression_at : List Str := ["text", "start", "signs", "reader"]
abbrev P_expression_at : List Str := ["text", "start", "signs"]
theorem sc_expression_at : FnScope N_expression_at P_expression_at (defScope S_expression_at) := ⟨rfl, rfl, rfl, by decide +kernel, rfl, by decide +kernel, by decide +kernel⟩
def spExp (K : PySem.W.Frag) (CB : Addr) : Sp := fun vs H Q E => ∃ (tg : Addr) (l : Chs) (p : Nat) (sgl : List Chs), vs = [.str (txt l), .int (p : Int), .ref tg] ∧ SqT K H tg (sgl.map fun c => V.str (txt c)) ∧ p ≤ l.length ∧ l.length ≤ 1000000 ∧ NumB l ∧
  (∀ q, runR sgl.contains true (lex (l.drop p) p) [] [] = .err q → BadE CB E H q) ∧
  (∀ S q, runR sgl.contains true (lex (l.drop p) p) [] [] = .ok S q → q ≤ l.length → ∀ (H' : Hp) (a sa : Addr) (vs : List V), Same H H' → SqT K H' a [.ref sa, .int (q : Int)] → H sa = none → H' sa = some (.lst vs) → Bes (StV K H') vs S → Q (.ref a) H')
theorem ok_expat (R : ReK K C_Reader) (F : Fun K "expression_at" "expression_at" S_expression_at f fd) (B : Blt mg) (MK_Reader : HasMk P w K mg base 1 "Reader" C_Reader P_Reader___init__ [] (spInitR K C_Reader))
    (ME_Reader_take_operand : HasMX P w K mg base 6 "take_operand" C_Reader P_Reader_take_operand (spOpd K C_Reader C_BadText)) (ME_Reader_take_operator : HasMX P w K mg base 6 "take_operator" C_Reader P_Reader_take_operator (spOpr K C_Reader C_BadText)) : FnOk P w K mg base (L2.CX P w) 7 f fd P_expression_at (spExp K C_BadText) := by
  have nd := sc_expression_at.nd
  have CL_Reader := R.cl
  refine F.okX sc_expression_at (fun vs H Q E h => ?_) (fun cdv A outer s H vs Q E hr h => ?_)
  · obtain ⟨tg, l, p, sgl, rfl, _⟩ := h
    rfl
  obtain ⟨tg, l, p, sgl, rfl, htg, hp, hl, nb, qe, q⟩ := h
  refine ⟨_, (pss_cons (ps_set (i := 3) nd rfl (Or.inl rfl) (pe_mk MK_Reader (hr.mono (by decide)) rfl (pa_cons (pv 0) (pa_cons (pv 1) pa_nil))))
    (pss_cons (ps_expr (pe_mx0 CL_Reader ME_Reader_take_operand (takes_of rfl rfl rfl rfl) (hr.mono (by decide)) (pv 3)))
    (pss_cons (ps_while (passes_of rfl) (pt_val (pe_mxA CL_Reader ME_Reader_take_operator (takes_of rfl rfl rfl rfl) (hr.mono (by decide)) (pv 3) (pa_cons (pv 2) pa_nil))) (pss_one (ps_expr (pe_mx0 CL_Reader ME_Reader_take_operand (takes_of rfl rfl rfl rfl) (hr.mono (by decide)) (pv 3)))))
    (pss_one (ps_ret (pe_tup (pa_cons (pe_fld (pv 3) rfl) (pa_cons (pe_fld (pv 3) rfl) pa_nil)))))))), ?_⟩
  refine ⟨_, rfl, _, rfl, fun x dx nx ndx ndxx => ?_⟩
  refine ⟨x, dx, l, p, rfl, upd_same, hp, hl, fun H1 sl ql k1 f1 nsl nql r1 => ⟨rfl, ?_⟩⟩
  have ns0 : ∀ a, (upd (upd H dx (.own x)) x (.ins C_Reader dx [])) a = none → H a = none := fun a h => by
    by_cases c : a = x
    · subst c; exact nx
    by_cases c2 : a = dx
    · subst c2; exact ndx
    rw [upd_ne c, upd_ne c2] at h
    exact h
  have same1 : Same H H1 := fun a o ha => by
    have c : a ≠ x := by rintro rfl; rw [nx] at ha; cases ha
    have c2 : a ≠ dx := by rintro rfl; rw [ndx] at ha; cases ha
    exact k1 a o c (by rw [upd_ne c, upd_ne c2]; exact ha)
  have same : ∀ {H2}, Mu x sl ql H1 H2 → Same H H2 := fun m a o ha => m.k a o (by rintro rfl; rw [nx] at ha; cases ha) (by rintro rfl; rw [ns0 _ nsl] at ha; cases ha) (by rintro rfl; rw [ns0 _ nql] at ha; cases ha) (same1 a o ha)
  generalize hR : runR sgl.contains true (lex (l.drop p) p) [] [] = Rz at qe q
  have be : ∀ q0, Rz = .err q0 → BadM C_BadText E x sl ql H1 q0 := fun q0 e H' a m ha => qe q0 e H' a (same m) ha
  have htg1 := (Nd.of same1).sqt htg
  obtain ⟨dx1, hx1⟩ := r1.i
  refine ⟨_, rfl, x, dx1, _, rfl, hx1, rfl, x, sl, ql, l, p, [], [], sgl.contains, Rz, rfl, r1, Nat.zero_le _, nb, hR, be, fun H2 p2 S2 P2 lt2 m2 r2 b2 e2 => ?_⟩
  refine ⟨fun k σ H' => ∃ p' S' P', k = l.length - p' ∧ σ = [some (.str (txt l)), some (.int (p : Int)), some (.ref tg), some (.ref x)] ∧ Mu x sl ql H1 H' ∧ RdO K C_Reader H' x sl ql l p' (lvl P') (opn P') S' P' ∧ S'.length + P'.length ≤ p' ∧ runR sgl.contains false (lex (l.drop p') p') S' P' = Rz, ⟨_, p2, S2, P2, rfl, rfl, m2, r2, b2, e2⟩, ?_⟩
  rintro k σ H' ⟨p', S', P', rfl, rfl, m, r, b, e⟩
  obtain ⟨dx', hx'⟩ := r.i
  have htg' := r1.tps m _ _ htg1
  refine ⟨_, rfl, x, dx', _, rfl, hx', rfl, _, rfl, x, sl, ql, tg, l, p', S', P', sgl, Rz, rfl, htg', r, b, e, ⟨fun q0 e => (be q0 e).from m, fun H3 p3 S3 P3 lt3 m3 r3 b3 e3 => ?_⟩, fun H3 S3 q3 P3 lv o m3 r3 e3 => ?_⟩
  · refine ⟨_, rfl, iteT ?_⟩
    refine ⟨fun σ H4 => ∃ p4 S4 P4, σ = [some (.str (txt l)), some (.int (p : Int)), some (.ref tg), some (.ref x)] ∧ Mu x sl ql H1 H4 ∧ RdO K C_Reader H4 x sl ql l p4 (lvl P4) (opn P4) S4 P4 ∧ S4.length + P4.length ≤ p4 ∧ runR sgl.contains false (lex (l.drop p4) p4) S4 P4 = Rz ∧ p' < p4, ?_, ?_⟩
    · rintro σ H4 ⟨p4, S4, P4, rfl, m4, r4, b4, e4, lt4⟩
      have := r4.lp
      exact ⟨_, show l.length - p4 < l.length - p' by omega, p4, S4, P4, rfl, rfl, m4, r4, b4, e4⟩
    · obtain ⟨dx3, hx3⟩ := r3.i
      exact ⟨_, rfl, x, dx3, _, rfl, hx3, rfl, x, sl, ql, l, p3, S3, P3, sgl.contains, Rz, rfl, r3, b3, nb, e3, fun q0 e => (be q0 e).from (m.trans m3), fun H4 p4 S4 P4 lt4 m4 r4 b4 e4 => ⟨p4, S4, P4, rfl, m.trans (m3.trans m4), r4, b4, e4, by omega⟩⟩
  · refine ⟨_, rfl, iteF ?_⟩
    obtain ⟨dx3, hx3⟩ := r3.i
    obtain ⟨us, g1, g2⟩ := r3.s
    refine ⟨_, rfl, x, C_Reader, dx3, _, _, rfl, hx3, R.cl, R.steps, rfl, _, rfl, x, C_Reader, dx3, _, _, rfl, hx3, R.cl, R.place, rfl, (by show 2 ≤ sizeLine; decide), fun t nt => ?_⟩
    have s4 := Same.new (o := .tup [.ref sl, .int (q3 : Int)]) nt
    exact q S3 q3 e3 r3.lp _ t sl us ((same (m.trans m3)).trans s4) (SqT.of upd_same) (ns0 _ nsl) (s4 _ _ g1) (g2.mono fun _ _ g => g.tps (same_tps s4))
abbrev S_steps_of : Stmt := top 28
abbrev N_steps_of : List Str := ["text", "steps", "_"]
abbrev P_steps_of : List Str := ["text"]
theorem sc_steps_of : FnScope N_steps_of P_steps_of (defScope S_steps_of) := ⟨rfl, rfl, rfl, by decide +kernel, rfl, by decide +kernel, by decide +kernel⟩
def spStepsOf (K : PySem.W.Frag) (CB : Addr) : Sp := fun vs H Q E => ∃ (l : Chs), vs = [.str (txt l)] ∧ l.length ≤ 1000000 ∧ NumB l ∧
  (∀ q, runR (fun _ => false) true (lex l 0) [] [] = .err q → BadE CB E H q) ∧
  (∀ S q, runR (fun _ => false) true (lex l 0) [] [] = .ok S q → ∀ (H' : Hp) (sa : Addr) (vs : List V), Same H H' → H sa = none → H' sa = some (.lst vs) → Bes (StV K H') vs S → Q (.ref sa) H')
theorem ok_stepsof (F : Fun K "steps_of" "steps_of" S_steps_of f fd) (B : Blt mg) (Cexpression_at : HasX P w K mg base 7 "expression_at" P_expression_at (spExp K C_BadText)) : FnOk P w K mg base (L2.CX P w) 8 f fd P_steps_of (spStepsOf K C_BadText) := by
  have nd := sc_steps_of.nd
  refine F.okX sc_steps_of (fun vs H Q E h => ?_) (fun cdv A outer s H vs Q E hr h => ?_)
  · obtain ⟨l, rfl, _⟩ := h
    rfl
  obtain ⟨l, rfl, hl, nb, qe, q⟩ := h
  refine ⟨_, (C8.pss_cut (ps_if (pt_not (pt_val (pe_callB (call_isiS K) (by rfl) B.isinstance (by decide +kernel) (pa_cons (pv 0) (pa_cons (pe_bltn (by rfl) B.str (by decide +kernel) (show RelV (.ty "str") (.type "str") from rfl)) pa_nil))))) (pss_one ps_never) pss_nil)
    (pss_cons (ps_asg (pe_HX Cexpression_at (takes_of rfl rfl rfl rfl) (hr.mono (by decide)) rfl (pa_cons (pv 0) (pa_cons pe_int (pa_cons (pe_tup pa_nil) pa_nil)))) (pg_tup rfl (pgs_cons (pg_name (i := 1) nd rfl (Or.inl rfl)) (pgs_cons (pg_name (i := 2) nd rfl (Or.inl rfl)) pgs_nil))))
    (pss_one (ps_ret (pv 1))))), ?_⟩
  refine ⟨fun σ H' => σ = [some (.str (txt l)), none, none] ∧ H' = H, ⟨_, rfl, _, rfl, _, rfl, iteF ⟨rfl, rfl⟩⟩, ?_⟩
  rintro σ H' ⟨rfl, rfl⟩
  refine ⟨_, rfl, (by show 0 ≤ sizeLine; decide), fun tg ntg => ?_⟩
  have s1 := Same.new (o := .tup []) ntg
  refine ⟨tg, l, 0, [], rfl, SqT.of upd_same, Nat.zero_le _, hl, nb, fun q0 e H2 a e2 ha => qe q0 e H2 a (s1.trans e2) ha, fun S q0 e _ H2 a sa vs e2 ha nsa hsa hb => ?_⟩
  refine ⟨a, _, rfl, ha, rfl, _, _, rfl, _, _, rfl, rfl, ?_⟩
  exact ⟨_, rfl, q S q0 e H2 sa vs (s1.trans e2) (by
    by_cases c : sa = tg
    · subst c; exact ntg
    · rw [upd_ne c] at nsa; exact nsa) hsa hb⟩
end
end Fb
namespace Fb
open PySem L2
/-! ### codes a step apart -/
def Cq (c : Int) : Prop := 0 ≤ c ∧ c < 2 ^ 799 ∧ ∀ p ∈ turnsN c, Pl (p : Int)
theorem Cq.of {c : Int} (h : Cd c) : Cq c := ⟨h.b.1, h.b.2, code_places h⟩
/-- the turns of x - 1 -/
theorem dec_turns {x : Int} {t : Nat} {rest : List Nat} (h : turnsN x = t :: rest) : ∀ p ∈ turnsN (x - 1), p = 0 ∨ p ∈ turnsN x ∨ p = t + 1 := by
  have asc := turns_asc x
  have val := turns_alt x
  rw [h] at asc val
  obtain ⟨a1, a2⟩ := List.pairwise_cons.mp asc
  have key : ∀ L : List Nat, L.Pairwise (· < ·) → alt (-1) L = x - 1 → (∀ p ∈ L, p = 0 ∨ p ∈ t :: rest ∨ p = t + 1) → ∀ p ∈ turnsN (x - 1), p = 0 ∨ p ∈ turnsN x ∨ p = t + 1 := fun L hL e hp => by
    rw [← e, turns_of_alt hL, h]
    exact hp
  have pp : ∀ n : Nat, (2 : Int) ^ (n + 1) = 2 * 2 ^ n := fun n => by rw [Int.pow_succ]; omega
  have two : ∀ r2, rest = (t + 1) :: r2 → ∀ p ∈ turnsN (x - 1), p = 0 ∨ p ∈ turnsN x ∨ p = t + 1 := fun r2 hr => by
    subst hr
    obtain ⟨b1, b2⟩ := List.pairwise_cons.mp a2
    have v : -1 * 2 ^ t + (- -1 * 2 ^ (t + 1) + alt (- - -1) r2) = x := val
    have v' : (2 : Int) ^ t + alt (-1) r2 = x := by
      rw [pp] at v
      have e3 : (- - -1 : Int) = -1 := by decide
      rw [e3] at v
      omega
    by_cases t0 : t = 0
    · subst t0
      refine key r2 b2 ?_ fun p hp => .inr (.inl (List.mem_cons_of_mem _ (List.mem_cons_of_mem _ hp)))
      have : (2 : Int) ^ 0 = 1 := rfl
      omega
    · refine key (0 :: t :: r2) ?_ ?_ fun p hp => ?_
      · refine List.pairwise_cons.mpr ⟨fun p hp => ?_, List.pairwise_cons.mpr ⟨fun p hp => a1 p (List.mem_cons_of_mem _ hp), b2⟩⟩
        rcases List.mem_cons.mp hp with rfl | hp
        · omega
        · have := a1 p (List.mem_cons_of_mem _ hp); omega
      · show -1 * 2 ^ 0 + (- -1 * 2 ^ t + alt (- - -1) r2) = _
        have e3 : (- - -1 : Int) = -1 := by decide
        have e0 : (2 : Int) ^ 0 = 1 := rfl
        rw [e3, e0]
        omega
      · rcases List.mem_cons.mp hp with rfl | hp
        · exact .inl rfl
        · rcases List.mem_cons.mp hp with rfl | hp
          · exact .inr (.inl List.mem_cons_self)
          · exact .inr (.inl (List.mem_cons_of_mem _ (List.mem_cons_of_mem _ hp)))
  have far : (∀ p ∈ rest, t + 1 < p) → ∀ p ∈ turnsN (x - 1), p = 0 ∨ p ∈ turnsN x ∨ p = t + 1 := fun hf => by
    have v : -1 * 2 ^ t + alt (- -1) rest = x := val
    have e2 : (- -1 : Int) = 1 := by decide
    rw [e2] at v
    by_cases t0 : t = 0
    · subst t0
      refine key (1 :: rest) (List.pairwise_cons.mpr ⟨fun p hp => hf p hp, a2⟩) ?_ fun p hp => ?_
      · show -1 * 2 ^ 1 + alt (- -1) rest = _
        have e0 : (2 : Int) ^ 0 = 1 := rfl
        have e1 : (2 : Int) ^ 1 = 2 := rfl
        rw [e2, e1]
        omega
      · rcases List.mem_cons.mp hp with rfl | hp
        · exact .inr (.inr rfl)
        · exact .inr (.inl (List.mem_cons_of_mem _ hp))
    · refine key (0 :: t :: (t + 1) :: rest) ?_ ?_ fun p hp => ?_
      · refine List.pairwise_cons.mpr ⟨fun p hp => ?_, List.pairwise_cons.mpr ⟨fun p hp => ?_, List.pairwise_cons.mpr ⟨hf, a2⟩⟩⟩
        · rcases List.mem_cons.mp hp with rfl | hp
          · omega
          · rcases List.mem_cons.mp hp with rfl | hp
            · omega
            · have := hf p hp; omega
        · rcases List.mem_cons.mp hp with rfl | hp
          · omega
          · have := hf p hp; omega
      · show -1 * 2 ^ 0 + (- -1 * 2 ^ t + (- - -1 * 2 ^ (t + 1) + alt (- - - -1) rest)) = _
        have e3 : (- - -1 : Int) = -1 := by decide
        have e4 : (- - - -1 : Int) = 1 := by decide
        have e0 : (2 : Int) ^ 0 = 1 := rfl
        rw [e4, e3, e0, pp]
        omega
      · rcases List.mem_cons.mp hp with rfl | hp
        · exact .inl rfl
        · rcases List.mem_cons.mp hp with rfl | hp
          · exact .inr (.inl List.mem_cons_self)
          · rcases List.mem_cons.mp hp with rfl | hp
            · exact .inr (.inr rfl)
            · exact .inr (.inl (List.mem_cons_of_mem _ hp))
  cases rest with
  | nil => exact far fun p hp => by cases hp
  | cons u r2 =>
    have := a1 u List.mem_cons_self
    by_cases e : u = t + 1
    · subst e; exact two r2 rfl
    · refine far fun p hp => ?_
      rcases List.mem_cons.mp hp with rfl | hp
      · omega
      · have := (List.pairwise_cons.mp a2).1 p hp; omega
theorem digit_turns60 {d : Int} (h0 : 0 ≤ d) (h1 : d < 2 ^ 60) : ∀ p ∈ turnsN d, p ≤ 60 := fun p hp =>
  turns_lt (x := d) (n := 60) (by omega) h1 p hp
theorem code_places60 {m : Nat} {c : Int} (h : CodeB m (2 ^ 60) c) : ∀ p ∈ turnsN c, p < 799 ∧ p % 200 ≤ 60 := by
  obtain ⟨d, rfl, h2, _⟩ := h
  have t0 := digit_turns60 (h2 0).1 (h2 0).2
  have t1 := digit_turns60 (h2 1).1 (h2 1).2
  have t2 := digit_turns60 (h2 2).1 (h2 2).2
  have t3 := digit_turns60 (h2 3).1 (h2 3).2
  have n3 : 0 ≤ d 2 + d 3 * 2 ^ 200 := by have := (h2 2).1; have := (h2 3).1; omega
  have n2 : 0 ≤ d 1 + (d 2 + d 3 * 2 ^ 200) * 2 ^ 200 := by have := (h2 1).1; omega
  have e : val4 d = d 0 + (d 1 + (d 2 + d 3 * 2 ^ 200) * 2 ^ 200) * 2 ^ 200 := by unfold val4; omega
  rw [e, turns_two (h2 0).1 n2 (fun p hp => by have := t0 p hp; omega), turns_two (h2 1).1 n3 (fun p hp => by have := t1 p hp; omega), turns_two (h2 2).1 (h2 3).1 (fun p hp => by have := t2 p hp; omega)]
  intro p hp
  simp only [List.mem_append, List.map_append, List.mem_map] at hp
  rcases hp with hp | ⟨q, hq, rfl⟩ | ⟨q, ⟨r, hr, rfl⟩ , rfl⟩ | ⟨q, ⟨r, ⟨u, hu, rfl⟩, rfl⟩, rfl⟩
  · have := t0 p hp; omega
  · have := t1 q hq; omega
  · have := t2 r hr; omega
  · have := t3 u hu; omega
theorem Cq.dec {c : Int} (h : Cd c) (h1 : 1 ≤ c) : Cq (c - 1) := by
  have b := h.b
  refine ⟨by omega, by generalize (2 : Int) ^ 799 = B at b ⊢; omega, ?_⟩
  cases ht : turnsN c with
  | nil =>
    have v := turns_alt c
    rw [ht] at v
    have : (0 : Int) = c := v
    omega
  | cons t rest =>
    have pl := code_places60 h
    intro p hp
    rcases dec_turns ht p hp with rfl | hp | rfl
    · exact ⟨by decide, by decide, by decide⟩
    · have := pl p hp
      exact ⟨by omega, by omega, by omega⟩
    · have := pl t (by rw [ht]; exact List.mem_cons_self)
      exact ⟨by omega, by omega, by omega⟩
theorem ordN_movedQ {fs : List PyData} (F : Fields fs) : OrdN 4 (movedD fs) Cq := by
  have o := ordN_place F
  have pl : ∀ c, Cq c → ∀ a ∈ zs (turnsN c), Pl a := fun c h a ha => by
    obtain ⟨p, hp, rfl⟩ := List.mem_map.mp ha
    exact h.2.2 p hp
  have le : ∀ c, Cq c → (zs (turnsN c)).length ≤ 9000 := fun c h => by
    rw [len_zs]
    have := len_turns h.1 h.2.1
    omega
  refine { fm := fun c h => ?_, ord := fun c c' h h' => ?_, pos := fun c h => h.1, near := fun c h h64 => small_moved F h.1 h64, far := fun c h h64 => ?_ }
  · rw [moved_row]
    exact row_fm o (pl c h) (zs_asc (turns_asc c)) (le c h)
  · show cmpD 4 (movedD fs c) (movedD fs c') = _
    rw [moved_row, moved_row, row_ord o (pl c h) (pl c' h') (zs_asc (turns_asc c)) (zs_asc (turns_asc c')) (le c h) (le c' h'), cmpS_turns]
  · obtain ⟨hm, _, k⟩ := moveds F 0
    have := (k c h.1 h.2.1).2.2
    by_cases e : isNear (movedD fs c) = true
    · have := this e; omega
    · exact Bool.eq_false_iff.mpr e
theorem sw_movedQ {fs : List PyData} (F : Fields fs) {c : Int} (h : Cq c) : Sw 4 1281621 (movedD fs c) := by
  rw [moved_row]
  have pl : ∀ a ∈ zs (turnsN c), Pl a := fun a ha => by
    obtain ⟨p, hp, rfl⟩ := List.mem_map.mp ha
    exact h.2.2 p hp
  have r := sw_row (m := 3) (b := 1600) (ordN_place F) pl (zs_asc (turns_asc c)) fun a ha => by
    have q := pl a ha
    have e : ((a.toNat : Nat) : Int) = a := by have := q.1; omega
    exact sw_place F (p := a.toNat) (by rw [e]; exact q)
  rw [len_zs] at r
  refine r.mono (Nat.le_refl _) ?_
  have lt := len_turns h.1 h.2.1
  have := Nat.mul_le_mul_right 1602 lt
  omega
end Fb
namespace Fb
open PySem L2
/-! ### the bits of an int -/
def Bt (p : Nat) (x : Int) : Int := x / 2 ^ p % 2
theorem bt_zero (x : Int) : Bt 0 x = x % 2 := by unfold Bt; rw [Int.pow_zero, Int.ediv_one]
theorem bt_succ (p : Nat) (x : Int) : Bt (p + 1) x = Bt p (x / 2) := by
  unfold Bt
  rw [Int.pow_succ, Int.mul_comm, ← Int.ediv_ediv_of_nonneg (by decide)]
theorem bt_01 (p : Nat) (x : Int) : Bt p x = 0 ∨ Bt p x = 1 := by unfold Bt; omega
theorem bt_ext_bd : ∀ (N : Nat) (x y : Int), -(2 ^ N) ≤ x → x < 2 ^ N → -(2 ^ N) ≤ y → y < 2 ^ N → (∀ p, Bt p x = Bt p y) → x = y
  | 0, x, y, h1, h2, h3, h4, h => by
    have := h 0
    rw [bt_zero, bt_zero] at this
    omega
  | N + 1, x, y, h1, h2, h3, h4, h => by
    have e := bt_ext_bd N (x / 2) (y / 2) (by rw [Int.pow_succ] at h1; omega) (by rw [Int.pow_succ] at h2; omega) (by rw [Int.pow_succ] at h3; omega) (by rw [Int.pow_succ] at h4; omega) fun p => by
      have := h (p + 1)
      rw [bt_succ, bt_succ] at this
      exact this
    have := h 0
    rw [bt_zero, bt_zero] at this
    omega
theorem lt_two_pow (n : Nat) : n < 2 ^ n := Nat.lt_two_pow_self
theorem bt_ext {x y : Int} (h : ∀ p, Bt p x = Bt p y) : x = y := by
  have b : ∀ (z : Int) (N : Nat), z.natAbs ≤ N → -(2 ^ N) ≤ z ∧ z < 2 ^ N := fun z N hz => by
    have e : ((2 ^ N : Nat) : Int) = 2 ^ N := Int.natCast_pow 2 N
    have := lt_two_pow N
    omega
  have bx := b x (x.natAbs + y.natAbs) (by omega)
  have by' := b y (x.natAbs + y.natAbs) (by omega)
  exact bt_ext_bd _ x y bx.1 bx.2 by'.1 by'.2 h
theorem bt_and : ∀ (p : Nat) (x y : Int), Bt p (Builtin.bitAnd x y) = Bt p x * Bt p y
  | 0, x, y => by
    rw [bt_zero, bt_zero, bt_zero, PySem.W.kbt_halves]
    rcases Int.emod_two_eq x with h | h <;> rcases Int.emod_two_eq y with k | k <;> rw [h, k] <;> simp <;> omega
  | p + 1, x, y => by
    rw [bt_succ, bt_succ, bt_succ, ← bt_and p]
    congr 1
    rw [PySem.W.kbt_halves]
    split <;> omega
theorem bt_not : ∀ (p : Nat) (x : Int), Bt p (-x - 1) = 1 - Bt p x
  | 0, x => by rw [bt_zero, bt_zero]; omega
  | p + 1, x => by
    rw [bt_succ, bt_succ, ← bt_not p]
    congr 1
    omega
/-- carries -/
def maj (a b c : Int) : Int := (a + b + c) / 2
def cr (x y k : Int) : Nat → Int
  | 0 => k
  | p + 1 => maj (Bt p x) (Bt p y) (cr x y k p)
theorem cr_01 {x y k : Int} (hk : k = 0 ∨ k = 1) : ∀ p, cr x y k p = 0 ∨ cr x y k p = 1
  | 0 => hk
  | p + 1 => by
    have := cr_01 (x := x) (y := y) hk p
    have := bt_01 p x
    have := bt_01 p y
    show maj _ _ _ = 0 ∨ maj _ _ _ = 1
    unfold maj
    omega
theorem cr_shift (x y k : Int) : ∀ p, cr x y k (p + 1) = cr (x / 2) (y / 2) (maj (x % 2) (y % 2) k) p
  | 0 => by show maj (Bt 0 x) (Bt 0 y) k = _; rw [bt_zero, bt_zero]; rfl
  | p + 1 => by
    show maj (Bt (p + 1) x) (Bt (p + 1) y) (cr x y k (p + 1)) = _
    rw [cr_shift x y k p, bt_succ, bt_succ]
    rfl
theorem bt_add : ∀ (p : Nat) (x y k : Int), (k = 0 ∨ k = 1) → Bt p (x + y + k) = (Bt p x + Bt p y + cr x y k p) % 2
  | 0, x, y, k, hk => by
    rw [bt_zero, bt_zero, bt_zero]
    show _ = (x % 2 + y % 2 + k) % 2
    omega
  | p + 1, x, y, k, hk => by
    have e : (x + y + k) / 2 = x / 2 + y / 2 + maj (x % 2) (y % 2) k := by unfold maj; omega
    rw [bt_succ, e, bt_add p _ _ _ (by unfold maj; omega), ← cr_shift, bt_succ, bt_succ]
/-! ### the bits told by turns -/
theorem alt_mul (k : Nat) : ∀ (l : List Nat) (s : Int), (∀ n ∈ l, k ≤ n) → ∃ q, alt s l = 2 ^ k * q
  | [], s, _ => ⟨0, by rw [Int.mul_zero]; rfl⟩
  | n :: l, s, h => by
    obtain ⟨q, hq⟩ := alt_mul k l (-s) fun m hm => h m (List.mem_cons_of_mem _ hm)
    have hn := h n List.mem_cons_self
    refine ⟨s * 2 ^ (n - k) + q, ?_⟩
    show s * 2 ^ n + alt (-s) l = _
    rw [hq, Int.mul_add]
    congr 1
    rw [← Int.mul_assoc, Int.mul_comm (2 ^ k) s, Int.mul_assoc, ← Int.pow_add]
    congr 2
    omega
theorem alt_neg : ∀ (l : List Nat) (s : Int), alt (-s) l = -alt s l
  | [], s => rfl
  | n :: l, s => by
    show -s * 2 ^ n + alt (- -s) l = -(s * 2 ^ n + alt (-s) l)
    rw [alt_neg l (-s)]
    rw [Int.neg_mul, Int.neg_add]
def cnt (l : List Int) (c : Int) : Nat := (l.filter fun t => decide (t ≤ c)).length
def clt (l : List Int) (c : Int) : Nat := (l.filter fun t => decide (t < c)).length
theorem bt_alt (p : Nat) : ∀ l : List Nat, l.Pairwise (· < ·) → Bt p (alt (-1) l) = ((l.filter fun t => decide (t ≤ p)).length % 2 : Nat)
  | [], _ => by show Bt p 0 = 0; unfold Bt; rw [Int.zero_ediv]; rfl
  | n :: l, hp => by
    obtain ⟨h1, h2⟩ := List.pairwise_cons.mp hp
    obtain ⟨q, hq⟩ := alt_mul (n + 1) l (-1) fun m hm => h1 m hm
    have ih := bt_alt p l h2
    have e : alt (-1) (n :: l) = -(2 ^ n * (2 * q + 1)) := by
      show -1 * 2 ^ n + alt (- -1) l = _
      rw [alt_neg l (-1), hq, Int.pow_succ, Int.mul_add, ← Int.mul_assoc]
      omega
    by_cases hn : n ≤ p
    · rw [List.filter_cons_of_pos (by simp [hn]), List.length_cons]
      have k1 : Bt p (alt (-1) (n :: l)) = 1 - Bt p (alt (-1) l) := by
        rw [← bt_not, e, hq]
        unfold Bt
        obtain ⟨d, rfl⟩ : ∃ d, p = n + d := ⟨p - n, by omega⟩
        have p2 : (0 : Int) < 2 ^ n := Int.pow_pos (by decide)
        have k2 : (-(2 ^ n * (2 * q + 1))) / 2 ^ n = -(2 * q + 1) := by
          rw [← Int.mul_neg]
          exact Int.mul_ediv_cancel_left _ (Int.ne_of_gt p2)
        have k3 : (-(2 ^ (n + 1) * q) - 1) / 2 ^ n = -(2 * q + 1) := by
          have : -(2 ^ (n + 1) * q) - 1 = (2 ^ n - 1) + 2 ^ n * (-(2 * q + 1)) := by
            rw [Int.pow_succ, Int.mul_assoc]
            generalize (2 : Int) ^ n = N
            rw [Int.mul_neg, Int.mul_add, Int.mul_one]
            omega
          rw [this, Int.add_mul_ediv_left _ _ (Int.ne_of_gt p2), Int.ediv_eq_zero_of_lt (by omega) (by omega), Int.zero_add]
        rw [Int.pow_add, ← Int.ediv_ediv_of_nonneg (Int.le_of_lt p2), k2, ← Int.ediv_ediv_of_nonneg (Int.le_of_lt p2), k3]
      rw [k1, ih]
      omega
    · have none : l.filter (fun t => decide (t ≤ p)) = [] := List.filter_eq_nil_iff.mpr fun t ht => by
        have := h1 t ht
        simp only [decide_eq_true_eq]
        omega
      rw [List.filter_cons_of_neg (by simp [hn]), none]
      rw [e]
      unfold Bt
      obtain ⟨d, hd⟩ : ∃ d, n = p + 1 + d := ⟨n - p - 1, by omega⟩
      have : -(2 ^ n * (2 * q + 1)) = 2 ^ p * (2 * (2 ^ d * -(2 * q + 1))) := by
        rw [hd, Int.pow_add, Int.pow_add, ← Int.mul_neg, Int.mul_assoc, Int.mul_assoc]
        rfl
      rw [this, Int.mul_ediv_cancel_left _ (Int.ne_of_gt (Int.pow_pos (by decide)))]
      simp
/-- the turns of an int, as places -/
def Tl (x : Int) : List Int := zs (turnsN x)
theorem tl_asc (x : Int) : (Tl x).Pairwise (· < ·) := zs_asc (turns_asc x)
theorem tl_pos (x : Int) : ∀ c ∈ Tl x, 0 ≤ c := zs_pos
theorem cnt_zs (l : List Nat) (p : Nat) : cnt (zs l) (p : Int) = (l.filter fun t => decide (t ≤ p)).length := by
  unfold cnt zs
  rw [List.filter_map, List.length_map]
  congr 1
  refine List.filter_congr fun t _ => ?_
  show decide (((t : Nat) : Int) ≤ (p : Int)) = decide (t ≤ p)
  exact decide_eq_decide.mpr (by omega)
theorem bt_tl (p : Nat) (x : Int) : Bt p x = ((cnt (Tl x) (p : Int)) % 2 : Nat) := by
  unfold Tl
  rw [cnt_zs, ← bt_alt p _ (turns_asc x), turns_alt]
/-- a list of places that tells the bits of x is that of its turns -/
theorem tl_of {l : List Int} {x : Int} (asc : l.Pairwise (· < ·)) (pos : ∀ c ∈ l, 0 ≤ c) (h : ∀ p : Nat, (((cnt l (p : Int)) % 2 : Nat) : Int) = Bt p x) : l = Tl x := by
  have a2 := asc_toNat pos asc
  have e : alt (-1) (l.map Int.toNat) = x := bt_ext fun p => by
    rw [bt_alt p _ a2, ← h p, ← cnt_zs, zs_toNat pos]
  have : turnsN x = l.map Int.toNat := by rw [← e, turns_of_alt a2]
  unfold Tl
  rw [this, zs_toNat pos]
/-! ### counts -/
theorem cnt_app (l m : List Int) (c : Int) : cnt (l ++ m) c = cnt l c + cnt m c := by unfold cnt; rw [List.filter_append, List.length_append]
theorem cnt_nil (c : Int) : cnt [] c = 0 := rfl
theorem cnt_cons (a : Int) (l : List Int) (c : Int) : cnt (a :: l) c = (if a ≤ c then 1 else 0) + cnt l c := by
  unfold cnt
  by_cases h : a ≤ c
  · rw [List.filter_cons_of_pos (by simp [h]), if_pos h, List.length_cons]; omega
  · rw [List.filter_cons_of_neg (by simp [h]), if_neg h]; omega
theorem cnt_zero {l : List Int} {c : Int} (h : ∀ t ∈ l, c < t) : cnt l c = 0 := by
  unfold cnt
  rw [List.filter_eq_nil_iff.mpr fun t ht => by have := h t ht; simp only [decide_eq_true_eq]; omega]
  rfl
theorem cnt_all {l : List Int} {c : Int} (h : ∀ t ∈ l, t ≤ c) : cnt l c = l.length := by
  unfold cnt
  rw [List.filter_eq_self.mpr fun t ht => by simp [h t ht]]
end Fb
namespace Fb
open PySem L2
theorem clt_cons (a : Int) (l : List Int) (c : Int) : clt (a :: l) c = (if a < c then 1 else 0) + clt l c := by
  unfold clt
  by_cases h : a < c
  · rw [List.filter_cons_of_pos (by simp [h]), if_pos h, List.length_cons]; omega
  · rw [List.filter_cons_of_neg (by simp [h]), if_neg h]; omega
theorem clt_zero {l : List Int} {c : Int} (h : ∀ t ∈ l, c ≤ t) : clt l c = 0 := by
  unfold clt
  rw [List.filter_eq_nil_iff.mpr fun t ht => by have := h t ht; simp only [decide_eq_true_eq]; omega]
  rfl
theorem clt_le (l : List Int) (c : Int) : clt l c ≤ l.length := List.length_filter_le _ _
theorem cnt_le (l : List Int) (c : Int) : cnt l c ≤ l.length := List.length_filter_le _ _
/-- an ascending list around a -/
theorem split3 (a : Int) : ∀ {B : List Int}, B.Pairwise (· < ·) → B = B.take (clt B a) ++ ((if a ∈ B then [a] else []) ++ B.drop (cnt B a)) ∧ (∀ t ∈ B.take (clt B a), t < a) ∧ (∀ t ∈ B.drop (cnt B a), a < t) ∧ cnt B a = clt B a + (if a ∈ B then 1 else 0)
  | [], _ => ⟨rfl, (fun _ h => by cases h), (fun _ h => by cases h), rfl⟩
  | b :: B, hp => by
    obtain ⟨h1, h2⟩ := List.pairwise_cons.mp hp
    obtain ⟨i1, i2, i3, i4⟩ := split3 a h2
    rcases Int.lt_trichotomy b a with h | h | h
    · have m : (a ∈ b :: B) ↔ a ∈ B := by rw [List.mem_cons]; constructor <;> intro k <;> first | (rcases k with k | k <;> first | omega | exact k) | exact .inr k
      rw [clt_cons, cnt_cons, if_pos h, if_pos (show b ≤ a by omega), Nat.add_comm 1, Nat.add_comm 1, List.take_succ_cons, List.drop_succ_cons]
      simp only [m]
      refine ⟨?_, fun t ht => ?_, i3, by omega⟩
      · show b :: B = b :: (B.take _ ++ _)
        rw [← i1]
      · rcases List.mem_cons.mp ht with rfl | ht
        · exact h
        · exact i2 t ht
    · subst h
      have z1 : clt B b = 0 := clt_zero fun t ht => by have := h1 t ht; omega
      have z2 : cnt B b = 0 := cnt_zero h1
      rw [clt_cons, cnt_cons, if_neg (Int.lt_irrefl _), if_pos (Int.le_refl _), z1, z2]
      simp only [List.mem_cons, true_or, if_true]
      exact ⟨rfl, (fun t ht => by cases ht), h1, by first | trivial | rfl⟩
    · have m : a ∉ b :: B := fun k => by
        rcases List.mem_cons.mp k with k | k
        · omega
        · have := h1 a k; omega
      have z1 : clt (b :: B) a = 0 := clt_zero fun t ht => by
        rcases List.mem_cons.mp ht with rfl | ht
        · omega
        · have := h1 t ht; omega
      have z2 : cnt (b :: B) a = 0 := cnt_zero fun t ht => by
        rcases List.mem_cons.mp ht with rfl | ht
        · exact h
        · have := h1 t ht; omega
      rw [z1, z2, if_neg m]
      refine ⟨rfl, (fun t ht => by cases ht), fun t ht => ?_, by rw [if_neg m]⟩
      rcases List.mem_cons.mp ht with rfl | ht
      · exact h
      · have := h1 t ht; omega
/-! ### merged lists -/
def mrg : List Int → List Int → List Int
  | [], B => B
  | a :: A, B => B.take (clt B a) ++ ((if a ∈ B then [] else [a]) ++ mrg A (B.drop (cnt B a)))
theorem mrg_mem : ∀ {A B : List Int} {t : Int}, t ∈ mrg A B → t ∈ A ∨ t ∈ B
  | [], B, t, h => .inr h
  | a :: A, B, t, h => by
    rcases List.mem_append.mp h with h | h
    · exact .inr (List.mem_of_mem_take h)
    · rcases List.mem_append.mp h with h | h
      · split at h
        · cases h
        · exact .inl (List.mem_cons.mpr (.inl (List.mem_singleton.mp h)))
      · rcases mrg_mem h with h | h
        · exact .inl (List.mem_cons_of_mem _ h)
        · exact .inr (List.mem_of_mem_drop h)
theorem mrg_ok : ∀ {A B : List Int}, A.Pairwise (· < ·) → B.Pairwise (· < ·) → (mrg A B).Pairwise (· < ·) ∧ ∀ c, cnt (mrg A B) c % 2 = (cnt A c + cnt B c) % 2
  | [], B, _, hB => ⟨hB, fun c => by rw [cnt_nil, Nat.zero_add]; rfl⟩
  | a :: A, B, hA, hB => by
    obtain ⟨h1, h2⟩ := List.pairwise_cons.mp hA
    obtain ⟨s1, s2, s3, s4⟩ := split3 a hB
    obtain ⟨i1, i2⟩ := mrg_ok h2 (hB.sublist (List.drop_sublist (cnt B a) B))
    have up : ∀ t ∈ mrg A (B.drop (cnt B a)), a < t := fun t ht => (mrg_mem ht).elim (h1 t) (s3 t)
    have hB' := hB
    rw [s1] at hB'
    obtain ⟨p1, p2, p3⟩ := List.pairwise_append.mp hB'
    constructor
    · refine List.pairwise_append.mpr ⟨p1, List.pairwise_append.mpr ⟨?_, i1, fun x hx y hy => ?_⟩, fun x hx y hy => ?_⟩
      · split <;> simp
      · split at hx
        · cases hx
        · rw [List.mem_singleton.mp hx]; exact up y hy
      · have := s2 x hx
        rcases List.mem_append.mp hy with hy | hy
        · split at hy
          · cases hy
          · rw [List.mem_singleton.mp hy]; exact this
        · have := up y hy; omega
    · intro c
      have e := congrArg (fun l => cnt l c) s1
      simp only [cnt_app] at e
      show cnt (B.take (clt B a) ++ ((if a ∈ B then [] else [a]) ++ mrg A (B.drop (cnt B a)))) c % 2 = _
      rw [cnt_app, cnt_app, cnt_cons]
      have := i2 c
      by_cases m : a ∈ B
      · rw [if_pos m] at e ⊢
        rw [cnt_cons, cnt_nil] at e
        rw [cnt_nil]
        split at e <;> rename_i q <;> simp only [q, if_true, if_false] <;> omega
      · rw [if_neg m] at e ⊢
        rw [cnt_nil] at e
        rw [cnt_cons, cnt_nil]
        split <;> omega
theorem bxor_halves (x y : Int) : Builtin.bitXor x y = 2 * Builtin.bitXor (x / 2) (y / 2) + (x % 2 + y % 2) % 2 := by
  rw [PyProof.Rows.bitXor_and, PyProof.Rows.bitXor_and, PySem.W.kbt_halves]
  split <;> omega
theorem bt_xor : ∀ (p : Nat) (x y : Int), Bt p (Builtin.bitXor x y) = (Bt p x + Bt p y) % 2
  | 0, x, y => by rw [bt_zero, bt_zero, bt_zero, bxor_halves]; omega
  | p + 1, x, y => by
    rw [bt_succ, bt_succ, bt_succ, ← bt_xor p]
    congr 1
    rw [bxor_halves]
    omega
theorem mrg_tl (x y : Int) : mrg (Tl x) (Tl y) = Tl (Builtin.bitXor x y) := by
  obtain ⟨a, b⟩ := mrg_ok (tl_asc x) (tl_asc y)
  refine tl_of a (fun c hc => (mrg_mem hc).elim (tl_pos x c) (tl_pos y c)) fun p => ?_
  have := b p
  rw [bt_xor, bt_tl, bt_tl]
  omega
theorem bxor_comm (x y : Int) : Builtin.bitXor x y = Builtin.bitXor y x := by rw [PyProof.Rows.bitXor_and, PyProof.Rows.bitXor_and, PyProof.Rows.bitAnd_comm]; omega
/-! ### common ones -/
def com (B : List Int) : List Int → List Int
  | [] => []
  | [u] => (if cnt B u % 2 = 1 then [u] else []) ++ B.drop (cnt B u)
  | u :: v :: A => (if cnt B u % 2 = 1 then [u] else []) ++ ((B.take (clt B v)).drop (cnt B u) ++ ((if clt B v % 2 = 1 then [v] else []) ++ com B A))
theorem cnt_take_lt {B : List Int} (hB : B.Pairwise (· < ·)) {v c : Int} (h : c < v) : cnt (B.take (clt B v)) c = cnt B c := by
  obtain ⟨s1, s2, s3, s4⟩ := split3 v hB
  have e := congrArg (fun l => cnt l c) s1
  simp only [cnt_app] at e
  rw [cnt_zero (l := B.drop _) fun t ht => by have := s3 t ht; omega] at e
  by_cases m : v ∈ B
  · rw [if_pos m, cnt_cons, if_neg (by omega), cnt_nil] at e; omega
  · rw [if_neg m, cnt_nil] at e; omega
theorem take_cnt_le {u : Int} : ∀ {B : List Int}, B.Pairwise (· < ·) → ∀ t ∈ B.take (cnt B u), t ≤ u
  | [], _, t, ht => by cases ht
  | b :: B, hp, t, ht => by
    obtain ⟨h1, h2⟩ := List.pairwise_cons.mp hp
    by_cases h : b ≤ u
    · rw [cnt_cons, if_pos h, Nat.add_comm, List.take_succ_cons] at ht
      rcases List.mem_cons.mp ht with rfl | ht
      · exact h
      · exact take_cnt_le h2 t ht
    · rw [cnt_zero fun t ht => by
        rcases List.mem_cons.mp ht with rfl | ht
        · omega
        · have := h1 t ht; omega] at ht
      cases ht
theorem drop_cnt {B : List Int} (hB : B.Pairwise (· < ·)) {u c : Int} (h : u ≤ c) : cnt (B.drop (cnt B u)) c = cnt B c - cnt B u ∧ cnt B u ≤ cnt B c := by
  have e := congrArg (fun l => cnt l c) (List.take_append_drop (cnt B u) B)
  simp only [cnt_app] at e
  have k : cnt (B.take (cnt B u)) c = cnt B u := by
    rw [cnt_all fun t ht => by have := take_cnt_le hB t ht; omega, List.length_take]
    have := cnt_le B u; omega
  omega
theorem cnt_clt {B : List Int} (hB : B.Pairwise (· < ·)) {u v : Int} (h : u < v) : cnt B u ≤ clt B v := by
  have e := cnt_take_lt hB h
  have := cnt_le (B.take (clt B v)) u
  rw [List.length_take] at this
  omega
theorem clt_cnt {B : List Int} (hB : B.Pairwise (· < ·)) {u v : Int} (h : u < v) : ∀ t ∈ (B.take (clt B v)).drop (cnt B u), u < t ∧ t < v := by
  intro t ht
  refine ⟨?_, (split3 v hB).2.1 t (List.mem_of_mem_drop ht)⟩
  have : (B.take (clt B v)).drop (cnt B u) = (B.drop (cnt B u)).take (clt B v - cnt B u) := by rw [List.drop_take]
  rw [this] at ht
  exact (split3 u hB).2.2.1 t (List.mem_of_mem_take ht)
theorem cnt_mid {B : List Int} (hB : B.Pairwise (· < ·)) {u v c : Int} (h : u < v) (hu : u ≤ c) (hv : c < v) : cnt ((B.take (clt B v)).drop (cnt B u)) c = cnt B c - cnt B u := by
  have e := congrArg (fun l => cnt l c) (List.take_append_drop (cnt B u) (B.take (clt B v)))
  simp only [cnt_app] at e
  rw [cnt_take_lt hB hv, List.take_take, Nat.min_eq_left (cnt_clt hB h), cnt_all fun t ht => by have := take_cnt_le hB t ht; omega, List.length_take] at e
  have := cnt_le B u
  omega
theorem com_ok {B : List Int} (hB : B.Pairwise (· < ·)) : ∀ {A : List Int}, A.Pairwise (· < ·) → (com B A).Pairwise (· < ·) ∧ (∀ t ∈ com B A, (t ∈ A ∨ t ∈ B) ∧ ∃ u, A.head? = some u ∧ u ≤ t) ∧ ∀ c, cnt (com B A) c % 2 = (cnt A c % 2) * (cnt B c % 2)
  | [], _ => ⟨.nil, (fun t h => by cases h), fun c => by rw [cnt_nil, Nat.zero_mod, Nat.zero_mul]; rfl⟩
  | [u], _ => by
    obtain ⟨s1, s2, s3, s4⟩ := split3 u hB
    refine ⟨List.pairwise_append.mpr ⟨by split <;> simp, hB.sublist (List.drop_sublist _ _), fun x hx y hy => ?_⟩, fun t ht => ?_, fun c => ?_⟩
    · split at hx
      · rw [List.mem_singleton.mp hx]; exact s3 y hy
      · cases hx
    · rcases List.mem_append.mp ht with h | h
      · split at h
        · rw [List.mem_singleton.mp h]; exact ⟨.inl List.mem_cons_self, u, rfl, Int.le_refl _⟩
        · cases h
      · exact ⟨.inr (List.mem_of_mem_drop h), u, rfl, by have := s3 t h; omega⟩
    · show cnt ((if cnt B u % 2 = 1 then [u] else []) ++ B.drop (cnt B u)) c % 2 = _
      rw [cnt_app, cnt_cons, cnt_nil]
      by_cases h : u ≤ c
      · obtain ⟨d1, d2⟩ := drop_cnt hB h
        rw [d1, if_pos h]
        have r : (1 + 0) % 2 * (cnt B c % 2) = cnt B c % 2 := by rw [Nat.one_mul]
        rw [r]
        split
        · rw [cnt_cons, cnt_nil, if_pos h]; omega
        · rw [cnt_nil]; omega
      · rw [if_neg h, cnt_zero (l := B.drop _) fun t ht => by have := s3 t ht; omega, Nat.zero_mod, Nat.zero_mul]
        split
        · rw [cnt_cons, cnt_nil, if_neg h]
        · rw [cnt_nil]
  | u :: v :: A, hA => by
    obtain ⟨h1, h2⟩ := List.pairwise_cons.mp hA
    obtain ⟨h3, h4⟩ := List.pairwise_cons.mp h2
    have huv : u < v := h1 v List.mem_cons_self
    obtain ⟨i1, i2, i3⟩ := com_ok hB h4
    have mid := clt_cnt hB huv
    have up : ∀ t ∈ com B A, v < t := fun t ht => by
      obtain ⟨_, w, hw, hwt⟩ := i2 t ht
      have : w ∈ A := List.mem_of_mem_head? hw
      have := h3 w this
      omega
    refine ⟨List.pairwise_append.mpr ⟨by split <;> simp, List.pairwise_append.mpr ⟨(hB.sublist (List.take_sublist _ _)).sublist (List.drop_sublist _ _), List.pairwise_append.mpr ⟨by split <;> simp, i1, fun x hx y hy => ?_⟩, fun x hx y hy => ?_⟩, fun x hx y hy => ?_⟩, fun t ht => ?_, fun c => ?_⟩
    · split at hx
      · rw [List.mem_singleton.mp hx]; exact up y hy
      · cases hx
    · have := mid x hx
      rcases List.mem_append.mp hy with hy | hy
      · split at hy
        · rw [List.mem_singleton.mp hy]; omega
        · cases hy
      · have := up y hy; omega
    · split at hx
      · rw [List.mem_singleton.mp hx]
        rcases List.mem_append.mp hy with hy | hy
        · exact (mid y hy).1
        · rcases List.mem_append.mp hy with hy | hy
          · split at hy
            · rw [List.mem_singleton.mp hy]; exact huv
            · cases hy
          · have := up y hy; omega
      · cases hx
    · refine ⟨?_, u, rfl, ?_⟩
      all_goals
        rcases List.mem_append.mp ht with h | h
        · split at h
          · have := List.mem_singleton.mp h
            first | (subst this; exact .inl List.mem_cons_self) | omega
          · cases h
        · rcases List.mem_append.mp h with h | h
          · have := mid t h
            first | exact .inr (List.mem_of_mem_take (List.mem_of_mem_drop h)) | omega
          · rcases List.mem_append.mp h with h | h
            · split at h
              · have := List.mem_singleton.mp h
                first | (subst this; exact .inl (List.mem_cons_of_mem _ List.mem_cons_self)) | omega
              · cases h
            · have q := up t h
              first | exact (i2 t h).1.imp (fun k => List.mem_cons_of_mem _ (List.mem_cons_of_mem _ k)) id | omega
    · show cnt ((if cnt B u % 2 = 1 then [u] else []) ++ ((B.take (clt B v)).drop (cnt B u) ++ ((if clt B v % 2 = 1 then [v] else []) ++ com B A))) c % 2 = _
      rw [cnt_app, cnt_app, cnt_app, cnt_cons, cnt_cons]
      have ih := i3 c
      rcases Int.lt_or_le c u with hu | hu
      · rw [cnt_zero (l := (B.take _).drop _) fun t ht => by have := mid t ht; omega, cnt_zero (l := com B A) fun t ht => by have := up t ht; omega, cnt_zero (l := A) fun t ht => by have := h3 t ht; omega, if_neg (show ¬ u ≤ c by omega), if_neg (show ¬ v ≤ c by omega)]
        have z1 : cnt (if cnt B u % 2 = 1 then [u] else []) c = 0 := by split <;> simp [cnt_cons, cnt_nil] <;> omega
        have z2 : cnt (if clt B v % 2 = 1 then [v] else []) c = 0 := by split <;> simp [cnt_cons, cnt_nil] <;> omega
        rw [z1, z2]
        simp
      · have z1 : cnt (if cnt B u % 2 = 1 then [u] else []) c = cnt B u % 2 := by
          split
          · rw [cnt_cons, cnt_nil, if_pos hu]; omega
          · rw [cnt_nil]; omega
        rcases Int.lt_or_le c v with hv | hv
        · obtain ⟨_, d2⟩ := drop_cnt hB hu
          rw [cnt_mid hB huv hu hv, cnt_zero (l := com B A) fun t ht => by have := up t ht; omega, cnt_zero (l := A) fun t ht => by have := h3 t ht; omega, if_pos hu, if_neg (show ¬ v ≤ c by omega), z1]
          have z2 : cnt (if clt B v % 2 = 1 then [v] else []) c = 0 := by split <;> simp [cnt_cons, cnt_nil] <;> omega
          rw [z2]
          have r : (1 + (0 + 0)) % 2 * (cnt B c % 2) = cnt B c % 2 := by rw [Nat.one_mul]
          rw [r]
          omega
        · have z2 : cnt (if clt B v % 2 = 1 then [v] else []) c = clt B v % 2 := by
            split
            · rw [cnt_cons, cnt_nil, if_pos hv]; omega
            · rw [cnt_nil]; omega
          have m : cnt ((B.take (clt B v)).drop (cnt B u)) c = clt B v - cnt B u := by
            rw [cnt_all fun t ht => by have := mid t ht; omega, List.length_drop, List.length_take]
            have := clt_le B v; omega
          have := cnt_clt hB huv
          rw [z1, z2, m, if_pos hu, if_pos hv]
          have r : (1 + (1 + cnt A c)) % 2 = cnt A c % 2 := by omega
          rw [r, ← ih]
          omega
theorem com_tl (x y : Int) : com (Tl y) (Tl x) = Tl (Builtin.bitAnd x y) := by
  obtain ⟨a, b, c⟩ := com_ok (tl_asc y) (tl_asc x)
  refine tl_of a (fun t ht => (b t ht).1.elim (tl_pos x t) (tl_pos y t)) fun p => ?_
  rw [c p, bt_and, bt_tl, bt_tl]
  rw [Int.natCast_mul]
end Fb
/-! ### linear parts: whole numbers, bits, sums with a weight for each row -/
namespace Fb
open PySem L2
inductive Pt
  | whole (z : Int)
  | bits (b : Int)
  | sum (ws : List Int)
def wtsIn : Pt → Nat → List Int
  | .whole z, m => List.replicate m (-z)
  | .bits b, m => (List.range m).map fun r => Bt r b
  | .sum ws, _ => ws
def intAh (s : Chs) (z : Int) : Int := if s = [45] then -z else if s = [126] then -z - 1 else z
def pAhead (s : Chs) (p : Pt) (m : Nat) : Pt := match p with
  | .whole z => .whole (intAh s z)
  | .bits b => if s = [126] then .bits (-b - 1) else if s = [45] then .sum ((wtsIn (.bits b) m).map fun w => -w) else .sum (wtsIn (.bits b) m)
  | .sum ws => if s = [45] then .sum (ws.map fun w => -w) else if s = [126] then .sum (ws.map fun w => 1 - w) else .sum ws
def withB (s : Chs) (x y : Int) : Int := if s = [38] then Builtin.bitAnd x y else if s = [124] then Builtin.bitOr x y else Builtin.bitXor x y
def isSide : Pt → Option Int
  | .bits b => some b
  | .whole z => if z = 0 ∨ z = -1 then some z else none
  | .sum _ => none
def pJoin (s : Chs) (l r : Pt) : Option Pt := match l, r with
  | .whole x, .whole y => some (.whole (withB s x y))
  | l, r => match isSide l, isSide r with
    | some x, some y => some (.bits (withB s x y))
    | _, _ => none
def pScale (p : Pt) (f : Int) (m : Nat) : Pt := match p with
  | .whole z => .whole (z * f)
  | p => .sum ((wtsIn p m).map fun w => w * f)
def pSum (s : Chs) (l r : Pt) (m : Nat) : Pt := match l, r with
  | .whole x, .whole y => .whole (x + (if s = [45] then -1 else 1) * y)
  | l, r => .sum ((List.range m).map fun i => (wtsIn l m).getD i 0 + (if s = [45] then -1 else 1) * (wtsIn r m).getD i 0)
def pBetw (s : Chs) (l r : Pt) (m : Nat) : Option Pt :=
  if s = [38] ∨ s = [124] ∨ s = [94] then pJoin s l r
  else if s = [60, 60] then (match r with
    | .whole z => if 0 ≤ z ∧ z ≤ 64 then some (pScale l (2 ^ z.toNat) m) else none
    | _ => none)
  else if s = [42] then (match r, l with
    | .whole z, l => some (pScale l z m)
    | r, .whole z => some (pScale r z m)
    | _, _ => none)
  else if s = [43] ∨ s = [45] then some (pSum s l r m)
  else none
/-- all ints are of a length that can be written -/
def PB (m : Nat) (p : Pt) : Prop := (∀ w ∈ wtsIn p m, w.natAbs < 2 ^ 200000) ∧ (wtsIn p m).length = m ∧ match p with
  | .whole z => z.natAbs < 2 ^ 200000
  | _ => True
/-- typed steps -/
inductive Ts
  | num (z : Int) (p : Nat)
  | nam (s : Chs) (p : Nat)
  | ah (s : Chs) (p : Nat)
  | bt (s : Chs) (p : Nat)
def Ts.stp : Ts → Stp
  | .num z p => ⟨kNUMBER, .int z, p⟩
  | .nam s p => ⟨kNAME, .str (txt s), p⟩
  | .ah s p => ⟨kAHEAD, .str (txt s), p⟩
  | .bt s p => ⟨kBETWEEN, .str (txt s), p⟩
inductive Wr
  | err (p : Nat)
  | ok (ps : List Pt)
  | bad
/-- one step on the parts, the last one first -/
def stepW (m : Nat) (tm : Chs → Option Int) : Ts → List Pt → Wr
  | .num z _, ps => .ok (.whole z :: ps)
  | .nam s _, ps => match tm s with
    | some b => .ok (.bits b :: ps)
    | none => .bad
  | .ah s _, p :: ps => .ok (pAhead s p m :: ps)
  | .bt s pl, r :: l :: ps => match pBetw s l r m with
    | some p => .ok (p :: ps)
    | none => .err pl
  | _, _ => .bad
def runW (m : Nat) (tm : Chs → Option Int) : List Ts → List Pt → Wr
  | [], ps => .ok ps
  | t :: ts, ps => match stepW m tm t ps with
    | .ok ps' => runW m tm ts ps'
    | .err p => .err p
    | .bad => .bad
/-- all parts on the way are of a length that can be written -/
def okW (m : Nat) (tm : Chs → Option Int) : List Ts → List Pt → Prop
  | [], _ => True
  | t :: ts, ps => match stepW m tm t ps with
    | .ok ps' => (∀ p ∈ ps', PB m p) ∧ okW m tm ts ps'
    | _ => True
theorem runW_cons (m : Nat) (tm : Chs → Option Int) (t : Ts) (ts : List Ts) (ps : List Pt) : runW m tm (t :: ts) ps = match stepW m tm t ps with
    | .ok ps' => runW m tm ts ps'
    | .err p => .err p
    | .bad => .bad := rfl
theorem okW_cons (m : Nat) (tm : Chs → Option Int) (t : Ts) (ts : List Ts) (ps : List Pt) : okW m tm (t :: ts) ps = match stepW m tm t ps with
    | .ok ps' => (∀ p ∈ ps', PB m p) ∧ okW m tm ts ps'
    | _ => True := rfl
theorem runW_app (m : Nat) (tm : Chs → Option Int) : ∀ (a b : List Ts) (ps qs : List Pt), runW m tm a ps = .ok qs → runW m tm (a ++ b) ps = runW m tm b qs
  | [], b, ps, qs, h => by
    have : Wr.ok ps = .ok qs := h
    injection this with this
    rw [this]
    rfl
  | t :: a, b, ps, qs, h => by
    rw [List.cons_append]
    rw [runW_cons] at h ⊢
    cases e : stepW m tm t ps with
    | ok ps' =>
      rw [e] at h
      exact runW_app m tm a b ps' qs h
    | err p => rw [e] at h; cases h
    | bad => rw [e] at h; cases h
theorem okW_app (m : Nat) (tm : Chs → Option Int) : ∀ (a b : List Ts) (ps qs : List Pt), runW m tm a ps = .ok qs → okW m tm a ps → okW m tm b qs → okW m tm (a ++ b) ps
  | [], b, ps, qs, h, _, h2 => by
    have : Wr.ok ps = .ok qs := h
    injection this with this
    rw [this]
    exact h2
  | t :: a, b, ps, qs, h, h1, h2 => by
    rw [List.cons_append]
    rw [runW_cons] at h
    rw [okW_cons] at h1 ⊢
    cases e : stepW m tm t ps with
    | ok ps' =>
      rw [e] at h h1
      exact ⟨h1.1, okW_app m tm a b ps' qs h h1.2 h2⟩
    | err p => trivial
    | bad => trivial
end Fb
namespace Fb
open PySem L2 NdefX
/-- a part as an object; tp is the list of parts -/
inductive PtV (K : PySem.W.Frag) (H : Hp) (tp : Addr → Prop) : V → Pt → Prop
  | whole {a : Addr} {z : Int} : SqT K H a [.str "whole", .int z] → PtV K H tp (.ref a) (.whole z)
  | bits {a : Addr} {b : Int} : SqT K H a [.str "bits", .int b] → PtV K H tp (.ref a) (.bits b)
  | sum {a s : Addr} {ws : List Int} : SqT K H a [.str "sum", .ref s] → H s = some (.lst (ws.map V.int)) → ¬ tp s → PtV K H tp (.ref a) (.sum ws)
theorem PtV.same {K : PySem.W.Frag} {H H' : Hp} {tp : Addr → Prop} {v : V} {p : Pt} (h : PtV K H tp v p) (e : Same H H') : PtV K H' tp v p := by
  cases h with
  | whole a => exact .whole ((Nd.of e).sqt a)
  | bits a => exact .bits ((Nd.of e).sqt a)
  | sum a b c => exact .sum ((Nd.of e).sqt a) (e _ _ b) c
def Pt.kd : Pt → Str
  | .whole _ => "whole"
  | .bits _ => "bits"
  | .sum _ => "sum"
/-- what stands behind the kind -/
def PtW (H : Hp) (tp : Addr → Prop) (v : V) : Pt → Prop
  | .whole z => v = .int z
  | .bits b => v = .int b
  | .sum ws => ∃ s, v = .ref s ∧ H s = some (.lst (ws.map V.int)) ∧ ¬ tp s
theorem PtV.open_ {K : PySem.W.Frag} {H : Hp} {tp : Addr → Prop} {v : V} {p : Pt} (h : PtV K H tp v p) : ∃ a u, v = .ref a ∧ SqT K H a [.str p.kd, u] ∧ PtW H tp u p := by
  cases h with
  | whole a => exact ⟨_, _, rfl, a, rfl⟩
  | bits a => exact ⟨_, _, rfl, a, rfl⟩
  | sum a b c => exact ⟨_, _, rfl, a, _, rfl, b, c⟩
structure LinG (mg : Str → Option Value) : Prop where
  w : ∃ t, mg "WHOLE" = some (.str "whole" t)
  b : ∃ t, mg "BITS" = some (.str "bits" t)
  s : ∃ t, mg "SUM" = some (.str "sum" t)
  m : ∃ t, mg "MOST_SHIFT" = some (.int 64 t)
theorem kd_w (p : Pt) : decide (V.str p.kd = V.str "whole") = match p with | .whole _ => true | _ => false := by
  cases p with
  | whole _ => show decide (V.str "whole" = V.str "whole") = true; decide +kernel
  | bits _ => show decide (V.str "bits" = V.str "whole") = false; decide +kernel
  | sum _ => show decide (V.str "sum" = V.str "whole") = false; decide +kernel
theorem kd_b (p : Pt) : decide (V.str p.kd = V.str "bits") = match p with | .bits _ => true | _ => false := by
  cases p with
  | whole _ => show decide (V.str "whole" = V.str "bits") = false; decide +kernel
  | bits _ => show decide (V.str "bits" = V.str "bits") = true; decide +kernel
  | sum _ => show decide (V.str "sum" = V.str "bits") = false; decide +kernel
section
variable {P : Program} {w : World} {K : PySem.W.Frag} {mg : Str → Option Value} {base : Heap} {f : Addr} {fd : FuncData}
abbrev S_weights_in : Stmt := top 39
abbrev N_weights_in : List Str := ["part", "many", "kind", "worth", "_", "row"]
abbrev P_weights_in : List Str := ["part", "many"]
theorem sc_weights_in : FnScope N_weights_in P_weights_in (defScope S_weights_in) := ⟨rfl, rfl, rfl, by decide +kernel, rfl, by decide +kernel, by decide +kernel⟩
def spWin (K : PySem.W.Frag) : Sp := fun vs H Q _ => ∃ (v : V) (p : Pt) (m : Nat) (tp : Addr → Prop), vs = [v, .int (m : Int)] ∧ PtV K H tp v p ∧ m ≤ 100 ∧ (∀ c, tp c → H c ≠ none) ∧ ∀ (s : Addr) (H' : Hp), Same H H' → H' s = some (.lst ((wtsIn p m).map V.int)) → ¬ tp s → Q (.ref s) H'
theorem ok_win (L : LinG mg) (F : Fun K "weights_in" "weights_in" S_weights_in f fd) (B : Blt mg) : FnOk P w K mg base CX0 1 f fd P_weights_in (spWin K) := by
  have nd := sc_weights_in.nd
  obtain ⟨_, MG_WHOLE⟩ := L.w
  obtain ⟨_, MG_BITS⟩ := L.b
  refine F.ok sc_weights_in (fun vs H Q E h => ?_) (fun cdv A outer s H vs Q E hr h => ?_)
  · obtain ⟨v, p, m, tp, rfl, _⟩ := h
    rfl
  obtain ⟨v, p, m, tp, rfl, hp, hm, ht, q⟩ := h
  refine ⟨_, (pss_cons (ps_asg (pv 0) (pg_tup rfl (pgs_cons (pg_name (i := 2) nd rfl (Or.inl rfl)) (pgs_cons (pg_name (i := 3) nd rfl (Or.inr rfl)) pgs_nil))))
    (pss_cons (ps_if (pt_cmpR op_eq (pv 2) (pe_glob (v := .str "whole") rfl MG_WHOLE ⟨_, rfl⟩) (nomark _)) (pss_one (ps_ret (pe_lc (own := [("_", 4)]) (g := gName 4) (tt := tYes) rfl nd (pi_range1 (by rfl) B.range (pa_cons (pv 1) pa_nil)) (blkOk_by (own := [("_", 4)]) (N := N_weights_in) (sc := defScope S_weights_in) (by decide +kernel)) (fun _ _ _ _ _ => pg_name (i := 4) nd rfl (Or.inl rfl)) (fun _ _ _ _ _ => pts_nil) (fun _ _ _ _ _ => (pe_un un_neg (pv 3)))))) pss_nil)
    (pss_cons (ps_if (pt_cmpR op_eq (pv 2) (pe_glob (v := .str "bits") rfl MG_BITS ⟨_, rfl⟩) (nomark _)) (pss_one (ps_ret (pe_lc (own := [("row", 5)]) (g := gName 5) (tt := tYes) rfl nd (pi_range1 (by rfl) B.range (pa_cons (pv 1) pa_nil)) (blkOk_by (own := [("row", 5)]) (N := N_weights_in) (sc := defScope S_weights_in) (by decide +kernel)) (fun _ _ _ _ _ => pg_name (i := 5) nd rfl (Or.inl rfl)) (fun _ _ _ _ _ => pts_nil) (fun _ _ _ _ _ => (pe_op op_and (pe_op op_shr (pv 3) (pv 5)) pe_int))))) pss_nil)
    (pss_one (ps_ret (pv 3)))))), ?_⟩
  obtain ⟨a, u, rfl, hs, hu⟩ := hp.open_
  have fresh : ∀ s, H s = none → ¬ tp s := fun s h c => ht s c h
  refine ⟨_, rfl, a, _, rfl, hs, rfl, _, _, rfl, _, _, rfl, rfl, ?_⟩
  refine ⟨_, rfl, rfl, _, rfl, ?_⟩
  rw [kd_w]
  cases p with
  | whole z =>
    obtain rfl : u = .int z := hu
    refine iteT ?_
    refine ⟨_, rfl, _, rfl, (by omega), (by omega), fun D nD => ?_⟩
    refine lc_range (lo := 0) (n := m) (fun i H' => Same H H' ∧ H' D = some (.lst ((List.replicate i (-z)).map V.int))) ⟨Same.new nD, upd_same⟩ (fun i H' hi h => ?_) (fun H3 h => ?_)
    · obtain ⟨e, hD⟩ := h
      refine ⟨rfl, lcT ?_⟩
      refine ⟨_, rfl, _, rfl, _, hD, ?_, Same.mut e nD, ?_⟩
      · rw [List.length_map, List.length_replicate]
        exact Nat.lt_of_lt_of_le (show i < 3000 by omega) (by decide)
      · rw [upd_same, List.replicate_succ', List.map_append]
        rfl
    · obtain ⟨e, hD⟩ := h
      exact q D H3 e hD (fresh D nD)
  | bits b =>
    obtain rfl : u = .int b := hu
    refine iteF ?_
    refine ⟨_, rfl, rfl, _, rfl, ?_⟩
    rw [kd_b]
    refine iteT ?_
    refine ⟨_, rfl, _, rfl, (by omega), (by omega), fun D nD => ?_⟩
    refine lc_range (lo := 0) (n := m) (fun i H' => Same H H' ∧ H' D = some (.lst (((List.range i).map fun r => Bt r b).map V.int))) ⟨Same.new nD, upd_same⟩ (fun i H' hi h => ?_) (fun H3 h => ?_)
    · obtain ⟨e, hD⟩ := h
      refine ⟨rfl, lcT ?_⟩
      refine ⟨_, rfl, _, rfl, _, _, rfl, rfl, (by omega), _, _, rfl, rfl, _, hD, ?_, Same.mut e nD, ?_⟩
      · rw [List.length_map, List.length_map, List.length_range]
        exact Nat.lt_of_lt_of_le (show i < 3000 by omega) (by decide)
      · have eb : Builtin.bitAnd (b / 2 ^ ((0 : Int) + (i : Int)).toNat) 1 = Bt i b := by rw [PyProof.Rows.bitAnd_m1, Int.zero_add]; rfl
        rw [upd_same, List.range_succ, List.map_append, List.map_append]
        show some (HO.lst (_ ++ [V.int (Builtin.bitAnd (b / 2 ^ ((0 : Int) + (i : Int)).toNat) 1)])) = _
        rw [eb]
        rfl
    · obtain ⟨e, hD⟩ := h
      exact q D H3 e hD (fresh D nD)
  | sum ws =>
    obtain ⟨s', rfl, h1, h2⟩ := hu
    refine iteF ?_
    refine ⟨_, rfl, rfl, _, rfl, ?_⟩
    rw [kd_b]
    refine iteF ?_
    exact ⟨_, rfl, q s' H (Same.refl H) h1 h2⟩
abbrev S_int_ahead : Stmt := top 41
abbrev N_int_ahead : List Str := ["sign", "value"]
abbrev P_int_ahead : List Str := ["sign", "value"]
theorem sc_int_ahead : FnScope N_int_ahead P_int_ahead (defScope S_int_ahead) := ⟨rfl, rfl, rfl, by decide +kernel, rfl, by decide +kernel, by decide +kernel⟩
def spIntAh : Sp := fun vs H Q _ => ∃ (s : Chs) (z : Int), vs = [.str (txt s), .int z] ∧ Q (.int (intAh s z)) H
theorem str_minus : ("-" : Str) = txt [45] := by decide +kernel
theorem str_tilde : ("~" : Str) = txt [126] := by decide +kernel
theorem ok_intah (F : Fun K "int_ahead" "int_ahead" S_int_ahead f fd) : FnOk P w K mg base CX0 1 f fd P_int_ahead spIntAh := by
  have nd := sc_int_ahead.nd
  refine F.ok sc_int_ahead (fun vs H Q E h => ?_) (fun cdv A outer s H vs Q E hr h => ?_)
  · obtain ⟨s, z, rfl, _⟩ := h
    rfl
  obtain ⟨s, z, rfl, q⟩ := h
  refine ⟨_, (pss_cons (ps_if (pt_cmpR op_eq (pv 0) pe_str (nomark _)) (pss_one (ps_ret (pe_un un_neg (pv 1)))) pss_nil)
    (pss_one (ps_ret (pe_ifExp (pt_cmpR op_eq (pv 0) pe_str (nomark _)) (pe_un un_inv (pv 1)) (pv 1))))), ?_⟩
  unfold intAh at q
  refine ⟨_, rfl, rfl, _, rfl, ?_⟩
  rw [eq_txt str_minus]
  refine iteD (fun c => ?_) (fun c => ?_)
  · rw [if_pos c] at q
    exact ⟨_, rfl, _, rfl, q⟩
  · rw [if_neg c] at q
    refine ⟨_, rfl, rfl, _, rfl, ?_⟩
    rw [eq_txt str_tilde]
    refine iteD (fun c => ?_) (fun c => ?_)
    · rw [if_pos c] at q
      exact ⟨_, rfl, _, rfl, q⟩
    · rw [if_neg c] at q
      exact ⟨_, rfl, q⟩
end
end Fb
namespace Fb
open PySem L2 NdefX
theorem PtV.ofW {K : PySem.W.Frag} {H : Hp} {tp : Addr → Prop} {a s : Addr} {ws : List Int} (h : H a = some (.tup [.str "sum", .ref s])) (g : H s = some (.lst (ws.map V.int))) (n : ¬ tp s) : PtV K H tp (.ref a) (.sum ws) := .sum (SqT.of h) g n
theorem pAhead_sum (s : Chs) (p : Pt) (m : Nat) (h : ∀ z, p ≠ .whole z) (h2 : ∀ b, p = .bits b → s ≠ [126]) : pAhead s p m = .sum (if s = [45] then (wtsIn p m).map fun w => -w else if s = [126] then (wtsIn p m).map fun w => 1 - w else wtsIn p m) := by
  cases p with
  | whole z => exact absurd rfl (h z)
  | bits b =>
    have := h2 b rfl
    show (if s = [126] then Pt.bits (-b - 1) else if s = [45] then .sum ((wtsIn (.bits b) m).map fun w => -w) else .sum (wtsIn (.bits b) m)) = _
    rw [if_neg this]
    by_cases c : s = [45]
    · rw [if_pos c, if_pos c]
    · rw [if_neg c, if_neg c, if_neg this]
  | sum ws =>
    show (if s = [45] then Pt.sum (ws.map fun w => -w) else if s = [126] then .sum (ws.map fun w => 1 - w) else .sum ws) = _
    by_cases c : s = [45]
    · rw [if_pos c, if_pos c]; rfl
    · rw [if_neg c, if_neg c]
      by_cases c : s = [126]
      · rw [if_pos c, if_pos c]; rfl
      · rw [if_neg c, if_neg c]; rfl
section
variable {P : Program} {w : World} {K : PySem.W.Frag} {mg : Str → Option Value} {base : Heap} {f : Addr} {fd : FuncData}
abbrev S_part_ahead : Stmt := top 40
abbrev N_part_ahead : List Str := ["sign", "part", "many", "kind", "worth", "weights", "weight"]
abbrev P_part_ahead : List Str := ["sign", "part", "many"]
theorem sc_part_ahead : FnScope N_part_ahead P_part_ahead (defScope S_part_ahead) := ⟨rfl, rfl, rfl, by decide +kernel, rfl, by decide +kernel, by decide +kernel⟩
def spAh (K : PySem.W.Frag) : Sp := fun vs H Q _ => ∃ (s : Chs) (v : V) (p : Pt) (m : Nat) (tp : Addr → Prop), vs = [.str (txt s), v, .int (m : Int)] ∧ PtV K H tp v p ∧ m ≤ 100 ∧ (wtsIn p m).length = m ∧ (∀ c, tp c → H c ≠ none) ∧ ∀ (v' : V) (H' : Hp), Same H H' → PtV K H' tp v' (pAhead s p m) → Q v' H'
theorem ok_partah (L : LinG mg) (F : Fun K "part_ahead" "part_ahead" S_part_ahead f fd) (B : Blt mg) (Cint_ahead : Has P w K mg base 1 "int_ahead" P_int_ahead [] spIntAh) (Cweights_in : Has P w K mg base 1 "weights_in" P_weights_in [] (spWin K)) : FnOk P w K mg base CX0 2 f fd P_part_ahead (spAh K) := by
  have nd := sc_part_ahead.nd
  obtain ⟨_, MG_WHOLE⟩ := L.w
  obtain ⟨_, MG_BITS⟩ := L.b
  obtain ⟨_, MG_SUM⟩ := L.s
  refine F.ok sc_part_ahead (fun vs H Q E h => ?_) (fun cdv A outer s H vs Q E hr h => ?_)
  · obtain ⟨s, v, p, m, tp, rfl, _⟩ := h
    rfl
  obtain ⟨s, v, p, m, tp, rfl, hp, hm, lw, ht, q⟩ := h
  refine ⟨_, (pss_cons (ps_asg (pv 1) (pg_tup rfl (pgs_cons (pg_name (i := 3) nd rfl (Or.inl rfl)) (pgs_cons (pg_name (i := 4) nd rfl (Or.inl rfl)) pgs_nil))))
    (C8.pss_cut (ps_if (PW.pt (pw_or (pt_cmpR op_eq (pv 3) (pe_glob (v := .str "whole") rfl MG_WHOLE ⟨_, rfl⟩) (nomark _)) (pw_or1 (PW.pt (pw_and (pt_cmpR op_eq (pv 3) (pe_glob (v := .str "bits") rfl MG_BITS ⟨_, rfl⟩) (nomark _)) (pw_and1 (pt_cmpR op_eq (pv 0) pe_str (nomark _)))))))) (pss_one (ps_ret (pe_tup (pa_cons (pv 3) (pa_cons (pe_H Cint_ahead (hr.mono (by decide)) rfl (pa_cons (pv 0) (pa_cons (pv 4) pa_nil))) pa_nil))))) pss_nil)
    (pss_cons (ps_set (i := 5) nd rfl (Or.inl rfl) (pe_H Cweights_in (hr.mono (by decide)) rfl (pa_cons (pv 1) (pa_cons (pv 2) pa_nil))))
    (pss_cons (ps_if (pt_cmpR op_eq (pv 0) pe_str (nomark _)) (pss_one (ps_ret (pe_tup (pa_cons (pe_glob (v := .str "sum") rfl MG_SUM ⟨_, rfl⟩) (pa_cons (pe_lc (own := [("weight", 6)]) (g := gName 6) (tt := tYes) rfl nd (pi_list (pv 5)) (blkOk_by (own := [("weight", 6)]) (N := N_part_ahead) (sc := defScope S_part_ahead) (by decide +kernel)) (fun _ _ _ _ _ => pg_name (i := 6) nd rfl (Or.inl rfl)) (fun _ _ _ _ _ => pts_nil) (fun _ _ _ _ _ => (pe_un un_neg (pv 6)))) pa_nil))))) pss_nil)
    (pss_cons (ps_if (pt_cmpR op_eq (pv 0) pe_str (nomark _)) (pss_one (ps_ret (pe_tup (pa_cons (pe_glob (v := .str "sum") rfl MG_SUM ⟨_, rfl⟩) (pa_cons (pe_lc (own := [("weight", 6)]) (g := gName 6) (tt := tYes) rfl nd (pi_list (pv 5)) (blkOk_by (own := [("weight", 6)]) (N := N_part_ahead) (sc := defScope S_part_ahead) (by decide +kernel)) (fun _ _ _ _ _ => pg_name (i := 6) nd rfl (Or.inl rfl)) (fun _ _ _ _ _ => pts_nil) (fun _ _ _ _ _ => (pe_op op_sub pe_int (pv 6)))) pa_nil))))) pss_nil)
    (pss_one (ps_ret (pe_tup (pa_cons (pe_glob (v := .str "sum") rfl MG_SUM ⟨_, rfl⟩) (pa_cons (pv 5) pa_nil)))))))))), ?_⟩
  obtain ⟨a, u, rfl, hs, hu⟩ := hp.open_
  have fresh : ∀ s, H s = none → ¬ tp s := fun s h c => ht s c h
  refine ⟨_, rfl, a, _, rfl, hs, rfl, _, _, rfl, _, _, rfl, rfl, ?_⟩
  refine ⟨fun σ H' => σ = [some (.str (txt s)), some (.ref a), some (.int (m : Int)), some (.str p.kd), some u, none, none] ∧ H' = H ∧ (∀ z, p ≠ .whole z) ∧ ∀ b, p = .bits b → s ≠ [126], ?_, ?_⟩
  · refine ⟨_, rfl, rfl, _, rfl, ?_⟩
    rw [kd_w]
    cases p with
    | whole z =>
      obtain rfl : u = .int z := hu
      refine iteT (iteT ?_)
      refine ⟨_, rfl, _, rfl, _, rfl, s, z, rfl, (by show 2 ≤ sizeLine; decide), fun t nt => ?_⟩
      exact q _ _ (Same.new nt) (.whole (SqT.of upd_same))
    | bits b =>
      obtain rfl : u = .int b := hu
      refine iteF ?_
      refine ⟨_, rfl, rfl, _, rfl, ?_⟩
      rw [kd_b]
      refine iteT ?_
      refine ⟨_, rfl, rfl, _, rfl, ?_⟩
      rw [eq_txt str_tilde]
      refine iteD (fun c => ?_) (fun c => ⟨rfl, rfl, (fun z h => by cases h), fun _ _ => c⟩)
      refine ⟨_, rfl, _, rfl, _, rfl, s, b, rfl, (by show 2 ≤ sizeLine; decide), fun t nt => ?_⟩
      refine q _ _ (Same.new nt) ?_
      have e1 : pAhead s (.bits b) m = .bits (-b - 1) := if_pos c
      have e2 : intAh s b = -b - 1 := by
        unfold intAh
        rw [if_neg (by rw [c]; decide), if_pos c]
      rw [e1, ← e2]
      exact .bits (SqT.of upd_same)
    | sum ws =>
      refine iteF ?_
      refine ⟨_, rfl, rfl, _, rfl, ?_⟩
      rw [kd_b]
      refine iteF (iteF ⟨rfl, rfl, (fun z h => by cases h), fun b h => by cases h⟩)
  · rintro σ H' ⟨rfl, rfl, nw, nb⟩
    have ep := pAhead_sum s p m nw nb
    refine ⟨_, rfl, _, rfl, .ref a, p, m, tp, rfl, hp, hm, ht, fun ls H1 e1 h1 n1 => ?_⟩
    have fr1 : ∀ s, H1 s = none → ¬ tp s := fun s h => fresh s (e1.free h)
    refine ⟨_, rfl, rfl, _, rfl, ?_⟩
    rw [eq_txt str_minus]
    refine iteD (fun c => ?_) (fun c => ?_)
    · rw [if_pos c] at ep
      refine ⟨_, rfl, ls, rfl, ⟨_, SqL.of h1⟩, fun D nD => ?_⟩
      refine lc_list (xs := (wtsIn p m).map V.int) (fun i H' => Same H1 H' ∧ H' D = some (.lst ((((wtsIn p m).take i).map (fun w => -w)).map V.int))) ⟨Same.new nD, upd_same⟩ (fun i H' _ h => SqL.of (h.1 _ _ h1)) (fun i x H' hx h => ?_) (fun H3 h => ?_)
      · obtain ⟨e, hD⟩ := h
        rw [List.getElem?_map] at hx
        obtain ⟨c, hc, rfl⟩ := Option.map_eq_some_iff.mp hx
        have et : (wtsIn p m).take (i + 1) = (wtsIn p m).take i ++ [c] := by rw [List.take_add_one, hc]; rfl
        have cm : c ∈ wtsIn p m := List.mem_of_getElem? hc
        refine ⟨rfl, lcT ?_⟩
        refine ⟨_, rfl, _, rfl, _, hD, ?_, Same.mut e nD, ?_⟩
        · rw [List.length_map, List.length_map, List.length_take]
          exact Nat.lt_of_lt_of_le (show _ < 3000 by omega) (by decide)
        · rw [upd_same, et, List.map_append, List.map_append]
          rfl
      · obtain ⟨e, hD⟩ := h
        rw [List.length_map, List.take_length] at hD
        refine ⟨(by show 2 ≤ sizeLine; decide), fun t nt => ?_⟩
        have s4 := Same.new (o := .tup [.str "sum", .ref D]) nt
        refine q _ _ (e1.trans (e.trans s4)) ?_
        rw [ep]
        exact .ofW upd_same (s4 _ _ hD) (fr1 D nD)
    rw [if_neg c] at ep
    refine ⟨_, rfl, rfl, _, rfl, ?_⟩
    rw [eq_txt str_tilde]
    refine iteD (fun c => ?_) (fun c => ?_)
    · rw [if_pos c] at ep
      refine ⟨_, rfl, ls, rfl, ⟨_, SqL.of h1⟩, fun D nD => ?_⟩
      refine lc_list (xs := (wtsIn p m).map V.int) (fun i H' => Same H1 H' ∧ H' D = some (.lst ((((wtsIn p m).take i).map (fun w => 1 - w)).map V.int))) ⟨Same.new nD, upd_same⟩ (fun i H' _ h => SqL.of (h.1 _ _ h1)) (fun i x H' hx h => ?_) (fun H3 h => ?_)
      · obtain ⟨e, hD⟩ := h
        rw [List.getElem?_map] at hx
        obtain ⟨c, hc, rfl⟩ := Option.map_eq_some_iff.mp hx
        have et : (wtsIn p m).take (i + 1) = (wtsIn p m).take i ++ [c] := by rw [List.take_add_one, hc]; rfl
        have cm : c ∈ wtsIn p m := List.mem_of_getElem? hc
        refine ⟨rfl, lcT ?_⟩
        refine ⟨_, rfl, _, _, rfl, rfl, _, hD, ?_, Same.mut e nD, ?_⟩
        · rw [List.length_map, List.length_map, List.length_take]
          exact Nat.lt_of_lt_of_le (show _ < 3000 by omega) (by decide)
        · rw [upd_same, et, List.map_append, List.map_append]
          rfl
      · obtain ⟨e, hD⟩ := h
        rw [List.length_map, List.take_length] at hD
        refine ⟨(by show 2 ≤ sizeLine; decide), fun t nt => ?_⟩
        have s4 := Same.new (o := .tup [.str "sum", .ref D]) nt
        refine q _ _ (e1.trans (e.trans s4)) ?_
        rw [ep]
        exact .ofW upd_same (s4 _ _ hD) (fr1 D nD)
    · rw [if_neg c] at ep
      refine ⟨_, rfl, (by show 2 ≤ sizeLine; decide), fun t nt => ?_⟩
      have s4 := Same.new (o := .tup [.str "sum", .ref ls]) nt
      refine q _ _ (e1.trans s4) ?_
      rw [ep]
      exact .ofW upd_same (s4 _ _ h1) n1
end
end Fb
namespace Fb
open PySem L2 NdefX
theorem str_amp : ("&" : Str) = txt [38] := by decide +kernel
theorem str_bar : ("|" : Str) = txt [124] := by decide +kernel
theorem str_hat : ("^" : Str) = txt [94] := by decide +kernel
theorem str_plus : ("+" : Str) = txt [43] := by decide +kernel
theorem str_star : ("*" : Str) = txt [42] := by decide +kernel
theorem str_shl : ("<<" : Str) = txt [60, 60] := by decide +kernel
/-- a part, or none -/
def OptR (K : PySem.W.Frag) (H : Hp) (tp : Addr → Prop) (o : Option Pt) (Q : VK) : Prop := (∀ H', Same H H' → o = none → Q .non H') ∧ ∀ p v' H', o = some p → Same H H' → PtV K H' tp v' p → Q v' H'
theorem OptR.from {K : PySem.W.Frag} {H H1 : Hp} {tp : Addr → Prop} {o : Option Pt} {Q : VK} (h : OptR K H tp o Q) (e : Same H H1) : OptR K H1 tp o Q := ⟨fun H' e' n => h.1 H' (e.trans e') n, fun p v H' s e' d => h.2 p v H' s (e.trans e') d⟩
theorem side_val {H : Hp} {tp : Addr → Prop} {u : V} {p : Pt} {x : Int} (h : isSide p = some x) (g : PtW H tp u p) : u = .int x := by
  cases p with
  | whole z =>
    have h : (if z = 0 ∨ z = -1 then some z else none) = some x := h
    split at h
    · injection h with h; subst h; exact g
    · cases h
  | bits b =>
    have h : some b = some x := h
    injection h with h
    subst h
    exact g
  | sum ws => cases h
section
variable {P : Program} {w : World} {K : PySem.W.Frag} {mg : Str → Option Value} {base : Heap} {f : Addr} {fd : FuncData}
abbrev S_with_bits : Stmt := top 45
abbrev N_with_bits : List Str := ["sign", "x", "y"]
abbrev P_with_bits : List Str := ["sign", "x", "y"]
theorem sc_with_bits : FnScope N_with_bits P_with_bits (defScope S_with_bits) := ⟨rfl, rfl, rfl, by decide +kernel, rfl, by decide +kernel, by decide +kernel⟩
def spWb : Sp := fun vs H Q _ => ∃ (s : Chs) (x y : Int), vs = [.str (txt s), .int x, .int y] ∧ Q (.int (withB s x y)) H
theorem ok_withbits (F : Fun K "with_bits" "with_bits" S_with_bits f fd) : FnOk P w K mg base CX0 1 f fd P_with_bits spWb := by
  have nd := sc_with_bits.nd
  refine F.ok sc_with_bits (fun vs H Q E h => ?_) (fun cdv A outer s H vs Q E hr h => ?_)
  · obtain ⟨s, x, y, rfl, _⟩ := h
    rfl
  obtain ⟨s, x, y, rfl, q⟩ := h
  refine ⟨_, (pss_cons (ps_if (pt_cmpR op_eq (pv 0) pe_str (nomark _)) (pss_one (ps_ret (pe_op op_and (pv 1) (pv 2)))) pss_nil)
    (pss_one (ps_ret (pe_ifExp (pt_cmpR op_eq (pv 0) pe_str (nomark _)) (pe_op op_or (pv 1) (pv 2)) (pe_op op_xor (pv 1) (pv 2)))))), ?_⟩
  unfold withB at q
  refine ⟨_, rfl, rfl, _, rfl, ?_⟩
  rw [eq_txt str_amp]
  refine iteD (fun c => ?_) (fun c => ?_)
  · rw [if_pos c] at q
    exact ⟨_, rfl, _, rfl, _, _, rfl, rfl, q⟩
  · rw [if_neg c] at q
    refine ⟨_, rfl, rfl, _, rfl, ?_⟩
    rw [eq_txt str_bar]
    refine iteD (fun c => ?_) (fun c => ?_)
    · rw [if_pos c] at q
      exact ⟨_, rfl, _, rfl, _, _, rfl, rfl, q⟩
    · rw [if_neg c] at q
      exact ⟨_, rfl, _, rfl, _, _, rfl, rfl, q⟩
abbrev S_is_side : Stmt := top 44
abbrev N_is_side : List Str := ["part", "kind", "worth"]
abbrev P_is_side : List Str := ["part"]
theorem sc_is_side : FnScope N_is_side P_is_side (defScope S_is_side) := ⟨rfl, rfl, rfl, by decide +kernel, rfl, by decide +kernel, by decide +kernel⟩
def spSide (K : PySem.W.Frag) : Sp := fun vs H Q _ => ∃ (v : V) (p : Pt) (tp : Addr → Prop), vs = [v] ∧ PtV K H tp v p ∧ ∀ H', Same H H' → Q (.bl (isSide p).isSome) H'
theorem ok_isside (L : LinG mg) (F : Fun K "is_side" "is_side" S_is_side f fd) : FnOk P w K mg base CX0 1 f fd P_is_side (spSide K) := by
  have nd := sc_is_side.nd
  obtain ⟨_, MG_WHOLE⟩ := L.w
  obtain ⟨_, MG_BITS⟩ := L.b
  refine F.ok sc_is_side (fun vs H Q E h => ?_) (fun cdv A outer s H vs Q E hr h => ?_)
  · obtain ⟨v, p, tp, rfl, _⟩ := h
    rfl
  obtain ⟨v, p, tp, rfl, hp, q⟩ := h
  refine ⟨_, (pss_cons (ps_asg (pv 0) (pg_tup rfl (pgs_cons (pg_name (i := 1) nd rfl (Or.inl rfl)) (pgs_cons (pg_name (i := 2) nd rfl (Or.inl rfl)) pgs_nil))))
    (pss_one (ps_ret (pe_or (pe_cmpR op_eq (pv 1) (pe_glob (v := .str "bits") rfl MG_BITS ⟨_, rfl⟩) (nomark _)) (pe_one (pe_and (pe_cmpR op_eq (pv 1) (pe_glob (v := .str "whole") rfl MG_WHOLE ⟨_, rfl⟩) (nomark _)) (pe_one (pe_cmpR op_in_seq (pv 2) (pe_tup (pa_cons pe_int (pa_cons (pe_un un_neg pe_int) pa_nil))) (by rfl))))))))), ?_⟩
  obtain ⟨a, u, rfl, hs, hu⟩ := hp.open_
  refine ⟨_, rfl, a, _, rfl, hs, rfl, _, _, rfl, _, _, rfl, rfl, ?_⟩
  refine ⟨_, rfl, rfl, _, rfl, ?_⟩
  rw [kd_b]
  cases p with
  | bits b => exact q H (Same.refl H)
  | whole z =>
    obtain rfl : u = .int z := hu
    refine ⟨_, rfl, rfl, _, rfl, ?_⟩
    rw [kd_w]
    refine ⟨_, rfl, _, rfl, (by show 2 ≤ sizeLine; decide), fun t nt => ?_⟩
    refine ⟨t, _, rfl, .inr (SqT.of upd_same), rfl, rfl, ?_⟩
    have e : (isSide (.whole z)).isSome = inV (.int z) [.int 0, .int (-1)] := by
      show (if z = 0 ∨ z = -1 then some z else none).isSome = (decide ((0 : Int) = z) || (decide ((-1 : Int) = z) || false))
      by_cases c : z = 0 ∨ z = -1
      · rw [if_pos c]
        rcases c with rfl | rfl <;> rfl
      · rw [if_neg c, decide_eq_false (fun h => c (.inl h.symm)), decide_eq_false (fun h => c (.inr h.symm))]
        rfl
    have h := q _ (Same.new (o := .tup [.int 0, .int (-1)]) nt)
    rw [e] at h
    exact h
  | sum ws =>
    refine ⟨_, rfl, rfl, _, rfl, ?_⟩
    rw [kd_w]
    exact q H (Same.refl H)
abbrev S_joined : Stmt := top 43
abbrev N_joined : List Str := ["sign", "left", "right"]
abbrev P_joined : List Str := ["sign", "left", "right"]
theorem sc_joined : FnScope N_joined P_joined (defScope S_joined) := ⟨rfl, rfl, rfl, by decide +kernel, rfl, by decide +kernel, by decide +kernel⟩
def spJo (K : PySem.W.Frag) : Sp := fun vs H Q _ => ∃ (s : Chs) (v u : V) (l r : Pt) (tp : Addr → Prop), vs = [.str (txt s), v, u] ∧ PtV K H tp v l ∧ PtV K H tp u r ∧ OptR K H tp (pJoin s l r) Q
theorem pJoin_side {s : Chs} {l r : Pt} (h : ¬ ∃ x y, l = .whole x ∧ r = .whole y) : pJoin s l r = match isSide l, isSide r with
    | some x, some y => some (.bits (withB s x y))
    | _, _ => none := by
  cases l with
  | whole x =>
    cases r with
    | whole y => exact absurd ⟨x, y, rfl, rfl⟩ h
    | bits _ => rfl
    | sum _ => rfl
  | bits _ => cases r <;> rfl
  | sum _ => cases r <;> rfl
theorem ok_joined (L : LinG mg) (F : Fun K "joined" "joined" S_joined f fd) (Cis_side : Has P w K mg base 1 "is_side" P_is_side [] (spSide K)) (Cwith_bits : Has P w K mg base 1 "with_bits" P_with_bits [] spWb) : FnOk P w K mg base CX0 2 f fd P_joined (spJo K) := by
  have nd := sc_joined.nd
  obtain ⟨_, MG_WHOLE⟩ := L.w
  obtain ⟨_, MG_BITS⟩ := L.b
  refine F.ok sc_joined (fun vs H Q E h => ?_) (fun cdv A outer s H vs Q E hr h => ?_)
  · obtain ⟨s, v, u, l, r, tp, rfl, _⟩ := h
    rfl
  obtain ⟨s, v, u, l, r, tp, rfl, hl, hr2, q⟩ := h
  refine ⟨_, (C8.pss_cut (ps_if (PW.pt (pw_and (pt_cmpR op_eq (pe_ix ix_tup (pv 1) pe_int (fun _ _ => rfl)) (pe_glob (v := .str "whole") rfl MG_WHOLE ⟨_, rfl⟩) (nomark _)) (pw_and1 (pt_cmpR op_eq (pe_ix ix_tup (pv 2) pe_int (fun _ _ => rfl)) (pe_glob (v := .str "whole") rfl MG_WHOLE ⟨_, rfl⟩) (nomark _))))) (pss_one (ps_ret (pe_tup (pa_cons (pe_glob (v := .str "whole") rfl MG_WHOLE ⟨_, rfl⟩) (pa_cons (pe_H Cwith_bits (hr.mono (by decide)) rfl (pa_cons (pv 0) (pa_cons (pe_ix ix_tup (pv 1) pe_int (fun _ _ => rfl)) (pa_cons (pe_ix ix_tup (pv 2) pe_int (fun _ _ => rfl)) pa_nil)))) pa_nil))))) pss_nil)
    (C8.pss_cut (ps_if (PW.pt (pw_or (pt_not (pt_val (pe_H Cis_side (hr.mono (by decide)) rfl (pa_cons (pv 1) pa_nil)))) (pw_or1 (pt_not (pt_val (pe_H Cis_side (hr.mono (by decide)) rfl (pa_cons (pv 2) pa_nil))))))) (pss_one (ps_ret pe_non)) pss_nil)
    (pss_one (ps_ret (pe_tup (pa_cons (pe_glob (v := .str "bits") rfl MG_BITS ⟨_, rfl⟩) (pa_cons (pe_H Cwith_bits (hr.mono (by decide)) rfl (pa_cons (pv 0) (pa_cons (pe_ix ix_tup (pv 1) pe_int (fun _ _ => rfl)) (pa_cons (pe_ix ix_tup (pv 2) pe_int (fun _ _ => rfl)) pa_nil)))) pa_nil))))))), ?_⟩
  obtain ⟨a, x, rfl, ha, hx⟩ := hl.open_
  obtain ⟨b, y, rfl, hb, hy⟩ := hr2.open_
  refine ⟨fun σ H' => σ = [some (.str (txt s)), some (.ref a), some (.ref b)] ∧ H' = H ∧ ¬ ∃ x y, l = .whole x ∧ r = .whole y, ?_, ?_⟩
  · refine ⟨_, rfl, a, _, 0, _, rfl, rfl, ha, atI_nat (j := 0) rfl, rfl, _, rfl, ?_⟩
    rw [kd_w]
    cases l with
    | whole z =>
      refine iteT ?_
      refine ⟨_, rfl, b, _, 0, _, rfl, rfl, hb, atI_nat (j := 0) rfl, rfl, _, rfl, ?_⟩
      rw [kd_w]
      cases r with
      | whole z' =>
        obtain rfl : x = .int z := hx
        obtain rfl : y = .int z' := hy
        refine iteT ?_
        refine ⟨_, rfl, _, rfl, a, _, 1, _, rfl, rfl, ha, atI_nat (j := 1) rfl, _, rfl, b, _, 1, _, rfl, rfl, hb, atI_nat (j := 1) rfl, s, z, z', rfl, (by show 2 ≤ sizeLine; decide), fun t nt => ?_⟩
        exact q.2 (.whole (withB s z z')) _ _ rfl (Same.new nt) (.whole (SqT.of upd_same))
      | bits _ => exact iteF ⟨rfl, rfl, fun ⟨_, _, _, h⟩ => by cases h⟩
      | sum _ => exact iteF ⟨rfl, rfl, fun ⟨_, _, _, h⟩ => by cases h⟩
    | bits _ => exact iteF (iteF ⟨rfl, rfl, fun ⟨_, _, h, _⟩ => by cases h⟩)
    | sum _ => exact iteF (iteF ⟨rfl, rfl, fun ⟨_, _, h, _⟩ => by cases h⟩)
  rintro σ H' ⟨rfl, rfl, nw⟩
  have ej := pJoin_side (s := s) nw
  refine ⟨fun σ H2 => σ = [some (.str (txt s)), some (.ref a), some (.ref b)] ∧ Same H' H2 ∧ ∃ x y, isSide l = some x ∧ isSide r = some y, ?_, ?_⟩
  · refine ⟨_, rfl, .ref a, l, tp, rfl, hl, fun H1 e1 => ⟨_, rfl, ?_⟩⟩
    cases h1 : isSide l with
    | none =>
      rw [h1] at ej
      refine iteT (iteT ?_)
      exact q.1 _ e1 (by rw [ej])
    | some x' =>
      refine iteF ?_
      refine ⟨_, rfl, .ref b, r, tp, rfl, hr2.same e1, fun H2 e2 => ⟨_, rfl, ?_⟩⟩
      cases h2 : isSide r with
      | none =>
        rw [h1, h2] at ej
        refine iteT ?_
        exact q.1 _ (e1.trans e2) (by rw [ej])
      | some y' => exact iteF ⟨rfl, e1.trans e2, x', y', rfl, rfl⟩
  rintro σ H2 ⟨rfl, e2, x', y', h1, h2⟩
  rw [h1, h2] at ej
  obtain rfl := side_val h1 hx
  obtain rfl := side_val h2 hy
  refine ⟨_, rfl, _, rfl, a, _, 1, _, rfl, rfl, (Nd.of e2).sqt ha, atI_nat (j := 1) rfl, _, rfl, b, _, 1, _, rfl, rfl, (Nd.of e2).sqt hb, atI_nat (j := 1) rfl, s, x', y', rfl, (by show 2 ≤ sizeLine; decide), fun t nt => ?_⟩
  exact q.2 _ _ _ ej (e2.trans (Same.new nt)) (.bits (SqT.of upd_same))
end
end Fb
namespace Fb
open PySem L2 NdefX
def Pt.isW : Pt → Bool
  | .whole _ => true
  | _ => false
theorem kd_w' (p : Pt) : decide (V.str p.kd = V.str "whole") = p.isW := by
  rw [kd_w]
  cases p <;> rfl
theorem pScale_sum {p : Pt} {f : Int} {m : Nat} (h : ∀ z, p ≠ .whole z) : pScale p f m = .sum ((wtsIn p m).map fun w => w * f) := by
  cases p with
  | whole z => exact absurd rfl (h z)
  | bits _ => rfl
  | sum _ => rfl
theorem pSum_sum {s : Chs} {l r : Pt} {m : Nat} (h : ¬ ∃ x y, l = .whole x ∧ r = .whole y) : pSum s l r m = .sum ((List.range m).map fun i => (wtsIn l m).getD i 0 + (if s = [45] then -1 else 1) * (wtsIn r m).getD i 0) := by
  cases l with
  | whole x =>
    cases r with
    | whole y => exact absurd ⟨x, y, rfl, rfl⟩ h
    | bits _ => rfl
    | sum _ => rfl
  | bits _ => cases r <;> rfl
  | sum _ => cases r <;> rfl
theorem cm_wide {x y : Int} (h : x.natAbs < 2 ^ 200000) (g : y.natAbs < 2 ^ 200000) : CMulW x y := wide_mul h g (by decide) (by decide) (by decide)
theorem one_wide (s : Chs) : (if s = [45] then (-1 : Int) else 1).natAbs < 2 ^ 200000 := by
  have : (1 : Nat) < 2 ^ 200000 := Nat.one_lt_two_pow (by decide)
  split
  · exact this
  · exact this
section
variable {P : Program} {w : World} {K : PySem.W.Frag} {mg : Str → Option Value} {base : Heap} {f : Addr} {fd : FuncData}
abbrev S_scaled : Stmt := top 48
abbrev N_scaled : List Str := ["part", "factor", "many", "kind", "worth", "weight"]
abbrev P_scaled : List Str := ["part", "factor", "many"]
theorem sc_scaled : FnScope N_scaled P_scaled (defScope S_scaled) := ⟨rfl, rfl, rfl, by decide +kernel, rfl, by decide +kernel, by decide +kernel⟩
def spSc (K : PySem.W.Frag) : Sp := fun vs H Q _ => ∃ (v : V) (p : Pt) (fa : Int) (m : Nat) (tp : Addr → Prop), vs = [v, .int fa, .int (m : Int)] ∧ PtV K H tp v p ∧ m ≤ 100 ∧ PB m p ∧ fa.natAbs < 2 ^ 200000 ∧ (∀ c, tp c → H c ≠ none) ∧ ∀ (v' : V) (H' : Hp), Same H H' → PtV K H' tp v' (pScale p fa m) → Q v' H'
theorem ok_scaled (L : LinG mg) (F : Fun K "scaled" "scaled" S_scaled f fd) (B : Blt mg) (Cweights_in : Has P w K mg base 1 "weights_in" P_weights_in [] (spWin K)) : FnOk P w K mg base CX0 2 f fd P_scaled (spSc K) := by
  have nd := sc_scaled.nd
  obtain ⟨_, MG_WHOLE⟩ := L.w
  obtain ⟨_, MG_SUM⟩ := L.s
  refine F.ok sc_scaled (fun vs H Q E h => ?_) (fun cdv A outer s H vs Q E hr h => ?_)
  · obtain ⟨v, p, fa, m, tp, rfl, _⟩ := h
    rfl
  obtain ⟨v, p, fa, m, tp, rfl, hp, hm, pb, hf, ht, q⟩ := h
  refine ⟨_, (pss_cons (ps_asg (pv 0) (pg_tup rfl (pgs_cons (pg_name (i := 3) nd rfl (Or.inl rfl)) (pgs_cons (pg_name (i := 4) nd rfl (Or.inl rfl)) pgs_nil))))
    (C8.pss_cut (ps_if (pt_cmpR op_eq (pv 3) (pe_glob (v := .str "whole") rfl MG_WHOLE ⟨_, rfl⟩) (nomark _)) (pss_one (ps_ret (pe_tup (pa_cons (pe_glob (v := .str "whole") rfl MG_WHOLE ⟨_, rfl⟩) (pa_cons (pe_op op_mulW (pv 4) (pv 1)) pa_nil))))) pss_nil)
    (pss_one (ps_ret (pe_tup (pa_cons (pe_glob (v := .str "sum") rfl MG_SUM ⟨_, rfl⟩) (pa_cons (pe_lc (own := [("weight", 5)]) (g := gName 5) (tt := tYes) rfl nd (pi_list (pe_H Cweights_in (hr.mono (by decide)) rfl (pa_cons (pv 0) (pa_cons (pv 2) pa_nil)))) (blkOk_by (own := [("weight", 5)]) (N := N_scaled) (sc := defScope S_scaled) (by decide +kernel)) (fun _ _ _ _ _ => pg_name (i := 5) nd rfl (Or.inl rfl)) (fun _ _ _ _ _ => pts_nil) (fun _ _ _ _ _ => (pe_op op_mulW (pv 5) (pv 1)))) pa_nil))))))), ?_⟩
  obtain ⟨a, u, rfl, hs, hu⟩ := hp.open_
  have fresh : ∀ s, H s = none → ¬ tp s := fun s h c => ht s c h
  have lw := pb.2.1
  refine ⟨_, rfl, a, _, rfl, hs, rfl, _, _, rfl, _, _, rfl, rfl, ?_⟩
  refine ⟨fun σ H' => σ = [some (.ref a), some (.int fa), some (.int (m : Int)), some (.str p.kd), some u, none] ∧ H' = H ∧ ∀ z, p ≠ .whole z, ?_, ?_⟩
  · refine ⟨_, rfl, rfl, _, rfl, ?_⟩
    rw [kd_w]
    cases p with
    | whole z =>
      obtain rfl : u = .int z := hu
      refine iteT ?_
      refine ⟨_, rfl, _, rfl, _, _, rfl, rfl, cm_wide pb.2.2 hf, (by show 2 ≤ sizeLine; decide), fun t nt => ?_⟩
      exact q _ _ (Same.new nt) (.whole (SqT.of upd_same))
    | bits _ => exact iteF ⟨rfl, rfl, fun z h => by cases h⟩
    | sum _ => exact iteF ⟨rfl, rfl, fun z h => by cases h⟩
  rintro σ H' ⟨rfl, rfl, nw⟩
  have ep := pScale_sum (f := fa) (m := m) nw
  refine ⟨_, rfl, _, rfl, .ref a, p, m, tp, rfl, hp, hm, ht, fun ls H1 e1 h1 n1 => ?_⟩
  have fr1 : ∀ s, H1 s = none → ¬ tp s := fun s h => fresh s (e1.free h)
  refine ⟨ls, rfl, ⟨_, SqL.of h1⟩, fun D nD => ?_⟩
  refine lc_list (xs := (wtsIn p m).map V.int) (fun i H' => Same H1 H' ∧ H' D = some (.lst ((((wtsIn p m).take i).map (fun w => w * fa)).map V.int))) ⟨Same.new nD, upd_same⟩ (fun i H' _ h => SqL.of (h.1 _ _ h1)) (fun i x H' hx h => ?_) (fun H3 h => ?_)
  · obtain ⟨e, hD⟩ := h
    rw [List.getElem?_map] at hx
    obtain ⟨c, hc, rfl⟩ := Option.map_eq_some_iff.mp hx
    have et : (wtsIn p m).take (i + 1) = (wtsIn p m).take i ++ [c] := by rw [List.take_add_one, hc]; rfl
    have cm : c ∈ wtsIn p m := List.mem_of_getElem? hc
    refine ⟨rfl, lcT ?_⟩
    refine ⟨_, rfl, _, rfl, _, _, rfl, rfl, cm_wide (pb.1 c cm) hf, _, hD, ?_, Same.mut e nD, ?_⟩
    · rw [List.length_map, List.length_map, List.length_take]
      exact Nat.lt_of_lt_of_le (show _ < 3000 by omega) (by decide)
    · rw [upd_same, et, List.map_append, List.map_append]
      rfl
  · obtain ⟨e, hD⟩ := h
    rw [List.length_map, List.take_length] at hD
    refine ⟨(by show 2 ≤ sizeLine; decide), fun t nt => ?_⟩
    have s4 := Same.new (o := .tup [.str "sum", .ref D]) nt
    refine q _ _ (e1.trans (e.trans s4)) ?_
    rw [ep]
    exact .ofW upd_same (s4 _ _ hD) (fr1 D nD)
abbrev S_shifted : Stmt := top 46
abbrev N_shifted : List Str := ["left", "right", "many"]
abbrev P_shifted : List Str := ["left", "right", "many"]
theorem sc_shifted : FnScope N_shifted P_shifted (defScope S_shifted) := ⟨rfl, rfl, rfl, by decide +kernel, rfl, by decide +kernel, by decide +kernel⟩
def shR (l r : Pt) (m : Nat) : Option Pt := match r with
  | .whole z => if 0 ≤ z ∧ z ≤ 64 then some (pScale l (2 ^ z.toNat) m) else none
  | _ => none
def spSf (K : PySem.W.Frag) : Sp := fun vs H Q _ => ∃ (v u : V) (l r : Pt) (m : Nat) (tp : Addr → Prop), vs = [v, u, .int (m : Int)] ∧ PtV K H tp v l ∧ PtV K H tp u r ∧ m ≤ 100 ∧ PB m l ∧ (∀ c, tp c → H c ≠ none) ∧ OptR K H tp (shR l r m) Q
theorem sh_wide {z : Int} (h0 : 0 ≤ z) (h1 : z ≤ 64) : (2 ^ z.toNat : Int).natAbs < 2 ^ 200000 := by
  rw [Int.natAbs_pow]
  exact Nat.lt_of_le_of_lt (Nat.pow_le_pow_right (by decide) (show z.toNat ≤ 64 by omega)) (Nat.pow_lt_pow_right (by decide) (by decide))
theorem ok_shifted (L : LinG mg) (F : Fun K "shifted" "shifted" S_shifted f fd) (Cscaled : Has P w K mg base 2 "scaled" P_scaled [] (spSc K)) : FnOk P w K mg base CX0 3 f fd P_shifted (spSf K) := by
  have nd := sc_shifted.nd
  obtain ⟨_, MG_WHOLE⟩ := L.w
  obtain ⟨_, MG_MOST_SHIFT⟩ := L.m
  refine F.ok sc_shifted (fun vs H Q E h => ?_) (fun cdv A outer s H vs Q E hr h => ?_)
  · obtain ⟨v, u, l, r, m, tp, rfl, _⟩ := h
    rfl
  obtain ⟨v, u, l, r, m, tp, rfl, hl, hr2, hm, pb, ht, q⟩ := h
  refine ⟨_, (C8.pss_cut (ps_if (PW.pt (pw_or (pt_cmpR op_ne (pe_ix ix_tup (pv 1) pe_int (fun _ _ => rfl)) (pe_glob (v := .str "whole") rfl MG_WHOLE ⟨_, rfl⟩) (nomark _)) (pw_or1 (pt_not (pt_chain op_le op_le pe_int (pe_ix ix_tup (pv 1) pe_int (fun _ _ => rfl)) (pe_glob (v := .int 64) rfl MG_MOST_SHIFT ⟨_, rfl⟩)))))) (pss_one (ps_ret pe_non)) pss_nil)
    (pss_one (ps_ret (pe_H Cscaled (hr.mono (by decide)) rfl (pa_cons (pv 0) (pa_cons (pe_op op_shl pe_int (pe_ix ix_tup (pv 1) pe_int (fun _ _ => rfl))) (pa_cons (pv 2) pa_nil))))))), ?_⟩
  obtain ⟨b, y, rfl, hb, hy⟩ := hr2.open_
  refine ⟨fun σ H' => σ = [some v, some (.ref b), some (.int (m : Int))] ∧ H' = H ∧ ∃ z, r = .whole z ∧ 0 ≤ z ∧ z ≤ 64, ?_, ?_⟩
  · refine ⟨_, rfl, b, _, 0, _, rfl, rfl, hb, atI_nat (j := 0) rfl, rfl, _, rfl, ?_⟩
    have ek : (!decide (V.str r.kd = V.str "whole")) = !r.isW := by rw [kd_w']
    cases r with
    | whole z =>
      obtain rfl : y = .int z := hy
      rw [show (!decide (V.str (Pt.whole z).kd = V.str "whole")) = false from ek]
      refine iteF ?_
      refine ⟨_, rfl, b, _, 1, _, rfl, rfl, hb, atI_nat (j := 1) rfl, _, _, rfl, rfl, _, rfl, ?_⟩
      refine iteD (fun c => ?_) (fun c => ?_)
      · refine ⟨_, _, rfl, rfl, _, rfl, ?_⟩
        refine iteDN (fun c2 => ?_) (fun c2 => ⟨rfl, rfl, z, rfl, c, c2⟩)
        exact q.1 H (Same.refl H) (if_neg fun h => c2 h.2)
      · refine ⟨_, rfl, iteT ?_⟩
        exact q.1 H (Same.refl H) (if_neg fun h => c h.1)
    | bits b' =>
      rw [show (!decide (V.str (Pt.bits b').kd = V.str "whole")) = true from ek]
      exact iteT (iteT (q.1 H (Same.refl H) rfl))
    | sum ws =>
      rw [show (!decide (V.str (Pt.sum ws).kd = V.str "whole")) = true from ek]
      exact iteT (iteT (q.1 H (Same.refl H) rfl))
  rintro σ H' ⟨rfl, rfl, z, rfl, z0, z1⟩
  obtain rfl : y = .int z := hy
  have es : shR l (.whole z) m = some (pScale l (2 ^ z.toNat) m) := if_pos ⟨z0, z1⟩
  refine ⟨_, rfl, _, rfl, b, _, 1, _, rfl, rfl, hb, atI_nat (j := 1) rfl, _, _, rfl, rfl, (by unfold CPow; exact ⟨by omega, by omega, by omega⟩), _, rfl, v, l, 2 ^ z.toNat, m, tp, ?_, hl, hm, pb, sh_wide z0 z1, ht, fun v' H1 e1 d1 => q.2 _ v' H1 es e1 d1⟩
  rw [List.append_nil]
  show [v, V.int (1 * 2 ^ z.toNat), V.int (m : Int)] = _
  rw [Int.one_mul]
abbrev S_multiplied : Stmt := top 47
abbrev N_multiplied : List Str := ["left", "right", "many"]
abbrev P_multiplied : List Str := ["left", "right", "many"]
theorem sc_multiplied : FnScope N_multiplied P_multiplied (defScope S_multiplied) := ⟨rfl, rfl, rfl, by decide +kernel, rfl, by decide +kernel, by decide +kernel⟩
def muR (l r : Pt) (m : Nat) : Option Pt := match r, l with
  | .whole z, l => some (pScale l z m)
  | r, .whole z => some (pScale r z m)
  | _, _ => none
def spMu_ (K : PySem.W.Frag) : Sp := fun vs H Q _ => ∃ (v u : V) (l r : Pt) (m : Nat) (tp : Addr → Prop), vs = [v, u, .int (m : Int)] ∧ PtV K H tp v l ∧ PtV K H tp u r ∧ m ≤ 100 ∧ PB m l ∧ PB m r ∧ (∀ c, tp c → H c ≠ none) ∧ OptR K H tp (muR l r m) Q
theorem ok_multd (L : LinG mg) (F : Fun K "multiplied" "multiplied" S_multiplied f fd) (Cscaled : Has P w K mg base 2 "scaled" P_scaled [] (spSc K)) : FnOk P w K mg base CX0 3 f fd P_multiplied (spMu_ K) := by
  have nd := sc_multiplied.nd
  obtain ⟨_, MG_WHOLE⟩ := L.w
  refine F.ok sc_multiplied (fun vs H Q E h => ?_) (fun cdv A outer s H vs Q E hr h => ?_)
  · obtain ⟨v, u, l, r, m, tp, rfl, _⟩ := h
    rfl
  obtain ⟨v, u, l, r, m, tp, rfl, hl, hr2, hm, pl, pr, ht, q⟩ := h
  refine ⟨_, (pss_cons (ps_if (pt_cmpR op_eq (pe_ix ix_tup (pv 1) pe_int (fun _ _ => rfl)) (pe_glob (v := .str "whole") rfl MG_WHOLE ⟨_, rfl⟩) (nomark _)) (pss_one (ps_ret (pe_H Cscaled (hr.mono (by decide)) rfl (pa_cons (pv 0) (pa_cons (pe_ix ix_tup (pv 1) pe_int (fun _ _ => rfl)) (pa_cons (pv 2) pa_nil)))))) pss_nil)
    (pss_cons (ps_if (pt_cmpR op_eq (pe_ix ix_tup (pv 0) pe_int (fun _ _ => rfl)) (pe_glob (v := .str "whole") rfl MG_WHOLE ⟨_, rfl⟩) (nomark _)) (pss_one (ps_ret (pe_H Cscaled (hr.mono (by decide)) rfl (pa_cons (pv 1) (pa_cons (pe_ix ix_tup (pv 0) pe_int (fun _ _ => rfl)) (pa_cons (pv 2) pa_nil)))))) pss_nil)
    (pss_one (ps_ret pe_non)))), ?_⟩
  obtain ⟨a, x, rfl, ha, hx⟩ := hl.open_
  obtain ⟨b, y, rfl, hb, hy⟩ := hr2.open_
  refine ⟨_, rfl, b, _, 0, _, rfl, rfl, hb, atI_nat (j := 0) rfl, rfl, _, rfl, ?_⟩
  rw [kd_w']
  have second : (∀ z, r ≠ .whole z) → (∀ z, l = .whole z → muR l r m = some (pScale r z m)) ∧ ((∀ z, l ≠ .whole z) → muR l r m = none) := fun h => by
    cases r with
    | whole z => exact absurd rfl (h z)
    | bits b' =>
      refine ⟨fun z h => by subst h; rfl, fun h => ?_⟩
      cases l with
      | whole z => exact absurd rfl (h z)
      | bits _ => rfl
      | sum _ => rfl
    | sum ws =>
      refine ⟨fun z h => by subst h; rfl, fun h => ?_⟩
      cases l with
      | whole z => exact absurd rfl (h z)
      | bits _ => rfl
      | sum _ => rfl
  by_cases cw : ∃ z, r = .whole z
  · obtain ⟨z, rfl⟩ := cw
    obtain rfl : y = .int z := hy
    refine iteT ?_
    have es : muR l (.whole z) m = some (pScale l z m) := by cases l <;> rfl
    exact ⟨_, rfl, _, rfl, b, _, 1, _, rfl, rfl, hb, atI_nat (j := 1) rfl, _, rfl, .ref a, l, z, m, tp, rfl, hl, hm, pl, pr.2.2, ht, fun v' H1 e1 d1 => q.2 _ v' H1 es e1 d1⟩
  · have nr : ∀ z, r ≠ .whole z := fun z h => cw ⟨z, h⟩
    have e0 : r.isW = false := by
      cases r with
      | whole z => exact absurd rfl (nr z)
      | bits _ => rfl
      | sum _ => rfl
    rw [e0]
    refine iteF ?_
    refine ⟨_, rfl, a, _, 0, _, rfl, rfl, ha, atI_nat (j := 0) rfl, rfl, _, rfl, ?_⟩
    rw [kd_w']
    cases l with
    | whole z =>
      obtain rfl : x = .int z := hx
      refine iteT ?_
      exact ⟨_, rfl, _, rfl, a, _, 1, _, rfl, rfl, ha, atI_nat (j := 1) rfl, _, rfl, .ref b, r, z, m, tp, rfl, hr2, hm, pr, pl.2.2, ht, fun v' H1 e1 d1 => q.2 _ v' H1 ((second nr).1 z rfl) e1 d1⟩
    | bits _ => exact iteF (q.1 H (Same.refl H) ((second nr).2 fun z h => by cases h))
    | sum _ => exact iteF (q.1 H (Same.refl H) ((second nr).2 fun z h => by cases h))
abbrev S_summed : Stmt := top 49
abbrev N_summed : List Str := ["sign", "left", "right", "many", "factor", "first", "second", "row"]
abbrev P_summed : List Str := ["sign", "left", "right", "many"]
theorem sc_summed : FnScope N_summed P_summed (defScope S_summed) := ⟨rfl, rfl, rfl, by decide +kernel, rfl, by decide +kernel, by decide +kernel⟩
def spSu (K : PySem.W.Frag) : Sp := fun vs H Q _ => ∃ (s : Chs) (v u : V) (l r : Pt) (m : Nat) (tp : Addr → Prop), vs = [.str (txt s), v, u, .int (m : Int)] ∧ PtV K H tp v l ∧ PtV K H tp u r ∧ m ≤ 100 ∧ PB m l ∧ PB m r ∧ (∀ c, tp c → H c ≠ none) ∧ ∀ (v' : V) (H' : Hp), Same H H' → PtV K H' tp v' (pSum s l r m) → Q v' H'
theorem ok_sumd (L : LinG mg) (F : Fun K "summed" "summed" S_summed f fd) (B : Blt mg) (Cweights_in : Has P w K mg base 1 "weights_in" P_weights_in [] (spWin K)) : FnOk P w K mg base CX0 2 f fd P_summed (spSu K) := by
  have nd := sc_summed.nd
  obtain ⟨_, MG_WHOLE⟩ := L.w
  obtain ⟨_, MG_SUM⟩ := L.s
  refine F.ok sc_summed (fun vs H Q E h => ?_) (fun cdv A outer s H vs Q E hr h => ?_)
  · obtain ⟨s, v, u, l, r, m, tp, rfl, _⟩ := h
    rfl
  obtain ⟨s, v, u, l, r, m, tp, rfl, hl, hr2, hm, pl, pr, ht, q⟩ := h
  refine ⟨_, (C8.pss_cut (ps_set (i := 4) nd rfl (Or.inr rfl) (pe_ifExp (pt_cmpR op_eq (pv 0) pe_str (nomark _)) (pe_un un_neg pe_int) pe_int))
    (C8.pss_cut (ps_if (PW.pt (pw_and (pt_cmpR op_eq (pe_ix ix_tup (pv 1) pe_int (fun _ _ => rfl)) (pe_glob (v := .str "whole") rfl MG_WHOLE ⟨_, rfl⟩) (nomark _)) (pw_and1 (pt_cmpR op_eq (pe_ix ix_tup (pv 2) pe_int (fun _ _ => rfl)) (pe_glob (v := .str "whole") rfl MG_WHOLE ⟨_, rfl⟩) (nomark _))))) (pss_one (ps_ret (pe_tup (pa_cons (pe_glob (v := .str "whole") rfl MG_WHOLE ⟨_, rfl⟩) (pa_cons (pe_op op_add (pe_ix ix_tup (pv 1) pe_int (fun _ _ => rfl)) (pe_op op_mulW (pv 4) (pe_ix ix_tup (pv 2) pe_int (fun _ _ => rfl)))) pa_nil))))) pss_nil)
    (pss_cons (ps_set (i := 5) nd rfl (Or.inr rfl) (pe_H Cweights_in (hr.mono (by decide)) rfl (pa_cons (pv 1) (pa_cons (pv 3) pa_nil))))
    (pss_cons (ps_set (i := 6) nd rfl (Or.inr rfl) (pe_H Cweights_in (hr.mono (by decide)) rfl (pa_cons (pv 2) (pa_cons (pv 3) pa_nil))))
    (pss_one (ps_ret (pe_tup (pa_cons (pe_glob (v := .str "sum") rfl MG_SUM ⟨_, rfl⟩) (pa_cons (pe_lc (own := [("row", 7)]) (g := gName 7) (tt := tYes) rfl nd (pi_range1 (by rfl) B.range (pa_cons (pv 3) pa_nil)) (blkOk_by (own := [("row", 7)]) (N := N_summed) (sc := defScope S_summed) (by decide +kernel)) (fun _ _ _ _ _ => pg_name (i := 7) nd rfl (Or.inl rfl)) (fun _ _ _ _ _ => pts_nil) (fun _ _ _ _ _ => (pe_op op_add (pe_ix (ix_listK K) (pv 5) (pv 7) (fun _ _ => rfl)) (pe_op op_mulW (pv 4) (pe_ix (ix_listK K) (pv 6) (pv 7) (fun _ _ => rfl)))))) pa_nil))))))))), ?_⟩
  obtain ⟨a, x, rfl, ha, hx⟩ := hl.open_
  obtain ⟨b, y, rfl, hb, hy⟩ := hr2.open_
  have fresh : ∀ s, H s = none → ¬ tp s := fun s h c => ht s c h
  refine ⟨fun σ H' => σ = [some (.str (txt s)), some (.ref a), some (.ref b), some (.int (m : Int)), some (.int (if s = [45] then -1 else 1)), none, none, none] ∧ H' = H, ?_, ?_⟩
  · refine ⟨_, rfl, rfl, _, rfl, ?_⟩
    rw [eq_txt str_minus]
    refine iteD (fun c => ?_) (fun c => ?_)
    · rw [if_pos c]
      exact ⟨_, rfl, rfl, rfl⟩
    · rw [if_neg c]
      exact ⟨rfl, rfl⟩
  rintro σ H' ⟨rfl, rfl⟩
  have ow := one_wide s
  generalize hfa : (if s = [45] then (-1 : Int) else 1) = fa at ow
  refine ⟨fun σ H2 => σ = [some (.str (txt s)), some (.ref a), some (.ref b), some (.int (m : Int)), some (.int fa), none, none, none] ∧ H2 = H' ∧ ¬ ∃ x y, l = .whole x ∧ r = .whole y, ?_, ?_⟩
  · refine ⟨_, rfl, a, _, 0, _, rfl, rfl, ha, atI_nat (j := 0) rfl, rfl, _, rfl, ?_⟩
    rw [kd_w]
    cases l with
    | whole z =>
      refine iteT ?_
      refine ⟨_, rfl, b, _, 0, _, rfl, rfl, hb, atI_nat (j := 0) rfl, rfl, _, rfl, ?_⟩
      rw [kd_w]
      cases r with
      | whole z' =>
        obtain rfl : x = .int z := hx
        obtain rfl : y = .int z' := hy
        refine iteT ?_
        refine ⟨_, rfl, a, _, 1, _, rfl, rfl, ha, atI_nat (j := 1) rfl, _, rfl, _, rfl, b, _, 1, _, rfl, rfl, hb, atI_nat (j := 1) rfl, _, _, rfl, rfl, cm_wide ow pr.2.2, _, _, rfl, rfl, (by show 2 ≤ sizeLine; decide), fun t nt => ?_⟩
        refine q _ _ (Same.new nt) ?_
        have ep : pSum s (.whole z) (.whole z') m = .whole (z + fa * z') := by rw [← hfa]; rfl
        rw [ep]
        exact .whole (SqT.of upd_same)
      | bits _ => exact iteF ⟨rfl, rfl, fun ⟨_, _, _, h⟩ => by cases h⟩
      | sum _ => exact iteF ⟨rfl, rfl, fun ⟨_, _, _, h⟩ => by cases h⟩
    | bits _ => exact iteF (iteF ⟨rfl, rfl, fun ⟨_, _, h, _⟩ => by cases h⟩)
    | sum _ => exact iteF (iteF ⟨rfl, rfl, fun ⟨_, _, h, _⟩ => by cases h⟩)
  rintro σ H2 ⟨rfl, rfl, nw⟩
  have ep := pSum_sum (s := s) (m := m) nw
  rw [hfa] at ep
  refine ⟨_, rfl, _, rfl, .ref a, l, m, tp, rfl, hl, hm, ht, fun l1 H1 e1 h1 n1 => ?_⟩
  refine ⟨_, rfl, _, rfl, .ref b, r, m, tp, rfl, hr2.same e1, hm, (fun c hc h => ht c hc (e1.free h)), fun l2 H3 e2 h2 n2 => ?_⟩
  have h1' := e2 _ _ h1
  refine ⟨_, rfl, _, rfl, (by omega), (by omega), fun D nD => ?_⟩
  have lw1 := pl.2.1
  have lw2 := pr.2.1
  refine lc_range (lo := 0) (n := m) (fun i H' => Same H3 H' ∧ H' D = some (.lst (((List.range i).map fun i => (wtsIn l m).getD i 0 + fa * (wtsIn r m).getD i 0).map V.int))) ⟨Same.new nD, upd_same⟩ (fun i H' hi h => ?_) (fun H4 h => ?_)
  · obtain ⟨e, hD⟩ := h
    refine ⟨rfl, lcT ?_⟩
    obtain ⟨c1, hc1⟩ : ∃ c, (wtsIn l m)[i]? = some c := ⟨_, List.getElem?_eq_getElem (by omega)⟩
    obtain ⟨c2, hc2⟩ : ∃ c, (wtsIn r m)[i]? = some c := ⟨_, List.getElem?_eq_getElem (by omega)⟩
    have a1 : atI ((wtsIn l m).map V.int) (0 + (i : Int)) = some (.int c1) := by rw [Int.zero_add]; exact atI_nat (by rw [List.getElem?_map, hc1]; rfl)
    have a2 : atI ((wtsIn r m).map V.int) (0 + (i : Int)) = some (.int c2) := by rw [Int.zero_add]; exact atI_nat (by rw [List.getElem?_map, hc2]; rfl)
    refine ⟨_, rfl, _, rfl, l1, _, _, _, rfl, rfl, SqL.of (e _ _ h1'), a1, _, rfl, _, rfl, _, rfl, l2, _, _, _, rfl, rfl, SqL.of (e _ _ h2), a2, _, _, rfl, rfl, cm_wide ow (pr.1 c2 (List.mem_of_getElem? hc2)), _, _, rfl, rfl, _, hD, ?_, Same.mut e nD, ?_⟩
    · rw [List.length_map, List.length_map, List.length_range]
      exact Nat.lt_of_lt_of_le (show i < 3000 by omega) (by decide)
    · rw [upd_same, List.range_succ, List.map_append, List.map_append]
      show some (HO.lst (_ ++ [V.int (c1 + fa * c2)])) = some (HO.lst (_ ++ [V.int ((wtsIn l m).getD i 0 + fa * (wtsIn r m).getD i 0)]))
      rw [List.getD_eq_getElem?_getD, List.getD_eq_getElem?_getD, hc1, hc2]
      rfl
  · obtain ⟨e, hD⟩ := h
    refine ⟨(by show 2 ≤ sizeLine; decide), fun t nt => ?_⟩
    have s4 := Same.new (o := .tup [.str "sum", .ref D]) nt
    refine q _ _ (e1.trans (e2.trans (e.trans s4))) ?_
    rw [ep]
    exact .ofW upd_same (s4 _ _ hD) (fresh D (e1.free (e2.free nD)))
end
end Fb
namespace Fb
open PySem L2 NdefX
theorem dc_range {lo : Int} {n : Nat} {g : TG} {tt : TT} {tk tv : TE} {vs : List Nat} {σ : L2.St} {H1 : Hp} {D : Addr} {Qd : Hp → Prop} (Pv : Nat → Hp → Prop) (h0 : Pv 0 (upd H1 D (.dK [])))
    (hs : ∀ i H, i < n → Pv i H → g (.int (lo + i)) (wipe σ vs) H fun σ2 H2 => wipe σ2 vs = wipe σ vs ∧ tt σ2 H2 fun b H3 =>
      if b = true then tk σ2 H3 fun y H4 => tv σ2 H4 fun z H5 => ∃ kvs k, y = kV k ∧ H5 D = some (.dK kvs) ∧ kvs.length < sizeLine ∧ Pv (i + 1) (upd H5 D (.dK (putK kvs k z))) else Pv (i + 1) H3) (hd : ∀ H, Pv n H → Qd H) :
    ∃ W : Nat → Nat → Hp → Prop, (∃ m, W 0 m (upd H1 D (.dK []))) ∧ ∀ i m H, W i m H →
      ((Itr lo n).stop i H ∧ Qd H) ∨ ((Itr lo n).go i H ∧ ∃ Nx : Hp → Prop, (∀ H', Nx H' → ∃ m', m' < m ∧ W (i + 1) m' H') ∧ ∀ x H', (Itr lo n).yld i H x H' → g x (wipe σ vs) H' fun σ2 H2 => wipe σ2 vs = wipe σ vs ∧ tt σ2 H2 fun b H3 =>
        if b = true then tk σ2 H3 fun y H4 => tv σ2 H4 fun z H5 => ∃ kvs k, y = kV k ∧ H5 D = some (.dK kvs) ∧ kvs.length < sizeLine ∧ Nx (upd H5 D (.dK (putK kvs k z))) else Nx H3) := by
  refine ⟨fun i m H => m = n - i ∧ i ≤ n ∧ Pv i H, ⟨n, by simp, Nat.zero_le _, h0⟩, ?_⟩
  rintro i m H ⟨rfl, hi, p⟩
  by_cases hlt : i < n
  · refine .inr ⟨hlt, Pv (i + 1), fun H' p' => ⟨n - (i + 1), by omega, rfl, hlt, p'⟩, fun x H' y => ?_⟩
    obtain ⟨e, y⟩ := y
    subst e y
    exact hs i _ hlt p
  · have e : i = n := by omega
    subst e
    exact .inl ⟨Nat.le_refl _, hd H p⟩
/-- the rows of a name -/
def rowsW (k : Nat) : Nat → Int
  | 0 => 0
  | i + 1 => if Bt k (i : Int) ≠ 0 then Builtin.bitOr (rowsW k i) (1 * 2 ^ i) else rowsW k i
theorem or_and (x y : Int) : Builtin.bitOr x y = -Builtin.bitAnd (-x - 1) (-y - 1) - 1 := by
  rw [PyProof.Rows.bitOr_and]
  have e1 := PyProof.Rows.bitAnd_not (-x - 1) y
  have e2 := PyProof.Rows.bitAnd_not y x
  unfold Builtin.bitNot at e1 e2
  rw [show (-y - 1 : Int) = -1 - y by omega] at *
  rw [show (-x - 1 : Int) = -1 - x by omega] at *
  rw [PyProof.Rows.bitAnd_comm x y, PyProof.Rows.bitAnd_comm (-1 - x) y] at *
  omega
theorem bt_or (p : Nat) (x y : Int) : Bt p (Builtin.bitOr x y) = 1 - (1 - Bt p x) * (1 - Bt p y) := by
  rw [or_and, bt_not, bt_and, bt_not, bt_not]
theorem bt_pw (p i : Nat) : Bt p (1 * 2 ^ i) = if p = i then 1 else 0 := by
  rw [Int.one_mul]
  unfold Bt
  by_cases h : p = i
  · subst h
    rw [if_pos rfl, Int.ediv_self (by have := Int.pow_pos (n := 2) (m := p) (by decide); omega)]
    rfl
  rw [if_neg h]
  by_cases h2 : p < i
  · rw [show (2 : Int) ^ i = 2 ^ p * 2 ^ (i - p) by rw [← Int.pow_add]; congr 1; omega, Int.mul_ediv_cancel_left _ (by have := Int.pow_pos (n := 2) (m := p) (by decide); omega)]
    rw [show i - p = (i - p - 1) + 1 by omega, Int.pow_succ]
    omega
  · rw [Int.ediv_eq_zero_of_lt (Int.le_of_lt (Int.pow_pos (by decide))) (by
      have : (2 : Nat) ^ i < 2 ^ p := Nat.pow_lt_pow_right (by decide) (by omega)
      exact_mod_cast this)]
    rfl
theorem bt_rows (k m r : Nat) : Bt r (rowsW k m) = if r < m then Bt k (r : Int) else 0 := by
  induction m with
  | zero =>
    rw [if_neg (Nat.not_lt_zero _)]
    show Bt r 0 = 0
    unfold Bt
    rw [Int.zero_ediv]
    rfl
  | succ m ih =>
    show Bt r (if Bt k (m : Int) ≠ 0 then Builtin.bitOr (rowsW k m) (1 * 2 ^ m) else rowsW k m) = _
    by_cases c : Bt k (m : Int) ≠ 0
    · rw [if_pos c, bt_or, ih, bt_pw]
      rcases bt_01 k (m : Int) with e | e
      · exact absurd e c
      by_cases h : r = m
      · subst h
        rw [if_neg (Nat.lt_irrefl _), if_pos rfl, if_pos (Nat.lt_succ_self _), e]
        rfl
      · rw [if_neg h]
        by_cases h2 : r < m
        · rw [if_pos h2, if_pos (by omega)]; omega
        · rw [if_neg h2, if_neg (by omega)]; rfl
    · rw [if_neg c, ih]
      by_cases h : r = m
      · subst h
        rw [if_neg (Nat.lt_irrefl _), if_pos (Nat.lt_succ_self _)]
        omega
      · by_cases h2 : r < m
        · rw [if_pos h2, if_pos (by omega)]
        · rw [if_neg h2, if_neg (by omega)]
section
variable {P : Program} {w : World} {K : PySem.W.Frag} {mg : Str → Option Value} {base : Heap} {f : Addr} {fd : FuncData}
abbrev S_rows_with : Stmt := top 38
abbrev N_rows_with : List Str := ["name", "many", "rows", "row"]
abbrev P_rows_with : List Str := ["name", "many"]
theorem sc_rows_with : FnScope N_rows_with P_rows_with (defScope S_rows_with) := ⟨rfl, rfl, rfl, by decide +kernel, rfl, by decide +kernel, by decide +kernel⟩
def spRw : Sp := fun vs H Q _ => ∃ (k m : Nat), vs = [.int (k : Int), .int (m : Int)] ∧ k ≤ 64 ∧ m ≤ 100 ∧ Q (.int (rowsW k m)) H
theorem ok_rowsw (F : Fun K "rows_with" "rows_with" S_rows_with f fd) (B : Blt mg) : FnOk P w K mg base CX0 1 f fd P_rows_with spRw := by
  have nd := sc_rows_with.nd
  refine F.ok sc_rows_with (fun vs H Q E h => ?_) (fun cdv A outer s H vs Q E hr h => ?_)
  · obtain ⟨k, m, rfl, _⟩ := h
    rfl
  obtain ⟨k, m, rfl, hk, hm, q⟩ := h
  refine ⟨_, (pss_cons (ps_set (i := 2) nd rfl (Or.inl rfl) pe_int)
    (pss_cons (ps_for PassesOwn.never rfl (pi_range1 (by rfl) B.range (pa_cons (pv 1) pa_nil)) (pg_name (i := 3) nd rfl (Or.inl rfl)) (pss_one (ps_if (pt_truth (pe_op op_and (pe_op op_shr (pv 3) (pv 0)) pe_int) (by intro _; rfl)) (pss_one (ps_set (i := 2) nd rfl (Or.inl rfl) (pe_op op_or (pv 2) (pe_op op_shl pe_int (pv 3))))) pss_nil)))
    (pss_one (ps_ret (pv 2))))), ?_⟩
  refine ⟨_, rfl, _, rfl, (by omega), (by omega), ?_⟩
  refine for_range (lo := 0) (n := m) (fun i σ H' => H' = H ∧ ∃ o, σ = [some (.int (k : Int)), some (.int (m : Int)), some (.int (rowsW k i)), o]) ⟨rfl, none, rfl⟩ (fun i σ H' hi h => ?_) (fun σ H' h => ?_)
  · obtain ⟨rfl, o, rfl⟩ := h
    refine ⟨_, rfl, _, rfl, _, _, rfl, rfl, (by omega), _, _, rfl, rfl, _, rfl, ?_⟩
    have eb : Builtin.bitAnd (((0 : Int) + (i : Int)) / 2 ^ ((k : Int)).toNat) 1 = Bt k (i : Int) := by rw [PyProof.Rows.bitAnd_m1, Int.zero_add]; rfl
    rw [eb]
    have es : rowsW k (i + 1) = if Bt k (i : Int) ≠ 0 then Builtin.bitOr (rowsW k i) (1 * 2 ^ i) else rowsW k i := rfl
    by_cases c : Bt k (i : Int) ≠ 0
    · rw [if_pos c] at es
      rw [show (Bt k (i : Int) != 0) = true from bne_iff_ne.mpr c]
      refine iteT ?_
      refine ⟨_, rfl, _, rfl, _, _, rfl, rfl, (by unfold CPow; exact ⟨by omega, by omega, by omega⟩), _, _, rfl, rfl, rfl, some (.int (0 + (i : Int))), ?_⟩
      rw [es]
      show [_, _, some (V.int (Builtin.bitOr (rowsW k i) (1 * 2 ^ ((0 : Int) + (i : Int)).toNat))), _] = _
      rw [Int.zero_add]
      rfl
    · rw [if_neg c] at es
      rw [show (Bt k (i : Int) != 0) = false from by rw [Decidable.not_not.mp c]; rfl]
      refine iteF ⟨rfl, some (.int (0 + (i : Int))), ?_⟩
      rw [es]
      rfl
  · obtain ⟨rfl, o, rfl⟩ := h
    exact ⟨_, rfl, q⟩
abbrev S_part_between : Stmt := top 42
abbrev N_part_between : List Str := ["sign", "left", "right", "many"]
abbrev P_part_between : List Str := ["sign", "left", "right", "many"]
theorem sc_part_between : FnScope N_part_between P_part_between (defScope S_part_between) := ⟨rfl, rfl, rfl, by decide +kernel, rfl, by decide +kernel, by decide +kernel⟩
theorem pBetw_sh (l r : Pt) (m : Nat) : pBetw [60, 60] l r m = shR l r m := rfl
theorem pBetw_mu (l r : Pt) (m : Nat) : pBetw [42] l r m = muR l r m := rfl
theorem pBetw_jo {s : Chs} (c : s = [38] ∨ s = [124] ∨ s = [94]) (l r : Pt) (m : Nat) : pBetw s l r m = pJoin s l r := if_pos c
theorem pBetw_su {s : Chs} (c : s = [43] ∨ s = [45]) (l r : Pt) (m : Nat) : pBetw s l r m = some (pSum s l r m) := by rcases c with rfl | rfl <;> rfl
theorem pBetw_no {s : Chs} (a : ¬ (s = [38] ∨ s = [124] ∨ s = [94])) (b : s ≠ [60, 60]) (c : s ≠ [42]) (d : ¬ (s = [43] ∨ s = [45])) (l r : Pt) (m : Nat) : pBetw s l r m = none := by
  unfold pBetw
  rw [if_neg a, if_neg b, if_neg c, if_neg d]
theorem in_jo (s : Chs) : inV (.str (txt s)) [V.str "&", V.str "|", V.str "^"] = decide (s = [38] ∨ s = [124] ∨ s = [94]) := by
  rw [show ([V.str "&", V.str "|", V.str "^"] : List V) = [[38], [124], [94]].map fun c => V.str (txt c) by rw [str_amp, str_bar, str_hat]; rfl, inV_txt, List.contains_eq_mem]
  refine decide_eq_decide.mpr ?_
  simp only [List.mem_cons, List.not_mem_nil, or_false]
theorem in_su (s : Chs) : inV (.str (txt s)) [V.str "+", V.str "-"] = decide (s = [43] ∨ s = [45]) := by
  rw [show ([V.str "+", V.str "-"] : List V) = [[43], [45]].map fun c => V.str (txt c) by rw [str_plus, str_minus]; rfl, inV_txt, List.contains_eq_mem]
  refine decide_eq_decide.mpr ?_
  simp only [List.mem_cons, List.not_mem_nil, or_false]
def spPb (K : PySem.W.Frag) : Sp := fun vs H Q _ => ∃ (s : Chs) (v u : V) (l r : Pt) (m : Nat) (tp : Addr → Prop), vs = [.str (txt s), v, u, .int (m : Int)] ∧ PtV K H tp v l ∧ PtV K H tp u r ∧ m ≤ 100 ∧ PB m l ∧ PB m r ∧ (∀ c, tp c → H c ≠ none) ∧ OptR K H tp (pBetw s l r m) Q
theorem ok_pbetw (F : Fun K "part_between" "part_between" S_part_between f fd) (Cjoined : Has P w K mg base 2 "joined" P_joined [] (spJo K)) (Cshifted : Has P w K mg base 3 "shifted" P_shifted [] (spSf K)) (Cmultiplied : Has P w K mg base 3 "multiplied" P_multiplied [] (spMu_ K)) (Csummed : Has P w K mg base 2 "summed" P_summed [] (spSu K)) : FnOk P w K mg base CX0 4 f fd P_part_between (spPb K) := by
  have nd := sc_part_between.nd
  refine F.ok sc_part_between (fun vs H Q E h => ?_) (fun cdv A outer s H vs Q E hr h => ?_)
  · obtain ⟨s, v, u, l, r, m, tp, rfl, _⟩ := h
    rfl
  obtain ⟨s, v, u, l, r, m, tp, rfl, hl, hr2, hm, pl, pr, ht, q⟩ := h
  refine ⟨_, (pss_cons (ps_if (pt_cmpR op_in_seq (pv 0) (pe_tup (pa_cons pe_str (pa_cons pe_str (pa_cons pe_str pa_nil)))) (by rfl)) (pss_one (ps_ret (pe_H Cjoined (hr.mono (by decide)) rfl (pa_cons (pv 0) (pa_cons (pv 1) (pa_cons (pv 2) pa_nil)))))) pss_nil)
    (pss_cons (ps_if (pt_cmpR op_eq (pv 0) pe_str (nomark _)) (pss_one (ps_ret (pe_H Cshifted (hr.mono (by decide)) rfl (pa_cons (pv 1) (pa_cons (pv 2) (pa_cons (pv 3) pa_nil)))))) pss_nil)
    (pss_cons (ps_if (pt_cmpR op_eq (pv 0) pe_str (nomark _)) (pss_one (ps_ret (pe_H Cmultiplied (hr.mono (by decide)) rfl (pa_cons (pv 1) (pa_cons (pv 2) (pa_cons (pv 3) pa_nil)))))) pss_nil)
    (pss_cons (ps_if (pt_cmpR op_in_seq (pv 0) (pe_tup (pa_cons pe_str (pa_cons pe_str pa_nil))) (by rfl)) (pss_one (ps_ret (pe_H Csummed (hr.mono (by decide)) rfl (pa_cons (pv 0) (pa_cons (pv 1) (pa_cons (pv 2) (pa_cons (pv 3) pa_nil))))))) pss_nil)
    (pss_one (ps_ret pe_non)))))), ?_⟩
  refine ⟨_, rfl, (by show 3 ≤ sizeLine; decide), fun p1 np1 => ?_⟩
  have s1 := Same.new (o := .tup [.str "&", .str "|", .str "^"]) np1
  refine ⟨p1, _, rfl, .inr (SqT.of upd_same), rfl, rfl, _, rfl, ?_⟩
  rw [in_jo]
  have ht1 : ∀ c, tp c → (upd H p1 (.tup [.str "&", .str "|", .str "^"])) c ≠ none := fun c hc h => ht c hc (s1.free h)
  refine iteD (fun c => ?_) (fun c => ?_)
  · have q' := q.from s1
    rw [pBetw_jo c] at q'
    exact ⟨_, rfl, _, rfl, _, rfl, s, v, u, l, r, tp, rfl, hl.same s1, hr2.same s1, q'⟩
  · refine ⟨_, rfl, rfl, _, rfl, ?_⟩
    rw [eq_txt str_shl]
    refine iteD (fun c2 => ?_) (fun c2 => ?_)
    · subst c2
      have q' := q.from s1
      rw [pBetw_sh] at q'
      exact ⟨_, rfl, _, rfl, _, rfl, v, u, l, r, m, tp, rfl, hl.same s1, hr2.same s1, hm, pl, ht1, q'⟩
    · refine ⟨_, rfl, rfl, _, rfl, ?_⟩
      rw [eq_txt str_star]
      refine iteD (fun c3 => ?_) (fun c3 => ?_)
      · subst c3
        have q' := q.from s1
        rw [pBetw_mu] at q'
        exact ⟨_, rfl, _, rfl, _, rfl, v, u, l, r, m, tp, rfl, hl.same s1, hr2.same s1, hm, pl, pr, ht1, q'⟩
      · refine ⟨_, rfl, (by show 2 ≤ sizeLine; decide), fun p2 np2 => ?_⟩
        have s2 := s1.trans (Same.new (o := .tup [.str "+", .str "-"]) np2)
        refine ⟨p2, _, rfl, .inr (SqT.of upd_same), rfl, rfl, _, rfl, ?_⟩
        rw [in_su]
        refine iteD (fun c4 => ?_) (fun c4 => ?_)
        · have q' := q.from s2
          rw [pBetw_su c4] at q'
          exact ⟨_, rfl, _, rfl, _, rfl, _, rfl, s, v, u, l, r, m, tp, rfl, hl.same s2, hr2.same s2, hm, pl, pr, (fun c hc h => ht c hc (s2.free h)), fun v' H' e d => q'.2 _ v' H' rfl e d⟩
        · exact q.1 _ s2 (pBetw_no c c2 c3 c4 l r m)
end
end Fb
/-! ### a dict made by a row within it, given to a name -/
namespace L2
open PySem
variable {X : Cx}
theorem sw_trueD {kx vx : Expr} {gs : List Comprehension} {scope : Scope} {pos py : Pos} {y : Str} {l : Nat} {env : Env} (hk : env.scope.kind = .function) (hy : env.scope.names.lookup y = some .local) (hl : (py.line == pos.line) = true)
    (ha : (scope.names.any fun (n, k) => n == y && (k == .local || k == .cell)) = false) : swapsWith (.DictComp kx vx gs scope pos) (some (.Name y py)) l env = pure true := by
  have ky : env.kindOf y = some .local := hy
  have hb : env.blockKind = .function := by unfold Env.blockKind; rw [hk]; rfl
  unfold swapsWith
  simp only [hb, ky, ha, Expr.pos, hl]
  rfl
theorem ps_setDc {i : Nat} {y : Str} {py : Pos} {kx vx tg iter : Expr} {ifs : List Expr} {scope : Scope} {own : List (Str × Nat)} {pos spos : Pos} {wi : TI} {g : TG} {tt : TT} {tk tv : TE} (hc : X.calm = true) (hN : X.N.Nodup) (hy : X.N[i]? = some y) (hyl : X.env.scope.names.lookup y = some .local)
    (hsw : swapsWith (.DictComp kx vx [⟨tg, iter, ifs, 0⟩] scope pos) (some (.Name y py)) spos.line X.env = pure true) (hi : PI X tg iter wi) (ok : BlkOk X.N X.env.scope scope own)
    (hg : ∀ (s : Shared) (H : Hp) (C : Addr) (cl : List (Str × Addr)) (fp : List Addr), PG (X.blk s H scope (compEnvC scope cl C X.env) fp) tg g) (ht : ∀ (s : Shared) (H : Hp) (C : Addr) (cl : List (Str × Addr)) (fp : List Addr), PTs (X.blk s H scope (compEnvC scope cl C X.env) fp) ifs tt)
    (hk : ∀ (s : Shared) (H : Hp) (C : Addr) (cl : List (Str × Addr)) (fp : List Addr), PE (X.blk s H scope (compEnvC scope cl C X.env) fp) kx tk)
    (he : ∀ (s : Shared) (H : Hp) (C : Addr) (cl : List (Str × Addr)) (fp : List Addr), PE (X.blk s H scope (compEnvC scope cl C X.env) fp) vx tv) (hs : ∀ x, foldedSetIterable iter X.env x = pure x := by intro _; rfl) :
    PS X (.Assign [.Name y py] (.DictComp kx vx [⟨tg, iter, ifs, 0⟩] scope pos) spos) (tAsg (tDc wi g tt tk tv (own.map (·.2))) (gName i)) := by
  refine ⟨fun pins s σ H D I h => ?_⟩
  rw [exec_Assign_Name_used _ _ _ _ hsw]
  refine wpAny_bind (wpAny_standAt (wpAny_bind ?_))
  show wpAny _ X.A (do let _ ← comprehension (.DictComp kx vx [⟨tg, iter, ifs, 0⟩] scope pos) scope X.env (firstIterPos [⟨tg, iter, ifs, 0⟩] pos) newDict false (eval iter X.env) (some (assign (.Name y py) X.env))) _ _ s
  have h : tDc wi g tt tk tv (own.map (·.2)) σ H (fun x H1 => gName i x σ H1 D.nx) := h
  refine wpAny_bind (thn (dc_core (Qf := fun _ s' => SP X pins D .next s') hc hN I hi ok hg ht hk he hs h fun L C s' m H' I' q hn f => ?_) fun _ s' hq => wpAny_pure (wpAny_pure hq))
  show wpAny _ _ (assign (.Name y py) X.env (.ref L)) _ _ _
  refine wpAny_assign_Name (store_ok2 (v := V.ref L) I' hN hy (.inl hyl) rfl (fun s2 I2 ⟨a, sb, ha⟩ => ?_) (.inr hyl))
  obtain ⟨f0, f1, f2, f3, f4, f5⟩ := f
  have haC : C ≠ a := by
    rcases ha with z | z
    · rw [z]; exact f1
    · exact fun e => f4 y a z e.symm
  refine ⟨m, hn.sameBut sb haC, fun h3 sb3 => ?_⟩
  exact ⟨_, H', I2.turned (t' := s2.toks) (fun b o hb e => (sb3.2 b hb).trans e) f0 f1 f3 f4 f5, q⟩
end L2
namespace Fb
open PySem L2 NdefX
/-- a list is no tuple -/
theorem tps_lst {K : PySem.W.Frag} {H : Hp} {c : Addr} {us : List V} {o : HO} (h : H c = some (.lst us)) : Tps K H (upd H c o) := fun a xs g => by
  have key : ∀ u, H a = some u → (∀ y, u ≠ .lst y) → upd H c o a = some u := fun u hu n => by
    by_cases z : a = c
    · subst z
      rw [h] at hu
      injection hu with hu
      exact absurd hu.symm (n _)
    · rw [upd_ne z]; exact hu
  rcases g with (g | ⟨w, g⟩) | g
  · exact .inl (.inl (key _ g fun _ z => by cases z))
  · exact .inl (.inr ⟨w, key _ g fun _ z => by cases z⟩)
  · exact .inr g
theorem PtV.upd {K : PySem.W.Frag} {H : Hp} {T : Addr → Prop} {v : V} {p : Pt} {c : Addr} {us : List V} {o : HO} (h : PtV K H T v p) (hc : H c = some (.lst us)) (ht : T c) : PtV K (upd H c o) T v p := by
  have t := tps_lst (K := K) (o := o) hc
  cases h with
  | whole a => exact .whole (t _ _ a)
  | bits a => exact .bits (t _ _ a)
  | sum a b n => exact .sum (t _ _ a) (by rw [upd_ne (by rintro rfl; exact n ht)]; exact b) n
def Ts.isNu : Ts → Bool
  | .num _ _ => true
  | _ => false
def Ts.isNa : Ts → Bool
  | .nam _ _ => true
  | _ => false
def Ts.isAh : Ts → Bool
  | .ah _ _ => true
  | _ => false
theorem ts_nu (t : Ts) : decide (V.str t.stp.k = V.str "number") = t.isNu := by
  cases t with
  | num _ _ => show decide (V.str kNUMBER = V.str "number") = true; decide +kernel
  | nam _ _ => show decide (V.str kNAME = V.str "number") = false; decide +kernel
  | ah _ _ => show decide (V.str kAHEAD = V.str "number") = false; decide +kernel
  | bt _ _ => show decide (V.str kBETWEEN = V.str "number") = false; decide +kernel
theorem ts_na (t : Ts) : decide (V.str t.stp.k = V.str "name") = t.isNa := by
  cases t with
  | num _ _ => show decide (V.str kNUMBER = V.str "name") = false; decide +kernel
  | nam _ _ => show decide (V.str kNAME = V.str "name") = true; decide +kernel
  | ah _ _ => show decide (V.str kAHEAD = V.str "name") = false; decide +kernel
  | bt _ _ => show decide (V.str kBETWEEN = V.str "name") = false; decide +kernel
theorem ts_ah (t : Ts) : decide (V.str t.stp.k = V.str "ahead") = t.isAh := by
  cases t with
  | num _ _ => show decide (V.str kNUMBER = V.str "ahead") = false; decide +kernel
  | nam _ _ => show decide (V.str kNAME = V.str "ahead") = false; decide +kernel
  | ah _ _ => show decide (V.str kAHEAD = V.str "ahead") = true; decide +kernel
  | bt _ _ => show decide (V.str kBETWEEN = V.str "ahead") = false; decide +kernel
/-- the rows of the names -/
def tmOf (ns : List Chs) : Chs → Option Int := fun c => if c ∈ ns then some (rowsW (ns.idxOf c) (2 ^ ns.length)) else none
theorem idx_get {ns : List Chs} (nd : ns.Nodup) {i : Nat} {c : Chs} (h : ns[i]? = some c) : ns.idxOf c = i := by
  obtain ⟨hi, rfl⟩ := List.getElem?_eq_some_iff.mp h
  exact nd.idxOf_getElem i hi
theorem pow5 {n : Nat} (h : n ≤ 5) : 2 ^ n ≤ 32 := Nat.pow_le_pow_right (by decide) h
section
variable {P : Program} {w : World} {K : PySem.W.Frag} {mg : Str → Option Value} {base : Heap} {f : Addr} {fd : FuncData} {C_NotLinear T_LONG_SIGNS T_NO_NAMES T_SIGNS_AHEAD T_STRENGTHS_OF_LEVELS : Addr}
abbrev S_weights_of : Stmt := top 37
abbrev N_weights_of : List Str := ["steps", "names", "many", "terms", "parts", "kind", "what", "place", "right", "left", "part", "k"]
abbrev P_weights_of : List Str := ["steps", "names"]
theorem sc_weights_of : FnScope N_weights_of P_weights_of (defScope S_weights_of) := ⟨rfl, rfl, rfl, by decide +kernel, rfl, by decide +kernel, by decide +kernel⟩
def spWo (K : PySem.W.Frag) (CN : Addr) : Sp := fun vs H Q E => ∃ (sa na : Addr) (us : List V) (ts : List Ts) (ns : List Chs), vs = [.ref sa, .ref na] ∧ H sa = some (.lst us) ∧ Bes (StV K H) us (ts.map Ts.stp) ∧ us.length ≤ 1000000 ∧ (∀ t ∈ ts, t.stp.p < 10 ^ 10) ∧ H na = some (.lst (ns.map fun c => V.str (txt c))) ∧ ns.Nodup ∧ ns.length ≤ 5 ∧ okW (2 ^ ns.length) (tmOf ns) ts [] ∧
  match runW (2 ^ ns.length) (tmOf ns) ts [] with
  | .err p => BadE CN E H p
  | .ok [p] => ∀ (s : Addr) (H' : Hp), Same H H' → H s = none → H' s = some (.lst ((wtsIn p (2 ^ ns.length)).map V.int)) → Q (.ref s) H'
  | _ => False
theorem ok_wo (X : ExpK K mg T_LONG_SIGNS T_NO_NAMES T_SIGNS_AHEAD T_STRENGTHS_OF_LEVELS) (L : LinG mg) (F : Fun K "weights_of" "weights_of" S_weights_of f fd) (B : Blt mg) (TN : Err P w K mg base "NotLinear" C_NotLinear ["place"] onePl) (Crows_with : Has P w K mg base 1 "rows_with" P_rows_with [] spRw) (Cweights_in : Has P w K mg base 1 "weights_in" P_weights_in [] (spWin K)) (Cpart_ahead : Has P w K mg base 2 "part_ahead" P_part_ahead [] (spAh K)) (Cpart_between : Has P w K mg base 4 "part_between" P_part_between [] (spPb K)) : FnOk P w K mg base (L2.CX P w) 5 f fd P_weights_of (spWo K C_NotLinear) := by
  have nd := sc_weights_of.nd
  obtain ⟨_, MG_WHOLE⟩ := L.w
  obtain ⟨_, MG_BITS⟩ := L.b
  obtain ⟨_, MG_AHEAD⟩ := X.kA
  obtain ⟨_, MG_NAME⟩ := X.kN
  obtain ⟨_, MG_NUMBER⟩ := X.kU
  refine F.okX sc_weights_of (fun vs H Q E h => ?_) (fun cdv A outer s H vs Q E hr h => ?_)
  · obtain ⟨sa, na, us, ts, ns, rfl, _⟩ := h
    rfl
  obtain ⟨sa, na, us, ts, ns, rfl, hsa, hst, hln, hpl, hna, nod, n5, okw, q⟩ := h
  refine ⟨_, (pss_cons (ps_set (i := 2) nd rfl (Or.inr rfl) (pe_op op_shl pe_int (pe_callB call_lenL (by rfl) B.len PySem.boot_len (pa_cons (pv 1) pa_nil))))
    (pss_cons (ps_setDc (i := 3) (own := [("k", 11)]) (g := gName 11) (tt := tYes) rfl nd rfl rfl (sw_trueD rfl rfl rfl (by decide +kernel)) (pi_range1 (by rfl) B.range (pa_cons (pe_callB call_lenL (by rfl) B.len PySem.boot_len (pa_cons (pv 1) pa_nil)) pa_nil)) (blkOk_by (own := [("k", 11)]) (N := N_weights_of) (sc := defScope S_weights_of) (by decide +kernel)) (fun _ _ _ _ _ => pg_name (i := 11) nd rfl (Or.inl rfl)) (fun _ _ _ _ _ => pts_nil) (fun _ _ _ _ _ => (pe_ix (ix_listK K) (pv 1) (pv 11) (fun _ _ => rfl))) (fun _ _ _ _ _ => (pe_H Crows_with (hr.mono (by decide)) rfl (pa_cons (pv 11) (pa_cons (pv 2) pa_nil)))))
    (pss_cons (ps_set (i := 4) nd rfl (Or.inl rfl) (pe_lst pa_nil))
    (pss_cons (ps_for (passes_of rfl) rfl (pi_list (pv 0)) (pg_tup rfl (pgs_cons (pg_name (i := 5) nd rfl (Or.inl rfl)) (pgs_cons (pg_name (i := 6) nd rfl (Or.inl rfl)) (pgs_cons (pg_name (i := 7) nd rfl (Or.inl rfl)) pgs_nil)))) (pss_one (ps_if (pt_cmpR op_eq (pv 5) (pe_glob (v := .str "number") rfl MG_NUMBER ⟨_, rfl⟩) (nomark _)) (pss_one (ps_expr (pe_bm PySem.F.plainAttrs_list PySem.F.slot_list_append PySem.F.type_list_append mt_append (pv 4) (pa_cons (pe_tup (pa_cons (pe_glob (v := .str "whole") rfl MG_WHOLE ⟨_, rfl⟩) (pa_cons (pv 6) pa_nil))) pa_nil)))) (pss_one (ps_if (pt_cmpR op_eq (pv 5) (pe_glob (v := .str "name") rfl MG_NAME ⟨_, rfl⟩) (nomark _)) (pss_one (ps_expr (pe_bm PySem.F.plainAttrs_list PySem.F.slot_list_append PySem.F.type_list_append mt_append (pv 4) (pa_cons (pe_tup (pa_cons (pe_glob (v := .str "bits") rfl MG_BITS ⟨_, rfl⟩) (pa_cons (pe_dget (hu_of hr) (pv 3) (pv 6) (fun _ _ => rfl)) pa_nil))) pa_nil)))) (pss_one (ps_if (pt_cmpR op_eq (pv 5) (pe_glob (v := .str "ahead") rfl MG_AHEAD ⟨_, rfl⟩) (nomark _)) (pss_one (ps_expr (pe_bm PySem.F.plainAttrs_list PySem.F.slot_list_append PySem.F.type_list_append mt_append (pv 4) (pa_cons (pe_H Cpart_ahead (hr.mono (by decide)) rfl (pa_cons (pv 6) (pa_cons (pe_bm0 PySem.F.plainAttrs_list PySem.F.slot_list_pop PySem.F.type_list_pop mt_pop (pv 4)) (pa_cons (pv 2) pa_nil)))) pa_nil)))) (pss_cons (ps_set (i := 8) nd rfl (Or.inl rfl) (pe_bm0 PySem.F.plainAttrs_list PySem.F.slot_list_pop PySem.F.type_list_pop mt_pop (pv 4)))
    (pss_cons (ps_set (i := 9) nd rfl (Or.inl rfl) (pe_bm0 PySem.F.plainAttrs_list PySem.F.slot_list_pop PySem.F.type_list_pop mt_pop (pv 4)))
    (pss_cons (ps_set (i := 10) nd rfl (Or.inl rfl) (pe_H Cpart_between (hr.mono (by decide)) rfl (pa_cons (pv 6) (pa_cons (pv 9) (pa_cons (pv 8) (pa_cons (pv 2) pa_nil))))))
    (C8.pss_cut (ps_if (pt_cmpR op_isN (pv 10) pe_non (nomark _)) (pss_one (ps_raise rfl (takes_of rfl rfl rfl rfl) (pmk_err TN (hr.mono (by decide)) rfl (pa_cons (pv 7) pa_nil)))) pss_nil)
    (pss_one (ps_expr (pe_bm PySem.F.plainAttrs_list PySem.F.slot_list_append PySem.F.type_list_append mt_append (pv 4) (pa_cons (pv 10) pa_nil)))))))))))))))
    (pss_one (ps_ret (pe_H Cweights_in (hr.mono (by decide)) rfl (pa_cons (pe_ix ix_list (pv 4) pe_int (fun _ _ => rfl)) (pa_cons (pv 2) pa_nil))))))))), ?_⟩
  have p5 := pow5 n5
  refine ⟨_, rfl, na, _, rfl, SqL.of hna, _, _, rfl, rfl, (by rw [List.length_map]; unfold CPow; exact ⟨by omega, by omega, by omega⟩), ?_⟩
  have em : (fun i j : Int => V.int (i * 2 ^ j.toNat)) 1 (((ns.map fun c => V.str (txt c)).length : Nat) : Int) = V.int (((2 ^ ns.length : Nat)) : Int) := by
    show V.int (1 * 2 ^ (((ns.map fun c => V.str (txt c)).length : Nat) : Int).toNat) = _
    rw [List.length_map, Int.toNat_natCast, Int.one_mul, Int.natCast_pow]
    rfl
  rw [em]
  generalize hm : 2 ^ ns.length = m at *
  refine ⟨_, rfl, na, _, rfl, SqL.of hna, _, rfl, (by rw [List.length_map]; omega), (by rw [List.length_map]; omega), fun D nD => ?_⟩
  rw [List.length_map]
  refine dc_range (lo := 0) (n := ns.length) (fun i H' => Same H H' ∧ ∃ kvs, H' D = some (.dK kvs) ∧ kvs.length ≤ i ∧ ∀ c, valV kvs (.inr (txt c)) = if c ∈ ns.take i then some (.int (rowsW (ns.idxOf c) m)) else none) ⟨Same.new nD, [], upd_same, Nat.le_refl _, fun c => by rw [List.take_zero, if_neg (List.not_mem_nil)]; rfl⟩ (fun i H' hi h => ?_) (fun H1 h => ?_)
  · obtain ⟨e, kvs, hD, hk, hv⟩ := h
    refine ⟨rfl, lcT ?_⟩
    obtain ⟨c, hc⟩ : ∃ c, ns[i]? = some c := ⟨_, List.getElem?_eq_getElem hi⟩
    have a1 : atI (ns.map fun c => V.str (txt c)) (0 + (i : Int)) = some (.str (txt c)) := by rw [Int.zero_add]; exact atI_nat (by rw [List.getElem?_map, hc]; rfl)
    refine ⟨_, rfl, _, rfl, na, _, _, _, rfl, rfl, SqL.of (e _ _ hna), a1, ?_⟩
    refine ⟨_, rfl, _, rfl, i, m, (by rw [Int.zero_add]; rfl), (by omega), (by omega), ?_⟩
    refine ⟨kvs, .inr (txt c), rfl, hD, Nat.lt_of_lt_of_le (show _ < 3000 by omega) (by decide), Same.mut e nD, _, upd_same, Nat.le_trans (length_putK _ _ _) (by omega), fun c' => ?_⟩
    have et : ns.take (i + 1) = ns.take i ++ [c] := by rw [List.take_add_one, hc]; rfl
    rw [valV_put, hv c', et]
    by_cases z : c' = c
    · subst z
      rw [if_pos rfl, if_pos (List.mem_append_right _ (List.mem_singleton.mpr rfl)), idx_get nod hc]
    · rw [if_neg (fun h => z (txt_inj.mp (Sum.inr.inj h)))]
      by_cases y : c' ∈ ns.take i
      · rw [if_pos y, if_pos (List.mem_append_left _ y)]
      · rw [if_neg y, if_neg (fun h => (List.mem_append.mp h).elim y fun h => z (List.mem_singleton.mp h))]
  obtain ⟨e1, kvs, hD, hk, hv⟩ := h
  replace hv : ∀ c, valV kvs (.inr (txt c)) = (tmOf ns c).map V.int := fun c => by
    rw [hv c, List.take_length]
    unfold tmOf
    rw [hm]
    split <;> rfl
  clear hk
  refine ⟨(by show 0 ≤ sizeLine; decide), fun p1 np1 => ?_⟩
  have nD' : ∀ {H'}, Same H1 H' → H' D = some (.dK kvs) := fun e => e _ _ hD
  let T : Addr → Prop := fun c => c = p1 ∨ H c ≠ none
  have hT : ∀ {H'}, Same H1 H' → (∃ us, H' p1 = some (.lst us)) → ∀ c, T c → H' c ≠ none := fun e h c hc => by
    rcases hc with rfl | hc
    · obtain ⟨us, h⟩ := h
      rw [h]
      exact fun z => by cases z
    · exact fun z => hc (e1.free (e.free z))
  have e0 : Same H1 (upd H1 p1 (.lst [])) := Same.new np1
  generalize hR : runW m (tmOf ns) ts [] = Rz at q
  refine ⟨_, rfl, sa, rfl, ⟨us, SqL.of (e0 _ _ (e1 _ _ hsa))⟩, ?_⟩
  refine for_list (xs := us) (fun i σ H' => Same H1 H' ∧ ∃ vs ps, H' p1 = some (.lst vs) ∧ Bes (PtV K H' T) vs ps.reverse ∧ runW m (tmOf ns) (ts.drop i) ps = Rz ∧ okW m (tmOf ns) (ts.drop i) ps ∧ (∀ p ∈ ps, PB m p) ∧ ps.length ≤ i ∧ ∃ a b c d e g, σ = [some (.ref sa), some (.ref na), some (.int (m : Int)), some (.ref D), some (.ref p1), a, b, c, d, e, g, none]) ⟨e0, [], [], upd_same, .nil, hR, okw, (fun p h => absurd h (List.not_mem_nil)), Nat.le_refl _, none, none, none, none, none, none, rfl⟩ (fun i σ H' _ h => SqL.of (h.1 _ _ (e1 _ _ hsa))) (fun i x σ H' hx h => ?_) (fun σ H' h => ?_)
  · obtain ⟨e, vs, ps, h1, h2, h3, h4, h5, h6, a, b, c, d, e', g, rfl⟩ := h
    obtain ⟨st, hs1, hs2⟩ := hst.get hx
    rw [List.getElem?_map] at hs1
    obtain ⟨t, ht, rfl⟩ := Option.map_eq_some_iff.mp hs1
    have il : i < us.length := (List.getElem?_eq_some_iff.mp hx).1
    obtain ⟨til, te⟩ := List.getElem?_eq_some_iff.mp ht
    rw [List.drop_eq_getElem_cons til, te] at h3 h4
    rw [runW_cons] at h3
    rw [okW_cons] at h4
    have vl : vs.length < sizeLine := by
      have := h2.len
      rw [List.length_reverse] at this
      exact Nat.lt_of_lt_of_le (show _ < 1000001 by omega) (by decide)
    obtain ⟨y, rfl, hy⟩ := hs2
    have hy' := (Nd.of (e1.trans e)).sqt hy
    refine ⟨y, _, rfl, hy', rfl, _, _, rfl, _, _, rfl, _, _, rfl, rfl, ?_⟩
    refine ⟨_, rfl, rfl, _, rfl, ?_⟩
    rw [ts_nu]
    cases t with
    | num z p =>
      refine iteT ?_
      refine ⟨_, rfl, .inl ⟨rfl, _, SqL.of h1⟩, _, rfl, (by show 2 ≤ sizeLine; decide), fun p2 np2 => ?_⟩
      have s2 := Same.new (o := .tup [.str "whole", .int z]) np2
      have h1' := s2 _ _ h1
      refine ⟨p1, _, _, rfl, rfl, h1', vl, Same.mut (e.trans s2) np1, _, .whole z :: ps, upd_same, ?_, h3, h4.2, h4.1, Nat.succ_le_succ h6, _, _, _, _, _, _, rfl⟩
      rw [List.reverse_cons]
      exact (h2.mono fun _ _ r => (r.same s2).upd h1' (.inl rfl)).app (.cons (PtV.upd (.whole (SqT.of upd_same)) h1' (.inl rfl)) .nil)
    | nam s p =>
      refine iteF ?_
      refine ⟨_, rfl, rfl, _, rfl, ?_⟩
      rw [ts_na]
      refine iteT ?_
      have es : stepW m (tmOf ns) (.nam s p) ps = match tmOf ns s with
        | some b => .ok (.bits b :: ps)
        | none => .bad := rfl
      cases hb : tmOf ns s with
      | none =>
        rw [es, hb] at h3
        rw [← h3] at q
        exact q.elim
      | some bb =>
        rw [es, hb] at h3 h4
        have dg : DGet H' D (.str (txt s)) (some (.int bb)) := by
          have := DGet.k (k := .inr (txt s)) (nD' e)
          rw [hv s, hb] at this
          exact this
        refine ⟨_, rfl, .inl ⟨rfl, _, SqL.of h1⟩, _, rfl, _, rfl, D, _, rfl, dg, (by show 2 ≤ sizeLine; decide), fun p2 np2 => ?_⟩
        have s2 := Same.new (o := .tup [.str "bits", .int bb]) np2
        have h1' := s2 _ _ h1
        refine ⟨p1, _, _, rfl, rfl, h1', vl, Same.mut (e.trans s2) np1, _, .bits bb :: ps, upd_same, ?_, h3, h4.2, h4.1, Nat.succ_le_succ h6, _, _, _, _, _, _, rfl⟩
        rw [List.reverse_cons]
        exact (h2.mono fun _ _ r => (r.same s2).upd h1' (.inl rfl)).app (.cons (PtV.upd (.bits (SqT.of upd_same)) h1' (.inl rfl)) .nil)
    | ah s p =>
      refine iteF ?_
      refine ⟨_, rfl, rfl, _, rfl, ?_⟩
      rw [ts_na]
      refine iteF ?_
      refine ⟨_, rfl, rfl, _, rfl, ?_⟩
      rw [ts_ah]
      refine iteT ?_
      cases ps with
      | nil =>
        have h3 : Wr.bad = Rz := h3
        rw [← h3] at q
        exact q.elim
      | cons pp ps =>
        rw [List.reverse_cons] at h2
        obtain ⟨vs', v, rfl, r1, r2⟩ := bes_last h2
        have hpb := h5 pp (List.mem_cons_self ..)
        refine ⟨_, rfl, .inl ⟨rfl, _, SqL.of h1⟩, _, rfl, _, rfl, .inl ⟨rfl, _, SqL.of h1⟩, p1, _, _, rfl, rfl, h1, (by rw [List.length_append, List.length_singleton, Nat.add_sub_cancel, List.getElem?_append_right (Nat.le_refl _), Nat.sub_self]; rfl), ?_⟩
        rw [List.dropLast_concat]
        have e2 : Same H1 (upd H' p1 (.lst vs')) := Same.mut e np1
        refine ⟨_, rfl, s, v, pp, m, T, rfl, r2.upd h1 (.inl rfl), (by omega), hpb.2.1, hT e2 ⟨_, upd_same⟩, fun v' H2 e3 d => ?_⟩
        have h1' := e3 _ _ (upd_same (H := H') (a := p1) (o := .lst vs'))
        have vl' : vs'.length < sizeLine := by rw [List.length_append] at vl; omega
        refine ⟨p1, _, _, rfl, rfl, h1', vl', Same.mut (e2.trans e3) np1, _, pAhead s pp m :: ps, upd_same, ?_, h3, h4.2, h4.1, Nat.le_succ_of_le h6, _, _, _, _, _, _, rfl⟩
        rw [List.reverse_cons]
        exact (r1.mono fun _ _ r => ((r.upd h1 (.inl rfl)).same e3).upd h1' (.inl rfl)).app (.cons (d.upd h1' (.inl rfl)) .nil)
    | bt s p =>
      refine iteF ?_
      refine ⟨_, rfl, rfl, _, rfl, ?_⟩
      rw [ts_na]
      refine iteF ?_
      refine ⟨_, rfl, rfl, _, rfl, ?_⟩
      rw [ts_ah]
      refine iteF ?_
      match ps, h2, h3, h4, h5, h6 with
      | [], _, h3, _, _, _ =>
        have h3 : Wr.bad = Rz := h3
        rw [← h3] at q
        exact q.elim
      | [_], _, h3, _, _, _ =>
        have h3 : Wr.bad = Rz := h3
        rw [← h3] at q
        exact q.elim
      | rr :: ll :: ps, h2, h3, h4, h5, h6 =>
        rw [List.reverse_cons, List.reverse_cons] at h2
        obtain ⟨vs1, v, rfl, r1, r2⟩ := bes_last h2
        obtain ⟨vs2, u, rfl, r3, r4⟩ := bes_last r1
        refine ⟨_, rfl, .inl ⟨rfl, _, SqL.of h1⟩, p1, _, _, rfl, rfl, h1, (by rw [List.length_append, List.length_singleton, Nat.add_sub_cancel, List.getElem?_append_right (Nat.le_refl _), Nat.sub_self]; rfl), ?_⟩
        rw [List.dropLast_concat]
        have h1' : upd H' p1 (.lst (vs2 ++ [u])) p1 = some (.lst (vs2 ++ [u])) := upd_same
        refine ⟨_, rfl, .inl ⟨rfl, _, SqL.of h1'⟩, p1, _, _, rfl, rfl, h1', (by rw [List.length_append, List.length_singleton, Nat.add_sub_cancel, List.getElem?_append_right (Nat.le_refl _), Nat.sub_self]; rfl), ?_⟩
        rw [List.dropLast_concat, upd_upd]
        have e2 : Same H1 (upd H' p1 (.lst vs2)) := Same.mut e np1
        have up : ∀ {v p}, PtV K H' T v p → PtV K (upd H' p1 (.lst vs2)) T v p := fun h => h.upd h1 (.inl rfl)
        have es : stepW m (tmOf ns) (.bt s p) (rr :: ll :: ps) = match pBetw s ll rr m with
          | some p => .ok (p :: ps)
          | none => .err p := rfl
        have vl2 : vs2.length < sizeLine := by rw [List.length_append, List.length_append] at vl; omega
        refine ⟨_, rfl, _, rfl, _, rfl, _, rfl, s, u, v, ll, rr, m, T, rfl, up r4, up r2, (by omega), h5 ll (List.mem_cons_of_mem _ (List.mem_cons_self ..)), h5 rr (List.mem_cons_self ..), hT e2 ⟨_, upd_same⟩, fun H2 e3 no => ?_, fun np v' H2 so e3 d => ?_⟩
        · rw [es, no] at h3
          have h3 : Wr.err p = Rz := h3
          rw [← h3] at q
          refine ⟨fun _ _ => False, ?_, fun _ _ h => h.elim⟩
          refine ⟨_, rfl, rfl, _, rfl, iteT ?_⟩
          exact ⟨_, rfl, err_mk rfl (by decide) ⟨p, rfl, hpl _ (List.mem_of_getElem? ht)⟩ fun dd hd => q H2 dd (e1.trans (e2.trans e3)) hd⟩
        · rw [es, so] at h3 h4
          refine ⟨fun σ H3 => H3 = H2 ∧ ∃ a b c, σ = [some (.ref sa), some (.ref na), some (.int (m : Int)), some (.ref D), some (.ref p1), a, b, c, some v, some u, some v', none], ?_, ?_⟩
          · obtain ⟨v0, v1, rfl, _⟩ := d.open_
            refine ⟨_, rfl, rfl, _, rfl, ?_⟩
            rw [show decide (V.ref v0 = V.non) = false from decide_eq_false (fun h => by cases h)]
            exact iteF ⟨rfl, _, _, _, rfl⟩
          rintro σ H3 ⟨rfl, a, b, c, rfl⟩
          have h1' := e3 _ _ (upd_same (H := H') (a := p1) (o := .lst vs2))
          refine ⟨_, rfl, .inl ⟨rfl, _, SqL.of h1'⟩, _, rfl, p1, _, _, rfl, rfl, h1', vl2, Same.mut (e2.trans e3) np1, _, np :: ps, upd_same, ?_, h3, h4.2, h4.1, ?_, _, _, _, _, _, _, rfl⟩
          · rw [List.reverse_cons]
            exact (r3.mono fun _ _ r => ((up r).same e3).upd h1' (.inl rfl)).app (.cons (d.upd h1' (.inl rfl)) .nil)
          · have : (rr :: ll :: ps).length ≤ i := h6
            show (np :: ps).length ≤ i + 1
            rw [List.length_cons] at this ⊢
            rw [List.length_cons] at this
            omega
  · obtain ⟨e, vs, ps, h1, h2, h3, h4, h5, h6, a, b, c, d, e', g, rfl⟩ := h
    have tl : ts.length = us.length := by rw [hst.len, List.length_map]
    rw [← tl, List.drop_length] at h3
    have h3 : Wr.ok ps = Rz := h3
    rw [← h3] at q
    match ps, h2, h5, q with
    | [], _, _, q => exact q.elim
    | _ :: _ :: _, _, _, q => exact q.elim
    | [p], h2, h5, q =>
      cases h2 with
      | cons r0 r1 =>
        cases r1
        refine ⟨_, rfl, p1, _, 0, _, rfl, rfl, SqL.of h1, atI_nat (j := 0) rfl, _, rfl, _, p, m, T, rfl, r0, (by omega), hT e ⟨_, h1⟩, fun s H2 e2 hs ns => ?_⟩
        exact q s H2 (e1.trans (e.trans e2)) (Decidable.byContradiction fun z => ns (.inr z)) hs
end
end Fb
namespace Fb
open PySem L2 NdefX PyProof.Rows
/-- the names in steps -/
def nmsOf (ts : List Ts) : List Chs := ts.filterMap fun t => match t with
  | .nam s _ => some s
  | _ => none
def BadN (C : Addr) (E : XK) (H : Hp) (n : Nat) : Prop := ∀ (H' : Hp) (a : Addr), Same H H' → H' a = none → E (.ref C) (some a) (upd H' a (.xd [("count", .int (n : Int))]))
structure IdG (K : PySem.W.Frag) (mg : Str → Option Value) (T_SIGNS : Addr) : Prop where
  m : ∃ t, mg "MOST_NAMES" = some (.int 5 t)
  s : mg "SIGNS" = some (.ref T_SIGNS)
  ss : ∀ H, SqT K H T_SIGNS ([[61, 61], [60, 61], [60], [62, 61], [62]].map fun c => V.str (txt c))
theorem keys_putK {κ : Type} [DecidableEq κ] (kvs : List (κ × V)) (k : κ) (v : V) : (putK kvs k v).map (·.1) = if k ∈ kvs.map (·.1) then kvs.map (·.1) else kvs.map (·.1) ++ [k] := by
  unfold putK
  have e : (kvs.any fun kv => decide (kv.1 = k)) = decide (k ∈ kvs.map (·.1)) := by
    rw [Bool.eq_iff_iff, List.any_eq_true, decide_eq_true_iff, List.mem_map]
    constructor
    · rintro ⟨x, h1, h2⟩
      exact ⟨x, h1, of_decide_eq_true h2⟩
    · rintro ⟨x, h1, h2⟩
      exact ⟨x, h1, decide_eq_true h2⟩
  rw [e]
  by_cases c : k ∈ kvs.map (·.1)
  · rw [if_pos (decide_eq_true c), if_pos c, List.map_map]
    refine List.map_congr_left fun x _ => ?_
    show (if x.1 = k then (x.1, v) else x).1 = x.1
    split <;> rfl
  · rw [if_neg (fun h => c (of_decide_eq_true h)), if_neg c, List.map_append]
    rfl
section
variable {P : Program} {w : World} {K : PySem.W.Frag} {mg : Str → Option Value} {base : Heap} {f : Addr} {fd : FuncData} {C_TooManyNames T_LONG_SIGNS T_NO_NAMES T_SIGNS_AHEAD T_STRENGTHS_OF_LEVELS T_SIGNS : Addr}
abbrev S_names_in : Stmt := top 58
abbrev N_names_in : List Str := ["steps", "found", "kind", "what", "_", "name"]
abbrev P_names_in : List Str := ["steps"]
theorem sc_names_in : FnScope N_names_in P_names_in (defScope S_names_in) := ⟨rfl, rfl, rfl, by decide +kernel, rfl, by decide +kernel, by decide +kernel⟩
/-- the names of steps in their order -/
structure NmL (ts : List Ts) (ns : List Chs) : Prop where
  nd : ns.Nodup
  mem : ∀ c, c ∈ ns ↔ c ∈ nmsOf ts
  so : sortedS (ns.map txt) = true
def spNi (K : PySem.W.Frag) (CN : Addr) : Sp := fun vs H Q E => ∃ (sa : Addr) (us : List V) (ts : List Ts), vs = [.ref sa] ∧ SqL K H sa us ∧ H sa ≠ none ∧ Bes (StV K H) us (ts.map Ts.stp) ∧ us.length ≤ 1000000 ∧ ∀ ks : List Chs, ks.Nodup → (∀ c, c ∈ ks ↔ c ∈ nmsOf ts) → (5 < ks.length → BadN CN E H ks.length) ∧
  ∀ ns : List Chs, ns.Perm ks → ks.length ≤ 5 → NmL ts ns → ∀ (s : Addr) (H' : Hp), Same H H' → H s = none → H' s = some (.lst (ns.map fun c => V.str (txt c))) → Q (.ref s) H'
theorem ok_ni (X : ExpK K mg T_LONG_SIGNS T_NO_NAMES T_SIGNS_AHEAD T_STRENGTHS_OF_LEVELS) (I : IdG K mg T_SIGNS) (F : Fun K "names_in" "names_in" S_names_in f fd) (B : Blt mg) (TM : Err P w K mg base "TooManyNames" C_TooManyNames ["count"] onePl) : FnOk P w K mg base (L2.CX P w) 5 f fd P_names_in (spNi K C_TooManyNames) := by
  have nd := sc_names_in.nd
  obtain ⟨_, MG_MOST_NAMES⟩ := I.m
  obtain ⟨_, MG_NAME⟩ := X.kN
  refine F.okX sc_names_in (fun vs H Q E h => ?_) (fun cdv A outer s H vs Q E hr h => ?_)
  · obtain ⟨sa, us, ts, rfl, _⟩ := h
    rfl
  obtain ⟨sa, us, ts, rfl, hsa, hsn, hst, hln, q⟩ := h
  refine ⟨_, (pss_cons (ps_set (i := 1) nd rfl (Or.inl rfl) pe_dnewK)
    (pss_cons (ps_for (passes_of rfl) rfl (pi_list (pv 0)) (pg_tup rfl (pgs_cons (pg_name (i := 2) nd rfl (Or.inl rfl)) (pgs_cons (pg_name (i := 3) nd rfl (Or.inl rfl)) (pgs_cons (pg_name (i := 4) nd rfl (Or.inl rfl)) pgs_nil)))) (pss_one (ps_if (pt_cmpR op_eq (pv 2) (pe_glob (v := .str "name") rfl MG_NAME ⟨_, rfl⟩) (nomark _)) (pss_one (ps_dput (hu_of hr) (pv 1) (pv 3) pe_bl rfl)) pss_nil)))
    (C8.pss_cut (ps_if (pt_cmpR op_gt (pe_callB call_lenD (by rfl) B.len PySem.boot_len (pa_cons (pv 1) pa_nil)) (pe_glob (v := .int 5) rfl MG_MOST_NAMES ⟨_, rfl⟩) (nomark _)) (pss_one (ps_raise rfl (takes_of rfl rfl rfl rfl) (pmk_err TM (hr.mono (by decide)) rfl (pa_cons (pe_callB call_lenD (by rfl) B.len PySem.boot_len (pa_cons (pv 1) pa_nil)) pa_nil)))) pss_nil)
    (pss_one (ps_ret (pe_callB cr_sortedS (by rfl) B.sorted (by decide +kernel) (pa_cons (pe_lock (pe_lc (own := [("name", 5)]) (g := gName 5) (tt := tYes) rfl nd (pi_keys (pv 1)) (blkOk_by (own := [("name", 5)]) (N := N_names_in) (sc := defScope S_names_in) (by decide +kernel)) (fun _ _ _ _ _ => pg_name (i := 5) nd rfl (Or.inl rfl)) (fun _ _ _ _ _ => pts_nil) (fun _ _ _ _ _ => (pe_callTy SkE.call_str_str (by rfl) B.str (by decide +kernel) (pa_cons (pv 5) pa_nil))))) pa_nil))))))), ?_⟩
  refine fun D nD => ?_
  have e0 : Same H (upd H D (.dK [])) := Same.new nD
  refine ⟨_, rfl, sa, rfl, ⟨us, (Nd.of e0).sql hsa⟩, ?_⟩
  refine for_list (xs := us) (fun i σ H' => Same H H' ∧ ∃ kvs ks, H' D = some (.dK kvs) ∧ kvs.map (·.1) = ks.map (fun c => (Sum.inr (txt c) : Key)) ∧ ks.Nodup ∧ ks.length ≤ i ∧ (∀ c, c ∈ ks ↔ c ∈ nmsOf (ts.take i)) ∧ ∃ a b c, σ = [some (.ref sa), some (.ref D), a, b, c, none]) ⟨e0, [], [], upd_same, rfl, List.nodup_nil, Nat.le_refl _, (fun c => by rw [List.take_zero]; rfl), none, none, none, rfl⟩ (fun i σ H' _ h => (Nd.of h.1).sql hsa) (fun i x σ H' hx h => ?_) (fun σ H' h => ?_)
  · obtain ⟨e, kvs, ks, h1, h2, h3, h4, h5, a, b, c, rfl⟩ := h
    obtain ⟨st, hs1, hs2⟩ := hst.get hx
    rw [List.getElem?_map] at hs1
    obtain ⟨t, ht, rfl⟩ := Option.map_eq_some_iff.mp hs1
    have il : i < us.length := (List.getElem?_eq_some_iff.mp hx).1
    obtain ⟨y, rfl, hy⟩ := hs2
    have hy' := (Nd.of e).sqt hy
    have et : ts.take (i + 1) = ts.take i ++ [t] := by rw [List.take_add_one, ht]; rfl
    have en : nmsOf (ts.take (i + 1)) = nmsOf (ts.take i) ++ nmsOf [t] := by rw [et]; exact List.filterMap_append
    refine ⟨y, _, rfl, hy', rfl, _, _, rfl, _, _, rfl, _, _, rfl, rfl, ?_⟩
    refine ⟨_, rfl, rfl, _, rfl, ?_⟩
    rw [ts_na]
    have other : nmsOf [t] = [] → ∀ c, c ∈ ks ↔ c ∈ nmsOf (ts.take (i + 1)) := fun h c => by rw [en, h, List.append_nil]; exact h5 c
    cases t with
    | num z p => exact iteF ⟨e, kvs, ks, h1, h2, h3, Nat.le_succ_of_le h4, other rfl, _, _, _, rfl⟩
    | ah z p => exact iteF ⟨e, kvs, ks, h1, h2, h3, Nat.le_succ_of_le h4, other rfl, _, _, _, rfl⟩
    | bt z p => exact iteF ⟨e, kvs, ks, h1, h2, h3, Nat.le_succ_of_le h4, other rfl, _, _, _, rfl⟩
    | nam s p =>
      refine iteT ?_
      have kl : kvs.length = ks.length := by
        have := congrArg List.length h2
        rw [List.length_map, List.length_map] at this
        exact this
      refine ⟨_, rfl, _, rfl, D, _, rfl, DPut.k (k := .inr (txt s)) h1 (Nat.lt_of_lt_of_le (show _ < 1000001 by omega) (by decide)), ?_⟩
      have km : (Sum.inr (txt s) : Key) ∈ kvs.map (·.1) ↔ s ∈ ks := by
        rw [h2, List.mem_map]
        constructor
        · rintro ⟨c, hc, ee⟩
          have := txt_inj.mp (Sum.inr.inj ee)
          exact this ▸ hc
        · exact fun h => ⟨s, h, rfl⟩
      have kk := keys_putK kvs (Sum.inr (txt s) : Key) (.bl true)
      have en' : nmsOf (ts.take (i + 1)) = nmsOf (ts.take i) ++ [s] := en
      by_cases c0 : s ∈ ks
      · rw [if_pos (km.mpr c0)] at kk
        refine ⟨Same.mut e nD, _, ks, upd_same, kk.trans h2, h3, Nat.le_succ_of_le h4, fun c => ?_, _, _, _, rfl⟩
        rw [en', List.mem_append, ← h5 c, List.mem_singleton]
        exact ⟨.inl, fun h => h.elim id fun h => h ▸ c0⟩
      · rw [if_neg (fun h => c0 (km.mp h)), h2] at kk
        refine ⟨Same.mut e nD, _, ks ++ [s], upd_same, kk.trans (by rw [List.map_append]; rfl), ?_, (by rw [List.length_append]; exact Nat.succ_le_succ h4), fun c => ?_, _, _, _, rfl⟩
        · refine List.nodup_append.mpr ⟨h3, List.nodup_cons.mpr ⟨List.not_mem_nil, List.nodup_nil⟩, fun a ha b hb => ?_⟩
          rw [List.mem_singleton] at hb
          subst hb
          exact fun h => c0 (h ▸ ha)
        · rw [en', List.mem_append, List.mem_append, h5 c]
  obtain ⟨e, kvs, ks, h1, h2, h3, h4, h5, a, b, c, rfl⟩ := h
  have tl : ts.length = us.length := by rw [hst.len, List.length_map]
  rw [← tl, List.take_length] at h5
  have kl : kvs.length = ks.length := by
    have := congrArg List.length h2
    rw [List.length_map, List.length_map] at this
    exact this
  obtain ⟨q1, q2⟩ := q ks h3 h5
  refine ⟨fun σ H2 => σ = [some (.ref sa), some (.ref D), a, b, c, none] ∧ H2 = H' ∧ ks.length ≤ 5, ?_, ?_⟩
  · refine ⟨_, rfl, D, kvs, rfl, h1, _, _, rfl, rfl, _, rfl, ?_⟩
    refine iteD (fun c => ?_) (fun c => ?_)
    · refine ⟨_, rfl, D, kvs, rfl, h1, err_mk rfl (by decide) ⟨kvs.length, rfl, ?_⟩ fun dd hd => ?_⟩
      · have : ks.length ≤ 1000000 := by omega
        omega
      · rw [kl]
        exact q1 (by omega) H' dd e hd
    · exact ⟨rfl, rfl, by omega⟩
  rintro σ H2 ⟨rfl, rfl, k5⟩
  refine ⟨D, _, h1, trivial, fun od => ?_⟩
  refine ⟨_, rfl, D, od, rfl, .inl ⟨kvs, upd_same, fun Z nZ => ?_⟩⟩
  have zD : Z ≠ D := by rintro rfl; rw [upd_same] at nZ; cases nZ
  have nZ' : H2 Z = none := by rw [upd_ne zD] at nZ; exact nZ
  refine lc_it (walk_keys (kvs := kvs)) (fun i H' => ((∀ a, a ≠ Z → H' a = upd H2 D (.frz od (.dK kvs)) a) ∧ H' Z = some (.lst (((ks.take i).map txt).map V.str)))) ⟨fun a ha => by rw [upd_ne ha], upd_same⟩ (fun i H' _ h => by rw [h.1 D zD.symm, upd_same]) (fun i x H' H3 hi p hy => ?_) (fun H' h => ?_)
  · obtain ⟨p1, p2⟩ := p
    obtain ⟨rfl, k, v, hk, rfl⟩ := hy
    obtain ⟨c, hc⟩ : ∃ c, ks[i]? = some c := ⟨_, List.getElem?_eq_getElem (by omega)⟩
    have kc : k = .inr (txt c) := by
      have h := congrArg (fun l => l[i]?) h2
      have h : (kvs.map (·.1))[i]? = (ks.map fun c => (Sum.inr (txt c) : Key))[i]? := h
      rw [List.getElem?_map, List.getElem?_map, hk, hc] at h
      injection h
    subst kc
    refine ⟨rfl, lcT ?_⟩
    refine ⟨_, rfl, _, rfl, _, p2, ?_, fun a ha => ?_, ?_⟩
    · rw [List.length_map, List.length_map, List.length_take]
      exact Nat.lt_of_lt_of_le (show _ < 3000 by omega) (by decide)
    · rw [upd_ne ha]; exact p1 a ha
    · rw [upd_same, List.take_add_one, hc, List.map_append, List.map_append]
      rfl
  · obtain ⟨p1, p2⟩ := h
    rw [kl, List.take_length] at p2
    refine ⟨by rw [p1 D zD.symm, upd_same], ?_⟩
    have hz : upd H' D (.dK kvs) Z = some (.lst ((ks.map txt).map V.str)) := by rw [upd_ne zD]; exact p2
    have es : Same H2 (upd H' D (.dK kvs)) := fun a o ha => by
      by_cases y : a = D
      · subst y; rw [upd_same, ← ha, h1]
      · rw [upd_ne y, p1 a (by rintro rfl; rw [nZ'] at ha; cases ha), upd_ne y]; exact ha
    refine ⟨Z, ks.map txt, rfl, SqL.of hz, (by rw [List.length_map]; omega), fun ys p3 hp hs np3 => ?_⟩
    have ey : ys = (ys.map fun z => z.cps.toList).map txt := by
      rw [List.map_map]
      exact (List.map_congr_left (g := id) fun z _ => (txt_of z)).trans (List.map_id _) |>.symm
    have pe : (ys.map fun z => z.cps.toList).Perm ks := by
      have := hp.map fun z : Str => z.cps.toList
      rw [List.map_map] at this
      exact this.trans (List.Perm.of_eq ((List.map_congr_left (g := id) fun z _ => rfl).trans (List.map_id _)))
    have s3 := Same.new (o := .lst (ys.map V.str)) np3
    refine q2 _ pe k5 ⟨pe.nodup_iff.mpr h3, fun c => (pe.mem_iff).trans (h5 c), by rw [← ey]; exact hs⟩ p3 _ (e.trans (es.trans s3)) (e.free (es.free np3)) ?_
    rw [upd_same]
    congr 2
    refine (congrArg (List.map V.str) ey).trans ?_
    rw [List.map_map]
    rfl
end
end Fb
namespace Fb
open PySem L2
/-! ### carries, segment by segment of the shorter one -/
/-- the place at which the carry turns, if there is one: the bit of the few is `bit`, the carry is the other one -/
def turnAt (B : List Int) (bit sta : Nat) : Option Int := if cnt B sta % 2 = bit then some (sta : Int) else B[cnt B sta]?
def carL (B : List Int) : List Int → Nat → Nat → Nat → List Int
  | [], bit, sta, bin => if bit = bin then [] else match turnAt B bit sta with
    | none => []
    | some p => [p + 1]
  | a :: A, bit, sta, bin => if bit = bin then carL B A (1 - bit) a.toNat bin else match turnAt B bit sta with
    | none => carL B A (1 - bit) a.toNat bin
    | some p => if p < a then (p + 1) :: carL B A (1 - bit) a.toNat bit else carL B A (1 - bit) a.toNat bin
section
variable {x y k : Int} {B : List Int}
/-- within a segment: the carry is bin up to the place, then bit -/
theorem seg_carry (hB : B.Pairwise (· < ·)) (hy : ∀ p : Nat, Bt p y = (cnt B (p : Int) % 2 : Nat)) {bit sta bin : Nat} (h1 : bit ≤ 1) (h2 : bin ≤ 1) (hs : cr x y k sta = bin) (e : Option Int)
    (hx : ∀ p : Nat, sta ≤ p → (∀ a, e = some a → (p : Int) < a) → Bt p x = bit) :
    ∀ d : Nat, (∀ a, e = some a → ((sta + d : Nat) : Int) ≤ a) → cr x y k (sta + d) = if bit = bin then (bin : Int) else match turnAt B bit sta with
      | none => (bin : Int)
      | some q => if q < ((sta + d : Nat) : Int) then (bit : Int) else bin
  | 0, _ => by
    rw [Nat.add_zero, hs]
    split
    · rfl
    · split
      · rfl
      · rename_i q hq
        have : (sta : Int) ≤ q := by
          unfold turnAt at hq
          split at hq
          · cases hq; exact Int.le_refl _
          · have hm : q ∈ B.drop (cnt B (sta : Int)) := by
              rw [List.getElem?_eq_some_iff] at hq
              obtain ⟨hl, hq⟩ := hq
              rw [← hq]
              exact List.mem_drop_iff_getElem.mpr ⟨0, by simpa using hl, by simp⟩
            have := (split3 (sta : Int) hB).2.2.1 q hm
            omega
        rw [if_neg (by omega)]
  | d + 1, hd => by
    have ih := seg_carry hB hy h1 h2 hs e hx d fun a ha => by have := hd a ha; omega
    have hxp := hx (sta + d) (by omega) fun a ha => by have := hd a ha; omega
    have hyp := hy (sta + d)
    show maj (Bt (sta + d) x) (Bt (sta + d) y) (cr x y k (sta + d)) = _
    rw [hxp, hyp]
    by_cases hb : bit = bin
    · rw [if_pos hb] at ih ⊢
      rw [ih, hb]
      unfold maj
      omega
    · rw [if_neg hb] at ih ⊢
      cases ht : turnAt B bit sta with
      | none =>
        rw [ht] at ih
        dsimp only at ih ⊢
        rw [ih]
        unfold turnAt at ht
        split at ht
        · cases ht
        · rename_i hne
          have hl : B.length ≤ cnt B (sta : Int) := List.getElem?_eq_none_iff.mp ht
          have : cnt B ((sta + d : Nat) : Int) = cnt B (sta : Int) := by
            have := (drop_cnt hB (show (sta : Int) ≤ ((sta + d : Nat) : Int) by omega)).2
            have := cnt_le B ((sta + d : Nat) : Int)
            omega
          rw [this]
          unfold maj
          omega
      | some q =>
        rw [ht] at ih
        dsimp only at ih ⊢
        rw [ih]
        unfold turnAt at ht
        split at ht
        · rename_i he
          cases ht
          rw [if_pos (show (sta : Int) < ((sta + (d + 1) : Nat) : Int) by omega)]
          by_cases hd0 : d = 0
          · subst hd0
            rw [if_neg (by simp), Nat.add_zero, he]
            unfold maj
            omega
          · rw [if_pos (by omega)]
            unfold maj
            omega
        · rename_i hne
          obtain ⟨hl, hq⟩ := List.getElem?_eq_some_iff.mp ht
          have hm : q ∈ B.drop (cnt B (sta : Int)) := by
            rw [← hq]
            exact List.mem_drop_iff_getElem.mpr ⟨0, by simpa using hl, by simp⟩
          have hsq := (split3 (sta : Int) hB).2.2.1 q hm
          by_cases c1 : q < ((sta + d : Nat) : Int)
          · rw [if_pos c1, if_pos (show q < ((sta + (d + 1) : Nat) : Int) by omega)]
            unfold maj
            omega
          · rw [if_neg c1]
            have dr : B.drop (cnt B (sta : Int)) = q :: B.drop (cnt B (sta : Int) + 1) := by
              rw [List.drop_eq_getElem_cons hl, hq]
            have hp := hB.sublist (List.drop_sublist (cnt B (sta : Int)) B)
            rw [dr] at hp
            obtain ⟨g1, g2⟩ := List.pairwise_cons.mp hp
            have dc := drop_cnt hB (show (sta : Int) ≤ ((sta + d : Nat) : Int) by omega)
            rw [dr, cnt_cons] at dc
            by_cases c2 : q = ((sta + d : Nat) : Int)
            · rw [if_pos (show q < ((sta + (d + 1) : Nat) : Int) by omega)]
              rw [cnt_zero (l := B.drop _) fun t ht => by have := g1 t ht; omega, if_pos (show q ≤ ((sta + d : Nat) : Int) by omega)] at dc
              unfold maj
              omega
            · rw [if_neg (show ¬ q < ((sta + (d + 1) : Nat) : Int) by omega)]
              rw [cnt_zero (l := B.drop _) fun t ht => by have := g1 t ht; omega, if_neg (show ¬ q ≤ ((sta + d : Nat) : Int) by omega)] at dc
              unfold maj
              omega
theorem turn_ge (hB : B.Pairwise (· < ·)) {bit sta : Nat} {q : Int} (ht : turnAt B bit sta = some q) : (sta : Int) ≤ q ∧ (q = sta ∨ q ∈ B) := by
  unfold turnAt at ht
  split at ht
  · cases ht; exact ⟨Int.le_refl _, .inl rfl⟩
  · have hm : q ∈ B.drop (cnt B (sta : Int)) := by
      obtain ⟨hl, hq⟩ := List.getElem?_eq_some_iff.mp ht
      rw [← hq]
      exact List.mem_drop_iff_getElem.mpr ⟨0, by simpa using hl, by simp⟩
    have := (split3 (sta : Int) hB).2.2.1 q hm
    exact ⟨by omega, .inr (List.mem_of_mem_drop hm)⟩
theorem carL_ok (hB : B.Pairwise (· < ·)) (hy : ∀ p : Nat, Bt p y = (cnt B (p : Int) % 2 : Nat)) : ∀ {A : List Int} {bit sta bin : Nat}, A.Pairwise (· < ·) → (∀ a ∈ A, (sta : Int) ≤ a) → bit ≤ 1 → bin ≤ 1 → cr x y k sta = bin →
    (∀ p : Nat, sta ≤ p → Bt p x = ((bit + cnt A (p : Int)) % 2 : Nat)) →
    (carL B A bit sta bin).Pairwise (· < ·) ∧ (∀ t ∈ carL B A bit sta bin, (sta : Int) < t ∧ (t - 1 = sta ∨ t - 1 ∈ B ∨ t - 1 ∈ A)) ∧ ∀ p : Nat, sta ≤ p → cr x y k p = ((bin + cnt (carL B A bit sta bin) (p : Int)) % 2 : Nat)
  | [], bit, sta, bin, _, _, h1, h2, hs, hx => by
    have seg := seg_carry hB hy h1 h2 hs none fun p hp _ => by
      rw [hx p hp, cnt_nil]; omega
    rw [show carL B [] bit sta bin = (if bit = bin then [] else match turnAt B bit sta with | none => [] | some p => [p + 1]) from rfl]
    by_cases hb : bit = bin
    · rw [if_pos hb]
      refine ⟨.nil, (fun t ht => by cases ht), fun p hp => ?_⟩
      have := seg (p - sta) (fun a ha => by cases ha)
      rw [if_pos hb, show sta + (p - sta) = p by omega] at this
      rw [this, cnt_nil]; omega
    · rw [if_neg hb]
      cases ht : turnAt B bit sta with
      | none =>
        refine ⟨.nil, (fun t ht => by cases ht), fun p hp => ?_⟩
        have := seg (p - sta) (fun a ha => by cases ha)
        rw [if_neg hb, ht, show sta + (p - sta) = p by omega] at this
        dsimp only at this ⊢
        rw [this, cnt_nil]; omega
      | some q =>
        obtain ⟨g1, g2⟩ := turn_ge hB ht
        refine ⟨by simp, fun t ht => ?_, fun p hp => ?_⟩
        · rw [List.mem_singleton.mp ht]
          refine ⟨by omega, ?_⟩
          rw [show q + 1 - 1 = q by omega]
          exact g2.imp id .inl
        · have := seg (p - sta) (fun a ha => by cases ha)
          rw [if_neg hb, ht, show sta + (p - sta) = p by omega] at this
          dsimp only at this ⊢
          rw [this, cnt_cons, cnt_nil]
          by_cases c : q < (p : Int)
          · rw [if_pos c, if_pos (by omega)]; omega
          · rw [if_neg c, if_neg (by omega)]; omega
  | a :: A, bit, sta, bin, hA, hs0, h1, h2, hs, hx => by
    obtain ⟨a1, a2⟩ := List.pairwise_cons.mp hA
    have ha0 := hs0 a List.mem_cons_self
    have ea : ((a.toNat : Nat) : Int) = a := by omega
    have seg := seg_carry hB hy h1 h2 hs (some a) fun p hp hlt => by
      have := hlt a rfl
      rw [hx p hp, cnt_cons, if_neg (by omega), cnt_zero fun t ht => by have := a1 t ht; omega]; omega
    have hx' : ∀ p : Nat, a.toNat ≤ p → Bt p x = ((1 - bit + cnt A (p : Int)) % 2 : Nat) := fun p hp => by
      rw [hx p (by omega), cnt_cons, if_pos (by omega)]
      congr 1
      omega
    have hA' : ∀ t ∈ A, ((a.toNat : Nat) : Int) ≤ t := fun t ht => by have := a1 t ht; omega
    have mid : ∀ p : Nat, sta ≤ p → (p : Int) ≤ a → cr x y k p = if bit = bin then (bin : Int) else match turnAt B bit sta with
      | none => (bin : Int)
      | some q => if q < (p : Int) then (bit : Int) else bin := fun p hp hpa => by
      have := seg (p - sta) (fun b hb => by cases hb; omega)
      rw [show sta + (p - sta) = p by omega] at this
      exact this
    have atA := mid a.toNat (by omega) (by omega)
    -- the rest with the carry bin
    have same : cr x y k a.toNat = bin → (∀ p : Nat, sta ≤ p → (p : Int) ≤ a → cr x y k p = bin) → (carL B A (1 - bit) a.toNat bin).Pairwise (· < ·) ∧ (∀ t ∈ carL B A (1 - bit) a.toNat bin, (sta : Int) < t ∧ (t - 1 = sta ∨ t - 1 ∈ B ∨ t - 1 ∈ a :: A)) ∧
        ∀ p : Nat, sta ≤ p → cr x y k p = ((bin + cnt (carL B A (1 - bit) a.toNat bin) (p : Int)) % 2 : Nat) := fun ca seg' => by
      obtain ⟨i1, i2, i3⟩ := carL_ok hB hy (sta := a.toNat) a2 hA' (by omega : 1 - bit ≤ 1) h2 ca hx'
      refine ⟨i1, fun t ht => ?_, fun p hp => ?_⟩
      · obtain ⟨j1, j2⟩ := i2 t ht
        refine ⟨by omega, ?_⟩
        rcases j2 with j | j | j
        · exact .inr (.inr (List.mem_cons.mpr (.inl (by omega))))
        · exact .inr (.inl j)
        · exact .inr (.inr (List.mem_cons_of_mem _ j))
      · by_cases c : (p : Int) ≤ a
        · rw [seg' p hp c, cnt_zero fun t ht => by have := (i2 t ht).1; omega]; omega
        · exact i3 p (by omega)
    rw [show carL B (a :: A) bit sta bin = (if bit = bin then carL B A (1 - bit) a.toNat bin else match turnAt B bit sta with | none => carL B A (1 - bit) a.toNat bin | some p => if p < a then (p + 1) :: carL B A (1 - bit) a.toNat bit else carL B A (1 - bit) a.toNat bin) from rfl]
    by_cases hb : bit = bin
    · simp only [if_pos hb] at mid atA ⊢
      exact same atA mid
    · simp only [if_neg hb] at mid atA ⊢
      cases ht : turnAt B bit sta with
      | none =>
        simp only [ht] at mid atA ⊢
        exact same atA mid
      | some q =>
        obtain ⟨g1, g2⟩ := turn_ge hB ht
        simp only [ht] at mid atA ⊢
        by_cases c : q < a
        · rw [if_pos c]
          rw [if_pos (by omega)] at atA
          obtain ⟨i1, i2, i3⟩ := carL_ok hB hy (sta := a.toNat) a2 hA' (by omega : 1 - bit ≤ 1) h1 atA hx'
          refine ⟨List.pairwise_cons.mpr ⟨fun t ht => by have := (i2 t ht).1; omega, i1⟩, fun t ht => ?_, fun p hp => ?_⟩
          · rcases List.mem_cons.mp ht with rfl | ht
            · refine ⟨by omega, ?_⟩
              rw [show q + 1 - 1 = q by omega]
              exact g2.imp id .inl
            · obtain ⟨j1, j2⟩ := i2 t ht
              refine ⟨by omega, ?_⟩
              rcases j2 with j | j | j
              · exact .inr (.inr (List.mem_cons.mpr (.inl (by omega))))
              · exact .inr (.inl j)
              · exact .inr (.inr (List.mem_cons_of_mem _ j))
          · rw [cnt_cons]
            by_cases cp : (p : Int) ≤ a
            · rw [mid p hp cp, cnt_zero fun t ht => by have := (i2 t ht).1; omega]
              by_cases cq : q < (p : Int)
              · rw [if_pos cq, if_pos (by omega)]; omega
              · rw [if_neg cq, if_neg (by omega)]; omega
            · rw [i3 p (by omega), if_pos (by omega)]
              congr 1
              omega
        · rw [if_neg c]
          refine same ?_ fun p hp hpa => ?_
          · rw [if_neg (by omega)] at atA; exact atA
          · rw [mid p hp hpa, if_neg (by omega)]
end
/-- the list of the carry's turns -/
def carT (A B : List Int) (k : Nat) : List Int := (if k = 1 then [0] else []) ++ carL B A 0 0 k
theorem carT_ok (x y : Int) {k : Nat} (hk : k ≤ 1) : ∃ c : Int, carT (Tl x) (Tl y) k = Tl c ∧ (∀ t ∈ Tl c, t = 0 ∨ t - 1 = 0 ∨ t - 1 ∈ Tl y ∨ t - 1 ∈ Tl x) ∧ Builtin.bitXor (Builtin.bitXor x c) y = x + y + k := by
  obtain ⟨i1, i2, i3⟩ := carL_ok (x := x) (y := y) (k := (k : Int)) (tl_asc y) (fun p => bt_tl p y) (A := Tl x) (bit := 0) (sta := 0) (bin := k) (tl_asc x) (fun a ha => tl_pos x a ha) (by omega) hk rfl (fun p _ => by rw [bt_tl, Nat.zero_add])
  have asc : (carT (Tl x) (Tl y) k).Pairwise (· < ·) := by
    refine List.pairwise_append.mpr ⟨by split <;> simp, i1, fun a ha b hb => ?_⟩
    split at ha
    · rw [List.mem_singleton.mp ha]; exact (i2 b hb).1
    · cases ha
  have pos : ∀ c ∈ carT (Tl x) (Tl y) k, 0 ≤ c := fun c hc => by
    rcases List.mem_append.mp hc with h | h
    · split at h
      · rw [List.mem_singleton.mp h]; exact Int.le_refl _
      · cases h
    · have := (i2 c h).1; omega
  have bits : ∀ p : Nat, ((cnt (carT (Tl x) (Tl y) k) (p : Int) % 2 : Nat) : Int) = cr x y k p := fun p => by
    rw [i3 p (Nat.zero_le _)]
    unfold carT
    rw [cnt_app]
    congr 2
    congr 1
    split
    · rw [cnt_cons, cnt_nil, if_pos (by omega)]; omega
    · rw [cnt_nil]; omega
  have a2 := asc_toNat pos asc
  have hb : ∀ p : Nat, Bt p (alt (-1) ((carT (Tl x) (Tl y) k).map Int.toNat)) = cr x y k p := fun p => by
    rw [bt_alt p _ a2, ← cnt_zs, zs_toNat pos, bits p]
  refine ⟨alt (-1) ((carT (Tl x) (Tl y) k).map Int.toNat), tl_of asc pos fun p => by rw [bits p, hb p], fun t ht => ?_, bt_ext fun p => ?_⟩
  · have : Tl (alt (-1) ((carT (Tl x) (Tl y) k).map Int.toNat)) = carT (Tl x) (Tl y) k := (tl_of asc pos fun p => by rw [bits p, hb p]).symm
    rw [this] at ht
    rcases List.mem_append.mp ht with h | h
    · split at h
      · exact .inl (List.mem_singleton.mp h)
      · cases h
    · have := (i2 t h).2
      rcases this with j | j | j
      · exact .inr (.inl (by omega))
      · exact .inr (.inr (.inl j))
      · exact .inr (.inr (.inr j))
  · rw [bt_xor, bt_xor, hb p, bt_add p x y k (by omega)]
    have := bt_01 p x
    have := bt_01 p y
    have := cr_01 (x := x) (y := y) (k := (k : Int)) (by omega) p
    omega
/-! ### the complement, and one more -/
def flp (l : List Int) : List Int := match l with
  | 0 :: r => r
  | r => 0 :: r
theorem cnt_flp {l : List Int} (pos : ∀ c ∈ l, 0 ≤ c) (p : Nat) : cnt (flp l) (p : Int) % 2 = (1 + cnt l (p : Int)) % 2 := by
  unfold flp
  split
  · rw [cnt_cons, if_pos (by omega)]; omega
  · rw [cnt_cons, if_pos (by omega)]
theorem flp_tl (x : Int) : flp (Tl x) = Tl (-x - 1) := by
  have c := cnt_flp (tl_pos x)
  have asc := tl_asc x
  have pos := tl_pos x
  refine tl_of ?_ ?_ fun p => ?_
  · unfold flp
    split
    · rename_i r e
      rw [e] at asc
      exact (List.pairwise_cons.mp asc).2
    · rename_i hne
      refine List.pairwise_cons.mpr ⟨fun a ha => ?_, asc⟩
      have h0 := pos a ha
      by_cases z : a = 0
      · subst z
        exfalso
        cases e : Tl x with
        | nil => rw [e] at ha; cases ha
        | cons b r =>
          rw [e] at ha asc pos
          have hb : b = 0 := by
            rcases List.mem_cons.mp ha with h | h
            · exact h.symm
            · have := (List.pairwise_cons.mp asc).1 0 h
              have := pos b List.mem_cons_self
              omega
          subst hb
          exact hne r e
      · omega
  · unfold flp
    split
    · rename_i r e
      rw [e] at pos
      exact fun c hc => pos c (List.mem_cons_of_mem _ hc)
    · intro c hc
      rcases List.mem_cons.mp hc with rfl | hc
      · exact Int.le_refl _
      · exact pos c hc
  · rw [bt_not, bt_tl, c p]
    omega
/-- the mask of x ^ (x + 1) -/
theorem succ_tl {x : Int} {b : Int} (h : (∃ t r, Tl x = 0 :: t :: r ∧ b = t + 1) ∨ (Tl x).head? ≠ some 0 ∧ b = 1) : mrg [0, b] (Tl x) = Tl (x + 1) := by
  have asc := tl_asc x
  have pos := tl_pos x
  have b1 : 1 ≤ b := by
    rcases h with ⟨t, r, e, rfl⟩ | ⟨_, rfl⟩
    · have := pos t (by rw [e]; simp); omega
    · omega
  obtain ⟨i1, i2⟩ := mrg_ok (A := [0, b]) (B := Tl x) (by simp; omega) asc
  refine tl_of i1 (fun c hc => ?_) fun p => ?_
  · rcases mrg_mem hc with h | h
    · simp at h; omega
    · exact pos c h
  · have e1 : x + 1 = x + 0 + 1 := by omega
    rw [e1, bt_add p x 0 1 (.inr rfl)]
    have z : Bt p 0 = 0 := by unfold Bt; rw [Int.zero_ediv]; rfl
    have c : ∀ p : Nat, cr x 0 1 p = if (p : Int) < b then 1 else 0 := by
      intro p
      induction p with
      | zero => rw [if_pos (by omega)]; rfl
      | succ p ih =>
        have z : Bt p 0 = 0 := by unfold Bt; rw [Int.zero_ediv]; rfl
        show maj (Bt p x) (Bt p 0) (cr x 0 1 p) = _
        rw [ih, z, bt_tl]
        rcases h with ⟨t, r, e, rfl⟩ | ⟨hne, rfl⟩
        · rw [e] at asc
          obtain ⟨q1, q2⟩ := List.pairwise_cons.mp asc
          obtain ⟨q3, q4⟩ := List.pairwise_cons.mp q2
          have := q1 t List.mem_cons_self
          by_cases c1 : (p : Int) < t
          · rw [e, cnt_cons, cnt_cons, if_pos (show (0 : Int) ≤ p by omega), if_neg (show ¬ t ≤ (p : Int) by omega), cnt_zero fun u hu => by have := q3 u hu; omega, if_pos (by omega), if_pos (by omega)]
            rfl
          · rw [if_neg (show ¬ ((p + 1 : Nat) : Int) < t + 1 by omega)]
            by_cases c2 : (p : Int) = t
            · rw [e, cnt_cons, cnt_cons, if_pos (show (0 : Int) ≤ p by omega), if_pos (show t ≤ (p : Int) by omega), cnt_zero fun u hu => by have := q3 u hu; omega, if_pos (by omega)]
              rfl
            · rw [if_neg (by omega)]
              unfold maj
              omega
        · rw [if_neg (show ¬ ((p + 1 : Nat) : Int) < 1 by omega)]
          by_cases c1 : p = 0
          · subst c1
            rw [if_pos (by omega)]
            have : cnt (Tl x) ((0 : Nat) : Int) = 0 := cnt_zero fun t ht => by
              have h0 := pos t ht
              by_cases zt : t = 0
              · subst zt
                exfalso
                cases e : Tl x with
                | nil => rw [e] at ht; cases ht
                | cons d r =>
                  rw [e] at ht asc pos hne
                  have hd : d = 0 := by
                    rcases List.mem_cons.mp ht with h | h
                    · exact h.symm
                    · have := (List.pairwise_cons.mp asc).1 0 h
                      have := pos d List.mem_cons_self
                      omega
                  exact hne (by rw [hd]; rfl)
              · omega
            rw [this]
            rfl
          · rw [if_neg (by omega)]
            unfold maj
            omega
    rw [c p, z, bt_tl, i2, cnt_cons, cnt_cons, cnt_nil, if_pos (show (0 : Int) ≤ p by omega)]
    by_cases cb : (p : Int) < b
    · rw [if_pos cb, if_neg (by omega)]; omega
    · rw [if_neg cb, if_pos (by omega)]; omega
end Fb
namespace Fb
open PySem L2
/-! ### counts in ascending lists -/
theorem asc_none {x s : Int} {xs : List Int} (h : ∀ y ∈ xs, x < y) (hs : s ≤ x) : (xs.filter fun c => decide (c < s)) = [] ∧ (xs.filter fun c => decide (c ≤ s)) = [] := by
  constructor <;> refine List.filter_eq_nil_iff.mpr fun y hy => ?_ <;> have := h y hy <;> simp only [decide_eq_true_eq] <;> omega
theorem asc_lt (s : Int) : ∀ {l : List Int}, l.Pairwise (· < ·) → ∀ (i : Nat) (c : Int), l[i]? = some c → (i < (l.filter fun c => decide (c < s)).length ↔ c < s)
  | [], _, i, c, h => by simp at h
  | x :: xs, hp, i, c, h => by
    obtain ⟨h1, h2⟩ := List.pairwise_cons.mp hp
    by_cases hx : x < s
    · rw [List.filter_cons_of_pos (by simp [hx]), List.length_cons]
      cases i with
      | zero => cases h; simp [hx]
      | succ i =>
        have := asc_lt s h2 i c h
        omega
    · have e := (asc_none h1 (show s ≤ x by omega)).1
      rw [List.filter_cons_of_neg (by simp [hx]), e]
      have hc : x ≤ c := by
        cases i with
        | zero => cases h; omega
        | succ i => have := h1 c (List.mem_of_getElem? h); omega
      simp
      omega
theorem asc_one (s : Int) : ∀ {l : List Int}, l.Pairwise (· < ·) → (l.filter fun c => decide (c ≤ s)).length = (l.filter fun c => decide (c < s)).length + (if s ∈ l then 1 else 0)
  | [], _ => rfl
  | x :: xs, hp => by
    obtain ⟨h1, h2⟩ := List.pairwise_cons.mp hp
    have ih := asc_one s h2
    by_cases hx : x < s
    · rw [List.filter_cons_of_pos (by simp; omega), List.filter_cons_of_pos (by simp [hx]), List.length_cons, List.length_cons, ih]
      have : (s ∈ x :: xs) ↔ s ∈ xs := by
        rw [List.mem_cons]; constructor
        · rintro (h | h)
          · omega
          · exact h
        · exact .inr
      simp only [this]
      split <;> omega
    · obtain ⟨e1, e2⟩ := asc_none h1 (show s ≤ x by omega)
      rw [List.filter_cons_of_neg (p := fun c => decide (c < s)) (by simp [hx]), e1]
      by_cases he : x = s
      · rw [List.filter_cons_of_pos (by simp; omega), e2, if_pos (by rw [he]; exact List.mem_cons_self)]; rfl
      · rw [List.filter_cons_of_neg (by simp; omega), e2, if_neg (by
          intro h
          rcases List.mem_cons.mp h with h | h
          · omega
          · have := h1 s h; omega)]
        rfl
theorem asc_at {s : Int} {l : List Int} (hp : l.Pairwise (· < ·)) {c : Int} (h : l[(l.filter fun c => decide (c < s)).length]? = some c) : c = s ↔ s ∈ l := by
  have k := (asc_lt s hp _ _ h)
  constructor
  · intro e; rw [← e]; exact List.mem_of_getElem? h
  · intro hm
    obtain ⟨j, hj⟩ := List.getElem?_of_mem hm
    have k2 := asc_lt s hp j s hj
    have ge : s ≤ c := by
      have : ¬ c < s := fun z => absurd (k.mpr z) (Nat.lt_irrefl _)
      omega
    have hj1 : (l.filter fun c => decide (c < s)).length ≤ j := by
      have : ¬ j < (l.filter fun c => decide (c < s)).length := fun z => absurd (k2.mp z) (Int.lt_irrefl _)
      omega
    rcases Nat.lt_or_ge (l.filter fun c => decide (c < s)).length j with g | g
    · obtain ⟨lj, ej⟩ := List.getElem?_eq_some_iff.mp hj
      obtain ⟨lm, em⟩ := List.getElem?_eq_some_iff.mp h
      have := (List.pairwise_iff_getElem.mp hp) _ _ lm lj g
      rw [ej, em] at this
      omega
    · have : j = (l.filter fun c => decide (c < s)).length := by omega
      rw [← this, hj] at h
      exact (Option.some.inj h).symm
end Fb
namespace PySem
open Sem (wp)
/-- l.extend(a tuple), whatever its dict and its slots -/
theorem fb_ext_tup (p : Addr) (us : Array Value) (m : Nat) (q : Addr) (ws : Array Value) (k : Nat) (od : Option Addr) (osl : Array (Option Value)) (r0 : ¬(!us.isEmpty && Builtin.List.listTooLong (us.size + ws.size)) = true) (r1 : us.size ≤ sizeLine) (r2 : us.size + ws.size ≤ sizeLine + 1) :
    Meets (Builtin.«list.extend» ⟨[.ref p, .ref q], []⟩) (fun _ R s => s.heap.get? p = some { cls := .type "list", data := .seq us m } ∧ s.heap.get? q = some { cls := .type "tuple", dict := od, data := .seq ws k, slots := osl } ∧
      R (.ok (.ret Value.none)) { s with heap := s.heap.update p (Obj.mapSeq fun x => x ++ ws), toks := s.toks }) :=
  .of_wp fun prog w A R s h => by
    obtain ⟨hp, g, d, tk, os⟩ := s
    obtain ⟨hl, hb, h⟩ := h
    have g1 := AutoSeq1.idx_int
    have g2 := AutoSeq1.sub_tuple_tuple
    have g3 := AutoSeq1.sub_list_list
    have g4 := AutoSeq1.sub_tuple_list
    have g5 := AutoSeq1.sub_list_tuple
    have big : (us ++ ws).size ≤ sizeLine + 1 := by
      rw [Array.size_append]
      omega
    wp_walk using (wpAny_updateSeq hl rfl (hz := r1) (_hz' := big)), wpAny_loadPart' hl, wpAny_loadPart' hb
    exact ⟨_, rfl, h⟩
end PySem
namespace Fb
open PySem L2 PySem.Spec PyProof.Rows
/-! ### lists and tuples alike -/
def Sq (K : PySem.W.Frag) (H : Hp) (a : Addr) (xs : List V) : Prop := H a = some (.lst xs) ∨ SqT K H a xs
theorem Sq.same {K : PySem.W.Frag} {H H' : Hp} {a : Addr} {xs : List V} (h : Sq K H a xs) (e : Same H H') : Sq K H' a xs := h.imp (fun h => e _ _ h) (fun h => (Nd.of e).sqt h)
theorem Sq.any {K : PySem.W.Frag} {H : Hp} {a : Addr} {xs : List V} (h : Sq K H a xs) : SqL K H a xs ∨ SqT K H a xs := h.imp SqL.of id
theorem Sq.tru {K : PySem.W.Frag} {H : Hp} {a : Addr} {xs : List V} (h : Sq K H a xs) : TruV K (.ref a) H (!xs.isEmpty) := h.elim (fun h => .inl ⟨_, SqL.of h, rfl⟩) fun h => .inr (.inl ⟨_, h, rfl⟩)
/-- a slice, a new list, or a tuple -/
def rSlS (K : PySem.W.Frag) : V → Option Int → Option Int → Hp → VK → Prop := fun x lo hi H Q => ∃ a xs, x = .ref a ∧ Sq K H a xs ∧ ∀ b H', Same H H' → H b = none ∨ H' = H → Sq K H' b (cutV xs lo hi) → Q (.ref b) H'
theorem sl_seq {X : Cx} (K : PySem.W.Frag) (hK : X.K = K := by rfl) : SlR X (rSlS K) := by
  subst hK
  intro pins s σ H x v vl vu lo hi sl Q I rx hs pl pu ⟨a, xs, e, h, q⟩
  refine (sl_list.or sl_tupA) pins s σ H x v vl vu lo hi sl Q I rx hs pl pu (h.imp (fun h => ⟨a, xs, e, SqL.of h, fun p np => q p _ (Same.new np) (.inl np) (.inl upd_same)⟩) fun h => ⟨a, xs, e, h, fun hw => ?_, fun _ p np => q p _ (Same.new np) (.inl np) (.inr (SqT.of upd_same))⟩)
  refine q a H (Same.refl H) (.inr rfl) (.inr ?_)
  unfold cutV
  rw [hw.1, hw.2, List.drop_zero, Nat.sub_zero, List.take_length]
  exact h
/-- l.extend(a list, or a tuple) -/
def rExtS (K : PySem.W.Frag) : V → List V → Hp → VK → Prop := fun x vs H Q => ∃ l b xs zs, x = .ref l ∧ vs = [.ref b] ∧ H l = some (.lst xs) ∧ Sq K H b zs ∧ xs.length + zs.length ≤ sizeLine ∧ Q .non (upd H l (.lst (xs ++ zs)))
theorem mt_extS {X : Cx} (K : PySem.W.Frag) (hK : X.K = K := by rfl) : MtM X "list.extend" (rExtS K) := by
  subst hK
  rintro pins s σ H v0 vs v us Q I rx rv ⟨l, b, xs, zs, rfl, rfl, at_l, hz, fits, q⟩
  rcases hz with hz | hz
  · exact mt_extend pins s σ H _ _ v us Q I rx rv ⟨l, b, xs, zs, rfl, rfl, at_l, hz, fits, q⟩
  cases rx
  obtain ⟨_, rfl, ru⟩ := rv.one
  cases ru
  obtain ⟨_, us1, n1, rel1, len1, get1⟩ := I.lstM at_l
  obtain ⟨us2, rel2, isT, _⟩ := I.tuple hz
  have e1 := rel1.length
  have e2 := rel2.length
  obtain ⟨⟨oc, od, oda, osl⟩, get2, rfl, n2, rfl⟩ := isT
  have fit : us1.toArray.size + us2.toArray.size ≤ sizeLine := by
    rw [List.size_toArray, List.size_toArray]
    omega
  have room1 : ¬ (!us1.toArray.isEmpty && Builtin.List.listTooLong (us1.toArray.size + us2.toArray.size)) = true := by
    rw [notLongL fit, Bool.and_false]
    decide
  refine call_meets F.slot_list_extend ⟨_, get1, rfl⟩ F.entry_list_extend (F.args_list_extend_2 _ _) (PySem.fb_ext_tup l _ n1 b _ n2 od osl room1 (by omega) (by omega)) ⟨get1, get2, ?_⟩
  refine ⟨.non, _, I.lset (its' := us1 ++ us2) at_l get1 (by simp) (rel1.append rel2) ?_, rfl, q⟩
  rw [List.length_append]
  exact fits
/-- a loop over either -/
theorem pi_or {X : Cx} {tg l : Expr} {t1 t2 : TI} (h1 : PI X tg l t1) (h2 : PI X tg l t2) : PI X tg l (fun σ H R => t1 σ H R ∨ t2 σ H R) := ⟨fun pins s σ H R I h => h.elim (h1.run pins s σ H R I) (h2.run pins s σ H R I)⟩
def iSeq (K : PySem.W.Frag) (t : TE) : TI := fun σ H R => iList K t σ H R ∨ iTup K t σ H R
theorem pi_seq {X : Cx} {tg l : Expr} {t : TE} (K : PySem.W.Frag) (h : PE X l t) (hK : X.K = K := by rfl) : PI X tg l (iSeq K t) := by
  subst hK
  exact pi_or (pi_list h) (pi_tup h)
theorem for_seq {K : PySem.W.Frag} {a : Addr} {xs : List V} {g : TG} {tb : L2.TS} {D : Ends} {σ : L2.St} {H0 H : Hp} {j : Nat} (hs0 : Sq K H0 a xs) (hv : σ[j]? = some (some (.ref a))) (Pv : Nat → L2.St → Hp → Prop) (h0 : Pv 0 σ H) (hl : ∀ i σ H', i ≤ xs.length → Pv i σ H' → Same H0 H')
    (hs : ∀ i x σ H, xs[i]? = some x → Pv i σ H → g x σ H fun σ2 H2 => tb { D with nx := Pv (i + 1), ct := Pv (i + 1), bk := D.nx } σ2 H2) (hd : ∀ σ H, Pv xs.length σ H → D.nx σ H) :
    tFor (iSeq K (tVar j)) g tb D σ H := by
  have here := hl 0 σ H (Nat.zero_le _) h0
  rcases hs0 with h | h
  · exact .inl ⟨_, hv, a, rfl, ⟨_, SqL.of (here _ _ h)⟩, for_list Pv h0 (fun i σ H' hi p => SqL.of (hl i σ H' hi p _ _ h)) hs hd⟩
  · exact .inr ⟨_, hv, a, rfl, ⟨_, (Nd.of here).sqt h⟩, for_tup Pv h0 (fun i σ H' hi p => (Nd.of (hl i σ H' hi p)).sqt h) hs hd⟩
/-- places, by codes -/
structure Pls (K : PySem.W.Frag) (H : Hp) (f : Int → PyData) (a : Addr) (l : List Int) : Prop where
  ex : ∃ vs, Sq K H a vs ∧ DpAll K H vs (l.map f)
theorem Pls.same {K : PySem.W.Frag} {H H' : Hp} {f : Int → PyData} {a : Addr} {l : List Int} (h : Pls K H f a l) (e : Same H H') : Pls K H' f a l := by
  obtain ⟨vs, s, d⟩ := h.ex
  exact ⟨vs, s.same e, (Nd.of e).ds d⟩
theorem Pls.at {K : PySem.W.Frag} {H : Hp} {f : Int → PyData} {a : Addr} {l : List Int} (h : Pls K H f a l) : ∃ vs, Sq K H a vs ∧ vs.length = l.length ∧ DpAll K H vs (l.map f) ∧ ∀ (i : Nat) (c : Int), l[i]? = some c → ∃ v, vs[i]? = some v ∧ Dp K H v (f c) := by
  obtain ⟨vs, s, d⟩ := h.ex
  have e : vs.length = l.length := by rw [dps_length d, List.length_map]
  refine ⟨vs, s, e, d, fun i c hc => ?_⟩
  obtain ⟨hi, _⟩ := List.getElem?_eq_some_iff.mp hc
  obtain ⟨v, hv⟩ : ∃ v, vs[i]? = some v := ⟨_, List.getElem?_eq_getElem (by omega)⟩
  obtain ⟨d', hd', dp⟩ := dps_get d hv
  rw [List.getElem?_map, hc] at hd'
  cases hd'
  exact ⟨v, hv, dp⟩
/-- a slice of places -/
theorem cut_nat {xs : List V} {i j : Nat} (hi : i ≤ xs.length) (hj : j ≤ xs.length) : cutV xs (some (i : Int)) (some (j : Int)) = (xs.take j).drop i := by
  unfold cutV
  rw [HT.sIx_nat, HT.sIx_nat, Nat.min_eq_left hi, Nat.min_eq_left hj, List.drop_take]
theorem cut_from {xs : List V} {i : Nat} (hi : i ≤ xs.length) : cutV xs (some (i : Int)) none = xs.drop i := by
  unfold cutV
  rw [HT.sIx_nat, Nat.min_eq_left hi]
  show List.take (xs.length - i) (xs.drop i) = _
  rw [List.take_of_length_le (by rw [List.length_drop]; exact Nat.le_refl _)]
/-- what a step of the merging leaves -/
theorem mrg_step {a : Int} {A B : List Int} {st : Nat} (hB : B.Pairwise (· < ·)) (h : ∀ t ∈ B.take st, t < a) (hst : st ≤ B.length) :
    st ≤ clt B a ∧ mrg (a :: A) (B.drop st) = (B.take (clt B a)).drop st ++ ((if a ∈ B then [] else [a]) ++ mrg A (B.drop (cnt B a))) := by
  have e1 : clt B a = st + clt (B.drop st) a := by
    have e := congrArg (fun l => (l.filter fun t => decide (t < a)).length) (List.take_append_drop st B)
    simp only [List.filter_append, List.length_append] at e
    rw [List.filter_eq_self.mpr fun t ht => by simp [h t ht], List.length_take, Nat.min_eq_left hst] at e
    exact e.symm
  have e2 : cnt B a = st + cnt (B.drop st) a := by
    have e := congrArg (fun l => cnt l a) (List.take_append_drop st B)
    simp only [cnt_app] at e
    rw [cnt_all fun t ht => by have := h t ht; omega, List.length_take, Nat.min_eq_left hst] at e
    exact e.symm
  have m : a ∈ B.drop st ↔ a ∈ B := by
    constructor
    · exact List.mem_of_mem_drop
    · intro k
      rw [← List.take_append_drop st B] at k
      rcases List.mem_append.mp k with k | k
      · have := h a k; omega
      · exact k
  refine ⟨by omega, ?_⟩
  show (B.drop st).take (clt (B.drop st) a) ++ ((if a ∈ B.drop st then [] else [a]) ++ mrg A ((B.drop st).drop (cnt (B.drop st) a))) = _
  rw [List.drop_drop, ← e2, List.drop_take, show clt B a - st = clt (B.drop st) a by omega]
  simp only [m]
theorem take_cnt_lt {a c : Int} {B : List Int} (hB : B.Pairwise (· < ·)) (h : a < c) : ∀ t ∈ B.take (cnt B a), t < c := fun t ht => by
  have := take_cnt_le hB t ht
  omega
/-- the shorter one first -/
def fm2 (l m : List Int) : List Int × List Int := if l.length ≤ m.length then (l, m) else (m, l)
theorem clt_le_cnt : ∀ (B : List Int) (a : Int), clt B a ≤ cnt B a
  | [], _ => Nat.le_refl _
  | b :: B, a => by
    have := clt_le_cnt B a
    rw [clt_cons, cnt_cons]
    split <;> split <;> omega
theorem mrg_len : ∀ (A B : List Int), (mrg A B).length ≤ A.length + B.length
  | [], B => by show B.length ≤ _; simp
  | a :: A, B => by
    have := mrg_len A (B.drop (cnt B a))
    show (B.take (clt B a) ++ ((if a ∈ B then [] else [a]) ++ mrg A (B.drop (cnt B a)))).length ≤ _
    rw [List.length_append, List.length_append, List.length_take, List.length_cons]
    rw [List.length_drop] at this
    have k := clt_le_cnt B a
    have := cnt_le B a
    split <;> simp <;> omega
end Fb
namespace Fb
open PySem L2 NdefX PyProof.Rows
/-- whether a number is not so beside 0 -/
def refd (s : Chs) (v : Int) : Bool := if s = [61, 61] then decide (v ≠ 0) else if s = [60, 61] then decide (0 < v) else decide (0 ≤ v)
def barW (ns zs : List Chs) : Int := (((List.range ns.length).filter fun k => zs.contains (ns.getD k [])).map fun k => (1 * 2 ^ k : Int)).sum
def lastR (ns zs : List Chs) : List Nat := (List.range (2 ^ ns.length)).filter fun (r : Nat) => decide (Builtin.bitAnd (r : Int) (barW ns zs) = 0)
def refW (ws : List Int) (s : Chs) (rs : List Nat) (g : Int) : Option (Int × Nat × Nat) := match rs.find? fun l => refd s (-(ws.getD l 0)) with
  | some l => some (0, 0, l)
  | none => if s = [61, 61] then (rs.head?.bind fun l => (ws.findIdx? fun w => decide (w ≠ 0)).map fun r => (1, r, l))
    else (rs.find? fun l => decide (ws.getD l 0 < g)).map fun l => ((Builtin.Int.intBits g : Nat), ws.idxOf g, l)
theorem str_eqs : ("==" : Str) = txt [61, 61] := by decide +kernel
theorem str_les : ("<=" : Str) = txt [60, 61] := by decide +kernel
theorem find_take {α : Type} {p : α → Bool} {l : List α} {i : Nat} {x : α} (h : l[i]? = some x) (n : ∀ y ∈ l.take i, p y = false) (c : p x = true) : l.find? p = some x := by
  obtain ⟨hi, hx⟩ := List.getElem?_eq_some_iff.mp h
  have e : l.find? p = (l.take i ++ l.drop i).find? p := by rw [List.take_append_drop]
  rw [e, List.find?_append, List.find?_eq_none.mpr (fun y hy => by rw [n y hy]; decide), List.drop_eq_getElem_cons hi, hx, List.find?_cons_of_pos c]
  rfl
theorem take_snoc {α : Type} {p : α → Bool} {l : List α} {i : Nat} {x : α} (h : l[i]? = some x) (n : ∀ y ∈ l.take i, p y = false) (c : p x = false) : ∀ y ∈ l.take (i + 1), p y = false := fun y hy => by
  rw [List.take_add_one, h, List.mem_append] at hy
  rcases hy with hy | hy
  · exact n y hy
  · have hy : y ∈ [x] := hy
    rw [List.mem_singleton] at hy
    rw [hy]; exact c
theorem find_all {α : Type} {p : α → Bool} {l : List α} (n : ∀ y ∈ l.take l.length, p y = false) : l.find? p = none := by
  rw [List.take_length] at n
  exact List.find?_eq_none.mpr fun y hy => by rw [n y hy]; decide
theorem findIdx_take {p : Int → Bool} {l : List Int} {i : Nat} {x : Int} (h : l[i]? = some x) (n : ∀ y ∈ l.take i, p y = false) (c : p x = true) : l.findIdx? p = some i := by
  obtain ⟨hi, rfl⟩ := List.getElem?_eq_some_iff.mp h
  rw [List.findIdx?_eq_some_iff_getElem]
  refine ⟨hi, c, fun j hj => ?_⟩
  have := n l[j] (List.mem_take_iff_getElem.mpr ⟨j, by omega, rfl⟩)
  rw [this]; decide
theorem b62 {m : Nat} (h : m ≤ 32) : -2 ^ 62 ≤ (m : Int) ∧ (m : Int) < 2 ^ 62 := by omega
theorem op_in_seqK {X : Cx} (K : PySem.W.Frag) (hK : X.K = K := by rfl) : OpR X (compareOp .In) (rIn K false) := by subst hK; exact op_in_seq
section
variable {P : Program} {w : World} {K : PySem.W.Frag} {mg : Str → Option Value} {base : Heap} {f : Addr} {fd : FuncData}
abbrev S_is_refuted : Stmt := top 61
abbrev N_is_refuted : List Str := ["value", "sign"]
abbrev P_is_refuted : List Str := ["value", "sign"]
theorem sc_is_refuted : FnScope N_is_refuted P_is_refuted (defScope S_is_refuted) := ⟨rfl, rfl, rfl, by decide +kernel, rfl, by decide +kernel, by decide +kernel⟩
def spIr : Sp := fun vs H Q _ => ∃ (s : Chs) (v : Int), vs = [.int v, .str (txt s)] ∧ Q (.bl (refd s v)) H
theorem ok_ir (F : Fun K "is_refuted" "is_refuted" S_is_refuted f fd) : FnOk P w K mg base CX0 1 f fd P_is_refuted spIr := by
  have nd := sc_is_refuted.nd
  refine F.ok sc_is_refuted (fun vs H Q E h => ?_) (fun cdv A outer s H vs Q E hr h => ?_)
  · obtain ⟨s, v, rfl, _⟩ := h
    rfl
  obtain ⟨s, v, rfl, q⟩ := h
  refine ⟨_, (pss_cons (ps_if (pt_cmpR op_eq (pv 1) pe_str (nomark _)) (pss_one (ps_ret (pe_cmpR op_ne (pv 0) pe_int (nomark _)))) pss_nil)
    (pss_one (ps_ret (pe_ifExp (pt_cmpR op_eq (pv 1) pe_str (nomark _)) (pe_cmpR op_gt (pv 0) pe_int (nomark _)) (pe_cmpR op_ge (pv 0) pe_int (nomark _)))))), ?_⟩
  unfold refd at q
  refine ⟨_, rfl, rfl, _, rfl, ?_⟩
  rw [eq_txt str_eqs]
  refine iteD (fun c => ?_) (fun c => ?_)
  · rw [if_pos c] at q
    refine ⟨_, rfl, rfl, ?_⟩
    have e : (!decide (V.int v = V.int 0)) = decide (v ≠ 0) := by
      by_cases z : v = 0
      · rw [z]; rfl
      · rw [decide_eq_true (show v ≠ 0 from z), decide_eq_false (fun h => z (by injection h))]; rfl
    rw [← e] at q
    exact q
  · rw [if_neg c] at q
    refine ⟨_, rfl, rfl, _, rfl, ?_⟩
    rw [eq_txt str_les]
    refine iteD (fun c2 => ?_) (fun c2 => ?_)
    · rw [if_pos c2] at q
      exact ⟨_, rfl, _, _, rfl, rfl, q⟩
    · rw [if_neg c2] at q
      exact ⟨_, rfl, _, _, rfl, rfl, q⟩
abbrev S_last_rows : Stmt := top 59
abbrev N_last_rows : List Str := ["names", "from_zero", "barred", "row", "k"]
abbrev P_last_rows : List Str := ["names", "from_zero"]
theorem sc_last_rows : FnScope N_last_rows P_last_rows (defScope S_last_rows) := ⟨rfl, rfl, rfl, by decide +kernel, rfl, by decide +kernel, by decide +kernel⟩
def spLr (K : PySem.W.Frag) : Sp := fun vs H Q _ => ∃ (na za : Addr) (ns zs : List Chs), vs = [.ref na, .ref za] ∧ H na = some (.lst (ns.map fun c => V.str (txt c))) ∧ ns.length ≤ 5 ∧ Sq K H za (zs.map fun c => V.str (txt c)) ∧
  ∀ (s : Addr) (H' : Hp), Same H H' → H s = none → H' s = some (.lst ((lastR ns zs).map fun (r : Nat) => V.int (r : Int))) → Q (.ref s) H'
theorem ok_lr (F : Fun K "last_rows" "last_rows" S_last_rows f fd) (B : Blt mg) : FnOk P w K mg base CX0 1 f fd P_last_rows (spLr K) := by
  have nd := sc_last_rows.nd
  refine F.ok sc_last_rows (fun vs H Q E h => ?_) (fun cdv A outer s H vs Q E hr h => ?_)
  · obtain ⟨na, za, ns, zs, rfl, _⟩ := h
    rfl
  obtain ⟨na, za, ns, zs, rfl, hna, n5, hz, q⟩ := h
  refine ⟨_, (pss_cons (ps_set (i := 2) nd rfl (Or.inr rfl) (pe_callB (cr_sum rfl) (by rfl) B.sum (by decide +kernel) (pa_cons (pe_lc (own := [("k", 4)]) (g := gName 4) rfl nd (pi_range1 (by rfl) B.range (pa_cons (pe_callB call_lenL (by rfl) B.len PySem.boot_len (pa_cons (pv 0) pa_nil)) pa_nil)) (blkOk_by (own := [("k", 4)]) (N := N_last_rows) (sc := defScope S_last_rows) (by decide +kernel)) (fun _ _ _ _ _ => pg_name (i := 4) nd rfl (Or.inl rfl)) (fun _ _ _ _ _ => (pts_one (pt_cmpR (op_in_seqK K) (pe_ix (ix_listK K) (pv 0) (pv 4) (fun _ _ => rfl)) (pv 1) (by rfl)))) (fun _ _ _ _ _ => (pe_op op_shl pe_int (pv 4)))) pa_nil)))
    (pss_one (ps_ret (pe_lc (own := [("row", 3)]) (g := gName 3) rfl nd (pi_range1 (by rfl) B.range (pa_cons (pe_op op_shl pe_int (pe_callB call_lenL (by rfl) B.len PySem.boot_len (pa_cons (pv 0) pa_nil))) pa_nil)) (blkOk_by (own := [("row", 3)]) (N := N_last_rows) (sc := defScope S_last_rows) (by decide +kernel)) (fun _ _ _ _ _ => pg_name (i := 3) nd rfl (Or.inl rfl)) (fun _ _ _ _ _ => (pts_one (pt_cmpR op_eq (pe_op op_and (pv 3) (pv 2)) pe_int (nomark _)))) (fun _ _ _ _ _ => (pv 3)))))), ?_⟩
  have p5 := pow5 n5
  have ll : (ns.map fun c => V.str (txt c)).length = ns.length := by rw [List.length_map]
  refine ⟨_, rfl, na, _, rfl, SqL.of hna, _, rfl, (by rw [ll]; omega), (by rw [ll]; omega), fun D nD => ?_⟩
  rw [ll]
  refine lc_range (lo := 0) (n := ns.length) (fun i H' => Same H H' ∧ H' D = some (.lst ((((List.range i).filter fun k => zs.contains (ns.getD k [])).map fun k => (1 * 2 ^ k : Int)).map V.int))) ⟨Same.new nD, upd_same⟩ (fun i H' hi h => ?_) (fun H1 h => ?_)
  · obtain ⟨e, hD⟩ := h
    obtain ⟨c, hc⟩ : ∃ c, ns[i]? = some c := ⟨_, List.getElem?_eq_getElem hi⟩
    have a1 : atI (ns.map fun c => V.str (txt c)) (0 + (i : Int)) = some (.str (txt c)) := by rw [Int.zero_add]; exact atI_nat (by rw [List.getElem?_map, hc]; rfl)
    refine ⟨rfl, ?_⟩
    refine ⟨_, rfl, _, rfl, na, _, _, _, rfl, rfl, SqL.of (e _ _ hna), a1, _, rfl, za, _, rfl, (hz.same e).any, rfl, all_flat zs, _, rfl, ?_⟩
    rw [inV_txt]
    have eg : ns.getD i [] = c := by rw [List.getD_eq_getElem?_getD, hc]; rfl
    have er : (List.range (i + 1)).filter (fun k => zs.contains (ns.getD k [])) = (List.range i).filter (fun k => zs.contains (ns.getD k [])) ++ if zs.contains c then [i] else [] := by
      rw [List.range_succ, List.filter_append]
      congr 1
      rw [List.filter_cons, eg]
      cases zs.contains c <;> rfl
    cases hb : zs.contains c with
    | false =>
      refine iteF ⟨e, ?_⟩
      rw [er, hb, if_neg (by decide), List.append_nil]
      exact hD
    | true =>
      refine iteT ?_
      refine ⟨_, rfl, _, _, rfl, rfl, (by unfold CPow; exact ⟨by omega, by omega, by omega⟩), _, hD, ?_, Same.mut e nD, ?_⟩
      · rw [List.length_map, List.length_map]
        have := List.length_filter_le (fun k => zs.contains (ns.getD k [])) (List.range i)
        rw [List.length_range] at this
        exact Nat.lt_of_lt_of_le (show _ < 3000 by omega) (by decide)
      · rw [upd_same, er, hb, if_pos rfl, List.map_append, List.map_append]
        show some (HO.lst (_ ++ [V.int (1 * 2 ^ ((0 : Int) + (i : Int)).toNat)])) = _
        rw [Int.zero_add]
        rfl
  obtain ⟨e1, hD⟩ := h
  refine ⟨D, _, rfl, SqL.of hD, ?_⟩
  have eb : (((List.range ns.length).filter fun k => zs.contains (ns.getD k [])).map fun k => (1 * 2 ^ k : Int)).sum = barW ns zs := rfl
  rw [eb]
  refine ⟨_, rfl, na, _, rfl, SqL.of (e1 _ _ hna), _, _, rfl, rfl, (by rw [ll]; unfold CPow; exact ⟨by omega, by omega, by omega⟩), ?_⟩
  have em : (fun i j : Int => V.int (i * 2 ^ j.toNat)) 1 (((ns.map fun c => V.str (txt c)).length : Nat) : Int) = V.int (((2 ^ ns.length : Nat)) : Int) := by
    show V.int (1 * 2 ^ (((ns.map fun c => V.str (txt c)).length : Nat) : Int).toNat) = _
    rw [List.length_map, Int.toNat_natCast, Int.one_mul, Int.natCast_pow]
    rfl
  rw [em]
  refine ⟨_, rfl, (b62 p5).1, (b62 p5).2, fun Z nZ => ?_⟩
  refine lc_range (lo := 0) (n := 2 ^ ns.length) (fun i H' => Same H1 H' ∧ H' Z = some (.lst (((List.range i).filter fun (r : Nat) => decide (Builtin.bitAnd (r : Int) (barW ns zs) = 0)).map fun (r : Nat) => V.int (r : Int)))) ⟨Same.new nZ, upd_same⟩ (fun i H' hi h => ?_) (fun H2 h => ?_)
  · obtain ⟨e, hZ⟩ := h
    refine ⟨rfl, ?_⟩
    refine ⟨_, rfl, _, rfl, _, _, rfl, rfl, rfl, _, rfl, ?_⟩
    have ee : decide (V.int (Builtin.bitAnd (0 + (i : Int)) (barW ns zs)) = V.int 0) = decide (Builtin.bitAnd (i : Int) (barW ns zs) = 0) := by
      rw [Int.zero_add]
      exact decide_eq_decide.mpr ⟨fun h => by injection h, fun h => by rw [h]⟩
    rw [ee]
    have er : (List.range (i + 1)).filter (fun (r : Nat) => decide (Builtin.bitAnd (r : Int) (barW ns zs) = 0)) = (List.range i).filter (fun (r : Nat) => decide (Builtin.bitAnd (r : Int) (barW ns zs) = 0)) ++ if Builtin.bitAnd (i : Int) (barW ns zs) = 0 then [i] else [] := by
      rw [List.range_succ, List.filter_append]
      congr 1
      rw [List.filter_cons]
      by_cases c : Builtin.bitAnd (i : Int) (barW ns zs) = 0
      · rw [if_pos c, if_pos (decide_eq_true c)]; rfl
      · rw [if_neg c, if_neg (fun h => c (of_decide_eq_true h))]; rfl
    refine iteD (fun c => ?_) (fun c => ?_)
    · rw [if_pos c] at er
      refine ⟨_, rfl, _, hZ, ?_, Same.mut e nZ, ?_⟩
      · rw [List.length_map]
        have := List.length_filter_le (fun r : Nat => decide (Builtin.bitAnd (r : Int) (barW ns zs) = 0)) (List.range i)
        rw [List.length_range] at this
        exact Nat.lt_of_lt_of_le (show _ < 3000 by omega) (by decide)
      · rw [upd_same, er, List.map_append]
        show some (HO.lst (_ ++ [V.int ((0 : Int) + (i : Int))])) = _
        rw [Int.zero_add]
        rfl
    · rw [if_neg c, List.append_nil] at er
      refine ⟨e, ?_⟩
      rw [er]
      exact hZ
  · obtain ⟨e, hZ⟩ := h
    exact q Z H2 (e1.trans e) (e1.free nZ) hZ
end
end Fb
namespace Fb
open PySem L2 NdefX PyProof.Rows
theorem all_ints (ws : List Int) : (ws.map V.int).all flatV = true := by
  rw [List.all_eq_true]
  intro x hx
  obtain ⟨z, _, rfl⟩ := List.mem_map.mp hx
  rfl
theorem refW_hit {ws : List Int} {s : Chs} {rs : List Nat} {g : Int} {l : Nat} (h : rs.find? (fun l => refd s (-(ws.getD l 0))) = some l) : refW ws s rs g = some (0, 0, l) := by
  unfold refW
  rw [h]
theorem refW_eq {ws : List Int} {s : Chs} {rs : List Nat} {g : Int} (h : rs.find? (fun l => refd s (-(ws.getD l 0))) = none) (c : s = [61, 61]) : refW ws s rs g = (rs.head?.bind fun l => (ws.findIdx? fun w => decide (w ≠ 0)).map fun r => (1, r, l)) := by
  unfold refW
  rw [h]
  show (if s = [61, 61] then _ else _) = _
  rw [if_pos c]
theorem refW_ne {ws : List Int} {s : Chs} {rs : List Nat} {g : Int} (h : rs.find? (fun l => refd s (-(ws.getD l 0))) = none) (c : s ≠ [61, 61]) : refW ws s rs g = (rs.find? fun l => decide (ws.getD l 0 < g)).map fun l => (((Builtin.Int.intBits g : Nat) : Int), ws.idxOf g, l) := by
  unfold refW
  rw [h]
  show (if s = [61, 61] then _ else _) = _
  rw [if_neg c]
section
variable {P : Program} {w : World} {K : PySem.W.Frag} {mg : Str → Option Value} {base : Heap} {f : Addr} {fd : FuncData}
abbrev S_refutation : Stmt := top 60
abbrev N_refutation : List Str := ["weights", "sign", "rows", "greatest", "top", "last", "row", "weight"]
abbrev P_refutation : List Str := ["weights", "sign", "rows"]
theorem sc_refutation : FnScope N_refutation P_refutation (defScope S_refutation) := ⟨rfl, rfl, rfl, by decide +kernel, rfl, by decide +kernel, by decide +kernel⟩
def spRf (K : PySem.W.Frag) : Sp := fun vs H Q _ => ∃ (wa ra : Addr) (ws : List Int) (s : Chs) (rs : List Nat), vs = [.ref wa, .str (txt s), .ref ra] ∧ H wa = some (.lst (ws.map V.int)) ∧ H ra = some (.lst (rs.map fun (r : Nat) => V.int (r : Int))) ∧ 0 < ws.length ∧ ws.length ≤ 100 ∧ (∀ r ∈ rs, r < ws.length) ∧ ∀ g, g ∈ ws → (∀ y ∈ ws, y ≤ g) →
  (refW ws s rs g = none → ∀ H', Same H H' → Q .non H') ∧ ∀ m r l, refW ws s rs g = some (m, r, l) → ∀ (a : Addr) H', Same H H' → SqT K H' a [.int m, .int (r : Int), .int (l : Int)] → Q (.ref a) H'
theorem ok_rf (F : Fun K "refutation" "refutation" S_refutation f fd) (B : Blt mg) (Cis_refuted : Has P w K mg base 1 "is_refuted" P_is_refuted [] spIr) : FnOk P w K mg base CX0 2 f fd P_refutation (spRf K) := by
  have nd := sc_refutation.nd
  refine F.ok sc_refutation (fun vs H Q E h => ?_) (fun cdv A outer s H vs Q E hr h => ?_)
  · obtain ⟨wa, ra, ws, s, rs, rfl, _⟩ := h
    rfl
  obtain ⟨wa, ra, ws, s, rs, rfl, hwa, hra, w0, w100, hrs, q⟩ := h
  refine ⟨_, (pss_cons (ps_set (i := 3) nd rfl (Or.inl rfl) (pe_callB (cr_max rfl) (by rfl) B.max (by decide +kernel) (pa_cons (pe_lc (own := [("weight", 7)]) (g := gName 7) (tt := tYes) rfl nd (pi_list (pv 0)) (blkOk_by (own := [("weight", 7)]) (N := N_refutation) (sc := defScope S_refutation) (by decide +kernel)) (fun _ _ _ _ _ => pg_name (i := 7) nd rfl (Or.inl rfl)) (fun _ _ _ _ _ => pts_nil) (fun _ _ _ _ _ => (pe_callTy call_intI (by rfl) B.int (by decide +kernel) (pa_cons (pv 7) pa_nil)))) pa_nil)))
    (pss_cons (ps_set (i := 4) nd rfl (Or.inl rfl) (pe_bm PySem.F.plainAttrs_list PySem.F.slot_list_index PySem.F.type_list_index mt_index (pv 0) (pa_cons (pv 3) pa_nil)))
    (pss_cons (ps_for PassesOwn.never rfl (pi_list (pv 2)) (pg_name (i := 5) nd rfl (Or.inl rfl)) (pss_one (ps_if (pt_val (pe_H Cis_refuted (hr.mono (by decide)) rfl (pa_cons (pe_un un_neg (pe_ix ix_list (pv 0) (pv 5) (fun _ _ => rfl))) (pa_cons (pv 1) pa_nil)))) (pss_one (ps_ret (pe_tup (pa_cons pe_int (pa_cons pe_int (pa_cons (pv 5) pa_nil)))))) pss_nil)))
    (pss_cons (ps_for PassesOwn.never rfl (pi_list (pv 2)) (pg_name (i := 5) nd rfl (Or.inl rfl)) (pss_one (ps_if (pt_cmpR op_eq (pv 1) pe_str (nomark _)) (pss_one (ps_for PassesOwn.never rfl (pi_range1 (by rfl) B.range (pa_cons (pe_callB call_lenL (by rfl) B.len PySem.boot_len (pa_cons (pv 0) pa_nil)) pa_nil)) (pg_name (i := 6) nd rfl (Or.inl rfl)) (pss_one (ps_if (pt_cmpR op_ne (pe_ix ix_list (pv 0) (pv 6) (fun _ _ => rfl)) pe_int (nomark _)) (pss_one (ps_ret (pe_tup (pa_cons pe_int (pa_cons (pv 6) (pa_cons (pv 5) pa_nil)))))) pss_nil)))) (pss_one (ps_if (pt_cmpR op_lt (pe_ix ix_list (pv 0) (pv 5) (fun _ _ => rfl)) (pv 3) (nomark _)) (pss_one (ps_ret (pe_tup (pa_cons (pe_bits (pe_callTy call_intI (by rfl) B.int (by decide +kernel) (pa_cons (pv 3) pa_nil))) (pa_cons (pv 4) (pa_cons (pv 5) pa_nil)))))) pss_nil)))))
    (pss_one (ps_ret pe_non)))))), ?_⟩
  refine ⟨_, rfl, wa, rfl, ⟨_, SqL.of hwa⟩, fun D nD => ?_⟩
  refine lc_list (xs := ws.map V.int) (fun i H' => Same H H' ∧ H' D = some (.lst ((ws.take i).map V.int))) ⟨Same.new nD, upd_same⟩ (fun i H' _ h => SqL.of (h.1 _ _ hwa)) (fun i x H' hx h => ?_) (fun H1 h => ?_)
  · obtain ⟨e, hD⟩ := h
    rw [List.getElem?_map] at hx
    obtain ⟨c, hc, rfl⟩ := Option.map_eq_some_iff.mp hx
    refine ⟨rfl, lcT ?_⟩
    refine ⟨_, rfl, _, rfl, _, hD, ?_, Same.mut e nD, ?_⟩
    · rw [List.length_map, List.length_take]
      exact Nat.lt_of_lt_of_le (show _ < 3000 by omega) (by decide)
    · rw [upd_same, List.take_add_one, hc, List.map_append]
      rfl
  obtain ⟨e1, hD⟩ := h
  rw [List.length_map, List.take_length] at hD
  refine ⟨D, ws, rfl, SqL.of hD, w0, fun g gm gl => ?_⟩
  obtain ⟨qn, qs⟩ := q g gm gl
  clear q
  have hwa1 := e1 _ _ hwa
  have hra1 := e1 _ _ hra
  have il : ws.idxOf g < ws.length := List.idxOf_lt_length_iff.mpr gm
  refine ⟨_, rfl, .inl ⟨rfl, _, SqL.of hwa1⟩, _, rfl, wa, ws.map V.int, .int g, ws.idxOf g, .int g, rfl, rfl, SqL.of hwa1, rfl, all_ints ws, ?_, ?_, fun m z hm hz => ?_, ?_⟩
  · rw [List.getElem?_map, List.getElem?_eq_getElem il, List.getElem_idxOf il]
    rfl
  · show (g == g) = true
    exact beq_self_eq_true g
  · rw [List.getElem?_map] at hz
    obtain ⟨c, hc, rfl⟩ := Option.map_eq_some_iff.mp hz
    have : (ws[m]'(by omega) == g) = false := List.not_of_lt_findIdx hm
    obtain ⟨h1, h2⟩ := List.getElem?_eq_some_iff.mp hc
    rw [h2] at this
    show (c == g) = false
    exact this
  have rl : ∀ {i : Nat} {x : V}, (rs.map fun (r : Nat) => V.int (r : Int))[i]? = some x → ∃ (l : Nat) (c : Int), rs[i]? = some l ∧ x = V.int (l : Int) ∧ ws[l]? = some c ∧ ws.getD l 0 = c ∧ atI (ws.map V.int) (l : Int) = some (.int c) := fun {i x} h => by
    rw [List.getElem?_map] at h
    obtain ⟨l, hl, rfl⟩ := Option.map_eq_some_iff.mp h
    have ll := hrs l (List.mem_of_getElem? hl)
    have hc : ws[l]? = some (ws[l]) := List.getElem?_eq_getElem ll
    exact ⟨l, ws[l], hl, rfl, hc, by rw [List.getD_eq_getElem?_getD, hc]; rfl, atI_nat (by rw [List.getElem?_map, hc]; rfl)⟩
  refine ⟨_, rfl, ra, rfl, ⟨_, SqL.of hra1⟩, ?_⟩
  refine for_list (xs := rs.map fun (r : Nat) => V.int (r : Int)) (fun i σ H' => H' = H1 ∧ (∀ y ∈ rs.take i, refd s (-(ws.getD y 0)) = false) ∧ ∃ o, σ = [some (.ref wa), some (.str (txt s)), some (.ref ra), some (.int g), some (.int ((ws.idxOf g : Nat) : Int)), o, none, none]) ⟨rfl, (fun y h => by rw [List.take_zero] at h; cases h), none, rfl⟩ (fun i σ H' _ h => by rw [h.1]; exact SqL.of hra1) (fun i x σ H' hx h => ?_) (fun σ H' h => ?_)
  · obtain ⟨rfl, hno, o, rfl⟩ := h
    obtain ⟨l, c, hl, rfl, hc, ec, ac⟩ := rl hx
    refine ⟨_, rfl, _, rfl, wa, _, _, _, rfl, rfl, SqL.of hwa1, ac, _, rfl, _, rfl, s, -c, rfl, ?_⟩
    refine ⟨_, rfl, ?_⟩
    cases hb : refd s (-c) with
    | true =>
      refine iteT ?_
      refine ⟨_, rfl, (by show 3 ≤ sizeLine; decide), fun p2 np2 => ?_⟩
      exact qs 0 0 l (refW_hit (find_take hl hno (by rw [ec]; exact hb))) p2 _ (e1.trans (Same.new np2)) (SqT.of upd_same)
    | false =>
      exact iteF ⟨rfl, take_snoc hl hno (by rw [ec]; exact hb), _, rfl⟩
  obtain ⟨rfl, hno, o, rfl⟩ := h
  rw [List.length_map] at hno
  have fn := find_all hno
  refine ⟨_, rfl, ra, rfl, ⟨_, SqL.of hra1⟩, ?_⟩
  refine for_list (xs := rs.map fun (r : Nat) => V.int (r : Int)) (fun i σ H2 => H2 = H' ∧ (s = [61, 61] → 0 < i → ∀ y ∈ ws.take ws.length, decide (y ≠ 0) = false) ∧ (s ≠ [61, 61] → ∀ y ∈ rs.take i, decide (ws.getD y 0 < g) = false) ∧ ∃ o o2, σ = [some (.ref wa), some (.str (txt s)), some (.ref ra), some (.int g), some (.int ((ws.idxOf g : Nat) : Int)), o, o2, none]) ⟨rfl, (fun _ h => absurd h (Nat.lt_irrefl 0)), (fun _ y h => by rw [List.take_zero] at h; cases h), _, _, rfl⟩ (fun i σ H' _ h => by rw [h.1]; exact SqL.of hra1) (fun i x σ H' hx h => ?_) (fun σ H' h => ?_)
  · obtain ⟨rfl, hz, hno2, o, o2, rfl⟩ := h
    obtain ⟨l, c, hl, rfl, hc, ec, ac⟩ := rl hx
    refine ⟨_, rfl, rfl, _, rfl, ?_⟩
    rw [eq_txt str_eqs]
    refine iteD (fun c1 => ?_) (fun c1 => ?_)
    · refine ⟨_, rfl, wa, _, rfl, SqL.of hwa1, _, rfl, (by rw [List.length_map]; omega), (by rw [List.length_map]; omega), ?_⟩
      rw [List.length_map]
      refine for_range (lo := 0) (n := ws.length) (fun j σ H2 => H2 = H' ∧ (∀ y ∈ ws.take j, decide (y ≠ 0) = false) ∧ ∃ o2, σ = [some (.ref wa), some (.str (txt s)), some (.ref ra), some (.int g), some (.int ((ws.idxOf g : Nat) : Int)), some (.int (l : Int)), o2, none]) ⟨rfl, (fun y h => by rw [List.take_zero] at h; cases h), _, rfl⟩ (fun j σ H2 hj h => ?_) (fun σ H2 h => ?_)
      · obtain ⟨rfl, hn, o3, rfl⟩ := h
        have hcj : ws[j]? = some ws[j] := List.getElem?_eq_getElem hj
        have aj : atI (ws.map V.int) (0 + (j : Int)) = some (.int ws[j]) := by rw [Int.zero_add]; exact atI_nat (by rw [List.getElem?_map, hcj]; rfl)
        refine ⟨_, rfl, _, rfl, wa, _, _, _, rfl, rfl, SqL.of hwa1, aj, rfl, _, rfl, ?_⟩
        have ee : (!decide (V.int ws[j] = V.int 0)) = decide (ws[j] ≠ 0) := by
          by_cases z : ws[j] = 0
          · rw [z]; rfl
          · rw [decide_eq_true (show ws[j] ≠ 0 from z), decide_eq_false (fun h => z (by injection h))]; rfl
        rw [ee]
        refine iteD (fun c2 => ?_) (fun c2 => ?_)
        · refine ⟨_, rfl, _, rfl, (by show 3 ≤ sizeLine; decide), fun p3 np3 => ?_⟩
          have i0 : i = 0 := by
            rcases Nat.eq_zero_or_pos i with h | h
            · exact h
            · have := hz c1 h ws[j] (by rw [List.take_length]; exact List.getElem_mem hj)
              exact absurd c2 (of_decide_eq_false this)
          subst i0
          have er : rs = l :: rs.tail := by
            cases rs with
            | nil => cases hl
            | cons a b => injection hl with hl; rw [hl]; rfl
          have ew : refW ws s rs g = some (1, j, l) := by
            rw [refW_eq fn c1, er]
            show ((ws.findIdx? fun w => decide (w ≠ 0)).map fun r => ((1 : Int), r, l)) = _
            rw [findIdx_take hcj hn (decide_eq_true c2)]
            rfl
          refine qs 1 j l ew p3 _ (e1.trans (Same.new np3)) ?_
          rw [Int.zero_add]
          exact SqT.of upd_same
        · exact ⟨rfl, take_snoc hcj hn (decide_eq_false c2), _, rfl⟩
      · obtain ⟨rfl, hn, o3, rfl⟩ := h
        exact ⟨rfl, fun _ _ => hn, fun h => absurd c1 h, _, _, rfl⟩
    · refine ⟨_, rfl, _, rfl, wa, _, _, _, rfl, rfl, SqL.of hwa1, ac, _, rfl, _, _, rfl, rfl, _, rfl, ?_⟩
      refine iteD (fun c2 => ?_) (fun c2 => ?_)
      · refine ⟨_, rfl, _, rfl, _, rfl, _, rfl, _, rfl, (by show 3 ≤ sizeLine; decide), fun p4 np4 => ?_⟩
        refine qs _ _ l ?_ p4 _ (e1.trans (Same.new np4)) (SqT.of upd_same)
        rw [refW_ne fn c1, find_take hl (hno2 c1) (by rw [ec]; exact decide_eq_true c2)]
        rfl
      · exact ⟨rfl, fun h => absurd h c1, fun _ => take_snoc hl (hno2 c1) (by rw [ec]; exact decide_eq_false c2), _, _, rfl⟩
  · obtain ⟨rfl, hz, hno2, o, o2, rfl⟩ := h
    refine qn ?_ _ e1
    rw [List.length_map] at hz hno2
    by_cases c1 : s = [61, 61]
    · rw [refW_eq fn c1]
      cases rs with
      | nil => rfl
      | cons a b =>
        have := hz c1 (Nat.succ_pos _)
        rw [List.take_length] at this
        show ((ws.findIdx? fun w => decide (w ≠ 0)).map fun r => ((1 : Int), r, a)) = none
        rw [List.findIdx?_eq_none_iff.mpr this]
        rfl
    · rw [refW_ne fn c1, find_all (hno2 c1)]
      rfl
end
end Fb
namespace Fb
open PySem L2 NdefX PyProof.Rows
def chFst (l : List Nat) : Nat := match l.getLast? with
  | some x => x + 1
  | none => 0
def chExt (n : Nat) (l : List Nat) (j : Nat) : List (List Nat) := (List.range j).map fun i => l ++ [chFst l + i]
def chI (n : Nat) : Nat → List (List Nat)
  | 0 => [[]]
  | a + 1 => chI n a ++ match (chI n a)[a]? with
    | some l => chExt n l (n - chFst l)
    | none => []
def chW (n : Nat) : List (List Nat) := chI n (2 ^ n)
theorem ch_lt : ∀ n ≤ 5, ∀ a < 2 ^ n, a < (chI n a).length := by decide +kernel
theorem ch_len : ∀ n ≤ 5, (chI n (2 ^ n)).length = 2 ^ n := by decide +kernel
theorem ch_fst : ∀ n ≤ 5, ∀ l ∈ chW n, chFst l ≤ n := by decide +kernel
theorem ch_max : ∀ n ≤ 5, ∀ l ∈ chW n, (∀ x ∈ l, x < n) ∧ (l.map fun x => 2 ^ x).sum < 2 ^ n ∧ l.length ≤ n := by decide +kernel
theorem ch_pre (n : Nat) : ∀ a b, a ≤ b → ∃ r, chI n b = chI n a ++ r := fun a b h => by
  induction b with
  | zero =>
    obtain rfl : a = 0 := by omega
    exact ⟨[], (List.append_nil _).symm⟩
  | succ b ih =>
    by_cases c : a = b + 1
    · subst c; exact ⟨[], (List.append_nil _).symm⟩
    · obtain ⟨r, e⟩ := ih (by omega)
      refine ⟨r ++ match (chI n b)[b]? with | some l => chExt n l (n - chFst l) | none => [], ?_⟩
      show chI n b ++ _ = _
      conv => lhs; arg 1; rw [e]
      rw [List.append_assoc]
/-- a list of small numbers -/
def LsV (H : Hp) (T : Addr → Prop) (v : V) (l : List Nat) : Prop := ∃ s, v = .ref s ∧ ¬ T s ∧ H s = some (.lst (l.map fun (x : Nat) => V.int (x : Int)))
theorem LsV.same {H H' : Hp} {T : Addr → Prop} {v : V} {l : List Nat} (h : LsV H T v l) (e : Same H H') : LsV H' T v l := by
  obtain ⟨s, a, b, c⟩ := h
  exact ⟨s, a, b, e _ _ c⟩
theorem LsV.upd {H : Hp} {T : Addr → Prop} {g : Addr} {v : V} {l : List Nat} {o : HO} (h : LsV H T v l) (t : T g) : LsV (upd H g o) T v l := by
  obtain ⟨s, a, b, c⟩ := h
  exact ⟨s, a, b, by rw [upd_ne (by rintro rfl; exact b t)]; exact c⟩
section
variable {P : Program} {w : World} {K : PySem.W.Frag} {mg : Str → Option Value} {base : Heap} {f : Addr} {fd : FuncData}
abbrev S_choices : Stmt := top 56
abbrev N_choices : List Str := ["many", "found", "at", "chosen", "first", "k"]
abbrev P_choices : List Str := ["many"]
theorem sc_choices : FnScope N_choices P_choices (defScope S_choices) := ⟨rfl, rfl, rfl, by decide +kernel, rfl, by decide +kernel, by decide +kernel⟩
def spCh (K : PySem.W.Frag) : Sp := fun vs H Q _ => ∃ (n : Nat), vs = [.int (n : Int)] ∧ n ≤ 5 ∧ ∀ (g : Addr) (us : List V) (H' : Hp), Same H H' → H g = none → H' g = some (.lst us) → Bes (LsV H' fun c => c = g ∨ H c ≠ none) us (chW n) → Q (.ref g) H'
theorem ok_ch (F : Fun K "choices" "choices" S_choices f fd) (B : Blt mg) : FnOk P w K mg base CX0 1 f fd P_choices (spCh K) := by
  have nd := sc_choices.nd
  refine F.ok sc_choices (fun vs H Q E h => ?_) (fun cdv A outer s H vs Q E hr h => ?_)
  · obtain ⟨n, rfl, _⟩ := h
    rfl
  obtain ⟨n, rfl, n5, q⟩ := h
  refine ⟨_, (pss_cons (ps_set (i := 1) nd rfl (Or.inl rfl) (pe_lst (pa_cons (pe_lst pa_nil) pa_nil)))
    (pss_cons (ps_set (i := 2) nd rfl (Or.inl rfl) pe_int)
    (pss_cons (ps_while PassesOwn.never (pt_cmpR op_lt (pv 2) (pe_callB call_lenL (by rfl) B.len PySem.boot_len (pa_cons (pv 1) pa_nil)) (nomark _)) (pss_cons (ps_set (i := 3) nd rfl (Or.inl rfl) (pe_ix ix_list (pv 1) (pv 2) (fun _ _ => rfl)))
    (C8.pss_cut (ps_set (i := 4) nd rfl (Or.inl rfl) (pe_ifExp (pt_truth (pv 3) (by intro _; rfl)) (pe_op op_add (pe_ix ix_list (pv 3) (pe_un un_neg pe_int) (fun _ _ => rfl)) pe_int) pe_int))
    (pss_cons (ps_for PassesOwn.never rfl (pi_range2 (by rfl) B.range (pa_cons (pv 4) (pa_cons (pv 0) pa_nil))) (pg_name (i := 5) nd rfl (Or.inl rfl)) (pss_one (ps_expr (pe_bm PySem.F.plainAttrs_list PySem.F.slot_list_append PySem.F.type_list_append mt_append (pv 1) (pa_cons (pe_lst (StX.pa_star (pv 3) (pa_cons (pv 5) pa_nil))) pa_nil)))))
    (pss_one (ps_aug (i := 2) nd rfl (Or.inl rfl) pe_int ip_add))))))
    (pss_one (ps_ret (pv 1)))))), ?_⟩
  have p5 := pow5 n5
  refine ⟨(by show 0 ≤ sizeLine; decide), fun p1 np1 => ⟨(by show 1 ≤ sizeLine; decide), fun g ng => ?_⟩⟩
  have s1 := Same.new (o := .lst []) np1
  have g1 : p1 ≠ g := by rintro rfl; rw [upd_same] at ng; cases ng
  have ng' : H g = none := s1.free ng
  have s2 := s1.trans (Same.new (o := .lst [V.ref p1]) ng)
  let T : Addr → Prop := fun c => c = g ∨ H c ≠ none
  have t1 : ¬ T p1 := fun h => h.elim g1 fun h => h np1
  refine ⟨fun m σ H' => ∃ a us, m = 2 ^ n - a ∧ a ≤ 2 ^ n ∧ Same H H' ∧ H' g = some (.lst us) ∧ Bes (LsV H' T) us (chI n a) ∧ ∃ o1 o2 o3, σ = [some (.int (n : Int)), some (.ref g), some (.int (a : Int)), o1, o2, o3], ⟨_, 0, _, rfl, Nat.zero_le _, s2, upd_same,   .cons ⟨p1, rfl, t1, by rw [upd_ne g1, upd_same]; rfl⟩ .nil, none, none, none, rfl⟩, ?_⟩
  rintro m σ H' ⟨a, us, rfl, ha, e, hg, hb, o1, o2, o3, rfl⟩
  have ul := hb.len
  refine ⟨_, rfl, _, rfl, g, _, rfl, SqL.of hg, _, _, rfl, rfl, _, rfl, ?_⟩
  refine iteD (fun c => ?_) (fun c => ?_)
  · have alt : a < 2 ^ n := by
      rcases Nat.lt_or_ge a (2 ^ n) with h | h
      · exact h
      · have e : a = 2 ^ n := by omega
        subst e
        rw [ch_len n n5] at ul
        omega
    have al := ch_lt n n5 a alt
    obtain ⟨l, hl⟩ : ∃ l, (chI n a)[a]? = some l := ⟨_, List.getElem?_eq_getElem al⟩
    obtain ⟨v, hv⟩ : ∃ v, us[a]? = some v := ⟨_, List.getElem?_eq_getElem (by omega)⟩
    obtain ⟨l', hl', sl, rfl, st, hsl⟩ := hb.get hv
    have sg : sl ≠ g := fun h => st (.inl h)
    obtain rfl : l' = l := by rw [hl] at hl'; injection hl' with h; exact h.symm
    have lw : l' ∈ chW n := by
      obtain ⟨r, er⟩ := ch_pre n a (2 ^ n) ha
      show l' ∈ chI n (2 ^ n)
      rw [er]
      exact List.mem_append_left _ (List.mem_of_getElem? hl)
    have hf := ch_fst n n5 l' lw
    have ec : chI n (a + 1) = chI n a ++ chExt n l' (n - chFst l') := by
      show chI n a ++ _ = _
      rw [hl]
    refine ⟨fun σ H2 => ∃ us, Same H H2 ∧ H2 g = some (.lst us) ∧ Bes (LsV H2 T) us (chI n (a + 1)) ∧ ∃ o1 o2 o3, σ = [some (.int (n : Int)), some (.ref g), some (.int ((a + 1 : Nat) : Int)), o1, o2, o3], ?_, ?_⟩
    · rintro σ H2 ⟨us, x1, x2, x3, x4⟩
      exact ⟨_, show 2 ^ n - (a + 1) < 2 ^ n - a by omega, a + 1, us, rfl, alt, x1, x2, x3, x4⟩
    refine ⟨_, rfl, _, rfl, g, _, _, _, rfl, rfl, SqL.of hg, atI_nat hv, ?_⟩
    refine ⟨fun σ H2 => σ = [some (.int (n : Int)), some (.ref g), some (.int (a : Int)), some (.ref sl), some (.int ((chFst l' : Nat) : Int)), o3] ∧ H2 = H', ?_, ?_⟩
    · refine ⟨_, rfl, _, .inl ⟨_, SqL.of hsl, rfl⟩, ?_⟩
      rcases l'.eq_nil_or_concat with rfl | ⟨l0, x, e0⟩
      · exact iteF ⟨rfl, rfl⟩
      · rw [List.concat_eq_append] at e0
        subst e0
        have en : (!((l0 ++ [x]).map fun (x : Nat) => V.int (x : Int)).isEmpty) = true := by cases l0 <;> rfl
        rw [en]
        have el : ((l0 ++ [x]).map fun (x : Nat) => V.int (x : Int)) = l0.map (fun (x : Nat) => V.int (x : Int)) ++ [V.int (x : Int)] := by rw [List.map_append]; rfl
        have hx : atI ((l0 ++ [x]).map fun (x : Nat) => V.int (x : Int)) (-1) = some (.int (x : Int)) := by rw [el]; exact atI_last _ _
        refine iteT ⟨_, rfl, _, rfl, sl, _, _, _, rfl, rfl, SqL.of hsl, hx, _, _, rfl, rfl, ?_, rfl⟩
        have ef : chFst (l0 ++ [x]) = x + 1 := by
          unfold chFst
          rw [List.getLast?_concat]
        rw [ef]
        rfl
    rintro σ H2 ⟨rfl, rfl⟩
    refine ⟨_, rfl, _, rfl, _, _, rfl, (by omega), ?_⟩
    have ej : ((n : Int) - ((chFst l' : Nat) : Int)).toNat = n - chFst l' := by omega
    rw [ej]
    have lmax := (ch_max n n5 l' lw).2.2
    have al2 : (chI n a).length ≤ 2 ^ n := by
      obtain ⟨r, er⟩ := ch_pre n a (2 ^ n) ha
      have := congrArg List.length er
      rw [ch_len n n5, List.length_append] at this
      omega
    refine for_range (lo := ((chFst l' : Nat) : Int)) (n := n - chFst l') (fun j σ H3 => ∃ us, Same H H3 ∧ H3 g = some (.lst us) ∧ Bes (LsV H3 T) us (chI n a ++ chExt n l' j) ∧ H3 sl = some (.lst (l'.map fun (x : Nat) => V.int (x : Int))) ∧ ∃ o, σ = [some (.int (n : Int)), some (.ref g), some (.int (a : Int)), some (.ref sl), some (.int ((chFst l' : Nat) : Int)), o]) ⟨us, e, hg, by rw [show chExt n l' 0 = [] from rfl, List.append_nil]; exact hb, hsl, _, rfl⟩ (fun j σ H3 hj h => ?_) (fun σ H3 h => ?_)
    · obtain ⟨us, e3, hg3, hb3, hs3, o, rfl⟩ := h
      refine ⟨_, rfl, .inl ⟨rfl, _, SqL.of hg3⟩, _, rfl, sl, _, rfl, .inr (SqL.of hs3), _, rfl, ?_, fun p3 np3 => ?_⟩
      · rw [List.length_append, List.length_map]
        exact Nat.le_trans (show l'.length + 1 ≤ 3000 by omega) (by decide)
      have s3 := Same.new (o := .lst (l'.map (fun (x : Nat) => V.int (x : Int)) ++ [V.int (((chFst l' : Nat) : Int) + (j : Int))])) np3
      have hg4 := s3 _ _ hg3
      have g3 : p3 ≠ g := by rintro rfl; rw [hg3] at np3; cases np3
      refine ⟨g, _, _, rfl, rfl, hg4, ?_, _, Same.mut (e3.trans s3) ng', upd_same, ?_, by rw [upd_ne sg]; exact s3 _ _ hs3, _, rfl⟩
      · have := hb3.len
        rw [List.length_append] at this
        have h2 : (chExt n l' j).length = j := by unfold chExt; rw [List.length_map, List.length_range]
        exact Nat.lt_of_lt_of_le (show us.length < 3000 by omega) (by decide)
      · have ex : chExt n l' (j + 1) = chExt n l' j ++ [l' ++ [chFst l' + j]] := by
          unfold chExt
          rw [List.range_succ, List.map_append]
          rfl
        rw [ex, ← List.append_assoc]
        refine (hb3.mono fun _ _ r => (r.same s3).upd (.inl rfl)).app (.cons ⟨p3, rfl, fun h => h.elim g3 fun h => h (e3.free np3), ?_⟩ .nil)
        rw [upd_ne g3, upd_same, List.map_append]
        show some (HO.lst (_ ++ [V.int (((chFst l' : Nat) : Int) + (j : Int))])) = some (HO.lst (_ ++ [V.int (((chFst l' + j : Nat)) : Int)]))
        rw [Int.natCast_add]
    · obtain ⟨us, e3, hg3, hb3, hs3, o, rfl⟩ := h
      rw [← ec] at hb3
      exact ⟨_, rfl, _, _, rfl, rfl, us, e3, hg3, hb3, _, _, _, rfl⟩
  · have alt : a = 2 ^ n := by
      rcases Nat.lt_or_ge a (2 ^ n) with h | h
      · have := ch_lt n n5 a h
        omega
      · omega
    subst alt
    exact ⟨_, rfl, q g us H' e ng' hg hb⟩
end
end Fb
namespace Fb
open PySem L2 NdefX PyProof.Rows
theorem xor_small : ∀ k < 5, ∀ r < 32, Bt k ((r : Nat) : Int) ≠ 0 → Builtin.bitXor ((r : Nat) : Int) (1 * 2 ^ k) = ((r - 2 ^ k : Nat) : Int) := by decide +kernel
def mobS (k : Nat) (ws : List Int) (r : Nat) : List Int := if Bt k (r : Int) ≠ 0 then ws.set r (ws.getD r 0 - ws.getD (r - 2 ^ k) 0) else ws
def mobR (k : Nat) (ws : List Int) (i : Nat) : List Int := (List.range i).foldl (mobS k) ws
def mobK (k m : Nat) (ws : List Int) : List Int := (List.range k).foldl (fun ws j => mobR j ws m) ws
theorem mobS_len (k : Nat) (ws : List Int) (r : Nat) : (mobS k ws r).length = ws.length := by
  unfold mobS
  split
  · rw [List.length_set]
  · rfl
theorem mobR_succ (k : Nat) (ws : List Int) (i : Nat) : mobR k ws (i + 1) = mobS k (mobR k ws i) i := by
  unfold mobR
  rw [List.range_succ, List.foldl_append]
  rfl
theorem mobR_len (k : Nat) (ws : List Int) : ∀ i, (mobR k ws i).length = ws.length
  | 0 => rfl
  | i + 1 => by rw [mobR_succ, mobS_len, mobR_len k ws i]
theorem mobK_succ (k m : Nat) (ws : List Int) : mobK (k + 1) m ws = mobR k (mobK k m ws) m := by
  unfold mobK
  rw [List.range_succ, List.foldl_append]
  rfl
theorem mobK_len (m : Nat) (ws : List Int) : ∀ k, (mobK k m ws).length = ws.length
  | 0 => rfl
  | k + 1 => by rw [mobK_succ, mobR_len, mobK_len m ws k]
def cfs (n : Nat) (ws : List Int) : List Int := (mobK n (2 ^ n) ws).set 0 (-((mobK n (2 ^ n) ws).getD 0 0))
def cjP (ns : List Chs) (ws : List Int) (l : List Nat) : Option (List Chs × Int) := if (cfs ns.length ws).getD (l.map fun x => 2 ^ x).sum 0 ≠ 0 then some (l.map fun i => ns.getD i [], (cfs ns.length ws).getD (l.map fun x => 2 ^ x).sum 0) else none
def cjOf (ns : List Chs) (ws : List Int) : List (List Chs × Int) := (chW ns.length).filterMap (cjP ns ws)
def cjD (ps : List (List Chs × Int)) : PyData := .tuple (ps.map fun p => .tuple [.tuple (p.1.map fun c => .str (txt c)), .int p.2])
def CjV (K : PySem.W.Frag) (H : Hp) (v : V) (p : List Chs × Int) : Prop := ∃ a t, v = .ref a ∧ SqT K H a [.ref t, .int p.2] ∧ SqT K H t (p.1.map fun c => V.str (txt c))
theorem CjV.tps {K : PySem.W.Frag} {H H' : Hp} {v : V} {p : List Chs × Int} (e : Tps K H H') (h : CjV K H v p) : CjV K H' v p := by
  obtain ⟨a, t, h1, h2, h3⟩ := h
  exact ⟨a, t, h1, e _ _ h2, e _ _ h3⟩
theorem ds_strs {K : PySem.W.Frag} {H : Hp} : ∀ l : List Chs, DpAll K H (l.map fun c => V.str (txt c)) (l.map fun c => PyData.str (txt c))
  | [] => .nil
  | c :: l => .cons (.str _) (ds_strs l)
theorem ds_cj {K : PySem.W.Frag} {H : Hp} {us : List V} {ps : List (List Chs × Int)} (h : Bes (CjV K H) us ps) : DpAll K H us (ps.map fun p => .tuple [.tuple (p.1.map fun c => .str (txt c)), .int p.2]) := by
  induction h with
  | nil => exact .nil
  | cons h1 _ ih =>
    obtain ⟨a, t, rfl, h2, h3⟩ := h1
    exact .cons (.tup h2 (.cons (.tup h3 (ds_strs _)) (.cons (.int _) .nil))) ih
theorem sum_pows (l : List Nat) : ((l.map fun x => (1 * 2 ^ x : Int)).sum) = (((l.map fun x => 2 ^ x).sum : Nat) : Int) := by
  induction l with
  | nil => rfl
  | cons x l ih =>
    rw [List.map_cons, List.sum_cons, ih, List.map_cons, List.sum_cons, Int.one_mul, Int.natCast_add, Int.natCast_pow]
    rfl
theorem get_ints {ws : List Int} {i : Nat} (h : i < ws.length) : atI (ws.map V.int) (i : Int) = some (.int (ws.getD i 0)) := by
  refine atI_nat ?_
  rw [List.getElem?_map, List.getD_eq_getElem?_getD, List.getElem?_eq_getElem h]
  rfl
theorem ix_nat {n j : Nat} (h : j < n) : ixN n (j : Int) = some j := by
  unfold ixN
  rw [if_pos (Int.natCast_nonneg j), if_pos (by omega), Int.toNat_natCast]
section
variable {P : Program} {w : World} {K : PySem.W.Frag} {mg : Str → Option Value} {base : Heap} {f : Addr} {fd : FuncData} {C_BadText C_TooManyNames C_NotLinear : Addr}
abbrev S_conjunctions : Stmt := top 55
abbrev N_conjunctions : List Str := ["expression", "steps", "names", "coefficients", "k", "row", "pairs", "chosen", "coefficient", "at"]
abbrev P_conjunctions : List Str := ["expression"]
theorem sc_conjunctions : FnScope N_conjunctions P_conjunctions (defScope S_conjunctions) := ⟨rfl, rfl, rfl, by decide +kernel, rfl, by decide +kernel, by decide +kernel⟩
def spCj (K : PySem.W.Frag) (CB CM CN : Addr) : Sp := fun vs H Q E => ∃ (l : Chs), vs = [.str (txt l)] ∧ l.length ≤ 1000000 ∧ NumB l ∧
  (∀ q, runR (fun _ => false) true (lex l 0) [] [] = .err q → BadE CB E H q) ∧
  ∀ S q, runR (fun _ => false) true (lex l 0) [] [] = .ok S q → S.length ≤ 1000000 ∧ ∃ ts, S = ts.map Ts.stp ∧ (∀ t ∈ ts, t.stp.p < 10 ^ 10) ∧ ∀ ks : List Chs, ks.Nodup → (∀ c, c ∈ ks ↔ c ∈ nmsOf ts) → (5 < ks.length → BadN CM E H ks.length) ∧
    ∀ ns : List Chs, ns.Perm ks → ks.length ≤ 5 → NmL ts ns → okW (2 ^ ns.length) (tmOf ns) ts [] ∧ match runW (2 ^ ns.length) (tmOf ns) ts [] with
      | .err p => BadE CN E H p
      | .ok [p] => (wtsIn p (2 ^ ns.length)).length = 2 ^ ns.length ∧ ∀ v H', Same H H' → Dp K H' v (cjD (cjOf ns (wtsIn p (2 ^ ns.length)))) → Q v H'
      | _ => False
theorem ok_cj (F : Fun K "conjunctions" "conjunctions" S_conjunctions f fd) (B : Blt mg) (Csteps_of : HasX P w K mg base 8 "steps_of" P_steps_of (spStepsOf K C_BadText)) (Cnames_in : HasX P w K mg base 5 "names_in" P_names_in (spNi K C_TooManyNames)) (Cweights_of : HasX P w K mg base 5 "weights_of" P_weights_of (spWo K C_NotLinear)) (Cchoices : Has P w K mg base 1 "choices" P_choices [] (spCh K)) : FnOk P w K mg base (L2.CX P w) 9 f fd P_conjunctions (spCj K C_BadText C_TooManyNames C_NotLinear) := by
  have nd := sc_conjunctions.nd
  refine F.okX sc_conjunctions (fun vs H Q E h => ?_) (fun cdv A outer s H vs Q E hr h => ?_)
  · obtain ⟨l, rfl, _⟩ := h
    rfl
  obtain ⟨l, rfl, hl, nb, qe, q⟩ := h
  refine ⟨_, (pss_cons (ps_set (i := 1) nd rfl (Or.inl rfl) (pe_HX Csteps_of (takes_of rfl rfl rfl rfl) (hr.mono (by decide)) rfl (pa_cons (pv 0) pa_nil)))
    (pss_cons (ps_set (i := 2) nd rfl (Or.inr rfl) (pe_HX Cnames_in (takes_of rfl rfl rfl rfl) (hr.mono (by decide)) rfl (pa_cons (pv 1) pa_nil)))
    (pss_cons (ps_set (i := 3) nd rfl (Or.inl rfl) (pe_HX Cweights_of (takes_of rfl rfl rfl rfl) (hr.mono (by decide)) rfl (pa_cons (pv 1) (pa_cons (pv 2) pa_nil))))
    (pss_cons (ps_for (passes_of rfl) rfl (pi_range1 (by rfl) B.range (pa_cons (pe_callB call_lenL (by rfl) B.len PySem.boot_len (pa_cons (pv 2) pa_nil)) pa_nil)) (pg_name (i := 4) nd rfl (Or.inl rfl)) (pss_one (ps_for (passes_of rfl) rfl (pi_range1 (by rfl) B.range (pa_cons (pe_callB call_lenL (by rfl) B.len PySem.boot_len (pa_cons (pv 3) pa_nil)) pa_nil)) (pg_name (i := 5) nd rfl (Or.inl rfl)) (pss_one (ps_if (pt_truth (pe_op op_and (pe_op op_shr (pv 5) (pv 4)) pe_int) (by intro _; rfl)) (pss_one (ps_asg (pe_op op_sub (pe_ix ix_list (pv 3) (pv 5) (fun _ _ => rfl)) (pe_ix ix_list (pv 3) (pe_op op_xor (pv 5) (pe_op op_shl pe_int (pv 4))) (fun _ _ => rfl))) (pg_sub (pv 3) (pv 5) set_list))) pss_nil)))))
    (pss_cons (ps_asg (pe_un un_neg (pe_ix ix_list (pv 3) pe_int (fun _ _ => rfl))) (pg_sub (pv 3) pe_int set_list))
    (pss_cons (ps_set (i := 6) nd rfl (Or.inl rfl) (pe_lst pa_nil))
    (pss_cons (ps_for (passes_of rfl) rfl (pi_list (pe_H Cchoices (hr.mono (by decide)) rfl (pa_cons (pe_callB call_lenL (by rfl) B.len PySem.boot_len (pa_cons (pv 2) pa_nil)) pa_nil))) (pg_name (i := 7) nd rfl (Or.inl rfl)) (pss_cons (ps_set (i := 8) nd rfl (Or.inl rfl) (pe_ix ix_list (pv 3) (pe_callB (cr_sum rfl) (by rfl) B.sum (by decide +kernel) (pa_cons (pe_lc (own := [("at", 9)]) (g := gName 9) (tt := tYes) rfl nd (pi_list (pv 7)) (blkOk_by (own := [("at", 9)]) (N := N_conjunctions) (sc := defScope S_conjunctions) (by decide +kernel)) (fun _ _ _ _ _ => pg_name (i := 9) nd rfl (Or.inl rfl)) (fun _ _ _ _ _ => pts_nil) (fun _ _ _ _ _ => (pe_op op_shl pe_int (pv 9)))) pa_nil)) (fun _ _ => rfl)))
    (pss_one (ps_if (pt_cmpR op_ne (pv 8) pe_int (nomark _)) (pss_one (ps_expr (pe_bm PySem.F.plainAttrs_list PySem.F.slot_list_append PySem.F.type_list_append mt_append (pv 6) (pa_cons (pe_tup (pa_cons (pe_callTy call_tupL (by rfl) B.tuple (by decide +kernel) (pa_cons (pe_lc (own := [("at", 9)]) (g := gName 9) (tt := tYes) rfl nd (pi_list (pv 7)) (blkOk_by (own := [("at", 9)]) (N := N_conjunctions) (sc := defScope S_conjunctions) (by decide +kernel)) (fun _ _ _ _ _ => pg_name (i := 9) nd rfl (Or.inl rfl)) (fun _ _ _ _ _ => pts_nil) (fun _ _ _ _ _ => (pe_ix (ix_listK K) (pv 2) (pv 9) (fun _ _ => rfl)))) pa_nil)) (pa_cons (pv 8) pa_nil))) pa_nil)))) pss_nil))))
    (pss_one (ps_ret (pe_callTy call_tupL (by rfl) B.tuple (by decide +kernel) (pa_cons (pv 6) pa_nil))))))))))), ?_⟩
  refine ⟨_, rfl, l, rfl, hl, nb, qe, fun S q0 eS H1 sa us e1 nsa hsa hst => ?_⟩
  obtain ⟨sl, ts, rfl, hpl, q⟩ := q S q0 eS
  have usl : us.length ≤ 1000000 := by rw [hst.len]; exact sl
  refine ⟨_, rfl, sa, us, ts, rfl, SqL.of hsa, (by rw [hsa]; exact fun h => by cases h), hst, usl, fun ks nk mk => ⟨fun h5 => ?_, fun ns pn k5 nl na H2 e2 nna hna => ?_⟩⟩
  · exact fun H' a e ha => (q ks nk mk).1 h5 H' a (e1.trans e) ha
  obtain ⟨okw, q⟩ := (q ks nk mk).2 ns pn k5 nl
  have n5 : ns.length ≤ 5 := by rw [pn.length_eq]; exact k5
  have p5 := pow5 n5
  refine ⟨_, rfl, _, rfl, sa, na, us, ts, ns, rfl, e2 _ _ hsa, hst.mono fun _ _ r => r.tps (same_tps e2), usl, hpl, hna, nl.nd, n5, okw, ?_⟩
  generalize hw : runW (2 ^ ns.length) (tmOf ns) ts [] = Rw at q
  match Rw, q with
  | .err p, q => exact fun H' a e ha => q H' a (e1.trans (e2.trans e)) ha
  | .bad, q => exact q.elim
  | .ok [], q => exact q.elim
  | .ok (_ :: _ :: _), q => exact q.elim
  | .ok [p], q =>
  obtain ⟨lw, q⟩ := q
  intro co H3 e3 nco hco
  generalize wtsIn p (2 ^ ns.length) = ws at lw q hco
  have hna3 := e3 _ _ hna
  have e13 := e1.trans (e2.trans e3)
  have ll : (ns.map fun c => V.str (txt c)).length = ns.length := by rw [List.length_map]
  generalize hm : 2 ^ ns.length = m at p5 lw
  refine ⟨_, rfl, na, _, rfl, SqL.of hna3, _, rfl, (by rw [ll]; omega), (by rw [ll]; omega), ?_⟩
  rw [ll]
  refine for_range (lo := 0) (n := ns.length) (fun k σ H' => Same H2 H' ∧ H' co = some (.lst ((mobK k m ws).map V.int)) ∧ ∃ o1 o2, σ = [some (.str (txt l)), some (.ref sa), some (.ref na), some (.ref co), o1, o2, none, none, none, none]) ⟨e3, hco, none, none, rfl⟩ (fun k σ H' hk h => ?_) (fun σ H' h => ?_)
  · obtain ⟨e, hc, o1, o2, rfl⟩ := h
    have lk : ((mobK k m ws).map V.int).length = m := by rw [List.length_map, mobK_len, lw]
    refine ⟨_, rfl, co, _, rfl, SqL.of hc, _, rfl, (by rw [lk]; omega), (by rw [lk]; omega), ?_⟩
    rw [lk]
    refine for_range (lo := 0) (n := m) (fun r σ H' => Same H2 H' ∧ H' co = some (.lst ((mobR k (mobK k m ws) r).map V.int)) ∧ ∃ o2, σ = [some (.str (txt l)), some (.ref sa), some (.ref na), some (.ref co), some (.int (0 + (k : Int))), o2, none, none, none, none]) ⟨e, hc, o2, rfl⟩ (fun r σ H' hr2 h => ?_) (fun σ H' h => ?_)
    · obtain ⟨e, hc, o2, rfl⟩ := h
      have lr : (mobR k (mobK k m ws) r).length = m := by rw [mobR_len, mobK_len, lw]
      refine ⟨_, rfl, _, rfl, _, _, rfl, rfl, (by omega), _, _, rfl, rfl, _, rfl, ?_⟩
      have eb : Builtin.bitAnd (((0 : Int) + (r : Int)) / 2 ^ ((0 : Int) + (k : Int)).toNat) 1 = Bt k (r : Int) := by rw [PyProof.Rows.bitAnd_m1, Int.zero_add, Int.zero_add]; rfl
      rw [eb]
      have es := mobR_succ k (mobK k m ws) r
      unfold mobS at es
      by_cases c : Bt k (r : Int) ≠ 0
      · rw [if_pos c] at es
        rw [show (Bt k (r : Int) != 0) = true from bne_iff_ne.mpr c]
        refine iteT ?_
        have a1 : atI ((mobR k (mobK k m ws) r).map V.int) (0 + (r : Int)) = some (.int ((mobR k (mobK k m ws) r).getD r 0)) := by rw [Int.zero_add]; exact get_ints (by omega)
        have a2 : atI ((mobR k (mobK k m ws) r).map V.int) (Builtin.bitXor (0 + (r : Int)) (1 * 2 ^ ((0 : Int) + (k : Int)).toNat)) = some (.int ((mobR k (mobK k m ws) r).getD (r - 2 ^ k) 0)) := by
          rw [Int.zero_add, Int.zero_add, Int.toNat_natCast, xor_small k (by omega) r (by omega) c]
          exact get_ints (Nat.lt_of_le_of_lt (Nat.sub_le _ _) (by omega))
        refine ⟨_, rfl, _, rfl, co, _, _, _, rfl, rfl, SqL.of hc, a1, _, rfl, _, rfl, _, rfl, _, _, rfl, rfl, (by unfold CPow; exact ⟨by omega, by omega, by omega⟩), _, _, rfl, rfl, co, _, _, _, rfl, rfl, SqL.of hc, a2, _, _, rfl, rfl, _, rfl, _, rfl, co, _, _, r, rfl, rfl, hc, ?_, Same.mut e nco, ?_, _, rfl⟩
        · rw [List.length_map, lr, Int.zero_add]
          exact ix_nat hr2
        · rw [upd_same, es, List.map_set]
      · rw [if_neg c] at es
        rw [show (Bt k (r : Int) != 0) = false from by rw [Decidable.not_not.mp c]; rfl]
        refine iteF ⟨e, ?_, _, rfl⟩
        rw [es]; exact hc
    · obtain ⟨e, hc, o2, rfl⟩ := h
      rw [← mobK_succ] at hc
      exact ⟨e, hc, _, _, rfl⟩
  obtain ⟨e, hc, o1, o2, rfl⟩ := h
  have lz : (mobK ns.length m ws).length = m := by rw [mobK_len, lw]
  have m0 : 0 < m := by rw [← hm]; exact Nat.two_pow_pos _
  refine ⟨_, rfl, co, _, 0, _, rfl, rfl, SqL.of hc, get_ints (i := 0) (by omega), _, rfl, _, rfl, co, _, _, 0, rfl, rfl, hc, ?_, ?_⟩
  · rw [List.length_map, lz]
    exact ix_nat (j := 0) m0
  have ef : ((mobK ns.length m ws).map V.int).set 0 (.int (-((mobK ns.length m ws).getD 0 0))) = (cfs ns.length ws).map V.int := by
    unfold cfs
    rw [hm, List.map_set]
  rw [ef]
  have lf : (cfs ns.length ws).length = m := by
    unfold cfs
    rw [List.length_set, hm, lz]
  have e4 : Same H2 (upd H' co (.lst ((cfs ns.length ws).map V.int))) := Same.mut e nco
  refine ⟨(by show 0 ≤ sizeLine; decide), fun pl npl => ?_⟩
  have npl2 := e4.free npl
  have e5 := e4.trans (Same.new (o := .lst []) npl)
  have hna5 := e5 _ _ hna
  have hco5 := (Same.new (o := .lst []) npl) _ _ (upd_same (H := H') (a := co) (o := .lst ((cfs ns.length ws).map V.int)))
  have hpl5 : upd (upd H' co (.lst ((cfs ns.length ws).map V.int))) pl (.lst []) pl = some (.lst []) := upd_same
  generalize upd (upd H' co (.lst ((cfs ns.length ws).map V.int))) pl (.lst []) = G at *
  refine ⟨_, rfl, na, _, rfl, SqL.of hna5, ns.length, (by rw [ll]; rfl), n5, fun g cs H5 e6 ng hg hb => ?_⟩
  have gpl : g ≠ pl := by rintro rfl; rw [hpl5] at ng; cases ng
  have copl : co ≠ pl := by
    rintro rfl
    rw [upd_same] at npl
    cases npl
  have napl : na ≠ pl := by rintro rfl; rw [hna] at npl2; cases npl2
  have e26 := e5.trans e6
  refine ⟨g, rfl, ⟨_, SqL.of hg⟩, ?_⟩
  refine for_list (xs := cs) (fun i σ H' => Mu pl pl pl H5 H' ∧ ∃ vs, H' pl = some (.lst vs) ∧ Bes (CjV K H') vs (((chW ns.length).take i).filterMap (cjP ns ws)) ∧ ∃ o1 o2 o3 o4, σ = [some (.str (txt l)), some (.ref sa), some (.ref na), some (.ref co), o1, o2, some (.ref pl), o3, o4, none]) ⟨Mu.refl, [], e6 _ _ hpl5, .nil, _, _, _, _, rfl⟩ (fun i σ H' _ h => SqL.of (h.1.k _ _ gpl gpl gpl hg)) (fun i x σ H6 hx h => ?_) (fun σ H6 h => ?_)
  · obtain ⟨mu, vs, hv, hbv, o1, o2, o3, o4, rfl⟩ := h
    obtain ⟨c, hc, s, rfl, st, hs⟩ := hb.get hx
    have cw : c ∈ chW ns.length := List.mem_of_getElem? hc
    obtain ⟨c1, c2, c3⟩ := ch_max ns.length n5 c cw
    rw [hm] at c2
    have spl : s ≠ pl := by
      rintro rfl
      exact st (.inr (by rw [hpl5]; exact fun h => by cases h))
    have hs6 := mu.k _ _ spl spl spl hs
    have hco6 := mu.k _ _ copl copl copl (e6 _ _ hco5)
    have hna6 := mu.k _ _ napl napl napl (e26 _ _ hna)
    have et : ((chW ns.length).take (i + 1)).filterMap (cjP ns ws) = ((chW ns.length).take i).filterMap (cjP ns ws) ++ (cjP ns ws c).toList := by
      rw [List.take_add_one, hc, List.filterMap_append]
      have : List.filterMap (cjP ns ws) [c] = (cjP ns ws c).toList := by
        rw [List.filterMap_cons, List.filterMap_nil]
        cases cjP ns ws c <;> rfl
      rw [← this]
      rfl
    refine ⟨_, rfl, _, rfl, s, rfl, ⟨_, SqL.of hs6⟩, fun D nD => ?_⟩
    refine lc_list (xs := c.map fun (x : Nat) => V.int (x : Int)) (fun i H' => Same H6 H' ∧ H' D = some (.lst (((c.take i).map fun x => (1 * 2 ^ x : Int)).map V.int))) ⟨Same.new nD, upd_same⟩ (fun i H' _ h => SqL.of (h.1 _ _ hs6)) (fun i x H' hx h => ?_) (fun H7 h => ?_)
    · obtain ⟨e, hD⟩ := h
      rw [List.getElem?_map] at hx
      obtain ⟨z, hz, rfl⟩ := Option.map_eq_some_iff.mp hx
      have z5 := c1 z (List.mem_of_getElem? hz)
      refine ⟨rfl, lcT ?_⟩
      refine ⟨_, rfl, _, _, rfl, rfl, (by unfold CPow; exact ⟨by omega, by omega, by omega⟩), _, hD, ?_, Same.mut e nD, ?_⟩
      · rw [List.length_map, List.length_map, List.length_take]
        exact Nat.lt_of_lt_of_le (show _ < 3000 by omega) (by decide)
      · rw [upd_same, List.take_add_one, hz, List.map_append, List.map_append]
        rfl
    obtain ⟨e7, hD⟩ := h
    rw [List.length_map, List.take_length] at hD
    have ax : atI ((cfs ns.length ws).map V.int) ((c.map fun x => (1 * 2 ^ x : Int)).sum) = some (.int ((cfs ns.length ws).getD (c.map fun x => 2 ^ x).sum 0)) := by
      rw [sum_pows]
      exact get_ints (by omega)
    refine ⟨D, _, rfl, SqL.of hD, co, _, _, _, rfl, rfl, SqL.of (e7 _ _ hco6), ax, ?_⟩
    have ep : cjP ns ws c = if (cfs ns.length ws).getD (c.map fun x => 2 ^ x).sum 0 ≠ 0 then some (c.map fun i => ns.getD i [], (cfs ns.length ws).getD (c.map fun x => 2 ^ x).sum 0) else none := rfl
    generalize (cfs ns.length ws).getD (c.map fun x => 2 ^ x).sum 0 = cf at ep ax
    refine ⟨_, rfl, rfl, _, rfl, ?_⟩
    have ee : (!decide (V.int cf = V.int 0)) = decide (cf ≠ 0) := by
      by_cases z : cf = 0
      · rw [z]; rfl
      · rw [decide_eq_true (show cf ≠ 0 from z), decide_eq_false (fun h => z (by injection h))]; rfl
    rw [ee]
    have mu7 := mu.trans (Mu.of e7)
    refine iteD (fun c0 => ?_) (fun c0 => ?_)
    · rw [if_pos c0] at ep
      rw [ep] at et
      refine ⟨_, rfl, .inl ⟨rfl, _, SqL.of (e7 _ _ hv)⟩, _, rfl, s, rfl, ⟨_, SqL.of (e7 _ _ hs6)⟩, fun D2 nD2 => ?_⟩
      refine lc_list (xs := c.map fun (x : Nat) => V.int (x : Int)) (fun i H' => Same H7 H' ∧ H' D2 = some (.lst ((c.take i).map fun i => V.str (txt (ns.getD i []))))) ⟨Same.new nD2, upd_same⟩ (fun i H' _ h => SqL.of (h.1 _ _ (e7 _ _ hs6))) (fun i x H' hx h => ?_) (fun H8 h => ?_)
      · obtain ⟨e, hD⟩ := h
        rw [List.getElem?_map] at hx
        obtain ⟨z, hz, rfl⟩ := Option.map_eq_some_iff.mp hx
        have z5 := c1 z (List.mem_of_getElem? hz)
        have az : atI (ns.map fun c => V.str (txt c)) (z : Int) = some (.str (txt (ns.getD z []))) := atI_nat (by rw [List.getElem?_map, List.getD_eq_getElem?_getD, List.getElem?_eq_getElem z5]; rfl)
        refine ⟨rfl, lcT ?_⟩
        refine ⟨_, rfl, _, rfl, na, _, _, _, rfl, rfl, SqL.of (e _ _ (e7 _ _ hna6)), az, _, hD, ?_, Same.mut e nD2, ?_⟩
        · rw [List.length_map, List.length_take]
          exact Nat.lt_of_lt_of_le (show _ < 3000 by omega) (by decide)
        · rw [upd_same, List.take_add_one, hz, List.map_append]
          rfl
      obtain ⟨e8, hD2⟩ := h
      rw [List.length_map, List.take_length] at hD2
      refine ⟨D2, _, rfl, SqL.of hD2, fun t nt => ?_⟩
      have s9 := Same.new (o := .tup (c.map fun i => V.str (txt (ns.getD i [])))) nt
      refine ⟨_, rfl, (by show 2 ≤ sizeLine; decide), fun a na => ?_⟩
      have s10 := Same.new (o := .tup [.ref t, .int cf]) na
      have e10 := e7.trans (e8.trans (s9.trans s10))
      have hv10 := e10 _ _ hv
      have tp : Tps K _ (upd _ pl (.lst (vs ++ [V.ref a]))) := tps_lst (K := K) hv10
      refine ⟨pl, vs, _, rfl, rfl, hv10, ?_, (mu.trans (Mu.of e10)).trans (Mu.set hv10 (.inl rfl)), _, upd_same, ?_, _, _, _, _, rfl⟩
      · have h1 := hbv.len
        have h2 := List.length_filterMap_le (cjP ns ws) ((chW ns.length).take i)
        rw [List.length_take] at h2
        have h3 : (chW ns.length).length = 2 ^ ns.length := ch_len ns.length n5
        exact Nat.lt_of_lt_of_le (show vs.length < 3000 by omega) (by decide)
      · rw [et]
        refine (hbv.mono fun _ _ r => (r.tps (same_tps e10)).tps tp).app (.cons ⟨a, t, rfl, tp _ _ (SqT.of upd_same), tp _ _ (SqT.of (s10 _ _ ?_))⟩ .nil)
        rw [upd_same, List.map_map]
        rfl
    · rw [if_neg c0] at ep
      rw [ep] at et
      refine ⟨mu7, vs, e7 _ _ hv, ?_, _, _, _, _, rfl⟩
      rw [et]
      show Bes _ vs (_ ++ [])
      rw [List.append_nil]
      exact hbv.mono fun _ _ r => r.tps (same_tps e7)
  obtain ⟨mu, vs, hv, hbv, o1, o2, o3, o4, rfl⟩ := h
  rw [hb.len, List.take_length] at hbv
  refine ⟨_, rfl, pl, vs, rfl, SqL.of hv, fun r nr => ?_⟩
  have s7 := Same.new (o := .tup vs) nr
  have npl0 : H pl = none := e1.free (e2.free npl2)
  refine q _ _ (fun a o ha => ?_) (.tup (SqT.of upd_same) (ds_cj (hbv.mono fun _ _ r => r.tps (same_tps s7))))
  have apl : a ≠ pl := by rintro rfl; rw [npl0] at ha; cases ha
  exact s7 _ _ (mu.k _ _ apl apl apl (e26 _ _ (e2 _ _ (e1 _ _ ha))))
end
end Fb
/-! ### a written text has been read: a token is out -/
namespace Fb
open PySem PySem.Spec PyProof.Rows L2
section
variable {X : Cx} {a : Expr} {es : List Expr} {t : TA} {ta : TE} {x : Str} {j : Nat} {p pos pos1 pos2 : Pos}
theorem pe_tupT {x1} (h : PA X es t) (pins : List (Addr × Obj)) (s : Shared) (σ : L2.St) (H : Hp) (Q : VK) (I : Inv X pins σ H s) (hq : tTup (tCons (tC (.str x)) t) σ H Q) :
    wpAny (model X.prog X.w) X.A (eval (.Tuple (.Constant (.str x) j p :: es) x1 pos) X.env) (fun v s' => 1 ≤ s'.toks ∧ EP X pins σ Q v s') X.xe s := by
  refine wpAny_Tuple_spliced ?_
  show wpAny _ _ (spliced ((false, eval (.Constant (.str x) j p) X.env) :: backTo pos (starEach es X.env))) _ _ s
  refine Calls.spliced_cons (Calls.Constant_str ?_)
  refine wpAny_mono (PySem.wpAny_toks (h.run pos pins _ σ H _ (I.tok _) hq)) (fun us s1 q => ?_) fun _ _ z => z.2
  obtain ⟨hk, xs, H1, I1, r, z, q⟩ := q
  have r' : Vals (V.str x :: xs) (Value.str x s.toks :: us) := .cons ⟨_, rfl⟩ r
  refine ⟨by rw [← r'.length]; exact z, (by have hk : s.toks + 1 ≤ s1.toks := hk; show 1 ≤ s1.toks; omega), ?_⟩
  have hf : H1 s1.heap.objs.size = none := I1.hok.fresh (Nat.le_refl _)
  refine ⟨.ref s1.heap.objs.size, upd H1 s1.heap.objs.size (.tup (V.str x :: xs)), I1.laid (t' := s1.toks) (fun b u e => Heap.get?_push_of_some _ e) (Nat.le_refl _) ?_, rfl, q _ hf⟩
  exact ⟨z, _, r', ⟨_, Heap.get?_push_size _ rfl, rfl, _, rfl⟩⟩
theorem ps_ifIn {x1} {A B : List Stmt} {r : R2} {tA tB : L2.TS} (ho : OpR X (compareOp .In) r) (ha : PE X a ta) (h : PA X es t) (hm : behindInMarks .In (.Tuple (.Constant (.str x) j p :: es) x1 pos1) = false) (hA : PSsT X A tA) (hB : PSs X B tB) :
    PS X (.If (.Compare a [.In] [.Tuple (.Constant (.str x) j p :: es) x1 pos1] pos2) A B pos) (tIfS (tTest (tOp r ta (tTup (tCons (tC (.str x)) t)))) tA tB) := by
  refine ⟨fun pins s σ H D I hq => ?_⟩
  refine wpAny_If (wpAny_isTrue_Compare1 (thn (ha.run pins s σ H _ I hq) fun v s1 ⟨y, H1, I1, r1, q1⟩ => thn (pe_tupT h pins s1 σ H1 _ I1 q1) fun u s2 ⟨k2, y2, H2, I2, r2, q2⟩ =>
    wpAny_mono (PySem.wpAny_toks (ho pins s2 σ H2 y y2 v u _ I2 r1 r2 q2)) (fun c s3 q => ?_) fun _ _ z => z.2) hm)
  obtain ⟨k3, z, H3, I3, r3, k, e, q3⟩ := q
  subst e
  cases r3
  refine wpAny_truthy_bool ?_
  cases k with
  | true => exact hA pins s3 σ H3 D (Nat.le_trans k2 k3) I3 q3
  | false => exact hB.run pins s3 σ H3 D I3 q3
theorem pet_tup {x1} (h : PAT X es t) : PET X (.Tuple es x1 pos) (tTup t) := by
  intro pins s σ H Q h0 I hq
  refine wpAny_Tuple_spliced (thn (h pos pins s σ H _ h0 I hq) fun us s1 ⟨xs, H1, I1, r, z, q⟩ => ⟨by rw [← r.length]; exact z, ?_⟩)
  have hf : H1 s1.heap.objs.size = none := I1.hok.fresh (Nat.le_refl _)
  refine ⟨.ref s1.heap.objs.size, upd H1 s1.heap.objs.size (.tup xs), I1.laid (t' := s1.toks) (fun b u e => Heap.get?_push_of_some _ e) (Nat.le_refl _) ?_, rfl, q _ hf⟩
  exact ⟨z, us, r, ⟨_, Heap.get?_push_size _ rfl, rfl, _, rfl⟩⟩
end
end Fb
namespace Fb
open PySem PySem.Spec PyProof.Rows L2 NdefX
def sgl : List Chs := [[61, 61], [60, 61], [60], [62, 61], [62]]
def dif (a b : List Int) (m : Nat) : List Int := (List.range m).map fun i => a.getD i 0 - b.getD i 0
def gtS (s : Chs) : Prop := s = [62] ∨ s = [62, 61]
instance (s : Chs) : Decidable (gtS s) := by unfold gtS; infer_instance
def clS (s : Chs) : Chs := if s = [62] then [60] else if s = [62, 61] then [60, 61] else s
def clW (s : Chs) (a b : List Int) (m : Nat) : List Int := if gtS s then dif b a m else dif a b m
theorem str_gt : (">" : Str) = txt [62] := by decide +kernel
theorem str_ge : (">=" : Str) = txt [62, 61] := by decide +kernel
theorem in_gt (s : Chs) : inV (.str (txt s)) [V.str ">", V.str ">="] = decide (gtS s) := by
  rw [show ([V.str ">", V.str ">="] : List V) = [[62], [62, 61]].map fun c => V.str (txt c) by rw [str_gt, str_ge]; rfl, inV_txt, List.contains_eq_mem]
  refine decide_eq_decide.mpr ?_
  unfold gtS
  simp only [List.mem_cons, List.not_mem_nil, or_false]
theorem repl1 : Txt.replace (txt [62]) ">" "<" = txt [60] := by decide +kernel
theorem repl2 : Txt.replace (txt [62, 61]) ">" "<" = txt [60, 61] := by decide +kernel
theorem repl {s : Chs} (h : gtS s) : Txt.replace (txt s) ">" "<" = txt (clS s) := by
  rcases h with rfl | rfl
  · exact repl1
  · exact repl2
theorem clS_no {s : Chs} (h : ¬ gtS s) : clS s = s := by
  unfold clS
  rw [if_neg (fun z => h (.inl z)), if_neg (fun z => h (.inr z))]
section
variable {P : Program} {w : World} {K : PySem.W.Frag} {mg : Str → Option Value} {base : Heap} {f : Addr} {fd : FuncData} {C_BadText C_TooManyNames C_NotLinear T_SIGNS : Addr}
abbrev S_read_claim : Stmt := top 57
abbrev N_read_claim : List Str := ["claim", "left", "place", "behind", "right", "_", "names", "first", "second", "sign", "k"]
abbrev P_read_claim : List Str := ["claim"]
theorem sc_read_claim : FnScope N_read_claim P_read_claim (defScope S_read_claim) := ⟨rfl, rfl, rfl, by decide +kernel, rfl, by decide +kernel, by decide +kernel⟩
/-- what a claim is read as -/
def RcOk (K : PySem.W.Frag) (H : Hp) (Q : VK) (ns : List Chs) (ws : List Int) (s : Chs) : Prop := ∀ (a na wa : Addr) (H' : Hp), Same H H' → SqT K H' a [.ref na, .ref wa, .str (txt s)] → H' na = some (.lst (ns.map fun c => V.str (txt c))) → H' wa = some (.lst (ws.map V.int)) → Q (.ref a) H'
def RcW (K : PySem.W.Frag) (CM CN : Addr) (H : Hp) (Q : VK) (E : XK) (s : Chs) (ts us : List Ts) : Prop := (∀ t ∈ ts, t.stp.p < 10 ^ 10) ∧ (∀ t ∈ us, t.stp.p < 10 ^ 10) ∧ ∀ ks : List Chs, ks.Nodup → (∀ c, c ∈ ks ↔ c ∈ nmsOf (ts ++ us)) → (5 < ks.length → BadN CM E H ks.length) ∧
    ∀ ns : List Chs, ns.Perm ks → ks.length ≤ 5 → NmL (ts ++ us) ns → okW (2 ^ ns.length) (tmOf ns) ts [] ∧ okW (2 ^ ns.length) (tmOf ns) us [] ∧ match runW (2 ^ ns.length) (tmOf ns) ts [] with
      | .err p => BadE CN E H p
      | .ok [p] => (wtsIn p (2 ^ ns.length)).length = 2 ^ ns.length ∧ (match runW (2 ^ ns.length) (tmOf ns) us [] with
          | .err p => BadE CN E H p
          | .ok [p2] => (wtsIn p2 (2 ^ ns.length)).length = 2 ^ ns.length ∧ RcOk K H Q ns (clW s (wtsIn p (2 ^ ns.length)) (wtsIn p2 (2 ^ ns.length)) (2 ^ ns.length)) (clS s)
          | _ => False)
      | _ => False
def spRc (K : PySem.W.Frag) (CB CM CN : Addr) : Sp := fun vs H Q E => ∃ (l : Chs), vs = [.str (txt l)] ∧ l.length ≤ 1000000 ∧ NumB l ∧
  (∀ q, runR sgl.contains true (lex l 0) [] [] = .err q → BadE CB E H q) ∧
  ∀ S q, runR sgl.contains true (lex l 0) [] [] = .ok S q → (q = l.length → BadE CB E H q) ∧ (q < l.length → match tokL (l.drop q) with
    | none => BadE CB E H q
    | some k => (∀ q2, runR (fun _ => false) true (lex (l.drop (q + k)) (q + k)) [] [] = .err q2 → BadE CB E H q2) ∧
      ∀ S2 q2, runR (fun _ => false) true (lex (l.drop (q + k)) (q + k)) [] [] = .ok S2 q2 → S.length + S2.length ≤ 1000000 ∧ ∃ ts us, S = ts.map Ts.stp ∧ S2 = us.map Ts.stp ∧ RcW K CM CN H Q E ((l.drop q).take k) ts us)
theorem ok_rc (I : IdG K mg T_SIGNS) (F : Fun K "read_claim" "read_claim" S_read_claim f fd) (B : Blt mg) (TB : Err P w K mg base "BadText" C_BadText ["place"] onePl) (Cexpression_at : HasX P w K mg base 7 "expression_at" P_expression_at (spExp K C_BadText)) (Ctoken_end : HasX P w K mg base 4 "token_end" P_token_end (spTokEnd C_BadText)) (Cnames_in : HasX P w K mg base 5 "names_in" P_names_in (spNi K C_TooManyNames)) (Cweights_of : HasX P w K mg base 5 "weights_of" P_weights_of (spWo K C_NotLinear)) : FnOk P w K mg base (L2.CX P w) 8 f fd P_read_claim (spRc K C_BadText C_TooManyNames C_NotLinear) := by
  have nd := sc_read_claim.nd
  have MG_SIGNS := I.s
  refine F.okX sc_read_claim (fun vs H Q E h => ?_) (fun cdv A outer s H vs Q E hr h => ?_)
  · obtain ⟨l, rfl, _⟩ := h
    rfl
  obtain ⟨l, rfl, hl, nb, qe, q⟩ := h
  refine ⟨_, (C8.pss_cut (ps_if (pt_not (pt_val (pe_callB (call_isiS K) (by rfl) B.isinstance (by decide +kernel) (pa_cons (pv 0) (pa_cons (pe_bltn (by rfl) B.str (by decide +kernel) (show RelV (.ty "str") (.type "str") from rfl)) pa_nil))))) (pss_one ps_never) pss_nil)
    (pss_cons (ps_asg (pe_HX Cexpression_at (takes_of rfl rfl rfl rfl) (hr.mono (by decide)) rfl (pa_cons (pv 0) (pa_cons pe_int (pa_cons (pe_glob (v := .ref T_SIGNS) rfl MG_SIGNS rfl) pa_nil)))) (pg_tup rfl (pgs_cons (pg_name (i := 1) nd rfl (Or.inl rfl)) (pgs_cons (pg_name (i := 2) nd rfl (Or.inl rfl)) pgs_nil))))
    (C8.pss_cut (ps_if (pt_cmpR op_eq (pv 2) (pe_callB call_len_str (by rfl) B.len PySem.boot_len (pa_cons (pv 0) pa_nil)) (nomark _)) (pss_one (ps_raise rfl (takes_of rfl rfl rfl rfl) (pmk_err TB (hr.mono (by decide)) rfl (pa_cons (pv 2) pa_nil)))) pss_nil)
    (pss_cons (ps_set (i := 3) nd rfl (Or.inl rfl) (pe_HX Ctoken_end (takes_of rfl rfl rfl rfl) (hr.mono (by decide)) rfl (pa_cons (pv 0) (pa_cons (pv 2) pa_nil))))
    (pss_cons (ps_asg (pe_HX Cexpression_at (takes_of rfl rfl rfl rfl) (hr.mono (by decide)) rfl (pa_cons (pv 0) (pa_cons (pv 3) (pa_cons (pe_tup pa_nil) pa_nil)))) (pg_tup rfl (pgs_cons (pg_name (i := 4) nd rfl (Or.inl rfl)) (pgs_cons (pg_name (i := 5) nd rfl (Or.inl rfl)) pgs_nil))))
    (pss_cons (ps_set (i := 6) nd rfl (Or.inl rfl) (pe_HX Cnames_in (takes_of rfl rfl rfl rfl) (hr.mono (by decide)) rfl (pa_cons (pe_op op_cat (pv 1) (pv 4)) pa_nil)))
    (pss_cons (ps_set (i := 7) nd rfl (Or.inr rfl) (pe_HX Cweights_of (takes_of rfl rfl rfl rfl) (hr.mono (by decide)) rfl (pa_cons (pv 1) (pa_cons (pv 6) pa_nil))))
    (pss_cons (ps_set (i := 8) nd rfl (Or.inr rfl) (pe_HX Cweights_of (takes_of rfl rfl rfl rfl) (hr.mono (by decide)) rfl (pa_cons (pv 4) (pa_cons (pv 6) pa_nil))))
    (pss_cons (ps_set (i := 9) nd rfl (Or.inl rfl) (pe_slice sl_str (pv 0) (po_some (pv 2)) (po_some (pv 3))))
    (pss_cons (ps_ifIn op_in_seq (pv 9) (pa_cons pe_str pa_nil) (by rfl) (CwR.psst_one (CwR.pst_ret (pet_tup (pat_cons (CwR.PET.of (pv 6)) (pat_cons (CwR.PET.of (pe_lc (own := [("k", 10)]) (g := gName 10) (tt := tYes) rfl nd (pi_range1 (by rfl) B.range (pa_cons (pe_callB call_lenL (by rfl) B.len PySem.boot_len (pa_cons (pv 7) pa_nil)) pa_nil)) (blkOk_by (own := [("k", 10)]) (N := N_read_claim) (sc := defScope S_read_claim) (by decide +kernel)) (fun _ _ _ _ _ => pg_name (i := 10) nd rfl (Or.inl rfl)) (fun _ _ _ _ _ => pts_nil) (fun _ _ _ _ _ => (pe_op op_sub (pe_ix (ix_listK K) (pv 8) (pv 10) (fun _ _ => rfl)) (pe_ix (ix_listK K) (pv 7) (pv 10) (fun _ _ => rfl)))))) (pat_cons (CwR.pet_replC (pv 9)) pat_nil)))))) pss_nil)
    (pss_one (ps_ret (pe_tup (pa_cons (pv 6) (pa_cons (pe_lc (own := [("k", 10)]) (g := gName 10) (tt := tYes) rfl nd (pi_range1 (by rfl) B.range (pa_cons (pe_callB call_lenL (by rfl) B.len PySem.boot_len (pa_cons (pv 7) pa_nil)) pa_nil)) (blkOk_by (own := [("k", 10)]) (N := N_read_claim) (sc := defScope S_read_claim) (by decide +kernel)) (fun _ _ _ _ _ => pg_name (i := 10) nd rfl (Or.inl rfl)) (fun _ _ _ _ _ => pts_nil) (fun _ _ _ _ _ => (pe_op op_sub (pe_ix (ix_listK K) (pv 7) (pv 10) (fun _ _ => rfl)) (pe_ix (ix_listK K) (pv 8) (pv 10) (fun _ _ => rfl))))) (pa_cons (pv 9) pa_nil)))))))))))))))), ?_⟩
  have lt : (txt l).length = l.length := rfl
  have l1 : (txt l).length ≤ sizeLine := Nat.le_trans (show _ ≤ 1000000 from hl) (by decide)
  refine ⟨fun σ H' => σ = [some (.str (txt l)), none, none, none, none, none, none, none, none, none, none] ∧ H' = H, ⟨_, rfl, _, rfl, _, rfl, iteF ⟨rfl, rfl⟩⟩, ?_⟩
  rintro σ H' ⟨rfl, rfl⟩
  refine ⟨_, rfl, T_SIGNS, l, 0, sgl, rfl, I.ss _, Nat.zero_le _, hl, nb, qe, fun S q0 eS ql H1 a sa vs e1 ha nsa hsa hst => ?_⟩
  obtain ⟨qa, qb⟩ := q S q0 eS
  refine ⟨a, _, rfl, ha, rfl, _, _, rfl, _, _, rfl, rfl, ?_⟩
  refine ⟨fun σ H2 => σ = [some (.str (txt l)), some (.ref sa), some (.int (q0 : Int)), none, none, none, none, none, none, none, none] ∧ H2 = H1 ∧ q0 < l.length, ?_, ?_⟩
  · refine ⟨_, rfl, _, rfl, txt l, rfl, l1, rfl, _, rfl, ?_⟩
    rw [lt]
    refine iteD (fun c => ?_) (fun c => ?_)
    · have el : q0 = l.length := by injection c with c; omega
      exact ⟨_, rfl, err_mk rfl (by decide) ⟨q0, rfl, by omega⟩ fun dd hd => qa el H1 dd e1 hd⟩
    · refine ⟨rfl, rfl, ?_⟩
      rcases Nat.lt_or_eq_of_le ql with h | h
      · exact h
      · exact absurd (by rw [h]) c
  rintro σ H2 ⟨rfl, rfl, ql2⟩
  have qb := qb ql2
  refine ⟨_, rfl, _, rfl, l, q0, rfl, ql2, hl, ?_⟩
  cases ek : tokL (l.drop q0) with
  | none =>
    rw [ek] at qb
    exact fun H' a e ha => qb H' a (e1.trans e) ha
  | some k =>
  rw [ek] at qb
  obtain ⟨qc, qd⟩ := qb
  obtain ⟨k1, k2⟩ := tokL_pos ek
  rw [List.length_drop] at k2
  show _
  refine ⟨_, rfl, _, rfl, (by show 0 ≤ sizeLine; decide), fun tg ntg => ?_⟩
  have s1 := Same.new (o := .tup []) ntg
  refine ⟨tg, l, q0 + k, [], rfl, SqT.of upd_same, (by omega), hl, nb, fun q2 e H' a e' ha => qc q2 e H' a (e1.trans (s1.trans e')) ha, fun S2 q2 eS2 _ H3 a2 sb vs2 e3 ha2 nsb hsb hst2 => ?_⟩
  obtain ⟨sl, ts, us, rfl, rfl, ht, hu, qq⟩ := qd S2 q2 eS2
  have e23 := s1.trans e3
  have hsa3 := e23 _ _ hsa
  have nsb2 : H2 sb = none := s1.free nsb
  refine ⟨a2, _, rfl, ha2, rfl, _, _, rfl, _, _, rfl, rfl, ?_⟩
  have hst3 := hst.mono fun _ _ r => StV.tps (same_tps e23) r
  have la := hst.len
  have lb := hst2.len
  refine ⟨_, rfl, _, rfl, sa, sb, _, _, rfl, rfl, hsa3, hsb, ?_, fun sc nsc => ?_⟩
  · exact Nat.le_trans (show vs.length + vs2.length ≤ 1000000 by omega) (by decide)
  have s4 := Same.new (o := .lst (vs ++ vs2)) nsc
  have e13 := e1.trans e23
  have e14 := e13.trans s4
  refine ⟨sc, vs ++ vs2, ts ++ us, rfl, SqL.of upd_same, (by rw [upd_same]; exact fun h => by cases h), ?_, (by rw [List.length_append]; omega), fun ks nk mk => ⟨fun h5 => ?_, fun ns pn k5 nl na H5 e5 nna hna => ?_⟩⟩
  · rw [List.map_append]
    exact (hst3.mono fun _ _ r => StV.tps (same_tps s4) r).app (hst2.mono fun _ _ r => StV.tps (same_tps s4) r)
  · exact fun H' a e ha => (qq ks nk mk).1 h5 H' a (e14.trans e) ha
  obtain ⟨okt, oku, q⟩ := (qq ks nk mk).2 ns pn k5 nl
  have n5 : ns.length ≤ 5 := by rw [pn.length_eq]; exact k5
  have p5 := pow5 n5
  have e45 := s4.trans e5
  have e15 := e14.trans e5
  refine ⟨_, rfl, _, rfl, sa, na, vs, ts, ns, rfl, e45 _ _ hsa3, hst3.mono fun _ _ r => StV.tps (same_tps e45) r, (by omega), ht, hna, nl.nd, n5, okt, ?_⟩
  generalize runW (2 ^ ns.length) (tmOf ns) ts [] = Rw at q
  match Rw, q with
  | .err p, q => exact fun H' a e ha => q H' a (e15.trans e) ha
  | .bad, q => exact q.elim
  | .ok [], q => exact q.elim
  | .ok (_ :: _ :: _), q => exact q.elim
  | .ok [p], q =>
  obtain ⟨w1, q⟩ := q
  intro fa H6 e6 nfa hfa
  have hna6 := e6 _ _ hna
  have e46 := e45.trans e6
  have e16 := e15.trans e6
  refine ⟨_, rfl, _, rfl, sb, na, vs2, us, ns, rfl, e46 _ _ hsb, hst2.mono fun _ _ r => StV.tps (same_tps e46) r, (by omega), hu, hna6, nl.nd, n5, oku, ?_⟩
  generalize runW (2 ^ ns.length) (tmOf ns) us [] = Rw2 at q
  match Rw2, q with
  | .err p, q => exact fun H' a e ha => q H' a (e16.trans e) ha
  | .bad, q => exact q.elim
  | .ok [], q => exact q.elim
  | .ok (_ :: _ :: _), q => exact q.elim
  | .ok [p2], q =>
  obtain ⟨w2, q⟩ := q
  intro fb H7 e7 nfb hfb
  have hfa7 := e7 _ _ hfa
  have hna7 := e7 _ _ hna6
  have e17 := e16.trans e7
  generalize wtsIn p (2 ^ ns.length) = wa at *
  generalize wtsIn p2 (2 ^ ns.length) = wb at *
  refine ⟨_, rfl, _, rfl, _, rfl, _, rfl, _, rfl, txt l, rfl, l1, ?_⟩
  rw [cutS_txt ql (by omega), show q0 + k - q0 = k by omega]
  generalize hsg : (l.drop q0).take k = sg at q
  have lsg : sg.length ≤ 1000000 := by rw [← hsg, List.length_take, List.length_drop]; omega
  refine ⟨_, rfl, (by show 2 ≤ sizeLine; decide), fun pt npt => ?_⟩
  have s8 := Same.new (o := .tup [.str ">", .str ">="]) npt
  refine ⟨pt, _, rfl, .inr (SqT.of upd_same), rfl, rfl, _, rfl, ?_⟩
  rw [in_gt]
  have e18 := e17.trans s8
  have hfa := s8 _ _ hfa7
  have hfb := s8 _ _ hfb
  have hna := s8 _ _ hna7
  generalize upd H7 pt (.tup [.str ">", .str ">="]) = G at *
  have la2 : (wa.map V.int).length = 2 ^ ns.length := by rw [List.length_map, w1]
  refine iteD (fun c => ?_) (fun c => ?_)
  · refine ⟨_, rfl, _, rfl, fa, _, rfl, SqL.of hfa, _, rfl, (by rw [la2]; exact (b62 p5).1), (by rw [la2]; exact (b62 p5).2), fun D nD => ?_⟩
    rw [la2]
    refine lc_range (lo := 0) (n := 2 ^ ns.length) (fun i H' => Same G H' ∧ H' D = some (.lst (((List.range i).map fun i => wb.getD i 0 - wa.getD i 0).map V.int))) ⟨Same.new nD, upd_same⟩ (fun i H' hi h => ?_) (fun H9 h => ?_)
    · obtain ⟨e, hD⟩ := h
      refine ⟨rfl, lcT ?_⟩
      refine ⟨_, rfl, _, rfl, fb, _, _, _, rfl, rfl, SqL.of (e _ _ hfb), (by rw [Int.zero_add]; exact get_ints (by omega)), _, rfl, _, rfl, fa, _, _, _, rfl, rfl, SqL.of (e _ _ hfa), (by rw [Int.zero_add]; exact get_ints (by omega)), _, _, rfl, rfl, _, hD, ?_, Same.mut e nD, ?_⟩
      · rw [List.length_map, List.length_map, List.length_range]
        exact Nat.lt_of_lt_of_le (show i < 3000 by omega) (by decide)
      · rw [upd_same, List.range_succ, List.map_append, List.map_append]
        rfl
    obtain ⟨e9, hD⟩ := h
    refine ⟨_, rfl, txt sg, rfl, ?_, (by show 3 ≤ sizeLine; decide), fun r nr => ?_⟩
    · show sg.length + (sg.length + 1) * 1 ≤ 16777216
      omega
    rw [repl c]
    have s9 := Same.new (o := .tup [.ref na, .ref D, .str (txt (clS sg))]) nr
    refine q r na D _ (e18.trans (e9.trans s9)) (SqT.of upd_same) (s9 _ _ (e9 _ _ hna)) ?_
    rw [s9 _ _ hD]
    unfold clW
    rw [if_pos c]
    rfl
  · refine ⟨_, rfl, _, rfl, fa, _, rfl, SqL.of hfa, _, rfl, (by rw [la2]; exact (b62 p5).1), (by rw [la2]; exact (b62 p5).2), fun D nD => ?_⟩
    rw [la2]
    refine lc_range (lo := 0) (n := 2 ^ ns.length) (fun i H' => Same G H' ∧ H' D = some (.lst (((List.range i).map fun i => wa.getD i 0 - wb.getD i 0).map V.int))) ⟨Same.new nD, upd_same⟩ (fun i H' hi h => ?_) (fun H9 h => ?_)
    · obtain ⟨e, hD⟩ := h
      refine ⟨rfl, lcT ?_⟩
      refine ⟨_, rfl, _, rfl, fa, _, _, _, rfl, rfl, SqL.of (e _ _ hfa), (by rw [Int.zero_add]; exact get_ints (by omega)), _, rfl, _, rfl, fb, _, _, _, rfl, rfl, SqL.of (e _ _ hfb), (by rw [Int.zero_add]; exact get_ints (by omega)), _, _, rfl, rfl, _, hD, ?_, Same.mut e nD, ?_⟩
      · rw [List.length_map, List.length_map, List.length_range]
        exact Nat.lt_of_lt_of_le (show i < 3000 by omega) (by decide)
      · rw [upd_same, List.range_succ, List.map_append, List.map_append]
        rfl
    obtain ⟨e9, hD⟩ := h
    refine ⟨_, rfl, (by show 3 ≤ sizeLine; decide), fun r nr => ?_⟩
    have s9 := Same.new (o := .tup [.ref na, .ref D, .str (txt sg)]) nr
    refine q r na D _ (e18.trans (e9.trans s9)) (by rw [clS_no c]; exact SqT.of upd_same) (s9 _ _ (e9 _ _ hna)) ?_
    rw [s9 _ _ hD]
    unfold clW
    rw [if_neg c]
    rfl
end
end Fb
/-! ### two promises of one def -/
namespace Fb
open PySem L2
theorem FnOk.or {P : Program} {w : World} {K : PySem.W.Frag} {mg : Str → Option Value} {base : Heap} {CX : CXT} {k : Nat} {f : Addr} {fd : FuncData} {ps : List Str} {sp1 sp2 : Sp} (h1 : FnOk P w K mg base CX k f fd ps sp1) (h2 : FnOk P w K mg base CX k f fd ps sp2) : FnOk P w K mg base CX k f fd ps (fun vs H Q E => sp1 vs H Q E ∨ sp2 vs H Q E) :=
  ⟨fun vs H Q E h => h.elim (h1.len vs H Q E) (h2.len vs H Q E), fun A outer s H args us vs Q E hr e0 hb r hsp => hsp.elim (h1.run A outer s H args us vs Q E hr e0 hb r) (h2.run A outer s H args us vs Q E hr e0 hb r)⟩
theorem fnok_calm {P : Program} {w : World} {K : PySem.W.Frag} {mg : Str → Option Value} {base : Heap} {f : Addr} {fd : FuncData} {k : Nat} {ps : List Str} {sp : Sp} (F : FnOk P w K mg base (L2.CX P w) k f fd ps sp) : FnOk P w K mg base CX0 k f fd ps (fun vs H Q _ => sp vs H Q fun _ _ _ => False) :=
  ⟨fun vs H Q _ h => F.len vs H Q _ h, fun A outer s H args us vs Q _ hr e0 hb hv h => codeAny_mono (F.run A outer s H args us vs Q (fun _ _ _ => False) hr e0 hb hv h) fun r s' hq => by
    cases r with
    | ok fl => cases fl <;> exact hq
    | error e =>
      obtain ⟨_, _, _, _, _, _, _, _, _, _, _, _, z⟩ := hq
      exact z.elim⟩
end Fb
namespace Fb
open PySem PySem.Spec PyProof.Rows L2 NdefX
theorem lastR_lt {ns zs : List Chs} : ∀ r ∈ lastR ns zs, r < 2 ^ ns.length := fun r h => List.mem_range.mp (List.mem_filter.mp h).1
/-- what the reading of a claim hands over -/
def RcV (K : PySem.W.Frag) (H : Hp) (R : List Chs → List Int → Chs → Hp → Prop) : VK := fun v H' => ∃ (a na wa : Addr) (ns : List Chs) (ws : List Int) (s : Chs), v = .ref a ∧ Same H H' ∧ SqT K H' a [.ref na, .ref wa, .str (txt s)] ∧ H' na = some (.lst (ns.map fun c => V.str (txt c))) ∧ H' wa = some (.lst (ws.map V.int)) ∧ ns.length ≤ 5 ∧ ws.length = 2 ^ ns.length ∧ ns.Nodup ∧ R ns ws s H'
def cexV (m : Int) (r l k : Nat) : Int := Bt k (r : Int) * (1 * 2 ^ m.toNat - 1) - Bt k (l : Int) * 2 ^ m.toNat
def cexK (ns : List Chs) (m : Int) (r l : Nat) (i : Nat) : List (Key × V) := (List.range i).map fun k => ((Sum.inr (txt (ns.getD k [])) : Key), V.int (cexV m r l k))
theorem cex_new {ns : List Chs} (nd : ns.Nodup) {m : Int} {r l i : Nat} (hi : i < ns.length) (v : V) : putK (cexK ns m r l i) (Sum.inr (txt (ns.getD i [])) : Key) v = cexK ns m r l i ++ [(Sum.inr (txt (ns.getD i [])), v)] := by
  refine putK_new v ?_
  have h : ((cexK ns m r l i).any fun kv => decide (kv.1 = (Sum.inr (txt (ns.getD i [])) : Key))) = false := by
    rw [List.any_eq_false]
    intro kv hkv c
    obtain ⟨k, hk, rfl⟩ := List.mem_map.mp hkv
    have hk := List.mem_range.mp hk
    have c := of_decide_eq_true c
    have c : txt (ns.getD k []) = txt (ns.getD i []) := Sum.inr.inj c
    have c := txt_inj.mp c
    rw [List.getD_eq_getElem?_getD, List.getD_eq_getElem?_getD, List.getElem?_eq_getElem (by omega), List.getElem?_eq_getElem hi] at c
    have c : ns[k] = ns[i] := c
    have z1 := nd.idxOf_getElem k (by omega)
    have z2 := nd.idxOf_getElem i hi
    rw [c, z2] at z1
    omega
  have := valV_any (Sum.inr (txt (ns.getD i [])) : Key) (cexK ns m r l i)
  rw [h] at this
  cases e : valV (cexK ns m r l i) (Sum.inr (txt (ns.getD i []))) with
  | none => rfl
  | some _ => rw [e] at this; cases this
theorem RcW_mono {K : PySem.W.Frag} {CM CN : Addr} {H : Hp} {Q Q' : VK} {E : XK} {s : Chs} {ts us : List Ts} (h : ∀ v H', Q v H' → Q' v H') (g : RcW K CM CN H Q E s ts us) : RcW K CM CN H Q' E s ts us := by
  refine ⟨g.1, g.2.1, fun ks a b => ⟨(g.2.2 ks a b).1, fun ns p k n => ?_⟩⟩
  obtain ⟨x, y, z⟩ := (g.2.2 ks a b).2 ns p k n
  refine ⟨x, y, ?_⟩
  generalize runW (2 ^ ns.length) (tmOf ns) ts [] = Rw at z ⊢
  generalize runW (2 ^ ns.length) (tmOf ns) us [] = Rw2 at z ⊢
  match Rw, z with
  | .err p, z => exact z
  | .bad, z => exact z.elim
  | .ok [], z => exact z.elim
  | .ok (_ :: _ :: _), z => exact z.elim
  | .ok [p], z =>
    refine ⟨z.1, ?_⟩
    have z := z.2
    match Rw2, z with
    | .err p, z => exact z
    | .bad, z => exact z.elim
    | .ok [], z => exact z.elim
    | .ok (_ :: _ :: _), z => exact z.elim
    | .ok [p2], z => exact ⟨z.1, fun a na wa H' e1 e2 e3 e4 => h _ _ (z.2 a na wa H' e1 e2 e3 e4)⟩
theorem spRc_mono {K : PySem.W.Frag} {CB CM CN : Addr} {vs : List V} {H : Hp} {Q Q' : VK} {E : XK} (h : ∀ v H', Q v H' → Q' v H') (g : spRc K CB CM CN vs H Q E) : spRc K CB CM CN vs H Q' E := by
  obtain ⟨l, h1, h2, h3, h4, h5⟩ := g
  refine ⟨l, h1, h2, h3, h4, fun S q e => ⟨(h5 S q e).1, fun lq => ?_⟩⟩
  have z := (h5 S q e).2 lq
  cases hk : tokL (l.drop q) with
  | none => rw [hk] at z; exact z
  | some k =>
    rw [hk] at z
    refine ⟨z.1, fun S2 q2 e2 => ?_⟩
    obtain ⟨a, ts, us, b, c, d⟩ := z.2 S2 q2 e2
    exact ⟨a, ts, us, b, c, RcW_mono h d⟩
section
variable {P : Program} {w : World} {K : PySem.W.Frag} {mg : Str → Option Value} {base : Heap} {f : Addr} {fd : FuncData} {C_BadText C_TooManyNames C_NotLinear T0 : Addr}
abbrev S_holds : Stmt := top 53
abbrev N_holds : List Str := ["claim", "from_zero", "names", "weights", "sign"]
abbrev P_holds : List Str := ["claim", "from_zero"]
theorem sc_holds : FnScope N_holds P_holds (defScope S_holds) := ⟨rfl, rfl, rfl, by decide +kernel, rfl, by decide +kernel, by decide +kernel⟩
def spHo (K : PySem.W.Frag) (CB CM CN : Addr) : Sp := fun vs H Q E => ∃ (l : Chs) (za : Addr) (zs : List Chs), vs = [.str (txt l), .ref za] ∧ Sq K H za (zs.map fun c => V.str (txt c)) ∧ spRc K CB CM CN [.str (txt l)] H (RcV K H fun ns ws s H' => ∀ g, g ∈ ws → (∀ y ∈ ws, y ≤ g) → ∀ H2, Same H' H2 → Q (.bl (refW ws s (lastR ns zs) g).isNone) H2) E
theorem ok_ho (F : FunD K "holds" "holds" (defArgs S_holds) (defBody S_holds) (defScope S_holds) [] [("from_zero", .ref T0)] f fd) (B : Blt mg) (Cread_claim : HasX P w K mg base 8 "read_claim" P_read_claim (spRc K C_BadText C_TooManyNames C_NotLinear)) (Crefutation : Has P w K mg base 2 "refutation" P_refutation [] (spRf K)) (Clast_rows : Has P w K mg base 1 "last_rows" P_last_rows [] (spLr K)) : FnOk P w K mg base (L2.CX P w) 9 f fd P_holds (spHo K C_BadText C_TooManyNames C_NotLinear) := by
  have nd := sc_holds.nd
  refine F.ok (CX := L2.CX P w) sc_holds (fun vs H Q E h => ?_) (fun cdv A outer s H vs Q E hr h => ?_)
  · obtain ⟨l, za, zs, rfl, _⟩ := h
    rfl
  obtain ⟨l, za, zs, rfl, hz, h⟩ := h
  refine ⟨_, (pss_cons (ps_asg (pe_HX Cread_claim (takes_of rfl rfl rfl rfl) (hr.mono (by decide)) rfl (pa_cons (pv 0) pa_nil)) (pg_tup rfl (pgs_cons (pg_name (i := 2) nd rfl (Or.inl rfl)) (pgs_cons (pg_name (i := 3) nd rfl (Or.inl rfl)) (pgs_cons (pg_name (i := 4) nd rfl (Or.inl rfl)) pgs_nil)))))
    (pss_one (ps_ret (pe_cmpR op_isN (pe_H Crefutation (hr.mono (by decide)) rfl (pa_cons (pv 3) (pa_cons (pv 4) (pa_cons (pe_H Clast_rows (hr.mono (by decide)) rfl (pa_cons (pv 2) (pa_cons (pv 1) pa_nil))) pa_nil)))) pe_non (nomark _))))), ?_⟩
  refine ⟨_, rfl, ?_⟩
  refine spRc_mono (fun v H1 hv => ?_) h
  obtain ⟨a, na, wa, ns, ws, s, rfl, e1, ha, hna, hwa, n5, lw, nod, q⟩ := hv
  have p5 := pow5 n5
  refine ⟨a, _, rfl, ha, rfl, _, _, rfl, _, _, rfl, _, _, rfl, rfl, ?_⟩
  refine ⟨_, rfl, _, rfl, _, rfl, _, rfl, na, za, ns, zs, rfl, hna, n5, hz.same e1, fun r H2 e2 nr hr2 => ?_⟩
  refine ⟨wa, r, ws, s, lastR ns zs, rfl, e2 _ _ hwa, hr2, (by rw [lw]; exact Nat.two_pow_pos _), (by rw [lw]; omega), (fun x hx => by rw [lw]; exact lastR_lt x hx), fun g gm gl => ⟨fun e H3 e3 => ⟨rfl, ?_⟩, fun m x y e b H3 e3 hb => ⟨rfl, ?_⟩⟩⟩
  · have := q g gm gl H3 (e2.trans e3)
    rw [e] at this
    exact this
  · have := q g gm gl H3 (e2.trans e3)
    rw [e] at this
    rw [show decide (V.ref b = V.non) = false from decide_eq_false fun h => by cases h]
    exact this
abbrev S_counterexample : Stmt := top 54
abbrev N_counterexample : List Str := ["claim", "from_zero", "names", "weights", "sign", "found", "many", "row", "last", "k"]
abbrev P_counterexample : List Str := ["claim", "from_zero"]
theorem sc_counterexample : FnScope N_counterexample P_counterexample (defScope S_counterexample) := ⟨rfl, rfl, rfl, by decide +kernel, rfl, by decide +kernel, by decide +kernel⟩
def spCx (K : PySem.W.Frag) (CB CM CN : Addr) : Sp := fun vs H Q E => ∃ (l : Chs) (za : Addr) (zs : List Chs), vs = [.str (txt l), .ref za] ∧ Sq K H za (zs.map fun c => V.str (txt c)) ∧ spRc K CB CM CN [.str (txt l)] H (RcV K H fun ns ws s H' => ∀ g, g ∈ ws → (∀ y ∈ ws, y ≤ g) → (refW ws s (lastR ns zs) g = none → ∀ H2, Same H' H2 → Q .non H2) ∧ ∀ m r l, refW ws s (lastR ns zs) g = some (m, r, l) → (0 ≤ m ∧ m ≤ 200000) ∧ ∀ D H2, Same H' H2 → H2 D = some (.dK (cexK ns m r l ns.length)) → Q (.ref D) H2) E
theorem ok_cx (F : FunD K "counterexample" "counterexample" (defArgs S_counterexample) (defBody S_counterexample) (defScope S_counterexample) [] [("from_zero", .ref T0)] f fd) (B : Blt mg) (Cread_claim : HasX P w K mg base 8 "read_claim" P_read_claim (spRc K C_BadText C_TooManyNames C_NotLinear)) (Crefutation : Has P w K mg base 2 "refutation" P_refutation [] (spRf K)) (Clast_rows : Has P w K mg base 1 "last_rows" P_last_rows [] (spLr K)) : FnOk P w K mg base (L2.CX P w) 9 f fd P_counterexample (spCx K C_BadText C_TooManyNames C_NotLinear) := by
  have nd := sc_counterexample.nd
  refine F.ok (CX := L2.CX P w) sc_counterexample (fun vs H Q E h => ?_) (fun cdv A outer s H vs Q E hr h => ?_)
  · obtain ⟨l, za, zs, rfl, _⟩ := h
    rfl
  obtain ⟨l, za, zs, rfl, hz, h⟩ := h
  refine ⟨_, (pss_cons (ps_asg (pe_HX Cread_claim (takes_of rfl rfl rfl rfl) (hr.mono (by decide)) rfl (pa_cons (pv 0) pa_nil)) (pg_tup rfl (pgs_cons (pg_name (i := 2) nd rfl (Or.inr rfl)) (pgs_cons (pg_name (i := 3) nd rfl (Or.inl rfl)) (pgs_cons (pg_name (i := 4) nd rfl (Or.inl rfl)) pgs_nil)))))
    (pss_cons (ps_set (i := 5) nd rfl (Or.inl rfl) (pe_H Crefutation (hr.mono (by decide)) rfl (pa_cons (pv 3) (pa_cons (pv 4) (pa_cons (pe_H Clast_rows (hr.mono (by decide)) rfl (pa_cons (pv 2) (pa_cons (pv 1) pa_nil))) pa_nil)))))
    (C8.pss_cut (ps_if (pt_cmpR op_isN (pv 5) pe_non (nomark _)) (pss_one (ps_ret pe_non)) pss_nil)
    (pss_cons (ps_asg (pv 5) (pg_tup rfl (pgs_cons (pg_name (i := 6) nd rfl (Or.inr rfl)) (pgs_cons (pg_name (i := 7) nd rfl (Or.inr rfl)) (pgs_cons (pg_name (i := 8) nd rfl (Or.inr rfl)) pgs_nil)))))
    (pss_one (ps_ret (pe_dc (own := [("k", 9)]) (g := gName 9) (tt := tYes) rfl nd (pi_range1 (by rfl) B.range (pa_cons (pe_callB call_lenL (by rfl) B.len PySem.boot_len (pa_cons (pv 2) pa_nil)) pa_nil)) (blkOk_by (own := [("k", 9)]) (N := N_counterexample) (sc := defScope S_counterexample) (by decide +kernel)) (fun _ _ _ _ _ => pg_name (i := 9) nd rfl (Or.inl rfl)) (fun _ _ _ _ _ => pts_nil) (fun _ _ _ _ _ => (pe_ix (ix_listK K) (pv 2) (pv 9) (fun _ _ => rfl))) (fun _ _ _ _ _ => (pe_op op_sub (pe_op op_mulW (pe_op op_and (pe_op op_shr (pv 7) (pv 9)) pe_int) (pe_op op_sub (pe_op op_shlW pe_int (pv 6)) pe_int)) (pe_op op_shlW (pe_op op_and (pe_op op_shr (pv 8) (pv 9)) pe_int) (pv 6)))) (fun _ => rfl)))))))), ?_⟩
  refine ⟨_, rfl, ?_⟩
  refine spRc_mono (fun v H1 hv => ?_) h
  obtain ⟨a, na, wa, ns, ws, s, rfl, e1, ha, hna, hwa, n5, lw, nod, q⟩ := hv
  have p5 := pow5 n5
  refine ⟨a, _, rfl, ha, rfl, _, _, rfl, _, _, rfl, _, _, rfl, rfl, ?_⟩
  refine ⟨_, rfl, _, rfl, _, rfl, _, rfl, na, za, ns, zs, rfl, hna, n5, hz.same e1, fun r H2 e2 nr hr2 => ?_⟩
  refine ⟨wa, r, ws, s, lastR ns zs, rfl, e2 _ _ hwa, hr2, (by rw [lw]; exact Nat.two_pow_pos _), (by rw [lw]; omega), (fun x hx => by rw [lw]; exact lastR_lt x hx), fun g gm gl => ⟨fun e H3 e3 => ?_, fun m x y e b H3 e3 hb => ?_⟩⟩
  · refine ⟨fun _ _ => False, ⟨_, rfl, rfl, _, rfl, iteT ?_⟩, fun _ _ h => h.elim⟩
    exact (q g gm gl).1 e H3 (e2.trans e3)
  · refine ⟨fun σ H4 => σ = [some (.str (txt l)), some (.ref za), some (.ref na), some (.ref wa), some (.str (txt s)), some (.ref b), none, none, none, none] ∧ H4 = H3, ⟨_, rfl, rfl, _, rfl, ?_⟩, ?_⟩
    · rw [show decide (V.ref b = V.non) = false from decide_eq_false fun h => by cases h]
      exact iteF ⟨rfl, rfl⟩
    rintro σ H4 ⟨rfl, rfl⟩
    obtain ⟨⟨m0, m1⟩, q⟩ := (q g gm gl).2 m x y e
    have hna4 := e3 _ _ (e2 _ _ hna)
    have ll : (ns.map fun c => V.str (txt c)).length = ns.length := by rw [List.length_map]
    refine ⟨_, rfl, b, _, rfl, hb, rfl, _, _, rfl, _, _, rfl, _, _, rfl, rfl, ?_⟩
    refine ⟨_, rfl, na, _, rfl, SqL.of hna4, _, rfl, (by rw [ll]; omega), (by rw [ll]; omega), fun D nD => ?_⟩
    rw [ll]
    refine dc_range (lo := 0) (n := ns.length) (fun i H' => Same H4 H' ∧ H' D = some (.dK (cexK ns m x y i))) ⟨Same.new nD, upd_same⟩ (fun i H' hi h => ?_) (fun H5 h => ?_)
    · obtain ⟨e, hD⟩ := h
      refine ⟨rfl, lcT ?_⟩
      have a1 : atI (ns.map fun c => V.str (txt c)) (0 + (i : Int)) = some (.str (txt (ns.getD i []))) := by rw [Int.zero_add]; exact atI_nat (by rw [List.getElem?_map, List.getD_eq_getElem?_getD, List.getElem?_eq_getElem hi]; rfl)
      have b1 : ∀ z : Nat, Builtin.bitAnd ((z : Int) / 2 ^ ((0 : Int) + (i : Int)).toNat) 1 = Bt i (z : Int) := fun z => by rw [PyProof.Rows.bitAnd_m1, Int.zero_add]; rfl
      refine ⟨_, rfl, _, rfl, na, _, _, _, rfl, rfl, SqL.of (e _ _ hna4), a1, ?_⟩
      have sh1 : CShl 1 m := ⟨m0, by rw [show Builtin.Int.intBits 1 = 1 from by decide +kernel]; omega⟩
      have sh2 : CShl (Builtin.bitAnd ((y : Int) / 2 ^ ((0 : Int) + (i : Int)).toNat) 1) m := by
        rw [b1]
        refine ⟨m0, ?_⟩
        rcases bt_01 i (y : Int) with z | z
        · rw [z, show Builtin.Int.intBits 0 = 0 from by decide +kernel]; omega
        · rw [z, show Builtin.Int.intBits 1 = 1 from by decide +kernel]; omega
      have mw : CMulW (Builtin.bitAnd ((x : Int) / 2 ^ ((0 : Int) + (i : Int)).toNat) 1) (1 * 2 ^ m.toNat - 1) := by
        rw [b1]
        refine wide_mul (a := 1) (b := 200001) (by rcases bt_01 i (x : Int) with z | z <;> rw [z] <;> decide) ?_ (by decide) (by decide) (by decide)
        have h1 : (2 : Nat) ^ m.toNat < 2 ^ 200001 := Nat.pow_lt_pow_right (by decide) (by omega)
        have h2 : ((2 : Nat) ^ m.toNat : Int) = ((2 ^ m.toNat : Nat) : Int) := (Int.natCast_pow 2 m.toNat).symm
        have h3 : (1 * 2 ^ m.toNat - 1 : Int) = ((2 ^ m.toNat : Nat) : Int) - 1 := by rw [Int.one_mul]; exact congrArg (· - 1) h2
        have h4 : 0 < 2 ^ m.toNat := Nat.two_pow_pos _
        rw [h3]
        have h5 : (((2 ^ m.toNat : Nat) : Int) - 1).natAbs = 2 ^ m.toNat - 1 := by omega
        rw [h5]
        omega
      refine ⟨_, rfl, _, rfl, _, _, rfl, rfl, (by omega), _, _, rfl, rfl, _, rfl, _, _, rfl, rfl, sh1, _, _, rfl, rfl, _, _, rfl, rfl, mw, _, rfl, _, rfl, _, _, rfl, rfl, (by omega), _, _, rfl, rfl, _, rfl, _, _, rfl, rfl, sh2, _, _, rfl, rfl, _, (Sum.inr (txt (ns.getD i [])) : Key), rfl, hD, ?_, Same.mut e nD, ?_⟩
      · unfold cexK
        rw [List.length_map, List.length_range]
        exact Nat.lt_of_lt_of_le (show i < 3000 by omega) (by decide)
      · rw [upd_same, cex_new nod hi, b1, b1]
        unfold cexK
        rw [List.range_succ, List.map_append]
        rfl
    · obtain ⟨e, hD⟩ := h
      exact q D H5 (e2.trans (e3.trans e)) hD
end
end Fb
/-! ### the pen: a dict of the cells, the place, the rest; n draws are left -/
namespace Fb
open PySem L2
def pp (c : Addr) (at_ rest : Int) : List (Key × V) := [(.inr "cells", .ref c), (.inr "spot", .int at_), (.inr "rest", .int rest)]
/-- the tape as it stands -/
structure PS_ (K : PySem.W.Frag) (t c : Addr) (cs : List Int) (a r : Int) (H : Hp) : Prop where
  d : H t = some (.dK (pp c a r))
  s : SqL K H c (cs.map V.int)
theorem PS_.new {K : PySem.W.Frag} {t c p : Addr} {cs : List Int} {a r : Int} {H : Hp} {o : HO} (h : PS_ K t c cs a r H) (np : H p = none) : PS_ K t c cs a r (upd H p o) :=
  ⟨by rw [upd_ne (ne_of_none h.d np)]; exact h.d, (Nd.new np).sql h.s⟩
theorem PS_.put {K : PySem.W.Frag} {t c : Addr} {cs : List Int} {a r b u : Int} {H : Hp} (h : PS_ K t c cs a r H) : PS_ K t c cs b u (upd H t (.dK (pp c b u))) :=
  ⟨upd_same, (Nd.tape h.d).sql h.s⟩
theorem PS_.cells {K : PySem.W.Frag} {t c : Addr} {cs : List Int} {a r : Int} {H : Hp} (h : PS_ K t c cs a r H) : DGet H t (.str "cells") (some (.ref c)) := DGet.k (k := Sum.inr "cells") h.d
theorem PS_.at_ {K : PySem.W.Frag} {t c : Addr} {cs : List Int} {a r : Int} {H : Hp} (h : PS_ K t c cs a r H) : DGet H t (.str "spot") (some (.int a)) := DGet.k (k := Sum.inr "spot") h.d
theorem PS_.rest {K : PySem.W.Frag} {t c : Addr} {cs : List Int} {a r : Int} {H : Hp} (h : PS_ K t c cs a r H) : DGet H t (.str "rest") (some (.int r)) := DGet.k (k := Sum.inr "rest") h.d
theorem PS_.pat {K : PySem.W.Frag} {t c : Addr} {cs : List Int} {a r b : Int} {H : Hp} (h : PS_ K t c cs a r H) : DPut H t (.str "spot") (.int b) (upd H t (.dK (pp c b r))) := DPut.k (k := Sum.inr "spot") h.d (by show 3 < sizeLine; decide)
theorem PS_.prest {K : PySem.W.Frag} {t c : Addr} {cs : List Int} {a r b : Int} {H : Hp} (h : PS_ K t c cs a r H) : DPut H t (.str "rest") (.int b) (upd H t (.dK (pp c a b))) := DPut.k (k := Sum.inr "rest") h.d (by show 3 < sizeLine; decide)
/-- the pen stands, n draws are left -/
def Pen (K : PySem.W.Frag) (τ : Tp) (n : Nat) (H : Hp) : Prop := ∃ at_ rest : Int, PS_ K τ.t τ.c τ.cs at_ rest H ∧ τ.cs.length ≤ 63 ∧ 0 ≤ at_ ∧ at_ + n ≤ 2 ^ 40 ∧ 0 ≤ rest
theorem Pen.mono {K : PySem.W.Frag} {τ : Tp} {n m : Nat} {H : Hp} (h : Pen K τ n H) (e : m ≤ n) : Pen K τ m H := by
  obtain ⟨a, r, h1, h4, h5, h6, h7⟩ := h
  exact ⟨a, r, h1, h4, h5, by omega, h7⟩
theorem Pen.same {K : PySem.W.Frag} {τ : Tp} {n : Nat} {H H' : Hp} (h : Pen K τ n H) (e : Same H H') : Pen K τ n H' := by
  obtain ⟨a, r, h1, h3⟩ := h
  exact ⟨a, r, ⟨e _ _ h1.d, e.seq h1.s⟩, h3⟩
theorem Pen.new {K : PySem.W.Frag} {τ : Tp} {n : Nat} {H : Hp} {p : Addr} {o : HO} (h : Pen K τ n H) (np : H p = none) : Pen K τ n (upd H p o) := h.same fun b u q => by rw [upd_ne (ne_of_none q np)]; exact q
/-- an object made behind H0 may change -/
theorem Pen.mut {K : PySem.W.Frag} {τ : Tp} {n m : Nat} {H H0 : Hp} {p : Addr} {o : HO} (h0 : Pen K τ m H0) (np : H0 p = none) (h : Pen K τ n H) : Pen K τ n (upd H p o) := by
  obtain ⟨a0, r0, k1, _⟩ := h0
  obtain ⟨a, r, h1, h3⟩ := h
  refine ⟨a, r, ⟨by rw [upd_ne (by rintro rfl; rw [k1.d] at np; cases np)]; exact h1.d, ?_⟩, h3⟩
  have key : ∀ u, H0 τ.c = some u → SqL K (upd H p o) τ.c (τ.cs.map V.int) := fun u hu => by
    have hn : τ.c ≠ p := by intro z; rw [z, np] at hu; cases hu
    rcases h1.s with (h | ⟨w, h⟩) | h
    · exact .inl (.inl (by rw [upd_ne hn]; exact h))
    · exact .inl (.inr ⟨w, by rw [upd_ne hn]; exact h⟩)
    · exact .inr h
  rcases k1.s with (h | ⟨w, h⟩) | h
  · exact key _ h
  · exact key _ h
  · exact .inr h
def spPen (K : PySem.W.Frag) : Sp := fun vs H Q _ => ∃ (a : Addr) (ns : List Int), vs = [.ref a] ∧ SqL K H a (ns.map V.int) ∧ ns.length ≤ 63 ∧ ∀ (τ : Tp) (H' : Hp), Same H H' → Pen K τ (2 ^ 39) H' → Q (.ref τ.t) H'
def spDrawP (K : PySem.W.Frag) : Sp := fun vs H Q _ => ∃ (τ : Tp) (lim : Int) (n : Nat), vs = [.ref τ.t, .int lim] ∧ Pen K τ (n + 1) H ∧ 0 < lim ∧ lim < BigL ∧
  ∀ (d : Int) (H' : Hp), Nd H H' → Pen K τ n H' → 0 ≤ d → d < lim → Q (.int d) H'
def spPickP (K : PySem.W.Frag) : Sp := fun vs H Q _ => ∃ (τ : Tp) (l : Addr) (xs : List V) (n : Nat), vs = [.ref τ.t, .ref l] ∧ SqL K H l xs ∧ xs ≠ [] ∧ xs.length ≤ 100000 ∧ Pen K τ (n + 1) H ∧ ∀ (x : V) (H' : Hp), Nd H H' → Pen K τ n H' → x ∈ xs → Q x H'
end Fb
namespace Fb
open PySem L2
section
variable {P : Program} {w : World} {K : PySem.W.Frag} {mg : Str → Option Value} {base : Heap} {f : Addr} {fd : FuncData}
abbrev S__law_pen : Stmt := top 63
abbrev N__law_pen : List Str := ["_law_script"]
abbrev P__law_pen : List Str := ["_law_script"]
theorem sc__law_pen : FnScope N__law_pen P__law_pen (defScope S__law_pen) := ⟨rfl, rfl, rfl, by decide +kernel, rfl, by decide +kernel, by decide +kernel⟩
theorem ok_pen (F : Fun K "_law_pen" "_law_pen" S__law_pen f fd) (B : Blt mg) : FnOk P w K mg base CX0 1 f fd P__law_pen (spPen K) := by
  have nd := sc__law_pen.nd
  refine F.ok sc__law_pen (fun vs H Q E h => ?_) (fun cdv A outer s H vs Q E hr h => ?_)
  · obtain ⟨a, ns, rfl, _⟩ := h
    rfl
  obtain ⟨a, ns, rfl, hS, h63, q⟩ := h
  refine ⟨_, (pss_one (ps_ret (pe_disp (pps_cons pe_str (pe_callTy call_listL (by rfl) B.list (by decide +kernel) (pa_cons (pe_slice sl_list (pv 0) po_none (po_some pe_int)) pa_nil)) (pps_cons pe_str pe_int (pps_cons pe_str pe_int pps_nil))) (by rfl) (by rfl) (fun z => by cases z) (by decide)))), ?_⟩
  refine fun p np => ?_
  have g0 : Same H (upd H p (.dK [])) := Same.new np
  refine ⟨_, rfl, _, rfl, _, _, rfl, g0.seq hS, fun l nl => ?_⟩
  have nlp : p ≠ l := by rintro rfl; rw [upd_same] at nl; cases nl
  have ec : ∃ cs : List Int, cutV (ns.map V.int) none (some 63) = cs.map V.int ∧ cs.length ≤ 63 := by
    unfold cutV
    rw [← List.map_drop, ← List.map_take]
    exact ⟨_, rfl, by rw [List.length_take, List.length_drop]; omega⟩
  obtain ⟨cs, ecs, lcs⟩ := ec
  rw [ecs]
  refine ⟨_, _, rfl, SqL.of upd_same, fun m nm => ?_⟩
  have ep : (upd (upd H p (.dK [])) l (.lst (cs.map V.int))) p = some (.dK []) := by rw [upd_ne nlp, upd_same]
  have nmp : p ≠ m := by rintro rfl; rw [ep] at nm; cases nm
  have g1 : Same H (upd (upd H p (.dK [])) l (.lst (cs.map V.int))) := Same.mut g0 (g0.free nl)
  have g2 : Same H (upd (upd (upd H p (.dK [])) l (.lst (cs.map V.int))) m (.lst (cs.map V.int))) := Same.mut g1 (g1.free nm)
  have ep2 : (upd (upd (upd H p (.dK [])) l (.lst (cs.map V.int))) m (.lst (cs.map V.int))) p = some (.dK []) := by rw [upd_ne nmp]; exact ep
  refine ⟨ep2, [(.inr "cells", .ref m), (.inr "spot", .int 0), (.inr "rest", .int 0)], rfl, (by show 3 ≤ 15; decide), ?_⟩
  refine q ⟨p, m, cs⟩ _ (Same.mut g2 np) ⟨0, 0, ⟨upd_same, SqL.of (by rw [upd_ne (Ne.symm nmp)]; exact upd_same)⟩, lcs, Int.le_refl _, by decide, Int.le_refl _⟩
abbrev S__law_draw : Stmt := top 64
abbrev N__law_draw : List Str := ["_law_pen_here", "_law_bound", "_law_digit", "_law_spot", "_law_cell", "_law_mixed"]
abbrev P__law_draw : List Str := ["_law_pen_here", "_law_bound"]
theorem sc__law_draw : FnScope N__law_draw P__law_draw (defScope S__law_draw) := ⟨rfl, rfl, rfl, by decide +kernel, rfl, by decide +kernel, by decide +kernel⟩
theorem ok_drawP (F : Fun K "_law_draw" "_law_draw" S__law_draw f fd) (B : Blt mg) : FnOk P w K mg base CX0 1 f fd P__law_draw (spDrawP K) := by
  have nd := sc__law_draw.nd
  refine F.ok sc__law_draw (fun vs H Q E h => ?_) (fun cdv A outer s H vs Q E hr h => ?_)
  · obtain ⟨τ, lim, n, rfl, _⟩ := h
    rfl
  obtain ⟨⟨t, c, cs⟩, lim, n, rfl, hT, h0, h9, q⟩ := h
  refine ⟨_, (pss_cons (ps_if (pt_cmpR op_ge (pe_dget (hu_of hr) (pv 0) pe_str (fun _ _ => rfl)) (pv 1) (nomark _)) (pss_cons (ps_set (i := 2) nd rfl (Or.inl rfl) (pe_op op_modN (pe_callTy call_intI (by rfl) B.int (by decide +kernel) (pa_cons (pe_dget (hu_of hr) (pv 0) pe_str (fun _ _ => rfl)) pa_nil)) (pv 1)))
    (pss_cons (ps_dput (hu_of hr) (pv 0) pe_str (pe_op op_fdivW (pe_dget (hu_of hr) (pv 0) pe_str (fun _ _ => rfl)) (pv 1)) rfl)
    (pss_one (ps_ret (pv 2))))) pss_nil)
    (pss_cons (ps_set (i := 3) nd rfl (Or.inl rfl) (pe_dget (hu_of hr) (pv 0) pe_str (fun _ _ => rfl)))
    (pss_cons (ps_dput (hu_of hr) (pv 0) pe_str (pe_op op_add (pv 3) pe_int) rfl)
    (pss_cons (ps_set (i := 4) nd rfl (Or.inl rfl) (pe_op op_add (pe_op op_mul pe_int (pv 3)) pe_int))
    (C8.pss_cut (ps_if (pt_cmpR (op_neD hr.units) (pe_dget (hu_of hr) (pv 0) pe_str (fun _ _ => rfl)) (pe_lst pa_nil) (nomark _)) (pss_one (ps_set (i := 4) nd rfl (Or.inl rfl) (pe_ix ix_list (pe_dget (hu_of hr) (pv 0) pe_str (fun _ _ => rfl)) (pe_op op_modN (pe_callTy call_intI (by rfl) B.int (by decide +kernel) (pa_cons (pv 3) pa_nil)) (pe_callB call_lenL (by rfl) B.len PySem.boot_len (pa_cons (pe_dget (hu_of hr) (pv 0) pe_str (fun _ _ => rfl)) pa_nil))) (fun _ _ => rfl)))) pss_nil)
    (C8.pss_cut (ps_if (PW.pt (pw_and (pt_cmpR op_lt (pv 3) (pe_callB call_lenL (by rfl) B.len PySem.boot_len (pa_cons (pe_dget (hu_of hr) (pv 0) pe_str (fun _ _ => rfl)) pa_nil)) (nomark _)) (pw_and1 (pt_cmpR op_ge (pv 4) (pe_op op_pow pe_int pe_int) (nomark _))))) (pss_cons (ps_dput (hu_of hr) (pv 0) pe_str (pe_op op_fdivW (pe_op op_sub (pv 4) (pe_op op_pow pe_int pe_int)) (pv 1)) rfl)
    (pss_one (ps_ret (pe_op op_modN (pe_callTy call_intI (by rfl) B.int (by decide +kernel) (pa_cons (pe_op op_sub (pv 4) (pe_op op_pow pe_int pe_int)) pa_nil)) (pv 1))))) pss_nil)
    (C8.pss_cut (ps_set (i := 5) nd rfl (Or.inl rfl) (pe_op op_mul (pe_op op_modN (pe_callTy call_intI (by rfl) B.int (by decide +kernel) (pa_cons (pv 4) pa_nil)) pe_int) pe_int))
    (C8.pss_cut (ps_set (i := 5) nd rfl (Or.inl rfl) (pe_op op_modN (pe_callTy call_intI (by rfl) B.int (by decide +kernel) (pa_cons (pe_op op_add (pe_op op_add (pe_op op_add (pv 5) (pe_op op_mul (pe_op op_mul pe_int (pv 3)) (pv 3))) (pe_op op_mul pe_int (pv 3))) pe_int) pa_nil)) pe_int))
    (C8.pss_cut (ps_set (i := 5) nd rfl (Or.inl rfl) (pe_op op_modN (pe_callTy call_intI (by rfl) B.int (by decide +kernel) (pa_cons (pe_op op_mul (pv 5) (pe_op op_add (pv 5) pe_int)) pa_nil)) pe_int))
    (pss_one (ps_ret (pe_op op_modN (pe_callTy call_intI (by rfl) B.int (by decide +kernel) (pa_cons (pe_op op_fdivW (pe_op op_modN (pe_callTy call_intI (by rfl) B.int (by decide +kernel) (pa_cons (pe_op op_add (pe_op op_mul (pv 5) (pv 5)) (pe_op op_mul pe_int (pv 5))) pa_nil)) pe_int) pe_int) pa_nil)) (pv 1))))))))))))), ?_⟩
  obtain ⟨a, r, ts, h4, h5, h6, h7⟩ := hT
  replace ts : PS_ K t c cs a r H := ts
  replace h4 : cs.length ≤ 63 := h4
  have hlen : ((cs.map V.int).length : Int) = cs.length := by rw [List.length_map]
  refine ⟨_, rfl, _, _, rfl, ts.rest, _, rfl, _, _, rfl, rfl, _, rfl, ?_⟩
  refine iteD (fun c1 => ?_) (fun c1 => ?_)
  · refine ⟨_, rfl, _, _, rfl, ts.rest, _, rfl, _, rfl, _, _, rfl, rfl, (by omega), ?_⟩
    refine ⟨_, rfl, _, _, rfl, ts.rest, _, rfl, _, _, rfl, rfl, div_BigL h0 h9, _, rfl, _, _, rfl, ts.prest, ?_⟩
    refine ⟨_, rfl, ?_⟩
    exact q _ _ (Nd.tape ts.d) ⟨a, r / lim, ts.put, h4, h5, by omega, Int.ediv_nonneg h7 (by omega)⟩ (Int.fmod_nonneg_of_pos _ h0) (Int.fmod_lt_of_pos _ h0)
  · refine ⟨_, rfl, _, _, rfl, ts.at_, ?_⟩
    refine ⟨_, rfl, _, _, rfl, rfl, _, rfl, _, _, rfl, ts.pat, ?_⟩
    have ts1 := ts.put (b := a + 1) (u := r)
    have ex1 := Nd.tape (o := .dK (pp c (a + 1) r)) ts.d
    generalize upd H t _ = H1 at ts1 ex1 ⊢
    refine ⟨_, rfl, _, _, rfl, rfl, .inl ⟨by omega, by omega⟩, _, _, rfl, rfl, ?_⟩
    refine ⟨fun σ H' => ∃ cell : Int, σ = [some (.ref t), some (.int lim), none, some (.int a), some (.int cell), none] ∧ Nd H H' ∧ PS_ K t c cs (a + 1) r H', ?_, ?_⟩
    · refine ⟨_, rfl, _, _, rfl, ts1.cells, (by show 0 ≤ sizeLine; decide), fun p1 np1 => ?_⟩
      have ts2 := ts1.new (o := .lst []) np1
      have ex2 := ex1.trans (Nd.new (o := .lst []) np1)
      refine ⟨_, _, .lst ts2.s (dps_ints cs), .lst (SqL.of upd_same) .nil, shaped_ints cs, shaped_nil, _, rfl, ?_⟩
      rw [eqv_nil']
      refine iteDN (fun cn => ?_) (fun _ => ?_)
      · obtain ⟨v, hv, hm⟩ := atI_mod (k := a) (by simpa using cn : cs.map V.int ≠ [])
        obtain ⟨z, hz, rfl⟩ := List.mem_map.mp hm
        have hpos : 0 < cs.length := List.length_pos_iff.mpr cn
        refine ⟨_, rfl, _, _, rfl, ts2.cells, _, rfl, _, rfl, _, rfl, _, _, rfl, ts2.cells, _, _, rfl, ts2.s, _, _, rfl, rfl, (by omega), _, _, _, _, rfl, rfl, ts2.s, hv, ?_⟩
        exact ⟨z, rfl, ex2, ts2⟩
      · exact ⟨_, rfl, ex2, ts2⟩
    clear ts1 ex1
    rintro σ H2 ⟨cell, rfl, ex2, ts2⟩
    refine ⟨fun σ H' => σ = [some (.ref t), some (.int lim), none, some (.int a), some (.int cell), none] ∧ H' = H2, ?_, ?_⟩
    · refine ⟨_, rfl, _, rfl, _, _, rfl, ts2.cells, _, _, rfl, ts2.s, _, _, rfl, rfl, _, rfl, ?_⟩
      refine iteD (fun c2 => ?_) (fun c2 => ?_)
      · refine ⟨_, rfl, _, _, rfl, rfl, (by unfold CPow; decide), _, _, rfl, rfl, _, rfl, ?_⟩
        refine iteD (fun c3 => ?_) (fun c3 => ?_)
        · refine ⟨_, rfl, _, _, rfl, rfl, (by unfold CPow; decide), _, _, rfl, rfl, _, rfl, _, _, rfl, rfl, div_BigL h0 h9, _, rfl, _, _, rfl, ts2.prest, ?_⟩
          refine ⟨_, rfl, _, _, rfl, rfl, (by unfold CPow; decide), _, _, rfl, rfl, _, rfl, _, rfl, _, _, rfl, rfl, (by omega), ?_⟩
          have c3' : (10 : Int) ^ (18 : Int).toNat ≤ cell := c3
          exact q _ _ (ex2.trans (Nd.tape ts2.d)) ⟨a + 1, _, ts2.put, h4, by omega, by omega, Int.ediv_nonneg (by omega) (by omega)⟩ (Int.fmod_nonneg_of_pos _ h0) (Int.fmod_lt_of_pos _ h0)
        · exact ⟨rfl, rfl⟩
      · refine iteF ?_
        exact ⟨rfl, rfl⟩
    rintro σ H3 ⟨rfl, rfl⟩
    have fm : ∀ (x : Int) (m : Int), 0 < m → 0 ≤ x.fmod m ∧ x.fmod m < m := fun x m hm => ⟨Int.fmod_nonneg_of_pos _ hm, Int.fmod_lt_of_pos _ hm⟩
    have b1 := fm cell 2147483269 (by decide)
    refine ⟨fun σ H' => ∃ m0 : Int, σ = [some (.ref t), some (.int lim), none, some (.int a), some (.int cell), some (.int m0)] ∧ H' = H3 ∧ 0 ≤ m0 ∧ m0 < 86279444000000, ?_, ?_⟩
    · refine ⟨_, rfl, _, rfl, _, _, rfl, rfl, (by show _ ≠ (0:Int); decide), _, _, rfl, rfl, .inl ⟨by omega, by omega⟩, ?_⟩
      exact ⟨_, rfl, rfl, by omega, by omega⟩
    rintro σ H3' ⟨m0, rfl, rfl, b0, b0'⟩
    refine ⟨fun σ H' => ∃ m1 : Int, σ = [some (.ref t), some (.int lim), none, some (.int a), some (.int cell), some (.int m1)] ∧ H' = H3' ∧ 0 ≤ m1 ∧ m1 < 2147483323, ?_, ?_⟩
    · refine ⟨_, rfl, _, rfl, _, _, rfl, rfl, .inl ⟨by omega, by omega⟩, _, rfl, _, _, rfl, rfl, .inr ⟨by omega, by omega⟩, _, _, rfl, rfl, _, rfl, _, _, rfl, rfl, .inl ⟨by omega, by omega⟩, _, _, rfl, rfl, _, _, rfl, rfl, _, rfl, _, _, rfl, rfl, (by show _ ≠ (0:Int); decide), ?_⟩
      exact ⟨_, rfl, rfl, (fm _ _ (by decide)).1, (fm _ _ (by decide)).2⟩
    rintro σ H4 ⟨m1, rfl, rfl, b2, b2'⟩
    refine ⟨fun σ H' => ∃ m2 : Int, σ = [some (.ref t), some (.int lim), none, some (.int a), some (.int cell), some (.int m2)] ∧ H' = H4 ∧ 0 ≤ m2 ∧ m2 < 2147483353, ?_, ?_⟩
    · refine ⟨_, rfl, _, rfl, _, _, rfl, rfl, _, _, rfl, rfl, .inl ⟨by omega, by omega⟩, _, rfl, _, _, rfl, rfl, (by show _ ≠ (0:Int); decide), ?_⟩
      exact ⟨_, rfl, rfl, (fm _ _ (by decide)).1, (fm _ _ (by decide)).2⟩
    rintro σ H5 ⟨m2, rfl, rfl, b3, b3'⟩
    refine ⟨_, rfl, _, rfl, _, _, rfl, rfl, .inl ⟨by omega, by omega⟩, _, rfl, _, _, rfl, rfl, .inl ⟨by omega, by omega⟩, _, _, rfl, rfl, _, rfl, _, _, rfl, rfl, (by show _ ≠ (0:Int); decide), _, _, rfl, rfl, ⟨by decide, by decide +kernel⟩, _, rfl, _, rfl, _, _, rfl, rfl, (by omega), ?_⟩
    exact q _ _ ex2 ⟨a + 1, r, ts2, h4, by omega, by omega, h7⟩ (Int.fmod_nonneg_of_pos _ h0) (Int.fmod_lt_of_pos _ h0)
abbrev S__law_pick : Stmt := top 65
abbrev N__law_pick : List Str := ["_law_pen_here", "_law_items"]
abbrev P__law_pick : List Str := ["_law_pen_here", "_law_items"]
theorem sc__law_pick : FnScope N__law_pick P__law_pick (defScope S__law_pick) := ⟨rfl, rfl, rfl, by decide +kernel, rfl, by decide +kernel, by decide +kernel⟩
theorem ok_pickP (F : Fun K "_law_pick" "_law_pick" S__law_pick f fd) (B : Blt mg) (C_law_draw : Has P w K mg base 1 "_law_draw" P__law_draw [] (spDrawP K)) : FnOk P w K mg base CX0 2 f fd P__law_pick (spPickP K) := by
  have nd := sc__law_pick.nd
  refine F.ok sc__law_pick (fun vs H Q E h => ?_) (fun cdv A outer s H vs Q E hr h => ?_)
  · obtain ⟨t, l, xs, n, rfl, _⟩ := h
    rfl
  obtain ⟨t, l, xs, n, rfl, hS, h0, h1, hT, q⟩ := h
  refine ⟨_, (pss_one (ps_ret (pe_ix ix_list (pv 1) (pe_H C_law_draw (hr.mono (by decide)) rfl (pa_cons (pv 0) (pa_cons (pe_callB call_lenL (by rfl) B.len PySem.boot_len (pa_cons (pv 1) pa_nil)) pa_nil))) (fun _ _ => rfl)))), ?_⟩
  have hp : 0 < xs.length := List.length_pos_iff.mpr h0
  refine ⟨_, rfl, _, rfl, _, rfl, _, _, rfl, hS, t, _, n, rfl, hT, (by omega), lt_BigL (by omega), fun d H' e hT' d0 d1 => ?_⟩
  obtain ⟨j, rfl⟩ := Int.eq_ofNat_of_zero_le d0
  have hj : j < xs.length := by omega
  have hx := List.getElem?_eq_getElem hj
  exact ⟨_, _, _, _, rfl, rfl, e.sql hS, atI_nat hx, q _ _ e hT' (List.mem_of_getElem? hx)⟩
end
end Fb
/-! ### texts made of pieces: their tokens -/
namespace Fb
open PySem L2 PySem.NumText
theorem runL_app {f : Nat → Bool} : ∀ {s rest : Chs}, (∀ c ∈ s, f c = true) → (∀ c, rest.head? = some c → f c = false) → runL f (s ++ rest) = s.length
  | [], [], _, _ => rfl
  | [], c :: r, _, h => by
    rw [List.nil_append, runL_cons, if_neg (by rw [h c rfl]; decide)]
    rfl
  | c :: s, rest, a, h => by
    rw [List.cons_append, runL_cons, if_pos (a c (List.mem_cons_self ..)), runL_app (fun d m => a d (List.mem_cons_of_mem _ m)) h, List.length_cons, Nat.add_comm]
theorem lex_blank (rest : Chs) (p : Nat) : lex (32 :: rest) p = lex rest (p + 1) := by
  have h := lex_bl (32 :: rest) p
  have e : runL isBl (32 :: rest) = 1 + runL isBl rest := by rw [runL_cons]; rfl
  rw [e, Nat.add_comm 1, List.drop_succ_cons] at h
  rw [← h, ← lex_bl rest (p + 1)]
  congr 1
  omega
theorem lex_tok {s rest : Chs} (h : tokL (s ++ rest) = some s.length) (b : s.head? ≠ some 32) (p : Nat) : lex (s ++ rest) p = .tok s p :: lex rest (p + s.length) := by
  have p1 := (tokL_pos h).1
  cases s with
  | nil => cases p1
  | cons c s =>
    have e : runL isBl (c :: s ++ rest) = 0 := by
      rw [List.cons_append, runL_cons, if_neg]
      intro z
      exact b (by rw [show c = 32 from beq_iff_eq.mp z]; rfl)
    rw [lex_eq, e, List.drop_zero, h, Nat.add_zero]
    show Tk.tok ((c :: s ++ rest).take (c :: s).length) p :: lex ((c :: s ++ rest).drop (c :: s).length) _ = _
    rw [List.take_left, List.drop_left]
/-- whatever stands behind, if its first sign is allowed -/
def Lx (u : Chs) (g : Nat → Bool) (ts : List Chs) : Prop := ∀ (rest : Chs) (p : Nat), (∀ c, rest.head? = some c → g c = true) → ∃ ps : List (Chs × Nat), ps.map (·.1) = ts ∧ (∀ x ∈ ps, x.2 ≤ p + u.length) ∧ lex (u ++ rest) p = ps.map (fun x => Tk.tok x.1 x.2) ++ lex rest (p + u.length)
def gAny : Nat → Bool := fun _ => true
def gNd : Nat → Bool := fun c => !isDig c
def gNl : Nat → Bool := fun c => !isLet c
theorem Lx.app {u u' : Chs} {g g' : Nat → Bool} {ts ts' : List Chs} (h : Lx u g ts) (h' : Lx u' g' ts') (n : ∀ c, u'.head? = some c → g c = true) (ne : u' ≠ []) : Lx (u ++ u') g' (ts ++ ts') := by
  intro rest p hc
  have h1 := h (u' ++ rest) p (fun c hh => n c (by cases u' with | nil => exact absurd rfl ne | cons d r => exact hh))
  obtain ⟨ps, e1, b1, l1⟩ := h1
  obtain ⟨qs, e2, b2, l2⟩ := h' rest (p + u.length) hc
  refine ⟨ps ++ qs, by rw [List.map_append, e1, e2], fun x hx => ?_, ?_⟩
  · rw [List.length_append]
    rcases List.mem_append.mp hx with hx | hx
    · have := b1 x hx; omega
    · have := b2 x hx; omega
  · rw [List.append_assoc, l1, l2, List.map_append, List.append_assoc, List.length_append, Nat.add_assoc]
theorem Lx.blank : Lx [32] gAny [] := fun rest p _ => ⟨[], rfl, (fun _ h => absurd h (List.not_mem_nil)), by rw [List.singleton_append, lex_blank]; rfl⟩
theorem Lx.tok {s : Chs} {g : Nat → Bool} (h : ∀ rest, (∀ c, rest.head? = some c → g c = true) → tokL (s ++ rest) = some s.length) (b : s.head? ≠ some 32) : Lx s g [s] := fun rest p hc =>
  ⟨[(s, p)], rfl, (fun x hx => by rw [List.mem_singleton.mp hx]; exact Nat.le_add_right _ _), by rw [lex_tok (h rest hc) b]; rfl⟩
theorem Lx.num {s : Chs} (h : ∀ c ∈ s, isDig c = true) (n : s ≠ []) : Lx s gNd [s] := by
  refine .tok (fun rest hc => ?_) ?_
  · cases s with
    | nil => exact absurd rfl n
    | cons c s =>
      have e := runL_app (f := isDig) (s := c :: s) (rest := rest) h (fun d hd => by have := hc d hd; unfold gNd at this; cases e : isDig d <;> simp_all)
      rw [List.cons_append] at e ⊢
      rw [tokL_cons, if_pos (h c (List.mem_cons_self ..)), e]
  · cases s with
    | nil => exact absurd rfl n
    | cons c s =>
      intro z
      have : c = 32 := by injection z
      have h := h c (List.mem_cons_self ..)
      rw [this] at h
      exact absurd h (by decide)
theorem Lx.nam {s : Chs} (h : ∀ c ∈ s, isLet c = true) (n : s ≠ []) : Lx s gNl [s] := by
  refine .tok (fun rest hc => ?_) ?_
  · cases s with
    | nil => exact absurd rfl n
    | cons c s =>
      have e := runL_app (f := isLet) (s := c :: s) (rest := rest) h (fun d hd => by have := hc d hd; unfold gNl at this; cases e : isLet d <;> simp_all)
      have hl := h c (List.mem_cons_self ..)
      have hd : ¬ isDig c = true := by
        unfold isLet at hl
        unfold isDig
        have := of_decide_eq_true hl
        simp only [decide_eq_true_eq]
        omega
      rw [List.cons_append] at e ⊢
      rw [tokL_cons, if_neg hd, if_pos hl, e]
  · cases s with
    | nil => exact absurd rfl n
    | cons c s =>
      intro z
      have : c = 32 := by injection z
      have h := h c (List.mem_cons_self ..)
      rw [this] at h
      exact absurd h (by decide)
/-- signs that begin no longer one -/
def one1 : List Nat := [40, 41, 126, 43, 45, 38, 124, 94]
theorem Lx.one : ∀ {c : Nat}, c ∈ one1 → Lx [c] gAny [[c]] := by
  intro c hc
  refine .tok (fun rest _ => ?_) ?_
  · have hc : c = 40 ∨ c = 41 ∨ c = 126 ∨ c = 43 ∨ c = 45 ∨ c = 38 ∨ c = 124 ∨ c = 94 := by
      simpa [one1] using hc
    rw [List.singleton_append, tokL_cons]
    rcases hc with rfl | rfl | rfl | rfl | rfl | rfl | rfl | rfl <;> cases rest <;> simp [isDig, isLet, cLONG, cSHORT]
  · have hc : c = 40 ∨ c = 41 ∨ c = 126 ∨ c = 43 ∨ c = 45 ∨ c = 38 ∨ c = 124 ∨ c = 94 := by
      simpa [one1] using hc
    rcases hc with rfl | rfl | rfl | rfl | rfl | rfl | rfl | rfl <;> decide
def gNe (l : List Nat) : Nat → Bool := fun c => !l.contains c
theorem Lx.star : Lx [42] (gNe [42]) [[42]] := by
  refine .tok (fun rest hc => ?_) (by decide)
  rw [List.singleton_append, tokL_cons]
  cases rest with
  | nil => simp [isDig, isLet, cLONG, cSHORT]
  | cons d r =>
    have := hc d rfl
    simp [gNe] at this
    simp [isDig, isLet, cLONG, cSHORT, this]
theorem Lx.lt : Lx [60] (gNe [60, 61]) [[60]] := by
  refine .tok (fun rest hc => ?_) (by decide)
  rw [List.singleton_append, tokL_cons]
  cases rest with
  | nil => simp [isDig, isLet, cLONG, cSHORT]
  | cons d r =>
    have := hc d rfl
    simp [gNe] at this
    simp [isDig, isLet, cLONG, cSHORT, this]
theorem Lx.gt : Lx [62] (gNe [62, 61]) [[62]] := by
  refine .tok (fun rest hc => ?_) (by decide)
  rw [List.singleton_append, tokL_cons]
  cases rest with
  | nil => simp [isDig, isLet, cLONG, cSHORT]
  | cons d r =>
    have := hc d rfl
    simp [gNe] at this
    simp [isDig, isLet, cLONG, cSHORT, this]
theorem Lx.shl : Lx [60, 60] gAny [[60, 60]] := .tok (fun rest _ => by rw [show [60, 60] ++ rest = 60 :: (60 :: rest) from rfl, tokL_cons]; simp [isDig, isLet, cLONG]) (by decide)
theorem Lx.eqs : Lx [61, 61] gAny [[61, 61]] := .tok (fun rest _ => by rw [show [61, 61] ++ rest = 61 :: (61 :: rest) from rfl, tokL_cons]; simp [isDig, isLet, cLONG]) (by decide)
theorem Lx.ge : Lx [62, 61] gAny [[62, 61]] := .tok (fun rest _ => by rw [show [62, 61] ++ rest = 62 :: (61 :: rest) from rfl, tokL_cons]; simp [isDig, isLet, cLONG]) (by decide)
theorem lex_end (p : Nat) : lex [] p = [.fin p] := by
  rw [lex_eq]
  rfl
end Fb
/-! ### trees, their tokens, and how the reader goes over them -/
namespace Fb
open PySem L2 PySem.NumText
inductive Tr
  | num (ds : Chs)
  | nam (s : Chs)
  | ah (s : Chs) (t : Tr)
  | bt (s : Chs) (l r : Tr)
  | par (t : Tr)
def Tr.tk : Tr → List Chs
  | .num ds => [ds]
  | .nam s => [s]
  | .ah s t => s :: t.tk
  | .bt s l r => l.tk ++ s :: r.tk
  | .par t => [40] :: (t.tk ++ [[41]])
def Tr.rpn : Tr → List Ts
  | .num ds => [.num ((digitsVal ds : Nat) : Int) 0]
  | .nam s => [.nam s 0]
  | .ah s t => t.rpn ++ [.ah s 0]
  | .bt s l r => l.rpn ++ (r.rpn ++ [.bt s 0])
  | .par t => t.rpn
def Ts.bare : Ts → Ts
  | .num z _ => .num z 0
  | .nam s _ => .nam s 0
  | .ah s _ => .ah s 0
  | .bt s _ => .bt s 0
def Tr.lo : Tr → Nat
  | .num _ => 9
  | .nam _ => 9
  | .ah _ _ => 7
  | .bt s _ _ => (strg s).getD 0
  | .par _ => 9
def Tr.lob : Tr → Nat
  | .bt s _ _ => (strg s).getD 0
  | _ => 100
def Tr.dep : Tr → Nat
  | .num _ => 0
  | .nam _ => 0
  | .ah _ t => 1 + t.dep
  | .bt _ l r => max l.dep r.dep
  | .par t => 1 + t.dep
def Tr.WF : Tr → Prop
  | .num ds => (∀ c ∈ ds, isDig c = true) ∧ ds ≠ [] ∧ ds.length ≤ 1000
  | .nam s => isNm s = true
  | .ah s t => (s = [45] ∨ s = [43] ∨ s = [126]) ∧ 7 ≤ t.lo ∧ t.WF
  | .bt s l r => (∃ k, strg s = some k ∧ k ≤ 6) ∧ (strg s).getD 0 ≤ l.lo ∧ (strg s).getD 0 < r.lo ∧ l.WF ∧ r.WF
  | .par t => t.WF
def tks (ps : List (Chs × Nat)) : List Tk := ps.map fun x => Tk.tok x.1 x.2
def hdS : List Pd → Nat
  | .op j _ :: _ => j
  | _ => 0
def bsP (bs : List (Nat × Ts)) : List Pd := bs.map fun x => Pd.op x.1 x.2.stp
theorem strg_pos {s : Chs} {k : Nat} (h : strg s = some k) : 1 ≤ k := by
  unfold strg at h
  repeat' split at h
  all_goals first
    | (injection h with h; subst h; decide)
    | cases h
theorem settle_none {k : Nat} : ∀ {P : List Pd}, hdS P < k → settle k P = ([], P)
  | [], _ => rfl
  | .par :: _, _ => rfl
  | .op j s :: P, h => if_neg (show ¬ k ≤ j from Nat.not_le.mpr h)
theorem settle_bs {k : Nat} {P : List Pd} : ∀ {bs : List (Nat × Ts)}, (∀ x ∈ bs, k ≤ x.1) → settle k (bsP bs ++ P) = (bs.map (fun x => x.2.stp) ++ (settle k P).1, (settle k P).2)
  | [], _ => rfl
  | b :: bs, h => by
    show (if k ≤ b.1 then (b.2.stp :: (settle k (bsP bs ++ P)).1, (settle k (bsP bs ++ P)).2) else ([], _)) = _
    rw [if_pos (h b (List.mem_cons_self ..)), settle_bs (fun x hx => h x (List.mem_cons_of_mem _ hx))]
    rfl
theorem opn_bs (P : List Pd) : ∀ bs : List (Nat × Ts), opn (bsP bs ++ P) = opn P
  | [] => rfl
  | b :: bs => by
    show List.countP isPar (Pd.op b.1 b.2.stp :: (bsP bs ++ P)) = _
    rw [List.countP_cons, if_neg (show ¬ (isPar (Pd.op b.1 b.2.stp) = true) from Bool.false_ne_true)]
    exact opn_bs P bs
theorem lvl_par (P : List Pd) : lvl (.par :: P) = lvl P + 1 := by
  unfold lvl
  rw [List.countP_cons]
  rfl
theorem lvl_op7 (s : Stp) (P : List Pd) : lvl (.op 7 s :: P) = lvl P + 1 := by
  unfold lvl
  rw [List.countP_cons]
  rfl
theorem lvl_opk {k : Nat} (s : Stp) (P : List Pd) (h1 : 1 ≤ k) (h6 : k ≤ 6) : lvl (.op k s :: P) = lvl P := by
  unfold lvl
  rw [List.countP_cons, if_neg]
  · rfl
  · show ¬ ((k == 0 || k == 7 || k == 8) = true)
    simp only [Bool.or_eq_true, beq_iff_eq]
    omega
theorem dig_ne {ds : Chs} (h : ∀ c ∈ ds, isDig c = true) (c : Nat) (hc : isDig c = false) : ds ≠ [c] := by
  rintro rfl
  have := h c (List.mem_singleton.mpr rfl)
  rw [hc] at this
  cases this
theorem dig_nm {ds : Chs} (h : ∀ c ∈ ds, isDig c = true) (n : ds ≠ []) : isNm ds = false := by
  cases ds with
  | nil => exact absurd rfl n
  | cons c s =>
    have hd := h c (List.mem_cons_self ..)
    have hl : ¬ isLet c = true := by
      unfold isDig at hd
      unfold isLet
      have := of_decide_eq_true hd
      simp only [decide_eq_true_eq]
      omega
    unfold isNm
    rw [runL_cons, if_neg hl, decide_eq_false (show ¬ 0 = (c :: s).length by rw [List.length_cons]; omega), Bool.and_false]
theorem run_num {sg : Chs → Bool} {ds : Chs} {q : Nat} {ts : List Tk} {S : List Stp} {P : List Pd} (h : (∀ c ∈ ds, isDig c = true) ∧ ds ≠ [] ∧ ds.length ≤ 1000) : runR sg true (.tok ds q :: ts) S P = runR sg false ts (S ++ [(Ts.num ((digitsVal ds : Nat) : Int) q).stp]) P := by
  obtain ⟨h1, h2, h3⟩ := h
  have hn : isNum ds = true := by
    cases ds with
    | nil => exact absurd rfl h2
    | cons c s =>
      rw [isNum_cons, h1 c (List.mem_cons_self ..), decide_eq_true h3]
      rfl
  show (if ds = [40] then _ else if ds = [45] ∨ ds = [43] ∨ ds = [126] then _ else if isNm ds then _ else if isNum ds then _ else _) = _
  rw [if_neg (dig_ne h1 40 (by decide)), if_neg (fun z => z.elim (dig_ne h1 45 (by decide)) fun z => z.elim (dig_ne h1 43 (by decide)) (dig_ne h1 126 (by decide))), if_neg (by rw [dig_nm h1 h2]; decide), if_pos hn]
  rfl
theorem nm_ne {s : Chs} (h : isNm s = true) (c : Chs) (hc : isNm c = false) : s ≠ c := by
  rintro rfl
  rw [hc] at h
  cases h
theorem run_nam {sg : Chs → Bool} {s : Chs} {q : Nat} {ts : List Tk} {S : List Stp} {P : List Pd} (h : isNm s = true) : runR sg true (.tok s q :: ts) S P = runR sg false ts (S ++ [(Ts.nam s q).stp]) P := by
  show (if s = [40] then _ else if s = [45] ∨ s = [43] ∨ s = [126] then _ else if isNm s then _ else _) = _
  rw [if_neg (nm_ne h _ (by decide)), if_neg (fun z => z.elim (nm_ne h _ (by decide)) fun z => z.elim (nm_ne h _ (by decide)) (nm_ne h _ (by decide))), if_pos h]
  rfl
theorem run_par {sg : Chs → Bool} {q : Nat} {ts : List Tk} {S : List Stp} {P : List Pd} (h : lvl P < 20) : runR sg true (.tok [40] q :: ts) S P = runR sg true ts S (.par :: P) := by
  show (if ([40] : Chs) = [40] then (if lvl P = 20 then _ else _) else _) = _
  rw [if_pos rfl, if_neg (Nat.ne_of_lt h)]
theorem run_ah {sg : Chs → Bool} {s : Chs} {q : Nat} {ts : List Tk} {S : List Stp} {P : List Pd} (h : lvl P < 20) (hs : s = [45] ∨ s = [43] ∨ s = [126]) : runR sg true (.tok s q :: ts) S P = runR sg true ts S (.op 7 (Ts.ah s q).stp :: P) := by
  show (if s = [40] then _ else if s = [45] ∨ s = [43] ∨ s = [126] then (if lvl P = 20 then _ else _) else _) = _
  rw [if_neg (by rcases hs with rfl | rfl | rfl <;> decide), if_pos hs, if_neg (Nat.ne_of_lt h)]
  rfl
theorem run_close {sg : Chs → Bool} {q : Nat} {ts : List Tk} {S : List Stp} {P : List Pd} {bs : List (Nat × Ts)} (h : ∀ x ∈ bs, 1 ≤ x.1) : runR sg false (.tok [41] q :: ts) S (bsP bs ++ .par :: P) = runR sg false ts (S ++ bs.map fun x => x.2.stp) P := by
  have ho : 0 < opn (bsP bs ++ .par :: P) := by
    rw [opn_bs]
    show 0 < List.countP isPar (.par :: P)
    rw [List.countP_cons]
    exact Nat.succ_pos _
  show (if ([41] : Chs) = [41] ∧ 0 < opn (bsP bs ++ .par :: P) then _ else _) = _
  rw [if_pos ⟨rfl, ho⟩, settle_bs h]
  show runR sg false ts (S ++ (_ ++ [])) P = _
  rw [List.append_nil]
/-- signs between operands end nothing -/
def SgOk (sg : Chs → Bool) : Prop := ∀ s k, strg s = some k → sg s = false
theorem run_bt {sg : Chs → Bool} {s : Chs} {k q : Nat} {ts : List Tk} {S : List Stp} {P : List Pd} {bs : List (Nat × Ts)} (so : SgOk sg) (hs : strg s = some k) (k6 : k ≤ 6) (hb : ∀ x ∈ bs, k ≤ x.1) (hp : hdS P < k) :
    runR sg false (.tok s q :: ts) S (bsP bs ++ P) = runR sg true ts (S ++ bs.map fun x => x.2.stp) (.op k (Ts.bt s q).stp :: P) := by
  show (if s = [41] ∧ 0 < opn (bsP bs ++ P) then _ else if opn (bsP bs ++ P) = 0 ∧ sg s = true then _ else match strg s with
      | none => _
      | some k => if k = 8 then _ else runR sg true ts (S ++ (settle k (bsP bs ++ P)).1) (.op k ⟨kBETWEEN, .str (txt s), q⟩ :: (settle k (bsP bs ++ P)).2)) = _
  rw [if_neg (fun z => by rw [z.1, show strg [41] = none from by decide] at hs; cases hs), if_neg (fun z => by rw [so s k hs] at z; exact absurd z.2 (by decide)), hs]
  show (if k = 8 then _ else runR sg true ts (S ++ (settle k (bsP bs ++ P)).1) (.op k ⟨kBETWEEN, .str (txt s), q⟩ :: (settle k (bsP bs ++ P)).2)) = _
  rw [if_neg (by omega), settle_bs hb, settle_none hp]
  show runR sg true ts (S ++ (_ ++ [])) _ = _
  rw [List.append_nil]
  rfl
theorem lo_pos : ∀ {t : Tr}, t.WF → 1 ≤ t.lo
  | .num _, _ => by show 1 ≤ 9; decide
  | .nam _, _ => by show 1 ≤ 9; decide
  | .ah _ _, _ => by show 1 ≤ 7; decide
  | .bt s _ _, h => by
    obtain ⟨⟨k, hk, _⟩, _⟩ := h
    show 1 ≤ (strg s).getD 0
    rw [hk]
    exact strg_pos hk
  | .par _, _ => by show 1 ≤ 9; decide
theorem run_tr {sg : Chs → Bool} (so : SgOk sg) : ∀ (t : Tr), t.WF → ∀ (ps : List (Chs × Nat)), ps.map (·.1) = t.tk → ∀ (rest : List Tk) (S : List Stp) (P : List Pd), hdS P < t.lob → lvl P + t.dep ≤ 20 →
    ∃ (st : List Ts) (bs : List (Nat × Ts)), (st ++ bs.map (·.2)).map Ts.bare = t.rpn ∧ (∀ x ∈ bs, t.lo ≤ x.1) ∧ (∀ x ∈ st ++ bs.map (·.2), ∃ y ∈ ps, x.stp.p = y.2) ∧
      runR sg true (tks ps ++ rest) S P = runR sg false rest (S ++ st.map Ts.stp) (bsP bs ++ P)
  | .num ds, wf, ps, e, rest, S, P, _, _ => by
    obtain ⟨⟨a, q⟩, r, rfl, e1, e2⟩ := List.map_eq_cons_iff.mp e
    obtain rfl : r = [] := List.map_eq_nil_iff.mp e2
    obtain rfl : a = ds := e1
    exact ⟨[.num _ q], [], rfl, (fun _ h => absurd h (List.not_mem_nil)), fun x hx => ⟨(a, q), List.mem_singleton.mpr rfl, by rw [List.mem_singleton.mp hx]; rfl⟩, run_num wf⟩
  | .nam s, wf, ps, e, rest, S, P, _, _ => by
    obtain ⟨⟨a, q⟩, r, rfl, e1, e2⟩ := List.map_eq_cons_iff.mp e
    obtain rfl : r = [] := List.map_eq_nil_iff.mp e2
    obtain rfl : a = s := e1
    exact ⟨[.nam a q], [], rfl, (fun _ h => absurd h (List.not_mem_nil)), fun x hx => ⟨(a, q), List.mem_singleton.mpr rfl, by rw [List.mem_singleton.mp hx]; rfl⟩, run_nam wf⟩
  | .ah s t, wf, ps, e, rest, S, P, _, hd => by
    obtain ⟨hs, h7, wt⟩ := wf
    obtain ⟨⟨a, q⟩, r, rfl, e1, e2⟩ := List.map_eq_cons_iff.mp e
    obtain rfl : a = s := e1
    have hd : lvl P + (1 + t.dep) ≤ 20 := hd
    have hl : 7 < t.lob := by
      cases t with
      | bt s2 l2 r2 =>
        obtain ⟨⟨k, hk, k6⟩, _⟩ := wt
        have h7 : 7 ≤ (strg s2).getD 0 := h7
        rw [hk] at h7
        have h7 : 7 ≤ k := h7
        omega
      | _ => show 7 < 100; decide
    obtain ⟨st, bs, x1, x2, x3, x4⟩ := run_tr so t wt r e2 rest S (.op 7 (Ts.ah a q).stp :: P) hl (by rw [lvl_op7]; omega)
    have ee : st ++ (bs ++ [(7, Ts.ah a q)]).map (fun x : Nat × Ts => x.2) = (st ++ bs.map (fun x : Nat × Ts => x.2)) ++ [Ts.ah a q] := by
      rw [List.map_append, List.append_assoc]
      rfl
    refine ⟨st, bs ++ [(7, .ah a q)], ?_, fun x hx => ?_, fun x hx => ?_, ?_⟩
    · rw [ee, List.map_append, x1]
      rfl
    · rcases List.mem_append.mp hx with hx | hx
      · exact Nat.le_trans h7 (x2 x hx)
      · rw [List.mem_singleton.mp hx]
        exact Nat.le_refl 7
    · rw [ee] at hx
      rcases List.mem_append.mp hx with hx | hx
      · obtain ⟨y, hy, e⟩ := x3 x hx
        exact ⟨y, List.mem_cons_of_mem _ hy, e⟩
      · exact ⟨(a, q), List.mem_cons_self .., by rw [List.mem_singleton.mp hx]; rfl⟩
    · show runR sg true (.tok a q :: (tks r ++ rest)) S P = _
      rw [run_ah (by omega) hs, x4]
      unfold bsP
      rw [List.map_append, List.append_assoc]
      rfl
  | .bt s l r, wf, ps, e, rest, S, P, hh0, hd0 => by
    obtain ⟨⟨k, hk, k6⟩, hlo0, hro0, wl, wr⟩ := wf
    have hh1 : hdS P < (strg s).getD 0 := hh0
    rw [hk] at hlo0 hro0 hh1
    have hlo : k ≤ l.lo := hlo0
    have hro : k < r.lo := hro0
    have hh : hdS P < k := hh1
    have hd : lvl P + max l.dep r.dep ≤ 20 := hd0
    obtain ⟨pl, pr, rfl, e1, e2⟩ := List.map_eq_append_iff.mp e
    obtain ⟨⟨a, q⟩, pr, rfl, e3, e4⟩ := List.map_eq_cons_iff.mp e2
    obtain rfl : a = s := e3
    have hl : hdS P < l.lob := by
      cases l with
      | bt s2 l2 r2 => exact (show hdS P < (strg s2).getD 0 from Nat.lt_of_lt_of_le hh (show k ≤ (strg s2).getD 0 from hlo))
      | _ => show hdS P < 100; omega
    have hr : k < r.lob := by
      cases r with
      | bt s2 l2 r2 => exact (show k < (strg s2).getD 0 from hro)
      | _ => show k < 100; omega
    obtain ⟨st, bs, x1, x2, x3, x4⟩ := run_tr so l wl pl e1 (.tok a q :: (tks pr ++ rest)) S P hl (by omega)
    obtain ⟨st2, bs2, y1, y2, y3, y4⟩ := run_tr so r wr pr e4 rest (S ++ st.map Ts.stp ++ bs.map fun x => x.2.stp) (.op k (Ts.bt a q).stp :: P) hr (by rw [lvl_opk _ _ (strg_pos hk) k6]; omega)
    have ee : st ++ bs.map (fun x : Nat × Ts => x.2) ++ st2 ++ (bs2 ++ [(k, Ts.bt a q)]).map (fun x : Nat × Ts => x.2) = (st ++ bs.map (fun x : Nat × Ts => x.2)) ++ ((st2 ++ bs2.map (fun x : Nat × Ts => x.2)) ++ [Ts.bt a q]) := by
      rw [List.map_append, List.append_assoc (st ++ bs.map (fun x : Nat × Ts => x.2)), ← List.append_assoc st2]
      rfl
    refine ⟨st ++ bs.map (·.2) ++ st2, bs2 ++ [(k, .bt a q)], ?_, fun x hx => ?_, fun x hx => ?_, ?_⟩
    · rw [ee, List.map_append, List.map_append (l₁ := st2 ++ bs2.map (fun x : Nat × Ts => x.2)), x1, y1]
      rfl
    · show (strg a).getD 0 ≤ x.1
      rw [hk]
      show k ≤ x.1
      rcases List.mem_append.mp hx with hx | hx
      · exact Nat.le_of_lt (Nat.lt_of_lt_of_le hro (y2 x hx))
      · rw [List.mem_singleton.mp hx]
        exact Nat.le_refl k
    · rw [ee] at hx
      rcases List.mem_append.mp hx with hx | hx
      · obtain ⟨y, hy, e⟩ := x3 x hx
        exact ⟨y, List.mem_append_left _ hy, e⟩
      rcases List.mem_append.mp hx with hx | hx
      · obtain ⟨y, hy, e⟩ := y3 x hx
        exact ⟨y, List.mem_append_right _ (List.mem_cons_of_mem _ hy), e⟩
      · exact ⟨(a, q), List.mem_append_right _ (List.mem_cons_self ..), by rw [List.mem_singleton.mp hx]; rfl⟩
    · unfold tks
      rw [List.map_append, List.append_assoc]
      show runR sg true (tks pl ++ (.tok a q :: (tks pr ++ rest))) S P = _
      rw [x4, run_bt so hk k6 (fun x hx => Nat.le_trans hlo (x2 x hx)) hh, y4]
      have g1 : S ++ (st ++ bs.map (fun x : Nat × Ts => x.2) ++ st2).map Ts.stp = S ++ st.map Ts.stp ++ (bs.map fun x => x.2.stp) ++ st2.map Ts.stp := by
        rw [List.map_append, List.map_append, List.map_map, ← List.append_assoc, ← List.append_assoc]
        rfl
      have g2 : bsP (bs2 ++ [(k, Ts.bt a q)]) ++ P = bsP bs2 ++ Pd.op k (Ts.bt a q).stp :: P := by
        unfold bsP
        rw [List.map_append, List.append_assoc]
        rfl
      rw [g1, g2]
  | .par t, wf, ps, e, rest, S, P, _, hd => by
    have hd : lvl P + (1 + t.dep) ≤ 20 := hd
    have wt : t.WF := wf
    obtain ⟨⟨a, q⟩, r, rfl, e1, e2⟩ := List.map_eq_cons_iff.mp e
    obtain rfl : a = [40] := e1
    obtain ⟨r, rr, rfl, e3, e4⟩ := List.map_eq_append_iff.mp e2
    obtain ⟨⟨b, q2⟩, rr, rfl, e5, e6⟩ := List.map_eq_cons_iff.mp e4
    obtain rfl : rr = [] := List.map_eq_nil_iff.mp e6
    obtain rfl : b = [41] := e5
    have hl : hdS (.par :: P) < t.lob := by
      cases t with
      | bt s2 l2 r2 =>
        obtain ⟨⟨k, hk, _⟩, _⟩ := wt
        show 0 < (strg s2).getD 0
        rw [hk]
        exact strg_pos hk
      | _ => show 0 < 100; decide
    obtain ⟨st, bs, x1, x2, x3, x4⟩ := run_tr so t wt r e3 (.tok [41] q2 :: rest) S (.par :: P) hl (by rw [lvl_par]; omega)
    refine ⟨st ++ bs.map (·.2), [], by rw [List.map_nil, List.append_nil]; exact x1, (fun _ h => absurd h (List.not_mem_nil)), fun x hx => ?_, ?_⟩
    · rw [List.map_nil, List.append_nil] at hx
      obtain ⟨y, hy, e⟩ := x3 x hx
      exact ⟨y, List.mem_cons_of_mem _ (List.mem_append_left _ hy), e⟩
    · unfold tks
      rw [List.map_cons, List.map_append, List.cons_append, List.append_assoc]
      show runR sg true (.tok [40] q :: (tks r ++ (.tok [41] q2 :: rest))) S P = _
      rw [run_par (by omega), x4, run_close (fun x hx => Nat.le_trans (lo_pos wt) (x2 x hx)), List.map_append, List.map_map, ← List.append_assoc]
      rfl
end Fb
/-! ### integer parts: their values; steps without their places -/
namespace Fb
open PySem L2 PySem.NumText PyProof.Rows
theorem bare_bare (t : Ts) : t.bare.bare = t.bare := by cases t <;> rfl
theorem stepW_bare {m : Nat} {tm : Chs → Option Int} {t : Ts} {ps qs : List Pt} (h : stepW m tm t.bare ps = .ok qs) : stepW m tm t ps = .ok qs := by
  cases t with
  | num z p => exact h
  | nam s p => exact h
  | ah s p =>
    cases ps with
    | nil => exact h
    | cons a r => exact h
  | bt s p =>
    match ps, h with
    | [], h => exact h
    | [_], h => exact h
    | r :: l :: ps, h =>
      have h : (match pBetw s l r m with
        | some p => Wr.ok (p :: ps)
        | none => .err 0) = .ok qs := h
      show (match pBetw s l r m with
        | some p => Wr.ok (p :: ps)
        | none => .err p) = .ok qs
      cases e : pBetw s l r m with
      | none => rw [e] at h; cases h
      | some p => rw [e] at h; exact h
theorem runW_bare {m : Nat} {tm : Chs → Option Int} : ∀ {ts : List Ts} {ps qs : List Pt}, runW m tm (ts.map Ts.bare) ps = .ok qs → okW m tm (ts.map Ts.bare) ps → runW m tm ts ps = .ok qs ∧ okW m tm ts ps
  | [], ps, qs, h, _ => ⟨h, trivial⟩
  | t :: ts, ps, qs, h, g => by
    rw [List.map_cons] at h g
    rw [runW_cons] at h ⊢
    rw [okW_cons] at g ⊢
    cases e : stepW m tm t.bare ps with
    | err p => rw [e] at h; cases h
    | bad => rw [e] at h; cases h
    | ok ps' =>
      rw [e] at h g
      rw [stepW_bare e]
      obtain ⟨x, y⟩ := runW_bare h g.2
      exact ⟨x, g.1, y⟩
def nmsOf' (ts : List Ts) : List Chs := ts.filterMap fun t => match t with
  | .nam s _ => some s
  | _ => none
theorem nms_bare (ts : List Ts) : nmsOf' (ts.map Ts.bare) = nmsOf' ts := by
  unfold nmsOf'
  rw [List.filterMap_map]
  congr 1
  funext t
  cases t <;> rfl
theorem and_bd {n : Nat} {x y : Int} (hx : x.natAbs < 2 ^ n) (hy : y.natAbs < 2 ^ n) : (Builtin.bitAnd x y).natAbs ≤ 2 ^ n := by
  by_cases h2 : 0 ≤ y
  · have := bitAnd_range x h2
    omega
  by_cases h1 : 0 ≤ x
  · have := bitAnd_range y h1
    rw [bitAnd_comm] at this
    omega
  rw [bitAnd_nn h1 h2]
  have a : (Builtin.bitNot x).toNat < 2 ^ n := by unfold Builtin.bitNot; omega
  have b : (Builtin.bitNot y).toNat < 2 ^ n := by unfold Builtin.bitNot; omega
  have c := Nat.or_lt_two_pow a b
  generalize ((Builtin.bitNot x).toNat ||| (Builtin.bitNot y).toNat) = z at c
  unfold Builtin.bitNot
  omega
theorem pow_up {a b : Nat} (h : a ≤ b) : (2 : Nat) ^ a ≤ 2 ^ b := Nat.pow_le_pow_right (by decide) h
inductive Pa
  | num (ds : Chs)
  | til (t : Pa)
  | neg (t : Pa)
  | shl (t : Pa) (ds : Chs)
  | bin (c : Nat) (l r : Pa)
def Pa.tx : Pa → Chs
  | .num ds => ds
  | .til t => [40, 126] ++ t.tx ++ [41]
  | .neg t => [40, 32, 45] ++ t.tx ++ [32, 41]
  | .shl t ds => [40] ++ t.tx ++ [60, 60] ++ ds ++ [41]
  | .bin c l r => [40] ++ l.tx ++ [c] ++ r.tx ++ [41]
def Pa.tr : Pa → Tr
  | .num ds => .num ds
  | .til t => .par (.ah [126] t.tr)
  | .neg t => .par (.ah [45] t.tr)
  | .shl t ds => .par (.bt [60, 60] t.tr (.num ds))
  | .bin c l r => .par (.bt [c] l.tr r.tr)
def binV (c : Nat) (x y : Int) : Int := if c = 43 then x + y else if c = 45 then x - y else if c = 42 then x * y else if c = 38 then Builtin.bitAnd x y else if c = 124 then Builtin.bitOr x y else Builtin.bitXor x y
def Pa.val : Pa → Int
  | .num ds => (digitsVal ds : Nat)
  | .til t => -t.val - 1
  | .neg t => -t.val
  | .shl t ds => t.val * 2 ^ (digitsVal ds)
  | .bin c l r => binV c l.val r.val
def Dg (ds : Chs) : Prop := (∀ c ∈ ds, isDig c = true) ∧ ds ≠ [] ∧ ds.length ≤ 600 ∧ digitsVal ds < 2 ^ 70
def bins : List Nat := [43, 45, 42, 38, 124, 94]
def Pa.ok : Pa → Prop
  | .num ds => Dg ds
  | .til t => t.ok
  | .neg t => t.ok
  | .shl t ds => t.ok ∧ Dg ds ∧ digitsVal ds ≤ 64
  | .bin c l r => c ∈ bins ∧ l.ok ∧ r.ok
def Pa.bnd : Pa → Nat
  | .num _ => 70
  | .til t => t.bnd + 1
  | .neg t => t.bnd + 1
  | .shl t _ => t.bnd + 64
  | .bin _ l r => l.bnd + r.bnd + 3
def Pa.dp : Pa → Nat
  | .num _ => 0
  | .til t => t.dp + 1
  | .neg t => t.dp + 1
  | .shl t _ => t.dp + 1
  | .bin _ l r => max l.dp r.dp + 1
theorem bin_bd {c : Nat} {x y : Int} {a b : Nat} (hx : x.natAbs < 2 ^ a) (hy : y.natAbs < 2 ^ b) : (binV c x y).natAbs < 2 ^ (a + b + 3) := by
  have hx2 : x.natAbs < 2 ^ (a + b) := Nat.lt_of_lt_of_le hx (pow_up (by omega))
  have hy2 : y.natAbs < 2 ^ (a + b) := Nat.lt_of_lt_of_le hy (pow_up (by omega))
  have e3 : (2 : Nat) ^ (a + b + 3) = 2 ^ (a + b) * 8 := Nat.pow_add 2 (a + b) 3
  have an := and_bd hx2 hy2
  have hm : (x * y).natAbs < 2 ^ (a + b) := by
    rw [Int.natAbs_mul, Nat.pow_add]
    exact Nat.mul_lt_mul'' hx hy
  rw [e3]
  generalize (2 : Nat) ^ (a + b) = M at *
  unfold binV
  split
  · omega
  split
  · omega
  split
  · omega
  split
  · omega
  split
  · rw [bitOr_and]; omega
  · rw [bitXor_and]; omega
theorem pBetw_bin {c : Nat} (hc : c ∈ bins) (x y : Int) (m : Nat) : pBetw [c] (.whole x) (.whole y) m = some (.whole (binV c x y)) := by
  have hc : c = 43 ∨ c = 45 ∨ c = 42 ∨ c = 38 ∨ c = 124 ∨ c = 94 := by simpa [bins] using hc
  rcases hc with rfl | rfl | rfl | rfl | rfl | rfl
  · show some (Pt.whole (x + 1 * y)) = some (.whole (x + y))
    rw [Int.one_mul]
  · show some (Pt.whole (x + -1 * y)) = some (.whole (x - y))
    congr 2
    omega
  · rfl
  · rfl
  · rfl
  · rfl
theorem pb_whole {m : Nat} {z : Int} (h : z.natAbs < 2 ^ 200000) : PB m (.whole z) := by
  refine ⟨fun w hw => ?_, List.length_replicate .., h⟩
  have : w = -z := (List.mem_replicate.mp hw).2
  rw [this, Int.natAbs_neg]
  exact h
theorem run_pa : ∀ (P : Pa), P.ok → P.bnd ≤ 190000 → ∀ (m : Nat) (tm : Chs → Option Int) (ps : List Pt), (∀ p ∈ ps, PB m p) → runW m tm P.tr.rpn ps = .ok (.whole P.val :: ps) ∧ okW m tm P.tr.rpn ps ∧ P.val.natAbs < 2 ^ P.bnd := by
  have pb : ∀ {m : Nat} {z : Int} {b : Nat} {ps : List Pt}, z.natAbs < 2 ^ b → b ≤ 190000 → (∀ p ∈ ps, PB m p) → ∀ p ∈ Pt.whole z :: ps, PB m p := fun h hb hp p hm => by
    rcases List.mem_cons.mp hm with rfl | hm
    · exact pb_whole (Nat.lt_of_lt_of_le h (pow_up (by omega)))
    · exact hp p hm
  intro P
  induction P with
  | num ds =>
    intro ok hb m tm ps hp
    have hv : ((digitsVal ds : Nat) : Int).natAbs < 2 ^ 70 := by rw [Int.natAbs_natCast]; exact ok.2.2.2
    exact ⟨rfl, ⟨pb (b := 70) hv (by decide) hp, trivial⟩, hv⟩
  | til t ih =>
    intro ok hb m tm ps hp
    have hb : t.bnd + 1 ≤ 190000 := hb
    obtain ⟨h1, h2, h3⟩ := ih ok (by omega) m tm ps hp
    have hv : (-t.val - 1).natAbs < 2 ^ (t.bnd + 1) := by rw [Nat.pow_succ]; omega
    have st : stepW m tm (.ah [126] 0) (.whole t.val :: ps) = .ok (.whole (-t.val - 1) :: ps) := rfl
    refine ⟨?_, okW_app m tm t.tr.rpn _ ps _ h1 h2 ⟨pb hv hb hp, trivial⟩, hv⟩
    show runW m tm (t.tr.rpn ++ [.ah [126] 0]) ps = _
    rw [runW_app m tm _ _ _ _ h1, runW_cons, st]
    rfl
  | neg t ih =>
    intro ok hb m tm ps hp
    have hb : t.bnd + 1 ≤ 190000 := hb
    obtain ⟨h1, h2, h3⟩ := ih ok (by omega) m tm ps hp
    have hv : (-t.val).natAbs < 2 ^ (t.bnd + 1) := by rw [Nat.pow_succ]; omega
    have st : stepW m tm (.ah [45] 0) (.whole t.val :: ps) = .ok (.whole (-t.val) :: ps) := rfl
    refine ⟨?_, okW_app m tm t.tr.rpn _ ps _ h1 h2 ⟨pb hv hb hp, trivial⟩, hv⟩
    show runW m tm (t.tr.rpn ++ [.ah [45] 0]) ps = _
    rw [runW_app m tm _ _ _ _ h1, runW_cons, st]
    rfl
  | shl t ds ih =>
    intro ok hb m tm ps hp
    obtain ⟨ok, od, d64⟩ := ok
    have hb : t.bnd + 64 ≤ 190000 := hb
    obtain ⟨h1, h2, h3⟩ := ih ok (by omega) m tm ps hp
    have hv : (t.val * 2 ^ (digitsVal ds)).natAbs < 2 ^ (t.bnd + 64) := by
      rw [Int.natAbs_mul, Int.natAbs_pow, Nat.pow_add]
      exact Nat.lt_of_lt_of_le (Nat.mul_lt_mul_of_pos_right h3 (Nat.two_pow_pos _)) (Nat.mul_le_mul_left _ (pow_up d64))
    have hn : ((digitsVal ds : Nat) : Int).natAbs < 2 ^ 70 := by rw [Int.natAbs_natCast]; exact od.2.2.2
    have p1 := pb (b := 70) hn (by decide) (pb h3 (by omega) hp)
    have st : stepW m tm (.bt [60, 60] 0) (.whole ((digitsVal ds : Nat) : Int) :: .whole t.val :: ps) = .ok (.whole (t.val * 2 ^ (digitsVal ds)) :: ps) := by
      show (match (if 0 ≤ ((digitsVal ds : Nat) : Int) ∧ ((digitsVal ds : Nat) : Int) ≤ 64 then some (pScale (.whole t.val) (2 ^ (((digitsVal ds : Nat) : Int)).toNat) m) else none) with
        | some p => Wr.ok (p :: ps)
        | none => .err 0) = _
      rw [if_pos ⟨by omega, by omega⟩, Int.toNat_natCast]
      rfl
    refine ⟨?_, okW_app m tm t.tr.rpn _ ps _ h1 h2 ⟨p1, ?_⟩, hv⟩
    · show runW m tm (t.tr.rpn ++ [.num ((digitsVal ds : Nat) : Int) 0, .bt [60, 60] 0]) ps = _
      rw [runW_app m tm _ _ _ _ h1, runW_cons]
      show runW m tm [.bt [60, 60] 0] (.whole ((digitsVal ds : Nat) : Int) :: .whole t.val :: ps) = _
      rw [runW_cons, st]
      rfl
    · show okW m tm [.bt [60, 60] 0] (.whole ((digitsVal ds : Nat) : Int) :: .whole t.val :: ps)
      rw [okW_cons, st]
      exact ⟨pb hv hb hp, trivial⟩
  | bin c l r il ir =>
    intro ok hb m tm ps hp
    obtain ⟨oc, ol, or_⟩ := ok
    have hb : l.bnd + r.bnd + 3 ≤ 190000 := hb
    obtain ⟨h1, h2, h3⟩ := il ol (by omega) m tm ps hp
    obtain ⟨g1, g2, g3⟩ := ir or_ (by omega) m tm (.whole l.val :: ps) (pb h3 (by omega) hp)
    have hv := bin_bd (c := c) h3 g3
    have st : stepW m tm (.bt [c] 0) (.whole r.val :: .whole l.val :: ps) = .ok (.whole (binV c l.val r.val) :: ps) := by
      show (match pBetw [c] (.whole l.val) (.whole r.val) m with
        | some p => Wr.ok (p :: ps)
        | none => .err 0) = _
      rw [pBetw_bin oc]
    refine ⟨?_, okW_app m tm l.tr.rpn _ ps _ h1 h2 (okW_app m tm r.tr.rpn _ _ _ g1 g2 ?_), hv⟩
    · show runW m tm (l.tr.rpn ++ (r.tr.rpn ++ [.bt [c] 0])) ps = _
      rw [runW_app m tm _ _ _ _ h1, runW_app m tm _ _ _ _ g1, runW_cons, st]
      rfl
    · rw [okW_cons, st]
      exact ⟨pb hv hb hp, trivial⟩
end Fb
/-! ### the texts of parts are read as their trees -/
namespace Fb
open PySem L2 PySem.NumText PyProof.Rows
def NumB' (l : Chs) : Prop := ∀ q, runL isDig (l.drop q) ≤ 640
def Nb (u : Chs) (g : Nat → Bool) : Prop := ∀ rest : Chs, (∀ c, rest.head? = some c → g c = true) → NumB' rest → NumB' (u ++ rest)
structure Pc (u : Chs) (g : Nat → Bool) (ts : List Chs) : Prop where
  lx : Lx u g ts
  nb : Nb u g
theorem nb_cons {c : Nat} {rest : Chs} (h : isDig c = false) (n : NumB' rest) : NumB' (c :: rest) := fun q => by
  cases q with
  | zero =>
    rw [List.drop_zero, runL_cons, if_neg (by rw [h]; decide)]
    exact Nat.zero_le _
  | succ q =>
    rw [List.drop_succ_cons]
    exact n q
theorem Nb.plain : ∀ {u : Chs} {g : Nat → Bool}, (∀ c ∈ u, isDig c = false) → Nb u g
  | [], _, _ => fun rest _ n => n
  | c :: u, g, h => fun rest hc n => nb_cons (h c (List.mem_cons_self ..)) (Nb.plain (g := g) (fun d hd => h d (List.mem_cons_of_mem _ hd)) rest hc n)
theorem Nb.num {s : Chs} (h : ∀ c ∈ s, isDig c = true) (l : s.length ≤ 640) : Nb s gNd := fun rest hc n q => by
  by_cases hq : q ≤ s.length
  · rw [List.drop_append_of_le_length hq]
    rw [runL_app (fun c hcc => h c (List.mem_of_mem_drop hcc)) (fun c hcc => by have := hc c hcc; unfold gNd at this; cases e : isDig c <;> simp_all)]
    rw [List.length_drop]
    omega
  · rw [show q = s.length + (q - s.length) by omega, List.drop_append]
    rw [List.drop_of_length_le (by omega), List.nil_append]
    have := n (q - s.length)
    rw [show s.length + (q - s.length) - s.length = q - s.length by omega]
    exact this
theorem Pc.app {u u' : Chs} {g g' : Nat → Bool} {ts ts' : List Chs} (h : Pc u g ts) (h' : Pc u' g' ts') (n : ∀ c, u'.head? = some c → g c = true) (ne : u' ≠ []) : Pc (u ++ u') g' (ts ++ ts') :=
  ⟨h.lx.app h'.lx n ne, fun rest hc nr => by
    rw [List.append_assoc]
    exact h.nb (u' ++ rest) (fun c hh => n c (by cases u' with | nil => exact absurd rfl ne | cons d r => exact hh)) (h'.nb rest hc nr)⟩
theorem Pc.weak {u : Chs} {g g' : Nat → Bool} {ts : List Chs} (h : Pc u g ts) (n : ∀ c, g' c = true → g c = true) : Pc u g' ts :=
  ⟨fun rest p hc => h.lx rest p fun c hh => n c (hc c hh), fun rest hc nr => h.nb rest (fun c hh => n c (hc c hh)) nr⟩
theorem Pc.blank : Pc [32] gAny [] := ⟨Lx.blank, .plain fun c hc => by rw [List.mem_singleton.mp hc]; decide⟩
theorem Pc.num {s : Chs} (h : Dg s) : Pc s gNd [s] := ⟨Lx.num h.1 h.2.1, .num h.1 (by have := h.2.2.1; omega)⟩
theorem Pc.one {c : Nat} (h : c ∈ one1) : Pc [c] gAny [[c]] := ⟨Lx.one h, .plain fun d hd => by
  rw [List.mem_singleton.mp hd]
  have hc : c = 40 ∨ c = 41 ∨ c = 126 ∨ c = 43 ∨ c = 45 ∨ c = 38 ∨ c = 124 ∨ c = 94 := by simpa [one1] using h
  rcases hc with rfl | rfl | rfl | rfl | rfl | rfl | rfl | rfl <;> decide⟩
theorem Pc.star : Pc [42] (gNe [42]) [[42]] := ⟨Lx.star, .plain fun d hd => by rw [List.mem_singleton.mp hd]; decide⟩
theorem Pc.shl : Pc [60, 60] gAny [[60, 60]] := ⟨Lx.shl, .plain fun d hd => by
  have : d = 60 := by simpa using hd
  rw [this]; decide⟩
theorem Pc.let1 {c : Nat} (h : isLet c = true) : Pc [c] gNl [[c]] := ⟨Lx.nam (fun d hd => by rw [List.mem_singleton.mp hd]; exact h) (List.cons_ne_nil _ _), .plain fun d hd => by
  rw [List.mem_singleton.mp hd]
  unfold isLet at h
  unfold isDig
  have := of_decide_eq_true h
  refine decide_eq_false ?_
  omega⟩
/-- a text begins with a digit or a parenthesis -/
def Hd (u : Chs) : Prop := ∃ c r, u = c :: r ∧ (isDig c = true ∨ c = 40)
theorem Hd.any {u : Chs} (_ : Hd u) : ∀ c, u.head? = some c → gAny c = true := fun _ _ => rfl
theorem Hd.ne {u : Chs} (h : Hd u) : u ≠ [] := by
  obtain ⟨c, r, rfl, _⟩ := h
  exact List.cons_ne_nil _ _
theorem Hd.gne {u : Chs} (h : Hd u) (l : List Nat) (hl : ∀ c ∈ l, isDig c = false ∧ c ≠ 40) : ∀ c, u.head? = some c → gNe l c = true := by
  obtain ⟨c, r, rfl, h⟩ := h
  intro d hd
  have : c = d := by injection hd
  subst this
  unfold gNe
  rw [Bool.not_eq_true', ← Bool.not_eq_true, List.contains_iff_mem]
  intro hm
  rcases h with h | h
  · rw [(hl c hm).1] at h; cases h
  · exact (hl c hm).2 h
theorem hd_num {s : Chs} (h : Dg s) : Hd s := by
  obtain ⟨h1, h2, _⟩ := h
  cases s with
  | nil => exact absurd rfl h2
  | cons c r => exact ⟨c, r, rfl, .inl (h1 c (List.mem_cons_self ..))⟩
theorem any_nd : ∀ c, gNd c = true → gAny c = true := fun _ _ => rfl
theorem Pc.bin {c : Nat} (h : c ∈ bins) : ∃ g, Pc [c] g [[c]] ∧ ∀ u, Hd u → ∀ d, u.head? = some d → g d = true := by
  have hc : c = 42 ∨ c ∈ one1 := by
    have hc : c = 43 ∨ c = 45 ∨ c = 42 ∨ c = 38 ∨ c = 124 ∨ c = 94 := by simpa [bins] using h
    rcases hc with rfl | rfl | rfl | rfl | rfl | rfl
    · exact .inr (by decide)
    · exact .inr (by decide)
    · exact .inl rfl
    · exact .inr (by decide)
    · exact .inr (by decide)
    · exact .inr (by decide)
  rcases hc with rfl | hc
  · exact ⟨_, Pc.star, fun u hu => hu.gne _ fun d hd => by rw [List.mem_singleton.mp hd]; decide⟩
  · exact ⟨_, Pc.one hc, fun u hu => hu.any⟩
theorem bin_nd {c : Nat} (h : c ∈ bins) : gNd c = true := by
  have hc : c = 43 ∨ c = 45 ∨ c = 42 ∨ c = 38 ∨ c = 124 ∨ c = 94 := by simpa [bins] using h
  rcases hc with rfl | rfl | rfl | rfl | rfl | rfl <;> decide
theorem nd_of {c : Nat} {r : Chs} (h : gNd c = true) : ∀ d, (c :: r).head? = some d → gNd d = true := fun d hd => by
  have : c = d := by injection hd
  exact this ▸ h
theorem hd_pa : ∀ (P : Pa), P.ok → Hd P.tx
  | .num _, h => hd_num h
  | .til t, _ => ⟨40, _, rfl, .inr rfl⟩
  | .neg t, _ => ⟨40, _, rfl, .inr rfl⟩
  | .shl t _, _ => ⟨40, [] ++ t.tx ++ [60, 60] ++ _ ++ [41], rfl, .inr rfl⟩
  | .bin c l r, _ => ⟨40, [] ++ l.tx ++ [c] ++ r.tx ++ [41], rfl, .inr rfl⟩
theorem pc_pa : ∀ (P : Pa), P.ok → Pc P.tx gNd P.tr.tk
  | .num _, h => .num h
  | .til t, h => by
    have ht := pc_pa t h
    have hh := hd_pa t h
    have a := ((Pc.one (c := 40) (by decide)).app (Pc.one (c := 126) (by decide)) (fun _ _ => rfl) (by decide)).app ht hh.any hh.ne
    exact (a.app (Pc.one (c := 41) (by decide)) (nd_of (by decide)) (by decide)).weak any_nd
  | .neg t, h => by
    have ht := pc_pa t h
    have hh := hd_pa t h
    have a := (((Pc.one (c := 40) (by decide)).app Pc.blank (fun _ _ => rfl) (by decide)).app (Pc.one (c := 45) (by decide)) (fun _ _ => rfl) (by decide)).app ht hh.any hh.ne
    have b := (a.app Pc.blank (nd_of (by decide)) (by decide)).app (Pc.one (c := 41) (by decide)) (fun _ _ => rfl) (by decide)
    have e1 : Pa.tx (.neg t) = [40] ++ [32] ++ [45] ++ t.tx ++ [32] ++ [41] := by
      show [40, 32, 45] ++ t.tx ++ [32, 41] = _
      simp
    have e2 : (Pa.tr (.neg t)).tk = [[40]] ++ [] ++ [[45]] ++ t.tr.tk ++ [] ++ [[41]] := by
      show [40] :: (([45] :: t.tr.tk) ++ [[41]]) = _
      simp
    rw [e1, e2]
    exact b.weak any_nd
  | .shl t ds, h => by
    have ht := pc_pa t h.1
    have hh := hd_pa t h.1
    have hd := hd_num h.2.1
    have a := (((Pc.one (c := 40) (by decide)).app ht hh.any hh.ne).app Pc.shl (nd_of (by decide)) (by decide)).app (Pc.num h.2.1) hd.any hd.ne
    have b := a.app (Pc.one (c := 41) (by decide)) (nd_of (by decide)) (by decide)
    have e2 : (Pa.tr (.shl t ds)).tk = [[40]] ++ t.tr.tk ++ [[60, 60]] ++ [ds] ++ [[41]] := by
      show [40] :: ((t.tr.tk ++ [60, 60] :: [ds]) ++ [[41]]) = _
      simp
    rw [e2]
    exact b.weak any_nd
  | .bin c l r, h => by
    obtain ⟨hc, hl, hr⟩ := h
    have tl := pc_pa l hl
    have tr := pc_pa r hr
    have h1 := hd_pa l hl
    have h2 := hd_pa r hr
    obtain ⟨g, pc, gg⟩ := Pc.bin hc
    have a := (((Pc.one (c := 40) (by decide)).app tl h1.any h1.ne).app pc (nd_of (bin_nd hc)) (List.cons_ne_nil _ _)).app tr (gg _ h2) h2.ne
    have b := a.app (Pc.one (c := 41) (by decide)) (nd_of (by decide)) (by decide)
    have e2 : (Pa.tr (.bin c l r)).tk = [[40]] ++ l.tr.tk ++ [[c]] ++ r.tr.tk ++ [[41]] := by
      show [40] :: ((l.tr.tk ++ [c] :: r.tr.tk) ++ [[41]]) = _
      simp
    rw [e2]
    exact b.weak any_nd
theorem lo_pa : ∀ P : Pa, P.tr.lo = 9 ∧ P.tr.lob = 100
  | .num _ => ⟨rfl, rfl⟩
  | .til _ => ⟨rfl, rfl⟩
  | .neg _ => ⟨rfl, rfl⟩
  | .shl _ _ => ⟨rfl, rfl⟩
  | .bin _ _ _ => ⟨rfl, rfl⟩
theorem strg_bin {c : Nat} (h : c ∈ bins) : ∃ k, strg [c] = some k ∧ k ≤ 6 := by
  have hc : c = 43 ∨ c = 45 ∨ c = 42 ∨ c = 38 ∨ c = 124 ∨ c = 94 := by simpa [bins] using h
  rcases hc with rfl | rfl | rfl | rfl | rfl | rfl
  · exact ⟨5, by decide, by decide⟩
  · exact ⟨5, by decide, by decide⟩
  · exact ⟨6, by decide, by decide⟩
  · exact ⟨3, by decide, by decide⟩
  · exact ⟨1, by decide, by decide⟩
  · exact ⟨2, by decide, by decide⟩
theorem dg_wf {ds : Chs} (h : Dg ds) : (Tr.num ds).WF := ⟨h.1, h.2.1, by have := h.2.2.1; omega⟩
theorem wf_pa : ∀ P : Pa, P.ok → P.tr.WF
  | .num _, h => dg_wf h
  | .til t, h => ⟨.inr (.inr rfl), by rw [(lo_pa t).1]; decide, wf_pa t h⟩
  | .neg t, h => ⟨.inl rfl, by rw [(lo_pa t).1]; decide, wf_pa t h⟩
  | .shl t ds, h => ⟨⟨4, by decide, by decide⟩, by rw [(lo_pa t).1]; decide, by show 4 < 9; decide, wf_pa t h.1, dg_wf h.2.1⟩
  | .bin c l r, h => by
    obtain ⟨k, hk, k6⟩ := strg_bin h.1
    refine ⟨⟨k, hk, k6⟩, ?_, ?_, wf_pa l h.2.1, wf_pa r h.2.2⟩
    · rw [hk, (lo_pa l).1]; show k ≤ 9; omega
    · rw [hk, (lo_pa r).1]; show k < 9; omega
theorem dep_pa : ∀ P : Pa, P.tr.dep ≤ 2 * P.dp
  | .num _ => Nat.le_refl _
  | .til t => by have := dep_pa t; show 1 + (1 + t.tr.dep) ≤ 2 * (t.dp + 1); omega
  | .neg t => by have := dep_pa t; show 1 + (1 + t.tr.dep) ≤ 2 * (t.dp + 1); omega
  | .shl t ds => by have := dep_pa t; show 1 + max t.tr.dep 0 ≤ 2 * (t.dp + 1); omega
  | .bin c l r => by have := dep_pa l; have := dep_pa r; show 1 + max l.tr.dep r.tr.dep ≤ 2 * (max l.dp r.dp + 1); omega
/-- a whole text -/
theorem read_all {sg : Chs → Bool} (so : SgOk sg) {u : Chs} {g : Nat → Bool} {t : Tr} (h : Pc u g t.tk) (wf : t.WF) (hd : t.dep ≤ 20) (p : Nat) : ∃ ts : List Ts, ts.map Ts.bare = t.rpn ∧ (∀ x ∈ ts, x.stp.p ≤ p + u.length) ∧ runR sg true (lex u p) [] [] = .ok (ts.map Ts.stp) (p + u.length) := by
  obtain ⟨ps, e1, e2, e3⟩ := h.lx [] p (fun c hc => by cases hc)
  rw [List.append_nil, lex_end] at e3
  have hl : hdS [] < t.lob := by
    cases t with
    | bt s l r =>
      obtain ⟨⟨k, hk, _⟩, _⟩ := wf
      show 0 < (strg s).getD 0
      rw [hk]
      exact strg_pos hk
    | _ => show 0 < 100; decide
  obtain ⟨st, bs, x1, x2, x3, x4⟩ := run_tr so t wf ps e1 [.fin (p + u.length)] [] [] hl (by show 0 + _ ≤ 20; omega)
  refine ⟨st ++ bs.map (·.2), x1, fun x hx => ?_, ?_⟩
  · obtain ⟨y, hy, e⟩ := x3 x hx
    rw [e]
    exact e2 y hy
  · rw [e3]
    refine x4.trans ?_
    show (if opn (bsP bs ++ []) = 0 then Rs.ok ([] ++ st.map Ts.stp ++ (settle 1 (bsP bs ++ [])).1) (p + u.length) else _) = _
    rw [opn_bs, if_pos (show opn [] = 0 from rfl), settle_bs (fun x hx => Nat.le_trans (lo_pos wf) (x2 x hx)), List.map_append, List.map_map]
    show Rs.ok (st.map Ts.stp ++ (_ ++ [])) _ = _
    rw [List.append_nil]
    rfl
/-- up to a sign that ends it -/
theorem read_to {sg : Chs → Bool} (so : SgOk sg) {u s v : Chs} {g : Nat → Bool} {t : Tr} (h : Pc u g t.tk) (wf : t.WF) (hd : t.dep ≤ 20) (hs : sg s = true) (hg : ∀ c, s.head? = some c → g c = true) (ne : s ≠ []) (ht : tokL (s ++ v) = some s.length) (hb : s.head? ≠ some 32) (p : Nat) : ∃ ts : List Ts, ts.map Ts.bare = t.rpn ∧ (∀ x ∈ ts, x.stp.p ≤ p + u.length) ∧ runR sg true (lex (u ++ (s ++ v)) p) [] [] = .ok (ts.map Ts.stp) (p + u.length) := by
  obtain ⟨ps, e1, e2, e3⟩ := h.lx (s ++ v) p (fun c hc => hg c (by cases s with | nil => exact absurd rfl ne | cons d r => exact hc))
  rw [lex_tok ht hb] at e3
  have hl : hdS [] < t.lob := by
    cases t with
    | bt s l r =>
      obtain ⟨⟨k, hk, _⟩, _⟩ := wf
      show 0 < (strg s).getD 0
      rw [hk]
      exact strg_pos hk
    | _ => show 0 < 100; decide
  obtain ⟨st, bs, x1, x2, x3, x4⟩ := run_tr so t wf ps e1 (.tok s (p + u.length) :: lex v (p + u.length + s.length)) [] [] hl (by show 0 + _ ≤ 20; omega)
  refine ⟨st ++ bs.map (·.2), x1, fun x hx => ?_, ?_⟩
  · obtain ⟨y, hy, e⟩ := x3 x hx
    rw [e]
    exact e2 y hy
  · rw [e3]
    refine x4.trans ?_
    have ho : opn (bsP bs ++ []) = 0 := by rw [opn_bs]; rfl
    show (if s = [41] ∧ 0 < opn (bsP bs ++ []) then _ else if opn (bsP bs ++ []) = 0 ∧ sg s = true then Rs.ok ([] ++ st.map Ts.stp ++ (settle 1 (bsP bs ++ [])).1) (p + u.length) else _) = _
    rw [if_neg (fun z => by rw [ho] at z; exact Nat.lt_irrefl 0 z.2), if_pos ⟨ho, hs⟩, settle_bs (fun x hx => Nat.le_trans (lo_pos wf) (x2 x hx)), List.map_append, List.map_map]
    show Rs.ok (st.map Ts.stp ++ (_ ++ [])) _ = _
    rw [List.append_nil]
    rfl
end Fb
namespace Fb
open PySem PySem.Spec PyProof.Rows L2 NdefX PySem.NumText TL
theorem txt_app (a b : Chs) : txt a ++ txt b = txt (a ++ b) := by
  show Str.mk (a.toArray ++ b.toArray) = Str.mk (a ++ b).toArray
  simp
theorem fork3 {G : Hp → Prop} {C : Hp → Prop} {A : Prop} (main : (∀ H1, C H1 → G H1) → A) (pk : ∀ H1, C H1 → G H1) : A := main pk
def num_txt (n : Nat) : (Str.ofString (toString ((n : Nat) : Int))) = txt (numL n) := by
  rw [← txt_of (Str.ofString (toString ((n : Nat) : Int)))]
  exact congrArg txt (tl_num n)
theorem dig_numL (n : Nat) : ∀ c ∈ numL n, isDig c = true := fun c hc => by
  have := numL_digits n c hc
  unfold isDig
  exact decide_eq_true (by omega)
theorem dgv_z (z : Nat) (cs : Chs) : digitsVal (List.replicate z 48 ++ cs) = digitsVal cs := by
  induction z with
  | zero => rfl
  | succ z ih => rw [List.replicate_succ, List.cons_append]; exact ih
/-- zeros ahead of a number -/
theorem dg_zn {z n : Nat} (hz : z ≤ 3) (hn : n < 2 ^ 70) : Dg (List.replicate z 48 ++ numL n) ∧ digitsVal (List.replicate z 48 ++ numL n) = n ∧ (List.replicate z 48 ++ numL n).length ≤ 26 := by
  have hv : digitsVal (List.replicate z 48 ++ numL n) = n := by rw [dgv_z, numL_val]
  have hl : (List.replicate z 48 ++ numL n).length ≤ 26 := by
    have := numL_len (n := n) (k := 23) (by decide) (Nat.lt_of_lt_of_le hn (by decide))
    rw [List.length_append, List.length_replicate]
    omega
  refine ⟨⟨fun c hc => ?_, ?_, by omega, by rw [hv]; exact hn⟩, hv, hl⟩
  · rcases List.mem_append.mp hc with hc | hc
    · rw [(List.mem_replicate.mp hc).2]; decide
    · exact dig_numL n c hc
  · intro h
    exact numL_ne n (List.append_eq_nil_iff.mp h).2
theorem lit_zeros : ("" : Str) = txt (List.replicate 0 48) ∧ ("0" : Str) = txt (List.replicate 1 48) ∧ ("000" : Str) = txt (List.replicate 3 48) := by decide +kernel
theorem lit_til : ("(~" : Str) = txt [40, 126] := by decide +kernel
theorem lit_neg : ("( -" : Str) = txt [40, 32, 45] := by decide +kernel
theorem lit_ng2 : (" )" : Str) = txt [32, 41] := by decide +kernel
theorem lit_wneg : ("neg" : Str) = txt [110, 101, 103] := by decide +kernel
def bdP (d : Nat) : Nat := 134 * 2 ^ d - 64
def llP (d : Nat) : Nat := 32 * 2 ^ d - 6
def drP (d : Nat) : Nat := 6 * 2 ^ d - 3
theorem pw4 {d : Nat} (h : d ≤ 4) : 1 ≤ 2 ^ d ∧ 2 ^ d ≤ 16 := ⟨Nat.one_le_two_pow, Nat.pow_le_pow_right (by decide) h⟩
theorem log_sm {n : Nat} (h : n < 2 ^ 70) : ((n : Nat) : Int).natAbs.log2 < 1920 := by
  rw [Int.natAbs_natCast]
  by_cases z : n = 0
  · subst z; decide
  · exact Nat.lt_of_lt_of_le ((Nat.log2_lt z).mpr h) (by decide)
theorem shl_ok {x : Int} {b j : Nat} (hx : x.natAbs < 2 ^ b) (hb : b ≤ 190000) (hj : j ≤ 64) : CShl x (j : Int) := by
  refine ⟨by omega, ?_⟩
  have h1 : Builtin.Int.intBits x ≤ x.natAbs.log2 + 1 := by
    unfold Builtin.Int.intBits
    split <;> omega
  have h2 : Builtin.Int.intBits x ≤ b + 1 := by
    by_cases hz : x.natAbs = 0
    · rw [hz] at h1
      have : Nat.log2 0 = 0 := by decide
      omega
    · have := (Nat.log2_lt hz).mpr hx
      omega
  omega
def sigs : List Chs := [[43], [45], [42], [38], [124], [94], [60, 60], [126], [110, 101, 103], [43]]
theorem lit_sigs : ([.str "+", .str "-", .str "*", .str "&", .str "|", .str "^", .str "<<", .str "~", .str "neg", .str "+"] : List V) = sigs.map fun c => V.str (txt c) := by
  rw [str_plus, str_minus, str_star, str_amp, str_bar, str_hat, str_shl, str_tilde, lit_wneg]
  rfl
theorem lnS {a b : Chs} (h : a.length + b.length ≤ 3000) : (txt a).length + (txt b).length ≤ sizeLine := Nat.le_trans h (by decide)
theorem bd_up {e : Nat} (h : e ≠ 0) : bdP e = 2 * bdP (e - 1) + 64 ∧ 70 ≤ bdP (e - 1) ∧ llP e = 2 * llP (e - 1) + 6 ∧ 26 ≤ llP (e - 1) := by
  unfold bdP llP
  have h1 : 2 ^ e = 2 ^ (e - 1) * 2 := by rw [← Nat.pow_succ]; congr 1; omega
  have h2 := Nat.one_le_two_pow (n := e - 1)
  omega
theorem ll_sm {e : Nat} (h : e ≤ 4) : llP e ≤ 506 ∧ bdP e ≤ 2080 := by
  obtain ⟨a, b⟩ := pw4 h
  unfold llP bdP
  omega
theorem p18 : (10 : Int) ^ (18 : Int).toNat = ((10 ^ 18 : Nat) : Int) := by decide +kernel
theorem p64 : (2 : Int) ^ (64 : Int).toNat = ((2 ^ 64 : Nat) : Int) := by decide +kernel
section
variable {P : Program} {w : World} {K : PySem.W.Frag} {mg : Str → Option Value} {base : Heap} {f : Addr} {fd : FuncData}
abbrev S__law_part : Stmt := top 66
abbrev N__law_part : List Str := ["_law_pen_here", "_law_depth", "_law_number", "_law_sign", "_law_text", "_law_one", "_law_many", "_law_other", "_law_two"]
abbrev P__law_part : List Str := ["_law_pen_here", "_law_depth"]
theorem sc__law_part : FnScope N__law_part P__law_part (defScope S__law_part) := ⟨rfl, rfl, rfl, by decide +kernel, rfl, by decide +kernel, by decide +kernel⟩
def spPart (K : PySem.W.Frag) (d : Nat) : Sp := fun vs H Q _ => ∃ (τ : Tp) (e n : Nat), e < d ∧ e ≤ 4 ∧ vs = [.ref τ.t, .int (e : Int)] ∧ Pen K τ (n + drP e) H ∧ ∀ (R : Pa) (a : Addr) (H' : Hp), R.ok → R.dp ≤ e → R.bnd ≤ bdP e → R.tx.length ≤ llP e → R.val.natAbs < 2 ^ R.bnd → Nd H H' → Pen K τ n H' → SqT K H' a [.str (txt R.tx), .int R.val] → Q (.ref a) H'
theorem ok_part (F : Fun K "_law_part" "_law_part" S__law_part f fd) (B : Blt mg) (hm : mg "_law_part" = some (.ref f)) (hk : PySem.W.keepIn K (.ref f) = true) (hb : Binds K fd P__law_part []) (C_law_draw : Has P w K mg base 1 "_law_draw" P__law_draw [] (spDrawP K)) (C_law_pick : Has P w K mg base 2 "_law_pick" P__law_pick [] (spPickP K)) : ∀ d, FnOk P w K mg base CX0 (3 + d) f fd P__law_part (spPart K d) := by
  have nd := sc__law_part.nd
  intro d
  induction d with
  | zero =>
    refine ⟨fun vs H Q E h => ?_, fun A outer s H args us vs Q E hr e0 hb r h => ?_⟩
    · obtain ⟨τ, e, n, h0, _⟩ := h
      exact absurd h0 (Nat.not_lt_zero _)
    · obtain ⟨τ, e, n, h0, _⟩ := h
      exact absurd h0 (Nat.not_lt_zero _)
  | succ d ih =>
  have C_law_part : Has P w K mg base (3 + d) "_law_part" P__law_part [] (spPart K d) := ⟨⟨f, fd, [], ih, hk, hm, .nil, hb⟩⟩
  refine F.ok (k := 3 + d) sc__law_part (fun vs H Q E h => ?_) (fun cdv A outer s H vs Q E hr h => ?_)
  · obtain ⟨τ, e, n, _, _, rfl, _⟩ := h
    rfl
  obtain ⟨τ, e, n, hed, e4, rfl, hp, q⟩ := h
  refine ⟨_, (pss_cons (ps_if (PW.pt (pw_or (pt_cmpR op_eq (pv 1) pe_int (nomark _)) (pw_or1 (pt_cmpR op_eq (pe_H C_law_draw (hr.mono (by omega)) rfl (pa_cons (pv 0) (pa_cons pe_int pa_nil))) pe_int (nomark _))))) (pss_cons (ps_set (i := 2) nd rfl (Or.inl rfl) (pe_H C_law_pick (hr.mono (by omega)) rfl (pa_cons (pv 0) (pa_cons (pe_lst (pa_cons pe_int (pa_cons pe_int (pa_cons pe_int (pa_cons pe_int (pa_cons (pe_op op_pow pe_int pe_int) (pa_cons (pe_H C_law_draw (hr.mono (by omega)) rfl (pa_cons (pv 0) (pa_cons (pe_op op_pow pe_int pe_int) pa_nil))) (pa_cons (pe_op op_pow pe_int pe_int) pa_nil)))))))) pa_nil))))
    (pss_one (ps_ret (pe_tup (pa_cons (pe_op op_add_str (pe_H C_law_pick (hr.mono (by omega)) rfl (pa_cons (pv 0) (pa_cons (pe_lst (pa_cons pe_str (pa_cons pe_str (pa_cons pe_str pa_nil)))) pa_nil))) (pe_callTy call_str_int (by rfl) B.str (by decide +kernel) (pa_cons (pv 2) pa_nil))) (pa_cons (pv 2) pa_nil)))))) pss_nil)
    (pss_cons (ps_set (i := 3) nd rfl (Or.inl rfl) (pe_H C_law_pick (hr.mono (by omega)) rfl (pa_cons (pv 0) (pa_cons (pe_lst (pa_cons pe_str (pa_cons pe_str (pa_cons pe_str (pa_cons pe_str (pa_cons pe_str (pa_cons pe_str (pa_cons pe_str (pa_cons pe_str (pa_cons pe_str (pa_cons pe_str pa_nil))))))))))) pa_nil))))
    (pss_cons (ps_asg (pe_H C_law_part (hr.mono (by omega)) rfl (pa_cons (pv 0) (pa_cons (pe_op op_sub (pv 1) pe_int) pa_nil))) (pg_tup rfl (pgs_cons (pg_name (i := 4) nd rfl (Or.inl rfl)) (pgs_cons (pg_name (i := 5) nd rfl (Or.inl rfl)) pgs_nil))))
    (pss_cons (ps_if (pt_cmpR op_eq (pv 3) pe_str (nomark _)) (pss_one (ps_ret (pe_tup (pa_cons (pe_op op_add_str (pe_op op_add_str pe_str (pv 4)) pe_str) (pa_cons (pe_un un_inv (pv 5)) pa_nil))))) pss_nil)
    (pss_cons (ps_if (pt_cmpR op_eq (pv 3) pe_str (nomark _)) (pss_one (ps_ret (pe_tup (pa_cons (pe_op op_add_str (pe_op op_add_str pe_str (pv 4)) pe_str) (pa_cons (pe_un un_neg (pv 5)) pa_nil))))) pss_nil)
    (pss_cons (ps_if (pt_cmpR op_eq (pv 3) pe_str (nomark _)) (pss_cons (ps_set (i := 6) nd rfl (Or.inl rfl) (pe_H C_law_pick (hr.mono (by omega)) rfl (pa_cons (pv 0) (pa_cons (pe_lst (pa_cons pe_int (pa_cons pe_int (pa_cons pe_int (pa_cons pe_int pa_nil))))) pa_nil))))
    (pss_one (ps_ret (pe_tup (pa_cons (pe_op op_add_str (pe_op op_add_str (pe_op op_add_str (pe_op op_add_str pe_str (pv 4)) pe_str) (pe_callTy call_str_int (by rfl) B.str (by decide +kernel) (pa_cons (pv 6) pa_nil))) pe_str) (pa_cons (pe_op op_shlW (pv 5) (pv 6)) pa_nil)))))) pss_nil)
    (pss_cons (ps_asg (pe_H C_law_part (hr.mono (by omega)) rfl (pa_cons (pv 0) (pa_cons (pe_op op_sub (pv 1) pe_int) pa_nil))) (pg_tup rfl (pgs_cons (pg_name (i := 7) nd rfl (Or.inl rfl)) (pgs_cons (pg_name (i := 8) nd rfl (Or.inl rfl)) pgs_nil))))
    (pss_cons (ps_set (i := 4) nd rfl (Or.inl rfl) (pe_op op_add_str (pe_op op_add_str (pe_op op_add_str (pe_op op_add_str pe_str (pv 4)) (pv 3)) (pv 7)) pe_str))
    (pss_cons (ps_if (pt_cmpR op_in_seq (pv 3) (pe_tup (pa_cons pe_str (pa_cons pe_str (pa_cons pe_str pa_nil)))) (by rfl)) (pss_one (ps_ret (pe_tup (pa_cons (pv 4) (pa_cons (pe_ifExp (pt_cmpR op_eq (pv 3) pe_str (nomark _)) (pe_op op_add (pv 5) (pv 8)) (pe_ifExp (pt_cmpR op_eq (pv 3) pe_str (nomark _)) (pe_op op_sub (pv 5) (pv 8)) (pe_op op_mulW (pv 5) (pv 8)))) pa_nil))))) pss_nil)
    (pss_one (ps_ret (pe_tup (pa_cons (pv 4) (pa_cons (pe_ifExp (pt_cmpR op_eq (pv 3) pe_str (nomark _)) (pe_op op_and (pv 5) (pv 8)) (pe_ifExp (pt_cmpR op_eq (pv 3) pe_str (nomark _)) (pe_op op_or (pv 5) (pv 8)) (pe_op op_xor (pv 5) (pv 8)))) pa_nil)))))))))))))), ?_⟩
  obtain ⟨w1, w2⟩ := pw4 e4
  apply fork3 (C := fun H1 => Nd H H1 ∧ Pen K τ (n + 3) H1)
  · intro main
    refine ⟨_, rfl, rfl, _, rfl, ?_⟩
    by_cases c0 : e ≠ 0
    · rw [show decide (V.int (e : Int) = V.int 0) = false from decide_eq_false (fun h => by injection h with h; omega)]
      refine iteF ?_
      have dr : drP e = 2 * drP (e - 1) + 3 := by
        unfold drP
        have : 2 ^ e = 2 ^ (e - 1) * 2 := by rw [← Nat.pow_succ]; congr 1; omega
        have := Nat.one_le_two_pow (n := e - 1)
        omega
      have dr1 : 3 ≤ drP (e - 1) := by
        unfold drP
        have := Nat.one_le_two_pow (n := e - 1)
        omega
      refine ⟨_, rfl, τ, 6, n + 2 * drP (e - 1) + 2, rfl, hp.mono (by omega), (by decide), lt_BigL (by decide), fun k0 H1 n1 hp1 _ _ => ?_⟩
      refine ⟨rfl, _, rfl, ?_⟩
      refine iteD (fun c1 => ?_) (fun c1 => ?_)
      · exact main H1 ⟨n1, hp1.mono (by omega)⟩
      clear main
      obtain ⟨bu, b70, lu, l26⟩ := bd_up c0
      obtain ⟨lsm, bsm⟩ := ll_sm e4
      refine ⟨_, rfl, (by show 10 ≤ sizeLine; decide), fun p7 np7 => ?_⟩
      refine ⟨τ, p7, _, n + 2 * drP (e - 1) + 1, rfl, SqL.of upd_same, (List.cons_ne_nil _ _), (by show 10 ≤ 100000; decide), hp1.new np7, fun x H2 n2 hp2 hx => ?_⟩
      rw [lit_sigs] at hx
      obtain ⟨s, hs, rfl⟩ := List.mem_map.mp hx
      have n12 := n1.trans ((Nd.new np7).trans n2)
      refine ⟨_, rfl, _, rfl, _, _, rfl, rfl, τ, e - 1, n + drP (e - 1) + 1, (by omega), (by omega), ?_, hp2.mono (by omega), fun R a H3 ok dp bnd tl vb n3 hp3 ha => ?_⟩
      · show [V.ref τ.t, V.int ((e : Int) - 1)] = _
        rw [show (e : Int) - 1 = ((e - 1 : Nat) : Int) by omega]
      refine ⟨a, _, rfl, ha, rfl, _, _, rfl, _, _, rfl, rfl, ?_⟩
      have n13 := n12.trans n3
      refine ⟨_, rfl, rfl, _, rfl, ?_⟩
      rw [eq_txt str_tilde]
      refine iteD (fun c2 => ?_) (fun c2 => ?_)
      · refine ⟨_, rfl, _, _, rfl, rfl, (by rw [lit_til]; exact lnS (by show 2 + _ ≤ 3000; omega)), _, _, rfl, rfl, (by rw [lit_til, txt_app, str_parR]; exact lnS (by rw [List.length_append]; show 2 + _ + 1 ≤ 3000; omega)), _, rfl, _, rfl, (by show 2 ≤ sizeLine; decide), fun p8 np8 => ?_⟩
        have ee : ("(~" : Str) ++ txt R.tx ++ (")" : Str) = txt (Pa.til R).tx := by rw [lit_til, str_parR, txt_app, txt_app]; rfl
        refine q (.til R) p8 _ ok (by show R.dp + 1 ≤ e; omega) (by show R.bnd + 1 ≤ bdP e; omega) (by show ([40, 126] ++ R.tx ++ [41]).length ≤ llP e; rw [List.length_append, List.length_append]; show 2 + _ + 1 ≤ _; omega) (by show (-R.val - 1).natAbs < 2 ^ (R.bnd + 1); rw [Nat.pow_succ]; omega) (n13.trans (Nd.new np8)) ((hp3.mono (by omega)).new np8) ?_
        rw [← ee]
        exact SqT.of upd_same
      refine ⟨_, rfl, rfl, _, rfl, ?_⟩
      rw [eq_txt lit_wneg]
      refine iteD (fun c3 => ?_) (fun c3 => ?_)
      · refine ⟨_, rfl, _, _, rfl, rfl, (by rw [lit_neg]; exact lnS (by show 3 + _ ≤ 3000; omega)), _, _, rfl, rfl, (by rw [lit_neg, txt_app, lit_ng2]; exact lnS (by rw [List.length_append]; show 3 + _ + 2 ≤ 3000; omega)), _, rfl, _, rfl, (by show 2 ≤ sizeLine; decide), fun p8 np8 => ?_⟩
        have ee : ("( -" : Str) ++ txt R.tx ++ (" )" : Str) = txt (Pa.neg R).tx := by rw [lit_neg, lit_ng2, txt_app, txt_app]; rfl
        refine q (.neg R) p8 _ ok (by show R.dp + 1 ≤ e; omega) (by show R.bnd + 1 ≤ bdP e; omega) (by show ([40, 32, 45] ++ R.tx ++ [32, 41]).length ≤ llP e; rw [List.length_append, List.length_append]; show 3 + _ + 2 ≤ _; omega) (by show (-R.val).natAbs < 2 ^ (R.bnd + 1); rw [Nat.pow_succ]; omega) (n13.trans (Nd.new np8)) ((hp3.mono (by omega)).new np8) ?_
        rw [← ee]
        exact SqT.of upd_same
      refine ⟨_, rfl, rfl, _, rfl, ?_⟩
      rw [eq_txt str_shl]
      refine iteD (fun c4 => ?_) (fun c4 => ?_)
      · refine ⟨_, rfl, (by show 4 ≤ sizeLine; decide), fun p10 np10 => ?_⟩
        refine ⟨τ, p10, _, n, rfl, SqL.of upd_same, (List.cons_ne_nil _ _), (by show 4 ≤ 100000; decide), (hp3.mono (by omega)).new np10, fun y H4 n4 hp4 hy => ?_⟩
        obtain ⟨j, hj, rfl⟩ : ∃ j : Nat, j ≤ 64 ∧ y = .int (j : Int) := by
          simp only [List.mem_cons, List.not_mem_nil, or_false] at hy
          rcases hy with rfl | rfl | rfl | rfl
          · exact ⟨0, by decide, rfl⟩
          · exact ⟨1, by decide, rfl⟩
          · exact ⟨63, by decide, rfl⟩
          · exact ⟨64, by decide, rfl⟩
        have j70 : j < 2 ^ 70 := Nat.lt_of_le_of_lt hj (by decide)
        obtain ⟨dg, dv, dl⟩ := dg_zn (z := 0) (by decide) j70
        have dg : Dg (numL j) := dg
        have dv : digitsVal (numL j) = j := dv
        have dl : (numL j).length ≤ 26 := dl
        refine ⟨_, rfl, _, _, rfl, rfl, (by rw [str_par]; exact lnS (by show 1 + _ ≤ 3000; omega)), _, _, rfl, rfl, (by rw [str_par, txt_app, str_shl]; exact lnS (by rw [List.length_append]; show 1 + _ + 2 ≤ 3000; omega)), _, rfl, _, rfl, log_sm j70, _, _, rfl, rfl, (by rw [str_par, txt_app, str_shl, txt_app, num_txt]; exact lnS (by rw [List.length_append, List.length_append]; show 1 + _ + 2 + _ ≤ 3000; omega)), _, _, rfl, rfl, (by rw [str_par, txt_app, str_shl, txt_app, num_txt, txt_app, str_parR]; exact lnS (by rw [List.length_append, List.length_append, List.length_append]; show 1 + _ + 2 + _ + 1 ≤ 3000; omega)), _, rfl, _, rfl, _, _, rfl, rfl, shl_ok vb (by omega) hj, (by show 2 ≤ sizeLine; decide), fun p8 np8 => ?_⟩
        have ee : ("(" : Str) ++ txt R.tx ++ ("<<" : Str) ++ (Str.ofString (toString ((j : Nat) : Int))) ++ (")" : Str) = txt (Pa.shl R (numL j)).tx := by rw [str_par, str_shl, num_txt, str_parR, txt_app, txt_app, txt_app, txt_app]; rfl
        have ev : R.val * 2 ^ ((j : Nat) : Int).toNat = (Pa.shl R (numL j)).val := by
          show _ = R.val * 2 ^ (digitsVal (numL j))
          rw [dv, Int.toNat_natCast]
        refine q (.shl R (numL j)) p8 _ ⟨ok, dg, by rw [dv]; exact hj⟩ (by show R.dp + 1 ≤ e; omega) (by show R.bnd + 64 ≤ bdP e; omega) (by show ([40] ++ R.tx ++ [60, 60] ++ numL j ++ [41]).length ≤ llP e; rw [List.length_append, List.length_append, List.length_append, List.length_append]; show 1 + _ + 2 + _ + 1 ≤ _; omega) ?_ (n13.trans ((Nd.new np10).trans (n4.trans (Nd.new np8)))) (hp4.new np8) ?_
        · show (R.val * 2 ^ (digitsVal (numL j))).natAbs < 2 ^ (R.bnd + 64)
          rw [dv, Int.natAbs_mul, Int.natAbs_pow, Nat.pow_add]
          exact Nat.lt_of_lt_of_le (Nat.mul_lt_mul_of_pos_right vb (Nat.two_pow_pos _)) (Nat.mul_le_mul_left _ (pow_up hj))
        · rw [← ee, ← ev]
          exact SqT.of upd_same
      obtain ⟨c, rfl, hc⟩ : ∃ c, s = [c] ∧ c ∈ bins := by
        simp only [sigs, List.mem_cons, List.not_mem_nil, or_false] at hs
        rcases hs with rfl | rfl | rfl | rfl | rfl | rfl | rfl | rfl | rfl | rfl
        · exact ⟨43, rfl, by decide⟩
        · exact ⟨45, rfl, by decide⟩
        · exact ⟨42, rfl, by decide⟩
        · exact ⟨38, rfl, by decide⟩
        · exact ⟨124, rfl, by decide⟩
        · exact ⟨94, rfl, by decide⟩
        · exact absurd rfl c4
        · exact absurd rfl c2
        · exact absurd rfl c3
        · exact ⟨43, rfl, by decide⟩
      refine ⟨_, rfl, _, rfl, _, _, rfl, rfl, τ, e - 1, n, (by omega), (by omega), ?_, hp3.mono (by omega), fun R2 a2 H4 ok2 dp2 bnd2 tl2 vb2 n4 hp4 ha2 => ?_⟩
      · show [V.ref τ.t, V.int ((e : Int) - 1)] = _
        rw [show (e : Int) - 1 = ((e - 1 : Nat) : Int) by omega]
      refine ⟨a2, _, rfl, ha2, rfl, _, _, rfl, _, _, rfl, rfl, ?_⟩
      have n14 := n13.trans n4
      refine ⟨_, rfl, _, _, rfl, rfl, (by rw [str_par]; exact lnS (by show 1 + _ ≤ 3000; omega)), _, rfl, _, _, rfl, rfl, (by rw [str_par, txt_app]; exact lnS (by rw [List.length_append]; show 1 + _ + 1 ≤ 3000; omega)), _, rfl, _, _, rfl, rfl, (by rw [str_par, txt_app, txt_app]; exact lnS (by rw [List.length_append, List.length_append]; show 1 + _ + 1 + _ ≤ 3000; omega)), _, _, rfl, rfl, (by rw [str_par, txt_app, txt_app, txt_app, str_parR]; exact lnS (by rw [List.length_append, List.length_append, List.length_append]; show 1 + _ + 1 + _ + 1 ≤ 3000; omega)), ?_⟩
      have ee : ("(" : Str) ++ txt R.tx ++ txt [c] ++ txt R2.tx ++ (")" : Str) = txt (Pa.bin c R R2).tx := by rw [str_par, str_parR, txt_app, txt_app, txt_app, txt_app]; rfl
      have fin : ∀ (p : Addr) (G : Hp), Nd H4 G → Pen K τ n G → SqT K G p [.str (("(" : Str) ++ txt R.tx ++ txt [c] ++ txt R2.tx ++ (")" : Str)), .int (binV c R.val R2.val)] → Q (.ref p) G := fun p G ng pg hg => by
        rw [ee] at hg
        refine q (.bin c R R2) p G ⟨hc, ok, ok2⟩ (by show max R.dp R2.dp + 1 ≤ e; omega) (by show R.bnd + R2.bnd + 3 ≤ bdP e; omega) (by show ([40] ++ R.tx ++ [c] ++ R2.tx ++ [41]).length ≤ llP e; rw [List.length_append, List.length_append, List.length_append, List.length_append]; show 1 + _ + 1 + _ + 1 ≤ _; omega) (bin_bd vb vb2) (n14.trans ng) pg hg
      have mw : CMulW R.val R2.val := wide_mul (a := R.bnd + 1) (b := R2.bnd + 1) (Nat.lt_of_lt_of_le vb (pow_up (by omega))) (Nat.lt_of_lt_of_le vb2 (pow_up (by omega))) (by omega) (by omega) (by omega)
      generalize (("(" : Str) ++ txt R.tx ++ txt [c] ++ txt R2.tx ++ (")" : Str)) = TX at fin
      refine ⟨_, rfl, (by show 3 ≤ sizeLine; decide), fun p12 np12 => ?_⟩
      refine ⟨p12, _, rfl, .inr (SqT.of upd_same), rfl, rfl, _, rfl, ?_⟩
      have hc6 : c = 43 ∨ c = 45 ∨ c = 42 ∨ c = 38 ∨ c = 124 ∨ c = 94 := by simpa [bins] using hc
      clear ee hx hs
      rcases hc6 with rfl | rfl | rfl | rfl | rfl | rfl
      · rw [show inV (.str (txt [43])) [V.str "+", V.str "-", V.str "*"] = true from by decide +kernel]
        refine iteT ?_
        refine ⟨_, rfl, _, rfl, rfl, _, rfl, ?_⟩
        rw [eq_txt str_plus, show decide (([43] : Chs) = [43]) = true from rfl]
        refine iteT ?_
        refine ⟨_, rfl, _, rfl, _, _, rfl, rfl, (by show 2 ≤ sizeLine; decide), fun p8 np8 => ?_⟩
        exact fin p8 _ ((Nd.new np12).trans (Nd.new np8)) ((hp4.new np12).new np8) (SqT.of upd_same)
      · rw [show inV (.str (txt [45])) [V.str "+", V.str "-", V.str "*"] = true from by decide +kernel]
        refine iteT ?_
        refine ⟨_, rfl, _, rfl, rfl, _, rfl, ?_⟩
        rw [eq_txt str_plus, show decide (([45] : Chs) = [43]) = false from by decide]
        refine iteF ?_
        refine ⟨_, rfl, rfl, _, rfl, ?_⟩
        rw [eq_txt str_minus, show decide (([45] : Chs) = [45]) = true from rfl]
        refine iteT ?_
        refine ⟨_, rfl, _, rfl, _, _, rfl, rfl, (by show 2 ≤ sizeLine; decide), fun p8 np8 => ?_⟩
        exact fin p8 _ ((Nd.new np12).trans (Nd.new np8)) ((hp4.new np12).new np8) (SqT.of upd_same)
      · rw [show inV (.str (txt [42])) [V.str "+", V.str "-", V.str "*"] = true from by decide +kernel]
        refine iteT ?_
        refine ⟨_, rfl, _, rfl, rfl, _, rfl, ?_⟩
        rw [eq_txt str_plus, show decide (([42] : Chs) = [43]) = false from by decide]
        refine iteF ?_
        refine ⟨_, rfl, rfl, _, rfl, ?_⟩
        rw [eq_txt str_minus, show decide (([42] : Chs) = [45]) = false from by decide]
        refine iteF ?_
        refine ⟨_, rfl, _, rfl, _, _, rfl, rfl, mw, (by show 2 ≤ sizeLine; decide), fun p8 np8 => ?_⟩
        exact fin p8 _ ((Nd.new np12).trans (Nd.new np8)) ((hp4.new np12).new np8) (SqT.of upd_same)
      · rw [show inV (.str (txt [38])) [V.str "+", V.str "-", V.str "*"] = false from by decide +kernel]
        refine iteF ?_
        refine ⟨_, rfl, _, rfl, rfl, _, rfl, ?_⟩
        rw [eq_txt str_amp, show decide (([38] : Chs) = [38]) = true from rfl]
        refine iteT ?_
        refine ⟨_, rfl, _, rfl, _, _, rfl, rfl, (by show 2 ≤ sizeLine; decide), fun p8 np8 => ?_⟩
        exact fin p8 _ ((Nd.new np12).trans (Nd.new np8)) ((hp4.new np12).new np8) (SqT.of upd_same)
      · rw [show inV (.str (txt [124])) [V.str "+", V.str "-", V.str "*"] = false from by decide +kernel]
        refine iteF ?_
        refine ⟨_, rfl, _, rfl, rfl, _, rfl, ?_⟩
        rw [eq_txt str_amp, show decide (([124] : Chs) = [38]) = false from by decide]
        refine iteF ?_
        refine ⟨_, rfl, rfl, _, rfl, ?_⟩
        rw [eq_txt str_bar, show decide (([124] : Chs) = [124]) = true from rfl]
        refine iteT ?_
        refine ⟨_, rfl, _, rfl, _, _, rfl, rfl, (by show 2 ≤ sizeLine; decide), fun p8 np8 => ?_⟩
        exact fin p8 _ ((Nd.new np12).trans (Nd.new np8)) ((hp4.new np12).new np8) (SqT.of upd_same)
      · rw [show inV (.str (txt [94])) [V.str "+", V.str "-", V.str "*"] = false from by decide +kernel]
        refine iteF ?_
        refine ⟨_, rfl, _, rfl, rfl, _, rfl, ?_⟩
        rw [eq_txt str_amp, show decide (([94] : Chs) = [38]) = false from by decide]
        refine iteF ?_
        refine ⟨_, rfl, rfl, _, rfl, ?_⟩
        rw [eq_txt str_bar, show decide (([94] : Chs) = [124]) = false from by decide]
        refine iteF ?_
        refine ⟨_, rfl, _, rfl, _, _, rfl, rfl, (by show 2 ≤ sizeLine; decide), fun p8 np8 => ?_⟩
        exact fin p8 _ ((Nd.new np12).trans (Nd.new np8)) ((hp4.new np12).new np8) (SqT.of upd_same)
    · rw [show decide (V.int (e : Int) = V.int 0) = true from by rw [Decidable.not_not.mp c0]; rfl]
      refine iteT ?_
      exact main H ⟨Nd.refl H, hp.mono (by rw [Decidable.not_not.mp c0]; exact Nat.le_refl _)⟩
  · intro H1 h
    obtain ⟨n1, hp1⟩ := h
    refine ⟨_, rfl, _, _, rfl, rfl, (by unfold CPow; decide), _, rfl, _, _, rfl, rfl, (by unfold CPow; decide), τ, _, n + 2, rfl, hp1, (by decide), lt_BigL (by decide), fun k H2 n2 hp2 k0 k1 => ?_⟩
    refine ⟨_, _, rfl, rfl, (by unfold CPow; decide), (by show 7 ≤ sizeLine; decide), fun p1 np1 => ?_⟩
    refine ⟨τ, p1, _, n + 1, rfl, SqL.of upd_same, (List.cons_ne_nil _ _), (by show 7 ≤ 100000; decide), hp2.new np1, fun x H3 n3 hp3 hx => ?_⟩
    obtain ⟨nn, rfl, hn⟩ : ∃ nn : Nat, x = .int (nn : Int) ∧ nn < 2 ^ 70 := by
      simp only [List.mem_cons, List.not_mem_nil, or_false] at hx
      rcases hx with rfl | rfl | rfl | rfl | rfl | rfl | rfl
      · exact ⟨0, rfl, by decide⟩
      · exact ⟨1, rfl, by decide⟩
      · exact ⟨2, rfl, by decide⟩
      · exact ⟨7, rfl, by decide⟩
      · exact ⟨10 ^ 18, congrArg V.int p18, by decide⟩
      · have k1 : k < 1000000 := k1
        exact ⟨k.toNat, by rw [Int.toNat_of_nonneg k0], by omega⟩
      · exact ⟨2 ^ 64, congrArg V.int p64, by decide⟩
    refine ⟨_, rfl, (by show 3 ≤ sizeLine; decide), fun p2 np2 => ?_⟩
    refine ⟨τ, p2, _, n, rfl, SqL.of upd_same, (List.cons_ne_nil _ _), (by show 3 ≤ 100000; decide), hp3.new np2, fun y H4 n4 hp4 hy => ?_⟩
    obtain ⟨z, hz, rfl⟩ : ∃ z, z ≤ 3 ∧ y = .str (txt (List.replicate z 48)) := by
      simp only [List.mem_cons, List.not_mem_nil, or_false] at hy
      rcases hy with rfl | rfl | rfl
      · exact ⟨0, by decide, congrArg V.str lit_zeros.1⟩
      · exact ⟨1, by decide, congrArg V.str lit_zeros.2.1⟩
      · exact ⟨3, by decide, congrArg V.str lit_zeros.2.2⟩
    obtain ⟨dg, dv, dl⟩ := dg_zn hz hn
    have ez : (txt (List.replicate z 48) : Str) ++ (Str.ofString (toString ((nn : Nat) : Int))) = txt (List.replicate z 48 ++ numL nn) := by rw [num_txt, txt_app]
    refine ⟨_, rfl, _, rfl, log_sm hn, _, _, rfl, rfl, ?_, _, rfl, (by show 2 ≤ sizeLine; decide), fun p3 np3 => ?_⟩
    · rw [num_txt]
      rw [List.length_append] at dl
      exact lnS (by omega)
    have h70 : 70 ≤ bdP e := by unfold bdP; omega
    have h26 : 26 ≤ llP e := by unfold llP; omega
    refine q (.num (List.replicate z 48 ++ numL nn)) p3 _ dg (Nat.zero_le _) h70 (Nat.le_trans dl h26) (by show ((digitsVal _ : Nat) : Int).natAbs < 2 ^ 70; rw [dv, Int.natAbs_natCast]; exact hn) (n1.trans (n2.trans ((Nd.new np1).trans (n3.trans ((Nd.new np2).trans (n4.trans (Nd.new np3))))))) (hp4.new np3) ?_
    show SqT K _ p3 [.str (txt (List.replicate z 48 ++ numL nn)), .int ((digitsVal (List.replicate z 48 ++ numL nn) : Nat) : Int)]
    rw [dv, ← ez]
    exact SqT.of upd_same
end
end Fb
namespace Fb
open PySem PySem.Spec PyProof.Rows L2 NdefX PySem.NumText
theorem sg_none : SgOk (fun _ => false) := fun _ _ _ => rfl
theorem sg_cl : SgOk sgl.contains := fun s k h => by
  unfold strg at h
  repeat' split at h
  all_goals first
    | (rename_i hh; rw [hh]; decide)
    | cases h
theorem rpn_len : ∀ (P : Pa), P.ok → P.tr.rpn.length ≤ P.tx.length
  | .num ds, h => by
    have := List.length_pos_iff.mpr h.2.1
    show 1 ≤ ds.length
    omega
  | .til t, h => by
    have := rpn_len t h
    show (t.tr.rpn ++ [Ts.ah [126] 0]).length ≤ ([40, 126] ++ t.tx ++ [41]).length
    rw [List.length_append, List.length_append, List.length_append]
    show _ + 1 ≤ 2 + _ + 1
    omega
  | .neg t, h => by
    have := rpn_len t h
    show (t.tr.rpn ++ [Ts.ah [45] 0]).length ≤ ([40, 32, 45] ++ t.tx ++ [32, 41]).length
    rw [List.length_append, List.length_append, List.length_append]
    show _ + 1 ≤ 3 + _ + 2
    omega
  | .shl t ds, h => by
    have := rpn_len t h.1
    show (t.tr.rpn ++ ([Ts.num _ 0] ++ [Ts.bt [60, 60] 0])).length ≤ ([40] ++ t.tx ++ [60, 60] ++ ds ++ [41]).length
    simp only [List.length_append, List.length_cons, List.length_nil]
    omega
  | .bin c l r, h => by
    have := rpn_len l h.2.1
    have := rpn_len r h.2.2
    show (l.tr.rpn ++ (r.tr.rpn ++ [Ts.bt [c] 0])).length ≤ ([40] ++ l.tx ++ [c] ++ r.tx ++ [41]).length
    rw [List.length_append, List.length_append, List.length_append, List.length_append, List.length_append, List.length_append]
    show _ + (_ + 1) ≤ 1 + _ + 1 + _ + 1
    omega
theorem nms_b {ts : List Ts} {r : List Ts} (h : ts.map Ts.bare = r) : nmsOf ts = nmsOf r := by
  have := nms_bare ts
  rw [h] at this
  exact this.symm
theorem nms_pa : ∀ (P : Pa), nmsOf P.tr.rpn = []
  | .num _ => rfl
  | .til t => by show nmsOf (t.tr.rpn ++ [Ts.ah [126] 0]) = []; unfold nmsOf; rw [List.filterMap_append]; have := nms_pa t; unfold nmsOf at this; rw [this]; rfl
  | .neg t => by show nmsOf (t.tr.rpn ++ [Ts.ah [45] 0]) = []; unfold nmsOf; rw [List.filterMap_append]; have := nms_pa t; unfold nmsOf at this; rw [this]; rfl
  | .shl t ds => by show nmsOf (t.tr.rpn ++ [Ts.num _ 0, Ts.bt [60, 60] 0]) = []; unfold nmsOf; rw [List.filterMap_append]; have := nms_pa t; unfold nmsOf at this; rw [this]; rfl
  | .bin c l r => by
    show nmsOf (l.tr.rpn ++ (r.tr.rpn ++ [Ts.bt [c] 0])) = []
    have h1 := nms_pa l
    have h2 := nms_pa r
    unfold nmsOf at h1 h2 ⊢
    rw [List.filterMap_append, List.filterMap_append, h1, h2]
    rfl
/-- at most one name -/
def One (ns : List Chs) (r : List Ts) : Prop := ns.length ≤ 1 ∧ ∀ c, c ∈ ns ↔ c ∈ nmsOf r
theorem one_eq {ns ks : List Chs} {r : List Ts} (o : One ns r) (nd : ks.Nodup) (h : ∀ c, c ∈ ks ↔ c ∈ nmsOf r) : ks = ns := by
  have hm : ∀ c, c ∈ ks ↔ c ∈ ns := fun c => (h c).trans (o.2 c).symm
  match ns, o.1, hm with
  | [], _, hm => exact List.eq_nil_iff_forall_not_mem.mpr fun c hc => List.not_mem_nil ((hm c).mp hc)
  | [x], _, hm =>
    match ks, nd, hm with
    | [], _, hm => exact absurd ((hm x).mpr (List.mem_singleton.mpr rfl)) (List.not_mem_nil)
    | [y], _, hm => rw [List.mem_singleton.mp ((hm y).mp (List.mem_singleton.mpr rfl))]
    | y :: z :: r, nd, hm =>
      have h1 := List.mem_singleton.mp ((hm y).mp (List.mem_cons_self ..))
      have h2 := List.mem_singleton.mp ((hm z).mp (List.mem_cons_of_mem _ (List.mem_cons_self ..)))
      rw [h1, h2] at nd
      exact absurd (List.mem_cons_self ..) (List.nodup_cons.mp nd).1
theorem perm_one {ns ms : List Chs} (h : ns.length ≤ 1) (p : ms.Perm ns) : ms = ns := by
  match ns, h, p with
  | [], _, p => exact List.perm_nil.mp p
  | [x], _, p => exact List.perm_singleton.mp p
section
variable {K : PySem.W.Frag} {CB CM CN : Addr} {H : Hp} {Q : VK} {E : XK}
theorem cj_ok {u : Chs} {g : Nat → Bool} {t : Tr} (h : Pc u g t.tk) (wf : t.WF) (hd : t.dep ≤ 20) (hl : u.length ≤ 100000) (hr : t.rpn.length ≤ 100000) {ns : List Chs} (o : One ns t.rpn) {p : Pt} (run : runW (2 ^ ns.length) (tmOf ns) t.rpn [] = .ok [p]) (okw : okW (2 ^ ns.length) (tmOf ns) t.rpn [])
    (lw : (wtsIn p (2 ^ ns.length)).length = 2 ^ ns.length) (q : ∀ v H', Same H H' → Dp K H' v (cjD (cjOf ns (wtsIn p (2 ^ ns.length)))) → Q v H') : spCj K CB CM CN [.str (txt u)] H Q E := by
  obtain ⟨ts, e1, e2, e3⟩ := read_all sg_none h wf hd 0
  have nb := h.nb [] (fun c hc => by cases hc) (fun q => by rw [List.drop_nil, runL_nil]; exact Nat.zero_le _)
  rw [List.append_nil] at nb
  have tl : ts.length = t.rpn.length := by rw [← e1, List.length_map]
  refine ⟨u, rfl, by omega, nb, fun q0 e => ?_, fun S q0 e => ?_⟩
  · rw [e3] at e; cases e
  rw [e3] at e
  injection e with e4 e5
  subst e4
  refine ⟨by rw [List.length_map]; omega, ts, rfl, fun x hx => ?_, fun ks nk mk => ?_⟩
  · have := e2 x hx
    omega
  have ek := one_eq o nk (fun c => by rw [mk c, nms_b e1])
  subst ek
  refine ⟨fun h5 => absurd o.1 (by omega), fun ms pm _ _ => ?_⟩
  have em := perm_one o.1 pm
  subst em
  rw [← e1] at run okw
  obtain ⟨r1, r2⟩ := runW_bare run okw
  rw [r1]
  exact ⟨r2, lw, q⟩
theorem rc_ok {u1 u2 s : Chs} {g1 g2 : Nat → Bool} {t1 t2 : Tr} (h1 : Pc u1 g1 t1.tk) (h2 : Pc u2 g2 t2.tk) (wf1 : t1.WF) (wf2 : t2.WF) (d1 : t1.dep ≤ 20) (d2 : t2.dep ≤ 20) (l1 : u1.length ≤ 100000) (l2 : u2.length ≤ 100000) (r1 : t1.rpn.length ≤ 100000) (r2 : t2.rpn.length ≤ 100000)
    (hs : sgl.contains s = true) (sl : s.length ≤ 2) (sd : ∀ c ∈ s, isDig c = false) (hg : ∀ c, s.head? = some c → g1 c = true) (ht : tokL (s ++ u2) = some s.length) (hb : s.head? ≠ some 32)
    {ns : List Chs} (o : One ns (t1.rpn ++ t2.rpn)) {p1 p2 : Pt} (run1 : runW (2 ^ ns.length) (tmOf ns) t1.rpn [] = .ok [p1]) (ok1 : okW (2 ^ ns.length) (tmOf ns) t1.rpn []) (run2 : runW (2 ^ ns.length) (tmOf ns) t2.rpn [] = .ok [p2]) (ok2 : okW (2 ^ ns.length) (tmOf ns) t2.rpn [])
    (w1 : (wtsIn p1 (2 ^ ns.length)).length = 2 ^ ns.length) (w2 : (wtsIn p2 (2 ^ ns.length)).length = 2 ^ ns.length) (q : RcOk K H Q ns (clW s (wtsIn p1 (2 ^ ns.length)) (wtsIn p2 (2 ^ ns.length)) (2 ^ ns.length)) (clS s)) : spRc K CB CM CN [.str (txt (u1 ++ (s ++ u2)))] H Q E := by
  have ne : s ≠ [] := by
    rintro rfl
    exact absurd hs (by decide)
  have sp : 1 ≤ s.length := List.length_pos_iff.mpr ne
  obtain ⟨ts, e1, e2, e3⟩ := read_to sg_cl h1 wf1 d1 hs hg ne ht hb 0
  obtain ⟨us, f1, f2, f3⟩ := read_all sg_none h2 wf2 d2 (0 + u1.length + s.length)
  have nb2 := h2.nb [] (fun c hc => by cases hc) (fun q => by rw [List.drop_nil, runL_nil]; exact Nat.zero_le _)
  rw [List.append_nil] at nb2
  have nb1 := (Nb.plain (u := s) (g := gAny) sd) u2 (fun _ _ => rfl) nb2
  have nb := h1.nb (s ++ u2) (fun c hc => hg c (by cases s with | nil => exact absurd rfl ne | cons d r => exact hc)) nb1
  have tl : ts.length = t1.rpn.length := by rw [← e1, List.length_map]
  have ul : us.length = t2.rpn.length := by rw [← f1, List.length_map]
  have ll : (u1 ++ (s ++ u2)).length = u1.length + (s.length + u2.length) := by rw [List.length_append, List.length_append]
  refine ⟨_, rfl, by omega, nb, fun q0 e => ?_, fun S q0 e => ?_⟩
  · rw [e3] at e; cases e
  rw [e3] at e
  injection e with e4 e5
  subst e4 e5
  refine ⟨fun z => absurd z (by omega), fun _ => ?_⟩
  have dr : (u1 ++ (s ++ u2)).drop (0 + u1.length) = s ++ u2 := by rw [Nat.zero_add, List.drop_left]
  have dr2 : (u1 ++ (s ++ u2)).drop (0 + u1.length + s.length) = u2 := by rw [← List.drop_drop, dr, List.drop_left]
  rw [dr, ht]
  refine ⟨fun q2 e => ?_, fun S2 q2 e => ?_⟩
  · rw [dr2, f3] at e; cases e
  rw [dr2, f3] at e
  injection e with e4 e5
  subst e4
  refine ⟨by rw [List.length_map, List.length_map]; omega, ts, us, rfl, rfl, fun x hx => ?_, fun x hx => ?_, fun ks nk mk => ?_⟩
  · have := e2 x hx
    omega
  · have := f2 x hx
    omega
  have ek := one_eq o nk (fun c => by
    rw [mk c]
    have : (ts ++ us).map Ts.bare = t1.rpn ++ t2.rpn := by rw [List.map_append, e1, f1]
    rw [nms_b this])
  subst ek
  refine ⟨fun h5 => absurd o.1 (by omega), fun ms pm _ _ => ?_⟩
  have em := perm_one o.1 pm
  subst em
  rw [← e1] at run1 ok1
  rw [← f1] at run2 ok2
  obtain ⟨a1, a2⟩ := runW_bare run1 ok1
  obtain ⟨b1, b2⟩ := runW_bare run2 ok2
  rw [List.take_left, a1, b1]
  exact ⟨a2, b2, w1, w2, q⟩
end
end Fb
namespace Fb
open PySem PySem.Spec PyProof.Rows L2 NdefX PySem.NumText
/-- a tree's part -/
def Ev (m : Nat) (tm : Chs → Option Int) (t : Tr) (p : Pt) : Prop := PB m p ∧ ∀ ps : List Pt, (∀ x ∈ ps, PB m x) → runW m tm t.rpn ps = .ok (p :: ps) ∧ okW m tm t.rpn ps
theorem pb_cons {m : Nat} {p : Pt} {ps : List Pt} (h : PB m p) (g : ∀ x ∈ ps, PB m x) : ∀ x ∈ p :: ps, PB m x := fun x hx => (List.mem_cons.mp hx).elim (fun e => e ▸ h) (g x)
theorem Ev.bt {m : Nat} {tm : Chs → Option Int} {s : Chs} {l r : Tr} {a b p : Pt} (h1 : Ev m tm l a) (h2 : Ev m tm r b) (e : pBetw s a b m = some p) (pb : PB m p) : Ev m tm (.bt s l r) p := by
  refine ⟨pb, fun ps hp => ?_⟩
  obtain ⟨x1, x2⟩ := h1.2 ps hp
  obtain ⟨y1, y2⟩ := h2.2 (a :: ps) (pb_cons h1.1 hp)
  have st : stepW m tm (.bt s 0) (b :: a :: ps) = .ok (p :: ps) := by
    show (match pBetw s a b m with
      | some p => Wr.ok (p :: ps)
      | none => .err 0) = _
    rw [e]
  refine ⟨?_, okW_app m tm l.rpn _ ps _ x1 x2 (okW_app m tm r.rpn _ _ _ y1 y2 ?_)⟩
  · show runW m tm (l.rpn ++ (r.rpn ++ [.bt s 0])) ps = _
    rw [runW_app m tm _ _ _ _ x1, runW_app m tm _ _ _ _ y1, runW_cons, st]
    rfl
  · rw [okW_cons, st]
    exact ⟨pb_cons pb hp, trivial⟩
theorem Ev.ah {m : Nat} {tm : Chs → Option Int} {s : Chs} {t : Tr} {a : Pt} (h : Ev m tm t a) (pb : PB m (pAhead s a m)) : Ev m tm (.ah s t) (pAhead s a m) := by
  refine ⟨pb, fun ps hp => ?_⟩
  obtain ⟨x1, x2⟩ := h.2 ps hp
  have st : stepW m tm (.ah s 0) (a :: ps) = .ok (pAhead s a m :: ps) := rfl
  refine ⟨?_, okW_app m tm t.rpn _ ps _ x1 x2 ?_⟩
  · show runW m tm (t.rpn ++ [.ah s 0]) ps = _
    rw [runW_app m tm _ _ _ _ x1, runW_cons, st]
    rfl
  · rw [okW_cons, st]
    exact ⟨pb_cons pb hp, trivial⟩
theorem Ev.par {m : Nat} {tm : Chs → Option Int} {t : Tr} {p : Pt} (h : Ev m tm t p) : Ev m tm (.par t) p := h
theorem Ev.nam {m : Nat} {tm : Chs → Option Int} {s : Chs} {b : Int} (e : tm s = some b) (pb : PB m (.bits b)) : Ev m tm (.nam s) (.bits b) := by
  refine ⟨pb, fun ps hp => ?_⟩
  have st : stepW m tm (.nam s 0) ps = .ok (.bits b :: ps) := by
    show (match tm s with
      | some b => Wr.ok (.bits b :: ps)
      | none => .bad) = _
    rw [e]
  refine ⟨?_, ?_⟩
  · show runW m tm [.nam s 0] ps = _
    rw [runW_cons, st]
    rfl
  · show okW m tm [.nam s 0] ps
    rw [okW_cons, st]
    exact ⟨pb_cons pb hp, trivial⟩
theorem Ev.pa {m : Nat} {tm : Chs → Option Int} {P : Pa} (ok : P.ok) (hb : P.bnd ≤ 5000) : Ev m tm P.tr (.whole P.val) := by
  refine ⟨?_, fun ps hp => ?_⟩
  · obtain ⟨_, _, h⟩ := run_pa P ok (by omega) m tm [] (fun _ h => absurd h (List.not_mem_nil))
    exact pb_whole (Nat.lt_of_lt_of_le h (pow_up (by omega)))
  · obtain ⟨a, b, _⟩ := run_pa P ok (by omega) m tm ps hp
    exact ⟨a, b⟩
theorem pb2 {a b : Int} (ha : a.natAbs < 2 ^ 5010) (hb : b.natAbs < 2 ^ 5010) : PB 2 (.sum [a, b]) := by
  have up : (2 : Nat) ^ 5010 ≤ 2 ^ 200000 := pow_up (by decide)
  refine ⟨fun w hw => ?_, rfl, trivial⟩
  have hw : w = a ∨ w = b := by simpa [wtsIn] using hw
  rcases hw with rfl | rfl
  · exact Nat.lt_of_lt_of_le ha up
  · exact Nat.lt_of_lt_of_le hb up
theorem bt01 (r : Nat) (b : Int) : (Bt r b).natAbs < 2 ^ 200000 := by
  have : (1 : Nat) < 2 ^ 200000 := Nat.one_lt_two_pow (by decide)
  rcases bt_01 r b with e | e <;> rw [e]
  · exact Nat.lt_trans Nat.zero_lt_one this
  · exact this
theorem pbb (b : Int) : PB 2 (.bits b) := by
  refine ⟨fun w hw => ?_, by show ((List.range 2).map fun r => Bt r b).length = 2; rw [List.length_map, List.length_range], trivial⟩
  obtain ⟨r, _, rfl⟩ := List.mem_map.mp hw
  exact bt01 r b
def bareL (v : Int) : List (List Chs × Int) := if v = 0 then [] else [([], v)]
theorem cj0 (v : Int) : cjOf [] [-v] = bareL v := by
  show (List.filterMap (cjP [] [-v]) [[]]) = _
  have e0 : cjP [] [-v] [] = if (-(-v) : Int) ≠ 0 then some (([] : List Chs), -(-v)) else none := rfl
  rw [List.filterMap_cons, e0, List.filterMap_nil, Int.neg_neg]
  unfold bareL
  by_cases h : v = 0
  · rw [if_pos h, if_neg (fun z => z h)]
  · rw [if_neg h, if_pos h]
theorem hd1 {g : Nat → Bool} {c : Nat} {r : Chs} (h : g c = true) : ∀ d, (c :: r).head? = some d → g d = true := fun d hd => by
  have : c = d := by injection hd
  exact this ▸ h
theorem cj1 (x : Chs) (a b : Int) : cjOf [x] [a, b] = bareL (-a) ++ if b - a = 0 then [] else [([x], b - a)] := by
  have e : cfs 1 [a, b] = [-a, b - a] := rfl
  show (List.filterMap (cjP [x] [a, b]) [[], [0]]) = _
  have e0 : cjP [x] [a, b] [] = if (-a : Int) ≠ 0 then some (([] : List Chs), -a) else none := rfl
  have e1 : cjP [x] [a, b] [0] = if (b - a : Int) ≠ 0 then some ([x], b - a) else none := rfl
  rw [List.filterMap_cons, e0, List.filterMap_cons, e1, List.filterMap_nil]
  unfold bareL
  by_cases h : -a = 0
  · rw [if_neg (fun z => z h), if_pos h]
    by_cases g : b - a = 0
    · rw [if_neg (fun z => z g), if_pos g]; rfl
    · rw [if_pos g, if_neg g]; rfl
  · rw [if_pos h, if_neg h]
    by_cases g : b - a = 0
    · rw [if_neg (fun z => z g), if_pos g]; rfl
    · rw [if_pos g, if_neg g]; rfl
theorem tm1 (x : Chs) : tmOf [x] x = some 2 := by
  unfold tmOf
  rw [if_pos (List.mem_singleton.mpr rfl), List.idxOf_cons_self]
  show some (rowsW 0 2) = some 2
  decide +kernel
/-- what is asked of a part in the texts below -/
structure PaOk (R : Pa) : Prop where
  ok : R.ok
  dp : R.dp ≤ 4
  bnd : R.bnd ≤ 5000
  tl : R.tx.length ≤ 600
  vb : R.val.natAbs < 2 ^ 5000
def isOne (u : Chs) (t : Tr) (ns : List Chs) (p : Pt) : Prop := ∃ g, Pc u g t.tk ∧ t.WF ∧ t.dep ≤ 20 ∧ u.length ≤ 10000 ∧ t.rpn.length ≤ 10000 ∧ One ns t.rpn ∧ Ev (2 ^ ns.length) (tmOf ns) t p
theorem dep8 {R : Pa} (h : PaOk R) : R.tr.dep ≤ 8 := Nat.le_trans (dep_pa R) (by have := h.dp; omega)
theorem one_nil {r : List Ts} (h : nmsOf r = []) : One [] r := ⟨Nat.zero_le _, fun c => by rw [h]⟩
/-- the text of a part -/
theorem is_pa {R : Pa} (h : PaOk R) : isOne R.tx R.tr [] (.whole R.val) := by
  have := dep8 h
  have := h.tl
  have := rpn_len R h.ok
  exact ⟨_, pc_pa R h.ok, wf_pa R h.ok, by omega, by omega, by omega, one_nil (nms_pa R), Ev.pa h.ok h.bnd⟩
section
variable {K : PySem.W.Frag} {CB CM CN : Addr} {H : Hp} {Q : VK} {E : XK}
theorem cj_one {u : Chs} {t : Tr} {ns : List Chs} {p : Pt} (h : isOne u t ns p) (q : ∀ v H', Same H H' → Dp K H' v (cjD (cjOf ns (wtsIn p (2 ^ ns.length)))) → Q v H') : spCj K CB CM CN [.str (txt u)] H Q E := by
  obtain ⟨g, h1, h2, h3, h4, h5, h6, h7⟩ := h
  obtain ⟨r1, r2⟩ := h7.2 [] (fun _ h => absurd h (List.not_mem_nil))
  exact cj_ok h1 h2 h3 (by omega) (by omega) h6 r1 r2 h7.1.2.1 q
end
theorem tk_bt (s : Chs) (l r : Tr) : (Tr.bt s l r).tk = l.tk ++ [s] ++ r.tk := by
  show l.tk ++ s :: r.tk = _
  simp
theorem nms_app (a b : List Ts) : nmsOf (a ++ b) = nmsOf a ++ nmsOf b := List.filterMap_append
theorem rl_bt (s : Chs) (l r : Tr) : (Tr.bt s l r).rpn.length = l.rpn.length + r.rpn.length + 1 := by
  show (l.rpn ++ (r.rpn ++ [Ts.bt s 0])).length = _
  rw [List.length_append, List.length_append]
  rfl
theorem nm_bt (s : Chs) (l r : Tr) : nmsOf (Tr.bt s l r).rpn = nmsOf l.rpn ++ nmsOf r.rpn := by
  show nmsOf (l.rpn ++ (r.rpn ++ [Ts.bt s 0])) = _
  rw [nms_app, nms_app]
  show _ ++ (_ ++ []) = _
  rw [List.append_nil]
def xN : Chs := [120]
def yN : Chs := [121]
theorem pc_x : Pc xN gNl [xN] := Pc.let1 (by decide)
theorem pc_y : Pc yN gNl [yN] := Pc.let1 (by decide)
/-- x * part and part * x -/
theorem mu_x {R : Pa} (h : PaOk R) : Ev 2 (tmOf [xN]) (.bt [42] (.nam xN) R.tr) (.sum [0 * R.val, 1 * R.val]) ∧ Ev 2 (tmOf [xN]) (.bt [42] R.tr (.nam xN)) (.sum [0 * R.val, 1 * R.val]) := by
  have ex := Ev.nam (m := 2) (tm1 xN) (pbb 2)
  have er := Ev.pa (m := 2) (tm := tmOf [xN]) h.ok h.bnd
  have vb := h.vb
  have up : (2 : Nat) ^ 5000 ≤ 2 ^ 5010 := pow_up (by decide)
  have pb : PB 2 (.sum [0 * R.val, 1 * R.val]) := pb2 (by rw [Int.zero_mul]; exact Nat.two_pow_pos _) (by rw [Int.one_mul]; omega)
  exact ⟨ex.bt er rfl pb, er.bt ex rfl pb⟩
theorem sum_up {a b : Int} (ha : a.natAbs < 2 ^ 5000) (hb : b.natAbs < 2 ^ 5000) : (a + b).natAbs < 2 ^ 5010 ∧ (a - b).natAbs < 2 ^ 5010 ∧ a.natAbs < 2 ^ 5010 ∧ b.natAbs < 2 ^ 5010 := by
  have up : (2 : Nat) ^ 5000 * 4 ≤ 2 ^ 5010 := Nat.le_trans (by rw [show (4 : Nat) = 2 ^ 2 from rfl, ← Nat.pow_add]; exact Nat.le_refl _) (pow_up (by decide : 5002 ≤ 5010))
  omega
/-- part + x*part -/
theorem is_due1 {P R : Pa} (hp : PaOk P) (hr : PaOk R) : isOne (P.tx ++ [32] ++ [43] ++ [32] ++ xN ++ [42] ++ R.tx) (.bt [43] P.tr (.bt [42] (.nam xN) R.tr)) [xN] (.sum [-P.val + 1 * (0 * R.val), -P.val + 1 * (1 * R.val)]) := by
  have hh := hd_pa R hr.ok
  have dp := dep8 hp
  have dr := dep8 hr
  have l1 := rpn_len P hp.ok
  have l2 := rpn_len R hr.ok
  have t1 := hp.tl
  have t2 := hr.tl
  have a := ((((((pc_pa P hp.ok).app Pc.blank (nd_of (by decide)) (by decide)).app (Pc.one (c := 43) (by decide)) (fun _ _ => rfl) (by decide)).app Pc.blank (fun _ _ => rfl) (by decide)).app pc_x (fun _ _ => rfl) (by decide)).app Pc.star (hd1 (by decide)) (by decide)).app (pc_pa R hr.ok) (hh.gne _ fun d hd => by rw [List.mem_singleton.mp hd]; decide) hh.ne
  refine ⟨gNd, ?_, ⟨⟨5, by decide, by decide⟩, by rw [(lo_pa P).1]; decide, (by show 5 < 6; decide), wf_pa P hp.ok, ⟨6, by decide, by decide⟩, (by show 6 ≤ 9; decide), (by rw [(lo_pa R).1]; decide), (by show isNm xN = true; decide), wf_pa R hr.ok⟩, ?_, ?_, ?_, ⟨Nat.le_refl 1, fun c => ?_⟩, ?_⟩
  · rw [tk_bt, tk_bt]
    have : P.tr.tk ++ [[43]] ++ ((Tr.nam xN).tk ++ [[42]] ++ R.tr.tk) = P.tr.tk ++ [] ++ [[43]] ++ [] ++ [xN] ++ [[42]] ++ R.tr.tk := by
      show P.tr.tk ++ [[43]] ++ ([xN] ++ [[42]] ++ R.tr.tk) = _
      simp
    rw [this]
    exact a
  · show max P.tr.dep (max 0 R.tr.dep) ≤ 20
    omega
  · simp only [List.length_append, List.length_cons, List.length_nil, xN]
    omega
  · rw [rl_bt, rl_bt]
    show _ + (1 + _ + 1) + 1 ≤ 10000
    omega
  · rw [nm_bt, nm_bt, nms_pa, nms_pa]
    exact Iff.rfl
  · obtain ⟨s1, s2, s3, s4⟩ := sum_up (show (-P.val).natAbs < 2 ^ 5000 by rw [Int.natAbs_neg]; exact hp.vb) hr.vb
    exact (Ev.pa hp.ok hp.bnd).bt (mu_x hr).1 rfl (pb2 (by rw [Int.zero_mul, Int.mul_zero, Int.add_zero]; exact s3) (by rw [Int.one_mul, Int.one_mul]; exact s1))
/-- part * x + part -/
theorem is_due2 {P R : Pa} (hp : PaOk P) (hr : PaOk R) : isOne (R.tx ++ [32] ++ [42] ++ [32] ++ xN ++ [32] ++ [43] ++ [32] ++ P.tx) (.bt [43] (.bt [42] R.tr (.nam xN)) P.tr) [xN] (.sum [0 * R.val + 1 * (-P.val), 1 * R.val + 1 * (-P.val)]) := by
  have hh := hd_pa P hp.ok
  have dp := dep8 hp
  have dr := dep8 hr
  have l1 := rpn_len P hp.ok
  have l2 := rpn_len R hr.ok
  have t1 := hp.tl
  have t2 := hr.tl
  have a := ((((((((pc_pa R hr.ok).app Pc.blank (hd1 (by decide)) (by decide)).app Pc.star (fun _ _ => rfl) (by decide)).app Pc.blank (hd1 (by decide)) (by decide)).app pc_x (fun _ _ => rfl) (by decide)).app Pc.blank (hd1 (by decide)) (by decide)).app (Pc.one (c := 43) (by decide)) (fun _ _ => rfl) (by decide)).app Pc.blank (fun _ _ => rfl) (by decide)).app (pc_pa P hp.ok) hh.any hh.ne
  refine ⟨gNd, ?_, ⟨⟨5, by decide, by decide⟩, (by show 5 ≤ 6; decide), (by rw [(lo_pa P).1]; decide), ⟨⟨6, by decide, by decide⟩, (by rw [(lo_pa R).1]; decide), (by show 6 < 9; decide), wf_pa R hr.ok, (by show isNm xN = true; decide)⟩, wf_pa P hp.ok⟩, ?_, ?_, ?_, ⟨Nat.le_refl 1, fun c => ?_⟩, ?_⟩
  · rw [tk_bt, tk_bt]
    have : R.tr.tk ++ [[42]] ++ (Tr.nam xN).tk ++ [[43]] ++ P.tr.tk = R.tr.tk ++ [] ++ [[42]] ++ [] ++ [xN] ++ [] ++ [[43]] ++ [] ++ P.tr.tk := by
      show R.tr.tk ++ [[42]] ++ [xN] ++ [[43]] ++ P.tr.tk = _
      simp
    rw [this]
    exact a
  · show max (max R.tr.dep 0) P.tr.dep ≤ 20
    omega
  · simp only [List.length_append, List.length_cons, List.length_nil, xN]
    omega
  · rw [rl_bt, rl_bt]
    show (_ + 1 + 1) + _ + 1 ≤ 10000
    omega
  · rw [nm_bt, nm_bt, nms_pa, nms_pa]
    exact Iff.rfl
  · obtain ⟨s1, s2, s3, s4⟩ := sum_up (show (-P.val).natAbs < 2 ^ 5000 by rw [Int.natAbs_neg]; exact hp.vb) hr.vb
    exact (mu_x hr).2.bt (Ev.pa hp.ok hp.bnd) rfl (pb2 (by rw [Int.zero_mul, Int.one_mul, Int.zero_add]; exact s3) (by rw [Int.one_mul, Int.one_mul, Int.add_comm]; exact s1))
/-- x*part - ~part -/
theorem is_more {P R : Pa} (hp : PaOk P) (hr : PaOk R) : isOne (xN ++ [42] ++ R.tx ++ [32] ++ [45] ++ [32] ++ [126] ++ P.tx) (.bt [45] (.bt [42] (.nam xN) R.tr) (.ah [126] P.tr)) [xN] (.sum [0 * R.val + -1 * (-(-P.val - 1)), 1 * R.val + -1 * (-(-P.val - 1))]) := by
  have hh := hd_pa R hr.ok
  have hh2 := hd_pa P hp.ok
  have dp := dep8 hp
  have dr := dep8 hr
  have l1 := rpn_len P hp.ok
  have l2 := rpn_len R hr.ok
  have t1 := hp.tl
  have t2 := hr.tl
  have a := ((((((pc_x.app Pc.star (hd1 (by decide)) (by decide)).app (pc_pa R hr.ok) (hh.gne _ fun d hd => by rw [List.mem_singleton.mp hd]; decide) hh.ne).app Pc.blank (hd1 (by decide)) (by decide)).app (Pc.one (c := 45) (by decide)) (fun _ _ => rfl) (by decide)).app Pc.blank (fun _ _ => rfl) (by decide)).app (Pc.one (c := 126) (by decide)) (fun _ _ => rfl) (by decide)).app (pc_pa P hp.ok) hh2.any hh2.ne
  refine ⟨gNd, ?_, ⟨⟨5, by decide, by decide⟩, (by show 5 ≤ 6; decide), (by show 5 < 7; decide), ⟨⟨6, by decide, by decide⟩, (by show 6 ≤ 9; decide), (by rw [(lo_pa R).1]; decide), (by show isNm xN = true; decide), wf_pa R hr.ok⟩, ⟨.inr (.inr rfl), (by rw [(lo_pa P).1]; decide), wf_pa P hp.ok⟩⟩, ?_, ?_, ?_, ⟨Nat.le_refl 1, fun c => ?_⟩, ?_⟩
  · rw [tk_bt, tk_bt]
    have : (Tr.nam xN).tk ++ [[42]] ++ R.tr.tk ++ [[45]] ++ (Tr.ah [126] P.tr).tk = [xN] ++ [[42]] ++ R.tr.tk ++ [] ++ [[45]] ++ [] ++ [[126]] ++ P.tr.tk := by
      show [xN] ++ [[42]] ++ R.tr.tk ++ [[45]] ++ ([126] :: P.tr.tk) = _
      simp
    rw [this]
    exact a
  · show max (max 0 R.tr.dep) (1 + P.tr.dep) ≤ 20
    omega
  · simp only [List.length_append, List.length_cons, List.length_nil, xN]
    omega
  · rw [rl_bt, rl_bt]
    show (1 + _ + 1) + (P.tr.rpn ++ [Ts.ah [126] 0]).length + 1 ≤ 10000
    rw [List.length_append]
    show (1 + _ + 1) + (_ + 1) + 1 ≤ 10000
    omega
  · rw [nm_bt, nm_bt, nms_pa]
    show c ∈ [xN] ↔ c ∈ ([xN] ++ []) ++ nmsOf (P.tr.rpn ++ [Ts.ah [126] 0])
    rw [nms_app, nms_pa]
    exact Iff.rfl
  · have up : (2 : Nat) ^ 5000 * 4 ≤ 2 ^ 5010 := Nat.le_trans (by rw [show (4 : Nat) = 2 ^ 2 from rfl, ← Nat.pow_add]; exact Nat.le_refl _) (pow_up (by decide : 5002 ≤ 5010))
    have v1 := hp.vb
    have v2 := hr.vb
    have p1 : 1 ≤ (2 : Nat) ^ 5000 := Nat.one_le_two_pow
    have ea : Ev 2 (tmOf [xN]) (.ah [126] P.tr) (.whole (-P.val - 1)) := Ev.ah (s := [126]) (Ev.pa (m := 2) hp.ok hp.bnd) (pb_whole (Nat.lt_of_lt_of_le (show (-P.val - 1).natAbs < 2 ^ 5010 by omega) (pow_up (by decide))))
    exact (mu_x hr).1.bt ea rfl (pb2 (by omega) (by omega))
/-- (part - part) -/
def zTx (P : Pa) : Chs := [40] ++ P.tx ++ [32] ++ [45] ++ [32] ++ P.tx ++ [41]
def zTr (P : Pa) : Tr := (Pa.bin 45 P P).tr
theorem z_pc {P : Pa} (hp : PaOk P) : Pc (zTx P) gNd (zTr P).tk := by
  have hh := hd_pa P hp.ok
  have a := ((((((Pc.one (c := 40) (by decide)).app (pc_pa P hp.ok) hh.any hh.ne).app Pc.blank (hd1 (by decide)) (by decide)).app (Pc.one (c := 45) (by decide)) (fun _ _ => rfl) (by decide)).app Pc.blank (fun _ _ => rfl) (by decide)).app (pc_pa P hp.ok) hh.any hh.ne).app (Pc.one (c := 41) (by decide)) (hd1 (by decide)) (by decide)
  have e2 : (zTr P).tk = [[40]] ++ P.tr.tk ++ [] ++ [[45]] ++ [] ++ P.tr.tk ++ [[41]] := by
    show [40] :: ((P.tr.tk ++ [45] :: P.tr.tk) ++ [[41]]) = _
    simp
  rw [e2]
  exact a.weak any_nd
theorem z_hd (P : Pa) : Hd (zTx P) := ⟨40, [] ++ P.tx ++ [32] ++ [45] ++ [32] ++ P.tx ++ [41], rfl, .inr rfl⟩
theorem z_ok {P : Pa} (hp : PaOk P) (hb : P.bnd ≤ 2400) : (Pa.bin 45 P P).ok ∧ (Pa.bin 45 P P).bnd ≤ 5000 := ⟨⟨by decide, hp.ok, hp.ok⟩, by show P.bnd + P.bnd + 3 ≤ 5000; omega⟩
theorem z_ev {P : Pa} (hp : PaOk P) (hb : P.bnd ≤ 2400) {m : Nat} {tm : Chs → Option Int} : Ev m tm (zTr P) (.whole 0) := by
  obtain ⟨a, b⟩ := z_ok hp hb
  have := Ev.pa (m := m) (tm := tm) a b
  have e : (Pa.bin 45 P P).val = 0 := by
    show P.val - P.val = 0
    omega
  rw [e] at this
  exact this
theorem z_dep {P : Pa} (hp : PaOk P) : (zTr P).dep ≤ 9 := by
  have := dep8 hp
  show 1 + max P.tr.dep P.tr.dep ≤ 9
  omega
theorem z_len {P : Pa} (hp : PaOk P) : (zTx P).length ≤ 1210 ∧ (zTr P).rpn.length ≤ 1210 := by
  have t1 := hp.tl
  have l1 := rpn_len P hp.ok
  constructor
  · unfold zTx
    simp only [List.length_append, List.length_cons, List.length_nil]
    omega
  · show (P.tr.rpn ++ (P.tr.rpn ++ [Ts.bt [45] 0])).length ≤ 1210
    rw [List.length_append, List.length_append]
    show _ + (_ + 1) ≤ 1210
    omega
theorem z_nm (P : Pa) : nmsOf (zTr P).rpn = [] := nms_pa (.bin 45 P P)
theorem z_lo (P : Pa) : (zTr P).lo = 9 := rfl
theorem z_wf {P : Pa} (hp : PaOk P) (hb : P.bnd ≤ 2400) : (zTr P).WF := wf_pa _ (z_ok hp hb).1
theorem ev_til0 {P : Pa} (hp : PaOk P) (hb : P.bnd ≤ 2400) {m : Nat} {tm : Chs → Option Int} : Ev m tm (.ah [126] (zTr P)) (.whole (-1)) := by
  have := Ev.ah (s := [126]) (z_ev (m := m) (tm := tm) hp hb) (pb_whole (show (-0 - 1 : Int).natAbs < 2 ^ 200000 from Nat.one_lt_two_pow (by decide)))
  exact this
/-- y ^ ~zero -/
theorem is_y {P : Pa} (hp : PaOk P) (hb : P.bnd ≤ 2400) : isOne (yN ++ [32] ++ [94] ++ [32] ++ [126] ++ zTx P) (.bt [94] (.nam yN) (.ah [126] (zTr P))) [yN] (.bits (Builtin.bitXor 2 (-1))) := by
  have hh := z_hd P
  have dp := z_dep hp
  obtain ⟨t1, t2⟩ := z_len hp
  have a := ((((pc_y.app Pc.blank (hd1 (by decide)) (by decide)).app (Pc.one (c := 94) (by decide)) (fun _ _ => rfl) (by decide)).app Pc.blank (fun _ _ => rfl) (by decide)).app (Pc.one (c := 126) (by decide)) (fun _ _ => rfl) (by decide)).app (z_pc hp) hh.any hh.ne
  refine ⟨gNd, ?_, ⟨⟨2, by decide, by decide⟩, (by show 2 ≤ 9; decide), (by show 2 < 7; decide), (by show isNm yN = true; decide), ⟨.inr (.inr rfl), (by rw [z_lo]; decide), z_wf hp hb⟩⟩, ?_, ?_, ?_, ⟨Nat.le_refl 1, fun c => ?_⟩, ?_⟩
  · rw [tk_bt]
    have : (Tr.nam yN).tk ++ [[94]] ++ (Tr.ah [126] (zTr P)).tk = [yN] ++ [] ++ [[94]] ++ [] ++ [[126]] ++ (zTr P).tk := by
      show [yN] ++ [[94]] ++ ([126] :: (zTr P).tk) = _
      simp
    rw [this]
    exact a
  · show max 0 (1 + (zTr P).dep) ≤ 20
    omega
  · simp only [List.length_append, List.length_cons, List.length_nil, yN]
    omega
  · rw [rl_bt]
    show 1 + ((zTr P).rpn ++ [Ts.ah [126] 0]).length + 1 ≤ 10000
    rw [List.length_append]
    show 1 + (_ + 1) + 1 ≤ 10000
    omega
  · rw [nm_bt]
    show c ∈ [yN] ↔ c ∈ [yN] ++ nmsOf ((zTr P).rpn ++ [Ts.ah [126] 0])
    rw [nms_app, z_nm]
    exact Iff.rfl
  · exact (Ev.nam (tm1 yN) (pbb 2)).bt (ev_til0 hp hb) rfl (pbb _)
/-- (x | zero) + (~zero & x) -/
theorem is_two {P : Pa} (hp : PaOk P) (hb : P.bnd ≤ 2400) : isOne ([40] ++ xN ++ [32] ++ [124] ++ [32] ++ zTx P ++ [41] ++ [32] ++ [43] ++ [32] ++ [40] ++ [126] ++ zTx P ++ [32] ++ [38] ++ [32] ++ xN ++ [41]) (.bt [43] (.par (.bt [124] (.nam xN) (zTr P))) (.par (.bt [38] (.ah [126] (zTr P)) (.nam xN)))) [xN] (.sum [0, 2]) := by
  have hh := z_hd P
  have dp := z_dep hp
  obtain ⟨t1, t2⟩ := z_len hp
  have a := ((((((Pc.one (c := 40) (by decide)).app pc_x (fun _ _ => rfl) (by decide)).app Pc.blank (hd1 (by decide)) (by decide)).app (Pc.one (c := 124) (by decide)) (fun _ _ => rfl) (by decide)).app Pc.blank (fun _ _ => rfl) (by decide)).app (z_pc hp) hh.any hh.ne).app (Pc.one (c := 41) (by decide)) (hd1 (by decide)) (by decide)
  have b := (((((a.app Pc.blank (fun _ _ => rfl) (by decide)).app (Pc.one (c := 43) (by decide)) (fun _ _ => rfl) (by decide)).app Pc.blank (fun _ _ => rfl) (by decide)).app (Pc.one (c := 40) (by decide)) (fun _ _ => rfl) (by decide)).app (Pc.one (c := 126) (by decide)) (fun _ _ => rfl) (by decide)).app (z_pc hp) hh.any hh.ne
  have d := ((((b.app Pc.blank (hd1 (by decide)) (by decide)).app (Pc.one (c := 38) (by decide)) (fun _ _ => rfl) (by decide)).app Pc.blank (fun _ _ => rfl) (by decide)).app pc_x (fun _ _ => rfl) (by decide)).app (Pc.one (c := 41) (by decide)) (hd1 (by decide)) (by decide)
  refine ⟨gAny, ?_, ⟨⟨5, by decide, by decide⟩, (by show 5 ≤ 9; decide), (by show 5 < 9; decide), ⟨⟨1, by decide, by decide⟩, (by show 1 ≤ 9; decide), (by rw [z_lo]; decide), (by show isNm xN = true; decide), z_wf hp hb⟩, ⟨⟨3, by decide, by decide⟩, (by show 3 ≤ 7; decide), (by show 3 < 9; decide), ⟨.inr (.inr rfl), (by rw [z_lo]; decide), z_wf hp hb⟩, (by show isNm xN = true; decide)⟩⟩, ?_, ?_, ?_, ⟨Nat.le_refl 1, fun c => ?_⟩, ?_⟩
  · have : (Tr.bt [43] (.par (.bt [124] (.nam xN) (zTr P))) (.par (.bt [38] (.ah [126] (zTr P)) (.nam xN)))).tk = [[40]] ++ [xN] ++ [] ++ [[124]] ++ [] ++ (zTr P).tk ++ [[41]] ++ [] ++ [[43]] ++ [] ++ [[40]] ++ [[126]] ++ (zTr P).tk ++ [] ++ [[38]] ++ [] ++ [xN] ++ [[41]] := by
      show ([40] :: (([xN] ++ [124] :: (zTr P).tk) ++ [[41]])) ++ [43] :: ([40] :: ((([126] :: (zTr P).tk) ++ [38] :: [xN]) ++ [[41]])) = _
      simp
    rw [this]
    exact d
  · show max (1 + max 0 (zTr P).dep) (1 + max (1 + (zTr P).dep) 0) ≤ 20
    omega
  · simp only [List.length_append, List.length_cons, List.length_nil, xN]
    omega
  · rw [rl_bt]
    show (Tr.bt [124] (.nam xN) (zTr P)).rpn.length + (Tr.bt [38] (.ah [126] (zTr P)) (.nam xN)).rpn.length + 1 ≤ 10000
    rw [rl_bt, rl_bt]
    show (1 + _ + 1) + (((zTr P).rpn ++ [Ts.ah [126] 0]).length + 1 + 1) + 1 ≤ 10000
    rw [List.length_append]
    show (1 + _ + 1) + ((_ + 1) + 1 + 1) + 1 ≤ 10000
    omega
  · rw [nm_bt]
    show c ∈ [xN] ↔ c ∈ nmsOf (Tr.bt [124] (.nam xN) (zTr P)).rpn ++ nmsOf (Tr.bt [38] (.ah [126] (zTr P)) (.nam xN)).rpn
    rw [nm_bt, nm_bt, z_nm]
    show c ∈ [xN] ↔ c ∈ ([xN] ++ []) ++ (nmsOf ((zTr P).rpn ++ [Ts.ah [126] 0]) ++ [xN])
    rw [nms_app, z_nm]
    show c ∈ [xN] ↔ c ∈ [xN, xN]
    simp
  · have l := (Ev.nam (tm1 xN) (pbb 2)).bt (s := [124]) (z_ev hp hb) (p := .bits 2) rfl (pbb _)
    have r := (ev_til0 hp hb).bt (s := [38]) (Ev.nam (tm1 xN) (pbb 2)) (p := .bits 2) rfl (pbb _)
    exact (Ev.par l).bt (s := [43]) (Ev.par r) rfl (pb2 (Nat.two_pow_pos _) (Nat.lt_of_lt_of_le (show 2 < 2 ^ 2 by decide) (pow_up (by decide))))
end Fb
namespace Fb
open PySem PySem.Spec PyProof.Rows L2 NdefX PySem.NumText
theorem last0 : lastR [] [] = [0] := by decide +kernel
theorem ref_one (w : Int) (s : Chs) : refW [w] s [0] w = if refd s (-w) then some (0, 0, 0) else none := by
  cases hb : refd s (-w) with
  | true =>
    rw [refW_hit (l := 0) (List.find?_cons_of_pos (by show refd s (-w) = true; exact hb))]
    rfl
  | false =>
    have fn : [0].find? (fun l => refd s (-([w].getD l 0))) = none := by
      rw [List.find?_cons_of_neg (by show ¬ refd s (-w) = true; rw [hb]; exact Bool.false_ne_true), List.find?_nil]
    show _ = none
    by_cases c : s = [61, 61]
    · rw [refW_eq fn c]
      unfold refd at hb
      rw [if_pos c] at hb
      have w0 : w = 0 := by
        have := of_decide_eq_false hb
        omega
      subst w0
      rfl
    · rw [refW_ne fn c, List.find?_cons_of_neg (by show ¬ (decide (w < w) = true); rw [decide_eq_false (Int.lt_irrefl w)]; exact Bool.false_ne_true)]
      rfl
theorem tok_gt {rest : Chs} (hc : ∀ c, rest.head? = some c → gNe [62, 61] c = true) : tokL ([62] ++ rest) = some 1 := by
  rw [List.singleton_append, tokL_cons]
  cases rest with
  | nil => simp [isDig, isLet, cLONG, cSHORT]
  | cons d r =>
    have := hc d rfl
    simp [gNe] at this
    simp [isDig, isLet, cLONG, cSHORT, this]
section
variable {P : Program} {w : World} {K : PySem.W.Frag} {mg : Str → Option Value} {base : Heap} {f : Addr} {fd : FuncData} {CB CM CN T0 : Addr} {H : Hp} {Q : VK} {E : XK}
theorem ev_run {m : Nat} {tm : Chs → Option Int} {t : Tr} {p : Pt} (h : Ev m tm t p) : runW m tm t.rpn [] = .ok [p] ∧ okW m tm t.rpn [] := h.2 [] (fun _ h => absurd h (List.not_mem_nil))
theorem cl_go {A R : Pa} (hp : PaOk A) (hr : PaOk R) {u1 u2 s : Chs} {g1 g2 : Nat → Bool} (h1 : Pc u1 g1 A.tr.tk) (h2 : Pc u2 g2 R.tr.tk) (l1 : u1.length ≤ 1000) (l2 : u2.length ≤ 1000)
    (hs : sgl.contains s = true) (sl : s.length ≤ 2) (sd : ∀ c ∈ s, isDig c = false) (hg : ∀ c, s.head? = some c → g1 c = true) (ht : tokL (s ++ u2) = some s.length) (hb : s.head? ≠ some 32)
    (q : RcOk K H Q [] (clW s [-A.val] [-R.val] 1) (clS s)) : spRc K CB CM CN [.str (txt (u1 ++ (s ++ u2)))] H Q E := by
  have := dep8 hp
  have := dep8 hr
  have := hp.tl
  have := hr.tl
  have := rpn_len A hp.ok
  have := rpn_len R hr.ok
  have e1 := Ev.pa (m := 1) (tm := tmOf []) hp.ok hp.bnd
  have e2 := Ev.pa (m := 1) (tm := tmOf []) hr.ok hr.bnd
  obtain ⟨a1, a2⟩ := ev_run e1
  obtain ⟨b1, b2⟩ := ev_run e2
  exact rc_ok (ns := []) h1 h2 (wf_pa A hp.ok) (wf_pa R hr.ok) (by omega) (by omega) (by omega) (by omega) (by omega) (by omega) hs sl sd hg ht hb (one_nil (by rw [nms_app, nms_pa, nms_pa]; rfl)) a1 a2 b1 b2 rfl rfl q
theorem ho_one {s : Chs} {z : Int} {R : Bool} (e : refd s (-z) = !R) (q : ∀ H', Same H H' → Q (.bl R) H') : RcOk K H (RcV K H fun ns ws s H' => ∀ g, g ∈ ws → (∀ y ∈ ws, y ≤ g) → ∀ H2, Same H' H2 → Q (.bl (refW ws s (lastR ns []) g).isNone) H2) [] [z] s := by
  intro a na wa H' e1 h1 h2 h3
  refine ⟨a, na, wa, [], [z], s, rfl, e1, h1, h2, h3, by decide, rfl, List.nodup_nil, fun g gm _ H2 e2 => ?_⟩
  rw [List.mem_singleton.mp gm, last0, ref_one, e]
  cases R with
  | true => exact q H2 (e1.trans e2)
  | false => exact q H2 (e1.trans e2)
theorem cx_one {s : Chs} {z : Int} {R : Bool} (e : refd s (-z) = !R) (qn : R = true → ∀ H', Same H H' → Q .non H') (qs : R = false → ∀ D H', Same H H' → H' D = some (.dK []) → Q (.ref D) H') : RcOk K H (RcV K H fun ns ws s H' => ∀ g, g ∈ ws → (∀ y ∈ ws, y ≤ g) → (refW ws s (lastR ns []) g = none → ∀ H2, Same H' H2 → Q .non H2) ∧ ∀ m r l, refW ws s (lastR ns []) g = some (m, r, l) → (0 ≤ m ∧ m ≤ 200000) ∧ ∀ D H2, Same H' H2 → H2 D = some (.dK (cexK ns m r l ns.length)) → Q (.ref D) H2) [] [z] s := by
  intro a na wa H' e1 h1 h2 h3
  refine ⟨a, na, wa, [], [z], s, rfl, e1, h1, h2, h3, by decide, rfl, List.nodup_nil, fun g gm _ => ?_⟩
  rw [List.mem_singleton.mp gm, last0, ref_one, e]
  cases R with
  | true => exact ⟨fun _ H2 e2 => qn rfl H2 (e1.trans e2), (fun m r l h => by
      have h : (none : Option (Int × Nat × Nat)) = some (m, r, l) := h
      cases h)⟩
  | false =>
    refine ⟨(fun h => by
      have h : some ((0 : Int), 0, 0) = (none : Option (Int × Nat × Nat)) := h
      cases h), fun m r l h => ?_⟩
    have h : some ((0 : Int), 0, 0) = some (m, r, l) := h
    injection h with h
    injection h with h4 h5
    subst h4
    exact ⟨by decide, fun D H2 e2 hD => qs rfl D H2 (e1.trans e2) hD⟩
theorem ho_eq {A R : Pa} (hp : PaOk A) (hr : PaOk R) (h0 : ∀ H, SqT K H T0 []) (q : ∀ H', Same H H' → Q (.bl (decide (A.val = R.val))) H') : spHo K CB CM CN [.str (txt (A.tx ++ [61, 61] ++ R.tx)), .ref T0] H Q E := by
  have t1 := hp.tl
  have t2 := hr.tl
  refine ⟨_, T0, [], rfl, .inr (h0 H), ?_⟩
  rw [List.append_assoc]
  refine cl_go hp hr (pc_pa A hp.ok) (pc_pa R hr.ok) (by omega) (by omega) (by decide) (by decide) (by decide) (hd1 (by decide)) (by rw [show [61, 61] ++ R.tx = 61 :: (61 :: R.tx) from rfl, tokL_cons]; simp [isDig, isLet, cLONG]) (by decide) ?_
  show RcOk K H _ [] [-A.val - -R.val] [61, 61]
  refine ho_one (R := decide (A.val = R.val)) ?_ q
  show decide (-(-A.val - -R.val) ≠ 0) = _
  by_cases c : A.val = R.val
  · rw [decide_eq_true c]; exact decide_eq_false (fun h => h (by omega))
  · rw [decide_eq_false c]; exact decide_eq_true (by omega)
theorem ho_lt {A R : Pa} (hp : PaOk A) (hr : PaOk R) (h0 : ∀ H, SqT K H T0 []) (q : ∀ H', Same H H' → Q (.bl (decide (A.val < R.val))) H') : spHo K CB CM CN [.str (txt (A.tx ++ [32, 60, 32] ++ R.tx)), .ref T0] H Q E := by
  have t1 := hp.tl
  have t2 := hr.tl
  have hh := hd_pa R hr.ok
  refine ⟨_, T0, [], rfl, .inr (h0 H), ?_⟩
  rw [show A.tx ++ [32, 60, 32] ++ R.tx = (A.tx ++ [32]) ++ ([60] ++ ([32] ++ R.tx)) by simp]
  refine cl_go hp hr (u1 := A.tx ++ [32]) (u2 := [32] ++ R.tx) (g1 := gAny) (g2 := gNd) ?_ (Pc.blank.app (pc_pa R hr.ok) hh.any hh.ne) (by rw [List.length_append]; show _ + 1 ≤ 1000; omega) (by rw [List.length_append]; show 1 + _ ≤ 1000; omega) (by decide) (by decide) (by decide) (fun _ _ => rfl) (by rw [show [60] ++ ([32] ++ R.tx) = 60 :: (32 :: R.tx) from rfl, tokL_cons]; simp [isDig, isLet, cLONG, cSHORT]) (by decide) ?_
  · have := (pc_pa A hp.ok).app Pc.blank (hd1 (by decide)) (by decide)
    rw [List.append_nil] at this
    exact this
  show RcOk K H _ [] [-A.val - -R.val] [60]
  refine ho_one (R := decide (A.val < R.val)) ?_ q
  show decide (0 ≤ -(-A.val - -R.val)) = _
  by_cases c : A.val < R.val
  · rw [decide_eq_true c]; exact decide_eq_false (by omega)
  · rw [decide_eq_false c]; exact decide_eq_true (by omega)
theorem cx_ge {A R : Pa} (hp : PaOk A) (hr : PaOk R) (h0 : ∀ H, SqT K H T0 []) (qn : R.val ≤ A.val → ∀ H', Same H H' → Q .non H') (qs : A.val < R.val → ∀ D H', Same H H' → H' D = some (.dK []) → Q (.ref D) H') : spCx K CB CM CN [.str (txt (A.tx ++ [62, 61] ++ R.tx)), .ref T0] H Q E := by
  have t1 := hp.tl
  have t2 := hr.tl
  refine ⟨_, T0, [], rfl, .inr (h0 H), ?_⟩
  rw [List.append_assoc]
  refine cl_go hp hr (pc_pa A hp.ok) (pc_pa R hr.ok) (by omega) (by omega) (by decide) (by decide) (by decide) (hd1 (by decide)) (by rw [show [62, 61] ++ R.tx = 62 :: (61 :: R.tx) from rfl, tokL_cons]; simp [isDig, isLet, cLONG]) (by decide) ?_
  show RcOk K H _ [] [-R.val - -A.val] [60, 61]
  refine cx_one (R := decide (R.val ≤ A.val)) ?_ (fun e => qn (of_decide_eq_true e)) (fun e => qs (by have := of_decide_eq_false e; omega))
  show decide (0 < -(-R.val - -A.val)) = _
  by_cases c : R.val ≤ A.val
  · rw [decide_eq_true c]; exact decide_eq_false (by omega)
  · rw [decide_eq_false c]; exact decide_eq_true (by omega)
theorem cx_gt {A R : Pa} (hp : PaOk A) (hr : PaOk R) (h0 : ∀ H, SqT K H T0 []) (lt : A.val < R.val) (qs : ∀ D H', Same H H' → H' D = some (.dK []) → Q (.ref D) H') : spCx K CB CM CN [.str (txt (A.tx ++ [62] ++ R.tx)), .ref T0] H Q E := by
  have t1 := hp.tl
  have t2 := hr.tl
  have hh := hd_pa R hr.ok
  refine ⟨_, T0, [], rfl, .inr (h0 H), ?_⟩
  rw [List.append_assoc]
  refine cl_go hp hr (pc_pa A hp.ok) (pc_pa R hr.ok) (by omega) (by omega) (by decide) (by decide) (by decide) (hd1 (by decide)) (tok_gt (hh.gne _ (by decide))) (by decide) ?_
  show RcOk K H _ [] [-R.val - -A.val] [60]
  refine cx_one (R := false) ?_ (fun e => by cases e) (fun _ => qs)
  show decide (0 ≤ -(-R.val - -A.val)) = _
  exact decide_eq_true (by omega)
abbrev S__law_bare : Stmt := top 67
abbrev N__law_bare : List Str := ["_law_number"]
abbrev P__law_bare : List Str := ["_law_number"]
theorem sc__law_bare : FnScope N__law_bare P__law_bare (defScope S__law_bare) := ⟨rfl, rfl, rfl, by decide +kernel, rfl, by decide +kernel, by decide +kernel⟩
def spBare (K : PySem.W.Frag) : Sp := fun vs H Q _ => ∃ v : Int, vs = [.int v] ∧ ∀ (a : Addr) (us : List V) (H' : Hp), Same H H' → SqT K H' a us → Bes (CjV K H') us (bareL v) → Q (.ref a) H'
theorem ok_bare (F : Fun K "_law_bare" "_law_bare" S__law_bare f fd) : FnOk P w K mg base CX0 1 f fd P__law_bare (spBare K) := by
  have nd := sc__law_bare.nd
  refine F.ok sc__law_bare (fun vs H Q E h => ?_) (fun cdv A outer s H vs Q E hr h => ?_)
  · obtain ⟨v, rfl, _⟩ := h
    rfl
  obtain ⟨v, rfl, q⟩ := h
  refine ⟨_, (pss_one (ps_ret (pe_ifExp (pt_cmpR op_eq (pv 0) pe_int (nomark _)) (pe_tup pa_nil) (pe_tup (pa_cons (pe_tup (pa_cons (pe_tup pa_nil) (pa_cons (pv 0) pa_nil))) pa_nil))))), ?_⟩
  refine ⟨_, rfl, rfl, _, rfl, ?_⟩
  by_cases c : v = 0
  · subst c
    rw [show decide (V.int 0 = V.int 0) = true from rfl]
    refine iteT ⟨(by show 0 ≤ sizeLine; decide), fun p1 np1 => ?_⟩
    exact q p1 [] _ (Same.new np1) (SqT.of upd_same) .nil
  · rw [show decide (V.int v = V.int 0) = false from decide_eq_false (fun h => c (by injection h))]
    refine iteF ⟨(by show 0 ≤ sizeLine; decide), fun p2 np2 => ?_⟩
    have s2 := Same.new (o := .tup []) np2
    refine ⟨_, rfl, (by show 2 ≤ sizeLine; decide), fun p3 np3 => ?_⟩
    have s3 := Same.new (o := .tup [.ref p2, .int v]) np3
    refine ⟨(by show 1 ≤ sizeLine; decide), fun p4 np4 => ?_⟩
    have s4 := Same.new (o := .tup [.ref p3]) np4
    refine q p4 [.ref p3] _ (s2.trans (s3.trans s4)) (SqT.of upd_same) ?_
    unfold bareL
    rw [if_neg c]
    exact .cons ⟨p3, p2, rfl, SqT.of (s4 _ _ upd_same), SqT.of (s4 _ _ (s3 _ _ upd_same))⟩ .nil
abbrev S__law_odd : Stmt := top 68
abbrev N__law_odd : List Str := ["_law_found", "_law_due"]
abbrev P__law_odd : List Str := ["_law_found", "_law_due"]
theorem sc__law_odd : FnScope N__law_odd P__law_odd (defScope S__law_odd) := ⟨rfl, rfl, rfl, by decide +kernel, rfl, by decide +kernel, by decide +kernel⟩
def spOdd : Sp := fun vs H Q _ => ∃ a b : Bool, vs = [.bl a, .bl b] ∧ Q (.bl (!decide (a = b))) H
theorem ok_odd (F : Fun K "_law_odd" "_law_odd" S__law_odd f fd) : FnOk P w K mg base CX0 1 f fd P__law_odd spOdd := by
  have nd := sc__law_odd.nd
  refine F.ok sc__law_odd (fun vs H Q E h => ?_) (fun cdv A outer s H vs Q E hr h => ?_)
  · obtain ⟨a, b, rfl, _⟩ := h
    rfl
  obtain ⟨a, b, rfl, q⟩ := h
  refine ⟨_, (pss_one (ps_ret (pe_ifExp (pt_val (pv 1)) (pe_cmpR op_isnot_bl (pv 0) pe_bl (nomark _)) (pe_cmpR op_isnot_bl (pv 0) pe_bl (nomark _))))), ?_⟩
  refine ⟨_, rfl, _, rfl, ?_⟩
  cases b with
  | true => exact iteT ⟨_, rfl, a, true, rfl, rfl, q⟩
  | false => exact iteF ⟨_, rfl, a, false, rfl, rfl, q⟩
end
end Fb
namespace Fb
open PySem PySem.Spec PyProof.Rows L2 NdefX PySem.NumText
theorem ne_same {d : PyData} (h : SeqAt.shaped d = true) : (!PyData.eqv d d) = false := by
  rw [SeqAt.eqv_refl d (SeqAt.canLay_of_shaped h)]
  rfl
theorem sh_bare (v : Int) : SeqAt.shaped (cjD (bareL v)) = true := by
  unfold bareL
  split <;> rfl
def dueL (v w : Int) : List (List Chs × Int) := bareL v ++ if w = 0 then [] else [([xN], w)]
theorem ok_x    : PyData.strOk (txt xN) = true := by decide +kernel
theorem ok_y    : PyData.strOk (txt yN) = true := by decide +kernel
theorem sh_due (v w : Int) : SeqAt.shaped (cjD (dueL v w)) = true := by
  unfold dueL bareL
  split
  · split
    · rfl
    · exact Bool.and_eq_true_iff.mpr ⟨by simp [cjD, PyData.canLay0, PyData.canLayAll0, ok_x], rfl⟩
  · split
    · rfl
    · exact Bool.and_eq_true_iff.mpr ⟨by simp [cjD, PyData.canLay0, PyData.canLayAll0, ok_x], rfl⟩
theorem dec_int (x y : Int) : decide (V.int x = V.int y) = decide (x = y) := decide_eq_decide.mpr ⟨fun h => by injection h, fun h => by rw [h]⟩
theorem lit_lt : (" < " : Str) = txt [32, 60, 32] := by decide +kernel
theorem lit_px : (" + x*" : Str) = txt [32, 43, 32, 120, 42] := by decide +kernel
theorem lit_xp : (" * x + " : Str) = txt [32, 42, 32, 120, 32, 43, 32] := by decide +kernel
theorem lit_xm : ("x*" : Str) = txt [120, 42] := by decide +kernel
theorem lit_mt : (" - ~" : Str) = txt [32, 45, 32, 126] := by decide +kernel
theorem lit_ms : (" - " : Str) = txt [32, 45, 32] := by decide +kernel
theorem lit_z1 : ("(x | " : Str) = txt [40, 120, 32, 124, 32] := by decide +kernel
theorem lit_z2 : (") + (~" : Str) = txt [41, 32, 43, 32, 40, 126] := by decide +kernel
theorem lit_z3 : (" & x)" : Str) = txt [32, 38, 32, 120, 41] := by decide +kernel
theorem lit_y : ("y ^ ~" : Str) = txt [121, 32, 94, 32, 126] := by decide +kernel
theorem lnT {a b : Chs} (ha : a.length ≤ 3000) (hb : b.length ≤ 3000) : (txt a).length + (txt b).length ≤ sizeLine := Nat.le_trans (show a.length + b.length ≤ 6000 by omega) (by decide)
theorem bes_split {α β : Type} {R : α → β → Prop} : ∀ {l1 l2 : List β} {us : List α}, Bes R us (l1 ++ l2) → ∃ a b, us = a ++ b ∧ Bes R a l1 ∧ Bes R b l2
  | [], _, us, h => ⟨[], us, rfl, .nil, h⟩
  | x :: l1, l2, us, h => by
    cases h with
    | cons h1 r =>
      obtain ⟨a, b, rfl, ra, rb⟩ := bes_split r
      exact ⟨_ :: a, b, rfl, .cons h1 ra, rb⟩
theorem due1 (v w : Int) : cjOf [xN] [-v + 1 * (0 * w), -v + 1 * (1 * w)] = dueL v w := by
  rw [cj1, show -(-v + 1 * (0 * w)) = v by omega, show -v + 1 * (1 * w) - (-v + 1 * (0 * w)) = w by omega]
  rfl
theorem due2 (v w : Int) : cjOf [xN] [0 * w + 1 * (-v), 1 * w + 1 * (-v)] = dueL v w := by
  rw [cj1, show -(0 * w + 1 * (-v)) = v by omega, show 1 * w + 1 * (-v) - (0 * w + 1 * (-v)) = w by omega]
  rfl
theorem due3 (v w : Int) : cjOf [xN] [0 * w + -1 * (-(-v - 1)), 1 * w + -1 * (-(-v - 1))] = dueL (v + 1) w := by
  rw [cj1, show -(0 * w + -1 * (-(-v - 1))) = v + 1 by omega, show 1 * w + -1 * (-(-v - 1)) - (0 * w + -1 * (-(-v - 1))) = w by omega]
  rfl
theorem bare_len (v : Int) : (bareL v).length ≤ 1 := by
  unfold bareL
  split
  · exact Nat.zero_le 1
  · exact Nat.le_refl 1
theorem lit_x : ("x" : Str) = txt xN := by decide +kernel
theorem lit_yy : ("y" : Str) = txt yN := by decide +kernel
theorem due4 : cjOf [xN] [0, 2] = [([xN], 2)] := by
  rw [cj1]
  rfl
theorem due5 : cjOf [yN] (wtsIn (.bits (Builtin.bitXor 2 (-1))) 2) = [([], -1), ([yN], -1)] := by
  rw [show wtsIn (.bits (Builtin.bitXor 2 (-1))) 2 = [1, 0] by decide +kernel, cj1]
  rfl
section
variable {P : Program} {w : World} {K : PySem.W.Frag} {mg : Str → Option Value} {base : Heap} {f : Addr} {fd : FuncData} {C_BadText C_TooManyNames C_NotLinear T0 T1 : Addr}
abbrev S_law : Stmt := top 69
abbrev N_law : List Str := ["_law_script", "_law_pen_here", "_law_lap", "_law_text", "_law_number", "_law_other", "_law_factor", "_law_due", "_law_more", "_law_zero"]
abbrev P_law : List Str := ["_law_script"]
theorem sc_law : FnScope N_law P_law (defScope S_law) := ⟨rfl, rfl, rfl, by decide +kernel, rfl, by decide +kernel, by decide +kernel⟩
def spLaw (K : PySem.W.Frag) : Sp := fun vs H Q _ => ∃ (a : Addr) (ns : List Int), vs = [.ref a] ∧ SqL K H a (ns.map V.int) ∧ ns.length ≤ 63 ∧ ∀ H', Q (.bl true) H'
/-- the promises as they are used here, closed -/
structure HoP (K : PySem.W.Frag) (CB CM CN : Addr) (vs : List V) (H : Hp) (Q : VK) : Prop where
  h : spHo K CB CM CN vs H Q fun _ _ _ => False
structure CxP (K : PySem.W.Frag) (CB CM CN : Addr) (vs : List V) (H : Hp) (Q : VK) : Prop where
  h : spCx K CB CM CN vs H Q fun _ _ _ => False
structure CjP (K : PySem.W.Frag) (CB CM CN : Addr) (vs : List V) (H : Hp) (Q : VK) : Prop where
  h : spCj K CB CM CN vs H Q fun _ _ _ => False
theorem ok_law (F : Fun K "law" "law" S_law f fd) (B : Blt mg) (h0 : ∀ H, SqT K H T0 []) (h1 : ∀ H, SqT K H T1 []) (C_law_pen : Has P w K mg base 1 "_law_pen" P__law_pen [] (spPen K)) (C_law_draw : Has P w K mg base 1 "_law_draw" P__law_draw [] (spDrawP K)) (C_law_part : Has P w K mg base 8 "_law_part" P__law_part [] (spPart K 5)) (C_law_bare : Has P w K mg base 1 "_law_bare" P__law_bare [] (spBare K)) (C_law_odd : Has P w K mg base 1 "_law_odd" P__law_odd [] spOdd)
    (Cconjunctions : Has P w K mg base 9 "conjunctions" P_conjunctions [] (fun vs H Q _ => CjP K C_BadText C_TooManyNames C_NotLinear vs H Q)) (Cholds : Has P w K mg base 9 "holds" P_holds [.ref T0] (fun vs H Q _ => HoP K C_BadText C_TooManyNames C_NotLinear vs H Q)) (Ccounterexample : Has P w K mg base 9 "counterexample" P_counterexample [.ref T1] (fun vs H Q _ => CxP K C_BadText C_TooManyNames C_NotLinear vs H Q)) :
    FnOk P w K mg base CX0 10 f fd P_law (spLaw K) := by
  have nd := sc_law.nd
  refine F.ok sc_law (fun vs H Q E h => ?_) (fun cdv A outer s H vs Q E hr h => ?_)
  · obtain ⟨a, ns, rfl, _⟩ := h
    rfl
  obtain ⟨a, ns, rfl, hS, h63, q⟩ := h
  refine ⟨_, (pss_cons (ps_set (i := 1) nd rfl (Or.inl rfl) (pe_H C_law_pen (hr.mono (by decide)) rfl (pa_cons (pv 0) pa_nil)))
    (pss_cons (ps_for PassesOwn.never rfl (pi_range1 (by rfl) B.range (pa_cons (pe_op op_add pe_int (pe_callB (call_min2 rfl) (by rfl) B.min (by decide +kernel) (pa_cons pe_int (pa_cons (pe_callB call_lenL (by rfl) B.len PySem.boot_len (pa_cons (pv 0) pa_nil)) pa_nil)))) pa_nil)) (pg_name (i := 2) nd rfl (Or.inl rfl)) (pss_cons (ps_asg (pe_H C_law_part (hr.mono (by decide)) rfl (pa_cons (pv 1) (pa_cons (pe_op op_add pe_int (pe_H C_law_draw (hr.mono (by decide)) rfl (pa_cons (pv 1) (pa_cons pe_int pa_nil)))) pa_nil))) (pg_tup rfl (pgs_cons (pg_name (i := 3) nd rfl (Or.inl rfl)) (pgs_cons (pg_name (i := 4) nd rfl (Or.inl rfl)) pgs_nil))))
    (pss_cons (ps_asg (pe_H C_law_part (hr.mono (by decide)) rfl (pa_cons (pv 1) (pa_cons (pe_H C_law_draw (hr.mono (by decide)) rfl (pa_cons (pv 1) (pa_cons pe_int pa_nil))) pa_nil))) (pg_tup rfl (pgs_cons (pg_name (i := 5) nd rfl (Or.inl rfl)) (pgs_cons (pg_name (i := 6) nd rfl (Or.inl rfl)) pgs_nil))))
    (pss_cons (ps_if (PW.pt (pw_or (pt_cmpR (op_neD hr.units) (pe_H Cconjunctions (hr.mono (by decide)) rfl (pa_cons (pv 3) pa_nil)) (pe_H C_law_bare (hr.mono (by decide)) rfl (pa_cons (pv 4) pa_nil)) (nomark _)) (pw_or1 (pt_val (pe_H C_law_odd (hr.mono (by decide)) rfl (pa_cons (pe_H Cholds (hr.mono (by decide)) rfl (pa_cons (pe_op op_add_str (pe_op op_add_str (pv 3) pe_str) (pv 5)) pa_nil)) (pa_cons (pe_cmpR op_eq (pv 4) (pv 6) (nomark _)) pa_nil))))))) (pss_one (ps_ret pe_bl)) pss_nil)
    (pss_cons (ps_if (pt_val (pe_H C_law_odd (hr.mono (by decide)) rfl (pa_cons (pe_H Cholds (hr.mono (by decide)) rfl (pa_cons (pe_op op_add_str (pe_op op_add_str (pv 3) pe_str) (pv 5)) pa_nil)) (pa_cons (pe_cmpR op_lt (pv 4) (pv 6) (nomark _)) pa_nil)))) (pss_one (ps_ret pe_bl)) pss_nil)
    (pss_cons (ps_if (pt_cmpR op_ne (pe_cmpR op_isN (pe_H Ccounterexample (hr.mono (by decide)) rfl (pa_cons (pe_op op_add_str (pe_op op_add_str (pv 3) pe_str) (pv 5)) pa_nil)) pe_non (nomark _)) (pe_cmpR op_ge (pv 4) (pv 6) (nomark _)) (nomark _)) (pss_one (ps_ret pe_bl)) pss_nil)
    (C8.pss_cut (ps_if (PW.pt (pw_and (pt_cmpR op_lt (pv 4) (pv 6) (nomark _)) (pw_and1 (pt_cmpR (op_ne_dictA (Nat.lt_of_le_of_lt (Nat.le_add_right _ 64) hr.units)) (pe_H Ccounterexample (hr.mono (by decide)) rfl (pa_cons (pe_op op_add_str (pe_op op_add_str (pv 3) pe_str) (pv 5)) pa_nil)) pe_dnewK (nomark _))))) (pss_one (ps_ret pe_bl)) pss_nil)
    (C8.pss_cut (ps_set (i := 7) nd rfl (Or.inl rfl) (pe_op op_catA (pe_H C_law_bare (hr.mono (by decide)) rfl (pa_cons (pv 4) pa_nil)) (pe_ifExp (pt_cmpR op_ne (pv 6) pe_int (nomark _)) (pe_tup (pa_cons (pe_tup (pa_cons (pe_tup (pa_cons pe_str pa_nil)) (pa_cons (pv 6) pa_nil))) pa_nil)) (pe_tup pa_nil))))
    (pss_cons (ps_if (PW.pt (pw_or (pt_cmpR (op_neD hr.units) (pe_H Cconjunctions (hr.mono (by decide)) rfl (pa_cons (pe_op op_add_str (pe_op op_add_str (pv 3) pe_str) (pv 5)) pa_nil)) (pv 7) (nomark _)) (pw_or1 (pt_cmpR (op_neD hr.units) (pe_H Cconjunctions (hr.mono (by decide)) rfl (pa_cons (pe_op op_add_str (pe_op op_add_str (pv 5) pe_str) (pv 3)) pa_nil)) (pv 7) (nomark _))))) (pss_one (ps_ret pe_bl)) pss_nil)
    (C8.pss_cut (ps_set (i := 8) nd rfl (Or.inl rfl) (pe_op op_catA (pe_H C_law_bare (hr.mono (by decide)) rfl (pa_cons (pe_op op_add (pv 4) pe_int) pa_nil)) (pe_slice sl_tupA (pv 7) (po_some (pe_op op_sub (pe_callB call_lenT (by rfl) B.len PySem.boot_len (pa_cons (pv 7) pa_nil)) (pe_callTy call_intB (by rfl) B.int (by decide +kernel) (pa_cons (pe_cmpR op_ne (pv 6) pe_int (nomark _)) pa_nil)))) po_none)))
    (pss_cons (ps_if (pt_cmpR (op_neD hr.units) (pe_H Cconjunctions (hr.mono (by decide)) rfl (pa_cons (pe_op op_add_str (pe_op op_add_str (pe_op op_add_str pe_str (pv 5)) pe_str) (pv 3)) pa_nil)) (pv 8) (nomark _)) (pss_one (ps_ret pe_bl)) pss_nil)
    (pss_cons (ps_set (i := 9) nd rfl (Or.inl rfl) (pe_op op_add_str (pe_op op_add_str (pe_op op_add_str (pe_op op_add_str pe_str (pv 3)) pe_str) (pv 3)) pe_str))
    (pss_cons (ps_if (pt_cmpR (op_neD hr.units) (pe_H Cconjunctions (hr.mono (by decide)) rfl (pa_cons (pe_op op_add_str (pe_op op_add_str (pe_op op_add_str (pe_op op_add_str pe_str (pv 9)) pe_str) (pv 9)) pe_str) pa_nil)) (pe_tup (pa_cons (pe_tup (pa_cons (pe_tup (pa_cons pe_str pa_nil)) (pa_cons pe_int pa_nil))) pa_nil)) (nomark _)) (pss_one (ps_ret pe_bl)) pss_nil)
    (pss_one (ps_if (pt_cmpR (op_neD hr.units) (pe_H Cconjunctions (hr.mono (by decide)) rfl (pa_cons (pe_op op_add_str pe_str (pv 9)) pa_nil)) (pe_tup (pa_cons (pe_tup (pa_cons (pe_tup pa_nil) (pa_cons (pe_un un_neg pe_int) pa_nil))) (pa_cons (pe_tup (pa_cons (pe_tup (pa_cons pe_str pa_nil)) (pa_cons (pe_un un_neg pe_int) pa_nil))) pa_nil))) (nomark _)) (pss_one (ps_ret pe_bl)) pss_nil)))))))))))))))
    (pss_one (ps_ret pe_bl)))), ?_⟩
  refine ⟨_, rfl, a, ns, rfl, hS, h63, fun τ H0 e0 T00 => ?_⟩
  have hN : ∃ N : Nat, N ≤ 8 ∧ (2 : Int) + (if (((ns.map V.int).length : Nat) : Int) < 6 then (((ns.map V.int).length : Nat) : Int) else 6) = (N : Int) := by
    split
    · exact ⟨2 + (ns.map V.int).length, by omega, by omega⟩
    · exact ⟨8, by omega, by omega⟩
  obtain ⟨N, hN6, hNe⟩ := hN
  refine ⟨_, rfl, _, _, rfl, e0.seq hS, _, _, rfl, _, _, rfl, rfl, _, rfl, ?_, ?_, ?_⟩
  · rw [hNe]; omega
  · rw [hNe]; omega
  rw [hNe, Int.toNat_natCast]
  refine for_range (lo := 0) (n := N) (fun i σ H' => Pen K τ (200 * (N - i)) H' ∧ ∃ o2 o3 o4 o5 o6 o7 o8 o9, σ = [some (.ref a), some (.ref τ.t), o2, o3, o4, o5, o6, o7, o8, o9]) ⟨T00.mono (by omega), none, none, none, none, none, none, none, none, rfl⟩ (fun i σ H1 hi h => ?_) (fun σ H' h => q _)
  obtain ⟨hp0, o2, o3, o4, o5, o6, o7, o8, o9, rfl⟩ := h
  have n200 : 200 * (N - (i + 1)) + 200 ≤ 200 * (N - i) := by omega
  have hp0 := hp0.mono n200
  obtain ⟨M, hM⟩ : ∃ M, M = 200 * (N - (i + 1)) := ⟨_, rfl⟩
  rw [← hM] at hp0
  have bz : ∀ {R : Pa} {e : Nat}, e ≤ 4 → R.ok → R.dp ≤ e → R.bnd ≤ bdP e → R.tx.length ≤ llP e → R.val.natAbs < 2 ^ R.bnd → PaOk R ∧ R.bnd ≤ 2400 := fun {R e} h4 ok dp bnd tl vb => by
    obtain ⟨x, y⟩ := ll_sm h4
    exact ⟨⟨ok, by omega, by omega, by omega, Nat.lt_of_lt_of_le vb (pow_up (by omega))⟩, by omega⟩
  have dr : ∀ {e : Nat}, e ≤ 4 → drP e ≤ 93 := fun {e} h4 => by
    obtain ⟨x, y⟩ := pw4 h4
    unfold drP
    omega
  refine ⟨_, rfl, _, rfl, τ, 4, M + 199, rfl, hp0, by decide, lt_BigL (by decide), fun d H2 n1 hp1 d0 d1 => ?_⟩
  obtain ⟨k, rfl⟩ := Int.eq_ofNat_of_zero_le d0
  have k4 : k < 4 := by omega
  have dk := dr (e := 1 + k) (by omega)
  refine ⟨_, _, rfl, rfl, τ, 1 + k, M + 105, by omega, by omega, ?_, hp1.mono (by omega), fun A0 a1 H3 ok dp bnd tl vb n2 hp2 ha => ?_⟩
  · show [V.ref τ.t, V.int (1 + (k : Int))] = _
    rw [show (1 + (k : Int)) = ((1 + k : Nat) : Int) by omega]
  obtain ⟨hA, bA⟩ := bz (by omega) ok dp bnd tl vb
  refine ⟨a1, _, rfl, ha, rfl, _, _, rfl, _, _, rfl, rfl, ?_⟩
  refine ⟨_, rfl, _, rfl, τ, 4, M + 104, rfl, hp2, by decide, lt_BigL (by decide), fun d H4 n3 hp3 d0 d1 => ?_⟩
  obtain ⟨j, rfl⟩ := Int.eq_ofNat_of_zero_le d0
  have j4 : j < 4 := by omega
  have dj := dr (e := j) (by omega)
  refine ⟨τ, j, M + 11, by omega, by omega, rfl, hp3.mono (by omega), fun R a2 H5 ok2 dp2 bnd2 tl2 vb2 n4 hp4 ha2 => ?_⟩
  obtain ⟨hR, bR⟩ := bz (by omega) ok2 dp2 bnd2 tl2 vb2
  refine ⟨a2, _, rfl, ha2, rfl, _, _, rfl, _, _, rfl, rfl, ?_⟩
  clear ok dp bnd tl vb ok2 dp2 bnd2 tl2 vb2 ha ha2 hp0 hp1 hp2 hp3 bz dr
  have tA := hA.tl
  have tR := hR.tl
  -- the text of a part
  refine ⟨_, rfl, CjP.mk (cj_one (is_pa hA) fun v1 G1 e1 d1 => ?_)⟩
  have d1 : Dp K G1 v1 (cjD (bareL A0.val)) := by rw [← cj0]; exact d1
  refine ⟨_, rfl, _, rfl, fun a3 us G2 e2 h2 b2 => ?_⟩
  have d2 : Dp K G2 (.ref a3) (cjD (bareL A0.val)) := .tup h2 (ds_cj b2)
  refine ⟨_, _, (Nd.of e2).d d1, d2, sh_bare _, sh_bare _, _, rfl, ?_⟩
  rw [ne_same (sh_bare _)]
  refine iteF ?_
  have f2 := e1.trans e2
  refine ⟨_, rfl, _, _, rfl, rfl, (by rw [str_eqs]; exact lnT (by omega) (by decide)), _, rfl, _, _, rfl, rfl, (by rw [str_eqs, txt_app]; exact lnT (by rw [List.length_append]; show _ + 2 ≤ 3000; omega) (by omega)), ?_⟩
  have ES : txt A0.tx ++ ("==" : Str) ++ txt R.tx = txt (A0.tx ++ [61, 61] ++ R.tx) := by rw [str_eqs, txt_app, txt_app]
  rw [ES]
  refine HoP.mk (ho_eq hA hR h0 fun G3 e3 => ?_)
  have f3 := f2.trans e3
  refine ⟨_, rfl, _, rfl, rfl, _, _, rfl, _, rfl, ?_⟩
  rw [dec_int, decide_eq_true (Eq.refl (decide (A0.val = R.val)))]
  refine iteF ?_
  -- less
  refine ⟨_, rfl, _, _, rfl, rfl, (by rw [lit_lt]; exact lnT (by omega) (by decide)), _, rfl, _, _, rfl, rfl, (by rw [lit_lt, txt_app]; exact lnT (by rw [List.length_append]; show _ + 3 ≤ 3000; omega) (by omega)), ?_⟩
  have ES2 : txt A0.tx ++ (" < " : Str) ++ txt R.tx = txt (A0.tx ++ [32, 60, 32] ++ R.tx) := by rw [lit_lt, txt_app, txt_app]
  rw [ES2]
  refine HoP.mk (ho_lt hA hR h0 fun G4 e4 => ?_)
  have f4 := f3.trans e4
  refine ⟨_, rfl, _, rfl, _, _, rfl, rfl, _, _, rfl, _, rfl, ?_⟩
  rw [decide_eq_true (Eq.refl (decide (A0.val < R.val)))]
  refine iteF ?_
  apply fork3 (C := fun Hx => Same G4 Hx)
  · intro main
    refine ⟨_, rfl, _, _, rfl, rfl, (by rw [str_ge]; exact lnT (by omega) (by decide)), _, rfl, _, _, rfl, rfl, (by rw [str_ge, txt_app]; exact lnT (by rw [List.length_append]; show _ + 2 ≤ 3000; omega) (by omega)), ?_⟩
    have ES3 : txt A0.tx ++ (">=" : Str) ++ txt R.tx = txt (A0.tx ++ [62, 61] ++ R.tx) := by rw [str_ge, txt_app, txt_app]
    rw [ES3]
    refine CxP.mk (cx_ge hA hR h1 (fun c G5 e5 => ?_) (fun c D G5 e5 hD => ?_))
    · refine ⟨rfl, _, rfl, _, rfl, _, _, rfl, rfl, rfl, _, rfl, ?_⟩
      rw [show (!decide (V.bl (decide (V.non = V.non)) = V.bl (decide (R.val ≤ A0.val)))) = false from by rw [decide_eq_true c]; rfl]
      refine iteF ?_
      exact main G5 e5
    · refine ⟨rfl, _, rfl, _, rfl, _, _, rfl, rfl, rfl, _, rfl, ?_⟩
      rw [show (!decide (V.bl (decide (V.ref D = V.non)) = V.bl (decide (R.val ≤ A0.val)))) = false from by rw [decide_eq_false (show ¬ R.val ≤ A0.val by omega), decide_eq_false (show ¬ V.ref D = V.non from fun h => by cases h)]; rfl]
      refine iteF ?_
      exact main G5 e5
  intro G5 e5
  have f5 := f4.trans e5
  have hp5 := hp4.same f5
  refine ⟨fun σ G6 => σ = [some (.ref a), some (.ref τ.t), some (.int (0 + (i : Int))), some (.str (txt A0.tx)), some (.int A0.val), some (.str (txt R.tx)), some (.int R.val), o7, o8, o9] ∧ Same G5 G6, ?_, ?_⟩
  · refine ⟨_, rfl, _, rfl, _, _, rfl, rfl, _, rfl, ?_⟩
    refine iteD (fun c => ?_) (fun c => ?_)
    · refine ⟨_, rfl, _, _, rfl, rfl, (by rw [str_gt]; exact lnT (by omega) (by decide)), _, rfl, _, _, rfl, rfl, (by rw [str_gt, txt_app]; exact lnT (by rw [List.length_append]; show _ + 1 ≤ 3000; omega) (by omega)), ?_⟩
      have ES4 : txt A0.tx ++ (">" : Str) ++ txt R.tx = txt (A0.tx ++ [62] ++ R.tx) := by rw [str_gt, txt_app, txt_app]
      rw [ES4]
      refine CxP.mk (cx_gt hA hR h1 c fun D G6 e6 hD => ?_)
      refine fun p1 np1 => ?_
      have s1 := Same.new (o := .dK []) np1
      refine ⟨D, p1, [], [], rfl, rfl, s1 _ _ hD, upd_same, rfl, (fun _ h => absurd h (List.not_mem_nil)), ?_⟩
      exact ⟨_, rfl, iteF ⟨rfl, e6.trans s1⟩⟩
    · exact iteF ⟨rfl, Same.refl G5⟩
  rintro σ G6 ⟨rfl, e6⟩
  have f6 := f5.trans e6
  clear e1 e2 e3 e4 e5 e6 d1 d2 h2 b2 f2 f3 f4 f5 ES ES2
  refine ⟨fun σ G7 => ∃ da us, σ = [some (.ref a), some (.ref τ.t), some (.int (0 + (i : Int))), some (.str (txt A0.tx)), some (.int A0.val), some (.str (txt R.tx)), some (.int R.val), some (.ref da), o8, o9] ∧ Same G6 G7 ∧ SqT K G7 da us ∧ Bes (CjV K G7) us (dueL A0.val R.val), ?_, ?_⟩
  · refine ⟨_, rfl, _, rfl, fun a3 us Ga ea h b => ?_⟩
    refine ⟨_, rfl, rfl, _, rfl, ?_⟩
    have b := b.mono fun _ _ r => r
    rw [dec_int]
    by_cases c : R.val = 0
    · rw [decide_eq_true c]
      have ed : dueL A0.val R.val = bareL A0.val := by
        unfold dueL
        rw [if_pos c, List.append_nil]
      rw [ed]
      refine iteF ⟨(by show 0 ≤ sizeLine; decide), fun p np => ?_⟩
      have s1 := Same.new (o := .tup []) np
      have bs := b.mono fun _ _ r => CjV.tps (same_tps s1) r
      refine ⟨a3, p, us, [], rfl, rfl, (Nd.of s1).sqt h, SqT.of upd_same, ?_, fun z => ?_, fun _ _ => ?_, fun _ z => absurd rfl z⟩
      · have h1 := b.len
        have h2 := bare_len A0.val
        exact Nat.le_trans (show us.length + 0 ≤ 3000 by omega) (by decide)
      · subst z
        exact ⟨p, [], rfl, ea.trans s1, SqT.of upd_same, bs⟩
      · exact ⟨a3, us, rfl, ea.trans s1, (Nd.of s1).sqt h, bs⟩
    · rw [decide_eq_false c]
      have ed : dueL A0.val R.val = bareL A0.val ++ [([xN], R.val)] := by
        unfold dueL
        rw [if_neg c]
      rw [ed]
      refine iteT ⟨(by show 1 ≤ sizeLine; decide), fun p2 np2 => ?_⟩
      have s2 := Same.new (o := .tup [.str "x"]) np2
      refine ⟨_, rfl, (by show 2 ≤ sizeLine; decide), fun p3 np3 => ?_⟩
      have s3 := Same.new (o := .tup [.ref p2, .int R.val]) np3
      refine ⟨(by show 1 ≤ sizeLine; decide), fun p4 np4 => ?_⟩
      have s4 := Same.new (o := .tup [.ref p3]) np4
      have s24 := s2.trans (s3.trans s4)
      have one : CjV K _ (.ref p3) ([xN], R.val) := ⟨p3, p2, rfl, SqT.of (s4 _ _ upd_same), by
        have := s4 _ _ (s3 _ _ (upd_same (H := Ga) (a := p2) (o := .tup [.str "x"])))
        rw [lit_x] at this
        exact SqT.of this⟩
      have bs := (b.mono fun _ _ r => CjV.tps (same_tps s24) r).app (.cons one .nil)
      have h1 := b.len
      have h2 := bare_len A0.val
      refine ⟨a3, p4, us, [.ref p3], rfl, rfl, (Nd.of s24).sqt h, SqT.of upd_same, Nat.le_trans (show us.length + 1 ≤ 3000 by omega) (by decide), fun z => ?_, (fun _ z => by cases z), fun _ _ p5 np5 => ?_⟩
      · subst z
        exact ⟨p4, [.ref p3], rfl, ea.trans s24, SqT.of upd_same, bs⟩
      · have s5 := Same.new (o := .tup (us ++ [.ref p3])) np5
        exact ⟨p5, _, rfl, ea.trans (s24.trans s5), SqT.of upd_same, bs.mono fun _ _ r => CjV.tps (same_tps s5) r⟩
  rintro σ G7 ⟨da, us, rfl, e7, hda, bda⟩
  have f7 := f6.trans e7
  have dd : ∀ {G : Hp}, Same G7 G → Dp K G (.ref da) (cjD (dueL A0.val R.val)) := fun {G} e => .tup ((Nd.of e).sqt hda) (ds_cj (bda.mono fun _ _ r => CjV.tps (same_tps e) r))
  -- part + x*part
  refine ⟨_, rfl, _, _, rfl, rfl, (by rw [lit_px]; exact lnT (by omega) (by decide)), _, rfl, _, _, rfl, rfl, (by rw [lit_px, txt_app]; exact lnT (by rw [List.length_append]; show _ + 5 ≤ 3000; omega) (by omega)), ?_⟩
  have ES5 : txt A0.tx ++ (" + x*" : Str) ++ txt R.tx = txt (A0.tx ++ [32] ++ [43] ++ [32] ++ xN ++ [42] ++ R.tx) := by rw [lit_px, txt_app, txt_app]; congr 1; simp [xN]
  rw [ES5]
  refine CjP.mk (cj_one (is_due1 hA hR) fun v1 G8 e8 d8 => ?_)
  have d8 : Dp K G8 v1 (cjD (dueL A0.val R.val)) := by rw [← due1]; exact d8
  refine ⟨_, rfl, _, _, d8, dd e8, sh_due _ _, sh_due _ _, _, rfl, ?_⟩
  rw [ne_same (sh_due _ _)]
  refine iteF ?_
  -- part * x + part
  refine ⟨_, rfl, _, _, rfl, rfl, (by rw [lit_xp]; exact lnT (by omega) (by decide)), _, rfl, _, _, rfl, rfl, (by rw [lit_xp, txt_app]; exact lnT (by rw [List.length_append]; show _ + 7 ≤ 3000; omega) (by omega)), ?_⟩
  have ES6 : txt R.tx ++ (" * x + " : Str) ++ txt A0.tx = txt (R.tx ++ [32] ++ [42] ++ [32] ++ xN ++ [32] ++ [43] ++ [32] ++ A0.tx) := by rw [lit_xp, txt_app, txt_app]; congr 1; simp [xN]
  rw [ES6]
  refine CjP.mk (cj_one (is_due2 hA hR) fun v2 G9 e9 d9 => ?_)
  have d9 : Dp K G9 v2 (cjD (dueL A0.val R.val)) := by rw [← due2]; exact d9
  refine ⟨_, rfl, _, _, d9, dd (e8.trans e9), sh_due _ _, sh_due _ _, _, rfl, ?_⟩
  rw [ne_same (sh_due _ _)]
  refine iteF ?_
  have f9 := f7.trans (e8.trans e9)
  have hda9 := (Nd.of (e8.trans e9)).sqt hda
  have bda9 := bda.mono fun _ _ r => CjV.tps (same_tps (e8.trans e9)) r
  clear d8 d9 dd hda bda e7 e8 ES5 ES6
  refine ⟨fun σ Ga => ∃ ma ms, σ = [some (.ref a), some (.ref τ.t), some (.int (0 + (i : Int))), some (.str (txt A0.tx)), some (.int A0.val), some (.str (txt R.tx)), some (.int R.val), some (.ref da), some (.ref ma), o9] ∧ Same G9 Ga ∧ SqT K Ga ma ms ∧ Bes (CjV K Ga) ms (dueL (A0.val + 1) R.val), ?_, ?_⟩
  · obtain ⟨u1, u2, rfl, b1, b2⟩ := bes_split bda9
    have h1 := b1.len
    have h2 := b2.len
    have h3 := bare_len A0.val
    have hlo : (((u1 ++ u2).length : Nat) : Int) - (if (!decide (V.int R.val = V.int 0)) = true then 1 else 0) = (u1.length : Int) := by
      rw [List.length_append, dec_int]
      by_cases c : R.val = 0
      · rw [if_pos c] at h2
        rw [decide_eq_true c, if_neg (by decide)]
        have : u2.length = 0 := h2
        omega
      · rw [if_neg c] at h2
        rw [decide_eq_false c, if_pos (show (!false) = true from rfl)]
        have : u2.length = 1 := h2
        omega
    have h4 : u2.length ≤ 1 := by
      rw [h2]
      split
      · exact Nat.zero_le 1
      · exact Nat.le_refl 1
    have hcut : cutV (u1 ++ u2) (some (u1.length : Int)) none = u2 := by
      unfold cutV
      rw [HT.sIx_nat, HT.sIx_none, Nat.min_eq_left (by rw [List.length_append]; omega), List.drop_left]
      exact List.take_of_length_le (by rw [List.length_append]; omega)
    refine ⟨_, rfl, _, _, rfl, rfl, _, rfl, fun a3 us3 Gb eb hb3 bb => ?_⟩
    have hdab := (Nd.of eb).sqt hda9
    have b2b := b2.mono fun _ _ r => CjV.tps (same_tps eb) r
    have h5 := bb.len
    have h6 := bare_len (A0.val + 1)
    have ed : dueL (A0.val + 1) R.val = bareL (A0.val + 1) ++ if R.val = 0 then [] else [([xN], R.val)] := rfl
    refine ⟨_, rfl, _, rfl, da, _, rfl, hdab, _, rfl, rfl, _, rfl, _, _, rfl, rfl, _, rfl, da, _, rfl, hdab, ?_, ?_⟩
    · rw [hlo]
      rintro ⟨z, _⟩
      rw [HT.sIx_nat, Nat.min_eq_left (by rw [List.length_append]; omega)] at z
      have z : u1 = [] := List.eq_nil_of_length_eq_zero z
      subst z
      refine ⟨a3, da, us3, u2, rfl, rfl, hb3, hdab, Nat.le_trans (show us3.length + u2.length ≤ 3000 by omega) (by decide), fun z => ?_, fun _ z => ?_, fun _ _ p5 np5 => ?_⟩
      · subst z
        exact ⟨da, u2, rfl, eb, hdab, by rw [ed]; exact (bb).app b2b⟩
      · refine ⟨a3, us3, rfl, eb, hb3, ?_⟩
        have e0 : us3 ++ u2 = us3 := by rw [z, List.append_nil]
        have t0 := (bb).app b2b
        rw [e0] at t0
        rw [ed]
        exact t0
      · have s5 := Same.new (o := .tup (us3 ++ u2)) np5
        exact ⟨p5, _, rfl, eb.trans s5, SqT.of upd_same, by rw [ed]; exact ((bb).app b2b).mono fun _ _ r => CjV.tps (same_tps s5) r⟩
    · rw [hlo]
      intro _ p np
      rw [hcut]
      have sp := Same.new (o := .tup u2) np
      have bbp := bb.mono fun _ _ r => CjV.tps (same_tps sp) r
      have b2p := b2b.mono fun _ _ r => CjV.tps (same_tps sp) r
      refine ⟨a3, p, us3, u2, rfl, rfl, ((Nd.of sp).sqt hb3), (SqT.of upd_same), Nat.le_trans (show us3.length + u2.length ≤ 3000 by omega) (by decide), fun z => ?_, fun _ z => ?_, fun _ _ p5 np5 => ?_⟩
      · subst z
        exact ⟨p, u2, rfl, (eb.trans sp), (SqT.of upd_same), by rw [ed]; exact (bbp).app b2p⟩
      · refine ⟨a3, us3, rfl, (eb.trans sp), ((Nd.of sp).sqt hb3), ?_⟩
        have e0 : us3 ++ u2 = us3 := by rw [z, List.append_nil]
        have t0 := (bbp).app b2p
        rw [e0] at t0
        rw [ed]
        exact t0
      · have s5 := Same.new (o := .tup (us3 ++ u2)) np5
        exact ⟨p5, _, rfl, (eb.trans sp).trans s5, SqT.of upd_same, by rw [ed]; exact ((bbp).app b2p).mono fun _ _ r => CjV.tps (same_tps s5) r⟩
  rintro σ Ga ⟨ma, ms, rfl, ea, hma, bma⟩
  have fa := f9.trans ea
  -- x*part - ~part
  refine ⟨_, rfl, _, _, rfl, rfl, (by rw [lit_xm]; exact lnT (by decide) (by omega)), _, _, rfl, rfl, (by rw [lit_xm, txt_app, lit_mt]; exact lnT (by rw [List.length_append]; show 2 + _ ≤ 3000; omega) (by decide)), _, rfl, _, _, rfl, rfl, (by rw [lit_xm, txt_app, lit_mt, txt_app]; exact lnT (by rw [List.length_append, List.length_append]; show 2 + _ + 4 ≤ 3000; omega) (by omega)), ?_⟩
  have ES7 : ("x*" : Str) ++ txt R.tx ++ (" - ~" : Str) ++ txt A0.tx = txt (xN ++ [42] ++ R.tx ++ [32] ++ [45] ++ [32] ++ [126] ++ A0.tx) := by rw [lit_xm, lit_mt, txt_app, txt_app, txt_app]; congr 1; simp [xN]
  rw [ES7]
  refine CjP.mk (cj_one (is_more hA hR) fun v3 Gb eb db => ?_)
  have db : Dp K Gb v3 (cjD (dueL (A0.val + 1) R.val)) := by rw [← due3]; exact db
  have dm : Dp K Gb (.ref ma) (cjD (dueL (A0.val + 1) R.val)) := .tup ((Nd.of eb).sqt hma) (ds_cj (bma.mono fun _ _ r => CjV.tps (same_tps eb) r))
  refine ⟨_, rfl, _, _, db, dm, sh_due _ _, sh_due _ _, _, rfl, ?_⟩
  rw [ne_same (sh_due _ _)]
  refine iteF ?_
  have fb := fa.trans eb
  clear db dm hma bma ES7
  obtain ⟨zl, _⟩ := z_len hA
  -- zero
  refine ⟨_, rfl, _, _, rfl, rfl, (by rw [str_par]; exact lnT (by decide) (by omega)), _, _, rfl, rfl, (by rw [str_par, txt_app, lit_ms]; exact lnT (by rw [List.length_append]; show 1 + _ ≤ 3000; omega) (by decide)), _, rfl, _, _, rfl, rfl, (by rw [str_par, txt_app, lit_ms, txt_app]; exact lnT (by rw [List.length_append, List.length_append]; show 1 + _ + 3 ≤ 3000; omega) (by omega)), _, _, rfl, rfl, (by rw [str_par, txt_app, lit_ms, txt_app, txt_app, str_parR]; exact lnT (by rw [List.length_append, List.length_append, List.length_append]; show 1 + _ + 3 + _ ≤ 3000; omega) (by decide)), ?_⟩
  have ES8 : ("(" : Str) ++ txt A0.tx ++ (" - " : Str) ++ txt A0.tx ++ (")" : Str) = txt (zTx A0) := by rw [str_par, lit_ms, str_parR, txt_app, txt_app, txt_app, txt_app]; congr 1; simp [zTx]
  rw [ES8]
  refine ⟨_, rfl, _, _, rfl, rfl, (by rw [lit_z1]; exact lnT (by decide) (by omega)), _, _, rfl, rfl, (by rw [lit_z1, txt_app, lit_z2]; exact lnT (by rw [List.length_append]; show 5 + _ ≤ 3000; omega) (by decide)), _, rfl, _, _, rfl, rfl, (by rw [lit_z1, txt_app, lit_z2, txt_app]; exact lnT (by rw [List.length_append, List.length_append]; show 5 + _ + 6 ≤ 3000; omega) (by omega)), _, _, rfl, rfl, (by rw [lit_z1, txt_app, lit_z2, txt_app, txt_app, lit_z3]; exact lnT (by rw [List.length_append, List.length_append, List.length_append]; show 5 + _ + 6 + _ ≤ 3000; omega) (by decide)), ?_⟩
  have ES9 : ("(x | " : Str) ++ txt (zTx A0) ++ (") + (~" : Str) ++ txt (zTx A0) ++ (" & x)" : Str) = txt ([40] ++ xN ++ [32] ++ [124] ++ [32] ++ zTx A0 ++ [41] ++ [32] ++ [43] ++ [32] ++ [40] ++ [126] ++ zTx A0 ++ [32] ++ [38] ++ [32] ++ xN ++ [41]) := by rw [lit_z1, lit_z2, lit_z3, txt_app, txt_app, txt_app, txt_app]; congr 1; simp [xN]
  rw [ES9]
  refine CjP.mk (cj_one (is_two hA bA) fun v4 Gc ec dc => ?_)
  have dc : Dp K Gc v4 (cjD [([xN], 2)]) := by rw [← due4]; exact dc
  have fc := fb.trans ec
  refine ⟨(by show 1 ≤ sizeLine; decide), fun p7 np7 => ⟨(by show 2 ≤ sizeLine; decide), fun p8 np8 => ⟨(by show 1 ≤ sizeLine; decide), fun p9 np9 => ?_⟩⟩⟩
  have s7 := Same.new (o := .tup [.str "x"]) np7
  have s8 := Same.new (o := .tup [.ref p7, .int 2]) np8
  have s9 := Same.new (o := .tup [.ref p8]) np9
  have dz : Dp K _ (.ref p9) (cjD [([xN], 2)]) := .tup (SqT.of upd_same) (.cons (.tup (SqT.of (s9 _ _ upd_same)) (.cons (.tup (SqT.of (s9 _ _ (s8 _ _ upd_same))) (.cons (by rw [lit_x]; exact .str _) .nil)) (.cons (.int 2) .nil))) .nil)
  have sh4 : SeqAt.shaped (cjD [([xN], 2)]) = true := Bool.and_eq_true_iff.mpr ⟨by simp [cjD, PyData.canLay0, PyData.canLayAll0, ok_x], rfl⟩
  have fd := fc.trans (s7.trans (s8.trans s9))
  refine ⟨_, _, (Nd.of (s7.trans (s8.trans s9))).d dc, dz, sh4, sh4, _, rfl, ?_⟩
  rw [ne_same sh4]
  refine iteF ?_
  -- y
  refine ⟨_, rfl, _, _, rfl, rfl, (by rw [lit_y]; exact lnT (by decide) (by omega)), ?_⟩
  have ESa : ("y ^ ~" : Str) ++ txt (zTx A0) = txt (yN ++ [32] ++ [94] ++ [32] ++ [126] ++ zTx A0) := by rw [lit_y, txt_app]; congr 1
  rw [ESa]
  refine CjP.mk (cj_one (is_y hA bA) fun v5 Ge ee de => ?_)
  have de : Dp K Ge v5 (cjD [([], -1), ([yN], -1)]) := by rw [← due5]; exact de
  have fe := fd.trans ee
  refine ⟨(by show 0 ≤ sizeLine; decide), fun p10 np10 => ⟨_, rfl, (by show 2 ≤ sizeLine; decide), fun p11 np11 => ⟨(by show 1 ≤ sizeLine; decide), fun p12 np12 => ⟨_, rfl, (by show 2 ≤ sizeLine; decide), fun p13 np13 => ⟨(by show 2 ≤ sizeLine; decide), fun p14 np14 => ?_⟩⟩⟩⟩⟩
  have t1 := Same.new (o := .tup []) np10
  have t2 := Same.new (o := .tup [.ref p10, .int (-1)]) np11
  have t3 := Same.new (o := .tup [.str "y"]) np12
  have t4 := Same.new (o := .tup [.ref p12, .int (-1)]) np13
  have t5 := Same.new (o := .tup [.ref p11, .ref p13]) np14
  have m1 : Dp K _ (.ref p11) (.tuple [.tuple [], .int (-1)]) := .tup (SqT.of (t5 _ _ (t4 _ _ (t3 _ _ upd_same)))) (.cons (.tup (SqT.of (t5 _ _ (t4 _ _ (t3 _ _ (t2 _ _ upd_same))))) .nil) (.cons (.int (-1)) .nil))
  have m2 : Dp K _ (.ref p13) (.tuple [.tuple [.str (txt yN)], .int (-1)]) := .tup (SqT.of (t5 _ _ upd_same)) (.cons (.tup (SqT.of (t5 _ _ (t4 _ _ upd_same))) (.cons (by rw [lit_yy]; exact .str _) .nil)) (.cons (.int (-1)) .nil))
  have m3 : Dp K _ (.ref p14) (cjD [([], -1), ([yN], -1)]) := .tup (SqT.of upd_same) (.cons m1 (.cons m2 .nil))
  have sh5 : SeqAt.shaped (cjD [([], -1), ([yN], -1)]) = true := Bool.and_eq_true_iff.mpr ⟨by simp [cjD, PyData.canLay0, PyData.canLayAll0, ok_y], rfl⟩
  have t15 := t1.trans (t2.trans (t3.trans (t4.trans t5)))
  refine ⟨_, _, (Nd.of t15).d de, m3, sh5, sh5, _, rfl, ?_⟩
  rw [ne_same sh5]
  refine iteF ?_
  refine ⟨?_, _, _, _, _, _, _, _, _, rfl⟩
  rw [← hM]
  exact (hp4.same (fe.trans t15)).mono (by omega)
end
end Fb
/-! ### a dict of the top whose values are ints: what it says of every text -/
namespace Fb
open PySem L2
/-- an entry with a text and an int -/
def kvOf (e : DictEntry) : Option (Str × Int) := match e.key, e.val with
  | .str x _, .int i _ => some (x, i)
  | _, _ => none
def dicI (K : PySem.W.Frag) (a : Addr) : Option (List (Option (Str × Int))) := match K.lookup a with
  | some ⟨_, _, .dict es _, _⟩ => some (es.toList.map kvOf)
  | _ => none
theorem find_kv {z : Str} : ∀ {l : List DictEntry} {ks : List (Str × Int)}, l.map kvOf = ks.map some → (match ks.find? fun p => p.1 == z with
    | some p => ∃ e t, l.find? (·.key.isStr z) = some e ∧ e.val = .int p.2 t
    | none => l.find? (·.key.isStr z) = none) ∧ l.any (·.refKey) = false
  | [], [], _ => ⟨rfl, rfl⟩
  | [], _ :: _, h => by cases h
  | _ :: _, [], h => by cases h
  | e :: l, p :: ks, h => by
    have h : kvOf e :: l.map kvOf = some p :: ks.map some := h
    injection h with h1 h2
    obtain ⟨i1, i2⟩ := find_kv (z := z) h2
    unfold kvOf at h1
    split at h1
    · rename_i x t i u hk hv
      injection h1 with h1
      subst h1
      have er : e.refKey = false := by
        unfold DictEntry.refKey
        rw [hk]
      have ei : e.key.isStr z = (x == z) := by rw [hk]; rfl
      refine ⟨?_, by rw [List.any_cons, er, i2]; rfl⟩
      cases c : x == z with
      | true =>
        have f1 : ((x, i) :: ks).find? (fun p => p.1 == z) = some (x, i) := List.find?_cons_of_pos (by show (x == z) = true; exact c)
        have f2 : (e :: l).find? (fun x => x.key.isStr z) = some e := List.find?_cons_of_pos (by show e.key.isStr z = true; rw [ei, c])
        rw [f1, f2]
        exact ⟨e, u, rfl, hv⟩
      | false =>
        have f1 : ((x, i) :: ks).find? (fun p => p.1 == z) = ks.find? (fun p => p.1 == z) := List.find?_cons_of_neg (by show ¬ (x == z) = true; rw [c]; exact Bool.false_ne_true)
        have f2 : (e :: l).find? (fun x => x.key.isStr z) = l.find? (fun x => x.key.isStr z) := List.find?_cons_of_neg (by show ¬ e.key.isStr z = true; rw [ei, c]; exact Bool.false_ne_true)
        rw [f1, f2]
        exact i1
    · cases h1
theorem nsIn_int {K : PySem.W.Frag} {a : Addr} {ks : List (Str × Int)} (h : dicI K a = some (ks.map some)) (z : Str) : ∃ r, PySem.W.nsIn K a z = some r ∧ match ks.find? fun p => p.1 == z with
    | some p => ∃ t, r = some (.int p.2 t)
    | none => r = none := by
  unfold dicI at h
  split at h
  · rename_i oc od es n sl hl
    injection h with h
    obtain ⟨h1, h2⟩ := find_kv (z := z) h
    unfold PySem.W.nsIn
    rw [hl]
    cases c : ks.find? fun p => p.1 == z with
    | some p =>
      rw [c] at h1
      obtain ⟨e, t, e1, e2⟩ := h1
      refine ⟨some e.val, ?_, t, by rw [e2]⟩
      show (match es.toList.find? (·.key.isStr z) with
        | some e => some (some e.val)
        | none => if es.toList.any (·.refKey) then none else some none) = _
      rw [e1]
    | none =>
      rw [c] at h1
      refine ⟨none, ?_, rfl⟩
      show (match es.toList.find? (·.key.isStr z) with
        | some e => some (some e.val)
        | none => if es.toList.any (·.refKey) then none else some none) = _
      rw [h1]
      show (if es.toList.any (·.refKey) = true then none else some none) = some none
      rw [h2]
      rfl
  · cases h
/-- the strengths as they are written -/
def strL : List (Str × Int) := [("|", 1), ("^", 2), ("&", 3), ("<<", 4), (">>", 4), ("+", 5), ("-", 5), ("*", 6), ("//", 6), ("**", 8)]
def strC : List (Chs × Int) := [([124], 1), ([94], 2), ([38], 3), ([60, 60], 4), ([62, 62], 4), ([43], 5), ([45], 5), ([42], 6), ([47, 47], 6), ([42, 42], 8)]
theorem strL_C : strL = strC.map fun p => (txt p.1, p.2) := by decide +kernel
theorem find_c (s : Chs) : ∀ l : List (Chs × Int), (l.map fun p => (txt p.1, p.2)).find? (fun p => p.1 == txt s) = (l.find? fun p => p.1 == s).map fun p => (txt p.1, p.2)
  | [] => rfl
  | p :: l => by
    have e : (txt p.1 == txt s) = (p.1 == s) := by
      rw [Bool.eq_iff_iff, beq_iff_eq, beq_iff_eq, txt_inj]
    rw [List.map_cons]
    cases c : p.1 == s with
    | true => rw [List.find?_cons_of_pos (by show (txt p.1 == txt s) = true; rw [e, c]), List.find?_cons_of_pos (by show (p.1 == s) = true; exact c)]; rfl
    | false =>
      rw [List.find?_cons_of_neg (by show ¬ (txt p.1 == txt s) = true; rw [e, c]; exact Bool.false_ne_true), List.find?_cons_of_neg (by show ¬ (p.1 == s) = true; rw [c]; exact Bool.false_ne_true)]
      exact find_c s l
theorem strC_strg (s : Chs) : (match strC.find? fun p => p.1 == s with
    | some p => strg s = some p.2.toNat ∧ 0 ≤ p.2
    | none => strg s = none) := by
  by_cases h : strg s = none
  · have : strC.find? (fun p => p.1 == s) = none := by
      rw [List.find?_eq_none]
      intro p hp c
      have c : p.1 = s := beq_iff_eq.mp c
      subst c
      simp only [strC, List.mem_cons, List.not_mem_nil, or_false] at hp
      rcases hp with rfl | rfl | rfl | rfl | rfl | rfl | rfl | rfl | rfl | rfl <;> exact absurd h (by decide)
    rw [this]
    exact h
  · have hs : s ∈ strC.map (·.1) := by
      unfold strg at h
      repeat' split at h
      all_goals first
        | (rename_i hh; rw [hh]; decide)
        | exact absurd rfl h
    simp only [strC, List.map_cons, List.map_nil, List.mem_cons, List.not_mem_nil, or_false] at hs
    rcases hs with rfl | rfl | rfl | rfl | rfl | rfl | rfl | rfl | rfl | rfl <;> exact ⟨by decide, by decide⟩
/-- the dict of strengths, from its entries -/
theorem strG_of {K : PySem.W.Frag} {w : World} {mg : Str → Option Value} {T : Addr} (g : mg "STRENGTHS" = some (.ref T)) (d : ∃ es n, KDict K w T es n) (h : dicI K T = some (strL.map some)) : StrG K w mg T := by
  refine ⟨g, d, fun s => ?_⟩
  obtain ⟨r, h1, h2⟩ := nsIn_int h (txt s)
  refine ⟨r, h1, ?_⟩
  rw [strL_C, find_c] at h2
  have h3 := strC_strg s
  cases c : strC.find? (fun p => p.1 == s) with
  | none =>
    rw [c] at h2 h3
    rw [h3]
    exact h2
  | some p =>
    rw [c] at h2 h3
    rw [h3.1]
    obtain ⟨t, e⟩ := h2
    refine ⟨t, ?_⟩
    rw [e]
    show some (Value.int p.2 t) = some (.int ((p.2.toNat : Nat) : Int) t)
    rw [Int.toNat_of_nonneg h3.2]
end Fb
namespace Fb
open PySem L2 NdefX PySem.NumText PySem.Spec PyProof.Rows
abbrev S_NotLinear : Stmt := (clsBody (top 4)).getD 0 (.Pass ⟨0, 0, 0, 0⟩)
section
variable {P : Program} {w : World} {K : PySem.W.Frag} {mg : Str → Option Value} {base : Heap}
theorem ok_NotLinear {C f cc cda : Addr} {oc : Value} {od : Option Addr} {osl : Array (Option Value)} {kV doc pm ct : Value} {an : Option Addr} (T : SxF P K mg C cc cda "NotLinear.__init__")
    (lk : K.lookup f = some ⟨oc, od, .func (sxFd "NotLinear.__init__" S_NotLinear cc cda kV doc pm an ct), osl⟩) (no : PySem.W.findIn K (.ref C) "place" = some none) :
    FnOk P w K mg base CX0 1 f (sxFd "NotLinear.__init__" S_NotLinear cc cda kV doc pm an ct) ["self", "place"] (spErr C ["place"] onePl) := by
  have S : NScope ["self", "place", "__class__"] ["self", "place"] ["__class__"] (defScope S_NotLinear) := nscope_by (by decide +kernel)
  refine err1_ok T lk S ⟨⟨_, _, _, _, _, _, rfl, fun _ => rfl, fun _ => rfl, fun _ => rfl, fun _ => rfl⟩, rfl, ⟨_, rfl, rfl⟩⟩ no rfl rfl (fun _ => rfl) (fun A outer s H E => ⟨_, pa_cons (pe_joined (.cons pe_str (.cons (pe_fmt (pe_var (i := 1) rfl (.inl (S.par _ (by simp))))) .nil))) pa_nil, fun a v H Q hg q => ?_⟩)
  obtain ⟨n, e, hi⟩ := hg
  cases e
  have hi : ((n : Int)).natAbs < 10 ^ 20 := by omega
  have li : (Str.ofString (toString (n : Int))).length ≤ 21 := by
    rw [PySem.ofString_length]
    exact int_text_length_le10 (a := (n : Int)) (k := 20) (by decide) hi
  have big : (10 : Nat) ^ 20 < 2 ^ 1920 := by decide +kernel
  refine ⟨_, rfl, ?_, _, rfl, .inr ⟨(n : Int), rfl, PySem.Flt.log2_lt_of (by decide) (Nat.lt_trans hi big), _, rfl, ?_, q _⟩⟩
  all_goals
    simp only [PySem.Str.length_append]
    have a0 : PySem.Str.empty.length = 0 := rfl
    have a1 : ("not linear at " : Str).length = 14 := by decide +kernel
    rw [PySem.sizeLine_eq]
    omega
end
abbrev S_TooManyNames : Stmt := (clsBody (top 3)).getD 0 (.Pass ⟨0, 0, 0, 0⟩)
section
variable {P : Program} {w : World} {K : PySem.W.Frag} {mg : Str → Option Value} {base : Heap}
theorem ok_TooManyNames {C f cc cda : Addr} {oc : Value} {od : Option Addr} {osl : Array (Option Value)} {kV doc pm ct : Value} {an : Option Addr} (T : SxF P K mg C cc cda "TooManyNames.__init__")
    (lk : K.lookup f = some ⟨oc, od, .func (sxFd "TooManyNames.__init__" S_TooManyNames cc cda kV doc pm an ct), osl⟩) (no : PySem.W.findIn K (.ref C) "count" = some none) :
    FnOk P w K mg base CX0 1 f (sxFd "TooManyNames.__init__" S_TooManyNames cc cda kV doc pm an ct) ["self", "count"] (spErr C ["count"] onePl) := by
  have S : NScope ["self", "count", "__class__"] ["self", "count"] ["__class__"] (defScope S_TooManyNames) := nscope_by (by decide +kernel)
  refine err1_ok T lk S ⟨⟨_, _, _, _, _, _, rfl, fun _ => rfl, fun _ => rfl, fun _ => rfl, fun _ => rfl⟩, rfl, ⟨_, rfl, rfl⟩⟩ no rfl rfl (fun _ => rfl) (fun A outer s H E => ⟨_, pa_cons (pe_joined (.cons pe_str (.cons (pe_fmt (pe_var (i := 1) rfl (.inl (S.par _ (by simp))))) .nil))) pa_nil, fun a v H Q hg q => ?_⟩)
  obtain ⟨n, e, hi⟩ := hg
  cases e
  have hi : ((n : Int)).natAbs < 10 ^ 20 := by omega
  have li : (Str.ofString (toString (n : Int))).length ≤ 21 := by
    rw [PySem.ofString_length]
    exact int_text_length_le10 (a := (n : Int)) (k := 20) (by decide) hi
  have big : (10 : Nat) ^ 20 < 2 ^ 1920 := by decide +kernel
  refine ⟨_, rfl, ?_, _, rfl, .inr ⟨(n : Int), rfl, PySem.Flt.log2_lt_of (by decide) (Nat.lt_trans hi big), _, rfl, ?_, q _⟩⟩
  all_goals
    simp only [PySem.Str.length_append]
    have a0 : PySem.Str.empty.length = 0 := rfl
    have a1 : ("too many names: " : Str).length = 16 := by decide +kernel
    rw [PySem.sizeLine_eq]
    omega
end
end Fb
namespace Fb
open PySem L2
theorem all_mk {C_Reader fM___init__ fM_skip fM_peek fM_open_level fM_close_last fM_settle fM_close_parenthesis fM_begin_right_side fM_take_operand fM_take_operator : Addr} {ocM___init__ kVM___init__ dcM___init__ pmM___init__ cdM___init__ ctM___init__ : Value} {odM___init__ anM___init__ : Option Addr} {slM___init__ : Array (Option Value)} {ocM_skip kVM_skip dcM_skip pmM_skip cdM_skip ctM_skip : Value} {odM_skip anM_skip : Option Addr} {slM_skip : Array (Option Value)} {ocM_peek kVM_peek dcM_peek pmM_peek cdM_peek ctM_peek : Value} {odM_peek anM_peek : Option Addr} {slM_peek : Array (Option Value)} {ocM_open_level kVM_open_level dcM_open_level pmM_open_level cdM_open_level ctM_open_level : Value} {odM_open_level anM_open_level : Option Addr} {slM_open_level : Array (Option Value)} {ocM_close_last kVM_close_last dcM_close_last pmM_close_last cdM_close_last ctM_close_last : Value} {odM_close_last anM_close_last : Option Addr} {slM_close_last : Array (Option Value)} {ocM_settle kVM_settle dcM_settle pmM_settle cdM_settle ctM_settle : Value} {odM_settle anM_settle : Option Addr} {slM_settle : Array (Option Value)} {ocM_close_parenthesis kVM_close_parenthesis dcM_close_parenthesis pmM_close_parenthesis cdM_close_parenthesis ctM_close_parenthesis : Value} {odM_close_parenthesis anM_close_parenthesis : Option Addr} {slM_close_parenthesis : Array (Option Value)} {ocM_begin_right_side kVM_begin_right_side dcM_begin_right_side pmM_begin_right_side cdM_begin_right_side ctM_begin_right_side : Value} {odM_begin_right_side anM_begin_right_side : Option Addr} {slM_begin_right_side : Array (Option Value)} {ocM_take_operand kVM_take_operand dcM_take_operand pmM_take_operand cdM_take_operand ctM_take_operand : Value} {odM_take_operand anM_take_operand : Option Addr} {slM_take_operand : Array (Option Value)} {ocM_take_operator kVM_take_operator dcM_take_operator pmM_take_operator cdM_take_operator ctM_take_operator : Value} {odM_take_operator anM_take_operator : Option Addr} {slM_take_operator : Array (Option Value)} {T_LONG_SIGNS : Addr} {oT_LONG_SIGNS : Obj} {nT_LONG_SIGNS : Nat} {tk_LONG_SIGNS0 tk_LONG_SIGNS1 tk_LONG_SIGNS2 tk_LONG_SIGNS3 tk_LONG_SIGNS4 tk_LONG_SIGNS5 tk_LONG_SIGNS6 tk_LONG_SIGNS7 : Tok} {T_NO_NAMES : Addr} {oT_NO_NAMES : Obj} {nT_NO_NAMES : Nat} {tk_NO_NAMES0 tk_NO_NAMES1 tk_NO_NAMES2 tk_NO_NAMES3 : Tok} {T_SIGNS_AHEAD : Addr} {oT_SIGNS_AHEAD : Obj} {nT_SIGNS_AHEAD : Nat} {tk_SIGNS_AHEAD0 tk_SIGNS_AHEAD1 tk_SIGNS_AHEAD2 : Tok} {T_STRENGTHS_OF_LEVELS : Addr} {oT_STRENGTHS_OF_LEVELS : Obj} {nT_STRENGTHS_OF_LEVELS : Nat} {tk_STRENGTHS_OF_LEVELS0 tk_STRENGTHS_OF_LEVELS1 tk_STRENGTHS_OF_LEVELS2 : Tok} {T_SIGNS : Addr} {oT_SIGNS : Obj} {nT_SIGNS : Nat} {tk_SIGNS0 tk_SIGNS1 tk_SIGNS2 tk_SIGNS3 tk_SIGNS4 : Tok} {T_STRENGTHS : Addr} {D_holds T0_holds : Addr} {oD_holds : Obj} {nD_holds : Nat} {D_counterexample T0_counterexample : Addr} {oD_counterexample : Obj} {nD_counterexample : Nat} {l : PySem.W.OpenLaw} {w : World} {K : PySem.W.Frag} {h : Heap} {mg : Str → Option Value} {fa : Addr} {f1 f2 f3 f4 f5 f6 f7 f8 f9 f10 f11 f12 f13 f14 f15 f16 f17 f18 f19 f20 f21 f22 f23 f24 f25 f26 f27 f28 f29 f30 f31 f32 f33 f34 : Addr} (X : K.In h) (G : h.Ns mainGlobals mg) (hfa : mg "law" = some (.ref fa))
    {od1 an1 od2 an2 od3 an3 od4 an4 od5 an5 od6 an6 od7 an7 od8 an8 od9 an9 od10 an10 od11 an11 od12 an12 od13 an13 od14 an14 od15 an15 od16 an16 od17 an17 od18 an18 od19 an19 od20 an20 od21 an21 od22 an22 od23 an23 od24 an24 od25 an25 od26 an26 od27 an27 od28 an28 od29 an29 od30 an30 od31 an31 od32 an32 od33 an33 od34 an34 : Option Addr} {sl1 sl2 sl3 sl4 sl5 sl6 sl7 sl8 sl9 sl10 sl11 sl12 sl13 sl14 sl15 sl16 sl17 sl18 sl19 sl20 sl21 sl22 sl23 sl24 sl25 sl26 sl27 sl28 sl29 sl30 sl31 sl32 sl33 sl34 : Array (Option Value)} {oc1 kV1 dc1 pm1 cd1 ct1 oc2 kV2 dc2 pm2 cd2 ct2 oc3 kV3 dc3 pm3 cd3 ct3 oc4 kV4 dc4 pm4 cd4 ct4 oc5 kV5 dc5 pm5 cd5 ct5 oc6 kV6 dc6 pm6 cd6 ct6 oc7 kV7 dc7 pm7 cd7 ct7 oc8 kV8 dc8 pm8 cd8 ct8 oc9 kV9 dc9 pm9 cd9 ct9 oc10 kV10 dc10 pm10 cd10 ct10 oc11 kV11 dc11 pm11 cd11 ct11 oc12 kV12 dc12 pm12 cd12 ct12 oc13 kV13 dc13 pm13 cd13 ct13 oc14 kV14 dc14 pm14 cd14 ct14 oc15 kV15 dc15 pm15 cd15 ct15 oc16 kV16 dc16 pm16 cd16 ct16 oc17 kV17 dc17 pm17 cd17 ct17 oc18 kV18 dc18 pm18 cd18 ct18 oc19 kV19 dc19 pm19 cd19 ct19 oc20 kV20 dc20 pm20 cd20 ct20 oc21 kV21 dc21 pm21 cd21 ct21 oc22 kV22 dc22 pm22 cd22 ct22 oc23 kV23 dc23 pm23 cd23 ct23 oc24 kV24 dc24 pm24 cd24 ct24 oc25 kV25 dc25 pm25 cd25 ct25 oc26 kV26 dc26 pm26 cd26 ct26 oc27 kV27 dc27 pm27 cd27 ct27 oc28 kV28 dc28 pm28 cd28 ct28 oc29 kV29 dc29 pm29 cd29 ct29 oc30 kV30 dc30 pm30 cd30 ct30 oc31 kV31 dc31 pm31 cd31 ct31 oc32 kV32 dc32 pm32 cd32 ct32 oc33 kV33 dc33 pm33 cd33 ct33 oc34 kV34 dc34 pm34 cd34 ct34 : Value}
    (a1 : PySem.W.nsIn K mainGlobals "is_name" = some (some (.ref f1))) (l1 : K.lookup f1 = some ⟨oc1, od1, .func (PySem.W.fnOf "is_name" "is_name" (defArgs S_is_name) (defBody S_is_name) (defScope S_is_name) .none kV1 dc1 pm1 an1 cd1 ct1), sl1⟩) (c1 : PySem.W.codeIn K cd1 "is_name" = true) (k1 : PySem.W.keepIn K (.ref f1) = true)
    (a2 : PySem.W.nsIn K mainGlobals "row_end" = some (some (.ref f2))) (l2 : K.lookup f2 = some ⟨oc2, od2, .func (PySem.W.fnOf "row_end" "row_end" (defArgs S_row_end) (defBody S_row_end) (defScope S_row_end) .none kV2 dc2 pm2 an2 cd2 ct2), sl2⟩) (c2 : PySem.W.codeIn K cd2 "row_end" = true) (k2 : PySem.W.keepIn K (.ref f2) = true)
    (a3 : PySem.W.nsIn K mainGlobals "steps_of" = some (some (.ref f3))) (l3 : K.lookup f3 = some ⟨oc3, od3, .func (PySem.W.fnOf "steps_of" "steps_of" (defArgs S_steps_of) (defBody S_steps_of) (defScope S_steps_of) .none kV3 dc3 pm3 an3 cd3 ct3), sl3⟩) (c3 : PySem.W.codeIn K cd3 "steps_of" = true) (k3 : PySem.W.keepIn K (.ref f3) = true)
    (a4 : PySem.W.nsIn K mainGlobals "expression_at" = some (some (.ref f4))) (l4 : K.lookup f4 = some ⟨oc4, od4, .func (PySem.W.fnOf "expression_at" "expression_at" (defArgs S_expression_at) (defBody S_expression_at) (defScope S_expression_at) .none kV4 dc4 pm4 an4 cd4 ct4), sl4⟩) (c4 : PySem.W.codeIn K cd4 "expression_at" = true) (k4 : PySem.W.keepIn K (.ref f4) = true)
    (a5 : PySem.W.nsIn K mainGlobals "token_end" = some (some (.ref f5))) (l5 : K.lookup f5 = some ⟨oc5, od5, .func (PySem.W.fnOf "token_end" "token_end" (defArgs S_token_end) (defBody S_token_end) (defScope S_token_end) .none kV5 dc5 pm5 an5 cd5 ct5), sl5⟩) (c5 : PySem.W.codeIn K cd5 "token_end" = true) (k5 : PySem.W.keepIn K (.ref f5) = true)
    (a6 : PySem.W.nsIn K mainGlobals "weights_of" = some (some (.ref f6))) (l6 : K.lookup f6 = some ⟨oc6, od6, .func (PySem.W.fnOf "weights_of" "weights_of" (defArgs S_weights_of) (defBody S_weights_of) (defScope S_weights_of) .none kV6 dc6 pm6 an6 cd6 ct6), sl6⟩) (c6 : PySem.W.codeIn K cd6 "weights_of" = true) (k6 : PySem.W.keepIn K (.ref f6) = true)
    (a7 : PySem.W.nsIn K mainGlobals "rows_with" = some (some (.ref f7))) (l7 : K.lookup f7 = some ⟨oc7, od7, .func (PySem.W.fnOf "rows_with" "rows_with" (defArgs S_rows_with) (defBody S_rows_with) (defScope S_rows_with) .none kV7 dc7 pm7 an7 cd7 ct7), sl7⟩) (c7 : PySem.W.codeIn K cd7 "rows_with" = true) (k7 : PySem.W.keepIn K (.ref f7) = true)
    (a8 : PySem.W.nsIn K mainGlobals "weights_in" = some (some (.ref f8))) (l8 : K.lookup f8 = some ⟨oc8, od8, .func (PySem.W.fnOf "weights_in" "weights_in" (defArgs S_weights_in) (defBody S_weights_in) (defScope S_weights_in) .none kV8 dc8 pm8 an8 cd8 ct8), sl8⟩) (c8 : PySem.W.codeIn K cd8 "weights_in" = true) (k8 : PySem.W.keepIn K (.ref f8) = true)
    (a9 : PySem.W.nsIn K mainGlobals "part_ahead" = some (some (.ref f9))) (l9 : K.lookup f9 = some ⟨oc9, od9, .func (PySem.W.fnOf "part_ahead" "part_ahead" (defArgs S_part_ahead) (defBody S_part_ahead) (defScope S_part_ahead) .none kV9 dc9 pm9 an9 cd9 ct9), sl9⟩) (c9 : PySem.W.codeIn K cd9 "part_ahead" = true) (k9 : PySem.W.keepIn K (.ref f9) = true)
    (a10 : PySem.W.nsIn K mainGlobals "int_ahead" = some (some (.ref f10))) (l10 : K.lookup f10 = some ⟨oc10, od10, .func (PySem.W.fnOf "int_ahead" "int_ahead" (defArgs S_int_ahead) (defBody S_int_ahead) (defScope S_int_ahead) .none kV10 dc10 pm10 an10 cd10 ct10), sl10⟩) (c10 : PySem.W.codeIn K cd10 "int_ahead" = true) (k10 : PySem.W.keepIn K (.ref f10) = true)
    (a11 : PySem.W.nsIn K mainGlobals "part_between" = some (some (.ref f11))) (l11 : K.lookup f11 = some ⟨oc11, od11, .func (PySem.W.fnOf "part_between" "part_between" (defArgs S_part_between) (defBody S_part_between) (defScope S_part_between) .none kV11 dc11 pm11 an11 cd11 ct11), sl11⟩) (c11 : PySem.W.codeIn K cd11 "part_between" = true) (k11 : PySem.W.keepIn K (.ref f11) = true)
    (a12 : PySem.W.nsIn K mainGlobals "joined" = some (some (.ref f12))) (l12 : K.lookup f12 = some ⟨oc12, od12, .func (PySem.W.fnOf "joined" "joined" (defArgs S_joined) (defBody S_joined) (defScope S_joined) .none kV12 dc12 pm12 an12 cd12 ct12), sl12⟩) (c12 : PySem.W.codeIn K cd12 "joined" = true) (k12 : PySem.W.keepIn K (.ref f12) = true)
    (a13 : PySem.W.nsIn K mainGlobals "is_side" = some (some (.ref f13))) (l13 : K.lookup f13 = some ⟨oc13, od13, .func (PySem.W.fnOf "is_side" "is_side" (defArgs S_is_side) (defBody S_is_side) (defScope S_is_side) .none kV13 dc13 pm13 an13 cd13 ct13), sl13⟩) (c13 : PySem.W.codeIn K cd13 "is_side" = true) (k13 : PySem.W.keepIn K (.ref f13) = true)
    (a14 : PySem.W.nsIn K mainGlobals "with_bits" = some (some (.ref f14))) (l14 : K.lookup f14 = some ⟨oc14, od14, .func (PySem.W.fnOf "with_bits" "with_bits" (defArgs S_with_bits) (defBody S_with_bits) (defScope S_with_bits) .none kV14 dc14 pm14 an14 cd14 ct14), sl14⟩) (c14 : PySem.W.codeIn K cd14 "with_bits" = true) (k14 : PySem.W.keepIn K (.ref f14) = true)
    (a15 : PySem.W.nsIn K mainGlobals "shifted" = some (some (.ref f15))) (l15 : K.lookup f15 = some ⟨oc15, od15, .func (PySem.W.fnOf "shifted" "shifted" (defArgs S_shifted) (defBody S_shifted) (defScope S_shifted) .none kV15 dc15 pm15 an15 cd15 ct15), sl15⟩) (c15 : PySem.W.codeIn K cd15 "shifted" = true) (k15 : PySem.W.keepIn K (.ref f15) = true)
    (a16 : PySem.W.nsIn K mainGlobals "multiplied" = some (some (.ref f16))) (l16 : K.lookup f16 = some ⟨oc16, od16, .func (PySem.W.fnOf "multiplied" "multiplied" (defArgs S_multiplied) (defBody S_multiplied) (defScope S_multiplied) .none kV16 dc16 pm16 an16 cd16 ct16), sl16⟩) (c16 : PySem.W.codeIn K cd16 "multiplied" = true) (k16 : PySem.W.keepIn K (.ref f16) = true)
    (a17 : PySem.W.nsIn K mainGlobals "scaled" = some (some (.ref f17))) (l17 : K.lookup f17 = some ⟨oc17, od17, .func (PySem.W.fnOf "scaled" "scaled" (defArgs S_scaled) (defBody S_scaled) (defScope S_scaled) .none kV17 dc17 pm17 an17 cd17 ct17), sl17⟩) (c17 : PySem.W.codeIn K cd17 "scaled" = true) (k17 : PySem.W.keepIn K (.ref f17) = true)
    (a18 : PySem.W.nsIn K mainGlobals "summed" = some (some (.ref f18))) (l18 : K.lookup f18 = some ⟨oc18, od18, .func (PySem.W.fnOf "summed" "summed" (defArgs S_summed) (defBody S_summed) (defScope S_summed) .none kV18 dc18 pm18 an18 cd18 ct18), sl18⟩) (c18 : PySem.W.codeIn K cd18 "summed" = true) (k18 : PySem.W.keepIn K (.ref f18) = true)
    (a19 : PySem.W.nsIn K mainGlobals "holds" = some (some (.ref f19))) (l19 : K.lookup f19 = some ⟨oc19, od19, .func (PySem.W.fnOf "holds" "holds" (defArgs S_holds) (defBody S_holds) (defScope S_holds) .none kV19 dc19 pm19 an19 cd19 ct19), sl19⟩) (c19 : PySem.W.codeIn K cd19 "holds" = true) (k19 : PySem.W.keepIn K (.ref f19) = true)
    (a20 : PySem.W.nsIn K mainGlobals "counterexample" = some (some (.ref f20))) (l20 : K.lookup f20 = some ⟨oc20, od20, .func (PySem.W.fnOf "counterexample" "counterexample" (defArgs S_counterexample) (defBody S_counterexample) (defScope S_counterexample) .none kV20 dc20 pm20 an20 cd20 ct20), sl20⟩) (c20 : PySem.W.codeIn K cd20 "counterexample" = true) (k20 : PySem.W.keepIn K (.ref f20) = true)
    (a21 : PySem.W.nsIn K mainGlobals "conjunctions" = some (some (.ref f21))) (l21 : K.lookup f21 = some ⟨oc21, od21, .func (PySem.W.fnOf "conjunctions" "conjunctions" (defArgs S_conjunctions) (defBody S_conjunctions) (defScope S_conjunctions) .none kV21 dc21 pm21 an21 cd21 ct21), sl21⟩) (c21 : PySem.W.codeIn K cd21 "conjunctions" = true) (k21 : PySem.W.keepIn K (.ref f21) = true)
    (a22 : PySem.W.nsIn K mainGlobals "choices" = some (some (.ref f22))) (l22 : K.lookup f22 = some ⟨oc22, od22, .func (PySem.W.fnOf "choices" "choices" (defArgs S_choices) (defBody S_choices) (defScope S_choices) .none kV22 dc22 pm22 an22 cd22 ct22), sl22⟩) (c22 : PySem.W.codeIn K cd22 "choices" = true) (k22 : PySem.W.keepIn K (.ref f22) = true)
    (a23 : PySem.W.nsIn K mainGlobals "read_claim" = some (some (.ref f23))) (l23 : K.lookup f23 = some ⟨oc23, od23, .func (PySem.W.fnOf "read_claim" "read_claim" (defArgs S_read_claim) (defBody S_read_claim) (defScope S_read_claim) .none kV23 dc23 pm23 an23 cd23 ct23), sl23⟩) (c23 : PySem.W.codeIn K cd23 "read_claim" = true) (k23 : PySem.W.keepIn K (.ref f23) = true)
    (a24 : PySem.W.nsIn K mainGlobals "names_in" = some (some (.ref f24))) (l24 : K.lookup f24 = some ⟨oc24, od24, .func (PySem.W.fnOf "names_in" "names_in" (defArgs S_names_in) (defBody S_names_in) (defScope S_names_in) .none kV24 dc24 pm24 an24 cd24 ct24), sl24⟩) (c24 : PySem.W.codeIn K cd24 "names_in" = true) (k24 : PySem.W.keepIn K (.ref f24) = true)
    (a25 : PySem.W.nsIn K mainGlobals "last_rows" = some (some (.ref f25))) (l25 : K.lookup f25 = some ⟨oc25, od25, .func (PySem.W.fnOf "last_rows" "last_rows" (defArgs S_last_rows) (defBody S_last_rows) (defScope S_last_rows) .none kV25 dc25 pm25 an25 cd25 ct25), sl25⟩) (c25 : PySem.W.codeIn K cd25 "last_rows" = true) (k25 : PySem.W.keepIn K (.ref f25) = true)
    (a26 : PySem.W.nsIn K mainGlobals "refutation" = some (some (.ref f26))) (l26 : K.lookup f26 = some ⟨oc26, od26, .func (PySem.W.fnOf "refutation" "refutation" (defArgs S_refutation) (defBody S_refutation) (defScope S_refutation) .none kV26 dc26 pm26 an26 cd26 ct26), sl26⟩) (c26 : PySem.W.codeIn K cd26 "refutation" = true) (k26 : PySem.W.keepIn K (.ref f26) = true)
    (a27 : PySem.W.nsIn K mainGlobals "is_refuted" = some (some (.ref f27))) (l27 : K.lookup f27 = some ⟨oc27, od27, .func (PySem.W.fnOf "is_refuted" "is_refuted" (defArgs S_is_refuted) (defBody S_is_refuted) (defScope S_is_refuted) .none kV27 dc27 pm27 an27 cd27 ct27), sl27⟩) (c27 : PySem.W.codeIn K cd27 "is_refuted" = true) (k27 : PySem.W.keepIn K (.ref f27) = true)
    (a28 : PySem.W.nsIn K mainGlobals "_law_pen" = some (some (.ref f28))) (l28 : K.lookup f28 = some ⟨oc28, od28, .func (PySem.W.fnOf "_law_pen" "_law_pen" (defArgs S__law_pen) (defBody S__law_pen) (defScope S__law_pen) .none kV28 dc28 pm28 an28 cd28 ct28), sl28⟩) (c28 : PySem.W.codeIn K cd28 "_law_pen" = true) (k28 : PySem.W.keepIn K (.ref f28) = true)
    (a29 : PySem.W.nsIn K mainGlobals "_law_draw" = some (some (.ref f29))) (l29 : K.lookup f29 = some ⟨oc29, od29, .func (PySem.W.fnOf "_law_draw" "_law_draw" (defArgs S__law_draw) (defBody S__law_draw) (defScope S__law_draw) .none kV29 dc29 pm29 an29 cd29 ct29), sl29⟩) (c29 : PySem.W.codeIn K cd29 "_law_draw" = true) (k29 : PySem.W.keepIn K (.ref f29) = true)
    (a30 : PySem.W.nsIn K mainGlobals "_law_pick" = some (some (.ref f30))) (l30 : K.lookup f30 = some ⟨oc30, od30, .func (PySem.W.fnOf "_law_pick" "_law_pick" (defArgs S__law_pick) (defBody S__law_pick) (defScope S__law_pick) .none kV30 dc30 pm30 an30 cd30 ct30), sl30⟩) (c30 : PySem.W.codeIn K cd30 "_law_pick" = true) (k30 : PySem.W.keepIn K (.ref f30) = true)
    (a31 : PySem.W.nsIn K mainGlobals "_law_part" = some (some (.ref f31))) (l31 : K.lookup f31 = some ⟨oc31, od31, .func (PySem.W.fnOf "_law_part" "_law_part" (defArgs S__law_part) (defBody S__law_part) (defScope S__law_part) .none kV31 dc31 pm31 an31 cd31 ct31), sl31⟩) (c31 : PySem.W.codeIn K cd31 "_law_part" = true) (k31 : PySem.W.keepIn K (.ref f31) = true)
    (a32 : PySem.W.nsIn K mainGlobals "_law_bare" = some (some (.ref f32))) (l32 : K.lookup f32 = some ⟨oc32, od32, .func (PySem.W.fnOf "_law_bare" "_law_bare" (defArgs S__law_bare) (defBody S__law_bare) (defScope S__law_bare) .none kV32 dc32 pm32 an32 cd32 ct32), sl32⟩) (c32 : PySem.W.codeIn K cd32 "_law_bare" = true) (k32 : PySem.W.keepIn K (.ref f32) = true)
    (a33 : PySem.W.nsIn K mainGlobals "_law_odd" = some (some (.ref f33))) (l33 : K.lookup f33 = some ⟨oc33, od33, .func (PySem.W.fnOf "_law_odd" "_law_odd" (defArgs S__law_odd) (defBody S__law_odd) (defScope S__law_odd) .none kV33 dc33 pm33 an33 cd33 ct33), sl33⟩) (c33 : PySem.W.codeIn K cd33 "_law_odd" = true) (k33 : PySem.W.keepIn K (.ref f33) = true)
    (a34 : PySem.W.nsIn K mainGlobals "law" = some (some (.ref f34))) (l34 : K.lookup f34 = some ⟨oc34, od34, .func (PySem.W.fnOf "law" "law" (defArgs S_law) (defBody S_law) (defScope S_law) .none kV34 dc34 pm34 an34 cd34 ct34), sl34⟩) (c34 : PySem.W.codeIn K cd34 "law" = true) (k34 : PySem.W.keepIn K (.ref f34) = true)
    {tk_MOST_LETTERS : Tok} (g_MOST_LETTERS : PySem.W.nsIn K mainGlobals "MOST_LETTERS" = some (some (.int 8 tk_MOST_LETTERS)))
    {tk_MOST_DIGITS : Tok} (g_MOST_DIGITS : PySem.W.nsIn K mainGlobals "MOST_DIGITS" = some (some (.int 1000 tk_MOST_DIGITS)))
    {tk_MOST_LEVELS_OPEN : Tok} (g_MOST_LEVELS_OPEN : PySem.W.nsIn K mainGlobals "MOST_LEVELS_OPEN" = some (some (.int 20 tk_MOST_LEVELS_OPEN)))
    {tk_STRENGTH_OF_PARENTHESIS : Tok} (g_STRENGTH_OF_PARENTHESIS : PySem.W.nsIn K mainGlobals "STRENGTH_OF_PARENTHESIS" = some (some (.int 0 tk_STRENGTH_OF_PARENTHESIS)))
    {tk_LEAST_STRENGTH : Tok} (g_LEAST_STRENGTH : PySem.W.nsIn K mainGlobals "LEAST_STRENGTH" = some (some (.int 1 tk_LEAST_STRENGTH)))
    {tk_STRENGTH_AHEAD : Tok} (g_STRENGTH_AHEAD : PySem.W.nsIn K mainGlobals "STRENGTH_AHEAD" = some (some (.int 7 tk_STRENGTH_AHEAD)))
    {tk_STRENGTH_OF_POWER : Tok} (g_STRENGTH_OF_POWER : PySem.W.nsIn K mainGlobals "STRENGTH_OF_POWER" = some (some (.int 8 tk_STRENGTH_OF_POWER)))
    {tk_MOST_SHIFT : Tok} (g_MOST_SHIFT : PySem.W.nsIn K mainGlobals "MOST_SHIFT" = some (some (.int 64 tk_MOST_SHIFT)))
    {tk_MOST_NAMES : Tok} (g_MOST_NAMES : PySem.W.nsIn K mainGlobals "MOST_NAMES" = some (some (.int 5 tk_MOST_NAMES)))
    {tk_DIGITS : Tok} (g_DIGITS : PySem.W.nsIn K mainGlobals "DIGITS" = some (some (.str "0123456789" tk_DIGITS)))
    {tk_LETTERS : Tok} (g_LETTERS : PySem.W.nsIn K mainGlobals "LETTERS" = some (some (.str "abcdefghijklmnopqrstuvwxyz" tk_LETTERS)))
    {tk_SHORT_SIGNS : Tok} (g_SHORT_SIGNS : PySem.W.nsIn K mainGlobals "SHORT_SIGNS" = some (some (.str "|^&+-*~()<>" tk_SHORT_SIGNS)))
    {tk_AHEAD : Tok} (g_AHEAD : PySem.W.nsIn K mainGlobals "AHEAD" = some (some (.str "ahead" tk_AHEAD)))
    {tk_NAME : Tok} (g_NAME : PySem.W.nsIn K mainGlobals "NAME" = some (some (.str "name" tk_NAME)))
    {tk_NUMBER : Tok} (g_NUMBER : PySem.W.nsIn K mainGlobals "NUMBER" = some (some (.str "number" tk_NUMBER)))
    {tk_BETWEEN : Tok} (g_BETWEEN : PySem.W.nsIn K mainGlobals "BETWEEN" = some (some (.str "between" tk_BETWEEN)))
    {tk_WHOLE : Tok} (g_WHOLE : PySem.W.nsIn K mainGlobals "WHOLE" = some (some (.str "whole" tk_WHOLE)))
    {tk_BITS : Tok} (g_BITS : PySem.W.nsIn K mainGlobals "BITS" = some (some (.str "bits" tk_BITS)))
    {tk_SUM : Tok} (g_SUM : PySem.W.nsIn K mainGlobals "SUM" = some (some (.str "sum" tk_SUM)))
    (z_len : PySem.W.nsIn K mainGlobals "len" = some none)
    (z_int : PySem.W.nsIn K mainGlobals "int" = some none)
    (z_isinstance : PySem.W.nsIn K mainGlobals "isinstance" = some none)
    (z_sum : PySem.W.nsIn K mainGlobals "sum" = some none)
    (z_max : PySem.W.nsIn K mainGlobals "max" = some none)
    (z_min : PySem.W.nsIn K mainGlobals "min" = some none)
    (z_sorted : PySem.W.nsIn K mainGlobals "sorted" = some none)
    (z_tuple : PySem.W.nsIn K mainGlobals "tuple" = some none)
    (z_list : PySem.W.nsIn K mainGlobals "list" = some none)
    (z_range : PySem.W.nsIn K mainGlobals "range" = some none)
    (z_repr : PySem.W.nsIn K mainGlobals "repr" = some none)
    (z_bool : PySem.W.nsIn K mainGlobals "bool" = some none)
    (z_abs : PySem.W.nsIn K mainGlobals "abs" = some none)
    (z_enumerate : PySem.W.nsIn K mainGlobals "enumerate" = some none)
    (z_zip : PySem.W.nsIn K mainGlobals "zip" = some none)
    (z_str : PySem.W.nsIn K mainGlobals "str" = some none)
    (z_dict : PySem.W.nsIn K mainGlobals "dict" = some none)
    (aC_Reader : PySem.W.nsIn K mainGlobals "Reader" = some (some (.ref C_Reader)))
    (pg_R : PySem.W.plainGet K C_Reader Str.empty = true)
    (hd_R : PySem.W.hasDictIn K C_Reader = true)
    (po_R : PySem.W.plainOver K C_Reader = true)
    (sa_R : PySem.W.findIn K (.ref C_Reader) "__setattr__" = some (some (.builtin "object.__setattr__")))
    (mk_R : PySem.W.makesIn K C_Reader = true)
    (kC_R : PySem.W.keepIn K (.ref C_Reader) = true)
    (na_text : PySem.W.findIn K (.ref C_Reader) "text" = some none)
    (na_place : PySem.W.findIn K (.ref C_Reader) "place" = some none)
    (na_steps : PySem.W.findIn K (.ref C_Reader) "steps" = some none)
    (na_pending : PySem.W.findIn K (.ref C_Reader) "pending" = some none)
    (na_levels : PySem.W.findIn K (.ref C_Reader) "levels" = some none)
    (na_opened : PySem.W.findIn K (.ref C_Reader) "opened" = some none)
    (at___init__ : PySem.W.findIn K (.ref C_Reader) "__init__" = some (some (.ref fM___init__)))
    (fn___init__ : PySem.W.isFn K (.ref fM___init__) = true)
    (lM___init__ : K.lookup fM___init__ = some ⟨ocM___init__, odM___init__, .func (PySem.W.fnOf "__init__" "Reader.__init__" (defArgs S_Reader___init__) (defBody S_Reader___init__) (defScope S_Reader___init__) .none kVM___init__ dcM___init__ pmM___init__ anM___init__ cdM___init__ ctM___init__), slM___init__⟩)
    (cM___init__ : PySem.W.codeIn K cdM___init__ "Reader.__init__" = true)
    (kM___init__ : PySem.W.keepIn K (.ref fM___init__) = true)
    (at_skip : PySem.W.findIn K (.ref C_Reader) "skip" = some (some (.ref fM_skip)))
    (fn_skip : PySem.W.isFn K (.ref fM_skip) = true)
    (lM_skip : K.lookup fM_skip = some ⟨ocM_skip, odM_skip, .func (PySem.W.fnOf "skip" "Reader.skip" (defArgs S_Reader_skip) (defBody S_Reader_skip) (defScope S_Reader_skip) .none kVM_skip dcM_skip pmM_skip anM_skip cdM_skip ctM_skip), slM_skip⟩)
    (cM_skip : PySem.W.codeIn K cdM_skip "Reader.skip" = true)
    (kM_skip : PySem.W.keepIn K (.ref fM_skip) = true)
    (at_peek : PySem.W.findIn K (.ref C_Reader) "peek" = some (some (.ref fM_peek)))
    (fn_peek : PySem.W.isFn K (.ref fM_peek) = true)
    (lM_peek : K.lookup fM_peek = some ⟨ocM_peek, odM_peek, .func (PySem.W.fnOf "peek" "Reader.peek" (defArgs S_Reader_peek) (defBody S_Reader_peek) (defScope S_Reader_peek) .none kVM_peek dcM_peek pmM_peek anM_peek cdM_peek ctM_peek), slM_peek⟩)
    (cM_peek : PySem.W.codeIn K cdM_peek "Reader.peek" = true)
    (kM_peek : PySem.W.keepIn K (.ref fM_peek) = true)
    (at_open_level : PySem.W.findIn K (.ref C_Reader) "open_level" = some (some (.ref fM_open_level)))
    (fn_open_level : PySem.W.isFn K (.ref fM_open_level) = true)
    (lM_open_level : K.lookup fM_open_level = some ⟨ocM_open_level, odM_open_level, .func (PySem.W.fnOf "open_level" "Reader.open_level" (defArgs S_Reader_open_level) (defBody S_Reader_open_level) (defScope S_Reader_open_level) .none kVM_open_level dcM_open_level pmM_open_level anM_open_level cdM_open_level ctM_open_level), slM_open_level⟩)
    (cM_open_level : PySem.W.codeIn K cdM_open_level "Reader.open_level" = true)
    (kM_open_level : PySem.W.keepIn K (.ref fM_open_level) = true)
    (at_close_last : PySem.W.findIn K (.ref C_Reader) "close_last" = some (some (.ref fM_close_last)))
    (fn_close_last : PySem.W.isFn K (.ref fM_close_last) = true)
    (lM_close_last : K.lookup fM_close_last = some ⟨ocM_close_last, odM_close_last, .func (PySem.W.fnOf "close_last" "Reader.close_last" (defArgs S_Reader_close_last) (defBody S_Reader_close_last) (defScope S_Reader_close_last) .none kVM_close_last dcM_close_last pmM_close_last anM_close_last cdM_close_last ctM_close_last), slM_close_last⟩)
    (cM_close_last : PySem.W.codeIn K cdM_close_last "Reader.close_last" = true)
    (kM_close_last : PySem.W.keepIn K (.ref fM_close_last) = true)
    (at_settle : PySem.W.findIn K (.ref C_Reader) "settle" = some (some (.ref fM_settle)))
    (fn_settle : PySem.W.isFn K (.ref fM_settle) = true)
    (lM_settle : K.lookup fM_settle = some ⟨ocM_settle, odM_settle, .func (PySem.W.fnOf "settle" "Reader.settle" (defArgs S_Reader_settle) (defBody S_Reader_settle) (defScope S_Reader_settle) .none kVM_settle dcM_settle pmM_settle anM_settle cdM_settle ctM_settle), slM_settle⟩)
    (cM_settle : PySem.W.codeIn K cdM_settle "Reader.settle" = true)
    (kM_settle : PySem.W.keepIn K (.ref fM_settle) = true)
    (at_close_parenthesis : PySem.W.findIn K (.ref C_Reader) "close_parenthesis" = some (some (.ref fM_close_parenthesis)))
    (fn_close_parenthesis : PySem.W.isFn K (.ref fM_close_parenthesis) = true)
    (lM_close_parenthesis : K.lookup fM_close_parenthesis = some ⟨ocM_close_parenthesis, odM_close_parenthesis, .func (PySem.W.fnOf "close_parenthesis" "Reader.close_parenthesis" (defArgs S_Reader_close_parenthesis) (defBody S_Reader_close_parenthesis) (defScope S_Reader_close_parenthesis) .none kVM_close_parenthesis dcM_close_parenthesis pmM_close_parenthesis anM_close_parenthesis cdM_close_parenthesis ctM_close_parenthesis), slM_close_parenthesis⟩)
    (cM_close_parenthesis : PySem.W.codeIn K cdM_close_parenthesis "Reader.close_parenthesis" = true)
    (kM_close_parenthesis : PySem.W.keepIn K (.ref fM_close_parenthesis) = true)
    (at_begin_right_side : PySem.W.findIn K (.ref C_Reader) "begin_right_side" = some (some (.ref fM_begin_right_side)))
    (fn_begin_right_side : PySem.W.isFn K (.ref fM_begin_right_side) = true)
    (lM_begin_right_side : K.lookup fM_begin_right_side = some ⟨ocM_begin_right_side, odM_begin_right_side, .func (PySem.W.fnOf "begin_right_side" "Reader.begin_right_side" (defArgs S_Reader_begin_right_side) (defBody S_Reader_begin_right_side) (defScope S_Reader_begin_right_side) .none kVM_begin_right_side dcM_begin_right_side pmM_begin_right_side anM_begin_right_side cdM_begin_right_side ctM_begin_right_side), slM_begin_right_side⟩)
    (cM_begin_right_side : PySem.W.codeIn K cdM_begin_right_side "Reader.begin_right_side" = true)
    (kM_begin_right_side : PySem.W.keepIn K (.ref fM_begin_right_side) = true)
    (at_take_operand : PySem.W.findIn K (.ref C_Reader) "take_operand" = some (some (.ref fM_take_operand)))
    (fn_take_operand : PySem.W.isFn K (.ref fM_take_operand) = true)
    (lM_take_operand : K.lookup fM_take_operand = some ⟨ocM_take_operand, odM_take_operand, .func (PySem.W.fnOf "take_operand" "Reader.take_operand" (defArgs S_Reader_take_operand) (defBody S_Reader_take_operand) (defScope S_Reader_take_operand) .none kVM_take_operand dcM_take_operand pmM_take_operand anM_take_operand cdM_take_operand ctM_take_operand), slM_take_operand⟩)
    (cM_take_operand : PySem.W.codeIn K cdM_take_operand "Reader.take_operand" = true)
    (kM_take_operand : PySem.W.keepIn K (.ref fM_take_operand) = true)
    (at_take_operator : PySem.W.findIn K (.ref C_Reader) "take_operator" = some (some (.ref fM_take_operator)))
    (fn_take_operator : PySem.W.isFn K (.ref fM_take_operator) = true)
    (lM_take_operator : K.lookup fM_take_operator = some ⟨ocM_take_operator, odM_take_operator, .func (PySem.W.fnOf "take_operator" "Reader.take_operator" (defArgs S_Reader_take_operator) (defBody S_Reader_take_operator) (defScope S_Reader_take_operator) .none kVM_take_operator dcM_take_operator pmM_take_operator anM_take_operator cdM_take_operator ctM_take_operator), slM_take_operator⟩)
    (cM_take_operator : PySem.W.codeIn K cdM_take_operator "Reader.take_operator" = true)
    (kM_take_operator : PySem.W.keepIn K (.ref fM_take_operator) = true)
    (aT_LONG_SIGNS : PySem.W.nsIn K mainGlobals "LONG_SIGNS" = some (some (.ref T_LONG_SIGNS)))
    (tT_LONG_SIGNS : K.lookup T_LONG_SIGNS = some oT_LONG_SIGNS)
    (yT_LONG_SIGNS : oT_LONG_SIGNS.cls = .type "tuple")
    (uT_LONG_SIGNS : oT_LONG_SIGNS.data = .seq #[.str "**" tk_LONG_SIGNS0, .str "//" tk_LONG_SIGNS1, .str "<<" tk_LONG_SIGNS2, .str ">>" tk_LONG_SIGNS3, .str "==" tk_LONG_SIGNS4, .str "!=" tk_LONG_SIGNS5, .str "<=" tk_LONG_SIGNS6, .str ">=" tk_LONG_SIGNS7] nT_LONG_SIGNS)
    (aT_NO_NAMES : PySem.W.nsIn K mainGlobals "NO_NAMES" = some (some (.ref T_NO_NAMES)))
    (tT_NO_NAMES : K.lookup T_NO_NAMES = some oT_NO_NAMES)
    (yT_NO_NAMES : oT_NO_NAMES.cls = .type "tuple")
    (uT_NO_NAMES : oT_NO_NAMES.data = .seq #[.str "repeat" tk_NO_NAMES0, .str "if" tk_NO_NAMES1, .str "else" tk_NO_NAMES2, .str "end" tk_NO_NAMES3] nT_NO_NAMES)
    (aT_SIGNS_AHEAD : PySem.W.nsIn K mainGlobals "SIGNS_AHEAD" = some (some (.ref T_SIGNS_AHEAD)))
    (tT_SIGNS_AHEAD : K.lookup T_SIGNS_AHEAD = some oT_SIGNS_AHEAD)
    (yT_SIGNS_AHEAD : oT_SIGNS_AHEAD.cls = .type "tuple")
    (uT_SIGNS_AHEAD : oT_SIGNS_AHEAD.data = .seq #[.str "-" tk_SIGNS_AHEAD0, .str "+" tk_SIGNS_AHEAD1, .str "~" tk_SIGNS_AHEAD2] nT_SIGNS_AHEAD)
    (aT_STRENGTHS_OF_LEVELS : PySem.W.nsIn K mainGlobals "STRENGTHS_OF_LEVELS" = some (some (.ref T_STRENGTHS_OF_LEVELS)))
    (tT_STRENGTHS_OF_LEVELS : K.lookup T_STRENGTHS_OF_LEVELS = some oT_STRENGTHS_OF_LEVELS)
    (yT_STRENGTHS_OF_LEVELS : oT_STRENGTHS_OF_LEVELS.cls = .type "tuple")
    (uT_STRENGTHS_OF_LEVELS : oT_STRENGTHS_OF_LEVELS.data = .seq #[.int 0 tk_STRENGTHS_OF_LEVELS0, .int 7 tk_STRENGTHS_OF_LEVELS1, .int 8 tk_STRENGTHS_OF_LEVELS2] nT_STRENGTHS_OF_LEVELS)
    (aT_SIGNS : PySem.W.nsIn K mainGlobals "SIGNS" = some (some (.ref T_SIGNS)))
    (tT_SIGNS : K.lookup T_SIGNS = some oT_SIGNS)
    (yT_SIGNS : oT_SIGNS.cls = .type "tuple")
    (uT_SIGNS : oT_SIGNS.data = .seq #[.str "==" tk_SIGNS0, .str "<=" tk_SIGNS1, .str "<" tk_SIGNS2, .str ">=" tk_SIGNS3, .str ">" tk_SIGNS4] nT_SIGNS)
    (aT_STRENGTHS : PySem.W.nsIn K mainGlobals "STRENGTHS" = some (some (.ref T_STRENGTHS)))
    (dT_STRENGTHS : dicI K T_STRENGTHS = some (strL.map some))
    (eT_STRENGTHS : He.dicW K T_STRENGTHS = some (He.keysIn w.params (strL.map (·.1))))
    (kv_holds : kV19 = .ref D_holds)
    (kd_holds : PySem.W.nsIn K D_holds "from_zero" = some (some (.ref T0_holds)))
    (t0_holds : K.lookup T0_holds = some oD_holds)
    (y0_holds : oD_holds.cls = .type "tuple")
    (u0_holds : oD_holds.data = .seq #[] nD_holds)
    (kv_counterexample : kV20 = .ref D_counterexample)
    (kd_counterexample : PySem.W.nsIn K D_counterexample "from_zero" = some (some (.ref T0_counterexample)))
    (t0_counterexample : K.lookup T0_counterexample = some oD_counterexample)
    (y0_counterexample : oD_counterexample.cls = .type "tuple")
    (u0_counterexample : oD_counterexample.data = .seq #[] nD_counterexample)
    {C_FE : Addr} {nm_FE qq_FE : Str} {NN_FE : Addr} {bs_FE sb_FE : List Value} {sn_FE : List Str} {ab_FE : Bool} {col_FE : Option Bool} {dd_FE : Option Addr} {k0_FE k1_FE k2_FE k3_FE k5_FE : Option Value} (aC_FE : PySem.W.nsIn K mainGlobals "FarError" = some (some (.ref C_FE))) (xC_FE : K.lookup C_FE = some (excClassObj nm_FE qq_FE C_FE NN_FE bs_FE [.type "ValueError", .type "Exception", .type "BaseException", .type "object"] true sn_FE sb_FE ab_FE col_FE dd_FE k0_FE k1_FE k2_FE k3_FE k5_FE "ValueError.__new__")) (fi_FE : PySem.W.findIn K (.ref C_FE) "__init__" = some (some (.builtin "ValueError.__init__"))) (ty_FE : PySem.W.typeIn K (.ref C_FE) = some (.type "type")) (sp_FE : PySem.W.specialIn K (.builtin "object.__class__") "__get__" = some (some (.builtin "getset_descriptor.__get__"))) (tk_FE : PySem.W.takesIn K (.builtin "object.__class__") = some true) (opq_FE : PySem.W.nsIn K cStatics "thirdparty.any" = some none) (top_FE : (l.prog.main.scope.names.lookup ("super" : Str)).isSome = false) (su_FE : PySem.W.nsIn K mainGlobals "super" = some none)
    {C_BadText fI_BadText cc_BadText cda_BadText : Addr} {nm_BadText qq_BadText : Str} {NN_BadText : Addr} {bs_BadText sb_BadText : List Value} {sn_BadText : List Str} {ab_BadText : Bool} {col_BadText : Option Bool} {dd_BadText : Option Addr} {k0_BadText k1_BadText k2_BadText k3_BadText k5_BadText : Option Value} {ocI_BadText kVI_BadText dcI_BadText pmI_BadText ctI_BadText clc_BadText clI_BadText : Value} {odI_BadText anI_BadText cldc_BadText cdd_BadText : Option Addr} {slI_BadText csl_BadText cst_BadText : Array (Option Value)} {vs_BadText : Array Value} {file_BadText : Str} {tf_BadText : Tok} (aC_BadText : PySem.W.nsIn K mainGlobals "BadText" = some (some (.ref C_BadText))) (xC_BadText : K.lookup C_BadText = some (excClassObj nm_BadText qq_BadText C_BadText NN_BadText bs_BadText [.ref C_FE, .type "ValueError", .type "Exception", .type "BaseException", .type "object"] true sn_BadText sb_BadText ab_BadText col_BadText dd_BadText k0_BadText k1_BadText k2_BadText k3_BadText k5_BadText "ValueError.__new__")) (sa_BadText : PySem.W.findIn K (.ref C_BadText) "__setattr__" = some (some (.builtin "object.__setattr__"))) (ga_BadText : PySem.W.findIn K (.ref C_BadText) "__getattribute__" = some (some (.builtin "BaseException.__getattribute__"))) (gg_BadText : PySem.W.findIn K (.ref C_BadText) "__getattr__" = some none) (gc_BadText : PySem.W.findIn K (.ref C_BadText) "__class__" = some (some (.builtin "object.__class__"))) (ia_BadText : PySem.W.findIn K (.ref C_BadText) "__init__" = some (some (.ref fI_BadText))) (no0_BadText : PySem.W.findIn K (.ref C_BadText) "place" = some none) (it_BadText : PySem.W.typeIn K (.ref fI_BadText) = some (.type "function")) (ex_BadText : PySem.W.subIn K (.ref C_BadText) (.type "BaseException") = some true) (ve_BadText : PySem.W.subIn K (.ref C_BadText) (.type "ValueError") = some true) (sC_BadText : PySem.W.subIn K (.ref C_BadText) (.ref C_BadText) = some true) (sF_BadText : PySem.W.subIn K (.ref C_BadText) (.ref C_FE) = some true) (ty_BadText : PySem.W.typeIn K (.ref C_BadText) = some (.type "type")) (kC_BadText : PySem.W.keepIn K (.ref C_BadText) = true) (mS_BadText : PySem.W.mroIn K C_BadText (.ref C_BadText) = some true) (mO_BadText : PySem.W.mroIn K C_BadText (.type "object") = some true) (lI_BadText : K.lookup fI_BadText = some ⟨ocI_BadText, odI_BadText, .func (sxFd "BadText.__init__" S_BadText cc_BadText cda_BadText kVI_BadText dcI_BadText pmI_BadText anI_BadText ctI_BadText), slI_BadText⟩) (cI_BadText : PySem.W.codeIn K (.ref cda_BadText) "BadText.__init__" = true) (cell_BadText : K.lookup cc_BadText = some ⟨clc_BadText, cldc_BadText, .cell (some (.ref C_BadText)), csl_BadText⟩) (lc_BadText : K.lookup cda_BadText = some ⟨clI_BadText, cdd_BadText, .fields vs_BadText, cst_BadText⟩) (v2_BadText : vs_BadText[2]? = some (.str file_BadText tf_BadText)) (fl_BadText : ((l.prog.main.file : Str) == file_BadText) = true)
    {C_NotLinear fI_NotLinear cc_NotLinear cda_NotLinear : Addr} {nm_NotLinear qq_NotLinear : Str} {NN_NotLinear : Addr} {bs_NotLinear sb_NotLinear : List Value} {sn_NotLinear : List Str} {ab_NotLinear : Bool} {col_NotLinear : Option Bool} {dd_NotLinear : Option Addr} {k0_NotLinear k1_NotLinear k2_NotLinear k3_NotLinear k5_NotLinear : Option Value} {ocI_NotLinear kVI_NotLinear dcI_NotLinear pmI_NotLinear ctI_NotLinear clc_NotLinear clI_NotLinear : Value} {odI_NotLinear anI_NotLinear cldc_NotLinear cdd_NotLinear : Option Addr} {slI_NotLinear csl_NotLinear cst_NotLinear : Array (Option Value)} {vs_NotLinear : Array Value} {file_NotLinear : Str} {tf_NotLinear : Tok} (aC_NotLinear : PySem.W.nsIn K mainGlobals "NotLinear" = some (some (.ref C_NotLinear))) (xC_NotLinear : K.lookup C_NotLinear = some (excClassObj nm_NotLinear qq_NotLinear C_NotLinear NN_NotLinear bs_NotLinear [.ref C_FE, .type "ValueError", .type "Exception", .type "BaseException", .type "object"] true sn_NotLinear sb_NotLinear ab_NotLinear col_NotLinear dd_NotLinear k0_NotLinear k1_NotLinear k2_NotLinear k3_NotLinear k5_NotLinear "ValueError.__new__")) (sa_NotLinear : PySem.W.findIn K (.ref C_NotLinear) "__setattr__" = some (some (.builtin "object.__setattr__"))) (ga_NotLinear : PySem.W.findIn K (.ref C_NotLinear) "__getattribute__" = some (some (.builtin "BaseException.__getattribute__"))) (gg_NotLinear : PySem.W.findIn K (.ref C_NotLinear) "__getattr__" = some none) (gc_NotLinear : PySem.W.findIn K (.ref C_NotLinear) "__class__" = some (some (.builtin "object.__class__"))) (ia_NotLinear : PySem.W.findIn K (.ref C_NotLinear) "__init__" = some (some (.ref fI_NotLinear))) (no0_NotLinear : PySem.W.findIn K (.ref C_NotLinear) "place" = some none) (it_NotLinear : PySem.W.typeIn K (.ref fI_NotLinear) = some (.type "function")) (ex_NotLinear : PySem.W.subIn K (.ref C_NotLinear) (.type "BaseException") = some true) (ve_NotLinear : PySem.W.subIn K (.ref C_NotLinear) (.type "ValueError") = some true) (sC_NotLinear : PySem.W.subIn K (.ref C_NotLinear) (.ref C_NotLinear) = some true) (sF_NotLinear : PySem.W.subIn K (.ref C_NotLinear) (.ref C_FE) = some true) (ty_NotLinear : PySem.W.typeIn K (.ref C_NotLinear) = some (.type "type")) (kC_NotLinear : PySem.W.keepIn K (.ref C_NotLinear) = true) (mS_NotLinear : PySem.W.mroIn K C_NotLinear (.ref C_NotLinear) = some true) (mO_NotLinear : PySem.W.mroIn K C_NotLinear (.type "object") = some true) (lI_NotLinear : K.lookup fI_NotLinear = some ⟨ocI_NotLinear, odI_NotLinear, .func (sxFd "NotLinear.__init__" S_NotLinear cc_NotLinear cda_NotLinear kVI_NotLinear dcI_NotLinear pmI_NotLinear anI_NotLinear ctI_NotLinear), slI_NotLinear⟩) (cI_NotLinear : PySem.W.codeIn K (.ref cda_NotLinear) "NotLinear.__init__" = true) (cell_NotLinear : K.lookup cc_NotLinear = some ⟨clc_NotLinear, cldc_NotLinear, .cell (some (.ref C_NotLinear)), csl_NotLinear⟩) (lc_NotLinear : K.lookup cda_NotLinear = some ⟨clI_NotLinear, cdd_NotLinear, .fields vs_NotLinear, cst_NotLinear⟩) (v2_NotLinear : vs_NotLinear[2]? = some (.str file_NotLinear tf_NotLinear)) (fl_NotLinear : ((l.prog.main.file : Str) == file_NotLinear) = true)
    {C_TooManyNames fI_TooManyNames cc_TooManyNames cda_TooManyNames : Addr} {nm_TooManyNames qq_TooManyNames : Str} {NN_TooManyNames : Addr} {bs_TooManyNames sb_TooManyNames : List Value} {sn_TooManyNames : List Str} {ab_TooManyNames : Bool} {col_TooManyNames : Option Bool} {dd_TooManyNames : Option Addr} {k0_TooManyNames k1_TooManyNames k2_TooManyNames k3_TooManyNames k5_TooManyNames : Option Value} {ocI_TooManyNames kVI_TooManyNames dcI_TooManyNames pmI_TooManyNames ctI_TooManyNames clc_TooManyNames clI_TooManyNames : Value} {odI_TooManyNames anI_TooManyNames cldc_TooManyNames cdd_TooManyNames : Option Addr} {slI_TooManyNames csl_TooManyNames cst_TooManyNames : Array (Option Value)} {vs_TooManyNames : Array Value} {file_TooManyNames : Str} {tf_TooManyNames : Tok} (aC_TooManyNames : PySem.W.nsIn K mainGlobals "TooManyNames" = some (some (.ref C_TooManyNames))) (xC_TooManyNames : K.lookup C_TooManyNames = some (excClassObj nm_TooManyNames qq_TooManyNames C_TooManyNames NN_TooManyNames bs_TooManyNames [.ref C_FE, .type "ValueError", .type "Exception", .type "BaseException", .type "object"] true sn_TooManyNames sb_TooManyNames ab_TooManyNames col_TooManyNames dd_TooManyNames k0_TooManyNames k1_TooManyNames k2_TooManyNames k3_TooManyNames k5_TooManyNames "ValueError.__new__")) (sa_TooManyNames : PySem.W.findIn K (.ref C_TooManyNames) "__setattr__" = some (some (.builtin "object.__setattr__"))) (ga_TooManyNames : PySem.W.findIn K (.ref C_TooManyNames) "__getattribute__" = some (some (.builtin "BaseException.__getattribute__"))) (gg_TooManyNames : PySem.W.findIn K (.ref C_TooManyNames) "__getattr__" = some none) (gc_TooManyNames : PySem.W.findIn K (.ref C_TooManyNames) "__class__" = some (some (.builtin "object.__class__"))) (ia_TooManyNames : PySem.W.findIn K (.ref C_TooManyNames) "__init__" = some (some (.ref fI_TooManyNames))) (no0_TooManyNames : PySem.W.findIn K (.ref C_TooManyNames) "count" = some none) (it_TooManyNames : PySem.W.typeIn K (.ref fI_TooManyNames) = some (.type "function")) (ex_TooManyNames : PySem.W.subIn K (.ref C_TooManyNames) (.type "BaseException") = some true) (ve_TooManyNames : PySem.W.subIn K (.ref C_TooManyNames) (.type "ValueError") = some true) (sC_TooManyNames : PySem.W.subIn K (.ref C_TooManyNames) (.ref C_TooManyNames) = some true) (sF_TooManyNames : PySem.W.subIn K (.ref C_TooManyNames) (.ref C_FE) = some true) (ty_TooManyNames : PySem.W.typeIn K (.ref C_TooManyNames) = some (.type "type")) (kC_TooManyNames : PySem.W.keepIn K (.ref C_TooManyNames) = true) (mS_TooManyNames : PySem.W.mroIn K C_TooManyNames (.ref C_TooManyNames) = some true) (mO_TooManyNames : PySem.W.mroIn K C_TooManyNames (.type "object") = some true) (lI_TooManyNames : K.lookup fI_TooManyNames = some ⟨ocI_TooManyNames, odI_TooManyNames, .func (sxFd "TooManyNames.__init__" S_TooManyNames cc_TooManyNames cda_TooManyNames kVI_TooManyNames dcI_TooManyNames pmI_TooManyNames anI_TooManyNames ctI_TooManyNames), slI_TooManyNames⟩) (cI_TooManyNames : PySem.W.codeIn K (.ref cda_TooManyNames) "TooManyNames.__init__" = true) (cell_TooManyNames : K.lookup cc_TooManyNames = some ⟨clc_TooManyNames, cldc_TooManyNames, .cell (some (.ref C_TooManyNames)), csl_TooManyNames⟩) (lc_TooManyNames : K.lookup cda_TooManyNames = some ⟨clI_TooManyNames, cdd_TooManyNames, .fields vs_TooManyNames, cst_TooManyNames⟩) (v2_TooManyNames : vs_TooManyNames[2]? = some (.str file_TooManyNames tf_TooManyNames)) (fl_TooManyNames : ((l.prog.main.file : Str) == file_TooManyNames) = true) :
    ∃ fd : FuncData, (∀ (s : Shared) (v : Value), BindsTo s fd ⟨[v], []⟩ [("_law_script", v)]) ∧ ∀ base : Heap, K.In base → base.Ns mainGlobals mg → FnOk l.prog w K mg base CX0 10 fa fd ["_law_script"] (spLaw K) := by
  have e := hfa.symm.trans (PySem.W.mg_of X G a34)
  cases e
  have F_is_name := fun_mk (st := S_is_name) l1 c1 k1
  have b_is_name := F_is_name.binds (ps := P_is_name) fun _ _ _ _ _ _ us hl => match us, hl with | [_], _ => rfl
  have m_is_name := PySem.W.mg_of X G a1
  have F_row_end := fun_mk (st := S_row_end) l2 c2 k2
  have b_row_end := F_row_end.binds (ps := P_row_end) fun _ _ _ _ _ _ us hl => match us, hl with | [_, _, _], _ => rfl
  have m_row_end := PySem.W.mg_of X G a2
  have F_steps_of := fun_mk (st := S_steps_of) l3 c3 k3
  have b_steps_of := F_steps_of.binds (ps := P_steps_of) fun _ _ _ _ _ _ us hl => match us, hl with | [_], _ => rfl
  have m_steps_of := PySem.W.mg_of X G a3
  have F_expression_at := fun_mk (st := S_expression_at) l4 c4 k4
  have b_expression_at := F_expression_at.binds (ps := P_expression_at) fun _ _ _ _ _ _ us hl => match us, hl with | [_, _, _], _ => rfl
  have m_expression_at := PySem.W.mg_of X G a4
  have F_token_end := fun_mk (st := S_token_end) l5 c5 k5
  have b_token_end := F_token_end.binds (ps := P_token_end) fun _ _ _ _ _ _ us hl => match us, hl with | [_, _], _ => rfl
  have m_token_end := PySem.W.mg_of X G a5
  have F_weights_of := fun_mk (st := S_weights_of) l6 c6 k6
  have b_weights_of := F_weights_of.binds (ps := P_weights_of) fun _ _ _ _ _ _ us hl => match us, hl with | [_, _], _ => rfl
  have m_weights_of := PySem.W.mg_of X G a6
  have F_rows_with := fun_mk (st := S_rows_with) l7 c7 k7
  have b_rows_with := F_rows_with.binds (ps := P_rows_with) fun _ _ _ _ _ _ us hl => match us, hl with | [_, _], _ => rfl
  have m_rows_with := PySem.W.mg_of X G a7
  have F_weights_in := fun_mk (st := S_weights_in) l8 c8 k8
  have b_weights_in := F_weights_in.binds (ps := P_weights_in) fun _ _ _ _ _ _ us hl => match us, hl with | [_, _], _ => rfl
  have m_weights_in := PySem.W.mg_of X G a8
  have F_part_ahead := fun_mk (st := S_part_ahead) l9 c9 k9
  have b_part_ahead := F_part_ahead.binds (ps := P_part_ahead) fun _ _ _ _ _ _ us hl => match us, hl with | [_, _, _], _ => rfl
  have m_part_ahead := PySem.W.mg_of X G a9
  have F_int_ahead := fun_mk (st := S_int_ahead) l10 c10 k10
  have b_int_ahead := F_int_ahead.binds (ps := P_int_ahead) fun _ _ _ _ _ _ us hl => match us, hl with | [_, _], _ => rfl
  have m_int_ahead := PySem.W.mg_of X G a10
  have F_part_between := fun_mk (st := S_part_between) l11 c11 k11
  have b_part_between := F_part_between.binds (ps := P_part_between) fun _ _ _ _ _ _ us hl => match us, hl with | [_, _, _, _], _ => rfl
  have m_part_between := PySem.W.mg_of X G a11
  have F_joined := fun_mk (st := S_joined) l12 c12 k12
  have b_joined := F_joined.binds (ps := P_joined) fun _ _ _ _ _ _ us hl => match us, hl with | [_, _, _], _ => rfl
  have m_joined := PySem.W.mg_of X G a12
  have F_is_side := fun_mk (st := S_is_side) l13 c13 k13
  have b_is_side := F_is_side.binds (ps := P_is_side) fun _ _ _ _ _ _ us hl => match us, hl with | [_], _ => rfl
  have m_is_side := PySem.W.mg_of X G a13
  have F_with_bits := fun_mk (st := S_with_bits) l14 c14 k14
  have b_with_bits := F_with_bits.binds (ps := P_with_bits) fun _ _ _ _ _ _ us hl => match us, hl with | [_, _, _], _ => rfl
  have m_with_bits := PySem.W.mg_of X G a14
  have F_shifted := fun_mk (st := S_shifted) l15 c15 k15
  have b_shifted := F_shifted.binds (ps := P_shifted) fun _ _ _ _ _ _ us hl => match us, hl with | [_, _, _], _ => rfl
  have m_shifted := PySem.W.mg_of X G a15
  have F_multiplied := fun_mk (st := S_multiplied) l16 c16 k16
  have b_multiplied := F_multiplied.binds (ps := P_multiplied) fun _ _ _ _ _ _ us hl => match us, hl with | [_, _, _], _ => rfl
  have m_multiplied := PySem.W.mg_of X G a16
  have F_scaled := fun_mk (st := S_scaled) l17 c17 k17
  have b_scaled := F_scaled.binds (ps := P_scaled) fun _ _ _ _ _ _ us hl => match us, hl with | [_, _, _], _ => rfl
  have m_scaled := PySem.W.mg_of X G a17
  have F_summed := fun_mk (st := S_summed) l18 c18 k18
  have b_summed := F_summed.binds (ps := P_summed) fun _ _ _ _ _ _ us hl => match us, hl with | [_, _, _, _], _ => rfl
  have m_summed := PySem.W.mg_of X G a18
  have F_holds := fun_mk (st := S_holds) l19 c19 k19
  have m_holds := PySem.W.mg_of X G a19
  have F_counterexample := fun_mk (st := S_counterexample) l20 c20 k20
  have m_counterexample := PySem.W.mg_of X G a20
  have F_conjunctions := fun_mk (st := S_conjunctions) l21 c21 k21
  have b_conjunctions := F_conjunctions.binds (ps := P_conjunctions) fun _ _ _ _ _ _ us hl => match us, hl with | [_], _ => rfl
  have m_conjunctions := PySem.W.mg_of X G a21
  have F_choices := fun_mk (st := S_choices) l22 c22 k22
  have b_choices := F_choices.binds (ps := P_choices) fun _ _ _ _ _ _ us hl => match us, hl with | [_], _ => rfl
  have m_choices := PySem.W.mg_of X G a22
  have F_read_claim := fun_mk (st := S_read_claim) l23 c23 k23
  have b_read_claim := F_read_claim.binds (ps := P_read_claim) fun _ _ _ _ _ _ us hl => match us, hl with | [_], _ => rfl
  have m_read_claim := PySem.W.mg_of X G a23
  have F_names_in := fun_mk (st := S_names_in) l24 c24 k24
  have b_names_in := F_names_in.binds (ps := P_names_in) fun _ _ _ _ _ _ us hl => match us, hl with | [_], _ => rfl
  have m_names_in := PySem.W.mg_of X G a24
  have F_last_rows := fun_mk (st := S_last_rows) l25 c25 k25
  have b_last_rows := F_last_rows.binds (ps := P_last_rows) fun _ _ _ _ _ _ us hl => match us, hl with | [_, _], _ => rfl
  have m_last_rows := PySem.W.mg_of X G a25
  have F_refutation := fun_mk (st := S_refutation) l26 c26 k26
  have b_refutation := F_refutation.binds (ps := P_refutation) fun _ _ _ _ _ _ us hl => match us, hl with | [_, _, _], _ => rfl
  have m_refutation := PySem.W.mg_of X G a26
  have F_is_refuted := fun_mk (st := S_is_refuted) l27 c27 k27
  have b_is_refuted := F_is_refuted.binds (ps := P_is_refuted) fun _ _ _ _ _ _ us hl => match us, hl with | [_, _], _ => rfl
  have m_is_refuted := PySem.W.mg_of X G a27
  have F__law_pen := fun_mk (st := S__law_pen) l28 c28 k28
  have b__law_pen := F__law_pen.binds (ps := P__law_pen) fun _ _ _ _ _ _ us hl => match us, hl with | [_], _ => rfl
  have m__law_pen := PySem.W.mg_of X G a28
  have F__law_draw := fun_mk (st := S__law_draw) l29 c29 k29
  have b__law_draw := F__law_draw.binds (ps := P__law_draw) fun _ _ _ _ _ _ us hl => match us, hl with | [_, _], _ => rfl
  have m__law_draw := PySem.W.mg_of X G a29
  have F__law_pick := fun_mk (st := S__law_pick) l30 c30 k30
  have b__law_pick := F__law_pick.binds (ps := P__law_pick) fun _ _ _ _ _ _ us hl => match us, hl with | [_, _], _ => rfl
  have m__law_pick := PySem.W.mg_of X G a30
  have F__law_part := fun_mk (st := S__law_part) l31 c31 k31
  have b__law_part := F__law_part.binds (ps := P__law_part) fun _ _ _ _ _ _ us hl => match us, hl with | [_, _], _ => rfl
  have m__law_part := PySem.W.mg_of X G a31
  have F__law_bare := fun_mk (st := S__law_bare) l32 c32 k32
  have b__law_bare := F__law_bare.binds (ps := P__law_bare) fun _ _ _ _ _ _ us hl => match us, hl with | [_], _ => rfl
  have m__law_bare := PySem.W.mg_of X G a32
  have F__law_odd := fun_mk (st := S__law_odd) l33 c33 k33
  have b__law_odd := F__law_odd.binds (ps := P__law_odd) fun _ _ _ _ _ _ us hl => match us, hl with | [_, _], _ => rfl
  have m__law_odd := PySem.W.mg_of X G a33
  have F_law := fun_mk (st := S_law) l34 c34 k34
  have MF_MOST_LETTERS := PySem.W.mg_of X G g_MOST_LETTERS
  have MF_MOST_DIGITS := PySem.W.mg_of X G g_MOST_DIGITS
  have MF_MOST_LEVELS_OPEN := PySem.W.mg_of X G g_MOST_LEVELS_OPEN
  have MF_STRENGTH_OF_PARENTHESIS := PySem.W.mg_of X G g_STRENGTH_OF_PARENTHESIS
  have MF_LEAST_STRENGTH := PySem.W.mg_of X G g_LEAST_STRENGTH
  have MF_STRENGTH_AHEAD := PySem.W.mg_of X G g_STRENGTH_AHEAD
  have MF_STRENGTH_OF_POWER := PySem.W.mg_of X G g_STRENGTH_OF_POWER
  have MF_MOST_SHIFT := PySem.W.mg_of X G g_MOST_SHIFT
  have MF_MOST_NAMES := PySem.W.mg_of X G g_MOST_NAMES
  have MF_DIGITS := PySem.W.mg_of X G g_DIGITS
  have MF_LETTERS := PySem.W.mg_of X G g_LETTERS
  have MF_SHORT_SIGNS := PySem.W.mg_of X G g_SHORT_SIGNS
  have MF_AHEAD := PySem.W.mg_of X G g_AHEAD
  have MF_NAME := PySem.W.mg_of X G g_NAME
  have MF_NUMBER := PySem.W.mg_of X G g_NUMBER
  have MF_BETWEEN := PySem.W.mg_of X G g_BETWEEN
  have MF_WHOLE := PySem.W.mg_of X G g_WHOLE
  have MF_BITS := PySem.W.mg_of X G g_BITS
  have MF_SUM := PySem.W.mg_of X G g_SUM
  have B : Blt mg := ⟨PySem.W.mg_none_of X G z_len, PySem.W.mg_none_of X G z_int, PySem.W.mg_none_of X G z_isinstance, PySem.W.mg_none_of X G z_sum, PySem.W.mg_none_of X G z_max, PySem.W.mg_none_of X G z_min, PySem.W.mg_none_of X G z_sorted, PySem.W.mg_none_of X G z_tuple, PySem.W.mg_none_of X G z_list, PySem.W.mg_none_of X G z_range, PySem.W.mg_none_of X G z_repr, PySem.W.mg_none_of X G z_bool, PySem.W.mg_none_of X G z_abs, PySem.W.mg_none_of X G z_enumerate, PySem.W.mg_none_of X G z_zip, PySem.W.mg_none_of X G z_str, PySem.W.mg_none_of X G z_dict⟩
  refine ⟨PySem.W.fnOf "law" "law" (defArgs S_law) (defBody S_law) (defScope S_law) .none kV34 dc34 pm34 an34 cd34 ct34, fun s v => .of_eq rfl, fun base _ _ => ?_⟩
  have mg_super := PySem.W.mg_none_of X G su_FE
  have mg_FE := PySem.W.mg_of X G aC_FE
  have T_BadText : ErrK K C_BadText C_FE fI_BadText cc_BadText cda_BadText "BadText.__init__" := ⟨⟨_, _, _, _, _, _, _, _, _, _, _, _, _, _, xC_BadText⟩, ⟨_, _, _, _, _, _, _, _, _, _, _, _, _, _, xC_FE⟩, fi_FE, sa_BadText, ga_BadText, gg_BadText, gc_BadText, ia_BadText, it_BadText, ex_BadText, ve_BadText, sC_BadText, sF_BadText, ty_BadText, ty_FE, kC_BadText, mS_BadText, mO_BadText, sp_FE, tk_FE, opq_FE, cI_BadText, ⟨_, _, _, cell_BadText⟩⟩
  have sx_BadText := T_BadText.sx (P := l.prog) ⟨_, _, _, _, _, _, lc_BadText, v2_BadText, fl_BadText⟩ top_FE mg_super
  have FI_BadText := ok_BadText (w := w) (base := base) sx_BadText lI_BadText no0_BadText
  have bI_BadText : Binds K (sxFd "BadText.__init__" S_BadText cc_BadText cda_BadText kVI_BadText dcI_BadText pmI_BadText anI_BadText ctI_BadText) _ [] := Binds.all (ps := ["self", "place"]) fun us hl => match us, hl with | [_, _], _ => rfl
  have E_BadText := T_BadText.err (x := "BadText") (PySem.W.mg_of X G aC_BadText) FI_BadText bI_BadText
  have T_NotLinear : ErrK K C_NotLinear C_FE fI_NotLinear cc_NotLinear cda_NotLinear "NotLinear.__init__" := ⟨⟨_, _, _, _, _, _, _, _, _, _, _, _, _, _, xC_NotLinear⟩, ⟨_, _, _, _, _, _, _, _, _, _, _, _, _, _, xC_FE⟩, fi_FE, sa_NotLinear, ga_NotLinear, gg_NotLinear, gc_NotLinear, ia_NotLinear, it_NotLinear, ex_NotLinear, ve_NotLinear, sC_NotLinear, sF_NotLinear, ty_NotLinear, ty_FE, kC_NotLinear, mS_NotLinear, mO_NotLinear, sp_FE, tk_FE, opq_FE, cI_NotLinear, ⟨_, _, _, cell_NotLinear⟩⟩
  have sx_NotLinear := T_NotLinear.sx (P := l.prog) ⟨_, _, _, _, _, _, lc_NotLinear, v2_NotLinear, fl_NotLinear⟩ top_FE mg_super
  have FI_NotLinear := ok_NotLinear (w := w) (base := base) sx_NotLinear lI_NotLinear no0_NotLinear
  have bI_NotLinear : Binds K (sxFd "NotLinear.__init__" S_NotLinear cc_NotLinear cda_NotLinear kVI_NotLinear dcI_NotLinear pmI_NotLinear anI_NotLinear ctI_NotLinear) _ [] := Binds.all (ps := ["self", "place"]) fun us hl => match us, hl with | [_, _], _ => rfl
  have E_NotLinear := T_NotLinear.err (x := "NotLinear") (PySem.W.mg_of X G aC_NotLinear) FI_NotLinear bI_NotLinear
  have T_TooManyNames : ErrK K C_TooManyNames C_FE fI_TooManyNames cc_TooManyNames cda_TooManyNames "TooManyNames.__init__" := ⟨⟨_, _, _, _, _, _, _, _, _, _, _, _, _, _, xC_TooManyNames⟩, ⟨_, _, _, _, _, _, _, _, _, _, _, _, _, _, xC_FE⟩, fi_FE, sa_TooManyNames, ga_TooManyNames, gg_TooManyNames, gc_TooManyNames, ia_TooManyNames, it_TooManyNames, ex_TooManyNames, ve_TooManyNames, sC_TooManyNames, sF_TooManyNames, ty_TooManyNames, ty_FE, kC_TooManyNames, mS_TooManyNames, mO_TooManyNames, sp_FE, tk_FE, opq_FE, cI_TooManyNames, ⟨_, _, _, cell_TooManyNames⟩⟩
  have sx_TooManyNames := T_TooManyNames.sx (P := l.prog) ⟨_, _, _, _, _, _, lc_TooManyNames, v2_TooManyNames, fl_TooManyNames⟩ top_FE mg_super
  have FI_TooManyNames := ok_TooManyNames (w := w) (base := base) sx_TooManyNames lI_TooManyNames no0_TooManyNames
  have bI_TooManyNames : Binds K (sxFd "TooManyNames.__init__" S_TooManyNames cc_TooManyNames cda_TooManyNames kVI_TooManyNames dcI_TooManyNames pmI_TooManyNames anI_TooManyNames ctI_TooManyNames) _ [] := Binds.all (ps := ["self", "count"]) fun us hl => match us, hl with | [_, _], _ => rfl
  have E_TooManyNames := T_TooManyNames.err (x := "TooManyNames") (PySem.W.mg_of X G aC_TooManyNames) FI_TooManyNames bI_TooManyNames
  have CLR : Cls K C_Reader := ⟨pg_R, hd_R, po_R, sa_R⟩
  have R : ReK K C_Reader := ⟨CLR, na_text, na_place, na_steps, na_pending, na_levels, na_opened⟩
  have sT_LONG_SIGNS : ∀ H, SqT K H T_LONG_SIGNS [.str "**", .str "//", .str "<<", .str ">>", .str "==", .str "!=", .str "<=", .str ">="] := fun H => .inr ⟨_, _, _, tT_LONG_SIGNS, yT_LONG_SIGNS, uT_LONG_SIGNS, (by show 8 ≤ sizeLine; decide), (.cons ⟨_, rfl⟩ (.cons ⟨_, rfl⟩ (.cons ⟨_, rfl⟩ (.cons ⟨_, rfl⟩ (.cons ⟨_, rfl⟩ (.cons ⟨_, rfl⟩ (.cons ⟨_, rfl⟩ (.cons ⟨_, rfl⟩ .nil))))))))⟩
  have sT_NO_NAMES : ∀ H, SqT K H T_NO_NAMES [.str "repeat", .str "if", .str "else", .str "end"] := fun H => .inr ⟨_, _, _, tT_NO_NAMES, yT_NO_NAMES, uT_NO_NAMES, (by show 4 ≤ sizeLine; decide), (.cons ⟨_, rfl⟩ (.cons ⟨_, rfl⟩ (.cons ⟨_, rfl⟩ (.cons ⟨_, rfl⟩ .nil))))⟩
  have sT_SIGNS_AHEAD : ∀ H, SqT K H T_SIGNS_AHEAD [.str "-", .str "+", .str "~"] := fun H => .inr ⟨_, _, _, tT_SIGNS_AHEAD, yT_SIGNS_AHEAD, uT_SIGNS_AHEAD, (by show 3 ≤ sizeLine; decide), (.cons ⟨_, rfl⟩ (.cons ⟨_, rfl⟩ (.cons ⟨_, rfl⟩ .nil)))⟩
  have sT_STRENGTHS_OF_LEVELS : ∀ H, SqT K H T_STRENGTHS_OF_LEVELS [.int 0, .int 7, .int 8] := fun H => .inr ⟨_, _, _, tT_STRENGTHS_OF_LEVELS, yT_STRENGTHS_OF_LEVELS, uT_STRENGTHS_OF_LEVELS, (by show 3 ≤ sizeLine; decide), (.cons ⟨_, rfl⟩ (.cons ⟨_, rfl⟩ (.cons ⟨_, rfl⟩ .nil)))⟩
  have sT_SIGNS : ∀ H, SqT K H T_SIGNS [.str "==", .str "<=", .str "<", .str ">=", .str ">"] := fun H => .inr ⟨_, _, _, tT_SIGNS, yT_SIGNS, uT_SIGNS, (by show 5 ≤ sizeLine; decide), (.cons ⟨_, rfl⟩ (.cons ⟨_, rfl⟩ (.cons ⟨_, rfl⟩ (.cons ⟨_, rfl⟩ (.cons ⟨_, rfl⟩ .nil)))))⟩
  have XE : ExpK K mg T_LONG_SIGNS T_NO_NAMES T_SIGNS_AHEAD T_STRENGTHS_OF_LEVELS := by
    have e1 : ([.str "**", .str "//", .str "<<", .str ">>", .str "==", .str "!=", .str "<=", .str ">="] : List V) = cLONG.map fun c => V.str (txt c) := by decide +kernel
    have e2 : ([.str "repeat", .str "if", .str "else", .str "end"] : List V) = cNO.map fun c => V.str (txt c) := by decide +kernel
    have e3 : ([.str "-", .str "+", .str "~"] : List V) = [[45], [43], [126]].map fun c => V.str (txt c) := by decide +kernel
    exact ⟨⟨_, MF_DIGITS⟩, ⟨_, MF_LETTERS⟩, ⟨_, MF_SHORT_SIGNS⟩, PySem.W.mg_of X G aT_LONG_SIGNS, fun H => e1 ▸ sT_LONG_SIGNS H, PySem.W.mg_of X G aT_NO_NAMES, fun H => e2 ▸ sT_NO_NAMES H, PySem.W.mg_of X G aT_SIGNS_AHEAD, fun H => e3 ▸ sT_SIGNS_AHEAD H, PySem.W.mg_of X G aT_STRENGTHS_OF_LEVELS, sT_STRENGTHS_OF_LEVELS, ⟨_, MF_MOST_LETTERS⟩, ⟨_, MF_MOST_DIGITS⟩, ⟨_, MF_MOST_LEVELS_OPEN⟩, ⟨_, MF_STRENGTH_OF_PARENTHESIS⟩, ⟨_, MF_LEAST_STRENGTH⟩, ⟨_, MF_STRENGTH_AHEAD⟩, ⟨_, MF_STRENGTH_OF_POWER⟩, ⟨_, MF_AHEAD⟩, ⟨_, MF_NAME⟩, ⟨_, MF_NUMBER⟩, ⟨_, MF_BETWEEN⟩⟩
  have IG : IdG K mg T_SIGNS := by
    have e4 : ([.str "==", .str "<=", .str "<", .str ">=", .str ">"] : List V) = [[61, 61], [60, 61], [60], [62, 61], [62]].map fun c => V.str (txt c) := by decide +kernel
    exact ⟨⟨_, MF_MOST_NAMES⟩, PySem.W.mg_of X G aT_SIGNS, fun H => e4 ▸ sT_SIGNS H⟩
  have LG : LinG mg := ⟨⟨_, MF_WHOLE⟩, ⟨_, MF_BITS⟩, ⟨_, MF_SUM⟩, ⟨_, MF_MOST_SHIFT⟩⟩
  have SG : StrG K w mg T_STRENGTHS := strG_of (PySem.W.mg_of X G aT_STRENGTHS) (He.dicW_ok eT_STRENGTHS) dT_STRENGTHS
  have FM___init__ := fun_mk (st := S_Reader___init__) lM___init__ cM___init__ kM___init__
  have bM___init__ := FM___init__.binds (ps := P_Reader___init__) fun _ _ _ _ _ _ us hl => match us, hl with | [_, _, _], _ => rfl
  have FM_skip := fun_mk (st := S_Reader_skip) lM_skip cM_skip kM_skip
  have bM_skip := FM_skip.binds (ps := P_Reader_skip) fun _ _ _ _ _ _ us hl => match us, hl with | [_, _], _ => rfl
  have FM_peek := fun_mk (st := S_Reader_peek) lM_peek cM_peek kM_peek
  have bM_peek := FM_peek.binds (ps := P_Reader_peek) fun _ _ _ _ _ _ us hl => match us, hl with | [_], _ => rfl
  have FM_open_level := fun_mk (st := S_Reader_open_level) lM_open_level cM_open_level kM_open_level
  have bM_open_level := FM_open_level.binds (ps := P_Reader_open_level) fun _ _ _ _ _ _ us hl => match us, hl with | [_, _, _], _ => rfl
  have FM_close_last := fun_mk (st := S_Reader_close_last) lM_close_last cM_close_last kM_close_last
  have bM_close_last := FM_close_last.binds (ps := P_Reader_close_last) fun _ _ _ _ _ _ us hl => match us, hl with | [_], _ => rfl
  have FM_settle := fun_mk (st := S_Reader_settle) lM_settle cM_settle kM_settle
  have bM_settle := FM_settle.binds (ps := P_Reader_settle) fun _ _ _ _ _ _ us hl => match us, hl with | [_, _], _ => rfl
  have FM_close_parenthesis := fun_mk (st := S_Reader_close_parenthesis) lM_close_parenthesis cM_close_parenthesis kM_close_parenthesis
  have bM_close_parenthesis := FM_close_parenthesis.binds (ps := P_Reader_close_parenthesis) fun _ _ _ _ _ _ us hl => match us, hl with | [_], _ => rfl
  have FM_begin_right_side := fun_mk (st := S_Reader_begin_right_side) lM_begin_right_side cM_begin_right_side kM_begin_right_side
  have bM_begin_right_side := FM_begin_right_side.binds (ps := P_Reader_begin_right_side) fun _ _ _ _ _ _ us hl => match us, hl with | [_, _, _], _ => rfl
  have FM_take_operand := fun_mk (st := S_Reader_take_operand) lM_take_operand cM_take_operand kM_take_operand
  have bM_take_operand := FM_take_operand.binds (ps := P_Reader_take_operand) fun _ _ _ _ _ _ us hl => match us, hl with | [_], _ => rfl
  have FM_take_operator := fun_mk (st := S_Reader_take_operator) lM_take_operator cM_take_operator kM_take_operator
  have bM_take_operator := FM_take_operator.binds (ps := P_Reader_take_operator) fun _ _ _ _ _ _ us hl => match us, hl with | [_, _], _ => rfl
  have Crow_end : Has l.prog w K mg base 1 "row_end" P_row_end [] _ := ⟨_, _, [], ok_rowend F_row_end B, F_row_end.kp, m_row_end, .nil, b_row_end⟩
  have Cis_name : Has l.prog w K mg base 2 "is_name" P_is_name [] _ := ⟨_, _, [], ok_isname XE F_is_name B Crow_end, F_is_name.kp, m_is_name, .nil, b_is_name⟩
  have Ctoken_end : HasX l.prog w K mg base 4 "token_end" P_token_end _ := ⟨_, _, ok_tokend XE F_token_end B Crow_end E_BadText, F_token_end.kp, m_token_end, b_token_end⟩
  have ME_Reader_skip : HasMeth l.prog w K mg base 1 "skip" C_Reader P_Reader_skip _ := ⟨⟨_, _, ⟨at_skip, fn_skip, kM_skip⟩, ok_skip R FM_skip B, bM_skip⟩⟩
  have ME_Reader_peek : HasMX l.prog w K mg base 5 "peek" C_Reader P_Reader_peek _ := ⟨⟨_, _, ⟨at_peek, fn_peek, kM_peek⟩, ok_peek R FM_peek B Ctoken_end, bM_peek⟩⟩
  have ME_Reader_open_level : HasMX l.prog w K mg base 4 "open_level" C_Reader P_Reader_open_level _ := ⟨⟨_, _, ⟨at_open_level, fn_open_level, kM_open_level⟩, ok_openlv XE R FM_open_level B E_BadText, bM_open_level⟩⟩
  have ME_Reader_close_last : HasMeth l.prog w K mg base 1 "close_last" C_Reader P_Reader_close_last _ := ⟨⟨_, _, ⟨at_close_last, fn_close_last, kM_close_last⟩, ok_closelast XE R FM_close_last B, bM_close_last⟩⟩
  have ME_Reader_settle : HasMeth l.prog w K mg base 2 "settle" C_Reader P_Reader_settle _ := ⟨⟨_, _, ⟨at_settle, fn_settle, kM_settle⟩, ok_settle R FM_settle B ME_Reader_close_last, bM_settle⟩⟩
  have ME_Reader_close_parenthesis : HasMeth l.prog w K mg base 3 "close_parenthesis" C_Reader P_Reader_close_parenthesis _ := ⟨⟨_, _, ⟨at_close_parenthesis, fn_close_parenthesis, kM_close_parenthesis⟩, ok_closepar XE R FM_close_parenthesis B ME_Reader_close_last ME_Reader_settle, bM_close_parenthesis⟩⟩
  have ME_Reader_begin_right_side : HasMX l.prog w K mg base 5 "begin_right_side" C_Reader P_Reader_begin_right_side _ := ⟨⟨_, _, ⟨at_begin_right_side, fn_begin_right_side, kM_begin_right_side⟩, ok_beginright XE R FM_begin_right_side B ME_Reader_settle ME_Reader_open_level, bM_begin_right_side⟩⟩
  have ME_Reader_take_operand : HasMX l.prog w K mg base 6 "take_operand" C_Reader P_Reader_take_operand _ := ⟨⟨_, _, ⟨at_take_operand, fn_take_operand, kM_take_operand⟩, ok_operand XE R FM_take_operand B E_BadText Cis_name ME_Reader_peek ME_Reader_skip ME_Reader_open_level, bM_take_operand⟩⟩
  have ME_Reader_take_operator : HasMX l.prog w K mg base 6 "take_operator" C_Reader P_Reader_take_operator _ := ⟨⟨_, _, ⟨at_take_operator, fn_take_operator, kM_take_operator⟩, ok_operator XE SG R FM_take_operator B E_BadText ME_Reader_peek ME_Reader_skip ME_Reader_settle ME_Reader_close_parenthesis ME_Reader_begin_right_side, bM_take_operator⟩⟩
  have MK_Reader : HasMk l.prog w K mg base 1 "Reader" C_Reader P_Reader___init__ [] _ := ⟨⟨_, _, [], ⟨mk_R, at___init__, fn___init__, kC_R⟩, ok_initR R FM___init__, PySem.W.mg_of X G aC_Reader, .nil, bM___init__⟩⟩
  have Cexpression_at : HasX l.prog w K mg base 7 "expression_at" P_expression_at _ := ⟨_, _, ok_expat R F_expression_at B MK_Reader ME_Reader_take_operand ME_Reader_take_operator, F_expression_at.kp, m_expression_at, b_expression_at⟩
  have Csteps_of : HasX l.prog w K mg base 8 "steps_of" P_steps_of _ := ⟨_, _, ok_stepsof F_steps_of B Cexpression_at, F_steps_of.kp, m_steps_of, b_steps_of⟩
  have C_law_bare : Has l.prog w K mg base 1 "_law_bare" P__law_bare [] _ := ⟨_, _, [], ok_bare F__law_bare, F__law_bare.kp, m__law_bare, .nil, b__law_bare⟩
  have C_law_odd : Has l.prog w K mg base 1 "_law_odd" P__law_odd [] _ := ⟨_, _, [], ok_odd F__law_odd, F__law_odd.kp, m__law_odd, .nil, b__law_odd⟩
  have Cwith_bits : Has l.prog w K mg base 1 "with_bits" P_with_bits [] _ := ⟨_, _, [], ok_withbits F_with_bits, F_with_bits.kp, m_with_bits, .nil, b_with_bits⟩
  have Cis_side : Has l.prog w K mg base 1 "is_side" P_is_side [] _ := ⟨_, _, [], ok_isside LG F_is_side, F_is_side.kp, m_is_side, .nil, b_is_side⟩
  have Cjoined : Has l.prog w K mg base 2 "joined" P_joined [] _ := ⟨_, _, [], ok_joined LG F_joined Cis_side Cwith_bits, F_joined.kp, m_joined, .nil, b_joined⟩
  have Crows_with : Has l.prog w K mg base 1 "rows_with" P_rows_with [] _ := ⟨_, _, [], ok_rowsw F_rows_with B, F_rows_with.kp, m_rows_with, .nil, b_rows_with⟩
  have Cnames_in : HasX l.prog w K mg base 5 "names_in" P_names_in _ := ⟨_, _, ok_ni XE IG F_names_in B E_TooManyNames, F_names_in.kp, m_names_in, b_names_in⟩
  have Cis_refuted : Has l.prog w K mg base 1 "is_refuted" P_is_refuted [] _ := ⟨_, _, [], ok_ir F_is_refuted, F_is_refuted.kp, m_is_refuted, .nil, b_is_refuted⟩
  have Clast_rows : Has l.prog w K mg base 1 "last_rows" P_last_rows [] _ := ⟨_, _, [], ok_lr F_last_rows B, F_last_rows.kp, m_last_rows, .nil, b_last_rows⟩
  have Crefutation : Has l.prog w K mg base 2 "refutation" P_refutation [] _ := ⟨_, _, [], ok_rf F_refutation B Cis_refuted, F_refutation.kp, m_refutation, .nil, b_refutation⟩
  have Cchoices : Has l.prog w K mg base 1 "choices" P_choices [] _ := ⟨_, _, [], ok_ch F_choices B, F_choices.kp, m_choices, .nil, b_choices⟩
  have Cweights_in : Has l.prog w K mg base 1 "weights_in" P_weights_in [] _ := ⟨_, _, [], ok_win LG F_weights_in B, F_weights_in.kp, m_weights_in, .nil, b_weights_in⟩
  have Cint_ahead : Has l.prog w K mg base 1 "int_ahead" P_int_ahead [] _ := ⟨_, _, [], ok_intah F_int_ahead, F_int_ahead.kp, m_int_ahead, .nil, b_int_ahead⟩
  have C_law_pen : Has l.prog w K mg base 1 "_law_pen" P__law_pen [] _ := ⟨_, _, [], ok_pen F__law_pen B, F__law_pen.kp, m__law_pen, .nil, b__law_pen⟩
  have C_law_draw : Has l.prog w K mg base 1 "_law_draw" P__law_draw [] _ := ⟨_, _, [], ok_drawP F__law_draw B, F__law_draw.kp, m__law_draw, .nil, b__law_draw⟩
  have C_law_pick : Has l.prog w K mg base 2 "_law_pick" P__law_pick [] _ := ⟨_, _, [], ok_pickP F__law_pick B C_law_draw, F__law_pick.kp, m__law_pick, .nil, b__law_pick⟩
  have Cpart_ahead : Has l.prog w K mg base 2 "part_ahead" P_part_ahead [] _ := ⟨_, _, [], ok_partah LG F_part_ahead B Cint_ahead Cweights_in, F_part_ahead.kp, m_part_ahead, .nil, b_part_ahead⟩
  have Cscaled : Has l.prog w K mg base 2 "scaled" P_scaled [] _ := ⟨_, _, [], ok_scaled LG F_scaled B Cweights_in, F_scaled.kp, m_scaled, .nil, b_scaled⟩
  have Cshifted : Has l.prog w K mg base 3 "shifted" P_shifted [] _ := ⟨_, _, [], ok_shifted LG F_shifted Cscaled, F_shifted.kp, m_shifted, .nil, b_shifted⟩
  have Cmultiplied : Has l.prog w K mg base 3 "multiplied" P_multiplied [] _ := ⟨_, _, [], ok_multd LG F_multiplied Cscaled, F_multiplied.kp, m_multiplied, .nil, b_multiplied⟩
  have Csummed : Has l.prog w K mg base 2 "summed" P_summed [] _ := ⟨_, _, [], ok_sumd LG F_summed B Cweights_in, F_summed.kp, m_summed, .nil, b_summed⟩
  have Cpart_between : Has l.prog w K mg base 4 "part_between" P_part_between [] _ := ⟨_, _, [], ok_pbetw F_part_between Cjoined Cshifted Cmultiplied Csummed, F_part_between.kp, m_part_between, .nil, b_part_between⟩
  have Cweights_of : HasX l.prog w K mg base 5 "weights_of" P_weights_of _ := ⟨_, _, ok_wo XE LG F_weights_of B E_NotLinear Crows_with Cweights_in Cpart_ahead Cpart_between, F_weights_of.kp, m_weights_of, b_weights_of⟩
  have WCj := ok_cj (P := l.prog) (w := w) (base := base) F_conjunctions B Csteps_of Cnames_in Cweights_of Cchoices
  have Cconjunctions : Has l.prog w K mg base 9 "conjunctions" P_conjunctions [] (fun vs H Q _ => CjP K C_BadText C_TooManyNames C_NotLinear vs H Q) := ⟨_, _, [], (fnok_calm WCj).imp (fun _ _ _ _ q => q.h), F_conjunctions.kp, m_conjunctions, .nil, b_conjunctions⟩
  have Cread_claim : HasX l.prog w K mg base 8 "read_claim" P_read_claim _ := ⟨_, _, ok_rc IG F_read_claim B E_BadText Cexpression_at Ctoken_end Cnames_in Cweights_of, F_read_claim.kp, m_read_claim, b_read_claim⟩
  have F2_holds : FunD K "holds" "holds" (defArgs S_holds) (defBody S_holds) (defScope S_holds) [] [("from_zero", .ref T0_holds)] f19 _ := ⟨⟨oc19, od19, .none, kV19, dc19, pm19, an19, cd19, ct19, sl19, rfl, l19, c19, .inl ⟨rfl, rfl⟩, .inr ⟨D_holds, kv_holds, fun q hq => by rw [List.mem_singleton.mp hq]; exact ⟨_, kd_holds, rfl⟩⟩⟩, k19⟩
  obtain ⟨ds2_holds, v2_holds, b2_holds⟩ := F2_holds.binds0 (ps := P_holds) 1 (List.cons_ne_nil _ _) rfl (fun D doc pm an cdv ct us ks hu hk => match us, hu, ks, hk with | [_], _, [_], _ => ⟨_, _, _, _, _, _, rfl, rfl, rfl⟩)
  have W_holds := ok_ho (P := l.prog) (w := w) (base := base) F2_holds B Cread_claim Crefutation Clast_rows
  have Cholds : Has l.prog w K mg base 9 "holds" P_holds [.ref T0_holds] (fun vs H Q _ => HoP K C_BadText C_TooManyNames C_NotLinear vs H Q) := ⟨_, _, ds2_holds, (fnok_calm W_holds).imp (fun _ _ _ _ q => q.h), F2_holds.kp, m_holds, v2_holds, b2_holds⟩
  have z0_holds : ∀ H, SqT K H T0_holds [] := fun H => .inr ⟨_, _, _, t0_holds, y0_holds, u0_holds, (by show 0 ≤ sizeLine; decide), .nil⟩
  have F2_counterexample : FunD K "counterexample" "counterexample" (defArgs S_counterexample) (defBody S_counterexample) (defScope S_counterexample) [] [("from_zero", .ref T0_counterexample)] f20 _ := ⟨⟨oc20, od20, .none, kV20, dc20, pm20, an20, cd20, ct20, sl20, rfl, l20, c20, .inl ⟨rfl, rfl⟩, .inr ⟨D_counterexample, kv_counterexample, fun q hq => by rw [List.mem_singleton.mp hq]; exact ⟨_, kd_counterexample, rfl⟩⟩⟩, k20⟩
  obtain ⟨ds2_counterexample, v2_counterexample, b2_counterexample⟩ := F2_counterexample.binds0 (ps := P_counterexample) 1 (List.cons_ne_nil _ _) rfl (fun D doc pm an cdv ct us ks hu hk => match us, hu, ks, hk with | [_], _, [_], _ => ⟨_, _, _, _, _, _, rfl, rfl, rfl⟩)
  have W_counterexample := ok_cx (P := l.prog) (w := w) (base := base) F2_counterexample B Cread_claim Crefutation Clast_rows
  have Ccounterexample : Has l.prog w K mg base 9 "counterexample" P_counterexample [.ref T0_counterexample] (fun vs H Q _ => CxP K C_BadText C_TooManyNames C_NotLinear vs H Q) := ⟨_, _, ds2_counterexample, (fnok_calm W_counterexample).imp (fun _ _ _ _ q => q.h), F2_counterexample.kp, m_counterexample, v2_counterexample, b2_counterexample⟩
  have z0_counterexample : ∀ H, SqT K H T0_counterexample [] := fun H => .inr ⟨_, _, _, t0_counterexample, y0_counterexample, u0_counterexample, (by show 0 ≤ sizeLine; decide), .nil⟩
  have C_law_part : Has l.prog w K mg base 8 "_law_part" P__law_part [] (spPart K 5) := ⟨_, _, [], ok_part F__law_part B m__law_part F__law_part.kp b__law_part C_law_draw C_law_pick 5, F__law_part.kp, m__law_part, .nil, b__law_part⟩
  exact ok_law F_law B z0_holds z0_counterexample C_law_pen C_law_draw C_law_part C_law_bare C_law_odd Cconjunctions Cholds Ccounterexample
theorem walk {l : PySem.W.OpenLaw} {q : Program} {loose : List Str} {XP : (Str → Option Value) → Heap → Prop} {YP : World → Heap → Prop} {d : DefRec} {K : Params → PySem.W.Frag} (hn : l.most = some 63) (hdf : d.params.defaults = [])
    (hY : ∀ (w : World) (h : Heap), YP w h → (K w.params).In h)
    (F : ∀ (w : World) (mg : Str → Option Value) (fa : Addr) (h : Heap), (K w.params).In h → h.Ns mainGlobals mg → mg d.name = some (.ref fa) →
      ∃ fd : FuncData, (∀ (s : Shared) (u : Value), BindsTo s fd ⟨[u], []⟩ [("_law_script", u)]) ∧ ∀ base : Heap, (K w.params).In base → base.Ns mainGlobals mg → FnOk l.prog w (K w.params) mg base CX0 10 fa fd ["_law_script"] (spLaw (K w.params))) :
    PySem.W.WalkO q loose XP YP l.row.toRowW d [] (fun f vs => PySem.call f vs) :=
  L2.walk_of (n := 63) (k := 10) (x := "_law_script") (CX := fun _ => CX0) (sp := fun w => spLaw (K w.params)) hn (by decide) hdf ⟨rfl, by decide, by decide⟩ hY F (fun _ _ a ns hl _ hS => ⟨a, ns, rfl, hS, hl, fun _ => rfl⟩) fun _ _ _ _ _ z => z
end Fb
open PySem PySem.W PyProof.Rows
set_option maxRecDepth 100000 in
set_option maxHeartbeats 0 in
theorem PySem.Challenge.cw_farbits_k61_integer_parts_holds : PySem.Challenge.rw_farbits_k61_integer_parts.Holds := by
  w_on; o_law; k_head; (case hw => w_witness2)
  k_fill
  refine Fb.walk (l := PySem.Challenge.rw_farbits_k61_integer_parts) rfl rfl (fun w h Y => PySem.W.kIn_of Y) ?F
  case F =>
    intro w mg fa h KX G hmg
    refine' Fb.all_mk KX G hmg ?a1 ?l1 ?c1 ?k1 ?a2 ?l2 ?c2 ?k2 ?a3 ?l3 ?c3 ?k3 ?a4 ?l4 ?c4 ?k4 ?a5 ?l5 ?c5 ?k5 ?a6 ?l6 ?c6 ?k6 ?a7 ?l7 ?c7 ?k7 ?a8 ?l8 ?c8 ?k8 ?a9 ?l9 ?c9 ?k9 ?a10 ?l10 ?c10 ?k10 ?a11 ?l11 ?c11 ?k11 ?a12 ?l12 ?c12 ?k12 ?a13 ?l13 ?c13 ?k13 ?a14 ?l14 ?c14 ?k14 ?a15 ?l15 ?c15 ?k15 ?a16 ?l16 ?c16 ?k16 ?a17 ?l17 ?c17 ?k17 ?a18 ?l18 ?c18 ?k18 ?a19 ?l19 ?c19 ?k19 ?a20 ?l20 ?c20 ?k20 ?a21 ?l21 ?c21 ?k21 ?a22 ?l22 ?c22 ?k22 ?a23 ?l23 ?c23 ?k23 ?a24 ?l24 ?c24 ?k24 ?a25 ?l25 ?c25 ?k25 ?a26 ?l26 ?c26 ?k26 ?a27 ?l27 ?c27 ?k27 ?a28 ?l28 ?c28 ?k28 ?a29 ?l29 ?c29 ?k29 ?a30 ?l30 ?c30 ?k30 ?a31 ?l31 ?c31 ?k31 ?a32 ?l32 ?c32 ?k32 ?a33 ?l33 ?c33 ?k33 ?a34 ?l34 ?c34 ?k34 ?g_MOST_LETTERS ?g_MOST_DIGITS ?g_MOST_LEVELS_OPEN ?g_STRENGTH_OF_PARENTHESIS ?g_LEAST_STRENGTH ?g_STRENGTH_AHEAD ?g_STRENGTH_OF_POWER ?g_MOST_SHIFT ?g_MOST_NAMES ?g_DIGITS ?g_LETTERS ?g_SHORT_SIGNS ?g_AHEAD ?g_NAME ?g_NUMBER ?g_BETWEEN ?g_WHOLE ?g_BITS ?g_SUM ?z_len ?z_int ?z_isinstance ?z_sum ?z_max ?z_min ?z_sorted ?z_tuple ?z_list ?z_range ?z_repr ?z_bool ?z_abs ?z_enumerate ?z_zip ?z_str ?z_dict ?aC_Reader ?pg_R ?hd_R ?po_R ?sa_R ?mk_R ?kC_R ?na_text ?na_place ?na_steps ?na_pending ?na_levels ?na_opened ?at___init__ ?fn___init__ ?lM___init__ ?cM___init__ ?kM___init__ ?at_skip ?fn_skip ?lM_skip ?cM_skip ?kM_skip ?at_peek ?fn_peek ?lM_peek ?cM_peek ?kM_peek ?at_open_level ?fn_open_level ?lM_open_level ?cM_open_level ?kM_open_level ?at_close_last ?fn_close_last ?lM_close_last ?cM_close_last ?kM_close_last ?at_settle ?fn_settle ?lM_settle ?cM_settle ?kM_settle ?at_close_parenthesis ?fn_close_parenthesis ?lM_close_parenthesis ?cM_close_parenthesis ?kM_close_parenthesis ?at_begin_right_side ?fn_begin_right_side ?lM_begin_right_side ?cM_begin_right_side ?kM_begin_right_side ?at_take_operand ?fn_take_operand ?lM_take_operand ?cM_take_operand ?kM_take_operand ?at_take_operator ?fn_take_operator ?lM_take_operator ?cM_take_operator ?kM_take_operator ?aT_LONG_SIGNS ?tT_LONG_SIGNS ?yT_LONG_SIGNS ?uT_LONG_SIGNS ?aT_NO_NAMES ?tT_NO_NAMES ?yT_NO_NAMES ?uT_NO_NAMES ?aT_SIGNS_AHEAD ?tT_SIGNS_AHEAD ?yT_SIGNS_AHEAD ?uT_SIGNS_AHEAD ?aT_STRENGTHS_OF_LEVELS ?tT_STRENGTHS_OF_LEVELS ?yT_STRENGTHS_OF_LEVELS ?uT_STRENGTHS_OF_LEVELS ?aT_SIGNS ?tT_SIGNS ?yT_SIGNS ?uT_SIGNS ?aT_STRENGTHS ?dT_STRENGTHS ?eT_STRENGTHS ?kv_holds ?kd_holds ?t0_holds ?y0_holds ?u0_holds ?kv_counterexample ?kd_counterexample ?t0_counterexample ?y0_counterexample ?u0_counterexample ?aC_FE ?xC_FE ?fi_FE ?ty_FE ?sp_FE ?tk_FE ?opq_FE ?top_FE ?su_FE ?aC_BadText ?xC_BadText ?sa_BadText ?ga_BadText ?gg_BadText ?gc_BadText ?ia_BadText ?no0_BadText ?it_BadText ?ex_BadText ?ve_BadText ?sC_BadText ?sF_BadText ?ty_BadText ?kC_BadText ?mS_BadText ?mO_BadText ?lI_BadText ?cI_BadText ?cell_BadText ?lc_BadText ?v2_BadText ?fl_BadText ?aC_NotLinear ?xC_NotLinear ?sa_NotLinear ?ga_NotLinear ?gg_NotLinear ?gc_NotLinear ?ia_NotLinear ?no0_NotLinear ?it_NotLinear ?ex_NotLinear ?ve_NotLinear ?sC_NotLinear ?sF_NotLinear ?ty_NotLinear ?kC_NotLinear ?mS_NotLinear ?mO_NotLinear ?lI_NotLinear ?cI_NotLinear ?cell_NotLinear ?lc_NotLinear ?v2_NotLinear ?fl_NotLinear ?aC_TooManyNames ?xC_TooManyNames ?sa_TooManyNames ?ga_TooManyNames ?gg_TooManyNames ?gc_TooManyNames ?ia_TooManyNames ?no0_TooManyNames ?it_TooManyNames ?ex_TooManyNames ?ve_TooManyNames ?sC_TooManyNames ?sF_TooManyNames ?ty_TooManyNames ?kC_TooManyNames ?mS_TooManyNames ?mO_TooManyNames ?lI_TooManyNames ?cI_TooManyNames ?cell_TooManyNames ?lc_TooManyNames ?v2_TooManyNames ?fl_TooManyNames
    (case a1 => k_is)
    (case l1 => k_is)
    (case c1 => k_is)
    (case k1 => k_is)
    (case a2 => k_is)
    (case l2 => k_is)
    (case c2 => k_is)
    (case k2 => k_is)
    (case a3 => k_is)
    (case l3 => k_is)
    (case c3 => k_is)
    (case k3 => k_is)
    (case a4 => k_is)
    (case l4 => k_is)
    (case c4 => k_is)
    (case k4 => k_is)
    (case a5 => k_is)
    (case l5 => k_is)
    (case c5 => k_is)
    (case k5 => k_is)
    (case a6 => k_is)
    (case l6 => k_is)
    (case c6 => k_is)
    (case k6 => k_is)
    (case a7 => k_is)
    (case l7 => k_is)
    (case c7 => k_is)
    (case k7 => k_is)
    (case a8 => k_is)
    (case l8 => k_is)
    (case c8 => k_is)
    (case k8 => k_is)
    (case a9 => k_is)
    (case l9 => k_is)
    (case c9 => k_is)
    (case k9 => k_is)
    (case a10 => k_is)
    (case l10 => k_is)
    (case c10 => k_is)
    (case k10 => k_is)
    (case a11 => k_is)
    (case l11 => k_is)
    (case c11 => k_is)
    (case k11 => k_is)
    (case a12 => k_is)
    (case l12 => k_is)
    (case c12 => k_is)
    (case k12 => k_is)
    (case a13 => k_is)
    (case l13 => k_is)
    (case c13 => k_is)
    (case k13 => k_is)
    (case a14 => k_is)
    (case l14 => k_is)
    (case c14 => k_is)
    (case k14 => k_is)
    (case a15 => k_is)
    (case l15 => k_is)
    (case c15 => k_is)
    (case k15 => k_is)
    (case a16 => k_is)
    (case l16 => k_is)
    (case c16 => k_is)
    (case k16 => k_is)
    (case a17 => k_is)
    (case l17 => k_is)
    (case c17 => k_is)
    (case k17 => k_is)
    (case a18 => k_is)
    (case l18 => k_is)
    (case c18 => k_is)
    (case k18 => k_is)
    (case a19 => k_is)
    (case l19 => k_is)
    (case c19 => k_is)
    (case k19 => k_is)
    (case a20 => k_is)
    (case l20 => k_is)
    (case c20 => k_is)
    (case k20 => k_is)
    (case a21 => k_is)
    (case l21 => k_is)
    (case c21 => k_is)
    (case k21 => k_is)
    (case a22 => k_is)
    (case l22 => k_is)
    (case c22 => k_is)
    (case k22 => k_is)
    (case a23 => k_is)
    (case l23 => k_is)
    (case c23 => k_is)
    (case k23 => k_is)
    (case a24 => k_is)
    (case l24 => k_is)
    (case c24 => k_is)
    (case k24 => k_is)
    (case a25 => k_is)
    (case l25 => k_is)
    (case c25 => k_is)
    (case k25 => k_is)
    (case a26 => k_is)
    (case l26 => k_is)
    (case c26 => k_is)
    (case k26 => k_is)
    (case a27 => k_is)
    (case l27 => k_is)
    (case c27 => k_is)
    (case k27 => k_is)
    (case a28 => k_is)
    (case l28 => k_is)
    (case c28 => k_is)
    (case k28 => k_is)
    (case a29 => k_is)
    (case l29 => k_is)
    (case c29 => k_is)
    (case k29 => k_is)
    (case a30 => k_is)
    (case l30 => k_is)
    (case c30 => k_is)
    (case k30 => k_is)
    (case a31 => k_is)
    (case l31 => k_is)
    (case c31 => k_is)
    (case k31 => k_is)
    (case a32 => k_is)
    (case l32 => k_is)
    (case c32 => k_is)
    (case k32 => k_is)
    (case a33 => k_is)
    (case l33 => k_is)
    (case c33 => k_is)
    (case k33 => k_is)
    (case a34 => k_is)
    (case l34 => k_is)
    (case c34 => k_is)
    (case k34 => k_is)
    (case g_MOST_LETTERS => k_is)
    (case g_MOST_DIGITS => k_is)
    (case g_MOST_LEVELS_OPEN => k_is)
    (case g_STRENGTH_OF_PARENTHESIS => k_is)
    (case g_LEAST_STRENGTH => k_is)
    (case g_STRENGTH_AHEAD => k_is)
    (case g_STRENGTH_OF_POWER => k_is)
    (case g_MOST_SHIFT => k_is)
    (case g_MOST_NAMES => k_is)
    (case g_DIGITS => k_is)
    (case g_LETTERS => k_is)
    (case g_SHORT_SIGNS => k_is)
    (case g_AHEAD => k_is)
    (case g_NAME => k_is)
    (case g_NUMBER => k_is)
    (case g_BETWEEN => k_is)
    (case g_WHOLE => k_is)
    (case g_BITS => k_is)
    (case g_SUM => k_is)
    (case z_len => k_is)
    (case z_int => k_is)
    (case z_isinstance => k_is)
    (case z_sum => k_is)
    (case z_max => k_is)
    (case z_min => k_is)
    (case z_sorted => k_is)
    (case z_tuple => k_is)
    (case z_list => k_is)
    (case z_range => k_is)
    (case z_repr => k_is)
    (case z_bool => k_is)
    (case z_abs => k_is)
    (case z_enumerate => k_is)
    (case z_zip => k_is)
    (case z_str => k_is)
    (case z_dict => k_is)
    (case aC_Reader => first | k_is | rfl | decide +kernel)
    (case pg_R => first | k_is | rfl | decide +kernel)
    (case hd_R => first | k_is | rfl | decide +kernel)
    (case po_R => first | k_is | rfl | decide +kernel)
    (case sa_R => first | k_is | rfl | decide +kernel)
    (case mk_R => first | k_is | rfl | decide +kernel)
    (case kC_R => first | k_is | rfl | decide +kernel)
    (case na_text => first | k_is | rfl | decide +kernel)
    (case na_place => first | k_is | rfl | decide +kernel)
    (case na_steps => first | k_is | rfl | decide +kernel)
    (case na_pending => first | k_is | rfl | decide +kernel)
    (case na_levels => first | k_is | rfl | decide +kernel)
    (case na_opened => first | k_is | rfl | decide +kernel)
    (case at___init__ => first | k_is | rfl | decide +kernel)
    (case fn___init__ => first | k_is | rfl | decide +kernel)
    (case lM___init__ => first | k_is | rfl | decide +kernel)
    (case cM___init__ => first | k_is | rfl | decide +kernel)
    (case kM___init__ => first | k_is | rfl | decide +kernel)
    (case at_skip => first | k_is | rfl | decide +kernel)
    (case fn_skip => first | k_is | rfl | decide +kernel)
    (case lM_skip => first | k_is | rfl | decide +kernel)
    (case cM_skip => first | k_is | rfl | decide +kernel)
    (case kM_skip => first | k_is | rfl | decide +kernel)
    (case at_peek => first | k_is | rfl | decide +kernel)
    (case fn_peek => first | k_is | rfl | decide +kernel)
    (case lM_peek => first | k_is | rfl | decide +kernel)
    (case cM_peek => first | k_is | rfl | decide +kernel)
    (case kM_peek => first | k_is | rfl | decide +kernel)
    (case at_open_level => first | k_is | rfl | decide +kernel)
    (case fn_open_level => first | k_is | rfl | decide +kernel)
    (case lM_open_level => first | k_is | rfl | decide +kernel)
    (case cM_open_level => first | k_is | rfl | decide +kernel)
    (case kM_open_level => first | k_is | rfl | decide +kernel)
    (case at_close_last => first | k_is | rfl | decide +kernel)
    (case fn_close_last => first | k_is | rfl | decide +kernel)
    (case lM_close_last => first | k_is | rfl | decide +kernel)
    (case cM_close_last => first | k_is | rfl | decide +kernel)
    (case kM_close_last => first | k_is | rfl | decide +kernel)
    (case at_settle => first | k_is | rfl | decide +kernel)
    (case fn_settle => first | k_is | rfl | decide +kernel)
    (case lM_settle => first | k_is | rfl | decide +kernel)
    (case cM_settle => first | k_is | rfl | decide +kernel)
    (case kM_settle => first | k_is | rfl | decide +kernel)
    (case at_close_parenthesis => first | k_is | rfl | decide +kernel)
    (case fn_close_parenthesis => first | k_is | rfl | decide +kernel)
    (case lM_close_parenthesis => first | k_is | rfl | decide +kernel)
    (case cM_close_parenthesis => first | k_is | rfl | decide +kernel)
    (case kM_close_parenthesis => first | k_is | rfl | decide +kernel)
    (case at_begin_right_side => first | k_is | rfl | decide +kernel)
    (case fn_begin_right_side => first | k_is | rfl | decide +kernel)
    (case lM_begin_right_side => first | k_is | rfl | decide +kernel)
    (case cM_begin_right_side => first | k_is | rfl | decide +kernel)
    (case kM_begin_right_side => first | k_is | rfl | decide +kernel)
    (case at_take_operand => first | k_is | rfl | decide +kernel)
    (case fn_take_operand => first | k_is | rfl | decide +kernel)
    (case lM_take_operand => first | k_is | rfl | decide +kernel)
    (case cM_take_operand => first | k_is | rfl | decide +kernel)
    (case kM_take_operand => first | k_is | rfl | decide +kernel)
    (case at_take_operator => first | k_is | rfl | decide +kernel)
    (case fn_take_operator => first | k_is | rfl | decide +kernel)
    (case lM_take_operator => first | k_is | rfl | decide +kernel)
    (case cM_take_operator => first | k_is | rfl | decide +kernel)
    (case kM_take_operator => first | k_is | rfl | decide +kernel)
    (case aT_LONG_SIGNS => first | k_is | rfl | decide +kernel)
    (case tT_LONG_SIGNS => first | k_is | rfl | decide +kernel)
    (case yT_LONG_SIGNS => first | k_is | rfl | decide +kernel)
    (case uT_LONG_SIGNS => first | k_is | rfl | decide +kernel)
    (case aT_NO_NAMES => first | k_is | rfl | decide +kernel)
    (case tT_NO_NAMES => first | k_is | rfl | decide +kernel)
    (case yT_NO_NAMES => first | k_is | rfl | decide +kernel)
    (case uT_NO_NAMES => first | k_is | rfl | decide +kernel)
    (case aT_SIGNS_AHEAD => first | k_is | rfl | decide +kernel)
    (case tT_SIGNS_AHEAD => first | k_is | rfl | decide +kernel)
    (case yT_SIGNS_AHEAD => first | k_is | rfl | decide +kernel)
    (case uT_SIGNS_AHEAD => first | k_is | rfl | decide +kernel)
    (case aT_STRENGTHS_OF_LEVELS => first | k_is | rfl | decide +kernel)
    (case tT_STRENGTHS_OF_LEVELS => first | k_is | rfl | decide +kernel)
    (case yT_STRENGTHS_OF_LEVELS => first | k_is | rfl | decide +kernel)
    (case uT_STRENGTHS_OF_LEVELS => first | k_is | rfl | decide +kernel)
    (case aT_SIGNS => first | k_is | rfl | decide +kernel)
    (case tT_SIGNS => first | k_is | rfl | decide +kernel)
    (case yT_SIGNS => first | k_is | rfl | decide +kernel)
    (case uT_SIGNS => first | k_is | rfl | decide +kernel)
    (case aT_STRENGTHS => first | k_is | rfl | decide +kernel)
    (case dT_STRENGTHS => first | k_is | rfl | decide +kernel)
    (case eT_STRENGTHS => first | k_is | rfl | decide +kernel)
    (case kv_holds => rfl)
    (case kd_holds => first | k_is | rfl | decide +kernel)
    (case t0_holds => first | k_is | rfl | decide +kernel)
    (case y0_holds => first | k_is | rfl | decide +kernel)
    (case u0_holds => first | k_is | rfl | decide +kernel)
    (case kv_counterexample => rfl)
    (case kd_counterexample => first | k_is | rfl | decide +kernel)
    (case t0_counterexample => first | k_is | rfl | decide +kernel)
    (case y0_counterexample => first | k_is | rfl | decide +kernel)
    (case u0_counterexample => first | k_is | rfl | decide +kernel)
    (case aC_FE => k_is)
    (case xC_FE => k_is)
    (case fi_FE => k_is)
    (case ty_FE => k_is)
    (case sp_FE => k_is)
    (case tk_FE => k_is)
    (case opq_FE => k_is)
    (case top_FE => first | rfl | decide +kernel)
    (case su_FE => k_is)
    (case aC_BadText => k_is)
    (case xC_BadText => k_is)
    (case sa_BadText => k_is)
    (case ga_BadText => k_is)
    (case gg_BadText => k_is)
    (case gc_BadText => k_is)
    (case ia_BadText => k_is)
    (case no0_BadText => k_is)
    (case it_BadText => k_is)
    (case ex_BadText => k_is)
    (case ve_BadText => k_is)
    (case sC_BadText => first | rfl | k_is)
    (case sF_BadText => k_is)
    (case ty_BadText => k_is)
    (case kC_BadText => k_is)
    (case mS_BadText => first | rfl | k_is)
    (case mO_BadText => k_is)
    (case lI_BadText => k_is)
    (case cI_BadText => k_is)
    (case cell_BadText => k_is)
    (case lc_BadText => k_is)
    (case v2_BadText => rfl)
    (case fl_BadText => first | rfl | decide +kernel)
    (case aC_NotLinear => k_is)
    (case xC_NotLinear => k_is)
    (case sa_NotLinear => k_is)
    (case ga_NotLinear => k_is)
    (case gg_NotLinear => k_is)
    (case gc_NotLinear => k_is)
    (case ia_NotLinear => k_is)
    (case no0_NotLinear => k_is)
    (case it_NotLinear => k_is)
    (case ex_NotLinear => k_is)
    (case ve_NotLinear => k_is)
    (case sC_NotLinear => first | rfl | k_is)
    (case sF_NotLinear => k_is)
    (case ty_NotLinear => k_is)
    (case kC_NotLinear => k_is)
    (case mS_NotLinear => first | rfl | k_is)
    (case mO_NotLinear => k_is)
    (case lI_NotLinear => k_is)
    (case cI_NotLinear => k_is)
    (case cell_NotLinear => k_is)
    (case lc_NotLinear => k_is)
    (case v2_NotLinear => rfl)
    (case fl_NotLinear => first | rfl | decide +kernel)
    (case aC_TooManyNames => k_is)
    (case xC_TooManyNames => k_is)
    (case sa_TooManyNames => k_is)
    (case ga_TooManyNames => k_is)
    (case gg_TooManyNames => k_is)
    (case gc_TooManyNames => k_is)
    (case ia_TooManyNames => k_is)
    (case no0_TooManyNames => k_is)
    (case it_TooManyNames => k_is)
    (case ex_TooManyNames => k_is)
    (case ve_TooManyNames => k_is)
    (case sC_TooManyNames => first | rfl | k_is)
    (case sF_TooManyNames => k_is)
    (case ty_TooManyNames => k_is)
    (case kC_TooManyNames => k_is)
    (case mS_TooManyNames => first | rfl | k_is)
    (case mO_TooManyNames => k_is)
    (case lI_TooManyNames => k_is)
    (case cI_TooManyNames => k_is)
    (case cell_TooManyNames => k_is)
    (case lc_TooManyNames => k_is)
    (case v2_TooManyNames => rfl)
    (case fl_TooManyNames => first | rfl | decide +kernel)
