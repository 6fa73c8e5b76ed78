import PyProof.Rows.All
import Wide.All
import OpenK.AllK
import Wide.FinOn
import HandS.ForMost
import HandS.Wide
import HandS.WideBits
import HandS.Flow
import HandS.Style
import HandS.Small
import HandS.SortInts
import HandS.IsInst
import HandS.TupAny
import HandS.RaiseMore
import HandS.Defaults
import HandS.Codes
import KE.KBits
import HandS.Iter
import HandS.Comp
import PySem.Challenge.RW_farbits_k34_periods_are_least
set_option Elab.async false
set_option linter.all false
set_option maxRecDepth 100000
set_option maxHeartbeats 4000000
namespace Fb
open PySem L2
/-- a def that stands in the module and keeps a promise -/
structure Has (P : Program) (w : World) (K : PySem.W.Frag) (mg : Str → Option Value) (base : Heap) (k : Nat) (x : Str) (ps : List Str) (dvs : List V) (sp : Sp) : Prop where
  ex : ∃ f fd ds, FnOk P w K mg base CX0 k f fd ps sp ∧ PySem.W.keepIn K (.ref f) = true ∧ mg x = some (.ref f) ∧ Vals dvs ds ∧ Binds K fd ps ds
section
variable {X : Cx} {k : Nat} {x : Str} {ps : List Str} {dvs : List V} {sp : Sp} {e : Expr} {es : List Expr} {t : TA} {p pos : Pos}
theorem pe_H (C : Has X.prog X.w X.K X.mg X.base k x ps dvs sp) (hr : Room k X.A) (hg : Gl X x) (ha : PA X (e :: es) t) (hdb : (x == ("__debug__" : Str)) = false := by decide)
    (he : starEach (e :: es) X.env = (false, eval e X.env) :: starEach es X.env := by rfl) (hpl : (backTo pos (starEach es X.env)).any (·.1) = false := by rfl) :
    PE X (.Call (.Name x p) (e :: es) [] pos) (tCall sp dvs E0 t) := by
  obtain ⟨f, fd, ds, F, hk, hm, hd, hb⟩ := C.ex
  exact pe_call F hr hg hm hk hb hd pass0 ha hdb he hpl
/-- a def with defaults, its body over CX0 -/
theorem funD_ok {P : Program} {w : World} {K : PySem.W.Frag} {mg : Str → Option Value} {base : Heap} {x qual : Str} {st : Stmt} {dvs : List V} {kws : List (Str × V)} {f : Addr} {fd : FuncData} {N ps : List Str} {k : Nat} {sp : Sp} (F : FunD K x qual (defArgs st) (defBody st) (defScope st) dvs kws f fd) (S : FnScope N ps (defScope st)) (len : ∀ vs H Q E, sp vs H Q E → vs.length = ps.length)
    (hbody : ∀ (cdv : Value) (A : Around) (outer : List Env) (s : Shared) (H : Hp) (vs : List V) (Q : VK) (E : XK), Room k (A.deeper (PyProof.Rows.envOfC qual (defScope st) s.heap.objs.size f cdv)) → sp vs H Q E →
      ∃ t, PSs (cxOf CX0 P w K mg base N qual (defScope st) f cdv A outer s H E).nox (defBody st) t ∧ t { nx := fun _ H' => Q .non H', rt := Q } (L2.start N vs) H) : FnOk P w K mg base CX0 (k + 1) f fd ps sp :=
  F.ok S len fun cdv A outer s H vs Q E hr h => by
    obtain ⟨t, h, q⟩ := hbody cdv A outer s H vs Q E hr h
    exact ⟨t, h.nox, q⟩
end
/-- the built-ins that the text names are the built-ins -/
structure Blt (mg : Str → Option Value) : Prop where
  len : mg "len" = none
  int : mg "int" = none
  isinstance : mg "isinstance" = none
  sum : mg "sum" = none
  max : mg "max" = none
  min : mg "min" = none
  sorted : mg "sorted" = none
  tuple : mg "tuple" = none
  list : mg "list" = none
  range : mg "range" = none
  repr : mg "repr" = none
  bool : mg "bool" = none
  abs : mg "abs" = none
  enumerate : mg "enumerate" = none
  zip : mg "zip" = none
  str : mg "str" = none
  dict : mg "dict" = none
/-! ### heaps: all but the dicts is as it was -/
structure Nd (H H' : Hp) : Prop where
  k : ∀ b o, H b = some o → (∀ kv, o ≠ .dK kv) → H' b = some o
  f : ∀ b, H' b = none → H b = none
theorem Nd.refl (H : Hp) : Nd H H := ⟨fun _ _ h _ => h, fun _ h => h⟩
theorem Nd.trans {H H1 H2 : Hp} (a : Nd H H1) (b : Nd H1 H2) : Nd H H2 := ⟨fun x o h n => b.k x o (a.k x o h n) n, fun x h => a.f x (b.f x h)⟩
theorem Nd.of {H H' : Hp} (a : Same H H') : Nd H H' := ⟨fun x o h _ => a x o h, fun _ h => a.free h⟩
theorem upd_none {H : Hp} {p b : Addr} {o : HO} (h : upd H p o b = none) : H b = none ∧ b ≠ p := by
  have hn : b ≠ p := by rintro rfl; rw [upd_same] at h; cases h
  rw [upd_ne hn] at h
  exact ⟨h, hn⟩
theorem Nd.tape {t : Addr} {H : Hp} {o : HO} {kv : List (Key × V)} (h : H t = some (.dK kv)) : Nd H (upd H t o) := ⟨fun x u e n => by
  rw [upd_ne (by rintro rfl; rw [h] at e; cases e; exact n _ rfl)]; exact e, fun _ h => (upd_none h).1⟩
theorem Nd.new {p : Addr} {H : Hp} {o : HO} (h : H p = none) : Nd H (upd H p o) := ⟨fun x u e _ => by rw [upd_ne (ne_of_none e h)]; exact e, fun _ h => (upd_none h).1⟩
theorem Nd.sql {K : PySem.W.Frag} {c : Addr} {H H' : Hp} {xs : List V} (e : Nd H H') (h : SqL K H c xs) : SqL K H' c xs := by
  rcases h with (h | ⟨o, h⟩) | h
  · exact .inl (.inl (e.k _ _ h fun _ z => nomatch z))
  · exact .inl (.inr ⟨o, e.k _ _ h fun _ z => nomatch z⟩)
  · exact .inr h
theorem Nd.sqt {K : PySem.W.Frag} {c : Addr} {H H' : Hp} {xs : List V} (e : Nd H H') (h : SqT K H c xs) : SqT K H' c xs := by
  rcases h with (h | ⟨o, h⟩) | h
  · exact .inl (.inl (e.k _ _ h fun _ z => nomatch z))
  · exact .inl (.inr ⟨o, e.k _ _ h fun _ z => nomatch z⟩)
  · exact .inr h
theorem Nd.lst {a : Addr} {H H' : Hp} {xs : List V} (e : Nd H H') (h : H a = some (.lst xs)) : H' a = some (.lst xs) := e.k _ _ h fun _ z => nomatch z
mutual
theorem Nd.dp {K : PySem.W.Frag} {H H' : Hp} (e : Nd H H') : ∀ (d : PyData) (v : V), Dp K H v d → Dp K H' v d
  | .none, _, h => by cases h; exact .non
  | .bool b, _, h => by cases h; exact .bl b
  | .int i, _, h => by cases h; exact .int i
  | .str x, _, h => by cases h; exact .str x
  | .list ds, _, h => by
    cases h with
    | lst hs ha => exact .lst (e.sql hs) (Nd.dps e ds _ ha)
  | .tuple ds, _, h => by
    cases h with
    | tup hs ha => exact .tup (e.sqt hs) (Nd.dps e ds _ ha)
  | .dict _, _, h => by cases h
theorem Nd.dps {K : PySem.W.Frag} {H H' : Hp} (e : Nd H H') : ∀ (ds : List PyData) (vs : List V), DpAll K H vs ds → DpAll K H' vs ds
  | [], _, h => by cases h; exact .nil
  | d :: ds, _, h => by
    cases h with
    | cons h1 h2 => exact .cons (Nd.dp e d _ h1) (Nd.dps e ds _ h2)
end
theorem Nd.d {K : PySem.W.Frag} {H H' : Hp} {d : PyData} {v : V} (e : Nd H H') (h : Dp K H v d) : Dp K H' v d := Nd.dp e d v h
theorem Nd.ds {K : PySem.W.Frag} {H H' : Hp} {ds : List PyData} {vs : List V} (e : Nd H H') (h : DpAll K H vs ds) : DpAll K H' vs ds := Nd.dps e ds vs h
theorem Same.new {p : Addr} {H : Hp} {o : HO} (h : H p = none) : Same H (upd H p o) := fun b u q => by rw [upd_ne (ne_of_none q h)]; exact q
/-- a list that grows, made by this very call -/
theorem Same.mut {H H' : Hp} {p : Addr} {o : HO} (e : Same H H') (h : H p = none) : Same H (upd H' p o) := fun a u ha => by
  rw [upd_ne (ne_of_none ha h)]
  exact e a u ha
theorem Nd.mut {H H' : Hp} {p : Addr} {o : HO} (e : Nd H H') (h : H p = none) : Nd H (upd H' p o) := ⟨fun a u ha n => by
  rw [upd_ne (ne_of_none ha h)]
  exact e.k a u ha n, fun _ h => e.f _ (upd_none h).1⟩
theorem dps_length {K : PySem.W.Frag} {H : Hp} : ∀ {vs : List V} {ds : List PyData}, DpAll K H vs ds → vs.length = ds.length
  | _, _, .nil => rfl
  | _, _, .cons _ h => by rw [List.length_cons, List.length_cons, dps_length h]
theorem dps_get {K : PySem.W.Frag} {H : Hp} : ∀ {vs : List V} {ds : List PyData} {i : Nat} {v : V}, DpAll K H vs ds → vs[i]? = some v → ∃ d, ds[i]? = some d ∧ Dp K H v d
  | [], _, _, _, _, h => by cases h
  | w :: vs, [], _, _, hd, _ => by cases hd
  | w :: vs, d :: ds, 0, _, hd, h => by cases hd with | cons h1 h2 => cases h; exact ⟨_, rfl, h1⟩
  | w :: vs, d :: ds, i + 1, _, hd, h => by cases hd with | cons h1 h2 => exact dps_get (vs := vs) (ds := ds) (i := i) h2 (by simpa using h)
theorem dps_app {K : PySem.W.Frag} {H : Hp} : ∀ {vs ws : List V} {ds es : List PyData}, DpAll K H vs ds → DpAll K H ws es → DpAll K H (vs ++ ws) (ds ++ es)
  | _, _, _, _, .nil, h => h
  | _, _, _, _, .cons h1 h2, h => .cons h1 (dps_app h2 h)
theorem dps_ints {K : PySem.W.Frag} {H : Hp} : ∀ (ns : List Int), DpAll K H (ns.map V.int) (ns.map PyData.int)
  | [] => .nil
  | n :: ns => .cons (.int n) (dps_ints ns)
theorem dps_ints_inv {K : PySem.W.Frag} {H : Hp} : ∀ {ns : List Int} {vs : List V}, DpAll K H vs (ns.map PyData.int) → vs = ns.map V.int
  | [], _, h => by cases h; rfl
  | n :: ns, _, h => by
    cases h with
    | cons h1 h2 =>
      cases h1
      rw [dps_ints_inv h2]
      rfl
/-- the tape: a dict of the cells, the place, the rest; n draws are left -/
def tp (c : Addr) (at_ rest : Int) : List (Key × V) := [(.inr "cells", .ref c), (.inr "at", .int at_), (.inr "rest", .int rest)]
/-- the tape as it stands -/
structure TS (K : PySem.W.Frag) (t c : Addr) (cs : List Int) (a r : Int) (H : Hp) : Prop where
  d : H t = some (.dK (tp c a r))
  s : SqL K H c (cs.map V.int)
theorem TS.new {K : PySem.W.Frag} {t c p : Addr} {cs : List Int} {a r : Int} {H : Hp} {o : HO} (h : TS K t c cs a r H) (np : H p = none) : TS K t c cs a r (upd H p o) :=
  ⟨by rw [upd_ne (ne_of_none h.d np)]; exact h.d, (Nd.new np).sql h.s⟩
theorem TS.put {K : PySem.W.Frag} {t c : Addr} {cs : List Int} {a r b u : Int} {H : Hp} (h : TS K t c cs a r H) : TS K t c cs b u (upd H t (.dK (tp c b u))) :=
  ⟨upd_same, (Nd.tape h.d).sql h.s⟩
theorem TS.cells {K : PySem.W.Frag} {t c : Addr} {cs : List Int} {a r : Int} {H : Hp} (h : TS K t c cs a r H) : DGet H t (.str "cells") (some (.ref c)) := DGet.k (k := Sum.inr "cells") h.d
theorem TS.at_ {K : PySem.W.Frag} {t c : Addr} {cs : List Int} {a r : Int} {H : Hp} (h : TS K t c cs a r H) : DGet H t (.str "at") (some (.int a)) := DGet.k (k := Sum.inr "at") h.d
theorem TS.rest {K : PySem.W.Frag} {t c : Addr} {cs : List Int} {a r : Int} {H : Hp} (h : TS K t c cs a r H) : DGet H t (.str "rest") (some (.int r)) := DGet.k (k := Sum.inr "rest") h.d
theorem TS.pat {K : PySem.W.Frag} {t c : Addr} {cs : List Int} {a r b : Int} {H : Hp} (h : TS K t c cs a r H) : DPut H t (.str "at") (.int b) (upd H t (.dK (tp c b r))) := DPut.k (k := Sum.inr "at") h.d (by show 3 < sizeLine; decide)
theorem TS.prest {K : PySem.W.Frag} {t c : Addr} {cs : List Int} {a r b : Int} {H : Hp} (h : TS K t c cs a r H) : DPut H t (.str "rest") (.int b) (upd H t (.dK (tp c a b))) := DPut.k (k := Sum.inr "rest") h.d (by show 3 < sizeLine; decide)
theorem iteD {c A B : Prop} [Decidable c] (h1 : c → A) (h2 : ¬ c → B) : if decide c = true then A else B := by
  by_cases h : c
  · rw [decide_eq_true h, if_pos rfl]
    exact h1 h
  · rw [decide_eq_false h, if_neg Bool.false_ne_true]
    exact h2 h
theorem iteDN {c A B : Prop} [Decidable c] (h1 : ¬ c → A) (h2 : c → B) : if (!decide c) = true then A else B := by
  by_cases h : c
  · rw [decide_eq_true h]
    exact iteF (h2 h)
  · rw [decide_eq_false h]
    exact iteT (h1 h)
def rIntI : List V → Hp → VK → Prop := fun xs H Q => ∃ i, xs = [.int i] ∧ Q (.int i) H
theorem call_intI {X : Cx} : CallR X (.type "int") rIntI := fun pins s σ H xs us Q I r h =>
  call_int1 pins s σ H xs us Q I r (.inl h)
def rIntB : List V → Hp → VK → Prop := fun xs H Q => ∃ k, xs = [.bl k] ∧ Q (.int (if k then 1 else 0)) H
theorem call_intB {X : Cx} : CallR X (.type "int") rIntB := fun pins s σ H xs us Q I r h =>
  call_int1 pins s σ H xs us Q I r (.inr h)
def rLenL (K : PySem.W.Frag) : List V → Hp → VK → Prop := fun xs H Q => ∃ p ys, xs = [.ref p] ∧ SqL K H p ys ∧ Q (.int ys.length) H
theorem call_lenL {X : Cx} : CallR X (.builtin "len") (rLenL X.K) := fun pins s σ H xs us Q I r ⟨p, ys, e, h, q⟩ =>
  call_len_seq pins s σ H xs us Q I r ⟨p, ys, e, .inl h, q⟩
def rLenT (K : PySem.W.Frag) : List V → Hp → VK → Prop := fun xs H Q => ∃ p ys, xs = [.ref p] ∧ SqT K H p ys ∧ Q (.int ys.length) H
theorem call_lenT {X : Cx} : CallR X (.builtin "len") (rLenT X.K) := fun pins s σ H xs us Q I r ⟨p, ys, e, h, q⟩ =>
  call_len_seq pins s σ H xs us Q I r ⟨p, ys, e, .inr h, q⟩
def rTupL (K : PySem.W.Frag) : List V → Hp → VK → Prop := fun xs H Q => ∃ p ys, xs = [.ref p] ∧ SqL K H p ys ∧ ∀ l, H l = none → Q (.ref l) (upd H l (.tup ys))
theorem call_tupL {X : Cx} : CallR X (.type "tuple") (rTupL X.K) := fun pins s σ H xs us Q I r ⟨p, ys, e, h, q⟩ =>
  call_tuple_of pins s σ H xs us Q I r ⟨p, ys, e, .inl ⟨h, q⟩⟩
def rListL (K : PySem.W.Frag) : List V → Hp → VK → Prop := fun xs H Q => ∃ p ys, xs = [.ref p] ∧ SqL K H p ys ∧ ∀ l, H l = none → Q (.ref l) (upd H l (.lst ys))
theorem call_listL {X : Cx} : CallR X (.type "list") (rListL X.K) := fun pins s σ H xs us Q I r ⟨p, ys, e, h, q⟩ =>
  call_list_of pins s σ H xs us Q I r ⟨p, ys, e, .inl h, q⟩
def rListT (K : PySem.W.Frag) : List V → Hp → VK → Prop := fun xs H Q => ∃ p ys, xs = [.ref p] ∧ SqT K H p ys ∧ ∀ l, H l = none → Q (.ref l) (upd H l (.lst ys))
theorem call_listT {X : Cx} : CallR X (.type "list") (rListT X.K) := fun pins s σ H xs us Q I r ⟨p, ys, e, h, q⟩ =>
  call_list_of pins s σ H xs us Q I r ⟨p, ys, e, .inr h, q⟩
/-- a tape: its dict, its cells -/
structure Tp where
  t : Addr
  c : Addr
  cs : List Int
/-- the tape stands, n draws are left -/
def Tape (K : PySem.W.Frag) (τ : Tp) (n : Nat) (H : Hp) : Prop := ∃ at_ rest : Int, TS K τ.t τ.c τ.cs at_ rest H ∧ τ.cs ≠ [] ∧ τ.cs.length ≤ 63 ∧ 0 ≤ at_ ∧ at_ + n ≤ 2 ^ 40 ∧ 0 ≤ rest
theorem Tape.mono {K : PySem.W.Frag} {τ : Tp} {n m : Nat} {H : Hp} (h : Tape K τ n H) (e : m ≤ n) : Tape K τ m H := by
  obtain ⟨a, r, h1, h3, h4, h5, h6, h7⟩ := h
  exact ⟨a, r, h1, h3, h4, h5, by omega, h7⟩
theorem Tape.same {K : PySem.W.Frag} {τ : Tp} {n : Nat} {H H' : Hp} (h : Tape K τ n H) (e : Same H H') : Tape K τ n H' := by
  obtain ⟨a, r, h1, h3⟩ := h
  exact ⟨a, r, ⟨e _ _ h1.d, e.seq h1.s⟩, h3⟩
theorem Tape.new {K : PySem.W.Frag} {τ : Tp} {n : Nat} {H : Hp} {p : Addr} {o : HO} (h : Tape K τ n H) (np : H p = none) : Tape K τ n (upd H p o) := h.same fun b u q => by rw [upd_ne (ne_of_none q np)]; exact q
/-- an object made behind H0 may change -/
theorem Tape.mut {K : PySem.W.Frag} {τ : Tp} {n m : Nat} {H H0 : Hp} {p : Addr} {o : HO} (h0 : Tape K τ m H0) (np : H0 p = none) (h : Tape K τ n H) : Tape K τ n (upd H p o) := by
  obtain ⟨a0, r0, k1, _⟩ := h0
  obtain ⟨a, r, h1, h3⟩ := h
  refine ⟨a, r, ⟨by rw [upd_ne (by rintro rfl; rw [k1.d] at np; cases np)]; exact h1.d, ?_⟩, h3⟩
  have key : ∀ u, H0 τ.c = some u → SqL K (upd H p o) τ.c (τ.cs.map V.int) := fun u hu => by
    have hn : τ.c ≠ p := by intro z; rw [z, np] at hu; cases hu
    rcases h1.s with (h | ⟨w, h⟩) | h
    · exact .inl (.inl (by rw [upd_ne hn]; exact h))
    · exact .inl (.inr ⟨w, by rw [upd_ne hn]; exact h⟩)
    · exact .inr h
  rcases k1.s with (h | ⟨w, h⟩) | h
  · exact key _ h
  · exact key _ h
  · exact .inr h
/-- what a drawn bound may be -/
def BigL : Int := 2 ^ 8000
theorem lt_BigL {z : Int} (h : z ≤ 2 ^ 200) : z < BigL := Int.lt_of_le_of_lt h (by unfold BigL; decide +kernel)
theorem div_BigL {z i : Int} (h0 : 0 < z) (h : z < BigL) : CDivW i z := by
  refine wide_div (b := 8000) h0 ?_ (by decide) (by decide)
  have e : BigL = ((2 ^ 8000 : Nat) : Int) := by unfold BigL; exact (Int.natCast_pow 2 8000).symm
  rw [e] at h
  generalize 2 ^ 8000 = N at h
  omega
def spDraw (K : PySem.W.Frag) : Sp := fun vs H Q _ => ∃ (τ : Tp) (lim : Int) (n : Nat), vs = [.ref τ.t, .int lim] ∧ Tape K τ (n + 1) H ∧ 0 < lim ∧ lim < BigL ∧
  ∀ (d : Int) (H' : Hp), Nd H H' → Tape K τ n H' → 0 ≤ d → d < lim → Q (.int d) H'
theorem atI_mod {α : Type} {xs : List α} {k : Int} (h : xs ≠ []) : ∃ v, atI xs (k.fmod (xs.length : Int)) = some v ∧ v ∈ xs := by
  have hl : 0 < xs.length := List.length_pos_iff.mpr h
  have h0 : 0 ≤ k.fmod (xs.length : Int) := Int.fmod_nonneg_of_pos _ (by omega)
  have h1 : k.fmod (xs.length : Int) < xs.length := Int.fmod_lt_of_pos _ (by omega)
  obtain ⟨j, hj⟩ := Int.eq_ofNat_of_zero_le h0
  rw [hj]
  have hj' : j < xs.length := by omega
  exact ⟨xs[j], atI_nat (List.getElem?_eq_getElem hj'), List.getElem_mem hj'⟩
theorem tp_cells {c : Addr} {a r : Int} : valV (tp c a r) (.inr "cells") = some (.ref c) := by rfl
theorem tp_at {c : Addr} {a r : Int} : valV (tp c a r) (.inr "at") = some (.int a) := by rfl
theorem tp_rest {c : Addr} {a r : Int} : valV (tp c a r) (.inr "rest") = some (.int r) := by rfl
theorem tp_pat {c : Addr} {a r b : Int} : putK (tp c a r) (.inr "at") (.int b) = tp c b r := by rfl
theorem tp_prest {c : Addr} {a r b : Int} : putK (tp c a r) (.inr "rest") (.int b) = tp c a b := by rfl
end Fb
namespace Fb
open PySem
/-! ### the ones of a number, the turns of an int -/
def ones (m : Nat) : List Nat := if h : m = 0 then [] else (if m % 2 = 1 then [0] else []) ++ (ones (m / 2)).map (· + 1)
termination_by m
decreasing_by omega
theorem ones_zero : ones 0 = [] := by rw [ones]; rfl
theorem ones_pos {m : Nat} (h : m ≠ 0) : ones m = (if m % 2 = 1 then [0] else []) ++ (ones (m / 2)).map (· + 1) := by rw [ones, dif_neg h]
theorem ones_even (m : Nat) : ones (2 * m) = (ones m).map (· + 1) := by
  by_cases h : m = 0
  · subst h; rw [ones_zero]; rfl
  · rw [ones_pos (by omega), if_neg (by omega), show 2 * m / 2 = m by omega]; rfl
theorem ones_odd (m : Nat) : ones (2 * m + 1) = 0 :: (ones m).map (· + 1) := by
  rw [ones_pos (by omega), if_pos (by omega), show (2 * m + 1) / 2 = m by omega]; rfl
theorem ones_shift (k m : Nat) : ones (2 ^ k * m) = (ones m).map (· + k) := by
  induction k with
  | zero => simp
  | succ k ih =>
    rw [show 2 ^ (k + 1) * m = 2 * (2 ^ k * m) by rw [Nat.pow_succ]; simp [Nat.mul_comm, Nat.mul_left_comm, Nat.mul_assoc], ones_even, ih, List.map_map]
    exact List.map_congr_left fun x _ => by show x + k + 1 = x + (k + 1); omega
/-- the lowest one -/
theorem low_of {m : Nat} (h : m ≠ 0) : ∃ k a, m = 2 ^ k * (2 * a + 1) := by
  induction m using Nat.strongRecOn with
  | _ m ih =>
    by_cases e : m % 2 = 1
    · exact ⟨0, m / 2, by omega⟩
    · obtain ⟨k, a, q⟩ := ih (m / 2) (by omega) (by omega)
      exact ⟨k + 1, a, by rw [Nat.pow_succ, Nat.mul_right_comm, ← q]; omega⟩
theorem ones_low (k a : Nat) : ones (2 ^ k * (2 * a + 1)) = k :: ones (2 ^ k * (2 * a)) := by
  rw [ones_shift, ones_odd, show 2 ^ k * (2 * a) = 2 ^ k * (2 * a) from rfl, ones_shift, ones_even]
  simp
theorem ones_lt {m n : Nat} (h : m < 2 ^ n) : ∀ p ∈ ones m, p < n := by
  induction n generalizing m with
  | zero => rw [show m = 0 by omega, ones_zero]; simp
  | succ n ih =>
    intro p hp
    by_cases e : m = 0
    · rw [e, ones_zero] at hp; cases hp
    · rw [ones_pos e] at hp
      rcases List.mem_append.mp hp with hp | hp
      · split at hp <;> simp at hp; omega
      · obtain ⟨q, hq, rfl⟩ := List.mem_map.mp hp
        have := ih (m := m / 2) (by rw [Nat.pow_succ] at h; omega) q hq
        omega
theorem ones_asc (m : Nat) : (ones m).Pairwise (· < ·) := by
  induction m using Nat.strongRecOn with
  | _ m ih =>
    by_cases e : m = 0
    · rw [e, ones_zero]; exact .nil
    · have q := ih (m / 2) (by omega)
      have q1 : ((ones (m / 2)).map (· + 1)).Pairwise (· < ·) := List.pairwise_map.mpr (q.imp fun h => by omega)
      rw [ones_pos e]
      split
      · refine List.pairwise_cons.mpr ⟨fun x hx => ?_, q1⟩
        obtain ⟨y, _, rfl⟩ := List.mem_map.mp (show x ∈ (ones (m / 2)).map (· + 1) from hx)
        omega
      · exact q1
theorem ones_eq_nil {m : Nat} : ones m = [] ↔ m = 0 := by
  constructor
  · intro h
    by_cases e : m = 0
    · exact e
    · obtain ⟨k, a, rfl⟩ := low_of e
      rw [ones_low] at h; cases h
  · rintro rfl; exact ones_zero
theorem ones_len {m n : Nat} (h : m < 2 ^ n) : (ones m).length ≤ n := by
  induction n generalizing m with
  | zero => rw [show m = 0 by omega, ones_zero]; simp
  | succ n ih =>
    by_cases e : m = 0
    · rw [e, ones_zero]; simp
    · have := ih (m := m / 2) (by rw [Nat.pow_succ] at h; omega)
      rw [ones_pos e]
      split <;> simp <;> omega
/-! ### the marks of an int: its turns -/
open PyProof.Rows PySem.W in
theorem xor_halves (x y : Int) : Builtin.bitXor x y = 2 * Builtin.bitXor (x / 2) (y / 2) + (x + y) % 2 := by
  rw [bitXor_and, bitXor_and, kbt_halves x y]
  split <;> omega
def mk (b x : Int) : Int := Builtin.bitXor x (2 * x + b)
theorem mk_step {b x : Int} (h0 : 0 ≤ b) (h1 : b < 2) : mk b x = 2 * mk (x % 2) (x / 2) + (x + b) % 2 := by
  unfold mk
  rw [xor_halves, show (2 * x + b) / 2 = x by omega, show 2 * (x / 2) + x % 2 = x by omega]
  omega
/-- alternating powers of two -/
def alt (s : Int) : List Nat → Int
  | [] => 0
  | p :: ps => s * 2 ^ p + alt (-s) ps
theorem alt_up (s : Int) (ps : List Nat) : alt s (ps.map (· + 1)) = 2 * alt s ps := by
  induction ps generalizing s with
  | nil => rfl
  | cons p ps ih =>
    show s * 2 ^ (p + 1) + alt (-s) (ps.map (· + 1)) = 2 * (s * 2 ^ p + alt (-s) ps)
    rw [ih, Int.pow_succ, Int.mul_add, ← Int.mul_assoc, Int.mul_comm _ 2]
theorem mk_all (n : Nat) : ∀ b x : Int, 0 ≤ b → b < 2 → -(2 ^ n) ≤ x → x < 2 ^ n → 0 ≤ mk b x ∧ mk b x < 2 ^ (n + 1) ∧ alt (2 * b - 1) (ones (mk b x).toNat) = x + b := by
  induction n with
  | zero =>
    intro b x h0 h1 h2 h3
    have hx : x = 0 ∨ x = -1 := by simp at h2 h3; omega
    have hb : b = 0 ∨ b = 1 := by omega
    have c00 : mk 0 0 = 0 := by decide +kernel
    have c10 : mk 1 0 = 1 := by decide +kernel
    have c01 : mk 0 (-1) = 1 := by decide +kernel
    have c11 : mk 1 (-1) = 0 := by decide +kernel
    have o1 : ones 1 = [0] := by rw [show (1 : Nat) = 2 * 0 + 1 from rfl, ones_odd, ones_zero]; rfl
    rcases hx with rfl | rfl <;> rcases hb with rfl | rfl
    · rw [c00]; refine ⟨by decide, by decide, ?_⟩; rw [show (0 : Int).toNat = 0 from rfl, ones_zero]; rfl
    · rw [c10]; refine ⟨by decide, by decide, ?_⟩; rw [show (1 : Int).toNat = 1 from rfl, o1]; rfl
    · rw [c01]; refine ⟨by decide, by decide, ?_⟩; rw [show (1 : Int).toNat = 1 from rfl, o1]; rfl
    · rw [c11]; refine ⟨by decide, by decide, ?_⟩; rw [show (0 : Int).toNat = 0 from rfl, ones_zero]; rfl
  | succ n ih =>
    intro b x h0 h1 h2 h3
    rw [Int.pow_succ] at h2 h3
    obtain ⟨k0, k1, k2⟩ := ih (x % 2) (x / 2) (by omega) (by omega) (by omega) (by omega)
    rw [mk_step h0 h1]
    refine ⟨by omega, by rw [Int.pow_succ]; omega, ?_⟩
    generalize hm : mk (x % 2) (x / 2) = m at k0 k1 k2
    by_cases e : (x + b) % 2 = 0
    · rw [e, show (2 * m + 0).toNat = 2 * m.toNat by omega, ones_even, alt_up, show 2 * b - 1 = 2 * (x % 2) - 1 by omega, k2]
      omega
    · rw [show (x + b) % 2 = 1 by omega, show (2 * m + 1).toNat = 2 * m.toNat + 1 by omega, ones_odd]
      show (2 * b - 1) * 2 ^ 0 + alt (-(2 * b - 1)) _ = _
      rw [alt_up, show -(2 * b - 1) = 2 * (x % 2) - 1 by omega, k2]
      simp
      omega
def marks (x : Int) : Nat := (Builtin.bitXor x (x * 2)).toNat
theorem marks_eq (x : Int) : Builtin.bitXor x (x * 2) = mk 0 x := by unfold mk; rw [show x * 2 = 2 * x + 0 by omega]
def turnsN (x : Int) : List Nat := ones (marks x)
def turnsZ (x : Int) : List Int := (turnsN x).map Int.ofNat
theorem marks_cast {x : Int} : ∃ n : Nat, -(2 ^ n) ≤ x ∧ x < 2 ^ n := by
  refine ⟨x.natAbs, ?_, ?_⟩ <;>
  · have h : x.natAbs < 2 ^ x.natAbs := Nat.lt_two_pow_self
    have h2 : ((2 ^ x.natAbs : Nat) : Int) = (2 : Int) ^ x.natAbs := by simp
    omega
theorem marks_nonneg (x : Int) : 0 ≤ Builtin.bitXor x (x * 2) := by
  obtain ⟨n, h0, h1⟩ := marks_cast (x := x)
  rw [marks_eq]; exact (mk_all n 0 x (by decide) (by decide) h0 h1).1
theorem marks_val (x : Int) : Builtin.bitXor x (x * 2) = (marks x : Int) := by
  have := marks_nonneg x
  unfold marks; omega
theorem marks_lt {x : Int} {n : Nat} (h0 : -(2 ^ n) ≤ x) (h1 : x < 2 ^ n) : marks x < 2 ^ (n + 1) := by
  have h := (mk_all n 0 x (by decide) (by decide) h0 h1).2.1
  rw [← marks_eq, marks_val] at h
  have h2 : ((2 ^ (n + 1) : Nat) : Int) = (2 : Int) ^ (n + 1) := by simp
  omega
/-- the turns tell the int -/
theorem turns_alt (x : Int) : alt (-1) (turnsN x) = x := by
  obtain ⟨n, h0, h1⟩ := marks_cast (x := x)
  have h : alt (-1) (ones (mk 0 x).toNat) = x + 0 := (mk_all n 0 x (by decide) (by decide) h0 h1).2.2
  rw [← marks_eq] at h
  unfold turnsN marks
  omega
theorem turns_lt {x : Int} {n : Nat} (h0 : -(2 ^ n) ≤ x) (h1 : x < 2 ^ n) : ∀ p ∈ turnsN x, p ≤ n := fun p hp => Nat.le_of_lt_succ (ones_lt (marks_lt h0 h1) p hp)
theorem turns_len {x : Int} {n : Nat} (h0 : -(2 ^ n) ≤ x) (h1 : x < 2 ^ n) : (turnsN x).length ≤ n + 1 := ones_len (marks_lt h0 h1)
theorem turns_asc (x : Int) : (turnsN x).Pairwise (· < ·) := ones_asc _
/-- a step of the loop over the marks -/
theorem marks_low {m : Nat} (h : m ≠ 0) : ∃ k : Nat, Builtin.bitAnd (m : Int) (-(m : Int)) = 2 ^ k ∧ 2 ^ k ≤ m ∧ ones m = k :: ones (m - 2 ^ k) := by
  obtain ⟨k, a, rfl⟩ := low_of h
  refine ⟨k, ?_, ?_, ?_⟩
  · have := PySem.W.kbt_low k (a : Int)
    rw [← this]
    simp
  · exact Nat.le_mul_of_pos_right _ (by omega)
  · rw [ones_low, Nat.mul_add, Nat.mul_one, Nat.add_sub_cancel]
end Fb
namespace Fb
open PySem L2
/-! ### trees of ints and tuples -/
def dTy : PyData → String
  | .none => "NoneType" | .bool _ => "bool" | .int _ => "int" | .str _ => "str" | .list _ => "list" | .tuple _ => "tuple" | .dict _ => "dict"
theorem tyx_dp {K : PySem.W.Frag} {H : Hp} {v : V} {d : PyData} (h : Dp K H v d) : TyX K H v (.type (dTy d)) := by
  cases h with
  | non => exact .base .non
  | bl b => exact .base (.bl b)
  | int i => exact .base (.int i)
  | str x => exact .base (.str x)
  | lst hs _ =>
    rcases hs with (h | ⟨o, h⟩) | ⟨o, its, n, h1, h2, _⟩
    · exact .base (.lst h)
    · exact .base (.frz h)
    · exact .kList h1 h2
  | tup hs _ =>
    rcases hs with (h | ⟨o, h⟩) | ⟨o, its, n, h1, h2, _⟩
    · exact .base (.tup h)
    · exact .fTuple h
    · exact .kTuple h1 h2
def isI (d : PyData) : Bool := match d with | .int _ => true | .bool _ => true | _ => false
def isT (d : PyData) : Bool := match d with | .tuple _ => true | _ => false
theorem kit_I : ∀ d : PyData, kitB (dTy d) "int" = some (isI d)
  | .none => by show kitB "NoneType" "int" = some false; decide +kernel
  | .bool _ => by show kitB "bool" "int" = some true; decide +kernel
  | .int _ => by show kitB "int" "int" = some true; decide +kernel
  | .str _ => by show kitB "str" "int" = some false; decide +kernel
  | .list _ => by show kitB "list" "int" = some false; decide +kernel
  | .tuple _ => by show kitB "tuple" "int" = some false; decide +kernel
  | .dict _ => by show kitB "dict" "int" = some false; decide +kernel
theorem kit_T : ∀ d : PyData, kitB (dTy d) "tuple" = some (isT d)
  | .none => by show kitB "NoneType" "tuple" = some false; decide +kernel
  | .bool _ => by show kitB "bool" "tuple" = some false; decide +kernel
  | .int _ => by show kitB "int" "tuple" = some false; decide +kernel
  | .str _ => by show kitB "str" "tuple" = some false; decide +kernel
  | .list _ => by show kitB "list" "tuple" = some false; decide +kernel
  | .tuple _ => by show kitB "tuple" "tuple" = some true; decide +kernel
  | .dict _ => by show kitB "dict" "tuple" = some false; decide +kernel
/-- isinstance(x, int) of a datum -/
def rIsD (K : PySem.W.Frag) (T : String) (t : PyData → Bool) : List V → Hp → VK → Prop := fun xs H Q => ∃ x d, xs = [x, .ty T] ∧ Dp K H x d ∧ Q (.bl (t d)) H
theorem call_isiI {X : Cx} (K : PySem.W.Frag) (hK : X.K = K := by rfl) : CallR X (.builtin "isinstance") (rIsD K "int" isI) := fun pins s σ H xs us Q I r ⟨x, d, e, h, q⟩ => by
  subst hK
  refine call_isi pins s σ H xs us Q I r ⟨x, _, _, _, isI d, e, .ty _, tyx_dp h, kit_ty (kit_I d), q⟩
/-- isinstance(x, tuple) of a datum -/
theorem call_isiT_ {X : Cx} (K : PySem.W.Frag) (hK : X.K = K := by rfl) : CallR X (.builtin "isinstance") (rIsD K "tuple" isT) := fun pins s σ H xs us Q I r ⟨x, d, e, h, q⟩ => by
  subst hK
  refine call_isi pins s σ H xs us Q I r ⟨x, _, _, _, isT d, e, .ty _, tyx_dp h, kit_ty (kit_T d), q⟩
theorem lcT {σ : L2.St} {H : Hp} {A B : Hp → Prop} (h : A H) : tYes σ H (fun b H3 => if b = true then A H3 else B H3) := by
  show (if true = true then A H else B H)
  rw [if_pos rfl]
  exact h
theorem ix_listK {X : Cx} (K : PySem.W.Frag) (hK : X.K = K := by rfl) : IxR X (rIxL K) := by subst hK; exact ix_list
theorem ix_tupK {X : Cx} (K : PySem.W.Frag) (hK : X.K = K := by rfl) : IxR X (rIxT K) := by subst hK; exact ix_tup
theorem call_lenLK {X : Cx} (K : PySem.W.Frag) (hK : X.K = K := by rfl) : CallR X (.builtin "len") (rLenL K) := by subst hK; exact call_lenL
/-- a tree of ints and tuples, at most n tuples deep -/
def Fm : Nat → PyData → Prop
  | 0, d => ∃ i, d = .int i
  | n + 1, d => (∃ i, d = .int i) ∨ ∃ ds, d = .tuple ds ∧ ds.length ≤ 2100 ∧ ∀ x ∈ ds, Fm n x
theorem Fm.succ : ∀ {n : Nat} {d : PyData}, Fm n d → Fm (n + 1) d
  | 0, _, h => .inl h
  | n + 1, _, h => by
    rcases h with h | ⟨ds, e, l, h⟩
    · exact .inl h
    · exact .inr ⟨ds, e, l, fun x hx => (h x hx).succ⟩
theorem Fm.mono {n m : Nat} {d : PyData} (h : Fm n d) (e : n ≤ m) : Fm m d := by
  induction e with
  | refl => exact h
  | step _ ih => exact ih.succ
theorem Fm.int {n : Nat} (i : Int) : Fm n (.int i) := by cases n <;> first | exact ⟨i, rfl⟩ | exact .inl ⟨i, rfl⟩
/-- size -/
def sz : Nat → PyData → Int
  | n + 1, .tuple ds => 1 + (ds.map (sz n)).sum
  | _, _ => 1
theorem sz_int (n : Nat) (i : Int) : sz n (.int i) = 1 := by cases n <;> rfl
/-- the greatest of some ints, 0 if there is none -/
def maxI : List Int → Int
  | [] => 0
  | x :: xs => max x (maxI xs)
def ht : Nat → PyData → Int
  | n + 1, .tuple ds => 1 + maxI (ds.map (ht n))
  | _, _ => 0
theorem ht_int (n : Nat) (i : Int) : ht n (.int i) = 0 := by cases n <;> rfl
theorem ht_nonneg : ∀ (n : Nat) (d : PyData), 0 ≤ ht n d
  | 0, _ => Int.le_refl _
  | n + 1, .tuple ds => by
    show 0 ≤ 1 + maxI _
    have : ∀ l : List Int, (∀ x ∈ l, 0 ≤ x) → 0 ≤ maxI l := fun l hl => by cases l with | nil => exact Int.le_refl _ | cons x xs => have := hl x List.mem_cons_self; show 0 ≤ max x _; omega
    have := this (ds.map (ht n)) (fun x hx => by obtain ⟨d, _, rfl⟩ := List.mem_map.mp hx; exact ht_nonneg n d)
    omega
  | n + 1, .none => Int.le_refl _
  | n + 1, .bool _ => Int.le_refl _
  | n + 1, .int _ => Int.le_refl _
  | n + 1, .str _ => Int.le_refl _
  | n + 1, .list _ => Int.le_refl _
  | n + 1, .dict _ => Int.le_refl _
theorem maxI_le {l : List Int} {x : Int} (h : x ∈ l) : x ≤ maxI l := by
  induction l with
  | nil => cases h
  | cons y ys ih =>
    show x ≤ max y (maxI ys)
    rcases List.mem_cons.mp h with rfl | h
    · omega
    · have := ih h; omega
theorem maxI_mem {l : List Int} (h : l ≠ []) (h0 : ∀ x ∈ l, 0 ≤ x) : maxI l ∈ l := by
  induction l with
  | nil => exact absurd rfl h
  | cons y ys ih =>
    by_cases e : ys = []
    · subst e
      show max y 0 ∈ [y]
      have := h0 y List.mem_cons_self
      rw [show max y 0 = y by omega]; exact List.mem_cons_self
    · have := ih e fun x hx => h0 x (List.mem_cons_of_mem _ hx)
      show max y (maxI ys) ∈ _
      by_cases c : y ≤ maxI ys
      · rw [show max y (maxI ys) = maxI ys by omega]; exact List.mem_cons_of_mem _ this
      · rw [show max y (maxI ys) = y by omega]; exact List.mem_cons_self
theorem maxI_eq {l : List Int} {m : Int} (hm : m ∈ l) (h0 : ∀ x ∈ l, 0 ≤ x) (h : ∀ y ∈ l, y ≤ m) : maxI l = m := by
  have a := maxI_le hm
  have b := h _ (maxI_mem (List.ne_nil_of_mem hm) h0)
  omega
/-- the row of the last turns -/
def lv : Nat → PyData → Int
  | n + 1, .tuple ds => match ds.getLast? with
    | some d => 1 + lv n d
    | none => 1
  | _, _ => 0
/-- no tuple is empty on the way of the last turns, and there the last one is of the greatest height -/
def Sp_ : Nat → PyData → Prop
  | n + 1, .tuple ds => ∃ d, ds.getLast? = some d ∧ (∀ x ∈ ds, ht n x ≤ ht n d) ∧ Sp_ n d
  | _, _ => True
theorem lv_ht : ∀ (n : Nat) (d : PyData), Sp_ n d → lv n d = ht n d
  | 0, d, _ => by cases d <;> rfl
  | n + 1, .tuple ds, h => by
    obtain ⟨d, e, h1, h2⟩ := h
    show (match ds.getLast? with | some d => 1 + lv n d | none => 1) = 1 + maxI _
    rw [e]
    have m : d ∈ ds := List.mem_of_getLast? e
    rw [maxI_eq (List.mem_map.mpr ⟨d, m, rfl⟩) (fun x hx => by obtain ⟨y, _, rfl⟩ := List.mem_map.mp hx; exact ht_nonneg n y) (fun x hx => by obtain ⟨y, hy, rfl⟩ := List.mem_map.mp hx; exact h1 y hy), ← lv_ht n d h2]
  | n + 1, .none, _ => rfl
  | n + 1, .bool _, _ => rfl
  | n + 1, .int _, _ => rfl
  | n + 1, .str _, _ => rfl
  | n + 1, .list _, _ => rfl
  | n + 1, .dict _, _ => rfl
theorem sz_bd : ∀ (n : Nat) (d : PyData), Fm n d → 1 ≤ sz n d ∧ sz n d ≤ 2101 ^ n
  | 0, d, h => by obtain ⟨i, rfl⟩ := h; exact ⟨Int.le_refl 1, Int.le_refl 1⟩
  | n + 1, d, h => by
    rcases h with ⟨i, rfl⟩ | ⟨ds, rfl, l, h⟩
    · rw [sz_int]
      refine ⟨by omega, ?_⟩
      have := Int.pow_pos (n := 2101) (m := n + 1) (by decide)
      omega
    · have key : ∀ l : List PyData, (∀ x ∈ l, Fm n x) → 0 ≤ (l.map (sz n)).sum ∧ (l.map (sz n)).sum ≤ l.length * 2101 ^ n := by
        intro l
        induction l with
        | nil => intro _; simp
        | cons x xs ih =>
          intro hl
          have a := ih fun y hy => hl y (List.mem_cons_of_mem _ hy)
          have b := sz_bd n x (hl x List.mem_cons_self)
          simp only [List.map_cons, List.sum_cons, List.length_cons]
          push_cast
          rw [Int.add_mul]
          omega
      have a := key ds h
      have c := Int.pow_pos (n := 2101) (m := n) (by decide)
      have e : (ds.length : Int) * 2101 ^ n ≤ 2100 * 2101 ^ n := Int.mul_le_mul_of_nonneg_right (by omega) (by omega)
      show 1 ≤ 1 + _ ∧ 1 + _ ≤ _
      rw [Int.pow_succ]
      omega
end Fb
namespace Fb
open PySem L2
/-! ### tuples stand -/
def Td (H H' : Hp) : Prop := ∀ a xs, Rd H a (.tup xs) → Rd H' a (.tup xs)
theorem Td.of {H H' : Hp} (e : Nd H H') : Td H H' := fun a xs h => by
  rcases h with h | ⟨o, h⟩
  · exact .inl (e.k _ _ h fun _ z => nomatch z)
  · exact .inr ⟨o, e.k _ _ h fun _ z => nomatch z⟩
theorem Td.trans {H H1 H2 : Hp} (a : Td H H1) (b : Td H1 H2) : Td H H2 := fun x xs h => b x xs (a x xs h)
theorem Td.lst {H : Hp} {p : Addr} {ys : List V} {o : HO} (h : H p = some (.lst ys)) : Td H (upd H p o) := fun a xs k => by
  rcases k with k | ⟨u, k⟩
  · exact .inl (by rw [upd_ne (by rintro rfl; rw [h] at k; cases k)]; exact k)
  · exact .inr ⟨u, by rw [upd_ne (by rintro rfl; rw [h] at k; cases k)]; exact k⟩
theorem Td.sqt {K : PySem.W.Frag} {H H' : Hp} {a : Addr} {xs : List V} (e : Td H H') (h : SqT K H a xs) : SqT K H' a xs := by
  rcases h with h | h
  · exact .inl (e _ _ h)
  · exact .inr h
theorem Td.dp {K : PySem.W.Frag} {H H' : Hp} (e : Td H H') : ∀ (n : Nat) (d : PyData) (v : V), Fm n d → Dp K H v d → Dp K H' v d := by
  intro n
  induction n with
  | zero => rintro d v ⟨i, rfl⟩ h; cases h; exact .int i
  | succ n ih =>
    intro d v hf h
    rcases hf with ⟨i, rfl⟩ | ⟨ds, rfl, _, hf⟩
    · cases h; exact .int i
    · cases h with
      | @tup a xs _ hs ha =>
        have key : ∀ (es : List PyData) (xs : List V), (∀ x ∈ es, Fm n x) → DpAll K H xs es → DpAll K H' xs es := by
          intro es
          induction es with
          | nil => intro xs _ h; cases h; exact .nil
          | cons y ys ihy =>
            intro xs hx h
            cases h with
            | cons h1 h2 => exact .cons (ih y _ (hx y List.mem_cons_self) h1) (ihy _ (fun z hz => hx z (List.mem_cons_of_mem _ hz)) h2)
        exact .tup (e.sqt hs) (key ds xs hf ha)
theorem Td.d {K : PySem.W.Frag} {H H' : Hp} {n : Nat} {d : PyData} {v : V} (e : Td H H') (hf : Fm n d) (h : Dp K H v d) : Dp K H' v d := e.dp n d v hf h
theorem Td.ds {K : PySem.W.Frag} {H H' : Hp} {n : Nat} (e : Td H H') : ∀ {es : List PyData} {xs : List V}, (∀ x ∈ es, Fm n x) → DpAll K H xs es → DpAll K H' xs es
  | [], _, _, h => by cases h; exact .nil
  | y :: ys, _, hx, h => by
    cases h with
    | cons h1 h2 => exact .cons (e.d (hx y List.mem_cons_self) h1) (e.ds (fun z hz => hx z (List.mem_cons_of_mem _ hz)) h2)
theorem fm_bool {n : Nat} {b : Bool} (h : Fm n (.bool b)) : False := by
  cases n with
  | zero => obtain ⟨i, h⟩ := h; cases h
  | succ n => rcases h with ⟨i, h⟩ | ⟨ts, h, _⟩ <;> cases h
/-! ### ints of turns, forms as data -/
def InB (x : Int) : Prop := -(2 ^ 5000) ≤ x ∧ x < 2 ^ 5000
theorem InB.of {x : Int} {n : Nat} (h0 : -(2 ^ n) ≤ x) (h1 : x < 2 ^ n) (hn : n ≤ 5000) : InB x := by
  have h : (2 : Int) ^ n ≤ 2 ^ 5000 := by
    have h' : ((2 ^ n : Nat) : Int) ≤ ((2 ^ 5000 : Nat) : Int) := Int.ofNat_le.mpr (Nat.pow_le_pow_right (by decide) hn)
    rw [Int.natCast_pow, Int.natCast_pow] at h'
    exact h'
  unfold InB
  generalize (2 : Int) ^ 5000 = B at h ⊢
  omega
def nI (ns : List Nat) : List V := ns.map fun (n : Nat) => V.int (n : Int)
def nD (ns : List Nat) : List PyData := ns.map fun (n : Nat) => PyData.int (n : Int)
theorem dps_n {K : PySem.W.Frag} {H : Hp} : ∀ (ns : List Nat), DpAll K H (nI ns) (nD ns)
  | [] => .nil
  | n :: ns => .cons (.int n) (dps_n ns)
theorem dps_n_inv {K : PySem.W.Frag} {H : Hp} : ∀ {ns : List Nat} {vs : List V}, DpAll K H vs (nD ns) → vs = nI ns
  | [], _, h => by cases h; rfl
  | n :: ns, _, h => by
    cases h with
    | cons h1 h2 =>
      cases h1
      rw [dps_n_inv h2]
      rfl
def plain (x : Int) : Prop := -(2 ^ 64) ≤ x ∧ x < 2 ^ 64
instance (x : Int) : Decidable (plain x) := by unfold plain; infer_instance
def formD (x : Int) : PyData := if plain x then .int x else .tuple (nD (turnsN x))
def natOf : PyData → Nat
  | .int i => i.toNat
  | _ => 0
theorem natOf_nD (ns : List Nat) : (nD ns).map natOf = ns := by
  unfold nD
  rw [List.map_map]
  conv => rhs; rw [← List.map_id ns]
  exact List.map_congr_left fun n _ => rfl
def isNear : PyData → Bool
  | .int i => decide (i ≤ 64)
  | _ => false
/-- the form of a row of places -/
def rowD (ds : List PyData) : PyData := match ds.getLast? with
  | none => .int 0
  | some d => if isNear d = true then .int (alt (-1) (ds.map natOf)) else .tuple ds
/-- where the last place is near, all are small ints -/
def RowC (ds : List PyData) : Prop := ∀ d, ds.getLast? = some d → isNear d = true → ∃ ns : List Nat, ds = nD ns ∧ ∀ n ∈ ns, n ≤ 64
theorem rowD_near {ns : List Nat} {d : PyData} (h : (nD ns).getLast? = some d) (h2 : isNear d = true) : rowD (nD ns) = .int (alt (-1) ns) := by
  unfold rowD
  rw [h]
  show (if isNear d = true then _ else _) = _
  rw [if_pos h2, natOf_nD]
theorem rowD_far {ds : List PyData} {d : PyData} (h : ds.getLast? = some d) (h2 : isNear d = false) : rowD ds = .tuple ds := by
  unfold rowD
  rw [h]
  show (if isNear d = true then _ else _) = _
  rw [h2, if_neg Bool.false_ne_true]
theorem Fm.lay : ∀ {n : Nat} {d : PyData}, Fm n d → d.canLay0 = true ∧ d.depth ≤ n := by
  intro n
  induction n with
  | zero => rintro d ⟨i, rfl⟩; exact ⟨by rw [PyData.canLay0], by rw [PyData.depth] <;> first | exact Nat.le_refl _ | simp⟩
  | succ n ih =>
    intro d h
    rcases h with ⟨i, rfl⟩ | ⟨ds, rfl, _, h⟩
    · exact ⟨by rw [PyData.canLay0], by rw [PyData.depth] <;> first | exact Nat.zero_le _ | simp⟩
    · have key : ∀ l : List PyData, (∀ x ∈ l, Fm n x) → PyData.canLayAll0 l = true ∧ PyData.depthAll l ≤ n := by
        intro l
        induction l with
        | nil => intro _; exact ⟨by rw [PyData.canLayAll0], by rw [PyData.depthAll]; exact Nat.zero_le _⟩
        | cons x xs ihl =>
          intro hl
          obtain ⟨a1, a2⟩ := ih (hl x List.mem_cons_self)
          obtain ⟨b1, b2⟩ := ihl fun y hy => hl y (List.mem_cons_of_mem _ hy)
          refine ⟨by rw [PyData.canLayAll0, a1, b1]; rfl, ?_⟩
          rw [PyData.depthAll]
          exact Nat.max_le.mpr ⟨a2, b2⟩
      obtain ⟨a, b⟩ := key ds h
      exact ⟨by rw [PyData.canLay0]; exact a, by rw [PyData.depth]; omega⟩
theorem shaped_list {n : Nat} {ds : List PyData} (hn : n ≤ 40) (h : ∀ x ∈ ds, Fm n x) : SeqAt.shaped (.list ds) = true := by
  have key : ∀ l : List PyData, (∀ x ∈ l, Fm n x) → PyData.canLayAll0 l = true ∧ PyData.depthAll l ≤ n := by
    intro l
    induction l with
    | nil => intro _; exact ⟨by rw [PyData.canLayAll0], by rw [PyData.depthAll]; exact Nat.zero_le _⟩
    | cons x xs ihl =>
      intro hl
      obtain ⟨a1, a2⟩ := (hl x List.mem_cons_self).lay
      obtain ⟨b1, b2⟩ := ihl fun y hy => hl y (List.mem_cons_of_mem _ hy)
      refine ⟨by rw [PyData.canLayAll0, a1, b1]; rfl, ?_⟩
      rw [PyData.depthAll]
      exact Nat.max_le.mpr ⟨a2, b2⟩
  obtain ⟨a, b⟩ := key ds h
  unfold SeqAt.shaped
  rw [PyData.canLay0, a, PyData.depth]
  simp
  omega
theorem shaped_nil : SeqAt.shaped (.list []) = true := shaped_list (n := 0) (by decide) (fun x h => by cases h)
theorem eqv_nil (ds : List PyData) : PyData.eqv (.list ds) (.list []) = ds.isEmpty := by
  rw [PyData.eqv]
  cases ds with
  | nil => rw [PyData.eqvAll]; rfl
  | cons _ _ => rw [PyData.eqvAll]; rfl
/-! ### fields: where the groups of bits lie -/
def F2 (low g : Int) (f : PyData) : Prop := (∃ d, 0 ≤ d ∧ d < 90 ∧ f = .tuple [.int low, .int (low + 1 + d)]) ∨
  ∃ d, 0 ≤ d ∧ d < 10 ^ 9 ∧ f = .tuple [.int low, .int (low + 7), .int (low + 9 + g), .int (low + 11 + 2 * g + d)]
def F3 (g : Int) (f2 f3 : PyData) : Prop := f3 = .tuple [.int g, f2] ∨ (∃ e ts, 0 ≤ e ∧ e < 60 ∧ f2 = .tuple ts ∧ f3 = .tuple [f2, .tuple (.int (e + 1) :: .int 64 :: ts)]) ∨
  f3 = .tuple [.int g, .int (g + 1), f2, .tuple [.int g, f2]]
structure Fields (fs : List PyData) : Prop where
  ex : ∃ (a low g : Int) (f2 f3 : PyData), fs = [.int 0, .int a, f2, f3] ∧ 130 ≤ a ∧ a < 2 ^ 64 ∧ 200 ≤ low ∧ low < 260 ∧ 150 ≤ g ∧ g < 190 ∧ F2 low g f2 ∧ F3 g f2 f3
def placeD (fs : List PyData) (p : Nat) : PyData := match fs[p / 200]? with
  | some (.int a) => formD (a + ((p % 200 : Nat) : Int))
  | some (.tuple ts) => .tuple (nD (turnsN ((p % 200 : Nat) : Int)) ++ ts)
  | _ => .none
def movedD (fs : List PyData) (c : Int) : PyData := rowD ((turnsN c).map (placeD fs))
end Fb
namespace Fb
/-! ### primes, and the rests of the powers of two -/
structure Pr (p : Nat) : Prop where
  two : 2 ≤ p
  irr : ∀ m, m ∣ p → m = 1 ∨ m = p
theorem Pr.coprime {p a : Nat} (h : Pr p) (n : ¬ p ∣ a) : Nat.Coprime p a := by
  rcases h.irr _ (Nat.gcd_dvd_left p a) with e | e
  · exact e
  · exact absurd (e ▸ Nat.gcd_dvd_right p a) n
theorem Pr.dvd_mul {p a b : Nat} (h : Pr p) (d : p ∣ a * b) : p ∣ a ∨ p ∣ b := by
  by_cases n : p ∣ a
  · exact .inl n
  · exact .inr ((h.coprime n).dvd_of_dvd_mul_left d)
/-- every number above 1 has a prime divisor -/
theorem prime_dvd (n : Nat) (h : 2 ≤ n) : ∃ p, Pr p ∧ p ∣ n := by
  induction n using Nat.strongRecOn with
  | _ n ih =>
    by_cases e : ∃ m, m ∣ n ∧ m ≠ 1 ∧ m ≠ n
    · obtain ⟨m, d, n1, n2⟩ := e
      have hm : m ≤ n := Nat.le_of_dvd (by omega) d
      have h0 : m ≠ 0 := by rintro rfl; have := Nat.eq_zero_of_zero_dvd d; omega
      obtain ⟨p, hp, dp⟩ := ih m (by omega) (by omega)
      exact ⟨p, hp, Nat.dvd_trans dp d⟩
    · exact ⟨n, ⟨h, fun m d => by
        by_cases q : m = 1
        · exact .inl q
        · by_cases q2 : m = n
          · exact .inr q2
          · exact absurd ⟨m, d, q, q2⟩ e⟩, Nat.dvd_refl n⟩
/-- choose, by Pascal's rows -/
def ch : Nat → Nat → Nat
  | _, 0 => 1
  | 0, _ + 1 => 0
  | n + 1, k + 1 => ch n k + ch n (k + 1)
theorem ch_zero (n : Nat) : ch n 0 = 1 := by cases n <;> rfl
theorem ch_big : ∀ (n k : Nat), n < k → ch n k = 0
  | _, 0, h => absurd h (by omega)
  | 0, _ + 1, _ => rfl
  | n + 1, k + 1, h => by rw [ch, ch_big n k (by omega), ch_big n (k + 1) (by omega)]
theorem ch_self : ∀ n, ch n n = 1
  | 0 => rfl
  | n + 1 => by rw [ch, ch_self n, ch_big n (n + 1) (by omega)]
/-- k * (n over k) = n * (n - 1 over k - 1) -/
theorem ch_mul : ∀ (n k : Nat), (k + 1) * ch (n + 1) (k + 1) = (n + 1) * ch n k
  | 0, 0 => rfl
  | 0, k + 1 => by rw [ch_big 1 (k + 1 + 1) (by omega), ch_big 0 (k + 1) (by omega)]; simp
  | n + 1, 0 => by
    have h := ch_mul n 0
    rw [ch_zero] at h ⊢
    have e : ch (n + 1 + 1) (0 + 1) = ch (n + 1) 0 + ch (n + 1) (0 + 1) := rfl
    rw [ch_zero] at e
    omega
  | n + 1, k + 1 => by
    have h1 := ch_mul n k
    have h2 := ch_mul n (k + 1)
    rw [show ch (n + 1 + 1) (k + 1 + 1) = ch (n + 1) (k + 1) + ch (n + 1) (k + 1 + 1) from rfl]
    have e : ch (n + 1) (k + 1) = ch n k + ch n (k + 1) := rfl
    have : (k + 1 + 1) * (ch (n + 1) (k + 1) + ch (n + 1) (k + 1 + 1)) = (k + 1) * ch (n + 1) (k + 1) + ch (n + 1) (k + 1) + (k + 1 + 1) * ch (n + 1) (k + 1 + 1) := by
      rw [Nat.mul_add, Nat.succ_mul (k + 1) (ch (n + 1) (k + 1))]
    rw [this, h1, h2, e, Nat.add_mul (n + 1) 1, Nat.mul_add]
    omega
/-- the sum of the first places of a row -/
def chs (n : Nat) : Nat → Nat
  | 0 => 0
  | k + 1 => chs n k + ch n k
theorem chs_succ (n : Nat) : ∀ k, chs (n + 1) (k + 1) = chs n k + chs n (k + 1)
  | 0 => by simp [chs, ch_zero]
  | k + 1 => by
    have h := chs_succ n k
    rw [chs, h, ch]
    show _ = chs n k + ch n k + (chs n k + ch n k + ch n (k + 1))
    have : chs n (k + 1) = chs n k + ch n k := rfl
    omega
theorem chs_all : ∀ n, chs n (n + 1) = 2 ^ n
  | 0 => rfl
  | n + 1 => by
    rw [chs_succ, chs_all n]
    have e : chs n (n + 1 + 1) = chs n (n + 1) + ch n (n + 1) := rfl
    rw [e, chs_all n, ch_big n (n + 1) (by omega), Nat.pow_succ]; omega
theorem chs_mod {p : Nat} (h : Pr p) : ∀ k, k + 1 ≤ p → p ∣ chs p (k + 1) - 1 ∧ 1 ≤ chs p (k + 1)
  | 0, _ => by simp [chs, ch_zero]
  | k + 1, hk => by
    obtain ⟨a, b⟩ := chs_mod h k (by omega)
    have h2 := h.two
    obtain ⟨n, rfl⟩ : ∃ n, p = n + 1 := ⟨p - 1, by omega⟩
    have d : n + 1 ∣ ch (n + 1) (k + 1) := by
      have e := ch_mul n k
      have dd : n + 1 ∣ (k + 1) * ch (n + 1) (k + 1) := ⟨_, e⟩
      rcases h.dvd_mul dd with q | q
      · exact absurd (Nat.le_of_dvd (by omega) q) (by omega)
      · exact q
    have e : chs (n + 1) (k + 1 + 1) = chs (n + 1) (k + 1) + ch (n + 1) (k + 1) := rfl
    rw [e]
    exact ⟨by rw [show chs (n + 1) (k + 1) + ch (n + 1) (k + 1) - 1 = (chs (n + 1) (k + 1) - 1) + ch (n + 1) (k + 1) by omega]; exact Nat.dvd_add a d, by omega⟩
/-- Fermat, for 2 -/
theorem fermat2 {p : Nat} (h : Pr p) (odd : p ≠ 2) : p ∣ 2 ^ (p - 1) - 1 := by
  have h2 := h.two
  obtain ⟨a, b⟩ := chs_mod h (p - 1) (by omega)
  have e : chs p (p + 1) = chs p p + ch p p := rfl
  rw [chs_all, ch_self] at e
  rw [show p - 1 + 1 = p by omega] at a b
  have d : p ∣ 2 * (2 ^ (p - 1) - 1) := by
    have e2 : (2 : Nat) ^ p = 2 * 2 ^ (p - 1) := by
      obtain ⟨q, rfl⟩ : ∃ q, p = q + 1 := ⟨p - 1, by omega⟩
      rw [Nat.pow_succ, Nat.add_sub_cancel]; omega
    rw [Nat.mul_sub, ← e2, show 2 ^ p - 2 * 1 = chs p p - 1 by omega]
    exact a
  rcases h.dvd_mul d with q | q
  · have := Nat.le_of_dvd (by omega) q
    omega
  · exact q
/-- x is 1 by m -/
def One (m x : Nat) : Prop := x % m = 1 % m
theorem one_iff {m x : Nat} (hx : 1 ≤ x) : One m x ↔ m ∣ x - 1 := by
  constructor
  · intro h
    exact Nat.dvd_of_mod_eq_zero (Nat.sub_mod_eq_zero_of_mod_eq h)
  · rintro ⟨c, h⟩
    unfold One
    rw [show x = m * c + 1 by omega, Nat.mul_add_mod]
theorem One.pow {m x : Nat} (h : One m x) (k : Nat) : One m (x ^ k) := by
  unfold One at *
  rw [Nat.pow_mod, h, ← Nat.pow_mod, Nat.one_pow]
theorem One.of_dvd {m a b : Nat} (h : One m (2 ^ a)) (d : a ∣ b) : One m (2 ^ b) := by
  obtain ⟨c, rfl⟩ := d
  rw [Nat.pow_mul]; exact h.pow c
/-- from a power of a prime to the next -/
theorem lift_one {p : Nat} (hp : 2 ≤ p) {k x : Nat} (hx : 1 ≤ x) (h : p ^ (k + 1) ∣ x - 1) : p ^ (k + 2) ∣ x ^ p - 1 := by
  -- x ^ p - 1 = (x - 1) * (1 + x + .. ), the latter a multiple of p
  have geo : ∀ n, x ^ n - 1 = (x - 1) * ((List.range n).map (x ^ ·)).sum := by
    intro n
    induction n with
    | zero => simp
    | succ n ih =>
      rw [List.range_succ, List.map_append, List.sum_append, Nat.mul_add, ← ih]
      have h1 : 1 ≤ x ^ n := Nat.one_le_pow _ _ hx
      simp only [List.map_cons, List.map_nil, List.sum_cons, List.sum_nil, Nat.add_zero]
      rw [Nat.sub_mul, Nat.one_mul, Nat.pow_succ, Nat.mul_comm (x ^ n) x]
      have : x ^ n ≤ x * x ^ n := Nat.le_mul_of_pos_left _ hx
      omega
  have hm : ∀ n, p ∣ ((List.range n).map (x ^ ·)).sum - n ∧ n ≤ ((List.range n).map (x ^ ·)).sum := by
    intro n
    have dp : p ∣ x - 1 := Nat.dvd_trans ⟨p ^ k, by rw [Nat.pow_succ, Nat.mul_comm]⟩ h
    induction n with
    | zero => simp
    | succ n ih =>
      rw [List.range_succ, List.map_append, List.sum_append]
      simp only [List.map_cons, List.map_nil, List.sum_cons, List.sum_nil, Nat.add_zero]
      have h1 : 1 ≤ x ^ n := Nat.one_le_pow _ _ hx
      have d1 : p ∣ x ^ n - 1 := (one_iff h1).mp (((one_iff hx).mpr dp).pow n)
      obtain ⟨a, b⟩ := ih
      exact ⟨by rw [show ∀ s : Nat, n ≤ s → s + x ^ n - (n + 1) = (s - n) + (x ^ n - 1) from fun s hs => by omega]; exact Nat.dvd_add a d1; exact b, by omega⟩
  obtain ⟨a, b⟩ := hm p
  have d : p ∣ ((List.range p).map (x ^ ·)).sum := by
    have := Nat.dvd_add a (Nat.dvd_refl p)
    rwa [Nat.sub_add_cancel b] at this
  rw [geo p, show k + 2 = (k + 1) + 1 from rfl, Nat.pow_succ p (k + 1)]
  exact Nat.mul_dvd_mul h d
/-- Euler, for 2 and the power of an odd prime -/
theorem euler_pow {p : Nat} (h : Pr p) (odd : p ≠ 2) : ∀ k, One (p ^ (k + 1)) (2 ^ ((p - 1) * p ^ k))
  | 0 => by
    rw [Nat.pow_zero, Nat.mul_one, Nat.zero_add, Nat.pow_one]
    exact (one_iff (Nat.one_le_pow _ _ (by decide))).mpr (fermat2 h odd)
  | k + 1 => by
    have ih := (one_iff (Nat.one_le_pow _ _ (by decide))).mp (euler_pow h odd k)
    rw [Nat.pow_succ p k, ← Nat.mul_assoc, Nat.pow_mul]
    exact (one_iff (Nat.one_le_pow _ _ (Nat.one_le_pow _ _ (by decide)))).mpr (lift_one h.two (Nat.one_le_pow _ _ (by decide)) ih)
/-- a number is p ^ k * m, p no divisor of m -/
theorem split_pow {p : Nat} (h : Pr p) (n : Nat) (hn : 1 ≤ n) : ∃ k m, n = p ^ k * m ∧ ¬ p ∣ m := by
  induction n using Nat.strongRecOn with
  | _ n ih =>
    by_cases d : p ∣ n
    · obtain ⟨c, rfl⟩ := d
      have h2 := h.two
      have hc : 1 ≤ c := by rcases c with _ | c; · simp at hn
                            · omega
      have : c < p * c := by
        have := Nat.mul_le_mul_right c h2
        omega
      obtain ⟨k, m, e, nd⟩ := ih c this hc
      exact ⟨k + 1, m, by rw [Nat.pow_succ, Nat.mul_comm (p ^ k) p, Nat.mul_assoc, ← e], nd⟩
    · exact ⟨0, n, by simp, d⟩
/-- what all powers of primes in n divide, n divides -/
theorem dvd_of_pows (n x : Nat) (hn : 1 ≤ n) (h : ∀ p k, Pr p → p ^ (k + 1) ∣ n → p ^ (k + 1) ∣ x) : n ∣ x := by
  induction n using Nat.strongRecOn with
  | _ n ih =>
    by_cases e : n = 1
    · subst e; exact Nat.one_dvd x
    · obtain ⟨p, hp, dp⟩ := prime_dvd n (by omega)
      obtain ⟨k, m, rfl, nd⟩ := split_pow hp n hn
      have h2 := hp.two
      obtain ⟨j, rfl⟩ : ∃ j, k = j + 1 := by
        rcases k with _ | j
        · rw [Nat.pow_zero, Nat.one_mul] at dp; exact absurd dp nd
        · exact ⟨j, rfl⟩
      have hm : 1 ≤ m := by
        rcases m with _ | m
        · simp at hn
        · omega
      have lt : m < p ^ (j + 1) * m := by
        have : 2 ≤ p ^ (j + 1) := Nat.le_trans h2 (by rw [Nat.pow_succ]; exact Nat.le_mul_of_pos_left _ (Nat.pow_pos (by omega)))
        have := Nat.mul_le_mul_right m this
        omega
      have d1 : m ∣ x := ih m lt hm fun q i hq hd => h q i hq (Nat.dvd_trans hd ⟨_, Nat.mul_comm _ _⟩)
      have d2 : p ^ (j + 1) ∣ x := h p j hp ⟨_, rfl⟩
      have co : Nat.Coprime (p ^ (j + 1)) m := Nat.Coprime.pow_left _ (hp.coprime nd)
      exact co.mul_dvd_of_dvd_of_dvd d2 d1
/-- the primes of a number -/
structure Primes (n : Nat) (ps : List Nat) : Prop where
  pr : ∀ p ∈ ps, Pr p ∧ p ∣ n
  nd : ps.Nodup
  all : ∀ p, Pr p → p ∣ n → p ∈ ps
/-- the program's count of the coprimes -/
def phiF : List Nat → Nat → Nat
  | [], a => a
  | p :: ps, a => phiF ps (a / p * (p - 1))
def prodL : List Nat → Nat
  | [] => 1
  | p :: ps => p * prodL ps
def predL : List Nat → Nat
  | [] => 1
  | p :: ps => (p - 1) * predL ps
theorem phiF_mul : ∀ (ps : List Nat) (c : Nat), (∀ p ∈ ps, 1 ≤ p) → phiF ps (prodL ps * c) = c * predL ps
  | [], c, _ => by simp [phiF, prodL, predL]
  | p :: ps, c, h => by
    have hp := h p (List.mem_cons_self ..)
    show phiF ps (p * prodL ps * c / p * (p - 1)) = c * ((p - 1) * predL ps)
    rw [Nat.mul_assoc p, Nat.mul_div_cancel_left _ (by omega), Nat.mul_assoc, phiF_mul ps (c * (p - 1)) fun q hq => h q (List.mem_cons_of_mem _ hq), Nat.mul_assoc]
theorem prodL_dvd : ∀ (ps : List Nat) (n : Nat), (∀ p ∈ ps, Pr p ∧ p ∣ n) → ps.Nodup → prodL ps ∣ n
  | [], n, _, _ => Nat.one_dvd n
  | p :: ps, n, h, nd => by
    have hp := h p (List.mem_cons_self ..)
    rw [List.nodup_cons] at nd
    have co : Nat.Coprime p (prodL ps) := hp.1.coprime fun d => by
      have : ∀ qs : List Nat, (∀ q ∈ qs, Pr q) → p ∣ prodL qs → p ∈ qs := by
        intro qs
        induction qs with
        | nil => intro _ d; have := Nat.le_of_dvd (by decide) d; have := hp.1.two; have : prodL [] = 1 := rfl; omega
        | cons q qs ih =>
          intro hq d
          rcases hp.1.dvd_mul (show p ∣ q * prodL qs from d) with e | e
          · have := hp.1.two
            rcases (hq q (List.mem_cons_self ..)).irr p e with z | z
            · omega
            · rw [z]; exact List.mem_cons_self ..
          · exact List.mem_cons_of_mem _ (ih (fun r hr => hq r (List.mem_cons_of_mem _ hr)) e)
      exact nd.1 (this ps (fun q hq => (h q (List.mem_cons_of_mem _ hq)).1) d)
    exact co.mul_dvd_of_dvd_of_dvd hp.2 (prodL_dvd ps n (fun q hq => h q (List.mem_cons_of_mem _ hq)) nd.2)
theorem predL_dvd : ∀ (ps : List Nat) (p : Nat), p ∈ ps → p - 1 ∣ predL ps
  | q :: ps, p, h => by
    rcases List.mem_cons.mp h with e | e
    · subst e; exact ⟨_, rfl⟩
    · exact Nat.dvd_trans (predL_dvd ps p e) ⟨_, Nat.mul_comm _ _⟩
theorem predL_pos : ∀ (ps : List Nat), (∀ p ∈ ps, 2 ≤ p) → 1 ≤ predL ps
  | [], _ => Nat.le_refl 1
  | p :: ps, h => Nat.mul_pos (by have := h p (List.mem_cons_self ..); omega) (predL_pos ps fun q hq => h q (List.mem_cons_of_mem _ hq))
theorem predL_le : ∀ (ps : List Nat), predL ps ≤ prodL ps
  | [] => Nat.le_refl 1
  | p :: ps => Nat.mul_le_mul (by omega) (predL_le ps)
theorem predL_lt : ∀ (ps : List Nat), (∀ p ∈ ps, 2 ≤ p) → ps ≠ [] → predL ps < prodL ps
  | p :: ps, h, _ => by
    have hp := h p (List.mem_cons_self ..)
    have h1 := predL_pos ps fun q hq => h q (List.mem_cons_of_mem _ hq)
    have h2 := predL_le ps
    show (p - 1) * predL ps < p * prodL ps
    have : (p - 1) * predL ps ≤ (p - 1) * prodL ps := Nat.mul_le_mul_left _ h2
    have e : p * prodL ps = (p - 1) * prodL ps + prodL ps := by
      obtain ⟨q, rfl⟩ : ∃ q, p = q + 1 := ⟨p - 1, by omega⟩
      rw [Nat.succ_mul]; rfl
    omega
theorem pow_of_prod {p : Nat} (h : Pr p) : ∀ (ps : List Nat) (k c : Nat), (∀ q ∈ ps, Pr q) → ps.Nodup → p ^ (k + 1) ∣ prodL ps * c → p ^ k ∣ c
  | [], k, c, _, _, d => Nat.dvd_trans ⟨p, Nat.pow_succ ..⟩ (by rw [show prodL [] = 1 from rfl, Nat.one_mul] at d; exact d)
  | q :: ps, k, c, hq, nd, d => by
    rw [List.nodup_cons] at nd
    by_cases e : q = p
    · subst e
      -- the other primes are coprime to it
      have d1 : q ^ k ∣ prodL ps * c := by
        rw [show prodL (q :: ps) * c = q * (prodL ps * c) from Nat.mul_assoc .., Nat.pow_succ, Nat.mul_comm] at d
        exact Nat.dvd_of_mul_dvd_mul_left (by have := h.two; omega) d
      have co : ∀ qs : List Nat, (∀ r ∈ qs, Pr r) → q ∉ qs → Nat.Coprime q (prodL qs) := by
        intro qs
        induction qs with
        | nil => intro _ _; exact Nat.coprime_one_right q
        | cons r qs ih =>
          intro hr hn
          refine Nat.Coprime.mul_right ?_ (ih (fun s hs => hr s (List.mem_cons_of_mem _ hs)) fun z => hn (List.mem_cons_of_mem _ z))
          refine h.coprime fun z => ?_
          have := h.two
          rcases (hr r (List.mem_cons_self ..)).irr q z with y | y
          · omega
          · exact hn (y ▸ List.mem_cons_self ..)
      exact (Nat.Coprime.pow_left k (co ps (fun r hr => hq r (List.mem_cons_of_mem _ hr)) nd.1)).dvd_of_dvd_mul_left d1
    · have cop : Nat.Coprime p q := h.coprime fun z => by
        have := h.two
        rcases (hq q (List.mem_cons_self ..)).irr p z with y | y
        · omega
        · exact e y.symm
      rw [show prodL (q :: ps) * c = q * (prodL ps * c) from Nat.mul_assoc ..] at d
      exact pow_of_prod h ps k c (fun r hr => hq r (List.mem_cons_of_mem _ hr)) nd.2 ((Nat.Coprime.pow_left (k + 1) cop).dvd_of_dvd_mul_left d)
/-- Euler, for 2 and an odd number, by the program's count -/
theorem euler2 {n : Nat} {ps : List Nat} (h : Primes n ps) (hn : 1 ≤ n) (odd : n % 2 = 1) : One n (2 ^ phiF ps n) ∧ 1 ≤ phiF ps n ∧ phiF ps n ≤ n ∧ (1 < n → phiF ps n < n) := by
  obtain ⟨c, e⟩ := prodL_dvd ps n h.pr h.nd
  have two : ∀ p ∈ ps, 2 ≤ p := fun p hp => (h.pr p hp).1.two
  have hc : 1 ≤ c := by
    rcases c with _ | c
    · rw [Nat.mul_zero] at e; omega
    · omega
  have ev : phiF ps n = c * predL ps := by rw [e]; exact phiF_mul ps c fun p hp => by have := two p hp; omega
  refine ⟨?_, ?_, ?_, fun h1 => ?_⟩
  · refine (one_iff (Nat.one_le_pow _ _ (by decide))).mpr (dvd_of_pows n _ hn fun p k hp d => ?_)
    have dp : p ∣ n := Nat.dvd_trans ⟨p ^ k, by rw [Nat.pow_succ, Nat.mul_comm]⟩ d
    have hm := h.all p hp dp
    have p2 : p ≠ 2 := by rintro rfl; omega
    have d1 : p ^ k ∣ c := pow_of_prod hp ps k c (fun q hq => (h.pr q hq).1) h.nd (e ▸ d)
    have d2 : (p - 1) * p ^ k ∣ phiF ps n := by rw [ev, Nat.mul_comm c]; exact Nat.mul_dvd_mul (predL_dvd ps p hm) d1
    exact (one_iff (Nat.one_le_pow _ _ (by decide))).mp ((euler_pow hp p2 k).of_dvd d2)
  · rw [ev]; exact Nat.mul_pos hc (predL_pos ps two)
  · rw [ev, e, Nat.mul_comm c]; exact Nat.mul_le_mul_right c (predL_le ps)
  · have : ps ≠ [] := by
      rintro rfl
      obtain ⟨p, hp, dp⟩ := prime_dvd n (by omega)
      cases h.all p hp dp
    rw [ev, e, Nat.mul_comm c]
    exact Nat.mul_lt_mul_of_pos_right (predL_lt ps two this) hc
end Fb
namespace Fb
/-- trial division: ps are found, left is left, d is next -/
structure Trd (n : Nat) (ps : List Nat) (left d : Nat) : Prop where
  pos : 1 ≤ left
  dv : left ∣ n
  pr : ∀ p ∈ ps, (Pr p ∧ p ∣ n) ∧ ¬ p ∣ left ∧ p < d
  nd : ps.Nodup
  all : ∀ p, Pr p → p ∣ n → p ∈ ps ∨ p ∣ left
  low : ∀ p, Pr p → p ∣ left → d ≤ p
  two : 2 ≤ d
theorem Trd.start {n : Nat} (h : 1 ≤ n) : Trd n [] n 2 := ⟨h, Nat.dvd_refl n, fun _ h => (nomatch h), .nil, fun _ _ d => .inr d, fun _ h _ => h.two, Nat.le_refl 2⟩
theorem Trd.skip {n left d : Nat} {ps : List Nat} (h : Trd n ps left d) (nd : ¬ d ∣ left) : Trd n ps left (d + 1) :=
  ⟨h.pos, h.dv, fun p hp => ⟨(h.pr p hp).1, (h.pr p hp).2.1, by have := (h.pr p hp).2.2; omega⟩, h.nd, h.all, fun p hp dp => by
    have := h.low p hp dp
    by_cases e : p = d
    · subst e; exact absurd dp nd
    · omega, by have := h.two; omega⟩
theorem Trd.prime {n left d : Nat} {ps : List Nat} (h : Trd n ps left d) (dd : d ∣ left) : Pr d := by
  obtain ⟨p, hp, dp⟩ := prime_dvd d h.two
  have h1 := h.low p hp (Nat.dvd_trans dp dd)
  have h2 := Nat.le_of_dvd (by have := h.two; omega) dp
  rw [show d = p by omega]; exact hp
/-- what is left while d is divided out -/
structure Out (d l0 l : Nat) : Prop where
  pos : 1 ≤ l
  dv : l ∣ l0
  all : ∀ p, Pr p → p ∣ l0 → p = d ∨ p ∣ l
theorem Out.start {d l : Nat} (h : 1 ≤ l) : Out d l l := ⟨h, Nat.dvd_refl l, fun _ _ d => .inr d⟩
theorem Out.step {d l0 l : Nat} (h : Out d l0 l) (pd : Pr d) (dd : d ∣ l) : Out d l0 (l / d) := by
  obtain ⟨c, rfl⟩ := dd
  have h2 := pd.two
  rw [Nat.mul_div_cancel_left _ (by omega)]
  refine ⟨?_, Nat.dvd_trans ⟨d, Nat.mul_comm _ _⟩ h.dv, fun p hp dp => ?_⟩
  · have := h.pos
    rcases c with _ | c
    · rw [Nat.mul_zero] at this; omega
    · omega
  · rcases h.all p hp dp with e | e
    · exact .inl e
    · rcases hp.dvd_mul e with z | z
      · rcases pd.irr p z with y | y
        · have := hp.two; omega
        · exact .inl y
      · exact .inr z
theorem Out.lt {d l : Nat} (hd : 2 ≤ d) (hl : 1 ≤ l) : l / d < l := Nat.div_lt_self hl hd
theorem Trd.take {n left d l : Nat} {ps : List Nat} (h : Trd n ps left d) (dd : d ∣ left) (o : Out d left l) (nd : ¬ d ∣ l) : Trd n (ps ++ [d]) l (d + 1) := by
  have pd := h.prime dd
  refine ⟨o.pos, Nat.dvd_trans o.dv h.dv, fun p hp => ?_, ?_, fun p hp dp => ?_, fun p hp dp => ?_, by have := h.two; omega⟩
  · rcases List.mem_append.mp hp with e | e
    · have k := h.pr p e
      exact ⟨k.1, fun z => k.2.1 (Nat.dvd_trans z o.dv), by omega⟩
    · rcases List.mem_singleton.mp e with rfl
      exact ⟨⟨pd, Nat.dvd_trans dd h.dv⟩, nd, by omega⟩
  · rw [List.nodup_append]
    refine ⟨h.nd, by simp, fun a ha b hb => ?_⟩
    rcases List.mem_singleton.mp hb with rfl
    have := (h.pr a ha).2.2
    omega
  · rcases h.all p hp dp with e | e
    · exact .inl (List.mem_append_left _ e)
    · rcases o.all p hp e with z | z
      · exact .inl (List.mem_append_right _ (by rw [z]; exact List.mem_singleton.mpr rfl))
      · exact .inr z
  · have := h.low p hp (Nat.dvd_trans dp o.dv)
    by_cases e : p = d
    · subst e; exact absurd dp nd
    · omega
theorem Trd.end_one {n d : Nat} {ps : List Nat} (h : Trd n ps 1 d) : Primes n ps :=
  ⟨fun p hp => (h.pr p hp).1, h.nd, fun p hp dp => (h.all p hp dp).resolve_right fun z => by
    have := Nat.le_of_dvd (by decide) z
    have := hp.two
    omega⟩
theorem Trd.end_more {n left d : Nat} {ps : List Nat} (h : Trd n ps left d) (h1 : 1 < left) (hd : left < d * d) : Primes n (ps ++ [left]) := by
  have pl : Pr left := by
    obtain ⟨p, hp, dp⟩ := prime_dvd left h1
    have l1 := h.low p hp dp
    obtain ⟨c, e⟩ := dp
    by_cases hc : c = 1
    · rw [hc, Nat.mul_one] at e; rw [e]; exact hp
    · have c0 : c ≠ 0 := by rintro rfl; omega
      obtain ⟨q, hq, dq⟩ := prime_dvd c (by omega)
      have l2 := h.low q hq (Nat.dvd_trans dq ⟨p, by rw [e, Nat.mul_comm]⟩)
      have l3 := Nat.le_of_dvd (by omega) dq
      have : d * d ≤ p * c := Nat.mul_le_mul l1 (Nat.le_trans l2 l3)
      omega
  refine ⟨fun p hp => ?_, ?_, fun p hp dp => ?_⟩
  · rcases List.mem_append.mp hp with e | e
    · exact (h.pr p e).1
    · rcases List.mem_singleton.mp e with rfl
      exact ⟨pl, h.dv⟩
  · rw [List.nodup_append]
    refine ⟨h.nd, by simp, fun a ha b hb => ?_⟩
    rcases List.mem_singleton.mp hb with rfl
    rintro rfl
    exact (h.pr _ ha).2.1 (Nat.dvd_refl _)
  · rcases h.all p hp dp with e | e
    · exact List.mem_append_left _ e
    · rcases pl.irr p e with z | z
      · have := hp.two; omega
      · exact List.mem_append_right _ (by rw [z]; exact List.mem_singleton.mpr rfl)
/-- a period on the way down: qs are done -/
structure Per (n per0 : Nat) (qs : List Nat) (per : Nat) : Prop where
  pos : 1 ≤ per
  dv : per ∣ per0
  one : One n (2 ^ per)
  done : ∀ q ∈ qs, q ∣ per → ¬ One n (2 ^ (per / q))
theorem Per.div {n per0 per q : Nat} {qs : List Nat} (h : Per n per0 qs per) (hq : 2 ≤ q) (d : q ∣ per) (o : One n (2 ^ (per / q))) : Per n per0 qs (per / q) := by
  obtain ⟨c, rfl⟩ := d
  rw [Nat.mul_div_cancel_left _ (by omega)] at *
  have h1 := h.pos
  have hc : 1 ≤ c := by
    rcases c with _ | c
    · rw [Nat.mul_zero] at h1; omega
    · omega
  refine ⟨hc, Nat.dvd_trans ⟨q, Nat.mul_comm _ _⟩ h.dv, o, fun r hr dr z => ?_⟩
  have dr2 : r ∣ q * c := Nat.dvd_trans dr ⟨q, Nat.mul_comm _ _⟩
  refine h.done r hr dr2 (z.of_dvd ?_)
  obtain ⟨e, rfl⟩ := dr
  have r0 : 0 < r := by
    rcases r with _ | r
    · rw [Nat.zero_mul] at hc; omega
    · omega
  rw [Nat.mul_div_cancel_left _ r0, show q * (r * e) = r * (q * e) by rw [Nat.mul_left_comm], Nat.mul_div_cancel_left _ r0]
  exact ⟨q, Nat.mul_comm _ _⟩
theorem Per.next {n per0 per q : Nat} {qs : List Nat} (h : Per n per0 qs per) (nd : q ∣ per → ¬ One n (2 ^ (per / q))) : Per n per0 (qs ++ [q]) per :=
  ⟨h.pos, h.dv, h.one, fun r hr => by
    rcases List.mem_append.mp hr with e | e
    · exact h.done r e
    · rcases List.mem_singleton.mp e with rfl
      exact nd⟩
/-- the least period -/
structure Least (n per : Nat) : Prop where
  pos : 1 ≤ per
  one : One n (2 ^ per)
  done : ∀ q, Pr q → q ∣ per → ¬ One n (2 ^ (per / q))
theorem Per.least {n per0 per : Nat} {qs : List Nat} (h : Per n per0 qs per) (hq : Primes per0 qs) : Least n per :=
  ⟨h.pos, h.one, fun q pq dq => h.done q (hq.all q pq (Nat.dvd_trans dq h.dv)) dq⟩
/-- a number's part without twos -/
theorem shr_bit (e k : Nat) : e / 2 ^ k = 2 * (e / 2 ^ (k + 1)) + e / 2 ^ k % 2 := by
  rw [Nat.pow_succ, ← Nat.div_div_eq_div_mul]; omega
theorem pow_bit {e k m : Nat} : (2 ^ (e / 2 ^ (k + 1)) % m * (2 ^ (e / 2 ^ (k + 1)) % m)) % m = 2 ^ (2 * (e / 2 ^ (k + 1))) % m := by
  rw [← Nat.mul_mod, ← Nat.pow_add, Nat.two_mul]
theorem pow_bit0 {e k m : Nat} (h : e / 2 ^ k % 2 = 0) : 2 ^ (2 * (e / 2 ^ (k + 1))) % m = 2 ^ (e / 2 ^ k) % m := by
  rw [shr_bit e k, h]; rfl
theorem pow_bit1 {e k m : Nat} (h : e / 2 ^ k % 2 = 1) : (2 ^ (2 * (e / 2 ^ (k + 1))) % m * 2) % m = 2 ^ (e / 2 ^ k) % m := by
  rw [Nat.mod_mul_mod, shr_bit e k, h]
  exact congrArg (· % m) (Nat.pow_succ ..).symm
theorem fmod_nat (a b : Nat) : (a : Int).fmod (b : Int) = ((a % b : Nat) : Int) := by
  rw [Int.fmod_eq_emod_of_nonneg _ (by omega)]; rfl
theorem fdiv_nat (a b : Nat) : (a : Int).fdiv (b : Int) = ((a / b : Nat) : Int) := by
  rw [Int.fdiv_eq_ediv_of_nonneg _ (by omega)]; rfl
end Fb
namespace Fb
theorem one_sub {n a b : Nat} (odd : n % 2 = 1) (h : One n (2 ^ (a + b))) (ha : One n (2 ^ a)) : One n (2 ^ b) := by
  have p1 : 1 ≤ 2 ^ (a + b) := Nat.one_le_pow _ _ (by decide)
  have p2 : 1 ≤ 2 ^ a := Nat.one_le_pow _ _ (by decide)
  have p3 : 1 ≤ 2 ^ b := Nat.one_le_pow _ _ (by decide)
  have d1 := (one_iff p1).mp h
  have d2 := (one_iff p2).mp ha
  refine (one_iff p3).mpr ?_
  have d3 : n ∣ 2 ^ a * (2 ^ b - 1) := by
    have e : 2 ^ a * (2 ^ b - 1) = (2 ^ (a + b) - 1) - (2 ^ a - 1) := by
      rw [Nat.mul_sub, Nat.mul_one, ← Nat.pow_add]; omega
    rw [e]; exact Nat.dvd_sub d1 d2
  have co : Nat.Coprime n (2 ^ a) := Nat.Coprime.pow_right a (by
    show Nat.gcd n 2 = 1
    rw [Nat.gcd_comm, Nat.gcd_rec, odd]; decide)
  exact co.dvd_of_dvd_mul_left d3
theorem one_gcd {n : Nat} (odd : n % 2 = 1) : ∀ (s a b : Nat), a + b = s → One n (2 ^ a) → One n (2 ^ b) → One n (2 ^ Nat.gcd a b) := by
  intro s
  induction s using Nat.strongRecOn with
  | _ s ih =>
    intro a b e ha hb
    by_cases a0 : a = 0
    · subst a0; rw [Nat.gcd_zero_left]; exact hb
    · by_cases b0 : b = 0
      · subst b0; rw [Nat.gcd_zero_right]; exact ha
      · by_cases le : a ≤ b
        · obtain ⟨c, rfl⟩ := Nat.exists_eq_add_of_le le
          rw [show Nat.gcd a (a + c) = Nat.gcd a c by simp]
          exact ih (a + c) (by omega) a c rfl ha (one_sub odd hb ha)
        · obtain ⟨c, rfl⟩ := Nat.exists_eq_add_of_le (show b ≤ a by omega)
          rw [show Nat.gcd (b + c) b = Nat.gcd c b by simp]
          exact ih (c + b) (by omega) c b rfl (one_sub odd ha hb) hb
theorem Least.is_gcd {n a g : Nat} (h : Least n a) (d : g ∣ a) (o : One n (2 ^ g)) : a = g := by
  obtain ⟨c, rfl⟩ := d
  have hp := h.pos
  by_cases c1 : c = 1
  · rw [c1, Nat.mul_one]
  · have c0 : c ≠ 0 := by rintro rfl; simp at hp
    obtain ⟨q, hq, dq⟩ := prime_dvd c (by omega)
    have q2 := hq.two
    refine absurd ?_ (h.done q hq (Nat.dvd_trans dq ⟨g, Nat.mul_comm _ _⟩))
    obtain ⟨e, rfl⟩ := dq
    rw [show g * (q * e) = q * (g * e) by rw [Nat.mul_left_comm], Nat.mul_div_cancel_left _ (by omega)]
    exact o.of_dvd ⟨e, rfl⟩
theorem Least.uniq {n a b : Nat} (odd : n % 2 = 1) (ha : Least n a) (hb : Least n b) : a = b := by
  have o := one_gcd odd _ a b rfl ha.one hb.one
  exact (ha.is_gcd (Nat.gcd_dvd_left a b) o).trans (hb.is_gcd (Nat.gcd_dvd_right a b) o).symm
theorem odd_part {o1 o2 t1 t2 : Nat} (h1 : o1 % 2 = 1) (h2 : o2 % 2 = 1) (e : o1 * 2 ^ t1 = o2 * 2 ^ t2) : o1 = o2 ∧ t1 = t2 := by
  have key : ∀ {o1 o2 t1 t2 : Nat}, o1 % 2 = 1 → o2 % 2 = 1 → o1 * 2 ^ t1 = o2 * 2 ^ t2 → t1 ≤ t2 → t1 = t2 := by
    intro o1 o2 t1 t2 h1 h2 e le
    obtain ⟨c, rfl⟩ := Nat.exists_eq_add_of_le le
    rw [Nat.pow_add, Nat.mul_comm (2 ^ t1), ← Nat.mul_assoc] at e
    have e2 := Nat.eq_of_mul_eq_mul_right (Nat.two_pow_pos t1) e
    rcases c with _ | c
    · rfl
    · rw [Nat.pow_succ, ← Nat.mul_assoc] at e2; omega
  have et : t1 = t2 := by
    by_cases le : t1 ≤ t2
    · exact key h1 h2 e le
    · exact (key h2 h1 e.symm (by omega)).symm
  subst et
  exact ⟨Nat.eq_of_mul_eq_mul_right (Nat.two_pow_pos t1) e, rfl⟩
/-- a level -/
structure Lv where
  m : Nat
  two : Nat
  odd : Nat
  per : Nat
structure LvOk (m : Nat) (l : Lv) : Prop where
  em : l.m = m
  pos : 1 ≤ m
  le : m ≤ 1000000
  eq : m = l.odd * 2 ^ l.two
  od : l.odd % 2 = 1
  least : Least l.odd l.per
  ple : l.per ≤ l.odd
  plt : 1 < l.odd → l.per < l.odd
theorem LvOk.uniq {m : Nat} {l k : Lv} (h : LvOk m l) (g : LvOk m k) : l = k := by
  obtain ⟨e1, e2⟩ := odd_part h.od g.od (h.eq.symm.trans g.eq)
  have e3 : l.per = k.per := h.least.uniq h.od (e1 ▸ g.least)
  cases l; cases k
  have := h.em; have := g.em
  simp only at *
  subst e1 e2 e3
  simp only [Lv.mk.injEq]
  exact ⟨by omega, trivial, trivial, trivial⟩
theorem LvOk.odd_le {m : Nat} {l : Lv} (h : LvOk m l) : l.odd ≤ m := by
  rw [h.eq]; exact Nat.le_mul_of_pos_right _ (Nat.two_pow_pos _)
theorem LvOk.two_le {m : Nat} {l : Lv} (h : LvOk m l) : l.two ≤ 20 := by
  by_cases c : l.two ≤ 20
  · exact c
  · have h1 : 2 ^ 21 ≤ 2 ^ l.two := Nat.pow_le_pow_right (by decide) (by omega)
    have h2 : 2 ^ l.two ≤ l.odd * 2 ^ l.two := Nat.le_mul_of_pos_left _ (by have := h.od; omega)
    have h3 : (2 : Nat) ^ 21 = 2097152 := by decide
    have := h.eq; have := h.le
    omega
/-- from m by levels to the next modulus -/
def ChTo : Nat → List Lv → Nat → Prop
  | m, [], k => m = k
  | m, l :: ls, k => LvOk m l ∧ l.odd ≠ 1 ∧ ChTo l.per ls k
theorem ChTo.snoc : ∀ {m : Nat} {ls : List Lv} {k : Nat} {l : Lv}, ChTo m ls k → LvOk k l → l.odd ≠ 1 → ChTo m (ls ++ [l]) l.per
  | _, [], _, _, h, g, n => by cases h; exact ⟨g, n, rfl⟩
  | _, _ :: _, _, _, ⟨a, b, c⟩, g, n => ⟨a, b, c.snoc g n⟩
structure Chain (m : Nat) (L : List Lv) : Prop where
  ex : ∃ ls l k, L = ls ++ [l] ∧ ChTo m ls k ∧ LvOk k l ∧ l.odd = 1
theorem ChTo.uniq : ∀ {ls rs : List Lv} {m k j : Nat} {l r : Lv}, ChTo m ls k → LvOk k l → l.odd = 1 → ChTo m rs j → LvOk j r → r.odd = 1 → ls ++ [l] = rs ++ [r]
  | [], [], _, _, _, _, _, h, a, _, h', b, _ => by cases h; cases h'; rw [a.uniq b]
  | [], y :: rs, _, _, _, _, _, h, a, a1, ⟨b, n, _⟩, _, _ => by cases h; exact absurd (a.uniq b ▸ a1) n
  | x :: ls, [], _, _, _, _, _, ⟨b, n, _⟩, _, _, h, a, a1 => by cases h; exact absurd (a.uniq b ▸ a1) n
  | x :: ls, y :: rs, _, _, _, _, _, ⟨a, n, c⟩, g, g1, ⟨a', n', c'⟩, g', g1' => by
    have e := a.uniq a'
    subst e
    rw [List.cons_append, List.cons_append, c.uniq g g1 c' g' g1']
theorem Chain.uniq {m : Nat} {L M : List Lv} (h : Chain m L) (g : Chain m M) : L = M := by
  obtain ⟨ls, l, k, rfl, a, b, c⟩ := h.ex
  obtain ⟨rs, r, j, rfl, a', b', c'⟩ := g.ex
  exact a.uniq b c a' b' c'
theorem ChTo.all : ∀ {m : Nat} {ls : List Lv} {k : Nat}, ChTo m ls k → ∀ l ∈ ls, ∃ j, LvOk j l
  | _, x :: ls, _, ⟨a, _, c⟩, l, h => by
    rcases List.mem_cons.mp h with e | e
    · exact ⟨_, e ▸ a⟩
    · exact c.all l e
theorem Chain.all {m : Nat} {L : List Lv} (h : Chain m L) : ∀ l ∈ L, ∃ j, LvOk j l := by
  obtain ⟨ls, l, k, rfl, a, b, c⟩ := h.ex
  intro x hx
  rcases List.mem_append.mp hx with e | e
  · exact a.all x e
  · rcases List.mem_singleton.mp e with rfl; exact ⟨_, b⟩
/-- links: each level but the last has more, and leads to the next -/
theorem ChTo.link : ∀ {m : Nat} {ls : List Lv} {k : Nat} {l : Lv}, ChTo m ls k → LvOk k l → ((ls ++ [l])[0]?.map Lv.m = some m) ∧ ∀ i x y, (ls ++ [l])[i]? = some x → (ls ++ [l])[i + 1]? = some y → x.odd ≠ 1 ∧ y.m = x.per
  | _, [], _, _, h, g => by
    cases h
    exact ⟨congrArg some g.em, fun i x y _ hy => by rw [List.nil_append] at hy; exact absurd (List.getElem?_eq_some_iff.mp hy).1 (by simp)⟩
  | _, z :: ls, _, l, ⟨a, n, c⟩, g => by
    obtain ⟨h1, h2⟩ := c.link g
    refine ⟨congrArg some a.em, fun i x y hx hy => ?_⟩
    cases i with
    | zero =>
      rw [List.cons_append, List.getElem?_cons_succ] at hy
      cases hx
      rw [hy] at h1
      exact ⟨n, Option.some.inj h1⟩
    | succ i => exact h2 i x y hx hy
/-- the law's power: found * square ^ left -/
theorem pw_even {f s l m : Nat} (h : l % 2 = 0) : f * s ^ l % m = f * (s * s % m) ^ (l / 2) % m := by
  rw [Nat.mul_mod, Nat.pow_mod, Nat.mul_mod f ((s * s % m) ^ (l / 2)), Nat.pow_mod (s * s % m), Nat.mod_mod, ← Nat.pow_mod, ← Nat.pow_mod]
  congr 3
  rw [← Nat.pow_two, ← Nat.pow_mul]
  congr 1
  omega
theorem pw_odd {f s l m : Nat} (h : l % 2 = 1) : f * s ^ l % m = (f * s % m) * (s * s % m) ^ (l / 2) % m := by
  have h2 := pw_even (f := f * s % m) (s := s) (l := 2 * (l / 2)) (m := m) (by omega)
  rw [show 2 * (l / 2) / 2 = l / 2 by omega] at h2
  have e : s ^ l = s * s ^ (2 * (l / 2)) := by
    rw [Nat.mul_comm s, ← Nat.pow_succ]
    congr 1
    omega
  rw [← h2, Nat.mod_mul_mod, Nat.mul_assoc, e]
end Fb
namespace Fb
open PySem L2
def top (i : Nat) : Stmt := PySem.Challenge.pw_farbits_k34_periods_are_least.main.body.getD i (.Pass ⟨0, 0, 0, 0⟩)
def isB (d : PyData) : Bool := match d with | .bool _ => true | _ => false
theorem kit_B : ∀ d : PyData, kitB (dTy d) "bool" = some (isB d)
  | .none => by show kitB "NoneType" "bool" = some false; decide +kernel
  | .bool _ => by show kitB "bool" "bool" = some true; decide +kernel
  | .int _ => by show kitB "int" "bool" = some false; decide +kernel
  | .str _ => by show kitB "str" "bool" = some false; decide +kernel
  | .list _ => by show kitB "list" "bool" = some false; decide +kernel
  | .tuple _ => by show kitB "tuple" "bool" = some false; decide +kernel
  | .dict _ => by show kitB "dict" "bool" = some false; decide +kernel
theorem call_isiB {X : Cx} (K : PySem.W.Frag) (hK : X.K = K := by rfl) : CallR X (.builtin "isinstance") (rIsD K "bool" isB) := fun pins s σ H xs us Q I r ⟨x, d, e, h, q⟩ => by
  subst hK
  refine call_isi pins s σ H xs us Q I r ⟨x, _, _, _, isB d, e, .ty _, tyx_dp h, kit_ty (kit_B d), q⟩
theorem bitand1 (n : Nat) : Builtin.bitAnd (n : Int) 1 = ((n % 2 : Nat) : Int) := by rw [PyProof.Rows.bitAnd_m1]; omega
theorem div_nat {a b : Nat} (hb : 1 ≤ b) (h : b < 2 ^ 8000) : CDivW (a : Int) (b : Int) := wide_div (b := 8000) (by omega) (by simpa using h) (by decide) (by decide)
theorem mil_lt {b : Nat} (h : b ≤ 1000000) : b < 2 ^ 8000 := Nat.lt_of_le_of_lt h (by decide +kernel)
section
variable {P : Program} {w : World} {K : PySem.W.Frag} {mg : Str → Option Value} {base : Heap} {f : Addr} {fd : FuncData}
abbrev S_is_level_number : Stmt := top 7
abbrev N_is_level_number : List Str := ["value"]
abbrev P_is_level_number : List Str := ["value"]
theorem sc_is_level_number : FnScope N_is_level_number P_is_level_number (defScope S_is_level_number) := ⟨rfl, rfl, rfl, by decide +kernel, rfl, by decide +kernel, by decide +kernel⟩
def spNum : Sp := fun vs H Q _ => ∃ n : Nat, vs = [.int (n : Int)] ∧ n ≤ 1000000 ∧ Q (.bl true) H
theorem ok_num {tk : Tok} (F : Fun K "is_level_number" "is_level_number" S_is_level_number f fd) (B : Blt mg) (MF : mg "MOST_MODULUS" = some (.int 1000000 tk)) : FnOk P w K mg base CX0 1 f fd P_is_level_number spNum := by
  have nd := sc_is_level_number.nd
  refine F.ok sc_is_level_number (fun vs H Q E h => ?_) (fun cdv A outer s H vs Q E hr h => ?_)
  · obtain ⟨n, rfl, _⟩ := h
    rfl
  obtain ⟨n, rfl, hn, q⟩ := h
  refine ⟨_, (pss_one (ps_ret (pe_and (pe_callB (call_isiI K) (by rfl) B.isinstance (by decide +kernel) (pa_cons (pv 0) (pa_cons (pe_bltn (by rfl) B.int (by decide +kernel) (show RelV (.ty "int") (.type "int") from rfl)) pa_nil))) (pe_and (pe_not (pe_callB (call_isiB K) (by rfl) B.isinstance (by decide +kernel) (pa_cons (pv 0) (pa_cons (pe_bltn (by rfl) B.bool (by decide +kernel) (show RelV (.ty "bool") (.type "bool") from rfl)) pa_nil)))) (pe_one (pe_chain op_le op_le pe_int (pv 0) (pe_glob (v := .int 1000000) rfl MF ⟨_, rfl⟩))))))), ?_⟩
  refine ⟨_, rfl, _, .int n, rfl, .int _, _, rfl, iteT ?_⟩
  refine ⟨_, rfl, _, .int n, rfl, .int _, _, rfl, ?_⟩
  refine ⟨_, rfl, iteT ?_⟩
  refine ⟨_, rfl, _, _, rfl, rfl, _, rfl, iteD (fun c => ?_) (fun c => ?_)⟩
  · refine ⟨_, _, rfl, rfl, ?_⟩
    dsimp only
    rw [decide_eq_true (show (n : Int) ≤ 1000000 by omega)]
    exact q
  · omega
abbrev S_is_modulus : Stmt := top 6
abbrev N_is_modulus : List Str := ["value"]
abbrev P_is_modulus : List Str := ["value"]
theorem sc_is_modulus : FnScope N_is_modulus P_is_modulus (defScope S_is_modulus) := ⟨rfl, rfl, rfl, by decide +kernel, rfl, by decide +kernel, by decide +kernel⟩
def spMod : Sp := fun vs H Q _ => ∃ n : Nat, vs = [.int (n : Int)] ∧ 1 ≤ n ∧ n ≤ 1000000 ∧ Q (.bl true) H
theorem ok_mod (F : Fun K "is_modulus" "is_modulus" S_is_modulus f fd) (Cis_level_number : Has P w K mg base 1 "is_level_number" P_is_level_number [] spNum) : FnOk P w K mg base CX0 2 f fd P_is_modulus spMod := by
  have nd := sc_is_modulus.nd
  refine F.ok sc_is_modulus (fun vs H Q E h => ?_) (fun cdv A outer s H vs Q E hr h => ?_)
  · obtain ⟨n, rfl, _⟩ := h
    rfl
  obtain ⟨n, rfl, h1, hn, q⟩ := h
  refine ⟨_, (pss_one (ps_ret (pe_and (pe_H Cis_level_number (hr.mono (by decide)) rfl (pa_cons (pv 0) pa_nil)) (pe_one (pe_cmpR op_ge (pv 0) pe_int (nomark _)))))), ?_⟩
  refine ⟨_, rfl, n, rfl, hn, _, rfl, iteT ?_⟩
  refine ⟨_, rfl, _, _, rfl, rfl, ?_⟩
  dsimp only
  rw [decide_eq_true (show (n : Int) ≥ 1 by omega)]
  exact q
abbrev S_rest_of_near_power : Stmt := top 13
abbrev N_rest_of_near_power : List Str := ["exponent", "modulus", "behind", "rest", "k"]
abbrev P_rest_of_near_power : List Str := ["exponent", "modulus"]
theorem sc_rest_of_near_power : FnScope N_rest_of_near_power P_rest_of_near_power (defScope S_rest_of_near_power) := ⟨rfl, rfl, rfl, by decide +kernel, rfl, by decide +kernel, by decide +kernel⟩
theorem pow_step {e m k : Nat} : (2 ^ (e / 2 ^ (k + 1)) % m * (2 ^ (e / 2 ^ (k + 1)) % m) * 2 ^ (e / 2 ^ k % 2)) % m = 2 ^ (e / 2 ^ k) % m := by
  have h : e / 2 ^ k = 2 * (e / 2 ^ (k + 1)) + e / 2 ^ k % 2 := by
    rw [Nat.pow_succ, ← Nat.div_div_eq_div_mul]; omega
  have h2 : 2 ^ (2 * (e / 2 ^ (k + 1))) * 2 ^ (e / 2 ^ k % 2) = 2 ^ (e / 2 ^ k) := by rw [← Nat.pow_add, ← h]
  rw [Nat.mul_mod, pow_bit, ← h2, Nat.mul_mod (2 ^ (2 * (e / 2 ^ (k + 1))))]
def spPow : Sp := fun vs H Q _ => ∃ e m : Nat, vs = [.int (e : Int), .int (m : Int)] ∧ 1 ≤ m ∧ m ≤ 1000000 ∧ e ≤ 1000000 ∧ Q (.int ((2 ^ e % m : Nat) : Int)) H
theorem ok_pow {tk : Tok} (F : Fun K "rest_of_near_power" "rest_of_near_power" S_rest_of_near_power f fd) (B : Blt mg) (MF9 : mg "FIRST_BITS" = some (.int 9 tk)) : FnOk P w K mg base CX0 1 f fd P_rest_of_near_power spPow := by
  have nd := sc_rest_of_near_power.nd
  refine F.ok sc_rest_of_near_power (fun vs H Q E h => ?_) (fun cdv A outer s H vs Q E hr h => ?_)
  · obtain ⟨e, m, rfl, _⟩ := h
    rfl
  obtain ⟨e, m, rfl, h1, hm, he, q⟩ := h
  refine ⟨_, (pss_cons (ps_set (i := 2) nd rfl (Or.inl rfl) (pe_callB (call_max2 rfl) (by rfl) B.max (by decide +kernel) (pa_cons pe_int (pa_cons (pe_op op_sub (pe_bits (pv 0)) (pe_glob (v := .int 9) rfl MF9 ⟨_, rfl⟩)) pa_nil))))
    (pss_cons (ps_set (i := 3) nd rfl (Or.inl rfl) (pe_op op_modN (pe_op op_shl pe_int (pe_op op_shr (pv 0) (pv 2))) (pv 1)))
    (C8.pss_cut (ps_for PassesOwn.never rfl (pi_range3 (by rfl) B.range (pa_cons (pe_op op_sub (pv 2) pe_int) (pa_cons (pe_un un_neg pe_int) (pa_cons (pe_un un_neg pe_int) pa_nil)))) (pg_name (i := 4) nd rfl (Or.inl rfl)) (pss_one (ps_set (i := 3) nd rfl (Or.inl rfl) (pe_op op_modN (pe_op op_shl (pe_op op_mul (pv 3) (pv 3)) (pe_op op_and (pe_op op_shr (pv 0) (pv 4)) pe_int)) (pv 1)))))
    (pss_one (ps_ret (pv 3)))))), ?_⟩
  have mlt : ∀ x : Nat, x % m < m := fun x => Nat.mod_lt _ (by omega)
  obtain ⟨L, hL⟩ : ∃ L : Nat, (Builtin.Int.intBits (e : Int) : Nat) = L := ⟨_, rfl⟩
  refine ⟨_, rfl, _, rfl, _, _, rfl, rfl, _, _, rfl, ?_⟩
  rw [hL]
  obtain ⟨b, hb⟩ : ∃ b : Nat, L - 9 = b := ⟨_, rfl⟩
  rw [show (if (L : Int) - 9 > 0 then (L : Int) - 9 else 0) = (b : Int) by split <;> omega]
  have bl : b ≤ 100 := by
    have := Nat.le_trans (PyProof.Rows.intBits_le (a := (e : Int)) (k := 20) (by show e < _; omega)) (by decide : 20 ≤ 100)
    omega
  refine ⟨_, rfl, _, rfl, _, _, rfl, rfl, (by omega), ?_⟩
  dsimp only
  rw [show ((e : Int) / 2 ^ (b : Int).toNat) = ((e / 2 ^ b : Nat) : Int) by rw [Int.toNat_natCast, Int.natCast_ediv, Int.natCast_pow]; rfl]
  have eb : e / 2 ^ b ≤ e := Nat.div_le_self _ _
  refine ⟨_, _, rfl, rfl, ⟨Int.natCast_nonneg _, Int.ofNat_le.mpr (Nat.le_trans eb he), by decide⟩, ?_⟩
  refine ⟨_, rfl, _, _, rfl, rfl, (by omega), ?_⟩
  dsimp only
  rw [show ((1 : Int) * 2 ^ ((e / 2 ^ b : Nat) : Int).toNat).fmod (m : Int) = ((2 ^ (e / 2 ^ b) % m : Nat) : Int) by
    rw [Int.toNat_natCast, Int.one_mul, show ((2 : Int) ^ (e / 2 ^ b)) = ((2 ^ (e / 2 ^ b) : Nat) : Int) from (Int.natCast_pow 2 _).symm, fmod_nat]]
  refine ⟨fun σ H' => σ[3]? = some (some (.int ((2 ^ e % m : Nat) : Int))) ∧ H' = H, ?_, ?_⟩
  · refine ⟨_, rfl, _, _, rfl, rfl, _, rfl, _, rfl, ?_⟩
    refine ⟨_, _, _, _, rfl, RgC.neg (by omega) (by omega) (by omega) (by omega), ?_⟩
    refine for_rangeC (lo := (b : Int) - 1) (c := -1) (n := ((b : Int) - 1 - -1).toNat) (fun i σ H' => ∃ z, σ = [some (.int (e : Int)), some (.int (m : Int)), some (.int (b : Int)), some (.int ((2 ^ (e / 2 ^ (b - i)) % m : Nat) : Int)), z] ∧ H' = H) ⟨none, rfl, rfl⟩ ?_ ?_
    · rintro i σ H' hi ⟨z, rfl, rfl⟩
      obtain ⟨k, hk⟩ : ∃ k, b - i = k + 1 := ⟨b - i - 1, by omega⟩
      have ek : ((b : Int) - 1 + (i : Int) * -1) = (k : Int) := by omega
      rw [ek, hk, show b - (i + 1) = k by omega]
      have r1 := mlt (2 ^ (e / 2 ^ (k + 1)))
      have r2 : (2 ^ (e / 2 ^ (k + 1)) % m) * (2 ^ (e / 2 ^ (k + 1)) % m) ≤ 1000000 * 1000000 := Nat.mul_le_mul (by omega) (by omega)
      refine ⟨_, rfl, _, rfl, _, _, rfl, rfl, .inl ⟨by omega, by omega⟩, _, rfl, _, rfl, _, _, rfl, rfl, (by omega), _, _, rfl, rfl, ?_⟩
      dsimp only
      rw [show ((e : Int) / 2 ^ (k : Int).toNat) = ((e / 2 ^ k : Nat) : Int) by rw [Int.toNat_natCast, Int.natCast_ediv, Int.natCast_pow]; rfl, bitand1, ← Int.natCast_mul]
      refine ⟨_, _, rfl, rfl, ⟨by omega, by omega, by rw [Int.natAbs_natCast]; omega⟩, ?_⟩
      refine ⟨_, rfl, _, _, rfl, rfl, (by omega), ?_⟩
      refine ⟨some (.int (k : Int)), ?_, rfl⟩
      show [some (V.int (e : Int)), some (V.int (m : Int)), some (V.int (b : Int)), some (V.int (Int.fmod (((2 ^ (e / 2 ^ (k + 1)) % m * (2 ^ (e / 2 ^ (k + 1)) % m) : Nat) : Int) * 2 ^ ((e / 2 ^ k % 2 : Nat) : Int).toNat) (m : Int))), some (V.int (k : Int))] = _
      rw [Int.toNat_natCast, show ((2 : Int) ^ (e / 2 ^ k % 2)) = ((2 ^ (e / 2 ^ k % 2) : Nat) : Int) from (Int.natCast_pow 2 _).symm, ← Int.natCast_mul, fmod_nat, pow_step]
    · rintro σ H' ⟨z, rfl, rfl⟩
      rw [show b - ((b : Int) - 1 - -1).toNat = 0 by omega, Nat.pow_zero, Nat.div_one]
      exact ⟨rfl, rfl⟩
  · rintro σ H' ⟨h, rfl⟩
    exact ⟨_, h, q⟩
end
end Fb
namespace Fb
open PySem L2
theorem eq_nat0 {a : Nat} {A B : Prop} (h1 : a = 0 → A) (h2 : a ≠ 0 → B) : if decide (V.int (a : Int) = V.int 0) = true then A else B :=
  iteD (fun c => h1 (by injection c with c; omega)) (fun c => h2 fun z => c (by rw [z]; rfl))
theorem eq_fm0 {a b : Nat} {A B : Prop} (h1 : a % b = 0 → A) (h2 : a % b ≠ 0 → B) : if decide (V.int ((a : Int).fmod (b : Int)) = V.int 0) = true then A else B := by
  rw [fmod_nat]; exact eq_nat0 h1 h2
theorem eq_bit0 {a : Nat} {A B : Prop} (h1 : a % 2 = 0 → A) (h2 : a % 2 ≠ 0 → B) : if decide (V.int (Builtin.bitAnd (a : Int) 1) = V.int 0) = true then A else B := by
  rw [bitand1]; exact eq_nat0 h1 h2
theorem eq_bit1 {a : Nat} {A B : Prop} (h1 : a % 2 = 1 → A) (h2 : a % 2 ≠ 1 → B) : if decide (V.int (Builtin.bitAnd (a : Int) 1) = V.int 1) = true then A else B := by
  rw [bitand1]
  exact iteD (fun c => h1 (by injection c with c; omega)) (fun c => h2 fun z => c (by rw [z]; rfl))
theorem eq_one {n x : Nat} {A B : Prop} (h1 : One n x → A) (h2 : ¬ One n x → B) : if decide (V.int ((x % n : Nat) : Int) = V.int ((1 : Int).fmod (n : Int))) = true then A else B := by
  rw [show ((1 : Int).fmod (n : Int)) = ((1 % n : Nat) : Int) from fmod_nat 1 n]
  exact iteD (fun c => h1 (by injection c with c; exact Int.ofNat_inj.mp c)) (fun c => h2 fun z => c (by unfold One at z; rw [z]))
theorem nI_append (a b : List Nat) : nI (a ++ b) = nI a ++ nI b := List.map_append ..
theorem ediv_nat (a b : Nat) : (a : Int) / (b : Int) = ((a / b : Nat) : Int) := rfl
/-- few numbers are found: they are primes of a number below 2 ^ 20 -/
theorem prime_few {n : Nat} {ps : List Nat} (h : ∀ p ∈ ps, Pr p ∧ p ∣ n) (nd : ps.Nodup) (hn : 1 ≤ n) (hb : n ≤ 1000000) : ps.length ≤ 20 := by
  have h1 := Nat.le_of_dvd hn (prodL_dvd ps n h nd)
  have h2 : ∀ ps : List Nat, (∀ p ∈ ps, 2 ≤ p) → 2 ^ ps.length ≤ prodL ps := by
    intro ps
    induction ps with
    | nil => intro _; exact Nat.le_refl 1
    | cons p ps ih =>
      intro h
      rw [List.length_cons, Nat.pow_succ, Nat.mul_comm]
      exact Nat.mul_le_mul (h p (List.mem_cons_self ..)) (ih fun q hq => h q (List.mem_cons_of_mem _ hq))
  have h3 := h2 ps fun p hp => (h p hp).1.two
  by_cases c : ps.length ≤ 20
  · exact c
  · have : 2 ^ 21 ≤ 2 ^ ps.length := Nat.pow_le_pow_right (by decide) (by omega)
    have : (2 : Nat) ^ 21 = 2097152 := by decide
    omega
section
variable {P : Program} {w : World} {K : PySem.W.Frag} {mg : Str → Option Value} {base : Heap} {f : Addr} {fd : FuncData}
abbrev S_primes_in : Stmt := top 12
abbrev N_primes_in : List Str := ["number", "primes", "left", "prime"]
abbrev P_primes_in : List Str := ["number"]
theorem sc_primes_in : FnScope N_primes_in P_primes_in (defScope S_primes_in) := ⟨rfl, rfl, rfl, by decide +kernel, rfl, by decide +kernel, by decide +kernel⟩
def spPrimes : Sp := fun vs H Q _ => ∃ n : Nat, vs = [.int (n : Int)] ∧ 1 ≤ n ∧ n ≤ 1000000 ∧ ∀ (p : Addr) (H' : Hp) (ps : List Nat), Same H H' → H p = none → H' p = some (.lst (nI ps)) → Primes n ps → Q (.ref p) H'
theorem ok_primes (F : Fun K "primes_in" "primes_in" S_primes_in f fd) : FnOk P w K mg base CX0 1 f fd P_primes_in spPrimes := by
  have nd := sc_primes_in.nd
  refine F.ok sc_primes_in (fun vs H Q E h => ?_) (fun cdv A outer s H vs Q E hr h => ?_)
  · obtain ⟨n, rfl, _⟩ := h
    rfl
  obtain ⟨n, rfl, h1, hn, q⟩ := h
  refine ⟨_, (pss_cons (ps_set (i := 1) nd rfl (Or.inl rfl) (pe_lst pa_nil))
    (pss_cons (ps_set (i := 2) nd rfl (Or.inl rfl) (pv 0))
    (pss_cons (ps_set (i := 3) nd rfl (Or.inl rfl) pe_int)
    (C8.pss_cut (ps_while PassesOwn.never (pt_cmpR op_le (pe_op op_mul (pv 3) (pv 3)) (pv 2) (nomark _)) (C8.pss_cut (ps_if (pt_cmpR op_eq (pe_op op_modN (pv 2) (pv 3)) pe_int (nomark _)) (pss_cons (ps_expr (pe_bm PySem.F.plainAttrs_list PySem.F.slot_list_append PySem.F.type_list_append mt_append (pv 1) (pa_cons (pv 3) pa_nil)))
    (pss_one (ps_while PassesOwn.never (pt_cmpR op_eq (pe_op op_modN (pv 2) (pv 3)) pe_int (nomark _)) (pss_one (ps_set (i := 2) nd rfl (Or.inl rfl) (pe_op op_fdivW (pv 2) (pv 3))))))) pss_nil)
    (pss_one (ps_aug (i := 3) nd rfl (Or.inl rfl) pe_int ip_add))))
    (C8.pss_cut (ps_if (pt_cmpR op_gt (pv 2) pe_int (nomark _)) (pss_one (ps_expr (pe_bm PySem.F.plainAttrs_list PySem.F.slot_list_append PySem.F.type_list_append mt_append (pv 1) (pa_cons (pv 2) pa_nil)))) pss_nil)
    (pss_one (ps_ret (pv 1)))))))), ?_⟩
  refine ⟨(by show 0 ≤ sizeLine; decide), fun p np => ?_⟩
  refine ⟨_, rfl, ?_⟩
  refine ⟨fun σ H' => ∃ (ps : List Nat) (left d : Nat), σ = [some (.int (n : Int)), some (.ref p), some (.int (left : Int)), some (.int (d : Int))] ∧ H' p = some (.lst (nI ps)) ∧ Same H H' ∧ Trd n ps left d ∧ left < d * d, ?_, ?_⟩
  · refine ⟨fun m σ H' => ∃ (ps : List Nat) (left d : Nat), σ = [some (.int (n : Int)), some (.ref p), some (.int (left : Int)), some (.int (d : Int))] ∧ m = n + 2 - d ∧ H' p = some (.lst (nI ps)) ∧ Same H H' ∧ Trd n ps left d ∧ d ≤ n + 2, ⟨n, [], n, 2, rfl, by omega, upd_same, Same.new np, Trd.start h1, by omega⟩, ?_⟩
    rintro m σ H' ⟨ps, left, d, rfl, rfl, hp, e, td, dn⟩
    have hl : left ≤ n := Nat.le_of_dvd h1 td.dv
    have d2 := td.two
    have l1 := td.pos
    refine ⟨_, rfl, _, rfl, _, _, rfl, rfl, .inl ⟨by omega, by omega⟩, _, rfl, _, _, rfl, rfl, _, rfl, ?_⟩
    refine iteD (fun c => ?_) (fun c => ?_)
    · have c' : d * d ≤ left := by
        have : ((d * d : Nat) : Int) ≤ (left : Int) := by rw [Int.natCast_mul]; exact c
        omega
      have dd : d ≤ d * d := Nat.le_mul_of_pos_left _ (by omega)
      have fin : ∀ ps' left' (H1 : Hp), Trd n ps' left' (d + 1) → H1 p = some (.lst (nI ps')) → Same H H1 → ∃ m', m' < n + 2 - d ∧ ∃ (ps : List Nat) (left d' : Nat), ([some (.int (n : Int)), some (.ref p), some (.int (left' : Int)), some (.int ((d : Int) + 1))] : L2.St) = [some (.int (n : Int)), some (.ref p), some (.int (left : Int)), some (.int (d' : Int))] ∧ m' = n + 2 - d' ∧ H1 p = some (.lst (nI ps)) ∧ Same H H1 ∧ Trd n ps left d' ∧ d' ≤ n + 2 :=
        fun ps' left' H1 t1 k1 k2 => ⟨n + 2 - (d + 1), by omega, ps', left', d + 1, rfl, rfl, k1, k2, t1, by omega⟩
      refine ⟨fun σ' H' => ∃ m', m' < n + 2 - d ∧ ∃ (ps : List Nat) (left d' : Nat), σ' = [some (.int (n : Int)), some (.ref p), some (.int (left : Int)), some (.int (d' : Int))] ∧ m' = n + 2 - d' ∧ H' p = some (.lst (nI ps)) ∧ Same H H' ∧ Trd n ps left d' ∧ d' ≤ n + 2, fun σ' H' h => h, ?_⟩
      refine ⟨fun σ' H1 => ∃ (ps' : List Nat) (left' : Nat), σ' = [some (.int (n : Int)), some (.ref p), some (.int (left' : Int)), some (.int (d : Int))] ∧ H1 p = some (.lst (nI ps')) ∧ Same H H1 ∧ Trd n ps' left' (d + 1), ?_, ?_⟩
      · refine ⟨_, rfl, _, rfl, _, _, rfl, rfl, (by omega), rfl, ?_⟩
        refine ⟨_, rfl, ?_⟩
        refine eq_fm0 (fun c2 => ?_) (fun c2 => ?_)
        · have dv : d ∣ left := Nat.dvd_of_mod_eq_zero c2
          have few : ps.length ≤ 20 := prime_few (fun p hp => (td.pr p hp).1) td.nd h1 hn
          refine ⟨_, rfl, .inl ⟨rfl, _, SqL.of hp⟩, _, rfl, p, _, _, rfl, rfl, hp, (by unfold nI; rw [List.length_map]; exact Nat.lt_of_le_of_lt few (by decide)), ?_⟩
          refine ⟨fun m σ H1 => ∃ l : Nat, σ = [some (.int (n : Int)), some (.ref p), some (.int (l : Int)), some (.int (d : Int))] ∧ l = m ∧ H1 = upd H' p (.lst (nI ps ++ [.int (d : Int)])) ∧ Out d left l, ⟨left, left, rfl, rfl, rfl, Out.start l1⟩, ?_⟩
          rintro m σ H1 ⟨l, rfl, rfl, rfl, o⟩
          have ll : l ≤ left := Nat.le_of_dvd (by omega) o.dv
          refine ⟨_, rfl, _, rfl, _, _, rfl, rfl, (by omega), rfl, ?_⟩
          refine ⟨_, rfl, ?_⟩
          refine eq_fm0 (fun c3 => ?_) (fun c3 => ?_)
          · refine ⟨fun σ' H1 => σ' = [some (.int (n : Int)), some (.ref p), some (.int ((l / d : Nat) : Int)), some (.int (d : Int))] ∧ H1 = upd H' p (.lst (nI ps ++ [.int (d : Int)])), fun σ' H1 h => ⟨l / d, Out.lt d2 o.pos, l / d, h.1, rfl, h.2, o.step (td.prime dv) (Nat.dvd_of_mod_eq_zero c3)⟩, ?_⟩
            refine ⟨_, rfl, _, rfl, _, _, rfl, rfl, div_nat (by omega) (mil_lt (by omega)), ?_⟩
            exact ⟨rfl, rfl⟩
          · refine ⟨ps ++ [d], l, rfl, by rw [upd_same, nI_append]; rfl, Same.mut e np, td.take dv o fun z => c3 (Nat.mod_eq_zero_of_dvd z)⟩
        · exact ⟨ps, left, rfl, hp, e, td.skip fun z => c2 (Nat.mod_eq_zero_of_dvd z)⟩
      · rintro σ' H1 ⟨ps', left', rfl, k1, k2, t1⟩
        refine ⟨_, rfl, _, _, rfl, rfl, ?_⟩
        exact fin ps' left' H1 t1 k1 k2
    · refine ⟨ps, left, d, rfl, hp, e, td, ?_⟩
      have : ¬ ((d * d : Nat) : Int) ≤ (left : Int) := by rw [Int.natCast_mul]; exact c
      omega
  · rintro σ H' ⟨ps, left, d, rfl, hp, e, td, lt⟩
    have few : ps.length ≤ 20 := prime_few (fun p hp => (td.pr p hp).1) td.nd h1 hn
    refine ⟨fun σ H' => ∃ ps', σ[1]? = some (some (.ref p)) ∧ H' p = some (.lst (nI ps')) ∧ Same H H' ∧ Primes n ps', ?_, ?_⟩
    · refine ⟨_, rfl, _, _, rfl, rfl, _, rfl, ?_⟩
      refine iteD (fun c => ?_) (fun c => ?_)
      · refine ⟨_, rfl, .inl ⟨rfl, _, SqL.of hp⟩, _, rfl, p, _, _, rfl, rfl, hp, (by unfold nI; rw [List.length_map]; exact Nat.lt_of_le_of_lt few (by decide)), ?_⟩
        exact ⟨ps ++ [left], rfl, by rw [upd_same, nI_append]; rfl, Same.mut e np, td.end_more (by omega) lt⟩
      · have l1 := td.pos
        have : left = 1 := by omega
        subst this
        exact ⟨ps, rfl, hp, e, td.end_one⟩
    · rintro σ H' ⟨ps', s1, hp, e, pr⟩
      exact ⟨_, s1, q p H' ps' e np hp pr⟩
abbrev S_coprimes_up_to : Stmt := top 11
abbrev N_coprimes_up_to : List Str := ["number", "many", "prime"]
abbrev P_coprimes_up_to : List Str := ["number"]
theorem sc_coprimes_up_to : FnScope N_coprimes_up_to P_coprimes_up_to (defScope S_coprimes_up_to) := ⟨rfl, rfl, rfl, by decide +kernel, rfl, by decide +kernel, by decide +kernel⟩
def spPhi : Sp := fun vs H Q _ => ∃ n : Nat, vs = [.int (n : Int)] ∧ 1 ≤ n ∧ n ≤ 1000000 ∧ ∀ (H' : Hp) (ps : List Nat), Same H H' → Primes n ps → Q (.int ((phiF ps n : Nat) : Int)) H'
theorem phiF_take : ∀ (ps : List Nat) (i a : Nat) (p : Nat), ps[i]? = some p → phiF (ps.take (i + 1)) a = phiF (ps.take i) a / p * (p - 1)
  | q :: ps, 0, a, p, h => by cases h; rfl
  | q :: ps, i + 1, a, p, h => phiF_take ps i _ p h
theorem phiF_le : ∀ (ps : List Nat) (a : Nat), (∀ p ∈ ps, 1 ≤ p) → phiF ps a ≤ a
  | [], a, _ => Nat.le_refl a
  | p :: ps, a, h => by
    refine Nat.le_trans (phiF_le ps _ fun q hq => h q (List.mem_cons_of_mem _ hq)) ?_
    exact Nat.le_trans (Nat.mul_le_mul_left _ (Nat.sub_le p 1)) (Nat.div_mul_le_self a p)
theorem ok_phi (F : Fun K "coprimes_up_to" "coprimes_up_to" S_coprimes_up_to f fd) (Cprimes_in : Has P w K mg base 1 "primes_in" P_primes_in [] spPrimes) : FnOk P w K mg base CX0 2 f fd P_coprimes_up_to spPhi := by
  have nd := sc_coprimes_up_to.nd
  refine F.ok sc_coprimes_up_to (fun vs H Q E h => ?_) (fun cdv A outer s H vs Q E hr h => ?_)
  · obtain ⟨n, rfl, _⟩ := h
    rfl
  obtain ⟨n, rfl, h1, hn, q⟩ := h
  refine ⟨_, (pss_cons (ps_set (i := 1) nd rfl (Or.inl rfl) (pv 0))
    (pss_cons (ps_for PassesOwn.never rfl (pi_list (pe_H Cprimes_in (hr.mono (by decide)) rfl (pa_cons (pv 0) pa_nil))) (pg_name (i := 2) nd rfl (Or.inl rfl)) (pss_one (ps_set (i := 1) nd rfl (Or.inl rfl) (pe_op op_mul (pe_op op_fdivW (pv 1) (pv 2)) (pe_op op_sub (pv 2) pe_int)))))
    (pss_one (ps_ret (pv 1))))), ?_⟩
  refine ⟨_, rfl, _, rfl, n, rfl, h1, hn, fun p H1 ps e np hp pr => ?_⟩
  refine ⟨_, rfl, ⟨_, SqL.of hp⟩, ?_⟩
  have ge2 : ∀ p ∈ ps, 2 ≤ p := fun p hp => (pr.pr p hp).1.two
  have hlen : (nI ps).length = ps.length := by unfold nI; rw [List.length_map]
  refine for_list (xs := nI ps) (fun i σ H' => ∃ z, σ = [some (.int (n : Int)), some (.int ((phiF (ps.take i) n : Nat) : Int)), z] ∧ H' = H1) ⟨none, rfl, rfl⟩ (fun i σ H' _ h => ?_) (fun i x σ H' hx h => ?_) (fun σ H' h => ?_)
  · obtain ⟨_, _, rfl⟩ := h
    exact SqL.of hp
  · obtain ⟨z, rfl, rfl⟩ := h
    unfold nI at hx
    rw [List.getElem?_map] at hx
    obtain ⟨r, hr1, rfl⟩ := Option.map_eq_some_iff.mp hx
    have hr2 := List.mem_of_getElem? hr1
    have r2 := ge2 r hr2
    have rn := Nat.le_of_dvd h1 (pr.pr r hr2).2
    have le := phiF_le (ps.take i) n fun p hp => by have := ge2 p (List.mem_of_mem_take hp); omega
    refine ⟨_, rfl, _, rfl, _, _, rfl, rfl, div_nat (by omega) (mil_lt (by omega)), _, rfl, _, _, rfl, rfl, _, _, rfl, rfl, .inr ⟨by omega, by omega⟩, ?_⟩
    refine ⟨some (.int (r : Int)), ?_, rfl⟩
    rw [phiF_take ps i n r hr1, Int.natCast_mul, show ((r - 1 : Nat) : Int) = (r : Int) - 1 by omega]
    rfl
  · obtain ⟨z, rfl, rfl⟩ := h
    refine ⟨_, rfl, ?_⟩
    rw [hlen, List.take_length]
    exact q H' ps e pr
abbrev S_least_period : Stmt := top 10
abbrev N_least_period : List Str := ["odd", "period", "prime"]
abbrev P_least_period : List Str := ["odd"]
theorem sc_least_period : FnScope N_least_period P_least_period (defScope S_least_period) := ⟨rfl, rfl, rfl, by decide +kernel, rfl, by decide +kernel, by decide +kernel⟩
def spPer : Sp := fun vs H Q _ => ∃ n : Nat, vs = [.int (n : Int)] ∧ n % 2 = 1 ∧ n ≤ 1000000 ∧ ∀ (H' : Hp) (per : Nat), Same H H' → Least n per → per ≤ n → (1 < n → per < n) → Q (.int (per : Int)) H'
theorem ok_per (F : Fun K "least_period" "least_period" S_least_period f fd) (Cprimes_in : Has P w K mg base 1 "primes_in" P_primes_in [] spPrimes) (Ccoprimes_up_to : Has P w K mg base 2 "coprimes_up_to" P_coprimes_up_to [] spPhi) (Crest_of_near_power : Has P w K mg base 1 "rest_of_near_power" P_rest_of_near_power [] spPow) : FnOk P w K mg base CX0 3 f fd P_least_period spPer := by
  have nd := sc_least_period.nd
  refine F.ok sc_least_period (fun vs H Q E h => ?_) (fun cdv A outer s H vs Q E hr h => ?_)
  · obtain ⟨n, rfl, _⟩ := h
    rfl
  obtain ⟨n, rfl, odd, hn, q⟩ := h
  refine ⟨_, (pss_cons (ps_set (i := 1) nd rfl (Or.inl rfl) (pe_H Ccoprimes_up_to (hr.mono (by decide)) rfl (pa_cons (pv 0) pa_nil)))
    (pss_cons (ps_for PassesOwn.never rfl (pi_list (pe_H Cprimes_in (hr.mono (by decide)) rfl (pa_cons (pv 1) pa_nil))) (pg_name (i := 2) nd rfl (Or.inl rfl)) (pss_one (ps_while PassesOwn.never (PW.pt (pw_and (pt_cmpR op_eq (pe_op op_modN (pv 1) (pv 2)) pe_int (nomark _)) (pw_and1 (pt_cmpR op_eq (pe_H Crest_of_near_power (hr.mono (by decide)) rfl (pa_cons (pe_op op_fdivW (pv 1) (pv 2)) (pa_cons (pv 0) pa_nil))) (pe_op op_modN pe_int (pv 0)) (nomark _))))) (pss_one (ps_set (i := 1) nd rfl (Or.inl rfl) (pe_op op_fdivW (pv 1) (pv 2)))))))
    (pss_one (ps_ret (pv 1))))), ?_⟩
  refine ⟨_, rfl, n, rfl, (by omega), hn, fun H1 ps e1 pr => ?_⟩
  obtain ⟨o, p1, p2, p3⟩ := euler2 pr (by omega) odd
  generalize phiF ps n = per0 at o p1 p2 p3
  refine ⟨_, rfl, per0, rfl, p1, (by omega), fun p H2 qs e2 np hp prq => ?_⟩
  refine ⟨_, rfl, ⟨_, SqL.of hp⟩, ?_⟩
  have hlen : (nI qs).length = qs.length := by unfold nI; rw [List.length_map]
  refine for_list (xs := nI qs) (fun i σ H' => ∃ (z : Option V) (per : Nat), σ = [some (.int (n : Int)), some (.int (per : Int)), z] ∧ H' = H2 ∧ Per n per0 (qs.take i) per) ⟨none, per0, rfl, rfl, p1, Nat.dvd_refl _, o, fun _ h => (nomatch h)⟩ (fun i σ H' _ h => ?_) (fun i x σ H' hx h => ?_) (fun σ H' h => ?_)
  · obtain ⟨_, _, _, rfl, _⟩ := h
    exact SqL.of hp
  · obtain ⟨z, per, rfl, rfl, hper⟩ := h
    unfold nI at hx
    rw [List.getElem?_map] at hx
    obtain ⟨r, hr1, rfl⟩ := Option.map_eq_some_iff.mp hx
    have hr2 := List.mem_of_getElem? hr1
    have r2 := (prq.pr r hr2).1.two
    have rn := Nat.le_of_dvd p1 (prq.pr r hr2).2
    have et : qs.take (i + 1) = qs.take i ++ [r] := by rw [List.take_add_one, hr1]; rfl
    refine ⟨fun m σ H'' => ∃ per : Nat, σ = [some (.int (n : Int)), some (.int (per : Int)), some (.int (r : Int))] ∧ H'' = H' ∧ per = m ∧ Per n per0 (qs.take i) per, ⟨per, per, rfl, rfl, rfl, hper⟩, ?_⟩
    rintro m σ H'' ⟨per, rfl, rfl, rfl, hper⟩
    have pp := hper.pos
    have ple := Nat.le_of_dvd p1 hper.dv
    refine ⟨_, rfl, _, rfl, _, _, rfl, rfl, (by omega), rfl, ?_⟩
    refine ⟨_, rfl, ?_⟩
    refine eq_fm0 (fun c => ?_) (fun c => ?_)
    · have dv : r ∣ per := Nat.dvd_of_mod_eq_zero c
      have dl : per / r ≤ per := Nat.div_le_self _ _
      refine ⟨_, rfl, _, rfl, _, _, rfl, rfl, div_nat (by omega) (mil_lt (by omega)), _, rfl, per / r, n, rfl, (by omega), hn, (by omega), _, rfl, _, _, rfl, rfl, (by omega), rfl, ?_⟩
      refine ⟨_, rfl, ?_⟩
      refine eq_one (fun c2' => ?_) (fun c2 => ?_)
      · refine ⟨fun σ' H1 => σ' = [some (.int (n : Int)), some (.int ((per / r : Nat) : Int)), some (.int (r : Int))] ∧ H1 = H'', fun σ' H1 h => ⟨per / r, Nat.div_lt_self (by omega) r2, per / r, h.1, h.2, rfl, hper.div r2 dv c2'⟩, ?_⟩
        refine ⟨_, rfl, _, rfl, _, _, rfl, rfl, div_nat (by omega) (mil_lt (by omega)), ?_⟩
        exact ⟨rfl, rfl⟩
      · refine ⟨_, per, rfl, rfl, ?_⟩
        rw [et]
        exact hper.next fun _ z => c2 z
    · refine iteF ?_
      refine ⟨_, per, rfl, rfl, ?_⟩
      rw [et]
      exact hper.next fun z => absurd (Nat.mod_eq_zero_of_dvd z) c
  · obtain ⟨z, per, rfl, rfl, hper⟩ := h
    rw [hlen, List.take_length] at hper
    have ple := Nat.le_of_dvd p1 hper.dv
    exact ⟨_, rfl, q H' per (e1.trans e2) (hper.least prq) (by omega) (fun h => by have := p3 h; omega)⟩
end
end Fb
namespace Fb
open PySem L2
def lvV (l : Lv) : List V := [.int (l.m : Int), .int (l.two : Int), .int (l.odd : Int), .int (l.per : Int)]
def lvD (l : Lv) : PyData := .tuple [.int (l.m : Int), .int (l.two : Int), .int (l.odd : Int), .int (l.per : Int)]
theorem lv_dp {K : PySem.W.Frag} {H : Hp} {a : Addr} {l : Lv} (h : SqT K H a (lvV l)) : Dp K H (.ref a) (lvD l) := .tup h (.cons (.int _) (.cons (.int _) (.cons (.int _) (.cons (.int _) .nil))))
theorem lv_inv {K : PySem.W.Frag} {H : Hp} {v : V} {l : Lv} (h : Dp K H v (lvD l)) : ∃ a, v = .ref a ∧ SqT K H a (lvV l) := by
  cases h with
  | @tup a xs _ hs ha =>
    cases ha with | cons h1 ha => cases h1; cases ha with | cons h1 ha => cases h1; cases ha with | cons h1 ha => cases h1; cases ha with | cons h1 ha => cases h1; cases ha; exact ⟨a, rfl, hs⟩
section
variable {P : Program} {w : World} {K : PySem.W.Frag} {mg : Str → Option Value} {base : Heap} {f : Addr} {fd : FuncData}
abbrev S_least_level : Stmt := top 9
abbrev N_least_level : List Str := ["modulus", "odd", "two"]
abbrev P_least_level : List Str := ["modulus"]
theorem sc_least_level : FnScope N_least_level P_least_level (defScope S_least_level) := ⟨rfl, rfl, rfl, by decide +kernel, rfl, by decide +kernel, by decide +kernel⟩
def spLevel : Sp := fun vs H Q _ => ∃ m : Nat, vs = [.int (m : Int)] ∧ 1 ≤ m ∧ m ≤ 1000000 ∧ ∀ (p : Addr) (H' : Hp) (l : Lv), Same H H' → H' p = some (.tup (lvV l)) → LvOk m l → Q (.ref p) H'
theorem ok_level (F : Fun K "least_level" "least_level" S_least_level f fd) (Cleast_period : Has P w K mg base 3 "least_period" P_least_period [] spPer) : FnOk P w K mg base CX0 4 f fd P_least_level spLevel := by
  have nd := sc_least_level.nd
  refine F.ok sc_least_level (fun vs H Q E h => ?_) (fun cdv A outer s H vs Q E hr h => ?_)
  · obtain ⟨n, rfl, _⟩ := h
    rfl
  obtain ⟨m, rfl, h1, hm, q⟩ := h
  refine ⟨_, (pss_cons (ps_set (i := 1) nd rfl (Or.inl rfl) (pv 0))
    (pss_cons (ps_set (i := 2) nd rfl (Or.inl rfl) pe_int)
    (pss_cons (ps_while PassesOwn.never (pt_cmpR op_eq (pe_op op_and (pv 1) pe_int) pe_int (nomark _)) (pss_cons (ps_set (i := 1) nd rfl (Or.inl rfl) (pe_op op_fdivW (pv 1) pe_int))
    (pss_one (ps_aug (i := 2) nd rfl (Or.inl rfl) pe_int ip_add))))
    (pss_one (ps_ret (pe_tup (pa_cons (pv 0) (pa_cons (pv 2) (pa_cons (pv 1) (pa_cons (pe_H Cleast_period (hr.mono (by decide)) rfl (pa_cons (pv 1) pa_nil)) pa_nil)))))))))), ?_⟩
  refine ⟨_, rfl, ?_⟩
  refine ⟨fun k σ H' => ∃ o t : Nat, σ = [some (.int (m : Int)), some (.int (o : Int)), some (.int (t : Int))] ∧ k = o ∧ H' = H ∧ m = o * 2 ^ t, ⟨m, m, 0, rfl, rfl, rfl, by simp⟩, ?_⟩
  rintro k σ H' ⟨o, t, rfl, rfl, rfl, e⟩
  have o1 : 1 ≤ k := by
    rcases k with _ | k
    · rw [Nat.zero_mul] at e; omega
    · omega
  have ole : k ≤ m := by rw [e]; exact Nat.le_mul_of_pos_right _ (Nat.two_pow_pos _)
  refine ⟨_, rfl, _, _, rfl, rfl, rfl, ?_⟩
  refine ⟨_, rfl, ?_⟩
  refine eq_bit0 (fun c => ?_) (fun c => ?_)
  · refine ⟨fun σ' H1 => σ' = [some (.int (m : Int)), some (.int ((k / 2 : Nat) : Int)), some (.int ((t : Int) + 1))] ∧ H1 = H', fun σ' H1 h => ⟨k / 2, Nat.div_lt_self o1 (by decide), k / 2, t + 1, h.1, rfl, h.2, ?_⟩, ?_⟩
    · rw [Nat.pow_succ, Nat.mul_comm (2 ^ t) 2, ← Nat.mul_assoc, show k / 2 * 2 = k by omega]; exact e
    · refine ⟨_, rfl, _, _, rfl, rfl, (div_nat (b := 2) (by decide) (mil_lt (by decide))), ?_⟩
      exact ⟨_, rfl, _, _, rfl, rfl, rfl, rfl⟩
  · refine ⟨_, rfl, _, rfl, _, rfl, _, rfl, k, rfl, (by omega), (by omega), fun H1 per e1 le p1 p2 => ?_⟩
    refine ⟨(by show 4 ≤ sizeLine; decide), fun p np => ?_⟩
    exact q p _ ⟨m, t, k, per⟩ (e1.trans (Same.new np)) upd_same ⟨rfl, h1, hm, e, (by show k % 2 = 1; omega), le, p1, p2⟩
abbrev S_least_levels : Stmt := top 8
abbrev N_least_levels : List Str := ["modulus", "levels"]
abbrev P_least_levels : List Str := ["modulus"]
theorem sc_least_levels : FnScope N_least_levels P_least_levels (defScope S_least_levels) := ⟨rfl, rfl, rfl, by decide +kernel, rfl, by decide +kernel, by decide +kernel⟩
def spLevels (K : PySem.W.Frag) : Sp := fun vs H Q _ => ∃ m : Nat, vs = [.int (m : Int)] ∧ 1 ≤ m ∧ m ≤ 1000000 ∧ ∀ (v : V) (H' : Hp) (ls : List Lv), Same H H' → Dp K H' v (.tuple (ls.map lvD)) → Chain m ls → ls.length ≤ 1000001 → Q v H'
/-- a row of levels as it grows -/
structure LvsAt (H : Hp) (as : List Addr) (ls : List Lv) : Prop where
  len : as.length = ls.length
  at_ : ∀ (i : Nat) (a : Addr) (l : Lv), as[i]? = some a → ls[i]? = some l → H a = some (.tup (lvV l))
theorem LvsAt.same {H H' : Hp} {as : List Addr} {ls : List Lv} (h : LvsAt H as ls) (e : Same H H') : LvsAt H' as ls := ⟨h.len, fun i a l ha hl => e _ _ (h.at_ i a l ha hl)⟩
theorem LvsAt.snoc {H : Hp} {as : List Addr} {ls : List Lv} {a : Addr} {l : Lv} (h : LvsAt H as ls) (ha : H a = some (.tup (lvV l))) : LvsAt H (as ++ [a]) (ls ++ [l]) := by
  refine ⟨by simp [h.len], fun i b k hb hk => ?_⟩
  by_cases c : i < as.length
  · rw [List.getElem?_append_left c] at hb
    rw [List.getElem?_append_left (by rw [← h.len]; exact c)] at hk
    exact h.at_ i b k hb hk
  · rw [List.getElem?_append_right (by omega)] at hb
    rw [List.getElem?_append_right (by rw [← h.len]; omega)] at hk
    rw [h.len] at hb
    cases hi : i - ls.length with
    | zero => rw [hi] at hb hk; cases hb; cases hk; exact ha
    | succ j => rw [hi] at hb; simp at hb
theorem LvsAt.upd {H : Hp} {as : List Addr} {ls : List Lv} {p : Addr} {xs ys : List V} (h : LvsAt H as ls) (hp : H p = some (.lst xs)) : LvsAt (upd H p (.lst ys)) as ls :=
  ⟨h.len, fun i a l ha hl => by
    have e := h.at_ i a l ha hl
    rw [upd_ne (by rintro rfl; rw [hp] at e; cases e)]
    exact e⟩
theorem LvsAt.dps {K : PySem.W.Frag} {H : Hp} : ∀ {as : List Addr} {ls : List Lv}, LvsAt H as ls → DpAll K H (as.map V.ref) (ls.map lvD)
  | [], [], _ => .nil
  | [], _ :: _, h => by have := h.len; simp at this
  | _ :: _, [], h => by have := h.len; simp at this
  | a :: as, l :: ls, h => .cons (lv_dp (SqT.of (h.at_ 0 a l rfl rfl))) (LvsAt.dps ⟨by have := h.len; simp at this; exact this, fun i b k hb hk => h.at_ (i + 1) b k hb hk⟩)
theorem ok_levels (F : Fun K "least_levels" "least_levels" S_least_levels f fd) (B : Blt mg) (Cleast_level : Has P w K mg base 4 "least_level" P_least_level [] spLevel) : FnOk P w K mg base CX0 5 f fd P_least_levels (spLevels K) := by
  have nd := sc_least_levels.nd
  refine F.ok sc_least_levels (fun vs H Q E h => ?_) (fun cdv A outer s H vs Q E hr h => ?_)
  · obtain ⟨n, rfl, _⟩ := h
    rfl
  obtain ⟨m, rfl, h1, hm, q⟩ := h
  refine ⟨_, (pss_cons (ps_set (i := 1) nd rfl (Or.inl rfl) (pe_lst (pa_cons (pe_H Cleast_level (hr.mono (by decide)) rfl (pa_cons (pv 0) pa_nil)) pa_nil)))
    (pss_cons (ps_while PassesOwn.never (pt_cmpR op_ne (pe_ix ix_tup (pe_ix ix_list (pv 1) (pe_un un_neg pe_int) (fun _ _ => rfl)) pe_int (fun _ _ => rfl)) pe_int (nomark _)) (pss_one (ps_expr (pe_bm PySem.F.plainAttrs_list PySem.F.slot_list_append PySem.F.type_list_append mt_append (pv 1) (pa_cons (pe_H Cleast_level (hr.mono (by decide)) rfl (pa_cons (pe_ix ix_tup (pe_ix ix_list (pv 1) (pe_un un_neg pe_int) (fun _ _ => rfl)) pe_int (fun _ _ => rfl)) pa_nil)) pa_nil)))))
    (pss_one (ps_ret (pe_callTy call_tupL (by rfl) B.tuple (by decide +kernel) (pa_cons (pv 1) pa_nil)))))), ?_⟩
  refine ⟨_, rfl, m, rfl, h1, hm, fun a H1 l e1 ha lo => ?_⟩
  refine ⟨(by show 1 ≤ sizeLine; decide), fun p np => ?_⟩
  refine ⟨fun k σ H' => ∃ (as : List Addr) (ls : List Lv) (b : Addr) (l : Lv) (j : Nat), σ = [some (.int (m : Int)), some (.ref p)] ∧ k = l.m ∧ H' p = some (.lst ((as ++ [b]).map V.ref)) ∧ LvsAt H' (as ++ [b]) (ls ++ [l]) ∧ ChTo m ls j ∧ LvOk j l ∧ ls.length + j ≤ 1000000 ∧ Same H H', ⟨l.m, [], [], a, l, m, rfl, rfl, upd_same, ?_, rfl, lo, by simpa using hm, Same.mut e1 (e1.free np)⟩, ?_⟩
  · exact ⟨rfl, fun i b k hb hk => by
      cases i with
      | zero => cases hb; cases hk; rw [upd_ne (ne_of_none ha np)]; exact ha
      | succ i => cases hb⟩
  rintro k σ H' ⟨as, ls, b, l, j, rfl, rfl, hp, hat, ct, lo, hlen, e⟩
  have hb : H' b = some (.tup (lvV l)) := hat.at_ as.length b l (by rw [List.getElem?_append_right (Nat.le_refl _), Nat.sub_self]; rfl) (by
    have := hat.len
    simp only [List.length_append, List.length_cons, List.length_nil] at this
    rw [List.getElem?_append_right (by omega), show as.length - ls.length = 0 by omega]; rfl)
  have hlast : atI ((as ++ [b]).map V.ref) (-1) = some (.ref b) := by
    rw [List.map_append]
    exact atI_last ..
  refine ⟨_, rfl, _, rfl, _, _, _, _, rfl, rfl, SqL.of hp, hlast, _, _, _, _, rfl, rfl, SqT.of hb, atI_nat (j := 2) rfl, rfl, _, rfl, ?_⟩
  refine iteDN (fun c => ?_) (fun c => ?_)
  · have o1 : l.odd ≠ 1 := fun z => c (by rw [z]; rfl)
    have lp := lo.least.pos
    have ol := lo.odd_le
    have od := lo.od
    have pl := lo.plt (by omega)
    have em := lo.em
    refine ⟨fun σ' H1 => ∃ k', k' < l.m ∧ ∃ (as : List Addr) (ls : List Lv) (b : Addr) (l : Lv) (j : Nat), σ' = [some (.int (m : Int)), some (.ref p)] ∧ k' = l.m ∧ H1 p = some (.lst ((as ++ [b]).map V.ref)) ∧ LvsAt H1 (as ++ [b]) (ls ++ [l]) ∧ ChTo m ls j ∧ LvOk j l ∧ ls.length + j ≤ 1000000 ∧ Same H H1, fun σ' H1 h => h, ?_⟩
    refine ⟨_, rfl, .inl ⟨rfl, _, SqL.of hp⟩, _, rfl, _, rfl, _, _, _, _, rfl, rfl, SqL.of hp, hlast, _, _, _, _, rfl, rfl, SqT.of hb, atI_nat (j := 3) rfl, l.per, rfl, lp, (by have := lo.le; omega), fun c2 H2 l2 e2 hc2 lo2 => ?_⟩
    have hp2 := e2 _ _ hp
    have hat2 := (hat.same e2).snoc hc2
    have la := hat.len
    simp only [List.length_append, List.length_cons, List.length_nil] at la
    refine ⟨p, _, _, rfl, rfl, hp2, (by rw [List.length_map, List.length_append]; show as.length + 1 < 2 ^ 24; omega), ?_⟩
    refine ⟨l2.m, by rw [lo2.em]; omega, as ++ [b], ls ++ [l], c2, l2, l.per, rfl, rfl, by rw [upd_same, List.map_append (l₁ := as ++ [b])]; rfl, hat2.upd hp2, ct.snoc lo o1, lo2, by rw [List.length_append]; show ls.length + 1 + l.per ≤ _; omega, Same.mut (e.trans e2) (e1.free np)⟩
  · have o1 : l.odd = 1 := by injection c with c; omega
    refine ⟨_, rfl, _, _, rfl, SqL.of hp, fun r nr => ?_⟩
    refine q (.ref r) _ (ls ++ [l]) (e.trans (Same.new nr)) (.tup (SqT.of upd_same) ((Nd.new nr).ds hat.dps)) ⟨ls, l, j, rfl, ct, lo, o1⟩ ?_
    rw [List.length_append]
    show ls.length + 1 ≤ _
    omega
abbrev S_periods : Stmt := top 15
abbrev N_periods : List Str := ["m"]
abbrev P_periods : List Str := ["m"]
theorem sc_periods : FnScope N_periods P_periods (defScope S_periods) := ⟨rfl, rfl, rfl, by decide +kernel, rfl, by decide +kernel, by decide +kernel⟩
theorem ok_periods (F : Fun K "periods" "periods" S_periods f fd) (Cis_modulus : Has P w K mg base 2 "is_modulus" P_is_modulus [] spMod) (Cleast_levels : Has P w K mg base 5 "least_levels" P_least_levels [] (spLevels K)) : FnOk P w K mg base CX0 6 f fd P_periods (spLevels K) := by
  have nd := sc_periods.nd
  refine F.ok sc_periods (fun vs H Q E h => ?_) (fun cdv A outer s H vs Q E hr h => ?_)
  · obtain ⟨n, rfl, _⟩ := h
    rfl
  obtain ⟨m, rfl, h1, hm, q⟩ := h
  refine ⟨_, (C8.pss_cut (ps_if (pt_not (pt_val (pe_H Cis_modulus (hr.mono (by decide)) rfl (pa_cons (pv 0) pa_nil)))) (pss_one ps_never) pss_nil)
    (pss_one (ps_ret (pe_H Cleast_levels (hr.mono (by decide)) rfl (pa_cons (pv 0) pa_nil))))), ?_⟩
  refine ⟨fun σ H' => σ = [some (.int (m : Int))] ∧ H' = H, ?_, ?_⟩
  · refine ⟨_, rfl, m, rfl, h1, hm, _, rfl, iteF ?_⟩
    exact ⟨rfl, rfl⟩
  · rintro σ H' ⟨rfl, rfl⟩
    exact ⟨_, rfl, m, rfl, h1, hm, q⟩
end
end Fb
namespace Fb
open PySem L2
theorem ne_nat {a b : Nat} {A B : Prop} (h1 : a ≠ b → A) (h2 : a = b → B) : if (!decide (V.int (a : Int) = V.int (b : Int))) = true then A else B :=
  iteDN (fun c => h1 fun z => c (by rw [z])) (fun c => h2 (by injection c with c; omega))
theorem eq_nat {a b : Nat} {A B : Prop} (h1 : a = b → A) (h2 : a ≠ b → B) : if decide (V.int (a : Int) = V.int (b : Int)) = true then A else B :=
  iteD (fun c => h1 (by injection c with c; omega)) (fun c => h2 fun z => c (by rw [z]))
section
variable {P : Program} {w : World} {K : PySem.W.Frag} {mg : Str → Option Value} {base : Heap} {f : Addr} {fd : FuncData}
abbrev S__law_power : Stmt := top 20
abbrev N__law_power : List Str := ["_law_times", "_law_number", "_law_found", "_law_square", "_law_left"]
abbrev P__law_power : List Str := ["_law_times", "_law_number"]
theorem sc__law_power : FnScope N__law_power P__law_power (defScope S__law_power) := ⟨rfl, rfl, rfl, by decide +kernel, rfl, by decide +kernel, by decide +kernel⟩
theorem ok_lpow (F : Fun K "_law_power" "_law_power" S__law_power f fd) (B : Blt mg) : FnOk P w K mg base CX0 1 f fd P__law_power spPow := by
  have nd := sc__law_power.nd
  refine F.ok sc__law_power (fun vs H Q E h => ?_) (fun cdv A outer s H vs Q E hr h => ?_)
  · obtain ⟨e, m, rfl, _⟩ := h
    rfl
  obtain ⟨e, m, rfl, h1, hm, he, q⟩ := h
  refine ⟨_, (pss_cons (ps_par3 (i := 2) (j := 3) (l := 4) (by rfl) nd rfl rfl rfl (by decide) (by decide) (by decide) rfl rfl rfl (pa_cons (pe_op op_modN (pe_callTy call_intI (by rfl) B.int (by decide +kernel) (pa_cons pe_int pa_nil)) (pv 1)) (pa_cons (pe_op op_modN (pe_callTy call_intI (by rfl) B.int (by decide +kernel) (pa_cons pe_int pa_nil)) (pv 1)) (pa_cons (pv 0) pa_nil))) (by rfl))
    (pss_cons (ps_while PassesOwn.never (pt_cmpR op_gt (pv 4) pe_int (nomark _)) (C8.pss_cut (ps_if (pt_cmpR op_eq (pe_op op_and (pv 4) pe_int) pe_int (nomark _)) (pss_one (ps_set (i := 2) nd rfl (Or.inl rfl) (pe_op op_modN (pe_callTy call_intI (by rfl) B.int (by decide +kernel) (pa_cons (pe_op op_mul (pv 2) (pv 3)) pa_nil)) (pv 1)))) pss_nil)
    (pss_cons (ps_set (i := 3) nd rfl (Or.inl rfl) (pe_op op_modN (pe_callTy call_intI (by rfl) B.int (by decide +kernel) (pa_cons (pe_op op_mul (pv 3) (pv 3)) pa_nil)) (pv 1)))
    (pss_one (ps_set (i := 4) nd rfl (Or.inl rfl) (pe_op op_shr (pv 4) pe_int))))))
    (pss_one (ps_ret (pv 2))))), ?_⟩
  have mlt : ∀ x : Nat, x % m < m := fun x => Nat.mod_lt _ (by omega)
  refine ⟨_, rfl, _, rfl, _, _, rfl, rfl, (by omega), _, rfl, _, rfl, _, _, rfl, rfl, (by omega), _, rfl, _, _, _, rfl, ?_⟩
  dsimp only
  rw [show ((1 : Int).fmod (m : Int)) = ((1 % m : Nat) : Int) from fmod_nat 1 m, show ((2 : Int).fmod (m : Int)) = ((2 % m : Nat) : Int) from fmod_nat 2 m]
  refine ⟨fun k σ H' => ∃ f s : Nat, σ = [some (.int (e : Int)), some (.int (m : Int)), some (.int (f : Int)), some (.int (s : Int)), some (.int (k : Int))] ∧ H' = H ∧ f < m ∧ s < m ∧ f * s ^ k % m = 2 ^ e % m, ⟨e, 1 % m, 2 % m, rfl, rfl, mlt 1, mlt 2, by rw [Nat.mod_mul_mod, Nat.one_mul, ← Nat.pow_mod]⟩, ?_⟩
  rintro k σ H' ⟨f, s, rfl, rfl, fl, sl, ev⟩
  refine ⟨_, rfl, _, _, rfl, rfl, _, rfl, ?_⟩
  refine iteD (fun c => ?_) (fun c => ?_)
  · have k0 : k / 2 < k := by omega
    refine ⟨fun σ' H1 => ∃ f s : Nat, σ' = [some (.int (e : Int)), some (.int (m : Int)), some (.int (f : Int)), some (.int (s : Int)), some (.int ((k / 2 : Nat) : Int))] ∧ H1 = H' ∧ f < m ∧ s < m ∧ f * s ^ (k / 2) % m = 2 ^ e % m, fun σ' H1 h => ⟨k / 2, k0, h⟩, ?_⟩
    refine ⟨fun σ' H1 => ∃ f : Nat, σ' = [some (.int (e : Int)), some (.int (m : Int)), some (.int (f : Int)), some (.int (s : Int)), some (.int (k : Int))] ∧ H1 = H' ∧ f < m ∧ f * (s * s % m) ^ (k / 2) % m = 2 ^ e % m, ?_, ?_⟩
    · refine ⟨_, rfl, _, _, rfl, rfl, rfl, ?_⟩
      refine ⟨_, rfl, ?_⟩
      refine eq_bit1 (fun c2 => ?_) (fun c2 => ?_)
      · refine ⟨_, rfl, _, rfl, _, _, rfl, rfl, .inl ⟨by omega, by omega⟩, _, rfl, _, rfl, _, _, rfl, rfl, (by omega), ?_⟩
        dsimp only
        rw [← Int.natCast_mul, fmod_nat]
        exact ⟨f * s % m, rfl, rfl, mlt _, (pw_odd c2).symm.trans ev⟩
      · exact ⟨f, rfl, rfl, fl, (pw_even (by omega)).symm.trans ev⟩
    · rintro σ' H1 ⟨f', rfl, rfl, fl', ev'⟩
      refine ⟨_, rfl, _, rfl, _, _, rfl, rfl, .inl ⟨by omega, by omega⟩, _, rfl, _, rfl, _, _, rfl, rfl, (by omega), ?_⟩
      dsimp only
      rw [← Int.natCast_mul, fmod_nat]
      refine ⟨_, rfl, _, _, rfl, rfl, (by show (0 : Int) ≤ 1; decide), ?_⟩
      exact ⟨f', s * s % m, rfl, rfl, fl', mlt _, ev'⟩
  · have k0 : k = 0 := by omega
    subst k0
    rw [Nat.pow_zero, Nat.mul_one, Nat.mod_eq_of_lt fl] at ev
    subst ev
    exact ⟨_, rfl, q⟩
abbrev S__law_primes : Stmt := top 21
abbrev N__law_primes : List Str := ["_law_number", "_law_found", "_law_left", "_law_some"]
abbrev P__law_primes : List Str := ["_law_number"]
theorem sc__law_primes : FnScope N__law_primes P__law_primes (defScope S__law_primes) := ⟨rfl, rfl, rfl, by decide +kernel, rfl, by decide +kernel, by decide +kernel⟩
theorem ok_lprimes (F : Fun K "_law_primes" "_law_primes" S__law_primes f fd) (B : Blt mg) : FnOk P w K mg base CX0 1 f fd P__law_primes spPrimes := by
  have nd := sc__law_primes.nd
  refine F.ok sc__law_primes (fun vs H Q E h => ?_) (fun cdv A outer s H vs Q E hr h => ?_)
  · obtain ⟨n, rfl, _⟩ := h
    rfl
  obtain ⟨n, rfl, h1, hn, q⟩ := h
  refine ⟨_, (pss_cons (ps_par (i := 1) (j := 2) (by rfl) nd rfl rfl (by decide) rfl rfl (pa_cons (pe_lst pa_nil) (pa_cons (pv 0) pa_nil)) (by rfl))
    (C8.pss_cut (ps_for PassesOwn.never rfl (pi_range2 (by rfl) B.range (pa_cons pe_int (pa_cons pe_int pa_nil))) (pg_name (i := 3) nd rfl (Or.inl rfl)) (C8.pss_cut (ps_if (pt_cmpR op_gt (pe_op op_mul (pv 3) (pv 3)) (pv 2) (nomark _)) (pss_one ps_break) pss_nil)
    (C8.pss_cut (ps_if (pt_cmpR op_eq (pe_op op_modN (pe_callTy call_intI (by rfl) B.int (by decide +kernel) (pa_cons (pv 2) pa_nil)) (pv 3)) pe_int (nomark _)) (pss_one (ps_expr (pe_bm PySem.F.plainAttrs_list PySem.F.slot_list_append PySem.F.type_list_append mt_append (pv 1) (pa_cons (pv 3) pa_nil)))) pss_nil)
    (pss_one (ps_while PassesOwn.never (pt_cmpR op_eq (pe_op op_modN (pe_callTy call_intI (by rfl) B.int (by decide +kernel) (pa_cons (pv 2) pa_nil)) (pv 3)) pe_int (nomark _)) (pss_one (ps_set (i := 2) nd rfl (Or.inl rfl) (pe_op op_fdivW (pv 2) (pv 3)))))))))
    (pss_one (ps_ret (pe_ifExp (pt_cmpR op_gt (pv 2) pe_int (nomark _)) (pe_op op_cat (pv 1) (pe_lst (pa_cons (pv 2) pa_nil))) (pv 1)))))), ?_⟩
  refine ⟨(by show 0 ≤ sizeLine; decide), fun p np => ?_⟩
  refine ⟨_, rfl, _, _, rfl, ?_⟩
  refine ⟨fun σ H' => ∃ (ps : List Nat) (left d : Nat) (z : Option V), σ = [some (.int (n : Int)), some (.ref p), some (.int (left : Int)), z] ∧ H' p = some (.lst (nI ps)) ∧ Same H H' ∧ Trd n ps left d ∧ left < d * d, ?_, ?_⟩
  · refine ⟨_, _, rfl, (by decide), ?_⟩
    refine for_range (lo := 2) (n := 999) (fun i σ H' => ∃ (ps : List Nat) (left : Nat) (z : Option V), σ = [some (.int (n : Int)), some (.ref p), some (.int (left : Int)), z] ∧ H' p = some (.lst (nI ps)) ∧ Same H H' ∧ Trd n ps left (i + 2)) ⟨[], n, none, rfl, upd_same, Same.new np, Trd.start h1⟩ ?_ ?_
    · rintro i σ H' hi ⟨ps, left, z, rfl, hp, e, td⟩
      have hl : left ≤ n := Nat.le_of_dvd h1 td.dv
      have l1 := td.pos
      have few : ps.length ≤ 20 := prime_few (fun p hp => (td.pr p hp).1) td.nd h1 hn
      have ei : (2 : Int) + (i : Int) = ((i + 2 : Nat) : Int) := by omega
      rw [ei]
      generalize hd : i + 2 = d at td
      have d2 : 2 ≤ d := by omega
      have dl : d ≤ 1001 := by omega
      rw [show i + 1 + 2 = d + 1 by omega]
      refine ⟨fun σ' H1 => σ' = [some (.int (n : Int)), some (.ref p), some (.int (left : Int)), some (.int (d : Int))] ∧ H1 = H' ∧ d * d ≤ left, ?_, ?_⟩
      · refine ⟨_, rfl, _, rfl, _, _, rfl, rfl, .inl ⟨by omega, by omega⟩, _, rfl, _, _, rfl, rfl, _, rfl, ?_⟩
        refine iteD (fun c => ?_) (fun c => ?_)
        · refine ⟨ps, left, d, _, rfl, hp, e, td, ?_⟩
          have : ((d * d : Nat) : Int) > (left : Int) := by rw [Int.natCast_mul]; exact c
          omega
        · refine ⟨rfl, rfl, ?_⟩
          have : ¬ ((d * d : Nat) : Int) > (left : Int) := by rw [Int.natCast_mul]; exact c
          omega
      · rintro σ' H1 ⟨rfl, rfl, dd⟩
        refine ⟨fun σ' H2 => ∃ ps' : List Nat, σ' = [some (.int (n : Int)), some (.ref p), some (.int (left : Int)), some (.int (d : Int))] ∧ H2 p = some (.lst (nI ps')) ∧ Same H H2 ∧ (left % d = 0 ∧ ps' = ps ++ [d] ∨ left % d ≠ 0 ∧ ps' = ps), ?_, ?_⟩
        · refine ⟨_, rfl, _, rfl, _, rfl, _, _, rfl, rfl, (by omega), rfl, ?_⟩
          refine ⟨_, rfl, ?_⟩
          refine eq_fm0 (fun c2 => ?_) (fun c2 => ?_)
          · refine ⟨_, rfl, .inl ⟨rfl, _, SqL.of hp⟩, _, rfl, p, _, _, rfl, rfl, hp, (by unfold nI; rw [List.length_map]; exact Nat.lt_of_le_of_lt few (by decide)), ?_⟩
            exact ⟨ps ++ [d], rfl, by rw [upd_same, nI_append]; rfl, Same.mut e np, .inl ⟨c2, rfl⟩⟩
          · exact ⟨ps, rfl, hp, e, .inr ⟨c2, rfl⟩⟩
        · rintro σ' H2 ⟨ps', rfl, hp2, e2, way⟩
          refine ⟨fun k σ H3 => ∃ l : Nat, σ = [some (.int (n : Int)), some (.ref p), some (.int (l : Int)), some (.int (d : Int))] ∧ k = l ∧ H3 = H2 ∧ Out d left l ∧ (left % d ≠ 0 → l = left), ⟨left, left, rfl, rfl, rfl, Out.start l1, fun _ => rfl⟩, ?_⟩
          rintro k σ H3 ⟨l, rfl, rfl, rfl, o, same⟩
          have ll : k ≤ left := Nat.le_of_dvd (by omega) o.dv
          refine ⟨_, rfl, _, rfl, _, rfl, _, _, rfl, rfl, (by omega), rfl, ?_⟩
          refine ⟨_, rfl, ?_⟩
          refine eq_fm0 (fun c3 => ?_) (fun c3 => ?_)
          · have dv : d ∣ left := Nat.dvd_trans (Nat.dvd_of_mod_eq_zero c3) o.dv
            refine ⟨fun σ' H4 => σ' = [some (.int (n : Int)), some (.ref p), some (.int ((k / d : Nat) : Int)), some (.int (d : Int))] ∧ H4 = H3, fun σ' H4 h => ⟨k / d, Out.lt d2 o.pos, k / d, h.1, rfl, h.2, o.step (td.prime dv) (Nat.dvd_of_mod_eq_zero c3), fun z => absurd (Nat.mod_eq_zero_of_dvd dv) z⟩, ?_⟩
            refine ⟨_, rfl, _, rfl, _, _, rfl, rfl, div_nat (by omega) (mil_lt (by omega)), ?_⟩
            exact ⟨rfl, rfl⟩
          · rcases way with ⟨c2, rfl⟩ | ⟨c2, rfl⟩
            · exact ⟨ps ++ [d], k, _, rfl, hp2, e2, td.take (Nat.dvd_of_mod_eq_zero c2) o fun z => c3 (Nat.mod_eq_zero_of_dvd z)⟩
            · have := same c2
              subst this
              exact ⟨ps', k, _, rfl, hp2, e2, td.skip fun z => c2 (Nat.mod_eq_zero_of_dvd z)⟩
    · rintro σ H' ⟨ps, left, z, rfl, hp, e, td⟩
      have hl : left ≤ n := Nat.le_of_dvd h1 td.dv
      exact ⟨ps, left, 999 + 2, z, rfl, hp, e, td, by omega⟩
  · rintro σ H' ⟨ps, left, d, z, rfl, hp, e, td, lt⟩
    have few : ps.length ≤ 20 := prime_few (fun p hp => (td.pr p hp).1) td.nd h1 hn
    refine ⟨_, rfl, _, _, rfl, rfl, _, rfl, ?_⟩
    refine iteD (fun c => ?_) (fun c => ?_)
    · refine ⟨_, rfl, _, rfl, (by show 1 ≤ sizeLine; decide), fun b nb => ?_⟩
      refine ⟨_, _, _, _, rfl, rfl, (by rw [upd_ne (ne_of_none hp nb)]; exact hp), upd_same, (by unfold nI; rw [List.length_map]; show ps.length + 1 ≤ sizeLine; exact Nat.le_trans (Nat.succ_le_succ few) (by decide)), fun r nr => ?_⟩
      refine q r _ (ps ++ [left]) (e.trans ((Same.new nb).trans (Same.new nr))) ((e.trans (Same.new nb)).free nr) (by rw [upd_same, nI_append]; rfl) (td.end_more (by omega) lt)
    · have l1 := td.pos
      have : left = 1 := by omega
      subst this
      exact ⟨_, rfl, q p H' ps e np hp td.end_one⟩
end
end Fb
namespace Fb
open PySem L2
/-! ### a call by keywords alone -/
structure HasK (P : Program) (w : World) (K : PySem.W.Frag) (mg : Str → Option Value) (base : Heap) (k : Nat) (x : Str) (ps ks : List Str) (sp : Sp) : Prop where
  ex : ∃ f fd g, FnOk P w K mg base CX0 k f fd ps sp ∧ PySem.W.keepIn K (.ref f) = true ∧ mg x = some (.ref f) ∧ KBinds K fd ps ks g (fun us ws => us ++ ws)
theorem pe_HK0 {X : Cx} {k : Nat} {x : Str} {ps ks : List Str} {sp : Sp} {kws : List Keyword} {tk : TA} {p pos : Pos} (C : HasK X.prog X.w X.K X.mg X.base k x ps ks sp) (hr : Room k X.A) (hg : Gl X x) (hkw : PK X kws tk)
    (hall : (backToKw pos (keywordEach kws X.env)).all (·.1.isSome) = true := by rfl) (hks : (backToKw pos (keywordEach kws X.env)).filterMap (·.1) = ks := by rfl) (hdb : (x == ("__debug__" : Str)) = false := by decide)
    (hpl : ((backTo pos (starEach [] X.env)).any (·.1) || (backToKw pos (keywordEach kws X.env)).any (·.1.isNone)) = false := by rfl) : PE X (.Call (.Name x p) [] kws pos) (tCallK sp (fun us ws => us ++ ws) E0 tNil tk) := by
  obtain ⟨f, fd, g, F, hk, hm, hb⟩ := C.ex
  refine ⟨fun pins s σ H Q I h => ?_⟩
  refine wpAny_Call_Name_kw (ld_glob I hg hm ?_ hdb)
  refine PySem.W.callWith_KW0 (h₀ := X.base) I.ok.mod.kin hk hall (thn (hkw.run pos pins s σ H _ I h) fun ws s2 ⟨zs, H2, I2, rz, q2⟩ => ⟨I2.kIn, ?_⟩) hpl
  rw [hks]
  exact run_fnk (us := []) (vs := []) F hr hb pass0 I2 .nil rz q2
theorem vals_app {vs zs : List V} {us ws : List Value} (h : Vals vs us) (g : Vals zs ws) : Vals (vs ++ zs) (us ++ ws) := by
  induction h with
  | nil => exact g
  | cons a _ ih => exact .cons a ih
theorem Fun.kb1 {K : PySem.W.Frag} {x qual m : Str} {st : Stmt} {f : Addr} {fd : FuncData} (F : Fun K x qual st f fd)
    (h0 : ∀ (kV doc pm : Value) (an : Option Addr) (cdv ct u : Value), bindArgs (PySem.W.fnOf x qual (defArgs st) (defBody st) (defScope st) .none kV doc pm an cdv ct) ⟨[], [(m, u)]⟩ = pure [(m, u)])
    (h1 : ∀ (kV doc pm : Value) (an : Option Addr) (cdv ct u : Value), bindArgs (PySem.W.fnOf x qual (defArgs st) (defBody st) (defScope st) .none kV doc pm an cdv ct) ⟨[u], []⟩ = pure [(m, u)]) : KBinds K fd [m] [m] (fun us ws => us ++ ws) (fun us ws => us ++ ws) := by
  obtain ⟨oc, od, kV, doc, pm, an, cdv, ct, osl, rfl, lk, hcd⟩ := F.ex
  exact ⟨fun s us ws _ hl => match us, ws, hl with
    | [], [u], _ => .of_eq (h0 kV doc pm an cdv ct u)
    | [u], [], _ => .of_eq (h1 kV doc pm an cdv ct u), fun h g => vals_app h g⟩
/-! ### the pen -/
def pn (c : Addr) (a r : Int) : List (Key × V) := [(.inr "cells", .ref c), (.inr "place", .int a), (.inr "rest", .int r)]
structure PnS (K : PySem.W.Frag) (t c : Addr) (cs : List Int) (a r : Int) (H : Hp) : Prop where
  d : H t = some (.dK (pn c a r))
  s : SqL K H c (cs.map V.int)
theorem PnS.put {K : PySem.W.Frag} {t c : Addr} {cs : List Int} {a r b u : Int} {H : Hp} (h : PnS K t c cs a r H) : PnS K t c cs b u (upd H t (.dK (pn c b u))) :=
  ⟨upd_same, (Nd.tape h.d).sql h.s⟩
theorem PnS.new {K : PySem.W.Frag} {t c p : Addr} {cs : List Int} {a r : Int} {H : Hp} {o : HO} (h : PnS K t c cs a r H) (np : H p = none) : PnS K t c cs a r (upd H p o) :=
  ⟨by rw [upd_ne (ne_of_none h.d np)]; exact h.d, (Nd.new np).sql h.s⟩
theorem PnS.cells {K : PySem.W.Frag} {t c : Addr} {cs : List Int} {a r : Int} {H : Hp} (h : PnS K t c cs a r H) : DGet H t (.str "cells") (some (.ref c)) := DGet.k (k := Sum.inr "cells") h.d
theorem PnS.place {K : PySem.W.Frag} {t c : Addr} {cs : List Int} {a r : Int} {H : Hp} (h : PnS K t c cs a r H) : DGet H t (.str "place") (some (.int a)) := DGet.k (k := Sum.inr "place") h.d
theorem PnS.rest {K : PySem.W.Frag} {t c : Addr} {cs : List Int} {a r : Int} {H : Hp} (h : PnS K t c cs a r H) : DGet H t (.str "rest") (some (.int r)) := DGet.k (k := Sum.inr "rest") h.d
theorem PnS.pplace {K : PySem.W.Frag} {t c : Addr} {cs : List Int} {a r b : Int} {H : Hp} (h : PnS K t c cs a r H) : DPut H t (.str "place") (.int b) (upd H t (.dK (pn c b r))) := DPut.k (k := Sum.inr "place") h.d (by show 3 < sizeLine; decide)
theorem PnS.prest {K : PySem.W.Frag} {t c : Addr} {cs : List Int} {a r b : Int} {H : Hp} (h : PnS K t c cs a r H) : DPut H t (.str "rest") (.int b) (upd H t (.dK (pn c a b))) := DPut.k (k := Sum.inr "rest") h.d (by show 3 < sizeLine; decide)
def Pen (K : PySem.W.Frag) (τ : Tp) (n : Nat) (H : Hp) : Prop := ∃ at_ rest : Int, PnS K τ.t τ.c τ.cs at_ rest H ∧ τ.cs.length ≤ 63 ∧ 0 ≤ at_ ∧ at_ + n ≤ 2 ^ 40 ∧ 0 ≤ rest
theorem Pen.mono {K : PySem.W.Frag} {τ : Tp} {n m : Nat} {H : Hp} (h : Pen K τ n H) (e : m ≤ n) : Pen K τ m H := by
  obtain ⟨a, r, h1, h3, h4, h5, h6⟩ := h
  exact ⟨a, r, h1, h3, h4, by omega, h6⟩
theorem Pen.same {K : PySem.W.Frag} {τ : Tp} {n : Nat} {H H' : Hp} (h : Pen K τ n H) (e : Same H H') : Pen K τ n H' := by
  obtain ⟨a, r, h1, h3⟩ := h
  exact ⟨a, r, ⟨e _ _ h1.d, e.seq h1.s⟩, h3⟩
theorem Pen.new {K : PySem.W.Frag} {τ : Tp} {n : Nat} {H : Hp} {p : Addr} {o : HO} (h : Pen K τ n H) (np : H p = none) : Pen K τ n (upd H p o) := h.same (Same.new np)
section
variable {P : Program} {w : World} {K : PySem.W.Frag} {mg : Str → Option Value} {base : Heap} {f : Addr} {fd : FuncData}
abbrev S__law_pen : Stmt := top 17
abbrev N__law_pen : List Str := ["_law_script"]
abbrev P__law_pen : List Str := ["_law_script"]
theorem sc__law_pen : FnScope N__law_pen P__law_pen (defScope S__law_pen) := ⟨rfl, rfl, rfl, by decide +kernel, rfl, by decide +kernel, by decide +kernel⟩
def spPen (K : PySem.W.Frag) : Sp := fun vs H Q _ => ∃ (a : Addr) (ns : List Int), vs = [.ref a] ∧ SqL K H a (ns.map V.int) ∧ ns.length ≤ 63 ∧ ∀ (τ : Tp) (H' : Hp), Same H H' → Pen K τ (2 ^ 39) H' → Q (.ref τ.t) H'
theorem ok_pen (F : Fun K "_law_pen" "_law_pen" S__law_pen f fd) (B : Blt mg) : FnOk P w K mg base CX0 1 f fd P__law_pen (spPen K) := by
  have nd := sc__law_pen.nd
  refine F.ok sc__law_pen (fun vs H Q E h => ?_) (fun cdv A outer s H vs Q E hr h => ?_)
  · obtain ⟨a, ns, rfl, _⟩ := h
    rfl
  obtain ⟨a, ns, rfl, hS, h63, q⟩ := h
  refine ⟨_, (pss_one (ps_ret (pe_disp (pps_cons pe_str (pe_callTy call_listL (by rfl) B.list (by decide +kernel) (pa_cons (pe_slice sl_list (pv 0) po_none (po_some pe_int)) pa_nil)) (pps_cons pe_str pe_int (pps_cons pe_str pe_int pps_nil))) (by rfl) (by rfl) (fun z => by cases z) (by decide)))), ?_⟩
  refine fun p np => ?_
  have g0 : Same H (upd H p (.dK [])) := Same.new np
  refine ⟨_, rfl, _, rfl, _, _, rfl, g0.seq hS, fun l nl => ?_⟩
  have nlp : p ≠ l := by rintro rfl; rw [upd_same] at nl; cases nl
  have ec : ∃ cs : List Int, cutV (ns.map V.int) none (some 63) = cs.map V.int ∧ cs.length ≤ 63 := by
    unfold cutV
    rw [← List.map_drop, ← List.map_take]
    exact ⟨_, rfl, by rw [List.length_take, List.length_drop]; omega⟩
  obtain ⟨cs, ecs, lcs⟩ := ec
  rw [ecs]
  have g1 : Same H (upd (upd H p (.dK [])) l (.lst (cs.map V.int))) := Same.mut g0 (g0.free nl)
  have ep : (upd (upd H p (.dK [])) l (.lst (cs.map V.int))) p = some (.dK []) := by rw [upd_ne nlp, upd_same]
  refine ⟨_, _, rfl, SqL.of upd_same, fun l2 nl2 => ?_⟩
  have nlp2 : p ≠ l2 := by rintro rfl; rw [ep] at nl2; cases nl2
  have g2 := Same.mut (o := .lst (cs.map V.int)) g1 (g1.free nl2)
  have ep2 : (upd (upd (upd H p (.dK [])) l (.lst (cs.map V.int))) l2 (.lst (cs.map V.int))) p = some (.dK []) := by rw [upd_ne nlp2]; exact ep
  refine ⟨ep2, [(.inr "cells", .ref l2), (.inr "place", .int 0), (.inr "rest", .int 0)], rfl, (by show 3 ≤ 15; decide), ?_⟩
  refine q ⟨p, l2, cs⟩ _ (Same.mut g2 np) ⟨0, 0, ⟨upd_same, SqL.of (by rw [upd_ne (Ne.symm nlp2), upd_same])⟩, lcs, Int.le_refl _, by decide, Int.le_refl _⟩
abbrev S__law_draw : Stmt := top 18
abbrev N__law_draw : List Str := ["_law_pen_here", "_law_number", "_law_digit", "_law_at", "_law_cell", "_law_mixed"]
abbrev P__law_draw : List Str := ["_law_pen_here", "_law_number"]
theorem sc__law_draw : FnScope N__law_draw P__law_draw (defScope S__law_draw) := ⟨rfl, rfl, rfl, by decide +kernel, rfl, by decide +kernel, by decide +kernel⟩
def spPDraw (K : PySem.W.Frag) : Sp := fun vs H Q _ => ∃ (τ : Tp) (lim n : Nat), vs = [.ref τ.t, .int (lim : Int)] ∧ Pen K τ (n + 1) H ∧ 0 < lim ∧ lim ≤ 1000000 ∧
  ∀ (d : Nat) (H' : Hp), Nd H H' → Pen K τ n H' → d < lim → Q (.int (d : Int)) H'
theorem ok_pdraw (F : Fun K "_law_draw" "_law_draw" S__law_draw f fd) (B : Blt mg) : FnOk P w K mg base CX0 1 f fd P__law_draw (spPDraw K) := by
  have nd := sc__law_draw.nd
  refine F.ok sc__law_draw (fun vs H Q E h => ?_) (fun cdv A outer s H vs Q E hr h => ?_)
  · obtain ⟨τ, lim, n, rfl, _⟩ := h
    rfl
  obtain ⟨⟨t, c, cs⟩, lim, n, rfl, hT, h0, h9, q⟩ := h
  obtain ⟨a, r, ts, h3, h5, h6, h7⟩ := hT
  replace ts : PnS K t c cs a r H := ts
  replace h3 : cs.length ≤ 63 := h3
  have out : ∀ (x : Int) (H' : Hp), Nd H H' → Pen K ⟨t, c, cs⟩ n H' → Q (.int (x.fmod (lim : Int))) H' := fun x H' e p => by
    have z0 : 0 ≤ x.fmod (lim : Int) := Int.fmod_nonneg_of_pos _ (by omega)
    have z1 : x.fmod (lim : Int) < lim := Int.fmod_lt_of_pos _ (by omega)
    obtain ⟨d, hd⟩ := Int.eq_ofNat_of_zero_le z0
    rw [hd] at z1 ⊢
    exact q d H' e p (by omega)
  refine ⟨_, (pss_cons (ps_if (pt_cmpR op_ge (pe_dget (hu_of hr) (pv 0) pe_str (fun _ _ => rfl)) (pv 1) (nomark _)) (pss_cons (ps_set (i := 2) nd rfl (Or.inl rfl) (pe_op op_modN (pe_callTy call_intI (by rfl) B.int (by decide +kernel) (pa_cons (pe_dget (hu_of hr) (pv 0) pe_str (fun _ _ => rfl)) pa_nil)) (pv 1)))
    (pss_cons (ps_dput (hu_of hr) (pv 0) pe_str (pe_op op_fdivW (pe_dget (hu_of hr) (pv 0) pe_str (fun _ _ => rfl)) (pv 1)) rfl)
    (pss_one (ps_ret (pv 2))))) pss_nil)
    (pss_cons (ps_set (i := 3) nd rfl (Or.inl rfl) (pe_dget (hu_of hr) (pv 0) pe_str (fun _ _ => rfl)))
    (pss_cons (ps_dput (hu_of hr) (pv 0) pe_str (pe_op op_add (pv 3) pe_int) rfl)
    (pss_cons (ps_set (i := 4) nd rfl (Or.inl rfl) (pe_op op_add (pe_op op_mul pe_int (pv 3)) pe_int))
    (C8.pss_cut (ps_if (pt_cmpR (op_neD hr.units) (pe_dget (hu_of hr) (pv 0) pe_str (fun _ _ => rfl)) (pe_lst pa_nil) (nomark _)) (pss_one (ps_set (i := 4) nd rfl (Or.inl rfl) (pe_ix ix_list (pe_dget (hu_of hr) (pv 0) pe_str (fun _ _ => rfl)) (pe_op op_modN (pe_callTy call_intI (by rfl) B.int (by decide +kernel) (pa_cons (pv 3) pa_nil)) (pe_callB call_lenL (by rfl) B.len PySem.boot_len (pa_cons (pe_dget (hu_of hr) (pv 0) pe_str (fun _ _ => rfl)) pa_nil))) (fun _ _ => rfl)))) pss_nil)
    (pss_cons (ps_if (PW.pt (pw_and (pt_cmpR op_lt (pv 3) (pe_callB call_lenL (by rfl) B.len PySem.boot_len (pa_cons (pe_dget (hu_of hr) (pv 0) pe_str (fun _ _ => rfl)) pa_nil)) (nomark _)) (pw_and1 (pt_cmpR op_ge (pv 4) (pe_op op_pow pe_int pe_int) (nomark _))))) (pss_cons (ps_dput (hu_of hr) (pv 0) pe_str (pe_op op_fdivW (pe_op op_sub (pv 4) (pe_op op_pow pe_int pe_int)) (pv 1)) rfl)
    (pss_one (ps_ret (pe_op op_modN (pe_callTy call_intI (by rfl) B.int (by decide +kernel) (pa_cons (pe_op op_sub (pv 4) (pe_op op_pow pe_int pe_int)) pa_nil)) (pv 1))))) pss_nil)
    (pss_cons (ps_set (i := 5) nd rfl (Or.inl rfl) (pe_op op_modN (pe_callTy call_intI (by rfl) B.int (by decide +kernel) (pa_cons (pe_op op_add (pe_op op_add (pe_op op_add (pe_op op_mul (pe_op op_modN (pe_callTy call_intI (by rfl) B.int (by decide +kernel) (pa_cons (pv 4) pa_nil)) pe_int) pe_int) (pe_op op_mul (pe_op op_mul pe_int (pv 3)) (pv 3))) (pe_op op_mul pe_int (pv 3))) pe_int) pa_nil)) pe_int))
    (pss_cons (ps_set (i := 5) nd rfl (Or.inl rfl) (pe_op op_modN (pe_callTy call_intI (by rfl) B.int (by decide +kernel) (pa_cons (pe_op op_add (pe_op op_mul (pv 5) (pe_op op_add (pv 5) pe_int)) (pe_op op_mul pe_int (pv 3))) pa_nil)) pe_int))
    (pss_one (ps_ret (pe_op op_modN (pe_callTy call_intI (by rfl) B.int (by decide +kernel) (pa_cons (pe_op op_fdivW (pe_op op_modN (pe_callTy call_intI (by rfl) B.int (by decide +kernel) (pa_cons (pe_op op_add (pe_op op_mul (pv 5) (pv 5)) (pe_op op_mul pe_int (pv 5))) pa_nil)) pe_int) pe_int) pa_nil)) (pv 1)))))))))))), ?_⟩
  have cdl : ∀ x : Int, CDivW x (lim : Int) := fun x => wide_div (b := 8000) (by omega) (by have := mil_lt h9; simpa using this) (by decide) (by decide)
  refine ⟨_, rfl, _, _, rfl, ts.rest, _, rfl, _, _, rfl, rfl, _, rfl, ?_⟩
  refine iteD (fun c1 => ?_) (fun c1 => ?_)
  · refine ⟨_, rfl, _, _, rfl, ts.rest, _, rfl, _, rfl, _, _, rfl, rfl, (by omega), ?_⟩
    refine ⟨_, rfl, _, _, rfl, ts.rest, _, rfl, _, _, rfl, rfl, cdl _, _, rfl, _, _, rfl, ts.prest, ?_⟩
    exact ⟨_, rfl, out r _ (Nd.tape ts.d) ⟨a, r / (lim : Int), ts.put, h3, h5, (by omega), Int.ediv_nonneg h7 (by omega)⟩⟩
  refine ⟨_, rfl, _, _, rfl, ts.place, ?_⟩
  refine ⟨_, rfl, _, _, rfl, rfl, _, rfl, _, _, rfl, ts.pplace, ?_⟩
  have ts1 := ts.put (b := a + 1) (u := r)
  have e1 : Nd H _ := Nd.tape (o := .dK (pn c (a + 1) r)) ts.d
  generalize upd H t _ = H1 at ts1 e1 ⊢
  refine ⟨_, rfl, _, _, rfl, rfl, .inl ⟨by decide, by decide⟩, _, _, rfl, rfl, ?_⟩
  refine ⟨fun σ H2 => ∃ z : Int, σ = [some (.ref t), some (.int (lim : Int)), none, some (.int a), some (.int z), none] ∧ Nd H H2 ∧ PnS K t c cs (a + 1) r H2, ?_, ?_⟩
  · refine ⟨_, rfl, _, _, rfl, ts1.cells, (by show 0 ≤ sizeLine; decide), fun b nb => ?_⟩
    have ts2 := ts1.new (o := .lst []) nb
    have e2 := e1.trans (Nd.new (o := .lst []) nb)
    refine ⟨.list (cs.map PyData.int), .list [], .lst ts2.s (dps_ints cs), .lst (SqL.of upd_same) .nil, shaped_list (n := 0) (by decide) (fun x hx => by obtain ⟨i, _, rfl⟩ := List.mem_map.mp hx; exact ⟨i, rfl⟩), shaped_nil, _, rfl, ?_⟩
    generalize upd H1 b _ = H2 at ts2 e2 ⊢
    rw [eqv_nil]
    cases hcs : cs with
    | nil => exact iteF ⟨_, rfl, e2, hcs ▸ ts2⟩
    | cons z zs =>
      refine iteT ?_
      rw [← hcs]
      obtain ⟨v, hv, hm⟩ := atI_mod (k := a) (by rw [hcs]; exact List.cons_ne_nil _ _ : cs.map V.int ≠ [])
      obtain ⟨y, _, rfl⟩ := List.mem_map.mp hm
      refine ⟨_, rfl, _, _, rfl, ts2.cells, _, rfl, _, rfl, _, rfl, _, _, rfl, ts2.cells, _, _, rfl, ts2.s, _, _, rfl, rfl, (by rw [List.length_map, hcs]; show ((zs.length + 1 : Nat) : Int) ≠ 0; omega), _, _, _, _, rfl, rfl, ts2.s, hv, ?_⟩
      exact ⟨y, rfl, e2, ts2⟩
  rintro σ H2 ⟨z, rfl, e2, ts2⟩
  have pen2 : Pen K ⟨t, c, cs⟩ n H2 := ⟨a + 1, r, ts2, h3, by omega, by omega, h7⟩
  have a1 : a ≤ 2 ^ 40 := by omega
  refine ⟨_, rfl, _, rfl, _, _, rfl, ts2.cells, _, _, rfl, ts2.s, _, _, rfl, rfl, _, rfl, ?_⟩
  refine ite2 (fun c2 => ?_) (fun c2 => ?_)
  · refine ⟨_, rfl, _, _, rfl, rfl, (by unfold CPow; decide), _, _, rfl, rfl, _, rfl, ?_⟩
    refine iteD (fun c3 => ?_) (fun c3 => ?_)
    · refine ⟨_, rfl, _, _, rfl, rfl, (by unfold CPow; decide), _, _, rfl, rfl, _, rfl, _, _, rfl, rfl, cdl _, _, rfl, _, _, rfl, ts2.prest, ?_⟩
      refine ⟨_, rfl, _, _, rfl, rfl, (by unfold CPow; decide), _, _, rfl, rfl, _, rfl, _, rfl, _, _, rfl, rfl, (by omega), ?_⟩
      have c3' : z ≥ 10 ^ 18 := c3
      refine out _ _ (e2.trans (Nd.tape ts2.d)) ⟨a + 1, _, ts2.put, h3, by omega, by omega, Int.ediv_nonneg ?_ (by omega)⟩
      show 0 ≤ z - 10 ^ 18
      omega
    · have m0 : 0 ≤ z.fmod 2147483543 := Int.fmod_nonneg_of_pos _ (by omega)
      have m1 : z.fmod 2147483543 < 2147483543 := Int.fmod_lt_of_pos _ (by omega)
      refine ⟨_, rfl, _, rfl, _, _, rfl, rfl, (by show _ ≠ (0:Int); decide), _, _, rfl, rfl, .inl ⟨by omega, by omega⟩, _, rfl, _, _, rfl, rfl, .inl ⟨by decide, by decide⟩, _, rfl, _, _, rfl, rfl, .inr ⟨by omega, by omega⟩, _, _, rfl, rfl, _, rfl, _, _, rfl, rfl, .inl ⟨by decide, by decide⟩, _, _, rfl, rfl, _, _, rfl, rfl, _, rfl, _, _, rfl, rfl, (by show _ ≠ (0:Int); decide), ?_⟩
      dsimp only
      generalize hx : Int.fmod (z.fmod 2147483543 * 48817 + 37021 * a * a + 71 * a + 11) 2147483477 = x
      have x0 : 0 ≤ x := hx ▸ Int.fmod_nonneg_of_pos _ (by omega)
      have x1 : x < 2147483477 := hx ▸ Int.fmod_lt_of_pos _ (by omega)
      refine ⟨_, rfl, _, rfl, _, _, rfl, rfl, _, _, rfl, rfl, .inl ⟨by omega, by omega⟩, _, rfl, _, _, rfl, rfl, .inl ⟨by decide, by decide⟩, _, _, rfl, rfl, _, rfl, _, _, rfl, rfl, (by show _ ≠ (0:Int); decide), ?_⟩
      dsimp only
      generalize hy : Int.fmod (x * (x + 50021) + 9 * a) 2147483423 = y
      have y0 : 0 ≤ y := hy ▸ Int.fmod_nonneg_of_pos _ (by omega)
      have y1 : y < 2147483423 := hy ▸ Int.fmod_lt_of_pos _ (by omega)
      refine ⟨_, rfl, _, rfl, _, _, rfl, rfl, .inl ⟨by omega, by omega⟩, _, rfl, _, _, rfl, rfl, .inl ⟨by decide, by decide⟩, _, _, rfl, rfl, _, rfl, _, _, rfl, rfl, (by show _ ≠ (0:Int); decide), _, _, rfl, rfl, ⟨by decide, by decide +kernel⟩, _, rfl, _, rfl, _, _, rfl, rfl, (by omega), ?_⟩
      exact out _ _ e2 pen2
  · refine iteF ?_
    have m0 : 0 ≤ z.fmod 2147483543 := Int.fmod_nonneg_of_pos _ (by omega)
    have m1 : z.fmod 2147483543 < 2147483543 := Int.fmod_lt_of_pos _ (by omega)
    refine ⟨_, rfl, _, rfl, _, _, rfl, rfl, (by show _ ≠ (0:Int); decide), _, _, rfl, rfl, .inl ⟨by omega, by omega⟩, _, rfl, _, _, rfl, rfl, .inl ⟨by decide, by decide⟩, _, rfl, _, _, rfl, rfl, .inr ⟨by omega, by omega⟩, _, _, rfl, rfl, _, rfl, _, _, rfl, rfl, .inl ⟨by decide, by decide⟩, _, _, rfl, rfl, _, _, rfl, rfl, _, rfl, _, _, rfl, rfl, (by show _ ≠ (0:Int); decide), ?_⟩
    dsimp only
    generalize hx : Int.fmod (z.fmod 2147483543 * 48817 + 37021 * a * a + 71 * a + 11) 2147483477 = x
    have x0 : 0 ≤ x := hx ▸ Int.fmod_nonneg_of_pos _ (by omega)
    have x1 : x < 2147483477 := hx ▸ Int.fmod_lt_of_pos _ (by omega)
    refine ⟨_, rfl, _, rfl, _, _, rfl, rfl, _, _, rfl, rfl, .inl ⟨by omega, by omega⟩, _, rfl, _, _, rfl, rfl, .inl ⟨by decide, by decide⟩, _, _, rfl, rfl, _, rfl, _, _, rfl, rfl, (by show _ ≠ (0:Int); decide), ?_⟩
    dsimp only
    generalize hy : Int.fmod (x * (x + 50021) + 9 * a) 2147483423 = y
    have y0 : 0 ≤ y := hy ▸ Int.fmod_nonneg_of_pos _ (by omega)
    have y1 : y < 2147483423 := hy ▸ Int.fmod_lt_of_pos _ (by omega)
    refine ⟨_, rfl, _, rfl, _, _, rfl, rfl, .inl ⟨by omega, by omega⟩, _, rfl, _, _, rfl, rfl, .inl ⟨by decide, by decide⟩, _, _, rfl, rfl, _, rfl, _, _, rfl, rfl, (by show _ ≠ (0:Int); decide), _, _, rfl, rfl, ⟨by decide, by decide +kernel⟩, _, rfl, _, rfl, _, _, rfl, rfl, (by omega), ?_⟩
    exact out _ _ e2 pen2
abbrev S__law_pick : Stmt := top 19
abbrev N__law_pick : List Str := ["_law_pen_here", "_law_items"]
abbrev P__law_pick : List Str := ["_law_pen_here", "_law_items"]
theorem sc__law_pick : FnScope N__law_pick P__law_pick (defScope S__law_pick) := ⟨rfl, rfl, rfl, by decide +kernel, rfl, by decide +kernel, by decide +kernel⟩
def spPPick (K : PySem.W.Frag) : Sp := fun vs H Q _ => ∃ (τ : Tp) (l : Addr) (xs : List V) (n : Nat), vs = [.ref τ.t, .ref l] ∧ SqL K H l xs ∧ xs ≠ [] ∧ xs.length ≤ 100000 ∧ Pen K τ (n + 1) H ∧ ∀ (x : V) (i : Nat) (H' : Hp), Nd H H' → Pen K τ n H' → xs[i]? = some x → Q x H'
theorem ok_ppick (F : Fun K "_law_pick" "_law_pick" S__law_pick f fd) (B : Blt mg) (C_law_draw : Has P w K mg base 1 "_law_draw" P__law_draw [] (spPDraw K)) : FnOk P w K mg base CX0 2 f fd P__law_pick (spPPick K) := by
  have nd := sc__law_pick.nd
  refine F.ok sc__law_pick (fun vs H Q E h => ?_) (fun cdv A outer s H vs Q E hr h => ?_)
  · obtain ⟨t, l, xs, n, rfl, _⟩ := h
    rfl
  obtain ⟨t, l, xs, n, rfl, hS, h0, h1, hT, q⟩ := h
  refine ⟨_, (pss_one (ps_ret (pe_ix ix_list (pv 1) (pe_H C_law_draw (hr.mono (by decide)) rfl (pa_cons (pv 0) (pa_cons (pe_callB call_lenL (by rfl) B.len PySem.boot_len (pa_cons (pv 1) pa_nil)) pa_nil))) (fun _ _ => rfl)))), ?_⟩
  have hp : 0 < xs.length := List.length_pos_iff.mpr h0
  refine ⟨_, rfl, _, rfl, _, rfl, _, _, rfl, hS, t, _, n, rfl, hT, (by omega), (by omega), fun d H' e hT' d1 => ?_⟩
  refine ⟨_, _, _, _, rfl, rfl, e.sql hS, atI_nat (List.getElem?_eq_getElem d1), ?_⟩
  exact q _ d _ e hT' (List.getElem?_eq_getElem d1)
end
end Fb
namespace Fb
open PySem L2
theorem ne_one {n x : Nat} {A B : Prop} (h1 : ¬ One n x → A) (h2 : One n x → B) : if (!decide (V.int ((x % n : Nat) : Int) = V.int ((1 : Int).fmod (n : Int)))) = true then A else B := by
  rw [show ((1 : Int).fmod (n : Int)) = ((1 % n : Nat) : Int) from fmod_nat 1 n]
  exact iteDN (fun c => h1 fun z => c (by unfold One at z; rw [z])) (fun c => h2 (by injection c with c; exact Int.ofNat_inj.mp c))
theorem told_at {K : PySem.W.Frag} {H : Hp} {xs : List V} {ls : List Lv} {i : Nat} {l : Lv} (hd : DpAll K H xs (ls.map lvD)) (hi : ls[i]? = some l) : ∃ b, xs[i]? = some (.ref b) ∧ SqT K H b (lvV l) := by
  have hl := dps_length hd
  rw [List.length_map] at hl
  have h1 : i < ls.length := (List.getElem?_eq_some_iff.mp hi).1
  obtain ⟨x, hx⟩ : ∃ x, xs[i]? = some x := ⟨_, List.getElem?_eq_getElem (by omega)⟩
  obtain ⟨d, hd1, dp⟩ := dps_get hd hx
  rw [List.getElem?_map, hi] at hd1
  cases hd1
  obtain ⟨b, rfl, h⟩ := lv_inv dp
  exact ⟨b, hx, h⟩
theorem lv_fm (l : Lv) : Fm 1 (lvD l) := .inr ⟨_, rfl, (by show 4 ≤ 2100; decide), fun x hx => by
  simp only [List.mem_cons, List.not_mem_nil, or_false] at hx
  rcases hx with rfl | rfl | rfl | rfl <;> exact ⟨_, rfl⟩⟩
theorem shaped_tupL {n : Nat} {ds : List PyData} (h : ∀ x ∈ ds, Fm n x) (hn : n ≤ 40) : SeqAt.shaped (.tuple ds) = true := by
  have := shaped_list hn h
  simp only [SeqAt.shaped, PyData.canLay0, PyData.depth] at this ⊢
  exact this
theorem shaped_lvs (ls : List Lv) : SeqAt.shaped (.tuple (ls.map lvD)) = true := shaped_tupL (n := 1) (fun x hx => by
  obtain ⟨l, _, rfl⟩ := List.mem_map.mp hx
  exact lv_fm l) (by decide)
theorem canlay_lvs (ls : List Lv) : (PyData.tuple (ls.map lvD)).canLay0 = true := by
  have h := shaped_lvs ls
  simp only [SeqAt.shaped, Bool.and_eq_true] at h
  exact h.1
section
variable {P : Program} {w : World} {K : PySem.W.Frag} {mg : Str → Option Value} {base : Heap} {f : Addr} {fd : FuncData}
abbrev S__law_is_least : Stmt := top 22
abbrev N__law_is_least : List Str := ["_law_level", "_law_modulus", "_law_two", "_law_odd", "_law_period", "_law_one"]
abbrev P__law_is_least : List Str := ["_law_level"]
theorem sc__law_is_least : FnScope N__law_is_least P__law_is_least (defScope S__law_is_least) := ⟨rfl, rfl, rfl, by decide +kernel, rfl, by decide +kernel, by decide +kernel⟩
def spIs (K : PySem.W.Frag) : Sp := fun vs H Q _ => ∃ (v : V) (l : Lv), vs = [v] ∧ Dp K H v (lvD l) ∧ (∃ j, LvOk j l) ∧ ∀ H', Same H H' → Q (.bl true) H'
theorem ok_is (F : Fun K "_law_is_least" "_law_is_least" S__law_is_least f fd) (B : Blt mg) (C_law_power : Has P w K mg base 1 "_law_power" P__law_power [] spPow) (C_law_primes : Has P w K mg base 1 "_law_primes" P__law_primes [] spPrimes) : FnOk P w K mg base CX0 2 f fd P__law_is_least (spIs K) := by
  have nd := sc__law_is_least.nd
  refine F.ok sc__law_is_least (fun vs H Q E h => ?_) (fun cdv A outer s H vs Q E hr h => ?_)
  · obtain ⟨v, l, rfl, _⟩ := h
    rfl
  obtain ⟨v, l, rfl, hd, ⟨j, lo⟩, q⟩ := h
  refine ⟨_, (pss_cons (ps_if (PW.pt (pw_or (pt_not (pt_val (pe_callB (call_isiT_ K) (by rfl) B.isinstance (by decide +kernel) (pa_cons (pv 0) (pa_cons (pe_bltn (by rfl) B.tuple (by decide +kernel) (show RelV (.ty "tuple") (.type "tuple") from rfl)) pa_nil))))) (pw_or1 (pt_cmpR op_ne (pe_callB call_lenT (by rfl) B.len PySem.boot_len (pa_cons (pv 0) pa_nil)) pe_int (nomark _))))) (pss_one (ps_ret pe_bl)) pss_nil)
    (pss_cons (ps_if (pt_cmpR (op_neD hr.units) (pe_lc (own := [("_law_one", 5)]) (g := gName 5) rfl nd (pi_tup (pv 0)) (blkOk_by (own := [("_law_one", 5)]) (N := N__law_is_least) (sc := defScope S__law_is_least) (by decide +kernel)) (fun _ _ _ _ _ => pg_name (i := 5) nd rfl (Or.inl rfl)) (fun _ _ _ _ _ => (pts_one (PW.pt (pw_or (pt_val (pe_callB (call_isiB K) (by rfl) B.isinstance (by decide +kernel) (pa_cons (pv 5) (pa_cons (pe_bltn (by rfl) B.bool (by decide +kernel) (show RelV (.ty "bool") (.type "bool") from rfl)) pa_nil)))) (pw_or1 (pt_not (pt_val (pe_callB (call_isiI K) (by rfl) B.isinstance (by decide +kernel) (pa_cons (pv 5) (pa_cons (pe_bltn (by rfl) B.int (by decide +kernel) (show RelV (.ty "int") (.type "int") from rfl)) pa_nil)))))))))) (fun _ _ _ _ _ => (pv 5))) (pe_lst pa_nil) (nomark _)) (pss_one (ps_ret pe_bl)) pss_nil)
    (pss_cons (ps_asg (pv 0) (pg_tup rfl (pgs_cons (pg_name (i := 1) nd rfl (Or.inl rfl)) (pgs_cons (pg_name (i := 2) nd rfl (Or.inl rfl)) (pgs_cons (pg_name (i := 3) nd rfl (Or.inr rfl)) (pgs_cons (pg_name (i := 4) nd rfl (Or.inr rfl)) pgs_nil))))))
    (pss_cons (ps_if (PW.pt (pw_or (pt_not (pt_chain op_le op_le pe_int (pv 2) pe_int)) (pw_or (pt_cmpR op_lt (pv 3) pe_int (nomark _)) (pw_or (pt_cmpR op_eq (pe_op op_and (pv 3) pe_int) pe_int (nomark _)) (pw_or (pt_cmpR op_lt (pv 4) pe_int (nomark _)) (pw_or1 (pt_cmpR op_ne (pv 1) (pe_op op_shl (pv 3) (pv 2)) (nomark _)))))))) (pss_one (ps_ret pe_bl)) pss_nil)
    (pss_cons (ps_if (pt_cmpR op_ne (pe_H C_law_power (hr.mono (by decide)) rfl (pa_cons (pv 4) (pa_cons (pv 3) pa_nil))) (pe_op op_modN (pe_callTy call_intI (by rfl) B.int (by decide +kernel) (pa_cons pe_int pa_nil)) (pv 3)) (nomark _)) (pss_one (ps_ret pe_bl)) pss_nil)
    (pss_one (ps_ret (pe_cmpR (op_eqD hr.units) (pe_lc (own := [("_law_one", 5)]) (g := gName 5) rfl nd (pi_list (pe_H C_law_primes (hr.mono (by decide)) rfl (pa_cons (pv 4) pa_nil))) (blkOk_by (own := [("_law_one", 5)]) (N := N__law_is_least) (sc := defScope S__law_is_least) (by decide +kernel)) (fun _ _ _ _ _ => pg_name (i := 5) nd rfl (Or.inl rfl)) (fun _ _ _ _ _ => (pts_one (pt_cmpR op_eq (pe_H C_law_power (hr.mono (by decide)) rfl (pa_cons (pe_op op_fdivW (pv 4) (pv 5)) (pa_cons (pv 3) pa_nil))) (pe_op op_modN (pe_callTy call_intI (by rfl) B.int (by decide +kernel) (pa_cons pe_int pa_nil)) (pv 3)) (nomark _)))) (fun _ _ _ _ _ => (pv 5))) (pe_lst pa_nil) (nomark _))))))))), ?_⟩
  obtain ⟨a, rfl, hs⟩ := lv_inv hd
  have od := lo.od
  have ol := lo.odd_le
  have jl := lo.le
  have pp := lo.least.pos
  have pl := lo.ple
  have tw := lo.two_le
  refine ⟨_, rfl, _, lvD l, rfl, hd, _, rfl, iteF ?_⟩
  refine ⟨_, rfl, _, _, rfl, hs, rfl, _, rfl, iteDN (fun c => absurd rfl c) (fun _ => ?_)⟩
  -- all are ints
  refine ⟨_, rfl, a, rfl, ⟨_, hs⟩, fun D nD => ?_⟩
  refine lc_tup (xs := lvV l) (fun i H1 => Same H H1 ∧ H1 D = some (.lst [])) ⟨Same.new nD, upd_same⟩ (fun i H1 _ h => (Nd.of h.1).sqt hs) (fun i x H1 hx h => ?_) (fun H1 h => ?_)
  · obtain ⟨n, rfl⟩ : ∃ n : Int, x = .int n := by
      match i, hx with
      | 0, hx => cases hx; exact ⟨_, rfl⟩
      | 1, hx => cases hx; exact ⟨_, rfl⟩
      | 2, hx => cases hx; exact ⟨_, rfl⟩
      | 3, hx => cases hx; exact ⟨_, rfl⟩
      | i + 4, hx => simp [lvV] at hx
    refine ⟨rfl, _, rfl, _, .int n, rfl, .int _, _, rfl, iteF ?_⟩
    refine ⟨_, rfl, _, .int n, rfl, .int _, _, rfl, iteF h⟩
  obtain ⟨e1, hD⟩ := h
  refine ⟨(by show 0 ≤ sizeLine; decide), fun b nb => ?_⟩
  have e2 := e1.trans (Same.new (o := .lst []) nb)
  refine ⟨.list [], .list [], .lst (SqL.of (by rw [upd_ne (ne_of_none hD nb)]; exact hD)) .nil, .lst (SqL.of upd_same) .nil, shaped_nil, shaped_nil, _, rfl, ?_⟩
  rw [eqv_nil]
  refine iteF ?_
  generalize upd H1 b _ = H2 at e2 ⊢
  have hs2 := (Nd.of e2).sqt hs
  refine ⟨_, rfl, _, _, rfl, hs2, rfl, _, _, rfl, _, _, rfl, _, _, rfl, _, _, rfl, rfl, ?_⟩
  refine ⟨_, rfl, _, _, rfl, rfl, _, rfl, iteD (fun c => ?_) (fun c => absurd (show (0 : Int) ≤ (l.two : Int) by omega) c)⟩
  refine ⟨_, _, rfl, rfl, _, rfl, iteDN (fun c => absurd (show (l.two : Int) ≤ 20 by omega) c) (fun _ => ?_)⟩
  refine ⟨_, rfl, _, _, rfl, rfl, _, rfl, iteD (fun c => absurd c (show ¬ (l.odd : Int) < 1 by omega)) (fun _ => ?_)⟩
  refine ⟨_, rfl, _, _, rfl, rfl, rfl, _, rfl, eq_bit0 (fun c => absurd c (by omega)) (fun _ => ?_)⟩
  refine ⟨_, rfl, _, _, rfl, rfl, _, rfl, iteD (fun c => absurd c (show ¬ (l.per : Int) < 1 by omega)) (fun _ => ?_)⟩
  refine ⟨_, rfl, _, rfl, _, rfl, _, _, rfl, rfl, ⟨by omega, by omega, by omega⟩, rfl, _, rfl, iteDN (fun c => absurd ?_ c) (fun _ => ?_)⟩
  · show V.int (l.m : Int) = V.int ((l.odd : Int) * 2 ^ (l.two : Int).toNat)
    rw [Int.toNat_natCast, lo.em, lo.eq, Int.natCast_mul, Int.natCast_pow]
    rfl
  refine ⟨_, rfl, _, rfl, l.per, l.odd, rfl, (by omega), (by omega), (by omega), _, rfl, _, rfl, _, _, rfl, rfl, (by omega), rfl, _, rfl, ne_one (fun c => absurd lo.least.one c) (fun _ => ?_)⟩
  refine ⟨_, rfl, l.per, rfl, pp, (by omega), fun p H3 ps e3 np hp pr => ?_⟩
  refine ⟨_, rfl, ⟨_, SqL.of hp⟩, fun D2 nD2 => ?_⟩
  refine lc_list (xs := nI ps) (fun i H1 => Same H3 H1 ∧ H1 D2 = some (.lst [])) ⟨Same.new nD2, upd_same⟩ (fun i H1 _ h => h.1.seq (SqL.of hp)) (fun i x H1 hx h => ?_) (fun H1 h => ?_)
  · unfold nI at hx
    rw [List.getElem?_map] at hx
    obtain ⟨r, hr1, rfl⟩ := Option.map_eq_some_iff.mp hx
    have hr2 := pr.pr r (List.mem_of_getElem? hr1)
    have r2 := hr2.1.two
    have rl := Nat.le_of_dvd pp hr2.2
    have dl : l.per / r ≤ l.per := Nat.div_le_self _ _
    refine ⟨rfl, _, rfl, _, rfl, _, _, rfl, rfl, div_nat (by omega) (mil_lt (by omega)), _, rfl, l.per / r, l.odd, rfl, (by omega), (by omega), (by omega), _, rfl, _, rfl, _, _, rfl, rfl, (by omega), rfl, _, rfl, eq_one (fun c => absurd c (lo.least.done r hr2.1 hr2.2)) (fun _ => h)⟩
  obtain ⟨e4, hD2⟩ := h
  refine ⟨(by show 0 ≤ sizeLine; decide), fun b2 nb2 => ?_⟩
  have e5 := e4.trans (Same.new (o := .lst []) nb2)
  refine ⟨.list [], .list [], .lst (SqL.of (by rw [upd_ne (ne_of_none hD2 nb2)]; exact hD2)) .nil, .lst (SqL.of upd_same) .nil, shaped_nil, shaped_nil, ?_⟩
  rw [eqv_nil]
  exact q _ (e2.trans (e3.trans e5))
abbrev S_law : Stmt := top 23
abbrev N_law : List Str := ["_law_script", "_law_pen_here", "_law_again", "_law_some", "_law_modulus", "_law_told", "_law_at", "_law_one"]
abbrev P_law : List Str := ["_law_script"]
theorem sc_law : FnScope N_law P_law (defScope S_law) := ⟨rfl, rfl, rfl, by decide +kernel, rfl, by decide +kernel, by decide +kernel⟩
def Gd (xs : List V) : Prop := ∀ x ∈ xs, ∃ n : Nat, x = .int (n : Int) ∧ 1 ≤ n ∧ n ≤ 1000000
theorem Gd.nil : Gd [] := fun _ h => (nomatch h)
theorem Gd.cons {n : Nat} {xs : List V} (h : Gd xs) (h1 : 1 ≤ n) (h2 : n ≤ 1000000) : Gd (.int (n : Int) :: xs) := fun x hx => by
  rcases List.mem_cons.mp hx with e | e
  · exact ⟨n, e, h1, h2⟩
  · exact h x e
theorem Gd.app {xs ys : List V} (h : Gd xs) (g : Gd ys) : Gd (xs ++ ys) := fun x hx => by
  rcases List.mem_append.mp hx with e | e
  · exact h x e
  · exact g x e
theorem Gd.rep {xs : List V} (h : Gd xs) (k : Nat) : Gd (List.replicate k xs).flatten := fun x hx => by
  obtain ⟨l, hl, hx⟩ := List.mem_flatten.mp hx
  rw [(List.mem_replicate.mp hl).2] at hx
  exact h x hx
def spLaw (K : PySem.W.Frag) : Sp := fun vs H Q _ => ∃ (a : Addr) (ns : List Int), vs = [.ref a] ∧ SqL K H a (ns.map V.int) ∧ ns.length ≤ 63 ∧ ∀ H', Q (.bl true) H'
theorem ok_law (F : Fun K "law" "law" S_law f fd) (B : Blt mg) (C_law_pen : Has P w K mg base 1 "_law_pen" P__law_pen [] (spPen K)) (C_law_draw : Has P w K mg base 1 "_law_draw" P__law_draw [] (spPDraw K)) (C_law_pick : Has P w K mg base 2 "_law_pick" P__law_pick [] (spPPick K))
    (Cperiods : Has P w K mg base 6 "periods" P_periods [] (spLevels K)) (Cperiods_k : HasK P w K mg base 6 "periods" P_periods ["m"] (spLevels K)) (C_law_is_least : Has P w K mg base 2 "_law_is_least" P__law_is_least [] (spIs K)) : FnOk P w K mg base CX0 7 f fd P_law (spLaw K) := by
  have nd := sc_law.nd
  refine F.ok sc_law (fun vs H Q E h => ?_) (fun cdv A outer s H vs Q E hr h => ?_)
  · obtain ⟨a, ns, rfl, _⟩ := h
    rfl
  obtain ⟨a, ns, rfl, hS, h63, q⟩ := h
  refine ⟨_, (pss_cons (ps_set (i := 1) nd rfl (Or.inl rfl) (pe_H C_law_pen (hr.mono (by decide)) rfl (pa_cons (pv 0) pa_nil)))
    (pss_cons (ps_for PassesOwn.never rfl (pi_range1 (by rfl) B.range (pa_cons (pe_op op_add pe_int (pe_callB (call_min2 rfl) (by rfl) B.min (by decide +kernel) (pa_cons pe_int (pa_cons (pe_callB call_lenL (by rfl) B.len PySem.boot_len (pa_cons (pv 0) pa_nil)) pa_nil)))) pa_nil)) (pg_name (i := 2) nd rfl (Or.inl rfl)) (pss_cons (ps_set (i := 3) nd rfl (Or.inl rfl) (pe_lst (pa_cons pe_int (pa_cons pe_int (pa_cons pe_int (pa_cons pe_int (pa_cons pe_int (pa_cons pe_int (pa_cons pe_int (pa_cons pe_int (pa_cons (pe_op op_mul (pe_op op_pow pe_int pe_int) pe_int) (pa_cons (pe_op op_shl pe_int (pe_H C_law_draw (hr.mono (by decide)) rfl (pa_cons (pv 1) (pa_cons pe_int pa_nil)))) pa_nil))))))))))))
    (pss_cons (ps_set (i := 3) nd rfl (Or.inl rfl) (pe_op op_cat (pv 3) (pe_op op_rep (pe_lst (pa_cons (pe_op op_add pe_int (pe_H C_law_draw (hr.mono (by decide)) rfl (pa_cons (pv 1) (pa_cons pe_int pa_nil)))) (pa_cons (pe_op op_add pe_int (pe_H C_law_draw (hr.mono (by decide)) rfl (pa_cons (pv 1) (pa_cons pe_int pa_nil)))) pa_nil))) pe_int)))
    (C8.pss_cut (ps_if (pt_cmpR op_eq (pv 2) pe_int (nomark _)) (pss_one (ps_set (i := 3) nd rfl (Or.inl rfl) (pe_op op_cat (pe_lst (pa_cons pe_int (pa_cons pe_int (pa_cons pe_int (pa_cons pe_int (pa_cons (pe_op op_pow pe_int pe_int) (pa_cons (pe_op op_mul (pe_op op_pow pe_int pe_int) pe_int) pa_nil))))))) (pe_op op_rep (pe_lst (pa_cons (pe_op op_add pe_int (pe_H C_law_draw (hr.mono (by decide)) rfl (pa_cons (pv 1) (pa_cons pe_int pa_nil)))) pa_nil)) pe_int)))) pss_nil)
    (pss_cons (ps_set (i := 4) nd rfl (Or.inl rfl) (pe_H C_law_pick (hr.mono (by decide)) rfl (pa_cons (pv 1) (pa_cons (pv 3) pa_nil))))
    (pss_cons (ps_set (i := 5) nd rfl (Or.inl rfl) (pe_H Cperiods (hr.mono (by decide)) rfl (pa_cons (pv 4) pa_nil)))
    (C8.pss_cut (ps_if (PW.pt (pw_or (pt_not (pt_val (pe_callB (call_isiT_ K) (by rfl) B.isinstance (by decide +kernel) (pa_cons (pv 5) (pa_cons (pe_bltn (by rfl) B.tuple (by decide +kernel) (show RelV (.ty "tuple") (.type "tuple") from rfl)) pa_nil))))) (pw_or (pt_cmpR op_eq (pe_callB call_lenT (by rfl) B.len PySem.boot_len (pa_cons (pv 5) pa_nil)) pe_int (nomark _)) (pw_or1 (PW.pt (pw_and (pt_cmpR op_gt (pv 2) pe_int (nomark _)) (pw_and1 (pt_cmpR (op_neD hr.units) (pe_HK0 Cperiods_k (hr.mono (by decide)) rfl (pk_cons (pv 4) pk_nil)) (pv 5) (nomark _))))))))) (pss_one (ps_ret pe_bl)) pss_nil)
    (C8.pss_cut (ps_if (PW.pt (pw_or (pt_cmpR (op_neD hr.units) (pe_lc (own := [("_law_one", 7)]) (g := gName 7) rfl nd (pi_tup (pv 5)) (blkOk_by (own := [("_law_one", 7)]) (N := N_law) (sc := defScope S_law) (by decide +kernel)) (fun _ _ _ _ _ => pg_name (i := 7) nd rfl (Or.inl rfl)) (fun _ _ _ _ _ => (pts_one (pt_not (pt_val (pe_H C_law_is_least (hr.mono (by decide)) rfl (pa_cons (pv 7) pa_nil)))))) (fun _ _ _ _ _ => (pv 7))) (pe_lst pa_nil) (nomark _)) (pw_or1 (pt_cmpR op_ne (pe_ix ix_tup (pe_ix ix_tup (pv 5) pe_int (fun _ _ => rfl)) pe_int (fun _ _ => rfl)) (pv 4) (nomark _))))) (pss_one (ps_ret pe_bl)) pss_nil)
    (pss_cons (ps_for PassesOwn.never rfl (pi_range2 (by rfl) B.range (pa_cons pe_int (pa_cons (pe_callB call_lenT (by rfl) B.len PySem.boot_len (pa_cons (pv 5) pa_nil)) pa_nil))) (pg_name (i := 6) nd rfl (Or.inl rfl)) (pss_one (ps_if (PW.pt (pw_or (pt_cmpR op_eq (pe_ix ix_tup (pe_ix ix_tup (pv 5) (pe_op op_sub (pv 6) pe_int) (fun _ _ => rfl)) pe_int (fun _ _ => rfl)) pe_int (nomark _)) (pw_or1 (pt_cmpR op_ne (pe_ix ix_tup (pe_ix ix_tup (pv 5) (pv 6) (fun _ _ => rfl)) pe_int (fun _ _ => rfl)) (pe_ix ix_tup (pe_ix ix_tup (pv 5) (pe_op op_sub (pv 6) pe_int) (fun _ _ => rfl)) pe_int (fun _ _ => rfl)) (nomark _))))) (pss_one (ps_ret pe_bl)) pss_nil)))
    (pss_one (ps_if (pt_cmpR op_ne (pe_ix ix_tup (pe_ix ix_tup (pv 5) (pe_un un_neg pe_int) (fun _ _ => rfl)) pe_int (fun _ _ => rfl)) pe_int (nomark _)) (pss_one (ps_ret pe_bl)) pss_nil)))))))))))
    (pss_one (ps_ret pe_bl)))), ?_⟩
  refine ⟨_, rfl, a, ns, rfl, hS, h63, fun τ H0 e0 T0 => ?_⟩
  obtain ⟨m, hm, m5⟩ : ∃ m : Nat, 2 + (if (((ns.map V.int).length : Nat) : Int) < 3 then (((ns.map V.int).length : Nat) : Int) else 3) = (m : Int) ∧ m ≤ 5 := by
    rw [List.length_map]
    split
    · exact ⟨2 + ns.length, by omega, by omega⟩
    · exact ⟨5, by omega, by omega⟩
  refine ⟨_, rfl, _, _, rfl, e0.seq hS, _, _, rfl, _, _, rfl, rfl, (m : Int), (by rw [← hm]), (by omega), (by omega), ?_⟩
  refine for_range (lo := 0) (n := m) (fun i σ H' => ∃ (z2 z3 z4 z5 z6 : Option V), σ = [some (.ref a), some (.ref τ.t), z2, z3, z4, z5, z6, none] ∧ Pen K τ (1000 * (6 - i)) H') ⟨_, _, _, _, _, rfl, T0.mono (by decide)⟩ ?_ ?_
  · rintro i σ H' hi ⟨z2, z3, z4, z5, z6, rfl, T⟩
    obtain ⟨n0, hn0⟩ : ∃ n0, n0 = 1000 * (5 - i) := ⟨_, rfl⟩
    rw [show 6 - (i + 1) = 5 - i by omega, ← hn0]
    -- the first list
    refine ⟨_, _, rfl, rfl, (by unfold CPow; decide), _, _, rfl, rfl, .inl ⟨by decide, by decide⟩, _, rfl, τ, 20, n0 + 10, rfl, T.mono (by omega), (by decide), (by decide), fun d1 H1 e1 T1 l1 => ?_⟩
    refine ⟨_, _, rfl, rfl, ⟨by omega, by omega, by decide⟩, (by show 10 ≤ sizeLine; decide), fun p1 np1 => ?_⟩
    have g1 : Gd [.int 1, .int 2, .int 3, .int 225, .int 676, .int 5040, .int 19997, .int 20000, .int ((5 : Int) ^ (5 : Int).toNat * 2), .int (1 * 2 ^ (d1 : Int).toNat)] := by
      have hp : (1 : Int) * 2 ^ (d1 : Int).toNat = ((2 ^ d1 : Nat) : Int) := by rw [Int.one_mul, Int.toNat_natCast, Int.natCast_pow]; rfl
      have hb : 2 ^ d1 ≤ 2 ^ 19 := Nat.pow_le_pow_right (by decide) (by omega)
      have h19 : (2 : Nat) ^ 19 = 524288 := by decide
      rw [hp]
      exact ((((((((((Gd.nil.cons (n := 2 ^ d1) (Nat.two_pow_pos _) (by omega)).cons (n := 6250) (by decide) (by decide)).cons (n := 20000) (by decide) (by decide)).cons (n := 19997) (by decide) (by decide)).cons (n := 5040) (by decide) (by decide)).cons (n := 676) (by decide) (by decide)).cons (n := 225) (by decide) (by decide)).cons (n := 3) (by decide) (by decide)).cons (n := 2) (by decide) (by decide)).cons (n := 1) (by decide) (by decide))
    have lx : [V.int 1, .int 2, .int 3, .int 225, .int 676, .int 5040, .int 19997, .int 20000, .int ((5 : Int) ^ (5 : Int).toNat * 2), .int (1 * 2 ^ (d1 : Int).toNat)].length = 10 := rfl
    have T2 := T1.new (o := .lst [.int 1, .int 2, .int 3, .int 225, .int 676, .int 5040, .int 19997, .int 20000, .int ((5 : Int) ^ (5 : Int).toNat * 2), .int (1 * 2 ^ (d1 : Int).toNat)]) np1
    have k1 : upd H1 p1 (.lst [.int 1, .int 2, .int 3, .int 225, .int 676, .int 5040, .int 19997, .int 20000, .int ((5 : Int) ^ (5 : Int).toNat * 2), .int (1 * 2 ^ (d1 : Int).toNat)]) p1 = _ := upd_same
    generalize [V.int 1, .int 2, .int 3, .int 225, .int 676, .int 5040, .int 19997, .int 20000, .int ((5 : Int) ^ (5 : Int).toNat * 2), .int (1 * 2 ^ (d1 : Int).toNat)] = xs1 at g1 T2 k1 lx ⊢
    -- more of them
    have put3 : ∀ (z : V), ([some (.ref a), some (.ref τ.t), some (.int (0 + (i : Int))), z3, z4, z5, z6, none] : L2.St).set 3 (some z) = [some (.ref a), some (.ref τ.t), some (.int (0 + (i : Int))), some z, z4, z5, z6, none] := fun z => rfl
    refine ⟨_, rfl, _, rfl, τ, 20000, n0 + 9, rfl, T2, (by decide), (by decide), fun d2 H2 e2 T3 l2 => ?_⟩
    refine ⟨_, _, rfl, rfl, _, rfl, τ, 400, n0 + 8, rfl, T3, (by decide), (by decide), fun d3 H3 e3 T4 l3 => ?_⟩
    refine ⟨_, _, rfl, rfl, (by show 2 ≤ sizeLine; decide), fun p2 np2 => ?_⟩
    have k1' := (e2.trans e3).lst k1
    have k2 := (Nd.new (o := .lst [.int (1 + (d2 : Int)), .int (1 + (d3 : Int))]) np2).lst k1'
    refine ⟨_, _, _, rfl, rfl, upd_same, (by decide), (by decide), (by show 2 * 5 ≤ sizeLine; decide), fun p3 np3 => ?_⟩
    have g2 : Gd [.int (1 + (d2 : Int)), .int (1 + (d3 : Int))] := by
      rw [show (1 : Int) + (d2 : Int) = ((1 + d2 : Nat) : Int) by omega, show (1 : Int) + (d3 : Int) = ((1 + d3 : Nat) : Int) by omega]
      exact (Gd.nil.cons (n := 1 + d3) (by omega) (by omega)).cons (n := 1 + d2) (by omega) (by omega)
    have g3 := g2.rep 5
    have T5 := T4.new (o := .lst [.int (1 + (d2 : Int)), .int (1 + (d3 : Int))]) np2
    have k3 := (Nd.new (o := .lst (List.replicate 5 [.int (1 + (d2 : Int)), .int (1 + (d3 : Int))]).flatten) np3).lst k2
    have T6 := T5.new (o := .lst (List.replicate 5 [.int (1 + (d2 : Int)), .int (1 + (d3 : Int))]).flatten) np3
    have lx1 : xs1.length = 10 := lx
    refine ⟨_, _, _, _, rfl, rfl, k3, upd_same, (by rw [lx1]; show 10 + 10 ≤ sizeLine; decide), fun p4 np4 => ?_⟩
    have T7 := T6.new (o := .lst (xs1 ++ (List.replicate 5 [.int (1 + (d2 : Int)), .int (1 + (d3 : Int))]).flatten)) np4
    have g4 := g1.app g3
    have l4 : (xs1 ++ (List.replicate 5 [V.int (1 + (d2 : Int)), .int (1 + (d3 : Int))]).flatten).length = 20 := by rw [List.length_append, lx1]; rfl
    refine ⟨fun σ H' => ∃ (p : Addr) (xs : List V), σ = [some (.ref a), some (.ref τ.t), some (.int (0 + (i : Int))), some (.ref p), z4, z5, z6, none] ∧ H' p = some (.lst xs) ∧ Gd xs ∧ 1 ≤ xs.length ∧ xs.length ≤ 100 ∧ Pen K τ (n0 + 7) H', ?_, ?_⟩
    · refine ⟨_, rfl, rfl, _, rfl, iteD (fun c => ?_) (fun c => ?_)⟩
      · refine ⟨_, _, rfl, rfl, (by unfold CPow; decide), _, _, rfl, rfl, (by unfold CPow; decide), _, _, rfl, rfl, .inl ⟨by decide, by decide⟩, (by show 6 ≤ sizeLine; decide), fun p5 np5 => ?_⟩
        have T8 := T7.new (o := .lst [.int 999983, .int 999999, .int 1000000, .int 720720, .int ((3 : Int) ^ (12 : Int).toNat), .int ((5 : Int) ^ (8 : Int).toNat * 2)]) np5
        refine ⟨_, rfl, τ, 980000, n0 + 7, rfl, T8, (by decide), (by decide), fun d4 H4 e4 T9 l4' => ?_⟩
        refine ⟨_, _, rfl, rfl, (by show 1 ≤ sizeLine; decide), fun p6 np6 => ?_⟩
        refine ⟨_, _, _, rfl, rfl, upd_same, (by decide), (by decide), (by show 1 * 5 ≤ sizeLine; decide), fun p7 np7 => ?_⟩
        have k5 := (Nd.new (o := .lst (List.replicate 5 [.int (20001 + (d4 : Int))]).flatten) np7).lst ((Nd.new (o := .lst [.int (20001 + (d4 : Int))]) np6).lst (e4.lst (a := p5) upd_same))
        refine ⟨_, _, _, _, rfl, rfl, k5, upd_same, (by show 6 + 5 ≤ sizeLine; decide), fun p8 np8 => ?_⟩
        refine ⟨p8, _, rfl, upd_same, ?_, (by show 1 ≤ 6 + 5; decide), (by show 6 + 5 ≤ 100; decide), ((T9.new np6).new np7).new np8⟩
        refine Gd.app ?_ (Gd.rep ?_ 5)
        · exact ((((((Gd.nil.cons (n := 781250) (by decide) (by decide)).cons (n := 531441) (by decide) (by decide)).cons (n := 720720) (by decide) (by decide)).cons (n := 1000000) (by decide) (by decide)).cons (n := 999999) (by decide) (by decide)).cons (n := 999983) (by decide) (by decide))
        · show Gd [.int ((20001 : Int) + (d4 : Int))]
          rw [show (20001 : Int) + (d4 : Int) = ((20001 + d4 : Nat) : Int) by omega]
          exact Gd.nil.cons (by omega) (by omega)
      · exact ⟨p4, _, rfl, upd_same, g4, Nat.le_trans (by decide : 1 ≤ 20) (Nat.le_of_eq l4.symm), Nat.le_trans (Nat.le_of_eq l4) (by decide), T7.mono (by omega)⟩
    rintro σ H' ⟨p, xs, rfl, hp, gx, x1, x2, T8⟩
    refine ⟨_, rfl, _, rfl, τ, p, xs, n0 + 6, rfl, SqL.of hp, (by intro z; rw [z] at x1; simp at x1), (by omega), T8, fun x j H4 e4 T9 hx => ?_⟩
    obtain ⟨n, rfl, n1, n2⟩ := gx x (List.mem_of_getElem? hx)
    refine ⟨_, rfl, n, rfl, n1, n2, fun v H5 ls e5 hd ch ll => ?_⟩
    have T10 := T9.same e5
    obtain ⟨ls', l, k, rfl, ct, lo, o1⟩ := ch.ex
    obtain ⟨lk0, lk⟩ := ct.link lo
    have hdd := hd
    cases hd with
    | @tup c ys _ hs ha =>
    have ll' : ls'.length + 1 ≤ 1000001 := by simpa using ll
    have ly : ys.length = ls'.length + 1 := by
      have := dps_length ha
      simpa using this
    refine ⟨fun σ H' => σ = [some (.ref a), some (.ref τ.t), some (.int (0 + (i : Int))), some (.ref p), some (.int (n : Int)), some (.ref c), z6, none] ∧ Same H5 H', ?_, ?_⟩
    · refine ⟨_, rfl, _, _, rfl, hdd, _, rfl, iteF ?_⟩
      refine ⟨_, rfl, _, _, rfl, hs, rfl, _, rfl, iteD (fun z => ?_) (fun _ => ?_)⟩
      · rw [ly] at z; injection z with z; omega
      refine ⟨_, rfl, _, _, rfl, rfl, _, rfl, iteD (fun z => ?_) (fun _ => iteF ⟨rfl, Same.refl _⟩)⟩
      refine ⟨_, rfl, n, rfl, n1, n2, fun v2 H6 ls2 e6 hd2 ch2 ll2 => ?_⟩
      have el := ch2.uniq ch
      subst el
      refine ⟨_, rfl, _, _, hd2, (Nd.of e6).d hdd, shaped_lvs _, shaped_lvs _, _, rfl, ?_⟩
      rw [SeqAt.eqv_refl _ (canlay_lvs _)]
      exact iteF ⟨rfl, e6⟩
    rintro σ H6 ⟨rfl, e6⟩
    have hs6 := (Nd.of e6).sqt hs
    have ha6 := (Nd.of e6).ds ha
    refine ⟨fun σ H' => σ = [some (.ref a), some (.ref τ.t), some (.int (0 + (i : Int))), some (.ref p), some (.int (n : Int)), some (.ref c), z6, none] ∧ Same H6 H', ?_, ?_⟩
    · refine ⟨_, rfl, c, rfl, ⟨_, hs6⟩, fun D nD => ?_⟩
      refine lc_tup (xs := ys) (fun i H1 => Same H6 H1 ∧ H1 D = some (.lst [])) ⟨Same.new nD, upd_same⟩ (fun i H1 _ h => (Nd.of h.1).sqt hs6) (fun i x H1 hx h => ?_) (fun H1 h => ?_)
      · obtain ⟨e7, hD⟩ := h
        obtain ⟨d, hd1, dp⟩ := dps_get ha6 hx
        rw [List.getElem?_map] at hd1
        obtain ⟨l2, hl2, rfl⟩ := Option.map_eq_some_iff.mp hd1
        refine ⟨rfl, _, rfl, x, l2, rfl, (Nd.of e7).d dp, ch.all l2 (List.mem_of_getElem? hl2), fun H2 e8 => ?_⟩
        exact ⟨_, rfl, iteF ⟨e7.trans e8, e8 _ _ hD⟩⟩
      obtain ⟨e7, hD⟩ := h
      refine ⟨(by show 0 ≤ sizeLine; decide), fun b nb => ?_⟩
      have e8 := e7.trans (Same.new (o := .lst []) nb)
      refine ⟨.list [], .list [], .lst (SqL.of (by rw [upd_ne (ne_of_none hD nb)]; exact hD)) .nil, .lst (SqL.of upd_same) .nil, shaped_nil, shaped_nil, _, rfl, ?_⟩
      rw [eqv_nil]
      refine iteF ?_
      obtain ⟨l0, hl0, em0⟩ := Option.map_eq_some_iff.mp lk0
      obtain ⟨b0, hb0, hq0⟩ := told_at ((Nd.of e8).ds ha6) hl0
      refine ⟨_, rfl, _, _, _, _, rfl, rfl, (Nd.of e8).sqt hs6, atI_nat (j := 0) hb0, _, _, _, _, rfl, rfl, hq0, atI_nat (j := 0) rfl, _, rfl, rfl, _, rfl, ne_nat (fun z => absurd em0 z) (fun _ => ⟨rfl, e8⟩)⟩
    rintro σ H7 ⟨rfl, e7⟩
    have hs7 := (Nd.of e7).sqt hs6
    have ha7 := (Nd.of e7).ds ha6
    refine ⟨_, rfl, _, _, rfl, hs7, _, _, rfl, ⟨by omega, by omega, by omega, by omega⟩, ?_⟩
    refine for_range (lo := 1) (n := ((ys.length : Int) - 1).toNat) (fun i' σ H' => ∃ z, σ = [some (.ref a), some (.ref τ.t), some (.int (0 + (i : Int))), some (.ref p), some (.int (n : Int)), some (.ref c), z, none] ∧ H' = H7) ⟨z6, rfl, rfl⟩ ?_ ?_
    · rintro i' σ H' hi' ⟨z, rfl, rfl⟩
      have hx : i' + 1 < ls'.length + 1 := by omega
      obtain ⟨x, hx1⟩ : ∃ x, (ls' ++ [l])[i']? = some x := ⟨_, List.getElem?_eq_getElem (by rw [List.length_append]; show i' < ls'.length + 1; omega)⟩
      obtain ⟨y, hy1⟩ : ∃ y, (ls' ++ [l])[i' + 1]? = some y := ⟨_, List.getElem?_eq_getElem (by rw [List.length_append]; show i' + 1 < ls'.length + 1; omega)⟩
      obtain ⟨q1, q2⟩ := lk i' x y hx1 hy1
      obtain ⟨bx, hbx, hqx⟩ := told_at ha7 hx1
      obtain ⟨by_, hby, hqy⟩ := told_at ha7 hy1
      have f1 : atI ys (1 + (i' : Int) - 1) = some (.ref bx) := by rw [show 1 + (i' : Int) - 1 = (i' : Int) by omega]; exact atI_nat hbx
      have f2 : atI ys (1 + (i' : Int)) = some (.ref by_) := by rw [show 1 + (i' : Int) = ((i' + 1 : Nat) : Int) by omega]; exact atI_nat hby
      refine ⟨_, rfl, _, rfl, _, _, rfl, rfl, _, _, _, _, rfl, rfl, hs7, f1, _, _, _, _, rfl, rfl, hqx, atI_nat (j := 2) rfl, rfl, _, rfl, eq_nat (b := 1) (fun z => absurd z q1) (fun _ => ?_)⟩
      refine ⟨_, rfl, _, rfl, _, _, _, _, rfl, rfl, hs7, f2, _, _, _, _, rfl, rfl, hqy, atI_nat (j := 0) rfl, _, rfl, _, rfl, _, _, rfl, rfl, _, _, _, _, rfl, rfl, hs7, f1, _, _, _, _, rfl, rfl, hqx, atI_nat (j := 3) rfl, rfl, _, rfl, ne_nat (fun z => absurd q2 z) (fun _ => ?_)⟩
      exact ⟨_, rfl, rfl⟩
    · rintro σ H' ⟨z, rfl, rfl⟩
      obtain ⟨bl, hbl, hql⟩ := told_at (i := ls'.length) ha7 (show (ls' ++ [l])[ls'.length]? = some l by rw [List.getElem?_append_right (Nat.le_refl _), Nat.sub_self]; rfl)
      have f1 : atI ys (-1) = some (.ref bl) := by
        obtain ⟨m', v', rfl⟩ : ∃ m' v', ys = m' ++ [v'] := by
          rcases List.eq_nil_or_concat ys with e | ⟨m', v', e⟩
          · rw [e] at ly; simp at ly
          · exact ⟨m', v', by rw [e, List.concat_eq_append]⟩
        rw [List.length_append] at ly
        have lm : m'.length = ls'.length := by simpa using ly
        rw [List.getElem?_append_right (by omega), show ls'.length - m'.length = 0 by omega] at hbl
        cases hbl
        exact atI_last ..
      refine ⟨_, rfl, _, rfl, _, _, _, _, rfl, rfl, hs7, f1, _, _, _, _, rfl, rfl, hql, atI_nat (j := 2) rfl, rfl, _, rfl, ne_nat (b := 1) (fun z => absurd o1 z) (fun _ => ?_)⟩
      exact ⟨_, _, _, _, _, rfl, ((T10.same e6).same e7).mono (by omega)⟩
  · rintro σ H' _
    exact q _
end
end Fb
namespace Fb
open PySem L2
theorem all_mk {l : PySem.W.OpenLaw} {w : World} {K : PySem.W.Frag} {h : Heap} {mg : Str → Option Value} {fa : Addr} {f1 f2 f3 f4 f5 f6 f7 f8 f9 f10 f11 f12 f13 f14 f15 f16 : Addr} (X : K.In h) (G : h.Ns mainGlobals mg) (hfa : mg "law" = some (.ref fa))
    {od1 an1 od2 an2 od3 an3 od4 an4 od5 an5 od6 an6 od7 an7 od8 an8 od9 an9 od10 an10 od11 an11 od12 an12 od13 an13 od14 an14 od15 an15 od16 an16 : Option Addr} {sl1 sl2 sl3 sl4 sl5 sl6 sl7 sl8 sl9 sl10 sl11 sl12 sl13 sl14 sl15 sl16 : Array (Option Value)} {oc1 kV1 dc1 pm1 cd1 ct1 oc2 kV2 dc2 pm2 cd2 ct2 oc3 kV3 dc3 pm3 cd3 ct3 oc4 kV4 dc4 pm4 cd4 ct4 oc5 kV5 dc5 pm5 cd5 ct5 oc6 kV6 dc6 pm6 cd6 ct6 oc7 kV7 dc7 pm7 cd7 ct7 oc8 kV8 dc8 pm8 cd8 ct8 oc9 kV9 dc9 pm9 cd9 ct9 oc10 kV10 dc10 pm10 cd10 ct10 oc11 kV11 dc11 pm11 cd11 ct11 oc12 kV12 dc12 pm12 cd12 ct12 oc13 kV13 dc13 pm13 cd13 ct13 oc14 kV14 dc14 pm14 cd14 ct14 oc15 kV15 dc15 pm15 cd15 ct15 oc16 kV16 dc16 pm16 cd16 ct16 : Value}
    (a1 : PySem.W.nsIn K mainGlobals "is_modulus" = some (some (.ref f1))) (l1 : K.lookup f1 = some ⟨oc1, od1, .func (PySem.W.fnOf "is_modulus" "is_modulus" (defArgs S_is_modulus) (defBody S_is_modulus) (defScope S_is_modulus) .none kV1 dc1 pm1 an1 cd1 ct1), sl1⟩) (c1 : PySem.W.codeIn K cd1 "is_modulus" = true) (k1 : PySem.W.keepIn K (.ref f1) = true)
    (a2 : PySem.W.nsIn K mainGlobals "is_level_number" = some (some (.ref f2))) (l2 : K.lookup f2 = some ⟨oc2, od2, .func (PySem.W.fnOf "is_level_number" "is_level_number" (defArgs S_is_level_number) (defBody S_is_level_number) (defScope S_is_level_number) .none kV2 dc2 pm2 an2 cd2 ct2), sl2⟩) (c2 : PySem.W.codeIn K cd2 "is_level_number" = true) (k2 : PySem.W.keepIn K (.ref f2) = true)
    (a3 : PySem.W.nsIn K mainGlobals "least_levels" = some (some (.ref f3))) (l3 : K.lookup f3 = some ⟨oc3, od3, .func (PySem.W.fnOf "least_levels" "least_levels" (defArgs S_least_levels) (defBody S_least_levels) (defScope S_least_levels) .none kV3 dc3 pm3 an3 cd3 ct3), sl3⟩) (c3 : PySem.W.codeIn K cd3 "least_levels" = true) (k3 : PySem.W.keepIn K (.ref f3) = true)
    (a4 : PySem.W.nsIn K mainGlobals "least_level" = some (some (.ref f4))) (l4 : K.lookup f4 = some ⟨oc4, od4, .func (PySem.W.fnOf "least_level" "least_level" (defArgs S_least_level) (defBody S_least_level) (defScope S_least_level) .none kV4 dc4 pm4 an4 cd4 ct4), sl4⟩) (c4 : PySem.W.codeIn K cd4 "least_level" = true) (k4 : PySem.W.keepIn K (.ref f4) = true)
    (a5 : PySem.W.nsIn K mainGlobals "least_period" = some (some (.ref f5))) (l5 : K.lookup f5 = some ⟨oc5, od5, .func (PySem.W.fnOf "least_period" "least_period" (defArgs S_least_period) (defBody S_least_period) (defScope S_least_period) .none kV5 dc5 pm5 an5 cd5 ct5), sl5⟩) (c5 : PySem.W.codeIn K cd5 "least_period" = true) (k5 : PySem.W.keepIn K (.ref f5) = true)
    (a6 : PySem.W.nsIn K mainGlobals "coprimes_up_to" = some (some (.ref f6))) (l6 : K.lookup f6 = some ⟨oc6, od6, .func (PySem.W.fnOf "coprimes_up_to" "coprimes_up_to" (defArgs S_coprimes_up_to) (defBody S_coprimes_up_to) (defScope S_coprimes_up_to) .none kV6 dc6 pm6 an6 cd6 ct6), sl6⟩) (c6 : PySem.W.codeIn K cd6 "coprimes_up_to" = true) (k6 : PySem.W.keepIn K (.ref f6) = true)
    (a7 : PySem.W.nsIn K mainGlobals "primes_in" = some (some (.ref f7))) (l7 : K.lookup f7 = some ⟨oc7, od7, .func (PySem.W.fnOf "primes_in" "primes_in" (defArgs S_primes_in) (defBody S_primes_in) (defScope S_primes_in) .none kV7 dc7 pm7 an7 cd7 ct7), sl7⟩) (c7 : PySem.W.codeIn K cd7 "primes_in" = true) (k7 : PySem.W.keepIn K (.ref f7) = true)
    (a8 : PySem.W.nsIn K mainGlobals "rest_of_near_power" = some (some (.ref f8))) (l8 : K.lookup f8 = some ⟨oc8, od8, .func (PySem.W.fnOf "rest_of_near_power" "rest_of_near_power" (defArgs S_rest_of_near_power) (defBody S_rest_of_near_power) (defScope S_rest_of_near_power) .none kV8 dc8 pm8 an8 cd8 ct8), sl8⟩) (c8 : PySem.W.codeIn K cd8 "rest_of_near_power" = true) (k8 : PySem.W.keepIn K (.ref f8) = true)
    (a9 : PySem.W.nsIn K mainGlobals "periods" = some (some (.ref f9))) (l9 : K.lookup f9 = some ⟨oc9, od9, .func (PySem.W.fnOf "periods" "periods" (defArgs S_periods) (defBody S_periods) (defScope S_periods) .none kV9 dc9 pm9 an9 cd9 ct9), sl9⟩) (c9 : PySem.W.codeIn K cd9 "periods" = true) (k9 : PySem.W.keepIn K (.ref f9) = true)
    (a10 : PySem.W.nsIn K mainGlobals "_law_pen" = some (some (.ref f10))) (l10 : K.lookup f10 = some ⟨oc10, od10, .func (PySem.W.fnOf "_law_pen" "_law_pen" (defArgs S__law_pen) (defBody S__law_pen) (defScope S__law_pen) .none kV10 dc10 pm10 an10 cd10 ct10), sl10⟩) (c10 : PySem.W.codeIn K cd10 "_law_pen" = true) (k10 : PySem.W.keepIn K (.ref f10) = true)
    (a11 : PySem.W.nsIn K mainGlobals "_law_draw" = some (some (.ref f11))) (l11 : K.lookup f11 = some ⟨oc11, od11, .func (PySem.W.fnOf "_law_draw" "_law_draw" (defArgs S__law_draw) (defBody S__law_draw) (defScope S__law_draw) .none kV11 dc11 pm11 an11 cd11 ct11), sl11⟩) (c11 : PySem.W.codeIn K cd11 "_law_draw" = true) (k11 : PySem.W.keepIn K (.ref f11) = true)
    (a12 : PySem.W.nsIn K mainGlobals "_law_pick" = some (some (.ref f12))) (l12 : K.lookup f12 = some ⟨oc12, od12, .func (PySem.W.fnOf "_law_pick" "_law_pick" (defArgs S__law_pick) (defBody S__law_pick) (defScope S__law_pick) .none kV12 dc12 pm12 an12 cd12 ct12), sl12⟩) (c12 : PySem.W.codeIn K cd12 "_law_pick" = true) (k12 : PySem.W.keepIn K (.ref f12) = true)
    (a13 : PySem.W.nsIn K mainGlobals "_law_power" = some (some (.ref f13))) (l13 : K.lookup f13 = some ⟨oc13, od13, .func (PySem.W.fnOf "_law_power" "_law_power" (defArgs S__law_power) (defBody S__law_power) (defScope S__law_power) .none kV13 dc13 pm13 an13 cd13 ct13), sl13⟩) (c13 : PySem.W.codeIn K cd13 "_law_power" = true) (k13 : PySem.W.keepIn K (.ref f13) = true)
    (a14 : PySem.W.nsIn K mainGlobals "_law_primes" = some (some (.ref f14))) (l14 : K.lookup f14 = some ⟨oc14, od14, .func (PySem.W.fnOf "_law_primes" "_law_primes" (defArgs S__law_primes) (defBody S__law_primes) (defScope S__law_primes) .none kV14 dc14 pm14 an14 cd14 ct14), sl14⟩) (c14 : PySem.W.codeIn K cd14 "_law_primes" = true) (k14 : PySem.W.keepIn K (.ref f14) = true)
    (a15 : PySem.W.nsIn K mainGlobals "_law_is_least" = some (some (.ref f15))) (l15 : K.lookup f15 = some ⟨oc15, od15, .func (PySem.W.fnOf "_law_is_least" "_law_is_least" (defArgs S__law_is_least) (defBody S__law_is_least) (defScope S__law_is_least) .none kV15 dc15 pm15 an15 cd15 ct15), sl15⟩) (c15 : PySem.W.codeIn K cd15 "_law_is_least" = true) (k15 : PySem.W.keepIn K (.ref f15) = true)
    (a16 : PySem.W.nsIn K mainGlobals "law" = some (some (.ref f16))) (l16 : K.lookup f16 = some ⟨oc16, od16, .func (PySem.W.fnOf "law" "law" (defArgs S_law) (defBody S_law) (defScope S_law) .none kV16 dc16 pm16 an16 cd16 ct16), sl16⟩) (c16 : PySem.W.codeIn K cd16 "law" = true) (k16 : PySem.W.keepIn K (.ref f16) = true)
    {tk_MOST_MODULUS : Tok} (g_MOST_MODULUS : PySem.W.nsIn K mainGlobals "MOST_MODULUS" = some (some (.int 1000000 tk_MOST_MODULUS)))
    {tk_FIRST_BITS : Tok} (g_FIRST_BITS : PySem.W.nsIn K mainGlobals "FIRST_BITS" = some (some (.int 9 tk_FIRST_BITS)))
    (z_len : PySem.W.nsIn K mainGlobals "len" = some none)
    (z_int : PySem.W.nsIn K mainGlobals "int" = some none)
    (z_isinstance : PySem.W.nsIn K mainGlobals "isinstance" = some none)
    (z_sum : PySem.W.nsIn K mainGlobals "sum" = some none)
    (z_max : PySem.W.nsIn K mainGlobals "max" = some none)
    (z_min : PySem.W.nsIn K mainGlobals "min" = some none)
    (z_sorted : PySem.W.nsIn K mainGlobals "sorted" = some none)
    (z_tuple : PySem.W.nsIn K mainGlobals "tuple" = some none)
    (z_list : PySem.W.nsIn K mainGlobals "list" = some none)
    (z_range : PySem.W.nsIn K mainGlobals "range" = some none)
    (z_repr : PySem.W.nsIn K mainGlobals "repr" = some none)
    (z_bool : PySem.W.nsIn K mainGlobals "bool" = some none)
    (z_abs : PySem.W.nsIn K mainGlobals "abs" = some none)
    (z_enumerate : PySem.W.nsIn K mainGlobals "enumerate" = some none)
    (z_zip : PySem.W.nsIn K mainGlobals "zip" = some none)
    (z_str : PySem.W.nsIn K mainGlobals "str" = some none)
    (z_dict : PySem.W.nsIn K mainGlobals "dict" = some none) :
    ∃ fd : FuncData, (∀ (s : Shared) (v : Value), BindsTo s fd ⟨[v], []⟩ [("_law_script", v)]) ∧ ∀ base : Heap, K.In base → base.Ns mainGlobals mg → FnOk l.prog w K mg base CX0 7 fa fd ["_law_script"] (spLaw K) := by
  have e := hfa.symm.trans (PySem.W.mg_of X G a16)
  cases e
  have F_is_modulus := fun_mk (st := S_is_modulus) l1 c1 k1
  have b_is_modulus := F_is_modulus.binds (ps := P_is_modulus) fun _ _ _ _ _ _ us hl => match us, hl with | [_], _ => rfl
  have m_is_modulus := PySem.W.mg_of X G a1
  have F_is_level_number := fun_mk (st := S_is_level_number) l2 c2 k2
  have b_is_level_number := F_is_level_number.binds (ps := P_is_level_number) fun _ _ _ _ _ _ us hl => match us, hl with | [_], _ => rfl
  have m_is_level_number := PySem.W.mg_of X G a2
  have F_least_levels := fun_mk (st := S_least_levels) l3 c3 k3
  have b_least_levels := F_least_levels.binds (ps := P_least_levels) fun _ _ _ _ _ _ us hl => match us, hl with | [_], _ => rfl
  have m_least_levels := PySem.W.mg_of X G a3
  have F_least_level := fun_mk (st := S_least_level) l4 c4 k4
  have b_least_level := F_least_level.binds (ps := P_least_level) fun _ _ _ _ _ _ us hl => match us, hl with | [_], _ => rfl
  have m_least_level := PySem.W.mg_of X G a4
  have F_least_period := fun_mk (st := S_least_period) l5 c5 k5
  have b_least_period := F_least_period.binds (ps := P_least_period) fun _ _ _ _ _ _ us hl => match us, hl with | [_], _ => rfl
  have m_least_period := PySem.W.mg_of X G a5
  have F_coprimes_up_to := fun_mk (st := S_coprimes_up_to) l6 c6 k6
  have b_coprimes_up_to := F_coprimes_up_to.binds (ps := P_coprimes_up_to) fun _ _ _ _ _ _ us hl => match us, hl with | [_], _ => rfl
  have m_coprimes_up_to := PySem.W.mg_of X G a6
  have F_primes_in := fun_mk (st := S_primes_in) l7 c7 k7
  have b_primes_in := F_primes_in.binds (ps := P_primes_in) fun _ _ _ _ _ _ us hl => match us, hl with | [_], _ => rfl
  have m_primes_in := PySem.W.mg_of X G a7
  have F_rest_of_near_power := fun_mk (st := S_rest_of_near_power) l8 c8 k8
  have b_rest_of_near_power := F_rest_of_near_power.binds (ps := P_rest_of_near_power) fun _ _ _ _ _ _ us hl => match us, hl with | [_, _], _ => rfl
  have m_rest_of_near_power := PySem.W.mg_of X G a8
  have F_periods := fun_mk (st := S_periods) l9 c9 k9
  have b_periods := F_periods.binds (ps := P_periods) fun _ _ _ _ _ _ us hl => match us, hl with | [_], _ => rfl
  have m_periods := PySem.W.mg_of X G a9
  have F__law_pen := fun_mk (st := S__law_pen) l10 c10 k10
  have b__law_pen := F__law_pen.binds (ps := P__law_pen) fun _ _ _ _ _ _ us hl => match us, hl with | [_], _ => rfl
  have m__law_pen := PySem.W.mg_of X G a10
  have F__law_draw := fun_mk (st := S__law_draw) l11 c11 k11
  have b__law_draw := F__law_draw.binds (ps := P__law_draw) fun _ _ _ _ _ _ us hl => match us, hl with | [_, _], _ => rfl
  have m__law_draw := PySem.W.mg_of X G a11
  have F__law_pick := fun_mk (st := S__law_pick) l12 c12 k12
  have b__law_pick := F__law_pick.binds (ps := P__law_pick) fun _ _ _ _ _ _ us hl => match us, hl with | [_, _], _ => rfl
  have m__law_pick := PySem.W.mg_of X G a12
  have F__law_power := fun_mk (st := S__law_power) l13 c13 k13
  have b__law_power := F__law_power.binds (ps := P__law_power) fun _ _ _ _ _ _ us hl => match us, hl with | [_, _], _ => rfl
  have m__law_power := PySem.W.mg_of X G a13
  have F__law_primes := fun_mk (st := S__law_primes) l14 c14 k14
  have b__law_primes := F__law_primes.binds (ps := P__law_primes) fun _ _ _ _ _ _ us hl => match us, hl with | [_], _ => rfl
  have m__law_primes := PySem.W.mg_of X G a14
  have F__law_is_least := fun_mk (st := S__law_is_least) l15 c15 k15
  have b__law_is_least := F__law_is_least.binds (ps := P__law_is_least) fun _ _ _ _ _ _ us hl => match us, hl with | [_], _ => rfl
  have m__law_is_least := PySem.W.mg_of X G a15
  have F_law := fun_mk (st := S_law) l16 c16 k16
  have MF_MOST_MODULUS := PySem.W.mg_of X G g_MOST_MODULUS
  have MF_FIRST_BITS := PySem.W.mg_of X G g_FIRST_BITS
  have B : Blt mg := ⟨PySem.W.mg_none_of X G z_len, PySem.W.mg_none_of X G z_int, PySem.W.mg_none_of X G z_isinstance, PySem.W.mg_none_of X G z_sum, PySem.W.mg_none_of X G z_max, PySem.W.mg_none_of X G z_min, PySem.W.mg_none_of X G z_sorted, PySem.W.mg_none_of X G z_tuple, PySem.W.mg_none_of X G z_list, PySem.W.mg_none_of X G z_range, PySem.W.mg_none_of X G z_repr, PySem.W.mg_none_of X G z_bool, PySem.W.mg_none_of X G z_abs, PySem.W.mg_none_of X G z_enumerate, PySem.W.mg_none_of X G z_zip, PySem.W.mg_none_of X G z_str, PySem.W.mg_none_of X G z_dict⟩
  refine ⟨PySem.W.fnOf "law" "law" (defArgs S_law) (defBody S_law) (defScope S_law) .none kV16 dc16 pm16 an16 cd16 ct16, fun s v => .of_eq rfl, fun base _ _ => ?_⟩
  have Cis_level_number : Has l.prog w K mg base 1 "is_level_number" P_is_level_number [] _ := ⟨_, _, [], ok_num F_is_level_number B MF_MOST_MODULUS, F_is_level_number.kp, m_is_level_number, .nil, b_is_level_number⟩
  have Cis_modulus : Has l.prog w K mg base 2 "is_modulus" P_is_modulus [] _ := ⟨_, _, [], ok_mod F_is_modulus Cis_level_number, F_is_modulus.kp, m_is_modulus, .nil, b_is_modulus⟩
  have Crest_of_near_power : Has l.prog w K mg base 1 "rest_of_near_power" P_rest_of_near_power [] _ := ⟨_, _, [], ok_pow F_rest_of_near_power B MF_FIRST_BITS, F_rest_of_near_power.kp, m_rest_of_near_power, .nil, b_rest_of_near_power⟩
  have Cprimes_in : Has l.prog w K mg base 1 "primes_in" P_primes_in [] _ := ⟨_, _, [], ok_primes F_primes_in, F_primes_in.kp, m_primes_in, .nil, b_primes_in⟩
  have Ccoprimes_up_to : Has l.prog w K mg base 2 "coprimes_up_to" P_coprimes_up_to [] _ := ⟨_, _, [], ok_phi F_coprimes_up_to Cprimes_in, F_coprimes_up_to.kp, m_coprimes_up_to, .nil, b_coprimes_up_to⟩
  have Cleast_period : Has l.prog w K mg base 3 "least_period" P_least_period [] _ := ⟨_, _, [], ok_per F_least_period Cprimes_in Ccoprimes_up_to Crest_of_near_power, F_least_period.kp, m_least_period, .nil, b_least_period⟩
  have Cleast_level : Has l.prog w K mg base 4 "least_level" P_least_level [] _ := ⟨_, _, [], ok_level F_least_level Cleast_period, F_least_level.kp, m_least_level, .nil, b_least_level⟩
  have Cleast_levels : Has l.prog w K mg base 5 "least_levels" P_least_levels [] _ := ⟨_, _, [], ok_levels F_least_levels B Cleast_level, F_least_levels.kp, m_least_levels, .nil, b_least_levels⟩
  have Cperiods : Has l.prog w K mg base 6 "periods" P_periods [] _ := ⟨_, _, [], ok_periods F_periods Cis_modulus Cleast_levels, F_periods.kp, m_periods, .nil, b_periods⟩
  have Cperiods_k : HasK l.prog w K mg base 6 "periods" P_periods ["m"] (spLevels K) := ⟨_, _, _, ok_periods F_periods Cis_modulus Cleast_levels, F_periods.kp, m_periods, Fb.Fun.kb1 F_periods (fun _ _ _ _ _ _ _ => rfl) (fun _ _ _ _ _ _ _ => rfl)⟩
  have C_law_power : Has l.prog w K mg base 1 "_law_power" P__law_power [] _ := ⟨_, _, [], ok_lpow F__law_power B, F__law_power.kp, m__law_power, .nil, b__law_power⟩
  have C_law_primes : Has l.prog w K mg base 1 "_law_primes" P__law_primes [] _ := ⟨_, _, [], ok_lprimes F__law_primes B, F__law_primes.kp, m__law_primes, .nil, b__law_primes⟩
  have C_law_pen : Has l.prog w K mg base 1 "_law_pen" P__law_pen [] _ := ⟨_, _, [], ok_pen F__law_pen B, F__law_pen.kp, m__law_pen, .nil, b__law_pen⟩
  have C_law_draw : Has l.prog w K mg base 1 "_law_draw" P__law_draw [] _ := ⟨_, _, [], ok_pdraw F__law_draw B, F__law_draw.kp, m__law_draw, .nil, b__law_draw⟩
  have C_law_pick : Has l.prog w K mg base 2 "_law_pick" P__law_pick [] _ := ⟨_, _, [], ok_ppick F__law_pick B C_law_draw, F__law_pick.kp, m__law_pick, .nil, b__law_pick⟩
  have C_law_is_least : Has l.prog w K mg base 2 "_law_is_least" P__law_is_least [] _ := ⟨_, _, [], ok_is F__law_is_least B C_law_power C_law_primes, F__law_is_least.kp, m__law_is_least, .nil, b__law_is_least⟩
  exact ok_law F_law B C_law_pen C_law_draw C_law_pick Cperiods Cperiods_k C_law_is_least
theorem walk {l : PySem.W.OpenLaw} {q : Program} {loose : List Str} {XP : (Str → Option Value) → Heap → Prop} {YP : World → Heap → Prop} {d : DefRec} {K : Params → PySem.W.Frag} (hn : l.most = some 63) (hdf : d.params.defaults = [])
    (hY : ∀ (w : World) (h : Heap), YP w h → (K w.params).In h)
    (F : ∀ (w : World) (mg : Str → Option Value) (fa : Addr) (h : Heap), (K w.params).In h → h.Ns mainGlobals mg → mg d.name = some (.ref fa) →
      ∃ fd : FuncData, (∀ (s : Shared) (u : Value), BindsTo s fd ⟨[u], []⟩ [("_law_script", u)]) ∧ ∀ base : Heap, (K w.params).In base → base.Ns mainGlobals mg → FnOk l.prog w (K w.params) mg base CX0 7 fa fd ["_law_script"] (spLaw (K w.params))) :
    PySem.W.WalkO q loose XP YP l.row.toRowW d [] (fun f vs => PySem.call f vs) :=
  L2.walk_of (n := 63) (k := 7) (x := "_law_script") (CX := fun _ => CX0) (sp := fun w => spLaw (K w.params)) hn (by decide) hdf ⟨rfl, by decide, by decide⟩ hY F (fun _ _ a ns hl _ hS => ⟨a, ns, rfl, hS, hl, fun _ => rfl⟩) fun _ _ _ _ _ z => z
end Fb
open PySem PySem.W PyProof.Rows
set_option maxRecDepth 100000 in
set_option maxHeartbeats 0 in
theorem PySem.Challenge.cw_farbits_k34_periods_are_least_holds : PySem.Challenge.rw_farbits_k34_periods_are_least.Holds := by
  w_on; o_law; k_head; (case hw => w_witness2)
  k_fill
  refine Fb.walk (l := PySem.Challenge.rw_farbits_k34_periods_are_least) rfl rfl (fun w h Y => PySem.W.kIn_of Y) ?F
  case F =>
    intro w mg fa h KX G hmg
    refine' Fb.all_mk KX G hmg ?a1 ?l1 ?c1 ?k1 ?a2 ?l2 ?c2 ?k2 ?a3 ?l3 ?c3 ?k3 ?a4 ?l4 ?c4 ?k4 ?a5 ?l5 ?c5 ?k5 ?a6 ?l6 ?c6 ?k6 ?a7 ?l7 ?c7 ?k7 ?a8 ?l8 ?c8 ?k8 ?a9 ?l9 ?c9 ?k9 ?a10 ?l10 ?c10 ?k10 ?a11 ?l11 ?c11 ?k11 ?a12 ?l12 ?c12 ?k12 ?a13 ?l13 ?c13 ?k13 ?a14 ?l14 ?c14 ?k14 ?a15 ?l15 ?c15 ?k15 ?a16 ?l16 ?c16 ?k16 ?g_MOST_MODULUS ?g_FIRST_BITS ?z_len ?z_int ?z_isinstance ?z_sum ?z_max ?z_min ?z_sorted ?z_tuple ?z_list ?z_range ?z_repr ?z_bool ?z_abs ?z_enumerate ?z_zip ?z_str ?z_dict
    (case a1 => k_is)
    (case l1 => k_is)
    (case c1 => k_is)
    (case k1 => k_is)
    (case a2 => k_is)
    (case l2 => k_is)
    (case c2 => k_is)
    (case k2 => k_is)
    (case a3 => k_is)
    (case l3 => k_is)
    (case c3 => k_is)
    (case k3 => k_is)
    (case a4 => k_is)
    (case l4 => k_is)
    (case c4 => k_is)
    (case k4 => k_is)
    (case a5 => k_is)
    (case l5 => k_is)
    (case c5 => k_is)
    (case k5 => k_is)
    (case a6 => k_is)
    (case l6 => k_is)
    (case c6 => k_is)
    (case k6 => k_is)
    (case a7 => k_is)
    (case l7 => k_is)
    (case c7 => k_is)
    (case k7 => k_is)
    (case a8 => k_is)
    (case l8 => k_is)
    (case c8 => k_is)
    (case k8 => k_is)
    (case a9 => k_is)
    (case l9 => k_is)
    (case c9 => k_is)
    (case k9 => k_is)
    (case a10 => k_is)
    (case l10 => k_is)
    (case c10 => k_is)
    (case k10 => k_is)
    (case a11 => k_is)
    (case l11 => k_is)
    (case c11 => k_is)
    (case k11 => k_is)
    (case a12 => k_is)
    (case l12 => k_is)
    (case c12 => k_is)
    (case k12 => k_is)
    (case a13 => k_is)
    (case l13 => k_is)
    (case c13 => k_is)
    (case k13 => k_is)
    (case a14 => k_is)
    (case l14 => k_is)
    (case c14 => k_is)
    (case k14 => k_is)
    (case a15 => k_is)
    (case l15 => k_is)
    (case c15 => k_is)
    (case k15 => k_is)
    (case a16 => k_is)
    (case l16 => k_is)
    (case c16 => k_is)
    (case k16 => k_is)
    (case g_MOST_MODULUS => k_is)
    (case g_FIRST_BITS => k_is)
    (case z_len => k_is)
    (case z_int => k_is)
    (case z_isinstance => k_is)
    (case z_sum => k_is)
    (case z_max => k_is)
    (case z_min => k_is)
    (case z_sorted => k_is)
    (case z_tuple => k_is)
    (case z_list => k_is)
    (case z_range => k_is)
    (case z_repr => k_is)
    (case z_bool => k_is)
    (case z_abs => k_is)
    (case z_enumerate => k_is)
    (case z_zip => k_is)
    (case z_str => k_is)
    (case z_dict => k_is)
