import PyProof.Rows.All
import Wide.All
import OpenK.AllK
import Wide.FinOn
import HandS.ForMost
import HandS.Wide
import HandS.WideBits
import HandS.Flow
import HandS.Style
import HandS.Small
import HandS.SortInts
import HandS.IsInst
import HandS.TupAny
import HandS.RaiseMore
import HandS.Defaults
import HandS.Codes
import KE.KBits
import HandS.Ends
import PyProof.ReprRoads
import HandS.FStrTup
import HandS.FStr
import KE.KxField
import KE.OsArith
import KE.BitLaws
import HandS.IntHex
import HandS.Iter
import HandS.Comp
import OpenK.Peek
import HandS.Star
import PyProof.AutoSeq1
import KE.KTupSum
import PySem.Challenge.RW_farbits_k00_forms_told_from_other_values
set_option Elab.async false
set_option linter.all false
set_option maxRecDepth 100000
set_option maxHeartbeats 4000000
namespace Fb
open PySem L2
/-- a def that stands in the module and keeps a promise -/
structure Has (P : Program) (w : World) (K : PySem.W.Frag) (mg : Str → Option Value) (base : Heap) (k : Nat) (x : Str) (ps : List Str) (dvs : List V) (sp : Sp) : Prop where
  ex : ∃ f fd ds, FnOk P w K mg base CX0 k f fd ps sp ∧ PySem.W.keepIn K (.ref f) = true ∧ mg x = some (.ref f) ∧ Vals dvs ds ∧ Binds K fd ps ds
section
variable {X : Cx} {k : Nat} {x : Str} {ps : List Str} {dvs : List V} {sp : Sp} {e : Expr} {es : List Expr} {t : TA} {p pos : Pos}
theorem pe_H (C : Has X.prog X.w X.K X.mg X.base k x ps dvs sp) (hr : Room k X.A) (hg : Gl X x) (ha : PA X (e :: es) t) (hdb : (x == ("__debug__" : Str)) = false := by decide)
    (he : starEach (e :: es) X.env = (false, eval e X.env) :: starEach es X.env := by rfl) (hpl : (backTo pos (starEach es X.env)).any (·.1) = false := by rfl) :
    PE X (.Call (.Name x p) (e :: es) [] pos) (tCall sp dvs E0 t) := by
  obtain ⟨f, fd, ds, F, hk, hm, hd, hb⟩ := C.ex
  exact pe_call F hr hg hm hk hb hd pass0 ha hdb he hpl
/-- a def with defaults, its body over CX0 -/
theorem funD_ok {P : Program} {w : World} {K : PySem.W.Frag} {mg : Str → Option Value} {base : Heap} {x qual : Str} {st : Stmt} {dvs : List V} {kws : List (Str × V)} {f : Addr} {fd : FuncData} {N ps : List Str} {k : Nat} {sp : Sp} (F : FunD K x qual (defArgs st) (defBody st) (defScope st) dvs kws f fd) (S : FnScope N ps (defScope st)) (len : ∀ vs H Q E, sp vs H Q E → vs.length = ps.length)
    (hbody : ∀ (cdv : Value) (A : Around) (outer : List Env) (s : Shared) (H : Hp) (vs : List V) (Q : VK) (E : XK), Room k (A.deeper (PyProof.Rows.envOfC qual (defScope st) s.heap.objs.size f cdv)) → sp vs H Q E →
      ∃ t, PSs (cxOf CX0 P w K mg base N qual (defScope st) f cdv A outer s H E).nox (defBody st) t ∧ t { nx := fun _ H' => Q .non H', rt := Q } (L2.start N vs) H) : FnOk P w K mg base CX0 (k + 1) f fd ps sp :=
  F.ok S len fun cdv A outer s H vs Q E hr h => by
    obtain ⟨t, h, q⟩ := hbody cdv A outer s H vs Q E hr h
    exact ⟨t, h.nox, q⟩
end
/-- the built-ins that the text names are the built-ins -/
structure Blt (mg : Str → Option Value) : Prop where
  len : mg "len" = none
  int : mg "int" = none
  isinstance : mg "isinstance" = none
  sum : mg "sum" = none
  max : mg "max" = none
  min : mg "min" = none
  sorted : mg "sorted" = none
  tuple : mg "tuple" = none
  list : mg "list" = none
  range : mg "range" = none
  repr : mg "repr" = none
  bool : mg "bool" = none
  abs : mg "abs" = none
  enumerate : mg "enumerate" = none
  zip : mg "zip" = none
  str : mg "str" = none
  dict : mg "dict" = none
/-! ### heaps: all but the dicts is as it was -/
structure Nd (H H' : Hp) : Prop where
  k : ∀ b o, H b = some o → (∀ kv, o ≠ .dK kv) → H' b = some o
  f : ∀ b, H' b = none → H b = none
theorem Nd.refl (H : Hp) : Nd H H := ⟨fun _ _ h _ => h, fun _ h => h⟩
theorem Nd.trans {H H1 H2 : Hp} (a : Nd H H1) (b : Nd H1 H2) : Nd H H2 := ⟨fun x o h n => b.k x o (a.k x o h n) n, fun x h => a.f x (b.f x h)⟩
theorem Nd.of {H H' : Hp} (a : Same H H') : Nd H H' := ⟨fun x o h _ => a x o h, fun _ h => a.free h⟩
theorem upd_none {H : Hp} {p b : Addr} {o : HO} (h : upd H p o b = none) : H b = none ∧ b ≠ p := by
  have hn : b ≠ p := by rintro rfl; rw [upd_same] at h; cases h
  rw [upd_ne hn] at h
  exact ⟨h, hn⟩
theorem Nd.tape {t : Addr} {H : Hp} {o : HO} {kv : List (Key × V)} (h : H t = some (.dK kv)) : Nd H (upd H t o) := ⟨fun x u e n => by
  rw [upd_ne (by rintro rfl; rw [h] at e; cases e; exact n _ rfl)]; exact e, fun _ h => (upd_none h).1⟩
theorem Nd.new {p : Addr} {H : Hp} {o : HO} (h : H p = none) : Nd H (upd H p o) := ⟨fun x u e _ => by rw [upd_ne (ne_of_none e h)]; exact e, fun _ h => (upd_none h).1⟩
theorem Nd.sql {K : PySem.W.Frag} {c : Addr} {H H' : Hp} {xs : List V} (e : Nd H H') (h : SqL K H c xs) : SqL K H' c xs := by
  rcases h with (h | ⟨o, h⟩) | h
  · exact .inl (.inl (e.k _ _ h fun _ z => nomatch z))
  · exact .inl (.inr ⟨o, e.k _ _ h fun _ z => nomatch z⟩)
  · exact .inr h
theorem Nd.sqt {K : PySem.W.Frag} {c : Addr} {H H' : Hp} {xs : List V} (e : Nd H H') (h : SqT K H c xs) : SqT K H' c xs := by
  rcases h with (h | ⟨o, h⟩) | h
  · exact .inl (.inl (e.k _ _ h fun _ z => nomatch z))
  · exact .inl (.inr ⟨o, e.k _ _ h fun _ z => nomatch z⟩)
  · exact .inr h
theorem Nd.lst {a : Addr} {H H' : Hp} {xs : List V} (e : Nd H H') (h : H a = some (.lst xs)) : H' a = some (.lst xs) := e.k _ _ h fun _ z => nomatch z
mutual
theorem Nd.dp {K : PySem.W.Frag} {H H' : Hp} (e : Nd H H') : ∀ (d : PyData) (v : V), Dp K H v d → Dp K H' v d
  | .none, _, h => by cases h; exact .non
  | .bool b, _, h => by cases h; exact .bl b
  | .int i, _, h => by cases h; exact .int i
  | .str x, _, h => by cases h; exact .str x
  | .list ds, _, h => by
    cases h with
    | lst hs ha => exact .lst (e.sql hs) (Nd.dps e ds _ ha)
  | .tuple ds, _, h => by
    cases h with
    | tup hs ha => exact .tup (e.sqt hs) (Nd.dps e ds _ ha)
  | .dict _, _, h => by cases h
theorem Nd.dps {K : PySem.W.Frag} {H H' : Hp} (e : Nd H H') : ∀ (ds : List PyData) (vs : List V), DpAll K H vs ds → DpAll K H' vs ds
  | [], _, h => by cases h; exact .nil
  | d :: ds, _, h => by
    cases h with
    | cons h1 h2 => exact .cons (Nd.dp e d _ h1) (Nd.dps e ds _ h2)
end
theorem Nd.d {K : PySem.W.Frag} {H H' : Hp} {d : PyData} {v : V} (e : Nd H H') (h : Dp K H v d) : Dp K H' v d := Nd.dp e d v h
theorem Nd.ds {K : PySem.W.Frag} {H H' : Hp} {ds : List PyData} {vs : List V} (e : Nd H H') (h : DpAll K H vs ds) : DpAll K H' vs ds := Nd.dps e ds vs h
theorem Same.new {p : Addr} {H : Hp} {o : HO} (h : H p = none) : Same H (upd H p o) := fun b u q => by rw [upd_ne (ne_of_none q h)]; exact q
/-- a list that grows, made by this very call -/
theorem Same.mut {H H' : Hp} {p : Addr} {o : HO} (e : Same H H') (h : H p = none) : Same H (upd H' p o) := fun a u ha => by
  rw [upd_ne (ne_of_none ha h)]
  exact e a u ha
theorem Nd.mut {H H' : Hp} {p : Addr} {o : HO} (e : Nd H H') (h : H p = none) : Nd H (upd H' p o) := ⟨fun a u ha n => by
  rw [upd_ne (ne_of_none ha h)]
  exact e.k a u ha n, fun _ h => e.f _ (upd_none h).1⟩
theorem dps_length {K : PySem.W.Frag} {H : Hp} : ∀ {vs : List V} {ds : List PyData}, DpAll K H vs ds → vs.length = ds.length
  | _, _, .nil => rfl
  | _, _, .cons _ h => by rw [List.length_cons, List.length_cons, dps_length h]
theorem dps_get {K : PySem.W.Frag} {H : Hp} : ∀ {vs : List V} {ds : List PyData} {i : Nat} {v : V}, DpAll K H vs ds → vs[i]? = some v → ∃ d, ds[i]? = some d ∧ Dp K H v d
  | [], _, _, _, _, h => by cases h
  | w :: vs, [], _, _, hd, _ => by cases hd
  | w :: vs, d :: ds, 0, _, hd, h => by cases hd with | cons h1 h2 => cases h; exact ⟨_, rfl, h1⟩
  | w :: vs, d :: ds, i + 1, _, hd, h => by cases hd with | cons h1 h2 => exact dps_get (vs := vs) (ds := ds) (i := i) h2 (by simpa using h)
theorem dps_app {K : PySem.W.Frag} {H : Hp} : ∀ {vs ws : List V} {ds es : List PyData}, DpAll K H vs ds → DpAll K H ws es → DpAll K H (vs ++ ws) (ds ++ es)
  | _, _, _, _, .nil, h => h
  | _, _, _, _, .cons h1 h2, h => .cons h1 (dps_app h2 h)
theorem dps_ints {K : PySem.W.Frag} {H : Hp} : ∀ (ns : List Int), DpAll K H (ns.map V.int) (ns.map PyData.int)
  | [] => .nil
  | n :: ns => .cons (.int n) (dps_ints ns)
theorem dps_ints_inv {K : PySem.W.Frag} {H : Hp} : ∀ {ns : List Int} {vs : List V}, DpAll K H vs (ns.map PyData.int) → vs = ns.map V.int
  | [], _, h => by cases h; rfl
  | n :: ns, _, h => by
    cases h with
    | cons h1 h2 =>
      cases h1
      rw [dps_ints_inv h2]
      rfl
/-- the tape: a dict of the cells, the place, the rest; n draws are left -/
def tp (c : Addr) (at_ rest : Int) : List (Key × V) := [(.inr "cells", .ref c), (.inr "at", .int at_), (.inr "rest", .int rest)]
/-- the tape as it stands -/
structure TS (K : PySem.W.Frag) (t c : Addr) (cs : List Int) (a r : Int) (H : Hp) : Prop where
  d : H t = some (.dK (tp c a r))
  s : SqL K H c (cs.map V.int)
theorem TS.new {K : PySem.W.Frag} {t c p : Addr} {cs : List Int} {a r : Int} {H : Hp} {o : HO} (h : TS K t c cs a r H) (np : H p = none) : TS K t c cs a r (upd H p o) :=
  ⟨by rw [upd_ne (ne_of_none h.d np)]; exact h.d, (Nd.new np).sql h.s⟩
theorem TS.put {K : PySem.W.Frag} {t c : Addr} {cs : List Int} {a r b u : Int} {H : Hp} (h : TS K t c cs a r H) : TS K t c cs b u (upd H t (.dK (tp c b u))) :=
  ⟨upd_same, (Nd.tape h.d).sql h.s⟩
theorem TS.cells {K : PySem.W.Frag} {t c : Addr} {cs : List Int} {a r : Int} {H : Hp} (h : TS K t c cs a r H) : DGet H t (.str "cells") (some (.ref c)) := DGet.k (k := Sum.inr "cells") h.d
theorem TS.at_ {K : PySem.W.Frag} {t c : Addr} {cs : List Int} {a r : Int} {H : Hp} (h : TS K t c cs a r H) : DGet H t (.str "at") (some (.int a)) := DGet.k (k := Sum.inr "at") h.d
theorem TS.rest {K : PySem.W.Frag} {t c : Addr} {cs : List Int} {a r : Int} {H : Hp} (h : TS K t c cs a r H) : DGet H t (.str "rest") (some (.int r)) := DGet.k (k := Sum.inr "rest") h.d
theorem TS.pat {K : PySem.W.Frag} {t c : Addr} {cs : List Int} {a r b : Int} {H : Hp} (h : TS K t c cs a r H) : DPut H t (.str "at") (.int b) (upd H t (.dK (tp c b r))) := DPut.k (k := Sum.inr "at") h.d (by show 3 < sizeLine; decide)
theorem TS.prest {K : PySem.W.Frag} {t c : Addr} {cs : List Int} {a r b : Int} {H : Hp} (h : TS K t c cs a r H) : DPut H t (.str "rest") (.int b) (upd H t (.dK (tp c a b))) := DPut.k (k := Sum.inr "rest") h.d (by show 3 < sizeLine; decide)
theorem iteD {c A B : Prop} [Decidable c] (h1 : c → A) (h2 : ¬ c → B) : if decide c = true then A else B := by
  by_cases h : c
  · rw [decide_eq_true h, if_pos rfl]
    exact h1 h
  · rw [decide_eq_false h, if_neg Bool.false_ne_true]
    exact h2 h
theorem iteDN {c A B : Prop} [Decidable c] (h1 : ¬ c → A) (h2 : c → B) : if (!decide c) = true then A else B := by
  by_cases h : c
  · rw [decide_eq_true h]
    exact iteF (h2 h)
  · rw [decide_eq_false h]
    exact iteT (h1 h)
def rIntI : List V → Hp → VK → Prop := fun xs H Q => ∃ i, xs = [.int i] ∧ Q (.int i) H
theorem call_intI {X : Cx} : CallR X (.type "int") rIntI := fun pins s σ H xs us Q I r h =>
  call_int1 pins s σ H xs us Q I r (.inl h)
def rIntB : List V → Hp → VK → Prop := fun xs H Q => ∃ k, xs = [.bl k] ∧ Q (.int (if k then 1 else 0)) H
theorem call_intB {X : Cx} : CallR X (.type "int") rIntB := fun pins s σ H xs us Q I r h =>
  call_int1 pins s σ H xs us Q I r (.inr h)
def rLenL (K : PySem.W.Frag) : List V → Hp → VK → Prop := fun xs H Q => ∃ p ys, xs = [.ref p] ∧ SqL K H p ys ∧ Q (.int ys.length) H
theorem call_lenL {X : Cx} : CallR X (.builtin "len") (rLenL X.K) := fun pins s σ H xs us Q I r ⟨p, ys, e, h, q⟩ =>
  call_len_seq pins s σ H xs us Q I r ⟨p, ys, e, .inl h, q⟩
def rLenT (K : PySem.W.Frag) : List V → Hp → VK → Prop := fun xs H Q => ∃ p ys, xs = [.ref p] ∧ SqT K H p ys ∧ Q (.int ys.length) H
theorem call_lenT {X : Cx} : CallR X (.builtin "len") (rLenT X.K) := fun pins s σ H xs us Q I r ⟨p, ys, e, h, q⟩ =>
  call_len_seq pins s σ H xs us Q I r ⟨p, ys, e, .inr h, q⟩
def rTupL (K : PySem.W.Frag) : List V → Hp → VK → Prop := fun xs H Q => ∃ p ys, xs = [.ref p] ∧ SqL K H p ys ∧ ∀ l, H l = none → Q (.ref l) (upd H l (.tup ys))
theorem call_tupL {X : Cx} : CallR X (.type "tuple") (rTupL X.K) := fun pins s σ H xs us Q I r ⟨p, ys, e, h, q⟩ =>
  call_tuple_of pins s σ H xs us Q I r ⟨p, ys, e, .inl ⟨h, q⟩⟩
def rListL (K : PySem.W.Frag) : List V → Hp → VK → Prop := fun xs H Q => ∃ p ys, xs = [.ref p] ∧ SqL K H p ys ∧ ∀ l, H l = none → Q (.ref l) (upd H l (.lst ys))
theorem call_listL {X : Cx} : CallR X (.type "list") (rListL X.K) := fun pins s σ H xs us Q I r ⟨p, ys, e, h, q⟩ =>
  call_list_of pins s σ H xs us Q I r ⟨p, ys, e, .inl h, q⟩
def rListT (K : PySem.W.Frag) : List V → Hp → VK → Prop := fun xs H Q => ∃ p ys, xs = [.ref p] ∧ SqT K H p ys ∧ ∀ l, H l = none → Q (.ref l) (upd H l (.lst ys))
theorem call_listT {X : Cx} : CallR X (.type "list") (rListT X.K) := fun pins s σ H xs us Q I r ⟨p, ys, e, h, q⟩ =>
  call_list_of pins s σ H xs us Q I r ⟨p, ys, e, .inr h, q⟩
/-- a tape: its dict, its cells -/
structure Tp where
  t : Addr
  c : Addr
  cs : List Int
/-- the tape stands, n draws are left -/
def Tape (K : PySem.W.Frag) (τ : Tp) (n : Nat) (H : Hp) : Prop := ∃ at_ rest : Int, TS K τ.t τ.c τ.cs at_ rest H ∧ τ.cs ≠ [] ∧ τ.cs.length ≤ 63 ∧ 0 ≤ at_ ∧ at_ + n ≤ 2 ^ 40 ∧ 0 ≤ rest
theorem Tape.mono {K : PySem.W.Frag} {τ : Tp} {n m : Nat} {H : Hp} (h : Tape K τ n H) (e : m ≤ n) : Tape K τ m H := by
  obtain ⟨a, r, h1, h3, h4, h5, h6, h7⟩ := h
  exact ⟨a, r, h1, h3, h4, h5, by omega, h7⟩
theorem Tape.same {K : PySem.W.Frag} {τ : Tp} {n : Nat} {H H' : Hp} (h : Tape K τ n H) (e : Same H H') : Tape K τ n H' := by
  obtain ⟨a, r, h1, h3⟩ := h
  exact ⟨a, r, ⟨e _ _ h1.d, e.seq h1.s⟩, h3⟩
theorem Tape.new {K : PySem.W.Frag} {τ : Tp} {n : Nat} {H : Hp} {p : Addr} {o : HO} (h : Tape K τ n H) (np : H p = none) : Tape K τ n (upd H p o) := h.same fun b u q => by rw [upd_ne (ne_of_none q np)]; exact q
/-- an object made behind H0 may change -/
theorem Tape.mut {K : PySem.W.Frag} {τ : Tp} {n m : Nat} {H H0 : Hp} {p : Addr} {o : HO} (h0 : Tape K τ m H0) (np : H0 p = none) (h : Tape K τ n H) : Tape K τ n (upd H p o) := by
  obtain ⟨a0, r0, k1, _⟩ := h0
  obtain ⟨a, r, h1, h3⟩ := h
  refine ⟨a, r, ⟨by rw [upd_ne (by rintro rfl; rw [k1.d] at np; cases np)]; exact h1.d, ?_⟩, h3⟩
  have key : ∀ u, H0 τ.c = some u → SqL K (upd H p o) τ.c (τ.cs.map V.int) := fun u hu => by
    have hn : τ.c ≠ p := by intro z; rw [z, np] at hu; cases hu
    rcases h1.s with (h | ⟨w, h⟩) | h
    · exact .inl (.inl (by rw [upd_ne hn]; exact h))
    · exact .inl (.inr ⟨w, by rw [upd_ne hn]; exact h⟩)
    · exact .inr h
  rcases k1.s with (h | ⟨w, h⟩) | h
  · exact key _ h
  · exact key _ h
  · exact .inr h
/-- what a drawn bound may be -/
def BigL : Int := 2 ^ 8000
theorem lt_BigL {z : Int} (h : z ≤ 2 ^ 200) : z < BigL := Int.lt_of_le_of_lt h (by unfold BigL; decide +kernel)
theorem div_BigL {z i : Int} (h0 : 0 < z) (h : z < BigL) : CDivW i z := by
  refine wide_div (b := 8000) h0 ?_ (by decide) (by decide)
  have e : BigL = ((2 ^ 8000 : Nat) : Int) := by unfold BigL; exact (Int.natCast_pow 2 8000).symm
  rw [e] at h
  generalize 2 ^ 8000 = N at h
  omega
def spDraw (K : PySem.W.Frag) : Sp := fun vs H Q _ => ∃ (τ : Tp) (lim : Int) (n : Nat), vs = [.ref τ.t, .int lim] ∧ Tape K τ (n + 1) H ∧ 0 < lim ∧ lim < BigL ∧
  ∀ (d : Int) (H' : Hp), Nd H H' → Tape K τ n H' → 0 ≤ d → d < lim → Q (.int d) H'
theorem atI_mod {α : Type} {xs : List α} {k : Int} (h : xs ≠ []) : ∃ v, atI xs (k.fmod (xs.length : Int)) = some v ∧ v ∈ xs := by
  have hl : 0 < xs.length := List.length_pos_iff.mpr h
  have h0 : 0 ≤ k.fmod (xs.length : Int) := Int.fmod_nonneg_of_pos _ (by omega)
  have h1 : k.fmod (xs.length : Int) < xs.length := Int.fmod_lt_of_pos _ (by omega)
  obtain ⟨j, hj⟩ := Int.eq_ofNat_of_zero_le h0
  rw [hj]
  have hj' : j < xs.length := by omega
  exact ⟨xs[j], atI_nat (List.getElem?_eq_getElem hj'), List.getElem_mem hj'⟩
theorem tp_cells {c : Addr} {a r : Int} : valV (tp c a r) (.inr "cells") = some (.ref c) := by rfl
theorem tp_at {c : Addr} {a r : Int} : valV (tp c a r) (.inr "at") = some (.int a) := by rfl
theorem tp_rest {c : Addr} {a r : Int} : valV (tp c a r) (.inr "rest") = some (.int r) := by rfl
theorem tp_pat {c : Addr} {a r b : Int} : putK (tp c a r) (.inr "at") (.int b) = tp c b r := by rfl
theorem tp_prest {c : Addr} {a r b : Int} : putK (tp c a r) (.inr "rest") (.int b) = tp c a b := by rfl
end Fb
namespace Fb
open PySem
/-! ### the ones of a number, the turns of an int -/
def ones (m : Nat) : List Nat := if h : m = 0 then [] else (if m % 2 = 1 then [0] else []) ++ (ones (m / 2)).map (· + 1)
termination_by m
decreasing_by omega
theorem ones_zero : ones 0 = [] := by rw [ones]; rfl
theorem ones_pos {m : Nat} (h : m ≠ 0) : ones m = (if m % 2 = 1 then [0] else []) ++ (ones (m / 2)).map (· + 1) := by rw [ones, dif_neg h]
theorem ones_even (m : Nat) : ones (2 * m) = (ones m).map (· + 1) := by
  by_cases h : m = 0
  · subst h; rw [ones_zero]; rfl
  · rw [ones_pos (by omega), if_neg (by omega), show 2 * m / 2 = m by omega]; rfl
theorem ones_odd (m : Nat) : ones (2 * m + 1) = 0 :: (ones m).map (· + 1) := by
  rw [ones_pos (by omega), if_pos (by omega), show (2 * m + 1) / 2 = m by omega]; rfl
theorem ones_shift (k m : Nat) : ones (2 ^ k * m) = (ones m).map (· + k) := by
  induction k with
  | zero => simp
  | succ k ih =>
    rw [show 2 ^ (k + 1) * m = 2 * (2 ^ k * m) by rw [Nat.pow_succ]; simp [Nat.mul_comm, Nat.mul_left_comm, Nat.mul_assoc], ones_even, ih, List.map_map]
    exact List.map_congr_left fun x _ => by show x + k + 1 = x + (k + 1); omega
/-- the lowest one -/
theorem low_of {m : Nat} (h : m ≠ 0) : ∃ k a, m = 2 ^ k * (2 * a + 1) := by
  induction m using Nat.strongRecOn with
  | _ m ih =>
    by_cases e : m % 2 = 1
    · exact ⟨0, m / 2, by omega⟩
    · obtain ⟨k, a, q⟩ := ih (m / 2) (by omega) (by omega)
      exact ⟨k + 1, a, by rw [Nat.pow_succ, Nat.mul_right_comm, ← q]; omega⟩
theorem ones_low (k a : Nat) : ones (2 ^ k * (2 * a + 1)) = k :: ones (2 ^ k * (2 * a)) := by
  rw [ones_shift, ones_odd, show 2 ^ k * (2 * a) = 2 ^ k * (2 * a) from rfl, ones_shift, ones_even]
  simp
theorem ones_lt {m n : Nat} (h : m < 2 ^ n) : ∀ p ∈ ones m, p < n := by
  induction n generalizing m with
  | zero => rw [show m = 0 by omega, ones_zero]; simp
  | succ n ih =>
    intro p hp
    by_cases e : m = 0
    · rw [e, ones_zero] at hp; cases hp
    · rw [ones_pos e] at hp
      rcases List.mem_append.mp hp with hp | hp
      · split at hp <;> simp at hp; omega
      · obtain ⟨q, hq, rfl⟩ := List.mem_map.mp hp
        have := ih (m := m / 2) (by rw [Nat.pow_succ] at h; omega) q hq
        omega
theorem ones_asc (m : Nat) : (ones m).Pairwise (· < ·) := by
  induction m using Nat.strongRecOn with
  | _ m ih =>
    by_cases e : m = 0
    · rw [e, ones_zero]; exact .nil
    · have q := ih (m / 2) (by omega)
      have q1 : ((ones (m / 2)).map (· + 1)).Pairwise (· < ·) := List.pairwise_map.mpr (q.imp fun h => by omega)
      rw [ones_pos e]
      split
      · refine List.pairwise_cons.mpr ⟨fun x hx => ?_, q1⟩
        obtain ⟨y, _, rfl⟩ := List.mem_map.mp (show x ∈ (ones (m / 2)).map (· + 1) from hx)
        omega
      · exact q1
theorem ones_eq_nil {m : Nat} : ones m = [] ↔ m = 0 := by
  constructor
  · intro h
    by_cases e : m = 0
    · exact e
    · obtain ⟨k, a, rfl⟩ := low_of e
      rw [ones_low] at h; cases h
  · rintro rfl; exact ones_zero
theorem ones_len {m n : Nat} (h : m < 2 ^ n) : (ones m).length ≤ n := by
  induction n generalizing m with
  | zero => rw [show m = 0 by omega, ones_zero]; simp
  | succ n ih =>
    by_cases e : m = 0
    · rw [e, ones_zero]; simp
    · have := ih (m := m / 2) (by rw [Nat.pow_succ] at h; omega)
      rw [ones_pos e]
      split <;> simp <;> omega
/-! ### the marks of an int: its turns -/
open PyProof.Rows PySem.W in
theorem xor_halves (x y : Int) : Builtin.bitXor x y = 2 * Builtin.bitXor (x / 2) (y / 2) + (x + y) % 2 := by
  rw [bitXor_and, bitXor_and, kbt_halves x y]
  split <;> omega
def mk (b x : Int) : Int := Builtin.bitXor x (2 * x + b)
theorem mk_step {b x : Int} (h0 : 0 ≤ b) (h1 : b < 2) : mk b x = 2 * mk (x % 2) (x / 2) + (x + b) % 2 := by
  unfold mk
  rw [xor_halves, show (2 * x + b) / 2 = x by omega, show 2 * (x / 2) + x % 2 = x by omega]
  omega
/-- alternating powers of two -/
def alt (s : Int) : List Nat → Int
  | [] => 0
  | p :: ps => s * 2 ^ p + alt (-s) ps
theorem alt_up (s : Int) (ps : List Nat) : alt s (ps.map (· + 1)) = 2 * alt s ps := by
  induction ps generalizing s with
  | nil => rfl
  | cons p ps ih =>
    show s * 2 ^ (p + 1) + alt (-s) (ps.map (· + 1)) = 2 * (s * 2 ^ p + alt (-s) ps)
    rw [ih, Int.pow_succ, Int.mul_add, ← Int.mul_assoc, Int.mul_comm _ 2]
theorem mk_all (n : Nat) : ∀ b x : Int, 0 ≤ b → b < 2 → -(2 ^ n) ≤ x → x < 2 ^ n → 0 ≤ mk b x ∧ mk b x < 2 ^ (n + 1) ∧ alt (2 * b - 1) (ones (mk b x).toNat) = x + b := by
  induction n with
  | zero =>
    intro b x h0 h1 h2 h3
    have hx : x = 0 ∨ x = -1 := by simp at h2 h3; omega
    have hb : b = 0 ∨ b = 1 := by omega
    have c00 : mk 0 0 = 0 := by decide +kernel
    have c10 : mk 1 0 = 1 := by decide +kernel
    have c01 : mk 0 (-1) = 1 := by decide +kernel
    have c11 : mk 1 (-1) = 0 := by decide +kernel
    have o1 : ones 1 = [0] := by rw [show (1 : Nat) = 2 * 0 + 1 from rfl, ones_odd, ones_zero]; rfl
    rcases hx with rfl | rfl <;> rcases hb with rfl | rfl
    · rw [c00]; refine ⟨by decide, by decide, ?_⟩; rw [show (0 : Int).toNat = 0 from rfl, ones_zero]; rfl
    · rw [c10]; refine ⟨by decide, by decide, ?_⟩; rw [show (1 : Int).toNat = 1 from rfl, o1]; rfl
    · rw [c01]; refine ⟨by decide, by decide, ?_⟩; rw [show (1 : Int).toNat = 1 from rfl, o1]; rfl
    · rw [c11]; refine ⟨by decide, by decide, ?_⟩; rw [show (0 : Int).toNat = 0 from rfl, ones_zero]; rfl
  | succ n ih =>
    intro b x h0 h1 h2 h3
    rw [Int.pow_succ] at h2 h3
    obtain ⟨k0, k1, k2⟩ := ih (x % 2) (x / 2) (by omega) (by omega) (by omega) (by omega)
    rw [mk_step h0 h1]
    refine ⟨by omega, by rw [Int.pow_succ]; omega, ?_⟩
    generalize hm : mk (x % 2) (x / 2) = m at k0 k1 k2
    by_cases e : (x + b) % 2 = 0
    · rw [e, show (2 * m + 0).toNat = 2 * m.toNat by omega, ones_even, alt_up, show 2 * b - 1 = 2 * (x % 2) - 1 by omega, k2]
      omega
    · rw [show (x + b) % 2 = 1 by omega, show (2 * m + 1).toNat = 2 * m.toNat + 1 by omega, ones_odd]
      show (2 * b - 1) * 2 ^ 0 + alt (-(2 * b - 1)) _ = _
      rw [alt_up, show -(2 * b - 1) = 2 * (x % 2) - 1 by omega, k2]
      simp
      omega
def marks (x : Int) : Nat := (Builtin.bitXor x (x * 2)).toNat
theorem marks_eq (x : Int) : Builtin.bitXor x (x * 2) = mk 0 x := by unfold mk; rw [show x * 2 = 2 * x + 0 by omega]
def turnsN (x : Int) : List Nat := ones (marks x)
def turnsZ (x : Int) : List Int := (turnsN x).map Int.ofNat
theorem marks_cast {x : Int} : ∃ n : Nat, -(2 ^ n) ≤ x ∧ x < 2 ^ n := by
  refine ⟨x.natAbs, ?_, ?_⟩ <;>
  · have h : x.natAbs < 2 ^ x.natAbs := Nat.lt_two_pow_self
    have h2 : ((2 ^ x.natAbs : Nat) : Int) = (2 : Int) ^ x.natAbs := by simp
    omega
theorem marks_nonneg (x : Int) : 0 ≤ Builtin.bitXor x (x * 2) := by
  obtain ⟨n, h0, h1⟩ := marks_cast (x := x)
  rw [marks_eq]; exact (mk_all n 0 x (by decide) (by decide) h0 h1).1
theorem marks_val (x : Int) : Builtin.bitXor x (x * 2) = (marks x : Int) := by
  have := marks_nonneg x
  unfold marks; omega
theorem marks_lt {x : Int} {n : Nat} (h0 : -(2 ^ n) ≤ x) (h1 : x < 2 ^ n) : marks x < 2 ^ (n + 1) := by
  have h := (mk_all n 0 x (by decide) (by decide) h0 h1).2.1
  rw [← marks_eq, marks_val] at h
  have h2 : ((2 ^ (n + 1) : Nat) : Int) = (2 : Int) ^ (n + 1) := by simp
  omega
/-- the turns tell the int -/
theorem turns_alt (x : Int) : alt (-1) (turnsN x) = x := by
  obtain ⟨n, h0, h1⟩ := marks_cast (x := x)
  have h : alt (-1) (ones (mk 0 x).toNat) = x + 0 := (mk_all n 0 x (by decide) (by decide) h0 h1).2.2
  rw [← marks_eq] at h
  unfold turnsN marks
  omega
theorem turns_lt {x : Int} {n : Nat} (h0 : -(2 ^ n) ≤ x) (h1 : x < 2 ^ n) : ∀ p ∈ turnsN x, p ≤ n := fun p hp => Nat.le_of_lt_succ (ones_lt (marks_lt h0 h1) p hp)
theorem turns_len {x : Int} {n : Nat} (h0 : -(2 ^ n) ≤ x) (h1 : x < 2 ^ n) : (turnsN x).length ≤ n + 1 := ones_len (marks_lt h0 h1)
theorem turns_asc (x : Int) : (turnsN x).Pairwise (· < ·) := ones_asc _
/-- a step of the loop over the marks -/
theorem marks_low {m : Nat} (h : m ≠ 0) : ∃ k : Nat, Builtin.bitAnd (m : Int) (-(m : Int)) = 2 ^ k ∧ 2 ^ k ≤ m ∧ ones m = k :: ones (m - 2 ^ k) := by
  obtain ⟨k, a, rfl⟩ := low_of h
  refine ⟨k, ?_, ?_, ?_⟩
  · have := PySem.W.kbt_low k (a : Int)
    rw [← this]
    simp
  · exact Nat.le_mul_of_pos_right _ (by omega)
  · rw [ones_low, Nat.mul_add, Nat.mul_one, Nat.add_sub_cancel]
end Fb
namespace Fb
open PySem L2
/-! ### trees of ints and tuples -/
def dTy : PyData → String
  | .none => "NoneType" | .bool _ => "bool" | .int _ => "int" | .str _ => "str" | .list _ => "list" | .tuple _ => "tuple" | .dict _ => "dict"
theorem tyx_dp {K : PySem.W.Frag} {H : Hp} {v : V} {d : PyData} (h : Dp K H v d) : TyX K H v (.type (dTy d)) := by
  cases h with
  | non => exact .base .non
  | bl b => exact .base (.bl b)
  | int i => exact .base (.int i)
  | str x => exact .base (.str x)
  | lst hs _ =>
    rcases hs with (h | ⟨o, h⟩) | ⟨o, its, n, h1, h2, _⟩
    · exact .base (.lst h)
    · exact .base (.frz h)
    · exact .kList h1 h2
  | tup hs _ =>
    rcases hs with (h | ⟨o, h⟩) | ⟨o, its, n, h1, h2, _⟩
    · exact .base (.tup h)
    · exact .fTuple h
    · exact .kTuple h1 h2
def isI (d : PyData) : Bool := match d with | .int _ => true | .bool _ => true | _ => false
def isT (d : PyData) : Bool := match d with | .tuple _ => true | _ => false
theorem kit_I : ∀ d : PyData, kitB (dTy d) "int" = some (isI d)
  | .none => by show kitB "NoneType" "int" = some false; decide +kernel
  | .bool _ => by show kitB "bool" "int" = some true; decide +kernel
  | .int _ => by show kitB "int" "int" = some true; decide +kernel
  | .str _ => by show kitB "str" "int" = some false; decide +kernel
  | .list _ => by show kitB "list" "int" = some false; decide +kernel
  | .tuple _ => by show kitB "tuple" "int" = some false; decide +kernel
  | .dict _ => by show kitB "dict" "int" = some false; decide +kernel
theorem kit_T : ∀ d : PyData, kitB (dTy d) "tuple" = some (isT d)
  | .none => by show kitB "NoneType" "tuple" = some false; decide +kernel
  | .bool _ => by show kitB "bool" "tuple" = some false; decide +kernel
  | .int _ => by show kitB "int" "tuple" = some false; decide +kernel
  | .str _ => by show kitB "str" "tuple" = some false; decide +kernel
  | .list _ => by show kitB "list" "tuple" = some false; decide +kernel
  | .tuple _ => by show kitB "tuple" "tuple" = some true; decide +kernel
  | .dict _ => by show kitB "dict" "tuple" = some false; decide +kernel
/-- isinstance(x, int) of a datum -/
def rIsD (K : PySem.W.Frag) (T : String) (t : PyData → Bool) : List V → Hp → VK → Prop := fun xs H Q => ∃ x d, xs = [x, .ty T] ∧ Dp K H x d ∧ Q (.bl (t d)) H
theorem call_isiI {X : Cx} (K : PySem.W.Frag) (hK : X.K = K := by rfl) : CallR X (.builtin "isinstance") (rIsD K "int" isI) := fun pins s σ H xs us Q I r ⟨x, d, e, h, q⟩ => by
  subst hK
  refine call_isi pins s σ H xs us Q I r ⟨x, _, _, _, isI d, e, .ty _, tyx_dp h, kit_ty (kit_I d), q⟩
/-- isinstance(x, tuple) of a datum -/
theorem call_isiT_ {X : Cx} (K : PySem.W.Frag) (hK : X.K = K := by rfl) : CallR X (.builtin "isinstance") (rIsD K "tuple" isT) := fun pins s σ H xs us Q I r ⟨x, d, e, h, q⟩ => by
  subst hK
  refine call_isi pins s σ H xs us Q I r ⟨x, _, _, _, isT d, e, .ty _, tyx_dp h, kit_ty (kit_T d), q⟩
theorem lcT {σ : L2.St} {H : Hp} {A B : Hp → Prop} (h : A H) : tYes σ H (fun b H3 => if b = true then A H3 else B H3) := by
  show (if true = true then A H else B H)
  rw [if_pos rfl]
  exact h
theorem ix_listK {X : Cx} (K : PySem.W.Frag) (hK : X.K = K := by rfl) : IxR X (rIxL K) := by subst hK; exact ix_list
theorem ix_tupK {X : Cx} (K : PySem.W.Frag) (hK : X.K = K := by rfl) : IxR X (rIxT K) := by subst hK; exact ix_tup
theorem call_lenLK {X : Cx} (K : PySem.W.Frag) (hK : X.K = K := by rfl) : CallR X (.builtin "len") (rLenL K) := by subst hK; exact call_lenL
/-- a tree of ints and tuples, at most n tuples deep -/
def Fm : Nat → PyData → Prop
  | 0, d => ∃ i, d = .int i
  | n + 1, d => (∃ i, d = .int i) ∨ ∃ ds, d = .tuple ds ∧ ds.length ≤ 9000 ∧ ∀ x ∈ ds, Fm n x
theorem Fm.succ : ∀ {n : Nat} {d : PyData}, Fm n d → Fm (n + 1) d
  | 0, _, h => .inl h
  | n + 1, _, h => by
    rcases h with h | ⟨ds, e, l, h⟩
    · exact .inl h
    · exact .inr ⟨ds, e, l, fun x hx => (h x hx).succ⟩
theorem Fm.mono {n m : Nat} {d : PyData} (h : Fm n d) (e : n ≤ m) : Fm m d := by
  induction e with
  | refl => exact h
  | step _ ih => exact ih.succ
theorem Fm.int {n : Nat} (i : Int) : Fm n (.int i) := by cases n <;> first | exact ⟨i, rfl⟩ | exact .inl ⟨i, rfl⟩
/-- size -/
def sz : Nat → PyData → Int
  | n + 1, .tuple ds => 1 + (ds.map (sz n)).sum
  | _, _ => 1
theorem sz_int (n : Nat) (i : Int) : sz n (.int i) = 1 := by cases n <;> rfl
/-- the greatest of some ints, 0 if there is none -/
def maxI : List Int → Int
  | [] => 0
  | x :: xs => max x (maxI xs)
def ht : Nat → PyData → Int
  | n + 1, .tuple ds => 1 + maxI (ds.map (ht n))
  | _, _ => 0
theorem ht_int (n : Nat) (i : Int) : ht n (.int i) = 0 := by cases n <;> rfl
theorem ht_nonneg : ∀ (n : Nat) (d : PyData), 0 ≤ ht n d
  | 0, _ => Int.le_refl _
  | n + 1, .tuple ds => by
    show 0 ≤ 1 + maxI _
    have : ∀ l : List Int, (∀ x ∈ l, 0 ≤ x) → 0 ≤ maxI l := fun l hl => by cases l with | nil => exact Int.le_refl _ | cons x xs => have := hl x List.mem_cons_self; show 0 ≤ max x _; omega
    have := this (ds.map (ht n)) (fun x hx => by obtain ⟨d, _, rfl⟩ := List.mem_map.mp hx; exact ht_nonneg n d)
    omega
  | n + 1, .none => Int.le_refl _
  | n + 1, .bool _ => Int.le_refl _
  | n + 1, .int _ => Int.le_refl _
  | n + 1, .str _ => Int.le_refl _
  | n + 1, .list _ => Int.le_refl _
  | n + 1, .dict _ => Int.le_refl _
theorem maxI_le {l : List Int} {x : Int} (h : x ∈ l) : x ≤ maxI l := by
  induction l with
  | nil => cases h
  | cons y ys ih =>
    show x ≤ max y (maxI ys)
    rcases List.mem_cons.mp h with rfl | h
    · omega
    · have := ih h; omega
theorem maxI_mem {l : List Int} (h : l ≠ []) (h0 : ∀ x ∈ l, 0 ≤ x) : maxI l ∈ l := by
  induction l with
  | nil => exact absurd rfl h
  | cons y ys ih =>
    by_cases e : ys = []
    · subst e
      show max y 0 ∈ [y]
      have := h0 y List.mem_cons_self
      rw [show max y 0 = y by omega]; exact List.mem_cons_self
    · have := ih e fun x hx => h0 x (List.mem_cons_of_mem _ hx)
      show max y (maxI ys) ∈ _
      by_cases c : y ≤ maxI ys
      · rw [show max y (maxI ys) = maxI ys by omega]; exact List.mem_cons_of_mem _ this
      · rw [show max y (maxI ys) = y by omega]; exact List.mem_cons_self
theorem maxI_eq {l : List Int} {m : Int} (hm : m ∈ l) (h0 : ∀ x ∈ l, 0 ≤ x) (h : ∀ y ∈ l, y ≤ m) : maxI l = m := by
  have a := maxI_le hm
  have b := h _ (maxI_mem (List.ne_nil_of_mem hm) h0)
  omega
/-- the row of the last turns -/
def lv : Nat → PyData → Int
  | n + 1, .tuple ds => match ds.getLast? with
    | some d => 1 + lv n d
    | none => 1
  | _, _ => 0
/-- no tuple is empty on the way of the last turns, and there the last one is of the greatest height -/
def Sp_ : Nat → PyData → Prop
  | n + 1, .tuple ds => ∃ d, ds.getLast? = some d ∧ (∀ x ∈ ds, ht n x ≤ ht n d) ∧ Sp_ n d
  | _, _ => True
theorem lv_ht : ∀ (n : Nat) (d : PyData), Sp_ n d → lv n d = ht n d
  | 0, d, _ => by cases d <;> rfl
  | n + 1, .tuple ds, h => by
    obtain ⟨d, e, h1, h2⟩ := h
    show (match ds.getLast? with | some d => 1 + lv n d | none => 1) = 1 + maxI _
    rw [e]
    have m : d ∈ ds := List.mem_of_getLast? e
    rw [maxI_eq (List.mem_map.mpr ⟨d, m, rfl⟩) (fun x hx => by obtain ⟨y, _, rfl⟩ := List.mem_map.mp hx; exact ht_nonneg n y) (fun x hx => by obtain ⟨y, hy, rfl⟩ := List.mem_map.mp hx; exact h1 y hy), ← lv_ht n d h2]
  | n + 1, .none, _ => rfl
  | n + 1, .bool _, _ => rfl
  | n + 1, .int _, _ => rfl
  | n + 1, .str _, _ => rfl
  | n + 1, .list _, _ => rfl
  | n + 1, .dict _, _ => rfl
theorem sz_bd : ∀ (n : Nat) (d : PyData), Fm n d → 1 ≤ sz n d ∧ sz n d ≤ 9001 ^ n
  | 0, d, h => by obtain ⟨i, rfl⟩ := h; exact ⟨Int.le_refl 1, Int.le_refl 1⟩
  | n + 1, d, h => by
    rcases h with ⟨i, rfl⟩ | ⟨ds, rfl, l, h⟩
    · rw [sz_int]
      refine ⟨by omega, ?_⟩
      have := Int.pow_pos (n := 9001) (m := n + 1) (by decide)
      omega
    · have key : ∀ l : List PyData, (∀ x ∈ l, Fm n x) → 0 ≤ (l.map (sz n)).sum ∧ (l.map (sz n)).sum ≤ l.length * 9001 ^ n := by
        intro l
        induction l with
        | nil => intro _; simp
        | cons x xs ih =>
          intro hl
          have a := ih fun y hy => hl y (List.mem_cons_of_mem _ hy)
          have b := sz_bd n x (hl x List.mem_cons_self)
          simp only [List.map_cons, List.sum_cons, List.length_cons]
          push_cast
          rw [Int.add_mul]
          omega
      have a := key ds h
      have c := Int.pow_pos (n := 9001) (m := n) (by decide)
      have e : (ds.length : Int) * 9001 ^ n ≤ 9000 * 9001 ^ n := Int.mul_le_mul_of_nonneg_right (by omega) (by omega)
      show 1 ≤ 1 + _ ∧ 1 + _ ≤ _
      rw [Int.pow_succ]
      omega
end Fb
namespace Fb
open PySem L2
/-! ### tuples stand -/
def Td (H H' : Hp) : Prop := ∀ a xs, Rd H a (.tup xs) → Rd H' a (.tup xs)
theorem Td.of {H H' : Hp} (e : Nd H H') : Td H H' := fun a xs h => by
  rcases h with h | ⟨o, h⟩
  · exact .inl (e.k _ _ h fun _ z => nomatch z)
  · exact .inr ⟨o, e.k _ _ h fun _ z => nomatch z⟩
theorem Td.trans {H H1 H2 : Hp} (a : Td H H1) (b : Td H1 H2) : Td H H2 := fun x xs h => b x xs (a x xs h)
theorem Td.lst {H : Hp} {p : Addr} {ys : List V} {o : HO} (h : H p = some (.lst ys)) : Td H (upd H p o) := fun a xs k => by
  rcases k with k | ⟨u, k⟩
  · exact .inl (by rw [upd_ne (by rintro rfl; rw [h] at k; cases k)]; exact k)
  · exact .inr ⟨u, by rw [upd_ne (by rintro rfl; rw [h] at k; cases k)]; exact k⟩
theorem Td.sqt {K : PySem.W.Frag} {H H' : Hp} {a : Addr} {xs : List V} (e : Td H H') (h : SqT K H a xs) : SqT K H' a xs := by
  rcases h with h | h
  · exact .inl (e _ _ h)
  · exact .inr h
theorem Td.dp {K : PySem.W.Frag} {H H' : Hp} (e : Td H H') : ∀ (n : Nat) (d : PyData) (v : V), Fm n d → Dp K H v d → Dp K H' v d := by
  intro n
  induction n with
  | zero => rintro d v ⟨i, rfl⟩ h; cases h; exact .int i
  | succ n ih =>
    intro d v hf h
    rcases hf with ⟨i, rfl⟩ | ⟨ds, rfl, _, hf⟩
    · cases h; exact .int i
    · cases h with
      | @tup a xs _ hs ha =>
        have key : ∀ (es : List PyData) (xs : List V), (∀ x ∈ es, Fm n x) → DpAll K H xs es → DpAll K H' xs es := by
          intro es
          induction es with
          | nil => intro xs _ h; cases h; exact .nil
          | cons y ys ihy =>
            intro xs hx h
            cases h with
            | cons h1 h2 => exact .cons (ih y _ (hx y List.mem_cons_self) h1) (ihy _ (fun z hz => hx z (List.mem_cons_of_mem _ hz)) h2)
        exact .tup (e.sqt hs) (key ds xs hf ha)
theorem Td.d {K : PySem.W.Frag} {H H' : Hp} {n : Nat} {d : PyData} {v : V} (e : Td H H') (hf : Fm n d) (h : Dp K H v d) : Dp K H' v d := e.dp n d v hf h
theorem Td.ds {K : PySem.W.Frag} {H H' : Hp} {n : Nat} (e : Td H H') : ∀ {es : List PyData} {xs : List V}, (∀ x ∈ es, Fm n x) → DpAll K H xs es → DpAll K H' xs es
  | [], _, _, h => by cases h; exact .nil
  | y :: ys, _, hx, h => by
    cases h with
    | cons h1 h2 => exact .cons (e.d (hx y List.mem_cons_self) h1) (e.ds (fun z hz => hx z (List.mem_cons_of_mem _ hz)) h2)
theorem fm_bool {n : Nat} {b : Bool} (h : Fm n (.bool b)) : False := by
  cases n with
  | zero => obtain ⟨i, h⟩ := h; cases h
  | succ n => rcases h with ⟨i, h⟩ | ⟨ts, h, _⟩ <;> cases h
/-! ### ints of turns, forms as data -/
def InB (x : Int) : Prop := -(2 ^ 600000) ≤ x ∧ x < 2 ^ 600000
theorem InB.of {x : Int} {n : Nat} (h0 : -(2 ^ n) ≤ x) (h1 : x < 2 ^ n) (hn : n ≤ 600000) : InB x := by
  have h : (2 : Int) ^ n ≤ 2 ^ 600000 := by
    have h' : ((2 ^ n : Nat) : Int) ≤ ((2 ^ 600000 : Nat) : Int) := Int.ofNat_le.mpr (Nat.pow_le_pow_right (by decide) hn)
    rw [Int.natCast_pow, Int.natCast_pow] at h'
    exact h'
  unfold InB
  generalize (2 : Int) ^ 600000 = B at h ⊢
  omega
def nI (ns : List Nat) : List V := ns.map fun (n : Nat) => V.int (n : Int)
def nD (ns : List Nat) : List PyData := ns.map fun (n : Nat) => PyData.int (n : Int)
theorem dps_n {K : PySem.W.Frag} {H : Hp} : ∀ (ns : List Nat), DpAll K H (nI ns) (nD ns)
  | [] => .nil
  | n :: ns => .cons (.int n) (dps_n ns)
theorem dps_n_inv {K : PySem.W.Frag} {H : Hp} : ∀ {ns : List Nat} {vs : List V}, DpAll K H vs (nD ns) → vs = nI ns
  | [], _, h => by cases h; rfl
  | n :: ns, _, h => by
    cases h with
    | cons h1 h2 =>
      cases h1
      rw [dps_n_inv h2]
      rfl
def plain (x : Int) : Prop := -(2 ^ 64) ≤ x ∧ x < 2 ^ 64
instance (x : Int) : Decidable (plain x) := by unfold plain; infer_instance
def formD (x : Int) : PyData := if plain x then .int x else .tuple (nD (turnsN x))
def natOf : PyData → Nat
  | .int i => i.toNat
  | _ => 0
theorem natOf_nD (ns : List Nat) : (nD ns).map natOf = ns := by
  unfold nD
  rw [List.map_map]
  conv => rhs; rw [← List.map_id ns]
  exact List.map_congr_left fun n _ => rfl
def isNear : PyData → Bool
  | .int i => decide (i ≤ 64)
  | _ => false
/-- the form of a row of places -/
def rowD (ds : List PyData) : PyData := match ds.getLast? with
  | none => .int 0
  | some d => if isNear d = true then .int (alt (-1) (ds.map natOf)) else .tuple ds
/-- where the last place is near, all are small ints -/
def RowC (ds : List PyData) : Prop := ∀ d, ds.getLast? = some d → isNear d = true → ∃ ns : List Nat, ds = nD ns ∧ ∀ n ∈ ns, n ≤ 64
theorem rowD_near {ns : List Nat} {d : PyData} (h : (nD ns).getLast? = some d) (h2 : isNear d = true) : rowD (nD ns) = .int (alt (-1) ns) := by
  unfold rowD
  rw [h]
  show (if isNear d = true then _ else _) = _
  rw [if_pos h2, natOf_nD]
theorem rowD_far {ds : List PyData} {d : PyData} (h : ds.getLast? = some d) (h2 : isNear d = false) : rowD ds = .tuple ds := by
  unfold rowD
  rw [h]
  show (if isNear d = true then _ else _) = _
  rw [h2, if_neg Bool.false_ne_true]
theorem Fm.lay : ∀ {n : Nat} {d : PyData}, Fm n d → d.canLay0 = true ∧ d.depth ≤ n := by
  intro n
  induction n with
  | zero => rintro d ⟨i, rfl⟩; exact ⟨by rw [PyData.canLay0], by rw [PyData.depth] <;> first | exact Nat.le_refl _ | simp⟩
  | succ n ih =>
    intro d h
    rcases h with ⟨i, rfl⟩ | ⟨ds, rfl, _, h⟩
    · exact ⟨by rw [PyData.canLay0], by rw [PyData.depth] <;> first | exact Nat.zero_le _ | simp⟩
    · have key : ∀ l : List PyData, (∀ x ∈ l, Fm n x) → PyData.canLayAll0 l = true ∧ PyData.depthAll l ≤ n := by
        intro l
        induction l with
        | nil => intro _; exact ⟨by rw [PyData.canLayAll0], by rw [PyData.depthAll]; exact Nat.zero_le _⟩
        | cons x xs ihl =>
          intro hl
          obtain ⟨a1, a2⟩ := ih (hl x List.mem_cons_self)
          obtain ⟨b1, b2⟩ := ihl fun y hy => hl y (List.mem_cons_of_mem _ hy)
          refine ⟨by rw [PyData.canLayAll0, a1, b1]; rfl, ?_⟩
          rw [PyData.depthAll]
          exact Nat.max_le.mpr ⟨a2, b2⟩
      obtain ⟨a, b⟩ := key ds h
      exact ⟨by rw [PyData.canLay0]; exact a, by rw [PyData.depth]; omega⟩
theorem shaped_list {n : Nat} {ds : List PyData} (hn : n ≤ 40) (h : ∀ x ∈ ds, Fm n x) : SeqAt.shaped (.list ds) = true := by
  have key : ∀ l : List PyData, (∀ x ∈ l, Fm n x) → PyData.canLayAll0 l = true ∧ PyData.depthAll l ≤ n := by
    intro l
    induction l with
    | nil => intro _; exact ⟨by rw [PyData.canLayAll0], by rw [PyData.depthAll]; exact Nat.zero_le _⟩
    | cons x xs ihl =>
      intro hl
      obtain ⟨a1, a2⟩ := (hl x List.mem_cons_self).lay
      obtain ⟨b1, b2⟩ := ihl fun y hy => hl y (List.mem_cons_of_mem _ hy)
      refine ⟨by rw [PyData.canLayAll0, a1, b1]; rfl, ?_⟩
      rw [PyData.depthAll]
      exact Nat.max_le.mpr ⟨a2, b2⟩
  obtain ⟨a, b⟩ := key ds h
  unfold SeqAt.shaped
  rw [PyData.canLay0, a, PyData.depth]
  simp
  omega
theorem shaped_nil : SeqAt.shaped (.list []) = true := shaped_list (n := 0) (by decide) (fun x h => by cases h)
theorem eqv_nil (ds : List PyData) : PyData.eqv (.list ds) (.list []) = ds.isEmpty := by
  rw [PyData.eqv]
  cases ds with
  | nil => rw [PyData.eqvAll]; rfl
  | cons _ _ => rw [PyData.eqvAll]; rfl
/-! ### fields: where the groups of bits lie -/
def F2 (low g : Int) (f : PyData) : Prop := (∃ d, 0 ≤ d ∧ d < 90 ∧ f = .tuple [.int low, .int (low + 1 + d)]) ∨
  ∃ d, 0 ≤ d ∧ d < 10 ^ 9 ∧ f = .tuple [.int low, .int (low + 7), .int (low + 9 + g), .int (low + 11 + 2 * g + d)]
def F3 (g : Int) (f2 f3 : PyData) : Prop := f3 = .tuple [.int g, f2] ∨ (∃ e ts, 0 ≤ e ∧ e < 60 ∧ f2 = .tuple ts ∧ f3 = .tuple [f2, .tuple (.int (e + 1) :: .int 64 :: ts)]) ∨
  f3 = .tuple [.int g, .int (g + 1), f2, .tuple [.int g, f2]]
structure Fields (fs : List PyData) : Prop where
  ex : ∃ (a low g : Int) (f2 f3 : PyData), fs = [.int 0, .int a, f2, f3] ∧ 130 ≤ a ∧ a < 2 ^ 64 ∧ 200 ≤ low ∧ low < 260 ∧ 150 ≤ g ∧ g < 190 ∧ F2 low g f2 ∧ F3 g f2 f3
def placeD (fs : List PyData) (p : Nat) : PyData := match fs[p / 200]? with
  | some (.int a) => formD (a + ((p % 200 : Nat) : Int))
  | some (.tuple ts) => .tuple (nD (turnsN ((p % 200 : Nat) : Int)) ++ ts)
  | _ => .none
def movedD (fs : List PyData) (c : Int) : PyData := rowD ((turnsN c).map (placeD fs))
end Fb
namespace Fb
open PySem
/-! ### the size of an alternating sum, by its last place -/
def flip (s : Int) : Nat → Int
  | 0 => s
  | n + 1 => flip (-s) n
theorem flip_pm {s : Int} (h : s = 1 ∨ s = -1) : ∀ n, flip s n = 1 ∨ flip s n = -1 := by
  intro n
  induction n generalizing s with
  | zero => exact h
  | succ n ih => exact ih (by omega)
theorem flip_succ (s : Int) (n : Nat) : flip s (n + 1) = -flip s n := by
  induction n generalizing s with
  | zero => rfl
  | succ n ih => exact ih (-s)
theorem alt_snoc (s : Int) (l : List Nat) (p : Nat) : alt s (l ++ [p]) = alt s l + flip s l.length * 2 ^ p := by
  induction l generalizing s with
  | nil => show s * 2 ^ p + 0 = 0 + s * 2 ^ p; omega
  | cons q l ih =>
    show s * 2 ^ q + alt (-s) (l ++ [p]) = s * 2 ^ q + alt (-s) l + flip (-s) l.length * 2 ^ p
    rw [ih]; omega
theorem alt_sum {s : Int} (h : s = 1 ∨ s = -1) : ∀ (l : List Nat) (a n : Nat), l.Pairwise (· < ·) → (∀ p ∈ l, a ≤ p ∧ p < n) → a ≤ n → -(2 ^ n - 2 ^ a) ≤ alt s l ∧ alt s l ≤ 2 ^ n - 2 ^ a := by
  intro l
  induction l generalizing s with
  | nil =>
    intro a n _ _ hn
    have := Nat.pow_le_pow_right (n := 2) (by decide) hn
    have h1 : ((2 ^ a : Nat) : Int) = 2 ^ a := Int.natCast_pow 2 a
    have h2 : ((2 ^ n : Nat) : Int) = 2 ^ n := Int.natCast_pow 2 n
    show -(2 ^ n - 2 ^ a) ≤ (0 : Int) ∧ (0 : Int) ≤ _
    omega
  | cons p l ih =>
    intro a n hp hb hn
    obtain ⟨h1, h2⟩ := List.pairwise_cons.mp hp
    obtain ⟨b1, b2⟩ := hb p List.mem_cons_self
    obtain ⟨c1, c2⟩ := ih (s := -s) (by omega) (p + 1) n h2 (fun q hq => ⟨h1 q hq, (hb q (List.mem_cons_of_mem _ hq)).2⟩) (by omega)
    have e := Nat.pow_le_pow_right (n := 2) (by decide) b1
    have h1 : ((2 ^ a : Nat) : Int) = 2 ^ a := Int.natCast_pow 2 a
    have h2 : ((2 ^ p : Nat) : Int) = 2 ^ p := Int.natCast_pow 2 p
    have h3 : (2 : Int) ^ (p + 1) = 2 ^ p * 2 := Int.pow_succ 2 p
    have h4 : (0 : Int) < 2 ^ p := Int.pow_pos (by decide)
    show -(2 ^ n - 2 ^ a) ≤ s * 2 ^ p + alt (-s) l ∧ s * 2 ^ p + alt (-s) l ≤ _
    rcases h with rfl | rfl <;> omega
theorem alt_lt {s : Int} (h : s = 1 ∨ s = -1) {l : List Nat} {n : Nat} (hp : l.Pairwise (· < ·)) (hb : ∀ p ∈ l, p < n) : -(2 ^ n) < alt s l ∧ alt s l < 2 ^ n := by
  have := alt_sum h l 0 n hp (fun p q => ⟨Nat.zero_le _, hb p q⟩) (Nat.zero_le _)
  have h0 : (2 : Int) ^ 0 = 1 := rfl
  omega
/-- the last place tells the sign -/
theorem alt_sign {s : Int} (h : s = 1 ∨ s = -1) {l : List Nat} {p : Nat} (hp : (l ++ [p]).Pairwise (· < ·)) : (flip s l.length = 1 → 0 < alt s (l ++ [p])) ∧ (flip s l.length = -1 → alt s (l ++ [p]) < 0) := by
  obtain ⟨h1, _, h3⟩ := List.pairwise_append.mp hp
  have := alt_lt h (n := p) h1 fun q hq => h3 q hq p List.mem_cons_self
  rw [alt_snoc]
  constructor <;> intro e <;> rw [e] <;> omega
/-- an int from 0 on is below 2 to its last turn -/
theorem last_lt {c : Int} (h0 : 0 ≤ c) {l : List Nat} {p : Nat} (h : turnsN c = l ++ [p]) : c < 2 ^ p ∧ (2 : Int) ^ p ≤ 2 * c := by
  have asc := turns_asc c
  have e := turns_alt c
  rw [h] at asc e
  obtain ⟨h1, _, h3⟩ := List.pairwise_append.mp asc
  have b := alt_lt (s := -1) (.inr rfl) (n := p) h1 fun q hq => h3 q hq p List.mem_cons_self
  have sg := alt_sign (s := -1) (.inr rfl) asc
  have pm := flip_pm (s := -1) (.inr rfl) l.length
  have f1 : flip (-1) l.length = 1 := by
    rcases pm with h | h
    · exact h
    · have := sg.2 h; omega
  constructor
  · rcases List.eq_nil_or_concat l with rfl | ⟨l', q, rfl⟩
    · cases f1
    · rw [List.concat_eq_append] at *
      have sg2 := alt_sign (s := -1) (.inr rfl) h1
      have f2 : flip (-1) l'.length = -1 := by
        rw [List.length_append, List.length_singleton, flip_succ] at f1
        omega
      have := sg2.2 f2
      rw [alt_snoc, f1] at e
      omega
  · by_cases c0 : 2 * c < 2 ^ p
    · cases p with
      | zero => 
        have : c = 0 := by have : (2 : Int) ^ 0 = 1 := rfl; omega
        subst this
        have z : turnsN 0 = [] := by decide +kernel
        rw [z] at h
        simp at h
      | succ p =>
        rw [Int.pow_succ] at c0
        have := turns_lt (x := c) (n := p) (by have := Int.pow_pos (n := 2) (m := p) (by decide); omega) (by omega) (p + 1) (by rw [h]; simp)
        omega
    · omega
theorem last_mono {c c' : Int} (h0 : 0 ≤ c) (hc : c ≤ c') {l l' : List Nat} {p p' : Nat} (h : turnsN c = l ++ [p]) (h' : turnsN c' = l' ++ [p']) : p ≤ p' := by
  have a := (last_lt h0 h).2
  have b := (last_lt (by omega) h').1
  by_cases e : p ≤ p'
  · exact e
  · have := Nat.pow_le_pow_right (n := 2) (by decide) (show p' + 1 ≤ p by omega)
    have h1 : ((2 ^ (p' + 1) : Nat) : Int) = 2 ^ (p' + 1) := Int.natCast_pow 2 _
    have h2 : ((2 ^ p : Nat) : Int) = 2 ^ p := Int.natCast_pow 2 p
    rw [Int.pow_succ] at h1
    omega
theorem alt_dvd : ∀ (l : List Nat) (s : Int) (a : Nat), (∀ p ∈ l, a ≤ p) → ∃ k, alt s l = 2 ^ a * k := by
  intro l
  induction l with
  | nil => intro s a _; exact ⟨0, by show (0 : Int) = _; omega⟩
  | cons p l ih =>
    intro s a h
    obtain ⟨k, hk⟩ := ih (-s) a fun q hq => h q (List.mem_cons_of_mem _ hq)
    obtain ⟨e, rfl⟩ : ∃ e, p = a + e := ⟨p - a, by have := h p List.mem_cons_self; omega⟩
    refine ⟨s * 2 ^ e + k, ?_⟩
    show s * 2 ^ (a + e) + alt (-s) l = _
    rw [hk, Int.pow_add, Int.mul_add, ← Int.mul_assoc, ← Int.mul_assoc, Int.mul_comm s]
theorem odd_ne {s : Int} (h : s = 1 ∨ s = -1) (p : Nat) (k m : Int) : s * 2 ^ p + 2 ^ (p + 1) * k ≠ 2 ^ (p + 1) * m := by
  intro e
  have h1 : (0 : Int) < 2 ^ p := Int.pow_pos (by decide)
  have e2 : (2 : Int) ^ p * (s + 2 * k) = 2 ^ p * (2 * m) := by
    rw [Int.mul_add, ← Int.mul_assoc, ← Int.mul_assoc, ← Int.pow_succ, Int.mul_comm _ s]
    exact e
  have := Int.eq_of_mul_eq_mul_left (by omega) e2
  omega
/-- turns are unique: an ascending row is the turns of its sum -/
theorem alt_inj : ∀ (l l' : List Nat) (s : Int), (s = 1 ∨ s = -1) → l.Pairwise (· < ·) → l'.Pairwise (· < ·) → alt s l = alt s l' → l = l' := by
  intro l
  induction l with
  | nil =>
    intro l' s h _ h2 e
    cases l' with
    | nil => rfl
    | cons q l' =>
      obtain ⟨b1, b2⟩ := List.pairwise_cons.mp h2
      obtain ⟨k, hk⟩ := alt_dvd l' (-s) (q + 1) b1
      have e' : (0 : Int) = s * 2 ^ q + alt (-s) l' := e
      rw [hk] at e'
      exact absurd e'.symm (by have := odd_ne h q k 0; rwa [Int.mul_zero] at this)
  | cons p l ih =>
    intro l' s h h1 h2 e
    obtain ⟨a1, a2⟩ := List.pairwise_cons.mp h1
    cases l' with
    | nil =>
      obtain ⟨k, hk⟩ := alt_dvd l (-s) (p + 1) a1
      have e' : s * 2 ^ p + alt (-s) l = 0 := e
      rw [hk] at e'
      exact absurd e' (by have := odd_ne h p k 0; rwa [Int.mul_zero] at this)
    | cons q l' =>
      obtain ⟨b1, b2⟩ := List.pairwise_cons.mp h2
      have e' : s * 2 ^ p + alt (-s) l = s * 2 ^ q + alt (-s) l' := e
      obtain ⟨k, hk⟩ := alt_dvd l (-s) (p + 1) a1
      obtain ⟨m, hm⟩ := alt_dvd l' (-s) (q + 1) b1
      have pq : p = q := by
        rcases Nat.lt_trichotomy p q with c | c | c
        · obtain ⟨z, hz⟩ := alt_dvd (q :: l') s (p + 1) (fun r hr => by
            rcases List.mem_cons.mp hr with rfl | hr
            · exact c
            · have := b1 r hr; omega)
          have ez : s * 2 ^ q + alt (-s) l' = 2 ^ (p + 1) * z := hz
          rw [ez, hk] at e'
          exact absurd e' (odd_ne h p k z)
        · exact c
        · obtain ⟨z, hz⟩ := alt_dvd (p :: l) s (q + 1) (fun r hr => by
            rcases List.mem_cons.mp hr with rfl | hr
            · exact c
            · have := a1 r hr; omega)
          have ez : s * 2 ^ p + alt (-s) l = 2 ^ (q + 1) * z := hz
          rw [ez, hm] at e'
          exact absurd e'.symm (odd_ne h q m z)
      subst pq
      rw [ih l' (-s) (by omega) a2 b2 (by omega)]
/-- the turns of an alternating sum -/
theorem turns_of_alt {l : List Nat} (h : l.Pairwise (· < ·)) : turnsN (alt (-1) l) = l :=
  alt_inj _ _ (-1) (.inr rfl) (turns_asc _) h (turns_alt _)
end Fb
namespace Fb
open PySem L2
def Ne : Nat → PyData → Prop
  | n + 1, .tuple ds => ds ≠ [] ∧ ∀ x ∈ ds, Ne n x
  | _, _ => True
theorem Ne.int (n : Nat) (i : Int) : Ne n (.int i) := by cases n <;> exact True.intro
theorem Sp_.int (n : Nat) (i : Int) : Sp_ n (.int i) := by cases n <;> exact True.intro
/-- a tree whose last place is the highest one, everywhere -/
structure Gd (n : Nat) (h : Int) (d : PyData) : Prop where
  fm : Fm n d
  ne : Ne n d
  sp : Sp_ n d
  ht : ht n d = h
theorem gd_int (n : Nat) (i : Int) : Gd n 0 (.int i) := ⟨Fm.int i, Ne.int n i, Sp_.int n i, ht_int n i⟩
theorem gd_tup {n : Nat} {h : Int} {ds : List PyData} {dl : PyData} (hl : ds.length ≤ 9000) (e : ds.getLast? = some dl) (gl : Gd n h dl) (g : ∀ x ∈ ds, ∃ h', h' ≤ h ∧ Gd n h' x) : Gd (n + 1) (h + 1) (.tuple ds) := by
  have m : dl ∈ ds := List.mem_of_getLast? e
  refine ⟨.inr ⟨ds, rfl, hl, fun x hx => ?_⟩, ⟨List.ne_nil_of_mem m, fun x hx => ?_⟩, ⟨dl, e, fun x hx => ?_, gl.sp⟩, ?_⟩
  · obtain ⟨h', _, k⟩ := g x hx; exact k.fm
  · obtain ⟨h', _, k⟩ := g x hx; exact k.ne
  · obtain ⟨h', l, k⟩ := g x hx; rw [k.ht, gl.ht]; exact l
  · show 1 + maxI (ds.map (Fb.ht n)) = h + 1
    rw [maxI_eq (List.mem_map.mpr ⟨dl, m, gl.ht⟩) (fun x hx => by obtain ⟨y, _, rfl⟩ := List.mem_map.mp hx; exact ht_nonneg n y) (fun y hy => by
      obtain ⟨x, hx, rfl⟩ := List.mem_map.mp hy
      obtain ⟨h', l, k⟩ := g x hx
      rw [k.ht]; exact l)]
    omega
theorem mem_nD {ns : List Nat} {x : PyData} (h : x ∈ nD ns) : ∃ n : Nat, x = .int (n : Int) := by
  obtain ⟨n, _, rfl⟩ := List.mem_map.mp (show x ∈ ns.map _ from h); exact ⟨n, rfl⟩
theorem len_nD (ns : List Nat) : (nD ns).length = ns.length := by unfold nD; rw [List.length_map]
theorem gd_ints {n : Nat} {ns : List Nat} (h0 : ns ≠ []) (hl : ns.length ≤ 9000) : Gd (n + 1) 1 (.tuple (nD ns)) := by
  obtain ⟨d, e⟩ : ∃ d, (nD ns).getLast? = some d := by
    rcases List.eq_nil_or_concat ns with rfl | ⟨m, q, rfl⟩
    · exact absurd rfl h0
    · rw [List.concat_eq_append]; unfold nD; rw [List.map_append]; exact ⟨_, List.getLast?_concat ..⟩
  obtain ⟨m, rfl⟩ := mem_nD (List.mem_of_getLast? e)
  exact gd_tup (h := 0) (by rw [len_nD]; exact hl) e (gd_int n _) fun x hx => by
    obtain ⟨k, rfl⟩ := mem_nD hx; exact ⟨0, Int.le_refl 0, gd_int n _⟩
def hI (x : Int) : Int := if plain x then 0 else 1
theorem gd_form {n : Nat} {x : Int} (h0 : -(2 ^ 2000) ≤ x) (h1 : x < 2 ^ 2000) : Gd (n + 1) (hI x) (formD x) := by
  unfold hI formD
  by_cases c : plain x
  · rw [if_pos c, if_pos c]; exact gd_int _ x
  · rw [if_neg c, if_neg c]
    refine gd_ints (fun e => ?_) (Nat.le_trans (turns_len (n := 2000) h0 h1) (by decide))
    have := turns_alt x
    rw [e] at this
    have h : x = 0 := this.symm
    subst h
    exact c (by decide)
theorem gd_app {n : Nat} {h : Int} {ns : List Nat} {ts : List PyData} (hn : ns.length ≤ 2000) (ht : ts.length ≤ 50) (h0 : 0 ≤ h) {dl : PyData} (e : ts.getLast? = some dl) (gl : Gd n h dl) (g : ∀ x ∈ ts, ∃ h', h' ≤ h ∧ Gd n h' x) : Gd (n + 1) (h + 1) (.tuple (nD ns ++ ts)) := by
  refine gd_tup (by rw [List.length_append, len_nD]; omega) (by rw [List.getLast?_append, e]; rfl) gl fun x hx => ?_
  rcases List.mem_append.mp hx with hx | hx
  · obtain ⟨k, rfl⟩ := mem_nD hx; exact ⟨0, h0, gd_int n _⟩
  · exact g x hx
/-- what a field's tuple is made of -/
def TsOk (n : Nat) (h : Int) (ts : List PyData) : Prop := ts.length ≤ 50 ∧ 0 ≤ h ∧ ∃ dl, ts.getLast? = some dl ∧ Gd n h dl ∧ ∀ x ∈ ts, ∃ h', h' ≤ h ∧ Gd n h' x
theorem TsOk.gd {n : Nat} {h : Int} {ts : List PyData} (t : TsOk n h ts) {ns : List Nat} (hn : ns.length ≤ 2000) : Gd (n + 1) (h + 1) (.tuple (nD ns ++ ts)) := by
  obtain ⟨l, h0, dl, e, gl, g⟩ := t
  exact gd_app hn l h0 e gl g
theorem TsOk.gd0 {n : Nat} {h : Int} {ts : List PyData} (t : TsOk n h ts) : Gd (n + 1) (h + 1) (.tuple ts) := t.gd (ns := []) (by decide)
theorem f2_ok {n : Nat} {low g : Int} {f2 : PyData} (h : F2 low g f2) : ∃ ts, f2 = .tuple ts ∧ TsOk n 0 ts := by
  rcases h with ⟨d, _, _, rfl⟩ | ⟨d, _, _, rfl⟩
  · exact ⟨_, rfl, by show 2 ≤ 50; decide, Int.le_refl 0, _, rfl, gd_int n _, fun x hx => by
      simp at hx; rcases hx with rfl | rfl <;> exact ⟨0, Int.le_refl 0, gd_int n _⟩⟩
  · exact ⟨_, rfl, by show 4 ≤ 50; decide, Int.le_refl 0, _, rfl, gd_int n _, fun x hx => by
      simp at hx; rcases hx with rfl | rfl | rfl | rfl <;> exact ⟨0, Int.le_refl 0, gd_int n _⟩⟩
theorem f3_ok {n : Nat} {low g : Int} {f2 f3 : PyData} (h2 : F2 low g f2) (h : F3 g f2 f3) : ∃ ts h, f3 = .tuple ts ∧ 1 ≤ h ∧ TsOk (n + 2) h ts := by
  obtain ⟨t2, rfl, k2⟩ := f2_ok (n := n) h2
  obtain ⟨t2', e2, k2'⟩ := f2_ok (n := n + 1) h2
  cases e2
  have g2 : Gd (n + 1) 1 (.tuple t2) := k2.gd0
  have g2' : Gd (n + 2) 1 (.tuple t2) := k2'.gd0
  rcases h with rfl | ⟨e, ts, _, _, et, rfl⟩ | rfl
  · exact ⟨_, 1, rfl, Int.le_refl 1, by show 2 ≤ 50; decide, by decide, _, rfl, g2', fun x hx => by
      simp at hx
      rcases hx with rfl | rfl
      · exact ⟨0, by decide, gd_int _ _⟩
      · exact ⟨1, Int.le_refl 1, g2'⟩⟩
  · cases et
    have g3 : Gd (n + 2) 1 (.tuple (.int (e + 1) :: .int 64 :: t2)) := by
      obtain ⟨l, h0, dl, e1, gl, g⟩ := k2'
      refine gd_tup (h := 0) (by show t2.length + 2 ≤ 9000; omega) (dl := dl) ?_ gl fun x hx => ?_
      · rw [List.getLast?_cons, List.getLast?_cons, e1]; rfl
      · rcases List.mem_cons.mp hx with rfl | hx
        · exact ⟨0, Int.le_refl 0, gd_int _ _⟩
        · rcases List.mem_cons.mp hx with rfl | hx
          · exact ⟨0, Int.le_refl 0, gd_int _ _⟩
          · exact g x hx
    exact ⟨_, 1, rfl, Int.le_refl 1, by show 2 ≤ 50; decide, by decide, _, rfl, g3, fun x hx => by
      simp at hx
      rcases hx with rfl | rfl
      · exact ⟨1, Int.le_refl 1, g2'⟩
      · exact ⟨1, Int.le_refl 1, g3⟩⟩
  · have g3 : Gd (n + 2) 2 (.tuple [.int g, .tuple t2]) := gd_tup (h := 1) (by show 2 ≤ 9000; decide) rfl g2 fun x hx => by
      simp at hx
      rcases hx with rfl | rfl
      · exact ⟨0, by decide, gd_int _ _⟩
      · exact ⟨1, Int.le_refl 1, g2⟩
    exact ⟨_, 2, rfl, by decide, by show 4 ≤ 50; decide, by decide, _, rfl, g3, fun x hx => by
      simp at hx
      rcases hx with rfl | rfl | rfl | rfl
      · exact ⟨0, by decide, gd_int _ _⟩
      · exact ⟨0, by decide, gd_int _ _⟩
      · exact ⟨1, by decide, g2'⟩
      · exact ⟨2, by decide, g3⟩⟩
/-! ### places -/
theorem step_in (p : Nat) : -(2 ^ 100) ≤ ((p % 200 : Nat) : Int) ∧ ((p % 200 : Nat) : Int) < 2 ^ 100 := by
  have := Nat.mod_lt p (show 0 < 200 by decide); omega
theorem step_len (p : Nat) : (turnsN ((p % 200 : Nat) : Int)).length ≤ 2000 := by
  have h := Nat.mod_lt p (show 0 < 200 by decide)
  have := turns_len (x := ((p % 200 : Nat) : Int)) (n := 10) (by omega) (by omega)
  omega
theorem place0 {fs : List PyData} (F : Fields fs) {p : Nat} (h : p < 200) : placeD fs p = .int (p : Int) := by
  obtain ⟨a, low, g, f2, f3, rfl, _⟩ := F.ex
  unfold placeD
  rw [show p / 200 = 0 by omega]
  show formD (0 + ((p % 200 : Nat) : Int)) = _
  rw [show p % 200 = p by omega]
  unfold formD
  rw [if_pos (by constructor <;> omega)]
  congr 1
  omega
/-- the height of a place, ever greater -/
theorem places {fs : List PyData} (F : Fields fs) (n : Nat) : ∃ hp : Nat → Int, (∀ p q, p ≤ q → q < 800 → hp p ≤ hp q) ∧ ∀ p, p < 800 → 0 ≤ hp p ∧ Gd (n + 3) (hp p) (placeD fs p) ∧ (64 < p → isNear (placeD fs p) = false) := by
  have F' := F
  obtain ⟨a, low, g, f2, f3, rfl, a0, a1, _, _, _, _, k2, k3⟩ := F.ex
  obtain ⟨t2, rfl, o2⟩ := f2_ok (n := n + 2) k2
  obtain ⟨t3, h3, rfl, h1, o3⟩ := f3_ok (n := n) k2 k3
  refine ⟨fun p => if p < 200 then 0 else if p < 400 then hI (a + ((p % 200 : Nat) : Int)) else if p < 600 then 1 else h3 + 1, ?_, ?_⟩
  · intro p q pq q8
    have hi : ∀ x, 0 ≤ hI x ∧ hI x ≤ 1 := fun x => by unfold hI; split <;> decide
    have mono : ∀ x y : Int, 0 ≤ x → x ≤ y → hI x ≤ hI y := fun x y x0 xy => by
      unfold hI
      by_cases c : plain y
      · have c' : plain x := ⟨by omega, by have := c.2; omega⟩
        rw [if_pos c, if_pos c']; decide
      · rw [if_neg c]
        split <;> decide
    dsimp only
    have b1 := hi (a + ((p % 200 : Nat) : Int))
    have b2 := hi (a + ((q % 200 : Nat) : Int))
    by_cases c1 : p < 200
    · rw [if_pos c1]
      split
      · exact Int.le_refl 0
      · split
        · omega
        · split <;> omega
    · rw [if_neg c1, if_neg (show ¬ q < 200 by omega)]
      by_cases c2 : p < 400
      · rw [if_pos c2]
        split
        · exact mono _ _ (by omega) (by omega)
        · split <;> omega
      · rw [if_neg c2, if_neg (show ¬ q < 400 by omega)]
        split
        · split <;> omega
        · rw [if_neg (show ¬ q < 600 by omega)]; omega
  · intro p p8
    dsimp only
    by_cases c1 : p < 200
    · rw [if_pos c1, place0 F' c1]
      exact ⟨Int.le_refl 0, gd_int _ _, fun h => decide_eq_false (by omega)⟩
    · rw [if_neg c1]
      by_cases c2 : p < 400
      · rw [if_pos c2]
        unfold placeD
        rw [show p / 200 = 1 by omega]
        have hs := step_in p
        refine ⟨by unfold hI; split <;> decide, ?_, fun _ => ?_⟩
        · have big : (2 : Int) ^ 101 ≤ 2 ^ 2000 := by
            have h' : ((2 ^ 101 : Nat) : Int) ≤ ((2 ^ 2000 : Nat) : Int) := Int.ofNat_le.mpr (Nat.pow_le_pow_right (by decide) (by decide))
            rw [Int.natCast_pow, Int.natCast_pow] at h'
            exact h'
          refine gd_form ?_ ?_
          · generalize (2 : Int) ^ 2000 = B at big ⊢; omega
          · generalize (2 : Int) ^ 2000 = B at big ⊢; omega
        · show isNear (formD _) = false
          unfold formD
          split
          · exact decide_eq_false (by omega)
          · rfl
      · rw [if_neg c2]
        by_cases c3 : p < 600
        · rw [if_pos c3]
          unfold placeD
          rw [show p / 200 = 2 by omega]
          exact ⟨by decide, o2.gd (step_len p), fun _ => rfl⟩
        · rw [if_neg c3]
          unfold placeD
          rw [show p / 200 = 3 by omega]
          exact ⟨by omega, o3.gd (step_len p), fun _ => rfl⟩
theorem place_fm {fs : List PyData} (F : Fields fs) {p : Nat} (h : p < 800) : Fm 3 (placeD fs p) := by
  obtain ⟨hp, _, k⟩ := places F 0
  exact (k p h).2.1.fm
/-- the row of places of a code keeps the word for row_form -/
theorem places_row {fs : List PyData} (F : Fields fs) {ns : List Nat} (asc : ns.Pairwise (· < ·)) (hb : ∀ p ∈ ns, p < 800) : RowC (ns.map (placeD fs)) := by
  intro d hd hn
  rcases List.eq_nil_or_concat ns with rfl | ⟨m, q, rfl⟩
  · cases hd
  rw [List.concat_eq_append] at *
  rw [List.map_append, List.map_singleton, List.getLast?_concat] at hd
  cases hd
  obtain ⟨hp, _, k⟩ := places F 0
  have q8 : q < 800 := hb q (by simp)
  have q64 : q ≤ 64 := by
    by_cases c : 64 < q
    · have := (k q q8).2.2 c
      rw [hn] at this
      cases this
    · omega
  have all : ∀ p ∈ m ++ [q], p ≤ 64 := fun p hp => by
    rcases List.mem_append.mp hp with hp | hp
    · have := (List.pairwise_append.mp asc).2.2 p hp q List.mem_cons_self; omega
    · simp at hp; omega
  refine ⟨m ++ [q], ?_, all⟩
  unfold nD
  exact List.map_congr_left fun p hp => place0 F (by have := all p hp; omega)
theorem turns_800 {c : Int} (h0 : 0 ≤ c) (h1 : c < 2 ^ 799) : ∀ p ∈ turnsN c, p < 800 := fun p hp => by
  have := turns_lt (n := 799) (by generalize (2 : Int) ^ 799 = B at h1 ⊢; omega) h1 p hp; omega
/-- a moved code: an int if it is small, else a tuple; its height by its last turn -/
theorem moved_cases {fs : List PyData} (F : Fields fs) {c : Int} (h0 : 0 ≤ c) (h1 : c < 2 ^ 799) :
    ((∀ p ∈ turnsN c, p ≤ 64) ∧ movedD fs c = .int c) ∨ ∃ l p, turnsN c = l ++ [p] ∧ 64 < p ∧ movedD fs c = .tuple ((turnsN c).map (placeD fs)) := by
  have hb := turns_800 h0 h1
  have asc := turns_asc c
  have e := turns_alt c
  have near : (∀ p ∈ turnsN c, p ≤ 64) → movedD fs c = .int c := fun all => by
    unfold movedD
    have e1 : (turnsN c).map (placeD fs) = nD (turnsN c) := by
      unfold nD
      exact List.map_congr_left fun p hp => place0 F (by have := all p hp; omega)
    rw [e1]
    cases hl : (nD (turnsN c)).getLast? with
    | none =>
      have : turnsN c = [] := by
        have := List.getLast?_eq_none_iff.mp hl
        unfold nD at this
        exact List.map_eq_nil_iff.mp this
      rw [this] at e ⊢
      show PyData.int 0 = .int c
      congr 1
    | some d =>
      obtain ⟨n, hn, rfl⟩ := List.mem_map.mp (List.mem_of_getLast? hl)
      rw [rowD_near hl (decide_eq_true (by have := all n hn; omega)), e]
  rcases List.eq_nil_or_concat (turnsN c) with h | ⟨m, q, h⟩
  · left
    have all : ∀ p ∈ turnsN c, p ≤ 64 := by rw [h]; intro p hp; cases hp
    exact ⟨all, near all⟩
  · rw [List.concat_eq_append] at h
    by_cases c64 : q ≤ 64
    · left
      have all : ∀ p ∈ turnsN c, p ≤ 64 := by
        rw [h] at asc ⊢
        intro p hp
        rcases List.mem_append.mp hp with hp | hp
        · have := (List.pairwise_append.mp asc).2.2 p hp q List.mem_cons_self; omega
        · simp at hp; omega
      exact ⟨all, near all⟩
    · right
      refine ⟨m, q, h, by omega, ?_⟩
      obtain ⟨hp, _, k⟩ := places F 0
      have q8 : q < 800 := hb q (by rw [h]; simp)
      unfold movedD
      refine rowD_far (d := placeD fs q) ?_ ((k q q8).2.2 (by omega))
      rw [h, List.map_append, List.map_singleton, List.getLast?_concat]
theorem len_turns {c : Int} (h0 : 0 ≤ c) (h1 : c < 2 ^ 799) : (turnsN c).length ≤ 800 :=
  turns_len (n := 799) (by generalize (2 : Int) ^ 799 = B at h1 ⊢; omega) h1
/-- the height of a moved code, ever greater -/
theorem moveds {fs : List PyData} (F : Fields fs) (n : Nat) : ∃ hm : Int → Int, (∀ c c', 0 ≤ c → c ≤ c' → c' < 2 ^ 799 → hm c ≤ hm c') ∧ ∀ c, 0 ≤ c → c < 2 ^ 799 → 0 ≤ hm c ∧ Gd (n + 4) (hm c) (movedD fs c) ∧ (isNear (movedD fs c) = true → c ≤ 64) := by
  obtain ⟨hp, mono, k⟩ := places F n
  refine ⟨fun c => match (turnsN c).getLast? with | none => 0 | some p => if p ≤ 64 then 0 else hp p + 1, ?_, ?_⟩
  · intro c c' c0 cc c8
    dsimp only
    have hb := turns_800 (c := c') (by omega) c8
    have hb0 := turns_800 (c := c) c0 (by generalize (2 : Int) ^ 799 = B at c8 ⊢; omega)
    rcases List.eq_nil_or_concat (turnsN c) with h | ⟨m, q, h⟩
    · rw [h]
      show (0 : Int) ≤ _
      split
      · exact Int.le_refl 0
      · rename_i p hpe
        split
        · exact Int.le_refl 0
        · have := (k p (hb p (List.mem_of_getLast? hpe))).1; omega
    · rw [List.concat_eq_append] at h
      rcases List.eq_nil_or_concat (turnsN c') with h' | ⟨m', q', h'⟩
      · have e' := turns_alt c'
        rw [h'] at e'
        have z : c' = 0 := e'.symm
        have z0 : c = 0 := by omega
        rw [z0] at h
        rw [z] at h'
        rw [h'] at h
        simp at h
      · rw [List.concat_eq_append] at h'
        have pq := last_mono c0 cc h h'
        have q8 : q' < 800 := hb q' (by rw [h']; simp)
        rw [h, h', List.getLast?_concat, List.getLast?_concat]
        show (if q ≤ 64 then (0 : Int) else hp q + 1) ≤ if q' ≤ 64 then 0 else hp q' + 1
        have := mono q q' pq q8
        have := (k q' q8).1
        split <;> split <;> omega
  · intro c c0 c8
    dsimp only
    have hb := turns_800 (c := c) c0 c8
    have asc := turns_asc c
    rcases moved_cases F c0 c8 with ⟨all, e⟩ | ⟨l, p, e1, p64, e⟩
    · rw [e]
      have z : (match (turnsN c).getLast? with | none => (0 : Int) | some p => if p ≤ 64 then 0 else hp p + 1) = 0 := by
        split
        · rfl
        · rename_i p hpe
          rw [if_pos (all p (List.mem_of_getLast? hpe))]
      rw [z]
      exact ⟨Int.le_refl 0, gd_int _ _, fun h => of_decide_eq_true h⟩
    · rw [e, e1, List.getLast?_concat]
      show 0 ≤ (if p ≤ 64 then (0 : Int) else hp p + 1) ∧ Gd (n + 4) (if p ≤ 64 then (0 : Int) else hp p + 1) _ ∧ _
      rw [if_neg (by omega)]
      have p8 : p < 800 := hb p (by rw [e1]; simp)
      have kp := k p p8
      refine ⟨by omega, gd_tup (dl := placeD fs p) ?_ ?_ kp.2.1 fun x hx => ?_, fun h => by cases h⟩
      · have := len_turns c0 c8
        rw [e1] at this
        rw [List.length_map]; omega
      · rw [List.map_append, List.map_singleton, List.getLast?_concat]
      · obtain ⟨q, hq, rfl⟩ := List.mem_map.mp hx
        have q8 : q < 800 := hb q (by rw [e1]; exact hq)
        refine ⟨hp q, mono q p ?_ p8, (k q q8).2.1⟩
        rw [e1] at asc
        rcases List.mem_append.mp hq with hq | hq
        · have := (List.pairwise_append.mp asc).2.2 q hq p List.mem_cons_self; omega
        · simp at hq; omega
/-- codes that ascend -/
def Codes (cs : List Int) : Prop := cs.Pairwise (· < ·) ∧ (∀ c ∈ cs, 0 ≤ c ∧ c < 2 ^ 799) ∧ cs.length ≤ 2000
def codesD (fs : List PyData) (cs : List Int) : PyData := rowD (cs.map (movedD fs))
theorem small_moved {fs : List PyData} (F : Fields fs) {c : Int} (h0 : 0 ≤ c) (h1 : c ≤ 64) : movedD fs c = .int c := by
  have h7 : c < 2 ^ 7 := by omega
  have c8 : c < 2 ^ 799 := by
    have big : (2 : Int) ^ 7 ≤ 2 ^ 799 := by
      have h' : ((2 ^ 7 : Nat) : Int) ≤ ((2 ^ 799 : Nat) : Int) := Int.ofNat_le.mpr (Nat.pow_le_pow_right (by decide) (by decide))
      rw [Int.natCast_pow, Int.natCast_pow] at h'
      exact h'
    generalize (2 : Int) ^ 799 = B at big ⊢; omega
  rcases moved_cases F h0 c8 with ⟨_, e⟩ | ⟨l, p, e1, p64, _⟩
  · exact e
  · have := turns_lt (n := 7) (by omega) h7 p (by rw [e1]; simp)
    omega
theorem codes_row {fs : List PyData} (F : Fields fs) {cs : List Int} (h : Codes cs) : RowC (cs.map (movedD fs)) := by
  obtain ⟨asc, hb, _⟩ := h
  intro d hd hn
  rcases List.eq_nil_or_concat cs with rfl | ⟨m, q, rfl⟩
  · cases hd
  rw [List.concat_eq_append] at *
  rw [List.map_append, List.map_singleton, List.getLast?_concat] at hd
  cases hd
  obtain ⟨hm, _, k⟩ := moveds F 0
  have hq := hb q (by simp)
  have q64 := (k q hq.1 hq.2).2.2 hn
  have all : ∀ c ∈ m ++ [q], c ≤ 64 := fun c hc => by
    rcases List.mem_append.mp hc with hc | hc
    · have := (List.pairwise_append.mp asc).2.2 c hc q List.mem_cons_self; omega
    · simp at hc; omega
  refine ⟨(m ++ [q]).map Int.toNat, ?_, fun n hn => ?_⟩
  · unfold nD
    rw [List.map_map]
    refine List.map_congr_left fun c hc => ?_
    rw [small_moved F (hb c hc).1 (all c hc)]
    show PyData.int c = .int ((c.toNat : Nat) : Int)
    have := (hb c hc).1
    congr 1
    omega
  · obtain ⟨c, hc, rfl⟩ := List.mem_map.mp hn
    have := all c hc
    omega
theorem codes_gd {fs : List PyData} (F : Fields fs) {cs : List Int} (h : Codes cs) (n : Nat) : ∃ hh, Gd (n + 5) hh (codesD fs cs) := by
  obtain ⟨asc, hb, hl⟩ := h
  obtain ⟨hm, mono, k⟩ := moveds F n
  unfold codesD
  rcases List.eq_nil_or_concat cs with rfl | ⟨m, q, rfl⟩
  · exact ⟨0, gd_int _ _⟩
  rw [List.concat_eq_append] at *
  have e : ((m ++ [q]).map (movedD fs)).getLast? = some (movedD fs q) := by rw [List.map_append, List.map_singleton, List.getLast?_concat]
  have hq := hb q (by simp)
  by_cases c : isNear (movedD fs q) = true
  · unfold rowD
    rw [e]
    show ∃ hh, Gd (n + 5) hh (if isNear (movedD fs q) = true then _ else _)
    rw [if_pos c]
    exact ⟨0, gd_int _ _⟩
  · rw [rowD_far e (Bool.eq_false_iff.mpr c)]
    refine ⟨hm q + 1, gd_tup (by rw [List.length_map]; omega) e (k q hq.1 hq.2).2.1 fun x hx => ?_⟩
    obtain ⟨c', hc', rfl⟩ := List.mem_map.mp hx
    have hc := hb c' hc'
    refine ⟨hm c', mono c' q hc.1 ?_ hq.2, (k c' hc.1 hc.2).2.1⟩
    rcases List.mem_append.mp hc' with h | h
    · have := (List.pairwise_append.mp asc).2.2 c' h q List.mem_cons_self; omega
    · simp at h; omega
end Fb
namespace Fb
open PySem L2
theorem cpow {i j : Int} (h : 0 ≤ j ∧ j ≤ 1000000 ∧ i.natAbs < 2 ^ 64) : CPow i j := h
theorem dps_last {K : PySem.W.Frag} {H : Hp} {ini : List PyData} {d : PyData} {xs : List V} (h : DpAll K H xs (ini ++ [d])) : ∃ x, atI xs (-1) = some x ∧ Dp K H x d := by
  have hl := dps_length h
  rw [List.length_append, List.length_singleton] at hl
  have hi : ini.length < xs.length := by omega
  have e : xs[ini.length]? = some xs[ini.length] := List.getElem?_eq_getElem hi
  obtain ⟨d', h1, h2⟩ := dps_get h e
  rw [List.getElem?_append_right (Nat.le_refl _), Nat.sub_self] at h1
  cases h1
  refine ⟨_, ?_, h2⟩
  unfold atI ixN
  rw [if_neg (by decide), if_pos (by omega)]
  show xs[((-1 : Int) + xs.length).toNat]? = _
  rw [show ((-1 : Int) + xs.length).toNat = ini.length by omega]
  exact e
/-! ### codes: groups of bits 200 places apart -/
def val4 (d : Nat → Int) : Int := d 0 + d 1 * 2 ^ 200 + d 2 * 2 ^ 400 + d 3 * 2 ^ 600
def CodeB (m : Nat) (b c : Int) : Prop := ∃ d : Nat → Int, c = val4 d ∧ (∀ k, 0 ≤ d k ∧ d k < b) ∧ ∀ k, m ≤ k → d k = 0
def cb (j : Nat) : Int := 2 ^ 57 + 4 * (j : Int)
abbrev Code (m j : Nat) (c : Int) : Prop := CodeB m (cb j) c
theorem CodeB.mono {m : Nat} {b b' c : Int} (h : CodeB m b c) (e : b ≤ b') : CodeB m b' c := by
  obtain ⟨d, h1, h2, h3⟩ := h
  exact ⟨d, h1, fun k => ⟨(h2 k).1, by have := (h2 k).2; omega⟩, h3⟩
theorem code_small {m : Nat} {b e : Int} (hm : 1 ≤ m) (h0 : 0 ≤ e) (h1 : e < b) : CodeB m b e := by
  refine ⟨fun k => if k = 0 then e else 0, ?_, fun k => ?_, fun k hk => ?_⟩
  · unfold val4; simp
  · dsimp only; split <;> omega
  · dsimp only; rw [if_neg (by omega)]
theorem code_add {m : Nat} {b c e : Int} (hm : 1 ≤ m) (h : CodeB m b c) (h0 : 0 ≤ e) : CodeB m (b + e) (c + e) := by
  obtain ⟨d, rfl, h2, h3⟩ := h
  refine ⟨fun k => if k = 0 then d 0 + e else d k, ?_, fun k => ?_, fun k hk => ?_⟩
  · unfold val4; simp; omega
  · dsimp only
    have := h2 0
    have := h2 k
    split <;> omega
  · dsimp only; rw [if_neg (by omega)]; exact h3 k hk
theorem code_piece {m : Nat} {b c pc : Int} {k s : Nat} (h : CodeB m b c) (hk : k < m) (hm : m ≤ 4) (p0 : 0 ≤ pc) (p1 : pc < 2 ^ 40) (hs : s < 15) : CodeB m (b + 2 ^ 55) (c + pc * 2 ^ (200 * k + s)) := by
  obtain ⟨d, rfl, h2, h3⟩ := h
  have hs1 : (0 : Int) < 2 ^ s := Int.pow_pos (by decide)
  have hs2 : (2 : Int) ^ s ≤ 2 ^ 14 := by
    have h' : ((2 ^ s : Nat) : Int) ≤ ((2 ^ 14 : Nat) : Int) := Int.ofNat_le.mpr (Nat.pow_le_pow_right (by decide) (by omega))
    rw [Int.natCast_pow, Int.natCast_pow] at h'
    exact h'
  have q0 : 0 ≤ pc * 2 ^ s := Int.mul_nonneg p0 (by omega)
  have q1 : pc * 2 ^ s < 2 ^ 55 := by
    have a : pc * 2 ^ s ≤ pc * 2 ^ 14 := Int.mul_le_mul_of_nonneg_left hs2 p0
    omega
  have e : pc * 2 ^ (200 * k + s) = (pc * 2 ^ s) * 2 ^ (200 * k) := by rw [Int.pow_add, Int.mul_assoc, Int.mul_comm (2 ^ (200 * k))]
  rw [e]
  generalize pc * 2 ^ s = z at q0 q1 ⊢
  refine ⟨fun i => if i = k then d k + z else d i, ?_, fun i => ?_, fun i hi => ?_⟩
  · match k, (by omega : k < 4) with
    | 0, _ => unfold val4; simp; omega
    | 1, _ => unfold val4; simp; rw [Int.add_mul]; omega
    | 2, _ => unfold val4; simp; rw [Int.add_mul]; omega
    | 3, _ => unfold val4; simp; rw [Int.add_mul]; omega
  · dsimp only
    have := h2 k
    have := h2 i
    split <;> omega
  · dsimp only; rw [if_neg (by omega)]; exact h3 i hi
theorem p_le {a b : Nat} (h : a ≤ b) : (2 : Int) ^ a ≤ 2 ^ b := by
  have h' : ((2 ^ a : Nat) : Int) ≤ ((2 ^ b : Nat) : Int) := Int.ofNat_le.mpr (Nat.pow_le_pow_right (by decide) h)
  rw [Int.natCast_pow, Int.natCast_pow] at h'
  exact h'
/-- a code's size by its groups -/
theorem code_lt {m : Nat} {b c : Int} (h : CodeB m b c) (hm1 : 1 ≤ m) (hm : m ≤ 4) (hb : b ≤ 2 ^ 60) : 0 ≤ c ∧ c < 2 ^ (200 * (m - 1) + 61) := by
  obtain ⟨d, rfl, h2, h3⟩ := h
  have a0 := h2 0; have a1 := h2 1; have a2 := h2 2; have a3 := h2 3
  unfold val4
  match m, hm1, hm with
  | 1, _, _ =>
    have z1 := h3 1 (by decide); have z2 := h3 2 (by decide); have z3 := h3 3 (by decide)
    rw [z1, z2, z3]
    show 0 ≤ _ ∧ _ < (2 : Int) ^ 61
    omega
  | 2, _, _ =>
    have z2 := h3 2 (by decide); have z3 := h3 3 (by decide)
    rw [z2, z3]
    show 0 ≤ _ ∧ _ < (2 : Int) ^ 261
    omega
  | 3, _, _ =>
    have z3 := h3 3 (by decide)
    rw [z3]
    show 0 ≤ _ ∧ _ < (2 : Int) ^ 461
    omega
  | 4, _, _ =>
    show 0 ≤ _ ∧ _ < (2 : Int) ^ 661
    omega
theorem code_799 {m : Nat} {b c : Int} (h : CodeB m b c) (hm1 : 1 ≤ m) (hm : m ≤ 4) (hb : b ≤ 2 ^ 60) : 0 ≤ c ∧ c < 2 ^ 799 := by
  obtain ⟨h0, h1⟩ := code_lt h hm1 hm hb
  refine ⟨h0, Int.lt_of_lt_of_le h1 (p_le (by omega))⟩
theorem code_turns {m : Nat} {b c : Int} (h : CodeB m b c) (hm1 : 1 ≤ m) (hm : m ≤ 4) (hb : b ≤ 2 ^ 60) : ∀ p ∈ turnsN c, p / 200 < m := fun p hp => by
  obtain ⟨h0, h1⟩ := code_lt h hm1 hm hb
  have := turns_lt (n := 200 * (m - 1) + 61) (by have := Int.pow_pos (n := 2) (m := 200 * (m - 1) + 61) (by decide); omega) h1 p hp
  omega
theorem inV_int (c : Int) (l : List Int) : inV (.int c) (l.map V.int) = decide (c ∈ l) := by
  unfold inV
  induction l with
  | nil => rfl
  | cons x xs ih =>
    rw [List.map_cons, List.any_cons, ih]
    show (x == c || decide (c ∈ xs)) = _
    by_cases h : x = c
    · subst h; simp
    · rw [beq_false_of_ne h, Bool.false_or]
      simp [Ne.symm h]
theorem flat_ints (l : List Int) : (l.map V.int).all flatV = true := by
  rw [List.all_eq_true]
  intro x hx
  obtain ⟨c, _, rfl⟩ := List.mem_map.mp hx
  rfl
/-- sorted, without duplicates: strictly ascending -/
theorem strict_of {l l' : List Int} (hp : l'.Perm l) (hn : l.Nodup) (hs : l'.Pairwise (· ≤ ·)) : l'.Pairwise (· < ·) := by
  have hn' : l'.Nodup := hp.nodup_iff.mpr hn
  exact (hs.and hn').imp fun h => by obtain ⟨a, b⟩ := h; omega
theorem eqv_nil' (l : List Int) : PyData.eqv (.list (l.map PyData.int)) (.list []) = decide (l = []) := by
  rw [eqv_nil]
  cases l <;> rfl
theorem dps_map_int {K : PySem.W.Frag} {H : Hp} (l : List Int) : DpAll K H (l.map V.int) (l.map PyData.int) := dps_ints l
theorem shaped_ints (l : List Int) : SeqAt.shaped (.list (l.map PyData.int)) = true := shaped_list (n := 0) (by decide) fun x hx => by
  obtain ⟨i, _, rfl⟩ := List.mem_map.mp hx; exact ⟨i, rfl⟩
end Fb
namespace Fb
open PySem L2
/-! ### order: of ints, of rows by their last places, of forms -/
def sgnI (a b : Int) : Int := if a = b then 0 else if a < b then -1 else 1
theorem sgnI_self (a : Int) : sgnI a a = 0 := if_pos rfl
theorem sgnI_lt {a b : Int} (h : a < b) : sgnI a b = -1 := by unfold sgnI; rw [if_neg (by omega), if_pos h]
theorem sgnI_gt {a b : Int} (h : b < a) : sgnI a b = 1 := by unfold sgnI; rw [if_neg (by omega), if_neg (by omega)]
theorem sgnI_swap (a b : Int) : sgnI b a = -sgnI a b := by
  unfold sgnI
  by_cases h : a = b
  · rw [if_pos h, if_pos h.symm]; rfl
  · rw [if_neg h, if_neg (Ne.symm h)]
    by_cases c : a < b
    · rw [if_pos c, if_neg (by omega)]; rfl
    · rw [if_neg c, if_pos (by omega)]
theorem sgnI_pm {a b : Int} (h : a ≠ b) : sgnI a b = 1 ∨ sgnI a b = -1 := by
  unfold sgnI; rw [if_neg h]; split
  · exact .inr rfl
  · exact .inl rfl
theorem sgnI_add (a b z : Int) : sgnI (a + z) (b + z) = sgnI a b := by
  by_cases e : a = b
  · subst e; rw [sgnI_self, sgnI_self]
  · by_cases c : a < b
    · rw [sgnI_lt c, sgnI_lt (by omega)]
    · rw [sgnI_gt (show b < a by omega), sgnI_gt (by omega)]
def par (k : Nat) (s : Int) : Int := if k % 2 = 1 then -s else s
/-- from the top: rows that are turned round -/
def lexR : List Int → List Int → Int
  | [], [] => 0
  | [], _ :: _ => -1
  | x :: xs, [] => par (xs.length + 1) 1
  | x :: xs, y :: ys => if x = y then lexR xs ys else par (xs.length + 1) (sgnI x y)
/-- the order of rows of turns -/
def cmpS (l l' : List Int) : Int :=
  if l.length % 2 ≠ l'.length % 2 then (if l.length % 2 = 1 then -1 else 1) else lexR l.reverse l'.reverse
def altZ (s : Int) (l : List Nat) : Int := alt s l
theorem flip_eq (s : Int) (n : Nat) : flip s n = par n s := by
  induction n generalizing s with
  | zero => rfl
  | succ n ih =>
    show flip (-s) n = _
    rw [ih]
    unfold par
    by_cases h : n % 2 = 1
    · rw [if_pos h, if_neg (by omega)]; omega
    · rw [if_neg h, if_pos (by omega)]
/-- the size of a row's sum by its last place -/
theorem alt_size {m : List Nat} {p : Nat} (hp : (m ++ [p]).Pairwise (· < ·)) : ∃ v : Int, alt (-1) (m ++ [p]) = flip (-1) m.length * v ∧ (m.length = 0 → v = 2 ^ p) ∧ (1 ≤ m.length → v < 2 ^ p) ∧ (m.length = 1 → 2 ^ p ≤ 2 * v) ∧ (2 ≤ m.length → 2 ^ p < 2 * v) ∧ 0 < v := by
  obtain ⟨h1, _, h3⟩ := List.pairwise_append.mp hp
  have pp : (0 : Int) < 2 ^ p := Int.pow_pos (by decide)
  have fpm := flip_pm (s := -1) (.inr rfl) m.length
  refine ⟨flip (-1) m.length * alt (-1) (m ++ [p]), ?_, ?_⟩
  · rw [← Int.mul_assoc]
    rcases fpm with f | f <;> rw [f] <;> omega
  rw [alt_snoc]
  rcases List.eq_nil_or_concat m with rfl | ⟨m', q, rfl⟩
  · have e : flip (-1) (([] : List Nat).length) * (alt (-1) [] + flip (-1) (([] : List Nat).length) * 2 ^ p) = 2 ^ p := by
      show (-1 : Int) * (0 + -1 * 2 ^ p) = 2 ^ p
      omega
    rw [e]
    exact ⟨fun _ => rfl, fun h => by simp at h, fun h => by simp at h, fun h => by simp at h, pp⟩
  · rw [List.concat_eq_append] at *
    have qp : q < p := h3 q (by simp) p List.mem_cons_self
    have q2 : (2 : Int) * 2 ^ q ≤ 2 ^ p := by
      have := p_le (a := q + 1) (b := p) (by omega)
      rw [Int.pow_succ] at this; omega
    have pq : (0 : Int) < 2 ^ q := Int.pow_pos (by decide)
    obtain ⟨k1, _, k3⟩ := List.pairwise_append.mp h1
    have sm := alt_lt (s := -1) (.inr rfl) (n := q) k1 fun r hr => k3 r hr q List.mem_cons_self
    have sg := alt_sign (s := -1) (.inr rfl) h1
    rw [alt_snoc] at sg
    rw [alt_snoc]
    have fl : flip (-1) (m' ++ [q]).length = -flip (-1) m'.length := by rw [List.length_append, List.length_singleton, flip_succ]
    rw [fl]
    have f' := flip_pm (s := -1) (.inr rfl) m'.length
    -- for two places and more the sum of the others is less than 2 to q
    have strict : 1 ≤ m'.length → (flip (-1) m'.length = 1 → alt (-1) m' < 0) ∧ (flip (-1) m'.length = -1 → 0 < alt (-1) m') := fun hl => by
      rcases List.eq_nil_or_concat m' with rfl | ⟨m2, r, rfl⟩
      · simp at hl
      · rw [List.concat_eq_append] at *
        have sg2 := alt_sign (s := -1) (.inr rfl) k1
        have fl2 : flip (-1) (m2 ++ [r]).length = -flip (-1) m2.length := by rw [List.length_append, List.length_singleton, flip_succ]
        constructor
        · intro h; exact sg2.2 (by omega)
        · intro h; exact sg2.1 (by omega)
    have len : (m' ++ [q]).length = m'.length + 1 := by rw [List.length_append, List.length_singleton]
    rw [len]
    have zero : m'.length = 0 → alt (-1) m' = 0 := fun h => by
      have : m' = [] := List.length_eq_zero_iff.mp h
      subst this; rfl
    rcases f' with f | f <;> rw [f] at sg strict ⊢ <;> refine ⟨fun h => by omega, fun _ => ?_, fun h => ?_, fun h => ?_, ?_⟩
    · have := sg.1 rfl; omega
    · have := zero (by omega); omega
    · have := (strict (by omega)).1 rfl; omega
    · omega
    · have := sg.2 rfl; omega
    · have := zero (by omega); omega
    · have := (strict (by omega)).2 rfl; omega
    · omega
theorem lexR_tail : ∀ (t a b : List Int), lexR (t ++ a) (t ++ b) = lexR a b
  | [], _, _ => rfl
  | x :: t, a, b => by
    show (if x = x then lexR (t ++ a) (t ++ b) else _) = _
    rw [if_pos rfl, lexR_tail t a b]
def zs (l : List Nat) : List Int := l.map Int.ofNat
/-- the order of rows is that of their sums -/
theorem lex_alt : ∀ (l l' : List Nat), l.Pairwise (· < ·) → l'.Pairwise (· < ·) → l.length % 2 = l'.length % 2 → lexR (zs l).reverse (zs l').reverse = sgnI (alt (-1) l) (alt (-1) l') := by
  intro l
  generalize hn : l.length = n
  induction n generalizing l with
  | zero =>
    intro l' _ h2 hp
    have : l = [] := List.length_eq_zero_iff.mp hn
    subst this
    rcases List.eq_nil_or_concat l' with rfl | ⟨m, q, rfl⟩
    · rfl
    · rw [List.concat_eq_append] at *
      have e : (zs (m ++ [q])).reverse = (q : Int) :: (zs m).reverse := by unfold zs; rw [List.map_append, List.reverse_append]; rfl
      rw [e]
      show (-1 : Int) = sgnI 0 _
      have sg := alt_sign (s := -1) (.inr rfl) h2
      rw [flip_eq] at sg
      rw [List.length_append, List.length_singleton] at hp
      have f1 : par m.length (-1) = 1 := by unfold par; rw [if_pos (by omega)]; rfl
      rw [sgnI_lt (sg.1 f1)]
  | succ n ih =>
    intro l' h1 h2 hp
    rcases List.eq_nil_or_concat l with rfl | ⟨k, p, rfl⟩
    · cases hn
    rw [List.concat_eq_append] at *
    have hk : k.length = n := by rw [List.length_append, List.length_singleton] at hn; omega
    have ek : (zs (k ++ [p])).reverse = (p : Int) :: (zs k).reverse := by unfold zs; rw [List.map_append, List.reverse_append]; rfl
    have lk : (zs k).reverse.length = k.length := by unfold zs; rw [List.length_reverse, List.length_map]
    obtain ⟨v, v1, v2, v3, v4, v5, v6⟩ := alt_size h1
    rcases List.eq_nil_or_concat l' with rfl | ⟨m, q, rfl⟩
    · rw [ek]
      show par ((zs k).reverse.length + 1) 1 = sgnI _ 0
      rw [lk, v1, flip_eq]
      simp at hp
      have f1 : par k.length (-1) = 1 := by unfold par; rw [if_pos (by omega)]; rfl
      have f2 : par (k.length + 1) 1 = 1 := by unfold par; rw [if_neg (by omega)]
      rw [f1, f2, sgnI_gt (by omega)]
    rw [List.concat_eq_append] at *
    have em : (zs (m ++ [q])).reverse = (q : Int) :: (zs m).reverse := by unfold zs; rw [List.map_append, List.reverse_append]; rfl
    rw [List.length_append, List.length_singleton] at hp
    have hpm : k.length % 2 = m.length % 2 := by omega
    rw [ek, em]
    show (if (p : Int) = q then lexR (zs k).reverse (zs m).reverse else par ((zs k).reverse.length + 1) (sgnI p q)) = _
    have fe : flip (-1) k.length = flip (-1) m.length := by rw [flip_eq, flip_eq]; unfold par; rw [hpm]
    by_cases c : p = q
    · subst c
      rw [if_pos rfl, ih k hk m (List.pairwise_append.mp h1).1 (List.pairwise_append.mp h2).1 (by omega), alt_snoc, alt_snoc, fe]
      exact (sgnI_add _ _ _).symm
    · rw [if_neg (by omega), lk]
      obtain ⟨u, u1, u2, u3, u4, u5, u6⟩ := alt_size h2
      have key : ∀ (k m : List Nat) (p q : Nat) (v u : Int), p < q → k.length % 2 = m.length % 2 → (k.length = 0 → v = 2 ^ p) → (1 ≤ k.length → v < 2 ^ p) → (m.length = 0 → u = 2 ^ q) → (m.length = 1 → 2 ^ q ≤ 2 * u) → (2 ≤ m.length → 2 ^ q < 2 * u) → v < u := by
        intro k m p q v u pq hp a1 a2 b1 b2 b3
        have h : (2 : Int) * 2 ^ p ≤ 2 ^ q := by
          have := p_le (a := p + 1) (b := q) (by omega)
          rw [Int.pow_succ] at this; omega
        have pp : (0 : Int) < 2 ^ p := Int.pow_pos (by decide)
        by_cases z : m.length = 0
        · have := b1 z
          by_cases z2 : k.length = 0
          · have := a1 z2; omega
          · have := a2 (by omega); omega
        · by_cases z1 : m.length = 1
          · have := b2 z1
            have := a2 (by omega)
            omega
          · have := b3 (by omega)
            by_cases z2 : k.length = 0
            · have := a1 z2; omega
            · have := a2 (by omega); omega
      rw [v1, u1, fe, flip_eq]
      rcases Nat.lt_or_gt_of_ne c with pq | pq
      · have vu := key k m p q v u pq hpm v2 v3 u2 u4 u5
        rw [sgnI_lt (show (p : Int) < q by omega)]
        unfold par
        by_cases o : m.length % 2 = 1
        · rw [if_pos o, if_neg (by omega), sgnI_lt (by omega)]
        · rw [if_neg o, if_pos (by omega), sgnI_gt (by omega)]; rfl
      · have vu := key m k q p u v pq hpm.symm u2 u3 v2 v4 v5
        rw [sgnI_gt (show (q : Int) < p by omega)]
        unfold par
        by_cases o : m.length % 2 = 1
        · rw [if_pos o, if_neg (by omega), sgnI_gt (by omega)]
        · rw [if_neg o, if_pos (by omega), sgnI_lt (by omega)]
theorem alt_par {l : List Nat} (h : l.Pairwise (· < ·)) : (l.length % 2 = 1 → alt (-1) l < 0) ∧ (l.length % 2 = 0 → 0 ≤ alt (-1) l) := by
  rcases List.eq_nil_or_concat l with rfl | ⟨m, q, rfl⟩
  · exact ⟨fun h => (by simp at h), fun _ => Int.le_refl 0⟩
  · rw [List.concat_eq_append] at *
    have sg := alt_sign (s := -1) (.inr rfl) h
    rw [flip_eq] at sg
    rw [List.length_append, List.length_singleton]
    constructor
    · intro o
      exact sg.2 (by unfold par; rw [if_neg (by omega)])
    · intro o
      exact Int.le_of_lt (sg.1 (by unfold par; rw [if_pos (by omega)]; rfl))
theorem len_zs (l : List Nat) : (zs l).length = l.length := by unfold zs; rw [List.length_map]
theorem cmpS_alt {l l' : List Nat} (h1 : l.Pairwise (· < ·)) (h2 : l'.Pairwise (· < ·)) : cmpS (zs l) (zs l') = sgnI (alt (-1) l) (alt (-1) l') := by
  unfold cmpS
  rw [len_zs, len_zs]
  have a := alt_par h1
  have b := alt_par h2
  by_cases c : l.length % 2 = l'.length % 2
  · rw [if_neg (by omega), lex_alt l l' h1 h2 c]
  · rw [if_pos c]
    by_cases o : l.length % 2 = 1
    · rw [if_pos o, sgnI_lt (by have := a.1 o; have := b.2 (by omega); omega)]
    · rw [if_neg o, sgnI_gt (by have := a.2 (by omega); have := b.1 (by omega); omega)]
theorem cmpS_turns (x y : Int) : cmpS (zs (turnsN x)) (zs (turnsN y)) = sgnI x y := by
  rw [cmpS_alt (turns_asc x) (turns_asc y), turns_alt, turns_alt]
/-- rows led by an ascending map -/
theorem lexR_map (r : Int → Int) : ∀ (l l' : List Int), (∀ a ∈ l, ∀ b ∈ l', (a = b ↔ r a = r b) ∧ (a < b ↔ r a < r b)) → lexR (l.map r) (l'.map r) = lexR l l'
  | [], [], _ => rfl
  | [], _ :: _, _ => rfl
  | x :: xs, [], _ => by show par ((xs.map r).length + 1) 1 = par (xs.length + 1) 1; rw [List.length_map]
  | x :: xs, y :: ys, h => by
    have hx := h x List.mem_cons_self y List.mem_cons_self
    show (if r x = r y then lexR (xs.map r) (ys.map r) else par ((xs.map r).length + 1) (sgnI (r x) (r y))) = if x = y then lexR xs ys else par (xs.length + 1) (sgnI x y)
    rw [List.length_map]
    by_cases e : x = y
    · rw [if_pos e, if_pos (hx.1.mp e), lexR_map r xs ys fun a ha b hb => h a (List.mem_cons_of_mem _ ha) b (List.mem_cons_of_mem _ hb)]
    · rw [if_neg e, if_neg (fun h => e (hx.1.mpr h))]
      unfold sgnI
      rw [if_neg e, if_neg (fun h => e (hx.1.mpr h))]
      by_cases c : x < y
      · rw [if_pos c, if_pos (hx.2.mp c)]
      · rw [if_neg c, if_neg (fun h => c (hx.2.mpr h))]
theorem cmpS_map (r : Int → Int) {l l' : List Int} (h : ∀ a ∈ l, ∀ b ∈ l', (a = b ↔ r a = r b) ∧ (a < b ↔ r a < r b)) : cmpS (l.map r) (l'.map r) = cmpS l l' := by
  unfold cmpS
  rw [List.length_map, List.length_map, ← List.map_reverse, ← List.map_reverse, lexR_map r _ _ fun a ha b hb => h a (List.mem_reverse.mp ha) b (List.mem_reverse.mp hb)]
end Fb
namespace Fb
open PySem L2
/-! ### the program's order of forms -/
def negD : PyData → Bool
  | .int i => decide (i < 0)
  | .tuple ds => decide (ds.length % 2 = 1)
  | _ => false
def lexD (c : PyData → PyData → Int) : List PyData → List PyData → Int
  | [], [] => 0
  | [], _ :: _ => -1
  | x :: xs, [] => par (xs.length + 1) 1
  | x :: xs, y :: ys => if PyData.eqv x y = true then lexD c xs ys else par (xs.length + 1) (c x y)
def cmpD : Nat → PyData → PyData → Int
  | 0, x, y => match x, y with
    | .int a, .int b => sgnI a b
    | _, _ => 0
  | n + 1, x, y => match x, y with
    | .int a, .int b => sgnI a b
    | .int a, .tuple ys => if negD (.int a) = negD (.tuple ys) then (if negD (.int a) = true then 1 else -1) else (if negD (.int a) = true then -1 else 1)
    | .tuple xs, .int b => if negD (.tuple xs) = true then -1 else 1
    | .tuple xs, .tuple ys => if negD (.tuple xs) = negD (.tuple ys) then lexD (cmpD n) xs.reverse ys.reverse else (if negD (.tuple xs) = true then -1 else 1)
    | _, _ => 0
def ctail : List PyData → List PyData → Nat
  | x :: xs, y :: ys => if PyData.eqv x y = true then ctail xs ys + 1 else 0
  | _, _ => 0
theorem ctail_le : ∀ xs ys : List PyData, ctail xs ys ≤ xs.length ∧ ctail xs ys ≤ ys.length
  | [], _ => ⟨Nat.le_refl 0, Nat.zero_le _⟩
  | _ :: _, [] => ⟨Nat.zero_le _, Nat.le_refl 0⟩
  | x :: xs, y :: ys => by
    have := ctail_le xs ys
    show (if _ then _ else _) ≤ _ ∧ (if _ then _ else _) ≤ _
    split
    · exact ⟨Nat.succ_le_succ this.1, Nat.succ_le_succ this.2⟩
    · exact ⟨Nat.zero_le _, Nat.zero_le _⟩
/-- the places from the top on are alike -/
def AlikeTo (k : Nat) (xs ys : List PyData) : Prop := ∀ i, i < k → ∀ a b, xs[i]? = some a → ys[i]? = some b → PyData.eqv a b = true
theorem le_ctail : ∀ (k : Nat) (xs ys : List PyData), k ≤ ctail xs ys ↔ k ≤ xs.length ∧ k ≤ ys.length ∧ AlikeTo k xs ys
  | 0, xs, ys => ⟨fun _ => ⟨Nat.zero_le _, Nat.zero_le _, fun i h => absurd h (Nat.not_lt_zero _)⟩, fun _ => Nat.zero_le _⟩
  | k + 1, [], ys => ⟨fun h => absurd h (Nat.not_succ_le_zero k), fun h => absurd h.1 (Nat.not_succ_le_zero k)⟩
  | k + 1, x :: xs, [] => ⟨fun h => absurd h (Nat.not_succ_le_zero k), fun h => absurd h.2.1 (Nat.not_succ_le_zero k)⟩
  | k + 1, x :: xs, y :: ys => by
    show k + 1 ≤ (if PyData.eqv x y = true then ctail xs ys + 1 else 0) ↔ _
    have ih := le_ctail k xs ys
    by_cases e : PyData.eqv x y = true
    · rw [if_pos e]
      constructor
      · intro h
        obtain ⟨a, b, c⟩ := ih.mp (Nat.le_of_succ_le_succ h)
        refine ⟨Nat.succ_le_succ a, Nat.succ_le_succ b, fun i hi p q hp hq => ?_⟩
        cases i with
        | zero => cases hp; cases hq; exact e
        | succ i => exact c i (Nat.lt_of_succ_lt_succ hi) p q (by simpa using hp) (by simpa using hq)
      · rintro ⟨a, b, c⟩
        exact Nat.succ_le_succ (ih.mpr ⟨Nat.le_of_succ_le_succ a, Nat.le_of_succ_le_succ b, fun i hi p q hp hq => c (i + 1) (Nat.succ_lt_succ hi) p q (by simpa using hp) (by simpa using hq)⟩)
    · rw [if_neg e]
      constructor
      · intro h; exact absurd h (Nat.not_succ_le_zero k)
      · rintro ⟨_, _, c⟩
        exact absurd (c 0 (Nat.zero_lt_succ k) x y rfl rfl) e
theorem ctail_next : ∀ {s : Nat} {xs ys : List PyData} {a b : PyData}, s ≤ ctail xs ys → xs[s]? = some a → ys[s]? = some b → (PyData.eqv a b = true → s + 1 ≤ ctail xs ys) ∧ (¬ PyData.eqv a b = true → ctail xs ys = s)
  | 0, x :: xs, y :: ys, a, b, _, ha, hb => by
    cases ha; cases hb
    show (_ → 0 + 1 ≤ (if PyData.eqv x y = true then ctail xs ys + 1 else 0)) ∧ (_ → (if PyData.eqv x y = true then ctail xs ys + 1 else 0) = 0)
    constructor
    · intro e; rw [if_pos e]; omega
    · intro e; rw [if_neg e]
  | s + 1, x :: xs, y :: ys, a, b, h, ha, hb => by
    have h' : s + 1 ≤ (if PyData.eqv x y = true then ctail xs ys + 1 else 0) := h
    by_cases e : PyData.eqv x y = true
    · rw [if_pos e] at h'
      obtain ⟨p, q⟩ := ctail_next (s := s) (xs := xs) (ys := ys) (by omega) (by simpa using ha) (by simpa using hb)
      have ec : ctail (x :: xs) (y :: ys) = ctail xs ys + 1 := by show (if PyData.eqv x y = true then _ else _) = _; rw [if_pos e]
      rw [ec]
      exact ⟨fun k => by have := p k; omega, fun k => by have := q k; omega⟩
    · rw [if_neg e] at h'; omega
  | s, [], _, _, _, _, ha, _ => by simp at ha
  | s, _ :: _, [], _, _, _, _, hb => by simp at hb
def atD (c : PyData → PyData → Int) (xs ys : List PyData) (s : Nat) : Int := match xs[s]?, ys[s]? with
  | some a, some b => c a b
  | _, _ => 0
theorem atD_eq {c : PyData → PyData → Int} {xs ys : List PyData} {s : Nat} {a b : PyData} (h1 : xs[s]? = some a) (h2 : ys[s]? = some b) : atD c xs ys s = c a b := by
  unfold atD; rw [h1, h2]
/-- what compare_far reckons, by the common tail -/
theorem lexD_tail (c : PyData → PyData → Int) : ∀ xs ys : List PyData,
    lexD c xs ys = (if ctail xs ys = xs.length ∧ ctail xs ys = ys.length then 0 else par (xs.length - ctail xs ys)
      (if ctail xs ys = xs.length then -1 else if ctail xs ys = ys.length then 1 else atD c xs ys (ctail xs ys)))
  | [], [] => rfl
  | [], _ :: _ => rfl
  | x :: xs, [] => rfl
  | x :: xs, y :: ys => by
    show (if PyData.eqv x y = true then lexD c xs ys else par (xs.length + 1) (c x y)) = _
    by_cases e : PyData.eqv x y = true
    · have ec : ctail (x :: xs) (y :: ys) = ctail xs ys + 1 := by show (if PyData.eqv x y = true then _ else _) = _; rw [if_pos e]
      rw [if_pos e, lexD_tail c xs ys, ec]
      simp only [atD, List.length_cons, Nat.add_right_cancel_iff, List.getElem?_cons_succ, Nat.add_sub_add_right]
    · have ec : ctail (x :: xs) (y :: ys) = 0 := by show (if PyData.eqv x y = true then _ else _) = _; rw [if_neg e]
      rw [if_neg e, ec]
      simp [atD]
theorem eqvAll_iff : ∀ xs ys : List PyData, PyData.eqvAll xs ys = true ↔ xs.length = ys.length ∧ AlikeTo xs.length xs ys
  | [], [] => by rw [PyData.eqvAll]; exact ⟨fun _ => ⟨rfl, fun i h => absurd h (Nat.not_lt_zero _)⟩, fun _ => rfl⟩
  | [], _ :: _ => by rw [PyData.eqvAll]; exact ⟨fun h => absurd h Bool.false_ne_true, fun h => absurd h.1 (by simp)⟩
  | _ :: _, [] => by rw [PyData.eqvAll]; exact ⟨fun h => absurd h Bool.false_ne_true, fun h => absurd h.1 (by simp)⟩
  | x :: xs, y :: ys => by
    rw [PyData.eqvAll, Bool.and_eq_true, eqvAll_iff xs ys]
    constructor
    · rintro ⟨e, l, c⟩
      refine ⟨congrArg Nat.succ l, fun i hi p q hp hq => ?_⟩
      cases i with
      | zero => cases hp; cases hq; exact e
      | succ i => exact c i (Nat.lt_of_succ_lt_succ hi) p q (by simpa using hp) (by simpa using hq)
    · rintro ⟨l, c⟩
      exact ⟨c 0 (Nat.zero_lt_succ _) x y rfl rfl, Nat.succ.inj l, fun i hi p q hp hq => c (i + 1) (Nat.succ_lt_succ hi) p q (by simpa using hp) (by simpa using hq)⟩
/-- the part of a row from place a on, b places -/
def seg {α : Type} (ds : List α) (same more : Nat) : List α := (ds.drop (ds.length - more)).take (more - same)
theorem seg_get {ds : List PyData} {same more j : Nat} (h : more ≤ ds.length) (hj : j < more - same) : (seg ds same more)[j]? = ds.reverse[more - 1 - j]? := by
  unfold seg
  rw [List.getElem?_take, if_pos hj, List.getElem?_drop, List.getElem?_reverse (by omega)]
  congr 1
  omega
theorem seg_len {ds : List PyData} {same more : Nat} (h : more ≤ ds.length) : (seg ds same more).length = more - same := by
  unfold seg
  rw [List.length_take, List.length_drop]
  omega
/-- a further part is alike exactly if the tail goes on -/
theorem seg_alike {ds es : List PyData} {same more : Nat} (hs : same ≤ ctail ds.reverse es.reverse) (hm : same ≤ more) (h1 : more ≤ ds.length) (h2 : more ≤ es.length) :
    PyData.eqv (.tuple (seg ds same more)) (.tuple (seg es same more)) = true ↔ more ≤ ctail ds.reverse es.reverse := by
  rw [PyData.eqv, eqvAll_iff, seg_len h1, seg_len h2, le_ctail, List.length_reverse, List.length_reverse]
  obtain ⟨_, _, c⟩ := (le_ctail same _ _).mp hs
  constructor
  · rintro ⟨_, d⟩
    refine ⟨h1, h2, fun i hi p q hp hq => ?_⟩
    by_cases hi2 : i < same
    · exact c i hi2 p q hp hq
    · refine d (more - 1 - i) (by omega) p q ?_ ?_
      · rw [seg_get h1 (by omega), show more - 1 - (more - 1 - i) = i by omega]; exact hp
      · rw [seg_get h2 (by omega), show more - 1 - (more - 1 - i) = i by omega]; exact hq
  · rintro ⟨_, _, d⟩
    refine ⟨rfl, fun j hj p q hp hq => ?_⟩
    rw [seg_get h1 hj] at hp
    rw [seg_get h2 hj] at hq
    exact d (more - 1 - j) (by omega) p q hp hq
/-- the n-th place from the end -/
theorem atI_end {α : Type} {xs : List α} {s : Nat} {v : α} (h : xs.reverse[s]? = some v) : atI xs (-1 - (s : Int)) = some v := by
  have hs : s < xs.length := by
    have := (List.getElem?_eq_some_iff.mp h).1
    rwa [List.length_reverse] at this
  unfold atI ixN
  rw [if_neg (by omega), if_pos (by omega)]
  show xs[((-1 - (s : Int)) + xs.length).toNat]? = _
  rw [List.getElem?_reverse hs] at h
  rw [show ((-1 - (s : Int)) + xs.length).toNat = xs.length - 1 - s by omega]
  exact h
theorem dps_rev {K : PySem.W.Frag} {H : Hp} : ∀ {vs : List V} {ds : List PyData}, DpAll K H vs ds → DpAll K H vs.reverse ds.reverse
  | [], _, h => by cases h; exact .nil
  | v :: vs, _, h => by
    cases h with
    | cons h1 h2 => rw [List.reverse_cons, List.reverse_cons]; exact dps_app (dps_rev h2) (.cons h1 .nil)
theorem dps_take {K : PySem.W.Frag} {H : Hp} : ∀ (k : Nat) {vs : List V} {ds : List PyData}, DpAll K H vs ds → DpAll K H (vs.take k) (ds.take k)
  | 0, _, _, _ => .nil
  | k + 1, _, _, .nil => .nil
  | k + 1, _, _, .cons h1 h2 => .cons h1 (dps_take k h2)
theorem dps_drop {K : PySem.W.Frag} {H : Hp} : ∀ (k : Nat) {vs : List V} {ds : List PyData}, DpAll K H vs ds → DpAll K H (vs.drop k) (ds.drop k)
  | 0, _, _, h => h
  | k + 1, _, _, .nil => .nil
  | k + 1, _, _, .cons _ h2 => dps_drop k h2
theorem fm_kind {n : Nat} {d : PyData} (h : Fm n d) : (isI d = true ∨ isT d = true) ∧ ∀ b, d ≠ .bool b := by
  cases n with
  | zero => obtain ⟨i, rfl⟩ := h; exact ⟨.inl rfl, fun b e => by cases e⟩
  | succ n =>
    rcases h with ⟨i, rfl⟩ | ⟨ds, rfl, _⟩
    · exact ⟨.inl rfl, fun b e => by cases e⟩
    · exact ⟨.inr rfl, fun b e => by cases e⟩
theorem fm_int {n : Nat} {d : PyData} (h : Fm n d) (c : isI d = true) : ∃ i, d = .int i := by
  cases n with
  | zero => exact h
  | succ n =>
    rcases h with h | ⟨ds, rfl, _⟩
    · exact h
    · cases c
theorem fm_tup {n : Nat} {d : PyData} (h : Fm (n + 1) d) (c : ¬ isI d = true) : ∃ ds, d = .tuple ds ∧ ds.length ≤ 9000 ∧ ∀ x ∈ ds, Fm n x := by
  rcases h with ⟨i, rfl⟩ | h
  · exact absurd rfl c
  · exact h
theorem cmp_ne {n : Nat} {x y : PyData} (fx : Fm (n + 1) x) (fy : Fm (n + 1) y) (h : ¬ (isI x = true ∧ isI y = true)) (c : negD x ≠ negD y) : cmpD (n + 1) x y = if negD x = true then -1 else 1 := by
  rcases fx with ⟨i, rfl⟩ | ⟨xs, rfl, _⟩ <;> rcases fy with ⟨j, rfl⟩ | ⟨ys, rfl, _⟩
  · exact absurd ⟨rfl, rfl⟩ h
  · exact if_neg c
  · rfl
  · exact if_neg c
theorem cmp_ix {n : Nat} {x y : PyData} (fx : Fm (n + 1) x) (fy : Fm (n + 1) y) (h : ¬ (isI x = true ∧ isI y = true)) (c : negD x = negD y) (k : isI x = true) : cmpD (n + 1) x y = if negD x = true then 1 else -1 := by
  rcases fx with ⟨i, rfl⟩ | ⟨xs, rfl, _⟩ <;> rcases fy with ⟨j, rfl⟩ | ⟨ys, rfl, _⟩
  · exact absurd ⟨rfl, rfl⟩ h
  · exact if_pos c
  · cases k
  · cases k
theorem cmp_iy {n : Nat} {x y : PyData} (fx : Fm (n + 1) x) (fy : Fm (n + 1) y) (h : ¬ (isI x = true ∧ isI y = true)) (c : negD x = negD y) (k : ¬ isI x = true) (k2 : isI y = true) : cmpD (n + 1) x y = if negD x = true then -1 else 1 := by
  rcases fx with ⟨i, rfl⟩ | ⟨xs, rfl, _⟩ <;> rcases fy with ⟨j, rfl⟩ | ⟨ys, rfl, _⟩
  · exact absurd rfl k
  · exact absurd rfl k
  · rfl
  · cases k2
/-- a slice of a tuple, new or the tuple itself -/
def rSlD (K : PySem.W.Frag) : V → Option Int → Option Int → Hp → VK → Prop := fun x lo hi H Q => ∃ a xs, x = .ref a ∧ SqT K H a xs ∧ ∀ b H', Same H H' → SqT K H' b (cutV xs lo hi) → Q (.ref b) H'
theorem sl_tupD {X : Cx} : SlR X (rSlD X.K) := by
  intro pins s σ H x v vl vu lo hi sl Q I rx hs pl pu h
  obtain ⟨a, xs, rfl, hx, q⟩ := h
  refine sl_tupA pins s σ H _ v vl vu lo hi sl Q I rx hs pl pu ⟨a, xs, rfl, hx, fun hw => ?_, fun _ p np => q p _ (Same.new np) (SqT.of upd_same)⟩
  refine q a H (Same.refl H) ?_
  unfold cutV
  rw [hw.1, hw.2, List.drop_zero, Nat.sub_zero, List.take_length]
  exact hx
theorem cut_seg {xs : List V} {same more : Nat} (h : more ≤ xs.length) (h2 : same ≤ more) : cutV xs (some ((xs.length : Int) - (more : Int))) (some ((xs.length : Int) - (same : Int))) = seg xs same more := by
  unfold cutV seg
  rw [show (xs.length : Int) - (more : Int) = ((xs.length - more : Nat) : Int) by omega, show (xs.length : Int) - (same : Int) = ((xs.length - same : Nat) : Int) by omega, HT.sIx_nat, HT.sIx_nat]
  congr 1
  · omega
  · congr 1
    omega
theorem dps_seg {K : PySem.W.Frag} {H : Hp} {vs : List V} {ds : List PyData} (h : DpAll K H vs ds) (same more : Nat) : DpAll K H (seg vs same more) (seg ds same more) := by
  unfold seg
  rw [dps_length h]
  exact dps_take _ (dps_drop _ h)
end Fb
namespace Fb
open PySem L2
theorem eqv_fm : ∀ {n : Nat} {x y : PyData}, Fm n x → Fm n y → (PyData.eqv x y = true ↔ x = y) := by
  intro n
  induction n with
  | zero =>
    rintro x y ⟨i, rfl⟩ ⟨j, rfl⟩
    rw [PyData.eqv]
    simp
  | succ n ih =>
    intro x y hx hy
    rcases hx with ⟨i, rfl⟩ | ⟨xs, rfl, _, hx⟩ <;> rcases hy with ⟨j, rfl⟩ | ⟨ys, rfl, _, hy⟩
    · rw [PyData.eqv]; simp
    · rw [PyData.eqv]; simp
    · rw [PyData.eqv]; simp
    · rw [PyData.eqv, eqvAll_iff]
      constructor
      · rintro ⟨l, c⟩
        congr 1
        refine List.ext_getElem? fun i => ?_
        by_cases hi : i < xs.length
        · have h1 : xs[i]? = some xs[i] := List.getElem?_eq_getElem hi
          have h2 : ys[i]? = some (ys[i]'(l ▸ hi)) := List.getElem?_eq_getElem (l ▸ hi)
          have := c i hi _ _ h1 h2
          rw [h1, h2, (ih (hx _ (List.getElem_mem hi)) (hy _ (List.getElem_mem (l ▸ hi)))).mp this]
        · rw [List.getElem?_eq_none (by omega), List.getElem?_eq_none (by omega)]
      · intro e
        injection e with e
        subst e
        refine ⟨rfl, fun i hi a b ha hb => ?_⟩
        rw [ha] at hb
        cases hb
        exact (ih (hx a (List.mem_of_getElem? ha)) (hx a (List.mem_of_getElem? ha))).mpr rfl
theorem lexD_self {n : Nat} (c : PyData → PyData → Int) : ∀ xs : List PyData, (∀ x ∈ xs, Fm n x) → lexD c xs xs = 0
  | [], _ => rfl
  | x :: xs, h => by
    show (if PyData.eqv x x = true then lexD c xs xs else _) = 0
    rw [if_pos ((eqv_fm (h x List.mem_cons_self) (h x List.mem_cons_self)).mpr rfl)]
    exact lexD_self c xs fun y hy => h y (List.mem_cons_of_mem _ hy)
theorem cmpD_self : ∀ {n : Nat} {d : PyData}, Fm n d → cmpD n d d = 0
  | 0, d, h => by obtain ⟨i, rfl⟩ := h; exact sgnI_self i
  | n + 1, d, h => by
    rcases h with ⟨i, rfl⟩ | ⟨ds, rfl, _, h⟩
    · exact sgnI_self i
    · show (if negD (.tuple ds) = negD (.tuple ds) then lexD (cmpD n) ds.reverse ds.reverse else _) = 0
      rw [if_pos rfl]
      exact lexD_self _ _ fun x hx => h x (List.mem_reverse.mp hx)
theorem par_neg (k : Nat) (s : Int) : par k (-s) = -par k s := by unfold par; split <;> omega
theorem lexD_anti {n : Nat} {c : PyData → PyData → Int} (hc : ∀ a b, Fm n a → Fm n b → c b a = -c a b) : ∀ xs ys : List PyData, (∀ x ∈ xs, Fm n x) → (∀ x ∈ ys, Fm n x) → xs.length % 2 = ys.length % 2 → lexD c ys xs = -lexD c xs ys
  | [], [], _, _, _ => rfl
  | [], y :: ys, _, _, h => by
    show par (ys.length + 1) 1 = -(-1)
    unfold par
    rw [if_neg (by simp at h; omega)]
    rfl
  | x :: xs, [], _, _, h => by
    show (-1 : Int) = -par (xs.length + 1) 1
    unfold par
    rw [if_neg (by simp at h; omega)]
  | x :: xs, y :: ys, hx, hy, h => by
    have fx := hx x List.mem_cons_self
    have fy := hy y List.mem_cons_self
    show (if PyData.eqv y x = true then lexD c ys xs else par (ys.length + 1) (c y x)) = -(if PyData.eqv x y = true then lexD c xs ys else par (xs.length + 1) (c x y))
    have hl : xs.length % 2 = ys.length % 2 := by simp at h; omega
    by_cases e : x = y
    · rw [if_pos ((eqv_fm fy fx).mpr e.symm), if_pos ((eqv_fm fx fy).mpr e)]
      exact lexD_anti hc xs ys (fun z hz => hx z (List.mem_cons_of_mem _ hz)) (fun z hz => hy z (List.mem_cons_of_mem _ hz)) hl
    · rw [if_neg (fun h => e ((eqv_fm fy fx).mp h).symm), if_neg (fun h => e ((eqv_fm fx fy).mp h)), hc x y fx fy, par_neg]
      unfold par
      by_cases o : (xs.length + 1) % 2 = 1
      · rw [if_pos o, if_pos (by omega)]
      · rw [if_neg o, if_neg (by omega)]
theorem cmpD_anti : ∀ (n : Nat) (x y : PyData), Fm n x → Fm n y → cmpD n y x = -cmpD n x y := by
  intro n
  induction n with
  | zero => rintro x y ⟨i, rfl⟩ ⟨j, rfl⟩; exact sgnI_swap i j
  | succ n ih =>
    intro x y hx hy
    have fx := hx
    have fy := hy
    rcases hx with ⟨i, rfl⟩ | ⟨xs, rfl, _, hx⟩ <;> rcases hy with ⟨j, rfl⟩ | ⟨ys, rfl, _, hy⟩
    · exact sgnI_swap i j
    · by_cases c : negD (.int i) = negD (.tuple ys)
      · rw [cmp_ix fx fy (fun h => by cases h.2) c rfl, cmp_iy fy fx (fun h => by cases h.1) c.symm (fun h => by cases h) rfl, c]
        split <;> rfl
      · rw [cmp_ne fx fy (fun h => by cases h.2) c, cmp_ne fy fx (fun h => by cases h.1) (Ne.symm c)]
        cases h1 : negD (.int i) <;> cases h2 : negD (.tuple ys) <;> first | exact absurd (h1.trans h2.symm) c | rfl
    · by_cases c : negD (.tuple xs) = negD (.int j)
      · rw [cmp_ix fy fx (fun h => by cases h.2) c.symm rfl, cmp_iy fx fy (fun h => by cases h.1) c (fun h => by cases h) rfl, c]
        split <;> rfl
      · rw [cmp_ne fx fy (fun h => by cases h.1) c, cmp_ne fy fx (fun h => by cases h.2) (Ne.symm c)]
        cases h1 : negD (.tuple xs) <;> cases h2 : negD (.int j) <;> first | exact absurd (h1.trans h2.symm) c | rfl
    · by_cases c : negD (.tuple xs) = negD (.tuple ys)
      · show (if negD (.tuple ys) = negD (.tuple xs) then lexD (cmpD n) ys.reverse xs.reverse else _) = -(if negD (.tuple xs) = negD (.tuple ys) then lexD (cmpD n) xs.reverse ys.reverse else _)
        rw [if_pos c, if_pos c.symm]
        have hl : xs.length % 2 = ys.length % 2 := by
          have := decide_eq_decide.mp (show decide (xs.length % 2 = 1) = decide (ys.length % 2 = 1) from c)
          omega
        exact lexD_anti (n := n) ih _ _ (fun z hz => hx z (List.mem_reverse.mp hz)) (fun z hz => hy z (List.mem_reverse.mp hz)) (by rw [List.length_reverse, List.length_reverse]; exact hl)
      · rw [cmp_ne fx fy (fun h => by cases h.1) c, cmp_ne fy fx (fun h => by cases h.1) (Ne.symm c)]
        cases h1 : negD (.tuple xs) <;> cases h2 : negD (.tuple ys) <;> first | exact absurd (h1.trans h2.symm) c | rfl
/-! ### maps that keep the order -/
structure Ord (n : Nat) (f : Int → PyData) (S : Int → Prop) : Prop where
  fm : ∀ a, S a → Fm n (f a)
  ord : ∀ a b, S a → S b → cmpD n (f a) (f b) = sgnI a b
theorem Ord.eqv {n : Nat} {f : Int → PyData} {S : Int → Prop} (o : Ord n f S) {a b : Int} (ha : S a) (hb : S b) : PyData.eqv (f a) (f b) = true ↔ a = b := by
  rw [eqv_fm (o.fm a ha) (o.fm b hb)]
  constructor
  · intro e
    have h := o.ord a b ha hb
    rw [e, cmpD_self (o.fm b hb)] at h
    by_cases c : a = b
    · exact c
    · rcases sgnI_pm c with k | k <;> omega
  · intro e; rw [e]
theorem Ord.lex {n : Nat} {f : Int → PyData} {S : Int → Prop} (o : Ord n f S) : ∀ l l' : List Int, (∀ a ∈ l, S a) → (∀ a ∈ l', S a) → lexD (cmpD n) (l.map f) (l'.map f) = lexR l l'
  | [], [], _, _ => rfl
  | [], _ :: _, _, _ => rfl
  | x :: xs, [], _, _ => by show par ((xs.map f).length + 1) 1 = par (xs.length + 1) 1; rw [List.length_map]
  | x :: xs, y :: ys, hx, hy => by
    have sx := hx x List.mem_cons_self
    have sy := hy y List.mem_cons_self
    show (if PyData.eqv (f x) (f y) = true then lexD (cmpD n) (xs.map f) (ys.map f) else par ((xs.map f).length + 1) (cmpD n (f x) (f y))) = if x = y then lexR xs ys else par (xs.length + 1) (sgnI x y)
    rw [List.length_map, o.ord x y sx sy]
    by_cases e : x = y
    · rw [if_pos ((o.eqv sx sy).mpr e), if_pos e, o.lex xs ys (fun a h => hx a (List.mem_cons_of_mem _ h)) (fun a h => hy a (List.mem_cons_of_mem _ h))]
    · rw [if_neg (fun h => e ((o.eqv sx sy).mp h)), if_neg e]
/-- .. and where near places are ints -/
structure OrdN (n : Nat) (f : Int → PyData) (S : Int → Prop) : Prop extends Ord n f S where
  pos : ∀ a, S a → 0 ≤ a
  near : ∀ a, S a → a ≤ 64 → f a = .int a
  far : ∀ a, S a → 64 < a → isNear (f a) = false
def rowF (f : Int → PyData) (l : List Int) : PyData := rowD (l.map f)
theorem zs_toNat {l : List Int} (h : ∀ a ∈ l, 0 ≤ a) : zs (l.map Int.toNat) = l := by
  unfold zs
  rw [List.map_map]
  conv => rhs; rw [← List.map_id l]
  refine List.map_congr_left fun a ha => ?_
  have := h a ha
  show ((a.toNat : Nat) : Int) = a
  omega
theorem asc_toNat {l : List Int} (h : ∀ a ∈ l, 0 ≤ a) (hp : l.Pairwise (· < ·)) : (l.map Int.toNat).Pairwise (· < ·) := by
  have e := zs_toNat h
  rw [← e] at hp
  unfold zs at hp
  exact (List.pairwise_map.mp hp).imp fun h => Int.ofNat_lt.mp h
theorem row_cases {n : Nat} {f : Int → PyData} {S : Int → Prop} (o : OrdN n f S) {l : List Int} (hs : ∀ a ∈ l, S a) (hp : l.Pairwise (· < ·)) :
    ((∀ a ∈ l, a ≤ 64) ∧ rowF f l = .int (alt (-1) (l.map Int.toNat))) ∨ ∃ m p, l = m ++ [p] ∧ 64 < p ∧ rowF f l = .tuple (l.map f) := by
  have near : (∀ a ∈ l, a ≤ 64) → rowF f l = .int (alt (-1) (l.map Int.toNat)) := fun all => by
    unfold rowF
    have e1 : l.map f = nD (l.map Int.toNat) := by
      unfold nD
      rw [List.map_map]
      refine List.map_congr_left fun a ha => ?_
      rw [o.near a (hs a ha) (all a ha)]
      have := o.pos a (hs a ha)
      show PyData.int a = .int ((a.toNat : Nat) : Int)
      congr 1
      omega
    rw [e1]
    cases hl : (nD (l.map Int.toNat)).getLast? with
    | none =>
      have : l.map Int.toNat = [] := by
        have := List.getLast?_eq_none_iff.mp hl
        unfold nD at this
        exact List.map_eq_nil_iff.mp this
      rw [this]
      rfl
    | some d =>
      obtain ⟨k, hk, rfl⟩ := List.mem_map.mp (List.mem_of_getLast? hl)
      obtain ⟨a, ha, rfl⟩ := List.mem_map.mp hk
      rw [rowD_near hl (decide_eq_true (by have := all a ha; omega))]
  rcases List.eq_nil_or_concat l with rfl | ⟨m, q, rfl⟩
  · left; exact ⟨fun a h => (by cases h), near fun a h => (by cases h)⟩
  · rw [List.concat_eq_append] at *
    by_cases c64 : q ≤ 64
    · left
      have all : ∀ a ∈ m ++ [q], a ≤ 64 := fun a ha => by
        rcases List.mem_append.mp ha with ha | ha
        · have := (List.pairwise_append.mp hp).2.2 a ha q List.mem_cons_self; omega
        · simp at ha; omega
      exact ⟨all, near all⟩
    · right
      refine ⟨m, q, rfl, by omega, ?_⟩
      unfold rowF
      refine rowD_far (d := f q) ?_ (o.far q (hs q (by simp)) (by omega))
      rw [List.map_append, List.map_singleton, List.getLast?_concat]
theorem row_fm {n : Nat} {f : Int → PyData} {S : Int → Prop} (o : OrdN n f S) {l : List Int} (hs : ∀ a ∈ l, S a) (hp : l.Pairwise (· < ·)) (hl : l.length ≤ 9000) : Fm (n + 1) (rowF f l) := by
  rcases row_cases o hs hp with ⟨_, e⟩ | ⟨m, p, _, _, e⟩
  · rw [e]; exact Fm.int _
  · rw [e]
    refine .inr ⟨_, rfl, by rw [List.length_map]; exact hl, fun x hx => ?_⟩
    obtain ⟨a, ha, rfl⟩ := List.mem_map.mp hx
    exact o.fm a (hs a ha)
theorem row_neg {n : Nat} {f : Int → PyData} {S : Int → Prop} (o : OrdN n f S) {l : List Int} (hs : ∀ a ∈ l, S a) (hp : l.Pairwise (· < ·)) : negD (rowF f l) = decide (l.length % 2 = 1) := by
  rcases row_cases o hs hp with ⟨_, e⟩ | ⟨m, p, _, _, e⟩
  · rw [e]
    have := alt_par (asc_toNat (fun a ha => o.pos a (hs a ha)) hp)
    rw [List.length_map] at this
    show decide (alt (-1) (l.map Int.toNat) < 0) = _
    refine decide_eq_decide.mpr ⟨fun h => ?_, fun h => this.1 h⟩
    by_cases c : l.length % 2 = 1
    · exact c
    · have := this.2 (by omega); omega
  · rw [e]
    show decide ((l.map f).length % 2 = 1) = _
    rw [List.length_map]
theorem row_ord {n : Nat} {f : Int → PyData} {S : Int → Prop} (o : OrdN n f S) {l l' : List Int} (hs : ∀ a ∈ l, S a) (hs' : ∀ a ∈ l', S a) (hp : l.Pairwise (· < ·)) (hp' : l'.Pairwise (· < ·)) (hl : l.length ≤ 9000) (hl' : l'.length ≤ 9000) :
    cmpD (n + 1) (rowF f l) (rowF f l') = cmpS l l' := by
  have fx := row_fm o hs hp hl
  have fy := row_fm o hs' hp' hl'
  have nx := row_neg o hs hp
  have ny := row_neg o hs' hp'
  rcases row_cases o hs hp with ⟨a1, e⟩ | ⟨m, p, el, p64, e⟩ <;> rcases row_cases o hs' hp' with ⟨a2, e'⟩ | ⟨m', p', el', p64', e'⟩
  · rw [e, e']
    show sgnI _ _ = _
    have h := cmpS_alt (asc_toNat (fun a ha => o.pos a (hs a ha)) hp) (asc_toNat (fun a ha => o.pos a (hs' a ha)) hp')
    rw [zs_toNat (fun a ha => o.pos a (hs a ha)), zs_toNat (fun a ha => o.pos a (hs' a ha))] at h
    exact h.symm
  · have hno : ¬ (isI (rowF f l) = true ∧ isI (rowF f l') = true) := by rw [e, e']; exact fun h => by cases h.2
    have ix : isI (rowF f l) = true := by rw [e]; rfl
    unfold cmpS
    by_cases c : l.length % 2 = l'.length % 2
    · rw [if_neg (by omega), cmp_ix fx fy hno (by rw [nx, ny]; exact decide_eq_decide.mpr (by omega)) ix, nx]
      subst el'
      rw [List.reverse_append]
      rcases List.eq_nil_or_concat l with rfl | ⟨k, q, rfl⟩
      · rfl
      · rw [List.concat_eq_append] at *
        rw [List.reverse_append]
        have q64 := a1 q (by simp)
        have hr : lexR ([q].reverse ++ k.reverse) ([p'].reverse ++ m'.reverse) = par (k.length + 1) (-1) := by
          show (if q = p' then lexR k.reverse m'.reverse else par (k.reverse.length + 1) (sgnI q p')) = _
          rw [if_neg (show ¬ q = p' by omega), sgnI_lt (show q < p' by omega), List.length_reverse]
        rw [hr, show (k ++ [q]).length = k.length + 1 by simp]
        unfold par
        by_cases od : (k.length + 1) % 2 = 1
        · rw [if_pos od, decide_eq_true od, if_pos rfl]; rfl
        · rw [if_neg od, decide_eq_false od, if_neg Bool.false_ne_true]
    · rw [if_pos c, cmp_ne fx fy hno (by rw [nx, ny]; exact fun h => c (by have := decide_eq_decide.mp h; omega)), nx]
      by_cases od : l.length % 2 = 1
      · rw [if_pos od, decide_eq_true od, if_pos rfl]
      · rw [if_neg od, decide_eq_false od, if_neg Bool.false_ne_true]
  · have hno : ¬ (isI (rowF f l) = true ∧ isI (rowF f l') = true) := by rw [e, e']; exact fun h => by cases h.1
    have ix : ¬ isI (rowF f l) = true := by rw [e]; exact fun h => by cases h
    have iy : isI (rowF f l') = true := by rw [e']; rfl
    unfold cmpS
    by_cases c : l.length % 2 = l'.length % 2
    · rw [if_neg (by omega), cmp_iy fx fy hno (by rw [nx, ny]; exact decide_eq_decide.mpr (by omega)) ix iy, nx]
      subst el
      rw [List.reverse_append]
      rcases List.eq_nil_or_concat l' with rfl | ⟨k, q, rfl⟩
      · have hr : lexR ([p].reverse ++ m.reverse) ([] : List Int).reverse = par (m.length + 1) 1 := by
          show par (m.reverse.length + 1) 1 = _
          rw [List.length_reverse]
        have c' : ¬ (m.length + 1) % 2 = 1 := by simp at c; omega
        rw [hr, show (m ++ [p]).length = m.length + 1 by simp]
        unfold par
        rw [if_neg c', decide_eq_false c', if_neg Bool.false_ne_true]
      · rw [List.concat_eq_append] at *
        rw [List.reverse_append]
        have q64 := a2 q (by simp)
        have hr : lexR ([p].reverse ++ m.reverse) ([q].reverse ++ k.reverse) = par (m.length + 1) 1 := by
          show (if p = q then lexR m.reverse k.reverse else par (m.reverse.length + 1) (sgnI p q)) = _
          rw [if_neg (show ¬ p = q by omega), sgnI_gt (show q < p by omega), List.length_reverse]
        rw [hr, show (m ++ [p]).length = m.length + 1 by simp]
        unfold par
        by_cases od : (m.length + 1) % 2 = 1
        · rw [if_pos od, decide_eq_true od, if_pos rfl]
        · rw [if_neg od, decide_eq_false od, if_neg Bool.false_ne_true]
    · rw [if_pos c, cmp_ne fx fy hno (by rw [nx, ny]; exact fun h => c (by have := decide_eq_decide.mp h; omega)), nx]
      by_cases od : l.length % 2 = 1
      · rw [if_pos od, decide_eq_true od, if_pos rfl]
      · rw [if_neg od, decide_eq_false od, if_neg Bool.false_ne_true]
  · unfold cmpS
    rw [e] at nx ⊢
    rw [e'] at ny ⊢
    show (if negD (.tuple (l.map f)) = negD (.tuple (l'.map f)) then lexD (cmpD n) (l.map f).reverse (l'.map f).reverse else (if negD (.tuple (l.map f)) = true then -1 else 1)) = _
    rw [nx, ny]
    by_cases c : l.length % 2 = l'.length % 2
    · rw [if_pos (decide_eq_decide.mpr (by omega)), if_neg (by omega), ← List.map_reverse, ← List.map_reverse]
      exact o.toOrd.lex _ _ (fun a h => hs a (List.mem_reverse.mp h)) (fun a h => hs' a (List.mem_reverse.mp h))
    · rw [if_neg (fun h => c (by have := decide_eq_decide.mp h; omega)), if_pos c]
      by_cases od : l.length % 2 = 1
      · rw [if_pos od, decide_eq_true od, if_pos rfl]
      · rw [if_neg od, decide_eq_false od, if_neg Bool.false_ne_true]
end Fb
namespace Fb
open PySem L2
/-! ### forms of ints -/
theorem ordN_int (n : Nat) : OrdN n PyData.int (fun a => 0 ≤ a) :=
  { fm := fun a _ => Fm.int a, ord := fun a b _ _ => by cases n <;> rfl, pos := fun a h => h, near := fun a _ _ => rfl, far := fun a _ h => decide_eq_false (by omega) }
theorem zs_pos {l : List Nat} : ∀ a ∈ zs l, 0 ≤ a := fun a h => by
  obtain ⟨n, _, rfl⟩ := List.mem_map.mp h
  show (0 : Int) ≤ ((n : Nat) : Int)
  omega
theorem zs_asc {l : List Nat} (h : l.Pairwise (· < ·)) : (zs l).Pairwise (· < ·) := List.pairwise_map.mpr (h.imp fun h => Int.ofNat_lt.mpr h)
theorem zs_nat (l : List Nat) : (zs l).map Int.toNat = l := by
  unfold zs
  rw [List.map_map]
  conv => rhs; rw [← List.map_id l]
  exact List.map_congr_left fun a _ => rfl
/-- an int is plain exactly if no turn is above 64 -/
theorem plain_iff (x : Int) : plain x ↔ ∀ p ∈ turnsN x, p ≤ 64 := by
  constructor
  · intro h; exact turns_lt (n := 64) h.1 h.2
  · intro h
    have e := turns_alt x
    have asc := turns_asc x
    rcases List.eq_nil_or_concat (turnsN x) with h0 | ⟨m, p, h0⟩
    · rw [h0] at e
      have : x = 0 := e.symm
      subst this
      decide
    · rw [List.concat_eq_append] at h0
      rw [h0] at e asc h
      obtain ⟨v, v1, v2, v3, _, _, v6⟩ := alt_size asc
      rw [v1] at e
      have hp := p_le (h p (by simp))
      rcases flip_pm (s := -1) (.inr rfl) m.length with f | f
      · have hm : 1 ≤ m.length := by
          by_cases z : m.length = 0
          · rw [z] at f; cases f
          · omega
        have := v3 hm
        rw [f] at e
        constructor <;> omega
      · have : v ≤ 2 ^ p := by
          by_cases z : m.length = 0
          · have := v2 z; omega
          · have := v3 (by omega); omega
        rw [f] at e
        constructor <;> omega
theorem form_row (x : Int) : formD x = rowF PyData.int (zs (turnsN x)) := by
  rcases row_cases (ordN_int 0) (l := zs (turnsN x)) zs_pos (zs_asc (turns_asc x)) with ⟨all, e⟩ | ⟨m, p, el, p64, e⟩
  · have hp : plain x := (plain_iff x).mpr fun p hp => by have := all (p : Int) (List.mem_map.mpr ⟨p, hp, rfl⟩); omega
    rw [e, zs_nat, turns_alt]
    unfold formD
    rw [if_pos hp]
  · have hp : ¬ plain x := fun h => by
      have hpm : p ∈ zs (turnsN x) := by rw [el]; simp
      obtain ⟨q, hq, rfl⟩ := List.mem_map.mp hpm
      have := (plain_iff x).mp h q hq
      have : (64 : Int) < ((q : Nat) : Int) := p64
      omega
    rw [e]
    unfold formD
    rw [if_neg hp]
    congr 1
    unfold nD zs
    rw [List.map_map]
    rfl
theorem form_ord {n : Nat} {x y : Int} (hx : (turnsN x).length ≤ 9000) (hy : (turnsN y).length ≤ 9000) : cmpD (n + 1) (formD x) (formD y) = sgnI x y := by
  rw [form_row, form_row, row_ord (ordN_int n) zs_pos zs_pos (zs_asc (turns_asc x)) (zs_asc (turns_asc y)) (by rw [len_zs]; exact hx) (by rw [len_zs]; exact hy), cmpS_turns]
theorem even_turns {x : Int} (h : 0 ≤ x) : (turnsN x).length % 2 = 0 := by
  have := (alt_par (turns_asc x)).1
  rw [turns_alt] at this
  by_cases c : (turnsN x).length % 2 = 1
  · have := this c; omega
  · omega
/-! ### places -/
theorem lexD_app {n : Nat} (c : PyData → PyData → Int) : ∀ (t xs ys : List PyData), (∀ x ∈ t, Fm n x) → lexD c (t ++ xs) (t ++ ys) = lexD c xs ys
  | [], _, _, _ => rfl
  | x :: t, xs, ys, h => by
    show (if PyData.eqv x x = true then lexD c (t ++ xs) (t ++ ys) else _) = _
    rw [if_pos ((eqv_fm (h x List.mem_cons_self) (h x List.mem_cons_self)).mpr rfl)]
    exact lexD_app c t xs ys fun y hy => h y (List.mem_cons_of_mem _ hy)
/-- two tuples with the same upper places -/
theorem same_field {n : Nat} {s t : Int} {ts : List PyData} (hs : 0 ≤ s) (ht : 0 ≤ t) (hts : ∀ x ∈ ts, Fm n x) (hev : ts.length % 2 = 0) : cmpD (n + 1) (.tuple (nD (turnsN s) ++ ts)) (.tuple (nD (turnsN t) ++ ts)) = sgnI s t := by
  have es := even_turns hs
  have et := even_turns ht
  show (if negD (.tuple (nD (turnsN s) ++ ts)) = negD (.tuple (nD (turnsN t) ++ ts)) then lexD (cmpD n) (nD (turnsN s) ++ ts).reverse (nD (turnsN t) ++ ts).reverse else _) = _
  have n1 : ∀ l : List Nat, l.length % 2 = 0 → negD (.tuple (nD l ++ ts)) = false := fun l hl => decide_eq_false (by rw [List.length_append, len_nD]; omega)
  rw [n1 _ es, n1 _ et, if_pos rfl, List.reverse_append, List.reverse_append, lexD_app (n := n) _ _ _ _ (fun x h => hts x (List.mem_reverse.mp h))]
  have e : ∀ l : List Nat, (nD l).reverse = (zs l).reverse.map PyData.int := fun l => by
    rw [← List.map_reverse.symm]
    congr 1
    unfold nD zs
    rw [List.map_map]
    rfl
  rw [e, e, (ordN_int n).toOrd.lex _ _ (fun a h => zs_pos a (List.mem_reverse.mp h)) (fun a h => zs_pos a (List.mem_reverse.mp h))]
  have := cmpS_turns s t
  unfold cmpS at this
  rw [len_zs, len_zs, if_neg (by omega)] at this
  exact this
/-- a tuple whose last place is greater -/
theorem last_less {n : Nat} {xs ys : List PyData} {a b : PyData} (hx : xs.length % 2 = 0) (hy : ys.length % 2 = 0) (ex : xs.getLast? = some a) (ey : ys.getLast? = some b) (fa : Fm n a) (fb : Fm n b) (hab : cmpD n a b = -1) :
    cmpD (n + 1) (.tuple xs) (.tuple ys) = -1 := by
  show (if negD (.tuple xs) = negD (.tuple ys) then lexD (cmpD n) xs.reverse ys.reverse else _) = -1
  have n1 : ∀ l : List PyData, l.length % 2 = 0 → negD (.tuple l) = false := fun l hl => decide_eq_false (by omega)
  rw [n1 _ hx, n1 _ hy, if_pos rfl]
  obtain ⟨m, rfl⟩ := List.getLast?_eq_some_iff.mp ex
  obtain ⟨k, rfl⟩ := List.getLast?_eq_some_iff.mp ey
  rw [List.reverse_append, List.reverse_append]
  show (if PyData.eqv a b = true then lexD (cmpD n) m.reverse k.reverse else par (m.reverse.length + 1) (cmpD n a b)) = -1
  have ne : ¬ PyData.eqv a b = true := fun h => by
    rw [(eqv_fm fa fb).mp h, cmpD_self fb] at hab
    cases hab
  rw [if_neg ne, hab, List.length_reverse]
  rw [List.length_append, List.length_singleton] at hx
  unfold par
  rw [if_neg (by omega)]
theorem int_less {n : Nat} {i : Int} {ys : List PyData} (h0 : 0 ≤ i) (hy : ys.length % 2 = 0) : cmpD (n + 1) (.int i) (.tuple ys) = -1 := by
  have n1 : negD (.tuple ys) = false := decide_eq_false (by omega)
  have n2 : negD (.int i) = false := decide_eq_false (by omega)
  show (if negD (.int i) = negD (.tuple ys) then (if negD (.int i) = true then 1 else -1) else _) = -1
  rw [n1, n2, if_pos rfl, if_neg Bool.false_ne_true]
/-- what the fields' tuples are, for the order -/
structure Top2 (ts : List PyData) : Prop where
  ev : ts.length % 2 = 0
  fm : ∀ x ∈ ts, Fm 0 x
  la : ∃ i : Int, ts.getLast? = some (.int i) ∧ 200 ≤ i
structure Top3 (ts : List PyData) : Prop where
  ev : ts.length % 2 = 0
  fm : ∀ x ∈ ts, Fm 2 x
  la : ∃ us : List PyData, ts.getLast? = some (.tuple us) ∧ us.length % 2 = 0
theorem f2_top {low g : Int} {f2 : PyData} (hl : 200 ≤ low) (hg : 0 ≤ g) (h : F2 low g f2) : ∃ ts, f2 = .tuple ts ∧ Top2 ts := by
  rcases h with ⟨d, d0, _, rfl⟩ | ⟨d, d0, _, rfl⟩
  · refine ⟨_, rfl, (by simp), fun x hx => ?_, low + 1 + d, rfl, by omega⟩
    simp at hx; rcases hx with rfl | rfl <;> exact ⟨_, rfl⟩
  · refine ⟨_, rfl, (by simp), fun x hx => ?_, low + 11 + 2 * g + d, rfl, by omega⟩
    simp at hx; rcases hx with rfl | rfl | rfl | rfl <;> exact ⟨_, rfl⟩
theorem f3_top {g : Int} {t2 : List PyData} {f3 : PyData} (k2 : Top2 t2) (hl : t2.length ≤ 50) (h : F3 g (.tuple t2) f3) : ∃ ts, f3 = .tuple ts ∧ Top3 ts := by
  have f1 : Fm 1 (.tuple t2) := .inr ⟨_, rfl, by omega, k2.fm⟩
  have f2 : Fm 2 (.tuple t2) := f1.succ
  rcases h with rfl | ⟨e, ts, _, _, et, rfl⟩ | rfl
  · refine ⟨_, rfl, (by simp), fun x hx => ?_, t2, rfl, k2.ev⟩
    simp at hx; rcases hx with rfl | rfl
    · exact Fm.int _
    · exact f2
  · cases et
    refine ⟨_, rfl, (by simp), fun x hx => ?_, _, rfl, by show (t2.length + 1 + 1) % 2 = 0; have := k2.ev; omega⟩
    simp at hx; rcases hx with rfl | rfl
    · exact f2
    · refine .inr ⟨_, rfl, by show t2.length + 1 + 1 ≤ 9000; omega, fun x hx => ?_⟩
      rcases List.mem_cons.mp hx with rfl | hx
      · exact Fm.int _
      · rcases List.mem_cons.mp hx with rfl | hx
        · exact Fm.int _
        · exact (k2.fm x hx).succ
  · refine ⟨_, rfl, (by simp), fun x hx => ?_, _, rfl, (by simp)⟩
    simp at hx; rcases hx with rfl | rfl | rfl | rfl
    · exact Fm.int _
    · exact Fm.int _
    · exact f2
    · refine .inr ⟨_, rfl, by show 2 ≤ 9000; decide, fun x hx => ?_⟩
      simp at hx; rcases hx with rfl | rfl
      · exact Fm.int _
      · exact f1
def Pl (a : Int) : Prop := 0 ≤ a ∧ a < 800 ∧ a % 200 < 64
/-- the last of a form's turns is small -/
theorem form_small {x : Int} (h0 : 0 ≤ x) (h1 : x < 2 ^ 65) : formD x = .int x ∨ ∃ m p, formD x = .tuple (nD (m ++ [p])) ∧ p ≤ 65 ∧ (m ++ [p]).length % 2 = 0 := by
  unfold formD
  by_cases c : plain x
  · left; rw [if_pos c]
  · right
    rw [if_neg c]
    have ev := even_turns h0
    have le := turns_lt (x := x) (n := 65) (by omega) h1
    rcases List.eq_nil_or_concat (turnsN x) with h | ⟨m, p, h⟩
    · have e := turns_alt x
      rw [h] at e
      have : x = 0 := e.symm
      subst this
      exact absurd (by decide) c
    · rw [List.concat_eq_append] at h
      rw [h] at ev le ⊢
      exact ⟨m, p, rfl, le p (by simp), ev⟩
theorem place_le {fs : List PyData} (F : Fields fs) {p q : Nat} (hp : Pl p) (hq : Pl q) (h : p < q) : cmpD 3 (placeD fs p) (placeD fs q) = -1 := by
  obtain ⟨a, low, g, f2, f3, rfl, a0, a1, l0, l1, g0, g1, k2, k3⟩ := F.ex
  obtain ⟨_, p1, p2⟩ := hp
  obtain ⟨_, q1, q2⟩ := hq
  obtain ⟨t2, rfl, o2⟩ := f2_ok (n := 0) k2
  obtain ⟨t2', e2, m2⟩ := f2_top l0 (by omega) k2
  cases e2
  obtain ⟨t3, rfl, m3⟩ := f3_top m2 o2.1 k3
  have len : ∀ s : Nat, s < 200 → (turnsN ((s : Nat) : Int)).length ≤ 9000 := fun s hs => by
    have := turns_len (x := ((s : Nat) : Int)) (n := 10) (by omega) (by omega); omega
  have lenf : ∀ x : Int, 0 ≤ x → x < 2 ^ 65 → (turnsN x).length ≤ 9000 := fun x h0 h1 => by
    have := turns_len (x := x) (n := 65) (by omega) h1; omega
  have pl0 : ∀ r : Nat, r < 200 → placeD [.int 0, .int a, .tuple t2, .tuple t3] r = formD (r : Int) := fun r hr => by
    rw [place0 F hr]; unfold formD; rw [if_pos (by constructor <;> omega)]
  have pl1 : ∀ r : Nat, 200 ≤ r → r < 400 → placeD [.int 0, .int a, .tuple t2, .tuple t3] r = formD (a + ((r % 200 : Nat) : Int)) := fun r h1 h2 => by
    unfold placeD; rw [show r / 200 = 1 by omega]; rfl
  have pl2 : ∀ r : Nat, 400 ≤ r → r < 600 → placeD [.int 0, .int a, .tuple t2, .tuple t3] r = .tuple (nD (turnsN ((r % 200 : Nat) : Int)) ++ t2) := fun r h1 h2 => by
    unfold placeD; rw [show r / 200 = 2 by omega]; rfl
  have pl3 : ∀ r : Nat, 600 ≤ r → r < 800 → placeD [.int 0, .int a, .tuple t2, .tuple t3] r = .tuple (nD (turnsN ((r % 200 : Nat) : Int)) ++ t3) := fun r h1 h2 => by
    unfold placeD; rw [show r / 200 = 3 by omega]; rfl
  have ev : ∀ (r : Nat) (ts : List PyData), ts.length % 2 = 0 → (nD (turnsN ((r % 200 : Nat) : Int)) ++ ts).length % 2 = 0 := fun r ts h => by
    have := even_turns (x := ((r % 200 : Nat) : Int)) (by omega)
    rw [List.length_append, len_nD]; omega
  have la : ∀ (r : Nat) (ts : List PyData) (d : PyData), ts.getLast? = some d → (nD (turnsN ((r % 200 : Nat) : Int)) ++ ts).getLast? = some d := fun r ts d h => by
    rw [List.getLast?_append, h]; rfl
  obtain ⟨i2, e2, i200⟩ := m2.la
  obtain ⟨us, e3, uev⟩ := m3.la
  have fus : Fm 2 (.tuple us) := m3.fm _ (List.mem_of_getLast? e3)
  -- an int's form against a tuple that lies above
  have low23 : ∀ (x : Int) (r : Nat), 0 ≤ x → x < 2 ^ 65 → cmpD 3 (formD x) (.tuple (nD (turnsN ((r % 200 : Nat) : Int)) ++ t2)) = -1 ∧ cmpD 3 (formD x) (.tuple (nD (turnsN ((r % 200 : Nat) : Int)) ++ t3)) = -1 := fun x r h0 h1 => by
    rcases form_small h0 h1 with e | ⟨m, p, e, p65, pev⟩
    · rw [e]
      exact ⟨int_less h0 (ev r t2 m2.ev), int_less h0 (ev r t3 m3.ev)⟩
    · rw [e]
      have el : (nD (m ++ [p])).getLast? = some (.int (p : Int)) := by unfold nD; rw [List.map_append]; exact List.getLast?_concat ..
      have elv : (nD (m ++ [p])).length % 2 = 0 := by rw [len_nD]; exact pev
      refine ⟨last_less elv (ev r t2 m2.ev) el (la r t2 _ e2) (Fm.int _) (Fm.int _) (sgnI_lt (by omega)), last_less elv (ev r t3 m3.ev) el (la r t3 _ e3) (Fm.int _) fus (int_less (by omega) uev)⟩
  by_cases c1 : p < 200
  · by_cases d1 : q < 200
    · rw [pl0 p c1, pl0 q d1, form_ord (len p c1) (len q d1), sgnI_lt (by omega)]
    · by_cases d2 : q < 400
      · rw [pl0 p c1, pl1 q (by omega) d2, form_ord (len p c1) (lenf _ (by omega) (by omega)), sgnI_lt (by omega)]
      · by_cases d3 : q < 600
        · rw [pl0 p c1, pl2 q (by omega) d3]; exact (low23 p q (by omega) (by omega)).1
        · rw [pl0 p c1, pl3 q (by omega) (by omega)]; exact (low23 p q (by omega) (by omega)).2
  · by_cases c2 : p < 400
    · rw [pl1 p (by omega) c2]
      by_cases d2 : q < 400
      · rw [pl1 q (by omega) d2, form_ord (lenf _ (by omega) (by omega)) (lenf _ (by omega) (by omega)), sgnI_lt (by omega)]
      · by_cases d3 : q < 600
        · rw [pl2 q (by omega) d3]; exact (low23 _ q (by omega) (by omega)).1
        · rw [pl3 q (by omega) (by omega)]; exact (low23 _ q (by omega) (by omega)).2
    · by_cases c3 : p < 600
      · rw [pl2 p (by omega) c3]
        by_cases d3 : q < 600
        · rw [pl2 q (by omega) d3, same_field (n := 2) (by omega) (by omega) (fun x h => (m2.fm x h).mono (by decide)) m2.ev, sgnI_lt (by omega)]
        · rw [pl3 q (by omega) (by omega)]
          exact last_less (ev p t2 m2.ev) (ev q t3 m3.ev) (la p t2 _ e2) (la q t3 _ e3) (Fm.int _) fus (int_less (by omega) uev)
      · rw [pl3 p (by omega) (by omega), pl3 q (by omega) (by omega), same_field (n := 2) (by omega) (by omega) m3.fm m3.ev, sgnI_lt (by omega)]
theorem ordN_place {fs : List PyData} (F : Fields fs) : OrdN 3 (fun a => placeD fs a.toNat) Pl := by
  have lift : ∀ a, Pl a → ((a.toNat : Nat) : Int) = a := fun a h => by have := h.1; omega
  refine { fm := fun a h => ?_, ord := fun a b ha hb => ?_, pos := fun a h => h.1, near := fun a h h64 => ?_, far := fun a h h64 => ?_ }
  · have := h.1; have := h.2.1
    exact place_fm F (by omega)
  · have la := lift a ha
    have lb := lift b hb
    have a8 := ha.2.1
    have b8 := hb.2.1
    rcases Int.lt_trichotomy a b with c | c | c
    · rw [sgnI_lt c]
      exact place_le F (by rw [la]; exact ha) (by rw [lb]; exact hb) (by omega)
    · subst c
      rw [sgnI_self]
      exact cmpD_self (place_fm F (by omega))
    · rw [sgnI_gt c, cmpD_anti 3 (placeD fs b.toNat) (placeD fs a.toNat) (place_fm F (by omega)) (place_fm F (by omega)), place_le F (by rw [lb]; exact hb) (by rw [la]; exact ha) (by omega)]
      rfl
  · show placeD fs a.toNat = .int a
    rw [place0 F (by omega), lift a h]
  · obtain ⟨hp, _, k⟩ := places F 0
    have := h.2.1
    exact (k a.toNat (by omega)).2.2 (by omega)
/-! ### moved codes -/
theorem alt_append (s : Int) (l l' : List Nat) : alt s (l ++ l') = alt s l + alt (flip s l.length) l' := by
  induction l generalizing s with
  | nil => show alt s l' = 0 + alt s l'; omega
  | cons p l ih =>
    show s * 2 ^ p + alt (-s) (l ++ l') = s * 2 ^ p + alt (-s) l + alt (flip (-s) l.length) l'
    rw [ih]; omega
theorem alt_shift (k : Nat) (s : Int) (l : List Nat) : alt s (l.map (· + k)) = 2 ^ k * alt s l := by
  induction l generalizing s with
  | nil => show (0 : Int) = 2 ^ k * 0; omega
  | cons p l ih =>
    show s * 2 ^ (p + k) + alt (-s) (l.map (· + k)) = 2 ^ k * (s * 2 ^ p + alt (-s) l)
    rw [ih, Int.pow_add, Int.mul_add, Int.mul_comm (2 ^ k) (s * 2 ^ p), Int.mul_assoc]
theorem flip_even {s : Int} {n : Nat} (h : n % 2 = 0) : flip s n = s := by rw [flip_eq]; unfold par; rw [if_neg (by omega)]
/-- the turns of two groups of bits -/
theorem turns_two {a b : Int} {k : Nat} (ha : 0 ≤ a) (hb : 0 ≤ b) (hk : ∀ p ∈ turnsN a, p < k) : turnsN (a + b * 2 ^ k) = turnsN a ++ (turnsN b).map (· + k) := by
  have asc : (turnsN a ++ (turnsN b).map (· + k)).Pairwise (· < ·) := by
    rw [List.pairwise_append]
    refine ⟨turns_asc a, List.pairwise_map.mpr ((turns_asc b).imp fun h => by omega), fun p hp q hq => ?_⟩
    obtain ⟨r, _, rfl⟩ := List.mem_map.mp hq
    have := hk p hp
    omega
  rw [← turns_of_alt asc, alt_append, turns_alt, flip_even (even_turns ha), alt_shift, turns_alt, Int.mul_comm b]
theorem digit_turns {d : Int} (h0 : 0 ≤ d) (h1 : d < 2 ^ 60) : ∀ p ∈ turnsN d, p < 64 := fun p hp => by
  have := turns_lt (x := d) (n := 60) (by omega) h1 p hp; omega
/-- the turns of a code lie in its groups -/
theorem code_places {m : Nat} {c : Int} (h : CodeB m (2 ^ 60) c) : ∀ p ∈ turnsN c, Pl p := by
  obtain ⟨d, rfl, h2, _⟩ := h
  have t0 := digit_turns (h2 0).1 (h2 0).2
  have t1 := digit_turns (h2 1).1 (h2 1).2
  have t2 := digit_turns (h2 2).1 (h2 2).2
  have t3 := digit_turns (h2 3).1 (h2 3).2
  have n3 : 0 ≤ d 2 + d 3 * 2 ^ 200 := by have := (h2 2).1; have := (h2 3).1; omega
  have n2 : 0 ≤ d 1 + (d 2 + d 3 * 2 ^ 200) * 2 ^ 200 := by have := (h2 1).1; omega
  have e : val4 d = d 0 + (d 1 + (d 2 + d 3 * 2 ^ 200) * 2 ^ 200) * 2 ^ 200 := by unfold val4; omega
  rw [e, turns_two (h2 0).1 n2 (fun p hp => by have := t0 p hp; omega), turns_two (h2 1).1 n3 (fun p hp => by have := t1 p hp; omega), turns_two (h2 2).1 (h2 3).1 (fun p hp => by have := t2 p hp; omega)]
  intro p hp
  simp only [List.mem_append, List.map_append, List.mem_map] at hp
  rcases hp with hp | ⟨q, hq, rfl⟩ | ⟨q, ⟨r, hr, rfl⟩ , rfl⟩ | ⟨q, ⟨r, ⟨u, hu, rfl⟩, rfl⟩, rfl⟩
  · have := t0 p hp; exact ⟨by omega, by omega, by omega⟩
  · have := t1 q hq; exact ⟨by omega, by omega, by omega⟩
  · have := t2 r hr; exact ⟨by omega, by omega, by omega⟩
  · have := t3 u hu; exact ⟨by omega, by omega, by omega⟩
def Cd (c : Int) : Prop := CodeB 4 (2 ^ 60) c
theorem moved_row (fs : List PyData) (c : Int) : movedD fs c = rowF (fun a => placeD fs a.toNat) (zs (turnsN c)) := by
  unfold movedD rowF zs
  rw [List.map_map]
  rfl
theorem Cd.b {c : Int} (h : Cd c) : 0 ≤ c ∧ c < 2 ^ 799 := code_799 h (by decide) (by decide) (Int.le_refl _)
theorem ordN_moved {fs : List PyData} (F : Fields fs) : OrdN 4 (movedD fs) Cd := by
  have o := ordN_place F
  have pl : ∀ c, Cd c → ∀ a ∈ zs (turnsN c), Pl a := fun c h a ha => by
    obtain ⟨p, hp, rfl⟩ := List.mem_map.mp ha
    exact code_places h p hp
  have le : ∀ c, Cd c → (zs (turnsN c)).length ≤ 9000 := fun c h => by
    rw [len_zs]
    have := len_turns h.b.1 h.b.2
    omega
  refine { fm := fun c h => ?_, ord := fun c c' h h' => ?_, pos := fun c h => h.b.1, near := fun c h h64 => small_moved F h.b.1 h64, far := fun c h h64 => ?_ }
  · rw [moved_row]
    exact row_fm o (pl c h) (zs_asc (turns_asc c)) (le c h)
  · show cmpD 4 (movedD fs c) (movedD fs c') = _
    rw [moved_row, moved_row, row_ord o (pl c h) (pl c' h') (zs_asc (turns_asc c)) (zs_asc (turns_asc c')) (le c h) (le c' h'), cmpS_turns]
  · obtain ⟨hm, _, k⟩ := moveds F 0
    have := (k c h.b.1 h.b.2).2.2
    by_cases e : isNear (movedD fs c) = true
    · have := this e; omega
    · exact Bool.eq_false_iff.mpr e
/-- the order of numbers made of codes -/
theorem codes_ord {fs : List PyData} (F : Fields fs) {l l' : List Int} (hs : ∀ c ∈ l, Cd c) (hs' : ∀ c ∈ l', Cd c) (hp : l.Pairwise (· < ·)) (hp' : l'.Pairwise (· < ·)) (hl : l.length ≤ 2000) (hl' : l'.length ≤ 2000) :
    cmpD 5 (codesD fs l) (codesD fs l') = cmpS l l' ∧ Fm 5 (codesD fs l) ∧ Fm 5 (codesD fs l') :=
  ⟨row_ord (ordN_moved F) hs hs' hp hp' (by omega) (by omega), row_fm (ordN_moved F) hs hp (by omega), row_fm (ordN_moved F) hs' hp' (by omega)⟩
theorem lexR_self : ∀ l : List Int, lexR l l = 0
  | [] => rfl
  | x :: xs => by show (if x = x then lexR xs xs else _) = 0; rw [if_pos rfl, lexR_self xs]
theorem cmpS_self (l : List Int) : cmpS l l = 0 := by unfold cmpS; rw [if_neg (fun h => h rfl), lexR_self]
theorem lexR_anti : ∀ l l' : List Int, l.length % 2 = l'.length % 2 → lexR l' l = -lexR l l'
  | [], [], _ => rfl
  | [], y :: ys, h => by
    show par (ys.length + 1) 1 = -(-1)
    unfold par; rw [if_neg (by simp at h; omega)]; rfl
  | x :: xs, [], h => by
    show (-1 : Int) = -par (xs.length + 1) 1
    unfold par; rw [if_neg (by simp at h; omega)]
  | x :: xs, y :: ys, h => by
    have hl : xs.length % 2 = ys.length % 2 := by simp at h; omega
    show (if y = x then lexR ys xs else par (ys.length + 1) (sgnI y x)) = -(if x = y then lexR xs ys else par (xs.length + 1) (sgnI x y))
    by_cases e : x = y
    · rw [if_pos e, if_pos e.symm, lexR_anti xs ys hl]
    · rw [if_neg e, if_neg (Ne.symm e), sgnI_swap, par_neg]
      unfold par
      by_cases o : (xs.length + 1) % 2 = 1
      · rw [if_pos o, if_pos (by omega)]
      · rw [if_neg o, if_neg (by omega)]
theorem cmpS_anti (l l' : List Int) : cmpS l' l = -cmpS l l' := by
  unfold cmpS
  by_cases c : l.length % 2 = l'.length % 2
  · rw [if_neg (by omega), if_neg (by omega), lexR_anti]
    rw [List.length_reverse, List.length_reverse]; exact c
  · rw [if_pos c, if_pos (Ne.symm c)]
    by_cases o : l.length % 2 = 1
    · rw [if_pos o, if_neg (by omega)]; rfl
    · rw [if_neg o, if_pos (by omega)]
end Fb
namespace Fb
open PySem L2
def top (i : Nat) : Stmt := PySem.Challenge.pw_farbits_k00_forms_told_from_other_values.main.body.getD i (.Pass ⟨0, 0, 0, 0⟩)
theorem shaped_fm {n : Nat} {d : PyData} (h : Fm n d) (hn : n ≤ 40) : SeqAt.shaped d = true := by
  obtain ⟨a, b⟩ := h.lay
  unfold SeqAt.shaped
  rw [a]
  simp
  omega
theorem shaped_tup {n : Nat} {ds : List PyData} (h : ∀ x ∈ ds, Fm n x) (hn : n ≤ 40) : SeqAt.shaped (.tuple ds) = true := by
  have := shaped_list hn h
  simp only [SeqAt.shaped, PyData.canLay0, PyData.depth] at this ⊢
  exact this
section
variable {P : Program} {w : World} {K : PySem.W.Frag} {mg : Str → Option Value} {base : Heap} {f : Addr} {fd : FuncData}
theorem fnok_no {CX : CXT} {k : Nat} {ps : List Str} : FnOk P w K mg base CX k f fd ps (fun _ _ _ _ => False) := ⟨fun _ _ _ _ h => h.elim, fun _ _ _ _ _ _ _ _ _ _ _ _ _ h => h.elim⟩
abbrev S_is_negative : Stmt := top 6
abbrev N_is_negative : List Str := ["x"]
abbrev P_is_negative : List Str := ["x"]
theorem sc_is_negative : FnScope N_is_negative P_is_negative (defScope S_is_negative) := ⟨rfl, rfl, rfl, by decide +kernel, rfl, by decide +kernel, by decide +kernel⟩
def spNeg (K : PySem.W.Frag) : Sp := fun vs H Q _ => ∃ (v : V) (d : PyData), vs = [v] ∧ Dp K H v d ∧ (isI d = true ∨ isT d = true) ∧ (∀ b, d ≠ .bool b) ∧ ∀ H' : Hp, Same H H' → Q (.bl (negD d)) H'
theorem ok_neg (F : Fun K "is_negative" "is_negative" S_is_negative f fd) (B : Blt mg) : FnOk P w K mg base CX0 1 f fd P_is_negative (spNeg K) := by
  have nd := sc_is_negative.nd
  refine F.ok sc_is_negative (fun vs H Q E h => ?_) (fun cdv A outer s H vs Q E hr h => ?_)
  · obtain ⟨v, d, rfl, _⟩ := h
    rfl
  obtain ⟨v, d, rfl, hd, hk, hb, q⟩ := h
  refine ⟨_, (pss_cons (ps_if (pt_val (pe_callB (call_isiI K) (by rfl) B.isinstance (by decide +kernel) (pa_cons (pv 0) (pa_cons (pe_bltn (by rfl) B.int (by decide +kernel) (show RelV (.ty "int") (.type "int") from rfl)) pa_nil)))) (pss_one (ps_ret (pe_cmpR op_lt (pv 0) pe_int (nomark _)))) pss_nil)
    (pss_one (ps_ret (pe_cmpR op_eq (pe_op op_and (pe_callB call_lenT (by rfl) B.len PySem.boot_len (pa_cons (pv 0) pa_nil)) pe_int) pe_int (nomark _))))), ?_⟩
  refine ⟨_, rfl, _, d, rfl, hd, _, rfl, ?_⟩
  cases d with
  | int i =>
    cases hd
    refine iteT ?_
    exact ⟨_, rfl, _, _, rfl, rfl, q H (Same.refl H)⟩
  | tuple ds =>
    refine iteF ?_
    cases hd with
    | @tup a xs _ hs ha =>
    refine ⟨_, rfl, a, _, rfl, hs, _, _, rfl, rfl, rfl, ?_⟩
    have e : decide (V.int (Builtin.bitAnd (xs.length : Int) 1) = V.int 1) = negD (.tuple ds) := by
      rw [PyProof.Rows.bitAnd_m1]
      show _ = decide (ds.length % 2 = 1)
      rw [dps_length ha]
      refine decide_eq_decide.mpr ⟨fun h => ?_, fun h => ?_⟩
      · injection h with h; omega
      · congr 1; omega
    have q' := q H (Same.refl H)
    rw [← e] at q'
    exact q'
  | bool b => exact absurd rfl (hb b)
  | none => rcases hk with h | h <;> cases h
  | str _ => rcases hk with h | h <;> cases h
  | list _ => rcases hk with h | h <;> cases h
  | dict _ => rcases hk with h | h <;> cases h
abbrev S_common_tail : Stmt := top 9
abbrev N_common_tail : List Str := ["x", "y", "most", "same", "step", "more"]
abbrev P_common_tail : List Str := ["x", "y", "most"]
theorem sc_common_tail : FnScope N_common_tail P_common_tail (defScope S_common_tail) := ⟨rfl, rfl, rfl, by decide +kernel, rfl, by decide +kernel, by decide +kernel⟩
def spTail (K : PySem.W.Frag) (n : Nat) : Sp := fun vs H Q _ => ∃ (a b : Addr) (xs ys : List V) (ds es : List PyData) (mo : Nat), vs = [.ref a, .ref b, .int (mo : Int)] ∧ SqT K H a xs ∧ SqT K H b ys ∧ DpAll K H xs ds ∧ DpAll K H ys es ∧ (∀ d ∈ ds, Fm n d) ∧ (∀ d ∈ es, Fm n d) ∧
  mo ≤ ds.length ∧ mo ≤ es.length ∧ ctail ds.reverse es.reverse ≤ mo ∧ 8 ≤ ctail ds.reverse es.reverse ∧ ∀ H' : Hp, Same H H' → Q (.int (ctail ds.reverse es.reverse : Nat)) H'
theorem ok_tail {n : Nat} {tk : Tok} (hn : n ≤ 40) (F : Fun K "common_tail" "common_tail" S_common_tail f fd) (B : Blt mg) (MF : mg "FEW_TURNS" = some (.int 8 tk)) : FnOk P w K mg base CX0 1 f fd P_common_tail (spTail K n) := by
  have nd := sc_common_tail.nd
  refine F.ok sc_common_tail (fun vs H Q E h => ?_) (fun cdv A outer s H vs Q E hr h => ?_)
  · obtain ⟨a, b, xs, ys, ds, es, mo, rfl, _⟩ := h
    rfl
  obtain ⟨a, b, xs, ys, ds, es, mo, rfl, hA, hB, hd, he, fd1, fe1, mo1, mo2, mo3, c8, q⟩ := h
  refine ⟨_, (pss_cons (ps_set (i := 3) nd rfl (Or.inl rfl) (pe_glob (v := .int 8) rfl MF ⟨_, rfl⟩))
    (C8.pss_cut (ps_set (i := 4) nd rfl (Or.inl rfl) (pv 3))
    (pss_cons (ps_while PassesOwn.never (pt_truth (pv 4) (by intro _; rfl)) (pss_cons (ps_set (i := 5) nd rfl (Or.inl rfl) (pe_op op_add (pv 3) (pv 4)))
    (pss_one (ps_if (PW.pt (pw_and (pt_cmpR op_le (pv 5) (pv 2) (nomark _)) (pw_and1 (pt_cmpR (op_eqD hr.units) (pe_slice sl_tupD (pv 0) (po_some (pe_op op_sub (pe_callB call_lenT (by rfl) B.len PySem.boot_len (pa_cons (pv 0) pa_nil)) (pv 5))) (po_some (pe_op op_sub (pe_callB call_lenT (by rfl) B.len PySem.boot_len (pa_cons (pv 0) pa_nil)) (pv 3)))) (pe_slice sl_tupD (pv 1) (po_some (pe_op op_sub (pe_callB call_lenT (by rfl) B.len PySem.boot_len (pa_cons (pv 1) pa_nil)) (pv 5))) (po_some (pe_op op_sub (pe_callB call_lenT (by rfl) B.len PySem.boot_len (pa_cons (pv 1) pa_nil)) (pv 3)))) (nomark _))))) (pss_cons (ps_set (i := 3) nd rfl (Or.inl rfl) (pv 5))
    (pss_one (ps_set (i := 4) nd rfl (Or.inl rfl) (pe_op op_mul (pv 4) pe_int)))) (pss_one (ps_set (i := 4) nd rfl (Or.inl rfl) (pe_op op_fdivW (pv 4) pe_int)))))))
    (pss_one (ps_ret (pv 3)))))), ?_⟩
  have lx := dps_length hd
  have ly := dps_length he
  generalize hc : ctail ds.reverse es.reverse = ct at q mo3 c8
  refine ⟨fun σ H'' => ∃ sm st : Nat, σ = [some (.ref a), some (.ref b), some (.int (mo : Int)), some (.int (sm : Int)), some (.int (st : Int)), none] ∧ H'' = H ∧ sm = 8 ∧ st = 8, ⟨_, rfl, 8, 8, rfl, rfl, rfl, rfl⟩, ?_⟩
  rintro σ H'' ⟨sm, st, rfl, rfl, s8, t8⟩
  have s2 : sm ≤ ct := by omega
  have t1 : st ≤ sm := by omega
  have t2 : st = 0 → ct = sm := fun h => by omega
  clear s8 t8
  refine ⟨fun m σ H' => ∃ (sm st : Nat) (z : Option V), σ = [some (.ref a), some (.ref b), some (.int (mo : Int)), some (.int (sm : Int)), some (.int (st : Int)), z] ∧ m = (mo - sm) * (mo + 2) + st ∧ sm ≤ ct ∧ st ≤ sm ∧ (st = 0 → ct = sm) ∧ Same H'' H', ⟨_, sm, st, none, rfl, rfl, s2, t1, t2, Same.refl _⟩, ?_⟩
  rintro m σ H' ⟨sm, st, z, rfl, rfl, s2, t1, t2, e⟩
  refine ⟨_, rfl, _, rfl, ?_⟩
  refine ite2 (fun c => ?_) (fun c => ?_)
  · have st0 : st ≠ 0 := fun h => by rw [h] at c; cases c
    have half : ∀ H1, Same H'' H1 → (st = 1 → ct ≤ sm) → ∃ m', m' < (mo - sm) * (mo + 2) + st ∧ ∃ (sm' st' : Nat) (z : Option V), ([some (.ref a), some (.ref b), some (.int (mo : Int)), some (.int (sm : Int)), some (.int ((st : Int) / 2)), some (.int ((sm : Int) + (st : Int)))] : L2.St) = [some (.ref a), some (.ref b), some (.int (mo : Int)), some (.int (sm' : Int)), some (.int (st' : Int)), z] ∧ m' = (mo - sm') * (mo + 2) + st' ∧ sm' ≤ ct ∧ st' ≤ sm' ∧ (st' = 0 → ct = sm') ∧ Same H'' H1 := fun H1 e1 h1 =>
      ⟨(mo - sm) * (mo + 2) + st / 2, by omega, sm, st / 2, _, rfl, rfl, s2, by omega, fun h => by have := h1 (by omega); omega, e1⟩
    refine ⟨fun σ' H1 => ∃ m', m' < (mo - sm) * (mo + 2) + st ∧ ∃ (sm' st' : Nat) (z : Option V), σ' = [some (.ref a), some (.ref b), some (.int (mo : Int)), some (.int (sm' : Int)), some (.int (st' : Int)), z] ∧ m' = (mo - sm') * (mo + 2) + st' ∧ sm' ≤ ct ∧ st' ≤ sm' ∧ (st' = 0 → ct = sm') ∧ Same H'' H1, fun σ' H1 h => h, ?_⟩
    refine ⟨_, rfl, _, rfl, _, _, rfl, rfl, ?_⟩
    refine ⟨_, rfl, _, rfl, _, _, rfl, rfl, _, rfl, ?_⟩
    refine iteD (fun c1 => ?_) (fun c1 => ?_)
    · have hA1 := (Nd.of e).sqt hA
      refine ⟨_, rfl, _, rfl, a, _, rfl, hA1, _, rfl, _, _, rfl, rfl, _, rfl, _, rfl, a, _, rfl, hA1, _, rfl, _, _, rfl, rfl, _, rfl, a, _, rfl, hA1, fun b1 H1 e1 k1 => ?_⟩
      have hB1 := (Nd.of (e.trans e1)).sqt hB
      refine ⟨_, rfl, _, rfl, b, _, rfl, hB1, _, rfl, _, _, rfl, rfl, _, rfl, _, rfl, b, _, rfl, hB1, _, rfl, _, _, rfl, rfl, _, rfl, b, _, rfl, hB1, fun b2 H2 e2 k2 => ?_⟩
      have em : (sm : Int) + (st : Int) = ((sm + st : Nat) : Int) := by omega
      rw [em] at k1 k2
      have k1 : SqT K H1 b1 (cutV xs (some ((xs.length : Int) - ((sm + st : Nat) : Int))) (some ((xs.length : Int) - (sm : Int)))) := k1
      have k2 : SqT K H2 b2 (cutV ys (some ((ys.length : Int) - ((sm + st : Nat) : Int))) (some ((ys.length : Int) - (sm : Int)))) := k2
      rw [cut_seg (by omega) (by omega)] at k1 k2
      have e12 := e.trans (e1.trans e2)
      have k1' := (Nd.of e2).sqt k1
      have w1 : ∀ x ∈ seg ds sm (sm + st), Fm n x := fun x hx => fd1 x (List.mem_of_mem_drop (List.mem_of_mem_take hx))
      have w2 : ∀ x ∈ seg es sm (sm + st), Fm n x := fun x hx => fe1 x (List.mem_of_mem_drop (List.mem_of_mem_take hx))
      refine ⟨.tuple (seg ds sm (sm + st)), .tuple (seg es sm (sm + st)), .tup k1' (dps_seg ((Nd.of e12).ds hd) _ _), .tup k2 (dps_seg ((Nd.of e12).ds he) _ _), shaped_tup w1 hn, shaped_tup w2 hn, _, rfl, ?_⟩
      have al := seg_alike (ds := ds) (es := es) (same := sm) (more := sm + st) (by rw [hc]; exact s2) (by omega) (by omega) (by omega)
      rw [hc] at al
      refine ite2 (fun c2 => ?_) (fun c2 => ?_)
      · have := al.mp c2
        refine ⟨_, rfl, ?_⟩
        refine ⟨_, rfl, _, _, rfl, rfl, .inr ⟨by decide, by decide⟩, ?_⟩
        refine ⟨(mo - (sm + st)) * (mo + 2) + 2 * st, ?_, sm + st, 2 * st, _, (by rw [show ((2 * st : Nat) : Int) = (st : Int) * 2 by omega, ← em]; rfl), rfl, this, by omega, fun h => by omega, e12⟩
        obtain ⟨r, hr⟩ : ∃ r, mo - sm = r + st := ⟨mo - sm - st, by omega⟩
        rw [show mo - (sm + st) = r by omega, hr, Nat.add_mul]
        have : st * 2 ≤ st * (mo + 2) := Nat.mul_le_mul_left _ (by omega)
        omega
      · refine ⟨_, rfl, _, _, rfl, rfl, ⟨by decide, by decide +kernel⟩, ?_⟩
        exact half H2 e12 fun h => by
          by_cases z : ct ≤ sm
          · exact z
          · exact absurd (al.mpr (by omega)) c2
    · refine iteF ?_
      refine ⟨_, rfl, _, _, rfl, rfl, ⟨by decide, by decide +kernel⟩, ?_⟩
      exact half H' e fun h => by omega
  · have st0 : st = 0 := by
      by_cases z : st = 0
      · exact z
      · exact absurd (by show ((st : Int) != 0) = true; simp; omega) c
    have := t2 st0
    refine ⟨_, rfl, ?_⟩
    have q' := q H' e
    rw [this] at q'
    exact q'
abbrev S_compare_far : Stmt := top 8
abbrev N_compare_far : List Str := ["x", "y", "most", "same", "later"]
abbrev P_compare_far : List Str := ["x", "y"]
theorem sc_compare_far : FnScope N_compare_far P_compare_far (defScope S_compare_far) := ⟨rfl, rfl, rfl, by decide +kernel, rfl, by decide +kernel, by decide +kernel⟩
abbrev S_compare : Stmt := top 7
abbrev N_compare : List Str := ["x", "y", "below"]
abbrev P_compare : List Str := ["x", "y"]
theorem sc_compare : FnScope N_compare P_compare (defScope S_compare) := ⟨rfl, rfl, rfl, by decide +kernel, rfl, by decide +kernel, by decide +kernel⟩
def spFar (K : PySem.W.Frag) (n : Nat) : Sp := fun vs H Q _ => ∃ (a b : Addr) (xs ys : List V) (ds es : List PyData), vs = [.ref a, .ref b] ∧ SqT K H a xs ∧ SqT K H b ys ∧ DpAll K H xs ds ∧ DpAll K H ys es ∧ (∀ d ∈ ds, Fm n d) ∧ (∀ d ∈ es, Fm n d) ∧
  ∀ H' : Hp, Same H H' → Q (.int (lexD (cmpD n) ds.reverse es.reverse)) H'
def spCmp (K : PySem.W.Frag) (n : Nat) : Sp := fun vs H Q _ => ∃ (x y : V) (dx dy : PyData), vs = [x, y] ∧ Dp K H x dx ∧ Dp K H y dy ∧ Fm n dx ∧ Fm n dy ∧ ∀ H' : Hp, Same H H' → Q (.int (cmpD n dx dy)) H'
theorem ok_far {n : Nat} {tk : Tok} (hn : n ≤ 40) (F : Fun K "compare_far" "compare_far" S_compare_far f fd) (B : Blt mg) (MF : mg "FEW_TURNS" = some (.int 8 tk)) (Ccommon_tail : Has P w K mg base 1 "common_tail" P_common_tail [] (spTail K n)) (Ccompare : Has P w K mg base (2 * n + 2) "compare" P_compare [] (spCmp K n)) :
    FnOk P w K mg base CX0 (2 * n + 3) f fd P_compare_far (spFar K n) := by
  have nd := sc_compare_far.nd
  refine F.ok sc_compare_far (fun vs H Q E h => ?_) (fun cdv A outer s H vs Q E hr h => ?_)
  · obtain ⟨a, b, xs, ys, ds, es, rfl, _⟩ := h
    rfl
  obtain ⟨a, b, xs, ys, ds, es, rfl, hA, hB, hd, he, fd1, fe1, q⟩ := h
  refine ⟨_, (pss_cons (ps_set (i := 2) nd rfl (Or.inl rfl) (pe_callB (call_min2 rfl) (by rfl) B.min (by decide +kernel) (pa_cons (pe_callB call_lenT (by rfl) B.len PySem.boot_len (pa_cons (pv 0) pa_nil)) (pa_cons (pe_callB call_lenT (by rfl) B.len PySem.boot_len (pa_cons (pv 1) pa_nil)) pa_nil))))
    (pss_cons (ps_set (i := 3) nd rfl (Or.inl rfl) pe_int)
    (C8.pss_cut (ps_while PassesOwn.never (PW.pt (pw_and (pt_cmpR op_lt (pv 3) (pv 2) (nomark _)) (pw_and1 (pt_cmpR (op_eqD hr.units) (pe_ix ix_tup (pv 0) (pe_op op_sub (pe_un un_neg pe_int) (pv 3)) (fun _ _ => rfl)) (pe_ix ix_tup (pv 1) (pe_op op_sub (pe_un un_neg pe_int) (pv 3)) (fun _ _ => rfl)) (nomark _))))) (pss_cons (ps_aug (i := 3) nd rfl (Or.inl rfl) pe_int ip_add)
    (pss_one (ps_if (pt_cmpR op_eq (pv 3) (pe_glob (v := .int 8) rfl MF ⟨_, rfl⟩) (nomark _)) (pss_cons (ps_set (i := 3) nd rfl (Or.inl rfl) (pe_H Ccommon_tail (hr.mono (by omega)) rfl (pa_cons (pv 0) (pa_cons (pv 1) (pa_cons (pv 2) pa_nil)))))
    (pss_one ps_break)) pss_nil))))
    (C8.pss_cut (ps_if (pt_cmpR op_lt (pv 3) (pv 2) (nomark _)) (pss_one (ps_set (i := 4) nd rfl (Or.inl rfl) (pe_H Ccompare (hr.mono (by omega)) rfl (pa_cons (pe_ix ix_tup (pv 0) (pe_op op_sub (pe_un un_neg pe_int) (pv 3)) (fun _ _ => rfl)) (pa_cons (pe_ix ix_tup (pv 1) (pe_op op_sub (pe_un un_neg pe_int) (pv 3)) (fun _ _ => rfl)) pa_nil))))) (pss_one (ps_if (pt_cmpR op_eq (pe_callB call_lenT (by rfl) B.len PySem.boot_len (pa_cons (pv 0) pa_nil)) (pe_callB call_lenT (by rfl) B.len PySem.boot_len (pa_cons (pv 1) pa_nil)) (nomark _)) (pss_one (ps_ret pe_int)) (pss_one (ps_set (i := 4) nd rfl (Or.inl rfl) (pe_ifExp (pt_cmpR op_eq (pv 3) (pe_callB call_lenT (by rfl) B.len PySem.boot_len (pa_cons (pv 0) pa_nil)) (nomark _)) (pe_un un_neg pe_int) pe_int))))))
    (pss_one (ps_ret (pe_ifExp (pt_truth (pe_op op_and (pe_op op_sub (pe_callB call_lenT (by rfl) B.len PySem.boot_len (pa_cons (pv 0) pa_nil)) (pv 3)) pe_int) (by intro _; rfl)) (pe_un un_neg (pv 4)) (pv 4)))))))), ?_⟩
  have lx := dps_length hd
  have ly := dps_length he
  have cl := ctail_le ds.reverse es.reverse
  have lt := lexD_tail (cmpD n) ds.reverse es.reverse
  rw [List.length_reverse, List.length_reverse] at cl lt
  rw [lt] at q
  clear lt
  obtain ⟨mo, hmo⟩ : ∃ mo : Nat, (if ((ys.length : Int) < (xs.length : Int)) then (ys.length : Int) else (xs.length : Int)) = (mo : Int) := ⟨min xs.length ys.length, by split <;> omega⟩
  have mo1 : mo ≤ ds.length ∧ mo ≤ es.length ∧ ctail ds.reverse es.reverse ≤ mo ∧ (mo = ds.length ∨ mo = es.length) := by
    rw [← lx, ← ly] at *
    split at hmo <;> omega
  obtain ⟨m1, m2, m3, m4⟩ := mo1
  refine ⟨_, rfl, a, _, rfl, hA, _, rfl, b, _, rfl, hB, _, _, rfl, ?_⟩
  rw [hmo]
  refine ⟨fun σ H1 => σ = [some (.ref a), some (.ref b), some (.int (mo : Int)), some (.int ((ctail ds.reverse es.reverse : Nat) : Int)), none] ∧ Same H H1, ?_, ?_⟩
  · refine ⟨fun m σ H' => ∃ sm : Nat, σ = [some (.ref a), some (.ref b), some (.int (mo : Int)), some (.int (sm : Int)), none] ∧ m = 8 - sm ∧ sm < 8 ∧ sm ≤ ctail ds.reverse es.reverse ∧ H' = H, ⟨8, 0, rfl, rfl, by decide, Nat.zero_le _, rfl⟩, ?_⟩
    rintro m σ H' ⟨sm, rfl, rfl, s1, s2, rfl⟩
    refine ⟨_, rfl, _, rfl, _, _, rfl, rfl, _, rfl, ?_⟩
    refine iteD (fun c1 => ?_) (fun c1 => ?_)
    · obtain ⟨vx, hvx⟩ : ∃ v, xs.reverse[sm]? = some v := ⟨_, List.getElem?_eq_getElem (by rw [List.length_reverse]; omega)⟩
      obtain ⟨vy, hvy⟩ : ∃ v, ys.reverse[sm]? = some v := ⟨_, List.getElem?_eq_getElem (by rw [List.length_reverse]; omega)⟩
      obtain ⟨dx, hdx, px⟩ := dps_get (dps_rev hd) hvx
      obtain ⟨dy, hdy, py⟩ := dps_get (dps_rev he) hvy
      have fx : Fm n dx := fd1 dx (List.mem_reverse.mp (List.mem_of_getElem? hdx))
      have fy : Fm n dy := fe1 dy (List.mem_reverse.mp (List.mem_of_getElem? hdy))
      have nx := ctail_next s2 hdx hdy
      refine ⟨_, rfl, _, rfl, _, rfl, _, _, rfl, rfl, a, _, _, _, rfl, rfl, hA, atI_end hvx, _, rfl, _, rfl, _, rfl, _, _, rfl, rfl, b, _, _, _, rfl, rfl, hB, atI_end hvy, dx, dy, px, py, shaped_fm fx hn, shaped_fm fy hn, _, rfl, ?_⟩
      refine ite2 (fun c2 => ?_) (fun c2 => ?_)
      · have h9 := nx.1 c2
        refine ⟨fun σ' H'' => ∃ sm' : Nat, σ' = [some (.ref a), some (.ref b), some (.int (mo : Int)), some (.int (sm' : Int)), none] ∧ sm' = sm + 1 ∧ sm' < 8 ∧ H'' = H', fun σ' H'' h => ?_, ?_⟩
        · obtain ⟨sm', rfl, rfl, h8, rfl⟩ := h
          exact ⟨8 - (sm + 1), by omega, sm + 1, rfl, rfl, h8, h9, rfl⟩
        · refine ⟨_, rfl, _, _, rfl, rfl, ?_⟩
          refine ⟨_, rfl, rfl, _, rfl, ?_⟩
          refine iteD (fun c3 => ?_) (fun c3 => ?_)
          · have c5 : V.int ((sm : Int) + 1) = V.int 8 := c3
            have c4 : sm + 1 = 8 := by injection c5 with c5; omega
            refine ⟨_, rfl, _, rfl, _, rfl, a, b, xs, ys, ds, es, mo, rfl, hA, hB, hd, he, fd1, fe1, m1, m2, m3, by omega, fun H1 e1 => ?_⟩
            exact ⟨rfl, e1⟩
          · have c4 : sm + 1 ≠ 8 := fun h => c3 (show V.int ((sm : Int) + 1) = V.int 8 by congr 1; omega)
            exact ⟨sm + 1, rfl, rfl, by omega, rfl⟩
      · have h9 := nx.2 c2
        exact ⟨by rw [h9], Same.refl _⟩
    · refine iteF ?_
      have h9 : ctail ds.reverse es.reverse = sm := by omega
      exact ⟨by rw [h9], Same.refl _⟩
  rintro σ H1 ⟨rfl, e1⟩
  generalize hc : ctail ds.reverse es.reverse = ct at q cl m3 ⊢
  have hA1 := (Nd.of e1).sqt hA
  have hB1 := (Nd.of e1).sqt hB
  refine ⟨fun σ H3 => ∃ v : Int, σ = [some (.ref a), some (.ref b), some (.int (mo : Int)), some (.int (ct : Int)), some (.int v)] ∧ Same H1 H3 ∧ ¬ (ct = ds.length ∧ ct = es.length) ∧ v = (if ct = ds.length then (-1 : Int) else if ct = es.length then 1 else atD (cmpD n) ds.reverse es.reverse ct), ?_, ?_⟩
  · refine ⟨_, rfl, _, rfl, _, _, rfl, rfl, _, rfl, ?_⟩
    refine iteD (fun c => ?_) (fun c => ?_)
    · have c' : ct ≠ ds.length := by omega
      have c2' : ct ≠ es.length := by omega
      obtain ⟨vx, hvx⟩ : ∃ v, xs.reverse[ct]? = some v := ⟨_, List.getElem?_eq_getElem (by rw [List.length_reverse]; omega)⟩
      obtain ⟨vy, hvy⟩ : ∃ v, ys.reverse[ct]? = some v := ⟨_, List.getElem?_eq_getElem (by rw [List.length_reverse]; omega)⟩
      obtain ⟨dx, hdx, px⟩ := dps_get (dps_rev ((Nd.of e1).ds hd)) hvx
      obtain ⟨dy, hdy, py⟩ := dps_get (dps_rev ((Nd.of e1).ds he)) hvy
      have fx : Fm n dx := fd1 dx (List.mem_reverse.mp (List.mem_of_getElem? hdx))
      have fy : Fm n dy := fe1 dy (List.mem_reverse.mp (List.mem_of_getElem? hdy))
      refine ⟨_, rfl, _, rfl, _, rfl, _, _, rfl, rfl, a, _, _, _, rfl, rfl, hA1, atI_end hvx, _, rfl, _, rfl, _, rfl, _, _, rfl, rfl, b, _, _, _, rfl, rfl, hB1, atI_end hvy, vx, vy, dx, dy, rfl, px, py, fx, fy, fun H3 e3 => ?_⟩
      exact ⟨_, rfl, e3, fun h => c' h.1, by rw [if_neg c', if_neg c2', atD_eq hdx hdy]⟩
    · refine ⟨_, rfl, a, _, rfl, hA1, _, rfl, b, _, rfl, hB1, rfl, _, rfl, ?_⟩
      refine iteD (fun c2 => ?_) (fun c2 => ?_)
      · have c2' : ds.length = es.length := by injection c2 with c2; omega
        have q' := q H1 e1
        rw [if_pos ⟨by omega, by omega⟩] at q'
        exact q'
      · have c2' : ds.length ≠ es.length := fun h => c2 (by congr 1; omega)
        refine ⟨_, rfl, _, rfl, a, _, rfl, hA1, rfl, _, rfl, ?_⟩
        refine iteD (fun c3 => ?_) (fun c3 => ?_)
        · have c3' : ct = ds.length := by injection c3 with c3; omega
          exact ⟨_, rfl, -1, rfl, Same.refl _, fun h => c2' (by omega), by rw [if_pos c3']⟩
        · have c3' : ct ≠ ds.length := fun h => c3 (by congr 1; omega)
          exact ⟨1, rfl, Same.refl _, fun h => c3' h.1, by rw [if_neg c3', if_pos (by omega)]⟩
  rintro σ H3 ⟨v, rfl, e3, hno, hv⟩
  have q' := q H3 (e1.trans e3)
  rw [if_neg hno, ← hv] at q'
  refine ⟨_, rfl, a, _, rfl, (Nd.of e3).sqt hA1, _, rfl, _, _, rfl, rfl, _, _, rfl, rfl, _, rfl, ?_⟩
  have eb : Builtin.bitAnd ((xs.length : Int) - (ct : Int)) 1 = (((ds.length - ct) % 2 : Nat) : Int) := by
    rw [PyProof.Rows.bitAnd_m1]; omega
  refine ite2 (fun c => ?_) (fun c => ?_)
  · have c' : (Builtin.bitAnd ((xs.length : Int) - (ct : Int)) 1 != 0) = true := c
    rw [eb] at c'
    have o : (ds.length - ct) % 2 = 1 := by
      have : (((ds.length - ct) % 2 : Nat) : Int) ≠ 0 := by simpa using c'
      omega
    refine ⟨_, rfl, _, rfl, ?_⟩
    unfold par at q'
    rw [if_pos o] at q'
    exact q'
  · have c' : ¬ (Builtin.bitAnd ((xs.length : Int) - (ct : Int)) 1 != 0) = true := c
    rw [eb] at c'
    have o : ¬ (ds.length - ct) % 2 = 1 := fun o => c' (by rw [o]; rfl)
    refine ⟨_, rfl, ?_⟩
    unfold par at q'
    rw [if_neg o] at q'
    exact q'
theorem ok_cmp {n : Nat} (F : Fun K "compare" "compare" S_compare f fd) (B : Blt mg) (Cis_negative : Has P w K mg base 1 "is_negative" P_is_negative [] (spNeg K))
    {spF : Sp} (hF : ∀ m, n = m + 1 → ∀ vs H Q E, spFar K m vs H Q E → spF vs H Q E) (Ccompare_far : Has P w K mg base (2 * n + 1) "compare_far" P_compare_far [] spF) :
    FnOk P w K mg base CX0 (2 * n + 2) f fd P_compare (spCmp K n) := by
  have nd := sc_compare.nd
  refine F.ok sc_compare (fun vs H Q E h => ?_) (fun cdv A outer s H vs Q E hr h => ?_)
  · obtain ⟨x, y, dx, dy, rfl, _⟩ := h
    rfl
  obtain ⟨x, y, dx, dy, rfl, hx, hy, fx, fy, q⟩ := h
  refine ⟨_, (C8.pss_cut (ps_if (PW.pt (pw_and (pt_val (pe_callB (call_isiI K) (by rfl) B.isinstance (by decide +kernel) (pa_cons (pv 0) (pa_cons (pe_bltn (by rfl) B.int (by decide +kernel) (show RelV (.ty "int") (.type "int") from rfl)) pa_nil)))) (pw_and1 (pt_val (pe_callB (call_isiI K) (by rfl) B.isinstance (by decide +kernel) (pa_cons (pv 1) (pa_cons (pe_bltn (by rfl) B.int (by decide +kernel) (show RelV (.ty "int") (.type "int") from rfl)) pa_nil))))))) (pss_cons (ps_if (pt_cmpR op_eq (pv 0) (pv 1) (nomark _)) (pss_one (ps_ret pe_int)) pss_nil)
    (pss_one (ps_ret (pe_ifExp (pt_cmpR op_lt (pv 0) (pv 1) (nomark _)) (pe_un un_neg pe_int) pe_int)))) pss_nil)
    (pss_cons (ps_set (i := 2) nd rfl (Or.inl rfl) (pe_H Cis_negative (hr.mono (by omega)) rfl (pa_cons (pv 0) pa_nil)))
    (pss_cons (ps_if (pt_cmpR op_ne (pv 2) (pe_H Cis_negative (hr.mono (by omega)) rfl (pa_cons (pv 1) pa_nil)) (nomark _)) (pss_one (ps_ret (pe_ifExp (pt_truth (pv 2) (by intro _; rfl)) (pe_un un_neg pe_int) pe_int))) pss_nil)
    (pss_cons (ps_if (pt_val (pe_callB (call_isiI K) (by rfl) B.isinstance (by decide +kernel) (pa_cons (pv 0) (pa_cons (pe_bltn (by rfl) B.int (by decide +kernel) (show RelV (.ty "int") (.type "int") from rfl)) pa_nil)))) (pss_one (ps_ret (pe_ifExp (pt_truth (pv 2) (by intro _; rfl)) pe_int (pe_un un_neg pe_int)))) pss_nil)
    (pss_cons (ps_if (pt_val (pe_callB (call_isiI K) (by rfl) B.isinstance (by decide +kernel) (pa_cons (pv 1) (pa_cons (pe_bltn (by rfl) B.int (by decide +kernel) (show RelV (.ty "int") (.type "int") from rfl)) pa_nil)))) (pss_one (ps_ret (pe_ifExp (pt_truth (pv 2) (by intro _; rfl)) (pe_un un_neg pe_int) pe_int))) pss_nil)
    (pss_one (ps_ret (pe_H Ccompare_far (hr.mono (by omega)) rfl (pa_cons (pv 0) (pa_cons (pv 1) pa_nil)))))))))), ?_⟩
  have kx : (isI dx = true ∨ isT dx = true) ∧ ∀ b, dx ≠ .bool b := fm_kind fx
  have ky : (isI dy = true ∨ isT dy = true) ∧ ∀ b, dy ≠ .bool b := fm_kind fy
  refine ⟨fun σ H1 => σ = [some x, some y, none] ∧ H1 = H ∧ ¬ (isI dx = true ∧ isI dy = true), ?_, ?_⟩
  · refine ⟨_, rfl, x, dx, rfl, hx, _, rfl, ?_⟩
    refine ite2 (fun c1 => ?_) (fun c1 => ?_)
    · refine ⟨_, rfl, y, dy, rfl, hy, _, rfl, ?_⟩
      refine ite2 (fun c2 => ?_) (fun c2 => ?_)
      · obtain ⟨i, rfl⟩ := fm_int fx c1
        obtain ⟨j, rfl⟩ := fm_int fy c2
        have ec : cmpD n (.int i) (.int j) = sgnI i j := by cases n <;> rfl
        rw [ec] at q
        cases hx
        cases hy
        refine ⟨_, rfl, _, rfl, rfl, _, rfl, ?_⟩
        refine iteD (fun c => ?_) (fun c => ?_)
        · injection c with c
          subst c
          rw [sgnI_self] at q
          exact q H (Same.refl H)
        · have c' : i ≠ j := fun h => c (by rw [h])
          refine ⟨_, rfl, _, rfl, _, _, rfl, rfl, _, rfl, ?_⟩
          refine iteD (fun c3 => ?_) (fun c3 => ?_)
          · rw [sgnI_lt c3] at q
            exact ⟨_, rfl, q H (Same.refl H)⟩
          · rw [sgnI_gt (show j < i by omega)] at q
            exact q H (Same.refl H)
      · exact ⟨rfl, rfl, fun h => c2 h.2⟩
    · exact iteF ⟨rfl, rfl, fun h => c1 h.1⟩
  rintro σ H1 ⟨rfl, rfl, hno⟩
  refine ⟨_, rfl, x, dx, rfl, hx, kx.1, kx.2, fun H2 e2 => ?_⟩
  refine ⟨_, rfl, _, rfl, y, dy, rfl, (Nd.of e2).d hy, ky.1, ky.2, fun H3 e3 => ?_⟩
  have e23 := e2.trans e3
  have hx3 := (Nd.of e23).d hx
  have hy3 := (Nd.of e23).d hy
  cases n with
  | zero =>
    obtain ⟨i, rfl⟩ := fx
    obtain ⟨j, rfl⟩ := fy
    exact absurd ⟨rfl, rfl⟩ hno
  | succ k =>
  refine ⟨rfl, _, rfl, ?_⟩
  refine iteDN (fun c => ?_) (fun c => ?_)
  · have c' : negD dx ≠ negD dy := fun h => c (by rw [h])
    rw [cmp_ne fx fy hno c'] at q
    refine ⟨_, rfl, _, rfl, ?_⟩
    refine ite2 (fun c2 => ?_) (fun c2 => ?_)
    · rw [if_pos c2] at q; exact ⟨_, rfl, q H3 e23⟩
    · rw [if_neg c2] at q; exact q H3 e23
  · have c' : negD dx = negD dy := by injection c
    refine ⟨_, rfl, x, dx, rfl, hx3, _, rfl, ?_⟩
    refine ite2 (fun c1 => ?_) (fun c1 => ?_)
    · rw [cmp_ix fx fy hno c' c1] at q
      refine ⟨_, rfl, _, rfl, ?_⟩
      refine ite2 (fun c2 => ?_) (fun c2 => ?_)
      · rw [if_pos c2] at q; exact q H3 e23
      · rw [if_neg c2] at q; exact ⟨_, rfl, q H3 e23⟩
    · refine ⟨_, rfl, y, dy, rfl, hy3, _, rfl, ?_⟩
      refine ite2 (fun c3 => ?_) (fun c3 => ?_)
      · rw [cmp_iy fx fy hno c' c1 c3] at q
        refine ⟨_, rfl, _, rfl, ?_⟩
        refine ite2 (fun c2 => ?_) (fun c2 => ?_)
        · rw [if_pos c2] at q; exact ⟨_, rfl, q H3 e23⟩
        · rw [if_neg c2] at q; exact q H3 e23
      · obtain ⟨xs, rfl, _, fxs⟩ := fm_tup fx c1
        obtain ⟨ys, rfl, _, fys⟩ := fm_tup fy c3
        have ec : cmpD (k + 1) (.tuple xs) (.tuple ys) = lexD (cmpD k) xs.reverse ys.reverse := if_pos c'
        rw [ec] at q
        cases hx3 with
        | @tup a vx _ hA hd =>
        cases hy3 with
        | @tup b vy _ hB he =>
        exact ⟨_, rfl, _, rfl, hF k rfl _ _ _ _ ⟨a, b, vx, vy, xs, ys, rfl, hA, hB, hd, he, fxs, fys, fun H4 e4 => q H4 (e23.trans e4)⟩⟩
/-- both, by induction -/
theorem ok_order {n : Nat} {tk : Tok} (FC : Fun K "compare" "compare" S_compare f fd) (bC : Binds K fd P_compare []) (mC : mg "compare" = some (.ref f)) {g : Addr} {gd : FuncData} (FF : Fun K "compare_far" "compare_far" S_compare_far g gd) (bF : Binds K gd P_compare_far []) (mF : mg "compare_far" = some (.ref g)) (B : Blt mg)
    (Cis_negative : Has P w K mg base 1 "is_negative" P_is_negative [] (spNeg K)) {t : Addr} {td : FuncData} (FT : Fun K "common_tail" "common_tail" S_common_tail t td) (bT : Binds K td P_common_tail []) (mT : mg "common_tail" = some (.ref t)) (MF : mg "FEW_TURNS" = some (.int 8 tk)) (hn : n ≤ 40) :
    FnOk P w K mg base CX0 (2 * n + 2) f fd P_compare (spCmp K n) := by
  induction n with
  | zero => exact ok_cmp FC B Cis_negative (spF := fun _ _ _ _ => False) (fun m h => by cases h) ⟨g, gd, [], fnok_no, FF.kp, mF, .nil, bF⟩
  | succ n ih =>
    have h1 := ih (by omega)
    have CT : Has P w K mg base 1 "common_tail" P_common_tail [] (spTail K n) := ⟨t, td, [], ok_tail (by omega) FT B MF, FT.kp, mT, .nil, bT⟩
    have h2 := ok_far (by omega) FF B MF CT ⟨f, fd, [], h1, FC.kp, mC, .nil, bC⟩
    exact ok_cmp FC B Cis_negative (spF := spFar K n) (fun m h vs H Q E k => by cases h; exact k) ⟨g, gd, [], h2.mono (by omega), FF.kp, mF, .nil, bF⟩
theorem ok_compare_far {n : Nat} {tk : Tok} {c : Addr} {cd : FuncData} (FC : Fun K "compare" "compare" S_compare c cd) (bC : Binds K cd P_compare []) (mC : mg "compare" = some (.ref c)) (FF : Fun K "compare_far" "compare_far" S_compare_far f fd) (bF : Binds K fd P_compare_far []) (mF : mg "compare_far" = some (.ref f)) (B : Blt mg)
    (Cis_negative : Has P w K mg base 1 "is_negative" P_is_negative [] (spNeg K)) {t : Addr} {td : FuncData} (FT : Fun K "common_tail" "common_tail" S_common_tail t td) (bT : Binds K td P_common_tail []) (mT : mg "common_tail" = some (.ref t)) (MF : mg "FEW_TURNS" = some (.int 8 tk)) (hn : n ≤ 40) :
    FnOk P w K mg base CX0 (2 * n + 3) f fd P_compare_far (spFar K n) :=
  ok_far hn FF B MF ⟨t, td, [], ok_tail hn FT B MF, FT.kp, mT, .nil, bT⟩ ⟨c, cd, [], ok_order FC bC mC FF bF mF B Cis_negative FT bT mT MF hn, FC.kp, mC, .nil, bC⟩
end
end Fb
namespace Fb
open PySem L2
section
variable {P : Program} {w : World} {K : PySem.W.Frag} {mg : Str → Option Value} {base : Heap} {f : Addr} {fd : FuncData}
/-- a count of the tree v by g, all else as it was -/
def spCount (K : PySem.W.Frag) (g : Nat → PyData → Int) : Nat → Sp
  | 0 => fun _ _ _ _ => False
  | n + 1 => fun vs H Q _ => ∃ (v : V) (d : PyData), vs = [v] ∧ Dp K H v d ∧ Fm n d ∧ ∀ H' : Hp, Same H H' → Q (.int (g n d)) H'
def spHeight (K : PySem.W.Frag) : Nat → Sp
  | 0 => fun _ _ _ _ => False
  | n + 1 => fun vs H Q _ => ∃ (v : V) (d : PyData), vs = [v] ∧ Dp K H v d ∧ Fm n d ∧ Ne n d ∧ ∀ H' : Hp, Same H H' → Q (.int (ht n d)) H'
def spLevels (K : PySem.W.Frag) (n : Nat) : Sp := fun vs H Q _ => ∃ (v : V) (d : PyData), vs = [v] ∧ Dp K H v d ∧ Fm n d ∧ Sp_ n d ∧ ∀ H' : Hp, Same H H' → Q (.int (lv n d)) H'
end
end Fb
namespace Fb
open PySem L2
section
variable {P : Program} {w : World} {K : PySem.W.Frag} {mg : Str → Option Value} {base : Heap} {f : Addr} {fd : FuncData}
abbrev S__law_draw : Stmt := top 18
abbrev N__law_draw : List Str := ["_law_tape", "_law_limit", "_law_at", "_law_span", "_law_cell", "_law_mixed", "_law_found"]
abbrev P__law_draw : List Str := ["_law_tape", "_law_limit"]
theorem sc__law_draw : FnScope N__law_draw P__law_draw (defScope S__law_draw) := ⟨rfl, rfl, rfl, by decide +kernel, rfl, by decide +kernel, by decide +kernel⟩
theorem ok_draw (F : Fun K "_law_draw" "_law_draw" S__law_draw f fd) (B : Blt mg) : FnOk P w K mg base CX0 1 f fd P__law_draw (spDraw K) := by
  have nd := sc__law_draw.nd
  refine F.ok sc__law_draw (fun vs H Q E h => ?_) (fun cdv A outer s H vs Q E hr h => ?_)
  · obtain ⟨τ, lim, n, rfl, _⟩ := h
    rfl
  obtain ⟨⟨t, c, cs⟩, lim, n, rfl, hT, h0, h9, q⟩ := h
  refine ⟨_, (C8.pss_cut (ps_if (pt_cmpR op_lt (pe_dget (hu_of hr) (pv 0) pe_str (fun _ _ => rfl)) (pv 1) (nomark _)) (pss_cons (ps_par (i := 2) (j := 3) (by rfl) nd rfl rfl (by decide) rfl rfl (pa_cons (pe_dget (hu_of hr) (pv 0) pe_str (fun _ _ => rfl)) (pa_cons (pe_callB call_lenL (by rfl) B.len PySem.boot_len (pa_cons (pe_dget (hu_of hr) (pv 0) pe_str (fun _ _ => rfl)) pa_nil)) pa_nil)) (by rfl))
    (pss_cons (ps_asg (pe_tup (pa_cons (pe_ix ix_list (pe_dget (hu_of hr) (pv 0) pe_str (fun _ _ => rfl)) (pe_op op_modN (pe_callTy call_intI (by rfl) B.int (by decide +kernel) (pa_cons (pv 2) pa_nil)) (pv 3)) (fun _ _ => rfl)) (pa_cons (pe_op op_add (pv 2) pe_int) pa_nil))) (pg_tup rfl (pgs_cons (pg_name (i := 4) nd rfl (Or.inl rfl)) (pgs_cons (pg_sub (pv 0) pe_str (set_dict (hu_of hr))) pgs_nil))))
    (pss_cons (ps_set (i := 5) nd rfl (Or.inl rfl) (pe_op op_add (pe_op op_add (pe_op op_modN (pe_callTy call_intI (by rfl) B.int (by decide +kernel) (pa_cons (pv 4) pa_nil)) pe_int) (pe_op op_mul pe_int (pv 2))) pe_int))
    (pss_cons (ps_dput (hu_of hr) (pv 0) pe_str (pe_op op_modN (pe_callTy call_intI (by rfl) B.int (by decide +kernel) (pa_cons (pe_op op_add (pe_op op_pow (pv 5) pe_int) (pe_op op_mul (pe_op op_mul pe_int (pv 2)) (pv 2))) pa_nil)) (pe_op op_add (pe_op op_pow pe_int pe_int) pe_int)) rfl)
    (pss_one (ps_if (PW.pt (pw_and (pt_cmpR op_ge (pv 4) (pe_op op_pow pe_int pe_int) (nomark _)) (pw_and1 (pt_cmpR op_lt (pv 2) (pv 3) (nomark _))))) (pss_one (ps_dput (hu_of hr) (pv 0) pe_str (pe_op op_sub (pv 4) (pe_op op_pow pe_int pe_int)) rfl)) pss_nil)))))) pss_nil)
    (pss_cons (ps_asg (pe_tup (pa_cons (pe_op op_modN (pe_callTy call_intI (by rfl) B.int (by decide +kernel) (pa_cons (pe_dget (hu_of hr) (pv 0) pe_str (fun _ _ => rfl)) pa_nil)) (pv 1)) (pa_cons (pe_op op_fdivW (pe_dget (hu_of hr) (pv 0) pe_str (fun _ _ => rfl)) (pv 1)) pa_nil))) (pg_tup rfl (pgs_cons (pg_name (i := 6) nd rfl (Or.inl rfl)) (pgs_cons (pg_sub (pv 0) pe_str (set_dict (hu_of hr))) pgs_nil))))
    (pss_one (ps_ret (pv 6))))), ?_⟩
  obtain ⟨a, r, ts, h3, h4, h5, h6, h7⟩ := hT
  replace ts : TS K t c cs a r H := ts
  replace h3 : cs ≠ [] := h3
  have hpos : 0 < cs.length := List.length_pos_iff.mpr h3
  have hlen : ((cs.map V.int).length : Int) = cs.length := by rw [List.length_map]
  refine ⟨fun σ H1 => σ[0]? = some (some (.ref t)) ∧ σ[1]? = some (some (.int lim)) ∧ σ.length = 7 ∧ Nd H H1 ∧ ∃ a' r', TS K t c cs a' r' H1 ∧ 0 ≤ a' ∧ a' ≤ a + 1 ∧ 0 ≤ r', ?_, ?_⟩
  · refine ⟨_, rfl, _, _, rfl, ts.rest, _, rfl, _, _, rfl, rfl, _, rfl, ?_⟩
    refine iteD (fun c1 => ?_) (fun c1 => ?_)
    · refine ⟨_, rfl, _, _, rfl, ts.at_, _, rfl, _, _, rfl, ts.cells, _, _, rfl, ts.s, _, _, rfl, ?_⟩
      obtain ⟨v, hv, hm⟩ := atI_mod (k := a) (by simpa using h3 : cs.map V.int ≠ [])
      obtain ⟨z, hz, rfl⟩ := List.mem_map.mp hm
      refine ⟨_, rfl, _, _, rfl, ts.cells, _, rfl, _, rfl, _, rfl, _, _, rfl, rfl, (by omega), _, _, _, _, rfl, rfl, ts.s, hv, _, rfl, _, _, rfl, rfl, (by show 2 ≤ sizeLine; decide), fun p1 np1 => ?_⟩
      have ts1 := ts.new (o := .tup [.int z, .int (a + 1)]) np1
      refine ⟨_, _, rfl, SqT.of upd_same, rfl, _, _, rfl, _, _, rfl, _, rfl, _, _, rfl, ts1.pat, rfl, ?_⟩
      have ts2 := ts1.put (b := a + 1) (u := r)
      have ex2 : Nd H _ := (Nd.new (o := .tup [.int z, .int (a + 1)]) np1).trans (Nd.tape (o := .dK (tp c (a + 1) r)) ts1.d)
      generalize upd (upd H p1 _) t _ = H2 at ts2 ex2 ⊢
      have m0 : 0 ≤ z.fmod 2305843009213693921 := Int.fmod_nonneg_of_pos _ (by omega)
      have m1 : z.fmod 2305843009213693921 < 2305843009213693921 := Int.fmod_lt_of_pos _ (by omega)
      refine ⟨_, rfl, _, rfl, _, _, rfl, rfl, (by show _ ≠ (0:Int); decide), _, rfl, _, _, rfl, rfl, .inl ⟨by omega, by omega⟩, _, _, rfl, rfl, _, _, rfl, rfl, ?_⟩
      refine ⟨_, rfl, _, _, rfl, rfl, ⟨by omega, by omega, by omega⟩, _, rfl, _, _, rfl, rfl, .inl ⟨by omega, by omega⟩, _, rfl, _, _, rfl, rfl, .inl ⟨by omega, by omega⟩, _, _, rfl, rfl, _, rfl, _, _, rfl, rfl, (by unfold CPow; decide), _, _, rfl, rfl, _, _, rfl, rfl, (by show _ ≠ (0:Int); decide), _, rfl, _, _, rfl, ts2.prest, ?_⟩
      have ts3 := ts2.put (b := a + 1) (u := Int.fmod ((z.fmod 2305843009213693921 + 50119 * a + 23911) ^ (13 : Int).toNat + 91 * a * a) ((10 : Int) ^ (48 : Int).toNat + 193))
      have ex3 := ex2.trans (Nd.tape (o := .dK (tp c (a + 1) (Int.fmod ((z.fmod 2305843009213693921 + 50119 * a + 23911) ^ (13 : Int).toNat + 91 * a * a) ((10 : Int) ^ (48 : Int).toNat + 193)))) ts2.d)
      have nn : 0 ≤ Int.fmod ((z.fmod 2305843009213693921 + 50119 * a + 23911) ^ (13 : Int).toNat + 91 * a * a) ((10 : Int) ^ (48 : Int).toNat + 193) := Int.fmod_nonneg_of_pos _ (by decide +kernel)
      generalize Int.fmod ((z.fmod 2305843009213693921 + 50119 * a + 23911) ^ (13 : Int).toNat + 91 * a * a) ((10 : Int) ^ (48 : Int).toNat + 193) = u3 at ts3 ex3 nn ⊢
      generalize upd H2 t _ = H3 at ts3 ex3 ⊢
      refine ⟨_, rfl, _, _, rfl, rfl, (by unfold CPow; decide), _, _, rfl, rfl, _, rfl, ?_⟩
      refine iteD (fun c2 => ?_) (fun c2 => ?_)
      · refine ⟨_, rfl, _, rfl, _, _, rfl, rfl, _, rfl, ?_⟩
        refine iteD (fun c3 => ?_) (fun c3 => ?_)
        · refine ⟨_, rfl, _, _, rfl, rfl, (by unfold CPow; decide), _, _, rfl, rfl, _, rfl, _, _, rfl, ts3.prest, ?_⟩
          exact ⟨rfl, rfl, rfl, ex3.trans (Nd.tape ts3.d), _, _, ts3.put, by omega, by omega, by omega⟩
        · exact ⟨rfl, rfl, rfl, ex3, _, _, ts3, by omega, by omega, nn⟩
      · refine iteF ?_
        exact ⟨rfl, rfl, rfl, ex3, _, _, ts3, by omega, by omega, nn⟩
    · exact ⟨rfl, rfl, rfl, Nd.refl _, _, _, ts, h5, by omega, h7⟩
  rintro σ H1 ⟨s0, s1, s7, ex, a', r', ts, ha0, ha1, hr0⟩
  refine ⟨_, s0, _, _, rfl, ts.rest, _, rfl, _, s1, _, _, rfl, rfl, (by omega), _, s0, _, _, rfl, ts.rest, _, s1, _, _, rfl, rfl, div_BigL h0 h9, (by show 2 ≤ sizeLine; decide), fun p2 np2 => ?_⟩
  have ts1 := ts.new (o := .tup [.int (r'.fmod lim), .int (r' / lim)]) np2
  have s0' : (σ.set 6 (some (V.int (r'.fmod lim))))[0]? = some (some (.ref t)) := by rw [List.getElem?_set_ne (by decide)]; exact s0
  refine ⟨_, _, rfl, SqT.of upd_same, rfl, _, _, rfl, _, _, rfl, _, s0', _, _, rfl, ts1.prest, rfl, ?_⟩
  have s6 : (σ.set 6 (some (V.int (r'.fmod lim))))[6]? = some (some (V.int (r'.fmod lim))) := by rw [List.getElem?_set_self (by omega)]
  refine ⟨_, s6, ?_⟩
  have ts2 := ts1.put (b := a') (u := r' / lim)
  refine q _ _ (ex.trans ((Nd.new np2).trans (Nd.tape ts1.d))) ⟨a', r' / lim, ts2, h3, h4, ha0, by omega, Int.ediv_nonneg hr0 (by omega)⟩ (Int.fmod_nonneg_of_pos _ h0) (Int.fmod_lt_of_pos _ h0)
abbrev S__law_begin : Stmt := top 17
abbrev N__law_begin : List Str := ["_law_script"]
abbrev P__law_begin : List Str := ["_law_script"]
theorem sc__law_begin : FnScope N__law_begin P__law_begin (defScope S__law_begin) := ⟨rfl, rfl, rfl, by decide +kernel, rfl, by decide +kernel, by decide +kernel⟩
def spBegin (K : PySem.W.Frag) : Sp := fun vs H Q _ => ∃ (a : Addr) (ns : List Int), vs = [.ref a] ∧ SqL K H a (ns.map V.int) ∧ ns.length ≤ 63 ∧ ∀ (τ : Tp) (H' : Hp), Same H H' → Tape K τ (2 ^ 39) H' → Q (.ref τ.t) H'
theorem ok_begin (F : Fun K "_law_begin" "_law_begin" S__law_begin f fd) : FnOk P w K mg base CX0 1 f fd P__law_begin (spBegin K) := by
  have nd := sc__law_begin.nd
  refine F.ok sc__law_begin (fun vs H Q E h => ?_) (fun cdv A outer s H vs Q E hr h => ?_)
  · obtain ⟨a, ns, rfl, _⟩ := h
    rfl
  obtain ⟨a, ns, rfl, hS, h63, q⟩ := h
  refine ⟨_, (pss_one (ps_ret (pe_disp (pps_cons pe_str (pe_orT (pe_slice sl_list (pv 0) po_none (po_some pe_int)) (pe_one (pe_lst (pa_cons pe_int pa_nil)))) (pps_cons pe_str pe_int (pps_cons pe_str pe_int pps_nil))) (by rfl) (by rfl) (fun z => by cases z) (by decide)))), ?_⟩
  refine fun p np => ?_
  have g0 : Same H (upd H p (.dK [])) := Same.new np
  refine ⟨_, rfl, _, rfl, _, _, rfl, g0.seq hS, fun l nl => ?_⟩
  have nlp : p ≠ l := by rintro rfl; rw [upd_same] at nl; cases nl
  have ec : ∃ cs : List Int, cutV (ns.map V.int) none (some 63) = cs.map V.int ∧ cs.length ≤ 63 := by
    unfold cutV
    rw [← List.map_drop, ← List.map_take]
    exact ⟨_, rfl, by rw [List.length_take, List.length_drop]; omega⟩
  obtain ⟨cs, ecs, lcs⟩ := ec
  rw [ecs]
  have fin : ∀ (c : Addr) (zs : List Int) (H2 : Hp), Same H H2 → H2 p = some (.dK []) → H2 c = some (.lst (zs.map V.int)) → zs ≠ [] → zs.length ≤ 63 → Q (.ref p) (upd H2 p (.dK (tp c 0 0))) := fun c zs H2 g e1 e2 n0 n1 => by
    have hn : c ≠ p := by rintro rfl; rw [e1] at e2; cases e2
    refine q ⟨p, c, zs⟩ _ (Same.mut g np) ⟨0, 0, ⟨upd_same, SqL.of (by rw [upd_ne hn]; exact e2)⟩, n0, n1, Int.le_refl _, by decide, Int.le_refl _⟩
  have g1 : Same H (upd (upd H p (.dK [])) l (.lst (cs.map V.int))) := Same.mut g0 (g0.free nl)
  by_cases hz : cs = []
  · subst hz
    refine ⟨false, .inl ⟨_, SqL.of upd_same, rfl⟩, iteF ?_⟩
    refine ⟨(by show 1 ≤ sizeLine; decide), fun l2 nl2 => ?_⟩
    have ep : (upd (upd H p (.dK [])) l (.lst (List.map V.int []))) p = some (.dK []) := by rw [upd_ne nlp, upd_same]
    have nlp2 : p ≠ l2 := by rintro rfl; rw [ep] at nl2; cases nl2
    refine ⟨(by rw [upd_ne nlp2]; exact ep), [(.inr "cells", .ref l2), (.inr "at", .int 0), (.inr "rest", .int 0)], rfl, (by show 3 ≤ 15; decide), ?_⟩
    exact fin l2 [0] _ (Same.mut g1 (g1.free nl2)) (by rw [upd_ne nlp2]; exact ep) upd_same (by decide) (by decide)
  · refine ⟨true, .inl ⟨_, SqL.of upd_same, ?_⟩, iteT ?_⟩
    · cases cs with
      | nil => exact absurd rfl hz
      | cons z zs => rfl
    have ep : (upd (upd H p (.dK [])) l (.lst (cs.map V.int))) p = some (.dK []) := by rw [upd_ne nlp, upd_same]
    refine ⟨ep, [(.inr "cells", .ref l), (.inr "at", .int 0), (.inr "rest", .int 0)], rfl, (by show 3 ≤ 15; decide), ?_⟩
    exact fin l cs _ g1 ep upd_same hz lcs
abbrev S__law_pick : Stmt := top 19
abbrev N__law_pick : List Str := ["_law_tape", "_law_some"]
abbrev P__law_pick : List Str := ["_law_tape", "_law_some"]
theorem sc__law_pick : FnScope N__law_pick P__law_pick (defScope S__law_pick) := ⟨rfl, rfl, rfl, by decide +kernel, rfl, by decide +kernel, by decide +kernel⟩
def spPick (K : PySem.W.Frag) : Sp := fun vs H Q _ => ∃ (τ : Tp) (l : Addr) (xs : List V) (n : Nat), vs = [.ref τ.t, .ref l] ∧ SqL K H l xs ∧ xs ≠ [] ∧ xs.length ≤ 100000 ∧ Tape K τ (n + 1) H ∧ ∀ (x : V) (i : Nat) (H' : Hp), Nd H H' → Tape K τ n H' → xs[i]? = some x → Q x H'
theorem ok_pick (F : Fun K "_law_pick" "_law_pick" S__law_pick f fd) (B : Blt mg) (C_law_draw : Has P w K mg base 1 "_law_draw" P__law_draw [] (spDraw K)) : FnOk P w K mg base CX0 2 f fd P__law_pick (spPick K) := by
  have nd := sc__law_pick.nd
  refine F.ok sc__law_pick (fun vs H Q E h => ?_) (fun cdv A outer s H vs Q E hr h => ?_)
  · obtain ⟨t, l, xs, n, rfl, _⟩ := h
    rfl
  obtain ⟨t, l, xs, n, rfl, hS, h0, h1, hT, q⟩ := h
  refine ⟨_, (pss_one (ps_ret (pe_ix ix_list (pv 1) (pe_H C_law_draw (hr.mono (by decide)) rfl (pa_cons (pv 0) (pa_cons (pe_callB call_lenL (by rfl) B.len PySem.boot_len (pa_cons (pv 1) pa_nil)) pa_nil))) (fun _ _ => rfl)))), ?_⟩
  have hp : 0 < xs.length := List.length_pos_iff.mpr h0
  refine ⟨_, rfl, _, rfl, _, rfl, _, _, rfl, hS, t, _, n, rfl, hT, (by omega), lt_BigL (by omega), fun d H' e hT' d0 d1 => ?_⟩
  obtain ⟨j, rfl⟩ := Int.eq_ofNat_of_zero_le d0
  have hj : j < xs.length := by omega
  refine ⟨_, _, _, _, rfl, rfl, e.sql hS, atI_nat (List.getElem?_eq_getElem hj), ?_⟩
  exact q _ j _ e hT' (List.getElem?_eq_getElem hj)
/-! ### turns, ints, forms -/
abbrev S__law_turns : Stmt := top 20
abbrev N__law_turns : List Str := ["_law_number", "_law_marks", "_law_found", "_law_low"]
abbrev P__law_turns : List Str := ["_law_number"]
theorem sc__law_turns : FnScope N__law_turns P__law_turns (defScope S__law_turns) := ⟨rfl, rfl, rfl, by decide +kernel, rfl, by decide +kernel, by decide +kernel⟩
def spTurns : Sp := fun vs H Q _ => ∃ x : Int, vs = [.int x] ∧ InB x ∧ ∀ (p : Addr) (H' : Hp), Same H H' → H p = none → H' p = some (.lst (nI (turnsN x))) → Q (.ref p) H'
theorem ok_turns (F : Fun K "_law_turns" "_law_turns" S__law_turns f fd) : FnOk P w K mg base CX0 1 f fd P__law_turns spTurns := by
  have nd := sc__law_turns.nd
  refine F.ok sc__law_turns (fun vs H Q E h => ?_) (fun cdv A outer s H vs Q E hr h => ?_)
  · obtain ⟨x, rfl, _⟩ := h
    rfl
  obtain ⟨x, rfl, hx, q⟩ := h
  refine ⟨_, (pss_cons (ps_par (i := 1) (j := 2) (by rfl) nd rfl rfl (by decide) rfl rfl (pa_cons (pe_op op_xor (pv 0) (pe_op op_mul (pv 0) pe_int)) (pa_cons (pe_lst pa_nil) pa_nil)) (by rfl))
    (pss_cons (ps_while PassesOwn.never (pt_cmpR op_ne (pv 1) pe_int (nomark _)) (pss_cons (ps_set (i := 3) nd rfl (Or.inl rfl) (pe_op op_and (pv 1) (pe_un un_neg (pv 1))))
    (pss_cons (ps_expr (pe_bm PySem.F.plainAttrs_list PySem.F.slot_list_append PySem.F.type_list_append mt_append (pv 2) (pa_cons (pe_op op_sub (pe_bits (pv 3)) pe_int) pa_nil)))
    (pss_one (ps_set (i := 1) nd rfl (Or.inl rfl) (pe_op op_sub (pv 1) (pv 3)))))))
    (pss_one (ps_ret (pv 2))))), ?_⟩
  refine ⟨_, rfl, _, rfl, _, _, rfl, rfl, .inr ⟨by decide, by decide⟩, _, _, rfl, rfl, (by show 0 ≤ sizeLine; decide), fun p np => ?_⟩
  refine ⟨_, _, rfl, ?_⟩
  refine ⟨fun m σ H' => ∃ (z : Option V) (done : List Nat), σ = [some (.int x), some (.int (m : Int)), some (.ref p), z] ∧ H' p = some (.lst (nI done)) ∧ done ++ ones m = turnsN x ∧ Same H H', ⟨marks x, _, [], (by rw [← marks_val x]; rfl), upd_same, rfl, Same.new np⟩, ?_⟩
  rintro m σ H' ⟨z, done, rfl, hp, hd, e⟩
  refine ⟨_, rfl, rfl, _, rfl, ?_⟩
  refine iteDN (fun c => ?_) (fun c => ?_)
  · have hm : m ≠ 0 := fun h => c (by rw [h]; rfl)
    obtain ⟨k, k1, k2, k3⟩ := marks_low hm
    refine ⟨fun σ' H'' => ∃ (z : Option V) (done : List Nat), σ' = [some (.int x), some (.int ((m - 2 ^ k : Nat) : Int)), some (.ref p), z] ∧ H'' p = some (.lst (nI done)) ∧ done ++ ones (m - 2 ^ k) = turnsN x ∧ Same H H'', fun σ' H'' h => ⟨m - 2 ^ k, Nat.sub_lt (by omega) (Nat.two_pow_pos k), h⟩, ?_⟩
    refine ⟨_, rfl, _, rfl, _, rfl, _, _, rfl, rfl, ?_⟩
    have hb : (Builtin.Int.intBits (Builtin.bitAnd (m : Int) (-(m : Int))) : Int) - 1 = k := by
      rw [k1]
      unfold Builtin.Int.intBits
      have h0 : ((2 : Int) ^ k == 0) = false := beq_false_of_ne (Int.ne_of_gt (Int.pow_pos (by decide)))
      rw [h0]
      have h1 : ((2 : Int) ^ k).natAbs = 2 ^ k := by rw [Int.natAbs_pow]; rfl
      rw [h1, Nat.log2_two_pow]
      simp
    have hlen : (nI done).length < sizeLine := by
      have h1 := turns_len (n := 600000) hx.1 hx.2
      rw [← hd, List.length_append] at h1
      unfold nI
      rw [List.length_map]
      exact Nat.lt_of_le_of_lt (show done.length ≤ 600001 by omega) (by decide)
    refine ⟨_, rfl, .inl ⟨rfl, _, SqL.of hp⟩, _, rfl, _, rfl, _, _, rfl, rfl, p, _, _, rfl, rfl, hp, hlen, ?_⟩
    refine ⟨_, rfl, _, rfl, _, _, rfl, rfl, ?_⟩
    have hc : (m : Int) - Builtin.bitAnd (m : Int) (-(m : Int)) = ((m - 2 ^ k : Nat) : Int) := by
      rw [k1]
      have h2 : ((2 ^ k : Nat) : Int) = (2 : Int) ^ k := Int.natCast_pow 2 k
      omega
    refine ⟨some (.int (Builtin.bitAnd (m : Int) (-(m : Int)))), done ++ [k], by rw [← hc]; rfl, ?_, ?_, Same.mut e np⟩
    · rw [upd_same]
      show some (HO.lst (nI done ++ [V.int ((Builtin.Int.intBits (Builtin.bitAnd (m : Int) (-(m : Int))) : Int) - 1)])) = _
      rw [hb]
      unfold nI
      rw [List.map_append]
      rfl
    · rw [List.append_assoc, ← hd, k3]
      rfl
  · have hm : m = 0 := by injection c with c; omega
    subst hm
    rw [ones_zero, List.append_nil] at hd
    subst hd
    exact ⟨_, rfl, q p H' e np hp⟩
abbrev S__law_int : Stmt := top 21
abbrev N__law_int : List Str := ["_law_places", "_law_total", "_law_sign", "_law_turn"]
abbrev P__law_int : List Str := ["_law_places"]
theorem sc__law_int : FnScope N__law_int P__law_int (defScope S__law_int) := ⟨rfl, rfl, rfl, by decide +kernel, rfl, by decide +kernel, by decide +kernel⟩
def spInt (K : PySem.W.Frag) : Sp := fun vs H Q _ => ∃ (a : Addr) (ns : List Nat), vs = [.ref a] ∧ SqL K H a (nI ns) ∧ (∀ n ∈ ns, n ≤ 10000) ∧ ∀ H' : Hp, Same H H' → Q (.int (alt (-1) ns)) H'
theorem ok_int (F : Fun K "_law_int" "_law_int" S__law_int f fd) : FnOk P w K mg base CX0 1 f fd P__law_int (spInt K) := by
  have nd := sc__law_int.nd
  refine F.ok sc__law_int (fun vs H Q E h => ?_) (fun cdv A outer s H vs Q E hr h => ?_)
  · obtain ⟨a, ns, rfl, _⟩ := h
    rfl
  obtain ⟨a, ns, rfl, hS, hn, q⟩ := h
  refine ⟨_, (pss_cons (ps_asg (pe_tup (pa_cons pe_int (pa_cons (pe_un un_neg pe_int) pa_nil))) (pg_tup rfl (pgs_cons (pg_name (i := 1) nd rfl (Or.inl rfl)) (pgs_cons (pg_name (i := 2) nd rfl (Or.inl rfl)) pgs_nil))))
    (pss_cons (ps_for PassesOwn.never rfl (pi_list (pv 0)) (pg_name (i := 3) nd rfl (Or.inl rfl)) (pss_one (ps_par (i := 1) (j := 2) (by rfl) nd rfl rfl (by decide) rfl rfl (pa_cons (pe_op op_add (pv 1) (pe_op op_mul (pv 2) (pe_op op_shl pe_int (pv 3)))) (pa_cons (pe_un un_neg (pv 2)) pa_nil)) (by rfl))))
    (pss_one (ps_ret (pv 1))))), ?_⟩
  refine ⟨_, rfl, (by show 2 ≤ sizeLine; decide), fun p np => ?_⟩
  have g0 : Same H (upd H p (.tup [.int 0, .int (-1)])) := Same.new np
  have hS0 := hS
  replace hS := g0.seq hS
  refine ⟨_, _, rfl, SqT.of upd_same, rfl, _, _, rfl, _, _, rfl, rfl, ?_⟩
  generalize upd H p _ = H0 at g0 hS ⊢
  refine ⟨_, rfl, _, rfl, ⟨_, hS⟩, ?_⟩
  refine for_list (xs := nI ns) (fun i σ H' => ∃ (tot sg : Int) (z : Option V), σ = [some (.ref a), some (.int tot), some (.int sg), z] ∧ (sg = 1 ∨ sg = -1) ∧ tot + alt sg (ns.drop i) = alt (-1) ns ∧ H' = H0)
    ⟨0, -1, _, rfl, .inr rfl, by rw [List.drop_zero]; omega, rfl⟩ (fun i σ H' _ p => ?_) (fun i x σ H' hx p => ?_) (fun σ H' p => ?_)
  · obtain ⟨_, _, _, _, _, _, rfl⟩ := p
    exact hS
  · obtain ⟨tot, sg, z, rfl, hsg, ht, rfl⟩ := p
    unfold nI at hx
    rw [List.getElem?_map] at hx
    obtain ⟨n, hn1, rfl⟩ := Option.map_eq_some_iff.mp hx
    have hi : i < ns.length := (List.getElem?_eq_some_iff.mp hn1).1
    have ed : ns.drop i = n :: ns.drop (i + 1) := by
      rw [List.drop_eq_getElem_cons hi]
      rw [List.getElem?_eq_getElem hi] at hn1
      injection hn1 with h; rw [h]
    have hb := hn n (List.mem_of_getElem? hn1)
    refine ⟨_, rfl, _, rfl, _, rfl, _, _, rfl, rfl, ⟨by omega, by omega, by decide⟩, _, _, rfl, rfl, .inl ⟨by omega, by omega⟩, _, _, rfl, rfl, _, rfl, _, rfl, _, _, rfl, ?_⟩
    refine ⟨_, -sg, _, rfl, by omega, ?_, rfl⟩
    rw [ed] at ht
    have ht' : tot + (sg * 2 ^ n + alt (-sg) (ns.drop (i + 1))) = alt (-1) ns := ht
    rw [show ((n : Int)).toNat = n from rfl, Int.one_mul]
    omega
  · obtain ⟨tot, sg, z, rfl, hsg, ht, rfl⟩ := p
    refine ⟨_, rfl, ?_⟩
    have e0 : alt sg (ns.drop (nI ns).length) = 0 := by
      unfold nI
      rw [List.length_map, List.drop_length]
      rfl
    rw [e0, Int.add_zero] at ht
    rw [ht]
    exact q _ g0
abbrev S__law_form : Stmt := top 22
abbrev N__law_form : List Str := ["_law_number"]
abbrev P__law_form : List Str := ["_law_number"]
theorem sc__law_form : FnScope N__law_form P__law_form (defScope S__law_form) := ⟨rfl, rfl, rfl, by decide +kernel, rfl, by decide +kernel, by decide +kernel⟩
def spForm (K : PySem.W.Frag) : Sp := fun vs H Q _ => ∃ x : Int, vs = [.int x] ∧ InB x ∧ ∀ (v : V) (H' : Hp), Same H H' → Dp K H' v (formD x) → Q v H'
theorem ok_form (F : Fun K "_law_form" "_law_form" S__law_form f fd) (B : Blt mg) (C_law_turns : Has P w K mg base 1 "_law_turns" P__law_turns [] spTurns) : FnOk P w K mg base CX0 2 f fd P__law_form (spForm K) := by
  have nd := sc__law_form.nd
  refine F.ok sc__law_form (fun vs H Q E h => ?_) (fun cdv A outer s H vs Q E hr h => ?_)
  · obtain ⟨x, rfl, _⟩ := h
    rfl
  obtain ⟨x, rfl, hx, q⟩ := h
  refine ⟨_, (pss_one (ps_ret (pe_ifExp (pt_chain op_le op_lt (pe_un un_neg (pe_op op_pow pe_int pe_int)) (pv 0) (pe_op op_pow pe_int pe_int)) (pv 0) (pe_callTy call_tupL (by rfl) B.tuple (by decide +kernel) (pa_cons (pe_H C_law_turns (hr.mono (by decide)) rfl (pa_cons (pv 0) pa_nil)) pa_nil))))), ?_⟩
  have far : ¬ plain x → ∀ (p p' : Addr) (H' : Hp), Same H H' → H p = none → H' p = some (.lst (nI (turnsN x))) → H' p' = none → Q (.ref p') (upd H' p' (.tup (nI (turnsN x)))) := fun hn p p' H' e np hp np' => by
    refine q _ _ (e.trans (Same.new np')) ?_
    unfold formD
    rw [if_neg hn]
    exact .tup (SqT.of upd_same) (dps_n _)
  refine ⟨_, _, rfl, rfl, (by unfold CPow; decide), _, rfl, _, rfl, _, _, rfl, rfl, _, rfl, ?_⟩
  refine iteD (fun c => ?_) (fun c => ?_)
  · refine ⟨_, _, rfl, rfl, (by unfold CPow; decide), _, _, rfl, rfl, _, rfl, ?_⟩
    refine iteD (fun c2 => ?_) (fun c2 => ?_)
    · refine ⟨_, rfl, ?_⟩
      have hp : plain x := ⟨c, c2⟩
      refine q _ _ (Same.refl _) ?_
      unfold formD
      rw [if_pos hp]
      exact .int x
    · refine ⟨_, rfl, x, rfl, hx, fun p H' e np hp => ?_⟩
      exact ⟨_, _, rfl, SqL.of hp, fun p' np' => far (fun h => c2 h.2) p p' H' e np hp np'⟩
  · refine ⟨_, rfl, ?_⟩
    refine iteF ?_
    refine ⟨_, rfl, x, rfl, hx, fun p H' e np hp => ?_⟩
    exact ⟨_, _, rfl, SqL.of hp, fun p' np' => far (fun h => c h.1) p p' H' e np hp np'⟩
end
end Fb
namespace Fb
open PySem L2
section
variable {P : Program} {w : World} {K : PySem.W.Frag} {mg : Str → Option Value} {base : Heap} {f : Addr} {fd : FuncData}
abbrev S__law_row_form : Stmt := top 23
abbrev N__law_row_form : List Str := ["_law_places"]
abbrev P__law_row_form : List Str := ["_law_places"]
theorem sc__law_row_form : FnScope N__law_row_form P__law_row_form (defScope S__law_row_form) := ⟨rfl, rfl, rfl, by decide +kernel, rfl, by decide +kernel, by decide +kernel⟩
def spRow (K : PySem.W.Frag) : Sp := fun vs H Q _ => ∃ (a : Addr) (xs : List V) (ds : List PyData) (n : Nat), vs = [.ref a] ∧ SqL K H a xs ∧ DpAll K H xs ds ∧ n ≤ 40 ∧ (∀ d ∈ ds, Fm n d) ∧ RowC ds ∧ ∀ (v : V) (H' : Hp), Same H H' → Dp K H' v (rowD ds) → Q v H'
theorem ok_row (F : Fun K "_law_row_form" "_law_row_form" S__law_row_form f fd) (B : Blt mg) (C_law_int : Has P w K mg base 1 "_law_int" P__law_int [] (spInt K)) : FnOk P w K mg base CX0 2 f fd P__law_row_form (spRow K) := by
  have nd := sc__law_row_form.nd
  refine F.ok sc__law_row_form (fun vs H Q E h => ?_) (fun cdv A outer s H vs Q E hr h => ?_)
  · obtain ⟨a, xs, ds, n, rfl, _⟩ := h
    rfl
  obtain ⟨a, xs, ds, n, rfl, hS, hd, n40, hf, hrow, q⟩ := h
  refine ⟨_, (pss_cons (ps_if (PW.pt (pw_or (pt_cmpR (op_eqD hr.units) (pv 0) (pe_lst pa_nil) (nomark _)) (pw_or1 (PW.pt (pw_and (pt_val (pe_callB (call_isiI K) (by rfl) B.isinstance (by decide +kernel) (pa_cons (pe_ix ix_list (pv 0) (pe_un un_neg pe_int) (fun _ _ => rfl)) (pa_cons (pe_bltn (by rfl) B.int (by decide +kernel) (show RelV (.ty "int") (.type "int") from rfl)) pa_nil)))) (pw_and1 (pt_cmpR op_le (pe_ix ix_list (pv 0) (pe_un un_neg pe_int) (fun _ _ => rfl)) pe_int (nomark _)))))))) (pss_one (ps_ret (pe_H C_law_int (hr.mono (by decide)) rfl (pa_cons (pv 0) pa_nil)))) pss_nil)
    (pss_one (ps_ret (pe_callTy call_tupL (by rfl) B.tuple (by decide +kernel) (pa_cons (pv 0) pa_nil))))), ?_⟩
  refine ⟨_, rfl, (by show 0 ≤ sizeLine; decide), fun p np => ?_⟩
  have g0 : Same H (upd H p (.lst [])) := Same.new np
  have hS' : SqL K (upd H p (.lst [])) a xs := g0.seq hS
  have hd' : DpAll K (upd H p (.lst [])) xs ds := (Nd.of g0).ds hd
  refine ⟨.list ds, .list [], .lst hS' hd', .lst (SqL.of upd_same) .nil, shaped_list n40 hf, shaped_nil, _, rfl, ?_⟩
  generalize upd H p _ = H1 at g0 hS' hd' ⊢
  rw [eqv_nil]
  rcases List.eq_nil_or_concat ds with rfl | ⟨m, dl, rfl⟩
  · cases hd'
    refine iteT ?_
    exact ⟨_, rfl, a, [], rfl, hS', (fun n hn => by cases hn), fun H' e => q _ _ (g0.trans e) (.int _)⟩
  · rw [List.concat_eq_append] at *
    have ee : (m ++ [dl]).isEmpty = false := by cases m <;> rfl
    rw [ee]
    refine iteF ?_
    obtain ⟨x, ex, hx⟩ := dps_last hd'
    have el : (m ++ [dl]).getLast? = some dl := List.getLast?_concat ..
    have far : isNear dl = false → ∀ l, H1 l = none → Q (.ref l) (upd H1 l (.tup xs)) := fun hn l nl => by
      refine q _ _ (g0.trans (Same.new nl)) ?_
      rw [rowD_far el hn]
      exact .tup (SqT.of upd_same) ((Nd.new nl).ds hd')
    refine ⟨_, rfl, _, rfl, a, _, _, _, rfl, rfl, hS', ex, _, dl, rfl, hx, _, rfl, ?_⟩
    cases dl with
    | int i =>
      cases hx
      refine iteT ?_
      refine ⟨_, rfl, _, rfl, a, _, _, _, rfl, rfl, hS', ex, _, _, rfl, rfl, _, rfl, ?_⟩
      refine iteD (fun c => ?_) (fun c => ?_)
      · have hn : isNear (.int i) = true := decide_eq_true c
        obtain ⟨ns, e, hb⟩ := hrow _ el hn
        rw [e] at hd' el q
        have exs := dps_n_inv hd'
        rw [exs] at hS'
        refine ⟨_, rfl, a, ns, rfl, hS', (fun n hn => Nat.le_trans (hb n hn) (by decide)), fun H' e => q _ _ (g0.trans e) ?_⟩
        rw [rowD_near el hn]
        exact .int _
      · exact ⟨_, rfl, a, xs, rfl, hS', far (decide_eq_false c)⟩
    | bool b => exact (fm_bool (hf (.bool b) (by simp))).elim
    | none => exact iteF ⟨_, rfl, a, xs, rfl, hS', far rfl⟩
    | str z => exact iteF ⟨_, rfl, a, xs, rfl, hS', far rfl⟩
    | list z => exact iteF ⟨_, rfl, a, xs, rfl, hS', far rfl⟩
    | tuple z => exact iteF ⟨_, rfl, a, xs, rfl, hS', far rfl⟩
    | dict z => exact iteF ⟨_, rfl, a, xs, rfl, hS', far rfl⟩
abbrev S__law_moved : Stmt := top 26
abbrev N__law_moved : List Str := ["_law_code_here", "_law_fields_here", "_law_places", "_law_turn", "_law_field", "_law_step"]
abbrev P__law_moved : List Str := ["_law_code_here", "_law_fields_here"]
theorem sc__law_moved : FnScope N__law_moved P__law_moved (defScope S__law_moved) := ⟨rfl, rfl, rfl, by decide +kernel, rfl, by decide +kernel, by decide +kernel⟩
def spMoved (K : PySem.W.Frag) : Sp := fun vs H Q _ => ∃ (c : Int) (b : Addr) (ys : List V) (fs : List PyData) (m : Nat), vs = [.int c, .ref b] ∧ SqL K H b ys ∧ DpAll K H ys (fs.take m) ∧ Fields fs ∧ (∀ p ∈ turnsN c, p / 200 < m) ∧ 0 ≤ c ∧ c < 2 ^ 799 ∧ ∀ (v : V) (H' : Hp), Same H H' → Dp K H' v (movedD fs c) → Q v H'
theorem fields_at {fs : List PyData} (F : Fields fs) {i : Nat} {d : PyData} (h : fs[i]? = some d) : (∃ a : Int, d = .int a ∧ 0 ≤ a ∧ a < 2 ^ 64) ∨ ∃ ts, d = .tuple ts ∧ ts ≠ [] ∧ ts.length ≤ 50 := by
  obtain ⟨a, low, g, f2, f3, rfl, a0, a1, _, _, _, _, k2, k3⟩ := F.ex
  obtain ⟨t2, rfl, l2, _, d2, e2, _⟩ := f2_ok (n := 0) k2
  obtain ⟨t3, h3, rfl, h1, l3, _, d3, e3, _⟩ := f3_ok (n := 0) k2 k3
  match i, h with
  | 0, h => cases h; exact .inl ⟨0, rfl, by decide, by decide⟩
  | 1, h => cases h; exact .inl ⟨a, rfl, by omega, a1⟩
  | 2, h => cases h; exact .inr ⟨t2, rfl, fun z => (by rw [z] at e2; cases e2), l2⟩
  | 3, h => cases h; exact .inr ⟨t3, rfl, fun z => (by rw [z] at e3; cases e3), l3⟩
  | n + 4, h => simp at h
theorem ok_moved (F : Fun K "_law_moved" "_law_moved" S__law_moved f fd) (B : Blt mg) (C_law_turns : Has P w K mg base 1 "_law_turns" P__law_turns [] spTurns) (C_law_form : Has P w K mg base 2 "_law_form" P__law_form [] (spForm K))
    (C_law_row_form : Has P w K mg base 2 "_law_row_form" P__law_row_form [] (spRow K)) : FnOk P w K mg base CX0 3 f fd P__law_moved (spMoved K) := by
  have nd := sc__law_moved.nd
  refine F.ok sc__law_moved (fun vs H Q E h => ?_) (fun cdv A outer s H vs Q E hr h => ?_)
  · obtain ⟨c, b, ys, fs, m, rfl, _⟩ := h
    rfl
  obtain ⟨c, b, ys, fs, m, rfl, hS, hd, Fs, hm, c0, c8, q⟩ := h
  refine ⟨_, (pss_cons (ps_set (i := 2) nd rfl (Or.inl rfl) (pe_lst pa_nil))
    (pss_cons (ps_for PassesOwn.never rfl (pi_list (pe_H C_law_turns (hr.mono (by decide)) rfl (pa_cons (pv 0) pa_nil))) (pg_name (i := 3) nd rfl (Or.inl rfl)) (pss_cons (ps_par (i := 4) (j := 5) (by rfl) nd rfl rfl (by decide) rfl rfl (pa_cons (pe_ix ix_list (pv 1) (pe_op op_fdivW (pv 3) pe_int) (fun _ _ => rfl)) (pa_cons (pe_op op_sub (pv 3) (pe_op op_mul (pe_op op_fdivW (pv 3) pe_int) pe_int)) pa_nil)) (by rfl))
    (pss_one (ps_if (pt_val (pe_callB (call_isiI K) (by rfl) B.isinstance (by decide +kernel) (pa_cons (pv 4) (pa_cons (pe_bltn (by rfl) B.int (by decide +kernel) (show RelV (.ty "int") (.type "int") from rfl)) pa_nil)))) (pss_one (ps_expr (pe_bm PySem.F.plainAttrs_list PySem.F.slot_list_append PySem.F.type_list_append mt_append (pv 2) (pa_cons (pe_H C_law_form (hr.mono (by decide)) rfl (pa_cons (pe_op op_add (pv 4) (pv 5)) pa_nil)) pa_nil)))) (pss_one (ps_expr (pe_bm PySem.F.plainAttrs_list PySem.F.slot_list_append PySem.F.type_list_append mt_append (pv 2) (pa_cons (pe_op op_catA (pe_callTy call_tupL (by rfl) B.tuple (by decide +kernel) (pa_cons (pe_H C_law_turns (hr.mono (by decide)) rfl (pa_cons (pv 5) pa_nil)) pa_nil)) (pv 4)) pa_nil))))))))
    (pss_one (ps_ret (pe_H C_law_row_form (hr.mono (by decide)) rfl (pa_cons (pv 2) pa_nil)))))), ?_⟩
  have t8 := turns_800 c0 c8
  have inb : InB c := by
    refine InB.of (n := 799) ?_ c8 (by decide)
    generalize (2 : Int) ^ 799 = B at c8 ⊢
    omega
  refine ⟨(by show 0 ≤ sizeLine; decide), fun p np => ?_⟩
  refine ⟨_, rfl, c, rfl, inb, fun l H1 e1 nl hl => ?_⟩
  have g0 : Same H (upd H p (.lst [])) := Same.new np
  have npl : p ≠ l := by rintro rfl; rw [upd_same] at nl; cases nl
  have hp1 : H1 p = some (.lst []) := e1 _ _ upd_same
  have g1 : Same H H1 := g0.trans e1
  refine ⟨_, rfl, ⟨_, SqL.of hl⟩, ?_⟩
  have hlen : (nI (turnsN c)).length = (turnsN c).length := by unfold nI; rw [List.length_map]
  refine for_list (xs := nI (turnsN c)) (fun i σ H' => ∃ (z1 z2 z3 : Option V) (xs : List V), σ = [some (.int c), some (.ref b), some (.ref p), z1, z2, z3] ∧ Same H H' ∧ H' l = some (.lst (nI (turnsN c))) ∧ H' p = some (.lst xs) ∧ DpAll K H' xs (((turnsN c).take i).map (placeD fs)))
    ⟨_, _, _, [], rfl, g1, hl, hp1, .nil⟩ (fun i σ H' _ h => ?_) (fun i x σ H' hx h => ?_) (fun σ H' h => ?_)
  · obtain ⟨_, _, _, _, _, _, h, _⟩ := h
    exact SqL.of h
  · obtain ⟨z1, z2, z3, xs, rfl, e, hl', hp, hds⟩ := h
    unfold nI at hx
    rw [List.getElem?_map] at hx
    obtain ⟨t, ht, rfl⟩ := Option.map_eq_some_iff.mp hx
    have htm : t ∈ turnsN c := List.mem_of_getElem? ht
    have t2 := t8 t htm
    have tm := hm t htm
    have et : (turnsN c).take (i + 1) = (turnsN c).take i ++ [t] := by rw [List.take_add_one, ht]; rfl
    have hxl : xs.length < sizeLine := by
      rw [dps_length hds, List.length_map, List.length_take]
      exact Nat.lt_of_le_of_lt (Nat.min_le_right _ _) (Nat.lt_of_le_of_lt (len_turns c0 c8) (by decide))
    have q0 : (t : Int) / 200 = ((t / 200 : Nat) : Int) := by omega
    have st : (t : Int) - ((t : Int) / 200) * 200 = ((t % 200 : Nat) : Int) := by omega
    have lf : fs.length = 4 := by obtain ⟨_, _, _, _, _, rfl, _⟩ := Fs.ex; rfl
    have hty : ∃ d, (fs.take m)[t / 200]? = some d ∧ fs[t / 200]? = some d := by
      have h1 : t / 200 < fs.length := by omega
      have h2 : t / 200 < (fs.take m).length := by rw [List.length_take]; omega
      refine ⟨_, List.getElem?_eq_getElem h2, ?_⟩
      rw [List.getElem_take]
      exact List.getElem?_eq_getElem h1
    obtain ⟨d, hd1, hd2⟩ := hty
    have hdy := (Nd.of e).ds hd
    obtain ⟨y, ey⟩ : ∃ y, ys[t / 200]? = some y := by
      have yl : t / 200 < ys.length := by
        rw [dps_length hd]
        exact (List.getElem?_eq_some_iff.mp hd1).1
      exact ⟨_, List.getElem?_eq_getElem yl⟩
    obtain ⟨d', hd', hdp⟩ := dps_get hdy ey
    rw [hd1] at hd'
    cases hd'
    refine ⟨_, rfl, _, rfl, _, _, rfl, rfl, ⟨by decide, by decide +kernel⟩, b, _, _, _, rfl, rfl, e.seq hS, (by rw [q0]; exact atI_nat ey), _, rfl, _, rfl, _, _, rfl, rfl, ⟨by decide, by decide +kernel⟩, _, _, rfl, rfl, .inl ⟨by omega, by omega⟩, _, _, rfl, rfl, _, _, rfl, ?_⟩
    refine ⟨_, rfl, y, d, rfl, hdp, _, rfl, ?_⟩
    have fin : ∀ (v : V) (H2 : Hp), Same H' H2 → Dp K H2 v (placeD fs t) → Same H (upd H2 p (.lst (xs ++ [v]))) ∧ upd H2 p (.lst (xs ++ [v])) l = some (.lst (nI (turnsN c))) ∧ upd H2 p (.lst (xs ++ [v])) p = some (.lst (xs ++ [v])) ∧ DpAll K (upd H2 p (.lst (xs ++ [v]))) (xs ++ [v]) (((turnsN c).take (i + 1)).map (placeD fs)) := fun v H2 e2 dv => by
      have td : Td H2 (upd H2 p (.lst (xs ++ [v]))) := Td.lst (e2 _ _ hp)
      refine ⟨Same.mut (e.trans e2) np, by rw [upd_ne (Ne.symm npl)]; exact e2 _ _ hl', upd_same, ?_⟩
      rw [et, List.map_append]
      refine dps_app (((Td.of (Nd.of e2)).trans td).ds (n := 3) (fun z hz => ?_) hds) (.cons (td.d (place_fm Fs t2) dv) .nil)
      obtain ⟨r, hr, rfl⟩ := List.mem_map.mp hz
      exact place_fm Fs (t8 r (List.mem_of_mem_take hr))
    have hst := step_in t
    have inst : InB ((t % 200 : Nat) : Int) := InB.of (n := 100) hst.1 hst.2 (by decide)
    rcases fields_at Fs hd2 with ⟨a, rfl, a0, a1⟩ | ⟨ts, rfl, ts0, ts5⟩
    · have pl : placeD fs t = formD (a + ((t % 200 : Nat) : Int)) := by unfold placeD; rw [hd2]
      cases hdp
      refine iteT ?_
      refine ⟨_, rfl, .inl ⟨rfl, _, SqL.of hp⟩, _, rfl, _, rfl, _, _, rfl, rfl, ?_⟩
      have inb2 : InB (a + ((t : Int) - ((t : Int) / 200) * 200)) := by
        rw [st]
        exact InB.of (n := 101) (by omega) (by omega) (by decide)
      refine ⟨_, rfl, inb2, fun v H2 e2 dv => ?_⟩
      refine ⟨p, _, _, rfl, rfl, e2 _ _ hp, hxl, ?_⟩
      rw [st] at dv
      exact ⟨_, _, _, _, rfl, fin v H2 e2 (by rw [pl]; exact dv)⟩
    · have inb2 : InB ((t : Int) - ((t : Int) / 200) * 200) := by rw [st]; exact inst
      have pl : placeD fs t = .tuple (nD (turnsN ((t % 200 : Nat) : Int)) ++ ts) := by unfold placeD; rw [hd2]
      cases hdp with
      | @tup ya ysx _ hsq hda =>
      refine iteF ?_
      refine ⟨_, rfl, .inl ⟨rfl, _, SqL.of hp⟩, _, rfl, _, rfl, inb2, fun l2 H2 e2 nl2 hl2 => ?_⟩
      rw [st] at hl2
      refine ⟨_, _, rfl, SqL.of hl2, fun p2 np2 => ?_⟩
      have e3 : Same H' (upd H2 p2 (.tup (nI (turnsN ((t % 200 : Nat) : Int))))) := e2.trans (Same.new np2)
      have sl := step_len t
      have dvt : ∀ H4, Same (upd H2 p2 (.tup (nI (turnsN ((t % 200 : Nat) : Int))))) H4 → DpAll K H4 (nI (turnsN ((t % 200 : Nat) : Int)) ++ ysx) (nD (turnsN ((t % 200 : Nat) : Int)) ++ ts) := fun H4 e4 => dps_app (dps_n _) ((Nd.of (e3.trans e4)).ds hda)
      refine ⟨_, rfl, p2, ya, _, ysx, rfl, rfl, SqT.of upd_same, (Nd.of e3).sqt hsq, ?_, fun h0 => ?_, fun h0 h1 => ?_, fun h0 h1 p3 np3 => ?_⟩
      · have := dps_length hda
        have ln : (nI (turnsN ((t % 200 : Nat) : Int))).length = (turnsN ((t % 200 : Nat) : Int)).length := by unfold nI; rw [List.length_map]
        rw [ln]
        exact Nat.le_trans (show _ ≤ 2050 by omega) (by decide)
      · refine ⟨p, _, _, rfl, rfl, e3 _ _ hp, hxl, ?_⟩
        refine ⟨_, _, _, _, rfl, fin _ _ e3 ?_⟩
        have h0' : turnsN ((t % 200 : Nat) : Int) = [] := by unfold nI at h0; exact List.map_eq_nil_iff.mp h0
        have pl' : placeD fs t = .tuple ts := by rw [pl, h0']; rfl
        rw [pl']
        exact .tup ((Nd.of e3).sqt hsq) ((Nd.of e3).ds hda)
      · exact absurd (List.length_eq_zero_iff.mp (by rw [← dps_length hda, h1]; rfl)) ts0
      · refine ⟨p, _, _, rfl, rfl, (e3.trans (Same.new np3)) _ _ hp, hxl, ?_⟩
        refine ⟨_, _, _, _, rfl, fin _ _ (e3.trans (Same.new np3)) ?_⟩
        rw [pl]
        exact .tup (SqT.of upd_same) (dvt _ (Same.new np3))
  · obtain ⟨z1, z2, z3, xs, rfl, e, hl', hp, hds⟩ := h
    rw [hlen, List.take_length] at hds
    refine ⟨_, rfl, p, xs, _, 3, rfl, SqL.of hp, hds, by decide, fun d hd => ?_, places_row Fs (turns_asc c) t8, fun v H2 e2 dv => q v H2 (e.trans e2) dv⟩
    obtain ⟨t, ht, rfl⟩ := List.mem_map.mp hd
    exact place_fm Fs (t8 t ht)
abbrev S__law_form_of_codes : Stmt := top 27
abbrev N__law_form_of_codes : List Str := ["_law_codes_here", "_law_fields_here", "_law_code_here"]
abbrev P__law_form_of_codes : List Str := ["_law_codes_here", "_law_fields_here"]
theorem sc__law_form_of_codes : FnScope N__law_form_of_codes P__law_form_of_codes (defScope S__law_form_of_codes) := ⟨rfl, rfl, rfl, by decide +kernel, rfl, by decide +kernel, by decide +kernel⟩
def spFoc (K : PySem.W.Frag) : Sp := fun vs H Q _ => ∃ (a b : Addr) (cs : List Int) (ys : List V) (fs : List PyData) (m : Nat), vs = [.ref a, .ref b] ∧ SqL K H a (cs.map V.int) ∧ SqL K H b ys ∧ DpAll K H ys (fs.take m) ∧ Fields fs ∧ Codes cs ∧ (∀ c ∈ cs, ∀ p ∈ turnsN c, p / 200 < m) ∧ ∀ (v : V) (H' : Hp), Same H H' → Dp K H' v (codesD fs cs) → Q v H'
theorem moved_fm {fs : List PyData} (F : Fields fs) {c : Int} (h0 : 0 ≤ c) (h1 : c < 2 ^ 799) : Fm 4 (movedD fs c) := by
  obtain ⟨hm, _, k⟩ := moveds F 0
  exact (k c h0 h1).2.1.fm
theorem ok_foc (F : Fun K "_law_form_of_codes" "_law_form_of_codes" S__law_form_of_codes f fd) (C_law_moved : Has P w K mg base 3 "_law_moved" P__law_moved [] (spMoved K))
    (C_law_row_form : Has P w K mg base 2 "_law_row_form" P__law_row_form [] (spRow K)) : FnOk P w K mg base CX0 4 f fd P__law_form_of_codes (spFoc K) := by
  have nd := sc__law_form_of_codes.nd
  refine F.ok sc__law_form_of_codes (fun vs H Q E h => ?_) (fun cdv A outer s H vs Q E hr h => ?_)
  · obtain ⟨a, b, cs, ys, fs, m, rfl, _⟩ := h
    rfl
  obtain ⟨a, b, cs, ys, fs, m, rfl, hA, hB, hd, Fs, hc, hm, q⟩ := h
  refine ⟨_, (pss_one (ps_ret (pe_H C_law_row_form (hr.mono (by decide)) rfl (pa_cons (pe_lc (own := [("_law_code_here", 2)]) (g := gName 2) (tt := tYes) rfl nd (pi_list (pv 0)) (blkOk_by (own := [("_law_code_here", 2)]) (N := N__law_form_of_codes) (sc := defScope S__law_form_of_codes) (by decide +kernel)) (fun _ _ _ _ _ => pg_name (i := 2) nd rfl (Or.inl rfl)) (fun _ _ _ _ _ => pts_nil) (fun _ _ _ _ _ => (pe_H C_law_moved (hr.mono (by decide)) rfl (pa_cons (pv 2) (pa_cons (pv 1) pa_nil))))) pa_nil)))), ?_⟩
  refine ⟨_, rfl, a, rfl, ⟨_, hA⟩, fun D nD => ?_⟩
  refine lc_list (xs := cs.map V.int) (fun i H' => ∃ xs : List V, Same H H' ∧ H' D = some (.lst xs) ∧ DpAll K H' xs ((cs.take i).map (movedD fs))) ⟨[], Same.new nD, upd_same, .nil⟩ (fun i H' _ h => ?_) (fun i x H' hx h => ?_) (fun H' h => ?_)
  · obtain ⟨xs, e, _⟩ := h
    exact e.seq hA
  · obtain ⟨xs, e, hD, hds⟩ := h
    rw [List.getElem?_map] at hx
    obtain ⟨c, hci, rfl⟩ := Option.map_eq_some_iff.mp hx
    have hcm : c ∈ cs := List.mem_of_getElem? hci
    have et : cs.take (i + 1) = cs.take i ++ [c] := by rw [List.take_add_one, hci]; rfl
    have cb := hc.2.1 c hcm
    refine ⟨rfl, lcT ?_⟩
    refine ⟨_, rfl, _, rfl, c, b, ys, fs, m, rfl, e.seq hB, (Nd.of e).ds hd, Fs, hm c hcm, cb.1, cb.2, fun v H2 e2 dv => ?_⟩
    have hxl : xs.length < sizeLine := by
      rw [dps_length hds, List.length_map, List.length_take]
      exact Nat.lt_of_le_of_lt (Nat.min_le_right _ _) (Nat.lt_of_le_of_lt hc.2.2 (by decide))
    refine ⟨xs, e2 _ _ hD, hxl, xs ++ [v], Same.mut (e.trans e2) nD, upd_same, ?_⟩
    have td : Td H2 (upd H2 D (.lst (xs ++ [v]))) := Td.lst (e2 _ _ hD)
    rw [et, List.map_append]
    refine dps_app (((Td.of (Nd.of e2)).trans td).ds (n := 4) (fun z hz => ?_) hds) (.cons (td.d (moved_fm Fs cb.1 cb.2) dv) .nil)
    obtain ⟨r, hr, rfl⟩ := List.mem_map.mp hz
    have rb := hc.2.1 r (List.mem_of_mem_take hr)
    exact moved_fm Fs rb.1 rb.2
  · obtain ⟨xs, e, hD, hds⟩ := h
    rw [List.length_map, List.take_length] at hds
    refine ⟨D, xs, _, 4, rfl, SqL.of hD, hds, by decide, fun d hd => ?_, codes_row Fs hc, fun v H2 e2 dv => q v H2 (e.trans e2) dv⟩
    obtain ⟨c, hcm, rfl⟩ := List.mem_map.mp hd
    have cb := hc.2.1 c hcm
    exact moved_fm Fs cb.1 cb.2
end
end Fb
namespace Fb
open PySem L2
/-! ### how many turns sums have -/
theorem mk_nn {b x : Int} (h0 : 0 ≤ b) (h1 : b < 2) : 0 ≤ mk b x := by
  obtain ⟨n, l, r⟩ := marks_cast (x := x)
  exact (mk_all n b x h0 h1 l r).1
/-- turns of x above a bit b -/
def tc (b x : Int) : Nat := (ones (mk b x).toNat).length
theorem tc_step {b : Int} (x : Int) (h0 : 0 ≤ b) (h1 : b < 2) : tc b x = ((x + b) % 2).toNat + tc (x % 2) (x / 2) := by
  unfold tc
  have m := mk_nn (b := x % 2) (x := x / 2) (by omega) (by omega)
  rw [mk_step h0 h1]
  generalize mk (x % 2) (x / 2) = k at m ⊢
  have hr : (x + b) % 2 = 0 ∨ (x + b) % 2 = 1 := by omega
  rcases hr with h | h
  · rw [h, show (2 * k + 0).toNat = 2 * k.toNat by omega, ones_even, List.length_map]
    simp
  · rw [h, show (2 * k + 1).toNat = 2 * k.toNat + 1 by omega, ones_odd, List.length_cons, List.length_map]
    show _ = 1 + _
    omega
def T (x : Int) : Nat := (turnsN x).length
theorem T_tc (x : Int) : T x = tc 0 x := by
  unfold T turnsN tc marks
  rw [marks_eq]
theorem tc_diff (x : Int) : tc 0 x ≤ tc 1 x + 1 ∧ tc 1 x ≤ tc 0 x + 1 := by
  rw [tc_step (b := 0) x (by decide) (by decide), tc_step (b := 1) x (by decide) (by decide)]
  omega
theorem tc_up (n : Nat) : ∀ h : Int, 0 ≤ h → h < n → tc 0 (h + 1) ≤ tc 1 h + 1 ∧ tc 1 h ≤ tc 0 (h + 1) + 1 := by
  induction n with
  | zero => intro h h0 h1; omega
  | succ n ih =>
    intro h h0 h1
    rw [tc_step (b := 0) (h + 1) (by decide) (by decide), tc_step (b := 1) h (by decide) (by decide)]
    have p : h % 2 = 0 ∨ h % 2 = 1 := by omega
    rcases p with p | p
    · have d := tc_diff (h / 2)
      rw [show (h + 1) / 2 = h / 2 by omega, show (h + 1) % 2 = 1 by omega, p, show (h + 1 + 0) % 2 = 1 by omega]
      omega
    · have d := ih (h / 2) (by omega) (by omega)
      rw [show (h + 1) / 2 = h / 2 + 1 by omega, show (h + 1) % 2 = 0 by omega, p, show (h + 1 + 0) % 2 = 0 by omega]
      show 0 + _ ≤ 0 + _ + 1 ∧ 0 + _ ≤ 0 + _ + 1
      omega
theorem tc_one {b x : Int} (h0 : 0 ≤ b) (h1 : b < 2) (hx : 0 ≤ x) : tc b (x + 1) ≤ tc b x + 2 ∧ tc b x ≤ tc b (x + 1) + 2 := by
  rw [tc_step (x + 1) h0 h1, tc_step x h0 h1]
  have p : x % 2 = 0 ∨ x % 2 = 1 := by omega
  rcases p with p | p
  · have d := tc_diff (x / 2)
    rw [show (x + 1) / 2 = x / 2 by omega, show (x + 1) % 2 = 1 by omega, p]
    omega
  · have d := tc_up ((x / 2).toNat + 1) (x / 2) (by omega) (by omega)
    rw [show (x + 1) / 2 = x / 2 + 1 by omega, show (x + 1) % 2 = 0 by omega, p]
    omega
theorem tc_pow (p : Nat) : ∀ b x : Int, 0 ≤ b → b < 2 → 0 ≤ x → tc b (x + 2 ^ p) ≤ tc b x + 2 ∧ tc b x ≤ tc b (x + 2 ^ p) + 2 := by
  induction p with
  | zero => intro b x h0 h1 hx; exact tc_one h0 h1 hx
  | succ p ih =>
    intro b x h0 h1 hx
    have e : (2 : Int) ^ (p + 1) = 2 * 2 ^ p := by rw [Int.pow_succ, Int.mul_comm]
    rw [e]
    have d := ih (x % 2) (x / 2) (by omega) (by omega) (by omega)
    generalize (2 : Int) ^ p = q at d ⊢
    rw [tc_step (x + 2 * q) h0 h1, tc_step x h0 h1, show (x + 2 * q + b) % 2 = (x + b) % 2 by omega, show (x + 2 * q) % 2 = x % 2 by omega, show (x + 2 * q) / 2 = x / 2 + q by omega]
    omega
theorem T_pow {x : Int} (p : Nat) (hx : 0 ≤ x) : T (x + 2 ^ p) ≤ T x + 2 ∧ T x ≤ T (x + 2 ^ p) + 2 := by
  rw [T_tc, T_tc]
  exact tc_pow p 0 x (by decide) (by decide) hx
theorem T_le {x : Int} {n : Nat} (h0 : 0 ≤ x) (h1 : x < 2 ^ n) : T x ≤ n + 1 := turns_len (by have := Int.pow_pos (n := 2) (m := n) (by decide); omega) h1
/-- a piece adds at most four turns -/
def Pc (z : Int) : Prop := ∀ (x : Int) (s : Nat), 0 ≤ x → T (x + z * 2 ^ s) ≤ T x + 4
theorem pc_1 : Pc 1 := fun x s hx => by
  have := T_pow s hx
  rw [Int.one_mul]; omega
theorem pc_5 : Pc 5 := fun x s hx => by
  have a := T_pow s hx
  have hs : (0 : Int) < 2 ^ s := Int.pow_pos (by decide)
  have b := T_pow (x := x + 2 ^ s) (s + 2) (by omega)
  have e : x + 5 * 2 ^ s = x + 2 ^ s + 2 ^ (s + 2) := by rw [Int.pow_add]; omega
  rw [e]; omega
theorem pc_pow (k : Nat) : Pc (2 ^ k - 1) := fun x s hx => by
  have hs : (0 : Int) < 2 ^ s := Int.pow_pos (by decide)
  have hk : (0 : Int) < 2 ^ k := Int.pow_pos (by decide)
  have a := T_pow (x := x) (k + s) hx
  have nn : 0 ≤ x + (2 ^ k - 1) * 2 ^ s := by
    have : 0 ≤ (2 ^ k - 1) * (2 : Int) ^ s := Int.mul_nonneg (by omega) (by omega)
    omega
  have b := T_pow (x := x + (2 ^ k - 1) * 2 ^ s) s nn
  have e : x + (2 ^ k - 1) * 2 ^ s + 2 ^ s = x + 2 ^ (k + s) := by rw [Int.sub_mul, Int.one_mul, Int.pow_add]; omega
  rw [e] at b
  omega
theorem pc_3 : Pc 3 := pc_pow 2
/-- turns in the lowest group, and above it -/
def Sz (A B : Nat) (c : Int) : Prop := T (c % 2 ^ 200) ≤ A ∧ T (c / 2 ^ 200) ≤ B
theorem Sz.mono {A B A' B' : Nat} {c : Int} (h : Sz A B c) (a : A ≤ A') (b : B ≤ B') : Sz A' B' c := ⟨Nat.le_trans h.1 a, Nat.le_trans h.2 b⟩
theorem sz_first {c : Int} (h0 : 0 ≤ c) (h1 : c < 128) : Sz 8 0 c := by
  unfold Sz
  rw [show c % 2 ^ 200 = c by omega, show c / 2 ^ 200 = 0 by omega]
  refine ⟨T_le (n := 7) h0 h1, ?_⟩
  unfold T turnsN
  rw [show marks 0 = 0 by decide +kernel, ones_zero]
  exact Nat.le_refl _
theorem low_of_code {m : Nat} {b c : Int} (h : CodeB m b c) (hb : b ≤ 2 ^ 60) : 0 ≤ c ∧ c % 2 ^ 200 < 2 ^ 60 := by
  obtain ⟨d, rfl, h2, _⟩ := h
  have a0 := h2 0; have a1 := h2 1; have a2 := h2 2; have a3 := h2 3
  unfold val4
  omega
theorem sz_add {m : Nat} {b c e : Int} {A B : Nat} (h : CodeB m b c) (hb : b ≤ 2 ^ 60) (s : Sz A B c) (h0 : 0 ≤ e) (h1 : e < 4) : Sz (A + 4) B (c + e) := by
  obtain ⟨l0, l1⟩ := low_of_code h hb
  unfold Sz at *
  rw [show (c + e) % 2 ^ 200 = c % 2 ^ 200 + e by omega, show (c + e) / 2 ^ 200 = c / 2 ^ 200 by omega]
  have y0 : 0 ≤ c % 2 ^ 200 := by omega
  generalize c % 2 ^ 200 = y at *
  refine ⟨?_, s.2⟩
  have p3 := pc_3 y 0 y0
  have q1 := T_pow 0 y0
  have q2 := T_pow 1 y0
  have : e = 0 ∨ e = 1 ∨ e = 2 ∨ e = 3 := by omega
  rcases this with rfl | rfl | rfl | rfl
  · rw [Int.add_zero]; omega
  · have : T (y + 1) ≤ T y + 2 := q1.1
    omega
  · have : T (y + 2) ≤ T y + 2 := q2.1
    omega
  · have : T (y + 3) ≤ T y + 4 := p3
    omega
theorem sz_piece {m : Nat} {b c pc : Int} {k s A B : Nat} (h : CodeB m b c) (hb : b ≤ 2 ^ 60) (hk : k < 4) (p0 : 0 ≤ pc) (p1 : pc < 2 ^ 40) (hs : s < 15) (hp : Pc pc) (z : Sz A B c) : Sz (A + 4) (B + 4) (c + pc * 2 ^ (200 * k + s)) := by
  obtain ⟨l0, l1⟩ := low_of_code h hb
  unfold Sz at *
  have hs2 : (2 : Int) ^ s ≤ 2 ^ 14 := p_le (by omega)
  have hs1 : (0 : Int) < 2 ^ s := Int.pow_pos (by decide)
  rcases Nat.eq_zero_or_pos k with rfl | kp
  · rw [Nat.mul_zero, Nat.zero_add]
    have t := hp (c % 2 ^ 200) s (by omega)
    have q0 : 0 ≤ pc * 2 ^ s := Int.mul_nonneg p0 (by omega)
    have q1 : pc * 2 ^ s < 2 ^ 55 := by
      have a : pc * 2 ^ s ≤ pc * 2 ^ 14 := Int.mul_le_mul_of_nonneg_left hs2 p0
      omega
    generalize pc * 2 ^ s = w at *
    rw [show (c + w) % 2 ^ 200 = c % 2 ^ 200 + w by omega, show (c + w) / 2 ^ 200 = c / 2 ^ 200 by omega]
    omega
  · have t := hp (c / 2 ^ 200) (200 * (k - 1) + s) (by omega)
    have e : pc * 2 ^ (200 * k + s) = 2 ^ 200 * (pc * 2 ^ (200 * (k - 1) + s)) := by
      rw [show 200 * k + s = 200 + (200 * (k - 1) + s) by omega, Int.pow_add, Int.mul_left_comm]
    rw [e]
    generalize pc * 2 ^ (200 * (k - 1) + s) = w at *
    rw [show (c + 2 ^ 200 * w) % 2 ^ 200 = c % 2 ^ 200 by omega, show (c + 2 ^ 200 * w) / 2 ^ 200 = c / 2 ^ 200 + w by omega]
    omega
end Fb
namespace Fb
open PySem L2 PySem.Spec PyProof.Rows
/-! ### a def called where no guard stands (the law's own) -/
def FnG (P : Program) (w : World) (K : PySem.W.Frag) (mg : Str → Option Value) (base : Heap) (k : Nat) (f : Addr) (fd : FuncData) (ps : List Str) (sp : Sp) : Prop :=
  ∀ (B : Around) (os : List Env) (s : Shared) (H : Hp) (ar : Args) (us : List Value) (vs : List V) (R : VK) (T : XK), Room k B → B.guards = some [] → Env0 P w K mg base B os s H → BindsTo s fd ar (ps.zip us) → Vals vs us → sp vs H R T →
    codeAny (model P w) B (.call (.ref f) ar) (CR CX0 os P w H s R T) s
theorem fng_of {P : Program} {w : World} {K : PySem.W.Frag} {mg : Str → Option Value} {base : Heap} {x qual : Str} {st : Stmt} {f : Addr} {fd : FuncData} {N ps : List Str} {k : Nat} {sp : Sp} (F : Fun K x qual st f fd) (S : FnScope N ps (defScope st)) (len : ∀ vs H R T, sp vs H R T → vs.length = ps.length)
    (go : ∀ (cdv : Value) (B : Around) (os : List Env) (s : Shared) (H : Hp) (vs : List V) (R : VK) (T : XK), Room k (B.deeper (envOfC qual (defScope st) s.heap.objs.size f cdv)) → B.guards = some [] → sp vs H R T →
      ∃ t, PSs (cxOf CX0 P w K mg base N qual (defScope st) f cdv B os s H T).nox (defBody st) t ∧ t { nx := fun _ H1 => R .non H1, rt := R } (L2.start N vs) H) : FnG P w K mg base (k + 1) f fd ps sp := by
  intro B os s H ar us vs R T room ng e0 bd rv hs
  obtain ⟨_, _, kV, doc, pm, an, cdv, ct, _, rfl, at_, code⟩ := F.ex
  have old : ∀ b o, base.get? b = some o → s.heap.get? b = some o := fun b o z => (e0.bs b o z).1
  have kin := e0.mod.kin.keeps old
  have vis : ∀ y ∈ ps.zip us, (defScope st).names.lookup y.1 = some .local ∨ ((defScope st).names.lookup y.1 = some .cell ∧ ((cellsFrom (s.heap.objs.size + 1) (defScope st).names []).lookup y.1).isSome = true) := by
    rintro ⟨nm, u⟩ hy
    exact (S.par nm (List.of_mem_zip hy).1).imp id fun q => ⟨q, PySem.W.cellsFrom_some _ _ _ (.inl q)⟩
  apply codeAny_call_function room.depth (kin _ _ at_) rfl S.co S.gen rfl (PySem.W.codeRec_of kin code)
  apply bd
  apply wpAny_newFunctionEnv_cells S.kind vis
  rintro env rfl s2 inc
  have lim := (e0.mod.nolimit.keeps old).keeps inc.toInCall.keep
  refine ⟨lim, codeAny_func ?_⟩
  obtain ⟨t, pt, ht⟩ := go cdv B os s H vs R T (room.deeper _) ng hs
  have J := inv_start (CX := CX0) (E := T) S room.hd e0 (len _ _ _ _ hs) rv inc
  apply wpAny_mono (pt.nox.run [] s2 (L2.start N vs) H _ J ht)
  · intro fl s3 h3
    match fl, h3 with
    | .ret u, ⟨v, _, H3, J3, r3, q3⟩ => exact ⟨v, H3, J3.os, J3.bare, J3.base, J3.hok, r3, q3⟩
    | .next, ⟨_, H3, J3, q3⟩ => exact ⟨V.non, H3, J3.os, J3.bare, J3.base, J3.hok, rfl, q3⟩
    | .brk, ⟨_, _, _, q3⟩ => exact q3.elim
    | .cont, ⟨_, _, _, q3⟩ => exact q3.elim
  · intro _ _ z
    exact z
/-- the first call of the law's def: the guards are empty there -/
theorem callG {P : Program} {w : World} {K : PySem.W.Frag} {mg mb : Str → Option Value} {k : Nat} {fa a : Addr} {fd : FuncData} {x : Str} {sp : Sp} {s1 : Shared} {us : List Value} {zs : List Int}
    (kx : K.In s1.heap) (nm : s1.heap.Ns mainGlobals mg) (nb : s1.heap.Ns builtinsNs mb) (bb : ∀ y : Str, y ≠ "__name__" → mb y = bootBuiltins y) (nl : s1.heap.NoLimit) (ng : s1.gens = #[])
    (at_ : s1.heap.get? a = some { cls := .type "list", data := .seq us.toArray }) (iz : IntsAre us zs) (short : zs.length ≤ sizeLine) (room : Room k callerA)
    (F : ∀ base : Heap, K.In base → base.Ns mainGlobals mg → FnG P w K mg base k fa fd [x] sp) (bd : ∀ (s : Shared) (u : Value), BindsTo s fd ⟨[u], []⟩ [(x, u)])
    (spec : ∀ H : Hp, SqL K H a (zs.map V.int) → sp [.ref a] H (fun v _ => v = .bl true) fun _ _ _ => False) :
    codeAny (model P w) callerA (.call (.ref fa) ⟨[.ref a], []⟩) (fun r s2 => r = .ok (.ret (.bool true)) ∧ OldK s1.heap s2.heap ∧ s2.os = s1.os ∧ AllBare s2.gens) s1 := by
  have rv := vals_ints iz
  have lz := iz.length
  obtain ⟨H, hH, hn, hs⟩ : ∃ H : Hp, (∀ b u, H b = some u → b = a ∧ u = .frz { cls := .type "list", data := .seq us.toArray } (.lst (zs.map V.int))) ∧ (∀ o, K.lookup a = some o → H a = none) ∧ SqL K H a (zs.map V.int) := by
    cases hk : K.lookup a with
    | none =>
      refine ⟨fun b => if b = a then some (.frz { cls := .type "list", data := .seq us.toArray } (.lst (zs.map V.int))) else none, fun b u z => ?_, (fun o z => by cases z), .inl (.inr ⟨_, if_pos rfl⟩)⟩
      by_cases e : b = a
      · exact ⟨e, (Option.some.inj ((if_pos e).symm.trans z)).symm⟩
      · exact nomatch (if_neg e).symm.trans z
    | some o =>
      have e := at_.symm.trans (kx a o hk)
      cases e
      exact ⟨fun _ => none, (fun _ _ z => by cases z), fun _ _ => rfl, .inr ⟨_, us.toArray, _, hk, rfl, rfl, rfl, by rw [List.size_toArray, lz]; exact short, by simpa using rv⟩⟩
  have dict : ∀ (b : Addr) (o : Obj) (es : Array DictEntry) (ep : Nat), s1.heap.get? b = some o → o.data = .dict es ep → H b = none := fun b o es ep e d => by
    cases q : H b with
    | none => rfl
    | some u =>
      obtain ⟨rfl, _⟩ := hH b u q
      have e2 := Option.some.inj (at_.symm.trans e)
      rw [← e2] at d
      cases d
  have names : ∀ (b : Addr) (m : Str → Option Value), s1.heap.Ns b m → (hidT s1.heap H).Ns b m := by
    rintro b m ⟨o, es, ep, e, d, r⟩
    exact ⟨o, es, ep, hidT_get e (dict b o es ep e d), d, r⟩
  have kb : K.In (hidT s1.heap H) := fun b o e => hidT_get (kx b o e) <| by
    cases q : H b with
    | none => rfl
    | some u =>
      obtain ⟨rfl, _⟩ := hH b u q
      rw [hn o e] at q
      cases q
  have lim : (hidT s1.heap H).NoLimit := by
    obtain ⟨m, q1, q2⟩ := nl
    exact ⟨m, names _ _ q1, q2⟩
  have ok : HOk P w H s1.heap := fun b u q => by
    obtain ⟨rfl, rfl⟩ := hH b u q
    exact ⟨at_, by rw [List.length_map]; exact short, us, _, rv, at_⟩
  have env : Env0 P w K mg (hidT s1.heap H) callerA [] s1 H := by
    refine ⟨rfl, ⟨kb, names _ _ nm, ⟨mb, names _ _ nb, bb⟩, lim⟩, fun b o e => of_hidT e, Nat.le_of_eq (hidT_size _ _), trivial, fun b q => ?_, ok, .of_eq ng⟩
    cases q
  have main := F _ kb (names _ _ nm) callerA [] s1 H ⟨[.ref a], []⟩ [.ref a] [.ref a] _ _ room rfl env (bd s1 (.ref a)) (.cons rfl .nil) (spec H hs)
  apply codeAny_mono main
  intro r s2 z
  match r, z with
  | .ok (.ret u), ⟨v, H2, os, bare, un, ok2, rel, q⟩ =>
    have qv : v = .bl true := q
    subst qv
    have ru : u = Value.bool true := rel
    refine ⟨by rw [ru], OldK.of_keep fun b o e => ?_, os, bare⟩
    cases q2 : H b with
    | none => exact un.keep b o e q2 (fun y => by cases y) (by simp)
    | some t =>
      obtain ⟨rfl, rfl⟩ := hH b t q2
      have o1 := (ok b _ q2).1
      have o2 := (ok2 b _ (un.frzs b _ _ q2)).1
      exact o2.trans (o1.symm.trans e)
  | .ok .next, z => exact z.elim
  | .ok .brk, z => exact z.elim
  | .ok .cont, z => exact z.elim
  | .error e, z => exact z.elim
theorem walkG {l : PySem.W.OpenLaw} {n k : Nat} {q : Program} {loose : List Str} {XP : (Str → Option Value) → Heap → Prop} {YP : World → Heap → Prop} {d : DefRec} {K : Params → PySem.W.Frag} {sp : World → Sp} {x : Str}
    (most : l.most = some n) (nz : n ≤ sizeLine) (df : d.params.defaults = []) (room : Room k callerA) (inK : ∀ (w : World) (h : Heap), YP w h → (K w.params).In h)
    (F : ∀ (w : World) (mg : Str → Option Value) (fa : Addr) (h : Heap), (K w.params).In h → h.Ns mainGlobals mg → mg d.name = some (.ref fa) →
      ∃ fd : FuncData, (∀ (s : Shared) (u : Value), BindsTo s fd ⟨[u], []⟩ [(x, u)]) ∧ ∀ base : Heap, (K w.params).In base → base.Ns mainGlobals mg → FnG l.prog w (K w.params) mg base k fa fd [x] (sp w))
    (spec : ∀ (w : World) (H : Hp) (a : Addr) (zs : List Int), zs.length ≤ n → SqL (K w.params) H a (zs.map V.int) → sp w [.ref a] H (fun v _ => v = .bl true) fun _ _ _ => False) :
    PySem.W.WalkO q loose XP YP l.row.toRowW d [] (fun f vs => PySem.call f vs) := by
  apply Att.attach_call most df
  intro w s0 s1 mg mb fa o pm cd doc a us zs G Y _ _ _ hmg at_ iz len ng
  have kx := inK w _ Y
  obtain ⟨fd, bd, go⟩ := F w mg fa _ kx G.T.g hmg
  exact callG kx G.T.g G.T.b G.T.builtins G.T.nolimit ng at_ iz (Nat.le_trans len nz) room go bd fun H => spec w H a zs len
end Fb
namespace Fb
open PySem L2 PySem.Spec PyProof.Rows
/-! ### repr of data -/
/-- data that can be shown: how deep, how long -/
structure Sh (d : PyData) : Prop where
  show_ : d.showable = true
  nod : d.hasDict = false
  deep : d.depth ≤ 40
  long : d.shown.length ≤ sizeLine
def rReprD (K : PySem.W.Frag) : List V → Hp → VK → Prop := fun xs H Q => ∃ (v : V) (d : PyData), xs = [v] ∧ Dp K H v d ∧ Sh d ∧ Q (.str d.shown) H
theorem call_reprD {X : Cx} (ng : X.A.guards = some []) (room : X.A.units + 64 < cLine) : CallR X (.builtin "repr") (rReprD X.K) := by
  intro pins s σ H xs us Q I rel h
  obtain ⟨v, d, rfl, dp, sh, q⟩ := h
  obtain ⟨u, rfl, ru⟩ : ∃ u, us = [u] ∧ RelV v u := by
    cases rel with
    | cons a b => cases b; exact ⟨_, rfl, a⟩
  obtain ⟨as, rd⟩ := Dp.reads I d v u dp ru
  have deep := sh.deep
  cases dp with
  | non =>
    cases ru
    exact PySem.P.repr_of_none ⟨.str _, H, I.tok _, ⟨_, rfl⟩, q⟩
  | bl b =>
    cases ru
    exact PySem.P.repr_of_bool ⟨.str _, H, I.tok _, ⟨_, rfl⟩, q⟩
  | int i =>
    obtain ⟨t, rfl⟩ := ru
    have hi : i.natAbs.log2 < 1920 := by
      have := sh.show_
      rw [PyData.showable] at this
      exact of_decide_eq_true this
    have hq : Q (.str (toString i)) H := by rw [PyData.shown] at q; exact q
    exact PySem.P.repr_of_int hi ⟨.str _, H, I.tok _, ⟨_, rfl⟩, hq⟩
  | str x =>
    obtain ⟨t, rfl⟩ := ru
    have hx : (reprText x).length ≤ sizeLine := by
      have := sh.long
      rw [PyData.shown] at this
      exact this
    have hq : Q (.str (reprText x)) H := by rw [PyData.shown] at q; exact q
    exact PySem.P.repr_of_str ⟨.str _, H, I.tok _, ⟨_, rfl⟩, hq⟩ hx
  | lst hs ha =>
    cases ru
    exact repr_of_reads' rd sh.show_ (fun z => by rw [sh.nod] at z; cases z) ng (by omega) (fun _ _ e => e) (fun h' t tk keep => ⟨.str _, H, I.kept keep, ⟨_, rfl⟩, q⟩) sh.long
  | tup hs ha =>
    cases ru
    exact repr_of_reads' rd sh.show_ (fun z => by rw [sh.nod] at z; cases z) ng (by omega) (fun _ _ e => e) (fun h' t tk keep => ⟨.str _, H, I.kept keep, ⟨_, rfl⟩, q⟩) sh.long
end Fb
namespace Fb
open PySem L2 PySem.Spec PyProof.Rows
/-! ### how long the forms are when they are shown -/
structure Sw (n b : Nat) (d : PyData) : Prop where
  a : d.showable = true
  c : d.hasDict = false
  e : d.depth ≤ n
  l : d.shown.length ≤ b
structure Lw (n b : Nat) (ds : List PyData) : Prop where
  a : PyData.showableAll ds = true
  c : PyData.hasDictAll ds = false
  e : PyData.depthAll ds ≤ n
  l : piled (PyData.shownAll ds) ≤ b
theorem Sw.sh {n b : Nat} {d : PyData} (h : Sw n b d) (hn : n ≤ 40) (hb : b ≤ 16777216) : Sh d := ⟨h.a, h.c, Nat.le_trans h.e hn, Nat.le_trans h.l hb⟩
theorem Sw.mono {n b n' b' : Nat} {d : PyData} (h : Sw n b d) (hn : n ≤ n') (hb : b ≤ b') : Sw n' b' d := ⟨h.a, h.c, Nat.le_trans h.e hn, Nat.le_trans h.l hb⟩
theorem Lw.mono {n b n' b' : Nat} {d : List PyData} (h : Lw n b d) (hn : n ≤ n') (hb : b ≤ b') : Lw n' b' d := ⟨h.a, h.c, Nat.le_trans h.e hn, Nat.le_trans h.l hb⟩
theorem sw_int {i : Int} (h : i.natAbs < 10 ^ 20) : Sw 0 21 (.int i) := by
  have big : (10 : Nat) ^ 20 < 2 ^ 1920 := by decide +kernel
  refine ⟨?_, ?_, ?_, ?_⟩
  · rw [PyData.showable]
    exact decide_eq_true (PySem.Flt.log2_lt_of (by decide) (Nat.lt_trans h big))
  · rw [PyData.hasDict]
  · rw [PyData.depth]; exact Nat.le_refl 0
  · rw [PyData.shown]
    have := int_text_length_le10 (a := i) (k := 20) (by decide) h
    rw [PySem.ofString_length]
    exact this
theorem lw_nil (n : Nat) : Lw n 0 [] := ⟨rfl, rfl, Nat.zero_le _, Nat.le_refl 0⟩
theorem lw_cons {n b c : Nat} {d : PyData} {ds : List PyData} (h : Sw n b d) (hs : Lw n c ds) : Lw n (b + 2 + c) (d :: ds) := by
  refine ⟨?_, ?_, ?_, ?_⟩
  · rw [PyData.showableAll, h.a, hs.a]; rfl
  · rw [PyData.hasDictAll, h.c, hs.c]; rfl
  · rw [PyData.depthAll]; exact Nat.max_le.mpr ⟨h.e, hs.e⟩
  · rw [PyData.shownAll, piled_cons]
    have := h.l
    have := hs.l
    omega
theorem lw_all {n b : Nat} : ∀ {ds : List PyData}, (∀ d ∈ ds, Sw n b d) → Lw n (ds.length * (b + 2)) ds
  | [], _ => (lw_nil n).mono (Nat.le_refl n) (Nat.zero_le _)
  | d :: ds, h => by
    have := lw_cons (h d List.mem_cons_self) (lw_all fun x hx => h x (List.mem_cons_of_mem _ hx))
    refine this.mono (Nat.le_refl n) ?_
    rw [List.length_cons, Nat.add_mul]
    omega
theorem lw_app {n b c : Nat} : ∀ {ds es : List PyData}, Lw n b ds → Lw n c es → Lw n (b + c) (ds ++ es)
  | [], es, _, h => h.mono (Nat.le_refl n) (Nat.le_add_left _ _)
  | d :: ds, es, h, h2 => by
    have ha := h.a
    have hc := h.c
    have he := h.e
    have hl := h.l
    rw [PyData.showableAll, Bool.and_eq_true] at ha
    rw [PyData.hasDictAll, Bool.or_eq_false_iff] at hc
    rw [PyData.depthAll] at he
    rw [PyData.shownAll, piled_cons] at hl
    have r := lw_app (n := n) (b := piled (PyData.shownAll ds)) (c := c) (ds := ds) ⟨ha.2, hc.2, by omega, Nat.le_refl _⟩ h2
    have s : Sw n d.shown.length d := ⟨ha.1, hc.1, by omega, Nat.le_refl _⟩
    exact (lw_cons s r).mono (Nat.le_refl n) (by omega)
theorem Lw.tup {n b : Nat} {ds : List PyData} (h : Lw n b ds) : Sw (n + 1) (b + 2) (.tuple ds) := by
  refine ⟨?_, ?_, ?_, ?_⟩
  · rw [PyData.showable]; exact h.a
  · rw [PyData.hasDict]; exact h.c
  · rw [PyData.depth]; have := h.e; omega
  · rw [PyData.shown]
    have := fmt_text (PyData.shownAll ds)
    have := h.l
    omega
theorem sw_nat {p : Nat} (h : p < 10 ^ 20) : Sw 0 21 (.int (p : Int)) := sw_int (by omega)
theorem lw_nD {ns : List Nat} (h : ∀ p ∈ ns, p < 10 ^ 20) : Lw 0 (ns.length * 23) (nD ns) := by
  have := lw_all (n := 0) (b := 21) (ds := nD ns) fun d hd => by
    obtain ⟨p, hp, rfl⟩ := List.mem_map.mp hd
    exact sw_nat (h p hp)
  unfold nD at this
  rw [List.length_map] at this
  exact this
/-- rows of entries -/
theorem sw_row {n b m : Nat} {f : Int → PyData} {S : Int → Prop} (o : OrdN n f S) {l : List Int} (hs : ∀ a ∈ l, S a) (hp : l.Pairwise (· < ·)) (hw : ∀ a ∈ l, Sw m b (f a)) : Sw (m + 1) (l.length * (b + 2) + 21) (rowF f l) := by
  rcases row_cases o hs hp with ⟨all, e⟩ | ⟨_, _, _, _, e⟩
  · rw [e]
    have asc := asc_toNat (fun a ha => o.pos a (hs a ha)) hp
    have bd := alt_lt (s := -1) (.inr rfl) (n := 65) asc fun p hp => by
      obtain ⟨a, ha, rfl⟩ := List.mem_map.mp hp
      have := all a ha
      omega
    have e65 : (2 : Int) ^ 65 = 36893488147419103232 := by decide +kernel
    exact (sw_int (by rw [e65] at bd; omega)).mono (Nat.zero_le _) (Nat.le_add_left _ _)
  · rw [e]
    have := (lw_all (n := m) (b := b) (ds := l.map f) fun d hd => by
      obtain ⟨a, ha, rfl⟩ := List.mem_map.mp hd
      exact hw a ha).tup
    rw [List.length_map] at this
    exact this.mono (Nat.le_refl _) (by omega)
theorem sw_form {x : Int} {k : Nat} (h0 : -(2 ^ k) ≤ x) (h1 : x < 2 ^ k) (hk : k < 10 ^ 20) : Sw 1 ((k + 1) * 23 + 21) (formD x) := by
  rw [form_row]
  have lt := turns_len h0 h1
  have r := sw_row (m := 0) (b := 21) (ordN_int 0) (l := zs (turnsN x)) zs_pos (zs_asc (turns_asc x)) fun a ha => by
    obtain ⟨p, hp, rfl⟩ := List.mem_map.mp ha
    have := turns_lt h0 h1 p hp
    exact sw_nat (p := p) (by omega)
  rw [len_zs] at r
  refine r.mono (Nat.le_refl _) ?_
  have := Nat.mul_le_mul_right 23 lt
  omega
/-- a place -/
theorem sw_place {fs : List PyData} (F : Fields fs) {p : Nat} (hp : Pl p) : Sw 3 1600 (placeD fs p) := by
  obtain ⟨a, low, g, f2, f3, rfl, a0, a1, l0, l1, g0, g1, h2, h3⟩ := F.ex
  have i20 : ∀ i : Int, 0 ≤ i → i < 10 ^ 19 → Sw 0 21 (.int i) := fun i q0 q1 => sw_int (by omega)
  have r0 : p % 200 < 64 := by have := hp.2.2; omega
  have t7 : ((turnsN ((p % 200 : Nat) : Int)).length ≤ 7) ∧ ∀ q ∈ turnsN ((p % 200 : Nat) : Int), q < 10 ^ 20 := by
    have b0 : -(2 ^ 6) ≤ (((p % 200 : Nat)) : Int) := by omega
    have b1 : (((p % 200 : Nat)) : Int) < 2 ^ 6 := by omega
    exact ⟨turns_len b0 b1, fun q hq => by have := turns_lt b0 b1 q hq; omega⟩
  have small : Lw 0 161 (nD (turnsN ((p % 200 : Nat) : Int))) := (lw_nD t7.2).mono (Nat.le_refl 0) (by have := t7.1; omega)
  have w2 : ∃ t2, f2 = .tuple t2 ∧ Lw 0 92 t2 := by
    rcases h2 with ⟨d, d0, d1, rfl⟩ | ⟨d, d0, d1, rfl⟩
    · exact ⟨_, rfl, (lw_cons (i20 _ (by omega) (by omega)) (lw_cons (i20 _ (by omega) (by omega)) (lw_nil 0))).mono (Nat.le_refl 0) (by omega)⟩
    · exact ⟨_, rfl, (lw_cons (i20 _ (by omega) (by omega)) (lw_cons (i20 _ (by omega) (by omega)) (lw_cons (i20 _ (by omega) (by omega)) (lw_cons (i20 _ (by omega) (by omega)) (lw_nil 0))))).mono (Nat.le_refl 0) (by omega)⟩
  obtain ⟨t2, rfl, k2⟩ := w2
  have s2 : Sw 2 94 (.tuple t2) := k2.tup.mono (by decide) (Nat.le_refl _)
  have gi : ∀ i : Int, 0 ≤ i → i < 10 ^ 19 → Sw 2 21 (.int i) := fun i q0 q1 => (i20 i q0 q1).mono (by decide) (Nat.le_refl _)
  have w3 : ∃ t3, f3 = .tuple t3 ∧ Lw 2 500 t3 := by
    rcases h3 with rfl | ⟨e, ts, e0, e1, et, rfl⟩ | rfl
    · exact ⟨_, rfl, (lw_cons (gi _ (by omega) (by omega)) (lw_cons s2 (lw_nil 2))).mono (Nat.le_refl 2) (by omega)⟩
    · cases et
      have q : Sw 2 150 (.tuple (.int (e + 1) :: .int 64 :: t2)) := ((lw_cons (i20 (e + 1) (by omega) (by omega)) (lw_cons (i20 64 (by omega) (by omega)) k2)).tup).mono (by decide) (by omega)
      exact ⟨_, rfl, (lw_cons s2 (lw_cons q (lw_nil 2))).mono (Nat.le_refl 2) (by omega)⟩
    · have q : Sw 2 150 (.tuple [.int g, .tuple t2]) := ((lw_cons ((i20 g (by omega) (by omega)).mono (Nat.zero_le 1) (Nat.le_refl _)) (lw_cons (k2.tup) (lw_nil 1))).tup).mono (by decide) (by omega)
      exact ⟨_, rfl, (lw_cons (gi _ (by omega) (by omega)) (lw_cons (gi _ (by omega) (by omega)) (lw_cons s2 (lw_cons q (lw_nil 2))))).mono (Nat.le_refl 2) (by omega)⟩
  obtain ⟨t3, rfl, k3⟩ := w3
  have h4 : p / 200 = 0 ∨ p / 200 = 1 ∨ p / 200 = 2 ∨ p / 200 = 3 := by have := hp.2.1; omega
  have fw : ∀ x : Int, 0 ≤ x → x < 2 ^ 64 + 200 → Sw 3 1600 (formD x) := fun x x0 x1 => by
    refine (sw_form (k := 65) (x := x) (Int.le_trans (by decide) x0) (Int.lt_of_lt_of_le x1 (by decide)) (by decide)).mono (by decide) (by decide)
  rcases h4 with e | e | e | e
  · have pe : placeD [.int 0, .int a, .tuple t2, .tuple t3] p = formD (0 + ((p % 200 : Nat) : Int)) := by unfold placeD; rw [e]; rfl
    rw [pe]; exact fw _ (by omega) (by omega)
  · have pe : placeD [.int 0, .int a, .tuple t2, .tuple t3] p = formD (a + ((p % 200 : Nat) : Int)) := by unfold placeD; rw [e]; rfl
    rw [pe]; exact fw _ (by omega) (by omega)
  · have pe : placeD [.int 0, .int a, .tuple t2, .tuple t3] p = .tuple (nD (turnsN ((p % 200 : Nat) : Int)) ++ t2) := by unfold placeD; rw [e]; rfl
    rw [pe]; exact ((lw_app small k2).tup).mono (by decide) (by decide)
  · have pe : placeD [.int 0, .int a, .tuple t2, .tuple t3] p = .tuple (nD (turnsN ((p % 200 : Nat) : Int)) ++ t3) := by unfold placeD; rw [e]; rfl
    rw [pe]; exact ((lw_app (small.mono (by decide) (Nat.le_refl _)) k3).tup).mono (by decide) (by decide)
theorem sw_moved {fs : List PyData} (F : Fields fs) {c : Int} (h : Cd c) : Sw 4 1281621 (movedD fs c) := by
  rw [moved_row]
  have pl : ∀ a ∈ zs (turnsN c), Pl a := fun a ha => by
    obtain ⟨p, hp, rfl⟩ := List.mem_map.mp ha
    exact code_places h p hp
  have r := sw_row (m := 3) (b := 1600) (ordN_place F) pl (zs_asc (turns_asc c)) fun a ha => by
    have q := pl a ha
    have e : ((a.toNat : Nat) : Int) = a := by have := q.1; omega
    exact sw_place F (p := a.toNat) (by rw [e]; exact q)
  rw [len_zs] at r
  refine r.mono (Nat.le_refl _) ?_
  have lt := len_turns h.b.1 h.b.2
  have := Nat.mul_le_mul_right 1602 lt
  omega
theorem sw_codes {fs : List PyData} (F : Fields fs) {cs : List Int} (h : ∀ c ∈ cs, Cd c) (hp : cs.Pairwise (· < ·)) : Sw 5 (cs.length * 1281623 + 21) (codesD fs cs) :=
  sw_row (m := 4) (b := 1281621) (ordN_moved F) h hp fun _ hc => sw_moved F (h _ hc)
theorem sh_codes {fs : List PyData} (F : Fields fs) {cs : List Int} (h : ∀ c ∈ cs, Cd c) (hp : cs.Pairwise (· < ·)) (hl : cs.length ≤ 12) : Sh (codesD fs cs) :=
by
  have hb : cs.length * 1281623 + 21 ≤ 16777216 := by omega
  have r := sw_codes F h hp
  generalize cs.length * 1281623 + 21 = B at hb r
  exact r.sh (by decide) hb
end Fb
namespace Fb
open PySem L2
/-! ### codes a step apart -/
def Cq (c : Int) : Prop := 0 ≤ c ∧ c < 2 ^ 799 ∧ ∀ p ∈ turnsN c, Pl (p : Int)
theorem Cq.of {c : Int} (h : Cd c) : Cq c := ⟨h.b.1, h.b.2, code_places h⟩
/-- the turns of x - 1 -/
theorem dec_turns {x : Int} {t : Nat} {rest : List Nat} (h : turnsN x = t :: rest) : ∀ p ∈ turnsN (x - 1), p = 0 ∨ p ∈ turnsN x ∨ p = t + 1 := by
  have asc := turns_asc x
  have val := turns_alt x
  rw [h] at asc val
  obtain ⟨a1, a2⟩ := List.pairwise_cons.mp asc
  have key : ∀ L : List Nat, L.Pairwise (· < ·) → alt (-1) L = x - 1 → (∀ p ∈ L, p = 0 ∨ p ∈ t :: rest ∨ p = t + 1) → ∀ p ∈ turnsN (x - 1), p = 0 ∨ p ∈ turnsN x ∨ p = t + 1 := fun L hL e hp => by
    rw [← e, turns_of_alt hL, h]
    exact hp
  have pp : ∀ n : Nat, (2 : Int) ^ (n + 1) = 2 * 2 ^ n := fun n => by rw [Int.pow_succ]; omega
  have two : ∀ r2, rest = (t + 1) :: r2 → ∀ p ∈ turnsN (x - 1), p = 0 ∨ p ∈ turnsN x ∨ p = t + 1 := fun r2 hr => by
    subst hr
    obtain ⟨b1, b2⟩ := List.pairwise_cons.mp a2
    have v : -1 * 2 ^ t + (- -1 * 2 ^ (t + 1) + alt (- - -1) r2) = x := val
    have v' : (2 : Int) ^ t + alt (-1) r2 = x := by
      rw [pp] at v
      have e3 : (- - -1 : Int) = -1 := by decide
      rw [e3] at v
      omega
    by_cases t0 : t = 0
    · subst t0
      refine key r2 b2 ?_ fun p hp => .inr (.inl (List.mem_cons_of_mem _ (List.mem_cons_of_mem _ hp)))
      have : (2 : Int) ^ 0 = 1 := rfl
      omega
    · refine key (0 :: t :: r2) ?_ ?_ fun p hp => ?_
      · refine List.pairwise_cons.mpr ⟨fun p hp => ?_, List.pairwise_cons.mpr ⟨fun p hp => a1 p (List.mem_cons_of_mem _ hp), b2⟩⟩
        rcases List.mem_cons.mp hp with rfl | hp
        · omega
        · have := a1 p (List.mem_cons_of_mem _ hp); omega
      · show -1 * 2 ^ 0 + (- -1 * 2 ^ t + alt (- - -1) r2) = _
        have e3 : (- - -1 : Int) = -1 := by decide
        have e0 : (2 : Int) ^ 0 = 1 := rfl
        rw [e3, e0]
        omega
      · rcases List.mem_cons.mp hp with rfl | hp
        · exact .inl rfl
        · rcases List.mem_cons.mp hp with rfl | hp
          · exact .inr (.inl List.mem_cons_self)
          · exact .inr (.inl (List.mem_cons_of_mem _ (List.mem_cons_of_mem _ hp)))
  have far : (∀ p ∈ rest, t + 1 < p) → ∀ p ∈ turnsN (x - 1), p = 0 ∨ p ∈ turnsN x ∨ p = t + 1 := fun hf => by
    have v : -1 * 2 ^ t + alt (- -1) rest = x := val
    have e2 : (- -1 : Int) = 1 := by decide
    rw [e2] at v
    by_cases t0 : t = 0
    · subst t0
      refine key (1 :: rest) (List.pairwise_cons.mpr ⟨fun p hp => hf p hp, a2⟩) ?_ fun p hp => ?_
      · show -1 * 2 ^ 1 + alt (- -1) rest = _
        have e0 : (2 : Int) ^ 0 = 1 := rfl
        have e1 : (2 : Int) ^ 1 = 2 := rfl
        rw [e2, e1]
        omega
      · rcases List.mem_cons.mp hp with rfl | hp
        · exact .inr (.inr rfl)
        · exact .inr (.inl (List.mem_cons_of_mem _ hp))
    · refine key (0 :: t :: (t + 1) :: rest) ?_ ?_ fun p hp => ?_
      · refine List.pairwise_cons.mpr ⟨fun p hp => ?_, List.pairwise_cons.mpr ⟨fun p hp => ?_, List.pairwise_cons.mpr ⟨hf, a2⟩⟩⟩
        · rcases List.mem_cons.mp hp with rfl | hp
          · omega
          · rcases List.mem_cons.mp hp with rfl | hp
            · omega
            · have := hf p hp; omega
        · rcases List.mem_cons.mp hp with rfl | hp
          · omega
          · have := hf p hp; omega
      · show -1 * 2 ^ 0 + (- -1 * 2 ^ t + (- - -1 * 2 ^ (t + 1) + alt (- - - -1) rest)) = _
        have e3 : (- - -1 : Int) = -1 := by decide
        have e4 : (- - - -1 : Int) = 1 := by decide
        have e0 : (2 : Int) ^ 0 = 1 := rfl
        rw [e4, e3, e0, pp]
        omega
      · rcases List.mem_cons.mp hp with rfl | hp
        · exact .inl rfl
        · rcases List.mem_cons.mp hp with rfl | hp
          · exact .inr (.inl List.mem_cons_self)
          · rcases List.mem_cons.mp hp with rfl | hp
            · exact .inr (.inr rfl)
            · exact .inr (.inl (List.mem_cons_of_mem _ hp))
  cases rest with
  | nil => exact far fun p hp => by cases hp
  | cons u r2 =>
    have := a1 u List.mem_cons_self
    by_cases e : u = t + 1
    · subst e; exact two r2 rfl
    · refine far fun p hp => ?_
      rcases List.mem_cons.mp hp with rfl | hp
      · omega
      · have := (List.pairwise_cons.mp a2).1 p hp; omega
theorem digit_turns60 {d : Int} (h0 : 0 ≤ d) (h1 : d < 2 ^ 60) : ∀ p ∈ turnsN d, p ≤ 60 := fun p hp =>
  turns_lt (x := d) (n := 60) (by omega) h1 p hp
theorem code_places60 {m : Nat} {c : Int} (h : CodeB m (2 ^ 60) c) : ∀ p ∈ turnsN c, p < 799 ∧ p % 200 ≤ 60 := by
  obtain ⟨d, rfl, h2, _⟩ := h
  have t0 := digit_turns60 (h2 0).1 (h2 0).2
  have t1 := digit_turns60 (h2 1).1 (h2 1).2
  have t2 := digit_turns60 (h2 2).1 (h2 2).2
  have t3 := digit_turns60 (h2 3).1 (h2 3).2
  have n3 : 0 ≤ d 2 + d 3 * 2 ^ 200 := by have := (h2 2).1; have := (h2 3).1; omega
  have n2 : 0 ≤ d 1 + (d 2 + d 3 * 2 ^ 200) * 2 ^ 200 := by have := (h2 1).1; omega
  have e : val4 d = d 0 + (d 1 + (d 2 + d 3 * 2 ^ 200) * 2 ^ 200) * 2 ^ 200 := by unfold val4; omega
  rw [e, turns_two (h2 0).1 n2 (fun p hp => by have := t0 p hp; omega), turns_two (h2 1).1 n3 (fun p hp => by have := t1 p hp; omega), turns_two (h2 2).1 (h2 3).1 (fun p hp => by have := t2 p hp; omega)]
  intro p hp
  simp only [List.mem_append, List.map_append, List.mem_map] at hp
  rcases hp with hp | ⟨q, hq, rfl⟩ | ⟨q, ⟨r, hr, rfl⟩ , rfl⟩ | ⟨q, ⟨r, ⟨u, hu, rfl⟩, rfl⟩, rfl⟩
  · have := t0 p hp; omega
  · have := t1 q hq; omega
  · have := t2 r hr; omega
  · have := t3 u hu; omega
theorem Cq.dec {c : Int} (h : Cd c) (h1 : 1 ≤ c) : Cq (c - 1) := by
  have b := h.b
  refine ⟨by omega, by generalize (2 : Int) ^ 799 = B at b ⊢; omega, ?_⟩
  cases ht : turnsN c with
  | nil =>
    have v := turns_alt c
    rw [ht] at v
    have : (0 : Int) = c := v
    omega
  | cons t rest =>
    have pl := code_places60 h
    intro p hp
    rcases dec_turns ht p hp with rfl | hp | rfl
    · exact ⟨by decide, by decide, by decide⟩
    · have := pl p hp
      exact ⟨by omega, by omega, by omega⟩
    · have := pl t (by rw [ht]; exact List.mem_cons_self)
      exact ⟨by omega, by omega, by omega⟩
theorem ordN_movedQ {fs : List PyData} (F : Fields fs) : OrdN 4 (movedD fs) Cq := by
  have o := ordN_place F
  have pl : ∀ c, Cq c → ∀ a ∈ zs (turnsN c), Pl a := fun c h a ha => by
    obtain ⟨p, hp, rfl⟩ := List.mem_map.mp ha
    exact h.2.2 p hp
  have le : ∀ c, Cq c → (zs (turnsN c)).length ≤ 9000 := fun c h => by
    rw [len_zs]
    have := len_turns h.1 h.2.1
    omega
  refine { fm := fun c h => ?_, ord := fun c c' h h' => ?_, pos := fun c h => h.1, near := fun c h h64 => small_moved F h.1 h64, far := fun c h h64 => ?_ }
  · rw [moved_row]
    exact row_fm o (pl c h) (zs_asc (turns_asc c)) (le c h)
  · show cmpD 4 (movedD fs c) (movedD fs c') = _
    rw [moved_row, moved_row, row_ord o (pl c h) (pl c' h') (zs_asc (turns_asc c)) (zs_asc (turns_asc c')) (le c h) (le c' h'), cmpS_turns]
  · obtain ⟨hm, _, k⟩ := moveds F 0
    have := (k c h.1 h.2.1).2.2
    by_cases e : isNear (movedD fs c) = true
    · have := this e; omega
    · exact Bool.eq_false_iff.mpr e
theorem sw_movedQ {fs : List PyData} (F : Fields fs) {c : Int} (h : Cq c) : Sw 4 1281621 (movedD fs c) := by
  rw [moved_row]
  have pl : ∀ a ∈ zs (turnsN c), Pl a := fun a ha => by
    obtain ⟨p, hp, rfl⟩ := List.mem_map.mp ha
    exact h.2.2 p hp
  have r := sw_row (m := 3) (b := 1600) (ordN_place F) pl (zs_asc (turns_asc c)) fun a ha => by
    have q := pl a ha
    have e : ((a.toNat : Nat) : Int) = a := by have := q.1; omega
    exact sw_place F (p := a.toNat) (by rw [e]; exact q)
  rw [len_zs] at r
  refine r.mono (Nat.le_refl _) ?_
  have lt := len_turns h.1 h.2.1
  have := Nat.mul_le_mul_right 1602 lt
  omega
end Fb
namespace Fb
open PySem L2
/-! ### sizes of what codes make -/
theorem sum_nD (n : Nat) (ns : List Nat) : ((nD ns).map (sz n)).sum = (ns.length : Int) := by
  induction ns with
  | nil => rfl
  | cons x ns ih =>
    show sz n (.int (x : Int)) + ((nD ns).map (sz n)).sum = _
    rw [sz_int, ih, List.length_cons]
    omega
theorem sum_app (l m : List Int) : (l ++ m).sum = l.sum + m.sum := by
  induction l with
  | nil => show m.sum = 0 + m.sum; omega
  | cons x l ih =>
    show x + (l ++ m).sum = x + l.sum + m.sum
    omega
theorem sum_le {α : Type} {f : α → Int} {b : Int} : ∀ {l : List α}, (∀ x ∈ l, f x ≤ b) → (l.map f).sum ≤ (l.length : Int) * b
  | [], _ => by show (0 : Int) ≤ 0 * b; rw [Int.zero_mul]; exact Int.le_refl _
  | x :: l, h => by
    have a := h x List.mem_cons_self
    have c := sum_le (l := l) fun y hy => h y (List.mem_cons_of_mem _ hy)
    show f x + (l.map f).sum ≤ ((l.length + 1 : Nat) : Int) * b
    rw [Int.natCast_add, Int.add_mul]
    omega
theorem sz_tup (n : Nat) (ds : List PyData) : sz (n + 1) (.tuple ds) = 1 + (ds.map (sz n)).sum := rfl
theorem sz_f2 {n : Nat} {low g : Int} {f2 : PyData} (h : F2 low g f2) : ∃ ts, f2 = .tuple ts ∧ (ts.map (sz n)).sum ≤ 4 := by
  rcases h with ⟨d, _, _, rfl⟩ | ⟨d, _, _, rfl⟩
  · refine ⟨_, rfl, ?_⟩
    simp [sz_int]
  · refine ⟨_, rfl, ?_⟩
    simp [sz_int]
theorem sz_f3 {low g : Int} {f2 f3 : PyData} (h2 : F2 low g f2) (h : F3 g f2 f3) : ∃ ts, f3 = .tuple ts ∧ (ts.map (sz 2)).sum ≤ 14 := by
  obtain ⟨t2, rfl, k2⟩ := sz_f2 (n := 1) h2
  obtain ⟨t2', e2, k1⟩ := sz_f2 (n := 0) h2
  cases e2
  rcases h with rfl | ⟨e, ts, _, _, et, rfl⟩ | rfl
  · refine ⟨_, rfl, ?_⟩
    show sz 2 (.int g) + (sz 2 (.tuple t2) + 0) ≤ 14
    rw [sz_int, sz_tup]; omega
  · cases et
    refine ⟨_, rfl, ?_⟩
    show sz 2 (.tuple t2) + (sz 2 (.tuple (.int (e + 1) :: .int 64 :: t2)) + 0) ≤ 14
    rw [sz_tup, sz_tup]
    show 1 + (t2.map (sz 1)).sum + (1 + (sz 1 (.int (e + 1)) + (sz 1 (.int 64) + (t2.map (sz 1)).sum)) + 0) ≤ 14
    rw [sz_int, sz_int]; omega
  · refine ⟨_, rfl, ?_⟩
    show sz 2 (.int g) + (sz 2 (.int (g + 1)) + (sz 2 (.tuple t2) + (sz 2 (.tuple [.int g, .tuple t2]) + 0))) ≤ 14
    rw [sz_int, sz_int, sz_tup, sz_tup]
    show 1 + (1 + (1 + (t2.map (sz 1)).sum + (1 + (sz 1 (.int g) + (sz 1 (.tuple t2) + 0)) + 0))) ≤ 14
    rw [sz_int, sz_tup]; omega
theorem step_T (p : Nat) (h : p % 200 < 64) : (turnsN ((p % 200 : Nat) : Int)).length ≤ 7 := T_le (n := 6) (by omega) (by omega)
theorem sz_place {fs : List PyData} (F : Fields fs) {p : Nat} (h : Pl (p : Int)) : sz 3 (placeD fs p) ≤ (if p < 200 then 1 else 22) := by
  obtain ⟨_, h8, h6⟩ := h
  have p8 : p < 800 := by omega
  have p6 : p % 200 < 64 := by omega
  by_cases c : p < 200
  · rw [if_pos c, place0 F c, sz_int]
    exact Int.le_refl _
  rw [if_neg c]
  have st := step_T p p6
  obtain ⟨a, low, g, f2, f3, rfl, a0, a1, _, _, _, _, k2, k3⟩ := F.ex
  have q : p / 200 = 1 ∨ p / 200 = 2 ∨ p / 200 = 3 := by omega
  unfold placeD
  rcases q with q | q | q
  · rw [q]
    show sz 3 (formD (a + ((p % 200 : Nat) : Int))) ≤ 22
    unfold formD
    split
    · rw [sz_int]; decide
    · rename_i np
      rw [sz_tup, sum_nD]
      have nn : ¬ a + ((p % 200 : Nat) : Int) < 2 ^ 64 := fun h => np ⟨by omega, h⟩
      have t := T_pow (x := a + ((p % 200 : Nat) : Int) - 2 ^ 64) 64 (by omega)
      have t2 := T_le (x := a + ((p % 200 : Nat) : Int) - 2 ^ 64) (n := 6) (by omega) (by omega)
      rw [show a + ((p % 200 : Nat) : Int) - 2 ^ 64 + 2 ^ 64 = a + ((p % 200 : Nat) : Int) by omega] at t
      have : (turnsN (a + ((p % 200 : Nat) : Int))).length = T (a + ((p % 200 : Nat) : Int)) := rfl
      omega
  · rw [q]
    obtain ⟨ts, rfl, k⟩ := sz_f2 (n := 2) k2
    show sz 3 (.tuple (nD (turnsN ((p % 200 : Nat) : Int)) ++ ts)) ≤ 22
    rw [sz_tup, List.map_append, sum_app, sum_nD]
    omega
  · rw [q]
    obtain ⟨ts, rfl, k⟩ := sz_f3 k2 k3
    show sz 3 (.tuple (nD (turnsN ((p % 200 : Nat) : Int)) ++ ts)) ≤ 22
    rw [sz_tup, List.map_append, sum_app, sum_nD]
    omega
theorem sz_moved {fs : List PyData} (F : Fields fs) {c : Int} (h : Cd c) {A B : Nat} (z : Sz A B c) : sz 4 (movedD fs c) ≤ 1 + (A : Int) + 22 * (B : Int) := by
  obtain ⟨c0, c8⟩ := h.b
  have pl := code_places h
  obtain ⟨l0, l1⟩ := low_of_code h (Int.le_refl _)
  rcases moved_cases F c0 c8 with ⟨_, e⟩ | ⟨l, p, _, _, e⟩
  · rw [e, sz_int]; omega
  · rw [e, sz_tup, List.map_map]
    have l2 : ∀ p ∈ turnsN (c % 2 ^ 200), p < 200 := fun p hp => by
      have := turns_lt (n := 60) (x := c % 2 ^ 200) (by omega) l1 p hp
      omega
    have et := turns_two (a := c % 2 ^ 200) (b := c / 2 ^ 200) (k := 200) (by omega) (by omega) l2
    rw [show c % 2 ^ 200 + c / 2 ^ 200 * 2 ^ 200 = c by omega] at et
    rw [et] at pl ⊢
    rw [List.map_append, sum_app]
    have s1 : ((turnsN (c % 2 ^ 200)).map (sz 3 ∘ placeD fs)).sum ≤ ((turnsN (c % 2 ^ 200)).length : Int) * 1 := sum_le fun p hp => by
      have := sz_place F (pl p (List.mem_append_left _ hp))
      rw [if_pos (l2 p hp)] at this
      exact this
    have s2 : (((turnsN (c / 2 ^ 200)).map (· + 200)).map (sz 3 ∘ placeD fs)).sum ≤ (((turnsN (c / 2 ^ 200)).map (· + 200)).length : Int) * 22 := sum_le fun p hp => by
      have := sz_place F (pl p (List.mem_append_right _ hp))
      split at this
      · exact Int.le_trans this (by decide)
      · exact this
    rw [List.length_map] at s2
    have z1 : (turnsN (c % 2 ^ 200)).length ≤ A := z.1
    have z2 : (turnsN (c / 2 ^ 200)).length ≤ B := z.2
    omega
theorem sz_codes {fs : List PyData} (F : Fields fs) {cs : List Int} {A B : Nat} (h : ∀ c ∈ cs, Cd c) (z : ∀ c ∈ cs, Sz A B c) : sz 5 (codesD fs cs) ≤ 1 + (cs.length : Int) * (1 + (A : Int) + 22 * (B : Int)) := by
  have s := sum_le (f := sz 4) (l := cs.map (movedD fs)) (b := 1 + (A : Int) + 22 * (B : Int)) fun d hd => by
    obtain ⟨c, hc, rfl⟩ := List.mem_map.mp hd
    exact sz_moved F (h c hc) (z c hc)
  rw [List.length_map] at s
  have n0 : 0 ≤ (cs.length : Int) * (1 + (A : Int) + 22 * (B : Int)) := Int.mul_nonneg (by omega) (by omega)
  unfold codesD rowD
  split
  · rw [sz_int]; omega
  · split
    · rw [sz_int]; omega
    · rw [sz_tup]; omega
theorem ht_le : ∀ (n : Nat) (d : PyData), ht n d ≤ n
  | 0, d => by cases d <;> exact Int.le_refl _
  | n + 1, d => by
    cases d with
    | tuple ds =>
      show 1 + maxI (ds.map (ht n)) ≤ _
      by_cases e : ds.map (ht n) = []
      · rw [e]; show (1 : Int) + 0 ≤ _; omega
      · have m := maxI_mem e fun x hx => by
          obtain ⟨y, _, rfl⟩ := List.mem_map.mp hx
          exact ht_nonneg n y
        obtain ⟨y, _, ey⟩ := List.mem_map.mp m
        have := ht_le n y
        omega
    | _ => show (0 : Int) ≤ _; omega
theorem Gd.lv {n : Nat} {h : Int} {d : PyData} (g : Gd n h d) : Fb.lv n d ≤ n := by
  rw [lv_ht n d g.sp]
  exact ht_le n d
end Fb
namespace Fb
open PySem L2
section
variable {P : Program} {w : World} {K : PySem.W.Frag} {mg : Str → Option Value} {base : Heap} {f : Addr} {fd : FuncData}
abbrev S__law_code : Stmt := top 28
abbrev N__law_code : List Str := ["_law_tape", "_law_many", "_law_known", "_law_found", "_law_k", "_law_piece"]
abbrev P__law_code : List Str := ["_law_tape", "_law_many", "_law_known"]
theorem sc__law_code : FnScope N__law_code P__law_code (defScope S__law_code) := ⟨rfl, rfl, rfl, by decide +kernel, rfl, by decide +kernel, by decide +kernel⟩
/-- a code, and how many turns it has -/
def CodeW (m j : Nat) (c : Int) : Prop := Code m j c ∧ Sz (16 + 4 * j) 8 c
def spCode (K : PySem.W.Frag) : Sp := fun vs H Q _ => ∃ (τ : Tp) (many : Nat) (kl : Addr) (known : List Int) (m j n : Nat), vs = [.ref τ.t, .int (many : Int), .ref kl] ∧ SqL K H kl (known.map V.int) ∧ (∀ c ∈ known, CodeW m j c) ∧ j ≤ 100 ∧ known.length ≤ 1000 ∧
  1 ≤ many ∧ many ≤ m ∧ m ≤ 4 ∧ Tape K τ (n + 12) H ∧ ∀ (c : Int) (H' : Hp), Nd H H' → Tape K τ n H' → CodeW m (j + 1) c → Q (.int c) H'
theorem ok_code (F : Fun K "_law_code" "_law_code" S__law_code f fd) (B : Blt mg) (C_law_draw : Has P w K mg base 1 "_law_draw" P__law_draw [] (spDraw K)) (C_law_pick : Has P w K mg base 2 "_law_pick" P__law_pick [] (spPick K)) : FnOk P w K mg base CX0 3 f fd P__law_code (spCode K) := by
  have nd := sc__law_code.nd
  refine F.ok sc__law_code (fun vs H Q E h => ?_) (fun cdv A outer s H vs Q E hr h => ?_)
  · obtain ⟨τ, many, kl, known, m, j, n, rfl, _⟩ := h
    rfl
  obtain ⟨τ, many, kl, known, m, j, n, rfl, hS, hk, j100, kl1, m1, mm, m4, hT, q⟩ := h
  refine ⟨_, (C8.pss_cut (ps_if (PW.pt (pw_and (pt_cmpR (op_neD hr.units) (pv 2) (pe_lst pa_nil) (nomark _)) (pw_and1 (pt_cmpR op_eq (pe_H C_law_draw (hr.mono (by decide)) rfl (pa_cons (pv 0) (pa_cons pe_int pa_nil))) pe_int (nomark _))))) (pss_one (ps_ret (pe_op op_add (pe_H C_law_pick (hr.mono (by decide)) rfl (pa_cons (pv 0) (pa_cons (pv 2) pa_nil))) (pe_H C_law_draw (hr.mono (by decide)) rfl (pa_cons (pv 0) (pa_cons pe_int pa_nil)))))) pss_nil)
    (pss_cons (ps_set (i := 3) nd rfl (Or.inl rfl) (pe_H C_law_draw (hr.mono (by decide)) rfl (pa_cons (pv 0) (pa_cons pe_int pa_nil))))
    (pss_cons (ps_for PassesOwn.never rfl (pi_range1 (by rfl) B.range (pa_cons (pe_H C_law_draw (hr.mono (by decide)) rfl (pa_cons (pv 0) (pa_cons pe_int pa_nil))) pa_nil)) (pg_name (i := 4) nd rfl (Or.inl rfl)) (pss_cons (ps_set (i := 5) nd rfl (Or.inl rfl) (pe_H C_law_pick (hr.mono (by decide)) rfl (pa_cons (pv 0) (pa_cons (pe_lst (pa_cons pe_int (pa_cons pe_int (pa_cons pe_int (pa_cons pe_int (pa_cons (pe_op op_sub (pe_op op_shl pe_int (pe_op op_add pe_int (pe_H C_law_draw (hr.mono (by decide)) rfl (pa_cons (pv 0) (pa_cons pe_int pa_nil))))) pe_int) pa_nil)))))) pa_nil))))
    (pss_one (ps_set (i := 3) nd rfl (Or.inl rfl) (pe_op op_add (pv 3) (pe_op op_mul (pv 5) (pe_op op_shl pe_int (pe_op op_add (pe_op op_mul pe_int (pe_H C_law_draw (hr.mono (by decide)) rfl (pa_cons (pv 0) (pa_cons (pv 1) pa_nil)))) (pe_H C_law_draw (hr.mono (by decide)) rfl (pa_cons (pv 0) (pa_cons pe_int pa_nil)))))))))))
    (pss_one (ps_ret (pv 3)))))), ?_⟩
  refine ⟨fun σ H1 => σ = [some (.ref τ.t), some (.int (many : Int)), some (.ref kl), none, none, none] ∧ Nd H H1 ∧ Tape K τ (n + 11) H1, ?_, ?_⟩
  · refine ⟨_, rfl, (by show 0 ≤ sizeLine; decide), fun p np => ?_⟩
    have g0 : Same H (upd H p (.lst [])) := Same.new np
    refine ⟨.list (known.map .int), .list [], .lst (g0.seq hS) (dps_ints known), .lst (SqL.of upd_same) .nil, shaped_ints known, shaped_nil, _, rfl, ?_⟩
    have T0 : Tape K τ (n + 12) (upd H p (.lst [])) := hT.new np
    have g0' := Nd.of g0
    have hS' := g0.seq hS
    generalize upd H p _ = H0 at g0' T0 hS' ⊢
    rw [eqv_nil']
    refine iteDN (fun c => ?_) (fun c => ?_)
    · refine ⟨_, rfl, τ, _, n + 11, rfl, T0, by decide, lt_BigL (by decide), fun d H1 e1 T1 d0 d1 => ?_⟩
      refine ⟨rfl, _, rfl, ?_⟩
      refine iteD (fun c2 => ?_) (fun c2 => ?_)
      · refine ⟨_, rfl, _, rfl, τ, kl, _, n + 10, rfl, e1.sql hS', (by simpa using c), (by rw [List.length_map]; omega), T1, fun x i H2 e2 T2 hx => ?_⟩
        rw [List.getElem?_map] at hx
        obtain ⟨z, hz, rfl⟩ := Option.map_eq_some_iff.mp hx
        refine ⟨_, rfl, τ, _, n + 9, rfl, T2, by decide, lt_BigL (by decide), fun d' H3 e3 T3 d0' d1' => ?_⟩
        refine ⟨_, _, rfl, rfl, ?_⟩
        refine q _ _ (g0'.trans (e1.trans (e2.trans e3))) (T3.mono (by omega)) ?_
        obtain ⟨hk1, hk2⟩ := hk z (List.mem_of_getElem? hz)
        refine ⟨(code_add (by omega) hk1 d0').mono ?_, sz_add hk1 (by unfold cb; omega) hk2 d0' d1'⟩
        unfold cb
        omega
      · exact ⟨rfl, g0'.trans e1, T1⟩
    · exact iteF ⟨rfl, g0', T0.mono (by omega)⟩
  rintro σ H1 ⟨rfl, g, T1⟩
  refine ⟨_, rfl, τ, _, n + 10, rfl, T1, by decide, lt_BigL (by decide), fun d H2 e2 T2 d0 d1 => ?_⟩
  refine ⟨_, rfl, τ, _, n + 9, rfl, T2, by decide, lt_BigL (by decide), fun r H3 e3 T3 r0 r1 => ?_⟩
  refine ⟨_, rfl, (by omega), (by omega), ?_⟩
  have g3 := g.trans (e2.trans e3)
  refine for_range (lo := 0) (n := r.toNat) (fun i σ H' => ∃ (c : Int) (z1 z2 : Option V), σ = [some (.ref τ.t), some (.int (many : Int)), some (.ref kl), some (.int c), z1, z2] ∧ Nd H H' ∧ Tape K τ (n + 9 - 4 * i) H' ∧ CodeB m (70 + i * 2 ^ 55) c ∧ Sz (8 + 4 * i) (4 * i) c)
    ⟨d, _, _, rfl, g3, T3, code_small (by omega) d0 (by omega), sz_first d0 (by omega)⟩ (fun i σ H' hi h => ?_) (fun σ H' h => ?_)
  · obtain ⟨c, z1, z2, rfl, e, T, hc, hz⟩ := h
    have hi2 : i < 2 := by omega
    obtain ⟨k, hk'⟩ : ∃ k, n + 9 - 4 * i = k + 5 := ⟨n + 4 - 4 * i, by omega⟩
    rw [hk'] at T
    refine ⟨_, rfl, _, rfl, τ, _, k + 4, rfl, T, by decide, lt_BigL (by decide), fun a H4 e4 T4 a0 a1 => ?_⟩
    refine ⟨_, _, rfl, rfl, _, _, rfl, rfl, cpow ⟨by omega, by omega, by decide⟩, _, _, rfl, rfl, (by show 5 ≤ sizeLine; decide), fun p np => ?_⟩
    refine ⟨τ, p, _, k + 3, rfl, SqL.of upd_same, (by simp), (by show 5 ≤ 100000; decide), T4.new np, fun x i' H5 e5 T5 hx => ?_⟩
    obtain ⟨pc, rfl, p0, p1, hpc⟩ : ∃ pc, x = .int pc ∧ 0 ≤ pc ∧ pc < 2 ^ 40 ∧ Pc pc := by
      have hm := List.mem_of_getElem? hx
      have b1 : (2 : Int) ^ (1 + a).toNat ≤ 2 ^ 40 := p_le (by omega)
      have b0 : (0 : Int) < 2 ^ (1 + a).toNat := Int.pow_pos (by decide)
      simp only [List.mem_cons, List.not_mem_nil, or_false] at hm
      rcases hm with rfl | rfl | rfl | rfl | rfl
      · exact ⟨1, rfl, by decide, by decide, pc_1⟩
      · exact ⟨1, rfl, by decide, by decide, pc_1⟩
      · exact ⟨3, rfl, by decide, by decide, pc_3⟩
      · exact ⟨5, rfl, by decide, by decide, pc_5⟩
      · exact ⟨_, rfl, by omega, by omega, by rw [Int.one_mul]; exact pc_pow _⟩
    have e45 := e4.trans ((Nd.new (o := .lst [.int 1, .int 1, .int 3, .int 5, .int (1 * 2 ^ (1 + a).toNat - 1)]) np).trans e5)
    refine ⟨_, rfl, _, rfl, _, rfl, _, rfl, τ, _, k + 2, rfl, T5, by omega, lt_BigL (by omega), fun b H6 e6 T6 b0 b1 => ?_⟩
    refine ⟨_, _, rfl, rfl, .inl ⟨by decide, by decide⟩, _, rfl, τ, _, k + 1, rfl, T6, by decide, lt_BigL (by decide), fun t H7 e7 T7 t0 t1 => ?_⟩
    refine ⟨_, _, rfl, rfl, _, _, rfl, rfl, cpow ⟨by omega, by omega, by decide⟩, _, _, rfl, rfl, .inl ⟨by omega, by omega⟩, _, _, rfl, rfl, ?_⟩
    refine ⟨_, _, _, rfl, e.trans (e45.trans (e6.trans e7)), T7.mono (by omega), ?_⟩
    obtain ⟨bn, rfl⟩ := Int.eq_ofNat_of_zero_le b0
    obtain ⟨tn, rfl⟩ := Int.eq_ofNat_of_zero_le t0
    have cp := code_piece (k := bn) (s := tn) hc (by omega) m4 p0 p1 (by omega)
    have cz := sz_piece (k := bn) (s := tn) hc (by omega) (by omega) p0 p1 (by omega) hpc hz
    rw [show ((200 : Int) * (bn : Int) + (tn : Int)).toNat = 200 * bn + tn by omega, Int.one_mul]
    refine ⟨cp.mono ?_, cz.mono (by omega) (by omega)⟩
    rw [Int.natCast_add, Int.add_mul]
    omega
  · obtain ⟨c, z1, z2, rfl, e, T, hc, hz⟩ := h
    refine ⟨_, rfl, ?_⟩
    refine q _ _ e (T.mono (by omega)) ⟨hc.mono ?_, hz.mono (by omega) (by omega)⟩
    have : ((r.toNat : Nat) : Int) = r := by omega
    rw [this]
    unfold cb
    have h1 : r = 0 ∨ r = 1 ∨ r = 2 := by omega
    rcases h1 with rfl | rfl | rfl <;> omega
abbrev S__law_codes : Stmt := top 29
abbrev N__law_codes : List Str := ["_law_tape", "_law_many", "_law_count", "_law_known", "_law_found", "_law_k", "_law_code_here"]
abbrev P__law_codes : List Str := ["_law_tape", "_law_many", "_law_count", "_law_known"]
theorem sc__law_codes : FnScope N__law_codes P__law_codes (defScope S__law_codes) := ⟨rfl, rfl, rfl, by decide +kernel, rfl, by decide +kernel, by decide +kernel⟩
def spCodes (K : PySem.W.Frag) : Sp := fun vs H Q _ => ∃ (τ : Tp) (many count : Nat) (kv : V) (known : List Int) (m j n : Nat), vs = [.ref τ.t, .int (many : Int), .int (count : Int), kv] ∧ ((kv = .non ∧ known = []) ∨ ∃ kl, kv = .ref kl ∧ H kl = some (.lst (known.map V.int))) ∧
  (∀ c ∈ known, CodeW m j c) ∧ j ≤ 30 ∧ known.length ≤ 900 ∧ count ≤ 60 ∧ 1 ≤ many ∧ many ≤ m ∧ m ≤ 4 ∧ Tape K τ (n + 12 * count) H ∧
  ∀ (l : Addr) (cs : List Int) (H' : Hp), Nd H H' → Tape K τ n H' → H l = none → H' l = some (.lst (cs.map V.int)) → cs.Pairwise (· < ·) → (∀ c ∈ cs, CodeW m (j + count) c) → cs.length ≤ count → Q (.ref l) H'
theorem cb_mono {m i j : Nat} {c : Int} (h : CodeW m i c) (e : i ≤ j) : CodeW m j c := ⟨h.1.mono (by unfold cb; omega), h.2.mono (by omega) (by omega)⟩
/-- int of each item of a list -/
theorem ok_codes {dvs : List V} {kws : List (Str × V)} (F : FunD K "_law_codes" "_law_codes" (defArgs S__law_codes) (defBody S__law_codes) (defScope S__law_codes) dvs kws f fd) (B : Blt mg) (C_law_code : Has P w K mg base 3 "_law_code" P__law_code [] (spCode K)) : FnOk P w K mg base CX0 4 f fd P__law_codes (spCodes K) := by
  have nd := sc__law_codes.nd
  refine funD_ok F sc__law_codes (fun vs H Q E h => ?_) (fun cdv A outer s H vs Q E hr h => ?_)
  · obtain ⟨τ, many, count, kv, known, m, j, n, rfl, _⟩ := h
    rfl
  obtain ⟨τ, many, count, kv, known, m, j, n, rfl, hkv, hk, j30, kl9, c60, m1, mm, m4, hT, q⟩ := h
  refine ⟨_, (pss_cons (ps_set (i := 4) nd rfl (Or.inl rfl) (pe_lst pa_nil))
    (pss_cons (ps_for PassesOwn.never rfl (pi_range1 (by rfl) B.range (pa_cons (pv 2) pa_nil)) (pg_name (i := 5) nd rfl (Or.inl rfl)) (pss_cons (ps_set (i := 6) nd rfl (Or.inl rfl) (pe_H C_law_code (hr.mono (by decide)) rfl (pa_cons (pv 0) (pa_cons (pv 1) (pa_cons (pe_op op_cat (pe_orT (pv 3) (pe_one (pe_lst pa_nil))) (pv 4)) pa_nil)))))
    (pss_one (ps_if (pt_cmpR op_notIn_seq (pv 6) (pv 4) (by rfl)) (pss_one (ps_expr (pe_bm PySem.F.plainAttrs_list PySem.F.slot_list_append PySem.F.type_list_append mt_append (pv 4) (pa_cons (pv 6) pa_nil)))) pss_nil))))
    (pss_one (ps_ret (pe_callB cr_sortedI (by rfl) B.sorted (by decide +kernel) (pa_cons (pe_lc (own := [("_law_code_here", 6)]) (g := gName 6) (tt := tYes) rfl nd (pi_list (pv 4)) (blkOk_by (own := [("_law_code_here", 6)]) (N := N__law_codes) (sc := defScope S__law_codes) (by decide +kernel)) (fun _ _ _ _ _ => pg_name (i := 6) nd rfl (Or.inl rfl)) (fun _ _ _ _ _ => pts_nil) (fun _ _ _ _ _ => (pe_callTy call_intI (by rfl) B.int (by decide +kernel) (pa_cons (pv 6) pa_nil)))) pa_nil)))))), ?_⟩
  refine ⟨(by show 0 ≤ sizeLine; decide), fun p np => ?_⟩
  have g0 : Nd H (upd H p (.lst [])) := Nd.new np
  refine ⟨_, rfl, _, rfl, (by omega), (by omega), ?_⟩
  refine for_range (lo := 0) (n := ((count : Int)).toNat) (fun i σ H' => ∃ (z1 z2 : Option V) (fd : List Int), σ = [some (.ref τ.t), some (.int (many : Int)), some (.int (count : Int)), some kv, some (.ref p), z1, z2] ∧ Nd H H' ∧ Tape K τ (n + 12 * (count - i)) H' ∧ H' p = some (.lst (fd.map V.int)) ∧ fd.Nodup ∧ (∀ c ∈ fd, CodeW m (j + i) c) ∧ fd.length ≤ i)
    ⟨_, _, [], rfl, g0, (hT.new np).mono (by omega), upd_same, List.nodup_nil, (fun c hc => by cases hc), Nat.le_refl 0⟩ (fun i σ H' hi h => ?_) (fun σ H' h => ?_)
  · obtain ⟨z1, z2, fd, rfl, e, T, hp, hnd, hfd, hl⟩ := h
    have hi2 : i < count := by omega
    obtain ⟨n', hn'⟩ : ∃ n', n + 12 * (count - i) = n' + 12 ∧ n' = n + 12 * (count - (i + 1)) := ⟨_, by omega, rfl⟩
    rw [hn'.1] at T
    -- known or []: a list of the known ones
    have or_ : ∀ Q' : VK, (∀ r H1, Same H' H1 → H1 r = some (.lst (known.map V.int)) → Q' (.ref r) H1) → tOrT K (tVar 3) (tLst tNil) [some (.ref τ.t), some (.int (many : Int)), some (.int (count : Int)), some kv, some (.ref p), some (.int (0 + i)), z2] H' Q' := fun Q' hq => by
      rcases hkv with ⟨rfl, rfl⟩ | ⟨kl, rfl, hkl⟩
      · refine ⟨_, rfl, false, rfl, iteF ?_⟩
        exact ⟨(by show 0 ≤ sizeLine; decide), fun r nr => hq r _ (Same.new nr) upd_same⟩
      · have hkl' := e.lst hkl
        by_cases hz : known = []
        · subst hz
          refine ⟨_, rfl, false, .inl ⟨_, SqL.of hkl', rfl⟩, iteF ?_⟩
          exact ⟨(by show 0 ≤ sizeLine; decide), fun r nr => hq r _ (Same.new nr) upd_same⟩
        · refine ⟨_, rfl, true, .inl ⟨_, SqL.of hkl', ?_⟩, iteT ?_⟩
          · cases known with
            | nil => exact absurd rfl hz
            | cons _ _ => rfl
          · exact hq kl H' (Same.refl _) hkl'
    refine ⟨_, rfl, _, rfl, or_ _ fun r H1 e1 hr1 => ?_⟩
    refine ⟨_, rfl, r, p, _, _, rfl, rfl, hr1, e1 _ _ hp, ?_, fun l nl => ?_⟩
    · rw [List.length_map, List.length_map]
      exact Nat.le_trans (show _ ≤ 1000 by omega) (by decide)
    refine ⟨τ, many, l, known ++ fd, m, j + i, n', rfl, SqL.of (by rw [upd_same, List.map_append]), ?_, (by omega), (by rw [List.length_append]; omega), m1, mm, m4, (T.same e1).new nl, fun c H2 e2 T2 hc => ?_⟩
    · intro c hc
      rcases List.mem_append.mp hc with hc | hc
      · exact cb_mono (hk c hc) (by omega)
      · exact hfd c hc
    have e' : Nd H' H2 := (Nd.of e1).trans ((Nd.new nl).trans e2)
    have hp2 := e'.lst hp
    refine ⟨_, rfl, _, rfl, p, _, rfl, .inl (SqL.of hp2), rfl, flat_ints fd, _, rfl, ?_⟩
    rw [inV_int]
    refine iteDN (fun c1 => ?_) (fun c1 => ?_)
    · refine ⟨_, rfl, .inl ⟨rfl, _, SqL.of hp2⟩, _, rfl, p, _, _, rfl, rfl, hp2, ?_, ?_⟩
      · rw [List.length_map]
        exact Nat.lt_of_le_of_lt (show _ ≤ 1000 by omega) (by decide)
      · refine ⟨_, _, fd ++ [c], rfl, (e.trans e').mut np, ?_, (by rw [upd_same, List.map_append]; rfl), ?_, ?_, (by rw [List.length_append, List.length_singleton]; omega)⟩
        · rw [← hn'.2]
          exact hT.mut np T2
        · rw [List.nodup_append]
          exact ⟨hnd, by simp, fun a ha b hb => by simp at hb; subst hb; rintro rfl; exact c1 ha⟩
        · intro x hx
          rcases List.mem_append.mp hx with hx | hx
          · exact cb_mono (hfd x hx) (by omega)
          · simp at hx
            subst hx
            exact hc
    · refine ⟨_, _, fd, rfl, e.trans e', ?_, hp2, hnd, fun x hx => cb_mono (hfd x hx) (by omega), by omega⟩
      rw [← hn'.2]
      exact T2
  · obtain ⟨z1, z2, fd, rfl, e, T, hp, hnd, hfd, hl⟩ := h
    have hcount : ((count : Int)).toNat = count := rfl
    rw [hcount] at hfd hl T
    refine ⟨_, rfl, p, rfl, ⟨_, SqL.of hp⟩, fun D nD => ?_⟩
    refine lc_list (xs := fd.map V.int) (fun i H1 => Same H' H1 ∧ H1 D = some (.lst ((fd.take i).map V.int))) ⟨Same.new nD, upd_same⟩ (fun i H1 _ h => h.1.seq (SqL.of hp)) (fun i x H1 hx h => ?_) (fun H1 h => ?_)
    · obtain ⟨e1, hD⟩ := h
      rw [List.getElem?_map] at hx
      obtain ⟨c, hc, rfl⟩ := Option.map_eq_some_iff.mp hx
      have et : fd.take (i + 1) = fd.take i ++ [c] := by rw [List.take_add_one, hc]; rfl
      refine ⟨rfl, lcT ?_⟩
      refine ⟨_, rfl, _, rfl, _, hD, ?_, Same.mut e1 nD, by rw [upd_same, et, List.map_append]; rfl⟩
      rw [List.length_map, List.length_take]
      exact Nat.lt_of_le_of_lt (show _ ≤ 1000 by omega) (by decide)
    · obtain ⟨e1, hD⟩ := h
      rw [List.length_map, List.take_length] at hD
      refine ⟨_, _, rfl, SqL.of hD, fun ns l perm rise nl => ?_⟩
      have e2 : Nd H (upd H1 l (.lst (ns.map V.int))) := e.trans ((Nd.of e1).trans (Nd.new nl))
      refine q l ns _ e2 ((T.same e1).new nl |>.mono (by omega)) ?_ upd_same (strict_of perm hnd rise) (fun c hc => hfd c (perm.mem_iff.mp hc)) (by rw [perm.length_eq]; exact hl)
      exact e.f _ (e1.free nl)
end
end Fb
namespace Fb
open PySem L2
section
variable {P : Program} {w : World} {K : PySem.W.Frag} {mg : Str → Option Value} {base : Heap} {f : Addr} {fd : FuncData}
abbrev S__law_fields : Stmt := top 25
abbrev N__law_fields : List Str := ["_law_tape", "_law_many", "_law_first", "_law_found", "_law_low", "_law_top", "_law_gap"]
abbrev P__law_fields : List Str := ["_law_tape", "_law_many"]
theorem sc__law_fields : FnScope N__law_fields P__law_fields (defScope S__law_fields) := ⟨rfl, rfl, rfl, by decide +kernel, rfl, by decide +kernel, by decide +kernel⟩
def spFields (K : PySem.W.Frag) : Sp := fun vs H Q _ => ∃ (τ : Tp) (m n : Nat), vs = [.ref τ.t, .int (m : Int)] ∧ m ≤ 4 ∧ Tape K τ (n + 10) H ∧
  ∀ (l : Addr) (xs : List V) (fs : List PyData) (H' : Hp), Nd H H' → Tape K τ n H' → Fields fs → H l = none → H' l = some (.lst xs) → DpAll K H' xs (fs.take m) → Q (.ref l) H'
theorem fm_f2 {low g : Int} {f2 : PyData} (h : F2 low g f2) : Fm 1 f2 := by
  obtain ⟨ts, rfl, k⟩ := f2_ok (n := 0) h
  exact k.gd0.fm
theorem fm_f3 {low g : Int} {f2 f3 : PyData} (h2 : F2 low g f2) (h : F3 g f2 f3) : Fm 3 f3 := by
  obtain ⟨ts, hh, rfl, _, k⟩ := f3_ok (n := 0) h2 h
  exact k.gd0.fm
theorem ok_fields (F : Fun K "_law_fields" "_law_fields" S__law_fields f fd) (B : Blt mg) (C_law_draw : Has P w K mg base 1 "_law_draw" P__law_draw [] (spDraw K)) (C_law_pick : Has P w K mg base 2 "_law_pick" P__law_pick [] (spPick K)) : FnOk P w K mg base CX0 3 f fd P__law_fields (spFields K) := by
  have nd := sc__law_fields.nd
  refine F.ok sc__law_fields (fun vs H Q E h => ?_) (fun cdv A outer s H vs Q E hr h => ?_)
  · obtain ⟨τ, m, n, rfl, _⟩ := h
    rfl
  obtain ⟨τ, m, n, rfl, m4, hT, q⟩ := h
  refine ⟨_, (pss_cons (ps_set (i := 2) nd rfl (Or.inl rfl) (pe_H C_law_pick (hr.mono (by decide)) rfl (pa_cons (pv 0) (pa_cons (pe_lst (pa_cons pe_int (pa_cons pe_int (pa_cons (pe_op op_sub (pe_op op_pow pe_int pe_int) pe_int) (pa_cons (pe_op op_sub (pe_op op_pow pe_int pe_int) pe_int) (pa_cons (pe_op op_pow pe_int pe_int) (pa_cons (pe_op op_add (pe_op op_mul (pe_op op_pow pe_int pe_int) pe_int) (pe_H C_law_draw (hr.mono (by decide)) rfl (pa_cons (pv 0) (pa_cons (pe_op op_pow pe_int pe_int) pa_nil)))) pa_nil))))))) pa_nil))))
    (pss_cons (ps_set (i := 3) nd rfl (Or.inl rfl) (pe_lst (pa_cons pe_int (pa_cons (pv 2) pa_nil))))
    (pss_cons (ps_set (i := 4) nd rfl (Or.inl rfl) (pe_op op_add pe_int (pe_H C_law_draw (hr.mono (by decide)) rfl (pa_cons (pv 0) (pa_cons pe_int pa_nil)))))
    (pss_cons (ps_expr (pe_bm PySem.F.plainAttrs_list PySem.F.slot_list_append PySem.F.type_list_append mt_append (pv 3) (pa_cons (pe_tup (pa_cons (pv 4) (pa_cons (pe_op op_add (pe_op op_add (pv 4) pe_int) (pe_H C_law_draw (hr.mono (by decide)) rfl (pa_cons (pv 0) (pa_cons pe_int pa_nil)))) pa_nil))) pa_nil)))
    (pss_cons (ps_par (i := 5) (j := 6) (by rfl) nd rfl rfl (by decide) rfl rfl (pa_cons (pe_ix ix_list (pv 3) pe_int (fun _ _ => rfl)) (pa_cons (pe_op op_add pe_int (pe_H C_law_draw (hr.mono (by decide)) rfl (pa_cons (pv 0) (pa_cons pe_int pa_nil)))) pa_nil)) (by rfl))
    (C8.pss_cut (ps_if (pt_cmpR op_eq (pe_H C_law_draw (hr.mono (by decide)) rfl (pa_cons (pv 0) (pa_cons pe_int pa_nil))) pe_int (nomark _)) (pss_cons (ps_asg (pe_tup (pa_cons (pv 4) (pa_cons (pe_op op_add (pv 4) pe_int) (pa_cons (pe_op op_add (pe_op op_add (pv 4) pe_int) (pv 6)) (pa_cons (pe_op op_add (pe_op op_add (pe_op op_add (pv 4) pe_int) (pe_op op_mul pe_int (pv 6))) (pe_H C_law_draw (hr.mono (by decide)) rfl (pa_cons (pv 0) (pa_cons (pe_op op_pow pe_int pe_int) pa_nil)))) pa_nil))))) (pg_sub (pv 3) pe_int set_list))
    (pss_one (ps_set (i := 5) nd rfl (Or.inl rfl) (pe_ix ix_list (pv 3) pe_int (fun _ _ => rfl))))) pss_nil)
    (pss_cons (ps_expr (pe_bm PySem.F.plainAttrs_list PySem.F.slot_list_append PySem.F.type_list_append mt_append (pv 3) (pa_cons (pe_tup (pa_cons (pv 6) (pa_cons (pv 5) pa_nil))) pa_nil)))
    (C8.pss_cut (ps_if (pt_cmpR op_eq (pe_H C_law_draw (hr.mono (by decide)) rfl (pa_cons (pv 0) (pa_cons pe_int pa_nil))) pe_int (nomark _)) (pss_cons (ps_asg (pe_tup (pa_cons (pv 5) (pa_cons (pe_op op_catA (pe_callTy call_tupL (by rfl) B.tuple (by decide +kernel) (pa_cons (pe_lst (pa_cons (pe_op op_add (pe_H C_law_draw (hr.mono (by decide)) rfl (pa_cons (pv 0) (pa_cons pe_int pa_nil))) pe_int) (pa_cons pe_int pa_nil))) pa_nil)) (pv 5)) pa_nil))) (pg_sub (pv 3) pe_int set_list))
    (pss_one (ps_if (pt_cmpR op_eq (pe_H C_law_draw (hr.mono (by decide)) rfl (pa_cons (pv 0) (pa_cons pe_int pa_nil))) pe_int (nomark _)) (pss_one (ps_asg (pe_tup (pa_cons (pv 6) (pa_cons (pe_op op_add (pv 6) pe_int) (pa_cons (pe_ix ix_list (pv 3) pe_int (fun _ _ => rfl)) (pa_cons (pe_tup (pa_cons (pv 6) (pa_cons (pv 5) pa_nil))) pa_nil))))) (pg_sub (pv 3) pe_int set_list))) pss_nil))) pss_nil)
    (pss_one (ps_ret (pe_slice sl_list (pv 3) po_none (po_some (pv 1))))))))))))), ?_⟩
  -- the first place
  refine ⟨_, rfl, _, _, rfl, rfl, cpow (by decide), _, _, rfl, rfl, _, _, rfl, rfl, cpow (by decide), _, _, rfl, rfl, _, _, rfl, rfl, cpow (by decide), _, _, rfl, rfl, cpow (by decide), _, _, rfl, rfl, .inl ⟨by decide, by decide⟩, _, rfl, _, _, rfl, rfl, cpow (by decide), τ, _, n + 9, rfl, hT, by decide, lt_BigL (by decide), fun d H1 e1 T1 d0 d1 => ?_⟩
  refine ⟨_, _, rfl, rfl, (by show 6 ≤ sizeLine; decide), fun p1 np1 => ?_⟩
  refine ⟨τ, p1, _, n + 8, rfl, SqL.of upd_same, (by simp), (by show 6 ≤ 100000; decide), T1.new np1, fun x i H2 e2 T2 hx => ?_⟩
  obtain ⟨a, rfl, a0, a1⟩ : ∃ a, x = .int a ∧ 130 ≤ a ∧ a < 2 ^ 64 := by
    have hm := List.mem_of_getElem? hx
    have d1' : d < 1000000 := d1
    simp only [List.mem_cons, List.not_mem_nil, or_false] at hm
    rcases hm with rfl | rfl | rfl | rfl | rfl | rfl
    · exact ⟨200, rfl, by decide, by decide⟩
    · exact ⟨130, rfl, by decide, by decide⟩
    · exact ⟨_, rfl, by decide, by decide⟩
    · exact ⟨_, rfl, by decide, by decide⟩
    · exact ⟨_, rfl, by decide, by decide⟩
    · refine ⟨(10 : Int) ^ (9 : Int).toNat * 1000 + d, rfl, ?_, ?_⟩
      · show (130 : Int) ≤ 10 ^ 9 * 1000 + d; omega
      · show (10 : Int) ^ 9 * 1000 + d < 2 ^ 64; omega
  have g2 : Nd H H2 := e1.trans ((Nd.new np1).trans e2)
  clear hx
  -- found = [0, first]; low
  refine ⟨_, rfl, (by show 2 ≤ sizeLine; decide), fun p np => ?_⟩
  refine ⟨_, rfl, τ, _, n + 7, rfl, T2.new np, by decide, lt_BigL (by decide), fun lo H3 e3 T3 lo0 lo1 => ?_⟩
  refine ⟨_, _, rfl, rfl, ?_⟩
  have npH : H p = none := g2.f _ np
  have g3 : Nd H H3 := g2.trans ((Nd.new np).trans e3)
  have hp3 := e3.lst (a := p) upd_same
  -- the second field
  refine ⟨_, rfl, .inl ⟨rfl, _, SqL.of hp3⟩, _, rfl, _, rfl, _, _, rfl, rfl, _, rfl, τ, _, n + 6, rfl, T3, by decide, lt_BigL (by decide), fun d2 H4 e4 T4 d20 d21 => ?_⟩
  refine ⟨_, _, rfl, rfl, (by show 2 ≤ sizeLine; decide), fun p3 np3 => ?_⟩
  have hp4 : upd H4 p3 (.tup [.int (200 + lo), .int (200 + lo + 1 + d2)]) p = some (.lst [.int 0, .int a]) := by
    rw [upd_ne (ne_of_none (e4.lst hp3) np3)]; exact e4.lst hp3
  refine ⟨p, _, _, rfl, rfl, hp4, (by show 2 < sizeLine; decide), ?_⟩
  have hf2 : ∀ g, F2 (200 + lo) g (.tuple [.int (200 + lo), .int (200 + lo + 1 + d2)]) := fun g => .inl ⟨d2, d20, d21, rfl⟩
  have st5 : ∃ (v : V), Nd H (upd (upd H4 p3 (.tup [.int (200 + lo), .int (200 + lo + 1 + d2)])) p (.lst ([.int 0, .int a] ++ [.ref p3]))) ∧ v = .ref p3 ∧ Tape K τ (n + 6) (upd (upd H4 p3 (.tup [.int (200 + lo), .int (200 + lo + 1 + d2)])) p (.lst ([.int 0, .int a] ++ [.ref p3]))) ∧
      upd (upd H4 p3 (.tup [.int (200 + lo), .int (200 + lo + 1 + d2)])) p (.lst ([.int 0, .int a] ++ [.ref p3])) p = some (.lst [.int 0, .int a, v]) ∧ Dp K (upd (upd H4 p3 (.tup [.int (200 + lo), .int (200 + lo + 1 + d2)])) p (.lst ([.int 0, .int a] ++ [.ref p3]))) v (.tuple [.int (200 + lo), .int (200 + lo + 1 + d2)]) := by
    refine ⟨.ref p3, ((g3.trans e4).trans (Nd.new np3)).mut npH, rfl, hT.mut npH (T4.new np3), upd_same, ?_⟩
    refine .tup (SqT.of ?_) (dps_ints [200 + lo, 200 + lo + 1 + d2])
    rw [upd_ne (by rintro rfl; rw [upd_same] at hp4; cases hp4)]
    exact upd_same
  obtain ⟨v2, g5, ev, T5, hp5, hv2⟩ := st5
  generalize hf2e : PyData.tuple [.int (200 + lo), .int (200 + lo + 1 + d2)] = f2 at hf2 hv2
  subst ev
  -- top, gap
  refine ⟨_, rfl, p, _, _, _, rfl, rfl, SqL.of hp5, (atI_nat (j := 2) rfl), _, rfl, τ, _, n + 5, rfl, T5, by decide, lt_BigL (by decide), fun gp H6 e6 T6 gp0 gp1 => ?_⟩
  refine ⟨_, _, rfl, rfl, _, _, rfl, ?_⟩
  -- another second field
  refine ⟨fun σ H' => ∃ (v : V) (f2 : PyData), σ = [some (.ref τ.t), some (.int (m : Int)), some (.int a), some (.ref p), some (.int (200 + lo)), some v, some (.int (150 + gp))] ∧ Nd H H' ∧ Tape K τ (n + 3) H' ∧ H' p = some (.lst [.int 0, .int a, v]) ∧ F2 (200 + lo) (150 + gp) f2 ∧ Dp K H' v f2, ?_, ?_⟩
  · refine ⟨_, rfl, τ, _, n + 4, rfl, T6, by decide, lt_BigL (by decide), fun d3 H7 e7 T7 _ _ => ?_⟩
    have e67 := e6.trans e7
    refine ⟨rfl, _, rfl, ?_⟩
    refine iteD (fun c => ?_) (fun c => ?_)
    · refine ⟨_, rfl, _, rfl, _, _, rfl, rfl, _, rfl, _, _, rfl, rfl, _, rfl, _, _, rfl, rfl, _, rfl, _, _, rfl, rfl, _, rfl, _, _, rfl, rfl, .inl ⟨by decide, by decide⟩, _, _, rfl, rfl, _, rfl, _, _, rfl, rfl, cpow (by decide), τ, _, n + 3, rfl, T7, by decide, lt_BigL (by decide), fun d4 H8 e8 T8 d40 d41 => ?_⟩
      refine ⟨_, _, rfl, rfl, (by show 4 ≤ sizeLine; decide), fun p4 np4 => ?_⟩
      have hp8 : H8 p = some (.lst [.int 0, .int a, .ref p3]) := (e67.trans e8).lst hp5
      have hp8' : upd H8 p4 (.tup [.int (200 + lo), .int (200 + lo + 7), .int (200 + lo + 9 + (150 + gp)), .int (200 + lo + 11 + 2 * (150 + gp) + d4)]) p = some (.lst [.int 0, .int a, .ref p3]) := by
        rw [upd_ne (ne_of_none hp8 np4)]; exact hp8
      refine ⟨_, rfl, p, _, _, 2, rfl, rfl, hp8', rfl, ?_⟩
      refine ⟨_, rfl, p, _, _, _, rfl, rfl, SqL.of upd_same, (atI_nat (j := 2) rfl), ?_⟩
      refine ⟨.ref p4, .tuple [.int (200 + lo), .int (200 + lo + 7), .int (200 + lo + 9 + (150 + gp)), .int (200 + lo + 11 + 2 * (150 + gp) + d4)], rfl, ((g5.trans (e67.trans e8)).trans (Nd.new np4)).mut npH, hT.mut npH (T8.new np4), upd_same, .inr ⟨d4, d40, d41, rfl⟩, ?_⟩
      refine .tup (SqT.of ?_) (dps_ints [200 + lo, 200 + lo + 7, 200 + lo + 9 + (150 + gp), 200 + lo + 11 + 2 * (150 + gp) + d4])
      rw [upd_ne (by rintro rfl; rw [upd_same] at hp8'; cases hp8')]
      exact upd_same
    · exact ⟨.ref p3, f2, rfl, g5.trans e67, T7.mono (by omega), e67.lst hp5, hf2 _, e67.d hv2⟩
  rintro σ H7 ⟨v, f2', rfl, g7, T7, hp7, k2, hv⟩
  -- the third field
  refine ⟨_, rfl, .inl ⟨rfl, _, SqL.of hp7⟩, _, rfl, _, rfl, (by show 2 ≤ sizeLine; decide), fun p5 np5 => ?_⟩
  have hp8 : upd H7 p5 (.tup [.int (150 + gp), v]) p = some (.lst [.int 0, .int a, v]) := by
    rw [upd_ne (ne_of_none hp7 np5)]; exact hp7
  refine ⟨p, _, _, rfl, rfl, hp8, (by show 3 < sizeLine; decide), ?_⟩
  have np5p : p5 ≠ p := by rintro rfl; rw [hp7] at np5; cases np5
  have fm2 := fm_f2 k2
  have st8 : ∃ H8, H8 = upd (upd H7 p5 (.tup [.int (150 + gp), v])) p (.lst ([.int 0, .int a, v] ++ [.ref p5])) ∧ Nd H H8 ∧ Tape K τ (n + 3) H8 ∧ H8 p = some (.lst [.int 0, .int a, v, .ref p5]) ∧ Dp K H8 v f2' ∧ Dp K H8 (.ref p5) (.tuple [.int (150 + gp), f2']) := by
    refine ⟨_, rfl, (g7.trans (Nd.new np5)).mut npH, hT.mut npH (T7.new np5), upd_same, ?_, ?_⟩
    · exact (Td.lst hp8).d fm2 ((Nd.new np5).d hv)
    · refine .tup (SqT.of (by rw [upd_ne np5p]; exact upd_same)) (.cons (.int _) (.cons ?_ .nil))
      exact (Td.lst hp8).d fm2 ((Nd.new np5).d hv)
  obtain ⟨H8, e8, g8, T8, hp8, hv8, hv5⟩ := st8
  rw [← e8]
  clear e8
  refine ⟨fun σ H' => ∃ (v3 : V) (f3 : PyData), σ = [some (.ref τ.t), some (.int (m : Int)), some (.int a), some (.ref p), some (.int (200 + lo)), some v, some (.int (150 + gp))] ∧ Nd H H' ∧ Tape K τ n H' ∧ H' p = some (.lst [.int 0, .int a, v, v3]) ∧ F3 (150 + gp) f2' f3 ∧ Dp K H' v f2' ∧ Dp K H' v3 f3, ?_, ?_⟩
  · refine ⟨_, rfl, τ, _, n + 2, rfl, T8, by decide, lt_BigL (by decide), fun d5 H9 e9 T9 _ _ => ?_⟩
    refine ⟨rfl, _, rfl, ?_⟩
    refine iteD (fun c => ?_) (fun c => ?_)
    · obtain ⟨ts, rfl, tk⟩ := f2_ok (n := 0) k2
      refine ⟨_, rfl, _, rfl, τ, _, n + 1, rfl, T9, by decide, lt_BigL (by decide), fun d6 H10 e10 T10 d60 d61 => ?_⟩
      refine ⟨_, _, rfl, rfl, (by show 2 ≤ sizeLine; decide), fun p6 np6 => ?_⟩
      refine ⟨_, _, rfl, SqL.of upd_same, fun p7 np7 => ?_⟩
      have e8a : Nd H8 (upd (upd H10 p6 (.lst [.int (d6 + 1), .int 64])) p7 (.tup [.int (d6 + 1), .int 64])) := (e9.trans e10).trans ((Nd.new np6).trans (Nd.new np7))
      have Ta : Tape K τ (n + 1) (upd (upd H10 p6 (.lst [.int (d6 + 1), .int 64])) p7 (.tup [.int (d6 + 1), .int 64])) := (T10.new np6).new np7
      have h7 : upd (upd H10 p6 (.lst [.int (d6 + 1), .int 64])) p7 (.tup [.int (d6 + 1), .int 64]) p7 = some (.tup [.int (d6 + 1), .int 64]) := upd_same
      generalize upd (upd H10 p6 _) p7 _ = Ha at e8a Ta h7 ⊢
      have hva := e8a.d hv8
      cases hva with
      | @tup va vxs _ hsq hda =>
      refine ⟨_, rfl, p7, va, _, vxs, rfl, rfl, SqT.of h7, hsq, ?_, fun h0 => (by cases h0), fun h0 h1 => ?_, fun h0 h1 p8 np8 => ?_⟩
      · have := dps_length hda
        have := tk.1
        exact Nat.le_trans (show 2 + vxs.length ≤ 52 by omega) (by decide)
      · obtain ⟨_, _, dl, el, _⟩ := tk
        rw [h1] at hda
        cases hda
        cases el
      refine ⟨(by show 2 ≤ sizeLine; decide), fun p9 np9 => ?_⟩
      have e8b : Nd H8 (upd (upd Ha p8 (.tup ([.int (d6 + 1), .int 64] ++ vxs))) p9 (.tup [.ref va, .ref p8])) := e8a.trans ((Nd.new np8).trans (Nd.new np9))
      have Tb : Tape K τ (n + 1) (upd (upd Ha p8 (.tup ([.int (d6 + 1), .int 64] ++ vxs))) p9 (.tup [.ref va, .ref p8])) := (Ta.new np8).new np9
      have hpb := e8b.lst hp8
      refine ⟨_, rfl, p, _, _, 3, rfl, rfl, hpb, rfl, ?_⟩
      have hvb := e8b.d hv8
      have hv9 : Dp K (upd (upd Ha p8 (.tup ([.int (d6 + 1), .int 64] ++ vxs))) p9 (.tup [.ref va, .ref p8])) (.ref p9) (.tuple [.tuple ts, .tuple (.int (d6 + 1) :: .int 64 :: ts)]) := by
        refine .tup (SqT.of upd_same) (.cons hvb (.cons ?_ .nil))
        refine .tup (SqT.of ((Nd.new np9).k _ _ upd_same fun _ z => nomatch z)) (.cons (.int _) (.cons (.int _) ?_))
        exact ((Nd.new np8).trans (Nd.new np9)).ds hda
      have k3 : F3 (150 + gp) (.tuple ts) (.tuple [.tuple ts, .tuple (.int (d6 + 1) :: .int 64 :: ts)]) := .inr (.inl ⟨d6, ts, d60, d61, rfl, rfl⟩)
      have td := Td.lst (o := .lst ([.int 0, .int a, .ref va, .ref p5].set 3 (.ref p9))) hpb
      have hvc := td.d fm2 hvb
      have hv9c := td.d (fm_f3 k2 k3) hv9
      have gc := (g8.trans e8b).mut (o := .lst ([.int 0, .int a, .ref va, .ref p5].set 3 (.ref p9))) npH
      have Tc := hT.mut (o := .lst ([.int 0, .int a, .ref va, .ref p5].set 3 (.ref p9))) npH Tb
      have hpc : upd (upd (upd Ha p8 (.tup ([.int (d6 + 1), .int 64] ++ vxs))) p9 (.tup [.ref va, .ref p8])) p (.lst ([.int 0, .int a, .ref va, .ref p5].set 3 (.ref p9))) p = some (.lst [.int 0, .int a, .ref va, .ref p9]) := upd_same
      generalize upd (upd (upd Ha p8 _) p9 _) p _ = Hc at hvc hv9c gc Tc hpc ⊢
      -- yet another third field
      refine ⟨_, rfl, τ, _, n, rfl, Tc, by decide, lt_BigL (by decide), fun d7 Hd ed Td' _ _ => ?_⟩
      refine ⟨rfl, _, rfl, ?_⟩
      refine iteD (fun c2 => ?_) (fun c2 => ?_)
      · have hpd := ed.lst hpc
        refine ⟨_, rfl, _, rfl, _, _, rfl, rfl, _, rfl, p, _, _, _, rfl, rfl, SqL.of hpd, (atI_nat (j := 2) rfl), _, rfl, _, rfl, (by show 2 ≤ sizeLine; decide), fun pa npa => ?_⟩
        refine ⟨(by show 4 ≤ sizeLine; decide), fun pb npb => ?_⟩
        have ee : Nd Hc (upd (upd Hd pa (.tup [.int (150 + gp), .ref va])) pb (.tup [.int (150 + gp), .int (150 + gp + 1), .ref va, .ref pa])) := ed.trans ((Nd.new npa).trans (Nd.new npb))
        have Te := (Td'.new (o := .tup [.int (150 + gp), .ref va]) npa).new (o := .tup [.int (150 + gp), .int (150 + gp + 1), .ref va, .ref pa]) npb
        have hpe := ee.lst hpc
        refine ⟨_, rfl, p, _, _, 3, rfl, rfl, hpe, rfl, ?_⟩
        have hve := ee.d hvc
        have k3' : F3 (150 + gp) (.tuple ts) (.tuple [.int (150 + gp), .int (150 + gp + 1), .tuple ts, .tuple [.int (150 + gp), .tuple ts]]) := .inr (.inr rfl)
        have hvp : Dp K (upd (upd Hd pa (.tup [.int (150 + gp), .ref va])) pb (.tup [.int (150 + gp), .int (150 + gp + 1), .ref va, .ref pa])) (.ref pb) (.tuple [.int (150 + gp), .int (150 + gp + 1), .tuple ts, .tuple [.int (150 + gp), .tuple ts]]) := by
          refine .tup (SqT.of upd_same) (.cons (.int _) (.cons (.int _) (.cons hve (.cons ?_ .nil))))
          exact .tup (SqT.of ((Nd.new npb).k _ _ upd_same fun _ z => nomatch z)) (.cons (.int _) (.cons hve .nil))
        have td2 := Td.lst (o := .lst ([.int 0, .int a, .ref va, .ref p9].set 3 (.ref pb))) hpe
        exact ⟨.ref pb, _, rfl, (gc.trans ee).mut npH, hT.mut npH Te, upd_same, k3', td2.d fm2 hve, td2.d (fm_f3 k2 k3') hvp⟩
      · exact ⟨.ref p9, _, rfl, gc.trans ed, Td', ed.lst hpc, k3, ed.d hvc, ed.d hv9c⟩
    · exact ⟨.ref p5, _, rfl, g8.trans e9, T9.mono (by omega), e9.lst hp8, .inl rfl, e9.d hv8, e9.d hv5⟩
  rintro σ H9 ⟨v3, f3, rfl, g9, T9, hp9, k3, hv9, hv39⟩
  refine ⟨_, rfl, _, rfl, _, rfl, _, _, rfl, SqL.of hp9, fun l nl => ?_⟩
  have Fs : Fields [.int 0, .int a, f2', f3] := ⟨a, 200 + lo, 150 + gp, f2', f3, rfl, a0, a1, by omega, by omega, by omega, by omega, k2, k3⟩
  have hall : DpAll K H9 [.int 0, .int a, v, v3] [.int 0, .int a, f2', f3] := .cons (.int 0) (.cons (.int a) (.cons hv9 (.cons hv39 .nil)))
  have ec : cutV [V.int 0, .int a, v, v3] none (some (m : Int)) = [V.int 0, .int a, v, v3].take m := by
    match m, m4 with
    | 0, _ => rfl
    | 1, _ => rfl
    | 2, _ => rfl
    | 3, _ => rfl
    | 4, _ => rfl
  rw [ec]
  have htake : ∀ (k : Nat) (vs : List V) (ds : List PyData) (H : Hp), DpAll K H vs ds → DpAll K H (vs.take k) (ds.take k) := by
    intro k
    induction k with
    | zero => intro vs ds H _; exact .nil
    | succ k ih =>
      intro vs ds H h
      cases h with
      | nil => exact .nil
      | cons h1 h2 => exact .cons h1 (ih _ _ _ h2)
  exact q l _ _ _ (g9.trans (Nd.new nl)) (T9.new nl) Fs (g9.f _ nl) upd_same (htake m _ _ _ ((Nd.new nl).ds hall))
end
end Fb
namespace Fb
open PySem L2 PyProof.Rows
/-- the binary signs of a number, the highest first -/
def digB (n : Nat) : List Nat := (Nat.toDigits 2 n).map Char.toNat
section
open Builtin Builtin.Str Builtin.Int Builtin.Float PySem.W
theorem cps_b : ("b" : Str).cps.toList = [98] := by decide +kernel
theorem parse_b (name : String) : parseFormatSpec ("b" : Str).cps.toList name 62 = .ok { align := 62, type := some 98 } := by
  rw [cps_b]; kernel_rfl
theorem field_plain (ds : List Nat) : intField' { align := 62, type := some 98 } false [] ds [] 4 = SX.S ds := by
  unfold intField'
  cases ds with
  | nil => rfl
  | cons d ds =>
    simp
    omega
theorem meets_fmt (spec : Str) (f : FormatSpec) (hf : f = { align := 62, type := some 98 }) (hp : parseFormatSpec spec.cps.toList "int" 62 = .ok f) (hne : (spec.length == 0) = false)
    (hasc : ((spec.cps.toList.drop 1).any (· ≥ 128) || (spec.cps.getD 0 0 ≥ 128 && !([60, 62, 61, 94] : List Nat).contains (spec.cps.getD 1 0))) = false)
    (n : Nat) (t u : Tok) (hz : (digB n).length ≤ sizeLine) : Meets («int.__format__» ⟨[.int (n : Int) t, .str spec u], []⟩) (fun _ R s => ∀ t' k, R (.ok (.ret (.str (SX.S (digB n)) t'))) { s with toks := k }) := by
  apply PySem.W.KPc.meets_of
  intro prog w A s Q E h
  unfold Builtin.«int.__format__»
  simp only [selfAndOne, noKeywords, Int.intOfSelf, asInt?, asStr?, List.isEmpty_nil, if_true, pure_bind, bind_assoc, hne, hasc, Bool.false_eq_true, if_false,
    show (Value.str spec u == Value.none) = false from rfl]
  refine wpAny_bind (wpAny_typeNameOf (T := "str") (typeIs_str _ _ _) (by decide) fun _ => ?_)
  refine wpAny_bind (wpAny_typeNameOfCut_int ?_)
  have hty : f.type = some 98 := by rw [hf]
  have hpr : f.precision = none := by rw [hf]
  have hnz : f.noNeg0 = false := by rw [hf]
  have hw : f.width = none := by rw [hf]
  have hal : f.alt = false := by rw [hf]
  have hgr : f.grouping = none := by rw [hf]
  have hsg : f.sign = none := by rw [hf]
  have hfi : f.fill = 32 := by rw [hf]
  have hag : f.align = 62 := by rw [hf]
  simp only [hp, hty, Option.getD_some]
  rw [if_pos (by decide)]
  show wpAny _ _ (if _ then _ else _) _ _ _
  rw [if_neg (by simp [hpr])]
  show wpAny _ _ (if _ then _ else _) _ _ _
  rw [if_neg (by simp [hnz])]
  show wpAny _ _ (if _ then _ else _) _ _ _
  rw [if_neg (by decide)]
  show wpAny _ _ (if _ then _ else _) _ _ _
  rw [if_neg (by simp)]
  show wpAny _ _ (if _ then _ else _) _ _ _
  rw [if_neg (by simp [hw])]
  show wpAny _ _ (retStr _) _ _ _
  have hneg : decide ((n : Int) < 0) = false := decide_eq_false (by omega)
  simp only [hneg, hal, Int.natAbs_natCast, Bool.false_eq_true, if_false, show ((98 : Nat) == 88) = false from rfl, show ((2 : Nat) == 10) = false from rfl]
  subst hf
  have e := field_plain (digB n)
  refine KXf.ret_text (X := intField' { align := 62, type := some 98 } false [] (digB n) [] 4) e (by rw [e]; exact Nat.le_trans (Nat.le_of_eq (SX.S_len _)) hz) h
theorem meets_fmtB (n : Nat) (t u : Tok) (hz : (digB n).length ≤ sizeLine) : Meets («int.__format__» ⟨[.int (n : Int) t, .str "b" u], []⟩) (fun _ R s => ∀ t' k, R (.ok (.ret (.str (SX.S (digB n)) t'))) { s with toks := k }) :=
  meets_fmt "b" _ rfl (parse_b _) (by decide +kernel) (by decide +kernel) n t u hz
end
section
variable {X : Cx}
/-- f'{e:b}' of a number from 0 on -/
def tFmtB (te : TE) : TE := fun σ H Q => te σ H fun x H1 => ∃ n : Nat, x = .int (n : Int) ∧ (digB n).length ≤ sizeLine ∧ Q (.str (SX.S (digB n))) H1
theorem pe_fmtB {e : Expr} {te : TE} {k : Nat} {p1 p2 p3 p4 : Pos} (he : PE X e te) : PE X (.JoinedStr [.FormattedValue e (-1) (some (.JoinedStr [.Constant (.str "b") k p1] p2)) p3] p4) (tFmtB te) := by
  refine ⟨fun pins s σ H Q I h => ?_⟩
  refine wpAny_JoinedStr_one (wpAny_FormattedValue_spec (thn (he.run pins s σ H _ I h) fun v s1 hv => ?_))
  obtain ⟨x, H1, I1, r1, n, rfl, hz, q⟩ := hv
  obtain ⟨t, rfl⟩ := r1
  have hs : PE X (.JoinedStr [.Constant (.str "b") k p1] p2) (tC (.str "b")) := pe_joined1 pe_str
  refine thn (hs.run pins s1 σ H1 (fun x H2 => x = .str "b" ∧ H2 = H1) I1 ⟨rfl, rfl⟩) fun r s2 hr => ?_
  obtain ⟨y, H2, I2, r2, ey, eh⟩ := hr
  subst ey eh
  obtain ⟨t2, rfl⟩ := r2
  exact ⟨_, _, rfl, PySem.W.KXf.field_int rfl (by decide +kernel) (by decide +kernel) (fun u => meets_fmtB n t u hz) fun t' k' => ⟨.str (SX.S (digB n)), H2, I2.tok _, ⟨_, rfl⟩, q⟩⟩
/-! ### text[::-1] -/
theorem revS_idx (n : Nat) : Builtin.Str.strSliceIndices none none (-1) n = (List.range n).reverse := by
  show sliceRange ((n : Int) - 1) (-1) (-1) = _
  rw [PySem.W.krv_sliceRange, PySem.W.krv_range]
def tRevS (te : TE) : TE := fun σ H Q => te σ H fun x H1 => ∃ l : List Nat, x = .str (SX.S l) ∧ l.length ≤ sizeLine ∧ Q (.str (SX.S l.reverse)) H1
theorem pe_revS {e : Expr} {te : TE} {k : Nat} {p1 p2 p3 pos : Pos} (he : PE X e te) : PE X (.Subscript e (.Slice none none (some (.UnaryOp .USub (.Constant (.int 1) k p1) p2)) p3) pos) (tRevS te) := by
  refine ⟨fun pins s σ H Q I h => ?_⟩
  refine Subscript_ (thn (he.run pins s σ H _ I h) fun v s1 ⟨x, H1, I1, r1, q1⟩ => ?_)
  obtain ⟨cs, ex, hz, q⟩ := q1
  subst ex
  obtain ⟨tx, rfl⟩ := r1
  have hst : PO X (some (.UnaryOp .USub (.Constant (.int 1) k p1) p2)) (tPart (tUn (rU fun i => .int (-i)) (tC (.int 1)))) := po_some (pe_un un_neg pe_int)
  refine wpAny_Slice (thn (po_none.run pins s1 σ H1 (fun o H2 => o = none ∧ H2 = H1) I1 ⟨rfl, rfl⟩) fun vl s2 ⟨l, H2, I2, pl, el, e2⟩ => ?_)
  subst el e2
  refine thn (po_none.run pins s2 σ H2 (fun o H3 => o = none ∧ H3 = H2) I2 ⟨rfl, rfl⟩) fun vu s3 ⟨u, H3, I3, pu, eu, e3⟩ => ?_
  subst eu e3
  refine thn (hst.run pins s3 σ H3 (fun o H4 => o = some (-1) ∧ H4 = H3) I3 ⟨1, rfl, -1, rfl, rfl, rfl⟩) fun vs s4 ⟨o, H4, I4, ps, eo, e4⟩ => ?_
  subst eo e4
  have en : vl = .none ∧ vu = .none ∧ ∃ tk, vs = .int (-1) tk := by
    refine ⟨?_, ?_, ?_⟩
    · cases pl; rfl
    · cases pu; rfl
    · cases ps; exact ⟨_, rfl⟩
  obtain ⟨rfl, rfl, tk, rfl⟩ := en
  have I5 : L2.Inv X pins σ H4 { s4 with heap := s4.heap.push { cls := .type "slice", data := .fields #[.none, .none, .int (-1) tk] } } := I4.kept (t' := s4.toks) fun b ob q => Heap.get?_push_of_some _ q
  refine tail_any (ops := [.str (SX.S cs) tx, .ref s4.heap.objs.size]) (typeIs_str _ _ _) (PySem.F.slot_str_getitem.lookup) ?_ (by with_unfolding_all rfl)
  refine wpAny_getItem_str_slice (l := none) (u := none) (st := some (-1, tk)) ⟨_, Heap.get?_push_size _ rfl, rfl, rfl⟩ (by show ((-1 : Int) == 0) = false; decide) ?_
  have e1 : sliceMade (SX.S cs) tx none none (some (-1, tk)) = .str (SX.S cs.reverse) := by
    unfold sliceMade
    rw [if_neg (by show ¬ (((-1 : Int) == 1) && _) = true; simp)]
    unfold slicePicked
    have ha := PySem.W.krv_all cs.toArray
    have eb : (Builtin.Str.strSliceIndices none none (-1) (SX.S cs).length).filterMap ((SX.S cs).cps[·]?) = cs.reverse := by
      rw [revS_idx, List.filterMap_reverse]
      exact congrArg List.reverse ha
    exact congrArg (fun l : List Nat => Made.str (SX.S l)) eb
  rw [e1]
  exact ⟨by rw [SX.S_len, List.length_reverse]; exact hz, ⟨.str _, H4, I5.tok _, ⟨_, rfl⟩, q⟩⟩
end
end Fb
namespace Fb
open PySem L2 PyProof.Rows
/-- the binary signs, the lowest first -/
def lsb (m : Nat) : List Nat := (digB m).reverse
theorem lsb_one : lsb 1 = [49] := by decide +kernel
theorem lsb_zero : lsb 0 = [48] := by decide +kernel
theorem lsb_even {k : Nat} (h : 1 ≤ k) : lsb (2 * k) = 48 :: lsb k := by
  unfold lsb digB
  rw [Nat.toDigits_of_base_le (b := 2) (by decide) (by omega), List.map_append, List.reverse_append, show 2 * k / 2 = k by omega, show 2 * k % 2 = 0 by omega]
  rfl
theorem lsb_odd {k : Nat} (h : 1 ≤ k) : lsb (2 * k + 1) = 49 :: lsb k := by
  unfold lsb digB
  rw [Nat.toDigits_of_base_le (b := 2) (by decide) (by omega), List.map_append, List.reverse_append, show (2 * k + 1) / 2 = k by omega, show (2 * k + 1) % 2 = 1 by omega]
  rfl
theorem digB_len {n : Nat} : ∀ {m : Nat}, m < 2 ^ n → 1 ≤ n → (digB m).length ≤ n := by
  induction n with
  | zero => intro m _ h; omega
  | succ n ih =>
    intro m h _
    by_cases h2 : m < 2
    · have : digB m = [(m.digitChar).toNat] := by
        unfold digB
        rw [Nat.toDigits_of_lt_base h2]
        rfl
      rw [this]
      show 1 ≤ _
      omega
    · have n1 : 1 ≤ n := by
        rcases n with _ | n
        · exact absurd h (by omega)
        · omega
      have hm : m / 2 < 2 ^ n := by rw [Nat.pow_succ] at h; omega
      have := ih hm n1
      have e : digB m = digB (m / 2) ++ [((m % 2).digitChar).toNat] := by
        unfold digB
        rw [Nat.toDigits_of_base_le (b := 2) (by decide) (by omega), List.map_append]
        rfl
      rw [e, List.length_append]
      show _ + 1 ≤ _
      omega
/-- where the rows of zeros end -/
def posOf : Int → List Nat → List Int
  | _, [] => []
  | a, g :: gs => (a + g + 1) :: posOf (a + g + 1) gs
def plc : Int → List Nat → Int
  | a, [] => a
  | a, g :: gs => plc (a + g + 1) gs
theorem plc_snoc : ∀ (a : Int) (gs : List Nat) (g : Nat), plc a (gs ++ [g]) = plc a gs + g + 1
  | a, [], g => rfl
  | a, x :: gs, g => plc_snoc (a + x + 1) gs g
theorem posOf_snoc : ∀ (a : Int) (gs : List Nat) (g : Nat), posOf a (gs ++ [g]) = posOf a gs ++ [plc a gs + g + 1]
  | a, [], g => rfl
  | a, x :: gs, g => congrArg ((a + x + 1) :: ·) (posOf_snoc (a + x + 1) gs g)
theorem posOf_len : ∀ (a : Int) (gs : List Nat), (posOf a gs).length = gs.length
  | _, [] => rfl
  | a, x :: gs => congrArg (· + 1) (posOf_len (a + x + 1) gs)
abbrev zrow (g : Nat) : List Nat := List.replicate g 48
theorem joinL_cons (s : Nat) (p q : List Nat) (r : List (List Nat)) : TL.joinL [s] (p :: q :: r) = p ++ ([s] ++ TL.joinL [s] (q :: r)) := rfl
theorem joinL_grow (s c : Nat) (p : List Nat) : ∀ r : List (List Nat), TL.joinL [s] ((c :: p) :: r) = c :: TL.joinL [s] (p :: r)
  | [] => rfl
  | q :: r => rfl
theorem gaps_ex : ∀ m : Nat, 1 ≤ m → ∃ gs : List Nat, gs ≠ [] ∧ TL.joinL [49] (gs.map zrow) = lsb m ∧ (∀ c : Int, ∃ e : Int, posOf (c - 1) gs = (ones m).map (fun p : Nat => c + (p : Int)) ++ [e]) := by
  intro m
  induction m using Nat.strongRecOn with
  | ind m ih =>
    intro h1
    by_cases hm : m = 1
    · subst hm
      refine ⟨[0, 0], by simp, by rw [lsb_one]; rfl, fun c => ⟨c + 1, ?_⟩⟩
      have : ones 1 = [0] := by have := ones_odd 0; rw [ones_zero] at this; exact this
      rw [this]
      show [c - 1 + (0 : Nat) + 1, c - 1 + (0 : Nat) + 1 + (0 : Nat) + 1] = [c + ((0 : Nat) : Int), c + 1]
      simp
    · obtain ⟨k, hk⟩ : ∃ k, k = m / 2 := ⟨_, rfl⟩
      have k1 : 1 ≤ k := by omega
      obtain ⟨gs, ne, ej, ep⟩ := ih k (by omega) k1
      obtain ⟨g, r, rfl⟩ : ∃ g r, gs = g :: r := by
        cases gs with
        | nil => exact absurd rfl ne
        | cons g r => exact ⟨g, r, rfl⟩
      rcases (show m = 2 * k ∨ m = 2 * k + 1 by omega) with e | e
      · subst e
        refine ⟨(g + 1) :: r, by simp, ?_, fun c => ?_⟩
        · rw [lsb_even k1, ← ej]
          exact joinL_grow 49 48 (zrow g) (r.map zrow)
        · obtain ⟨z, hz⟩ := ep (c + 1)
          refine ⟨z, ?_⟩
          have e1 : posOf (c - 1) ((g + 1) :: r) = posOf (c + 1 - 1) (g :: r) := by
            show (c - 1 + ((g + 1 : Nat) : Int) + 1) :: posOf (c - 1 + ((g + 1 : Nat) : Int) + 1) r = (c + 1 - 1 + (g : Int) + 1) :: posOf (c + 1 - 1 + (g : Int) + 1) r
            rw [show c - 1 + ((g + 1 : Nat) : Int) + 1 = c + 1 - 1 + (g : Int) + 1 by omega]
          rw [e1, hz, ones_even, List.map_map]
          congr 1
          refine List.map_congr_left fun p _ => ?_
          show c + 1 + (p : Int) = c + ((p + 1 : Nat) : Int)
          omega
      · subst e
        refine ⟨0 :: g :: r, by simp, ?_, fun c => ?_⟩
        · rw [lsb_odd k1, ← ej]
          rfl
        · obtain ⟨z, hz⟩ := ep (c + 1)
          refine ⟨z, ?_⟩
          have e1 : posOf (c - 1) (0 :: g :: r) = c :: posOf (c + 1 - 1) (g :: r) := by
            show (c - 1 + ((0 : Nat) : Int) + 1) :: posOf (c - 1 + ((0 : Nat) : Int) + 1) (g :: r) = _
            rw [show c - 1 + ((0 : Nat) : Int) + 1 = c by omega, show c + 1 - 1 = c by omega]
          rw [e1, hz, ones_odd]
          show c :: _ = (c + ((0 : Nat) : Int)) :: _
          rw [List.map_map, show c + ((0 : Nat) : Int) = c by omega]
          show c :: (_ ++ [z]) = c :: (_ ++ [z])
          congr 2
          refine List.map_congr_left fun p _ => ?_
          show c + 1 + (p : Int) = c + ((p + 1 : Nat) : Int)
          omega
theorem joinL_le (s : Nat) : ∀ (ps : List (List Nat)) (p : List Nat), p ∈ ps → p.length ≤ (TL.joinL [s] ps).length
  | [], _, h => by cases h
  | [a], p, h => by cases List.mem_singleton.mp h; exact Nat.le_refl _
  | a :: b :: r, p, h => by
    rw [joinL_cons, List.length_append, List.length_append]
    rcases List.mem_cons.mp h with h | h
    · subst h; omega
    · have := joinL_le s (b :: r) p h
      omega
/-- the text of the signs, the lowest first, split at the ones -/
theorem split_bits {m : Nat} (h : 1 ≤ m) : ∃ gs : List Nat, Txt.split (SX.S (lsb m)) "1" = gs.map (fun g => SX.S (zrow g)) ∧ (∀ g ∈ gs, g ≤ (digB m).length) ∧ ∃ e : Int, posOf (-1) gs = (ones m).map (fun p : Nat => (p : Int)) ++ [e] := by
  obtain ⟨gs, ne, ej, ep⟩ := gaps_ex m h
  obtain ⟨e, he⟩ := ep 0
  refine ⟨gs, ?_, fun g hg => ?_, e, ?_⟩
  · have h1 : ("1" : Str) = SX.S [49] := by decide +kernel
    rw [h1, SX.split_S (by simp) (by decide), ← ej, TL.spl_join (fun e => ne (List.map_eq_nil_iff.mp e)) (fun p hp => ?_), List.map_map]
    · rfl
    · obtain ⟨g, _, rfl⟩ := List.mem_map.mp hp
      intro hc
      have := List.eq_of_mem_replicate hc
      exact absurd this (by decide)
  · have := joinL_le 49 (gs.map zrow) (zrow g) (List.mem_map_of_mem hg)
    rw [ej, List.length_replicate] at this
    unfold lsb at this
    rw [List.length_reverse] at this
    exact this
  · rw [show (-1 : Int) = 0 - 1 by decide, he]
    congr 1
    refine List.map_congr_left fun p _ => ?_
    omega
end Fb
namespace Fb
open PySem L2
/-- the lowest one taken away -/
theorem xor_low {m k : Nat} (h : Builtin.bitAnd (m : Int) (-(m : Int)) = 2 ^ k) (h2 : m / 2 ^ k % 2 = 1) : Builtin.bitXor (m : Int) (2 ^ k) = ((m - 2 ^ k : Nat) : Int) := by
  have e : ((2 : Int) ^ k) = ((2 ^ k : Nat) : Int) := (Int.natCast_pow 2 k).symm
  have a : m &&& 2 ^ k = 2 ^ k := by
    refine Nat.eq_of_testBit_eq fun i => ?_
    rw [Nat.testBit_and, Nat.testBit_two_pow]
    by_cases z : k = i
    · subst z
      rw [Nat.testBit_eq_decide_div_mod_eq, h2]
      simp
    · simp [z]
  have le : 2 ^ k ≤ m := by
    rw [← a]; exact Nat.and_le_left
  rw [PyProof.Rows.bitXor_and, e, PySem.W.os_band, a]
  omega
theorem marks_low2 {m : Nat} (h : m ≠ 0) : ∃ k : Nat, Builtin.bitAnd (m : Int) (-(m : Int)) = 2 ^ k ∧ 2 ^ k ≤ m ∧ ones m = k :: ones (m - 2 ^ k) ∧ m / 2 ^ k % 2 = 1 := by
  obtain ⟨k, a, b, c⟩ := marks_low h
  refine ⟨k, a, b, c, ?_⟩
  obtain ⟨j, q, e⟩ := low_of h
  have a2 := PySem.W.kbt_low j (q : Int)
  have e3 : (m : Int) = 2 ^ j * (2 * (q : Int) + 1) := by rw [e]; simp
  rw [← e3, a] at a2
  have e4 : (2 : Nat) ^ k = 2 ^ j := by
    have : ((2 ^ k : Nat) : Int) = ((2 ^ j : Nat) : Int) := by rw [Int.natCast_pow, Int.natCast_pow]; exact a2
    omega
  rw [e4]
  subst e
  rw [Nat.mul_div_cancel_left _ (Nat.two_pow_pos j)]
  omega
theorem intBits_le {x : Int} (h : InB x) : (Builtin.Int.intBits x : Int) ≤ 600002 := by
  unfold Builtin.Int.intBits
  by_cases z : (x == 0) = true
  · rw [if_pos z]; decide
  · rw [if_neg z]
    have l : x.natAbs.log2 < 600001 := PySem.Flt.log2_lt_of (by decide) (by
      have e : ((2 ^ 600000 : Nat) : Int) = 2 ^ 600000 := by decide +kernel
      have e2 : (2 : Nat) ^ 600001 = 2 * 2 ^ 600000 := by rw [Nat.pow_succ]; omega
      have p : 0 < 2 ^ 600000 := Nat.two_pow_pos 600000
      obtain ⟨h0, h1⟩ := h
      rw [e2]
      rw [← e] at h0 h1
      generalize (2 : Nat) ^ 600000 = B at *
      omega)
    omega
theorem shl_ok {x : Int} (h : InB x) : CShl x 1 := by
  have b := intBits_le h
  exact ⟨by decide, by omega⟩
section
variable {P : Program} {w : World} {K : PySem.W.Frag} {mg : Str → Option Value} {base : Heap} {f : Addr} {fd : FuncData}
def spOnesT : Sp := fun vs H Q _ => ∃ m : Nat, vs = [.int (m : Int)] ∧ 1 ≤ m ∧ m < 2 ^ 700000 ∧ ∀ (p : Addr) (H' : Hp), Same H H' → H p = none → H' p = some (.lst (nI (ones m))) → Q (.ref p) H'
end
end Fb
namespace Fb
open PySem L2 PyProof.Rows
/-! ### a sign, so many times -/
theorem fold_rep (c : Nat) : ∀ (k : Nat) (acc : Array Nat), (List.replicate k #[c]).foldl (· ++ ·) acc = acc ++ (List.replicate k c).toArray
  | 0, acc => by simp
  | k + 1, acc => by
    rw [List.replicate_succ, List.foldl_cons, fold_rep c k]
    apply Array.toList_inj.mp
    simp [List.replicate_succ]
theorem op_repS {X : Cx} : OpR X (binaryOp .Mult) (fun x y H Q => ∃ (c k : Nat), x = .str (SX.S [c]) ∧ y = .int (k : Int) ∧ k ≤ 1000000 ∧ Q (.str (SX.S (List.replicate k c))) H) := by
  intro pins s σ H x y v u Q I rx ry h
  obtain ⟨c, k, rfl, rfl, hk, q⟩ := h
  obtain ⟨t, rfl⟩ := rx
  obtain ⟨t', rfl⟩ := ry
  have l1 : (SX.S [c]).length = 1 := rfl
  have big : (1000000 : Nat) ≤ sizeLine := by decide
  refine P.mul_str (by rw [decide_eq_false (by omega), decide_eq_false (by omega)]; rfl) (fun h1 h2 => ?_) (fun h1 h2 => ?_) ?_
  · rw [l1]
    have h3 : (1 : Int) ≤ k := by omega
    have : (k : Int) ≤ 2 ^ 63 - 1 := by omega
    have h4 : 1 ≤ (2 ^ 63 - 1 : Int) / (k : Int) := (Int.le_ediv_iff_mul_le (by omega)).mpr (by omega)
    omega
  · rw [l1, Int.toNat_natCast, Nat.one_mul]
    exact decide_eq_false (by omega)
  · by_cases h0 : (k : Int) < 1
    · have : k = 0 := by omega
      subst this
      rw [if_pos h0]
      exact ⟨by decide, ⟨.str _, H, I.tok _, ⟨_, rfl⟩, q⟩⟩
    · rw [if_neg h0]
      by_cases h1 : k = 1
      · subst h1
        rw [if_pos (by rfl)]
        exact ⟨.str (SX.S [c]), H, I, ⟨t, rfl⟩, q⟩
      · have e : ((k : Int) == 1 || (SX.S [c]).length == 0) = false := by
          rw [l1]
          have : ((k : Int) == 1) = false := beq_false_of_ne (by omega)
          rw [this]; rfl
        rw [if_neg (by rw [e]; decide), Int.toNat_natCast]
        have e2 : (List.replicate k (SX.S [c]).cps).foldl (· ++ ·) #[] = (List.replicate k c).toArray := by
          show (List.replicate k #[c]).foldl (· ++ ·) #[] = _
          rw [fold_rep]
          simp
        rw [e2]
        exact ⟨by rw [SX.S_len, List.length_replicate]; omega, ⟨.str _, H, I.tok _, ⟨_, rfl⟩, q⟩⟩
/-! ### int(text, 2) -/
namespace Bx
open PySem.NumText PySem.Calls L2.Hx
def IsBit (c : Nat) : Prop := c = 48 ∨ c = 49
def binNum (l : List Nat) : Nat := l.foldl (fun a c => a * 2 + (c - 48)) 0
theorem digit_bin {c : Nat} (h : IsBit c) : digit? c = some (c - 48) := by
  unfold IsBit at h
  unfold digit?
  rw [if_pos (bb (show 48 ≤ c by omega) (show c ≤ 57 by omega))]
theorem step_bin {ds : Array Nat} {b : Bool} {c : Nat} (h : IsBit c) : PySem.NumText.step 2 (ds, b) c = some (ds.push (c - 48), true) := by
  have h' := h
  unfold IsBit at h'
  unfold PySem.NumText.step
  rw [if_neg (by rw [beq_iff_eq]; omega), digit_bin h]
  exact if_pos (by omega)
theorem foldl_bin : ∀ (cs : List Nat) (ds : Array Nat), (∀ c ∈ cs, IsBit c) → cs.foldlM (PySem.NumText.step 2) (ds, true) = some (cs.foldl (fun acc c => acc.push (c - 48)) ds, true)
  | [], _, _ => rfl
  | c :: cs, ds, h => by
    rw [List.foldlM_cons, step_bin (h c (List.mem_cons_self ..))]
    show cs.foldlM (PySem.NumText.step 2) (ds.push (c - 48), true) = _
    exact foldl_bin cs (ds.push (c - 48)) fun d hd => h d (List.mem_cons_of_mem _ hd)
theorem digits_bin {cs : List Nat} (h : ∀ c ∈ cs, IsBit c) (hne : cs ≠ []) : digits? 2 cs = some (cs.foldl (fun acc c => acc.push (c - 48)) #[]) := by
  cases cs with
  | nil => exact absurd rfl hne
  | cons c cs =>
    unfold digits?
    rw [List.foldlM_cons, step_bin (h c (List.mem_cons_self ..))]
    show (cs.foldlM (PySem.NumText.step 2) ((#[] : Array Nat).push (c - 48), true)).bind _ = _
    rw [foldl_bin cs _ fun d hd => h d (List.mem_cons_of_mem _ hd)]
    rfl
theorem push_bin : ∀ (cs : List Nat) (ds : Array Nat), (cs.foldl (fun acc c => acc.push (c - 48)) ds).foldl (fun acc d => acc * 2 + d) 0 = cs.foldl (fun a c => a * 2 + (c - 48)) (ds.foldl (fun acc d => acc * 2 + d) 0)
  | [], _ => rfl
  | c :: cs, ds => by
    rw [List.foldl_cons, push_bin cs (ds.push (c - 48)), List.foldl_cons]
    congr 1
    simp
theorem toHex {c : Nat} (h : IsBit c) : IsHex c := by unfold IsBit at h; unfold IsHex; omega
theorem basedB {cs : List Nat} (h : ∀ c ∈ cs, IsBit c) : based 2 cs = (2, false, cs) := by
  match cs, h with
  | [], _ => rfl
  | [a], h =>
    rcases h a (List.mem_cons_self ..) with rfl | rfl <;> rfl
  | a :: c :: r, h =>
    rcases h a (List.mem_cons_self ..) with rfl | rfl <;> rcases h c (List.mem_cons_of_mem _ (List.mem_cons_self ..)) with rfl | rfl <;> rfl
theorem read_bin {cs : List Nat} (h : ∀ c ∈ cs, IsBit c) (hne : cs ≠ []) : (int_private% "readNumeral") 0 2 cs = (int_private% "Numeral.value") ((binNum cs : Nat) : Int) := by
  have hx : ∀ c ∈ cs, IsHex c := fun c hc => toHex (h c hc)
  have hr : ∀ c ∈ cs.reverse, IsHex c := fun c hc => hx c (List.mem_reverse.mp hc)
  refine (readNumeral_eq 0 2 cs).trans ?_
  rw [dropB hx, signH hx]
  show judge 0 false (based 2 cs).1 (based 2 cs).2.1 (digits? (based 2 cs).1 (((based 2 cs).2.2.reverse.dropWhile blank).reverse)) = _
  rw [basedB h]
  show judge 0 false 2 false (digits? 2 ((cs.reverse.dropWhile blank).reverse)) = _
  rw [dropB hr, List.reverse_reverse, digits_bin h hne]
  show (int_private% "Numeral.value") (((cs.foldl (fun acc c => acc.push (c - 48)) (#[] : Array Nat)).foldl (fun acc d => acc * 2 + d) 0 : Nat) : Int) = _
  have z : (#[] : Array Nat).foldl (fun acc d => acc * 2 + d) 0 = 0 := by first | rfl | simp
  rw [push_bin, z] <;> rfl
set_option maxHeartbeats 4000000 in
theorem gives_bin {x : PySem.Str} {u t : Tok} (hl : x.length ≤ 640) (h : ∀ c ∈ x.cps.toList, IsBit c) (hne : x.cps.toList ≠ []) :
    Gives (Builtin.«int.__new__» ⟨[.type "int", .str x u, .int 2 t], []⟩) (.int ((binNum x.cps.toList : Nat) : Int)) :=
  .of_wp fun M A E s Q hQ => by
    obtain ⟨hp, g, d, tk, os⟩ := s
    have f1 := F.conv_sub_int
    have f2 := F.madeHere_int
    have f6 : typeOf (.str x u) = pure (.type "str") := rfl
    obtain ⟨e1, e2⟩ := seen_hex (x := x) (fun c hc => toHex (h c hc))
    have hs : (numSeenOf x).length ≤ 640 := by
      rw [e2, Array.length_toList]
      exact hl
    have hr : (int_private% "readNumeral") 0 2 (numSeenOf x) = (int_private% "Numeral.value") ((binNum x.cps.toList : Nat) : Int) := by
      rw [e2]
      exact read_bin h hne
    have ha : ((numSeenOf x).length == (numTextOf x).length) = true := by
      rw [e1, e2]
      exact beq_self_eq_true _
    have hk := Hid.mk (And.intro hs (And.intro hr ha))
    clear hs hr ha e1 e2 hl hne h
    repeat (any_goals (first
      | assumption
      | ((with_reducible show wpAny _ _ ((int_private% "intFromText") _ _ _) _ _ _); refine wp_textB hk.out.1 hk.out.2.1 hk.out.2.2 ?_)
      | wp_step))
    all_goals first | exact ⟨_, rfl, hQ⟩ | skip
theorem call_bin {prog : Program} {w : World} {A : Around} {E : Value → Shared → Prop} {s : Shared} {Q : Value → Shared → Prop} {x : PySem.Str} {u t : Tok} (hl : x.length ≤ 640) (h : ∀ c ∈ x.cps.toList, IsBit c) (hne : x.cps.toList ≠ [])
    (hQ : Q (.int ((binNum x.cps.toList : Nat) : Int) s.toks) { s with toks := s.toks + 1 }) : wpAny (model prog w) A (call (.type "int") [.str x u, .int 2 t]) Q E s :=
  callType_new F.called_int F.newNe_int (typeCall_int_2 _ _) (newCall_int_2 _ _) (fun obj => F.initArgs_range_2 obj _ _) F.entry_int_new (gives_bin hl h hne).meets (show (Made.int ((binNum x.cps.toList : Nat) : Int)).post _ s from ⟨rfl, hQ⟩)
end Bx
/-- int(t, 2) -/
def rIntBin : List V → Hp → VK → Prop := fun xs H Q => ∃ l : List Nat, xs = [.str (SX.S l), .int 2] ∧ l ≠ [] ∧ l.length ≤ 640 ∧ (∀ c ∈ l, Bx.IsBit c) ∧ Q (.int ((Bx.binNum l : Nat) : Int)) H
theorem call_int_bin {X : Cx} : CallR X (.type "int") rIntBin := by
  intro pins s σ H xs us Q I r h
  obtain ⟨l, rfl, hne, hl, hx, q⟩ := h
  obtain ⟨u, w', rfl, r1, r2⟩ := vals2 r
  obtain ⟨t1, rfl⟩ := r1
  obtain ⟨t2, rfl⟩ := r2
  exact Bx.call_bin (x := SX.S l) (by rw [SX.S_len]; exact hl) hx hne ⟨.int ((Bx.binNum l : Nat) : Int), H, I.tok _, ⟨_, rfl⟩, q⟩
/-! ### a list made over a range with a step -/
theorem lc_rangeC {lo c : Int} {n : Nat} {g : TG} {tt : TT} {te : TE} {vs : List Nat} {σ : L2.St} {H1 : Hp} {D : Addr} {Qd : Hp → Prop} (Pv : Nat → Hp → Prop) (h0 : Pv 0 (upd H1 D (.lst [])))
    (hs : ∀ i H, i < n → Pv i H → g (.int (lo + (i : Nat) * c)) (wipe σ vs) H fun σ2 H2 => wipe σ2 vs = wipe σ vs ∧ tt σ2 H2 fun b H3 =>
      if b = true then te σ2 H3 fun y H4 => ∃ acc, H4 D = some (.lst acc) ∧ acc.length < sizeLine ∧ Pv (i + 1) (upd H4 D (.lst (acc ++ [y]))) else Pv (i + 1) H3) (hd : ∀ H, Pv n H → Qd H) :
    ∃ W : Nat → Nat → Hp → Prop, (∃ m, W 0 m (upd H1 D (.lst []))) ∧ ∀ i m H, W i m H →
      ((Itc lo c n).stop i H ∧ Qd H) ∨ ((Itc lo c n).go i H ∧ ∃ Nx : Hp → Prop, (∀ H', Nx H' → ∃ m', m' < m ∧ W (i + 1) m' H') ∧ ∀ x H', (Itc lo c n).yld i H x H' → g x (wipe σ vs) H' fun σ2 H2 => wipe σ2 vs = wipe σ vs ∧ tt σ2 H2 fun b H3 =>
        if b = true then te σ2 H3 fun y H4 => ∃ acc, H4 D = some (.lst acc) ∧ acc.length < sizeLine ∧ Nx (upd H4 D (.lst (acc ++ [y]))) else Nx H3) := by
  refine ⟨fun i m H => m = n - i ∧ i ≤ n ∧ Pv i H, ⟨n, by simp, Nat.zero_le _, h0⟩, ?_⟩
  rintro i m H ⟨rfl, hi, p⟩
  by_cases hlt : i < n
  · refine .inr ⟨hlt, Pv (i + 1), fun H' p' => ⟨n - (i + 1), by omega, rfl, hlt, p'⟩, fun x H' y => ?_⟩
    obtain ⟨e, y⟩ := y
    subst e y
    exact hs i _ hlt p
  · have e : i = n := by omega
    subst e
    exact .inl ⟨Nat.le_refl _, hd H p⟩
end Fb
namespace Fb
open PySem L2 PyProof.Rows Bx
theorem binF (l : List Nat) : ∀ a : Nat, l.foldl (fun a c => a * 2 + (c - 48)) a = a * 2 ^ l.length + binNum l := by
  induction l with
  | nil => intro a; simp [binNum]
  | cons c l ih =>
    intro a
    unfold binNum
    rw [List.foldl_cons, List.foldl_cons, ih, ih (0 * 2 + (c - 48)), List.length_cons, Nat.pow_succ, Nat.add_mul, Nat.add_mul]
    have : a * 2 * 2 ^ l.length = a * (2 ^ l.length * 2) := by rw [Nat.mul_assoc, Nat.mul_comm 2]
    omega
theorem binNum_app (a b : List Nat) : binNum (a ++ b) = binNum a * 2 ^ b.length + binNum b := by
  show (a ++ b).foldl _ 0 = _
  rw [List.foldl_append, binF]
  rfl
theorem binNum_zeros (m : Nat) : binNum (List.replicate m 48) = 0 := by
  induction m with
  | zero => rfl
  | succ m ih =>
    rw [show List.replicate (m + 1) 48 = [48] ++ List.replicate m 48 from rfl, binNum_app, ih]
    show (0 * 2 + (48 - 48)) * _ + 0 = 0
    simp
theorem binNum_ones (m : Nat) : binNum (List.replicate m 49) + 1 = 2 ^ m := by
  induction m with
  | zero => rfl
  | succ m ih =>
    rw [show List.replicate (m + 1) 49 = [49] ++ List.replicate m 49 from rfl, binNum_app, List.length_replicate, Nat.add_assoc, ih, Nat.pow_succ]
    show (0 * 2 + (49 - 48)) * 2 ^ m + 2 ^ m = _
    omega
theorem flip_par : ∀ {k : Nat}, flip (-1) (k + 1) = if k % 2 = 0 then 1 else -1
  | 0 => rfl
  | 1 => rfl
  | k + 2 => by
    rw [flip_succ, flip_succ, Int.neg_neg, flip_par (k := k)]
    rw [show (k + 2) % 2 = k % 2 by omega]
/-- the row of equal bits below turn k -/
def rowS (ns : List Nat) (k : Nat) : List Nat := List.replicate (ns.getD k 0 - ns.getD (k - 1) 0) (48 + k % 2)
/-- all rows up to turn k -/
def rowD2 (ns : List Nat) : Nat → List Nat
  | 0 => List.replicate (ns.getD 0 0) 48
  | k + 1 => rowS ns (k + 1) ++ rowD2 ns k
theorem rowD2_val {ns : List Nat} (asc : ns.Pairwise (· < ·)) : ∀ k, k < ns.length → (rowD2 ns k).length = ns.getD k 0 ∧ ((binNum (rowD2 ns k) : Nat) : Int) = alt (-1) (ns.take (k + 1)) + (if k % 2 = 0 then 2 ^ (ns.getD k 0) else 0) := by
  intro k
  induction k with
  | zero =>
    intro h
    obtain ⟨t, r, rfl⟩ : ∃ t r, ns = t :: r := by
      cases ns with
      | nil => exact absurd h (by decide)
      | cons t r => exact ⟨t, r, rfl⟩
    refine ⟨List.length_replicate .., ?_⟩
    show ((binNum (List.replicate t 48) : Nat) : Int) = (-1 * 2 ^ t + 0) + (if 0 % 2 = 0 then 2 ^ t else 0)
    rw [binNum_zeros, if_pos (by rfl)]
    simp only [Int.natCast_zero]
    generalize (2 : Int) ^ t = T
    omega
  | succ k ih =>
    intro h
    obtain ⟨l1, v1⟩ := ih (by omega)
    have hk : ns.getD k 0 = ns[k]'(by omega) := by rw [List.getD_eq_getElem?_getD, List.getElem?_eq_getElem (by omega)]; rfl
    have hk1 : ns.getD (k + 1) 0 = ns[k + 1]'h := by rw [List.getD_eq_getElem?_getD, List.getElem?_eq_getElem h]; rfl
    have lt : ns.getD k 0 < ns.getD (k + 1) 0 := by
      rw [hk, hk1]
      exact List.pairwise_iff_getElem.mp asc k (k + 1) (by omega) h (by omega)
    have len : (rowD2 ns (k + 1)).length = ns.getD (k + 1) 0 := by
      show (rowS ns (k + 1) ++ rowD2 ns k).length = _
      rw [List.length_append, l1]
      unfold rowS
      rw [List.length_replicate, Nat.add_sub_cancel]
      omega
    refine ⟨len, ?_⟩
    have et : ns.take (k + 1 + 1) = ns.take (k + 1) ++ [ns.getD (k + 1) 0] := by
      rw [List.take_add_one, List.getElem?_eq_getElem h, hk1]; rfl
    have ll : (ns.take (k + 1)).length = k + 1 := by rw [List.length_take]; omega
    rw [et, alt_snoc, ll]
    show ((binNum (rowS ns (k + 1) ++ rowD2 ns k) : Nat) : Int) = _
    rw [binNum_app, l1, Int.natCast_add, Int.natCast_mul, v1, Int.natCast_pow]
    unfold rowS
    rw [Nat.add_sub_cancel]
    generalize alt (-1) (ns.take (k + 1)) = A
    generalize ns.getD k 0 = s at *
    generalize ns.getD (k + 1) 0 = t at *
    have fl : flip (-1) (k + 1) = if k % 2 = 0 then 1 else -1 := flip_par (k := k)
    rw [fl]
    rcases (show k % 2 = 0 ∨ k % 2 = 1 by omega) with c | c
    · rw [if_pos c, if_pos c, if_neg (show ¬ (k + 1) % 2 = 0 by omega), show (k + 1) % 2 = 1 by omega]
      have o := binNum_ones (t - s)
      have o2 : ((binNum (List.replicate (t - s) 49) : Nat) : Int) = 2 ^ (t - s) - 1 := by
        have : ((2 ^ (t - s) : Nat) : Int) = 2 ^ (t - s) := Int.natCast_pow 2 _
        rw [← this, ← o]; omega
      rw [show 48 + 1 = 49 from rfl, o2, Int.sub_mul]
      have e : (2 : Int) ^ (t - s) * ((2 : Nat) : Int) ^ s = 2 ^ t := by
        rw [show ((2 : Nat) : Int) = 2 from rfl, ← Int.pow_add, Nat.sub_add_cancel (Nat.le_of_lt lt)]
      rw [e, show ((2 : Nat) : Int) = 2 from rfl]
      generalize (2 : Int) ^ t = T
      generalize (2 : Int) ^ s = S
      omega
    · rw [if_neg (show ¬ k % 2 = 0 by omega), if_neg (show ¬ k % 2 = 0 by omega), if_pos (show (k + 1) % 2 = 0 by omega), show (k + 1) % 2 = 0 by omega]
      rw [show 48 + 0 = 48 from rfl, binNum_zeros]
      generalize (2 : Int) ^ t = T
      simp only [Int.natCast_zero]
      omega
theorem rowD2_bits (ns : List Nat) : ∀ k, ∀ c ∈ rowD2 ns k, IsBit c := by
  intro k
  induction k with
  | zero => intro c h; exact .inl (List.eq_of_mem_replicate h)
  | succ k ih =>
    intro c h
    rcases List.mem_append.mp h with h | h
    · have := List.eq_of_mem_replicate h
      unfold IsBit
      omega
    · exact ih c h
theorem joinL_nil : ∀ l : List (List Nat), TL.joinL [] l = l.flatten
  | [] => rfl
  | [p] => by show p = _; simp
  | p :: q :: r => by
    show p ++ ([] ++ TL.joinL [] (q :: r)) = _
    rw [joinL_nil (q :: r)]
    simp
theorem rows_join (ns : List Nat) : ∀ N : Nat, (((List.range N).map fun i => rowS ns (N - i)) ++ [List.replicate (ns.getD 0 0) 48]).flatten = rowD2 ns N := by
  intro N
  induction N with
  | zero => simp [rowD2]
  | succ N ih =>
    rw [List.range_succ_eq_map, List.map_cons, List.map_map]
    show (rowS ns (N + 1) :: (_ ++ _)).flatten = _
    rw [List.flatten_cons]
    show _ = rowS ns (N + 1) ++ rowD2 ns N
    rw [← ih]
    congr 4
    funext i
    show rowS ns (N + 1 - (i + 1)) = rowS ns (N - i)
    rw [Nat.add_sub_add_right]
end Fb
namespace Fb
open PySem L2 PySem.Spec PyProof.Rows
namespace Bx
open Hx PySem.NumText
theorem read_binL {cs : List Nat} (lim : Nat) (h : ∀ c ∈ cs, IsBit c) (hne : cs ≠ []) : (int_private% "readNumeral") lim 2 cs = (int_private% "Numeral.value") ((binNum cs : Nat) : Int) := by
  have hx : ∀ c ∈ cs, IsHex c := fun c hc => toHex (h c hc)
  have hr : ∀ c ∈ cs.reverse, IsHex c := fun c hc => hx c (List.mem_reverse.mp hc)
  refine (readNumeral_eq lim 2 cs).trans ?_
  rw [dropB hx, signH hx]
  show judge lim false (based 2 cs).1 (based 2 cs).2.1 (digits? (based 2 cs).1 (((based 2 cs).2.2.reverse.dropWhile blank).reverse)) = _
  rw [basedB h]
  show judge lim false 2 false (digits? 2 ((cs.reverse.dropWhile blank).reverse)) = _
  rw [dropB hr, List.reverse_reverse, digits_bin h hne]
  show (int_private% "Numeral.value") (((cs.foldl (fun acc c => acc.push (c - 48)) (#[] : Array Nat)).foldl (fun acc d => acc * 2 + d) 0 : Nat) : Int) = _
  have z : (#[] : Array Nat).foldl (fun acc d => acc * 2 + d) 0 = 0 := by first | rfl | simp
  rw [push_bin, z] <;> rfl
theorem wp_textL {M : Model} {A : Around} {E : Value → Shared → Prop} {s : Shared} {Q : Value → Shared → Prop} {v : Value} {text : List Nat} {B : Nat} {n : Int}
    (hs : ¬ (text.takeWhile (· != 0)).length ≤ 640) (hL : ∀ Q' : Option Value → Shared → Prop, Q' none s → wpAny M A (nsGet cStatics "sys.int_max_str_digits") Q' E s) (hr : ∀ lim, (int_private% "readNumeral") lim B (text.takeWhile (· != 0)) = (int_private% "Numeral.value") n)
    (ha : ((text.takeWhile (· != 0)).length == text.length) = true) (h : Q (.int n s.toks) { s with toks := s.toks + 1 }) :
    wpAny M A ((int_private% "intFromText") v text B) Q E s := by
  obtain ⟨hp, g, d, tk, os⟩ := s
  repeat (any_goals (first
    | assumption
    | (with_reducible refine wpAny_ite_false (decide_eq_false hs) ?_)
    | (with_reducible refine wpAny_ite_true (decide_eq_true ha) ?_)
    | (with_reducible refine hL _ ?_)
    | wp_step))
  all_goals (try rw [hr])
  all_goals (try dsimp only)
  repeat (any_goals (first
    | assumption
    | (with_reducible refine wpAny_ite_true (decide_eq_true ha) ?_)
    | wp_step))
structure HidL (p : Prop) : Prop where
  out : p
theorem gives_binL {prog : Program} {w : World} {x : PySem.Str} {u t : Tok} (hl : ¬ x.length ≤ 640) (h : ∀ c ∈ x.cps.toList, IsBit c) (hne : x.cps.toList ≠ []) :
    MeetsIn prog w (Builtin.«int.__new__» ⟨[.type "int", .str x u, .int 2 t], []⟩) (fun A R s => (∀ (M : Model) (A : Around) (E : Value → Shared → Prop) (Q' : Option Value → Shared → Prop), Q' none s → wpAny M A (nsGet cStatics "sys.int_max_str_digits") Q' E s) ∧ (Made.int ((binNum x.cps.toList : Nat) : Int)).post (fun v s' => R (.ok (.ret v)) s') s) := by
  intro A R s h0
  obtain ⟨hL, hQ⟩ := h0
  suffices hh : wpAny (model prog w) A.in1 (Builtin.«int.__new__» ⟨[.type "int", .str x u, .int 2 t], []⟩) (fun fin s' => ∃ v, fin = .done (.ret v) ∧ R (.ok (.ret v)) s') (fun e s' => R (.error e) s') s from
    wpAny_mono hh (fun fin s' h' => by obtain ⟨v, rfl, hv⟩ := h'; exact hv) fun _ _ x => x
  replace hL := hL (model prog w) A.in1
  generalize (model prog w) = M at hL ⊢
  generalize A.in1 = A' at hL ⊢
  generalize (fun e s' => R (.error e) s' : Value → Shared → Prop) = E at hL ⊢
  replace hL := hL E
  obtain ⟨hp, g, d, tk, os⟩ := s
  have f1 := F.conv_sub_int
  have f2 := F.madeHere_int
  have f6 : typeOf (.str x u) = pure (.type "str") := rfl
  obtain ⟨e1, e2⟩ := seen_hex (x := x) (fun c hc => toHex (h c hc))
  have hs : ¬ (numSeenOf x).length ≤ 640 := by
    rw [e2, Array.length_toList]
    exact hl
  have hr : ∀ lim, (int_private% "readNumeral") lim 2 (numSeenOf x) = (int_private% "Numeral.value") ((binNum x.cps.toList : Nat) : Int) := by
    rw [e2]
    exact fun lim => read_binL lim h hne
  have ha : ((numSeenOf x).length == (numTextOf x).length) = true := by
    rw [e1, e2]
    exact beq_self_eq_true _
  have hk := HidL.mk (And.intro hs (And.intro hr (And.intro ha hL)))
  clear hs hr ha e1 e2 hl hne h hL
  repeat (any_goals (first
    | assumption
    | ((with_reducible show wpAny _ _ ((int_private% "intFromText") _ _ _) _ _ _); refine wp_textL hk.out.1 hk.out.2.2.2 hk.out.2.1 hk.out.2.2.1 ?_)
    | wp_step))
  all_goals first | exact ⟨_, rfl, hQ⟩ | skip
theorem call_binL {prog : Program} {w : World} {A : Around} {E : Value → Shared → Prop} {s : Shared} {Q : Value → Shared → Prop} {x : PySem.Str} {u t : Tok} (hl : ¬ x.length ≤ 640) (h : ∀ c ∈ x.cps.toList, IsBit c) (hne : x.cps.toList ≠ [])
    (hL : ∀ (M : Model) (A : Around) (E : Value → Shared → Prop) (Q' : Option Value → Shared → Prop), Q' none s → wpAny M A (nsGet cStatics "sys.int_max_str_digits") Q' E s)
    (hQ : Q (.int ((binNum x.cps.toList : Nat) : Int) s.toks) { s with toks := s.toks + 1 }) : wpAny (model prog w) A (call (.type "int") [.str x u, .int 2 t]) Q E s :=
  callType_newIn F.called_int F.newNe_int (typeCall_int_2 _ _) (newCall_int_2 _ _) (fun obj => F.initArgs_range_2 obj _ _) F.entry_int_new (gives_binL hl h hne) ⟨hL, show (Made.int ((binNum x.cps.toList : Nat) : Int)).post _ s from ⟨rfl, hQ⟩⟩
end Bx
/-- int(t, 2), of a text of any length -/
def rIntBinL : List V → Hp → VK → Prop := fun xs H Q => ∃ l : List Nat, xs = [.str (SX.S l), .int 2] ∧ l ≠ [] ∧ (∀ c ∈ l, Bx.IsBit c) ∧ Q (.int ((Bx.binNum l : Nat) : Int)) H
theorem call_int_binL {X : Cx} (hk : PySem.W.nsIn X.K cStatics "sys.int_max_str_digits" = some none) : CallR X (.type "int") rIntBinL := by
  intro pins s σ H xs us Q I r h
  obtain ⟨l, rfl, hne, hx, q⟩ := h
  by_cases hl : l.length ≤ 640
  · exact call_int_bin _ _ _ _ _ _ _ I r ⟨l, rfl, hne, hl, hx, q⟩
  obtain ⟨u, w', rfl, r1, r2⟩ := vals2 r
  obtain ⟨t1, rfl⟩ := r1
  obtain ⟨t2, rfl⟩ := r2
  refine Bx.call_binL (x := SX.S l) (by rw [SX.S_len]; exact hl) hx hne (fun M A E Q' h' => PySem.W.looks_nsIn I.kIn hk A Q' E s (fun _ _ z => z) h') ⟨.int ((Bx.binNum l : Nat) : Int), H, I.tok _, ⟨_, rfl⟩, q⟩
end Fb
namespace Fb
open PySem L2
/-! ### the bits of an int -/
def Bt (p : Nat) (x : Int) : Int := x / 2 ^ p % 2
theorem bt_zero (x : Int) : Bt 0 x = x % 2 := by unfold Bt; rw [Int.pow_zero, Int.ediv_one]
theorem bt_succ (p : Nat) (x : Int) : Bt (p + 1) x = Bt p (x / 2) := by
  unfold Bt
  rw [Int.pow_succ, Int.mul_comm, ← Int.ediv_ediv_of_nonneg (by decide)]
theorem bt_01 (p : Nat) (x : Int) : Bt p x = 0 ∨ Bt p x = 1 := by unfold Bt; omega
theorem bt_ext_bd : ∀ (N : Nat) (x y : Int), -(2 ^ N) ≤ x → x < 2 ^ N → -(2 ^ N) ≤ y → y < 2 ^ N → (∀ p, Bt p x = Bt p y) → x = y
  | 0, x, y, h1, h2, h3, h4, h => by
    have := h 0
    rw [bt_zero, bt_zero] at this
    omega
  | N + 1, x, y, h1, h2, h3, h4, h => by
    have e := bt_ext_bd N (x / 2) (y / 2) (by rw [Int.pow_succ] at h1; omega) (by rw [Int.pow_succ] at h2; omega) (by rw [Int.pow_succ] at h3; omega) (by rw [Int.pow_succ] at h4; omega) fun p => by
      have := h (p + 1)
      rw [bt_succ, bt_succ] at this
      exact this
    have := h 0
    rw [bt_zero, bt_zero] at this
    omega
theorem lt_two_pow (n : Nat) : n < 2 ^ n := Nat.lt_two_pow_self
theorem bt_ext {x y : Int} (h : ∀ p, Bt p x = Bt p y) : x = y := by
  have b : ∀ (z : Int) (N : Nat), z.natAbs ≤ N → -(2 ^ N) ≤ z ∧ z < 2 ^ N := fun z N hz => by
    have e : ((2 ^ N : Nat) : Int) = 2 ^ N := Int.natCast_pow 2 N
    have := lt_two_pow N
    omega
  have bx := b x (x.natAbs + y.natAbs) (by omega)
  have by' := b y (x.natAbs + y.natAbs) (by omega)
  exact bt_ext_bd _ x y bx.1 bx.2 by'.1 by'.2 h
theorem bt_and : ∀ (p : Nat) (x y : Int), Bt p (Builtin.bitAnd x y) = Bt p x * Bt p y
  | 0, x, y => by
    rw [bt_zero, bt_zero, bt_zero, PySem.W.kbt_halves]
    rcases Int.emod_two_eq x with h | h <;> rcases Int.emod_two_eq y with k | k <;> rw [h, k] <;> simp <;> omega
  | p + 1, x, y => by
    rw [bt_succ, bt_succ, bt_succ, ← bt_and p]
    congr 1
    rw [PySem.W.kbt_halves]
    split <;> omega
theorem bt_not : ∀ (p : Nat) (x : Int), Bt p (-x - 1) = 1 - Bt p x
  | 0, x => by rw [bt_zero, bt_zero]; omega
  | p + 1, x => by
    rw [bt_succ, bt_succ, ← bt_not p]
    congr 1
    omega
/-- carries -/
def maj (a b c : Int) : Int := (a + b + c) / 2
def cr (x y k : Int) : Nat → Int
  | 0 => k
  | p + 1 => maj (Bt p x) (Bt p y) (cr x y k p)
theorem cr_01 {x y k : Int} (hk : k = 0 ∨ k = 1) : ∀ p, cr x y k p = 0 ∨ cr x y k p = 1
  | 0 => hk
  | p + 1 => by
    have := cr_01 (x := x) (y := y) hk p
    have := bt_01 p x
    have := bt_01 p y
    show maj _ _ _ = 0 ∨ maj _ _ _ = 1
    unfold maj
    omega
theorem cr_shift (x y k : Int) : ∀ p, cr x y k (p + 1) = cr (x / 2) (y / 2) (maj (x % 2) (y % 2) k) p
  | 0 => by show maj (Bt 0 x) (Bt 0 y) k = _; rw [bt_zero, bt_zero]; rfl
  | p + 1 => by
    show maj (Bt (p + 1) x) (Bt (p + 1) y) (cr x y k (p + 1)) = _
    rw [cr_shift x y k p, bt_succ, bt_succ]
    rfl
theorem bt_add : ∀ (p : Nat) (x y k : Int), (k = 0 ∨ k = 1) → Bt p (x + y + k) = (Bt p x + Bt p y + cr x y k p) % 2
  | 0, x, y, k, hk => by
    rw [bt_zero, bt_zero, bt_zero]
    show _ = (x % 2 + y % 2 + k) % 2
    omega
  | p + 1, x, y, k, hk => by
    have e : (x + y + k) / 2 = x / 2 + y / 2 + maj (x % 2) (y % 2) k := by unfold maj; omega
    rw [bt_succ, e, bt_add p _ _ _ (by unfold maj; omega), ← cr_shift, bt_succ, bt_succ]
/-! ### the bits told by turns -/
theorem alt_mul (k : Nat) : ∀ (l : List Nat) (s : Int), (∀ n ∈ l, k ≤ n) → ∃ q, alt s l = 2 ^ k * q
  | [], s, _ => ⟨0, by rw [Int.mul_zero]; rfl⟩
  | n :: l, s, h => by
    obtain ⟨q, hq⟩ := alt_mul k l (-s) fun m hm => h m (List.mem_cons_of_mem _ hm)
    have hn := h n List.mem_cons_self
    refine ⟨s * 2 ^ (n - k) + q, ?_⟩
    show s * 2 ^ n + alt (-s) l = _
    rw [hq, Int.mul_add]
    congr 1
    rw [← Int.mul_assoc, Int.mul_comm (2 ^ k) s, Int.mul_assoc, ← Int.pow_add]
    congr 2
    omega
theorem alt_neg : ∀ (l : List Nat) (s : Int), alt (-s) l = -alt s l
  | [], s => rfl
  | n :: l, s => by
    show -s * 2 ^ n + alt (- -s) l = -(s * 2 ^ n + alt (-s) l)
    rw [alt_neg l (-s)]
    rw [Int.neg_mul, Int.neg_add]
def cnt (l : List Int) (c : Int) : Nat := (l.filter fun t => decide (t ≤ c)).length
def clt (l : List Int) (c : Int) : Nat := (l.filter fun t => decide (t < c)).length
theorem bt_alt (p : Nat) : ∀ l : List Nat, l.Pairwise (· < ·) → Bt p (alt (-1) l) = ((l.filter fun t => decide (t ≤ p)).length % 2 : Nat)
  | [], _ => by show Bt p 0 = 0; unfold Bt; rw [Int.zero_ediv]; rfl
  | n :: l, hp => by
    obtain ⟨h1, h2⟩ := List.pairwise_cons.mp hp
    obtain ⟨q, hq⟩ := alt_mul (n + 1) l (-1) fun m hm => h1 m hm
    have ih := bt_alt p l h2
    have e : alt (-1) (n :: l) = -(2 ^ n * (2 * q + 1)) := by
      show -1 * 2 ^ n + alt (- -1) l = _
      rw [alt_neg l (-1), hq, Int.pow_succ, Int.mul_add, ← Int.mul_assoc]
      omega
    by_cases hn : n ≤ p
    · rw [List.filter_cons_of_pos (by simp [hn]), List.length_cons]
      have k1 : Bt p (alt (-1) (n :: l)) = 1 - Bt p (alt (-1) l) := by
        rw [← bt_not, e, hq]
        unfold Bt
        obtain ⟨d, rfl⟩ : ∃ d, p = n + d := ⟨p - n, by omega⟩
        have p2 : (0 : Int) < 2 ^ n := Int.pow_pos (by decide)
        have k2 : (-(2 ^ n * (2 * q + 1))) / 2 ^ n = -(2 * q + 1) := by
          rw [← Int.mul_neg]
          exact Int.mul_ediv_cancel_left _ (Int.ne_of_gt p2)
        have k3 : (-(2 ^ (n + 1) * q) - 1) / 2 ^ n = -(2 * q + 1) := by
          have : -(2 ^ (n + 1) * q) - 1 = (2 ^ n - 1) + 2 ^ n * (-(2 * q + 1)) := by
            rw [Int.pow_succ, Int.mul_assoc]
            generalize (2 : Int) ^ n = N
            rw [Int.mul_neg, Int.mul_add, Int.mul_one]
            omega
          rw [this, Int.add_mul_ediv_left _ _ (Int.ne_of_gt p2), Int.ediv_eq_zero_of_lt (by omega) (by omega), Int.zero_add]
        rw [Int.pow_add, ← Int.ediv_ediv_of_nonneg (Int.le_of_lt p2), k2, ← Int.ediv_ediv_of_nonneg (Int.le_of_lt p2), k3]
      rw [k1, ih]
      omega
    · have none : l.filter (fun t => decide (t ≤ p)) = [] := List.filter_eq_nil_iff.mpr fun t ht => by
        have := h1 t ht
        simp only [decide_eq_true_eq]
        omega
      rw [List.filter_cons_of_neg (by simp [hn]), none]
      rw [e]
      unfold Bt
      obtain ⟨d, hd⟩ : ∃ d, n = p + 1 + d := ⟨n - p - 1, by omega⟩
      have : -(2 ^ n * (2 * q + 1)) = 2 ^ p * (2 * (2 ^ d * -(2 * q + 1))) := by
        rw [hd, Int.pow_add, Int.pow_add, ← Int.mul_neg, Int.mul_assoc, Int.mul_assoc]
        rfl
      rw [this, Int.mul_ediv_cancel_left _ (Int.ne_of_gt (Int.pow_pos (by decide)))]
      simp
/-- the turns of an int, as places -/
def Tl (x : Int) : List Int := zs (turnsN x)
theorem tl_asc (x : Int) : (Tl x).Pairwise (· < ·) := zs_asc (turns_asc x)
theorem tl_pos (x : Int) : ∀ c ∈ Tl x, 0 ≤ c := zs_pos
theorem cnt_zs (l : List Nat) (p : Nat) : cnt (zs l) (p : Int) = (l.filter fun t => decide (t ≤ p)).length := by
  unfold cnt zs
  rw [List.filter_map, List.length_map]
  congr 1
  refine List.filter_congr fun t _ => ?_
  show decide (((t : Nat) : Int) ≤ (p : Int)) = decide (t ≤ p)
  exact decide_eq_decide.mpr (by omega)
theorem bt_tl (p : Nat) (x : Int) : Bt p x = ((cnt (Tl x) (p : Int)) % 2 : Nat) := by
  unfold Tl
  rw [cnt_zs, ← bt_alt p _ (turns_asc x), turns_alt]
/-- a list of places that tells the bits of x is that of its turns -/
theorem tl_of {l : List Int} {x : Int} (asc : l.Pairwise (· < ·)) (pos : ∀ c ∈ l, 0 ≤ c) (h : ∀ p : Nat, (((cnt l (p : Int)) % 2 : Nat) : Int) = Bt p x) : l = Tl x := by
  have a2 := asc_toNat pos asc
  have e : alt (-1) (l.map Int.toNat) = x := bt_ext fun p => by
    rw [bt_alt p _ a2, ← h p, ← cnt_zs, zs_toNat pos]
  have : turnsN x = l.map Int.toNat := by rw [← e, turns_of_alt a2]
  unfold Tl
  rw [this, zs_toNat pos]
/-! ### counts -/
theorem cnt_app (l m : List Int) (c : Int) : cnt (l ++ m) c = cnt l c + cnt m c := by unfold cnt; rw [List.filter_append, List.length_append]
theorem cnt_nil (c : Int) : cnt [] c = 0 := rfl
theorem cnt_cons (a : Int) (l : List Int) (c : Int) : cnt (a :: l) c = (if a ≤ c then 1 else 0) + cnt l c := by
  unfold cnt
  by_cases h : a ≤ c
  · rw [List.filter_cons_of_pos (by simp [h]), if_pos h, List.length_cons]; omega
  · rw [List.filter_cons_of_neg (by simp [h]), if_neg h]; omega
theorem cnt_zero {l : List Int} {c : Int} (h : ∀ t ∈ l, c < t) : cnt l c = 0 := by
  unfold cnt
  rw [List.filter_eq_nil_iff.mpr fun t ht => by have := h t ht; simp only [decide_eq_true_eq]; omega]
  rfl
theorem cnt_all {l : List Int} {c : Int} (h : ∀ t ∈ l, t ≤ c) : cnt l c = l.length := by
  unfold cnt
  rw [List.filter_eq_self.mpr fun t ht => by simp [h t ht]]
end Fb
namespace Fb
open PySem L2
theorem clt_cons (a : Int) (l : List Int) (c : Int) : clt (a :: l) c = (if a < c then 1 else 0) + clt l c := by
  unfold clt
  by_cases h : a < c
  · rw [List.filter_cons_of_pos (by simp [h]), if_pos h, List.length_cons]; omega
  · rw [List.filter_cons_of_neg (by simp [h]), if_neg h]; omega
theorem clt_zero {l : List Int} {c : Int} (h : ∀ t ∈ l, c ≤ t) : clt l c = 0 := by
  unfold clt
  rw [List.filter_eq_nil_iff.mpr fun t ht => by have := h t ht; simp only [decide_eq_true_eq]; omega]
  rfl
theorem clt_le (l : List Int) (c : Int) : clt l c ≤ l.length := List.length_filter_le _ _
theorem cnt_le (l : List Int) (c : Int) : cnt l c ≤ l.length := List.length_filter_le _ _
/-- an ascending list around a -/
theorem split3 (a : Int) : ∀ {B : List Int}, B.Pairwise (· < ·) → B = B.take (clt B a) ++ ((if a ∈ B then [a] else []) ++ B.drop (cnt B a)) ∧ (∀ t ∈ B.take (clt B a), t < a) ∧ (∀ t ∈ B.drop (cnt B a), a < t) ∧ cnt B a = clt B a + (if a ∈ B then 1 else 0)
  | [], _ => ⟨rfl, (fun _ h => by cases h), (fun _ h => by cases h), rfl⟩
  | b :: B, hp => by
    obtain ⟨h1, h2⟩ := List.pairwise_cons.mp hp
    obtain ⟨i1, i2, i3, i4⟩ := split3 a h2
    rcases Int.lt_trichotomy b a with h | h | h
    · have m : (a ∈ b :: B) ↔ a ∈ B := by rw [List.mem_cons]; constructor <;> intro k <;> first | (rcases k with k | k <;> first | omega | exact k) | exact .inr k
      rw [clt_cons, cnt_cons, if_pos h, if_pos (show b ≤ a by omega), Nat.add_comm 1, Nat.add_comm 1, List.take_succ_cons, List.drop_succ_cons]
      simp only [m]
      refine ⟨?_, fun t ht => ?_, i3, by omega⟩
      · show b :: B = b :: (B.take _ ++ _)
        rw [← i1]
      · rcases List.mem_cons.mp ht with rfl | ht
        · exact h
        · exact i2 t ht
    · subst h
      have z1 : clt B b = 0 := clt_zero fun t ht => by have := h1 t ht; omega
      have z2 : cnt B b = 0 := cnt_zero h1
      rw [clt_cons, cnt_cons, if_neg (Int.lt_irrefl _), if_pos (Int.le_refl _), z1, z2]
      simp only [List.mem_cons, true_or, if_true]
      exact ⟨rfl, (fun t ht => by cases ht), h1, by first | trivial | rfl⟩
    · have m : a ∉ b :: B := fun k => by
        rcases List.mem_cons.mp k with k | k
        · omega
        · have := h1 a k; omega
      have z1 : clt (b :: B) a = 0 := clt_zero fun t ht => by
        rcases List.mem_cons.mp ht with rfl | ht
        · omega
        · have := h1 t ht; omega
      have z2 : cnt (b :: B) a = 0 := cnt_zero fun t ht => by
        rcases List.mem_cons.mp ht with rfl | ht
        · exact h
        · have := h1 t ht; omega
      rw [z1, z2, if_neg m]
      refine ⟨rfl, (fun t ht => by cases ht), fun t ht => ?_, by rw [if_neg m]⟩
      rcases List.mem_cons.mp ht with rfl | ht
      · exact h
      · have := h1 t ht; omega
/-! ### merged lists -/
def mrg : List Int → List Int → List Int
  | [], B => B
  | a :: A, B => B.take (clt B a) ++ ((if a ∈ B then [] else [a]) ++ mrg A (B.drop (cnt B a)))
theorem mrg_mem : ∀ {A B : List Int} {t : Int}, t ∈ mrg A B → t ∈ A ∨ t ∈ B
  | [], B, t, h => .inr h
  | a :: A, B, t, h => by
    rcases List.mem_append.mp h with h | h
    · exact .inr (List.mem_of_mem_take h)
    · rcases List.mem_append.mp h with h | h
      · split at h
        · cases h
        · exact .inl (List.mem_cons.mpr (.inl (List.mem_singleton.mp h)))
      · rcases mrg_mem h with h | h
        · exact .inl (List.mem_cons_of_mem _ h)
        · exact .inr (List.mem_of_mem_drop h)
theorem mrg_ok : ∀ {A B : List Int}, A.Pairwise (· < ·) → B.Pairwise (· < ·) → (mrg A B).Pairwise (· < ·) ∧ ∀ c, cnt (mrg A B) c % 2 = (cnt A c + cnt B c) % 2
  | [], B, _, hB => ⟨hB, fun c => by rw [cnt_nil, Nat.zero_add]; rfl⟩
  | a :: A, B, hA, hB => by
    obtain ⟨h1, h2⟩ := List.pairwise_cons.mp hA
    obtain ⟨s1, s2, s3, s4⟩ := split3 a hB
    obtain ⟨i1, i2⟩ := mrg_ok h2 (hB.sublist (List.drop_sublist (cnt B a) B))
    have up : ∀ t ∈ mrg A (B.drop (cnt B a)), a < t := fun t ht => (mrg_mem ht).elim (h1 t) (s3 t)
    have hB' := hB
    rw [s1] at hB'
    obtain ⟨p1, p2, p3⟩ := List.pairwise_append.mp hB'
    constructor
    · refine List.pairwise_append.mpr ⟨p1, List.pairwise_append.mpr ⟨?_, i1, fun x hx y hy => ?_⟩, fun x hx y hy => ?_⟩
      · split <;> simp
      · split at hx
        · cases hx
        · rw [List.mem_singleton.mp hx]; exact up y hy
      · have := s2 x hx
        rcases List.mem_append.mp hy with hy | hy
        · split at hy
          · cases hy
          · rw [List.mem_singleton.mp hy]; exact this
        · have := up y hy; omega
    · intro c
      have e := congrArg (fun l => cnt l c) s1
      simp only [cnt_app] at e
      show cnt (B.take (clt B a) ++ ((if a ∈ B then [] else [a]) ++ mrg A (B.drop (cnt B a)))) c % 2 = _
      rw [cnt_app, cnt_app, cnt_cons]
      have := i2 c
      by_cases m : a ∈ B
      · rw [if_pos m] at e ⊢
        rw [cnt_cons, cnt_nil] at e
        rw [cnt_nil]
        split at e <;> rename_i q <;> simp only [q, if_true, if_false] <;> omega
      · rw [if_neg m] at e ⊢
        rw [cnt_nil] at e
        rw [cnt_cons, cnt_nil]
        split <;> omega
theorem bxor_halves (x y : Int) : Builtin.bitXor x y = 2 * Builtin.bitXor (x / 2) (y / 2) + (x % 2 + y % 2) % 2 := by
  rw [PyProof.Rows.bitXor_and, PyProof.Rows.bitXor_and, PySem.W.kbt_halves]
  split <;> omega
theorem bt_xor : ∀ (p : Nat) (x y : Int), Bt p (Builtin.bitXor x y) = (Bt p x + Bt p y) % 2
  | 0, x, y => by rw [bt_zero, bt_zero, bt_zero, bxor_halves]; omega
  | p + 1, x, y => by
    rw [bt_succ, bt_succ, bt_succ, ← bt_xor p]
    congr 1
    rw [bxor_halves]
    omega
theorem mrg_tl (x y : Int) : mrg (Tl x) (Tl y) = Tl (Builtin.bitXor x y) := by
  obtain ⟨a, b⟩ := mrg_ok (tl_asc x) (tl_asc y)
  refine tl_of a (fun c hc => (mrg_mem hc).elim (tl_pos x c) (tl_pos y c)) fun p => ?_
  have := b p
  rw [bt_xor, bt_tl, bt_tl]
  omega
theorem bxor_comm (x y : Int) : Builtin.bitXor x y = Builtin.bitXor y x := by rw [PyProof.Rows.bitXor_and, PyProof.Rows.bitXor_and, PyProof.Rows.bitAnd_comm]; omega
/-! ### common ones -/
def com (B : List Int) : List Int → List Int
  | [] => []
  | [u] => (if cnt B u % 2 = 1 then [u] else []) ++ B.drop (cnt B u)
  | u :: v :: A => (if cnt B u % 2 = 1 then [u] else []) ++ ((B.take (clt B v)).drop (cnt B u) ++ ((if clt B v % 2 = 1 then [v] else []) ++ com B A))
theorem cnt_take_lt {B : List Int} (hB : B.Pairwise (· < ·)) {v c : Int} (h : c < v) : cnt (B.take (clt B v)) c = cnt B c := by
  obtain ⟨s1, s2, s3, s4⟩ := split3 v hB
  have e := congrArg (fun l => cnt l c) s1
  simp only [cnt_app] at e
  rw [cnt_zero (l := B.drop _) fun t ht => by have := s3 t ht; omega] at e
  by_cases m : v ∈ B
  · rw [if_pos m, cnt_cons, if_neg (by omega), cnt_nil] at e; omega
  · rw [if_neg m, cnt_nil] at e; omega
theorem take_cnt_le {u : Int} : ∀ {B : List Int}, B.Pairwise (· < ·) → ∀ t ∈ B.take (cnt B u), t ≤ u
  | [], _, t, ht => by cases ht
  | b :: B, hp, t, ht => by
    obtain ⟨h1, h2⟩ := List.pairwise_cons.mp hp
    by_cases h : b ≤ u
    · rw [cnt_cons, if_pos h, Nat.add_comm, List.take_succ_cons] at ht
      rcases List.mem_cons.mp ht with rfl | ht
      · exact h
      · exact take_cnt_le h2 t ht
    · rw [cnt_zero fun t ht => by
        rcases List.mem_cons.mp ht with rfl | ht
        · omega
        · have := h1 t ht; omega] at ht
      cases ht
theorem drop_cnt {B : List Int} (hB : B.Pairwise (· < ·)) {u c : Int} (h : u ≤ c) : cnt (B.drop (cnt B u)) c = cnt B c - cnt B u ∧ cnt B u ≤ cnt B c := by
  have e := congrArg (fun l => cnt l c) (List.take_append_drop (cnt B u) B)
  simp only [cnt_app] at e
  have k : cnt (B.take (cnt B u)) c = cnt B u := by
    rw [cnt_all fun t ht => by have := take_cnt_le hB t ht; omega, List.length_take]
    have := cnt_le B u; omega
  omega
theorem cnt_clt {B : List Int} (hB : B.Pairwise (· < ·)) {u v : Int} (h : u < v) : cnt B u ≤ clt B v := by
  have e := cnt_take_lt hB h
  have := cnt_le (B.take (clt B v)) u
  rw [List.length_take] at this
  omega
theorem clt_cnt {B : List Int} (hB : B.Pairwise (· < ·)) {u v : Int} (h : u < v) : ∀ t ∈ (B.take (clt B v)).drop (cnt B u), u < t ∧ t < v := by
  intro t ht
  refine ⟨?_, (split3 v hB).2.1 t (List.mem_of_mem_drop ht)⟩
  have : (B.take (clt B v)).drop (cnt B u) = (B.drop (cnt B u)).take (clt B v - cnt B u) := by rw [List.drop_take]
  rw [this] at ht
  exact (split3 u hB).2.2.1 t (List.mem_of_mem_take ht)
theorem cnt_mid {B : List Int} (hB : B.Pairwise (· < ·)) {u v c : Int} (h : u < v) (hu : u ≤ c) (hv : c < v) : cnt ((B.take (clt B v)).drop (cnt B u)) c = cnt B c - cnt B u := by
  have e := congrArg (fun l => cnt l c) (List.take_append_drop (cnt B u) (B.take (clt B v)))
  simp only [cnt_app] at e
  rw [cnt_take_lt hB hv, List.take_take, Nat.min_eq_left (cnt_clt hB h), cnt_all fun t ht => by have := take_cnt_le hB t ht; omega, List.length_take] at e
  have := cnt_le B u
  omega
theorem com_ok {B : List Int} (hB : B.Pairwise (· < ·)) : ∀ {A : List Int}, A.Pairwise (· < ·) → (com B A).Pairwise (· < ·) ∧ (∀ t ∈ com B A, (t ∈ A ∨ t ∈ B) ∧ ∃ u, A.head? = some u ∧ u ≤ t) ∧ ∀ c, cnt (com B A) c % 2 = (cnt A c % 2) * (cnt B c % 2)
  | [], _ => ⟨.nil, (fun t h => by cases h), fun c => by rw [cnt_nil, Nat.zero_mod, Nat.zero_mul]; rfl⟩
  | [u], _ => by
    obtain ⟨s1, s2, s3, s4⟩ := split3 u hB
    refine ⟨List.pairwise_append.mpr ⟨by split <;> simp, hB.sublist (List.drop_sublist _ _), fun x hx y hy => ?_⟩, fun t ht => ?_, fun c => ?_⟩
    · split at hx
      · rw [List.mem_singleton.mp hx]; exact s3 y hy
      · cases hx
    · rcases List.mem_append.mp ht with h | h
      · split at h
        · rw [List.mem_singleton.mp h]; exact ⟨.inl List.mem_cons_self, u, rfl, Int.le_refl _⟩
        · cases h
      · exact ⟨.inr (List.mem_of_mem_drop h), u, rfl, by have := s3 t h; omega⟩
    · show cnt ((if cnt B u % 2 = 1 then [u] else []) ++ B.drop (cnt B u)) c % 2 = _
      rw [cnt_app, cnt_cons, cnt_nil]
      by_cases h : u ≤ c
      · obtain ⟨d1, d2⟩ := drop_cnt hB h
        rw [d1, if_pos h]
        have r : (1 + 0) % 2 * (cnt B c % 2) = cnt B c % 2 := by rw [Nat.one_mul]
        rw [r]
        split
        · rw [cnt_cons, cnt_nil, if_pos h]; omega
        · rw [cnt_nil]; omega
      · rw [if_neg h, cnt_zero (l := B.drop _) fun t ht => by have := s3 t ht; omega, Nat.zero_mod, Nat.zero_mul]
        split
        · rw [cnt_cons, cnt_nil, if_neg h]
        · rw [cnt_nil]
  | u :: v :: A, hA => by
    obtain ⟨h1, h2⟩ := List.pairwise_cons.mp hA
    obtain ⟨h3, h4⟩ := List.pairwise_cons.mp h2
    have huv : u < v := h1 v List.mem_cons_self
    obtain ⟨i1, i2, i3⟩ := com_ok hB h4
    have mid := clt_cnt hB huv
    have up : ∀ t ∈ com B A, v < t := fun t ht => by
      obtain ⟨_, w, hw, hwt⟩ := i2 t ht
      have : w ∈ A := List.mem_of_mem_head? hw
      have := h3 w this
      omega
    refine ⟨List.pairwise_append.mpr ⟨by split <;> simp, List.pairwise_append.mpr ⟨(hB.sublist (List.take_sublist _ _)).sublist (List.drop_sublist _ _), List.pairwise_append.mpr ⟨by split <;> simp, i1, fun x hx y hy => ?_⟩, fun x hx y hy => ?_⟩, fun x hx y hy => ?_⟩, fun t ht => ?_, fun c => ?_⟩
    · split at hx
      · rw [List.mem_singleton.mp hx]; exact up y hy
      · cases hx
    · have := mid x hx
      rcases List.mem_append.mp hy with hy | hy
      · split at hy
        · rw [List.mem_singleton.mp hy]; omega
        · cases hy
      · have := up y hy; omega
    · split at hx
      · rw [List.mem_singleton.mp hx]
        rcases List.mem_append.mp hy with hy | hy
        · exact (mid y hy).1
        · rcases List.mem_append.mp hy with hy | hy
          · split at hy
            · rw [List.mem_singleton.mp hy]; exact huv
            · cases hy
          · have := up y hy; omega
      · cases hx
    · refine ⟨?_, u, rfl, ?_⟩
      all_goals
        rcases List.mem_append.mp ht with h | h
        · split at h
          · have := List.mem_singleton.mp h
            first | (subst this; exact .inl List.mem_cons_self) | omega
          · cases h
        · rcases List.mem_append.mp h with h | h
          · have := mid t h
            first | exact .inr (List.mem_of_mem_take (List.mem_of_mem_drop h)) | omega
          · rcases List.mem_append.mp h with h | h
            · split at h
              · have := List.mem_singleton.mp h
                first | (subst this; exact .inl (List.mem_cons_of_mem _ List.mem_cons_self)) | omega
              · cases h
            · have q := up t h
              first | exact (i2 t h).1.imp (fun k => List.mem_cons_of_mem _ (List.mem_cons_of_mem _ k)) id | omega
    · show cnt ((if cnt B u % 2 = 1 then [u] else []) ++ ((B.take (clt B v)).drop (cnt B u) ++ ((if clt B v % 2 = 1 then [v] else []) ++ com B A))) c % 2 = _
      rw [cnt_app, cnt_app, cnt_app, cnt_cons, cnt_cons]
      have ih := i3 c
      rcases Int.lt_or_le c u with hu | hu
      · rw [cnt_zero (l := (B.take _).drop _) fun t ht => by have := mid t ht; omega, cnt_zero (l := com B A) fun t ht => by have := up t ht; omega, cnt_zero (l := A) fun t ht => by have := h3 t ht; omega, if_neg (show ¬ u ≤ c by omega), if_neg (show ¬ v ≤ c by omega)]
        have z1 : cnt (if cnt B u % 2 = 1 then [u] else []) c = 0 := by split <;> simp [cnt_cons, cnt_nil] <;> omega
        have z2 : cnt (if clt B v % 2 = 1 then [v] else []) c = 0 := by split <;> simp [cnt_cons, cnt_nil] <;> omega
        rw [z1, z2]
        simp
      · have z1 : cnt (if cnt B u % 2 = 1 then [u] else []) c = cnt B u % 2 := by
          split
          · rw [cnt_cons, cnt_nil, if_pos hu]; omega
          · rw [cnt_nil]; omega
        rcases Int.lt_or_le c v with hv | hv
        · obtain ⟨_, d2⟩ := drop_cnt hB hu
          rw [cnt_mid hB huv hu hv, cnt_zero (l := com B A) fun t ht => by have := up t ht; omega, cnt_zero (l := A) fun t ht => by have := h3 t ht; omega, if_pos hu, if_neg (show ¬ v ≤ c by omega), z1]
          have z2 : cnt (if clt B v % 2 = 1 then [v] else []) c = 0 := by split <;> simp [cnt_cons, cnt_nil] <;> omega
          rw [z2]
          have r : (1 + (0 + 0)) % 2 * (cnt B c % 2) = cnt B c % 2 := by rw [Nat.one_mul]
          rw [r]
          omega
        · have z2 : cnt (if clt B v % 2 = 1 then [v] else []) c = clt B v % 2 := by
            split
            · rw [cnt_cons, cnt_nil, if_pos hv]; omega
            · rw [cnt_nil]; omega
          have m : cnt ((B.take (clt B v)).drop (cnt B u)) c = clt B v - cnt B u := by
            rw [cnt_all fun t ht => by have := mid t ht; omega, List.length_drop, List.length_take]
            have := clt_le B v; omega
          have := cnt_clt hB huv
          rw [z1, z2, m, if_pos hu, if_pos hv]
          have r : (1 + (1 + cnt A c)) % 2 = cnt A c % 2 := by omega
          rw [r, ← ih]
          omega
theorem com_tl (x y : Int) : com (Tl y) (Tl x) = Tl (Builtin.bitAnd x y) := by
  obtain ⟨a, b, c⟩ := com_ok (tl_asc y) (tl_asc x)
  refine tl_of a (fun t ht => (b t ht).1.elim (tl_pos x t) (tl_pos y t)) fun p => ?_
  rw [c p, bt_and, bt_tl, bt_tl]
  rw [Int.natCast_mul]
end Fb
namespace Fb
open PySem L2
/-! ### carries, segment by segment of the shorter one -/
/-- the place at which the carry turns, if there is one: the bit of the few is `bit`, the carry is the other one -/
def turnAt (B : List Int) (bit sta : Nat) : Option Int := if cnt B sta % 2 = bit then some (sta : Int) else B[cnt B sta]?
def carL (B : List Int) : List Int → Nat → Nat → Nat → List Int
  | [], bit, sta, bin => if bit = bin then [] else match turnAt B bit sta with
    | none => []
    | some p => [p + 1]
  | a :: A, bit, sta, bin => if bit = bin then carL B A (1 - bit) a.toNat bin else match turnAt B bit sta with
    | none => carL B A (1 - bit) a.toNat bin
    | some p => if p < a then (p + 1) :: carL B A (1 - bit) a.toNat bit else carL B A (1 - bit) a.toNat bin
section
variable {x y k : Int} {B : List Int}
/-- within a segment: the carry is bin up to the place, then bit -/
theorem seg_carry (hB : B.Pairwise (· < ·)) (hy : ∀ p : Nat, Bt p y = (cnt B (p : Int) % 2 : Nat)) {bit sta bin : Nat} (h1 : bit ≤ 1) (h2 : bin ≤ 1) (hs : cr x y k sta = bin) (e : Option Int)
    (hx : ∀ p : Nat, sta ≤ p → (∀ a, e = some a → (p : Int) < a) → Bt p x = bit) :
    ∀ d : Nat, (∀ a, e = some a → ((sta + d : Nat) : Int) ≤ a) → cr x y k (sta + d) = if bit = bin then (bin : Int) else match turnAt B bit sta with
      | none => (bin : Int)
      | some q => if q < ((sta + d : Nat) : Int) then (bit : Int) else bin
  | 0, _ => by
    rw [Nat.add_zero, hs]
    split
    · rfl
    · split
      · rfl
      · rename_i q hq
        have : (sta : Int) ≤ q := by
          unfold turnAt at hq
          split at hq
          · cases hq; exact Int.le_refl _
          · have hm : q ∈ B.drop (cnt B (sta : Int)) := by
              rw [List.getElem?_eq_some_iff] at hq
              obtain ⟨hl, hq⟩ := hq
              rw [← hq]
              exact List.mem_drop_iff_getElem.mpr ⟨0, by simpa using hl, by simp⟩
            have := (split3 (sta : Int) hB).2.2.1 q hm
            omega
        rw [if_neg (by omega)]
  | d + 1, hd => by
    have ih := seg_carry hB hy h1 h2 hs e hx d fun a ha => by have := hd a ha; omega
    have hxp := hx (sta + d) (by omega) fun a ha => by have := hd a ha; omega
    have hyp := hy (sta + d)
    show maj (Bt (sta + d) x) (Bt (sta + d) y) (cr x y k (sta + d)) = _
    rw [hxp, hyp]
    by_cases hb : bit = bin
    · rw [if_pos hb] at ih ⊢
      rw [ih, hb]
      unfold maj
      omega
    · rw [if_neg hb] at ih ⊢
      cases ht : turnAt B bit sta with
      | none =>
        rw [ht] at ih
        dsimp only at ih ⊢
        rw [ih]
        unfold turnAt at ht
        split at ht
        · cases ht
        · rename_i hne
          have hl : B.length ≤ cnt B (sta : Int) := List.getElem?_eq_none_iff.mp ht
          have : cnt B ((sta + d : Nat) : Int) = cnt B (sta : Int) := by
            have := (drop_cnt hB (show (sta : Int) ≤ ((sta + d : Nat) : Int) by omega)).2
            have := cnt_le B ((sta + d : Nat) : Int)
            omega
          rw [this]
          unfold maj
          omega
      | some q =>
        rw [ht] at ih
        dsimp only at ih ⊢
        rw [ih]
        unfold turnAt at ht
        split at ht
        · rename_i he
          cases ht
          rw [if_pos (show (sta : Int) < ((sta + (d + 1) : Nat) : Int) by omega)]
          by_cases hd0 : d = 0
          · subst hd0
            rw [if_neg (by simp), Nat.add_zero, he]
            unfold maj
            omega
          · rw [if_pos (by omega)]
            unfold maj
            omega
        · rename_i hne
          obtain ⟨hl, hq⟩ := List.getElem?_eq_some_iff.mp ht
          have hm : q ∈ B.drop (cnt B (sta : Int)) := by
            rw [← hq]
            exact List.mem_drop_iff_getElem.mpr ⟨0, by simpa using hl, by simp⟩
          have hsq := (split3 (sta : Int) hB).2.2.1 q hm
          by_cases c1 : q < ((sta + d : Nat) : Int)
          · rw [if_pos c1, if_pos (show q < ((sta + (d + 1) : Nat) : Int) by omega)]
            unfold maj
            omega
          · rw [if_neg c1]
            have dr : B.drop (cnt B (sta : Int)) = q :: B.drop (cnt B (sta : Int) + 1) := by
              rw [List.drop_eq_getElem_cons hl, hq]
            have hp := hB.sublist (List.drop_sublist (cnt B (sta : Int)) B)
            rw [dr] at hp
            obtain ⟨g1, g2⟩ := List.pairwise_cons.mp hp
            have dc := drop_cnt hB (show (sta : Int) ≤ ((sta + d : Nat) : Int) by omega)
            rw [dr, cnt_cons] at dc
            by_cases c2 : q = ((sta + d : Nat) : Int)
            · rw [if_pos (show q < ((sta + (d + 1) : Nat) : Int) by omega)]
              rw [cnt_zero (l := B.drop _) fun t ht => by have := g1 t ht; omega, if_pos (show q ≤ ((sta + d : Nat) : Int) by omega)] at dc
              unfold maj
              omega
            · rw [if_neg (show ¬ q < ((sta + (d + 1) : Nat) : Int) by omega)]
              rw [cnt_zero (l := B.drop _) fun t ht => by have := g1 t ht; omega, if_neg (show ¬ q ≤ ((sta + d : Nat) : Int) by omega)] at dc
              unfold maj
              omega
theorem turn_ge (hB : B.Pairwise (· < ·)) {bit sta : Nat} {q : Int} (ht : turnAt B bit sta = some q) : (sta : Int) ≤ q ∧ (q = sta ∨ q ∈ B) := by
  unfold turnAt at ht
  split at ht
  · cases ht; exact ⟨Int.le_refl _, .inl rfl⟩
  · have hm : q ∈ B.drop (cnt B (sta : Int)) := by
      obtain ⟨hl, hq⟩ := List.getElem?_eq_some_iff.mp ht
      rw [← hq]
      exact List.mem_drop_iff_getElem.mpr ⟨0, by simpa using hl, by simp⟩
    have := (split3 (sta : Int) hB).2.2.1 q hm
    exact ⟨by omega, .inr (List.mem_of_mem_drop hm)⟩
theorem carL_ok (hB : B.Pairwise (· < ·)) (hy : ∀ p : Nat, Bt p y = (cnt B (p : Int) % 2 : Nat)) : ∀ {A : List Int} {bit sta bin : Nat}, A.Pairwise (· < ·) → (∀ a ∈ A, (sta : Int) ≤ a) → bit ≤ 1 → bin ≤ 1 → cr x y k sta = bin →
    (∀ p : Nat, sta ≤ p → Bt p x = ((bit + cnt A (p : Int)) % 2 : Nat)) →
    (carL B A bit sta bin).Pairwise (· < ·) ∧ (∀ t ∈ carL B A bit sta bin, (sta : Int) < t ∧ (t - 1 = sta ∨ t - 1 ∈ B ∨ t - 1 ∈ A)) ∧ ∀ p : Nat, sta ≤ p → cr x y k p = ((bin + cnt (carL B A bit sta bin) (p : Int)) % 2 : Nat)
  | [], bit, sta, bin, _, _, h1, h2, hs, hx => by
    have seg := seg_carry hB hy h1 h2 hs none fun p hp _ => by
      rw [hx p hp, cnt_nil]; omega
    rw [show carL B [] bit sta bin = (if bit = bin then [] else match turnAt B bit sta with | none => [] | some p => [p + 1]) from rfl]
    by_cases hb : bit = bin
    · rw [if_pos hb]
      refine ⟨.nil, (fun t ht => by cases ht), fun p hp => ?_⟩
      have := seg (p - sta) (fun a ha => by cases ha)
      rw [if_pos hb, show sta + (p - sta) = p by omega] at this
      rw [this, cnt_nil]; omega
    · rw [if_neg hb]
      cases ht : turnAt B bit sta with
      | none =>
        refine ⟨.nil, (fun t ht => by cases ht), fun p hp => ?_⟩
        have := seg (p - sta) (fun a ha => by cases ha)
        rw [if_neg hb, ht, show sta + (p - sta) = p by omega] at this
        dsimp only at this ⊢
        rw [this, cnt_nil]; omega
      | some q =>
        obtain ⟨g1, g2⟩ := turn_ge hB ht
        refine ⟨by simp, fun t ht => ?_, fun p hp => ?_⟩
        · rw [List.mem_singleton.mp ht]
          refine ⟨by omega, ?_⟩
          rw [show q + 1 - 1 = q by omega]
          exact g2.imp id .inl
        · have := seg (p - sta) (fun a ha => by cases ha)
          rw [if_neg hb, ht, show sta + (p - sta) = p by omega] at this
          dsimp only at this ⊢
          rw [this, cnt_cons, cnt_nil]
          by_cases c : q < (p : Int)
          · rw [if_pos c, if_pos (by omega)]; omega
          · rw [if_neg c, if_neg (by omega)]; omega
  | a :: A, bit, sta, bin, hA, hs0, h1, h2, hs, hx => by
    obtain ⟨a1, a2⟩ := List.pairwise_cons.mp hA
    have ha0 := hs0 a List.mem_cons_self
    have ea : ((a.toNat : Nat) : Int) = a := by omega
    have seg := seg_carry hB hy h1 h2 hs (some a) fun p hp hlt => by
      have := hlt a rfl
      rw [hx p hp, cnt_cons, if_neg (by omega), cnt_zero fun t ht => by have := a1 t ht; omega]; omega
    have hx' : ∀ p : Nat, a.toNat ≤ p → Bt p x = ((1 - bit + cnt A (p : Int)) % 2 : Nat) := fun p hp => by
      rw [hx p (by omega), cnt_cons, if_pos (by omega)]
      congr 1
      omega
    have hA' : ∀ t ∈ A, ((a.toNat : Nat) : Int) ≤ t := fun t ht => by have := a1 t ht; omega
    have mid : ∀ p : Nat, sta ≤ p → (p : Int) ≤ a → cr x y k p = if bit = bin then (bin : Int) else match turnAt B bit sta with
      | none => (bin : Int)
      | some q => if q < (p : Int) then (bit : Int) else bin := fun p hp hpa => by
      have := seg (p - sta) (fun b hb => by cases hb; omega)
      rw [show sta + (p - sta) = p by omega] at this
      exact this
    have atA := mid a.toNat (by omega) (by omega)
    -- the rest with the carry bin
    have same : cr x y k a.toNat = bin → (∀ p : Nat, sta ≤ p → (p : Int) ≤ a → cr x y k p = bin) → (carL B A (1 - bit) a.toNat bin).Pairwise (· < ·) ∧ (∀ t ∈ carL B A (1 - bit) a.toNat bin, (sta : Int) < t ∧ (t - 1 = sta ∨ t - 1 ∈ B ∨ t - 1 ∈ a :: A)) ∧
        ∀ p : Nat, sta ≤ p → cr x y k p = ((bin + cnt (carL B A (1 - bit) a.toNat bin) (p : Int)) % 2 : Nat) := fun ca seg' => by
      obtain ⟨i1, i2, i3⟩ := carL_ok hB hy (sta := a.toNat) a2 hA' (by omega : 1 - bit ≤ 1) h2 ca hx'
      refine ⟨i1, fun t ht => ?_, fun p hp => ?_⟩
      · obtain ⟨j1, j2⟩ := i2 t ht
        refine ⟨by omega, ?_⟩
        rcases j2 with j | j | j
        · exact .inr (.inr (List.mem_cons.mpr (.inl (by omega))))
        · exact .inr (.inl j)
        · exact .inr (.inr (List.mem_cons_of_mem _ j))
      · by_cases c : (p : Int) ≤ a
        · rw [seg' p hp c, cnt_zero fun t ht => by have := (i2 t ht).1; omega]; omega
        · exact i3 p (by omega)
    rw [show carL B (a :: A) bit sta bin = (if bit = bin then carL B A (1 - bit) a.toNat bin else match turnAt B bit sta with | none => carL B A (1 - bit) a.toNat bin | some p => if p < a then (p + 1) :: carL B A (1 - bit) a.toNat bit else carL B A (1 - bit) a.toNat bin) from rfl]
    by_cases hb : bit = bin
    · simp only [if_pos hb] at mid atA ⊢
      exact same atA mid
    · simp only [if_neg hb] at mid atA ⊢
      cases ht : turnAt B bit sta with
      | none =>
        simp only [ht] at mid atA ⊢
        exact same atA mid
      | some q =>
        obtain ⟨g1, g2⟩ := turn_ge hB ht
        simp only [ht] at mid atA ⊢
        by_cases c : q < a
        · rw [if_pos c]
          rw [if_pos (by omega)] at atA
          obtain ⟨i1, i2, i3⟩ := carL_ok hB hy (sta := a.toNat) a2 hA' (by omega : 1 - bit ≤ 1) h1 atA hx'
          refine ⟨List.pairwise_cons.mpr ⟨fun t ht => by have := (i2 t ht).1; omega, i1⟩, fun t ht => ?_, fun p hp => ?_⟩
          · rcases List.mem_cons.mp ht with rfl | ht
            · refine ⟨by omega, ?_⟩
              rw [show q + 1 - 1 = q by omega]
              exact g2.imp id .inl
            · obtain ⟨j1, j2⟩ := i2 t ht
              refine ⟨by omega, ?_⟩
              rcases j2 with j | j | j
              · exact .inr (.inr (List.mem_cons.mpr (.inl (by omega))))
              · exact .inr (.inl j)
              · exact .inr (.inr (List.mem_cons_of_mem _ j))
          · rw [cnt_cons]
            by_cases cp : (p : Int) ≤ a
            · rw [mid p hp cp, cnt_zero fun t ht => by have := (i2 t ht).1; omega]
              by_cases cq : q < (p : Int)
              · rw [if_pos cq, if_pos (by omega)]; omega
              · rw [if_neg cq, if_neg (by omega)]; omega
            · rw [i3 p (by omega), if_pos (by omega)]
              congr 1
              omega
        · rw [if_neg c]
          refine same ?_ fun p hp hpa => ?_
          · rw [if_neg (by omega)] at atA; exact atA
          · rw [mid p hp hpa, if_neg (by omega)]
end
/-- the list of the carry's turns -/
def carT (A B : List Int) (k : Nat) : List Int := (if k = 1 then [0] else []) ++ carL B A 0 0 k
theorem carT_ok (x y : Int) {k : Nat} (hk : k ≤ 1) : ∃ c : Int, carT (Tl x) (Tl y) k = Tl c ∧ (∀ t ∈ Tl c, t = 0 ∨ t - 1 = 0 ∨ t - 1 ∈ Tl y ∨ t - 1 ∈ Tl x) ∧ Builtin.bitXor (Builtin.bitXor x c) y = x + y + k := by
  obtain ⟨i1, i2, i3⟩ := carL_ok (x := x) (y := y) (k := (k : Int)) (tl_asc y) (fun p => bt_tl p y) (A := Tl x) (bit := 0) (sta := 0) (bin := k) (tl_asc x) (fun a ha => tl_pos x a ha) (by omega) hk rfl (fun p _ => by rw [bt_tl, Nat.zero_add])
  have asc : (carT (Tl x) (Tl y) k).Pairwise (· < ·) := by
    refine List.pairwise_append.mpr ⟨by split <;> simp, i1, fun a ha b hb => ?_⟩
    split at ha
    · rw [List.mem_singleton.mp ha]; exact (i2 b hb).1
    · cases ha
  have pos : ∀ c ∈ carT (Tl x) (Tl y) k, 0 ≤ c := fun c hc => by
    rcases List.mem_append.mp hc with h | h
    · split at h
      · rw [List.mem_singleton.mp h]; exact Int.le_refl _
      · cases h
    · have := (i2 c h).1; omega
  have bits : ∀ p : Nat, ((cnt (carT (Tl x) (Tl y) k) (p : Int) % 2 : Nat) : Int) = cr x y k p := fun p => by
    rw [i3 p (Nat.zero_le _)]
    unfold carT
    rw [cnt_app]
    congr 2
    congr 1
    split
    · rw [cnt_cons, cnt_nil, if_pos (by omega)]; omega
    · rw [cnt_nil]; omega
  have a2 := asc_toNat pos asc
  have hb : ∀ p : Nat, Bt p (alt (-1) ((carT (Tl x) (Tl y) k).map Int.toNat)) = cr x y k p := fun p => by
    rw [bt_alt p _ a2, ← cnt_zs, zs_toNat pos, bits p]
  refine ⟨alt (-1) ((carT (Tl x) (Tl y) k).map Int.toNat), tl_of asc pos fun p => by rw [bits p, hb p], fun t ht => ?_, bt_ext fun p => ?_⟩
  · have : Tl (alt (-1) ((carT (Tl x) (Tl y) k).map Int.toNat)) = carT (Tl x) (Tl y) k := (tl_of asc pos fun p => by rw [bits p, hb p]).symm
    rw [this] at ht
    rcases List.mem_append.mp ht with h | h
    · split at h
      · exact .inl (List.mem_singleton.mp h)
      · cases h
    · have := (i2 t h).2
      rcases this with j | j | j
      · exact .inr (.inl (by omega))
      · exact .inr (.inr (.inl j))
      · exact .inr (.inr (.inr j))
  · rw [bt_xor, bt_xor, hb p, bt_add p x y k (by omega)]
    have := bt_01 p x
    have := bt_01 p y
    have := cr_01 (x := x) (y := y) (k := (k : Int)) (by omega) p
    omega
/-! ### the complement, and one more -/
def flp (l : List Int) : List Int := match l with
  | 0 :: r => r
  | r => 0 :: r
theorem cnt_flp {l : List Int} (pos : ∀ c ∈ l, 0 ≤ c) (p : Nat) : cnt (flp l) (p : Int) % 2 = (1 + cnt l (p : Int)) % 2 := by
  unfold flp
  split
  · rw [cnt_cons, if_pos (by omega)]; omega
  · rw [cnt_cons, if_pos (by omega)]
theorem flp_tl (x : Int) : flp (Tl x) = Tl (-x - 1) := by
  have c := cnt_flp (tl_pos x)
  have asc := tl_asc x
  have pos := tl_pos x
  refine tl_of ?_ ?_ fun p => ?_
  · unfold flp
    split
    · rename_i r e
      rw [e] at asc
      exact (List.pairwise_cons.mp asc).2
    · rename_i hne
      refine List.pairwise_cons.mpr ⟨fun a ha => ?_, asc⟩
      have h0 := pos a ha
      by_cases z : a = 0
      · subst z
        exfalso
        cases e : Tl x with
        | nil => rw [e] at ha; cases ha
        | cons b r =>
          rw [e] at ha asc pos
          have hb : b = 0 := by
            rcases List.mem_cons.mp ha with h | h
            · exact h.symm
            · have := (List.pairwise_cons.mp asc).1 0 h
              have := pos b List.mem_cons_self
              omega
          subst hb
          exact hne r e
      · omega
  · unfold flp
    split
    · rename_i r e
      rw [e] at pos
      exact fun c hc => pos c (List.mem_cons_of_mem _ hc)
    · intro c hc
      rcases List.mem_cons.mp hc with rfl | hc
      · exact Int.le_refl _
      · exact pos c hc
  · rw [bt_not, bt_tl, c p]
    omega
/-- the mask of x ^ (x + 1) -/
theorem succ_tl {x : Int} {b : Int} (h : (∃ t r, Tl x = 0 :: t :: r ∧ b = t + 1) ∨ (Tl x).head? ≠ some 0 ∧ b = 1) : mrg [0, b] (Tl x) = Tl (x + 1) := by
  have asc := tl_asc x
  have pos := tl_pos x
  have b1 : 1 ≤ b := by
    rcases h with ⟨t, r, e, rfl⟩ | ⟨_, rfl⟩
    · have := pos t (by rw [e]; simp); omega
    · omega
  obtain ⟨i1, i2⟩ := mrg_ok (A := [0, b]) (B := Tl x) (by simp; omega) asc
  refine tl_of i1 (fun c hc => ?_) fun p => ?_
  · rcases mrg_mem hc with h | h
    · simp at h; omega
    · exact pos c h
  · have e1 : x + 1 = x + 0 + 1 := by omega
    rw [e1, bt_add p x 0 1 (.inr rfl)]
    have z : Bt p 0 = 0 := by unfold Bt; rw [Int.zero_ediv]; rfl
    have c : ∀ p : Nat, cr x 0 1 p = if (p : Int) < b then 1 else 0 := by
      intro p
      induction p with
      | zero => rw [if_pos (by omega)]; rfl
      | succ p ih =>
        have z : Bt p 0 = 0 := by unfold Bt; rw [Int.zero_ediv]; rfl
        show maj (Bt p x) (Bt p 0) (cr x 0 1 p) = _
        rw [ih, z, bt_tl]
        rcases h with ⟨t, r, e, rfl⟩ | ⟨hne, rfl⟩
        · rw [e] at asc
          obtain ⟨q1, q2⟩ := List.pairwise_cons.mp asc
          obtain ⟨q3, q4⟩ := List.pairwise_cons.mp q2
          have := q1 t List.mem_cons_self
          by_cases c1 : (p : Int) < t
          · rw [e, cnt_cons, cnt_cons, if_pos (show (0 : Int) ≤ p by omega), if_neg (show ¬ t ≤ (p : Int) by omega), cnt_zero fun u hu => by have := q3 u hu; omega, if_pos (by omega), if_pos (by omega)]
            rfl
          · rw [if_neg (show ¬ ((p + 1 : Nat) : Int) < t + 1 by omega)]
            by_cases c2 : (p : Int) = t
            · rw [e, cnt_cons, cnt_cons, if_pos (show (0 : Int) ≤ p by omega), if_pos (show t ≤ (p : Int) by omega), cnt_zero fun u hu => by have := q3 u hu; omega, if_pos (by omega)]
              rfl
            · rw [if_neg (by omega)]
              unfold maj
              omega
        · rw [if_neg (show ¬ ((p + 1 : Nat) : Int) < 1 by omega)]
          by_cases c1 : p = 0
          · subst c1
            rw [if_pos (by omega)]
            have : cnt (Tl x) ((0 : Nat) : Int) = 0 := cnt_zero fun t ht => by
              have h0 := pos t ht
              by_cases zt : t = 0
              · subst zt
                exfalso
                cases e : Tl x with
                | nil => rw [e] at ht; cases ht
                | cons d r =>
                  rw [e] at ht asc pos hne
                  have hd : d = 0 := by
                    rcases List.mem_cons.mp ht with h | h
                    · exact h.symm
                    · have := (List.pairwise_cons.mp asc).1 0 h
                      have := pos d List.mem_cons_self
                      omega
                  exact hne (by rw [hd]; rfl)
              · omega
            rw [this]
            rfl
          · rw [if_neg (by omega)]
            unfold maj
            omega
    rw [c p, z, bt_tl, i2, cnt_cons, cnt_cons, cnt_nil, if_pos (show (0 : Int) ≤ p by omega)]
    by_cases cb : (p : Int) < b
    · rw [if_pos cb, if_neg (by omega)]; omega
    · rw [if_neg cb, if_pos (by omega)]; omega
end Fb
namespace Fb
open PySem L2
/-! ### counts in ascending lists -/
theorem asc_none {x s : Int} {xs : List Int} (h : ∀ y ∈ xs, x < y) (hs : s ≤ x) : (xs.filter fun c => decide (c < s)) = [] ∧ (xs.filter fun c => decide (c ≤ s)) = [] := by
  constructor <;> refine List.filter_eq_nil_iff.mpr fun y hy => ?_ <;> have := h y hy <;> simp only [decide_eq_true_eq] <;> omega
theorem asc_lt (s : Int) : ∀ {l : List Int}, l.Pairwise (· < ·) → ∀ (i : Nat) (c : Int), l[i]? = some c → (i < (l.filter fun c => decide (c < s)).length ↔ c < s)
  | [], _, i, c, h => by simp at h
  | x :: xs, hp, i, c, h => by
    obtain ⟨h1, h2⟩ := List.pairwise_cons.mp hp
    by_cases hx : x < s
    · rw [List.filter_cons_of_pos (by simp [hx]), List.length_cons]
      cases i with
      | zero => cases h; simp [hx]
      | succ i =>
        have := asc_lt s h2 i c h
        omega
    · have e := (asc_none h1 (show s ≤ x by omega)).1
      rw [List.filter_cons_of_neg (by simp [hx]), e]
      have hc : x ≤ c := by
        cases i with
        | zero => cases h; omega
        | succ i => have := h1 c (List.mem_of_getElem? h); omega
      simp
      omega
theorem asc_one (s : Int) : ∀ {l : List Int}, l.Pairwise (· < ·) → (l.filter fun c => decide (c ≤ s)).length = (l.filter fun c => decide (c < s)).length + (if s ∈ l then 1 else 0)
  | [], _ => rfl
  | x :: xs, hp => by
    obtain ⟨h1, h2⟩ := List.pairwise_cons.mp hp
    have ih := asc_one s h2
    by_cases hx : x < s
    · rw [List.filter_cons_of_pos (by simp; omega), List.filter_cons_of_pos (by simp [hx]), List.length_cons, List.length_cons, ih]
      have : (s ∈ x :: xs) ↔ s ∈ xs := by
        rw [List.mem_cons]; constructor
        · rintro (h | h)
          · omega
          · exact h
        · exact .inr
      simp only [this]
      split <;> omega
    · obtain ⟨e1, e2⟩ := asc_none h1 (show s ≤ x by omega)
      rw [List.filter_cons_of_neg (p := fun c => decide (c < s)) (by simp [hx]), e1]
      by_cases he : x = s
      · rw [List.filter_cons_of_pos (by simp; omega), e2, if_pos (by rw [he]; exact List.mem_cons_self)]; rfl
      · rw [List.filter_cons_of_neg (by simp; omega), e2, if_neg (by
          intro h
          rcases List.mem_cons.mp h with h | h
          · omega
          · have := h1 s h; omega)]
        rfl
theorem asc_at {s : Int} {l : List Int} (hp : l.Pairwise (· < ·)) {c : Int} (h : l[(l.filter fun c => decide (c < s)).length]? = some c) : c = s ↔ s ∈ l := by
  have k := (asc_lt s hp _ _ h)
  constructor
  · intro e; rw [← e]; exact List.mem_of_getElem? h
  · intro hm
    obtain ⟨j, hj⟩ := List.getElem?_of_mem hm
    have k2 := asc_lt s hp j s hj
    have ge : s ≤ c := by
      have : ¬ c < s := fun z => absurd (k.mpr z) (Nat.lt_irrefl _)
      omega
    have hj1 : (l.filter fun c => decide (c < s)).length ≤ j := by
      have : ¬ j < (l.filter fun c => decide (c < s)).length := fun z => absurd (k2.mp z) (Int.lt_irrefl _)
      omega
    rcases Nat.lt_or_ge (l.filter fun c => decide (c < s)).length j with g | g
    · obtain ⟨lj, ej⟩ := List.getElem?_eq_some_iff.mp hj
      obtain ⟨lm, em⟩ := List.getElem?_eq_some_iff.mp h
      have := (List.pairwise_iff_getElem.mp hp) _ _ lm lj g
      rw [ej, em] at this
      omega
    · have : j = (l.filter fun c => decide (c < s)).length := by omega
      rw [← this, hj] at h
      exact (Option.some.inj h).symm
end Fb
namespace PySem
open Sem (wp)
/-- l.extend(a tuple), whatever its dict and its slots -/
theorem fb_ext_tup (p : Addr) (us : Array Value) (m : Nat) (q : Addr) (ws : Array Value) (k : Nat) (od : Option Addr) (osl : Array (Option Value)) (r0 : ¬(!us.isEmpty && Builtin.List.listTooLong (us.size + ws.size)) = true) (r1 : us.size ≤ sizeLine) (r2 : us.size + ws.size ≤ sizeLine + 1) :
    Meets (Builtin.«list.extend» ⟨[.ref p, .ref q], []⟩) (fun _ R s => s.heap.get? p = some { cls := .type "list", data := .seq us m } ∧ s.heap.get? q = some { cls := .type "tuple", dict := od, data := .seq ws k, slots := osl } ∧
      R (.ok (.ret Value.none)) { s with heap := s.heap.update p (Obj.mapSeq fun x => x ++ ws), toks := s.toks }) :=
  .of_wp fun prog w A R s h => by
    obtain ⟨hp, g, d, tk, os⟩ := s
    obtain ⟨hl, hb, h⟩ := h
    have g1 := AutoSeq1.idx_int
    have g2 := AutoSeq1.sub_tuple_tuple
    have g3 := AutoSeq1.sub_list_list
    have g4 := AutoSeq1.sub_tuple_list
    have g5 := AutoSeq1.sub_list_tuple
    have big : (us ++ ws).size ≤ sizeLine + 1 := by
      rw [Array.size_append]
      omega
    wp_walk using (wpAny_updateSeq hl rfl (hz := r1) (_hz' := big)), wpAny_loadPart' hl, wpAny_loadPart' hb
    exact ⟨_, rfl, h⟩
end PySem
namespace Fb
open PySem L2 PySem.Spec PyProof.Rows
/-! ### lists and tuples alike -/
def Sq (K : PySem.W.Frag) (H : Hp) (a : Addr) (xs : List V) : Prop := H a = some (.lst xs) ∨ SqT K H a xs
theorem Sq.same {K : PySem.W.Frag} {H H' : Hp} {a : Addr} {xs : List V} (h : Sq K H a xs) (e : Same H H') : Sq K H' a xs := h.imp (fun h => e _ _ h) (fun h => (Nd.of e).sqt h)
theorem Sq.any {K : PySem.W.Frag} {H : Hp} {a : Addr} {xs : List V} (h : Sq K H a xs) : SqL K H a xs ∨ SqT K H a xs := h.imp SqL.of id
theorem Sq.tru {K : PySem.W.Frag} {H : Hp} {a : Addr} {xs : List V} (h : Sq K H a xs) : TruV K (.ref a) H (!xs.isEmpty) := h.elim (fun h => .inl ⟨_, SqL.of h, rfl⟩) fun h => .inr (.inl ⟨_, h, rfl⟩)
/-- a slice, a new list, or a tuple -/
def rSlS (K : PySem.W.Frag) : V → Option Int → Option Int → Hp → VK → Prop := fun x lo hi H Q => ∃ a xs, x = .ref a ∧ Sq K H a xs ∧ ∀ b H', Same H H' → H b = none ∨ H' = H → Sq K H' b (cutV xs lo hi) → Q (.ref b) H'
theorem sl_seq {X : Cx} (K : PySem.W.Frag) (hK : X.K = K := by rfl) : SlR X (rSlS K) := by
  subst hK
  intro pins s σ H x v vl vu lo hi sl Q I rx hs pl pu ⟨a, xs, e, h, q⟩
  refine (sl_list.or sl_tupA) pins s σ H x v vl vu lo hi sl Q I rx hs pl pu (h.imp (fun h => ⟨a, xs, e, SqL.of h, fun p np => q p _ (Same.new np) (.inl np) (.inl upd_same)⟩) fun h => ⟨a, xs, e, h, fun hw => ?_, fun _ p np => q p _ (Same.new np) (.inl np) (.inr (SqT.of upd_same))⟩)
  refine q a H (Same.refl H) (.inr rfl) (.inr ?_)
  unfold cutV
  rw [hw.1, hw.2, List.drop_zero, Nat.sub_zero, List.take_length]
  exact h
/-- l.extend(a list, or a tuple) -/
def rExtS (K : PySem.W.Frag) : V → List V → Hp → VK → Prop := fun x vs H Q => ∃ l b xs zs, x = .ref l ∧ vs = [.ref b] ∧ H l = some (.lst xs) ∧ Sq K H b zs ∧ xs.length + zs.length ≤ sizeLine ∧ Q .non (upd H l (.lst (xs ++ zs)))
theorem mt_extS {X : Cx} (K : PySem.W.Frag) (hK : X.K = K := by rfl) : MtM X "list.extend" (rExtS K) := by
  subst hK
  rintro pins s σ H v0 vs v us Q I rx rv ⟨l, b, xs, zs, rfl, rfl, at_l, hz, fits, q⟩
  rcases hz with hz | hz
  · exact mt_extend pins s σ H _ _ v us Q I rx rv ⟨l, b, xs, zs, rfl, rfl, at_l, hz, fits, q⟩
  cases rx
  obtain ⟨_, rfl, ru⟩ := rv.one
  cases ru
  obtain ⟨_, us1, n1, rel1, len1, get1⟩ := I.lstM at_l
  obtain ⟨us2, rel2, isT, _⟩ := I.tuple hz
  have e1 := rel1.length
  have e2 := rel2.length
  obtain ⟨⟨oc, od, oda, osl⟩, get2, rfl, n2, rfl⟩ := isT
  have fit : us1.toArray.size + us2.toArray.size ≤ sizeLine := by
    rw [List.size_toArray, List.size_toArray]
    omega
  have room1 : ¬ (!us1.toArray.isEmpty && Builtin.List.listTooLong (us1.toArray.size + us2.toArray.size)) = true := by
    rw [notLongL fit, Bool.and_false]
    decide
  refine call_meets F.slot_list_extend ⟨_, get1, rfl⟩ F.entry_list_extend (F.args_list_extend_2 _ _) (PySem.fb_ext_tup l _ n1 b _ n2 od osl room1 (by omega) (by omega)) ⟨get1, get2, ?_⟩
  refine ⟨.non, _, I.lset (its' := us1 ++ us2) at_l get1 (by simp) (rel1.append rel2) ?_, rfl, q⟩
  rw [List.length_append]
  exact fits
/-- a loop over either -/
theorem pi_or {X : Cx} {tg l : Expr} {t1 t2 : TI} (h1 : PI X tg l t1) (h2 : PI X tg l t2) : PI X tg l (fun σ H R => t1 σ H R ∨ t2 σ H R) := ⟨fun pins s σ H R I h => h.elim (h1.run pins s σ H R I) (h2.run pins s σ H R I)⟩
def iSeq (K : PySem.W.Frag) (t : TE) : TI := fun σ H R => iList K t σ H R ∨ iTup K t σ H R
theorem pi_seq {X : Cx} {tg l : Expr} {t : TE} (K : PySem.W.Frag) (h : PE X l t) (hK : X.K = K := by rfl) : PI X tg l (iSeq K t) := by
  subst hK
  exact pi_or (pi_list h) (pi_tup h)
theorem for_seq {K : PySem.W.Frag} {a : Addr} {xs : List V} {g : TG} {tb : L2.TS} {D : Ends} {σ : L2.St} {H0 H : Hp} {j : Nat} (hs0 : Sq K H0 a xs) (hv : σ[j]? = some (some (.ref a))) (Pv : Nat → L2.St → Hp → Prop) (h0 : Pv 0 σ H) (hl : ∀ i σ H', i ≤ xs.length → Pv i σ H' → Same H0 H')
    (hs : ∀ i x σ H, xs[i]? = some x → Pv i σ H → g x σ H fun σ2 H2 => tb { D with nx := Pv (i + 1), ct := Pv (i + 1), bk := D.nx } σ2 H2) (hd : ∀ σ H, Pv xs.length σ H → D.nx σ H) :
    tFor (iSeq K (tVar j)) g tb D σ H := by
  have here := hl 0 σ H (Nat.zero_le _) h0
  rcases hs0 with h | h
  · exact .inl ⟨_, hv, a, rfl, ⟨_, SqL.of (here _ _ h)⟩, for_list Pv h0 (fun i σ H' hi p => SqL.of (hl i σ H' hi p _ _ h)) hs hd⟩
  · exact .inr ⟨_, hv, a, rfl, ⟨_, (Nd.of here).sqt h⟩, for_tup Pv h0 (fun i σ H' hi p => (Nd.of (hl i σ H' hi p)).sqt h) hs hd⟩
/-- places, by codes -/
structure Pls (K : PySem.W.Frag) (H : Hp) (f : Int → PyData) (a : Addr) (l : List Int) : Prop where
  ex : ∃ vs, Sq K H a vs ∧ DpAll K H vs (l.map f)
theorem Pls.same {K : PySem.W.Frag} {H H' : Hp} {f : Int → PyData} {a : Addr} {l : List Int} (h : Pls K H f a l) (e : Same H H') : Pls K H' f a l := by
  obtain ⟨vs, s, d⟩ := h.ex
  exact ⟨vs, s.same e, (Nd.of e).ds d⟩
theorem Pls.at {K : PySem.W.Frag} {H : Hp} {f : Int → PyData} {a : Addr} {l : List Int} (h : Pls K H f a l) : ∃ vs, Sq K H a vs ∧ vs.length = l.length ∧ DpAll K H vs (l.map f) ∧ ∀ (i : Nat) (c : Int), l[i]? = some c → ∃ v, vs[i]? = some v ∧ Dp K H v (f c) := by
  obtain ⟨vs, s, d⟩ := h.ex
  have e : vs.length = l.length := by rw [dps_length d, List.length_map]
  refine ⟨vs, s, e, d, fun i c hc => ?_⟩
  obtain ⟨hi, _⟩ := List.getElem?_eq_some_iff.mp hc
  obtain ⟨v, hv⟩ : ∃ v, vs[i]? = some v := ⟨_, List.getElem?_eq_getElem (by omega)⟩
  obtain ⟨d', hd', dp⟩ := dps_get d hv
  rw [List.getElem?_map, hc] at hd'
  cases hd'
  exact ⟨v, hv, dp⟩
/-- a slice of places -/
theorem cut_nat {xs : List V} {i j : Nat} (hi : i ≤ xs.length) (hj : j ≤ xs.length) : cutV xs (some (i : Int)) (some (j : Int)) = (xs.take j).drop i := by
  unfold cutV
  rw [HT.sIx_nat, HT.sIx_nat, Nat.min_eq_left hi, Nat.min_eq_left hj, List.drop_take]
theorem cut_from {xs : List V} {i : Nat} (hi : i ≤ xs.length) : cutV xs (some (i : Int)) none = xs.drop i := by
  unfold cutV
  rw [HT.sIx_nat, Nat.min_eq_left hi]
  show List.take (xs.length - i) (xs.drop i) = _
  rw [List.take_of_length_le (by rw [List.length_drop]; exact Nat.le_refl _)]
/-- what a step of the merging leaves -/
theorem mrg_step {a : Int} {A B : List Int} {st : Nat} (hB : B.Pairwise (· < ·)) (h : ∀ t ∈ B.take st, t < a) (hst : st ≤ B.length) :
    st ≤ clt B a ∧ mrg (a :: A) (B.drop st) = (B.take (clt B a)).drop st ++ ((if a ∈ B then [] else [a]) ++ mrg A (B.drop (cnt B a))) := by
  have e1 : clt B a = st + clt (B.drop st) a := by
    have e := congrArg (fun l => (l.filter fun t => decide (t < a)).length) (List.take_append_drop st B)
    simp only [List.filter_append, List.length_append] at e
    rw [List.filter_eq_self.mpr fun t ht => by simp [h t ht], List.length_take, Nat.min_eq_left hst] at e
    exact e.symm
  have e2 : cnt B a = st + cnt (B.drop st) a := by
    have e := congrArg (fun l => cnt l a) (List.take_append_drop st B)
    simp only [cnt_app] at e
    rw [cnt_all fun t ht => by have := h t ht; omega, List.length_take, Nat.min_eq_left hst] at e
    exact e.symm
  have m : a ∈ B.drop st ↔ a ∈ B := by
    constructor
    · exact List.mem_of_mem_drop
    · intro k
      rw [← List.take_append_drop st B] at k
      rcases List.mem_append.mp k with k | k
      · have := h a k; omega
      · exact k
  refine ⟨by omega, ?_⟩
  show (B.drop st).take (clt (B.drop st) a) ++ ((if a ∈ B.drop st then [] else [a]) ++ mrg A ((B.drop st).drop (cnt (B.drop st) a))) = _
  rw [List.drop_drop, ← e2, List.drop_take, show clt B a - st = clt (B.drop st) a by omega]
  simp only [m]
theorem take_cnt_lt {a c : Int} {B : List Int} (hB : B.Pairwise (· < ·)) (h : a < c) : ∀ t ∈ B.take (cnt B a), t < c := fun t ht => by
  have := take_cnt_le hB t ht
  omega
/-- the shorter one first -/
def fm2 (l m : List Int) : List Int × List Int := if l.length ≤ m.length then (l, m) else (m, l)
theorem clt_le_cnt : ∀ (B : List Int) (a : Int), clt B a ≤ cnt B a
  | [], _ => Nat.le_refl _
  | b :: B, a => by
    have := clt_le_cnt B a
    rw [clt_cons, cnt_cons]
    split <;> split <;> omega
theorem mrg_len : ∀ (A B : List Int), (mrg A B).length ≤ A.length + B.length
  | [], B => by show B.length ≤ _; simp
  | a :: A, B => by
    have := mrg_len A (B.drop (cnt B a))
    show (B.take (clt B a) ++ ((if a ∈ B then [] else [a]) ++ mrg A (B.drop (cnt B a)))).length ≤ _
    rw [List.length_append, List.length_append, List.length_take, List.length_cons]
    rw [List.length_drop] at this
    have k := clt_le_cnt B a
    have := cnt_le B a
    split <;> simp <;> omega
end Fb
namespace Fb
open PySem L2 Bx
theorem ix_seqK {X : Cx} (K : PySem.W.Frag) (hK : X.K = K := by rfl) : IxR X (rIx K) := by subst hK; exact ix_seq
theorem rIx_sq {K : PySem.W.Frag} {p : Addr} {xs : List V} {i : Int} {v : V} {H : Hp} {Q : VK} (h : Sq K H p xs) (e : atI xs i = some v) (q : Q v H) : rIx K (.ref p) (.int i) H Q :=
  h.any.elim (fun h => .inl ⟨p, xs, i, v, rfl, rfl, h, e, q⟩) fun h => .inr (.inl ⟨p, xs, i, v, rfl, rfl, h, e, q⟩)
def rLenS (K : PySem.W.Frag) : List V → Hp → VK → Prop := fun xs H Q => ∃ p ys, xs = [.ref p] ∧ Sq K H p ys ∧ Q (.int ys.length) H
theorem call_lenS {X : Cx} (K : PySem.W.Frag) (hK : X.K = K := by rfl) : CallR X (.builtin "len") (rLenS K) := by
  subst hK
  exact fun pins s σ H xs us Q I r ⟨p, ys, e, h, q⟩ => call_len_seq pins s σ H xs us Q I r ⟨p, ys, e, h.any, q⟩
def rListS (K : PySem.W.Frag) : List V → Hp → VK → Prop := fun xs H Q => ∃ p ys, xs = [.ref p] ∧ Sq K H p ys ∧ ∀ l, H l = none → Q (.ref l) (upd H l (.lst ys))
theorem call_listS {X : Cx} (K : PySem.W.Frag) (hK : X.K = K := by rfl) : CallR X (.type "list") (rListS K) := by
  subst hK
  exact fun pins s σ H xs us Q I r ⟨p, ys, e, h, q⟩ => call_list_of pins s σ H xs us Q I r ⟨p, ys, e, h.any, q⟩
def rTupS (K : PySem.W.Frag) : List V → Hp → VK → Prop := fun xs H Q => ∃ p ys, xs = [.ref p] ∧ Sq K H p ys ∧ ∀ t H', Same H H' → SqT K H' t ys → Q (.ref t) H'
theorem call_tupS {X : Cx} (K : PySem.W.Frag) (hK : X.K = K := by rfl) : CallR X (.type "tuple") (rTupS K) := by
  subst hK
  exact fun pins s σ H xs us Q I r ⟨p, ys, e, h, q⟩ => call_tuple_of pins s σ H xs us Q I r ⟨p, ys, e, h.elim (fun h => .inl ⟨SqL.of h, fun l nl => q l _ (Same.new nl) (SqT.of upd_same)⟩) fun h => .inr ⟨h, q p H (Same.refl H) h⟩⟩
/-- numbers whose turns are places of S -/
structure Num (f : Int → PyData) (S : Int → Prop) (z : Int) : Prop where
  mem : ∀ c ∈ Tl z, S c
  len : (Tl z).length ≤ 8500
def numD (f : Int → PyData) (z : Int) : PyData := rowF f (Tl z)
theorem tl_near {z : Int} : plain z ↔ ∀ c ∈ Tl z, c ≤ 64 := by
  rw [plain_iff]
  unfold Tl zs
  constructor
  · intro h c hc
    obtain ⟨p, hp, rfl⟩ := List.mem_map.mp hc
    have := h p hp
    show ((p : Nat) : Int) ≤ 64
    omega
  · intro h p hp
    have := h ((p : Nat) : Int) (List.mem_map.mpr ⟨p, hp, rfl⟩)
    omega
theorem num_cases {n : Nat} {f : Int → PyData} {S : Int → Prop} (o : OrdN n f S) {z : Int} (hz : Num f S z) :
    (plain z ∧ numD f z = .int z ∧ (Tl z).map f = nD (turnsN z)) ∨ (¬ plain z ∧ numD f z = .tuple ((Tl z).map f) ∧ ∃ m p, Tl z = m ++ [p] ∧ 64 < p) := by
  have vz : alt (-1) ((Tl z).map Int.toNat) = z := by unfold Tl; rw [zs_nat, turns_alt]
  rcases row_cases o hz.mem (tl_asc z) with ⟨all, e⟩ | ⟨m, p, el, p64, e⟩
  · refine .inl ⟨tl_near.mpr all, by unfold numD; rw [e, vz], ?_⟩
    have : (Tl z).map f = (Tl z).map PyData.int := List.map_congr_left fun c hc => o.near c (hz.mem c hc) (all c hc)
    rw [this]
    unfold Tl zs nD
    rw [List.map_map]
    rfl
  · refine .inr ⟨fun h => ?_, e, m, p, el, p64⟩
    have := tl_near.mp h p (by rw [el]; simp)
    omega
theorem num_fm {n : Nat} {f : Int → PyData} {S : Int → Prop} (o : OrdN n f S) {z : Int} (hz : Num f S z) : Fm (n + 1) (numD f z) := row_fm o hz.mem (tl_asc z) (by have := hz.len; omega)
theorem xor_alt {ns : List Nat} {t : Nat} (h : (ns ++ [t]).Pairwise (· < ·)) : Builtin.bitXor (alt (-1) ns) (-1 * 2 ^ t) = alt (-1) (ns ++ [t]) := by
  have h1 := (List.pairwise_append.mp h).1
  refine bt_ext fun p => ?_
  have e : (-1 * 2 ^ t : Int) = alt (-1) [t] := by show _ = -1 * 2 ^ t + 0; omega
  rw [bt_xor, e, bt_alt p ns h1, bt_alt p [t] (by simp), bt_alt p _ h, List.filter_append, List.length_append]
  omega
section
variable {P : Program} {w : World} {K : PySem.W.Frag} {mg : Str → Option Value} {base : Heap} {f : Addr} {fd : FuncData}
abbrev S_is_near : Stmt := top 5
abbrev N_is_near : List Str := ["place"]
abbrev P_is_near : List Str := ["place"]
theorem sc_is_near : FnScope N_is_near P_is_near (defScope S_is_near) := ⟨rfl, rfl, rfl, by decide +kernel, rfl, by decide +kernel, by decide +kernel⟩
def spNear (K : PySem.W.Frag) : Sp := fun vs H Q _ => ∃ (v : V) (d : PyData), vs = [v] ∧ Dp K H v d ∧ (∀ b, d ≠ .bool b) ∧ ∀ H' : Hp, Same H H' → Q (.bl (isNear d)) H'
theorem ok_near {tk : Tok} (F : Fun K "is_near" "is_near" S_is_near f fd) (B : Blt mg) (ML : mg "LAST_PLAIN_TURN" = some (.int 64 tk)) : FnOk P w K mg base CX0 1 f fd P_is_near (spNear K) := by
  have nd := sc_is_near.nd
  refine F.ok sc_is_near (fun vs H Q E h => ?_) (fun cdv A outer s H vs Q E hr h => ?_)
  · obtain ⟨v, d, rfl, _⟩ := h
    rfl
  obtain ⟨v, d, rfl, hd, hb, q⟩ := h
  refine ⟨_, (pss_one (ps_ret (pe_and (pe_callB (call_isiI K) (by rfl) B.isinstance (by decide +kernel) (pa_cons (pv 0) (pa_cons (pe_bltn (by rfl) B.int (by decide +kernel) (show RelV (.ty "int") (.type "int") from rfl)) pa_nil))) (pe_one (pe_cmpR op_le (pv 0) (pe_glob (v := .int 64) rfl ML ⟨_, rfl⟩) (nomark _)))))), ?_⟩
  refine ⟨_, rfl, _, d, rfl, hd, _, rfl, ?_⟩
  have q' := q H (Same.refl H)
  cases d with
  | int i =>
    cases hd
    refine iteT ?_
    exact ⟨_, rfl, _, _, rfl, rfl, q'⟩
  | bool b => exact absurd rfl (hb b)
  | tuple ds => exact iteF q'
  | none => exact iteF q'
  | str x => exact iteF q'
  | list x => exact iteF q'
  | dict x => exact iteF q'
theorem asc_ge {ns : List Nat} (asc : ns.Pairwise (· < ·)) : ∀ k (h : k < ns.length), k ≤ ns[k] := by
  intro k
  induction k with
  | zero => intro h; exact Nat.zero_le _
  | succ k ih =>
    intro h
    have h1 := ih (by omega)
    have h2 := List.pairwise_iff_getElem.mp asc k (k + 1) (by omega) h (by omega)
    omega
theorem asc_few {ns : List Nat} {b : Nat} (asc : ns.Pairwise (· < ·)) (le : ∀ p ∈ ns, p ≤ b) : ns.length ≤ b + 1 := by
  by_cases h : ns.length ≤ b + 1
  · exact h
  · have := asc_ge asc (b + 1) (by omega)
    have := le _ (List.getElem_mem (show b + 1 < ns.length by omega))
    omega
def spRows (K : PySem.W.Frag) : Sp := fun vs H Q _ => ∃ (a : Addr) (ns : List Nat), vs = [.ref a] ∧ Sq K H a (nI ns) ∧ ns.Pairwise (· < ·) ∧ 2 ≤ ns.length ∧ (∀ p ∈ ns, p ≤ 700000) ∧ ∀ H' : Hp, Same H H' → Q (.int (alt (-1) ns)) H'
def spIoT (K : PySem.W.Frag) : Sp := fun vs H Q _ => ∃ (a : Addr) (ns : List Nat), vs = [.ref a] ∧ Sq K H a (nI ns) ∧ ns.Pairwise (· < ·) ∧ (∀ p ∈ ns, p ≤ 700000) ∧ (16 < ns.length → ∀ p ∈ ns, p ≤ 700000) ∧ ∀ H' : Hp, Same H H' → Q (.int (alt (-1) ns)) H'
def spWith (K : PySem.W.Frag) (g : Int → PyData) (S : Int → Prop) : Sp := fun vs H Q _ => ∃ (a : Addr) (z : Int), vs = [.ref a] ∧ Pls K H g a (Tl z) ∧ Num g S z ∧ ∀ (v : V) (H' : Hp), Same H H' → Dp K H' v (numD g z) → Q v H'
def spTin (K : PySem.W.Frag) (g : Int → PyData) (S : Int → Prop) : Sp := fun vs H Q _ => ∃ (v : V) (z : Int), vs = [v] ∧ Dp K H v (numD g z) ∧ Num g S z ∧ ∀ (a : Addr) (H' : Hp), Same H H' → Pls K H' g a (Tl z) → Q (.ref a) H'
def spLess (K : PySem.W.Frag) (g : Int → PyData) (S : Int → Prop) : Sp := fun vs H Q _ => ∃ (x y : V) (c d : Int), vs = [x, y] ∧ Dp K H x (g c) ∧ Dp K H y (g d) ∧ S c ∧ S d ∧ ∀ H' : Hp, Same H H' → Q (.bl (decide (c < d))) H'
theorem sgn_lt {d c : Int} : sgnI d c < 0 ↔ d < c := by
  rcases Int.lt_trichotomy d c with k | k | k
  · rw [sgnI_lt k]; exact ⟨fun _ => k, fun _ => by decide⟩
  · subst k; rw [sgnI_self]; exact ⟨fun z => absurd z (by decide), fun z => absurd z (Int.lt_irrefl _)⟩
  · rw [sgnI_gt k]; exact ⟨fun z => absurd z (by decide), fun z => by omega⟩
def spBetween (K : PySem.W.Frag) (g : Int → PyData) (S : Int → Prop) : Sp := fun vs H Q _ => ∃ (a : Addr) (y : V) (l : List Int) (c : Int) (l0 h0 : Nat), vs = [.ref a, y, .int (l0 : Int), .int (h0 : Int)] ∧ Pls K H g a l ∧ Dp K H y (g c) ∧ l.Pairwise (· < ·) ∧ (∀ t ∈ l, S t) ∧ S c ∧ l0 ≤ clt l c ∧ clt l c ≤ h0 ∧ h0 ≤ l.length ∧
  ∀ H' : Hp, Same H H' → Q (.int (clt l c : Int)) H'
def spBefore (K : PySem.W.Frag) (g : Int → PyData) (S : Int → Prop) : Sp := fun vs H Q _ => ∃ (a : Addr) (y : V) (l : List Int) (c : Int) (s : Nat), vs = [.ref a, y, .int (s : Int)] ∧ Pls K H g a l ∧ Dp K H y (g c) ∧ l.Pairwise (· < ·) ∧ (∀ t ∈ l, S t) ∧ S c ∧ s ≤ clt l c ∧ l.length ≤ 30000 ∧
  ∀ H' : Hp, Same H H' → Q (.int (clt l c : Int)) H'
def spUpTo (K : PySem.W.Frag) (g : Int → PyData) (S : Int → Prop) : Sp := fun vs H Q _ => ∃ (a : Addr) (y : V) (l : List Int) (c : Int) (s : Nat), vs = [.ref a, y, .int (s : Int)] ∧ Pls K H g a l ∧ Dp K H y (g c) ∧ l.Pairwise (· < ·) ∧ (∀ t ∈ l, S t) ∧ S c ∧ s ≤ clt l c ∧ l.length ≤ 30000 ∧ ∀ H' : Hp, Same H H' → Q (.int (cnt l c : Int)) H'
def spShort (K : PySem.W.Frag) : Sp := fun vs H Q _ => ∃ (a b : Addr) (xs ys : List V), vs = [.ref a, .ref b] ∧ Sq K H a xs ∧ Sq K H b ys ∧ ∀ (t : Addr) (H' : Hp), Same H H' → SqT K H' t (if xs.length ≤ ys.length then [.ref a, .ref b] else [.ref b, .ref a]) → Q (.ref t) H'
end
end Fb
namespace Fb
open PySem L2
/-- two sequences of places, the shorter one first -/
theorem two_pls {K : PySem.W.Frag} {H : Hp} {g : Int → PyData} {S : Int → Prop} {a b : Addr} {l m : List Int} {vs ws : List V} (hl : vs.length = l.length) (hm : ws.length = m.length) (hp : Pls K H g a l) (hq : Pls K H g b m)
    (al : l.Pairwise (· < ·)) (am : m.Pairwise (· < ·)) (sl : ∀ t ∈ l, S t) (sm : ∀ t ∈ m, S t) :
    ∃ (u v : Addr) (A B : List Int), (if vs.length ≤ ws.length then [V.ref a, .ref b] else [.ref b, .ref a]) = [.ref u, .ref v] ∧ fm2 l m = (A, B) ∧ Pls K H g u A ∧ Pls K H g v B ∧ A.Pairwise (· < ·) ∧ B.Pairwise (· < ·) ∧ (∀ t ∈ A, S t) ∧ (∀ t ∈ B, S t) ∧ A.length + B.length = l.length + m.length := by
  unfold fm2
  rw [hl, hm]
  split
  · exact ⟨a, b, l, m, rfl, rfl, hp, hq, al, am, sl, sm, rfl⟩
  · exact ⟨b, a, m, l, rfl, rfl, hq, hp, am, al, sm, sl, Nat.add_comm _ _⟩
section
variable {P : Program} {w : World} {K : PySem.W.Frag} {mg : Str → Option Value} {base : Heap} {f : Addr} {fd : FuncData}
def spMerged (K : PySem.W.Frag) (g : Int → PyData) (S : Int → Prop) : Sp := fun vs H Q _ => ∃ (a b : Addr) (l m : List Int), vs = [.ref a, .ref b] ∧ Pls K H g a l ∧ Pls K H g b m ∧ l.Pairwise (· < ·) ∧ m.Pairwise (· < ·) ∧ (∀ t ∈ l, S t) ∧ (∀ t ∈ m, S t) ∧ l.length + m.length ≤ 30000 ∧
  ∀ (p : Addr) (us : List V) (H' : Hp), Same H H' → H' p = some (.lst us) → DpAll K H' us ((mrg (fm2 l m).1 (fm2 l m).2).map g) → Q (.ref p) H'
def spFlip (K : PySem.W.Frag) (g : Int → PyData) (S : Int → Prop) : Sp := fun vs H Q _ => ∃ (a : Addr) (l : List Int), vs = [.ref a] ∧ Pls K H g a l ∧ (∀ t ∈ l, S t) ∧ l.length ≤ 30000 ∧ ∀ (p : Addr) (us : List V) (H' : Hp), Same H H' → H' p = some (.lst us) → DpAll K H' us ((flp l).map g) → Q (.ref p) H'
def spCommon (K : PySem.W.Frag) (g : Int → PyData) (S : Int → Prop) : Sp := fun vs H Q _ => ∃ (a b : Addr) (l m : List Int), vs = [.ref a, .ref b] ∧ Pls K H g a l ∧ Pls K H g b m ∧ l.Pairwise (· < ·) ∧ m.Pairwise (· < ·) ∧ (∀ t ∈ l, S t) ∧ (∀ t ∈ m, S t) ∧ l.length + m.length ≤ 4000 ∧
  ∀ (p : Addr) (us : List V) (H' : Hp), Same H H' → H' p = some (.lst us) → DpAll K H' us ((com (fm2 l m).2 (fm2 l m).1).map g) → Q (.ref p) H'
theorem rg2 (n : Nat) (h : n ≤ 10000) : RgC 0 (n : Int) 2 ((n + 1) / 2) := by
  have e : Builtin.Range.rangeSize 0 (n : Int) 2 = (((n + 1) / 2 : Nat) : Int) := by
    unfold Builtin.Range.rangeSize
    rw [if_pos (by decide)]
    split <;> omega
  refine ⟨by decide, by decide, ?_, e⟩
  unfold Builtin.Range.small
  rw [e]
  generalize (n + 1) / 2 = m at e
  have hm : m ≤ 10000 := by
    unfold Builtin.Range.rangeSize at e
    rw [if_pos (by decide)] at e
    split at e <;> omega
  have fits : ∀ i : Int, -20000 ≤ i → i ≤ 20000 → Builtin.Range.rangeFitsLong i = true := fun i h1 h2 => by
    unfold Builtin.Range.rangeFitsLong
    rw [decide_eq_true (show -(2 ^ 63) ≤ i by omega), decide_eq_true (show i < 2 ^ 63 by omega)]
    rfl
  simp [fits (n : Int) (by omega) (by omega), fits (m : Int) (by omega) (by omega), fits 0 (by decide) (by decide), fits 2 (by decide) (by decide), fits ((n : Int) + 1) (by omega) (by omega)]
theorem com_len (B : List Int) : ∀ A : List Int, (com B A).length ≤ (A.length + 1) * (B.length + 2)
  | [] => Nat.zero_le _
  | [u] => by
    show ((if cnt B u % 2 = 1 then [u] else []) ++ B.drop (cnt B u)).length ≤ _
    rw [List.length_append, List.length_drop]
    show _ ≤ 2 * (B.length + 2)
    split <;> simp <;> omega
  | u :: v :: A => by
    have ih := com_len B A
    show ((if cnt B u % 2 = 1 then [u] else []) ++ ((B.take (clt B v)).drop (cnt B u) ++ ((if clt B v % 2 = 1 then [v] else []) ++ com B A))).length ≤ (A.length + 2 + 1) * (B.length + 2)
    rw [List.length_append, List.length_append, List.length_append, List.length_drop, List.length_take]
    have e : (A.length + 2 + 1) * (B.length + 2) = (A.length + 1) * (B.length + 2) + 2 * (B.length + 2) := by rw [← Nat.add_mul]
    rw [e]
    split <;> split <;> simp <;> omega
end
end Fb
namespace Fb
open PySem L2
/-! ### numbers whose places are near ints -/
def mv (g : Int → PyData) (c : Int) : Int := match g c with
  | .int i => i
  | _ => 0
theorem mv_int {g : Int → PyData} {c i : Int} (h : g c = .int i) : mv g c = i := by unfold mv; rw [h]
/-- the places of z are ints, and not far -/
def Near (g : Int → PyData) (z : Int) : Prop := ∀ c ∈ Tl z, g c = .int (mv g c) ∧ 0 ≤ mv g c ∧ mv g c ≤ 520000
/-- no place beyond M -/
def NearB (g : Int → PyData) (M : Int) (z : Int) : Prop := ∀ c ∈ Tl z, mv g c ≤ M
/-- both so, or neither of them with many -/
def Lo2 (_ : Int → PyData) (x y : Int) : Prop := (Tl x).length + (Tl y).length ≤ 8000
def XN (g : Int → PyData) (z : Int) : Int := alt (-1) ((Tl z).map fun c => (mv g c).toNat)
theorem mv_mono {n : Nat} {g : Int → PyData} {S : Int → Prop} (o : OrdN n g S) {c d : Int} (sc : S c) (sd : S d) (hc : g c = .int (mv g c)) (hd : g d = .int (mv g d)) : mv g c < mv g d ↔ c < d := by
  have h := o.ord c d sc sd
  have ec : cmpD n (.int (mv g c)) (.int (mv g d)) = sgnI (mv g c) (mv g d) := by cases n <;> rfl
  rw [hc, hd, ec] at h
  rw [← sgn_lt, h, sgn_lt]
theorem tl_XN {n : Nat} {g : Int → PyData} {S : Int → Prop} (o : OrdN n g S) {z : Int} (hz : Num g S z) (hn : Near g z) : Tl (XN g z) = (Tl z).map (mv g) := by
  have asc : ((Tl z).map fun c => (mv g c).toNat).Pairwise (· < ·) := by
    rw [List.pairwise_map]
    refine (tl_asc z).imp_of_mem fun {a b} ha hb h => ?_
    have := (mv_mono o (hz.mem a ha) (hz.mem b hb) (hn a ha).1 (hn b hb).1).mpr h
    have := (hn a ha).2.1
    omega
  have e : ((Tl z).map fun c => (mv g c).toNat) = ((Tl z).map (mv g)).map Int.toNat := by rw [List.map_map]; rfl
  show zs (turnsN (alt (-1) ((Tl z).map fun c => (mv g c).toNat))) = _
  rw [turns_of_alt asc, e, zs_toNat]
  · intro a ha
    obtain ⟨c, hc, rfl⟩ := List.mem_map.mp ha
    exact (hn c hc).2.1
section
variable {m : Int → Int} {R : Int → Prop} (hm : ∀ c d, R c → R d → (m c < m d ↔ c < d))
include hm
theorem cnt_map {l : List Int} (hl : ∀ c ∈ l, R c) {c : Int} (hc : R c) : cnt (l.map m) (m c) = cnt l c := by
  unfold cnt
  rw [List.filter_map, List.length_map]
  congr 1
  refine List.filter_congr fun t ht => ?_
  show decide (m t ≤ m c) = decide (t ≤ c)
  have := hm c t hc (hl t ht)
  exact decide_eq_decide.mpr (by omega)
theorem clt_map {l : List Int} (hl : ∀ c ∈ l, R c) {c : Int} (hc : R c) : clt (l.map m) (m c) = clt l c := by
  unfold clt
  rw [List.filter_map, List.length_map]
  congr 1
  refine List.filter_congr fun t ht => ?_
  show decide (m t < m c) = decide (t < c)
  exact decide_eq_decide.mpr (hm t c (hl t ht) hc)
theorem mem_mapM {l : List Int} (hl : ∀ c ∈ l, R c) {c : Int} (hc : R c) : m c ∈ l.map m ↔ c ∈ l := by
  constructor
  · intro h
    obtain ⟨t, ht, e⟩ := List.mem_map.mp h
    have h1 := hm t c (hl t ht) hc
    have h2 := hm c t hc (hl t ht)
    have : t = c := by omega
    rw [← this]; exact ht
  · exact fun h => List.mem_map_of_mem h
theorem mrg_map : ∀ {A B : List Int}, (∀ c ∈ A, R c) → (∀ c ∈ B, R c) → mrg (A.map m) (B.map m) = (mrg A B).map m
  | [], B, _, _ => rfl
  | a :: A, B, hA, hB => by
    have ha := hA a List.mem_cons_self
    show (B.map m).take (clt (B.map m) (m a)) ++ ((if m a ∈ B.map m then [] else [m a]) ++ mrg (A.map m) ((B.map m).drop (cnt (B.map m) (m a)))) = (B.take (clt B a) ++ ((if a ∈ B then [] else [a]) ++ mrg A (B.drop (cnt B a)))).map m
    rw [cnt_map hm hB ha, clt_map hm hB ha, ← List.map_drop, mrg_map (fun c h => hA c (List.mem_cons_of_mem _ h)) (fun c h => hB c (List.mem_of_mem_drop h)), List.map_append, List.map_append, List.map_take]
    congr 2
    by_cases h : a ∈ B
    · rw [if_pos h, if_pos ((mem_mapM hm hB ha).mpr h)]; rfl
    · rw [if_neg h, if_neg (fun k => h ((mem_mapM hm hB ha).mp k))]; rfl
theorem com_map {B : List Int} (hB : ∀ c ∈ B, R c) : ∀ {A : List Int}, (∀ c ∈ A, R c) → com (B.map m) (A.map m) = (com B A).map m
  | [], _ => rfl
  | [u], hA => by
    have hu := hA u List.mem_cons_self
    show (if cnt (B.map m) (m u) % 2 = 1 then [m u] else []) ++ (B.map m).drop (cnt (B.map m) (m u)) = ((if cnt B u % 2 = 1 then [u] else []) ++ B.drop (cnt B u)).map m
    rw [cnt_map hm hB hu, List.map_append, List.map_drop]
    congr 1
    split <;> rfl
  | u :: v :: A, hA => by
    have hu := hA u List.mem_cons_self
    have hv := hA v (List.mem_cons_of_mem _ List.mem_cons_self)
    show (if cnt (B.map m) (m u) % 2 = 1 then [m u] else []) ++ (((B.map m).take (clt (B.map m) (m v))).drop (cnt (B.map m) (m u)) ++ ((if clt (B.map m) (m v) % 2 = 1 then [m v] else []) ++ com (B.map m) (A.map m))) = ((if cnt B u % 2 = 1 then [u] else []) ++ ((B.take (clt B v)).drop (cnt B u) ++ ((if clt B v % 2 = 1 then [v] else []) ++ com B A))).map m
    rw [cnt_map hm hB hu, clt_map hm hB hv, com_map hB (fun c h => hA c (List.mem_cons_of_mem _ (List.mem_cons_of_mem _ h))), List.map_append, List.map_append, List.map_append, List.map_drop, List.map_take]
    congr 1
    · split <;> rfl
    · congr 1
      congr 1
      split <;> rfl
end
theorem formD_num {z : Int} (hl : (Tl z).length ≤ 8500) : formD z = numD PyData.int z := by
  have hz : Num PyData.int (fun a => 0 ≤ a) z := ⟨tl_pos z, hl⟩
  rcases num_cases (ordN_int 0) hz with ⟨pl, e, _⟩ | ⟨npl, e, _⟩
  · rw [e]; unfold formD; rw [if_pos pl]
  · rw [e]
    unfold formD
    rw [if_neg npl]
    congr 1
    unfold Tl zs nD
    rw [List.map_map]
    rfl
theorem near_form {g : Int → PyData} {w W : Int} (e : Tl W = (Tl w).map (mv g)) (hl : (Tl w).length ≤ 8500) (hg : ∀ c ∈ Tl w, g c = .int (mv g c)) : formD W = numD g w := by
  rw [formD_num (by rw [e, List.length_map]; exact hl)]
  unfold numD rowF
  rw [e, List.map_map]
  congr 1
  exact List.map_congr_left fun c hc => (hg c hc).symm
theorem inB_tl {W : Int} {b : Nat} (hb : b ≤ 599998) (h : ∀ c ∈ Tl W, c ≤ (b : Int)) : InB W := by
  have hp : ∀ p ∈ turnsN W, p < b + 1 := fun p hp => by
    have := h ((p : Nat) : Int) (List.mem_map.mpr ⟨p, hp, rfl⟩)
    omega
  have := alt_lt (s := -1) (.inr rfl) (n := b + 1) (turns_asc W) hp
  rw [turns_alt] at this
  exact InB.of (n := b + 1) (Int.le_of_lt this.1) this.2 (by omega)
/-- the last place is an int: all are -/
theorem near_last {n : Nat} {g : Int → PyData} {S : Int → Prop} (o : OrdN n g S) (nn : ∀ c, S c → negD (g c) = false) {z : Int} (hz : Num g S z) {m : List Int} {p : Int} (el : Tl z = m ++ [p]) (hi : isI (g p) = true) : ∀ c ∈ Tl z, g c = .int (mv g c) ∧ 0 ≤ mv g c ∧ mv g c ≤ mv g p := by
  have sp : S p := hz.mem p (by rw [el]; simp)
  obtain ⟨ip, hp⟩ := fm_int (o.fm p sp) hi
  have ep : g p = .int (mv g p) := by rw [mv_int hp]; exact hp
  intro c hc
  have sc := hz.mem c hc
  have ge : ∀ i : Int, g c = .int i → 0 ≤ i := fun i h => by
    have := nn c sc
    rw [h] at this
    have := of_decide_eq_false (show decide (i < 0) = false from this)
    omega
  rw [el] at hc
  rcases List.mem_append.mp hc with h | h
  · have lt : c < p := (List.pairwise_append.mp (el ▸ tl_asc z)).2.2 c h p (List.mem_singleton.mpr rfl)
    have ic : isI (g c) = true := by
      cases hic : isI (g c) with
      | true => rfl
      | false =>
        exfalso
        have h1 := o.ord c p sc sp
        rw [sgnI_lt lt] at h1
        have fx := o.fm c sc
        have fy := o.fm p sp
        cases n with
        | zero =>
          obtain ⟨j, hj⟩ := fx
          rw [hj] at hic
          cases hic
        | succ k =>
          rw [cmp_iy fx fy (fun h => by rw [hic] at h; cases h.1) ((nn c sc).trans (nn p sp).symm) (by rw [hic]; decide) hi, if_neg (by rw [nn c sc]; decide)] at h1
          cases h1
    obtain ⟨i, hi'⟩ := fm_int (o.fm c sc) ic
    have ec : g c = .int (mv g c) := by rw [mv_int hi']; exact hi'
    exact ⟨ec, ge _ ec, Int.le_of_lt ((mv_mono o sc sp ec ep).mpr lt)⟩
  · have : c = p := List.mem_singleton.mp h
    subst this
    exact ⟨ep, ge _ ep, Int.le_refl _⟩
theorem near_plain {n : Nat} {g : Int → PyData} {S : Int → Prop} (o : OrdN n g S) {z : Int} (hz : Num g S z) (h : plain z) : Near g z ∧ XN g z = z := by
  have hc : ∀ c ∈ Tl z, g c = .int c := fun c hc => o.near c (hz.mem c hc) (tl_near.mp h c hc)
  constructor
  · intro c hm
    have e := hc c hm
    have := tl_near.mp h c hm
    have := tl_pos z c hm
    rw [mv_int e]
    exact ⟨e, by omega, by omega⟩
  · unfold XN
    have : ((Tl z).map fun c => (mv g c).toNat) = (Tl z).map Int.toNat := List.map_congr_left fun c hm => by rw [mv_int (hc c hm)]
    rw [this]
    unfold Tl
    rw [zs_nat, turns_alt]
section
variable {P : Program} {w : World} {K : PySem.W.Frag} {mg : Str → Option Value} {base : Heap} {f : Addr} {fd : FuncData}
/-- a number that is no int: the answer says at most that its places are near -/
def spIsShort (K : PySem.W.Frag) (g : Int → PyData) (S : Int → Prop) : Sp := fun vs H Q _ => ∃ (v : V) (z : Int), vs = [v] ∧ Dp K H v (numD g z) ∧ Num g S z ∧ ¬ plain z ∧ ∀ (b : Bool), (b = true → Near g z ∧ NearB g 1000 z) → Q (.bl b) H
/-- how far are the places that are near -/
def nearM (x y : Int) : Int := 1000 + 64 * (((Tl x).length : Int) + ((Tl y).length : Int))
theorem nearM_1000 (x y : Int) : 1000 ≤ nearM x y := by unfold nearM; omega
theorem nearB_up {g : Int → PyData} {M M' z : Int} (h : NearB g M z) (e : M ≤ M') : NearB g M' z := fun c hc => Int.le_trans (h c hc) e
theorem nearB_plain {n : Nat} {g : Int → PyData} {S : Int → Prop} (o : OrdN n g S) {z : Int} (hz : Num g S z) (h : plain z) : NearB g 1000 z := fun c hm => by
  have e : g c = .int c := o.near c (hz.mem c hm) (tl_near.mp h c hm)
  rw [mv_int e]
  have := tl_near.mp h c hm
  omega
def spAreNear (K : PySem.W.Frag) (g : Int → PyData) (S : Int → Prop) : Sp := fun vs H Q _ => ∃ (v u : V) (x y : Int), vs = [v, u] ∧ Dp K H v (numD g x) ∧ Dp K H u (numD g y) ∧ Num g S x ∧ Num g S y ∧ Lo2 g x y ∧ ¬ (plain x ∧ plain y) ∧ ∀ (b : Bool), (b = true → Near g x ∧ Near g y ∧ NearB g (nearM x y) x ∧ NearB g (nearM x y) y) → Q (.bl b) H
def spIof (K : PySem.W.Frag) (g : Int → PyData) (S : Int → Prop) : Sp := fun vs H Q _ => ∃ (v : V) (z : Int), vs = [v] ∧ Dp K H v (numD g z) ∧ Num g S z ∧ Near g z ∧ ∀ H' : Hp, Same H H' → Q (.int (XN g z)) H'
abbrev S_is_plain : Stmt := top 4
abbrev N_is_plain : List Str := ["value"]
abbrev P_is_plain : List Str := ["value"]
theorem sc_is_plain : FnScope N_is_plain P_is_plain (defScope S_is_plain) := ⟨rfl, rfl, rfl, by decide +kernel, rfl, by decide +kernel, by decide +kernel⟩
def spPlain : Sp := fun vs H Q _ => ∃ x : Int, vs = [.int x] ∧ Q (.bl (decide (plain x))) H
theorem ok_plain {tk : Tok} (F : Fun K "is_plain" "is_plain" S_is_plain f fd) (MS : mg "PLAIN_STOP" = some (.int 18446744073709551616 tk)) : FnOk P w K mg base CX0 1 f fd P_is_plain spPlain := by
  have nd := sc_is_plain.nd
  refine F.ok sc_is_plain (fun vs H Q E h => ?_) (fun cdv A outer s H vs Q E hr h => ?_)
  · obtain ⟨x, rfl, _⟩ := h
    rfl
  obtain ⟨x, rfl, q⟩ := h
  refine ⟨_, (pss_one (ps_ret (pe_chain op_le op_lt (pe_un un_neg (pe_glob (v := .int 18446744073709551616) rfl MS ⟨_, rfl⟩)) (pv 0) (pe_glob (v := .int 18446744073709551616) rfl MS ⟨_, rfl⟩)))), ?_⟩
  have P64 : (2 : Int) ^ 64 = 18446744073709551616 := by decide
  refine ⟨_, rfl, _, rfl, _, _, rfl, rfl, _, rfl, ?_⟩
  have fin : ∀ b : Bool, (b = true ↔ plain x) → Q (.bl b) H := fun b h => by
    have : b = decide (plain x) := by
      by_cases c : plain x
      · rw [decide_eq_true c]; exact h.mpr c
      · rw [decide_eq_false c]; exact Bool.eq_false_iff.mpr fun z => c (h.mp z)
    rw [this]
    exact q
  refine iteD (fun c1 => ?_) (fun c1 => ?_)
  · refine ⟨_, _, rfl, rfl, fin _ ?_⟩
    rw [decide_eq_true_eq]
    exact ⟨fun h => ⟨by rw [P64]; exact c1, by rw [P64]; exact h⟩, fun h => by have := h.2; rw [P64] at this; exact this⟩
  · refine fin false ⟨(fun h => by cases h), fun h => ?_⟩
    have := h.1
    rw [P64] at this
    exact absurd this c1
def spFoi (K : PySem.W.Frag) : Sp := fun vs H Q _ => ∃ x : Int, vs = [.int x] ∧ InB x ∧ ∀ (v : V) (H' : Hp), Same H H' → Dp K H' v (formD x) → Q v H'
end
end Fb
namespace Fb
open PySem L2
theorem bitk (n : Nat) : Builtin.bitAnd (n : Int) 1 = ((n % 2 : Nat) : Int) := by rw [PyProof.Rows.bitAnd_m1]; omega
section
variable {P : Program} {w : World} {K : PySem.W.Frag} {mg : Str → Option Value} {base : Heap} {f : Addr} {fd : FuncData}
/-- the next place -/
def spNext (K : PySem.W.Frag) (g : Int → PyData) (S : Int → Prop) : Sp := fun vs H Q _ => ∃ (v : V) (c : Int), vs = [v] ∧ Dp K H v (g c) ∧ S c ∧ S (c + 1) ∧ ∀ (v' : V) (H' : Hp), Same H H' → Dp K H' v' (g (c + 1)) → Q v' H'
def spCarry (K : PySem.W.Frag) (g : Int → PyData) (S : Int → Prop) : Sp := fun vs H Q _ => ∃ (a b : Addr) (l m : List Int) (k : Nat), vs = [.ref a, .ref b, .int (k : Int)] ∧ Pls K H g a l ∧ Pls K H g b m ∧ l.Pairwise (· < ·) ∧ m.Pairwise (· < ·) ∧ (∀ t ∈ l, S t ∧ S (t + 1) ∧ 0 ≤ t) ∧ (∀ t ∈ m, S t ∧ S (t + 1) ∧ 0 ≤ t) ∧ l.length + m.length ≤ 30000 ∧ k ≤ 1 ∧
  ∀ (p : Addr) (us : List V) (H' : Hp), Same H H' → H' p = some (.lst us) → DpAll K H' us ((carT (fm2 l m).1 (fm2 l m).2 k).map g) → Q (.ref p) H'
theorem carL_len (B : List Int) : ∀ (A : List Int) (bit sta bin : Nat), (carL B A bit sta bin).length ≤ A.length + 1
  | [], bit, sta, bin => by
    unfold carL
    split
    · simp
    · split <;> simp
  | a :: A, bit, sta, bin => by
    have h1 := carL_len B A (1 - bit) a.toNat bin
    have h2 := carL_len B A (1 - bit) a.toNat bit
    unfold carL
    rw [List.length_cons]
    split
    · omega
    · split
      · omega
      · split
        · rw [List.length_cons]; omega
        · omega
def nxt (B A : List Int) (bit bin : Nat) : List Int := match A with
  | [] => []
  | a :: A => carL B A (1 - bit) a.toNat bin
theorem carL_same {B A : List Int} {bit sta bin : Nat} (h : bit = bin) : carL B A bit sta bin = nxt B A bit bin := by
  cases A <;> unfold carL <;> rw [if_pos h] <;> rfl
theorem carL_none {B A : List Int} {bit sta bin : Nat} (h : bit ≠ bin) (ht : turnAt B bit sta = none) : carL B A bit sta bin = nxt B A bit bin := by
  cases A <;> unfold carL <;> rw [if_neg h, ht] <;> rfl
theorem carL_turn {B A : List Int} {bit sta bin : Nat} {q : Int} (h : bit ≠ bin) (ht : turnAt B bit sta = some q) (hq : ∀ a, A.head? = some a → q < a) : carL B A bit sta bin = (q + 1) :: nxt B A bit bit := by
  cases A with
  | nil => unfold carL; rw [if_neg h, ht]; rfl
  | cons a A =>
    unfold carL
    rw [if_neg h, ht]
    show (if q < a then _ else _) = _
    rw [if_pos (hq a rfl)]
    rfl
theorem carL_late {B A : List Int} {bit sta bin : Nat} {q a : Int} (h : bit ≠ bin) (ht : turnAt B bit sta = some q) (ha : A.head? = some a) (hq : ¬ q < a) : carL B A bit sta bin = nxt B A bit bin := by
  cases A with
  | nil => cases ha
  | cons b A =>
    cases ha
    unfold carL
    rw [if_neg h, ht]
    show (if q < a then _ else _) = _
    rw [if_neg hq]
    rfl
/-- how far the second row has been looked through -/
def Go (fa fb : List Int) (i bin att : Nat) : Prop := (∀ c ∈ fa.drop i, att ≤ clt fb c) ∧ (∀ c, 1 ≤ i → fa[i - 1]? = some c → att ≤ clt fb c ∨ i % 2 = bin) ∧ (i = 0 → att = 0)
theorem Go.same {fa fb : List Int} {i bin att : Nat} (h : Go fa fb i bin att) : Go fa fb (i + 1) bin att := by
  refine ⟨fun c hc => h.1 c ?_, fun c _ hc => .inl (h.1 c ?_), fun e => by omega⟩
  · rw [← List.drop_drop] at hc
    exact List.mem_of_mem_drop hc
  · obtain ⟨hl, he⟩ := List.getElem?_eq_some_iff.mp hc
    have hl : i < fa.length := hl
    have he : fa[i] = c := he
    rw [List.drop_eq_getElem_cons hl, he]
    exact List.mem_cons_self
theorem Go.new {fa fb : List Int} (aA : fa.Pairwise (· < ·)) (aB : fb.Pairwise (· < ·)) (pA : ∀ c ∈ fa, 0 ≤ c) {i bin bin' sta : Nat} (hst : i = 0 ∧ sta = 0 ∨ 1 ≤ i ∧ fa[i - 1]? = some (sta : Int)) (hb : i % 2 ≠ bin) (b1 : bin ≤ 1) (hb' : bin' = bin ∨ ∀ c, fa[i]? = some c → (sta : Int) < c) :
    Go fa fb (i + 1) bin' (cnt fb (sta : Int)) := by
  have lt : ∀ j, i ≤ j → (i < j ∨ 1 ≤ i) → ∀ c, fa[j]? = some c → (sta : Int) < c := fun j hij h c hc => by
    obtain ⟨hl, he⟩ := List.getElem?_eq_some_iff.mp hc
    rcases hst with ⟨h0, h1⟩ | ⟨h0, h1⟩
    · subst h1
      have h00 : 0 < fa.length := by omega
      have := List.pairwise_iff_getElem.mp aA 0 j h00 hl (by omega)
      have := pA _ (List.getElem_mem h00)
      rw [← he]
      omega
    · obtain ⟨hl2, he2⟩ := List.getElem?_eq_some_iff.mp h1
      have := List.pairwise_iff_getElem.mp aA (i - 1) j hl2 hl (by omega)
      rw [← he, ← he2]
      exact this
  refine ⟨fun c hc => ?_, fun c _ hc => ?_, fun e => by omega⟩
  · obtain ⟨j, hj⟩ := List.mem_iff_getElem?.mp hc
    rw [List.getElem?_drop] at hj
    exact cnt_clt aB (lt (i + 1 + j) (by omega) (.inl (by omega)) c hj)
  · have hc : fa[i]? = some c := hc
    by_cases h1 : 1 ≤ i
    · exact .inl (cnt_clt aB (lt i (Nat.le_refl _) (.inr h1) c hc))
    · rcases hb' with h | h
      · right; omega
      · exact .inl (cnt_clt aB (h c hc))
end
end Fb
namespace Fb
open PySem L2
theorem form_num {n : Nat} {g : Int → PyData} {S : Int → Prop} (o : OrdN n g S) (n65 : g 65 = .int 65) {x : Int} (h0 : -(2 ^ 65) ≤ x) (h1 : x < 2 ^ 65) (hx : Num g S x) : formD x = numD g x := by
  have tl := turns_lt (x := x) (n := 65) h0 h1
  rcases num_cases o hx with ⟨pl, e, _⟩ | ⟨npl, e, _⟩
  · rw [e]
    unfold formD
    rw [if_pos pl]
  · rw [e]
    unfold formD
    rw [if_neg npl]
    congr 1
    unfold Tl zs nD
    rw [List.map_map]
    refine List.map_congr_left fun p hp => ?_
    show PyData.int ((p : Nat) : Int) = g ((p : Nat) : Int)
    have := tl p hp
    by_cases h : p ≤ 64
    · exact (o.near ((p : Nat) : Int) (hx.mem _ (List.mem_map.mpr ⟨p, hp, rfl⟩)) (by omega)).symm
    · have : p = 65 := by omega
      subst this
      exact n65.symm
theorem mrg_comm {A B : List Int} (hA : A.Pairwise (· < ·)) (pA : ∀ c ∈ A, 0 ≤ c) (hB : B.Pairwise (· < ·)) (pB : ∀ c ∈ B, 0 ≤ c) : mrg A B = mrg B A := by
  obtain ⟨a1, a2⟩ := mrg_ok hA hB
  obtain ⟨b1, b2⟩ := mrg_ok hB hA
  have q1 : ∀ c ∈ mrg A B, 0 ≤ c := fun c h => (mrg_mem h).elim (pA c) (pB c)
  have q2 : ∀ c ∈ mrg B A, 0 ≤ c := fun c h => (mrg_mem h).elim (pB c) (pA c)
  have t2 := asc_toNat q2 b1
  have k : ∀ p : Nat, (((cnt (mrg B A) (p : Int)) % 2 : Nat) : Int) = Bt p (alt (-1) ((mrg B A).map Int.toNat)) := fun p => by rw [bt_alt p _ t2, ← cnt_zs, zs_toNat q2]
  rw [tl_of b1 q2 k]
  refine tl_of a1 q1 fun p => ?_
  rw [← k p, a2, b2, Nat.add_comm]
theorem com_mem {x y t : Int} (h : t ∈ Tl (Builtin.bitAnd x y)) : t ∈ Tl x ∨ t ∈ Tl y := by
  rw [← com_tl] at h
  exact ((com_ok (tl_asc y) (tl_asc x)).2.1 t h).1
theorem xor_mem {x y t : Int} (h : t ∈ Tl (Builtin.bitXor x y)) : t ∈ Tl x ∨ t ∈ Tl y := by
  rw [← mrg_tl] at h
  exact mrg_mem h
theorem not_mem {x t : Int} (h : t ∈ Tl (-x - 1)) : t = 0 ∨ t ∈ Tl x := by
  rw [← flp_tl] at h
  unfold flp at h
  split at h
  · rename_i r e
    rw [e]
    exact .inr (List.mem_cons_of_mem _ h)
  · rcases List.mem_cons.mp h with h | h
    · exact .inl h
    · exact .inr h
theorem plain_and {x y : Int} (hx : plain x) (hy : plain y) : plain (Builtin.bitAnd x y) := tl_near.mpr fun c h => (com_mem h).elim (tl_near.mp hx c) (tl_near.mp hy c)
theorem plain_xor {x y : Int} (hx : plain x) (hy : plain y) : plain (Builtin.bitXor x y) := tl_near.mpr fun c h => (xor_mem h).elim (tl_near.mp hx c) (tl_near.mp hy c)
theorem num_pl {n : Nat} {g : Int → PyData} {S : Int → Prop} (o : OrdN n g S) {z : Int} (hz : Num g S z) (h : plain z) : numD g z = .int z := by
  rcases num_cases o hz with ⟨_, e, _⟩ | ⟨npl, _⟩
  · exact e
  · exact absurd h npl
theorem near_bin {n : Nat} {g : Int → PyData} {S : Int → Prop} (o : OrdN n g S) {x y w W : Int} (nx : Num g S x) (ny : Num g S y) (hx : Near g x) (hy : Near g y) (hw : ∀ t ∈ Tl w, t ∈ Tl x ∨ t ∈ Tl y) (e : Tl W = (Tl w).map (mv g)) :
    Tl W = (Tl w).map (mv g) ∧ InB W ∧ ∀ c ∈ Tl w, g c = .int (mv g c) := by
  have hg : ∀ c ∈ Tl w, g c = .int (mv g c) ∧ mv g c ≤ 520000 := fun c hc => (hw c hc).elim (fun h => ⟨(hx c h).1, (hx c h).2.2⟩) (fun h => ⟨(hy c h).1, (hy c h).2.2⟩)
  refine ⟨e, inB_tl (b := 520000) (by decide) fun c hc => ?_, fun c hc => (hg c hc).1⟩
  rw [e] at hc
  obtain ⟨t, ht, rfl⟩ := List.mem_map.mp hc
  exact (hg t ht).2
theorem near_R {n : Nat} {g : Int → PyData} {S : Int → Prop} (o : OrdN n g S) {x y : Int} (nx : Num g S x) (ny : Num g S y) (hx : Near g x) (hy : Near g y) : ∀ c d, (c ∈ Tl x ∨ c ∈ Tl y) → (d ∈ Tl x ∨ d ∈ Tl y) → (mv g c < mv g d ↔ c < d) := fun c d hc hd =>
  mv_mono o (hc.elim (nx.mem c) (ny.mem c)) (hd.elim (nx.mem d) (ny.mem d)) (hc.elim (fun h => (hx c h).1) (fun h => (hy c h).1)) (hd.elim (fun h => (hx d h).1) (fun h => (hy d h).1))
theorem near_bitAnd {n : Nat} {g : Int → PyData} {S : Int → Prop} (o : OrdN n g S) {x y : Int} (nx : Num g S x) (ny : Num g S y) (hx : Near g x) (hy : Near g y) :
    Tl (Builtin.bitAnd (XN g x) (XN g y)) = (Tl (Builtin.bitAnd x y)).map (mv g) ∧ InB (Builtin.bitAnd (XN g x) (XN g y)) ∧ ∀ c ∈ Tl (Builtin.bitAnd x y), g c = .int (mv g c) :=
  near_bin o nx ny hx hy (fun t => com_mem) (by
    rw [← com_tl, tl_XN o nx hx, tl_XN o ny hy, com_map (near_R o nx ny hx hy) (fun c h => .inr h) (fun c h => .inl h), com_tl])
theorem near_bitXor {n : Nat} {g : Int → PyData} {S : Int → Prop} (o : OrdN n g S) {x y : Int} (nx : Num g S x) (ny : Num g S y) (hx : Near g x) (hy : Near g y) :
    Tl (Builtin.bitXor (XN g x) (XN g y)) = (Tl (Builtin.bitXor x y)).map (mv g) ∧ InB (Builtin.bitXor (XN g x) (XN g y)) ∧ ∀ c ∈ Tl (Builtin.bitXor x y), g c = .int (mv g c) :=
  near_bin o nx ny hx hy (fun t => xor_mem) (by
    rw [← mrg_tl, tl_XN o nx hx, tl_XN o ny hy, mrg_map (near_R o nx ny hx hy) (fun c h => .inl h) (fun c h => .inr h), mrg_tl])
section
variable {P : Program} {w : World} {K : PySem.W.Frag} {mg : Str → Option Value} {base : Heap} {f : Addr} {fd : FuncData}
def spNum1 (K : PySem.W.Frag) (g : Int → PyData) (S : Int → Prop) (r : Int → Int) : Sp := fun vs H Q _ => ∃ (v : V) (z : Int), vs = [v] ∧ Dp K H v (numD g z) ∧ Num g S z ∧ Num g S (r z) ∧ ∀ (v' : V) (H' : Hp), Same H H' → Dp K H' v' (numD g (r z)) → Q v' H'
def spNum2 (K : PySem.W.Frag) (g : Int → PyData) (S : Int → Prop) (r : Int → Int → Int) : Sp := fun vs H Q _ => ∃ (v u : V) (x y : Int), vs = [v, u] ∧ Dp K H v (numD g x) ∧ Dp K H u (numD g y) ∧ Num g S x ∧ Num g S y ∧ Lo2 g x y ∧ Num g S (r x y) ∧ ∀ (v' : V) (H' : Hp), Same H H' → Dp K H' v' (numD g (r x y)) → Q v' H'
/-- which of two numbers are ints -/
theorem two_cases {n : Nat} {g : Int → PyData} {S : Int → Prop} (o : OrdN n g S) {x y : Int} (hx : Num g S x) (hy : Num g S y) :
    (plain x ∧ plain y ∧ numD g x = .int x ∧ numD g y = .int y) ∨ (isI (numD g x) && isI (numD g y)) = false := by
  rcases num_cases o hx with ⟨p1, e1, _⟩ | ⟨_, e1, _⟩ <;> rcases num_cases o hy with ⟨p2, e2, _⟩ | ⟨_, e2, _⟩
  · exact .inl ⟨p1, p2, e1, e2⟩
  · right; rw [e1, e2]; rfl
  · right; rw [e1, e2]; rfl
  · right; rw [e1, e2]; rfl
theorem fm2_tl (x y : Int) : mrg (fm2 (Tl x) (Tl y)).1 (fm2 (Tl x) (Tl y)).2 = Tl (Builtin.bitXor x y) := by
  unfold fm2
  split
  · exact mrg_tl x y
  · rw [bxor_comm]; exact mrg_tl y x
theorem fm2_com (x y : Int) : com (fm2 (Tl x) (Tl y)).2 (fm2 (Tl x) (Tl y)).1 = Tl (Builtin.bitAnd x y) := by
  unfold fm2
  split
  · exact com_tl x y
  · rw [PyProof.Rows.bitAnd_comm]; exact com_tl y x
def Lo4 (_ : Int → PyData) (x y : Int) : Prop := (Tl x).length + (Tl y).length ≤ 4000
/-- two numbers whose turns are few enough for the common ones -/
def spNumA (K : PySem.W.Frag) (g : Int → PyData) (S : Int → Prop) (r : Int → Int → Int) : Sp := fun vs H Q _ => ∃ (v u : V) (x y : Int), vs = [v, u] ∧ Dp K H v (numD g x) ∧ Dp K H u (numD g y) ∧ Num g S x ∧ Num g S y ∧ Lo4 g x y ∧ Num g S (r x y) ∧ ∀ (v' : V) (H' : Hp), Same H H' → Dp K H' v' (numD g (r x y)) → Q v' H'
def spOr (K : PySem.W.Frag) (g : Int → PyData) (S : Int → Prop) : Sp := fun vs H Q _ => ∃ (v u : V) (x y : Int), vs = [v, u] ∧ Dp K H v (numD g x) ∧ Dp K H u (numD g y) ∧ Num g S x ∧ Num g S y ∧ Num g S (-x - 1) ∧ Num g S (-y - 1) ∧ Lo4 g (-x - 1) (-y - 1) ∧ Num g S (Builtin.bitAnd (-x - 1) (-y - 1)) ∧ Num g S (Builtin.bitOr x y) ∧
  ∀ (v' : V) (H' : Hp), Same H H' → Dp K H' v' (numD g (Builtin.bitOr x y)) → Q v' H'
theorem or_eq (x y : Int) : -Builtin.bitAnd (-x - 1) (-y - 1) - 1 = Builtin.bitOr x y := by
  rw [PyProof.Rows.bitOr_and]
  have e1 := PyProof.Rows.bitAnd_not (-x - 1) y
  have e2 := PyProof.Rows.bitAnd_not y x
  unfold Builtin.bitNot at e1 e2
  rw [show (-y - 1 : Int) = -1 - y by omega] at *
  rw [show (-x - 1 : Int) = -1 - x by omega] at *
  rw [PyProof.Rows.bitAnd_comm x y, PyProof.Rows.bitAnd_comm (-1 - x) y] at *
  omega
theorem b_mem {b : Int} {l : List Int} : b ∈ mrg [0, b] l ∨ b ∈ l := by
  show b ∈ l.take (clt l 0) ++ ((if (0 : Int) ∈ l then [] else [0]) ++ ((l.drop (cnt l 0)).take (clt (l.drop (cnt l 0)) b) ++ ((if b ∈ l.drop (cnt l 0) then [] else [b]) ++ mrg [] _))) ∨ b ∈ l
  by_cases h : b ∈ l.drop (cnt l 0)
  · exact .inr (List.mem_of_mem_drop h)
  · left
    rw [if_neg h]
    simp
/-- a number and one -/
def spSucc (K : PySem.W.Frag) (g : Int → PyData) (S S' : Int → Prop) : Sp := fun vs H Q _ => ∃ (v : V) (z : Int), vs = [v] ∧ Dp K H v (numD g z) ∧ Num g S z ∧ Num g S (z + 1) ∧ (∀ t r, Tl z = 0 :: t :: r → S' t ∧ S' (t + 1)) ∧ ∀ (v' : V) (H' : Hp), Same H H' → Dp K H' v' (numD g (z + 1)) → Q v' H'
end
end Fb
namespace Fb
open PySem L2
/-- the carry of a sum, whichever is the shorter one -/
theorem fm2_car (x y : Int) {k : Nat} (hk : k ≤ 1) : ∃ c : Int, carT (fm2 (Tl x) (Tl y)).1 (fm2 (Tl x) (Tl y)).2 k = Tl c ∧ (∀ t ∈ Tl c, t = 0 ∨ t - 1 = 0 ∨ t - 1 ∈ Tl y ∨ t - 1 ∈ Tl x) ∧ Builtin.bitXor (Builtin.bitXor x c) y = x + y + k := by
  unfold fm2
  split
  · exact carT_ok x y hk
  · obtain ⟨c, h1, h2, h3⟩ := carT_ok y x hk
    refine ⟨c, h1, fun t ht => ?_, ?_⟩
    · rcases h2 t ht with h | h | h | h
      · exact .inl h
      · exact .inr (.inl h)
      · exact .inr (.inr (.inr h))
      · exact .inr (.inr (.inl h))
    · have e : Builtin.bitXor (Builtin.bitXor x c) y = Builtin.bitXor (Builtin.bitXor y c) x := bt_ext fun p => by
        rw [bt_xor, bt_xor, bt_xor, bt_xor]
        have := bt_01 p x
        have := bt_01 p y
        have := bt_01 p c
        omega
      rw [e, h3]
      omega
theorem tl_len_xor (x y : Int) : (Tl (Builtin.bitXor x y)).length ≤ (Tl x).length + (Tl y).length := by
  rw [← mrg_tl]
  exact mrg_len _ _
/-- places that are ints are what they stand for -/
structure NI (g : Int → PyData) (S : Int → Prop) : Prop where
  hid : ∀ c i, S c → g c = .int i → i = c
  low : ∀ c, S c → 0 ≤ c → c ≤ 520100 → g c = .int c
theorem near_bd {g : Int → PyData} {S : Int → Prop} (I : NI g S) {z : Int} (hz : Num g S z) (hn : Near g z) : XN g z = z ∧ -(2 ^ 520001) ≤ z ∧ z < 2 ^ 520001 := by
  have hm : ∀ c ∈ Tl z, mv g c = c := fun c hc => I.hid c _ (hz.mem c hc) (hn c hc).1
  refine ⟨?_, ?_⟩
  · unfold XN
    rw [show ((Tl z).map fun c => (mv g c).toNat) = turnsN z from ?_, turns_alt]
    unfold Tl zs
    rw [List.map_map]
    refine (List.map_congr_left (g := id) fun p hp => ?_).trans (List.map_id _)
    have := hm ((p : Nat) : Int) (List.mem_map.mpr ⟨p, hp, rfl⟩)
    show (mv g ((p : Nat) : Int)).toNat = p
    rw [this]
    rfl
  · have hp : ∀ p ∈ turnsN z, p < 520001 := fun p hp => by
      have hc : ((p : Nat) : Int) ∈ Tl z := List.mem_map.mpr ⟨p, hp, rfl⟩
      have h1 := hm _ hc
      have h2 := (hn _ hc).2.2
      rw [h1] at h2
      omega
    have := alt_lt (s := -1) (.inr rfl) (n := 520001) (turns_asc z) hp
    rw [turns_alt] at this
    exact ⟨Int.le_of_lt this.1, this.2⟩
theorem big_form {g : Int → PyData} {S : Int → Prop} (I : NI g S) {w : Int} (h0 : -(2 ^ 520002) ≤ w) (h1 : w < 2 ^ 520002) (hw : Num g S w) : InB w ∧ formD w = numD g w := by
  have lw : ∀ c ∈ Tl w, c ≤ 520002 := fun c hc => by
    obtain ⟨p, hp, rfl⟩ := List.mem_map.mp hc
    have := turns_lt (n := 520002) h0 h1 p hp
    show ((p : Nat) : Int) ≤ 520002
    clear h0 h1
    omega
  have hl : ∀ c ∈ Tl w, g c = .int c := fun c hc => I.low c (hw.mem c hc) (tl_pos w c hc) (by have := lw c hc; omega)
  refine ⟨InB.of (n := 520002) h0 h1 (by decide), near_form (w := w) ?_ hw.len fun c hc => by rw [mv_int (hl c hc)]; exact hl c hc⟩
  exact ((List.map_congr_left (g := id) fun c hc => mv_int (hl c hc)).trans (List.map_id _)).symm
theorem pow_4302 : (2 : Int) ^ 520002 = 2 ^ 520001 * 2 := Int.pow_succ _ _
section
variable {P : Program} {w : World} {K : PySem.W.Frag} {mg : Str → Option Value} {base : Heap} {f : Addr} {fd : FuncData}
def spOpp (K : PySem.W.Frag) (g : Int → PyData) (S : Int → Prop) : Sp := fun vs H Q _ => ∃ (v : V) (z : Int), vs = [v] ∧ Dp K H v (numD g z) ∧ Num g S z ∧ Num g S (-z - 1) ∧ Num g S (-z) ∧ ∀ (v' : V) (H' : Hp), Same H H' → Dp K H' v' (numD g (-z)) → Q v' H'
def spSummed2 (K : PySem.W.Frag) (g : Int → PyData) (S : Int → Prop) : Sp := fun vs H Q _ => ∃ (a b : Addr) (x y : Int) (k : Nat), vs = [.ref a, .ref b, .int (k : Int)] ∧ Pls K H g a (Tl x) ∧ Pls K H g b (Tl y) ∧ (∀ t ∈ Tl x, S t ∧ S (t + 1)) ∧ (∀ t ∈ Tl y, S t ∧ S (t + 1)) ∧ (Tl x).length + (Tl y).length ≤ 7001 ∧ k ≤ 1 ∧
  ∀ (p : Addr) (us : List V) (H' : Hp), Same H H' → H' p = some (.lst us) → DpAll K H' us ((Tl (x + y + k)).map g) → Q (.ref p) H'
def spSum (K : PySem.W.Frag) (g : Int → PyData) (S : Int → Prop) (r : Int → Int → Int) : Sp := fun vs H Q _ => ∃ (v u : V) (x y : Int), vs = [v, u] ∧ Dp K H v (numD g x) ∧ Dp K H u (numD g y) ∧ Num g S x ∧ Num g S y ∧ (∀ t ∈ Tl x, S (t + 1)) ∧ (∀ t ∈ Tl y, S (t + 1)) ∧ (Tl x).length + (Tl y).length ≤ 7000 ∧ Lo2 g x y ∧ Num g S (r x y) ∧
  ∀ (v' : V) (H' : Hp), Same H H' → Dp K H' v' (numD g (r x y)) → Q v' H'
theorem flp_len (l : List Int) : (flp l).length ≤ l.length + 1 := by
  unfold flp
  split
  · rw [List.length_cons]; omega
  · rw [List.length_cons]; omega
end
end Fb
namespace Fb
open PySem L2
/-! ### one more floor changes nothing -/
theorem lexD_congr {c c' : PyData → PyData → Int} : ∀ (xs ys : List PyData), (∀ x ∈ xs, ∀ y ∈ ys, c x y = c' x y) → lexD c xs ys = lexD c' xs ys
  | [], [], _ => rfl
  | [], _ :: _, _ => rfl
  | _ :: _, [], _ => rfl
  | x :: xs, y :: ys, h => by
    show (if PyData.eqv x y = true then lexD c xs ys else par (xs.length + 1) (c x y)) = if PyData.eqv x y = true then lexD c' xs ys else par (xs.length + 1) (c' x y)
    rw [lexD_congr xs ys fun a ha b hb => h a (List.mem_cons_of_mem _ ha) b (List.mem_cons_of_mem _ hb), h x List.mem_cons_self y List.mem_cons_self]
theorem cmpD_succ : ∀ (n : Nat) (x y : PyData), Fm n x → Fm n y → cmpD (n + 1) x y = cmpD n x y
  | 0, x, y, hx, hy => by
    obtain ⟨i, rfl⟩ := hx
    obtain ⟨j, rfl⟩ := hy
    rfl
  | n + 1, x, y, hx, hy => by
    rcases hx with ⟨i, rfl⟩ | ⟨xs, rfl, _, fx⟩ <;> rcases hy with ⟨j, rfl⟩ | ⟨ys, rfl, _, fy⟩
    · rfl
    · rfl
    · rfl
    · show (if negD (.tuple xs) = negD (.tuple ys) then lexD (cmpD (n + 1)) xs.reverse ys.reverse else _) = if negD (.tuple xs) = negD (.tuple ys) then lexD (cmpD n) xs.reverse ys.reverse else _
      rw [lexD_congr xs.reverse ys.reverse fun a ha b hb => cmpD_succ n a b (fx a (List.mem_reverse.mp ha)) (fy b (List.mem_reverse.mp hb))]
theorem OrdN.up {n : Nat} {g : Int → PyData} {S : Int → Prop} (o : OrdN n g S) : OrdN (n + 1) g S :=
  { fm := fun a h => (o.fm a h).succ, ord := fun a b ha hb => by rw [cmpD_succ n _ _ (o.fm a ha) (o.fm b hb)]; exact o.ord a b ha hb, pos := o.pos, near := o.near, far := o.far }
theorem sz_succ : ∀ (n : Nat) (d : PyData), Fm n d → sz (n + 1) d = sz n d
  | 0, d, h => by
    obtain ⟨i, rfl⟩ := h
    rw [sz_int, sz_int]
  | n + 1, d, h => by
    rcases h with ⟨i, rfl⟩ | ⟨ds, rfl, _, f⟩
    · rw [sz_int, sz_int]
    · show 1 + (ds.map (sz (n + 1))).sum = 1 + (ds.map (sz n)).sum
      rw [List.map_congr_left fun d hd => sz_succ n d (f d hd)]
theorem Fm.up {n : Nat} {d : PyData} (h : Fm n d) : ∀ k, Fm (n + k) d
  | 0 => h
  | k + 1 => (Fm.up h k).succ
end Fb
namespace Fb
open PySem L2
/-! ### the one form of each integer, by its height -/
theorem OrdN.sub {n : Nat} {g : Int → PyData} {S S' : Int → Prop} (o : OrdN n g S) (h : ∀ c, S' c → S c) : OrdN n g S' :=
  { fm := fun c k => o.fm c (h c k), ord := fun a b ha hb => o.ord a b (h a ha) (h b hb), pos := fun c k => o.pos c (h c k), near := fun c k => o.near c (h c k), far := fun c k => o.far c (h c k) }
theorem num_ord {n : Nat} {g : Int → PyData} {S : Int → Prop} (o : OrdN n g S) {x y : Int} (hx : Num g S x) (hy : Num g S y) : cmpD (n + 1) (numD g x) (numD g y) = sgnI x y := by
  unfold numD
  rw [row_ord o hx.mem hy.mem (tl_asc x) (tl_asc y) (by have := hx.len; omega) (by have := hy.len; omega)]
  exact cmpS_turns x y
theorem num_negD {n : Nat} {g : Int → PyData} {S : Int → Prop} (o : OrdN n g S) {z : Int} (hz : Num g S z) : negD (numD g z) = decide (z < 0) := by
  have h := alt_par (turns_asc z)
  rw [turns_alt] at h
  have e : negD (numD g z) = decide ((Tl z).length % 2 = 1) := row_neg o hz.mem (tl_asc z)
  rw [e]
  refine decide_eq_decide.mpr ?_
  unfold Tl
  rw [len_zs]
  constructor
  · exact h.1
  · intro k
    rcases Nat.mod_two_eq_zero_or_one (turnsN z).length with e | e
    · have := h.2 e; omega
    · exact e
theorem ordN_num {n : Nat} {g : Int → PyData} {S : Int → Prop} (o : OrdN n g S) : OrdN (n + 1) (numD g) fun z => 0 ≤ z ∧ Num g S z := by
  refine { fm := fun c h => num_fm o h.2, ord := fun a b ha hb => num_ord o ha.2 hb.2, pos := fun c h => h.1, near := fun c h h64 => ?_, far := fun c h h64 => ?_ }
  · exact num_pl o h.2 ⟨by have := h.1; omega, by omega⟩
  · rcases num_cases o h.2 with ⟨pl, e, _⟩ | ⟨npl, e, _⟩
    · rw [e]; exact decide_eq_false (by omega)
    · rw [e]; rfl
def gU : Nat → Int → PyData
  | 0 => PyData.int
  | n + 1 => numD (gU n)
/-- heights up to n, at most L turns everywhere -/
def UU (L : Nat) : Nat → Int → Prop
  | 0, z => plain z
  | n + 1, z => (Tl z).length ≤ L ∧ ∀ t ∈ Tl z, UU L n t
def SU (L n : Nat) (t : Int) : Prop := 0 ≤ t ∧ UU L n t
theorem plain_tl {z : Int} (h : plain z) : (Tl z).length ≤ 66 ∧ ∀ t ∈ Tl z, plain t := by
  refine ⟨?_, fun t ht => ?_⟩
  · unfold Tl
    rw [len_zs]
    have := turns_len (n := 64) h.1 h.2
    omega
  · have := tl_near.mp h t ht
    have := tl_pos z t ht
    exact ⟨by omega, by omega⟩
theorem uu_plain {L : Nat} (hL : 66 ≤ L) : ∀ {n : Nat} {z : Int}, plain z → UU L n z
  | 0, _, h => h
  | n + 1, z, h => by
    have k := plain_tl h
    exact ⟨by omega, fun t ht => uu_plain hL (k.2 t ht)⟩
theorem uu_up {L : Nat} (hL : 66 ≤ L) : ∀ {n : Nat} {z : Int}, UU L n z → UU L (n + 1) z
  | 0, _, h => uu_plain hL h
  | _ + 1, _, h => ⟨h.1, fun t ht => uu_up hL (h.2 t ht)⟩
theorem uu_le {L n m : Nat} (hL : 66 ≤ L) (e : n ≤ m) {z : Int} (h : UU L n z) : UU L m z := by
  induction e with
  | refl => exact h
  | step _ ih => exact uu_up hL ih
theorem uu_wide {L L' : Nat} (e : L ≤ L') : ∀ {n : Nat} {z : Int}, UU L n z → UU L' n z
  | 0, _, h => h
  | _ + 1, _, h => ⟨Nat.le_trans h.1 e, fun t ht => uu_wide e (h.2 t ht)⟩
theorem uu_num {L n : Nat} (hL : L ≤ 8500) {z : Int} (h : UU L (n + 1) z) : Num (gU n) (SU L n) z := ⟨fun c hc => ⟨tl_pos z c hc, h.2 c hc⟩, by have := h.1; omega⟩
theorem ordU {L : Nat} (hL : L ≤ 8500) : ∀ n : Nat, OrdN n (gU n) (SU L n)
  | 0 => (ordN_int 0).sub fun _ h => h.1
  | n + 1 => (ordN_num (ordU hL n)).sub fun _ h => ⟨h.1, uu_num hL h.2⟩
theorem gU_plain {n : Nat} {z : Int} (h : plain z) : gU n z = .int z := by
  cases n with
  | zero => rfl
  | succ n => exact num_pl (ordU (L := 66) (by decide) n) (uu_num (by decide) (uu_plain (Nat.le_refl _) h)) h
theorem gU_up {L : Nat} (h66 : 66 ≤ L) (hL : L ≤ 8500) : ∀ {n : Nat} {z : Int}, UU L n z → gU (n + 1) z = gU n z
  | 0, _, h => gU_plain (n := 1) h
  | n + 1, z, h => by
    show rowD ((Tl z).map (gU (n + 1))) = rowD ((Tl z).map (gU n))
    rw [List.map_congr_left fun t ht => gU_up h66 hL (h.2 t ht)]
theorem gU_le {L n m : Nat} (h66 : 66 ≤ L) (hL : L ≤ 8500) (e : n ≤ m) {z : Int} (h : UU L n z) : gU m z = gU n z := by
  induction e with
  | refl => rfl
  | step k ih => rw [gU_up h66 hL (uu_le h66 k h), ih]
theorem niU {L n : Nat} (hL : L ≤ 8500) : NI (gU n) (SU L n) := by
  refine ⟨fun c i h e => ?_, fun c h h0 h1 => gU_plain ⟨by omega, by omega⟩⟩
  cases n with
  | zero => injection e with e; exact e.symm
  | succ n =>
    rcases num_cases (ordU hL n) (uu_num hL h.2) with ⟨pl, e2, _⟩ | ⟨npl, e2, _⟩
    · have e3 : gU (n + 1) c = .int c := e2
      rw [e3] at e
      injection e with e
      exact e.symm
    · have e3 : gU (n + 1) c = .tuple ((Tl c).map (gU n)) := e2
      rw [e3] at e
      cases e
theorem nnU {L n : Nat} (hL : L ≤ 8500) : ∀ c, SU L n c → negD (gU n c) = false := fun c h => by
  cases n with
  | zero => exact decide_eq_false (by have := h.1; omega)
  | succ n =>
    have e : negD (gU (n + 1) c) = decide (c < 0) := num_negD (ordU hL n) (uu_num hL h.2)
    rw [e]
    exact decide_eq_false (by have := h.1; omega)
theorem su_small {L n : Nat} (hL : 66 ≤ L) {c : Int} (h0 : 0 ≤ c) (h1 : c < 2 ^ 64) : SU L n c := ⟨h0, uu_plain hL ⟨by omega, h1⟩⟩
/-! ### sums -/
theorem carT_len (x y : Int) {k : Nat} : (carT (fm2 (Tl x) (Tl y)).1 (fm2 (Tl x) (Tl y)).2 k).length ≤ min (Tl x).length (Tl y).length + 2 := by
  unfold carT
  rw [List.length_append]
  have h := carL_len (fm2 (Tl x) (Tl y)).2 (fm2 (Tl x) (Tl y)).1 0 0 k
  have e : (fm2 (Tl x) (Tl y)).1.length = min (Tl x).length (Tl y).length := by
    unfold fm2
    split
    · show (Tl x).length = _; omega
    · show (Tl y).length = _; omega
  rw [e] at h
  split <;> simp <;> omega
theorem sum_turns (x y : Int) {k : Nat} (hk : k ≤ 1) : (∀ t ∈ Tl (x + y + k), t ∈ Tl x ∨ t ∈ Tl y ∨ t = 0 ∨ t = 1 ∨ t - 1 ∈ Tl x ∨ t - 1 ∈ Tl y) ∧ (Tl (x + y + k)).length ≤ (Tl x).length + (Tl y).length + min (Tl x).length (Tl y).length + 2 := by
  obtain ⟨c, c1, c2, c3⟩ := fm2_car x y hk
  have lc := carT_len x y (k := k)
  rw [c1] at lc
  rw [← c3]
  refine ⟨fun t ht => ?_, ?_⟩
  · rcases xor_mem ht with h | h
    · rcases xor_mem h with h | h
      · exact .inl h
      · rcases c2 t h with h | h | h | h
        · exact .inr (.inr (.inl h))
        · exact .inr (.inr (.inr (.inl (by omega))))
        · exact .inr (.inr (.inr (.inr (.inr h))))
        · exact .inr (.inr (.inr (.inr (.inl h))))
    · exact .inr (.inl h)
  · have a := tl_len_xor (Builtin.bitXor x c) y
    have b := tl_len_xor x c
    omega
theorem tl_zero : Tl 0 = [] := by
  unfold Tl turnsN
  rw [show marks 0 = 0 by decide +kernel, ones_zero]
  rfl
theorem uu_01 {L n : Nat} (hL : 66 ≤ L) {t : Int} (h : t = 0 ∨ t = 1) : UU L n t := uu_plain hL (by rcases h with rfl | rfl <;> decide)
theorem uu_succ {L : Nat} (hL : 66 ≤ L) : ∀ {n : Nat} {z : Int}, UU L n z → UU (L + 2) (n + 1) (z + 1)
  | 0, z, h => by
    have h : plain z := h
    have b0 : -(2 ^ 65) ≤ z + 1 := by have := h.1; omega
    have b1 : z + 1 < 2 ^ 65 := by have := h.2; omega
    refine ⟨?_, fun t ht => ?_⟩
    · unfold Tl
      rw [len_zs]
      have := turns_len (n := 65) b0 b1
      omega
    · have p := tl_pos _ t ht
      obtain ⟨q, hq, rfl⟩ := List.mem_map.mp ht
      have := turns_lt (n := 65) b0 b1 q hq
      show plain ((q : Nat) : Int)
      exact ⟨by omega, by omega⟩
  | n + 1, z, h => by
    have e : z + 0 + ((1 : Nat) : Int) = z + 1 := by omega
    obtain ⟨m, l⟩ := sum_turns z 0 (k := 1) (by decide)
    rw [e, tl_zero] at m l
    have l' : (Tl (z + 1)).length ≤ (Tl z).length + 2 := by simp at l; omega
    have h1 := h.1
    refine ⟨by omega, fun t ht => ?_⟩
    rcases m t ht with k | k | k | k | k | k
    · exact uu_up (by omega) (uu_wide (by omega) (h.2 t k))
    · cases k
    · exact uu_01 (by omega) (.inl k)
    · exact uu_01 (by omega) (.inr k)
    · have := uu_succ hL (h.2 _ k)
      rw [show t - 1 + 1 = t by omega] at this
      exact this
    · cases k
theorem su_succ {L n : Nat} (hL : 66 ≤ L) {z : Int} (h : SU L n z) : SU (L + 2) (n + 1) (z + 1) := ⟨by have := h.1; omega, uu_succ hL h.2⟩
theorem uu_sum {L n : Nat} (hL : 66 ≤ L) {x y : Int} {k : Nat} (hk : k ≤ 1) (hx : UU L (n + 1) x) (hy : UU L (n + 1) y) : UU (3 * L + 2) (n + 2) (x + y + k) := by
  obtain ⟨m, l⟩ := sum_turns x y hk
  have h1 := hx.1
  have h2 := hy.1
  refine ⟨by omega, fun t ht => ?_⟩
  rcases m t ht with k | k | k | k | k | k
  · exact uu_up (by omega) (uu_wide (by omega) (hx.2 t k))
  · exact uu_up (by omega) (uu_wide (by omega) (hy.2 t k))
  · exact uu_01 (by omega) (.inl k)
  · exact uu_01 (by omega) (.inr k)
  · have := uu_succ hL (hx.2 _ k)
    rw [show t - 1 + 1 = t by omega] at this
    exact uu_wide (by omega) this
  · have := uu_succ hL (hy.2 _ k)
    rw [show t - 1 + 1 = t by omega] at this
    exact uu_wide (by omega) this
theorem uu_not {L n : Nat} (hL : 66 ≤ L) {z : Int} (h : UU L (n + 1) z) : UU (L + 1) (n + 1) (-z - 1) := by
  have l : (Tl (-z - 1)).length ≤ (Tl z).length + 1 := by
    rw [← flp_tl]
    exact flp_len _
  have h1 := h.1
  refine ⟨by omega, fun t ht => ?_⟩
  rcases not_mem ht with k | k
  · exact uu_01 (by omega) (.inl k)
  · exact uu_wide (by omega) (h.2 t k)
theorem uu_sub {L n : Nat} (hL : 66 ≤ L) {x y : Int} (hx : UU L (n + 1) x) (hy : UU L (n + 1) y) : UU (3 * L + 5) (n + 2) (x - y) := by
  have := uu_sum (L := L + 1) (by omega) (k := 1) (by decide) (uu_wide (by omega) hx) (uu_not hL hy)
  rw [show x + (-y - 1) + ((1 : Nat) : Int) = x - y by omega] at this
  exact uu_wide (by omega) this
end Fb
namespace Fb
open PySem L2
/-! ### every canonical form is sound: its last place is the highest one -/
theorem gdU {L : Nat} (hL : L ≤ 8500) : ∀ n : Nat, (∀ z, UU L n z → ∃ h, Gd n h (gU n z)) ∧ ∀ a b : Int, 0 ≤ a → a ≤ b → UU L n a → UU L n b → ht n (gU n a) ≤ ht n (gU n b)
  | 0 => ⟨fun z _ => ⟨0, gd_int 0 z⟩, fun a b _ _ _ _ => by
      show ht 0 (.int a) ≤ ht 0 (.int b)
      rw [ht_int, ht_int]
      exact Int.le_refl 0⟩
  | n + 1 => by
    obtain ⟨g, mo⟩ := gdU hL n
    have far : ∀ z, UU L (n + 1) z → ¬ plain z → ∃ (l : List Nat) (p : Nat), turnsN z = l ++ [p] ∧ UU L n (p : Int) ∧ Gd (n + 1) (ht n (gU n (p : Int)) + 1) (gU (n + 1) z) := fun z u np => by
      obtain ⟨l, p, e⟩ : ∃ (l : List Nat) (p : Nat), turnsN z = l ++ [p] := by
        by_cases c : turnsN z = []
        · exact absurd (tl_near.mpr fun t ht => by unfold Tl at ht; rw [c] at ht; cases ht) np
        · exact ⟨_, _, (List.dropLast_concat_getLast c).symm⟩
      have eT : Tl z = zs l ++ [(p : Int)] := by
        unfold Tl
        rw [e]
        unfold zs
        rw [List.map_append]
        rfl
      have mp : (p : Int) ∈ Tl z := by rw [eT]; simp
      refine ⟨l, p, e, u.2 _ mp, ?_⟩
      have el : gU (n + 1) z = .tuple ((Tl z).map (gU n)) := by
        rcases num_cases (ordU hL n) (uu_num hL u) with ⟨pl, _, _⟩ | ⟨_, h, _⟩
        · exact absurd pl np
        · exact h
      rw [el]
      obtain ⟨hp, gp⟩ := g _ (u.2 _ mp)
      have ehp := gp.ht
      refine gd_tup (dl := gU n (p : Int)) (by rw [List.length_map]; have := u.1; omega) (by rw [eT, List.map_append]; simp) (by rw [ehp]; exact gp) fun x hx => ?_
      obtain ⟨t, ht, rfl⟩ := List.mem_map.mp hx
      obtain ⟨h1, g1⟩ := g _ (u.2 _ ht)
      refine ⟨h1, ?_, g1⟩
      rw [← g1.ht]
      refine mo t p (tl_pos z t ht) ?_ (u.2 _ ht) (u.2 _ mp)
      have asc := tl_asc z
      rw [eT] at asc ht
      rcases List.mem_append.mp ht with h | h
      · exact Int.le_of_lt ((List.pairwise_append.mp asc).2.2 t h p (by simp))
      · simp at h
        omega
    refine ⟨fun z u => ?_, fun a b a0 ab ua ub => ?_⟩
    · by_cases pl : plain z
      · rw [gU_plain pl]
        exact ⟨0, gd_int _ z⟩
      · obtain ⟨_, _, _, _, h⟩ := far z u pl
        exact ⟨_, h⟩
    · by_cases pa : plain a
      · rw [gU_plain pa, ht_int]
        exact ht_nonneg _ _
      · by_cases pb : plain b
        · exact absurd ⟨by omega, by have := pb.2; omega⟩ pa
        · obtain ⟨la, p, ea, up, ga⟩ := far a ua pa
          obtain ⟨lb, q, eb, uq, gb⟩ := far b ub pb
          rw [ga.ht, gb.ht]
          have := mo p q (by omega) (by have := last_mono a0 ab ea eb; omega) up uq
          omega
theorem gU_gd {L n : Nat} (hL : L ≤ 8500) {z : Int} (h : UU L n z) : ∃ hh, Gd n hh (gU n z) := (gdU hL n).1 z h
end Fb
namespace Fb
open PySem L2
section
variable {P : Program} {w : World} {K : PySem.W.Frag} {mg : Str → Option Value} {base : Heap} {f : Addr} {fd : FuncData}
/-! ### forms told from other values: a form of an integer is one -/
theorem cmp_minus {n L : Nat} (h66 : 66 ≤ L) (hL : L ≤ 8500) {t : Int} (h : SU L n t) : cmpD n (.int (-1)) (gU n t) < 0 := by
  have e : cmpD n (gU n (-1)) (gU n t) = sgnI (-1) t := by
    cases n with
    | zero => rfl
    | succ m =>
      refine num_ord (ordU hL m) ?_ (uu_num hL h.2)
      exact uu_num hL (uu_plain h66 (by decide))
  rw [gU_plain (by decide)] at e
  rw [e]
  exact sgn_lt.mpr (by have := h.1; omega)
theorem cmp_less {n L : Nat} (hL : L ≤ 8500) {a b : Int} (ha : SU L n a) (hb : SU L n b) (h : a < b) : cmpD n (gU n a) (gU n b) < 0 := by
  rw [(ordU hL n).ord a b ha hb]
  exact sgn_lt.mpr h
theorem sum_nn : ∀ {l : List Int}, (∀ x ∈ l, 1 ≤ x) → 0 ≤ l.sum
  | [], _ => Int.le_refl 0
  | x :: l, h => by
    have := h x List.mem_cons_self
    have := sum_nn (l := l) fun y hy => h y (List.mem_cons_of_mem _ hy)
    rw [List.sum_cons]
    omega
theorem sum_take : ∀ {l : List Int} (i : Nat), (∀ x ∈ l, 1 ≤ x) → 0 ≤ (l.take i).sum ∧ (l.take i).sum ≤ l.sum
  | l, 0, h => by
    have := sum_nn h
    rw [List.take_zero]
    exact ⟨Int.le_refl 0, this⟩
  | [], i + 1, h => ⟨Int.le_refl 0, Int.le_refl 0⟩
  | x :: l, i + 1, h => by
    have := h x List.mem_cons_self
    have := sum_take (l := l) i fun y hy => h y (List.mem_cons_of_mem _ hy)
    rw [List.take_succ_cons, List.sum_cons, List.sum_cons]
    omega
theorem sz_one (n : Nat) (d : PyData) : 1 ≤ sz n d := by
  induction n generalizing d with
  | zero => cases d <;> exact Int.le_refl 1
  | succ n ih =>
    cases d with
    | tuple ds =>
      rw [sz_tup]
      have := sum_nn (l := ds.map (sz n)) fun x hx => by
        obtain ⟨d, _, rfl⟩ := List.mem_map.mp hx
        exact ih d
      omega
    | _ => exact Int.le_refl 1
/-- what stands before the i-th of some numbers -/
def befD (m : Nat) (l : List Int) : Nat → PyData
  | 0 => .int (-1)
  | i + 1 => gU m (l.getD i 0)
end
def isB (d : PyData) : Bool := match d with | .bool _ => true | _ => false
theorem kit_B : ∀ d : PyData, kitB (dTy d) "bool" = some (isB d)
  | .none => by show kitB "NoneType" "bool" = some false; decide +kernel
  | .bool _ => by show kitB "bool" "bool" = some true; decide +kernel
  | .int _ => by show kitB "int" "bool" = some false; decide +kernel
  | .str _ => by show kitB "str" "bool" = some false; decide +kernel
  | .list _ => by show kitB "list" "bool" = some false; decide +kernel
  | .tuple _ => by show kitB "tuple" "bool" = some false; decide +kernel
  | .dict _ => by show kitB "dict" "bool" = some false; decide +kernel
/-! ### data of any kind -/
mutual
/-- a value, and what it holds: as Dp, and the dict that the law draws -/
inductive Dq (K : PySem.W.Frag) (H : Hp) : V → PyData → Prop
  | non : Dq K H .non .none
  | bl (b : Bool) : Dq K H (.bl b) (.bool b)
  | int (i : Int) : Dq K H (.int i) (.int i)
  | str (x : Str) : Dq K H (.str x) (.str x)
  | lst {a : Addr} {xs : List V} {ds : List PyData} : SqL K H a xs → DqAll K H xs ds → Dq K H (.ref a) (.list ds)
  | tup {a : Addr} {xs : List V} {ds : List PyData} : SqT K H a xs → DqAll K H xs ds → Dq K H (.ref a) (.tuple ds)
  | dic {a : Addr} : H a = some (.dK [(Sum.inl 64, .int 65)]) → Dq K H (.ref a) (.dict [(.int 64, .int 65)])
inductive DqAll (K : PySem.W.Frag) (H : Hp) : List V → List PyData → Prop
  | nil : DqAll K H [] []
  | cons {v : V} {vs : List V} {d : PyData} {ds : List PyData} : Dq K H v d → DqAll K H vs ds → DqAll K H (v :: vs) (d :: ds)
end
section
variable {K : PySem.W.Frag} {H H' : Hp}
mutual
theorem Dq.of : ∀ {d : PyData} {v : V}, Dp K H v d → Dq K H v d
  | .none, _, h => by cases h; exact .non
  | .bool b, _, h => by cases h; exact .bl b
  | .int i, _, h => by cases h; exact .int i
  | .str x, _, h => by cases h; exact .str x
  | .list ds, _, h => by cases h with | lst s a => exact .lst s (DqAll.of a)
  | .tuple ds, _, h => by cases h with | tup s a => exact .tup s (DqAll.of a)
  | .dict _, _, h => by cases h
theorem DqAll.of : ∀ {ds : List PyData} {vs : List V}, DpAll K H vs ds → DqAll K H vs ds
  | [], _, h => by cases h; exact .nil
  | _ :: _, _, h => by cases h with | cons a b => exact .cons (Dq.of a) (DqAll.of b)
end
/-- all but the dict of the tape stays -/
def KeepD (H H' : Hp) : Prop := ∀ a o, H a = some o → (∀ kvs, o = .dK kvs → kvs.length = 1) → H' a = some o
mutual
theorem Dq.same (e : Same H H') : ∀ {d : PyData} {v : V}, Dq K H v d → Dq K H' v d
  | .none, _, h => by cases h; exact .non
  | .bool b, _, h => by cases h; exact .bl b
  | .int i, _, h => by cases h; exact .int i
  | .str x, _, h => by cases h; exact .str x
  | .list ds, _, h => by cases h with | lst s a => exact .lst (e.seq s) (DqAll.same e a)
  | .tuple ds, _, h => by cases h with | tup s a => exact .tup ((Nd.of e).sqt s) (DqAll.same e a)
  | .dict _, _, h => by cases h with | dic s => exact .dic (e _ _ s)
theorem DqAll.same (e : Same H H') : ∀ {ds : List PyData} {vs : List V}, DqAll K H vs ds → DqAll K H' vs ds
  | [], _, h => by cases h; exact .nil
  | _ :: _, _, h => by cases h with | cons a b => exact .cons (Dq.same e a) (DqAll.same e b)
end
theorem dqs_length : ∀ {ds : List PyData} {vs : List V}, DqAll K H vs ds → vs.length = ds.length
  | [], _, h => by cases h; rfl
  | _ :: _, _, h => by cases h with | cons a b => rw [List.length_cons, List.length_cons, dqs_length b]
theorem dqs_get : ∀ {ds : List PyData} {vs : List V} {i : Nat} {x : V}, DqAll K H vs ds → vs[i]? = some x → ∃ d, ds[i]? = some d ∧ Dq K H x d
  | [], _, i, x, h, e => by cases h; simp at e
  | d :: ds, _, 0, x, h, e => by cases h with | cons a b => simp at e; subst e; exact ⟨d, rfl, a⟩
  | d :: ds, _, i + 1, x, h, e => by cases h with | cons a b => simp at e; obtain ⟨d', h1, h2⟩ := dqs_get b e; exact ⟨d', by simpa using h1, h2⟩
/-- a form, as plain data -/
theorem Dq.dp : ∀ (n : Nat) {d : PyData} {v : V}, Fm n d → Dq K H v d → Dp K H v d
  | 0, d, v, f, h => by obtain ⟨i, rfl⟩ := f; cases h; exact .int i
  | n + 1, d, v, f, h => by
    rcases f with ⟨i, rfl⟩ | ⟨ds, rfl, _, fs⟩
    · cases h; exact .int i
    · cases h with
      | tup s a =>
        refine .tup s ?_
        have key : ∀ (ds : List PyData) (vs : List V), (∀ x ∈ ds, Fm n x) → DqAll K H vs ds → DpAll K H vs ds := by
          intro ds
          induction ds with
          | nil => intro vs _ h; cases h; exact .nil
          | cons d ds ih =>
            intro vs fs h
            cases h with
            | cons a b => exact .cons (Dq.dp n (fs d List.mem_cons_self) a) (ih _ (fun x hx => fs x (List.mem_cons_of_mem _ hx)) b)
        exact key _ _ fs a
theorem tyx_dq {v : V} {d : PyData} (h : Dq K H v d) : TyX K H v (.type (dTy d)) := by
  cases h with
  | non => exact .base .non
  | bl b => exact .base (.bl b)
  | int i => exact .base (.int i)
  | str x => exact .base (.str x)
  | lst hs _ =>
    rcases hs with (h | ⟨o, h⟩) | ⟨o, its, n, h1, h2, _⟩
    · exact .base (.lst h)
    · exact .base (.frz h)
    · exact .kList h1 h2
  | tup hs _ =>
    rcases hs with (h | ⟨o, h⟩) | ⟨o, its, n, h1, h2, _⟩
    · exact .base (.tup h)
    · exact .fTuple h
    · exact .kTuple h1 h2
  | dic h => exact .base (.dK h)
end
def rIsQ (K : PySem.W.Frag) (T : String) (t : PyData → Bool) : List V → Hp → VK → Prop := fun xs H Q => ∃ x d, xs = [x, .ty T] ∧ Dq K H x d ∧ Q (.bl (t d)) H
theorem call_isqI {X : Cx} (K : PySem.W.Frag) (hK : X.K = K := by rfl) : CallR X (.builtin "isinstance") (rIsQ K "int" isI) := fun pins s σ H xs us Q I r ⟨x, d, e, h, q⟩ => by
  subst hK
  refine call_isi pins s σ H xs us Q I r ⟨x, _, _, _, isI d, e, .ty _, tyx_dq h, kit_ty (kit_I d), q⟩
theorem call_isqT {X : Cx} (K : PySem.W.Frag) (hK : X.K = K := by rfl) : CallR X (.builtin "isinstance") (rIsQ K "tuple" isT) := fun pins s σ H xs us Q I r ⟨x, d, e, h, q⟩ => by
  subst hK
  refine call_isi pins s σ H xs us Q I r ⟨x, _, _, _, isT d, e, .ty _, tyx_dq h, kit_ty (kit_T d), q⟩
theorem call_isqB {X : Cx} (K : PySem.W.Frag) (hK : X.K = K := by rfl) : CallR X (.builtin "isinstance") (rIsQ K "bool" isB) := fun pins s σ H xs us Q I r ⟨x, d, e, h, q⟩ => by
  subst hK
  refine call_isi pins s σ H xs us Q I r ⟨x, _, _, _, isB d, e, .ty _, tyx_dq h, kit_ty (kit_B d), q⟩
/-! ### what is a form -/
/-- a datum is the form of an integer, at height n -/
def Vd (n : Nat) (d : PyData) : Prop := ∃ z, UU 3000 n z ∧ gU n z = d
/-- no tuple is longer than some thousands, down to height n -/
def Sm : Nat → PyData → Prop
  | n + 1, .tuple ds => ds.length ≤ 3000 ∧ ∀ e ∈ ds, Sm n e
  | _, _ => True
open Classical in
noncomputable def sndD (n : Nat) (P : Int) (d : PyData) : Int := match d with
  | .int i => if plain i then 1 else 0
  | .tuple ds => if Vd n (.tuple ds) ∧ sz n (.tuple ds) ≤ P then sz n (.tuple ds) else 0
  | _ => 0
theorem vd_tuple {n : Nat} {z : Int} {ds : List PyData} (u : UU 3000 (n + 1) z) (e : gU (n + 1) z = .tuple ds) : ¬ plain z ∧ ds = (Tl z).map (gU n) := by
  rcases num_cases (ordU (L := 3000) (by decide) n) (uu_num (by decide) u) with ⟨_, k, _⟩ | ⟨np, k, _⟩
  · have : gU (n + 1) z = .int z := k
    rw [this] at e
    cases e
  · have : gU (n + 1) z = .tuple ((Tl z).map (gU n)) := k
    rw [this] at e
    injection e with e
    exact ⟨np, e.symm⟩
theorem vd_mk {n : Nat} {ts : List Int} (asc : ts.Pairwise (· < ·)) (S : ∀ t ∈ ts, SU 3000 n t) (l : ts.length ≤ 3000) {t : Int} (ht : t ∈ ts) (h64 : 64 < t) : Vd (n + 1) (.tuple (ts.map (gU n))) := by
  have pos : ∀ t ∈ ts, 0 ≤ t := fun t h => (S t h).1
  have e : Tl (alt (-1) (ts.map Int.toNat)) = ts := by
    unfold Tl
    rw [turns_of_alt (List.pairwise_map.mpr (asc.imp_of_mem fun ha hb h => by have := pos _ ha; have := pos _ hb; omega))]
    exact zs_toNat pos
  have u : UU 3000 (n + 1) (alt (-1) (ts.map Int.toNat)) := ⟨by rw [e]; exact l, fun t ht => by rw [e] at ht; exact (S t ht).2⟩
  refine ⟨_, u, ?_⟩
  rcases num_cases (ordU (L := 3000) (by decide) n) (uu_num (by decide) u) with ⟨p, _⟩ | ⟨np, k, _⟩
  · have := tl_near.mp p t (by rw [e]; exact ht)
    omega
  · rw [e] at k
    exact k
theorem gU_inj {n : Nat} {a b : Int} (ha : SU 3000 n a) (hb : SU 3000 n b) (e : gU n a = gU n b) : a = b := by
  have o := ordU (L := 3000) (by decide) n
  exact (o.toOrd.eqv ha hb).mp (by rw [e]; exact (eqv_fm (o.fm _ hb) (o.fm _ hb)).mpr rfl)
theorem map_inj {n : Nat} : ∀ {l m : List Int}, (∀ t ∈ l, SU 3000 n t) → (∀ t ∈ m, SU 3000 n t) → l.map (gU n) = m.map (gU n) → l = m
  | [], [], _, _, _ => rfl
  | [], _ :: _, _, _, h => by cases h
  | _ :: _, [], _, _, h => by cases h
  | a :: l, b :: m, h1, h2, h => by
    rw [List.map_cons, List.map_cons] at h
    injection h with e1 e2
    rw [gU_inj (h1 a List.mem_cons_self) (h2 b List.mem_cons_self) e1, map_inj (fun t k => h1 t (List.mem_cons_of_mem _ k)) (fun t k => h2 t (List.mem_cons_of_mem _ k)) e2]
end Fb
namespace Fb
open PySem L2
theorem isB_eq {d : PyData} (h : isB d = true) : ∃ b, d = .bool b := by
  cases d with
  | bool b => exact ⟨b, rfl⟩
  | _ => cases h
theorem snd_bad {n : Nat} {P : Int} {d : PyData} (hi : isI d = false) (ht : isT d = false) : sndD n P d = 0 := by
  cases d with
  | int i => cases hi
  | tuple ds => cases ht
  | _ => rfl
theorem snd_int1 {n : Nat} {P i : Int} (h : plain i) : sndD n P (.int i) = 1 := by unfold sndD; exact if_pos h
theorem snd_int0 {n : Nat} {P i : Int} (h : ¬ plain i) : sndD n P (.int i) = 0 := by unfold sndD; exact if_neg h
theorem snd_tup1 {n : Nat} {P : Int} {ds : List PyData} (h : Vd n (.tuple ds) ∧ sz n (.tuple ds) ≤ P) : sndD n P (.tuple ds) = sz n (.tuple ds) := by unfold sndD; exact if_pos h
theorem snd_tup0 {n : Nat} {P : Int} {ds : List PyData} (h : ¬ (Vd n (.tuple ds) ∧ sz n (.tuple ds) ≤ P)) : sndD n P (.tuple ds) = 0 := by unfold sndD; exact if_neg h
theorem snd_zero {P : Int} {ds : List PyData} : sndD 0 P (.tuple ds) = 0 := snd_tup0 (by rintro ⟨⟨z, _, e⟩, _⟩; cases e)
/-- what an entry tells -/
theorem snd_vd {n : Nat} {P : Int} {d : PyData} (h : sndD n P d ≠ 0) : Vd n d ∧ sndD n P d = sz n d := by
  cases d with
  | int i =>
    by_cases p : plain i
    · rw [snd_int1 p, sz_int]
      exact ⟨⟨i, uu_plain (by decide) p, gU_plain p⟩, rfl⟩
    · exact absurd (snd_int0 p) h
  | tuple ds =>
    by_cases p : Vd n (.tuple ds) ∧ sz n (.tuple ds) ≤ P
    · rw [snd_tup1 p]
      exact ⟨p.1, rfl⟩
    · exact absurd (snd_tup0 p) h
  | _ => exact absurd rfl h
theorem vd_snd {n : Nat} {P : Int} {d : PyData} (h : Vd n d) (hp : sz n d ≤ P) : sndD n P d ≠ 0 := by
  obtain ⟨z, u, rfl⟩ := h
  cases n with
  | zero =>
    have u : plain z := u
    show sndD 0 P (.int z) ≠ 0
    rw [snd_int1 u]
    decide
  | succ m =>
    rcases num_cases (ordU (L := 3000) (by decide) m) (uu_num (by decide) u) with ⟨p, k, _⟩ | ⟨np, k, _⟩
    · have k : gU (m + 1) z = .int z := k
      rw [k, snd_int1 p]
      decide
    · have k : gU (m + 1) z = .tuple ((Tl z).map (gU m)) := k
      rw [k] at hp ⊢
      rw [snd_tup1 ⟨⟨z, u, k⟩, hp⟩]
      have := sz_one (m + 1) (.tuple ((Tl z).map (gU m)))
      omega
section
variable {P : Program} {w : World} {K : PySem.W.Frag} {mg : Str → Option Value} {base : Heap} {f : Addr} {fd : FuncData}
abbrev S_sound_parts : Stmt := top 13
abbrev N_sound_parts : List Str := ["value", "most_parts", "most_levels", "parts", "before", "entry", "more"]
abbrev P_sound_parts : List Str := ["value", "most_parts", "most_levels"]
theorem sc_sound_parts : FnScope N_sound_parts P_sound_parts (defScope S_sound_parts) := ⟨rfl, rfl, rfl, by decide +kernel, rfl, by decide +kernel, by decide +kernel⟩
def spSndQ (K : PySem.W.Frag) (n : Nat) : Sp := fun vs H Q _ => ∃ (v : V) (d : PyData) (mp : Int), vs = [v, .int mp, .int (n : Int)] ∧ Dq K H v d ∧ Sm n d ∧ ∀ H' : Hp, Same H H' → Q (.int (sndD n mp d)) H'
/-- what stands before the i-th of some numbers -/
def befI (l : List Int) : Nat → Int
  | 0 => -1
  | i + 1 => l.getD i 0
theorem ok_sndq {n k : Nat} (k1 : 2 * n + 2 ≤ k) {spR spC : Sp} (hR : ∀ m, n = m + 1 → ∀ vs H Q E, spSndQ K m vs H Q E → spR vs H Q E) (hC : ∀ m, n = m + 1 → ∀ vs H Q E, spCmp K m vs H Q E → spC vs H Q E) (F : Fun K "sound_parts" "sound_parts" S_sound_parts f fd) (B : Blt mg) (Cis_plain : Has P w K mg base 1 "is_plain" P_is_plain [] spPlain) (Cis_near : Has P w K mg base 1 "is_near" P_is_near [] (spNear K))
    (Ccompare : Has P w K mg base (2 * n) "compare" P_compare [] spC) (Csound_parts : Has P w K mg base k "sound_parts" P_sound_parts [] spR) : FnOk P w K mg base CX0 (k + 1) f fd P_sound_parts (spSndQ K n) := by
  have nd := sc_sound_parts.nd
  refine F.ok sc_sound_parts (fun vs H Q E h => ?_) (fun cdv A outer s H vs Q E hr h => ?_)
  · obtain ⟨v, d, mp, rfl, _⟩ := h
    rfl
  obtain ⟨v, d, mp, rfl, hd, hs, q⟩ := h
  refine ⟨_, (C8.pss_cut (ps_if (pt_val (pe_callB (call_isqB K) (by rfl) B.isinstance (by decide +kernel) (pa_cons (pv 0) (pa_cons (pe_bltn (by rfl) B.bool (by decide +kernel) (show RelV (.ty "bool") (.type "bool") from rfl)) pa_nil)))) (pss_one (ps_ret pe_int)) pss_nil)
    (C8.pss_cut (ps_if (pt_val (pe_callB (call_isqI K) (by rfl) B.isinstance (by decide +kernel) (pa_cons (pv 0) (pa_cons (pe_bltn (by rfl) B.int (by decide +kernel) (show RelV (.ty "int") (.type "int") from rfl)) pa_nil)))) (pss_one (ps_ret (pe_ifExp (pt_val (pe_H Cis_plain (hr.mono (by omega)) rfl (pa_cons (pv 0) pa_nil))) pe_int pe_int))) pss_nil)
    (C8.pss_cut (ps_if (PW.pt (pw_or (pt_not (pt_val (pe_callB (call_isqT K) (by rfl) B.isinstance (by decide +kernel) (pa_cons (pv 0) (pa_cons (pe_bltn (by rfl) B.tuple (by decide +kernel) (show RelV (.ty "tuple") (.type "tuple") from rfl)) pa_nil))))) (pw_or1 (pt_cmpR op_eq (pv 2) pe_int (nomark _))))) (pss_one (ps_ret pe_int)) pss_nil)
    (pss_cons (ps_set (i := 3) nd rfl (Or.inl rfl) pe_int)
    (pss_cons (ps_set (i := 4) nd rfl (Or.inl rfl) (pe_un un_neg pe_int))
    (pss_cons (ps_for PassesOwn.never rfl (pi_tup (pv 0)) (pg_name (i := 5) nd rfl (Or.inl rfl)) (pss_cons (ps_set (i := 6) nd rfl (Or.inl rfl) (pe_H Csound_parts (hr.mono (by omega)) rfl (pa_cons (pv 5) (pa_cons (pe_op op_sub (pv 1) (pv 3)) (pa_cons (pe_op op_sub (pv 2) pe_int) pa_nil)))))
    (C8.pss_cut (ps_if (PW.pt (pw_or (pt_cmpR op_eq (pv 6) pe_int (nomark _)) (pw_or (pt_cmpR op_gt (pe_op op_add (pv 3) (pv 6)) (pv 1) (nomark _)) (pw_or1 (pt_cmpR op_ge (pe_H Ccompare (hr.mono (by omega)) rfl (pa_cons (pv 4) (pa_cons (pv 5) pa_nil))) pe_int (nomark _)))))) (pss_one (ps_ret pe_int)) pss_nil)
    (pss_cons (ps_set (i := 3) nd rfl (Or.inl rfl) (pe_op op_add (pv 3) (pv 6)))
    (pss_one (ps_set (i := 4) nd rfl (Or.inl rfl) (pv 5)))))))
    (pss_one (ps_ret (pe_ifExp (pt_val (pe_H Cis_near (hr.mono (by omega)) rfl (pa_cons (pv 4) pa_nil))) pe_int (pv 3)))))))))), ?_⟩
  refine ⟨fun σ H' => σ = [some v, some (.int mp), some (.int (n : Int)), none, none, none, none] ∧ H' = H ∧ isB d = false, ?_, ?_⟩
  · refine ⟨_, rfl, _, d, rfl, hd, _, rfl, ?_⟩
    cases hb : isB d
    · exact iteF ⟨rfl, rfl, rfl⟩
    · obtain ⟨b, rfl⟩ := isB_eq hb
      exact iteT (q H (Same.refl _))
  rintro σ H' ⟨rfl, rfl, nb⟩
  refine ⟨fun σ H1 => σ = [some v, some (.int mp), some (.int (n : Int)), none, none, none, none] ∧ H1 = H' ∧ isI d = false, ?_, ?_⟩
  · refine ⟨_, rfl, _, d, rfl, hd, _, rfl, ?_⟩
    cases hi : isI d
    · exact iteF ⟨rfl, rfl, rfl⟩
    · refine iteT ?_
      obtain ⟨i, rfl⟩ : ∃ i, d = .int i := by
        cases d with
        | int i => exact ⟨i, rfl⟩
        | bool b => cases nb
        | _ => cases hi
      cases hd
      refine ⟨_, rfl, i, rfl, _, rfl, ?_⟩
      have k := q H' (Same.refl _)
      by_cases p : plain i
      · rw [snd_int1 p] at k
        rw [decide_eq_true p]
        exact iteT k
      · rw [snd_int0 p] at k
        rw [decide_eq_false p]
        exact iteF k
  rintro σ H1 ⟨rfl, rfl, ni⟩
  refine ⟨fun σ H' => σ = [some v, some (.int mp), some (.int (n : Int)), none, none, none, none] ∧ H' = H1 ∧ isT d = true ∧ n ≠ 0, ?_, ?_⟩
  · refine ⟨_, rfl, _, d, rfl, hd, _, rfl, ?_⟩
    cases ht : isT d
    · refine iteT ?_
      have k := q H1 (Same.refl _)
      rw [snd_bad ni ht] at k
      exact k
    · refine iteF ?_
      refine ⟨_, rfl, rfl, _, rfl, ?_⟩
      refine iteD (fun c => ?_) (fun c => ⟨rfl, rfl, rfl, fun z => c (by rw [z]; rfl)⟩)
      obtain rfl : n = 0 := by
        injection c with c
        omega
      obtain ⟨ds, rfl⟩ : ∃ ds, d = .tuple ds := by
        cases d with
        | tuple ds => exact ⟨ds, rfl⟩
        | _ => cases ht
      have k := q H1 (Same.refl _)
      rw [snd_zero] at k
      exact k
  rintro σ H2 ⟨rfl, rfl, ht, n0⟩
  obtain ⟨ds, rfl⟩ : ∃ ds, d = .tuple ds := by
    cases d with
    | tuple ds => exact ⟨ds, rfl⟩
    | _ => cases ht
  cases n with
  | zero => exact absurd rfl n0
  | succ m =>
    obtain ⟨len, smd⟩ := hs
    cases hd with
    | @tup a xs _ hs ha =>
      have hlen : xs.length = ds.length := dqs_length ha
      have szs : ∀ x ∈ ds.map (sz m), 1 ≤ x := fun x hx => by
        obtain ⟨d, _, rfl⟩ := List.mem_map.mp hx
        exact sz_one m d
      have tot : sz (m + 1) (.tuple ds) = 1 + (ds.map (sz m)).sum := sz_tup m _
      -- it is no form
      have bad : ∀ (H3 : Hp), Same H2 H3 → ¬ (Vd (m + 1) (.tuple ds) ∧ sz (m + 1) (.tuple ds) ≤ mp) → Q (.int 0) H3 := fun H3 e h => by
        have k := q H3 e
        rw [snd_tup0 h] at k
        exact k
      refine ⟨_, rfl, _, rfl, _, rfl, ⟨_, hs⟩, ?_⟩
      refine for_tup (xs := xs) (fun i σ H' => ∃ (z5 z6 : Option V) (bv : V) (ts : List Int), σ = [some (.ref a), some (.int mp), some (.int ((m + 1 : Nat) : Int)), some (.int (1 + ((ds.map (sz m)).take i).sum)), some bv, z5, z6] ∧ Same H2 H' ∧ ds.take i = ts.map (gU m) ∧ ts.length = i ∧ ts.Pairwise (· < ·) ∧ (∀ t ∈ ts, SU 3000 m t) ∧ Dp K H' bv (gU m (befI ts i)) ∧ (i ≠ 0 → 1 + ((ds.map (sz m)).take i).sum ≤ mp))
        ⟨_, _, _, [], rfl, Same.refl _, rfl, rfl, .nil, (fun t h => by cases h), by rw [show befI [] 0 = -1 from rfl, gU_plain (by decide)]; exact Dp.int _, fun h => absurd rfl h⟩ (fun i σ H' _ h => ?_) (fun i x σ H' hx h => ?_) (fun σ H' h => ?_)
      · obtain ⟨_, _, _, _, _, e1, _⟩ := h
        exact (Nd.of e1).sqt hs
      · obtain ⟨z5, z6, bv, ts, rfl, e1, etk, lts, asc, sus, db, hle⟩ := h
        obtain ⟨d1, hd1, hp1⟩ := dqs_get ha hx
        have hi : i < ds.length := (List.getElem?_eq_some_iff.mp hd1).1
        have hde : ds[i] = d1 := (List.getElem?_eq_some_iff.mp hd1).2
        have dmem : d1 ∈ ds := List.mem_of_getElem? hd1
        have et : (ds.map (sz m)).take (i + 1) = (ds.map (sz m)).take i ++ [sz m d1] := by
          rw [List.take_add_one, List.getElem?_map, hd1]; rfl
        have s1 := (sum_take (i + 1) szs).2
        have s0 := (sum_take i szs).1
        rw [et, List.sum_append, List.sum_singleton] at s1
        have o1 := sz_one m d1
        refine ⟨_, rfl, _, rfl, _, rfl, _, _, rfl, rfl, _, rfl, _, _, rfl, rfl, hR m rfl _ _ _ _ ⟨x, d1, mp - (1 + ((ds.map (sz m)).take i).sum), ?_, (hp1.same e1), smd d1 dmem, fun H3 e3 => ?_⟩⟩
        · show [x, V.int _, V.int (((m + 1 : Nat) : Int) - 1)] = [x, V.int _, V.int (m : Int)]
          rw [show ((m + 1 : Nat) : Int) - 1 = (m : Int) by omega]
        -- the entry, if the whole is a form
        have ent : Vd (m + 1) (.tuple ds) → ∃ z, ds = (Tl z).map (gU m) ∧ (∀ t ∈ Tl z, SU 3000 m t) ∧ Vd m d1 := fun ⟨z, u, e⟩ => by
          obtain ⟨_, rfl⟩ := vd_tuple u e
          have hS : ∀ t ∈ Tl z, SU 3000 m t := fun t ht => ⟨tl_pos z t ht, u.2 t ht⟩
          obtain ⟨t, ht, rfl⟩ := List.mem_map.mp dmem
          exact ⟨z, rfl, hS, t, (hS t ht).2, rfl⟩
        refine ⟨fun σ H' => σ = [some (.ref a), some (.int mp), some (.int ((m + 1 : Nat) : Int)), some (.int (1 + ((ds.map (sz m)).take i).sum)), some bv, some x, some (.int (sz m d1))] ∧ Same H3 H' ∧ 1 + ((ds.map (sz m)).take i).sum + sz m d1 ≤ mp ∧ ∃ t, SU 3000 m t ∧ gU m t = d1 ∧ befI ts i < t, ?_, ?_⟩
        · refine ⟨_, rfl, rfl, _, rfl, ?_⟩
          by_cases h0 : sndD m (mp - (1 + ((ds.map (sz m)).take i).sum)) d1 = 0
          · rw [h0]
            refine iteD (fun c => ?_) (fun c => absurd rfl c)
            refine bad _ (e1.trans e3) fun ⟨hv, hsz⟩ => ?_
            obtain ⟨z, _, _, hv1⟩ := ent hv
            exact vd_snd hv1 (by omega) h0
          obtain ⟨hv1, er⟩ := snd_vd h0
          rw [er]
          refine iteD (fun c => ?_) (fun c => ?_)
          · injection c with c
            omega
          refine ⟨_, rfl, _, rfl, _, _, rfl, rfl, _, rfl, _, _, rfl, rfl, _, rfl, ?_⟩
          refine iteD (fun c => ?_) (fun c => ?_)
          · refine bad _ (e1.trans e3) fun ⟨hv, hsz⟩ => ?_
            omega
          obtain ⟨t, ut, rfl⟩ := hv1
          have ub : UU 3000 m (befI ts i) := by
            cases i with
            | zero => exact uu_plain (by decide) (show plain (-1) by decide)
            | succ j =>
              show UU 3000 m (ts.getD j 0)
              rw [List.getD_eq_getElem?_getD, List.getElem?_eq_getElem (by omega)]
              exact (sus _ (List.getElem_mem _)).2
          have o := ordU (L := 3000) (by decide) m
          have fmU : ∀ z, UU 3000 m z → Fm m (gU m z) := fun z u => by
            cases m with
            | zero => exact ⟨z, rfl⟩
            | succ l => exact num_fm (ordU (L := 3000) (by decide) l) (uu_num (by decide) u)
          have ec : cmpD m (gU m (befI ts i)) (gU m t) = sgnI (befI ts i) t := by
            cases m with
            | zero => rfl
            | succ l => exact num_ord (ordU (L := 3000) (by decide) l) (uu_num (by decide) ub) (uu_num (by decide) ut)
          refine ⟨_, rfl, _, rfl, hC m rfl _ _ _ _ ⟨bv, x, _, _, rfl, (Nd.of e3).d db, Dq.dp m (fmU t ut) (hp1.same (e1.trans e3)), fmU _ ub, fmU t ut, fun H4 e4 => ?_⟩⟩
          refine ⟨_, _, rfl, rfl, _, rfl, ?_⟩
          rw [ec]
          refine iteD (fun c => ?_) (fun c => ?_)
          · refine bad _ (e1.trans (e3.trans e4)) fun ⟨hv, hsz⟩ => ?_
            obtain ⟨z, ez, hS, _⟩ := ent hv
            have el : (Tl z).length = ds.length := by rw [ez, List.length_map]
            have e0 : (Tl z).take i = ts := map_inj (fun t k => hS t (List.mem_of_mem_take k)) sus (by rw [← etk, ez, List.map_take])
            have e1 : (Tl z)[i]'(by omega) = t := by
              have h : gU m ((Tl z)[i]'(by omega)) = gU m t := by
                rw [← hde]
                have : ds[i]? = ((Tl z).map (gU m))[i]? := by rw [← ez]
                rw [List.getElem?_eq_getElem hi, List.getElem?_map, List.getElem?_eq_getElem (by omega)] at this
                injection this with this
                exact this.symm
              have hmem : (Tl z)[i]'(by omega) ∈ Tl z := List.getElem_mem _
              have t0 : SU 3000 m ((Tl z)[i]'(by omega)) := hS _ hmem
              cases m with
              | zero => exact (by injection h)
              | succ l =>
                have n1 := num_ord (ordU (L := 3000) (by decide) l) (uu_num (by decide) t0.2) (uu_num (by decide) ut)
                have n2 := num_ord (ordU (L := 3000) (by decide) l) (uu_num (by decide) ut) (uu_num (by decide) ut)
                have h' : numD (gU l) ((Tl z)[i]'(by omega)) = numD (gU l) t := h
                rw [h', n2, sgnI_self] at n1
                exact Classical.byContradiction fun ne => by rcases sgnI_pm ne with h | h <;> omega
            refine absurd c (by
              have lt : befI ts i < t := by
                cases i with
                | zero =>
                  have := (hS t (by rw [← e1]; exact List.getElem_mem _)).1
                  show (-1 : Int) < t
                  omega
                | succ j =>
                  show ts.getD j 0 < t
                  rw [← e0, List.getD_eq_getElem?_getD, List.getElem?_take, if_pos (by omega), List.getElem?_eq_getElem (by omega), ← e1]
                  exact List.pairwise_iff_getElem.mp (tl_asc z) j (j + 1) (by omega) (by omega) (by omega)
              have := sgn_lt.mpr lt
              omega)
          · have lt : befI ts i < t := sgn_lt.mp (by omega)
            refine ⟨rfl, e4, by omega, t, ⟨?_, ut⟩, rfl, lt⟩
            cases i with
            | zero =>
              have : (-1 : Int) < t := lt
              omega
            | succ j =>
              have h : ts.getD j 0 < t := lt
              have := (sus (ts.getD j 0) (by rw [List.getD_eq_getElem?_getD, List.getElem?_eq_getElem (by omega)]; exact List.getElem_mem _)).1
              omega
        rintro σ H4 ⟨rfl, e4, hle4, t, st, rfl, lt⟩
        refine ⟨_, rfl, _, rfl, _, _, rfl, rfl, ?_⟩
        refine ⟨_, rfl, ?_⟩
        refine ⟨some x, some (.int (sz m (gU m t))), x, ts ++ [t], ?_, e1.trans (e3.trans e4), ?_, by rw [List.length_append, lts, List.length_singleton], ?_, ?_, ?_, fun _ => ?_⟩
        · rw [et, List.sum_append, List.sum_singleton, ← Int.add_assoc]
          rfl
        · rw [List.take_add_one, hd1, etk, List.map_append]
          rfl
        · rw [List.pairwise_append]
          refine ⟨asc, List.pairwise_singleton _ _, fun u hu v hv => ?_⟩
          rw [List.mem_singleton.mp hv]
          cases i with
          | zero => rw [List.length_eq_zero_iff.mp lts] at hu; cases hu
          | succ j =>
            have lt : ts.getD j 0 < t := lt
            obtain ⟨k, hk, rfl⟩ := List.mem_iff_getElem.mp hu
            rw [List.getD_eq_getElem?_getD, List.getElem?_eq_getElem (by omega)] at lt
            rcases Nat.lt_or_eq_of_le (show k ≤ j by omega) with h | h
            · have := List.pairwise_iff_getElem.mp asc k j hk (by omega) h
              show ts[k] < t
              have lt : ts[j] < t := lt
              omega
            · subst h
              exact lt
        · intro u hu
          rcases List.mem_append.mp hu with h | h
          · exact sus u h
          · rw [List.mem_singleton.mp h]
            exact st
        · show Dp K H4 x (gU m ((ts ++ [t]).getD i 0))
          rw [List.getD_eq_getElem?_getD, List.getElem?_append_right (by omega), lts, Nat.sub_self]
          exact Dq.dp m ((ordU (L := 3000) (by decide) m).fm _ st) (hp1.same (e1.trans (e3.trans e4)))
        · rw [et, List.sum_append, List.sum_singleton]
          omega
      · obtain ⟨z5, z6, bv, ts, rfl, e1, etk, lts, asc, sus, db, hle⟩ := h
        rw [hlen] at lts hle db etk
        rw [List.take_length] at etk
        have fin : ∀ (b : Bool), (b = true → ¬ Vd (m + 1) (.tuple ds)) → (b = false → Vd (m + 1) (.tuple ds) ∧ ds.length ≠ 0) → ∀ H4, Same H2 H4 → Q (.int (if b = true then 0 else 1 + ((ds.map (sz m)).take xs.length).sum)) H4 := fun b h1 h2 H4 e4 => by
          cases b with
          | true => exact bad H4 e4 fun h => h1 rfl h.1
          | false =>
            obtain ⟨hv, h0⟩ := h2 rfl
            have hl := hle h0
            have k := q H4 e4
            rw [hlen]
            rw [List.take_of_length_le (by rw [List.length_map]; exact Nat.le_refl _), ← tot] at hl ⊢
            rw [snd_tup1 ⟨hv, hl⟩] at k
            exact k
        have go : ∀ t : Int, befI ts ds.length = t → ∀ b : Bool, isNear (gU m t) = b → (b = true → ¬ Vd (m + 1) (.tuple ds)) ∧ (b = false → Vd (m + 1) (.tuple ds) ∧ ds.length ≠ 0) := fun t et b eb => by
          have o := ordU (L := 3000) (by decide) m
          rcases Nat.eq_zero_or_pos ds.length with h0 | h0
          · have t1 : t = -1 := by rw [← et, h0]; rfl
            rw [t1, gU_plain (by decide)] at eb
            refine ⟨fun _ ⟨z, u, e⟩ => ?_, fun h => by rw [h] at eb; cases eb⟩
            obtain ⟨np, ez⟩ := vd_tuple u e
            refine np (tl_near.mpr fun c hc => ?_)
            rw [List.length_eq_zero_iff.mp h0] at ez
            have := (List.map_eq_nil_iff.mp ez.symm)
            rw [this] at hc
            cases hc
          · obtain ⟨j, hj⟩ : ∃ j, ds.length = j + 1 := ⟨ds.length - 1, by omega⟩
            have et' : ts.getD j 0 = t := by rw [← et, hj]; rfl
            rw [List.getD_eq_getElem?_getD, List.getElem?_eq_getElem (by omega)] at et'
            have et' : ts[j]'(by omega) = t := et'
            have tm : t ∈ ts := by rw [← et']; exact List.getElem_mem _
            have st := sus t tm
            by_cases t64 : t ≤ 64
            · rw [o.near t st t64] at eb
              have nr : isNear (.int t) = true := by
                show decide (t ≤ 64) = true
                exact decide_eq_true t64
              rw [nr] at eb
              subst eb
              refine ⟨fun _ ⟨z, u, e⟩ => ?_, fun h => (nomatch h)⟩
              obtain ⟨np, ez⟩ := vd_tuple u e
              have e2 : Tl z = ts := map_inj (fun t k => ⟨tl_pos z t k, u.2 t k⟩) sus (by rw [← ez, etk])
              refine np (tl_near.mpr fun c hc => ?_)
              rw [e2] at hc
              obtain ⟨k, hk, rfl⟩ := List.mem_iff_getElem.mp hc
              rcases Nat.lt_or_eq_of_le (show k ≤ j by omega) with h | h
              · have := List.pairwise_iff_getElem.mp asc k j hk (by omega) h
                omega
              · subst h
                omega
            · rw [o.far t st (by omega)] at eb
              subst eb
              refine ⟨fun h => (nomatch h), fun _ => ⟨?_, by omega⟩⟩
              rw [etk]
              exact vd_mk asc sus (by omega) tm (by omega)
        have fmb : Fm m (gU m (befI ts ds.length)) := by
          rcases Nat.eq_zero_or_pos ds.length with h0 | h0
          · rw [h0]
            show Fm m (gU m (-1))
            rw [gU_plain (by decide)]
            exact Fm.int _
          · obtain ⟨j, hj⟩ : ∃ j, ds.length = j + 1 := ⟨ds.length - 1, by omega⟩
            rw [hj]
            show Fm m (gU m (ts.getD j 0))
            rw [List.getD_eq_getElem?_getD, List.getElem?_eq_getElem (by omega)]
            exact (ordU (L := 3000) (by decide) m).fm _ (sus _ (List.getElem_mem _))
        refine ⟨_, rfl, bv, _, rfl, db, (fm_kind fmb).2, fun H4 e4 => ?_⟩
        refine ⟨_, rfl, ?_⟩
        obtain ⟨g1, g2⟩ := go _ rfl _ rfl
        have k := fin _ g1 g2 H4 (e1.trans e4)
        cases hb : isNear (gU m (befI ts ds.length)) with
        | true => rw [hb] at k; exact iteT k
        | false => rw [hb] at k; exact iteF ⟨_, rfl, k⟩
end
end Fb
namespace Fb
open PySem L2
theorem call_reprB0 {X : Cx} : CallR X (.builtin "repr") (fun xs H Q => ∃ b : Bool, xs = [.bl b] ∧ Q (.str (if b then "True" else "False")) H) := by
  intro pins s σ H xs us Q I r h
  obtain ⟨b, rfl, q⟩ := h
  obtain ⟨u, rfl, e⟩ := vals1 r
  cases e
  exact PySem.P.repr_of_bool ⟨.str _, H, I.tok _, ⟨_, rfl⟩, q⟩
section
variable {P : Program} {w : World} {K : PySem.W.Frag} {mg : Str → Option Value} {base : Heap} {f : Addr} {fd : FuncData}
abbrev S_is_form : Stmt := top 15
abbrev N_is_form : List Str := ["value"]
abbrev P_is_form : List Str := ["value"]
theorem sc_is_form : FnScope N_is_form P_is_form (defScope S_is_form) := ⟨rfl, rfl, rfl, by decide +kernel, rfl, by decide +kernel, by decide +kernel⟩
def spIsF (K : PySem.W.Frag) : Sp := fun vs H Q _ => ∃ (v : V) (d : PyData), vs = [v] ∧ Dq K H v d ∧ Sm 6 d ∧ ∀ H' : Hp, Same H H' → Q (.bl (decide (0 < sndD 6 2000 d))) H'
theorem ok_isform {k : Nat} {t1 t2 : Tok} (F : Fun K "is_form" "is_form" S_is_form f fd) (MP : mg "MOST_PARTS" = some (.int 2000 t1)) (MLv : mg "MOST_LEVELS" = some (.int 6 t2)) (Csound_parts : Has P w K mg base k "sound_parts" P_sound_parts [] (spSndQ K 6)) : FnOk P w K mg base CX0 (k + 1) f fd P_is_form (spIsF K) := by
  have nd := sc_is_form.nd
  refine F.ok sc_is_form (fun vs H Q E h => ?_) (fun cdv A outer s H vs Q E hr h => ?_)
  · obtain ⟨v, d, rfl, _⟩ := h
    rfl
  obtain ⟨v, d, rfl, hd, hs, q⟩ := h
  refine ⟨_, (pss_one (ps_ret (pe_cmpR op_gt (pe_H Csound_parts (hr.mono (by omega)) rfl (pa_cons (pv 0) (pa_cons (pe_glob (v := .int 2000) rfl MP ⟨_, rfl⟩) (pa_cons (pe_glob (v := .int 6) rfl MLv ⟨_, rfl⟩) pa_nil)))) pe_int (nomark _)))), ?_⟩
  refine ⟨_, rfl, v, d, 2000, rfl, hd, hs, fun H1 e1 => ?_⟩
  exact ⟨_, _, rfl, rfl, q H1 e1⟩
abbrev S__law_before : Stmt := top 30
abbrev N__law_before : List Str := ["_law_one", "_law_other", "_law_mine", "_law_yours", "_law_higher"]
abbrev P__law_before : List Str := ["_law_one", "_law_other"]
theorem sc__law_before : FnScope N__law_before P__law_before (defScope S__law_before) := ⟨rfl, rfl, rfl, by decide +kernel, rfl, by decide +kernel, by decide +kernel⟩
def spBef (K : PySem.W.Frag) (n : Nat) : Sp := fun vs H Q _ => ∃ (v u : V) (x y : Int), vs = [v, u] ∧ Dp K H v (gU n x) ∧ Dp K H u (gU n y) ∧ SU 3000 n x ∧ SU 3000 n y ∧ ∀ H' : Hp, Same H H' → Q (.bl (decide (x < y))) H'
/-- the turns of a form, as a list -/
theorem tl_data {n : Nat} {x : Int} (u : UU 3000 (n + 1) x) : (plain x ∧ gU (n + 1) x = .int x ∧ (Tl x).map (gU n) = (Tl x).map PyData.int) ∨ (¬ plain x ∧ gU (n + 1) x = .tuple ((Tl x).map (gU n))) := by
  rcases num_cases (ordU (L := 3000) (by decide) n) (uu_num (by decide) u) with ⟨p, e, _⟩ | ⟨np, e, _⟩
  · refine .inl ⟨p, e, List.map_congr_left fun t ht => gU_plain ?_⟩
    have := tl_near.mp p t ht
    have := tl_pos x t ht
    exact ⟨by omega, by omega⟩
  · exact .inr ⟨np, e⟩
theorem lex_xy {x y : Int} (hx : 0 ≤ x) (hy : 0 ≤ y) : lexR (Tl x).reverse (Tl y).reverse = sgnI x y ∧ (Tl x).length % 2 = 0 ∧ (Tl y).length % 2 = 0 := by
  have px : (turnsN x).length % 2 = 0 := by
    have h := alt_par (turns_asc x)
    rw [turns_alt] at h
    rcases Nat.mod_two_eq_zero_or_one (turnsN x).length with k | k
    · exact k
    · have := h.1 k; omega
  have py : (turnsN y).length % 2 = 0 := by
    have h := alt_par (turns_asc y)
    rw [turns_alt] at h
    rcases Nat.mod_two_eq_zero_or_one (turnsN y).length with k | k
    · exact k
    · have := h.1 k; omega
  have e := lex_alt (turnsN x) (turnsN y) (turns_asc x) (turns_asc y) (by omega)
  rw [turns_alt, turns_alt] at e
  refine ⟨e, ?_, ?_⟩
  · unfold Tl; rw [len_zs]; exact px
  · unfold Tl; rw [len_zs]; exact py
theorem ok_before {n k : Nat} (hn : n ≤ 30) (k1 : 1 ≤ k) {spR : Sp} (hR : ∀ m, n = m + 1 → ∀ vs H Q E, spBef K m vs H Q E → spR vs H Q E) (F : Fun K "_law_before" "_law_before" S__law_before f fd) (B : Blt mg) (C_law_turns : Has P w K mg base 1 "_law_turns" P__law_turns [] spTurns) (C_law_before : Has P w K mg base k "_law_before" P__law_before [] spR) : FnOk P w K mg base CX0 (k + 1) f fd P__law_before (spBef K n) := by
  have nd := sc__law_before.nd
  refine F.ok sc__law_before (fun vs H Q E h => ?_) (fun cdv A outer s H vs Q E hr h => ?_)
  · obtain ⟨v, u, x, y, rfl, _⟩ := h
    rfl
  obtain ⟨v, u, x, y, rfl, hx, hy, sx, sy, q⟩ := h
  refine ⟨_, (C8.pss_cut (ps_if (PW.pt (pw_and (pt_val (pe_callB (call_isiI K) (by rfl) B.isinstance (by decide +kernel) (pa_cons (pv 0) (pa_cons (pe_bltn (by rfl) B.int (by decide +kernel) (show RelV (.ty "int") (.type "int") from rfl)) pa_nil)))) (pw_and1 (pt_val (pe_callB (call_isiI K) (by rfl) B.isinstance (by decide +kernel) (pa_cons (pv 1) (pa_cons (pe_bltn (by rfl) B.int (by decide +kernel) (show RelV (.ty "int") (.type "int") from rfl)) pa_nil))))))) (pss_one (ps_ret (pe_cmpR op_lt (pv 0) (pv 1) (nomark _)))) pss_nil)
    (C8.pss_cut (ps_set (i := 2) nd rfl (Or.inl rfl) (pe_ifExp (pt_val (pe_callB (call_isiT_ K) (by rfl) B.isinstance (by decide +kernel) (pa_cons (pv 0) (pa_cons (pe_bltn (by rfl) B.tuple (by decide +kernel) (show RelV (.ty "tuple") (.type "tuple") from rfl)) pa_nil)))) (pe_callTy call_list_of (by rfl) B.list (by decide +kernel) (pa_cons (pv 0) pa_nil)) (pe_H C_law_turns (hr.mono (by omega)) rfl (pa_cons (pv 0) pa_nil))))
    (C8.pss_cut (ps_set (i := 3) nd rfl (Or.inl rfl) (pe_ifExp (pt_val (pe_callB (call_isiT_ K) (by rfl) B.isinstance (by decide +kernel) (pa_cons (pv 1) (pa_cons (pe_bltn (by rfl) B.tuple (by decide +kernel) (show RelV (.ty "tuple") (.type "tuple") from rfl)) pa_nil)))) (pe_callTy call_list_of (by rfl) B.list (by decide +kernel) (pa_cons (pv 1) pa_nil)) (pe_H C_law_turns (hr.mono (by omega)) rfl (pa_cons (pv 1) pa_nil))))
    (pss_cons (ps_set (i := 4) nd rfl (Or.inl rfl) pe_bl)
    (pss_cons (ps_while PassesOwn.never (PW.pt (pw_and (pt_cmpR (op_neD hr.units) (pv 2) (pe_lst pa_nil) (nomark _)) (pw_and (pt_cmpR (op_neD hr.units) (pv 3) (pe_lst pa_nil) (nomark _)) (pw_and1 (pt_cmpR (op_eqD hr.units) (pe_ix ix_list (pv 2) (pe_un un_neg pe_int) (fun _ _ => rfl)) (pe_ix ix_list (pv 3) (pe_un un_neg pe_int) (fun _ _ => rfl)) (nomark _)))))) (pss_cons (ps_expr (pe_bm0 PySem.F.plainAttrs_list PySem.F.slot_list_pop PySem.F.type_list_pop mt_pop (pv 2)))
    (pss_cons (ps_expr (pe_bm0 PySem.F.plainAttrs_list PySem.F.slot_list_pop PySem.F.type_list_pop mt_pop (pv 3)))
    (pss_one (ps_set (i := 4) nd rfl (Or.inl rfl) (pe_not (pv 4)))))))
    (pss_cons (ps_if (PW.pt (pw_or (pt_cmpR (op_eqD hr.units) (pv 2) (pe_lst pa_nil) (nomark _)) (pw_or1 (pt_cmpR (op_eqD hr.units) (pv 3) (pe_lst pa_nil) (nomark _))))) (pss_one (ps_ret (pe_or (pe_and (pv 4) (pe_one (pe_cmpR (op_neD hr.units) (pv 3) (pe_lst pa_nil) (nomark _)))) (pe_one (pe_and (pe_not (pv 4)) (pe_one (pe_cmpR (op_neD hr.units) (pv 2) (pe_lst pa_nil) (nomark _)))))))) pss_nil)
    (pss_one (ps_ret (pe_cmpR op_eq (pe_callB call_reprB0 (by rfl) B.repr (by decide +kernel) (pa_cons (pe_H C_law_before (hr.mono (by omega)) rfl (pa_cons (pe_ix ix_list (pv 2) (pe_un un_neg pe_int) (fun _ _ => rfl)) (pa_cons (pe_ix ix_list (pv 3) (pe_un un_neg pe_int) (fun _ _ => rfl)) pa_nil))) pa_nil)) (pe_callB call_reprB0 (by rfl) B.repr (by decide +kernel) (pa_cons (pv 4) pa_nil)) (nomark _)))))))))), ?_⟩
  have kd : ∀ z, UU 3000 n z → isI (gU n z) = decide (plain z) := fun z uz => by
    cases n with
    | zero => rw [decide_eq_true (show plain z from uz)]; rfl
    | succ m =>
      rcases tl_data uz with ⟨p, e, _⟩ | ⟨np, e⟩
      · rw [e, decide_eq_true p]; rfl
      · rw [e, decide_eq_false np]; rfl
  have vi : ∀ (v : V) (z : Int), plain z → Dp K H v (gU n z) → v = .int z := fun v z p h => by
    rw [gU_plain p] at h
    cases h
    rfl
  refine ⟨fun σ H' => σ = [some v, some u, none, none, none] ∧ H' = H ∧ ¬ (plain x ∧ plain y), ?_, ?_⟩
  · refine ⟨_, rfl, v, _, rfl, hx, _, rfl, ?_⟩
    rw [kd x sx.2]
    refine iteD (fun px => ?_) (fun px => ?_)
    · refine ⟨_, rfl, u, _, rfl, hy, _, rfl, ?_⟩
      rw [kd y sy.2]
      refine iteD (fun py => ?_) (fun py => ?_)
      · have e1 := vi v x px hx
        have e2 := vi u y py hy
        subst e1 e2
        exact ⟨_, rfl, _, rfl, _, _, rfl, rfl, q H (Same.refl H)⟩
      · exact ⟨rfl, rfl, fun h => py h.2⟩
    · exact iteF ⟨rfl, rfl, fun h => px h.1⟩
  rintro σ H' ⟨rfl, rfl, nb⟩
  cases n with
  | zero => exact absurd ⟨sx.2, sy.2⟩ nb
  | succ m =>
    have cp : ∀ z, UU 3000 (m + 1) z → plain z → InB z := fun z _ p => InB.of (n := 64) p.1 p.2 (by decide)
    have isTd : ∀ z, UU 3000 (m + 1) z → isT (gU (m + 1) z) = decide (¬ plain z) := fun z uz => by
      rcases tl_data uz with ⟨p, e, _⟩ | ⟨np, e⟩
      · rw [e, decide_eq_false (fun h => h p)]; rfl
      · rw [e, decide_eq_true np]; rfl
    have inv : ∀ z, UU 3000 (m + 1) z → (Tl z).length ≤ 3000 ∧ ∀ t ∈ Tl z, SU 3000 m t := fun z uz => ⟨uz.1, fun t ht => ⟨tl_pos z t ht, uz.2 t ht⟩⟩
    refine ⟨fun σ H1 => ∃ (l1 : Addr) (xs : List V), σ = [some v, some u, some (.ref l1), none, none] ∧ Same H' H1 ∧ H' l1 = none ∧ H1 l1 = some (.lst xs) ∧ DpAll K H1 xs ((Tl x).map (gU m)), ?_, ?_⟩
    · refine ⟨_, rfl, v, _, rfl, hx, _, rfl, ?_⟩
      rw [isTd x sx.2]
      rcases tl_data sx.2 with ⟨p, e, em⟩ | ⟨np, e⟩
      · rw [decide_eq_false (fun h => h p)]
        refine iteF ?_
        have e1 := vi v x p hx
        subst e1
        refine ⟨_, rfl, x, rfl, cp x sx.2 p, fun l1 H1 e1 nl hl => ?_⟩
        refine ⟨l1, _, rfl, e1, nl, hl, ?_⟩
        rw [em]
        have : nI (turnsN x) = (Tl x).map V.int := by unfold nI Tl zs; rw [List.map_map]; rfl
        rw [this]
        exact dps_ints _
      · rw [decide_eq_true np]
        refine iteT ?_
        rw [e] at hx
        cases hx with
        | @tup a xs _ hs ha =>
          refine ⟨_, rfl, a, xs, rfl, .inr hs, fun l1 nl => ?_⟩
          exact ⟨l1, xs, rfl, Same.new nl, nl, upd_same, (Nd.new nl).ds ha⟩
    rintro σ H1 ⟨l1, xs, rfl, e1, nl1, hl1, dx⟩
    have hy1 := (Nd.of e1).d hy
    refine ⟨fun σ H2 => ∃ (l2 : Addr) (ys : List V), σ = [some v, some u, some (.ref l1), some (.ref l2), none] ∧ Same H' H2 ∧ H' l2 = none ∧ H2 l2 = some (.lst ys) ∧ DpAll K H2 ys ((Tl y).map (gU m)) ∧ H2 l1 = some (.lst xs) ∧ DpAll K H2 xs ((Tl x).map (gU m)) ∧ l1 ≠ l2, ?_, ?_⟩
    · have ne : ∀ l2, H1 l2 = none → l1 ≠ l2 := fun l2 h e => by rw [← e, hl1] at h; cases h
      refine ⟨_, rfl, u, _, rfl, hy1, _, rfl, ?_⟩
      rw [isTd y sy.2]
      rcases tl_data sy.2 with ⟨p, e, em⟩ | ⟨np, e⟩
      · rw [decide_eq_false (fun h => h p)]
        refine iteF ?_
        have e2 := vi u y p hy
        subst e2
        refine ⟨_, rfl, y, rfl, cp y sy.2 p, fun l2 H2 e2 nl hl => ?_⟩
        refine ⟨l2, _, rfl, e1.trans e2, e1.free nl, hl, ?_, e2 _ _ hl1, (Nd.of e2).ds dx, ne l2 nl⟩
        rw [em]
        have : nI (turnsN y) = (Tl y).map V.int := by unfold nI Tl zs; rw [List.map_map]; rfl
        rw [this]
        exact dps_ints _
      · rw [decide_eq_true np]
        refine iteT ?_
        rw [e] at hy1
        cases hy1 with
        | @tup a ys _ hs ha =>
          refine ⟨_, rfl, a, ys, rfl, .inr hs, fun l2 nl => ?_⟩
          have e2 := Same.new (o := .lst ys) nl
          exact ⟨l2, ys, rfl, e1.trans e2, e1.free nl, upd_same, (Nd.of e2).ds ha, e2 _ _ hl1, (Nd.of e2).ds dx, ne l2 nl⟩
    rintro σ H2 ⟨l2, ys, rfl, e2, nl2, hl2, dy, hl1', dx', ne⟩
    clear e1 hl1 dx hy1
    obtain ⟨lex, evx, evy⟩ := lex_xy sx.1 sy.1
    obtain ⟨lenx, sux⟩ := inv x sx.2
    obtain ⟨leny, suy⟩ := inv y sy.2
    have fmx : ∀ (A : List Int), (∀ t ∈ A, SU 3000 m t) → ∀ d ∈ A.map (gU m), Fm m d := fun A h d hd => by
      obtain ⟨t, ht, rfl⟩ := List.mem_map.mp hd
      exact (ordU (L := 3000) (by decide) m).fm _ (h t ht)
    refine ⟨fun mm σ H3 => ∃ (A B C : List Int) (xs ys : List V) (b : Bool), σ = [some v, some u, some (.ref l1), some (.ref l2), some (.bl b)] ∧ mm = A.length ∧ Tl x = A ++ C ∧ Tl y = B ++ C ∧ b = decide (C.length % 2 = 0) ∧ Same H' H3 ∧ H3 l1 = some (.lst xs) ∧ DpAll K H3 xs (A.map (gU m)) ∧ H3 l2 = some (.lst ys) ∧ DpAll K H3 ys (B.map (gU m)),
      ⟨_, Tl x, Tl y, [], xs, ys, true, rfl, rfl, by rw [List.append_nil], by rw [List.append_nil], rfl, e2, hl1', dx', hl2, dy⟩, ?_⟩
    clear dx' dy hl1' hl2 e2 xs ys H2 H1
    rintro mm σ H3 ⟨A, B, C, xs, ys, b, rfl, rfl, ex, ey, eb, e3, hl1, dx, hl2, dy⟩
    have sA : ∀ t ∈ A, SU 3000 m t := fun t ht => sux t (by rw [ex]; exact List.mem_append_left _ ht)
    have sB : ∀ t ∈ B, SU 3000 m t := fun t ht => suy t (by rw [ey]; exact List.mem_append_left _ ht)
    have lAC : (A.length + C.length) % 2 = 0 := by rw [← List.length_append, ← ex]; exact evx
    have lBC : (B.length + C.length) % 2 = 0 := by rw [← List.length_append, ← ey]; exact evy
    have lexAB : lexR A.reverse B.reverse = sgnI x y := by
      rw [← lex, ex, ey, List.reverse_append, List.reverse_append, lexR_tail]
    -- whether a list is empty
    have emp : ∀ (H4 : Hp) (l : Addr) (zs : List V) (Z : List Int), H4 l = some (.lst zs) → DpAll K H4 zs (Z.map (gU m)) → (∀ t ∈ Z, SU 3000 m t) → ∀ p, H4 p = none → ∃ d e, Dp K (upd H4 p (.lst [])) (.ref l) d ∧ Dp K (upd H4 p (.lst [])) (.ref p) e ∧ SeqAt.shaped d = true ∧ SeqAt.shaped e = true ∧ PyData.eqv d e = Z.isEmpty := fun H4 l zs Z hl dz sz p np => by
      have e4 := Same.new (o := .lst []) np
      refine ⟨.list (Z.map (gU m)), .list [], .lst (SqL.of (e4 _ _ hl)) ((Nd.of e4).ds dz), .lst (SqL.of upd_same) .nil, shaped_list (n := m) (by omega) (fmx Z sz), shaped_nil, ?_⟩
      rw [eqv_nil]
      cases Z <;> rfl
    refine ⟨_, rfl, (by show 0 ≤ sizeLine; decide), fun p3 np3 => ?_⟩
    obtain ⟨d1, d2, q1, q2, q3, q4, q5⟩ := emp _ l1 xs A hl1 dx sA p3 np3
    refine ⟨d1, d2, q1, q2, q3, q4, _, rfl, ?_⟩
    rw [q5]
    have e4 := Same.new (o := .lst []) np3
    replace hl1 := e4 _ _ hl1
    replace hl2 := e4 _ _ hl2
    replace dx := (Nd.of e4).ds dx
    replace dy := (Nd.of e4).ds dy
    replace e3 := e3.trans e4
    clear q1 q2 q3 q4 q5 e4
    generalize upd H3 p3 (.lst []) = H4 at hl1 hl2 dx dy e3 ⊢
    rcases List.eq_nil_or_concat A with rfl | ⟨A', ta, rfl⟩
    · refine iteF ?_
      have bt : b = true := by
        rw [eb]
        exact decide_eq_true (by simpa using lAC)
      subst bt
      refine ⟨_, rfl, (by show 0 ≤ sizeLine; decide), fun p5 np5 => ?_⟩
      obtain ⟨d1, d2, q1, q2, q3, q4, q5⟩ := emp _ l1 xs [] hl1 dx sA p5 np5
      refine ⟨d1, d2, q1, q2, q3, q4, _, rfl, ?_⟩
      rw [q5]
      refine iteT ?_
      refine iteT ?_
      replace hl2 := (Same.new (o := .lst []) np5) _ _ hl2
      replace dy := (Nd.of (Same.new (o := .lst []) np5)).ds dy
      replace e3 := e3.trans (Same.new (o := .lst []) np5)
      clear q1 q2 q3 q4 q5
      generalize upd H4 p5 (.lst []) = H5 at hl2 dy e3 ⊢
      refine ⟨_, rfl, _, rfl, ?_⟩
      refine iteT ?_
      refine ⟨_, rfl, (by show 0 ≤ sizeLine; decide), fun p6 np6 => ?_⟩
      obtain ⟨d1, d2, q1, q2, q3, q4, q5⟩ := emp _ l2 ys B hl2 dy sB p6 np6
      refine ⟨d1, d2, q1, q2, q3, q4, _, rfl, ?_⟩
      rw [q5]
      have e6 := e3.trans (Same.new (o := .lst []) np6)
      cases B with
      | nil =>
        refine iteF ?_
        refine ⟨_, rfl, _, rfl, _, rfl, ?_⟩
        refine iteF ?_
        have k := q _ e6
        rw [decide_eq_false (fun h => by rw [sgnI_lt h] at lexAB; exact absurd lexAB (by decide))] at k
        exact k
      | cons t B =>
        refine iteT ?_
        have k := q _ e6
        have lt : x < y := by
          rcases List.eq_nil_or_concat (t :: B) with h | ⟨B', tb, h⟩
          · cases h
          · rw [h, List.concat_eq_append, List.reverse_append] at lexAB
            have : sgnI x y = -1 := lexAB.symm
            rcases Int.lt_trichotomy x y with g | g | g
            · exact g
            · rw [g, sgnI_self] at this; exact absurd this (by decide)
            · rw [sgnI_gt g] at this; exact absurd this (by decide)
        rw [decide_eq_true lt] at k
        exact k
    rw [List.concat_eq_append] at *
    rw [show (A' ++ [ta]).isEmpty = false by cases A' <;> rfl]
    refine iteT ?_
    refine ⟨_, rfl, (by show 0 ≤ sizeLine; decide), fun p5 np5 => ?_⟩
    obtain ⟨d1, d2, q1, q2, q3, q4, q5⟩ := emp _ l2 ys B hl2 dy sB p5 np5
    refine ⟨d1, d2, q1, q2, q3, q4, _, rfl, ?_⟩
    rw [q5]
    have e5 := Same.new (o := .lst []) np5
    replace hl1 := e5 _ _ hl1
    replace hl2 := e5 _ _ hl2
    replace dx := (Nd.of e5).ds dx
    replace dy := (Nd.of e5).ds dy
    replace e3 := e3.trans e5
    clear q1 q2 q3 q4 q5 e5
    generalize upd H4 p5 (.lst []) = H5 at hl1 hl2 dx dy e3 ⊢
    -- mine is not empty
    have mine : ∀ (Q1 Q2 : Hp → Prop) (H6 : Hp), Same H5 H6 → (∀ H7, Same H6 H7 → Q2 H7) → True := fun _ _ _ _ _ => trivial
    rcases List.eq_nil_or_concat B with rfl | ⟨B', tb, rfl⟩
    · refine iteF ?_
      have bt : b = true := by
        rw [eb]
        exact decide_eq_true (by simpa using lBC)
      subst bt
      refine ⟨_, rfl, (by show 0 ≤ sizeLine; decide), fun p6 np6 => ?_⟩
      obtain ⟨d1, d2, q1, q2, q3, q4, q5⟩ := emp _ l1 xs _ hl1 dx sA p6 np6
      refine ⟨d1, d2, q1, q2, q3, q4, _, rfl, ?_⟩
      rw [q5, show (A' ++ [ta]).isEmpty = false by cases A' <;> rfl]
      refine iteF ?_
      have e6 := Same.new (o := .lst []) np6
      replace hl2 := e6 _ _ hl2
      replace dy := (Nd.of e6).ds dy
      replace e3 := e3.trans e6
      clear q1 q2 q3 q4 q5 e6
      generalize upd H5 p6 (.lst []) = H6 at hl2 dy e3 ⊢
      refine ⟨_, rfl, (by show 0 ≤ sizeLine; decide), fun p7 np7 => ?_⟩
      obtain ⟨d1, d2, q1, q2, q3, q4, q5⟩ := emp _ l2 ys [] hl2 dy sB p7 np7
      refine ⟨d1, d2, q1, q2, q3, q4, _, rfl, ?_⟩
      rw [q5]
      refine iteT ?_
      have e7 := Same.new (o := .lst []) np7
      replace hl2 := e7 _ _ hl2
      replace dy := (Nd.of e7).ds dy
      replace e3 := e3.trans e7
      clear q1 q2 q3 q4 q5 e7
      generalize upd H6 p7 (.lst []) = H7 at hl2 dy e3 ⊢
      refine ⟨_, rfl, _, rfl, ?_⟩
      refine iteT ?_
      refine ⟨_, rfl, (by show 0 ≤ sizeLine; decide), fun p8 np8 => ?_⟩
      obtain ⟨d1, d2, q1, q2, q3, q4, q5⟩ := emp _ l2 ys [] hl2 dy sB p8 np8
      refine ⟨d1, d2, q1, q2, q3, q4, _, rfl, ?_⟩
      rw [q5]
      have e8 := e3.trans (Same.new (o := .lst []) np8)
      refine iteF ?_
      refine ⟨_, rfl, _, rfl, _, rfl, ?_⟩
      refine iteF ?_
      have k := q _ e8
      rw [decide_eq_false (fun h => by
        rw [sgnI_lt h, List.reverse_append] at lexAB
        have l : par (A'.reverse.length + 1) 1 = -1 := lexAB
        have ev : (A'.reverse.length + 1) % 2 = 0 := by
          rw [List.length_reverse]
          rw [List.length_append, List.length_singleton] at lAC
          have : (C.length) % 2 = 0 := by simpa using lBC
          omega
        unfold par at l
        rw [if_neg (by omega)] at l
        exact absurd l (by decide))] at k
      exact k
    rw [List.concat_eq_append] at *
    rw [show (B' ++ [tb]).isEmpty = false by cases B' <;> rfl]
    refine iteT ?_
    have cut : ∀ (zs : List V) (Z : List Int) (t : Int), DpAll K H5 zs ((Z ++ [t]).map (gU m)) → ∃ (zs' : List V) (vz : V), zs = zs' ++ [vz] ∧ DpAll K H5 zs' (Z.map (gU m)) ∧ Dp K H5 vz (gU m t) := fun zs Z t h => by
      have l := dps_length h
      rw [List.length_map, List.length_append, List.length_singleton] at l
      rcases List.eq_nil_or_concat zs with rfl | ⟨zs', vz, rfl⟩
      · exact absurd l (by simp)
      rw [List.concat_eq_append] at *
      rw [List.length_append, List.length_singleton] at l
      refine ⟨zs', vz, rfl, ?_, ?_⟩
      · have := dps_take zs'.length h
        rw [List.take_left' rfl, List.map_append, List.take_left' (by rw [List.length_map]; omega)] at this
        exact this
      · obtain ⟨d, h1, h2⟩ := dps_get (i := zs'.length) h (v := vz) (by rw [List.getElem?_append_right (Nat.le_refl _), Nat.sub_self]; rfl)
        rw [List.map_append, List.getElem?_append_right (by rw [List.length_map]; omega), List.length_map, show zs'.length - Z.length = 0 by omega] at h1
        simp at h1
        rw [h1]
        exact h2
    obtain ⟨xs', vx, rfl, dx', hvx⟩ := cut xs A' ta dx
    obtain ⟨ys', vy, rfl, dy', hvy⟩ := cut ys B' tb dy
    have sa := sA ta (by simp)
    have sb := sB tb (by simp)
    have fa := (ordU (L := 3000) (by decide) m).fm _ sa
    have fb := (ordU (L := 3000) (by decide) m).fm _ sb
    refine ⟨_, rfl, _, rfl, l1, _, _, _, rfl, rfl, SqL.of hl1, atI_last _ _, _, rfl, _, rfl, l2, _, _, _, rfl, rfl, SqL.of hl2, atI_last _ _, _, _, hvx, hvy, shaped_fm fa (by omega), shaped_fm fb (by omega), _, rfl, ?_⟩
    have lexE : (A' ++ [ta]).reverse = ta :: A'.reverse ∧ (B' ++ [tb]).reverse = tb :: B'.reverse := by simp
    rw [lexE.1, lexE.2] at lexAB
    by_cases eab : ta = tb
    · subst eab
      rw [(eqv_fm fa fb).mpr rfl]
      refine iteT ?_
      refine ⟨fun σ' H'' => ∃ mm', mm' < (A' ++ [ta]).length ∧ ∃ (A B C : List Int) (xs ys : List V) (b : Bool), σ' = [some v, some u, some (.ref l1), some (.ref l2), some (.bl b)] ∧ mm' = A.length ∧ Tl x = A ++ C ∧ Tl y = B ++ C ∧ b = decide (C.length % 2 = 0) ∧ Same H' H'' ∧ H'' l1 = some (.lst xs) ∧ DpAll K H'' xs (A.map (gU m)) ∧ H'' l2 = some (.lst ys) ∧ DpAll K H'' ys (B.map (gU m)), fun σ' H'' h => h, ?_⟩
      refine ⟨_, rfl, .inl ⟨rfl, _, SqL.of hl1⟩, l1, _, vx, rfl, rfl, hl1, (by rw [List.length_append, List.length_singleton, Nat.add_sub_cancel, List.getElem?_append_right (Nat.le_refl _), Nat.sub_self]; rfl), ?_⟩
      have t1 := Td.lst (o := .lst (xs' ++ [vx]).dropLast) hl1
      have e6 := Same.mut (o := .lst (xs' ++ [vx]).dropLast) e3 nl1
      have hl1' : upd H5 l1 (.lst (xs' ++ [vx]).dropLast) l1 = some (.lst xs') := by rw [upd_same, List.dropLast_concat]
      have hl2' : upd H5 l1 (.lst (xs' ++ [vx]).dropLast) l2 = some (.lst (ys' ++ [vy])) := by rw [upd_ne (Ne.symm ne)]; exact hl2
      have dx1 := t1.ds (n := m) (fmx A' fun t h => sA t (List.mem_append_left _ h)) dx'
      have dy1 := t1.ds (n := m) (fmx B' fun t h => sB t (List.mem_append_left _ h)) dy'
      generalize upd H5 l1 (.lst (xs' ++ [vx]).dropLast) = H6 at e6 hl1' hl2' dx1 dy1 ⊢
      refine ⟨_, rfl, .inl ⟨rfl, _, SqL.of hl2'⟩, l2, _, vy, rfl, rfl, hl2', (by rw [List.length_append, List.length_singleton, Nat.add_sub_cancel, List.getElem?_append_right (Nat.le_refl _), Nat.sub_self]; rfl), ?_⟩
      have t2 := Td.lst (o := .lst (ys' ++ [vy]).dropLast) hl2'
      have e7 := Same.mut (o := .lst (ys' ++ [vy]).dropLast) e6 nl2
      refine ⟨_, rfl, _, rfl, ?_⟩
      refine ⟨A'.length, by rw [List.length_append, List.length_singleton]; omega, A', B', ta :: C, xs', ys', !b, rfl, rfl, by rw [ex, List.append_assoc]; rfl, by rw [ey, List.append_assoc]; rfl, ?_, e7, by rw [upd_ne ne]; exact hl1', t2.ds (n := m) (fmx A' fun t h => sA t (List.mem_append_left _ h)) dx1, by rw [upd_same, List.dropLast_concat], t2.ds (n := m) (fmx B' fun t h => sB t (List.mem_append_left _ h)) dy1⟩
      rw [eb, List.length_cons]
      rcases Nat.mod_two_eq_zero_or_one C.length with h | h
      · rw [decide_eq_true h, decide_eq_false (by omega)]; rfl
      · rw [decide_eq_false (by omega), decide_eq_true (by omega)]; rfl
    · have ne' : PyData.eqv (gU m ta) (gU m tb) = false := by
        cases h : PyData.eqv (gU m ta) (gU m tb)
        · rfl
        · exact absurd (gU_inj sa sb ((eqv_fm fa fb).mp h)) eab
      rw [ne']
      refine iteF ?_
      refine ⟨_, rfl, (by show 0 ≤ sizeLine; decide), fun p6 np6 => ?_⟩
      obtain ⟨d1, d2, q1, q2, q3, q4, q5⟩ := emp _ l1 _ _ hl1 dx sA p6 np6
      refine ⟨d1, d2, q1, q2, q3, q4, _, rfl, ?_⟩
      rw [q5, show (A' ++ [ta]).isEmpty = false by cases A' <;> rfl]
      refine iteF ?_
      have e6 := Same.new (o := .lst []) np6
      replace hl1 := e6 _ _ hl1
      replace hl2 := e6 _ _ hl2
      replace dx := (Nd.of e6).ds dx
      replace dy := (Nd.of e6).ds dy
      replace hvx := (Nd.of e6).d hvx
      replace hvy := (Nd.of e6).d hvy
      replace e3 := e3.trans e6
      clear q1 q2 q3 q4 q5 e6 dx' dy' cut
      generalize upd H5 p6 (.lst []) = H6 at hl1 hl2 dx dy hvx hvy e3 ⊢
      refine ⟨_, rfl, (by show 0 ≤ sizeLine; decide), fun p7 np7 => ?_⟩
      obtain ⟨d1, d2, q1, q2, q3, q4, q5⟩ := emp _ l2 _ _ hl2 dy sB p7 np7
      refine ⟨d1, d2, q1, q2, q3, q4, _, rfl, ?_⟩
      rw [q5, show (B' ++ [tb]).isEmpty = false by cases B' <;> rfl]
      refine iteF ?_
      have e7 := Same.new (o := .lst []) np7
      replace hl1 := e7 _ _ hl1
      replace hl2 := e7 _ _ hl2
      replace hvx := (Nd.of e7).d hvx
      replace hvy := (Nd.of e7).d hvy
      replace e3 := e3.trans e7
      clear q1 q2 q3 q4 q5 e7 dx dy
      generalize upd H6 p7 (.lst []) = H7 at hl1 hl2 hvx hvy e3 ⊢
      refine ⟨_, rfl, _, rfl, l1, _, _, _, rfl, rfl, SqL.of hl1, atI_last _ _, _, rfl, _, rfl, l2, _, _, _, rfl, rfl, SqL.of hl2, atI_last _ _, hR m rfl _ _ _ _ ⟨vx, vy, ta, tb, rfl, hvx, hvy, sa, sb, fun H8 e8 => ?_⟩⟩
      refine ⟨_, rfl, ?_⟩
      refine ⟨_, rfl, _, rfl, ?_⟩
      have k := q H8 (e3.trans e8)
      have key : decide (x < y) = (decide (ta < tb) == b) := by
        have l : (if ta = tb then lexR A'.reverse B'.reverse else par (A'.reverse.length + 1) (sgnI ta tb)) = sgnI x y := lexAB
        rw [if_neg eab, List.length_reverse] at l
        rw [List.length_append, List.length_singleton] at lAC
        rw [eb]
        rcases Nat.mod_two_eq_zero_or_one C.length with h | h
        · unfold par at l
          rw [if_neg (by omega)] at l
          rw [show decide (C.length % 2 = 0) = true from decide_eq_true h]
          by_cases c : ta < tb
          · rw [decide_eq_true c, decide_eq_true (sgn_lt.mp (by rw [← l]; exact sgn_lt.mpr c))]; rfl
          · rw [decide_eq_false c, decide_eq_false (fun g => c (sgn_lt.mp (by rw [l]; exact sgn_lt.mpr g)))]; rfl
        · unfold par at l
          rw [if_pos (by omega)] at l
          rw [show decide (C.length % 2 = 0) = false from decide_eq_false (by omega)]
          by_cases c : ta < tb
          · have c1 := sgnI_lt c
            rw [decide_eq_true c, decide_eq_false (fun g => by have g1 := sgnI_lt g; omega)]; rfl
          · have c1 := sgnI_gt (show tb < ta by omega)
            rw [decide_eq_false c, decide_eq_true (sgn_lt.mp (by omega))]; rfl
      rw [key] at k
      have fl : ∀ (c d : Bool) (Q1 : V → Hp → Prop), Q1 (.bl (c == d)) H8 → rEq (V.str (if c = true then Str.ofString "True" else Str.ofString "False")) (V.str (if d = true then Str.ofString "True" else Str.ofString "False")) H8 Q1 := fun c d Q1 h => by
        have e : decide (V.str (if c = true then Str.ofString "True" else Str.ofString "False") = V.str (if d = true then Str.ofString "True" else Str.ofString "False")) = (c == d) := by
          cases c <;> cases d <;> decide +kernel
        refine ⟨rfl, ?_⟩
        rw [e]
        exact h
      exact fl _ _ _ k
end
end Fb
namespace Fb
open PySem L2
/-- what the law's own walk tells of a datum: N is what is left of its depth -/
def ownD : Nat → PyData → Prop
  | 0, _ => False
  | n + 1, d => Vd n d
theorem vd_int {n : Nat} {i : Int} : Vd n (.int i) ↔ plain i := by
  constructor
  · rintro ⟨z, u, e⟩
    cases n with
    | zero =>
      injection e with e
      exact e ▸ u
    | succ m =>
      rcases tl_data u with ⟨p, k, _⟩ | ⟨_, k⟩
      · rw [k] at e
        injection e with e
        exact e ▸ p
      · rw [k] at e
        cases e
  · exact fun p => ⟨i, uu_plain (by decide) p, gU_plain p⟩
theorem vd_kind {n : Nat} {d : PyData} (h : Vd n d) : (∃ i, d = .int i) ∨ ∃ ds, d = .tuple ds ∧ ds ≠ [] := by
  obtain ⟨z, u, rfl⟩ := h
  cases n with
  | zero => exact .inl ⟨z, rfl⟩
  | succ m =>
    rcases tl_data u with ⟨p, k, _⟩ | ⟨np, k⟩
    · exact .inl ⟨z, k⟩
    · refine .inr ⟨_, k, fun h => np (tl_near.mpr fun c hc => ?_)⟩
      rw [List.map_eq_nil_iff.mp h] at hc
      cases hc
theorem gU_injU : ∀ {n : Nat} {a b : Int}, UU 3000 n a → UU 3000 n b → gU n a = gU n b → a = b
  | 0, a, b, _, _, e => by injection e
  | l + 1, a, b, ha, hb, e => by
    have n1 := num_ord (ordU (L := 3000) (by decide) l) (uu_num (by decide) ha) (uu_num (by decide) hb)
    have n2 := num_ord (ordU (L := 3000) (by decide) l) (uu_num (by decide) hb) (uu_num (by decide) hb)
    have h' : numD (gU l) a = numD (gU l) b := e
    rw [h', n2, sgnI_self] at n1
    exact Classical.byContradiction fun ne => by rcases sgnI_pm ne with h | h <;> omega
/-- the entries of a form -/
theorem vd_entries {m : Nat} {ds : List PyData} (h : Vd (m + 1) (.tuple ds)) : ∃ z, ¬ plain z ∧ ds = (Tl z).map (gU m) ∧ ∀ t ∈ Tl z, SU 3000 m t := by
  obtain ⟨z, u, e⟩ := h
  obtain ⟨np, ez⟩ := vd_tuple u e
  exact ⟨z, np, ez, fun t ht => ⟨tl_pos z t ht, u.2 t ht⟩⟩
theorem neg_odd {m : Nat} {t : Int} {es : List PyData} (u : UU 3000 m t) (e : gU m t = .tuple es) : es.length % 2 = 1 ↔ t < 0 := by
  cases m with
  | zero => cases e
  | succ l =>
    rcases tl_data u with ⟨p, k, _⟩ | ⟨np, k⟩
    · rw [k] at e; cases e
    · rw [k] at e
      injection e with e
      rw [← e, List.length_map]
      have h := alt_par (turns_asc t)
      rw [turns_alt] at h
      have l : (Tl t).length = (turnsN t).length := by unfold Tl; rw [len_zs]
      rw [l]
      rcases Nat.mod_two_eq_zero_or_one (turnsN t).length with k | k
      · have := h.2 k; omega
      · have := h.1 k; omega
section
variable {P : Program} {w : World} {K : PySem.W.Frag} {mg : Str → Option Value} {base : Heap} {f : Addr} {fd : FuncData}
abbrev S__law_is_own_form : Stmt := top 31
abbrev N__law_is_own_form : List Str := ["_law_thing", "_law_deep", "_law_at", "_law_one"]
abbrev P__law_is_own_form : List Str := ["_law_thing", "_law_deep"]
theorem sc__law_is_own_form : FnScope N__law_is_own_form P__law_is_own_form (defScope S__law_is_own_form) := ⟨rfl, rfl, rfl, by decide +kernel, rfl, by decide +kernel, by decide +kernel⟩
open Classical in
def spOwn (K : PySem.W.Frag) (N : Nat) : Sp := fun vs H Q _ => ∃ (v : V) (d : PyData) (deep : Int), vs = [v, .int deep] ∧ deep + (N : Int) = 7 ∧ Dq K H v d ∧ Sm N d ∧ ∀ H' : Hp, Same H H' → Q (.bl (decide (ownD N d))) H'
open Classical in
theorem ok_own {N k : Nat} (k1 : 1 ≤ k) {spR spB : Sp} (hR : ∀ n, N = n + 1 → ∀ vs H Q E, spOwn K n vs H Q E → spR vs H Q E) (hB : ∀ m, N = m + 2 → ∀ vs H Q E, spBef K m vs H Q E → spB vs H Q E) (F : Fun K "_law_is_own_form" "_law_is_own_form" S__law_is_own_form f fd) (B : Blt mg) (C_law_before : Has P w K mg base k "_law_before" P__law_before [] spB) (C_law_is_own_form : Has P w K mg base k "_law_is_own_form" P__law_is_own_form [] spR) : FnOk P w K mg base CX0 (k + 1) f fd P__law_is_own_form (spOwn K N) := by
  have nd := sc__law_is_own_form.nd
  refine F.ok sc__law_is_own_form (fun vs H Q E h => ?_) (fun cdv A outer s H vs Q E hr h => ?_)
  · obtain ⟨v, d, deep, rfl, _⟩ := h
    rfl
  obtain ⟨v, d, deep, rfl, hdp, hd, sm, q⟩ := h
  refine ⟨_, (C8.pss_cut (ps_if (PW.pt (pw_or (pt_val (pe_callB (call_isqB K) (by rfl) B.isinstance (by decide +kernel) (pa_cons (pv 0) (pa_cons (pe_bltn (by rfl) B.bool (by decide +kernel) (show RelV (.ty "bool") (.type "bool") from rfl)) pa_nil)))) (pw_or1 (pt_cmpR op_gt (pv 1) pe_int (nomark _))))) (pss_one (ps_ret pe_bl)) pss_nil)
    (C8.pss_cut (ps_if (pt_val (pe_callB (call_isqI K) (by rfl) B.isinstance (by decide +kernel) (pa_cons (pv 0) (pa_cons (pe_bltn (by rfl) B.int (by decide +kernel) (show RelV (.ty "int") (.type "int") from rfl)) pa_nil)))) (pss_one (ps_ret (pe_chain op_le op_lt (pe_un un_neg (pe_op op_pow pe_int pe_int)) (pv 0) (pe_op op_pow pe_int pe_int)))) pss_nil)
    (C8.pss_cut (ps_if (PW.pt (pw_or (pt_not (pt_val (pe_callB (call_isqT K) (by rfl) B.isinstance (by decide +kernel) (pa_cons (pv 0) (pa_cons (pe_bltn (by rfl) B.tuple (by decide +kernel) (show RelV (.ty "tuple") (.type "tuple") from rfl)) pa_nil))))) (pw_or1 (pt_cmpR op_eq (pe_callB call_lenT (by rfl) B.len PySem.boot_len (pa_cons (pv 0) pa_nil)) pe_int (nomark _))))) (pss_one (ps_ret pe_bl)) pss_nil)
    (pss_cons (ps_for PassesOwn.never rfl (pi_range1 (by rfl) B.range (pa_cons (pe_callB call_lenT (by rfl) B.len PySem.boot_len (pa_cons (pv 0) pa_nil)) pa_nil)) (pg_name (i := 2) nd rfl (Or.inl rfl)) (pss_cons (ps_set (i := 3) nd rfl (Or.inl rfl) (pe_ix ix_tup (pv 0) (pv 2) (fun _ _ => rfl)))
    (C8.pss_cut (ps_if (pt_not (pt_val (pe_H C_law_is_own_form (hr.mono (by omega)) rfl (pa_cons (pv 3) (pa_cons (pe_op op_add (pv 1) pe_int) pa_nil))))) (pss_one (ps_ret pe_bl)) pss_nil)
    (C8.pss_cut (ps_if (PW.pt (pw_or (PW.pt (pw_and (pt_val (pe_callB (call_isqI K) (by rfl) B.isinstance (by decide +kernel) (pa_cons (pv 3) (pa_cons (pe_bltn (by rfl) B.int (by decide +kernel) (show RelV (.ty "int") (.type "int") from rfl)) pa_nil)))) (pw_and1 (pt_cmpR op_lt (pv 3) pe_int (nomark _))))) (pw_or1 (PW.pt (pw_and (pt_val (pe_callB (call_isqT K) (by rfl) B.isinstance (by decide +kernel) (pa_cons (pv 3) (pa_cons (pe_bltn (by rfl) B.tuple (by decide +kernel) (show RelV (.ty "tuple") (.type "tuple") from rfl)) pa_nil)))) (pw_and1 (pt_cmpR op_eq (pe_op op_modN (pe_callB call_lenT (by rfl) B.len PySem.boot_len (pa_cons (pv 3) pa_nil)) pe_int) pe_int (nomark _)))))))) (pss_one (ps_ret pe_bl)) pss_nil)
    (pss_one (ps_if (PW.pt (pw_and (pt_cmpR op_gt (pv 2) pe_int (nomark _)) (pw_and1 (pt_not (pt_val (pe_H C_law_before (hr.mono (by omega)) rfl (pa_cons (pe_ix ix_tup (pv 0) (pe_op op_sub (pv 2) pe_int) (fun _ _ => rfl)) (pa_cons (pv 3) pa_nil)))))))) (pss_one (ps_ret pe_bl)) pss_nil))))))
    (pss_one (ps_ret (pe_or (pe_callB (call_isqT K) (by rfl) B.isinstance (by decide +kernel) (pa_cons (pe_ix (ix_tupK K) (pv 0) (pe_un un_neg pe_int) (fun _ _ => rfl)) (pa_cons (pe_bltn (by rfl) B.tuple (by decide +kernel) (show RelV (.ty "tuple") (.type "tuple") from rfl)) pa_nil))) (pe_one (pe_cmpR op_gt (pe_ix ix_tup (pv 0) (pe_un un_neg pe_int) (fun _ _ => rfl)) pe_int (nomark _)))))))))), ?_⟩
  have no : ∀ H', Same H H' → ¬ ownD N d → Q (.bl false) H' := fun H' e h => by
    have k := q H' e
    rw [decide_eq_false h] at k
    exact k
  have yes : ∀ H', Same H H' → ownD N d → Q (.bl true) H' := fun H' e h => by
    have k := q H' e
    rw [decide_eq_true h] at k
    exact k
  refine ⟨fun σ H' => σ = [some v, some (.int deep), none, none] ∧ H' = H ∧ isB d = false ∧ N ≠ 0, ?_, ?_⟩
  · refine ⟨_, rfl, _, d, rfl, hd, _, rfl, ?_⟩
    cases hb : isB d
    · refine iteF ?_
      refine ⟨_, rfl, _, _, rfl, rfl, _, rfl, ?_⟩
      refine iteD (fun c => ?_) (fun c => ⟨rfl, rfl, rfl, fun h => c (by omega)⟩)
      have : N = 0 := by omega
      subst this
      exact no H (Same.refl _) (fun h => h)
    · refine iteT ?_
      refine iteT ?_
      obtain ⟨b, rfl⟩ := isB_eq hb
      refine no H (Same.refl _) fun h => ?_
      cases N with
      | zero => exact h
      | succ n => rcases vd_kind h with ⟨i, e⟩ | ⟨ds, e, _⟩ <;> cases e
  rintro σ H' ⟨rfl, rfl, nb, n0⟩
  obtain ⟨n, rfl⟩ : ∃ n, N = n + 1 := ⟨N - 1, by omega⟩
  replace no : ∀ H1, Same H' H1 → ¬ Vd n d → Q (.bl false) H1 := no
  replace yes : ∀ H1, Same H' H1 → Vd n d → Q (.bl true) H1 := yes
  refine ⟨fun σ H1 => σ = [some v, some (.int deep), none, none] ∧ H1 = H' ∧ isI d = false, ?_, ?_⟩
  · refine ⟨_, rfl, _, d, rfl, hd, _, rfl, ?_⟩
    cases hi : isI d
    · exact iteF ⟨rfl, rfl, rfl⟩
    · refine iteT ?_
      obtain ⟨i, rfl⟩ : ∃ i, d = .int i := by
        cases d with
        | int i => exact ⟨i, rfl⟩
        | bool b => cases nb
        | _ => cases hi
      cases hd
      refine ⟨_, _, rfl, rfl, (by unfold CPow; decide), _, rfl, _, rfl, _, _, rfl, rfl, _, rfl, ?_⟩
      refine iteD (fun c1 => ?_) (fun c1 => ?_)
      · refine ⟨_, _, rfl, rfl, (by unfold CPow; decide), _, _, rfl, rfl, ?_⟩
        show Q (.bl (decide (i < (2 : Int) ^ Int.toNat 64))) H'
        by_cases c2 : i < 2 ^ 64
        · rw [show decide (i < (2 : Int) ^ Int.toNat 64) = true from decide_eq_true c2]
          exact yes H' (Same.refl _) (vd_int.mpr ⟨c1, c2⟩)
        · rw [show decide (i < (2 : Int) ^ Int.toNat 64) = false from decide_eq_false c2]
          exact no H' (Same.refl _) (fun h => c2 (vd_int.mp h).2)
      · exact no H' (Same.refl _) (fun h => c1 (vd_int.mp h).1)
  rintro σ H1 ⟨rfl, rfl, ni⟩
  refine ⟨fun σ H' => σ = [some v, some (.int deep), none, none] ∧ H' = H1 ∧ ∃ (a : Addr) (xs : List V) (ds : List PyData), v = .ref a ∧ d = .tuple ds ∧ SqT K H1 a xs ∧ DqAll K H1 xs ds ∧ ds ≠ [], ?_, ?_⟩
  · refine ⟨_, rfl, _, d, rfl, hd, _, rfl, ?_⟩
    cases ht : isT d
    · refine iteT ?_
      refine iteT ?_
      refine no H1 (Same.refl _) fun h => ?_
      rcases vd_kind h with ⟨i, e⟩ | ⟨ds, e, _⟩
      · rw [e] at ni; cases ni
      · rw [e] at ht; cases ht
    · refine iteF ?_
      obtain ⟨ds, rfl⟩ : ∃ ds, d = .tuple ds := by
        cases d with
        | tuple ds => exact ⟨ds, rfl⟩
        | _ => cases ht
      cases hd with
      | @tup a xs _ hs ha =>
        refine ⟨_, rfl, a, xs, rfl, hs, rfl, _, rfl, ?_⟩
        refine iteD (fun c => ?_) (fun c => ⟨rfl, rfl, a, xs, ds, rfl, rfl, hs, ha, fun h => c ?_⟩)
        · refine no H1 (Same.refl _) fun h => ?_
          rcases vd_kind h with ⟨i, e⟩ | ⟨es, e, ne⟩
          · cases e
          · injection e with e
            injection c with c
            have := dqs_length ha
            exact ne (by rw [← e]; exact List.length_eq_zero_iff.mp (by omega))
        · have := dqs_length ha
          rw [h] at this
          rw [this]
          rfl
  rintro σ H2 ⟨rfl, rfl, a, xs, ds, rfl, rfl, hs, ha, ne⟩
  obtain ⟨len, sme⟩ : ds.length ≤ 3000 ∧ ∀ e ∈ ds, Sm n e := sm
  have hlen : xs.length = ds.length := dqs_length ha
  refine ⟨_, rfl, a, xs, rfl, hs, _, rfl, (by omega), (by omega), ?_⟩
  have ent : Vd n (.tuple ds) → ∃ m z, n = m + 1 ∧ ¬ plain z ∧ ds = (Tl z).map (gU m) ∧ ∀ t ∈ Tl z, SU 3000 m t := fun h => by
    cases n with
    | zero => obtain ⟨z, _, e⟩ := h; cases e
    | succ m =>
      obtain ⟨z, h1, h2, h3⟩ := vd_entries h
      exact ⟨m, z, rfl, h1, h2, h3⟩
  refine for_range (lo := 0) (n := ((xs.length : Int)).toNat) (fun i σ H' => ∃ (z2 z3 : Option V) (ts : List Int), σ = [some (.ref a), some (.int deep), z2, z3] ∧ Same H2 H' ∧ ds.take i = ts.map (gU (n - 1)) ∧ ts.length = i ∧ ts.Pairwise (· < ·) ∧ (∀ t ∈ ts, SU 3000 (n - 1) t) ∧ (i ≠ 0 → n ≠ 0))
    ⟨_, _, [], rfl, Same.refl _, rfl, rfl, .nil, (fun t h => by cases h), fun h => absurd rfl h⟩ (fun i σ H' hi h => ?_) (fun σ H' h => ?_)
  · obtain ⟨z2, z3, ts, rfl, e1, etk, lts, asc, sus, hn⟩ := h
    have hi : i < ds.length := by omega
    obtain ⟨x, hx⟩ : ∃ x, xs[i]? = some x := ⟨_, List.getElem?_eq_getElem (by omega)⟩
    obtain ⟨d1, hd1, hp1⟩ := dqs_get ha hx
    have hde : ds[i] = d1 := (List.getElem?_eq_some_iff.mp hd1).2
    have dmem : d1 ∈ ds := List.mem_of_getElem? hd1
    have hs1 := (Nd.of e1).sqt hs
    refine ⟨_, rfl, _, rfl, a, xs, _, x, rfl, rfl, hs1, (by rw [Int.zero_add]; exact atI_nat hx), ?_⟩
    refine ⟨fun σ H3 => σ = [some (.ref a), some (.int deep), some (.int (0 + (i : Int))), some x] ∧ Same H' H3 ∧ ownD n d1, ?_, ?_⟩
    · refine ⟨_, rfl, _, rfl, _, _, rfl, rfl, hR n rfl _ _ _ _ ⟨x, d1, deep + 1, rfl, by omega, hp1.same e1, sme d1 dmem, fun H3 e3 => ?_⟩⟩
      refine ⟨_, rfl, ?_⟩
      refine iteDN (fun c => ?_) (fun c => ⟨rfl, e3, c⟩)
      refine no _ (e1.trans e3) fun h => ?_
      obtain ⟨m, z, rfl, _, ez, hS⟩ := ent h
      rw [ez] at dmem
      obtain ⟨t, ht, rfl⟩ := List.mem_map.mp dmem
      exact c ⟨t, (hS t ht).2, rfl⟩
    rintro σ H3 ⟨rfl, e3, own⟩
    obtain ⟨m, rfl⟩ : ∃ m, n = m + 1 := by
      cases n with
      | zero => exact absurd own (fun h => h)
      | succ m => exact ⟨m, rfl⟩
    obtain ⟨t, ut, rfl⟩ := own
    rw [show m + 1 - 1 = m from rfl] at etk sus
    -- the entry, if the whole is a form
    have same : Vd (m + 1) (.tuple ds) → SU 3000 m t ∧ ∃ z, ¬ plain z ∧ ds = (Tl z).map (gU m) ∧ (∃ hz : i < (Tl z).length, (Tl z)[i] = t) ∧ (Tl z).take i = ts := fun h => by
      obtain ⟨z, np, ez, hS⟩ := vd_entries h
      have el : (Tl z).length = ds.length := by rw [ez, List.length_map]
      have hz : i < (Tl z).length := by omega
      have e0 : (Tl z).take i = ts := map_inj (fun t k => hS t (List.mem_of_mem_take k)) sus (by rw [← etk, ez, List.map_take])
      have hmem : (Tl z)[i] ∈ Tl z := List.getElem_mem _
      have et : (Tl z)[i] = t := by
        refine gU_injU (hS _ hmem).2 ut ?_
        rw [← hde]
        have : ds[i]? = ((Tl z).map (gU m))[i]? := by rw [← ez]
        rw [List.getElem?_eq_getElem hi, List.getElem?_map, List.getElem?_eq_getElem hz] at this
        injection this with this
        exact this.symm
      exact ⟨et ▸ hS _ hmem, z, np, ez, ⟨hz, et⟩, e0⟩
    have hp3 := hp1.same (e1.trans e3)
    refine ⟨fun σ H4 => σ = [some (.ref a), some (.int deep), some (.int (0 + (i : Int))), some x] ∧ H4 = H3 ∧ 0 ≤ t, ?_, ?_⟩
    · have neg : t < 0 → Q (.bl false) H3 := fun h => no _ (e1.trans e3) fun k => by have := (same k).1.1; omega
      refine ⟨_, rfl, x, _, rfl, hp3, _, rfl, ?_⟩
      cases hk : gU m t with
      | int i' =>
        have ei : i' = t := by
          have h1 : gU m t = .int t := by
            cases m with
            | zero => rfl
            | succ l =>
              rcases tl_data ut with ⟨p, k, _⟩ | ⟨np, k⟩
              · exact k
              · rw [k] at hk; cases hk
          rw [h1] at hk
          injection hk with hk
          exact hk.symm
        subst ei
        rw [hk] at hp3
        cases hp3
        refine iteT ?_
        refine ⟨_, rfl, _, _, rfl, rfl, _, rfl, ?_⟩
        refine iteD (fun c => ?_) (fun c => ?_)
        · refine iteT ?_
          exact neg c
        · refine ⟨_, rfl, _, _, rfl, .int _, _, rfl, ?_⟩
          refine iteF ?_
          exact ⟨rfl, rfl, by omega⟩
      | tuple es =>
        refine iteF ?_
        rw [hk] at hp3
        refine ⟨_, rfl, x, _, rfl, hp3, _, rfl, ?_⟩
        refine iteT ?_
        cases hp3 with
        | @tup b ys _ hb1 hb2 =>
          refine ⟨_, rfl, b, ys, rfl, hb1, _, _, rfl, rfl, (show (2 : Int) ≠ 0 by decide), rfl, _, rfl, ?_⟩
          have lb := dqs_length hb2
          have od := neg_odd ut hk
          refine iteD (fun c => ?_) (fun c => ⟨rfl, rfl, ?_⟩)
          · injection c with c
            rw [Int.fmod_eq_emod_of_nonneg _ (by decide)] at c
            exact neg (od.mp (by omega))
          · refine Int.not_lt.mp fun h => c ?_
            have := od.mpr h
            show V.int ((ys.length : Int).fmod 2) = V.int 1
            congr 1
            rw [Int.fmod_eq_emod_of_nonneg _ (by decide)]
            omega
      | _ => exact absurd (vd_kind (n := m) ⟨t, ut, hk⟩) (by rintro (⟨i, e⟩ | ⟨ds, e, _⟩) <;> cases e)
    rintro σ H4 ⟨rfl, rfl, t0⟩
    have e4 := e1.trans e3
    have next : (∀ u ∈ ts, u < t) → ∀ H5, Same H4 H5 → ∃ (z2 z3 : Option V) (ts' : List Int), ([some (.ref a), some (.int deep), some (.int (0 + (i : Int))), some x] : St) = [some (.ref a), some (.int deep), z2, z3] ∧ Same H2 H5 ∧ ds.take (i + 1) = ts'.map (gU (m + 1 - 1)) ∧ ts'.length = i + 1 ∧ ts'.Pairwise (· < ·) ∧ (∀ t ∈ ts', SU 3000 (m + 1 - 1) t) ∧ (i + 1 ≠ 0 → m + 1 ≠ 0) := fun hl H5 e5 => by
      refine ⟨_, _, ts ++ [t], rfl, e4.trans e5, ?_, by rw [List.length_append, lts, List.length_singleton], ?_, ?_, fun _ h => (nomatch h)⟩
      · rw [List.take_add_one, hd1, etk, List.map_append]
        rfl
      · rw [List.pairwise_append]
        refine ⟨asc, List.pairwise_singleton _ _, fun u hu v hv => ?_⟩
        rw [List.mem_singleton.mp hv]
        exact hl u hu
      · intro u hu
        rcases List.mem_append.mp hu with h | h
        · exact sus u h
        · rw [List.mem_singleton.mp h]
          exact ⟨t0, ut⟩
    refine ⟨_, rfl, _, _, rfl, rfl, _, rfl, ?_⟩
    refine iteD (fun c => ?_) (fun c => ?_)
    · obtain ⟨j, rfl⟩ : ∃ j, i = j + 1 := ⟨i - 1, by omega⟩
      obtain ⟨xp, hxp⟩ : ∃ x, xs[j]? = some x := ⟨_, List.getElem?_eq_getElem (by omega)⟩
      obtain ⟨dp, hdp1, hpp⟩ := dqs_get ha hxp
      obtain ⟨tp, htp⟩ : ∃ t, ts[j]? = some t := ⟨_, List.getElem?_eq_getElem (by omega)⟩
      have edp : dp = gU m tp := by
        have : (ds.take (j + 1))[j]? = (ts.map (gU m))[j]? := by rw [etk]
        rw [List.getElem?_take, if_pos (by omega), List.getElem?_map, hdp1, htp] at this
        injection this
      subst edp
      have stp := sus tp (List.mem_of_getElem? htp)
      have o := ordU (L := 3000) (by decide) m
      refine ⟨_, rfl, _, rfl, _, _, rfl, rfl, a, xs, _, xp, rfl, rfl, (Nd.of e4).sqt hs, (by rw [show 0 + ((j + 1 : Nat) : Int) - 1 = ((j : Nat) : Int) by omega]; exact atI_nat hxp), _, rfl, hB m rfl _ _ _ _ ⟨xp, x, tp, t, rfl, Dq.dp m (o.fm _ stp) (hpp.same e4), Dq.dp m (o.fm _ ⟨t0, ut⟩) hp3, stp, ⟨t0, ut⟩, fun H5 e5 => ?_⟩⟩
      refine ⟨_, rfl, ?_⟩
      refine iteDN (fun c => ?_) (fun c => ?_)
      · refine no _ (e4.trans e5) fun h => ?_
        obtain ⟨_, z, _, _, ⟨hz, ez⟩, e0⟩ := same h
        refine c ?_
        rw [← e0, List.getElem?_take, if_pos (by omega), List.getElem?_eq_getElem (by omega)] at htp
        injection htp with htp
        rw [← htp, ← ez]
        exact List.pairwise_iff_getElem.mp (tl_asc z) j (j + 1) (by omega) hz (by omega)
      · refine next (fun u hu => ?_) H5 e5
        obtain ⟨k, hk, rfl⟩ := List.mem_iff_getElem.mp hu
        rw [List.getElem?_eq_getElem (by omega)] at htp
        injection htp with htp
        rcases Nat.lt_or_eq_of_le (show k ≤ j by omega) with h | h
        · have := List.pairwise_iff_getElem.mp asc k j hk (by omega) h
          omega
        · subst h
          omega
    · refine next (fun u hu => ?_) H4 (Same.refl _)
      have : ts = [] := List.length_eq_zero_iff.mp (by omega)
      rw [this] at hu
      cases hu
  · obtain ⟨z2, z3, ts, rfl, e1, etk, lts, asc, sus, hn⟩ := h
    rw [show ((xs.length : Int)).toNat = ds.length by omega] at etk lts hn
    rw [List.take_length] at etk
    have h0 : ds.length ≠ 0 := fun h => ne (List.length_eq_zero_iff.mp h)
    obtain ⟨m, rfl⟩ : ∃ m, n = m + 1 := ⟨n - 1, by have := hn h0; omega⟩
    rw [show m + 1 - 1 = m from rfl] at etk sus
    rcases List.eq_nil_or_concat ts with rfl | ⟨ts', t, rfl⟩
    · exact absurd lts.symm h0
    rw [List.concat_eq_append] at *
    rw [List.length_append, List.length_singleton] at lts
    obtain ⟨x, hx⟩ : ∃ x, xs[ts'.length]? = some x := ⟨_, List.getElem?_eq_getElem (by omega)⟩
    obtain ⟨d1, hd1, hp1⟩ := dqs_get ha hx
    have ed : d1 = gU m t := by
      rw [etk, List.map_append, List.getElem?_append_right (by rw [List.length_map]; exact Nat.le_refl _), List.length_map, Nat.sub_self] at hd1
      simp at hd1
      exact hd1.symm
    subst ed
    have st := sus t (by simp)
    have o := ordU (L := 3000) (by decide) m
    have hp := hp1.same e1
    have last : atI xs (-1) = some x := by
      rcases List.eq_nil_or_concat xs with rfl | ⟨xs', y, rfl⟩
      · simp at hx
      · rw [List.concat_eq_append] at *
        rw [List.length_append, List.length_singleton] at hlen
        rw [List.getElem?_append_right (by omega), show ts'.length - xs'.length = 0 by omega] at hx
        simp at hx
        rw [hx]
        exact atI_last _ _
    have tm : t ∈ ts' ++ [t] := by simp
    have val : 64 < t ↔ Vd (m + 1) (.tuple ds) := by
      constructor
      · intro h
        rw [etk]
        exact vd_mk asc sus (by rw [List.length_append, List.length_singleton]; omega) tm h
      · intro h
        refine Classical.byContradiction fun t64 => ?_
        obtain ⟨z, np, ez, hS⟩ := vd_entries h
        have e2 : Tl z = ts' ++ [t] := map_inj hS sus (by rw [← ez, etk])
        refine np (tl_near.mpr fun c hc => ?_)
        rw [e2] at hc
        rcases List.mem_append.mp hc with g | g
        · have := (List.pairwise_append.mp asc).2.2 c g t (List.mem_singleton.mpr rfl)
          omega
        · rw [List.mem_singleton.mp g]
          omega
    refine ⟨_, rfl, _, rfl, a, xs, _, x, rfl, rfl, (Nd.of e1).sqt hs, last, x, _, rfl, hp, _, rfl, ?_⟩
    cases hk : gU m t with
    | int i' =>
      have ei : i' = t := by
        have pt : plain i' := vd_int.mp ⟨t, st.2, hk⟩
        exact gU_injU (uu_plain (by decide) pt) st.2 (by rw [gU_plain pt, hk])
      subst ei
      rw [hk] at hp
      cases hp
      refine iteF ?_
      refine ⟨_, rfl, _, rfl, a, xs, _, _, rfl, rfl, (Nd.of e1).sqt hs, last, _, _, rfl, rfl, ?_⟩
      show Q (.bl (decide (i' > 64))) H'
      by_cases c : 64 < i'
      · rw [show decide (i' > 64) = true from decide_eq_true c]
        exact yes _ e1 (val.mp c)
      · rw [show decide (i' > 64) = false from decide_eq_false c]
        exact no _ e1 (fun h => c (val.mpr h))
    | tuple es =>
      refine iteT ?_
      refine yes _ e1 (val.mp ?_)
      refine Classical.byContradiction fun t64 => ?_
      rw [o.near t st (by omega)] at hk
      cases hk
    | _ => exact absurd (vd_kind (n := m) ⟨t, st.2, hk⟩) (by rintro (⟨i, e⟩ | ⟨ds, e, _⟩) <;> cases e)
end
end Fb
namespace Fb
open PySem L2
/-- all but the tape's dict stays -/
structure Ndt (t : Addr) (H H' : Hp) : Prop where
  k : ∀ a o, a ≠ t → H a = some o → H' a = some o
  f : ∀ a, H' a = none → H a = none
theorem Ndt.refl {t : Addr} {H : Hp} : Ndt t H H := ⟨fun _ _ _ h => h, fun _ h => h⟩
theorem Ndt.trans {t : Addr} {H H' H'' : Hp} (a : Ndt t H H') (b : Ndt t H' H'') : Ndt t H H'' := ⟨fun x o n h => b.k x o n (a.k x o n h), fun x h => a.f x (b.f x h)⟩
theorem Ndt.of {t : Addr} {H H' : Hp} (e : Same H H') : Ndt t H H' := ⟨fun a o _ h => e a o h, fun _ h => e.free h⟩
theorem Ndt.new {t p : Addr} {H : Hp} {o : HO} (h : H p = none) : Ndt t H (upd H p o) := Ndt.of (Same.new h)
theorem Ndt.tape {t : Addr} {H : Hp} {o o' : HO} (h : H t = some o') : Ndt t H (upd H t o) := ⟨fun a u n e => by rw [upd_ne n]; exact e, fun a h' => by
  by_cases c : a = t
  · subst c; rw [upd_same] at h'; cases h'
  · rw [upd_ne c] at h'; exact h'⟩
theorem Ndt.nd {K : PySem.W.Frag} {τ : Tp} {n : Nat} {H H' : Hp} (e : Ndt τ.t H H') (T : Tape K τ n H) : Nd H H' := by
  obtain ⟨a, r, ts, _⟩ := T
  refine ⟨fun x u h nd => e.k x u (fun c => ?_) h, fun x h => e.f x h⟩
  subst c
  rw [ts.d] at h
  cases h
  exact nd _ rfl
section
variable {K : PySem.W.Frag} {H H' : Hp} {τ : Tp} {n : Nat}
mutual
theorem Dq.ndt (e : Ndt τ.t H H') (T : Tape K τ n H) : ∀ {d : PyData} {v : V}, Dq K H v d → Dq K H' v d
  | .none, _, h => by cases h; exact .non
  | .bool b, _, h => by cases h; exact .bl b
  | .int i, _, h => by cases h; exact .int i
  | .str x, _, h => by cases h; exact .str x
  | .list ds, _, h => by cases h with | lst s a => exact .lst ((e.nd T).sql s) (DqAll.ndt e T a)
  | .tuple ds, _, h => by cases h with | tup s a => exact .tup ((e.nd T).sqt s) (DqAll.ndt e T a)
  | .dict _, _, h => by
    cases h with
    | dic s =>
      refine .dic (e.k _ _ (fun c => ?_) s)
      obtain ⟨a, r, ts, _⟩ := T
      rw [c, ts.d] at s
      have l : ∀ (c : Addr) (a r : Int), (tp c a r).length = 3 := fun _ _ _ => rfl
      injection s with s
      injection s with s
      have := congrArg List.length s
      rw [l] at this
      exact absurd this (by simp)
theorem DqAll.ndt (e : Ndt τ.t H H') (T : Tape K τ n H) : ∀ {ds : List PyData} {vs : List V}, DqAll K H vs ds → DqAll K H' vs ds
  | [], _, h => by cases h; exact .nil
  | _ :: _, _, h => by cases h with | cons a b => exact .cons (Dq.ndt e T a) (DqAll.ndt e T b)
end
end
section
variable {P : Program} {w : World} {K : PySem.W.Frag} {mg : Str → Option Value} {base : Heap} {f : Addr} {fd : FuncData}
def spDrawT (K : PySem.W.Frag) : Sp := fun vs H Q _ => ∃ (τ : Tp) (lim : Int) (n : Nat), vs = [.ref τ.t, .int lim] ∧ Tape K τ (n + 1) H ∧ 0 < lim ∧ lim < BigL ∧
  ∀ (d : Int) (H' : Hp), Ndt τ.t H H' → Tape K τ n H' → 0 ≤ d → d < lim → Q (.int d) H'
theorem ok_drawT (F : Fun K "_law_draw" "_law_draw" S__law_draw f fd) (B : Blt mg) : FnOk P w K mg base CX0 1 f fd P__law_draw (spDrawT K) := by
  have nd := sc__law_draw.nd
  refine F.ok sc__law_draw (fun vs H Q E h => ?_) (fun cdv A outer s H vs Q E hr h => ?_)
  · obtain ⟨τ, lim, n, rfl, _⟩ := h
    rfl
  obtain ⟨⟨t, c, cs⟩, lim, n, rfl, hT, h0, h9, q⟩ := h
  refine ⟨_, (C8.pss_cut (ps_if (pt_cmpR op_lt (pe_dget (hu_of hr) (pv 0) pe_str (fun _ _ => rfl)) (pv 1) (nomark _)) (pss_cons (ps_par (i := 2) (j := 3) (by rfl) nd rfl rfl (by decide) rfl rfl (pa_cons (pe_dget (hu_of hr) (pv 0) pe_str (fun _ _ => rfl)) (pa_cons (pe_callB call_lenL (by rfl) B.len PySem.boot_len (pa_cons (pe_dget (hu_of hr) (pv 0) pe_str (fun _ _ => rfl)) pa_nil)) pa_nil)) (by rfl))
    (pss_cons (ps_asg (pe_tup (pa_cons (pe_ix ix_list (pe_dget (hu_of hr) (pv 0) pe_str (fun _ _ => rfl)) (pe_op op_modN (pe_callTy call_intI (by rfl) B.int (by decide +kernel) (pa_cons (pv 2) pa_nil)) (pv 3)) (fun _ _ => rfl)) (pa_cons (pe_op op_add (pv 2) pe_int) pa_nil))) (pg_tup rfl (pgs_cons (pg_name (i := 4) nd rfl (Or.inl rfl)) (pgs_cons (pg_sub (pv 0) pe_str (set_dict (hu_of hr))) pgs_nil))))
    (pss_cons (ps_set (i := 5) nd rfl (Or.inl rfl) (pe_op op_add (pe_op op_add (pe_op op_modN (pe_callTy call_intI (by rfl) B.int (by decide +kernel) (pa_cons (pv 4) pa_nil)) pe_int) (pe_op op_mul pe_int (pv 2))) pe_int))
    (pss_cons (ps_dput (hu_of hr) (pv 0) pe_str (pe_op op_modN (pe_callTy call_intI (by rfl) B.int (by decide +kernel) (pa_cons (pe_op op_add (pe_op op_pow (pv 5) pe_int) (pe_op op_mul (pe_op op_mul pe_int (pv 2)) (pv 2))) pa_nil)) (pe_op op_add (pe_op op_pow pe_int pe_int) pe_int)) rfl)
    (pss_one (ps_if (PW.pt (pw_and (pt_cmpR op_ge (pv 4) (pe_op op_pow pe_int pe_int) (nomark _)) (pw_and1 (pt_cmpR op_lt (pv 2) (pv 3) (nomark _))))) (pss_one (ps_dput (hu_of hr) (pv 0) pe_str (pe_op op_sub (pv 4) (pe_op op_pow pe_int pe_int)) rfl)) pss_nil)))))) pss_nil)
    (pss_cons (ps_asg (pe_tup (pa_cons (pe_op op_modN (pe_callTy call_intI (by rfl) B.int (by decide +kernel) (pa_cons (pe_dget (hu_of hr) (pv 0) pe_str (fun _ _ => rfl)) pa_nil)) (pv 1)) (pa_cons (pe_op op_fdivW (pe_dget (hu_of hr) (pv 0) pe_str (fun _ _ => rfl)) (pv 1)) pa_nil))) (pg_tup rfl (pgs_cons (pg_name (i := 6) nd rfl (Or.inl rfl)) (pgs_cons (pg_sub (pv 0) pe_str (set_dict (hu_of hr))) pgs_nil))))
    (pss_one (ps_ret (pv 6))))), ?_⟩
  obtain ⟨a, r, ts, h3, h4, h5, h6, h7⟩ := hT
  replace ts : TS K t c cs a r H := ts
  replace h3 : cs ≠ [] := h3
  have hpos : 0 < cs.length := List.length_pos_iff.mpr h3
  have hlen : ((cs.map V.int).length : Int) = cs.length := by rw [List.length_map]
  refine ⟨fun σ H1 => σ[0]? = some (some (.ref t)) ∧ σ[1]? = some (some (.int lim)) ∧ σ.length = 7 ∧ Ndt t H H1 ∧ ∃ a' r', TS K t c cs a' r' H1 ∧ 0 ≤ a' ∧ a' ≤ a + 1 ∧ 0 ≤ r', ?_, ?_⟩
  · refine ⟨_, rfl, _, _, rfl, ts.rest, _, rfl, _, _, rfl, rfl, _, rfl, ?_⟩
    refine iteD (fun c1 => ?_) (fun c1 => ?_)
    · refine ⟨_, rfl, _, _, rfl, ts.at_, _, rfl, _, _, rfl, ts.cells, _, _, rfl, ts.s, _, _, rfl, ?_⟩
      obtain ⟨v, hv, hm⟩ := atI_mod (k := a) (by simpa using h3 : cs.map V.int ≠ [])
      obtain ⟨z, hz, rfl⟩ := List.mem_map.mp hm
      refine ⟨_, rfl, _, _, rfl, ts.cells, _, rfl, _, rfl, _, rfl, _, _, rfl, rfl, (by omega), _, _, _, _, rfl, rfl, ts.s, hv, _, rfl, _, _, rfl, rfl, (by show 2 ≤ sizeLine; decide), fun p1 np1 => ?_⟩
      have ts1 := ts.new (o := .tup [.int z, .int (a + 1)]) np1
      refine ⟨_, _, rfl, SqT.of upd_same, rfl, _, _, rfl, _, _, rfl, _, rfl, _, _, rfl, ts1.pat, rfl, ?_⟩
      have ts2 := ts1.put (b := a + 1) (u := r)
      have ex2 : Ndt t H _ := (Ndt.new (o := .tup [.int z, .int (a + 1)]) np1).trans (Ndt.tape (o := .dK (tp c (a + 1) r)) ts1.d)
      generalize upd (upd H p1 _) t _ = H2 at ts2 ex2 ⊢
      have m0 : 0 ≤ z.fmod 2305843009213693921 := Int.fmod_nonneg_of_pos _ (by omega)
      have m1 : z.fmod 2305843009213693921 < 2305843009213693921 := Int.fmod_lt_of_pos _ (by omega)
      refine ⟨_, rfl, _, rfl, _, _, rfl, rfl, (by show _ ≠ (0:Int); decide), _, rfl, _, _, rfl, rfl, .inl ⟨by omega, by omega⟩, _, _, rfl, rfl, _, _, rfl, rfl, ?_⟩
      refine ⟨_, rfl, _, _, rfl, rfl, ⟨by omega, by omega, by omega⟩, _, rfl, _, _, rfl, rfl, .inl ⟨by omega, by omega⟩, _, rfl, _, _, rfl, rfl, .inl ⟨by omega, by omega⟩, _, _, rfl, rfl, _, rfl, _, _, rfl, rfl, (by unfold CPow; decide), _, _, rfl, rfl, _, _, rfl, rfl, (by show _ ≠ (0:Int); decide), _, rfl, _, _, rfl, ts2.prest, ?_⟩
      have ts3 := ts2.put (b := a + 1) (u := Int.fmod ((z.fmod 2305843009213693921 + 50119 * a + 23911) ^ (13 : Int).toNat + 91 * a * a) ((10 : Int) ^ (48 : Int).toNat + 193))
      have ex3 := ex2.trans (Ndt.tape (o := .dK (tp c (a + 1) (Int.fmod ((z.fmod 2305843009213693921 + 50119 * a + 23911) ^ (13 : Int).toNat + 91 * a * a) ((10 : Int) ^ (48 : Int).toNat + 193)))) ts2.d)
      have nn : 0 ≤ Int.fmod ((z.fmod 2305843009213693921 + 50119 * a + 23911) ^ (13 : Int).toNat + 91 * a * a) ((10 : Int) ^ (48 : Int).toNat + 193) := Int.fmod_nonneg_of_pos _ (by decide +kernel)
      generalize Int.fmod ((z.fmod 2305843009213693921 + 50119 * a + 23911) ^ (13 : Int).toNat + 91 * a * a) ((10 : Int) ^ (48 : Int).toNat + 193) = u3 at ts3 ex3 nn ⊢
      generalize upd H2 t _ = H3 at ts3 ex3 ⊢
      refine ⟨_, rfl, _, _, rfl, rfl, (by unfold CPow; decide), _, _, rfl, rfl, _, rfl, ?_⟩
      refine iteD (fun c2 => ?_) (fun c2 => ?_)
      · refine ⟨_, rfl, _, rfl, _, _, rfl, rfl, _, rfl, ?_⟩
        refine iteD (fun c3 => ?_) (fun c3 => ?_)
        · refine ⟨_, rfl, _, _, rfl, rfl, (by unfold CPow; decide), _, _, rfl, rfl, _, rfl, _, _, rfl, ts3.prest, ?_⟩
          exact ⟨rfl, rfl, rfl, ex3.trans (Ndt.tape ts3.d), _, _, ts3.put, by omega, by omega, by omega⟩
        · exact ⟨rfl, rfl, rfl, ex3, _, _, ts3, by omega, by omega, nn⟩
      · refine iteF ?_
        exact ⟨rfl, rfl, rfl, ex3, _, _, ts3, by omega, by omega, nn⟩
    · exact ⟨rfl, rfl, rfl, Ndt.refl, _, _, ts, h5, by omega, h7⟩
  rintro σ H1 ⟨s0, s1, s7, ex, a', r', ts, ha0, ha1, hr0⟩
  refine ⟨_, s0, _, _, rfl, ts.rest, _, rfl, _, s1, _, _, rfl, rfl, (by omega), _, s0, _, _, rfl, ts.rest, _, s1, _, _, rfl, rfl, div_BigL h0 h9, (by show 2 ≤ sizeLine; decide), fun p2 np2 => ?_⟩
  have ts1 := ts.new (o := .tup [.int (r'.fmod lim), .int (r' / lim)]) np2
  have s0' : (σ.set 6 (some (V.int (r'.fmod lim))))[0]? = some (some (.ref t)) := by rw [List.getElem?_set_ne (by decide)]; exact s0
  refine ⟨_, _, rfl, SqT.of upd_same, rfl, _, _, rfl, _, _, rfl, _, s0', _, _, rfl, ts1.prest, rfl, ?_⟩
  have s6 : (σ.set 6 (some (V.int (r'.fmod lim))))[6]? = some (some (V.int (r'.fmod lim))) := by rw [List.getElem?_set_self (by omega)]
  refine ⟨_, s6, ?_⟩
  have ts2 := ts1.put (b := a') (u := r' / lim)
  refine q _ _ (ex.trans ((Ndt.new np2).trans (Ndt.tape ts1.d))) ⟨a', r' / lim, ts2, h3, h4, ha0, by omega, Int.ediv_nonneg hr0 (by omega)⟩ (Int.fmod_nonneg_of_pos _ h0) (Int.fmod_lt_of_pos _ h0)
def spPickT (K : PySem.W.Frag) : Sp := fun vs H Q _ => ∃ (τ : Tp) (l : Addr) (xs : List V) (n : Nat), vs = [.ref τ.t, .ref l] ∧ SqL K H l xs ∧ xs ≠ [] ∧ xs.length ≤ 100000 ∧ Tape K τ (n + 1) H ∧ ∀ (x : V) (i : Nat) (H' : Hp), Ndt τ.t H H' → Tape K τ n H' → xs[i]? = some x → Q x H'
theorem ok_pickT (F : Fun K "_law_pick" "_law_pick" S__law_pick f fd) (B : Blt mg) (C_law_draw : Has P w K mg base 1 "_law_draw" P__law_draw [] (spDrawT K)) : FnOk P w K mg base CX0 2 f fd P__law_pick (spPickT K) := by
  have nd := sc__law_pick.nd
  refine F.ok sc__law_pick (fun vs H Q E h => ?_) (fun cdv A outer s H vs Q E hr h => ?_)
  · obtain ⟨t, l, xs, n, rfl, _⟩ := h
    rfl
  obtain ⟨t, l, xs, n, rfl, hS, h0, h1, hT, q⟩ := h
  refine ⟨_, (pss_one (ps_ret (pe_ix ix_list (pv 1) (pe_H C_law_draw (hr.mono (by decide)) rfl (pa_cons (pv 0) (pa_cons (pe_callB call_lenL (by rfl) B.len PySem.boot_len (pa_cons (pv 1) pa_nil)) pa_nil))) (fun _ _ => rfl)))), ?_⟩
  have hp : 0 < xs.length := List.length_pos_iff.mpr h0
  refine ⟨_, rfl, _, rfl, _, rfl, _, _, rfl, hS, t, _, n, rfl, hT, (by omega), lt_BigL (by omega), fun d H' e hT' d0 d1 => ?_⟩
  obtain ⟨j, rfl⟩ := Int.eq_ofNat_of_zero_le d0
  have hj : j < xs.length := by omega
  refine ⟨_, _, _, _, rfl, rfl, (Ndt.nd e hT).sql hS, atI_nat (List.getElem?_eq_getElem hj), ?_⟩
  exact q _ j _ e hT' (List.getElem?_eq_getElem hj)
end
end Fb
namespace Fb
open PySem L2 PySem.Spec PyProof.Rows
mutual
/-- no list within -/
inductive NoL : PyData → Prop
  | non : NoL .none
  | bl (b : Bool) : NoL (.bool b)
  | int (i : Int) : NoL (.int i)
  | str (x : Str) : NoL (.str x)
  | tup {ds : List PyData} : NoLs ds → NoL (.tuple ds)
  | dic {kvs : List (PyData × PyData)} : NoL (.dict kvs)
inductive NoLs : List PyData → Prop
  | nil : NoLs []
  | cons {d : PyData} {ds : List PyData} : NoL d → NoLs ds → NoLs (d :: ds)
end
section
variable {X : Cx} {pins : List (Addr × Obj)} {σ : L2.St} {H : Hp} {s : Shared}
mutual
theorem Dq.reads (I : Inv X pins σ H s) : ∀ (d : PyData) (v : V) (u : Value), Dq X.K H v d → RelV v u → ∃ as, Reads s.heap u d as ∧ (NoL d → sysModules ∉ as)
  | .none, _, _, h, r => by
    cases h
    cases r
    exact ⟨_, Reads.none, fun _ => by simp⟩
  | .bool b, _, _, h, r => by
    cases h
    cases r
    exact ⟨_, Reads.bool _, fun _ => by simp⟩
  | .int i, _, _, h, r => by
    cases h
    obtain ⟨t, rfl⟩ := r
    exact ⟨_, Reads.int _ _, fun _ => by simp⟩
  | .str x, _, _, h, r => by
    cases h
    obtain ⟨t, rfl⟩ := r
    exact ⟨_, Reads.str _ _, fun _ => by simp⟩
  | .list ds, _, _, h, r => by
    cases h with
    | lst hs ha =>
      cases r
      obtain ⟨its, rv, ⟨o, n, ho, hc, _, hd⟩, _⟩ := I.list hs
      obtain ⟨as, hr, _⟩ := DqAll.reads I ds _ its ha rv
      exact ⟨_, Reads.list ho hc hd hr, fun h => by cases h⟩
  | .tuple ds, _, _, h, r => by
    cases h with
    | tup hs ha =>
      cases r
      obtain ⟨its, rv, ⟨o, ho, hc, n, hd⟩, _⟩ := I.tuple hs
      obtain ⟨as, hr, hn⟩ := DqAll.reads I ds _ its ha rv
      exact ⟨_, Reads.tuple ho hc hd hr, fun h => by cases h with | tup h => exact hn h⟩
  | .dict _, _, _, h, r => by
    cases h with
    | @dic a e =>
      cases r
      obtain ⟨_, hm, vs, kv, o, es, ep, ho, hx, hdat, _, pr, _⟩ := dk_of I.hok e
      cases kv with
      | @cons _ q _ _ k1 k2 =>
        cases k2
        obtain ⟨q1, q2⟩ := q
        obtain ⟨e1, rv⟩ := k1
        obtain ⟨t2, e2⟩ := rv
        cases e1
        cases e2
        obtain ⟨el, hel⟩ : ∃ el, es.toList = [el] ∧ keyIs (Sum.inl 64) el.key = true ∧ el.val = .int 65 t2 := by
          generalize es.toList = l at pr
          cases pr with
          | cons a b c => cases c; exact ⟨_, rfl, a, b⟩
        obtain ⟨hel, hk, hv⟩ := hel
        rcases keyIs_shape hk with ⟨i, t, ei, ek⟩ | ⟨x, t, ex, _⟩
        · cases ei
          refine ⟨a :: [] ++ [], Reads.dict ho hx.1 hdat ?_ ?_, fun _ => ?_⟩
          · rw [hel]
            show ReadsAll _ [el.key] [PyData.int 64] []
            rw [ek]
            exact ReadsAll.cons (as := []) (bs := []) (Reads.int _ _) ReadsAll.nil
          · rw [hel]
            show ReadsAll _ [el.val] [PyData.int 65] []
            rw [hv]
            exact ReadsAll.cons (as := []) (bs := []) (Reads.int _ _) ReadsAll.nil
          · simp
            intro h
            rw [h] at hm
            exact absurd hm (by simp)
        · cases ex
theorem DqAll.reads (I : Inv X pins σ H s) : ∀ (ds : List PyData) (vs : List V) (us : List Value), DqAll X.K H vs ds → Vals vs us → ∃ as, ReadsAll s.heap us ds as ∧ (NoLs ds → sysModules ∉ as)
  | [], _, _, h, r => by
    cases h
    cases r
    exact ⟨_, ReadsAll.nil, fun _ => by simp⟩
  | d :: ds, _, _, h, r => by
    cases h with
    | cons h1 h2 =>
      cases r with
      | cons r1 r2 =>
        obtain ⟨as, q1, n1⟩ := Dq.reads I d _ _ h1 r1
        obtain ⟨bs, q2, n2⟩ := DqAll.reads I ds _ _ h2 r2
        exact ⟨_, ReadsAll.cons q1 q2, fun h => by
          cases h with
          | cons a b =>
            intro hm
            rcases List.mem_append.mp hm with g | g
            · exact n1 a g
            · exact n2 b g⟩
end
end
/-- data that can be shown, though a dict be within -/
structure Shq (d : PyData) : Prop where
  show_ : d.showable = true
  nod : d.hasDict = false ∨ NoL d
  deep : d.depth ≤ 40
  long : d.shown.length ≤ sizeLine
def rReprQ (K : PySem.W.Frag) : List V → Hp → VK → Prop := fun xs H Q => ∃ (v : V) (d : PyData), xs = [v] ∧ Dq K H v d ∧ Shq d ∧ Q (.str d.shown) H
theorem call_reprQ {X : Cx} (ng : X.A.guards = some []) (room : X.A.units + 64 < cLine) : CallR X (.builtin "repr") (rReprQ X.K) := by
  intro pins s σ H xs us Q I rel h
  obtain ⟨v, d, rfl, dp, sh, q⟩ := h
  obtain ⟨u, rfl, ru⟩ : ∃ u, us = [u] ∧ RelV v u := by
    cases rel with
    | cons a b => cases b; exact ⟨_, rfl, a⟩
  obtain ⟨as, rd, hn⟩ := Dq.reads I d v u dp ru
  have sm : d.hasDict = true → sysModules ∉ as := fun h => by
    rcases sh.nod with g | g
    · rw [h] at g; cases g
    · exact hn g
  have deep := sh.deep
  cases dp with
  | non =>
    cases ru
    exact PySem.P.repr_of_none ⟨.str _, H, I.tok _, ⟨_, rfl⟩, q⟩
  | bl b =>
    cases ru
    exact PySem.P.repr_of_bool ⟨.str _, H, I.tok _, ⟨_, rfl⟩, q⟩
  | int i =>
    obtain ⟨t, rfl⟩ := ru
    have hi : i.natAbs.log2 < 1920 := by
      have := sh.show_
      rw [PyData.showable] at this
      exact of_decide_eq_true this
    have hq : Q (.str (toString i)) H := by rw [PyData.shown] at q; exact q
    exact PySem.P.repr_of_int hi ⟨.str _, H, I.tok _, ⟨_, rfl⟩, hq⟩
  | str x =>
    obtain ⟨t, rfl⟩ := ru
    have hx : (reprText x).length ≤ sizeLine := by
      have := sh.long
      rw [PyData.shown] at this
      exact this
    have hq : Q (.str (reprText x)) H := by rw [PyData.shown] at q; exact q
    exact PySem.P.repr_of_str ⟨.str _, H, I.tok _, ⟨_, rfl⟩, hq⟩ hx
  | lst hs ha =>
    cases ru
    exact repr_of_reads' rd sh.show_ sm ng (by omega) (fun _ _ e => e) (fun h' t tk keep => ⟨.str _, H, I.kept keep, ⟨_, rfl⟩, q⟩) sh.long
  | tup hs ha =>
    cases ru
    exact repr_of_reads' rd sh.show_ sm ng (by omega) (fun _ _ e => e) (fun h' t tk keep => ⟨.str _, H, I.kept keep, ⟨_, rfl⟩, q⟩) sh.long
  | dic hs =>
    cases ru
    exact repr_of_reads' rd sh.show_ sm ng (by omega) (fun _ _ e => e) (fun h' t tk keep => ⟨.str _, H, I.kept keep, ⟨_, rfl⟩, q⟩) sh.long
end Fb
namespace Fb
open PySem L2
/-! ### forms at the limits -/
theorem vd_up {n m : Nat} {d : PyData} (h : Vd n d) (e : n ≤ m) : Vd m d := by
  obtain ⟨z, u, rfl⟩ := h
  exact ⟨z, uu_le (by decide) e u, gU_le (L := 3000) (by decide) (by decide) e u⟩
theorem tall_step {n : Nat} {t : Int} {d : PyData} (u : UU 3000 n t) (e : gU n t = d) (h : 64 < t) : ∃ t', UU 3000 (n + 1) t' ∧ gU (n + 1) t' = .tuple [.int 64, d] ∧ 64 < t' := by
  have asc : ([64, t] : List Int).Pairwise (· < ·) := by simp; omega
  have S : ∀ s ∈ ([64, t] : List Int), SU 3000 n s := fun s hs => by
    simp at hs
    rcases hs with rfl | rfl
    · exact su_small (by decide) (by decide) (by decide)
    · exact ⟨by omega, u⟩
  obtain ⟨z, uz, ez⟩ := vd_mk asc S (by show 2 ≤ 3000; decide) (t := t) (by simp) h
  have e2 : gU (n + 1) z = .tuple [.int 64, d] := by
    rw [ez]
    show PyData.tuple [gU n 64, gU n t] = _
    rw [gU_plain (by decide), e]
  refine ⟨z, uz, e2, ?_⟩
  have np := (vd_tuple uz e2).1
  have z0 : ¬ z < 0 := fun h => by
    have := (neg_odd uz e2).mpr h
    exact absurd (show 2 % 2 = 1 from this) (by decide)
  refine Classical.byContradiction fun c => np ⟨by omega, by omega⟩
theorem no_step {n : Nat} {d : PyData} (h : Vd (n + 1) (.tuple [.int 64, d])) : Vd n d := by
  obtain ⟨z, _, ez, hS⟩ := vd_entries h
  have dm : d ∈ (Tl z).map (gU n) := by rw [← ez]; simp
  obtain ⟨t, ht, rfl⟩ := List.mem_map.mp dm
  exact ⟨t, (hS t ht).2, rfl⟩
/-- towers of the law -/
def tallD : Nat → PyData
  | 0 => .int 70
  | n + 1 => .tuple [.int 64, tallD n]
theorem tall_vd : ∀ n : Nat, ∃ t, UU 3000 n t ∧ gU n t = tallD n ∧ 64 < t
  | 0 => ⟨70, (show plain 70 by decide), rfl, by decide⟩
  | n + 1 => by
    obtain ⟨t, u, e, h⟩ := tall_vd n
    exact tall_step u e h
theorem tall_no : ∀ n : Nat, ¬ Vd n (tallD (n + 1))
  | 0 => fun ⟨z, _, e⟩ => by cases e
  | n + 1 => fun h => tall_no n (no_step h)
theorem tall_sz : ∀ n m : Nat, n ≤ m → sz m (tallD n) = 2 * (n : Int) + 1
  | 0, m, _ => sz_int m 70
  | n + 1, m + 1, h => by
    show sz (m + 1) (.tuple [.int 64, tallD n]) = _
    rw [sz_tup]
    show 1 + (sz m (.int 64) + (sz m (tallD n) + 0)) = _
    rw [sz_int, tall_sz n m (by omega)]
    omega
/-- the wide one -/
def wideT (k : Nat) : List Int := (List.range k).map fun (i : Nat) => 100 + (i : Int)
theorem wideT_len (k : Nat) : (wideT k).length = k := by unfold wideT; rw [List.length_map, List.length_range]
theorem wideT_asc (k : Nat) : (wideT k).Pairwise (· < ·) := by
  unfold wideT
  rw [List.pairwise_map]
  exact List.pairwise_lt_range.imp fun h => by omega
theorem wideT_mem {k : Nat} {t : Int} (h : t ∈ wideT k) : 100 ≤ t ∧ t < 100 + (k : Int) := by
  obtain ⟨i, hi, rfl⟩ := List.mem_map.mp h
  have := List.mem_range.mp hi
  omega
theorem wideT_succ (k : Nat) : wideT (k + 1) = wideT k ++ [100 + (k : Int)] := by unfold wideT; rw [List.range_succ, List.map_append]; rfl
theorem wideT_take {j k : Nat} (h : j ≤ k) : (wideT k).take j = wideT j := by unfold wideT; rw [← List.map_take, List.take_range, Nat.min_eq_left h]
theorem sum_ones : ∀ (n : Nat) (l : List Int), ((l.map PyData.int).map (sz n)).sum = (l.length : Int)
  | _, [] => rfl
  | n, a :: l => by
    rw [List.map_cons, List.map_cons, List.sum_cons, sz_int, sum_ones n l, List.length_cons]
    omega
theorem wide_su {n k : Nat} (h : k ≤ 3000) : ∀ t ∈ wideT k, SU 3000 n t := fun t ht => su_small (by decide) (by have := wideT_mem ht; omega) (by have := wideT_mem ht; omega)
theorem wide_gU {n k : Nat} (h : k ≤ 3000) : (wideT k).map (gU n) = (wideT k).map PyData.int := List.map_congr_left fun t ht => gU_plain ⟨by have := wideT_mem ht; omega, by have := wideT_mem ht; omega⟩
theorem wide_vd {k : Nat} (h0 : 1 ≤ k) (h : k ≤ 3000) : Vd 1 (.tuple ((wideT k).map PyData.int)) := by
  rw [← wide_gU (n := 0) h]
  exact vd_mk (wideT_asc k) (wide_su h) (by rw [wideT_len]; exact h) (t := 100) (List.mem_map.mpr ⟨0, List.mem_range.mpr (by omega), rfl⟩) (by decide)
theorem wide_snd {k : Nat} (h0 : 1 ≤ k) (h : k ≤ 3000) : (0 < sndD 6 2000 (.tuple ((wideT k).map PyData.int))) ↔ (k : Int) + 1 ≤ 2000 := by
  have s : sz 6 (.tuple ((wideT k).map PyData.int)) = 1 + (k : Int) := by rw [sz_tup, sum_ones, wideT_len]
  by_cases c : (k : Int) + 1 ≤ 2000
  · rw [snd_tup1 ⟨vd_up (wide_vd h0 h) (by decide), by rw [s]; omega⟩, s]
    omega
  · rw [snd_tup0 (fun g => c (by have := g.2; rw [s] at this; omega))]
    omega
theorem near_two {j : Nat} (h : j ≤ 1000) : 0 < sndD 6 2000 (.tuple ((wideT j).map PyData.int ++ [.tuple [.int 70, .int 71]])) := by
  have e70 : ∃ t, UU 3000 1 t ∧ gU 1 t = .tuple [.int 70, .int 71] ∧ 2000 < t := by
    refine ⟨2 ^ 70, ?_, ?_, by decide⟩
    · refine ⟨by decide +kernel, fun t ht => ?_⟩
      have : Tl (2 ^ 70) = [70, 71] := by decide +kernel
      rw [this] at ht
      simp at ht
      rcases ht with rfl | rfl <;> (show plain _) <;> decide
    · have : Tl (2 ^ 70) = [70, 71] := by decide +kernel
      show rowD ((Tl (2 ^ 70)).map PyData.int) = _
      rw [this]
      rfl
  obtain ⟨t, u, e, ht⟩ := e70
  have hv : Vd 2 (.tuple ((wideT j).map PyData.int ++ [.tuple [.int 70, .int 71]])) := by
    rw [← wide_gU (n := 1) (k := j) (by omega), ← e]
    have : (wideT j).map (gU 1) ++ [gU 1 t] = (wideT j ++ [t]).map (gU 1) := by rw [List.map_append]; rfl
    rw [this]
    refine vd_mk ?_ (fun s hs => ?_) (by rw [List.length_append, wideT_len]; simp; omega) (t := t) (by simp) (by omega)
    · rw [List.pairwise_append]
      refine ⟨wideT_asc j, List.pairwise_singleton _ _, fun a ha b hb => ?_⟩
      rw [List.mem_singleton.mp hb]
      have := wideT_mem ha
      omega
    · rcases List.mem_append.mp hs with g | g
      · exact wide_su (by omega) s g
      · rw [List.mem_singleton.mp g]
        exact ⟨by omega, u⟩
  have s : sz 6 (.tuple ((wideT j).map PyData.int ++ [.tuple [.int 70, .int 71]])) = 1 + ((j : Int) + 3) := by
    rw [sz_tup, List.map_append, List.sum_append, sum_ones, wideT_len]
    show 1 + ((j : Int) + (sz 5 (.tuple [.int 70, .int 71]) + 0)) = _
    rw [sz_tup]
    show 1 + ((j : Int) + (1 + (sz 4 (.int 70) + (sz 4 (.int 71) + 0)) + 0)) = _
    rw [sz_int, sz_int]
    omega
  rw [snd_tup1 ⟨vd_up hv (by decide), by rw [s]; omega⟩, s]
  omega
theorem tall_snd : 0 < sndD 6 2000 (tallD 6) := by
  obtain ⟨t, u, e, _⟩ := tall_vd 6
  have := snd_vd (vd_snd (n := 6) (P := 2000) ⟨t, u, e⟩ (by rw [tall_sz 6 6 (by decide)]; decide))
  rw [this.2, tall_sz 6 6 (by decide)]
  decide
theorem taller_snd : ¬ 0 < sndD 6 2000 (tallD 7) := by
  show ¬ 0 < sndD 6 2000 (.tuple [.int 64, tallD 6])
  rw [snd_tup0 (fun g => tall_no 6 g.1)]
  decide
/-- a sum of two tuples -/
def rCatQ (K : PySem.W.Frag) : R2 := fun x y H Q => ∃ a b xs ys, x = .ref a ∧ y = .ref b ∧ SqT K H a xs ∧ SqT K H b ys ∧ xs.length + ys.length ≤ sizeLine ∧ ∀ p H', Same H H' → SqT K H' p (xs ++ ys) → Q (.ref p) H'
theorem op_catQ {X : Cx} (K : PySem.W.Frag) (hK : X.K = K := by rfl) : OpR X (binaryOp .Add) (rCatQ K) := by
  subst hK
  intro pins s σ H x y v u Q I rx ry ⟨a, b, xs, ys, ex, ey, h1, h2, hl, q⟩
  refine op_catA pins s σ H x y v u Q I rx ry ⟨a, b, xs, ys, ex, ey, h1, h2, hl, fun e => ?_, fun _ e => ?_, fun _ _ p np => q p _ (Same.new np) (SqT.of upd_same)⟩
  · subst e
    exact q b H (Same.refl _) h2
  · subst e
    exact q a H (Same.refl _) (by rw [List.append_nil]; exact h1)
theorem cut_to0 {xs : List V} {k : Nat} (h : k ≤ xs.length) : cutV xs none (some (k : Int)) = xs.take k := by
  unfold cutV
  rw [show HT.sIx xs.length 0 none = 0 from rfl, List.drop_zero, HT.sIx_nat, Nat.min_eq_left h, Nat.sub_zero]
end Fb
namespace Fb
open PySem L2
theorem sm_int {n : Nat} {i : Int} : Sm n (.int i) := by cases n <;> trivial
theorem sm_wide {n k : Nat} (h : k ≤ 3000) : Sm n (.tuple ((wideT k).map PyData.int)) := by
  cases n with
  | zero => trivial
  | succ m =>
    refine ⟨by rw [List.length_map, wideT_len]; exact h, fun e he => ?_⟩
    obtain ⟨t, _, rfl⟩ := List.mem_map.mp he
    exact sm_int
theorem sm_tall : ∀ (n m : Nat), Sm m (tallD n)
  | 0, m => sm_int
  | n + 1, 0 => trivial
  | n + 1, m + 1 => ⟨by show 2 ≤ 3000; decide, fun e he => by
    simp at he
    rcases he with rfl | rfl
    · exact sm_int
    · exact sm_tall n m⟩
section
variable {P : Program} {w : World} {K : PySem.W.Frag} {mg : Str → Option Value} {base : Heap} {f : Addr} {fd : FuncData}
abbrev S__law_limits : Stmt := top 33
abbrev N__law_limits : List Str := ["_law_tape", "_law_size_here", "_law_k", "_law_wide", "_law_tall"]
abbrev P__law_limits : List Str := ["_law_tape"]
theorem sc__law_limits : FnScope N__law_limits P__law_limits (defScope S__law_limits) := ⟨rfl, rfl, rfl, by decide +kernel, rfl, by decide +kernel, by decide +kernel⟩
/-- a thing, and whether it is a form -/
def Pair (K : PySem.W.Frag) (H : Hp) (x : V) : Prop := ∃ (a : Addr) (v : V) (d : PyData) (b : Bool), x = .ref a ∧ SqT K H a [v, .bl b] ∧ Dq K H v d ∧ Sm 6 d ∧ b = decide (0 < sndD 6 2000 d)
def spLim (K : PySem.W.Frag) : Sp := fun vs H Q _ => ∃ (τ : Tp) (n : Nat), vs = [.ref τ.t] ∧ Tape K τ (n + 2) H ∧ ∀ (l : Addr) (xs : List V) (H' : Hp), Ndt τ.t H H' → Tape K τ n H' → H' l = some (.lst xs) → (∀ x ∈ xs, Pair K H' x) → Q (.ref l) H'
theorem ok_limits (F : Fun K "_law_limits" "_law_limits" S__law_limits f fd) (B : Blt mg) (C_law_draw : Has P w K mg base 1 "_law_draw" P__law_draw [] (spDrawT K)) : FnOk P w K mg base CX0 2 f fd P__law_limits (spLim K) := by
  have nd := sc__law_limits.nd
  refine F.ok sc__law_limits (fun vs H Q E h => ?_) (fun cdv A outer s H vs Q E hr h => ?_)
  · obtain ⟨τ, n, rfl, _⟩ := h
    rfl
  obtain ⟨τ, n, rfl, T, q⟩ := h
  refine ⟨_, (pss_cons (ps_set (i := 1) nd rfl (Or.inl rfl) (pe_op op_add pe_int (pe_H C_law_draw (hr.mono (by decide)) rfl (pa_cons (pv 0) (pa_cons pe_int pa_nil)))))
    (C8.pss_cut (ps_set (i := 3) nd rfl (Or.inl rfl) (pe_callTy call_tupL (by rfl) B.tuple (by decide +kernel) (pa_cons (pe_lc (own := [("_law_k", 2)]) (g := gName 2) (tt := tYes) rfl nd (pi_range1 (by rfl) B.range (pa_cons (pe_op op_sub (pv 1) pe_int) pa_nil)) (blkOk_by (own := [("_law_k", 2)]) (N := N__law_limits) (sc := defScope S__law_limits) (by decide +kernel)) (fun _ _ _ _ _ => pg_name (i := 2) nd rfl (Or.inl rfl)) (fun _ _ _ _ _ => pts_nil) (fun _ _ _ _ _ => (pe_op op_add pe_int (pv 2)))) pa_nil)))
    (C8.pss_cut (ps_set (i := 4) nd rfl (Or.inl rfl) pe_int)
    (C8.pss_cut (ps_for PassesOwn.never rfl (pi_range1 (by rfl) B.range (pa_cons pe_int pa_nil)) (pg_name (i := 2) nd rfl (Or.inl rfl)) (pss_one (ps_set (i := 4) nd rfl (Or.inl rfl) (pe_ifExp (pt_cmpR op_gt (pv 2) pe_int (nomark _)) (pe_tup (pa_cons pe_int (pa_cons (pv 4) pa_nil))) (pe_tup (pa_cons pe_int (pa_cons pe_int pa_nil)))))))
    (pss_one (ps_ret (pe_lst (pa_cons (pe_tup (pa_cons (pv 3) (pa_cons (pe_cmpR op_le (pv 1) pe_int (nomark _)) pa_nil))) (pa_cons (pe_tup (pa_cons (pe_op (op_catQ K) (pe_slice sl_tupD (pv 3) po_none (po_some (pe_H C_law_draw (hr.mono (by decide)) rfl (pa_cons (pv 0) (pa_cons pe_int pa_nil))))) (pe_tup (pa_cons (pe_tup (pa_cons pe_int (pa_cons pe_int pa_nil))) pa_nil))) (pa_cons pe_bl pa_nil))) (pa_cons (pe_tup (pa_cons (pv 4) (pa_cons pe_bl pa_nil))) (pa_cons (pe_tup (pa_cons (pe_tup (pa_cons pe_int (pa_cons (pv 4) pa_nil))) (pa_cons pe_bl pa_nil))) pa_nil))))))))))), ?_⟩
  refine ⟨_, rfl, τ, _, n + 1, rfl, T, by decide, lt_BigL (by decide), fun d H1 e1 T1 d0 d1 => ?_⟩
  obtain ⟨dn, rfl⟩ := Int.eq_ofNat_of_zero_le d0
  refine ⟨_, _, rfl, rfl, ?_⟩
  obtain ⟨k, hk⟩ : ∃ k, k = 1989 + dn := ⟨_, rfl⟩
  have k3 : 1989 ≤ k ∧ k ≤ 2008 := by omega
  have es : (1990 : Int) + (dn : Int) = (k : Int) + 1 := by omega
  clear hk d0 d1
  obtain ⟨z1, hz1⟩ : ∃ z1 : Int, z1 = 1990 + (dn : Int) := ⟨_, rfl⟩
  rw [← hz1] at es
  refine ⟨fun σ H' => ∃ (z2 : Option V) (p1 : Addr), σ = [some (.ref τ.t), some (.int (1990 + (dn : Int))), z2, some (.ref p1), none] ∧ Same H1 H' ∧ SqT K H' p1 ((wideT k).map V.int), ?_, ?_⟩
  · refine ⟨_, rfl, _, _, rfl, rfl, _, rfl, (by omega), (by omega), fun D nD => ?_⟩
    refine lc_range (lo := 0) (n := (1990 + (dn : Int) - 1).toNat) (fun i H' => Same H1 H' ∧ H' D = some (.lst ((wideT i).map V.int))) ⟨Same.new nD, upd_same⟩ (fun i H' hi h => ?_) (fun H3 h => ?_)
    · obtain ⟨e, hD⟩ := h
      refine ⟨rfl, lcT ?_⟩
      refine ⟨_, rfl, _, _, rfl, rfl, _, hD, ?_, Same.mut e nD, ?_⟩
      · rw [List.length_map, wideT_len]
        exact Nat.lt_of_lt_of_le (show i < 3000 by omega) (by decide)
      · rw [upd_same, wideT_succ, List.map_append]
        show some (HO.lst (_ ++ [V.int (100 + (0 + (i : Int)))])) = some (HO.lst (_ ++ [V.int (100 + (i : Int))]))
        rw [Int.zero_add]
    · obtain ⟨e3, hD⟩ := h
      rw [show (1990 + (dn : Int) - 1).toNat = k by omega] at hD
      refine ⟨_, _, rfl, SqL.of hD, fun p1 np1 => ?_⟩
      exact ⟨_, p1, rfl, e3.trans (Same.new np1), SqT.of upd_same⟩
  rintro σ H2 ⟨z2, p1, rfl, e2, hw⟩
  rw [← hz1]
  refine ⟨fun σ H' => σ = [some (.ref τ.t), some (.int z1), z2, some (.ref p1), some (.int 70)] ∧ H' = H2, ⟨rfl, rfl⟩, ?_⟩
  rintro σ H2' ⟨rfl, rfl⟩
  refine ⟨fun σ H' => ∃ (z2 : Option V) (vt : V), σ = [some (.ref τ.t), some (.int z1), z2, some (.ref p1), some vt] ∧ Same H2' H' ∧ Dq K H' vt (tallD 6), ?_, ?_⟩
  · refine ⟨_, rfl, (by omega), (by omega), ?_⟩
    refine for_range (lo := 0) (n := 6) (fun i σ H' => ∃ (z2 : Option V) (vt : V), σ = [some (.ref τ.t), some (.int z1), z2, some (.ref p1), some vt] ∧ Same H2' H' ∧ Dq K H' vt (tallD i))
      ⟨_, .int 70, rfl, Same.refl _, .int 70⟩ (fun i σ H' hi h => ?_) (fun σ H' h => h)
    obtain ⟨z2, vt, rfl, e, dt⟩ := h
    refine ⟨_, rfl, _, _, rfl, rfl, _, rfl, ?_⟩
    refine iteD (fun c => ?_) (fun c => ?_)
    · refine ⟨_, rfl, (by show 2 ≤ sizeLine; decide), fun p np => ?_⟩
      have s := Same.new (o := .tup [.int 64, vt]) np
      exact ⟨_, .ref p, rfl, e.trans s, .tup (SqT.of upd_same) (.cons (.int 64) (.cons (dt.same s) .nil))⟩
    · obtain rfl : i = 0 := by omega
      refine ⟨(by show 2 ≤ sizeLine; decide), fun p np => ?_⟩
      have s := Same.new (o := .tup [.int 64, .int 70]) np
      exact ⟨_, .ref p, rfl, e.trans s, .tup (SqT.of upd_same) (.cons (.int 64) (.cons (.int 70) .nil))⟩
  rintro σ H3 ⟨z2', vt, rfl, e3, dt⟩
  have T3 := (T1.same e2).same e3
  have hw3 := (Nd.of e3).sqt hw
  have n3 : Ndt τ.t H H3 := e1.trans (Ndt.of (e2.trans e3))
  clear e1 e2 e3 hw T T1 H1 H2'
  refine ⟨_, rfl, _, rfl, _, _, rfl, rfl, (by show 2 ≤ sizeLine; decide), fun p4 np4 => ?_⟩
  have s4 := Same.new (o := .tup [.ref p1, .bl (decide (z1 ≤ 2000))]) np4
  refine ⟨_, rfl, _, rfl, τ, _, n, rfl, T3.new np4, by decide, lt_BigL (by decide), fun j0 H5 e5 T5 j0' j1 => ?_⟩
  obtain ⟨j, rfl⟩ := Int.eq_ofNat_of_zero_le j0'
  have n5 := n3.trans ((Ndt.of s4).trans e5)
  have w5 : SqT K H5 p1 ((wideT k).map V.int) := (e5.nd (T3.new np4)).sqt ((Nd.of s4).sqt hw3)
  have t5 : Dq K H5 vt (tallD 6) := (dt.same s4).ndt e5 (T3.new np4)
  have h4 : SqT K H5 p4 [.ref p1, .bl (decide (z1 ≤ 2000))] := (e5.nd (T3.new np4)).sqt (SqT.of upd_same)
  clear s4 e5 T3 hw3 dt n3 np4
  have jk : j ≤ ((wideT k).map V.int).length := by rw [List.length_map, wideT_len]; omega
  have ct : cutV ((wideT k).map V.int) none (some (j : Int)) = (wideT j).map V.int := by rw [cut_to0 jk, ← List.map_take, wideT_take (by omega)]
  refine ⟨_, rfl, p1, _, rfl, w5, fun p5 H6 e6 h5 => ?_⟩
  rw [ct] at h5
  refine ⟨(by show 2 ≤ sizeLine; decide), fun p6 np6 => ?_⟩
  have s6 := Same.new (o := .tup [.int 70, .int 71]) np6
  refine ⟨(by show 1 ≤ sizeLine; decide), fun p7 np7 => ?_⟩
  have s7 := Same.new (o := .tup [.ref p6]) np7
  refine ⟨p5, p7, _, _, rfl, rfl, (Nd.of (s6.trans s7)).sqt h5, SqT.of upd_same, ?_, fun p8 H8 e8 h8 => ?_⟩
  · rw [List.length_map, wideT_len]
    exact Nat.le_trans (show _ ≤ 2000 by simp; omega) (by decide)
  have s58 := e6.trans (s6.trans (s7.trans e8))
  have h6 : SqT K H8 p6 [.int 70, .int 71] := (Nd.of (s7.trans e8)).sqt (SqT.of upd_same)
  replace w5 := (Nd.of s58).sqt w5
  replace t5 := t5.same s58
  replace h4 := (Nd.of s58).sqt h4
  replace T5 := T5.same s58
  replace n5 := n5.trans (Ndt.of s58)
  clear s58 s6 s7 e6 e8 h5 np6 np7
  refine ⟨(by show 2 ≤ sizeLine; decide), fun p9 np9 => ?_⟩
  have s9 := Same.new (o := .tup [.ref p8, .bl true]) np9
  refine ⟨_, rfl, (by show 2 ≤ sizeLine; decide), fun p10 np10 => ?_⟩
  have s10 := Same.new (o := .tup [vt, .bl true]) np10
  refine ⟨_, rfl, (by show 2 ≤ sizeLine; decide), fun p11 np11 => ?_⟩
  have s11 := Same.new (o := .tup [.int 64, vt]) np11
  refine ⟨(by show 2 ≤ sizeLine; decide), fun p12 np12 => ?_⟩
  have s12 := Same.new (o := .tup [.ref p11, .bl false]) np12
  refine ⟨(by show 4 ≤ sizeLine; decide), fun p13 np13 => ?_⟩
  have s13 := Same.new (o := .lst [.ref p4, .ref p9, .ref p10, .ref p12]) np13
  have a := s9.trans (s10.trans (s11.trans (s12.trans s13)))
  refine q p13 _ _ (n5.trans (Ndt.of a)) (T5.same a) upd_same fun x hx => ?_
  have itsD : ∀ (H : Hp) (l : List Int), DqAll K H (l.map V.int) (l.map PyData.int) := fun H l => DqAll.of (dps_ints l)
  have appD : ∀ (H : Hp) (vs ws : List V) (ds es : List PyData), DqAll K H vs ds → DqAll K H ws es → DqAll K H (vs ++ ws) (ds ++ es) := by
    intro H vs ws ds
    induction ds generalizing vs with
    | nil => intro es h1 h2; cases h1; exact h2
    | cons d ds ih => intro es h1 h2; cases h1 with | cons a b => exact .cons a (ih _ es b h2)
  simp only [List.mem_cons, List.not_mem_nil, or_false] at hx
  rcases hx with rfl | rfl | rfl | rfl
  · refine ⟨p4, .ref p1, .tuple ((wideT k).map PyData.int), _, rfl, (Nd.of a).sqt h4, .tup ((Nd.of a).sqt w5) (itsD _ _), sm_wide (by omega), ?_⟩
    refine decide_eq_decide.mpr ?_
    rw [wide_snd (by omega) (by omega), es]
  · refine ⟨p9, .ref p8, .tuple ((wideT j).map PyData.int ++ [.tuple [.int 70, .int 71]]), true, rfl, (Nd.of (s10.trans (s11.trans (s12.trans s13)))).sqt (SqT.of upd_same), .tup ((Nd.of a).sqt h8) (appD _ _ _ _ _ (itsD _ _) (.cons (.tup ((Nd.of a).sqt h6) (.cons (.int 70) (.cons (.int 71) .nil))) .nil)), ?_, (decide_eq_true (near_two (by omega))).symm⟩
    refine ⟨by rw [List.length_append, List.length_map, wideT_len]; simp; omega, fun e he => ?_⟩
    rcases List.mem_append.mp he with g | g
    · obtain ⟨t, _, rfl⟩ := List.mem_map.mp g
      exact sm_int
    · rw [List.mem_singleton.mp g]
      refine ⟨by show 2 ≤ 3000; decide, fun e he => ?_⟩
      simp at he
      rcases he with rfl | rfl <;> exact sm_int
  · exact ⟨p10, vt, tallD 6, true, rfl, (Nd.of (s11.trans (s12.trans s13))).sqt (SqT.of upd_same), t5.same a, sm_tall 6 6, (decide_eq_true tall_snd).symm⟩
  · refine ⟨p12, .ref p11, tallD 7, false, rfl, (Nd.of s13).sqt (SqT.of upd_same), .tup ((Nd.of (s12.trans s13)).sqt (SqT.of upd_same)) (.cons (.int 64) (.cons (t5.same a) .nil)), sm_tall 7 6, (decide_eq_false taller_snd).symm⟩
end
end Fb
namespace Fb
open PySem L2 PySem.Spec PyProof.Rows
/-! ### how long a datum is when shown, a dict be within or not -/
/-- entries of forms: neither list nor dict -/
structure Fq (k w : Nat) (d : PyData) : Prop where
  s : Sw k w d
  n : NoL d
  m : ∀ i, Sm i d
/-- a datum with one odd thing at most within -/
structure Oq (k w : Nat) (d : PyData) : Prop where
  a : d.showable = true
  c : d.hasDict = false ∨ NoL d
  e : d.depth ≤ k
  l : d.shown.length ≤ w
  m : ∀ i, Sm i d
theorem Fq.oq {k w : Nat} {d : PyData} (h : Fq k w d) : Oq k w d := ⟨h.s.a, .inl h.s.c, h.s.e, h.s.l, h.m⟩
theorem Oq.mono {k w k' w' : Nat} {d : PyData} (h : Oq k w d) (hk : k ≤ k') (hw : w ≤ w') : Oq k' w' d := ⟨h.a, h.c, Nat.le_trans h.e hk, Nat.le_trans h.l hw, h.m⟩
theorem Oq.shq {k w : Nat} {d : PyData} (h : Oq k w d) (hk : k ≤ 40) (hw : w ≤ 16777216) : Shq d := ⟨h.a, h.c, Nat.le_trans h.e hk, Nat.le_trans h.l hw⟩
/-- rows of data, all but one of them forms -/
structure Lq (k w : Nat) (ds : List PyData) : Prop where
  a : PyData.showableAll ds = true
  c : PyData.hasDictAll ds = false ∨ NoLs ds
  e : PyData.depthAll ds ≤ k
  l : piled (PyData.shownAll ds) ≤ w
  m : ∀ i, ∀ d ∈ ds, Sm i d
theorem Lq.tup {k w : Nat} {ds : List PyData} (h : Lq k w ds) (hl : ds.length ≤ 3000) : Oq (k + 1) (w + 2) (.tuple ds) := by
  refine ⟨?_, ?_, ?_, ?_, fun i => ?_⟩
  · rw [PyData.showable]; exact h.a
  · rcases h.c with c | c
    · left; rw [PyData.hasDict]; exact c
    · exact .inr (.tup c)
  · rw [PyData.depth]; have := h.e; omega
  · rw [PyData.shown]
    have := fmt_text (PyData.shownAll ds)
    have := h.l
    omega
  · cases i with
    | zero => trivial
    | succ i => exact ⟨hl, h.m i⟩
theorem noLs_app {ds es : List PyData} (h : NoLs ds) (h2 : NoLs es) : NoLs (ds ++ es) := by
  induction ds with
  | nil => exact h2
  | cons d ds ih => cases h with | cons a b => exact .cons a (ih b)
theorem all_app : ∀ (ds es : List PyData), PyData.showableAll (ds ++ es) = (PyData.showableAll ds && PyData.showableAll es) ∧ PyData.hasDictAll (ds ++ es) = (PyData.hasDictAll ds || PyData.hasDictAll es) ∧ PyData.depthAll (ds ++ es) = max (PyData.depthAll ds) (PyData.depthAll es) ∧ PyData.shownAll (ds ++ es) = PyData.shownAll ds ++ PyData.shownAll es
  | [], es => ⟨rfl, rfl, by rw [List.nil_append, PyData.depthAll]; omega, rfl⟩
  | d :: ds, es => by
    obtain ⟨h1, h2, h3, h4⟩ := all_app ds es
    refine ⟨?_, ?_, ?_, ?_⟩
    · rw [List.cons_append, PyData.showableAll, PyData.showableAll, h1, Bool.and_assoc]
    · rw [List.cons_append, PyData.hasDictAll, PyData.hasDictAll, h2, Bool.or_assoc]
    · rw [List.cons_append, PyData.depthAll, PyData.depthAll, h3]; omega
    · rw [List.cons_append, PyData.shownAll, PyData.shownAll, h4]; rfl
/-- rows of forms alone -/
structure Fl0 (k w : Nat) (ds : List PyData) : Prop where
  s : Lw k w ds
  n : NoLs ds
  m : ∀ i, ∀ d ∈ ds, Sm i d
theorem Fl0.lq {k w : Nat} {ds : List PyData} (h : Fl0 k w ds) : Lq k w ds := ⟨h.s.a, .inl h.s.c, h.s.e, h.s.l, h.m⟩
theorem fl_nil (k : Nat) : Fl0 k 0 [] := ⟨lw_nil k, .nil, fun _ _ h => by cases h⟩
theorem fl_cons {k b w : Nat} {d : PyData} {ds : List PyData} (h : Fq k b d) (hs : Fl0 k w ds) : Fl0 k (b + 2 + w) (d :: ds) := ⟨lw_cons h.s hs.s, .cons h.n hs.n, fun i x hx => by
  rcases List.mem_cons.mp hx with rfl | hx
  · exact h.m i
  · exact hs.m i x hx⟩
/-- forms before, one odd datum, forms behind -/
theorem lq_mid {k a b c : Nat} {ds es : List PyData} {d : PyData} (h1 : Fl0 k a ds) (h : Oq k b d) (h2 : Fl0 k c es) : Lq k (a + (b + 2) + c) (ds ++ d :: es) := by
  obtain ⟨e1, e2, e3, e4⟩ := all_app ds (d :: es)
  refine ⟨?_, ?_, ?_, ?_, fun i x hx => ?_⟩
  · rw [e1, PyData.showableAll, h1.s.a, h.a, h2.s.a]; rfl
  · rcases h.c with c | c
    · left; rw [e2, PyData.hasDictAll, h1.s.c, c, h2.s.c]; rfl
    · exact .inr (noLs_app h1.n (.cons c h2.n))
  · rw [e3, PyData.depthAll]
    have := h1.s.e
    have := h.e
    have := h2.s.e
    omega
  · rw [e4, PyData.shownAll, piled_append, piled_cons]
    have := h1.s.l
    have := h.l
    have := h2.s.l
    omega
  · rcases List.mem_append.mp hx with g | g
    · exact h1.m i x g
    · rcases List.mem_cons.mp g with rfl | g
      · exact h.m i
      · exact h2.m i x g
theorem shownT_le (ds : List PyData) : piled (PyData.shownAll ds) ≤ (PyData.tuple ds).shown.length := by
  rw [PyData.shown]
  exact piled_le_tupleText (PyData.shownAll ds)
/-- a tuple of forms, cut at one of its entries -/
theorem fq_split {k w : Nat} {A B : List PyData} {e : PyData} (h : Fq (k + 1) w (.tuple (A ++ e :: B))) : ∃ a b c, Fl0 k a A ∧ Fq k b e ∧ Fl0 k c B ∧ a + (b + 2) + c ≤ w := by
  obtain ⟨s, n, m⟩ := h
  obtain ⟨sa, sc, se, sl⟩ := s
  have p := shownT_le (A ++ e :: B)
  rw [PyData.showable] at sa
  rw [PyData.hasDict] at sc
  rw [PyData.depth] at se
  obtain ⟨e1, e2, e3, e4⟩ := all_app A (e :: B)
  rw [e1, PyData.showableAll, Bool.and_eq_true, Bool.and_eq_true] at sa
  rw [e2, PyData.hasDictAll, Bool.or_eq_false_iff, Bool.or_eq_false_iff] at sc
  rw [e3, PyData.depthAll] at se
  rw [e4, PyData.shownAll, piled_append, piled_cons] at p
  have nn : ∀ (A B : List PyData) (e : PyData), NoLs (A ++ e :: B) → NoLs A ∧ NoL e ∧ NoLs B := by
    intro A B e
    induction A with
    | nil => intro h; cases h with | cons a b => exact ⟨.nil, a, b⟩
    | cons d A ih => intro h; cases h with | cons a b => obtain ⟨x, y, z⟩ := ih b; exact ⟨.cons a x, y, z⟩
  cases n with
  | tup n =>
    obtain ⟨n1, n2, n3⟩ := nn A B e n
    have mm : ∀ i, ∀ d ∈ A ++ e :: B, Sm i d := fun i => (m (i + 1)).2
    refine ⟨piled (PyData.shownAll A), e.shown.length, piled (PyData.shownAll B), ⟨⟨sa.1, sc.1, by omega, Nat.le_refl _⟩, n1, fun i d hd => mm i d (List.mem_append_left _ hd)⟩, ⟨⟨sa.2.1, sc.2.1, by omega, Nat.le_refl _⟩, n2, fun i => mm i e (by simp)⟩, ⟨⟨sa.2.2, sc.2.2, by omega, Nat.le_refl _⟩, n3, fun i d hd => mm i d (by simp [hd])⟩, by omega⟩
theorem fl_app {k a c : Nat} {ds es : List PyData} (h1 : Fl0 k a ds) (h2 : Fl0 k c es) : Fl0 k (a + c) (ds ++ es) := ⟨lw_app h1.s h2.s, noLs_app h1.n h2.n, fun i x hx => by
  rcases List.mem_append.mp hx with g | g
  · exact h1.m i x g
  · exact h2.m i x g⟩
theorem fl_rev {k : Nat} : ∀ {ds : List PyData} {a : Nat}, Fl0 k a ds → Fl0 k a ds.reverse
  | [], a, h => h
  | d :: ds, a, h => by
    obtain ⟨⟨sa, sc, se, sl⟩, n, m⟩ := h
    rw [PyData.showableAll, Bool.and_eq_true] at sa
    rw [PyData.hasDictAll, Bool.or_eq_false_iff] at sc
    rw [PyData.depthAll] at se
    rw [PyData.shownAll, piled_cons] at sl
    cases n with
    | cons n1 n2 =>
      have r := fl_rev (k := k) (ds := ds) (a := piled (PyData.shownAll ds)) ⟨⟨sa.2, sc.2, by omega, Nat.le_refl _⟩, n2, fun i x hx => m i x (List.mem_cons_of_mem _ hx)⟩
      have q := fl_app r (fl_cons (d := d) (b := d.shown.length) ⟨⟨sa.1, sc.1, by omega, Nat.le_refl _⟩, n1, fun i => m i d List.mem_cons_self⟩ (fl_nil k))
      rw [List.reverse_cons]
      exact ⟨q.s.mono (Nat.le_refl _) (by omega), q.n, q.m⟩
theorem fq_int {i : Int} (h : i.natAbs < 10 ^ 20) : Fq 0 21 (.int i) := ⟨sw_int h, .int i, fun j => by cases j <;> trivial⟩
theorem Fq.mono {k w k' w' : Nat} {d : PyData} (h : Fq k w d) (hk : k ≤ k') (hw : w ≤ w') : Fq k' w' d := ⟨h.s.mono hk hw, h.n, h.m⟩
theorem Fl0.tup {k w : Nat} {ds : List PyData} (h : Fl0 k w ds) (hl : ds.length ≤ 3000) : Fq (k + 1) (w + 2) (.tuple ds) := ⟨h.s.tup, .tup h.n, fun i => by
  cases i with
  | zero => trivial
  | succ i => exact ⟨hl, h.m i⟩⟩
end Fb
/-! t[::-1], t a tuple -/
namespace HT
open PySem PyProof.Rows
section
variable {prog : Program} {w : World} {A : Around} {E : Value → Shared → Prop} {s : Shared}
theorem adjust_back (n : Nat) : Builtin.Slice.sliceAdjust none none (-1) (n : Int) = ((n : Int) - 1, -1) := by
  unfold Builtin.Slice.sliceAdjust
  rfl
theorem places_back (n : Nat) : Builtin.Slice.slicePlaces ((n : Int) - 1) (-1) (-1) = n := by
  unfold Builtin.Slice.slicePlaces
  rw [if_neg (by decide)]
  split
  · rw [show -(-1 : Int) = 1 from rfl, Int.ediv_one]
    omega
  · omega
theorem sliceApplied_back {sl : Addr} {vl vu vs : Value} {n : Nat} {Q : Int × Int × Nat → Shared → Prop} (hs : s.heap.IsSliceOf sl vl vu vs) (pl : IsPart vl none) (pu : IsPart vu none) (ps : IsPart vs (some (-1)))
    (h : Q ((n : Int) - 1, -1, n) s) : wpAny (model prog w) A (Builtin.Slice.sliceApplied (.ref sl) (pure (n : Int))) Q E s := by
  obtain ⟨os, hos, hcs, hds⟩ := id hs
  unfold Builtin.Slice.sliceApplied Builtin.Slice.sliceFields
  refine wpAny_bind (wpAny_bind (wpAny_field hos hds (x := vl) rfl (wpAny_bind (wpAny_field hos hds (x := vu) rfl (wpAny_bind (wpAny_field hos hds (x := vs) rfl (wpAny_pure ?_)))))))
  refine wpAny_bind (slicePart_ ps ?_)
  show wpAny _ _ (if ((-1 : Int) == 0) = true then _ else _) _ _ s
  rw [if_neg (by decide)]
  refine wpAny_bind (slicePart_ pl (wpAny_bind (slicePart_ pu (wpAny_bind (wpAny_pure ?_)))))
  show wpAny _ _ (match Builtin.Slice.sliceAdjust none none (-1) (n : Int) with | (lo, hi) => pure (lo, (-1 : Int), Builtin.Slice.slicePlaces lo hi (-1))) _ _ s
  rw [adjust_back]
  show wpAny _ _ (pure ((n : Int) - 1, (-1 : Int), Builtin.Slice.slicePlaces ((n : Int) - 1) (-1) (-1))) _ _ s
  rw [places_back]
  exact wpAny_pure h
theorem fm_range {α : Type} (l : List α) (f : Nat → Option α) (h : ∀ m, m < l.length → f m = l[m]?) : ∀ k, k ≤ l.length → (List.range k).filterMap f = l.take k
  | 0, _ => by rw [List.take_zero]; rfl
  | k + 1, hk => by
    rw [List.range_succ, List.filterMap_append, fm_range l f h k (by omega), List.take_add_one]
    congr 1
    have e := h k (by omega)
    rw [List.getElem?_eq_getElem (by omega)] at e ⊢
    simp only [List.filterMap_cons, List.filterMap_nil, e]
    rfl
theorem pick_back (items : Array Value) : ((List.range items.size).filterMap fun (m : Nat) => items[((items.size : Int) - 1 + (m : Int) * (-1)).toNat]?) = items.toList.reverse := by
  have l : items.toList.reverse.length = items.size := by rw [List.length_reverse, Array.length_toList]
  have := fm_range items.toList.reverse (fun (m : Nat) => items[((items.size : Int) - 1 + (m : Int) * (-1)).toNat]?) (fun m hm => by
    rw [l] at hm
    rw [List.getElem?_reverse (by rw [Array.length_toList]; exact hm), Array.getElem?_toList, Array.length_toList]
    show items[((items.size : Int) - 1 + (m : Int) * (-1)).toNat]? = _
    congr 1
    omega) items.size (by omega)
  rw [this, ← l, List.take_length]
theorem getItem_tuple_back {t sl : Addr} {items : Array Value} {vl vu vs : Value} {Q : Value → Shared → Prop} (ht : IsTup s.heap t items) (hs : s.heap.IsSliceOf sl vl vu vs) (pl : IsPart vl none) (pu : IsPart vu none) (ps : IsPart vs (some (-1)))
    (h : Q (.ref s.heap.objs.size) { s with heap := s.heap.push { cls := .type "tuple", data := .seq items.toList.reverse.toArray } })
    (hsz : items.size ≤ sizeLine) : wpAny (model prog w) A (getItem (.ref t) (.ref sl)) Q E s := by
  have htake : sizeOk (.seq items.toList.reverse.toArray) := by
    show items.toList.reverse.toArray.size ≤ sizeLine
    rw [List.size_toArray, List.length_reverse, Array.length_toList]
    exact hsz
  obtain ⟨os, hos, hcs, hds⟩ := id hs
  have hTs : s.TypeIs (.ref sl) "slice" := ⟨os, hos, hcs⟩
  unfold getItem
  try with_reducible refine wpAny_holding ?_
  first | refine wpAny_bind (wpAny_pure ?_) | skip
  refine wpAny_bind (wpAny_sequenceKey ht.typeIs (by decide) ?_)
  refine wpAny_bind (wpAny_callSpecial?_slot (name := Str.ofString "__getitem__") ht.typeIs PyProof.Rows.slot_tuple_getitem
    (wpAny_call_entry PyProof.Rows.slot_tuple_getitem ht.typeIs entry_tuple_getitem ?_ (args_tuple_getitem _ _)))
  show wpAny _ _ (Builtin.Tuple.tupleItemsOf (.ref t) >>= _) _ _ s
  refine wpAny_bind (tupleItemsOf_ ht ?_)
  refine wpAny_bind (wpAny_typeOf hTs ?_)
  rw [if_pos (by decide)]
  refine wpAny_bind (sliceApplied_back hs pl pu ps ?_)
  show wpAny _ _ (if ((((items.size : Int) - 1) == 0 && (-1 : Int) == 1 && items.size == items.size) = true) then _ else _) _ _ s
  rw [if_neg (by simp), pick_back]
  first
    | exact wpAny_bind (m := Builtin.Tuple.tupleExact _) (wpAny_newObj_type (wpAny_pure ⟨_, rfl, wpAny_pure h⟩) htake)
    | exact wpAny_bind (m := Builtin.Tuple.tupleExact _) (wpAny_newObj_type (wpAny_bind (wpAny_pure (wpAny_pure ⟨_, rfl, wpAny_pure h⟩))) htake)
    | exact wpAny_bind (wpAny_bind (m := Builtin.Tuple.tupleExact _) (wpAny_newObj_type (wpAny_pure (wpAny_pure ⟨_, rfl, wpAny_pure h⟩)) htake))
    | exact wpAny_bind (wpAny_bind (m := Builtin.Tuple.tupleExact _) (wpAny_newObj_type (wpAny_pure ⟨_, rfl, wpAny_pure h⟩) htake))
end
end HT
namespace Fb
open PySem L2 PySem.Spec PyProof.Rows
/-- t[::-1]: a new tuple -/
def tRevT (K : PySem.W.Frag) (te : TE) : TE := fun σ H Q => te σ H fun x H1 => ∃ a xs, x = .ref a ∧ SqT K H1 a xs ∧ ∀ p, H1 p = none → Q (.ref p) (upd H1 p (.tup xs.reverse))
theorem pe_revT {X : Cx} (K : PySem.W.Frag) {e : Expr} {te : TE} {k : Nat} {p1 p2 p3 pos : Pos} (he : PE X e te) (hK : X.K = K := by rfl) : PE X (.Subscript e (.Slice none none (some (.UnaryOp .USub (.Constant (.int 1) k p1) p2)) p3) pos) (tRevT K te) := by
  subst hK
  refine ⟨fun pins s σ H Q I h => ?_⟩
  refine Subscript_ (thn (he.run pins s σ H _ I h) fun v s1 ⟨x, H1, I1, r1, q1⟩ => ?_)
  obtain ⟨a, xs, ex, hx, q⟩ := q1
  subst ex
  cases r1
  have hst : PO X (some (.UnaryOp .USub (.Constant (.int 1) k p1) p2)) (tPart (tUn (rU fun i => .int (-i)) (tC (.int 1)))) := po_some (pe_un un_neg pe_int)
  refine wpAny_Slice (thn (po_none.run pins s1 σ H1 (fun o H2 => o = none ∧ H2 = H1) I1 ⟨rfl, rfl⟩) fun vl s2 ⟨l, H2, I2, pl, el, e2⟩ => ?_)
  subst el e2
  refine thn (po_none.run pins s2 σ H2 (fun o H3 => o = none ∧ H3 = H2) I2 ⟨rfl, rfl⟩) fun vu s3 ⟨u, H3, I3, pu, eu, e3⟩ => ?_
  subst eu e3
  refine thn (hst.run pins s3 σ H3 (fun o H4 => o = some (-1) ∧ H4 = H3) I3 ⟨1, rfl, -1, rfl, rfl, rfl⟩) fun vs s4 ⟨o, H4, I4, ps, eo, e4⟩ => ?_
  subst eo e4
  have I5 : Inv X pins σ H4 { s4 with heap := s4.heap.push { cls := .type "slice", data := .fields #[vl, vu, vs] } } := I4.kept (t' := s4.toks) fun b ob q => Heap.get?_push_of_some _ q
  obtain ⟨its, r, ht, hz⟩ := I5.tuple hx
  show wpAny (model X.prog X.w) X.A (subscriptTail e (.Slice none none (some (.UnaryOp .USub (.Constant (.int 1) k p1) p2)) p3) (.ref a) (.ref s4.heap.objs.size)) (EP X pins σ Q) X.xe { s4 with heap := s4.heap.push { cls := .type "slice", data := .fields #[vl, vu, vs] } }
  refine tail_any (ops := [.ref a, .ref s4.heap.objs.size]) ht.typeIs (PyProof.Rows.slot_tuple_getitem.lookup) ?_ (by with_unfolding_all rfl)
  refine HT.getItem_tuple_back ht (Heap.IsSliceOf.new _ vl vu vs) pl pu ps ?_ (by rw [List.size_toArray]; have := r.length; omega)
  refine ⟨.ref _, _, I5.laid (t' := s4.toks) (o := .tup xs.reverse) (fun b ob q => Heap.get?_push_of_some _ q) (Nat.le_refl _) ?_, rfl, q _ (I5.hok.fresh (Nat.le_refl _))⟩
  exact ⟨by rw [List.length_reverse]; exact hz, _, r.reverse, _, Heap.get?_push_size _ rfl, rfl, 0, rfl⟩
end Fb
namespace Fb
open PySem L2 PySem.Spec PyProof.Rows
/-- what is asked of anything that is picked -/
def Odd (K : PySem.W.Frag) (H : Hp) (k w : Nat) (x : V) : Prop := ∃ e, Dq K H x e ∧ Oq k w e
theorem fmt_textL (ds : List PyData) : (PyData.list ds).shown.length ≤ piled (PyData.shownAll ds) + 2 := by
  rw [PyData.shown_list]
  have e1 : ((("[" : String) : Str)).length = 1 := rfl
  have e2 : ((("]" : String) : Str)).length = 1 := rfl
  rw [strLen_append, strLen_append, e1, e2]
  by_cases h : PyData.shownAll ds = []
  · rw [h]
    decide +kernel
  · have := join_length_add _ h
    omega
theorem new_at {H H' : Hp} {p : Addr} {o : HO} (np : H p = none) (e : upd H p o = H') : Same H H' ∧ H' p = some o := by
  subst e
  exact ⟨Same.new np, upd_same⟩
theorem Lq.lst {k w : Nat} {ds : List PyData} (h : Lq k w ds) (hc : PyData.hasDictAll ds = false) : Oq (k + 1) (w + 2) (.list ds) := by
  refine ⟨?_, ?_, ?_, ?_, fun i => ?_⟩
  · rw [PyData.showable]; exact h.a
  · left; rw [PyData.hasDict]; exact hc
  · rw [PyData.depth]; have := h.e; omega
  · rw [PyData.shown]
    have := fmt_textL ds
    rw [PyData.shown] at this
    have := h.l
    omega
  · cases i <;> trivial
theorem oq_int {k w : Nat} {i : Int} (h : i.natAbs < 10 ^ 20) (hw : 21 ≤ w) : Oq k w (.int i) := (fq_int h).oq.mono (Nat.zero_le _) hw
theorem oq_ints {k w : Nat} {l : List Int} (h : ∀ i ∈ l, i.natAbs < 10 ^ 20) (hl : l.length ≤ 4) (hk : 1 ≤ k) (hw : 94 ≤ w) : Oq k w (.tuple (l.map PyData.int)) ∧ Oq k w (.list (l.map PyData.int)) := by
  have key : ∀ l : List Int, (∀ i ∈ l, i.natAbs < 10 ^ 20) → Fl0 0 (l.length * 23) (l.map PyData.int) := by
    intro l
    induction l with
    | nil => exact fun _ => fl_nil 0
    | cons i l ih =>
      intro h
      have := fl_cons (fq_int (h i List.mem_cons_self)) (ih fun j hj => h j (List.mem_cons_of_mem _ hj))
      refine ⟨this.s.mono (Nat.le_refl _) ?_, this.n, this.m⟩
      rw [List.length_cons]
      omega
  have f := key l h
  refine ⟨(f.tup (by rw [List.length_map]; omega)).oq.mono (by omega) (by omega), (f.lq.lst f.s.c).mono (by omega) (by omega)⟩
theorem Fl0.mono {k k' a : Nat} {ds : List PyData} (h : Fl0 k a ds) (hk : k ≤ k') : Fl0 k' a ds := ⟨h.s.mono hk (Nat.le_refl _), h.n, h.m⟩
theorem dqs_intl {K : PySem.W.Frag} {H : Hp} (l : List Int) : DqAll K H (l.map V.int) (l.map PyData.int) := DqAll.of (dps_ints l)
theorem dqs_take {K : PySem.W.Frag} {H : Hp} : ∀ {vs : List V} {ds : List PyData} (i : Nat), DqAll K H vs ds → DqAll K H (vs.take i) (ds.take i)
  | _, _, 0, _ => by rw [List.take_zero, List.take_zero]; exact .nil
  | [], ds, i + 1, h => by cases h; exact .nil
  | v :: vs, ds, i + 1, h => by cases h with | cons a b => exact .cons a (dqs_take i b)
theorem dqs_drop {K : PySem.W.Frag} {H : Hp} : ∀ {vs : List V} {ds : List PyData} (i : Nat), DqAll K H vs ds → DqAll K H (vs.drop i) (ds.drop i)
  | _, _, 0, h => h
  | [], ds, i + 1, h => by cases h; exact .nil
  | v :: vs, ds, i + 1, h => by cases h with | cons a b => exact dqs_drop i b
theorem dqs_app {K : PySem.W.Frag} {H : Hp} : ∀ {vs ws : List V} {ds es : List PyData}, DqAll K H vs ds → DqAll K H ws es → DqAll K H (vs ++ ws) (ds ++ es)
  | [], _, ds, _, h, h2 => by cases h; exact h2
  | v :: vs, _, ds, _, h, h2 => by cases h with | cons a b => exact .cons a (dqs_app b h2)
theorem dqs_rev {K : PySem.W.Frag} {H : Hp} : ∀ {vs : List V} {ds : List PyData}, DqAll K H vs ds → DqAll K H vs.reverse ds.reverse
  | [], ds, h => by cases h; exact .nil
  | v :: vs, ds, h => by
    cases h with
    | cons a b =>
      rw [List.reverse_cons, List.reverse_cons]
      exact dqs_app (dqs_rev b) (.cons a .nil)
theorem new_at2 {H H' : Hp} {p : Addr} {o o' : HO} (np : H p = none) (e : upd (upd H p o) p o' = H') : Same H H' ∧ H' p = some o' := by
  subst e
  refine ⟨fun a u h => ?_, upd_same⟩
  have n : a ≠ p := fun c => by subst c; rw [np] at h; cases h
  rw [upd_ne n, upd_ne n]
  exact h
theorem odd_list {K : PySem.W.Frag} {H : Hp} {n w : Nat} {v : V} {d : PyData} {a : Addr} (h : Dq K H v d) (f : Fq n w d) (s : H a = some (.lst [v])) : Odd K H (n + 2) (2 * w + 200) (.ref a) := by
  have g := fl_cons f (fl_nil n)
  exact ⟨.list [d], .lst (SqL.of s) (.cons h .nil), (g.lq.lst g.s.c).mono (by omega) (by omega)⟩
theorem odd_tup {K : PySem.W.Frag} {H : Hp} {n w : Nat} {v : V} {d : PyData} {a : Addr} (h : Dq K H v d) (f : Fq n w d) (s : H a = some (.tup [v])) : Odd K H (n + 2) (2 * w + 200) (.ref a) :=
  ⟨.tuple [d], .tup (SqT.of s) (.cons h .nil), ((fl_cons f (fl_nil n)).tup (by show 1 ≤ 3000; decide)).oq.mono (by omega) (by omega)⟩
theorem odd_two {K : PySem.W.Frag} {H : Hp} {n w : Nat} {v : V} {d : PyData} {a : Addr} (h : Dq K H v d) (f : Fq n w d) (s : H a = some (.tup [v, v])) : Odd K H (n + 2) (2 * w + 200) (.ref a) :=
  ⟨.tuple [d, d], .tup (SqT.of s) (.cons h (.cons h .nil)), ((fl_cons f (fl_cons f (fl_nil n))).tup (by show 2 ≤ 3000; decide)).oq.mono (by omega) (by omega)⟩
theorem odd_int {K : PySem.W.Frag} {H : Hp} {n w : Nat} (i : Int) (h : i.natAbs < 10 ^ 20) : Odd K H (n + 2) (2 * w + 200) (.int i) := ⟨.int i, .int i, oq_int h (by omega)⟩
theorem odd_ints {K : PySem.W.Frag} {H : Hp} {n w : Nat} {a : Addr} (l : List Int) (s : H a = some (.tup (l.map V.int))) (h : ∀ i ∈ l, i.natAbs < 10 ^ 20) (hl : l.length ≤ 4) : Odd K H (n + 2) (2 * w + 200) (.ref a) :=
  ⟨.tuple (l.map PyData.int), .tup (SqT.of s) (dqs_intl l), (oq_ints h hl (by omega) (by omega)).1⟩
theorem odd_intl {K : PySem.W.Frag} {H : Hp} {n w : Nat} {a : Addr} (l : List Int) (s : H a = some (.lst (l.map V.int))) (h : ∀ i ∈ l, i.natAbs < 10 ^ 20) (hl : l.length ≤ 4) : Odd K H (n + 2) (2 * w + 200) (.ref a) :=
  ⟨.list (l.map PyData.int), .lst (SqL.of s) (dqs_intl l), (oq_ints h hl (by omega) (by omega)).2⟩
theorem odd_atom {K : PySem.W.Frag} {H : Hp} {n w : Nat} {x : V} {d : PyData} (h : Dq K H x d) (a : d.showable = true) (c : d.hasDict = false ∨ NoL d) (e : d.depth ≤ 2) (l : d.shown.length ≤ 200) (m : ∀ i, Sm i d) : Odd K H (n + 2) (2 * w + 200) x := ⟨d, h, a, c, Nat.le_trans e (by omega), Nat.le_trans l (by omega), m⟩
theorem odd_form {K : PySem.W.Frag} {H : Hp} {n w : Nat} {v : V} {d : PyData} (h : Dq K H v d) (f : Fq n w d) : Odd K H (n + 2) (2 * w + 200) v := ⟨d, h, f.oq.mono (by omega) (by omega)⟩
theorem fork {G : Hp → Prop} {C : Hp → Prop} {A : Prop} (main : (∀ H1, C H1 → G H1) → A) (pk : ∀ H1, C H1 → G H1) : A := main pk
section
variable {P : Program} {w : World} {K : PySem.W.Frag} {mg : Str → Option Value} {base : Heap} {f : Addr} {fd : FuncData}
abbrev S__law_otherwise : Stmt := top 32
abbrev N__law_otherwise : List Str := ["_law_tape", "_law_form_here", "_law_deep", "_law_some", "_law_at", "_law_way"]
abbrev P__law_otherwise : List Str := ["_law_tape", "_law_form_here", "_law_deep"]
theorem sc__law_otherwise : FnScope N__law_otherwise P__law_otherwise (defScope S__law_otherwise) := ⟨rfl, rfl, rfl, by decide +kernel, rfl, by decide +kernel, by decide +kernel⟩
def spOth (K : PySem.W.Frag) (n : Nat) : Sp := fun vs H Q _ => ∃ (τ : Tp) (v : V) (z deep : Int) (w N : Nat), vs = [.ref τ.t, v, .int deep] ∧ Dp K H v (gU n z) ∧ UU 2990 n z ∧ Fq n w (gU n z) ∧ Tape K τ (N + 5 * (n + 1)) H ∧
  ∀ (x : V) (e : PyData) (H' : Hp), Ndt τ.t H H' → Tape K τ N H' → Dq K H' x e → Oq (n + 2) (2 * w + 200) e → Q x H'
theorem ok_oth {n k : Nat} (k2 : 2 ≤ k) {spR : Sp} (hR : ∀ m, n = m + 1 → ∀ vs H Q E, spOth K m vs H Q E → spR vs H Q E) (F : Fun K "_law_otherwise" "_law_otherwise" S__law_otherwise f fd) (B : Blt mg) (C_law_draw : Has P w K mg base 1 "_law_draw" P__law_draw [] (spDrawT K)) (C_law_pick : Has P w K mg base 2 "_law_pick" P__law_pick [] (spPickT K)) (C_law_otherwise : Has P w K mg base k "_law_otherwise" P__law_otherwise [] spR) : FnOk P w K mg base CX0 (k + 1) f fd P__law_otherwise (spOth K n) := by
  have nd := sc__law_otherwise.nd
  refine F.ok sc__law_otherwise (fun vs H Q E h => ?_) (fun cdv A outer s H vs Q E hr h => ?_)
  · obtain ⟨τ, v, z, deep, w, N, rfl, _⟩ := h
    rfl
  obtain ⟨τ, v, z, deep, w, N, rfl, hd, hu, fq, T, q⟩ := h
  refine ⟨_, (C8.pss_cut (ps_if (PW.pt (pw_or (pt_val (pe_callB (call_isqI K) (by rfl) B.isinstance (by decide +kernel) (pa_cons (pv 1) (pa_cons (pe_bltn (by rfl) B.int (by decide +kernel) (show RelV (.ty "int") (.type "int") from rfl)) pa_nil)))) (pw_or1 (PW.pt (pw_and (pt_cmpR op_gt (pv 2) pe_int (nomark _)) (pw_and1 (pt_cmpR op_eq (pe_H C_law_draw (hr.mono (by omega)) rfl (pa_cons (pv 0) (pa_cons pe_int pa_nil))) pe_int (nomark _)))))))) (pss_cons (ps_set (i := 3) nd rfl (Or.inl rfl) (pe_lst (pa_cons pe_bl (pa_cons pe_bl (pa_cons pe_non (pa_cons pe_str (pa_cons (pe_lst (pa_cons pe_int (pa_cons pe_int pa_nil))) (pa_cons (pe_un un_neg pe_int) (pa_cons (pe_op op_pow pe_int pe_int) (pa_cons (pe_op op_sub (pe_op op_pow pe_int pe_int) pe_int) (pa_cons (pe_op op_sub (pe_un un_neg (pe_op op_pow pe_int pe_int)) pe_int) (pa_cons (pe_tup pa_nil) (pa_cons (pe_tup (pa_cons pe_int (pa_cons pe_int pa_nil))) (pa_cons (pe_tup (pa_cons pe_int (pa_cons pe_int pa_nil))) (pa_cons pe_int (pa_cons (pe_tup (pa_cons pe_int pa_nil)) pa_nil))))))))))))))))
    (pss_one (ps_ret (pe_H C_law_pick (hr.mono (by omega)) rfl (pa_cons (pv 0) (pa_cons (pe_op op_cat (pv 3) (pe_lst (pa_cons (pv 1) (pa_cons (pe_lst (pa_cons (pv 1) pa_nil)) (pa_cons (pe_tup (pa_cons (pv 1) pa_nil)) (pa_cons (pe_tup (pa_cons (pv 1) (pa_cons (pv 1) pa_nil))) (pa_cons (pe_disp (pps_cons pe_int pe_int pps_nil) (by rfl) (by rfl) (fun z => by cases z) (by decide)) (pa_cons pe_int (pa_cons pe_int (pa_cons (pe_tup (pa_cons pe_int (pa_cons pe_int (pa_cons pe_int pa_nil)))) (pa_cons (pe_tup (pa_cons pe_int (pa_cons pe_int (pa_cons pe_int (pa_cons pe_int pa_nil))))) pa_nil))))))))))) pa_nil)))))) pss_nil)
    (pss_cons (ps_par (i := 4) (j := 5) (by rfl) nd rfl rfl (by decide) rfl rfl (pa_cons (pe_H C_law_draw (hr.mono (by omega)) rfl (pa_cons (pv 0) (pa_cons (pe_callB call_lenT (by rfl) B.len PySem.boot_len (pa_cons (pv 1) pa_nil)) pa_nil))) (pa_cons (pe_H C_law_draw (hr.mono (by omega)) rfl (pa_cons (pv 0) (pa_cons pe_int pa_nil))) pa_nil)) (by rfl))
    (pss_cons (ps_if (pt_cmpR op_lt (pv 5) pe_int (nomark _)) (pss_one (ps_ret (pe_op (op_catQ K) (pe_op (op_catQ K) (pe_slice sl_tupD (pv 1) po_none (po_some (pv 4))) (pe_tup (pa_cons (pe_H C_law_otherwise (hr.mono (by omega)) rfl (pa_cons (pv 0) (pa_cons (pe_ix ix_tup (pv 1) (pv 4) (fun _ _ => rfl)) (pa_cons (pe_op op_add (pv 2) pe_int) pa_nil)))) pa_nil))) (pe_slice sl_tupD (pv 1) (po_some (pe_op op_add (pv 4) pe_int)) po_none)))) pss_nil)
    (pss_cons (ps_if (pt_cmpR op_eq (pv 5) pe_int (nomark _)) (pss_one (ps_ret (pe_op (op_catQ K) (pe_slice sl_tupD (pv 1) po_none (po_some (pv 4))) (pe_slice sl_tupD (pv 1) (po_some (pe_op op_add (pv 4) pe_int)) po_none)))) pss_nil)
    (pss_cons (ps_if (pt_cmpR op_eq (pv 5) pe_int (nomark _)) (pss_one (ps_ret (pe_op (op_catQ K) (pe_op (op_catQ K) (pe_slice sl_tupD (pv 1) po_none (po_some (pv 4))) (pe_tup (pa_cons (pe_ix ix_tup (pv 1) (pv 4) (fun _ _ => rfl)) pa_nil))) (pe_slice sl_tupD (pv 1) (po_some (pv 4)) po_none)))) pss_nil)
    (pss_one (ps_ret (pe_H C_law_pick (hr.mono (by omega)) rfl (pa_cons (pv 0) (pa_cons (pe_lst (pa_cons (pe_callTy call_list_of (by rfl) B.list (by decide +kernel) (pa_cons (pv 1) pa_nil)) (pa_cons (pe_revT K (pv 1)) (pa_cons (pe_op (op_catQ K) (pv 1) (pe_tup (pa_cons pe_int pa_nil))) (pa_cons (pe_op (op_catQ K) (pe_slice sl_tupD (pv 1) po_none (po_some (pv 4))) (pe_revT K (pe_slice sl_tupD (pv 1) (po_some (pv 4)) po_none))) pa_nil))))) pa_nil)))))))))), ?_⟩
  have kd : isI (gU n z) = decide (plain z) := by
    cases n with
    | zero => rw [decide_eq_true (show plain z from hu)]; rfl
    | succ m =>
      rcases tl_data (uu_wide (by decide) hu) with ⟨p, e, _⟩ | ⟨np, e⟩
      · rw [e, decide_eq_true p]; rfl
      · rw [e, decide_eq_false np]; rfl
  refine ⟨fun σ H' => σ = [some (.ref τ.t), some v, some (.int deep), none, none, none] ∧ Ndt τ.t H H' ∧ Tape K τ (N + 5 * n + 3) H' ∧ ¬ plain z, ?_, ?_⟩
  · have nx : ∀ H', Ndt τ.t H H' → Tape K τ (N + 5 * n + 3) H' → ¬ plain z → ([some (.ref τ.t), some v, some (.int deep), none, none, none] : L2.St) = [some (.ref τ.t), some v, some (.int deep), none, none, none] ∧ Ndt τ.t H H' ∧ Tape K τ (N + 5 * n + 3) H' ∧ ¬ plain z := fun H' a b c => ⟨rfl, a, b, c⟩
    generalize hD : (L2.Ends.mk _ _ _ _ : L2.Ends) = D
    have hrt : D.rt = Q := by rw [← hD]
    have hnx : ∀ H', Ndt τ.t H H' → Tape K τ (N + 5 * n + 3) H' → ¬ plain z → D.nx [some (.ref τ.t), some v, some (.int deep), none, none, none] H' := by rw [← hD]; exact nx
    clear hD nx
    apply fork (C := fun H1 => Ndt τ.t H H1 ∧ Tape K τ (N + 1) H1)
    intro pick
    refine ⟨_, rfl, v, _, rfl, .of hd, _, rfl, ?_⟩
    rw [kd]
    refine iteD (fun p => ?_) (fun p => ?_)
    · refine iteT ?_
      exact pick H ⟨Ndt.refl, T.mono (by omega)⟩
    · refine ⟨_, rfl, _, _, rfl, rfl, _, rfl, ?_⟩
      refine iteD (fun c => ?_) (fun c => ?_)
      · refine ⟨_, rfl, τ, _, N + 5 * n + 3, rfl, T.mono (by omega), by decide, lt_BigL (by decide), fun d0 H1 e1 T1 d00 d01 => ?_⟩
        refine ⟨rfl, _, rfl, ?_⟩
        refine iteD (fun c => ?_) (fun c => ?_)
        · exact pick H1 ⟨e1, T1.mono (by omega)⟩
        · exact hnx H1 e1 T1 p
      · exact hnx H Ndt.refl (T.mono (by omega)) p
    rintro H1 ⟨e1, T1⟩
    have hv1 : Dq K H1 v (gU n z) := (Dq.of hd).ndt e1 T
    refine ⟨(by show 2 ≤ sizeLine; decide), fun p1 np1 => ?_⟩
    generalize x1 : upd H1 p1 _ = H2
    obtain ⟨s1, h1⟩ := new_at np1 x1
    refine ⟨_, rfl, _, _, rfl, rfl, (by unfold CPow; decide), _, _, rfl, rfl, (by unfold CPow; decide), _, _, rfl, rfl, _, _, rfl, rfl, (by unfold CPow; decide), _, rfl, _, _, rfl, rfl, (by show 0 ≤ sizeLine; decide), fun p2 np2 => ?_⟩
    generalize x2 : upd H2 p2 _ = H3
    obtain ⟨s2, h2⟩ := new_at np2 x2
    refine ⟨(by show 2 ≤ sizeLine; decide), fun p3 np3 => ?_⟩
    generalize x3 : upd H3 p3 _ = H4
    obtain ⟨s3, h3⟩ := new_at np3 x3
    refine ⟨(by show 2 ≤ sizeLine; decide), fun p4 np4 => ?_⟩
    generalize x4 : upd H4 p4 _ = H5
    obtain ⟨s4, h4⟩ := new_at np4 x4
    refine ⟨(by show 1 ≤ sizeLine; decide), fun p5 np5 => ?_⟩
    generalize x5 : upd H5 p5 _ = H6
    obtain ⟨s5, h5⟩ := new_at np5 x5
    refine ⟨(by show 14 ≤ sizeLine; decide), fun p6 np6 => ?_⟩
    generalize x6 : upd H6 p6 _ = H7
    obtain ⟨s6, h6⟩ := new_at np6 x6
    refine ⟨_, rfl, _, rfl, _, rfl, _, rfl, (by show 1 ≤ sizeLine; decide), fun p7 np7 => ?_⟩
    generalize x7 : upd H7 p7 _ = H8
    obtain ⟨s7, h7⟩ := new_at np7 x7
    refine ⟨_, rfl, (by show 1 ≤ sizeLine; decide), fun p8 np8 => ?_⟩
    generalize x8 : upd H8 p8 _ = H9
    obtain ⟨s8, h8⟩ := new_at np8 x8
    refine ⟨_, rfl, _, rfl, (by show 2 ≤ sizeLine; decide), fun p9 np9 => ?_⟩
    generalize x9 : upd H9 p9 _ = H10
    obtain ⟨s9, h9⟩ := new_at np9 x9
    refine fun p10 np10 => ?_
    refine ⟨upd_same, [(Sum.inl 64, .int 65)], rfl, (by decide), ?_⟩
    refine ⟨(by show 3 ≤ sizeLine; decide), fun p11 np11 => ?_⟩
    generalize x10 : upd (upd H10 p10 _) p10 _ = H11 at np11 ⊢
    obtain ⟨s10, h10⟩ := new_at2 np10 x10
    generalize x11 : upd H11 p11 _ = H12
    obtain ⟨s11, h11⟩ := new_at np11 x11
    refine ⟨(by show 4 ≤ sizeLine; decide), fun p12 np12 => ?_⟩
    generalize x12 : upd H12 p12 _ = H13
    obtain ⟨s12, h12⟩ := new_at np12 x12
    refine ⟨(by show 9 ≤ sizeLine; decide), fun p13 np13 => ?_⟩
    generalize x13 : upd H13 p13 _ = H14
    obtain ⟨s13, h13⟩ := new_at np13 x13
    refine ⟨_, _, _, _, rfl, rfl, (s7.trans (s8.trans (s9.trans (s10.trans (s11.trans (s12.trans s13)))))) _ _ h6, h13, (by show 14 + 9 ≤ sizeLine; decide), fun p14 np14 => ?_⟩
    generalize x14 : upd H14 p14 _ = H15
    obtain ⟨s14, h14⟩ := new_at np14 x14
    have a7 := s8.trans (s9.trans (s10.trans (s11.trans (s12.trans (s13.trans s14)))))
    have a5 := s6.trans (s7.trans a7)
    have a1 := s2.trans (s3.trans (s4.trans (s5.trans a5)))
    have al := s1.trans a1
    refine ⟨τ, p14, _, N, rfl, SqL.of h14, (by simp), (by simp), T1.same al, fun x i H' e' T' hx => ?_⟩
    have hv : Dq K H15 v (gU n z) := hv1.same al
    have odd : Odd K H15 (n + 2) (2 * w + 200) x := by
      have hm := List.mem_of_getElem? hx
      simp only [List.cons_append, List.nil_append, List.mem_cons, List.not_mem_nil, or_false] at hm
      rcases hm with rfl | rfl | rfl | rfl | rfl | rfl | rfl | rfl | rfl | rfl | rfl | rfl | rfl | rfl | rfl | rfl | rfl | rfl | rfl | rfl | rfl | rfl | rfl
      · exact odd_atom (.bl true) rfl (.inl rfl) (Nat.zero_le _) (by decide +kernel) (fun i => by cases i <;> trivial)
      · exact odd_atom (.bl false) rfl (.inl rfl) (Nat.zero_le _) (by decide +kernel) (fun i => by cases i <;> trivial)
      · exact odd_atom .non rfl (.inl rfl) (Nat.zero_le _) (by decide +kernel) (fun i => by cases i <;> trivial)
      · exact odd_atom (.str _) rfl (.inl rfl) (Nat.zero_le _) (by decide +kernel) (fun i => by cases i <;> trivial)
      · exact odd_intl [64, 65] (a1 _ _ h1) (by decide) (by decide)
      · exact odd_int _ (by decide)
      · exact odd_int _ (by decide +kernel)
      · exact odd_int _ (by decide +kernel)
      · exact odd_int _ (by decide +kernel)
      · exact odd_ints [] ((s3.trans (s4.trans (s5.trans a5))) _ _ h2) (by decide) (by decide)
      · exact odd_ints [0, 64] ((s4.trans (s5.trans a5)) _ _ h3) (by decide) (by decide)
      · exact odd_ints [64, 66] ((s5.trans a5) _ _ h4) (by decide) (by decide)
      · exact odd_int _ (by decide)
      · exact odd_ints [70] (a5 _ _ h5) (by decide) (by decide)
      · exact odd_form hv fq
      · exact odd_list hv fq (a7 _ _ h7)
      · exact odd_tup hv fq ((s9.trans (s10.trans (s11.trans (s12.trans (s13.trans s14))))) _ _ h8)
      · exact odd_two hv fq ((s10.trans (s11.trans (s12.trans (s13.trans s14)))) _ _ h9)
      · exact odd_atom (.dic ((s11.trans (s12.trans (s13.trans s14))) _ _ h10)) rfl (.inr .dic) (by decide +kernel) (by decide +kernel) (fun i => by cases i <;> trivial)
      · exact odd_int _ (by decide)
      · exact odd_int _ (by decide)
      · exact odd_ints [64, 65, 67] ((s12.trans (s13.trans s14)) _ _ h11) (by decide) (by decide)
      · exact odd_ints [0, 1, 64, 65] ((s13.trans s14) _ _ h12) (by decide) (by decide)
    obtain ⟨e, h1, h2⟩ := odd
    rw [hrt]
    exact q _ _ _ (e1.trans ((Ndt.of al).trans e')) T' (h1.ndt e' (T1.same al)) h2
  rintro σ H1 ⟨rfl, e1, T1, np⟩
  obtain ⟨m, rfl⟩ : ∃ m, n = m + 1 := by
    cases n with
    | zero => exact absurd (show plain z from hu) np
    | succ m => exact ⟨m, rfl⟩
  have eg : gU (m + 1) z = .tuple ((Tl z).map (gU m)) := by
    rcases tl_data (uu_wide (by decide) hu) with ⟨p, _⟩ | ⟨_, e⟩
    · exact absurd p np
    · exact e
  have hd1 : Dq K H1 v (gU (m + 1) z) := (Dq.of hd).ndt e1 T
  rw [eg] at hd1 fq
  generalize hds : (Tl z).map (gU m) = ds at hd1 fq
  have len : ds.length ≤ 2990 := by rw [← hds, List.length_map]; exact hu.1
  have pos : 0 < ds.length := by
    rw [← hds, List.length_map]
    refine List.length_pos_iff.mpr fun h => np (tl_near.mpr fun c hc => ?_)
    rw [h] at hc
    cases hc
  obtain ⟨a, xs, rfl, hS, ha⟩ : ∃ a xs, v = .ref a ∧ SqT K H1 a xs ∧ DqAll K H1 xs ds := by
    cases hd1 with
    | tup s a => exact ⟨_, _, rfl, s, a⟩
  have hl : xs.length = ds.length := dqs_length ha
  clear kd
  refine ⟨_, rfl, _, rfl, a, xs, rfl, hS, τ, _, N + 5 * (m + 1) + 2, rfl, T1, (by omega), lt_BigL (by omega), fun i0 H2 e2 T2 i00 i01 => ?_⟩
  obtain ⟨i, rfl⟩ := Int.eq_ofNat_of_zero_le i00
  have hi : i < ds.length := by omega
  refine ⟨_, rfl, τ, _, N + 5 * (m + 1) + 1, rfl, T2, by decide, lt_BigL (by decide), fun y H3 e3 T3 y0 y1 => ?_⟩
  have hS3 : SqT K H3 a xs := (e3.nd T2).sqt ((e2.nd T1).sqt hS)
  have ha3 : DqAll K H3 xs ds := DqAll.ndt e3 T2 (DqAll.ndt e2 T1 ha)
  have n3 : Ndt τ.t H H3 := e1.trans (e2.trans e3)
  have ht : (Tl z)[i]? = some ((Tl z)[i]'(by rw [← hds, List.length_map] at hi; exact hi)) := List.getElem?_eq_getElem _
  generalize (Tl z)[i]'_ = t at ht
  have het : ds[i]? = some (gU m t) := by rw [← hds, List.getElem?_map, ht]; rfl
  have st : UU 2990 m t := hu.2 t (List.mem_of_getElem? ht)
  have sp : ds = ds.take i ++ gU m t :: ds.drop (i + 1) := by
    rw [List.getElem?_eq_getElem hi] at het
    injection het with het
    rw [← het, ← List.drop_eq_getElem_cons hi, List.take_append_drop]
  have sp2 : ds.drop i = gU m t :: ds.drop (i + 1) := by
    rw [List.getElem?_eq_getElem hi] at het
    injection het with het
    rw [← het, List.drop_eq_getElem_cons hi]
  obtain ⟨wa, wb, wc, fA, fe, fB, hw⟩ : ∃ a b c, Fl0 m a (ds.take i) ∧ Fq m b (gU m t) ∧ Fl0 m c (ds.drop (i + 1)) ∧ a + (b + 2) + c ≤ w := fq_split (by rw [← sp]; exact fq)
  have fD : Fl0 m (wb + 2 + wc) (ds.drop i) := by rw [sp2]; exact fl_cons fe fB
  have fW : Fl0 m (wa + (wb + 2 + wc)) ds := by
    have := fl_app fA fD
    rw [List.take_append_drop] at this
    exact this
  have lA : (ds.take i).length = i := by rw [List.length_take]; omega
  have lB : (ds.drop (i + 1)).length = ds.length - (i + 1) := by rw [List.length_drop]
  have lD : (ds.drop i).length = ds.length - i := by rw [List.length_drop]
  clear T T1 T2 e1 e2 e3 hS ha hd1
  have fin : ∀ {x : V} {d : PyData} {H' : Hp}, Same H3 H' → Dq K H' x d → Oq (m + 1 + 2) (2 * w + 200) d → Q x H' := fun s hx hd => q _ _ _ (n3.trans (Ndt.of s)) ((T3.mono (by omega)).same s) hx hd
  refine ⟨_, _, rfl, ?_⟩
  refine ⟨_, rfl, _, _, rfl, rfl, _, rfl, ?_⟩
  have ct : cutV xs none (some (i : Int)) = xs.take i := cut_to0 (by omega)
  have cf : cutV xs (some (i : Int)) none = xs.drop i := cut_from (by omega)
  have cf1 : cutV xs (some ((i : Int) + 1)) none = xs.drop (i + 1) := by
    rw [show (i : Int) + 1 = ((i + 1 : Nat) : Int) by omega]
    exact cut_from (by omega)
  refine iteD (fun c => ?_) (fun c => ?_)
  · refine ⟨_, rfl, _, rfl, _, rfl, a, xs, rfl, hS3, fun p4 H4 e4 h4 => ?_⟩
    rw [ct] at h4
    obtain ⟨x, hx⟩ : ∃ x, xs[i]? = some x := ⟨_, List.getElem?_eq_getElem (by omega)⟩
    obtain ⟨d0, hd0, hp0⟩ := dqs_get ha3 hx
    rw [het] at hd0
    injection hd0 with hd0
    subst hd0
    have T4 := T3.same e4
    refine ⟨_, rfl, _, rfl, _, rfl, a, xs, _, x, rfl, rfl, (Nd.of e4).sqt hS3, atI_nat hx, _, rfl, _, _, rfl, rfl, hR m rfl _ _ _ _ ⟨τ, x, t, _, wb, N, rfl, Dq.dp m ((ordU (L := 3000) (by decide) m).fm _ ⟨tl_pos z t (List.mem_of_getElem? ht), uu_wide (by decide) st⟩) (hp0.same e4), st, fe, T4.mono (by omega), fun x5 d5 H5 n5 T5 hx5 o5 => ?_⟩⟩
    refine ⟨(by show 1 ≤ sizeLine; decide), fun p6 np6 => ?_⟩
    generalize x6 : upd H5 p6 _ = H6
    obtain ⟨s6, h6⟩ := new_at np6 x6
    refine ⟨p4, p6, _, _, rfl, rfl, (Nd.of s6).sqt ((n5.nd T4).sqt h4), SqT.of h6, (by rw [List.length_take]; exact Nat.le_trans (show _ ≤ 3000 by simp; omega) (by decide)), fun p7 H7 e7 h7 => ?_⟩
    have T7 := (T5.same s6).same e7
    have n7 := n5.trans (Ndt.of (s6.trans e7))
    refine ⟨_, rfl, _, rfl, _, _, rfl, rfl, _, rfl, a, xs, rfl, ((n5.nd T4).trans (Nd.of (s6.trans e7))).sqt ((Nd.of e4).sqt hS3), fun p8 H8 e8 h8 => ?_⟩
    rw [cf1] at h8
    refine ⟨p7, p8, _, _, rfl, rfl, (Nd.of e8).sqt h7, h8, (by rw [List.length_append, List.length_take, List.length_drop]; exact Nat.le_trans (show _ ≤ 3000 by simp; omega) (by decide)), fun p9 H9 e9 h9 => ?_⟩
    have s9 := e7.trans (e8.trans e9)
    have all3 : DqAll K H9 xs ds := DqAll.same (s6.trans s9) (DqAll.ndt n5 T4 (DqAll.same e4 ha3))
    have o := lq_mid (fA.mono (show m ≤ m + 2 by omega)) o5 (fB.mono (show m ≤ m + 2 by omega))
    refine q _ _ _ (n3.trans ((Ndt.of e4).trans (n5.trans (Ndt.of (s6.trans s9))))) (T5.same (s6.trans s9)) (.tup h9 (dqs_app (dqs_app (dqs_take i all3) (.cons (hx5.same (s6.trans s9)) .nil)) (dqs_drop (i + 1) all3))) ?_
    rw [List.append_assoc]
    exact (o.tup (by rw [List.length_append, List.length_cons]; omega)).mono (by omega) (by omega)
  refine ⟨_, rfl, rfl, _, rfl, ?_⟩
  refine iteD (fun c => ?_) (fun c => ?_)
  · refine ⟨_, rfl, _, rfl, _, rfl, a, xs, rfl, hS3, fun p4 H4 e4 h4 => ?_⟩
    rw [ct] at h4
    refine ⟨_, rfl, _, rfl, _, _, rfl, rfl, _, rfl, a, xs, rfl, (Nd.of e4).sqt hS3, fun p5 H5 e5 h5 => ?_⟩
    rw [cf1] at h5
    refine ⟨p4, p5, _, _, rfl, rfl, (Nd.of e5).sqt h4, h5, ?_, fun p6 H6 e6 h6 => ?_⟩
    · rw [List.length_take, List.length_drop]; exact Nat.le_trans (show _ ≤ 3000 by omega) (by decide)
    have s := e4.trans (e5.trans e6)
    refine fin s (.tup h6 (DqAll.same s (dqs_app (dqs_take i ha3) (dqs_drop (i + 1) ha3)))) ?_
    exact ((fl_app fA fB).tup (by rw [List.length_append]; omega)).oq.mono (by omega) (by omega)
  refine ⟨_, rfl, rfl, _, rfl, ?_⟩
  refine iteD (fun c => ?_) (fun c => ?_)
  · refine ⟨_, rfl, _, rfl, _, rfl, a, xs, rfl, hS3, fun p4 H4 e4 h4 => ?_⟩
    rw [ct] at h4
    obtain ⟨x, hx⟩ : ∃ x, xs[i]? = some x := ⟨_, List.getElem?_eq_getElem (by omega)⟩
    refine ⟨_, rfl, _, rfl, a, xs, _, x, rfl, rfl, (Nd.of e4).sqt hS3, atI_nat hx, (by show 1 ≤ sizeLine; decide), fun p5 np5 => ?_⟩
    generalize x5 : upd H4 p5 _ = H5
    obtain ⟨s5, h5⟩ := new_at np5 x5
    refine ⟨p4, p5, _, _, rfl, rfl, (Nd.of s5).sqt h4, SqT.of h5, (by rw [List.length_take]; exact Nat.le_trans (show _ ≤ 3000 by simp; omega) (by decide)), fun p6 H6 e6 h6 => ?_⟩
    refine ⟨_, rfl, _, rfl, _, rfl, a, xs, rfl, (Nd.of (s5.trans e6)).sqt ((Nd.of e4).sqt hS3), fun p7 H7 e7 h7 => ?_⟩
    rw [cf] at h7
    refine ⟨p6, p7, _, _, rfl, rfl, (Nd.of e7).sqt h6, h7, (by rw [List.length_append, List.length_take, List.length_drop]; exact Nat.le_trans (show _ ≤ 3000 by simp; omega) (by decide)), fun p8 H8 e8 h8 => ?_⟩
    have s := e4.trans (s5.trans (e6.trans (e7.trans e8)))
    have all3 := DqAll.same s ha3
    obtain ⟨d0, hd0, hp0⟩ := dqs_get all3 hx
    rw [het] at hd0
    injection hd0 with hd0
    subst hd0
    refine fin s (.tup h8 (dqs_app (dqs_app (dqs_take i all3) (.cons hp0 .nil)) (dqs_drop i all3))) ?_
    exact ((fl_app (fl_app fA (fl_cons fe (fl_nil m))) fD).tup (by rw [List.length_append, List.length_append, List.length_singleton]; omega)).oq.mono (by omega) (by omega)
  refine ⟨_, rfl, _, rfl, a, xs, rfl, .inr hS3, fun p4 np4 => ?_⟩
  generalize x4 : upd H3 p4 _ = H4
  obtain ⟨s4, h4⟩ := new_at np4 x4
  refine ⟨_, rfl, a, xs, rfl, (Nd.of s4).sqt hS3, fun p5 np5 => ?_⟩
  generalize x5 : upd H4 p5 _ = H5
  obtain ⟨s5, h5⟩ := new_at np5 x5
  refine ⟨_, rfl, (by show 1 ≤ sizeLine; decide), fun p6 np6 => ?_⟩
  generalize x6 : upd H5 p6 _ = H6
  obtain ⟨s6, h6⟩ := new_at np6 x6
  refine ⟨a, p6, _, _, rfl, rfl, (Nd.of (s4.trans (s5.trans s6))).sqt hS3, SqT.of h6, (Nat.le_trans (show _ ≤ 3000 by simp; omega) (by decide)), fun p7 H7 s7 h7 => ?_⟩
  refine ⟨_, rfl, _, rfl, _, rfl, a, xs, rfl, (Nd.of (s4.trans (s5.trans (s6.trans s7)))).sqt hS3, fun p8 H8 s8 h8 => ?_⟩
  rw [ct] at h8
  refine ⟨_, rfl, _, rfl, _, rfl, a, xs, rfl, (Nd.of (s4.trans (s5.trans (s6.trans (s7.trans s8))))).sqt hS3, fun p9 H9 s9 h9 => ?_⟩
  rw [cf] at h9
  refine ⟨p9, _, rfl, h9, fun p10 np10 => ?_⟩
  generalize x10 : upd H9 p10 _ = H10
  obtain ⟨s10, h10⟩ := new_at np10 x10
  refine ⟨p8, p10, _, _, rfl, rfl, (Nd.of (s9.trans s10)).sqt h8, SqT.of h10, (by rw [List.length_take, List.length_reverse, List.length_drop]; exact Nat.le_trans (show _ ≤ 3000 by omega) (by decide)), fun p11 H11 s11 h11 => ?_⟩
  refine ⟨(by show 4 ≤ sizeLine; decide), fun p12 np12 => ?_⟩
  generalize x12 : upd H11 p12 _ = H12
  obtain ⟨s12, h12⟩ := new_at np12 x12
  have b8 := s8.trans (s9.trans (s10.trans (s11.trans s12)))
  have b5 := s6.trans (s7.trans b8)
  have al := s4.trans (s5.trans b5)
  refine ⟨τ, p12, _, N, rfl, SqL.of h12, (by simp), (by simp), (T3.mono (by omega)).same al, fun x j H' e' T' hx => ?_⟩
  have all := DqAll.same al ha3
  have odd : Odd K H12 (m + 1 + 2) (2 * w + 200) x := by
    have hm := List.mem_of_getElem? hx
    simp only [List.mem_cons, List.not_mem_nil, or_false] at hm
    rcases hm with rfl | rfl | rfl | rfl
    · exact ⟨.list ds, .lst (SqL.of ((s5.trans b5) _ _ h4)) all, (fW.lq.lst fW.s.c).mono (by omega) (by omega)⟩
    · exact ⟨.tuple ds.reverse, .tup (SqT.of (b5 _ _ h5)) (dqs_rev all), ((fl_rev fW).tup (by rw [List.length_reverse]; omega)).oq.mono (by omega) (by omega)⟩
    · exact ⟨.tuple (ds ++ [.int 0]), .tup ((Nd.of b8).sqt h7) (dqs_app all (.cons (.int 0) .nil)), ((fl_app fW (fl_cons ((fq_int (i := 0) (by decide)).mono (Nat.zero_le _) (Nat.le_refl _)) (fl_nil m))).tup (by rw [List.length_append, List.length_singleton]; omega)).oq.mono (by omega) (by omega)⟩
    · exact ⟨.tuple (ds.take i ++ (ds.drop i).reverse), .tup ((Nd.of s12).sqt h11) (dqs_app (dqs_take i all) (dqs_rev (dqs_drop i all))), ((fl_app fA (fl_rev fD)).tup (by rw [List.length_append, List.length_reverse]; omega)).oq.mono (by omega) (by omega)⟩
  obtain ⟨e, h1, h2⟩ := odd
  exact q _ _ _ (n3.trans ((Ndt.of al).trans e')) T' (h1.ndt e' ((T3.mono (show N + 1 ≤ _ by omega)).same al)) h2
end
end Fb
namespace Fb
open PySem L2 Bx
/-! ### lists made item by item -/
/-- a slice: of a list a list, of a tuple a tuple -/
def rSlD2 (K : PySem.W.Frag) : V → Option Int → Option Int → Hp → VK → Prop := fun x lo hi H Q => ∃ a xs, x = .ref a ∧ ((H a = some (.lst xs) ∧ ∀ b H', Same H H' → H' b = some (.lst (cutV xs lo hi)) → Q (.ref b) H') ∨ (SqT K H a xs ∧ ∀ b H', Same H H' → SqT K H' b (cutV xs lo hi) → Q (.ref b) H'))
theorem sl_seqD {X : Cx} (K : PySem.W.Frag) (hK : X.K = K := by rfl) : SlR X (rSlD2 K) := by
  subst hK
  intro pins s σ H x v vl vu lo hi sl Q I rx hs pl pu ⟨a, xs, e, h⟩
  refine (sl_list.or sl_tupA) pins s σ H x v vl vu lo hi sl Q I rx hs pl pu (h.imp (fun ⟨h, q⟩ => ⟨a, xs, e, SqL.of h, fun p np => q p _ (Same.new np) upd_same⟩) fun ⟨h, q⟩ => ⟨a, xs, e, h, fun hw => ?_, fun _ p np => q p _ (Same.new np) (SqT.of upd_same)⟩)
  refine q a H (Same.refl H) ?_
  unfold cutV
  rw [hw.1, hw.2, List.drop_zero, Nat.sub_zero, List.take_length]
  exact h
/-- where the items come from -/
def Src (K : PySem.W.Frag) (t0 : TE) (σ : L2.St) (H : Hp) (xs : List V) : Prop := (∀ Q' : VK, (∀ a H1, Same H H1 → H1 a = some (.lst xs) → Q' (.ref a) H1) → t0 σ H Q') ∨ (∀ Q' : VK, (∀ a H1, Same H H1 → SqT K H1 a xs → Q' (.ref a) H1) → t0 σ H Q')
theorem src_var {K : PySem.W.Frag} {σ : L2.St} {H : Hp} {j : Nat} {a : Addr} {xs : List V} (h : Sq K H a xs) (hj : σ[j]? = some (some (.ref a))) : Src K (tVar j) σ H xs :=
  h.imp (fun h Q' q => ⟨_, hj, q a H (Same.refl H) h⟩) fun h Q' q => ⟨_, hj, q a H (Same.refl H) h⟩
theorem src_from {K : PySem.W.Frag} {σ : L2.St} {H : Hp} {i j : Nat} {a : Addr} {k : Nat} {xs : List V} (h : Sq K H a xs) (hj : σ[j]? = some (some (.ref a))) (hi : σ[i]? = some (some (.int (k : Int)))) (hk : k ≤ xs.length) : Src K (tSl (rSlD2 K) (tVar j) (tPart (tVar i)) tNoPart) σ H (xs.drop k) := by
  rw [← cut_from hk]
  exact h.imp (fun h Q' q => ⟨_, hj, _, hi, _, rfl, a, xs, rfl, .inl ⟨h, fun b H' e r => q b H' e r⟩⟩) fun h Q' q => ⟨_, hj, _, hi, _, rfl, a, xs, rfl, .inr ⟨h, fun b H' e r => q b H' e r⟩⟩
theorem wipe_one (σ : L2.St) (s : Nat) (x : Option V) : wipe ((wipe σ [s]).set s x) [s] = wipe σ [s] := by
  show (((σ.set s none).set s x).set s none) = σ.set s none
  rw [List.set_set, List.set_set]
theorem map_src {K : PySem.W.Frag} {t0 : TE} {σ : L2.St} {H : Hp} {xs : List V} {s n : Nat} {te : TE} {Q : VK} {ds : List PyData} (src : Src K t0 σ H xs) (hl : xs.length = ds.length) (lt : xs.length < sizeLine) (hfm : ∀ d ∈ ds, Fm n d)
    (step : ∀ (i : Nat) (x : V) (d : PyData), xs[i]? = some x → ds[i]? = some d → ∀ H', Same H H' → ∀ Q' : VK, (∀ y H4, Same H' H4 → Dp K H4 y d → Q' y H4) → te ((wipe σ [s]).set s (some x)) H' Q')
    (fin : ∀ (D : Addr) (ys : List V) (H' : Hp), Same H H' → H' D = some (.lst ys) → DpAll K H' ys ds → Q (.ref D) H') : tLc (iSeq K t0) (gName s) tYes te [s] σ H Q := by
  have turn : ∀ (H1 : Hp) (D : Addr), Same H H1 → H1 D = none → ∀ (i : Nat) (x : V) (H' : Hp), xs[i]? = some x → (∃ ys : List V, Same H1 H' ∧ H' D = some (.lst ys) ∧ DpAll K H' ys (ds.take i)) →
      te ((wipe σ [s]).set s (some x)) H' fun y H4 => ∃ acc, H4 D = some (.lst acc) ∧ acc.length < sizeLine ∧ ∃ ys : List V, Same H1 (upd H4 D (.lst (acc ++ [y]))) ∧ upd H4 D (.lst (acc ++ [y])) D = some (.lst ys) ∧ DpAll K (upd H4 D (.lst (acc ++ [y]))) ys (ds.take (i + 1)) := fun H1 D e1 nD i x H' hx ⟨ys, e, hD, hy⟩ => by
    have hi : i < xs.length := (List.getElem?_eq_some_iff.mp hx).1
    have hd : ds[i]? = some ds[i] := List.getElem?_eq_getElem (by omega)
    refine step i x _ hx hd H' (e1.trans e) _ fun y H4 e4 dy => ⟨ys, e4 _ _ hD, ?_, ys ++ [y], Same.mut (e.trans e4) nD, upd_same, ?_⟩
    · rw [dps_length hy, List.length_take]
      omega
    · have td : Td H4 (upd H4 D (.lst (ys ++ [y]))) := Td.lst (e4 _ _ hD)
      rw [show ds.take (i + 1) = ds.take i ++ [ds[i]] by rw [List.take_add_one, hd]; rfl]
      refine dps_app (((Td.of (Nd.of e4)).trans td).ds (n := n) (fun z hz => hfm z (List.mem_of_mem_take hz)) hy) (.cons (td.d (hfm _ (List.mem_of_getElem? hd)) dy) .nil)
  rcases src with h | h
  · refine .inl (h _ fun a H1 e1 hL => ⟨a, rfl, ⟨_, SqL.of hL⟩, fun D nD => ?_⟩)
    refine lc_list (xs := xs) (fun i H' => ∃ ys : List V, Same H1 H' ∧ H' D = some (.lst ys) ∧ DpAll K H' ys (ds.take i)) ⟨[], Same.new nD, upd_same, .nil⟩ (fun i H' _ h => h.elim fun _ h => h.1.seq (SqL.of hL)) (fun i x H' hx h => ⟨wipe_one _ _ _, lcT (turn H1 D e1 nD i x H' hx h)⟩) (fun H' h => ?_)
    obtain ⟨ys, e, hD, hy⟩ := h
    rw [hl, List.take_length] at hy
    exact fin D ys H' (e1.trans e) hD hy
  · refine .inr (h _ fun a H1 e1 hL => ⟨a, rfl, ⟨_, hL⟩, fun D nD => ?_⟩)
    refine lc_tup (xs := xs) (fun i H' => ∃ ys : List V, Same H1 H' ∧ H' D = some (.lst ys) ∧ DpAll K H' ys (ds.take i)) ⟨[], Same.new nD, upd_same, .nil⟩ (fun i H' _ h => h.elim fun _ h => (Nd.of h.1).sqt hL) (fun i x H' hx h => ⟨wipe_one _ _ _, lcT (turn H1 D e1 nD i x H' hx h)⟩) (fun H' h => ?_)
    obtain ⟨ys, e, hD, hy⟩ := h
    rw [hl, List.take_length] at hy
    exact fin D ys H' (e1.trans e) hD hy
/-! ### shifts of integers -/
theorem tl_shl (x : Int) (k : Nat) : Tl (x * 2 ^ k) = (Tl x).map (· + (k : Int)) := by
  have asc : ((turnsN x).map (· + k)).Pairwise (· < ·) := List.pairwise_map.mpr ((turns_asc x).imp fun h => by omega)
  have e : alt (-1) ((turnsN x).map (· + k)) = x * 2 ^ k := by rw [alt_shift, turns_alt, Int.mul_comm]
  unfold Tl
  rw [← e, turns_of_alt asc]
  unfold zs
  rw [List.map_map, List.map_map]
  rfl
theorem bt_shr (p k : Nat) (x : Int) : Bt p (x / 2 ^ k) = Bt (p + k) x := by
  unfold Bt
  rw [Nat.add_comm, Int.pow_add, ← Int.ediv_ediv_of_nonneg (Int.le_of_lt (Int.pow_pos (by decide)))]
theorem cnt_sub (l : List Int) (k p : Int) : cnt (l.map (· - k)) p = cnt l (p + k) := by
  unfold cnt
  rw [List.filter_map, List.length_map]
  congr 1
  refine List.filter_congr fun t _ => ?_
  show decide (t - k ≤ p) = decide (t ≤ p + k)
  exact decide_eq_decide.mpr (by omega)
theorem tl_shr (x : Int) (k : Nat) : Tl (x / 2 ^ k) = (if cnt (Tl x) (k : Int) % 2 = 1 then [0] else []) ++ ((Tl x).drop (cnt (Tl x) (k : Int))).map (· - (k : Int)) := by
  have gt : ∀ t ∈ (Tl x).drop (cnt (Tl x) (k : Int)), (k : Int) < t := fun t ht => by
    obtain ⟨s1, s2, s3, s4⟩ := split3 (k : Int) (tl_asc x)
    exact s3 t ht
  symm
  refine tl_of ?_ ?_ fun p => ?_
  · refine List.pairwise_append.mpr ⟨by split <;> simp, List.pairwise_map.mpr (((tl_asc x).sublist (List.drop_sublist _ _)).imp fun h => by omega), fun a ha b hb => ?_⟩
    obtain ⟨t, ht, rfl⟩ := List.mem_map.mp hb
    have := gt t ht
    split at ha
    · rw [List.mem_singleton.mp ha]; omega
    · cases ha
  · intro c hc
    rcases List.mem_append.mp hc with h | h
    · split at h
      · rw [List.mem_singleton.mp h]; decide
      · cases h
    · obtain ⟨t, ht, rfl⟩ := List.mem_map.mp h
      have := gt t ht
      omega
  · rw [bt_shr, bt_tl, cnt_app, cnt_sub]
    have d := (drop_cnt (tl_asc x) (u := (k : Int)) (c := (p : Int) + (k : Int)) (by omega))
    have z : cnt (if cnt (Tl x) (k : Int) % 2 = 1 then [(0 : Int)] else []) (p : Int) = cnt (Tl x) (k : Int) % 2 := by
      split
      · rename_i h
        rw [h, cnt_cons, if_pos (by omega), cnt_nil]
      · rw [cnt_nil]; omega
    rw [z, d.1]
    have e : ((p + k : Nat) : Int) = (p : Int) + (k : Int) := by omega
    rw [e]
    omega
theorem uu_shl {L n : Nat} (hL : 66 ≤ L) {x s : Int} (hx : UU L (n + 2) x) (hs : UU L (n + 1) s) (s0 : 0 ≤ s) : UU (3 * L + 2) (n + 3) (x * 2 ^ s.toNat) := by
  have h1 := hx.1
  refine ⟨by rw [tl_shl, List.length_map]; omega, fun t ht => ?_⟩
  rw [tl_shl] at ht
  obtain ⟨u, hu, rfl⟩ := List.mem_map.mp ht
  have e : u + ((s.toNat : Nat) : Int) = u + s + ((0 : Nat) : Int) := by omega
  rw [e]
  exact uu_sum (n := n) hL (by decide) (hx.2 u hu) hs
theorem uu_shr {L n : Nat} (hL : 66 ≤ L) {x s : Int} (hx : UU L (n + 2) x) (hs : UU L (n + 1) s) (s0 : 0 ≤ s) : UU (3 * L + 5) (n + 3) (x / 2 ^ s.toNat) := by
  have h1 := hx.1
  refine ⟨?_, fun t ht => ?_⟩
  · rw [tl_shr, List.length_append, List.length_map, List.length_drop]
    split <;> simp <;> omega
  rw [tl_shr] at ht
  rcases List.mem_append.mp ht with h | h
  · split at h
    · exact uu_01 (by omega) (.inl (List.mem_singleton.mp h))
    · cases h
  · obtain ⟨u, hu, rfl⟩ := List.mem_map.mp h
    have e : u - ((s.toNat : Nat) : Int) = u - s := by omega
    rw [e]
    exact uu_sub (n := n) hL (hx.2 u (List.mem_of_mem_drop hu)) hs
section
variable {P : Program} {w : World} {K : PySem.W.Frag} {mg : Str → Option Value} {base : Heap} {f : Addr} {fd : FuncData}
/-- two numbers, their sum or difference -/
def spPU (K : PySem.W.Frag) (n L : Nat) (r : Int → Int → Int) : Sp := fun vs H Q _ => ∃ (v u : V) (x y : Int), vs = [v, u] ∧ Dp K H v (gU n x) ∧ Dp K H u (gU n y) ∧ UU L n x ∧ UU L n y ∧ ∀ (v' : V) (H' : Hp), Same H H' → Dp K H' v' (gU (n + 1) (r x y)) → Q v' H'
theorem sum_pu {n L : Nat} (h66 : 66 ≤ L) (hL : L ≤ 2500) {r : Int → Int → Int} (hr : ∀ x y, UU L (n + 1) x → UU L (n + 1) y → UU 8500 (n + 2) (r x y)) : ∀ vs H Q E, spPU K (n + 1) L r vs H Q E → spSum K (gU (n + 1)) (SU 8500 (n + 1)) r vs H Q E := fun vs H Q E h => by
  obtain ⟨v, u, x, y, rfl, hx, hy, ux, uy, q⟩ := h
  have e8 : L ≤ 8500 := by omega
  have up : ∀ z, UU L (n + 1) z → Num (gU (n + 1)) (SU 8500 (n + 1)) z ∧ numD (gU (n + 1)) z = gU (n + 1) z := fun z hz =>
    ⟨uu_num (Nat.le_refl _) (uu_wide e8 (uu_up h66 hz)), gU_up h66 e8 hz⟩
  have nx : ∀ z, UU L (n + 1) z → ∀ t ∈ Tl z, SU 8500 (n + 1) (t + 1) := fun z hz t ht => by
    have := su_succ (L := L) h66 (z := t) ⟨tl_pos z t ht, hz.2 t ht⟩
    exact ⟨this.1, uu_wide (by omega) this.2⟩
  have h1 := ux.1
  have h2 := uy.1
  refine ⟨v, u, x, y, rfl, by rw [(up x ux).2]; exact hx, by rw [(up y uy).2]; exact hy, (up x ux).1, (up y uy).1, nx x ux, nx y uy, by omega, ?_, uu_num (Nat.le_refl _) (hr x y ux uy), q⟩
  show (Tl x).length + (Tl y).length ≤ 8000
  omega
def spMov (K : PySem.W.Frag) (n : Nat) : Sp := fun vs H Q _ => ∃ (a : Addr) (u : V) (l : List Int) (s : Int), vs = [.ref a, u] ∧ Pls K H (gU n) a l ∧ Dp K H u (gU n s) ∧ l.Pairwise (· < ·) ∧ (∀ t ∈ l, SU 8500 n t) ∧ SU 8500 n s ∧
  ∀ b : Bool, (b = true → gU n s = .int s ∧ ∀ t ∈ l, gU n t = .int t ∧ t + s < 2 ^ 64) → Q (.bl b) H
theorem isI_gU {n : Nat} {c : Int} (h : SU 8500 n c) (hi : isI (gU n c) = true) : gU n c = .int c := by
  obtain ⟨i, e⟩ := fm_int ((ordU (Nat.le_refl _) n).fm c h) hi
  have := (niU (Nat.le_refl _)).hid c i h e
  rw [e, this]
theorem gU_lt {n : Nat} {c : Int} (h : SU 8500 n c) (e : gU n c = .int c) : c < 2 ^ 64 := by
  cases n with
  | zero => exact h.2.2
  | succ n =>
    rcases num_cases (ordU (Nat.le_refl _) n) (uu_num (Nat.le_refl _) h.2) with ⟨pl, _, _⟩ | ⟨npl, e2, _⟩
    · exact pl.2
    · have e3 : gU (n + 1) c = .tuple _ := e2
      rw [e] at e3
      cases e3
def spShU (K : PySem.W.Frag) (n L : Nat) : Sp := fun vs H Q _ => ∃ (v u : V) (x s : Int), vs = [v, u] ∧ Dp K H v (gU (n + 2) x) ∧ UU L (n + 2) x ∧ Dp K H u (gU (n + 1) s) ∧ UU L (n + 1) s ∧ 0 ≤ s ∧ ∀ (v' : V) (H' : Hp), Same H H' → Dp K H' v' (gU (n + 3) (x * 2 ^ s.toNat)) → Q v' H'
def spShD (K : PySem.W.Frag) (n L : Nat) : Sp := fun vs H Q _ => ∃ (v u : V) (x s : Int), vs = [v, u] ∧ Dp K H v (gU (n + 2) x) ∧ UU L (n + 2) x ∧ Dp K H u (gU (n + 1) s) ∧ UU L (n + 1) s ∧ 0 ≤ s ∧ ∀ (v' : V) (H' : Hp), Same H H' → Dp K H' v' (gU (n + 3) (x / 2 ^ s.toNat)) → Q v' H'
end
end Fb
namespace Fb
open PySem L2
/-! ### what codes and fields stand for -/
/-- the integer with these turns -/
def av (l : List Int) : Int := alt (-1) (l.map Int.toNat)
theorem tl_av {l : List Int} (asc : l.Pairwise (· < ·)) (pos : ∀ t ∈ l, 0 ≤ t) : Tl (av l) = l := by
  unfold Tl av
  rw [turns_of_alt (asc_toNat pos asc), zs_toNat pos]
theorem av_tl (z : Int) : av (Tl z) = z := by
  unfold av Tl
  rw [zs_nat, turns_alt]
theorem av_nn {l : List Int} (asc : l.Pairwise (· < ·)) (pos : ∀ t ∈ l, 0 ≤ t) (ev : l.length % 2 = 0) : 0 ≤ av l :=
  (alt_par (asc_toNat pos asc)).2 (by rw [List.length_map]; exact ev)
/-- a form told by its turns -/
theorem mk_gU {n : Nat} {l : List Int} (asc : l.Pairwise (· < ·)) (pos : ∀ t ∈ l, 0 ≤ t) (far : ∃ t ∈ l, 64 < t) (ll : l.length ≤ 66) (u : ∀ t ∈ l, UU 66 n t) : gU (n + 1) (av l) = .tuple (l.map (gU n)) ∧ UU 66 (n + 1) (av l) ∧ ¬ plain (av l) := by
  have et := tl_av asc pos
  have uu : UU 66 (n + 1) (av l) := by
    show (Tl (av l)).length ≤ 66 ∧ ∀ t ∈ Tl (av l), UU 66 n t
    rw [et]
    exact ⟨ll, u⟩
  rcases num_cases (ordU (L := 66) (by decide) n) (uu_num (by decide) uu) with ⟨pl, _, _⟩ | ⟨npl, e, _⟩
  · obtain ⟨t, ht, t64⟩ := far
    have := tl_near.mp pl t (by rw [et]; exact ht)
    omega
  · refine ⟨?_, uu, npl⟩
    have e' : gU (n + 1) (av l) = .tuple ((Tl (av l)).map (gU n)) := e
    rw [e', et]
/-- a small number and turns behind it -/
theorem av_step {s : Int} {l : List Int} (s0 : 0 ≤ s) : av (Tl s ++ l) = s + av l := by
  have ev : ((Tl s).map Int.toNat).length % 2 = 0 := by
    rw [List.length_map]
    unfold Tl
    rw [len_zs]
    exact even_turns s0
  unfold av
  rw [List.map_append, alt_append, flip_even ev]
  have e : alt (-1) ((Tl s).map Int.toNat) = s := av_tl s
  rw [e]
theorem small_tl {s : Int} (s0 : 0 ≤ s) (s1 : s < 64) : (Tl s).length ≤ 7 ∧ ∀ t ∈ Tl s, 0 ≤ t ∧ t ≤ 6 := by
  have b0 : -(2 ^ 6) ≤ s := by omega
  have b1 : s < 2 ^ 6 := by omega
  refine ⟨?_, fun t ht => ⟨tl_pos s t ht, ?_⟩⟩
  · unfold Tl
    rw [len_zs]
    exact turns_len b0 b1
  · obtain ⟨p, hp, rfl⟩ := List.mem_map.mp ht
    have := turns_lt b0 b1 p hp
    show ((p : Nat) : Int) ≤ 6
    omega
/-- the turns of a field's tuple -/
structure FT (ts : List PyData) (l : List Int) : Prop where
  eq : ts = l.map (gU 2)
  asc : l.Pairwise (· < ·)
  pos : ∀ t ∈ l, 7 ≤ t
  far : ∃ t ∈ l, 64 < t
  len : l.length ≤ 4
  uu : ∀ t ∈ l, UU 66 2 t
  ev : l.length % 2 = 0
theorem FT.place {ts : List PyData} {l : List Int} (h : FT ts l) {s : Int} (s0 : 0 ≤ s) (s1 : s < 64) : PyData.tuple (nD (turnsN s) ++ ts) = gU 3 (av l + s) ∧ UU 66 3 (av l + s) := by
  have sm := small_tl s0 s1
  have asc : (Tl s ++ l).Pairwise (· < ·) := List.pairwise_append.mpr ⟨tl_asc s, h.asc, fun a ha b hb => by have := (sm.2 a ha).2; have := h.pos b hb; omega⟩
  have pos : ∀ t ∈ Tl s ++ l, 0 ≤ t := fun t ht => (List.mem_append.mp ht).elim (fun k => (sm.2 t k).1) fun k => by have := h.pos t k; omega
  obtain ⟨t, ht, t64⟩ := h.far
  have uu : ∀ t ∈ Tl s ++ l, UU 66 2 t := fun t ht => (List.mem_append.mp ht).elim (fun k => uu_plain (by decide) ⟨by have := (sm.2 t k).1; omega, by have := (sm.2 t k).2; omega⟩) (h.uu t)
  have m := mk_gU (n := 2) asc pos ⟨t, List.mem_append_right _ ht, t64⟩ (by rw [List.length_append]; have := h.len; omega) uu
  rw [av_step s0, Int.add_comm] at m
  refine ⟨?_, m.2.1⟩
  rw [m.1, h.eq, List.map_append]
  have e : (Tl s).map (gU 2) = nD (turnsN s) := by
    unfold Tl zs nD
    rw [List.map_map]
    refine List.map_congr_left fun p hp => ?_
    have := sm.2 ((p : Nat) : Int) (List.mem_map.mpr ⟨p, hp, rfl⟩)
    show gU 2 ((p : Nat) : Int) = .int (p : Int)
    exact gU_plain ⟨by omega, by omega⟩
  rw [e]
theorem ints_gU {n : Nat} {l : List Int} (h : ∀ t ∈ l, 0 ≤ t ∧ t < 2 ^ 64) : l.map (gU n) = l.map PyData.int := List.map_congr_left fun t ht => gU_plain ⟨by have := (h t ht).1; omega, (h t ht).2⟩
theorem pow_more {N g : Nat} (h : g + 1 < N) : (N : Int) < 2 ^ N - 2 ^ g := by
  obtain ⟨M, rfl⟩ : ∃ M, N = M + 1 := ⟨N - 1, by omega⟩
  have a := Nat.lt_two_pow_self (n := M)
  have b : (2 : Nat) ^ g < 2 ^ M := Nat.pow_lt_pow_right (by decide) (by omega)
  have c : (2 : Nat) ^ (M + 1) = 2 ^ M + 2 ^ M := by rw [Nat.pow_succ]; omega
  have h1 : ((2 ^ (M + 1) : Nat) : Int) = 2 ^ (M + 1) := Int.natCast_pow 2 _
  have h2 : ((2 ^ g : Nat) : Int) = 2 ^ g := Int.natCast_pow 2 _
  rw [← h1, ← h2]
  omega
/-- where the fields lie -/
theorem field_vals {fs : List PyData} (F : Fields fs) : ∃ A : Nat → Int, A 0 = 0 ∧ (∀ k, 0 ≤ A k) ∧ ∀ p : Nat, p < 800 → p % 200 < 64 → placeD fs p = gU 3 (A (p / 200) + ((p % 200 : Nat) : Int)) ∧ UU 66 3 (A (p / 200) + ((p % 200 : Nat) : Int)) := by
  obtain ⟨a, low, g, f2, f3, rfl, a0, a1, l0, l1, g0, g1, k2, k3⟩ := F.ex
  -- the second field
  obtain ⟨t2, L2, e2, ft2, i2⟩ : ∃ (t2 : List PyData) (L2 : List Int), f2 = .tuple t2 ∧ FT t2 L2 ∧ ∀ t ∈ L2, 200 ≤ t ∧ t < 2 ^ 64 := by
    rcases k2 with ⟨d, d0, d1, rfl⟩ | ⟨d, d0, d1, rfl⟩
    · have hi : ∀ t ∈ [low, low + 1 + d], 200 ≤ t ∧ t < 2 ^ 64 := fun t ht => by
        simp at ht
        rcases ht with rfl | rfl <;> omega
      refine ⟨_, [low, low + 1 + d], rfl, ⟨(ints_gU fun t ht => ⟨by have := (hi t ht).1; omega, (hi t ht).2⟩).symm, by simp; omega, fun t ht => by have := (hi t ht).1; omega, ⟨low, by simp, by omega⟩, by simp, fun t ht => uu_plain (by decide) ⟨by have := (hi t ht).1; omega, (hi t ht).2⟩, by simp⟩, hi⟩
    · have hi : ∀ t ∈ [low, low + 7, low + 9 + g, low + 11 + 2 * g + d], 200 ≤ t ∧ t < 2 ^ 64 := fun t ht => by
        simp at ht
        rcases ht with rfl | rfl | rfl | rfl <;> omega
      refine ⟨_, [low, low + 7, low + 9 + g, low + 11 + 2 * g + d], rfl, ⟨(ints_gU fun t ht => ⟨by have := (hi t ht).1; omega, (hi t ht).2⟩).symm, by simp; omega, fun t ht => by have := (hi t ht).1; omega, ⟨low, by simp, by omega⟩, by simp, fun t ht => uu_plain (by decide) ⟨by have := (hi t ht).1; omega, (hi t ht).2⟩, by simp⟩, hi⟩
  subst e2
  have pos2 : ∀ t ∈ L2, 0 ≤ t := fun t ht => by have := (i2 t ht).1; omega
  have nn2 := av_nn ft2.asc pos2 ft2.ev
  have m2 := mk_gU (n := 0) ft2.asc pos2 ft2.far (by have := ft2.len; omega) fun t ht => ⟨by have := (i2 t ht).1; omega, (i2 t ht).2⟩
  have big2 : 2 ^ 64 ≤ av L2 := by
    have := m2.2.2
    unfold plain at this
    omega
  have e0 : L2.map (gU 0) = t2 := by rw [ft2.eq, ints_gU (n := 2) fun t ht => ⟨pos2 t ht, (i2 t ht).2⟩]; rfl
  have u1 : UU 66 1 (av L2) := m2.2.1
  have u2 : UU 66 2 (av L2) := uu_up (by decide) u1
  have f1 : gU 1 (av L2) = .tuple t2 := by rw [← e0]; exact m2.1
  have f2 : gU 2 (av L2) = .tuple t2 := by rw [gU_up (L := 66) (by decide) (by decide) u1]; exact f1
  -- the third one
  obtain ⟨t3, L3, e3, ft3⟩ : ∃ (t3 : List PyData) (L3 : List Int), f3 = .tuple t3 ∧ FT t3 L3 := by
    have pg : ∀ n, gU n g = .int g := fun n => gU_plain ⟨by omega, by omega⟩
    have ug : UU 66 2 g := uu_plain (by decide) ⟨by omega, by omega⟩
    rcases k3 with rfl | ⟨e, ts, b0, b1, et, rfl⟩ | rfl
    · refine ⟨_, [g, av L2], rfl, ⟨by show _ = [gU 2 g, gU 2 (av L2)]; rw [pg, f2], by simp; omega, fun t ht => ?_, ⟨av L2, by simp, by omega⟩, by simp, fun t ht => ?_, by simp⟩⟩
      · simp at ht
        rcases ht with rfl | rfl <;> omega
      · simp at ht
        rcases ht with rfl | rfl
        · exact ug
        · exact u2
    · cases et
      have asc : ((e + 1) :: 64 :: L2).Pairwise (· < ·) := List.pairwise_cons.mpr ⟨fun t ht => by
        rcases List.mem_cons.mp ht with rfl | h
        · omega
        · have := (i2 t h).1; omega, List.pairwise_cons.mpr ⟨fun t h => by have := (i2 t h).1; omega, ft2.asc⟩⟩
      have hi : ∀ t ∈ (e + 1) :: 64 :: L2, 0 ≤ t ∧ t < 2 ^ 64 := fun t ht => by
        rcases List.mem_cons.mp ht with rfl | h
        · omega
        · rcases List.mem_cons.mp h with rfl | h
          · omega
          · exact ⟨pos2 t h, (i2 t h).2⟩
      obtain ⟨t, ht, t64⟩ := ft2.far
      have m3 := mk_gU (n := 1) asc (fun t ht => (hi t ht).1) ⟨t, List.mem_cons_of_mem _ (List.mem_cons_of_mem _ ht), t64⟩ (by simp; have := ft2.len; omega) fun t ht => uu_plain (by decide) ⟨by have := (hi t ht).1; omega, (hi t ht).2⟩
      have eB : av ((e + 1) :: 64 :: L2) = 2 ^ 64 - 2 ^ (e + 1).toNat + av L2 := by
        unfold av
        show -1 * 2 ^ (e + 1).toNat + (-(-1) * 2 ^ (64 : Int).toNat + alt (- -(-1)) (L2.map Int.toNat)) = _
        rw [show (- -(-1) : Int) = -1 by decide, show ((64 : Int).toNat) = 64 by decide]
        omega
      have p60 : (2 : Int) ^ (e + 1).toNat ≤ 2 ^ 60 := p_le (by omega)
      have lt : av L2 < av ((e + 1) :: 64 :: L2) := by rw [eB]; omega
      refine ⟨_, [av L2, av ((e + 1) :: 64 :: L2)], rfl, ⟨?_, by simp; exact lt, fun t ht => ?_, ⟨av L2, by simp, by omega⟩, by simp, fun t ht => ?_, by simp⟩⟩
      · show _ = [gU 2 (av L2), gU 2 (av ((e + 1) :: 64 :: L2))]
        rw [f2, m3.1, ints_gU hi]
        have e5 : L2.map PyData.int = t2 := e0
        show [PyData.tuple t2, .tuple (.int (e + 1) :: .int 64 :: t2)] = [.tuple t2, .tuple (.int (e + 1) :: .int 64 :: L2.map PyData.int)]
        rw [e5]
      · simp at ht
        rcases ht with rfl | rfl <;> omega
      · simp at ht
        rcases ht with rfl | rfl
        · exact u2
        · exact m3.2.1
    · have asc : [g, av L2].Pairwise (· < ·) := by simp; omega
      have m3 := mk_gU (n := 1) asc (fun t ht => by simp at ht; rcases ht with rfl | rfl <;> omega) ⟨av L2, by simp, by omega⟩ (by simp) fun t ht => by
        simp at ht
        rcases ht with rfl | rfl
        · exact uu_plain (by decide) ⟨by omega, by omega⟩
        · exact u1
      have eC : av [g, av L2] = 2 ^ (av L2).toNat - 2 ^ g.toNat := by
        unfold av
        show -1 * 2 ^ g.toNat + (-(-1) * 2 ^ (alt (-1) (L2.map Int.toNat)).toNat + 0) = _
        omega
      have lt : av L2 < av [g, av L2] := by
        have := pow_more (N := (av L2).toNat) (g := g.toNat) (by omega)
        rw [eC]
        have e6 : (((av L2).toNat : Nat) : Int) = av L2 := by omega
        rw [e6] at this
        exact this
      refine ⟨_, [g, g + 1, av L2, av [g, av L2]], rfl, ⟨?_, by simp; omega, fun t ht => ?_, ⟨av L2, by simp, by omega⟩, by simp, fun t ht => ?_, by simp⟩⟩
      · show _ = [gU 2 g, gU 2 (g + 1), gU 2 (av L2), gU 2 (av [g, av L2])]
        rw [pg, gU_plain (z := g + 1) ⟨by omega, by omega⟩, f2, m3.1]
        show _ = [_, _, _, PyData.tuple [gU 1 g, gU 1 (av L2)]]
        rw [pg, f1]
      · simp at ht
        rcases ht with rfl | rfl | rfl | rfl <;> omega
      · simp at ht
        rcases ht with rfl | rfl | rfl | rfl
        · exact ug
        · exact uu_plain (by decide) ⟨by omega, by omega⟩
        · exact u2
        · exact m3.2.1
  subst e3
  have nn3 := av_nn ft3.asc (fun t ht => by have := ft3.pos t ht; omega) ft3.ev
  refine ⟨fun k => if k = 0 then 0 else if k = 1 then a else if k = 2 then av L2 else av L3, rfl, fun k => ?_, fun p hp hs => ?_⟩
  · dsimp only
    split
    · exact Int.le_refl 0
    · split
      · omega
      · split
        · exact nn2
        · exact nn3
  have s0 : (0 : Int) ≤ ((p % 200 : Nat) : Int) := by omega
  have s1 : ((p % 200 : Nat) : Int) < 64 := by omega
  have hk : p / 200 = 0 ∨ p / 200 = 1 ∨ p / 200 = 2 ∨ p / 200 = 3 := by omega
  have int_place : ∀ b : Int, 0 ≤ b → b < 2 ^ 64 → formD (b + ((p % 200 : Nat) : Int)) = gU 3 (b + ((p % 200 : Nat) : Int)) ∧ UU 66 3 (b + ((p % 200 : Nat) : Int)) := fun b b0 b1 => by
    have u : UU 66 1 (b + ((p % 200 : Nat) : Int)) := by
      have c0 : -(2 ^ 65) ≤ b + ((p % 200 : Nat) : Int) := by omega
      have c1 : b + ((p % 200 : Nat) : Int) < 2 ^ 65 := by omega
      refine ⟨?_, fun t ht => ?_⟩
      · unfold Tl
        rw [len_zs]
        exact turns_len c0 c1
      · obtain ⟨q, hq, rfl⟩ := List.mem_map.mp ht
        have := turns_lt c0 c1 q hq
        show plain ((q : Nat) : Int)
        exact ⟨by omega, by omega⟩
    refine ⟨?_, uu_le (by decide) (by decide) u⟩
    rw [gU_le (L := 66) (by decide) (by decide) (show 1 ≤ 3 by decide) u]
    exact formD_num (by have := u.1; omega)
  unfold placeD
  rcases hk with h | h | h | h
  · rw [h]
    exact int_place 0 (by decide) (by decide)
  · rw [h]
    exact int_place a (by omega) a1
  · rw [h]
    exact ft2.place s0 s1
  · rw [h]
    exact ft3.place s0 s1
end Fb
namespace Fb
open PySem L2
/-! ### numbers over codes, as integers -/
/-- the integer whose turns are led by m -/
def rl (m : Int → Int) (z : Int) : Int := av ((Tl z).map m)
structure RL (n L : Nat) (g : Int → PyData) (S : Int → Prop) (m : Int → Int) : Prop where
  o : OrdN n g S
  eq : ∀ c, S c → g c = gU n (m c)
  uu : ∀ c, S c → UU L n (m c)
  pos : ∀ c, S c → 0 ≤ m c
theorem sgn_eq {a b : Int} : sgnI a b = 0 ↔ a = b := by
  rcases Int.lt_trichotomy a b with k | k | k
  · rw [sgnI_lt k]; exact ⟨fun z => absurd z (by decide), fun z => by omega⟩
  · subst k; rw [sgnI_self]; exact ⟨fun _ => rfl, fun _ => rfl⟩
  · rw [sgnI_gt k]; exact ⟨fun z => absurd z (by decide), fun z => by omega⟩
section
variable {n L : Nat} {g : Int → PyData} {S : Int → Prop} {m : Int → Int}
theorem RL.sgn (r : RL n L g S m) (hL : L ≤ 8500) {c d : Int} (hc : S c) (hd : S d) : sgnI (m c) (m d) = sgnI c d := by
  have h := (ordU hL n).ord (m c) (m d) ⟨r.pos c hc, r.uu c hc⟩ ⟨r.pos d hd, r.uu d hd⟩
  rw [← r.eq c hc, ← r.eq d hd, r.o.ord c d hc hd] at h
  exact h.symm
theorem RL.lt (r : RL n L g S m) (hL : L ≤ 8500) {c d : Int} (hc : S c) (hd : S d) : m c < m d ↔ c < d := by rw [← sgn_lt, r.sgn hL hc hd, sgn_lt]
theorem RL.inj (r : RL n L g S m) (hL : L ≤ 8500) {c d : Int} (hc : S c) (hd : S d) : m c = m d ↔ c = d := by rw [← sgn_eq, r.sgn hL hc hd, sgn_eq]
theorem RL.asc (r : RL n L g S m) (hL : L ≤ 8500) {l : List Int} (asc : l.Pairwise (· < ·)) (hS : ∀ c ∈ l, S c) : (l.map m).Pairwise (· < ·) :=
  List.pairwise_map.mpr (asc.imp_of_mem fun ha hb h => (r.lt hL (hS _ ha) (hS _ hb)).mpr h)
theorem RL.tl (r : RL n L g S m) (hL : L ≤ 8500) {z : Int} (hS : ∀ c ∈ Tl z, S c) : Tl (rl m z) = (Tl z).map m :=
  tl_av (r.asc hL (tl_asc z) hS) fun t ht => by
    obtain ⟨c, hc, rfl⟩ := List.mem_map.mp ht
    exact r.pos c (hS c hc)
theorem RL.num (r : RL n L g S m) (hL : L ≤ 8500) {z : Int} (hS : ∀ c ∈ Tl z, S c) (ll : (Tl z).length ≤ L) : numD g z = gU (n + 1) (rl m z) ∧ UU L (n + 1) (rl m z) := by
  have e := r.tl hL hS
  refine ⟨?_, by rw [e, List.length_map]; exact ll, fun t ht => ?_⟩
  · show rowD ((Tl z).map g) = rowD ((Tl (rl m z)).map (gU n))
    rw [e, List.map_map]
    congr 1
    exact List.map_congr_left fun c hc => r.eq c (hS c hc)
  · rw [e] at ht
    obtain ⟨c, hc, rfl⟩ := List.mem_map.mp ht
    exact r.uu c (hS c hc)
theorem RL.nn (r : RL n L g S m) (hL : L ≤ 8500) {z : Int} (hS : ∀ c ∈ Tl z, S c) (h0 : 0 ≤ z) : 0 ≤ rl m z := by
  refine av_nn (r.asc hL (tl_asc z) hS) (fun t ht => ?_) ?_
  · obtain ⟨c, hc, rfl⟩ := List.mem_map.mp ht
    exact r.pos c (hS c hc)
  · rw [List.length_map]
    unfold Tl
    rw [len_zs]
    exact even_turns h0
/-- one level up -/
theorem RL.up (r : RL n L g S m) (hL : L ≤ 8500) {S' : Int → Prop} (hS : ∀ z, S' z → 0 ≤ z ∧ (∀ c ∈ Tl z, S c) ∧ (Tl z).length ≤ L) : RL (n + 1) L (numD g) S' (rl m) where
  o := (ordN_num r.o).sub fun z h => ⟨(hS z h).1, (hS z h).2.1, by have := (hS z h).2.2; omega⟩
  eq := fun z h => (r.num hL (hS z h).2.1 (hS z h).2.2).1
  uu := fun z h => (r.num hL (hS z h).2.1 (hS z h).2.2).2
  pos := fun z h => r.nn hL (hS z h).2.1 (hS z h).1
end
/-! ### sums of codes are sums of what they stand for -/
def pvA (A : Nat → Int) (p : Nat) : Nat := (A (p / 200) + ((p % 200 : Nat) : Int)).toNat
theorem grp (A : Nat → Int) (A0 : ∀ k, 0 ≤ A k) : ∀ (l : List Nat) (s : Int), (s = 1 ∨ s = -1) → (∀ p ∈ l, p < 800 ∧ p % 200 < 64) →
    ∃ e : Nat → Int, (∀ k, -((l.length : Int) * 9223372036854775808) ≤ e k ∧ e k ≤ (l.length : Int) * 9223372036854775808) ∧ alt s l = e 0 + 2 ^ 200 * (e 1 + 2 ^ 200 * (e 2 + 2 ^ 200 * e 3)) ∧
      alt s (l.map (pvA A)) = e 0 * 2 ^ (A 0).toNat + e 1 * 2 ^ (A 1).toNat + e 2 * 2 ^ (A 2).toNat + e 3 * 2 ^ (A 3).toNat
  | [], s, _, _ => ⟨fun _ => 0, fun k => by simp, by show (0 : Int) = 0 + 2 ^ 200 * (0 + 2 ^ 200 * (0 + 2 ^ 200 * 0)); omega, by show (0 : Int) = 0 * _ + 0 * _ + 0 * _ + 0 * _; simp⟩
  | p :: r, s, hs, hp => by
    obtain ⟨e, hb, h1, h2⟩ := grp A A0 r (-s) (by omega) fun q hq => hp q (List.mem_cons_of_mem _ hq)
    have hpp := hp p List.mem_cons_self
    have tb : (2 : Int) ^ (p % 200) ≤ 9223372036854775808 := by
      have := p_le (a := p % 200) (b := 63) (by omega)
      have e63 : (2 : Int) ^ 63 = 9223372036854775808 := by decide
      omega
    have tp : (0 : Int) < 2 ^ (p % 200) := Int.pow_pos (by decide)
    refine ⟨fun k => if k = p / 200 then e k + s * 2 ^ (p % 200) else e k, fun k => ?_, ?_, ?_⟩
    · have := hb k
      rw [List.length_cons]
      dsimp only
      generalize (2 : Int) ^ (p % 200) = t at tb tp ⊢
      rcases hs with rfl | rfl <;> split <;> omega
    · show s * 2 ^ p + alt (-s) r = _
      rw [h1]
      have ep : p = 200 * (p / 200) + p % 200 := by omega
      have e2 : (2 : Int) ^ p = 2 ^ (200 * (p / 200)) * 2 ^ (p % 200) := by rw [← Int.pow_add, ← ep]
      rw [e2]
      dsimp only
      have hk : p / 200 = 0 ∨ p / 200 = 1 ∨ p / 200 = 2 ∨ p / 200 = 3 := by omega
      generalize (2 : Int) ^ (p % 200) = t at tb tp ⊢
      have q2 : (2 : Int) ^ 400 = 2 ^ 200 * 2 ^ 200 := by rw [← Int.pow_add]
      have q3 : (2 : Int) ^ 600 = 2 ^ 200 * (2 ^ 200 * 2 ^ 200) := by rw [← Int.pow_add, ← Int.pow_add]
      rcases hk with h | h | h | h <;> rw [h] <;> simp only [Nat.reduceMul, Nat.reduceEqDiff, if_true, if_false, ↓reduceIte]
      · rcases hs with rfl | rfl <;> omega
      · rcases hs with rfl | rfl <;> omega
      · rw [q2]
        rcases hs with rfl | rfl <;> omega
      · rw [q3]
        rcases hs with rfl | rfl <;> omega
    · show s * 2 ^ (pvA A p) + alt (-s) (r.map (pvA A)) = _
      rw [h2]
      have ep : pvA A p = (A (p / 200)).toNat + p % 200 := by
        unfold pvA
        have := A0 (p / 200)
        omega
      rw [ep, Int.pow_add]
      dsimp only
      have hk : p / 200 = 0 ∨ p / 200 = 1 ∨ p / 200 = 2 ∨ p / 200 = 3 := by omega
      generalize (2 : Int) ^ (p % 200) = t
      have add : ∀ a T : Int, (a + s * t) * T = a * T + s * (T * t) := fun a T => by rw [Int.add_mul, Int.mul_assoc, Int.mul_comm t T]
      rcases hk with h | h | h | h <;> rw [h] <;> simp only [Nat.reduceEqDiff, ↓reduceIte]
      all_goals rw [add]
      all_goals omega
theorem uniq4 {f0 f1 f2 f3 : Int} (h0 : -(2 ^ 100) ≤ f0 ∧ f0 ≤ 2 ^ 100) (h1 : -(2 ^ 100) ≤ f1 ∧ f1 ≤ 2 ^ 100) (h2 : -(2 ^ 100) ≤ f2 ∧ f2 ≤ 2 ^ 100) (h3 : -(2 ^ 100) ≤ f3 ∧ f3 ≤ 2 ^ 100) (h : f0 + 2 ^ 200 * (f1 + 2 ^ 200 * (f2 + 2 ^ 200 * f3)) = 0) : f0 = 0 ∧ f1 = 0 ∧ f2 = 0 ∧ f3 = 0 := by
  have a : f0 = 0 := by
    generalize f1 + 2 ^ 200 * (f2 + 2 ^ 200 * f3) = M at h
    omega
  subst a
  have h' : f1 + 2 ^ 200 * (f2 + 2 ^ 200 * f3) = 0 := by
    generalize f1 + 2 ^ 200 * (f2 + 2 ^ 200 * f3) = M at h
    omega
  have b : f1 = 0 := by
    generalize f2 + 2 ^ 200 * f3 = M at h'
    omega
  subst b
  have h'' : f2 + 2 ^ 200 * f3 = 0 := by
    generalize f2 + 2 ^ 200 * f3 = M at h'
    omega
  have c : f2 = 0 := by omega
  subst c
  exact ⟨rfl, rfl, rfl, by omega⟩
def pvI (A : Nat → Int) (c : Int) : Int := (pvA A c.toNat : Int)
theorem rl_pv (A : Nat → Int) (x : Int) : rl (pvI A) x = alt (-1) ((turnsN x).map (pvA A)) := by
  unfold rl av Tl zs
  rw [List.map_map, List.map_map]
  rfl
/-- codes whose turns lie in the fields -/
def Cp (c : Int) : Prop := ∀ p ∈ turnsN c, p < 800 ∧ p % 200 < 64
theorem rl_add (A : Nat → Int) (A0 : ∀ k, 0 ≤ A k) {x y z : Int} (hx : Cp x) (hy : Cp y) (hz : Cp z) (lx : (turnsN x).length ≤ 2000) (ly : (turnsN y).length ≤ 2000) (lz : (turnsN z).length ≤ 2000) (h : x = y + z) : rl (pvI A) x = rl (pvI A) y + rl (pvI A) z := by
  obtain ⟨e, eb, e1, e2⟩ := grp A A0 (turnsN x) (-1) (.inr rfl) hx
  obtain ⟨f, fb, f1, f2⟩ := grp A A0 (turnsN y) (-1) (.inr rfl) hy
  obtain ⟨g, gb, g1, g2⟩ := grp A A0 (turnsN z) (-1) (.inr rfl) hz
  rw [turns_alt] at e1 f1 g1
  have bd : ∀ k, -(2 ^ 100) ≤ e k - f k - g k ∧ e k - f k - g k ≤ 2 ^ 100 := fun k => by
    have := eb k
    have := fb k
    have := gb k
    omega
  have u := uniq4 (bd 0) (bd 1) (bd 2) (bd 3) (by
    have n200 : (2 : Int) ^ 200 = 1606938044258990275541962092341162602522202993782792835301376 := by decide +kernel
    rw [n200] at *
    omega)
  rw [rl_pv, rl_pv, rl_pv, e2, f2, g2, show e 0 = f 0 + g 0 by omega, show e 1 = f 1 + g 1 by omega, show e 2 = f 2 + g 2 by omega, show e 3 = f 3 + g 3 by omega, Int.add_mul, Int.add_mul, Int.add_mul, Int.add_mul]
  omega
/-- the places of the fields -/
def plD (fs : List PyData) : Int → PyData := fun a => placeD fs a.toNat
theorem moved_num (fs : List PyData) (c : Int) : movedD fs c = numD (plD fs) c := moved_row fs c
theorem rl_place {fs : List PyData} (F : Fields fs) : ∃ A : Nat → Int, (∀ k, 0 ≤ A k) ∧ RL 3 1000 (plD fs) Pl (pvI A) := by
  obtain ⟨A, a0, an, k⟩ := field_vals F
  refine ⟨A, an, ordN_place F, fun c h => ?_, fun c h => ?_, fun c h => by unfold pvI; omega⟩
  · have e := (k c.toNat (by have := h.2.1; have := h.1; omega) (by have := h.2.2; have := h.1; omega)).1
    have := an (c.toNat / 200)
    unfold pvI pvA
    rw [Int.toNat_of_nonneg (by omega)]
    exact e
  · have u := (k c.toNat (by have := h.2.1; have := h.1; omega) (by have := h.2.2; have := h.1; omega)).2
    have := an (c.toNat / 200)
    unfold pvI pvA
    rw [Int.toNat_of_nonneg (by omega)]
    exact uu_wide (by decide) u
theorem cp_of {c : Int} (h : Cq c) : Cp c ∧ (∀ t ∈ Tl c, Pl t) ∧ (Tl c).length ≤ 800 := by
  refine ⟨fun p hp => ?_, fun t ht => ?_, ?_⟩
  · have q := h.2.2 p hp
    unfold Pl at q
    omega
  · obtain ⟨p, hp, rfl⟩ := List.mem_map.mp ht
    exact h.2.2 p hp
  · unfold Tl
    rw [len_zs]
    exact len_turns h.1 h.2.1
end Fb
namespace Fb
open PySem L2
/-! ### codes as integers -/
theorem code_map {fs : List PyData} (F : Fields fs) : ∃ m : Int → Int, RL 4 1000 (movedD fs) Cq m ∧ m 0 = 0 ∧ ∀ x y z, Cq x → Cq y → Cq z → x = y + z → m x = m y + m z := by
  obtain ⟨A, an, r⟩ := rl_place F
  have e : movedD fs = numD (plD fs) := funext fun c => moved_num fs c
  refine ⟨rl (pvI A), ?_, ?_, fun x y z hx hy hz h => rl_add A an (cp_of hx).1 (cp_of hy).1 (cp_of hz).1 ?_ ?_ ?_ h⟩
  · rw [e]
    exact r.up (by decide) fun z hz => ⟨hz.1, (cp_of hz).2.1, by have := (cp_of hz).2.2; omega⟩
  · unfold rl
    rw [tl_zero]
    rfl
  all_goals
    first
      | (have := (cp_of hx).2.2; unfold Tl at this; rw [len_zs] at this; omega)
      | (have := (cp_of hy).2.2; unfold Tl at this; rw [len_zs] at this; omega)
      | (have := (cp_of hz).2.2; unfold Tl at this; rw [len_zs] at this; omega)
/-! ### sums and differences of codes -/
def CqB (B N : Nat) (c : Int) : Prop := 0 ≤ c ∧ c < 2 ^ N ∧ ∀ p ∈ turnsN c, p % 200 ≤ B
theorem CqB.cq {B N : Nat} {c : Int} (h : CqB B N c) (hb : B ≤ 63) (hN : N ≤ 798) : Cq c := by
  have lt : c < 2 ^ 799 := Int.lt_of_lt_of_le h.2.1 (p_le (by omega))
  refine ⟨h.1, lt, fun p hp => ?_⟩
  have a := h.2.2 p hp
  have b := turns_lt (x := c) (n := N) (by have := h.1; have := Int.pow_pos (n := 2) (m := N) (by decide); omega) h.2.1 p hp
  exact ⟨by omega, by omega, by omega⟩
theorem CqB.up {B B' N N' : Nat} {c : Int} (h : CqB B N c) (e : B ≤ B') (e' : N ≤ N') : CqB B' N' c := ⟨h.1, Int.lt_of_lt_of_le h.2.1 (p_le e'), fun p hp => Nat.le_trans (h.2.2 p hp) e⟩
theorem codeW_B {j : Nat} {c : Int} (h : CodeW 4 j c) (hj : j ≤ 1000) : CqB 60 661 c := by
  have hb : CodeB 4 (2 ^ 60) c := h.1.mono (by unfold cb; omega)
  have l := code_lt hb (by decide) (by decide) (Int.le_refl _)
  exact ⟨l.1, l.2, fun p hp => (code_places60 hb p hp).2⟩
theorem tl_turns {x t : Int} : t ∈ Tl x ↔ 0 ≤ t ∧ t.toNat ∈ turnsN x := by
  constructor
  · intro h
    obtain ⟨p, hp, rfl⟩ := List.mem_map.mp h
    exact ⟨Int.natCast_nonneg p, hp⟩
  · rintro ⟨h0, h⟩
    exact List.mem_map.mpr ⟨t.toNat, h, by show ((t.toNat : Nat) : Int) = t; omega⟩
end Fb
namespace Fb
open PySem L2
section
variable {P : Program} {w : World} {K : PySem.W.Frag} {mg : Str → Option Value} {base : Heap} {f : Addr} {fd : FuncData}
abbrev S__law_size : Stmt := top 24
abbrev N__law_size : List Str := ["_law_form_here", "_law_one"]
abbrev P__law_size : List Str := ["_law_form_here"]
theorem sc__law_size : FnScope N__law_size P__law_size (defScope S__law_size) := ⟨rfl, rfl, rfl, by decide +kernel, rfl, by decide +kernel, by decide +kernel⟩
theorem ok_lsize_step {n : Nat} (F : Fun K "_law_size" "_law_size" S__law_size f fd) (B : Blt mg) (C_law_size : Has P w K mg base n "_law_size" P__law_size [] (spCount K sz n)) : FnOk P w K mg base CX0 (n + 1) f fd P__law_size (spCount K sz (n + 1)) := by
  have nd := sc__law_size.nd
  refine F.ok sc__law_size (fun vs H Q E h => ?_) (fun cdv A outer s H vs Q E hr h => ?_)
  · obtain ⟨v, d, rfl, _⟩ := h
    rfl
  obtain ⟨v, d, rfl, hd, hf, q⟩ := h
  refine ⟨_, (pss_one (ps_ret (pe_ifExp (pt_val (pe_callB (call_isiI K) (by rfl) B.isinstance (by decide +kernel) (pa_cons (pv 0) (pa_cons (pe_bltn (by rfl) B.int (by decide +kernel) (show RelV (.ty "int") (.type "int") from rfl)) pa_nil)))) pe_int (pe_op op_add pe_int (pe_callB (cr_sum rfl) (by rfl) B.sum (by decide +kernel) (pa_cons (pe_lc (own := [("_law_one", 1)]) (g := gName 1) (tt := tYes) rfl nd (pi_tup (pv 0)) (blkOk_by (own := [("_law_one", 1)]) (N := N__law_size) (sc := defScope S__law_size) (by decide +kernel)) (fun _ _ _ _ _ => pg_name (i := 1) nd rfl (Or.inl rfl)) (fun _ _ _ _ _ => pts_nil) (fun _ _ _ _ _ => (pe_H C_law_size hr rfl (pa_cons (pv 1) pa_nil)))) pa_nil)))))), ?_⟩
  refine ⟨_, rfl, _, d, rfl, hd, _, rfl, ?_⟩
  refine ite2 (fun c => ?_) (fun c => ?_)
  · have e : sz n d = 1 := by cases d <;> first | exact absurd c Bool.false_ne_true | (cases n <;> rfl)
    rw [e] at q
    exact q H (Same.refl H)
  · cases n with
    | zero =>
      obtain ⟨i, rfl⟩ := hf
      exact absurd rfl c
    | succ k =>
      rcases hf with ⟨i, rfl⟩ | ⟨ds, rfl, hl, hc⟩
      · exact absurd rfl c
      cases hd with
      | @tup a xs _ hs ha =>
        refine ⟨_, rfl, a, rfl, ⟨_, hs⟩, fun D nD => ?_⟩
        have hlen := dps_length ha
        refine lc_tup (xs := xs) (fun i H' => Same H H' ∧ H' D = some (.lst (((ds.take i).map (sz k)).map V.int))) ⟨Same.new nD, upd_same⟩ (fun i H' _ p => (Nd.of p.1).sqt hs) (fun i x H' hx p => ?_) (fun H' p => ?_)
        · obtain ⟨e, hD⟩ := p
          obtain ⟨d1, hd1, hp1⟩ := dps_get ha hx
          have hi : i < ds.length := (List.getElem?_eq_some_iff.mp hd1).1
          have hm : d1 ∈ ds := List.mem_of_getElem? hd1
          have et : ds.take (i + 1) = ds.take i ++ [d1] := by rw [List.take_add_one, hd1]; rfl
          refine ⟨rfl, lcT ?_⟩
          refine ⟨_, rfl, x, d1, rfl, (Nd.of e).d hp1, hc d1 hm, fun H4 e4 => ?_⟩
          refine ⟨_, e4 _ _ hD, ?_, Same.mut (e.trans e4) nD, ?_⟩
          · rw [List.length_map, List.length_map, List.length_take]
            exact Nat.lt_of_le_of_lt (Nat.min_le_right _ _) (Nat.lt_of_le_of_lt hl (by decide))
          · rw [upd_same, et, List.map_append, List.map_append]
            rfl
        · obtain ⟨e, hD⟩ := p
          rw [show xs.length = ds.length from hlen, List.take_length] at hD
          refine ⟨_, _, rfl, SqL.of hD, _, _, rfl, rfl, ?_⟩
          exact q H' e
theorem ok_lsize (F : Fun K "_law_size" "_law_size" S__law_size f fd) (B : Blt mg) (b : Binds K fd P__law_size []) (m : mg "_law_size" = some (.ref f)) : ∀ n : Nat, FnOk P w K mg base CX0 n f fd P__law_size (spCount K sz n)
  | 0 => fnok_no
  | n + 1 => ok_lsize_step F B ⟨f, fd, [], ok_lsize F B b m n, F.kp, m, .nil, b⟩
end
end Fb
namespace Fb
open PySem L2
/-! ### a call by keywords alone -/
structure HasK (P : Program) (w : World) (K : PySem.W.Frag) (mg : Str → Option Value) (base : Heap) (k : Nat) (x : Str) (ps ks : List Str) (sp : Sp) : Prop where
  ex : ∃ f fd g, FnOk P w K mg base CX0 k f fd ps sp ∧ PySem.W.keepIn K (.ref f) = true ∧ mg x = some (.ref f) ∧ KBinds K fd ps ks g (fun us ws => us ++ ws)
theorem pe_HK0 {X : Cx} {k : Nat} {x : Str} {ps ks : List Str} {sp : Sp} {kws : List Keyword} {tk : TA} {p pos : Pos} (C : HasK X.prog X.w X.K X.mg X.base k x ps ks sp) (hr : Room k X.A) (hg : Gl X x) (hkw : PK X kws tk)
    (hall : (backToKw pos (keywordEach kws X.env)).all (·.1.isSome) = true := by rfl) (hks : (backToKw pos (keywordEach kws X.env)).filterMap (·.1) = ks := by rfl) (hdb : (x == ("__debug__" : Str)) = false := by decide)
    (hpl : ((backTo pos (starEach [] X.env)).any (·.1) || (backToKw pos (keywordEach kws X.env)).any (·.1.isNone)) = false := by rfl) : PE X (.Call (.Name x p) [] kws pos) (tCallK sp (fun us ws => us ++ ws) E0 tNil tk) := by
  obtain ⟨f, fd, g, F, hk, hm, hb⟩ := C.ex
  refine ⟨fun pins s σ H Q I h => ?_⟩
  refine wpAny_Call_Name_kw (ld_glob I hg hm ?_ hdb)
  refine PySem.W.callWith_KW0 (h₀ := X.base) I.ok.mod.kin hk hall (thn (hkw.run pos pins s σ H _ I h) fun ws s2 ⟨zs, H2, I2, rz, q2⟩ => ⟨I2.kIn, ?_⟩) hpl
  rw [hks]
  exact run_fnk (us := []) (vs := []) F hr hb pass0 I2 .nil rz q2
theorem vals_app {vs zs : List V} {us ws : List Value} (h : Vals vs us) (g : Vals zs ws) : Vals (vs ++ zs) (us ++ ws) := by
  induction h with
  | nil => exact g
  | cons a _ ih => exact .cons a ih
theorem Fun.kb1 {K : PySem.W.Frag} {x qual m : Str} {st : Stmt} {f : Addr} {fd : FuncData} (F : Fun K x qual st f fd)
    (h0 : ∀ (kV doc pm : Value) (an : Option Addr) (cdv ct u : Value), bindArgs (PySem.W.fnOf x qual (defArgs st) (defBody st) (defScope st) .none kV doc pm an cdv ct) ⟨[], [(m, u)]⟩ = pure [(m, u)])
    (h1 : ∀ (kV doc pm : Value) (an : Option Addr) (cdv ct u : Value), bindArgs (PySem.W.fnOf x qual (defArgs st) (defBody st) (defScope st) .none kV doc pm an cdv ct) ⟨[u], []⟩ = pure [(m, u)]) : KBinds K fd [m] [m] (fun us ws => us ++ ws) (fun us ws => us ++ ws) := by
  obtain ⟨oc, od, kV, doc, pm, an, cdv, ct, osl, rfl, lk, hcd⟩ := F.ex
  exact ⟨fun s us ws _ hl => match us, ws, hl with
    | [], [u], _ => .of_eq (h0 kV doc pm an cdv ct u)
    | [u], [], _ => .of_eq (h1 kV doc pm an cdv ct u), fun h g => vals_app h g⟩
end Fb
namespace Fb
open PySem L2 PySem.Spec PyProof.Rows
theorem nol_gU : ∀ (n : Nat) (z : Int), UU 3000 n z → NoL (gU n z)
  | 0, z, _ => .int z
  | n + 1, z, u => by
    rcases tl_data u with ⟨_, e, _⟩ | ⟨_, e⟩
    · rw [e]; exact .int z
    · rw [e]
      refine .tup ?_
      have key : ∀ l : List Int, (∀ t ∈ l, UU 3000 n t) → NoLs (l.map (gU n)) := by
        intro l
        induction l with
        | nil => exact fun _ => .nil
        | cons t l ih => exact fun h => .cons (nol_gU n t (h t List.mem_cons_self)) (ih fun x hx => h x (List.mem_cons_of_mem _ hx))
      exact key _ u.2
theorem sm_gU : ∀ (i n : Nat) (z : Int), UU 3000 n z → Sm i (gU n z)
  | 0, _, _, _ => trivial
  | i + 1, 0, z, _ => trivial
  | i + 1, n + 1, z, u => by
    rcases tl_data u with ⟨_, e, _⟩ | ⟨_, e⟩
    · rw [e]; trivial
    · rw [e]
      refine ⟨by rw [List.length_map]; exact u.1, fun d hd => ?_⟩
      obtain ⟨t, ht, rfl⟩ := List.mem_map.mp hd
      exact sm_gU i n t (u.2 t ht)
theorem fq_codes {fs : List PyData} (F : Fields fs) {cs : List Int} (h : ∀ c ∈ cs, CodeW 4 5 c) (asc : cs.Pairwise (· < ·)) (l5 : cs.length ≤ 5) : ∃ z, codesD fs cs = gU 5 z ∧ UU 2990 5 z ∧ Fq 5 6408140 (gU 5 z) ∧ Codes cs ∧ ∀ c ∈ cs, ∀ p ∈ turnsN c, p / 200 < 4 := by
  have cd : ∀ c ∈ cs, Cd c := fun c hc => (h c hc).1.mono (by unfold cb; omega)
  have cq : ∀ c ∈ cs, Cq c := fun c hc => (codeW_B (h c hc) (by decide)).cq (by decide) (by decide)
  have C1 : Codes cs := ⟨asc, fun c hc => (cd c hc).b, by omega⟩
  obtain ⟨zx, rfl⟩ : ∃ z, cs = Tl z := ⟨av cs, (tl_av asc fun t ht => (cd t ht).b.1).symm⟩
  obtain ⟨m, r, m0, lin⟩ := code_map F
  obtain ⟨e, u⟩ := r.num (by decide) (z := zx) cq (by omega)
  have ec : codesD fs (Tl zx) = gU 5 (rl m zx) := e
  refine ⟨rl m zx, ec, uu_wide (by decide) u, ⟨?_, nol_gU 5 _ (uu_wide (by decide) u), fun i => sm_gU i 5 _ (uu_wide (by decide) u)⟩, C1, ?_⟩
  · rw [← ec]
    exact (sw_codes F cd asc).mono (Nat.le_refl _) (by omega)
  · intro c hc p hp
    have := turns_lt (x := c) (n := 799) (by have := (cd c hc).b; omega) (cd c hc).b.2 p hp
    omega
theorem snd_iff {n : Nat} {P : Int} {d : PyData} (hP : 1 ≤ P) : 0 < sndD n P d ↔ Vd n d ∧ sz n d ≤ P := by
  constructor
  · intro h
    obtain ⟨v, e⟩ := snd_vd (n := n) (P := P) (d := d) (by omega)
    refine ⟨v, ?_⟩
    rcases vd_kind v with ⟨i, rfl⟩ | ⟨ds, rfl, _⟩
    · rw [sz_int]; exact hP
    · refine Classical.byContradiction fun c => ?_
      rw [snd_tup0 fun g => c g.2] at h
      omega
  · rintro ⟨v, h⟩
    have k := vd_snd v h
    have := (snd_vd k).2
    have := sz_one n d
    omega
theorem snd_pl (num : Int) : (0 < sndD 6 2000 (.int num)) ↔ plain num := by
  rw [snd_iff (by decide), vd_int]
  exact ⟨fun h => h.1, fun h => ⟨h, by rw [sz_int]; decide⟩⟩
theorem snd_yes : 0 < sndD 6 2000 (.tuple [.int 64, .int 65]) := by
  have v : Vd 6 (.tuple [.int 64, .int 65]) := by
    have := vd_mk (n := 5) (ts := [64, 65]) (by simp) (fun t ht => by
      simp at ht
      rcases ht with rfl | rfl
      · exact su_small (by decide) (by decide) (by decide)
      · exact su_small (by decide) (by decide) (by decide)) (by show 2 ≤ 3000; decide) (t := 65) (by simp) (by decide)
    rw [show ([64, 65] : List Int).map (gU 5) = [.int 64, .int 65] from by
      show [gU 5 64, gU 5 65] = _
      rw [gU_plain (by decide), gU_plain (by decide)]] at this
    exact this
  refine (snd_iff (by decide)).mpr ⟨v, ?_⟩
  rw [sz_tup]
  show 1 + (sz 5 (.int 64) + (sz 5 (.int 65) + 0)) ≤ 2000
  rw [sz_int, sz_int]
  decide
theorem snd_no : ¬ 0 < sndD 6 2000 (.tuple [.int 0, .int 64]) := by
  intro h
  obtain ⟨z, np, ez, hS⟩ := vd_entries ((snd_iff (by decide)).mp h).1
  refine np (tl_near.mpr fun c hc => ?_)
  have : gU 5 c ∈ (Tl z).map (gU 5) := List.mem_map_of_mem hc
  rw [← ez] at this
  simp at this
  rcases this with e | e
  · have := gU_injU (n := 5) (hS c hc).2 (uu_plain (by decide) (by decide)) (e.trans (gU_plain (n := 5) (z := 0) (by decide)).symm)
    omega
  · have := gU_injU (n := 5) (hS c hc).2 (uu_plain (by decide) (by decide)) (e.trans (gU_plain (n := 5) (z := 64) (by decide)).symm)
    omega
theorem vd_fm {n : Nat} {d : PyData} (h : Vd (n + 1) d) : Fm (n + 1) d := by
  obtain ⟨z, u, rfl⟩ := h
  exact num_fm (ordU (L := 3000) (by decide) n) (uu_num (by decide) u)
theorem str_bool (a b : Bool) : decide (((if a then "True" else "False" : String) : Str) ≠ ((if b then "True" else "False" : String) : Str)) = decide (a ≠ b) := by
  cases a <;> cases b <;> decide +kernel
section
variable {P : Program} {w : World} {K : PySem.W.Frag} {mg : Str → Option Value} {base : Heap} {f : Addr} {fd : FuncData}
abbrev S_law : Stmt := top 34
abbrev N_law : List Str := ["_law_script", "_law_tape", "_law_thing", "_law_due", "_law_lap", "_law_fields_here", "_law_form_here", "_law_kept", "_law_number"]
abbrev P_law : List Str := ["_law_script"]
theorem sc_law : FnScope N_law P_law (defScope S_law) := ⟨rfl, rfl, rfl, by decide +kernel, rfl, by decide +kernel, by decide +kernel⟩
def spLaw (K : PySem.W.Frag) : Sp := fun vs H Q _ => ∃ (a : Addr) (ns : List Int), vs = [.ref a] ∧ SqL K H a (ns.map V.int) ∧ ns.length ≤ 63 ∧ ∀ H', Q (.bl true) H'
open Classical in
theorem ok_law (F : Fun K "law" "law" S_law f fd) (B : Blt mg) (C_law_begin : Has P w K mg base 1 "_law_begin" P__law_begin [] (spBegin K)) (C_law_draw : Has P w K mg base 1 "_law_draw" P__law_draw [] (spDraw K)) (C_law_pick : Has P w K mg base 2 "_law_pick" P__law_pick [] (spPick K))
    (C_law_limits : Has P w K mg base 2 "_law_limits" P__law_limits [] (spLim K))
    (C_law_fields : Has P w K mg base 3 "_law_fields" P__law_fields [] (spFields K)) (C_law_codes_d : Has P w K mg base 4 "_law_codes" P__law_codes [.non] (spCodes K)) (C_law_form_of_codes : Has P w K mg base 4 "_law_form_of_codes" P__law_form_of_codes [] (spFoc K))
    (C_law_otherwise : Has P w K mg base 20 "_law_otherwise" P__law_otherwise [] (spOth K 5)) (C_law_is_own_form : Has P w K mg base 20 "_law_is_own_form" P__law_is_own_form [] (spOwn K 7)) (C_law_size : Has P w K mg base 20 "_law_size" P__law_size [] (spCount K sz 7))
    (Cis_form : Has P w K mg base 20 "is_form" P_is_form [] (spIsF K)) (Cis_form_k : HasK P w K mg base 20 "is_form" P_is_form ["value"] (spIsF K)) : FnG P w K mg base 21 f fd P_law (spLaw K) := by
  have nd := sc_law.nd
  refine fng_of F sc_law (fun vs H Q E h => ?_) (fun cdv A outer s H vs Q E hr ng h => ?_)
  · obtain ⟨a, ns, rfl, _⟩ := h
    rfl
  obtain ⟨a, ns, rfl, hS, h63, q⟩ := h
  have hu : (A.deeper (PyProof.Rows.envOfC "law" (defScope S_law) s.heap.objs.size f cdv)).units + 64 < cLine := by have := hr.un; omega
  refine ⟨_, (pss_cons (ps_set (i := 1) nd rfl (Or.inl rfl) (pe_H C_law_begin (hr.mono (by omega)) rfl (pa_cons (pv 0) pa_nil)))
    (pss_cons (ps_for PassesOwn.never rfl (pi_list (pe_H C_law_limits (hr.mono (by omega)) rfl (pa_cons (pv 1) pa_nil))) (pg_tup rfl (pgs_cons (pg_name (i := 2) nd rfl (Or.inl rfl)) (pgs_cons (pg_name (i := 3) nd rfl (Or.inl rfl)) pgs_nil))) (pss_one (ps_if (pt_cmpR op_ne (pe_callB call_reprB0 (by rfl) B.repr (by decide +kernel) (pa_cons (pe_H Cis_form (hr.mono (by omega)) rfl (pa_cons (pv 2) pa_nil)) pa_nil)) (pe_callB call_reprB0 (by rfl) B.repr (by decide +kernel) (pa_cons (pv 3) pa_nil)) (nomark _)) (pss_one (ps_ret pe_bl)) pss_nil)))
    (pss_cons (ps_for PassesOwn.never rfl (pi_range1 (by rfl) B.range (pa_cons pe_int pa_nil)) (pg_name (i := 4) nd rfl (Or.inl rfl)) (pss_cons (ps_set (i := 5) nd rfl (Or.inl rfl) (pe_H C_law_fields (hr.mono (by omega)) rfl (pa_cons (pv 1) (pa_cons pe_int pa_nil))))
    (pss_cons (ps_set (i := 6) nd rfl (Or.inl rfl) (pe_H C_law_form_of_codes (hr.mono (by omega)) rfl (pa_cons (pe_H C_law_codes_d (hr.mono (by omega)) rfl (pa_cons (pv 1) (pa_cons pe_int (pa_cons (pe_op op_add pe_int (pe_H C_law_draw (hr.mono (by omega)) rfl (pa_cons (pv 1) (pa_cons pe_int pa_nil)))) pa_nil)))) (pa_cons (pv 5) pa_nil))))
    (C8.pss_cut (ps_set (i := 2) nd rfl (Or.inl rfl) (pe_ifExp (pt_cmpR op_lt (pv 4) pe_int (nomark _)) (pe_H C_law_otherwise (hr.mono (by omega)) rfl (pa_cons (pv 1) (pa_cons (pv 6) (pa_cons pe_int pa_nil)))) (pv 6)))
    (pss_cons (ps_set (i := 7) nd rfl (Or.inl rfl) (pe_callB (call_reprQ ng hu) (by rfl) B.repr (by decide +kernel) (pa_cons (pv 2) pa_nil)))
    (C8.pss_cut (ps_set (i := 3) nd rfl (Or.inl rfl) (pe_and (pe_H C_law_is_own_form (hr.mono (by omega)) rfl (pa_cons (pv 2) (pa_cons pe_int pa_nil))) (pe_one (pe_cmpR op_le (pe_H C_law_size (hr.mono (by omega)) rfl (pa_cons (pv 2) pa_nil)) pe_int (nomark _)))))
    (pss_cons (ps_if (PW.pt (pw_or (pt_cmpR op_ne (pe_callB call_reprB0 (by rfl) B.repr (by decide +kernel) (pa_cons (pe_HK0 Cis_form_k (hr.mono (by omega)) rfl (pk_cons (pv 2) pk_nil)) pa_nil)) (pe_callB call_reprB0 (by rfl) B.repr (by decide +kernel) (pa_cons (pv 3) pa_nil)) (nomark _)) (pw_or1 (pt_cmpR op_ne (pe_callB (call_reprQ ng hu) (by rfl) B.repr (by decide +kernel) (pa_cons (pv 2) pa_nil)) (pv 7) (nomark _))))) (pss_one (ps_ret pe_bl)) pss_nil)
    (pss_cons (ps_set (i := 8) nd rfl (Or.inl rfl) (pe_op op_mul (pe_H C_law_pick (hr.mono (by omega)) rfl (pa_cons (pv 1) (pa_cons (pe_lst (pa_cons (pe_un un_neg pe_int) (pa_cons pe_int pa_nil))) pa_nil))) (pe_op op_sub (pe_op op_add (pe_op op_pow pe_int pe_int) (pe_H C_law_draw (hr.mono (by omega)) rfl (pa_cons (pv 1) (pa_cons pe_int pa_nil)))) pe_int)))
    (pss_one (ps_if (pt_cmpR op_ne (pe_callB call_reprB0 (by rfl) B.repr (by decide +kernel) (pa_cons (pe_H Cis_form (hr.mono (by omega)) rfl (pa_cons (pv 8) pa_nil)) pa_nil)) (pe_callB call_reprB0 (by rfl) B.repr (by decide +kernel) (pa_cons (pe_chain op_le op_lt (pe_un un_neg (pe_op op_pow pe_int pe_int)) (pv 8) (pe_op op_pow pe_int pe_int)) pa_nil)) (nomark _)) (pss_one (ps_ret pe_bl)) pss_nil))))))))))
    (pss_one (ps_ret (pe_and (pe_cmpR op_isBl (pe_H Cis_form (hr.mono (by omega)) rfl (pa_cons pe_int pa_nil)) pe_bl (nomark _)) (pe_and (pe_cmpR op_isBl (pe_H Cis_form (hr.mono (by omega)) rfl (pa_cons (pe_tup (pa_cons pe_int (pa_cons pe_int pa_nil))) pa_nil)) pe_bl (nomark _)) (pe_one (pe_cmpR op_isBl (pe_H Cis_form (hr.mono (by omega)) rfl (pa_cons (pe_tup (pa_cons pe_int (pa_cons pe_int pa_nil))) pa_nil)) pe_bl (nomark _)))))))))), ?_⟩
  refine ⟨_, rfl, a, ns, rfl, hS, h63, fun τ H0 e0 T0 => ?_⟩
  refine ⟨_, rfl, τ, 100000, rfl, T0.mono (by decide), fun l xs H1 e1 T1 hl hx => ?_⟩
  refine ⟨_, rfl, ⟨_, SqL.of hl⟩, ?_⟩
  refine for_list (xs := xs) (fun i σ H' => ∃ (z2 z3 : Option V), σ = [some (.ref a), some (.ref τ.t), z2, z3, none, none, none, none, none] ∧ Same H1 H')
    ⟨_, _, rfl, Same.refl _⟩ (fun i σ H' _ h => by obtain ⟨_, _, _, e⟩ := h; exact (Nd.of e).sql (SqL.of hl)) (fun i x σ H' hxi h => ?_) (fun σ H' h => ?_)
  · obtain ⟨z2, z3, rfl, e⟩ := h
    obtain ⟨p, v, d, b, rfl, hp, hd, sm, eb⟩ := hx x (List.mem_of_getElem? hxi)
    refine ⟨p, _, rfl, (Nd.of e).sqt hp, rfl, _, _, rfl, _, _, rfl, rfl, ?_⟩
    refine ⟨_, rfl, v, d, rfl, hd.same e, sm, fun H2 e2 => ?_⟩
    refine ⟨_, rfl, _, rfl, _, rfl, rfl, _, rfl, ?_⟩
    rw [eb]
    refine iteDN (fun c => absurd rfl c) (fun _ => ?_)
    exact ⟨_, _, rfl, e.trans e2⟩
  obtain ⟨z2, z3, rfl, e⟩ := h
  have T1' := T1.same e
  refine ⟨_, rfl, (by decide), (by decide), ?_⟩
  refine for_range (lo := 0) (n := 8) (fun i σ H' => ∃ (z2 z3 z4 z5 z6 z7 z8 : Option V), σ = [some (.ref a), some (.ref τ.t), z2, z3, z4, z5, z6, z7, z8] ∧ Tape K τ (1000 * (9 - i)) H')
    ⟨_, _, _, _, _, _, _, rfl, T1'.mono (by omega)⟩ (fun i σ H' hi h => ?_) (fun σ H' h => ?_)
  · obtain ⟨z2, z3, z4, z5, z6, z7, z8, rfl, T⟩ := h
    obtain ⟨k, hk1, hk2⟩ : ∃ k, 1000 * (9 - i) = k + 1000 ∧ k = 1000 * (9 - (i + 1)) := ⟨_, by omega, rfl⟩
    rw [hk1] at T
    refine ⟨_, rfl, τ, 4, k + 990, rfl, by decide, T.mono (by omega), fun l xs fs H2 e2 T2 Fs _ hl hd => ?_⟩
    have lx : xs.length = 4 := by
      obtain ⟨_, _, _, _, _, rfl, _⟩ := Fs.ex
      exact dps_length hd
    refine ⟨_, rfl, _, rfl, τ, _, k + 989, rfl, T2, by decide, lt_BigL (by decide), fun ct H3 e3 T3 ct0 ct1 => ?_⟩
    obtain ⟨cn, rfl⟩ := Int.eq_ofNat_of_zero_le ct0
    have c5 : cn ≤ 4 := by omega
    refine ⟨_, _, rfl, rfl, τ, 4, cn + 1, .non, [], 4, 0, k + 800, ?_, .inl ⟨rfl, rfl⟩, (fun c hc => by cases hc), by decide, by decide, by omega, by decide, by decide, by decide, T3.mono (by omega), fun lo cs H4 e4 T4 _ hlo asc hc hlc => ?_⟩
    · show [V.ref τ.t, V.int 4, V.int (1 + (cn : Int)), V.non] = _
      rw [show (1 : Int) + (cn : Int) = ((cn + 1 : Nat) : Int) by omega]
      rfl
    have cw : ∀ c ∈ cs, CodeW 4 5 c := fun c h => cb_mono (hc c h) (by omega)
    obtain ⟨z, ez, uz, fz, C1, C2⟩ := fq_codes Fs cw asc (by omega)
    refine ⟨_, rfl, lo, l, cs, xs, fs, 4, rfl, SqL.of hlo, SqL.of (e4.lst (e3.lst hl)), e4.ds (e3.ds hd), Fs, C1, C2, fun vf H5 e5 df => ?_⟩
    rw [ez] at df
    have T5 := T4.same e5
    refine ⟨fun σ H' => ∃ (z3 z5 z6 z7 z8 : Option V) (v : V) (d : PyData), σ = [some (.ref a), some (.ref τ.t), some v, z3, some (.int (0 + (i : Int))), z5, z6, z7, z8] ∧ Tape K τ (k + 500) H' ∧ Dq K H' v d ∧ Oq 7 12816500 d, ?_, ?_⟩
    · refine ⟨_, rfl, _, _, rfl, rfl, _, rfl, ?_⟩
      refine iteD (fun c => ?_) (fun c => ?_)
      · refine ⟨_, rfl, _, rfl, τ, vf, z, 0, 6408140, k + 700, rfl, df, uz, fz, T5.mono (by omega), fun x e H6 n6 T6 dx ox => ?_⟩
        exact ⟨_, _, _, _, _, x, e, rfl, T6.mono (by omega), dx, ox.mono (by decide) (by decide)⟩
      · exact ⟨_, rfl, _, _, _, _, _, vf, _, rfl, T5.mono (by omega), .of df, fz.oq.mono (by decide) (by decide)⟩
    rintro σ H6 ⟨z3', z5', z6', z7', z8', v, d, rfl, T6, dv, ov⟩
    refine ⟨_, rfl, v, d, rfl, dv, ov.shq (by decide) (by decide), ?_⟩
    refine ⟨fun σ H' => σ = [some (.ref a), some (.ref τ.t), some v, some (.bl (decide (0 < sndD 6 2000 d))), some (.int (0 + (i : Int))), z5', z6', some (.str d.shown), z8'] ∧ Same H6 H', ?_, ?_⟩
    · refine ⟨_, rfl, v, d, 0, rfl, rfl, dv, ov.m 7, fun H7 e7 => ?_⟩
      have key : decide (0 < sndD 6 2000 d) = (decide (ownD 7 d) && decide (sz 6 d ≤ 2000)) := by
        by_cases v : Vd 6 d <;> by_cases h : sz 6 d ≤ 2000
        · rw [decide_eq_true ((snd_iff (by decide)).mpr ⟨v, h⟩), decide_eq_true (show ownD 7 d from v), decide_eq_true h]; rfl
        · rw [decide_eq_false fun g => h ((snd_iff (by decide)).mp g).2, decide_eq_false h, Bool.and_false]
        · rw [decide_eq_false fun g => v ((snd_iff (by decide)).mp g).1, decide_eq_false (show ¬ ownD 7 d from v), Bool.false_and]
        · rw [decide_eq_false fun g => v ((snd_iff (by decide)).mp g).1, decide_eq_false (show ¬ ownD 7 d from v), Bool.false_and]
      rw [key]
      refine ⟨_, rfl, ?_⟩
      refine iteD (fun c => ?_) (fun c => ?_)
      · have v6 : Vd 6 d := c
        refine ⟨_, rfl, v, d, rfl, Dq.dp 6 (vd_fm v6) (dv.same e7), vd_fm v6, fun H8 e8 => ?_⟩
        refine ⟨_, _, rfl, rfl, ?_⟩
        rw [decide_eq_true c, Bool.true_and]
        exact ⟨rfl, e7.trans e8⟩
      · rw [decide_eq_false c]
        exact ⟨rfl, e7⟩
    rintro σ H7 ⟨rfl, e7⟩
    refine ⟨_, rfl, v, d, rfl, dv.same e7, ov.m 6, fun H8 e8 => ?_⟩
    refine ⟨_, rfl, _, rfl, _, rfl, rfl, _, rfl, ?_⟩
    refine iteDN (fun c => absurd rfl c) (fun _ => ?_)
    refine ⟨_, rfl, v, d, rfl, dv.same (e7.trans e8), ov.shq (by decide) (by decide), _, rfl, rfl, _, rfl, ?_⟩
    refine iteDN (fun c => absurd rfl c) (fun _ => ?_)
    have T8 := (T6.same e7).same e8
    refine ⟨_, rfl, _, rfl, (by show 2 ≤ sizeLine; decide), fun p1 np1 => ?_⟩
    refine ⟨τ, p1, _, k + 400, rfl, SqL.of upd_same, (by simp), (by simp), (T8.new np1).mono (by omega), fun x j H9 e9 T9 hx => ?_⟩
    obtain ⟨sg, rfl⟩ : ∃ sg : Int, x = .int sg := by
      have hm := List.mem_of_getElem? hx
      simp only [List.mem_cons, List.not_mem_nil, or_false] at hm
      rcases hm with rfl | rfl
      · exact ⟨-1, rfl⟩
      · exact ⟨1, rfl⟩
    have sg1 : sg = -1 ∨ sg = 1 := by
      have hm := List.mem_of_getElem? hx
      simp only [List.mem_cons, List.not_mem_nil, or_false] at hm
      rcases hm with h | h
      · left; injection h
      · right; injection h
    refine ⟨_, _, rfl, rfl, cpow (by decide), _, rfl, τ, _, k + 399, rfl, T9, by decide, lt_BigL (by decide), fun d5 Ha ea Ta d50 d51 => ?_⟩
    refine ⟨_, _, rfl, rfl, _, _, rfl, rfl, _, _, rfl, rfl, (by rcases sg1 with h | h <;> exact .inl ⟨by omega, by omega⟩), ?_⟩
    obtain ⟨num, hN⟩ : ∃ num, num = sg * ((2 : Int) ^ (64 : Int).toNat + d5 - 2) := ⟨_, rfl⟩
    refine ⟨_, rfl, .int num, .int num, (by rw [hN]; rfl), .int num, trivial, fun Hb eb => ?_⟩
    refine ⟨_, rfl, ?_⟩
    refine ⟨_, _, rfl, rfl, cpow (by decide), _, rfl, _, rfl, _, _, rfl, rfl, _, rfl, ?_⟩
    have fin : ∀ H', Same Ha H' → ∃ (z2 z3 z4 z5 z6 z7 z8 : Option V), [some (.ref a), some (.ref τ.t), some v, some (.bl (decide (0 < sndD 6 2000 d))), some (.int (0 + (i : Int))), z5', z6', some (.str d.shown), some (.int (sg * ((2 : Int) ^ (64 : Int).toNat + d5 - 2)))] = [some (.ref a), some (.ref τ.t), z2, z3, z4, z5, z6, z7, z8] ∧ Tape K τ (1000 * (9 - (i + 1))) H' := fun H' e => by
      rw [← hk2]
      exact ⟨_, _, _, _, _, _, _, rfl, (Ta.mono (by omega)).same e⟩
    refine iteD (fun c => ?_) (fun c => ?_)
    · refine ⟨_, _, rfl, rfl, cpow (by decide), _, _, rfl, rfl, _, rfl, rfl, _, rfl, ?_⟩
      rw [← hN] at c ⊢
      rw [show decide (0 < sndD 6 2000 (.int num)) = decide (num < (2 : Int) ^ (64 : Int).toNat) from decide_eq_decide.mpr ((snd_pl num).trans ⟨fun h => h.2, fun h => ⟨c, h⟩⟩)]
      refine iteDN (fun c => absurd rfl c) (fun _ => ?_)
      exact fin _ eb
    · refine ⟨_, rfl, rfl, _, rfl, ?_⟩
      rw [← hN] at c
      rw [show decide (0 < sndD 6 2000 (.int num)) = false from decide_eq_false fun h => c ((snd_pl num).mp h).1]
      refine iteDN (fun c => absurd rfl c) (fun _ => ?_)
      exact fin _ eb
  · obtain ⟨z2, z3, z4, z5, z6, z7, z8, rfl, T⟩ := h
    refine ⟨.int 0, .int 0, rfl, .int 0, trivial, fun H2 e2 => ?_⟩
    rw [decide_eq_true ((snd_pl 0).mpr (by decide))]
    refine ⟨_, _, rfl, rfl, _, rfl, ?_⟩
    refine iteT ?_
    refine ⟨(by show 2 ≤ sizeLine; decide), fun p1 np1 => ?_⟩
    refine ⟨.ref p1, .tuple [.int 64, .int 65], rfl, .tup (SqT.of upd_same) (.cons (.int 64) (.cons (.int 65) .nil)), ⟨by show 2 ≤ 3000; decide, fun e he => by
      simp at he
      rcases he with rfl | rfl <;> exact sm_int⟩, fun H3 e3 => ?_⟩
    rw [decide_eq_true snd_yes]
    refine ⟨_, _, rfl, rfl, _, rfl, ?_⟩
    refine iteT ?_
    refine ⟨(by show 2 ≤ sizeLine; decide), fun p2 np2 => ?_⟩
    refine ⟨.ref p2, .tuple [.int 0, .int 64], rfl, .tup (SqT.of upd_same) (.cons (.int 0) (.cons (.int 64) .nil)), ⟨by show 2 ≤ 3000; decide, fun e he => by
      simp at he
      rcases he with rfl | rfl <;> exact sm_int⟩, fun H4 e4 => ?_⟩
    rw [decide_eq_false snd_no]
    refine ⟨_, _, rfl, rfl, ?_⟩
    exact q _
end
end Fb
namespace Fb
open PySem L2
theorem all_mk {l : PySem.W.OpenLaw} {w : World} {K : PySem.W.Frag} {h : Heap} {mg : Str → Option Value} {fa : Addr} {f1 f2 f3 f4 f5 f6 f7 f8 f9 f10 f11 f12 f13 f14 f15 f16 f17 f18 f19 f20 f21 f22 f23 f24 f25 f26 : Addr} (X : K.In h) (G : h.Ns mainGlobals mg) (hfa : mg "law" = some (.ref fa))
    {od1 an1 od2 an2 od3 an3 od4 an4 od5 an5 od6 an6 od7 an7 od8 an8 od9 an9 od10 an10 od11 an11 od12 an12 od13 an13 od14 an14 od15 an15 od16 an16 od17 an17 od18 an18 od19 an19 od20 an20 od21 an21 od22 an22 od23 an23 od24 an24 od25 an25 od26 an26 : Option Addr} {sl1 sl2 sl3 sl4 sl5 sl6 sl7 sl8 sl9 sl10 sl11 sl12 sl13 sl14 sl15 sl16 sl17 sl18 sl19 sl20 sl21 sl22 sl23 sl24 sl25 sl26 : Array (Option Value)} {oc1 kV1 dc1 pm1 cd1 ct1 oc2 kV2 dc2 pm2 cd2 ct2 oc3 kV3 dc3 pm3 cd3 ct3 oc4 kV4 dc4 pm4 cd4 ct4 oc5 kV5 dc5 pm5 cd5 ct5 oc6 kV6 dc6 pm6 cd6 ct6 oc7 kV7 dc7 pm7 cd7 ct7 oc8 kV8 dc8 pm8 cd8 ct8 oc9 kV9 dc9 pm9 cd9 ct9 oc10 kV10 dc10 pm10 cd10 ct10 oc11 kV11 dc11 pm11 cd11 ct11 oc12 kV12 dc12 pm12 cd12 ct12 oc13 kV13 dc13 pm13 cd13 ct13 oc14 kV14 dc14 pm14 cd14 ct14 oc15 kV15 dc15 pm15 cd15 ct15 oc16 kV16 dc16 pm16 cd16 ct16 oc17 kV17 dc17 pm17 cd17 ct17 oc18 kV18 dc18 pm18 cd18 ct18 oc19 kV19 dc19 pm19 cd19 ct19 oc20 kV20 dc20 pm20 cd20 ct20 oc21 kV21 dc21 pm21 cd21 ct21 oc22 kV22 dc22 pm22 cd22 ct22 oc23 kV23 dc23 pm23 cd23 ct23 oc24 kV24 dc24 pm24 cd24 ct24 oc25 kV25 dc25 pm25 cd25 ct25 oc26 kV26 dc26 pm26 cd26 ct26 : Value}
    (a1 : PySem.W.nsIn K mainGlobals "is_plain" = some (some (.ref f1))) (l1 : K.lookup f1 = some ⟨oc1, od1, .func (PySem.W.fnOf "is_plain" "is_plain" (defArgs S_is_plain) (defBody S_is_plain) (defScope S_is_plain) .none kV1 dc1 pm1 an1 cd1 ct1), sl1⟩) (c1 : PySem.W.codeIn K cd1 "is_plain" = true) (k1 : PySem.W.keepIn K (.ref f1) = true)
    (a2 : PySem.W.nsIn K mainGlobals "is_near" = some (some (.ref f2))) (l2 : K.lookup f2 = some ⟨oc2, od2, .func (PySem.W.fnOf "is_near" "is_near" (defArgs S_is_near) (defBody S_is_near) (defScope S_is_near) .none kV2 dc2 pm2 an2 cd2 ct2), sl2⟩) (c2 : PySem.W.codeIn K cd2 "is_near" = true) (k2 : PySem.W.keepIn K (.ref f2) = true)
    (a3 : PySem.W.nsIn K mainGlobals "is_negative" = some (some (.ref f3))) (l3 : K.lookup f3 = some ⟨oc3, od3, .func (PySem.W.fnOf "is_negative" "is_negative" (defArgs S_is_negative) (defBody S_is_negative) (defScope S_is_negative) .none kV3 dc3 pm3 an3 cd3 ct3), sl3⟩) (c3 : PySem.W.codeIn K cd3 "is_negative" = true) (k3 : PySem.W.keepIn K (.ref f3) = true)
    (a4 : PySem.W.nsIn K mainGlobals "compare" = some (some (.ref f4))) (l4 : K.lookup f4 = some ⟨oc4, od4, .func (PySem.W.fnOf "compare" "compare" (defArgs S_compare) (defBody S_compare) (defScope S_compare) .none kV4 dc4 pm4 an4 cd4 ct4), sl4⟩) (c4 : PySem.W.codeIn K cd4 "compare" = true) (k4 : PySem.W.keepIn K (.ref f4) = true)
    (a5 : PySem.W.nsIn K mainGlobals "compare_far" = some (some (.ref f5))) (l5 : K.lookup f5 = some ⟨oc5, od5, .func (PySem.W.fnOf "compare_far" "compare_far" (defArgs S_compare_far) (defBody S_compare_far) (defScope S_compare_far) .none kV5 dc5 pm5 an5 cd5 ct5), sl5⟩) (c5 : PySem.W.codeIn K cd5 "compare_far" = true) (k5 : PySem.W.keepIn K (.ref f5) = true)
    (a6 : PySem.W.nsIn K mainGlobals "common_tail" = some (some (.ref f6))) (l6 : K.lookup f6 = some ⟨oc6, od6, .func (PySem.W.fnOf "common_tail" "common_tail" (defArgs S_common_tail) (defBody S_common_tail) (defScope S_common_tail) .none kV6 dc6 pm6 an6 cd6 ct6), sl6⟩) (c6 : PySem.W.codeIn K cd6 "common_tail" = true) (k6 : PySem.W.keepIn K (.ref f6) = true)
    (a7 : PySem.W.nsIn K mainGlobals "sound_parts" = some (some (.ref f7))) (l7 : K.lookup f7 = some ⟨oc7, od7, .func (PySem.W.fnOf "sound_parts" "sound_parts" (defArgs S_sound_parts) (defBody S_sound_parts) (defScope S_sound_parts) .none kV7 dc7 pm7 an7 cd7 ct7), sl7⟩) (c7 : PySem.W.codeIn K cd7 "sound_parts" = true) (k7 : PySem.W.keepIn K (.ref f7) = true)
    (a8 : PySem.W.nsIn K mainGlobals "is_form" = some (some (.ref f8))) (l8 : K.lookup f8 = some ⟨oc8, od8, .func (PySem.W.fnOf "is_form" "is_form" (defArgs S_is_form) (defBody S_is_form) (defScope S_is_form) .none kV8 dc8 pm8 an8 cd8 ct8), sl8⟩) (c8 : PySem.W.codeIn K cd8 "is_form" = true) (k8 : PySem.W.keepIn K (.ref f8) = true)
    (a9 : PySem.W.nsIn K mainGlobals "_law_begin" = some (some (.ref f9))) (l9 : K.lookup f9 = some ⟨oc9, od9, .func (PySem.W.fnOf "_law_begin" "_law_begin" (defArgs S__law_begin) (defBody S__law_begin) (defScope S__law_begin) .none kV9 dc9 pm9 an9 cd9 ct9), sl9⟩) (c9 : PySem.W.codeIn K cd9 "_law_begin" = true) (k9 : PySem.W.keepIn K (.ref f9) = true)
    (a10 : PySem.W.nsIn K mainGlobals "_law_draw" = some (some (.ref f10))) (l10 : K.lookup f10 = some ⟨oc10, od10, .func (PySem.W.fnOf "_law_draw" "_law_draw" (defArgs S__law_draw) (defBody S__law_draw) (defScope S__law_draw) .none kV10 dc10 pm10 an10 cd10 ct10), sl10⟩) (c10 : PySem.W.codeIn K cd10 "_law_draw" = true) (k10 : PySem.W.keepIn K (.ref f10) = true)
    (a11 : PySem.W.nsIn K mainGlobals "_law_pick" = some (some (.ref f11))) (l11 : K.lookup f11 = some ⟨oc11, od11, .func (PySem.W.fnOf "_law_pick" "_law_pick" (defArgs S__law_pick) (defBody S__law_pick) (defScope S__law_pick) .none kV11 dc11 pm11 an11 cd11 ct11), sl11⟩) (c11 : PySem.W.codeIn K cd11 "_law_pick" = true) (k11 : PySem.W.keepIn K (.ref f11) = true)
    (a12 : PySem.W.nsIn K mainGlobals "_law_turns" = some (some (.ref f12))) (l12 : K.lookup f12 = some ⟨oc12, od12, .func (PySem.W.fnOf "_law_turns" "_law_turns" (defArgs S__law_turns) (defBody S__law_turns) (defScope S__law_turns) .none kV12 dc12 pm12 an12 cd12 ct12), sl12⟩) (c12 : PySem.W.codeIn K cd12 "_law_turns" = true) (k12 : PySem.W.keepIn K (.ref f12) = true)
    (a13 : PySem.W.nsIn K mainGlobals "_law_int" = some (some (.ref f13))) (l13 : K.lookup f13 = some ⟨oc13, od13, .func (PySem.W.fnOf "_law_int" "_law_int" (defArgs S__law_int) (defBody S__law_int) (defScope S__law_int) .none kV13 dc13 pm13 an13 cd13 ct13), sl13⟩) (c13 : PySem.W.codeIn K cd13 "_law_int" = true) (k13 : PySem.W.keepIn K (.ref f13) = true)
    (a14 : PySem.W.nsIn K mainGlobals "_law_form" = some (some (.ref f14))) (l14 : K.lookup f14 = some ⟨oc14, od14, .func (PySem.W.fnOf "_law_form" "_law_form" (defArgs S__law_form) (defBody S__law_form) (defScope S__law_form) .none kV14 dc14 pm14 an14 cd14 ct14), sl14⟩) (c14 : PySem.W.codeIn K cd14 "_law_form" = true) (k14 : PySem.W.keepIn K (.ref f14) = true)
    (a15 : PySem.W.nsIn K mainGlobals "_law_row_form" = some (some (.ref f15))) (l15 : K.lookup f15 = some ⟨oc15, od15, .func (PySem.W.fnOf "_law_row_form" "_law_row_form" (defArgs S__law_row_form) (defBody S__law_row_form) (defScope S__law_row_form) .none kV15 dc15 pm15 an15 cd15 ct15), sl15⟩) (c15 : PySem.W.codeIn K cd15 "_law_row_form" = true) (k15 : PySem.W.keepIn K (.ref f15) = true)
    (a16 : PySem.W.nsIn K mainGlobals "_law_size" = some (some (.ref f16))) (l16 : K.lookup f16 = some ⟨oc16, od16, .func (PySem.W.fnOf "_law_size" "_law_size" (defArgs S__law_size) (defBody S__law_size) (defScope S__law_size) .none kV16 dc16 pm16 an16 cd16 ct16), sl16⟩) (c16 : PySem.W.codeIn K cd16 "_law_size" = true) (k16 : PySem.W.keepIn K (.ref f16) = true)
    (a17 : PySem.W.nsIn K mainGlobals "_law_fields" = some (some (.ref f17))) (l17 : K.lookup f17 = some ⟨oc17, od17, .func (PySem.W.fnOf "_law_fields" "_law_fields" (defArgs S__law_fields) (defBody S__law_fields) (defScope S__law_fields) .none kV17 dc17 pm17 an17 cd17 ct17), sl17⟩) (c17 : PySem.W.codeIn K cd17 "_law_fields" = true) (k17 : PySem.W.keepIn K (.ref f17) = true)
    (a18 : PySem.W.nsIn K mainGlobals "_law_moved" = some (some (.ref f18))) (l18 : K.lookup f18 = some ⟨oc18, od18, .func (PySem.W.fnOf "_law_moved" "_law_moved" (defArgs S__law_moved) (defBody S__law_moved) (defScope S__law_moved) .none kV18 dc18 pm18 an18 cd18 ct18), sl18⟩) (c18 : PySem.W.codeIn K cd18 "_law_moved" = true) (k18 : PySem.W.keepIn K (.ref f18) = true)
    (a19 : PySem.W.nsIn K mainGlobals "_law_form_of_codes" = some (some (.ref f19))) (l19 : K.lookup f19 = some ⟨oc19, od19, .func (PySem.W.fnOf "_law_form_of_codes" "_law_form_of_codes" (defArgs S__law_form_of_codes) (defBody S__law_form_of_codes) (defScope S__law_form_of_codes) .none kV19 dc19 pm19 an19 cd19 ct19), sl19⟩) (c19 : PySem.W.codeIn K cd19 "_law_form_of_codes" = true) (k19 : PySem.W.keepIn K (.ref f19) = true)
    (a20 : PySem.W.nsIn K mainGlobals "_law_code" = some (some (.ref f20))) (l20 : K.lookup f20 = some ⟨oc20, od20, .func (PySem.W.fnOf "_law_code" "_law_code" (defArgs S__law_code) (defBody S__law_code) (defScope S__law_code) .none kV20 dc20 pm20 an20 cd20 ct20), sl20⟩) (c20 : PySem.W.codeIn K cd20 "_law_code" = true) (k20 : PySem.W.keepIn K (.ref f20) = true)
    {T21 : Addr} {oT21 : Obj} {nT21 : Nat}
    (a21 : PySem.W.nsIn K mainGlobals "_law_codes" = some (some (.ref f21))) (l21 : K.lookup f21 = some ⟨oc21, od21, .func (PySem.W.fnOf "_law_codes" "_law_codes" (defArgs S__law_codes) (defBody S__law_codes) (defScope S__law_codes) (.ref T21) kV21 dc21 pm21 an21 cd21 ct21), sl21⟩) (c21 : PySem.W.codeIn K cd21 "_law_codes" = true) (k21 : PySem.W.keepIn K (.ref f21) = true)
    (t21 : K.lookup T21 = some oT21) (u21 : oT21.data = .seq #[.none] nT21)
    (a22 : PySem.W.nsIn K mainGlobals "_law_before" = some (some (.ref f22))) (l22 : K.lookup f22 = some ⟨oc22, od22, .func (PySem.W.fnOf "_law_before" "_law_before" (defArgs S__law_before) (defBody S__law_before) (defScope S__law_before) .none kV22 dc22 pm22 an22 cd22 ct22), sl22⟩) (c22 : PySem.W.codeIn K cd22 "_law_before" = true) (k22 : PySem.W.keepIn K (.ref f22) = true)
    (a23 : PySem.W.nsIn K mainGlobals "_law_is_own_form" = some (some (.ref f23))) (l23 : K.lookup f23 = some ⟨oc23, od23, .func (PySem.W.fnOf "_law_is_own_form" "_law_is_own_form" (defArgs S__law_is_own_form) (defBody S__law_is_own_form) (defScope S__law_is_own_form) .none kV23 dc23 pm23 an23 cd23 ct23), sl23⟩) (c23 : PySem.W.codeIn K cd23 "_law_is_own_form" = true) (k23 : PySem.W.keepIn K (.ref f23) = true)
    (a24 : PySem.W.nsIn K mainGlobals "_law_otherwise" = some (some (.ref f24))) (l24 : K.lookup f24 = some ⟨oc24, od24, .func (PySem.W.fnOf "_law_otherwise" "_law_otherwise" (defArgs S__law_otherwise) (defBody S__law_otherwise) (defScope S__law_otherwise) .none kV24 dc24 pm24 an24 cd24 ct24), sl24⟩) (c24 : PySem.W.codeIn K cd24 "_law_otherwise" = true) (k24 : PySem.W.keepIn K (.ref f24) = true)
    (a25 : PySem.W.nsIn K mainGlobals "_law_limits" = some (some (.ref f25))) (l25 : K.lookup f25 = some ⟨oc25, od25, .func (PySem.W.fnOf "_law_limits" "_law_limits" (defArgs S__law_limits) (defBody S__law_limits) (defScope S__law_limits) .none kV25 dc25 pm25 an25 cd25 ct25), sl25⟩) (c25 : PySem.W.codeIn K cd25 "_law_limits" = true) (k25 : PySem.W.keepIn K (.ref f25) = true)
    (a26 : PySem.W.nsIn K mainGlobals "law" = some (some (.ref f26))) (l26 : K.lookup f26 = some ⟨oc26, od26, .func (PySem.W.fnOf "law" "law" (defArgs S_law) (defBody S_law) (defScope S_law) .none kV26 dc26 pm26 an26 cd26 ct26), sl26⟩) (c26 : PySem.W.codeIn K cd26 "law" = true) (k26 : PySem.W.keepIn K (.ref f26) = true)
    {tk_FEW_TURNS : Tok} (g_FEW_TURNS : PySem.W.nsIn K mainGlobals "FEW_TURNS" = some (some (.int 8 tk_FEW_TURNS)))
    {tk_PLAIN_STOP : Tok} (g_PLAIN_STOP : PySem.W.nsIn K mainGlobals "PLAIN_STOP" = some (some (.int 18446744073709551616 tk_PLAIN_STOP)))
    {tk_LAST_PLAIN_TURN : Tok} (g_LAST_PLAIN_TURN : PySem.W.nsIn K mainGlobals "LAST_PLAIN_TURN" = some (some (.int 64 tk_LAST_PLAIN_TURN)))
    {tk_MOST_PARTS : Tok} (g_MOST_PARTS : PySem.W.nsIn K mainGlobals "MOST_PARTS" = some (some (.int 2000 tk_MOST_PARTS)))
    {tk_MOST_LEVELS : Tok} (g_MOST_LEVELS : PySem.W.nsIn K mainGlobals "MOST_LEVELS" = some (some (.int 6 tk_MOST_LEVELS)))
    (z_len : PySem.W.nsIn K mainGlobals "len" = some none)
    (z_int : PySem.W.nsIn K mainGlobals "int" = some none)
    (z_isinstance : PySem.W.nsIn K mainGlobals "isinstance" = some none)
    (z_sum : PySem.W.nsIn K mainGlobals "sum" = some none)
    (z_max : PySem.W.nsIn K mainGlobals "max" = some none)
    (z_min : PySem.W.nsIn K mainGlobals "min" = some none)
    (z_sorted : PySem.W.nsIn K mainGlobals "sorted" = some none)
    (z_tuple : PySem.W.nsIn K mainGlobals "tuple" = some none)
    (z_list : PySem.W.nsIn K mainGlobals "list" = some none)
    (z_range : PySem.W.nsIn K mainGlobals "range" = some none)
    (z_repr : PySem.W.nsIn K mainGlobals "repr" = some none)
    (z_bool : PySem.W.nsIn K mainGlobals "bool" = some none)
    (z_abs : PySem.W.nsIn K mainGlobals "abs" = some none)
    (z_enumerate : PySem.W.nsIn K mainGlobals "enumerate" = some none)
    (z_zip : PySem.W.nsIn K mainGlobals "zip" = some none)
    (z_str : PySem.W.nsIn K mainGlobals "str" = some none)
    (z_dict : PySem.W.nsIn K mainGlobals "dict" = some none) :
    ∃ fd : FuncData, (∀ (s : Shared) (v : Value), BindsTo s fd ⟨[v], []⟩ [("_law_script", v)]) ∧ ∀ base : Heap, K.In base → base.Ns mainGlobals mg → FnG l.prog w K mg base 21 fa fd ["_law_script"] (spLaw K) := by
  have e := hfa.symm.trans (PySem.W.mg_of X G a26)
  cases e
  have F_is_plain := fun_mk (st := S_is_plain) l1 c1 k1
  have b_is_plain := F_is_plain.binds (ps := P_is_plain) fun _ _ _ _ _ _ us hl => match us, hl with | [_], _ => rfl
  have m_is_plain := PySem.W.mg_of X G a1
  have F_is_near := fun_mk (st := S_is_near) l2 c2 k2
  have b_is_near := F_is_near.binds (ps := P_is_near) fun _ _ _ _ _ _ us hl => match us, hl with | [_], _ => rfl
  have m_is_near := PySem.W.mg_of X G a2
  have F_is_negative := fun_mk (st := S_is_negative) l3 c3 k3
  have b_is_negative := F_is_negative.binds (ps := P_is_negative) fun _ _ _ _ _ _ us hl => match us, hl with | [_], _ => rfl
  have m_is_negative := PySem.W.mg_of X G a3
  have F_compare := fun_mk (st := S_compare) l4 c4 k4
  have b_compare := F_compare.binds (ps := P_compare) fun _ _ _ _ _ _ us hl => match us, hl with | [_, _], _ => rfl
  have m_compare := PySem.W.mg_of X G a4
  have F_compare_far := fun_mk (st := S_compare_far) l5 c5 k5
  have b_compare_far := F_compare_far.binds (ps := P_compare_far) fun _ _ _ _ _ _ us hl => match us, hl with | [_, _], _ => rfl
  have m_compare_far := PySem.W.mg_of X G a5
  have F_common_tail := fun_mk (st := S_common_tail) l6 c6 k6
  have b_common_tail := F_common_tail.binds (ps := P_common_tail) fun _ _ _ _ _ _ us hl => match us, hl with | [_, _, _], _ => rfl
  have m_common_tail := PySem.W.mg_of X G a6
  have F_sound_parts := fun_mk (st := S_sound_parts) l7 c7 k7
  have b_sound_parts := F_sound_parts.binds (ps := P_sound_parts) fun _ _ _ _ _ _ us hl => match us, hl with | [_, _, _], _ => rfl
  have m_sound_parts := PySem.W.mg_of X G a7
  have F_is_form := fun_mk (st := S_is_form) l8 c8 k8
  have b_is_form := F_is_form.binds (ps := P_is_form) fun _ _ _ _ _ _ us hl => match us, hl with | [_], _ => rfl
  have m_is_form := PySem.W.mg_of X G a8
  have F__law_begin := fun_mk (st := S__law_begin) l9 c9 k9
  have b__law_begin := F__law_begin.binds (ps := P__law_begin) fun _ _ _ _ _ _ us hl => match us, hl with | [_], _ => rfl
  have m__law_begin := PySem.W.mg_of X G a9
  have F__law_draw := fun_mk (st := S__law_draw) l10 c10 k10
  have b__law_draw := F__law_draw.binds (ps := P__law_draw) fun _ _ _ _ _ _ us hl => match us, hl with | [_, _], _ => rfl
  have m__law_draw := PySem.W.mg_of X G a10
  have F__law_pick := fun_mk (st := S__law_pick) l11 c11 k11
  have b__law_pick := F__law_pick.binds (ps := P__law_pick) fun _ _ _ _ _ _ us hl => match us, hl with | [_, _], _ => rfl
  have m__law_pick := PySem.W.mg_of X G a11
  have F__law_turns := fun_mk (st := S__law_turns) l12 c12 k12
  have b__law_turns := F__law_turns.binds (ps := P__law_turns) fun _ _ _ _ _ _ us hl => match us, hl with | [_], _ => rfl
  have m__law_turns := PySem.W.mg_of X G a12
  have F__law_int := fun_mk (st := S__law_int) l13 c13 k13
  have b__law_int := F__law_int.binds (ps := P__law_int) fun _ _ _ _ _ _ us hl => match us, hl with | [_], _ => rfl
  have m__law_int := PySem.W.mg_of X G a13
  have F__law_form := fun_mk (st := S__law_form) l14 c14 k14
  have b__law_form := F__law_form.binds (ps := P__law_form) fun _ _ _ _ _ _ us hl => match us, hl with | [_], _ => rfl
  have m__law_form := PySem.W.mg_of X G a14
  have F__law_row_form := fun_mk (st := S__law_row_form) l15 c15 k15
  have b__law_row_form := F__law_row_form.binds (ps := P__law_row_form) fun _ _ _ _ _ _ us hl => match us, hl with | [_], _ => rfl
  have m__law_row_form := PySem.W.mg_of X G a15
  have F__law_size := fun_mk (st := S__law_size) l16 c16 k16
  have b__law_size := F__law_size.binds (ps := P__law_size) fun _ _ _ _ _ _ us hl => match us, hl with | [_], _ => rfl
  have m__law_size := PySem.W.mg_of X G a16
  have F__law_fields := fun_mk (st := S__law_fields) l17 c17 k17
  have b__law_fields := F__law_fields.binds (ps := P__law_fields) fun _ _ _ _ _ _ us hl => match us, hl with | [_, _], _ => rfl
  have m__law_fields := PySem.W.mg_of X G a17
  have F__law_moved := fun_mk (st := S__law_moved) l18 c18 k18
  have b__law_moved := F__law_moved.binds (ps := P__law_moved) fun _ _ _ _ _ _ us hl => match us, hl with | [_, _], _ => rfl
  have m__law_moved := PySem.W.mg_of X G a18
  have F__law_form_of_codes := fun_mk (st := S__law_form_of_codes) l19 c19 k19
  have b__law_form_of_codes := F__law_form_of_codes.binds (ps := P__law_form_of_codes) fun _ _ _ _ _ _ us hl => match us, hl with | [_, _], _ => rfl
  have m__law_form_of_codes := PySem.W.mg_of X G a19
  have F__law_code := fun_mk (st := S__law_code) l20 c20 k20
  have b__law_code := F__law_code.binds (ps := P__law_code) fun _ _ _ _ _ _ us hl => match us, hl with | [_, _, _], _ => rfl
  have m__law_code := PySem.W.mg_of X G a20
  have F__law_codes : FunD K "_law_codes" "_law_codes" (defArgs S__law_codes) (defBody S__law_codes) (defScope S__law_codes) [.non] [] f21 _ := ⟨⟨oc21, od21, .ref T21, kV21, dc21, pm21, an21, cd21, ct21, sl21, rfl, l21, c21, .inr ⟨List.cons_ne_nil _ _, T21, oT21, [.none], nT21, rfl, t21, u21, .cons rfl .nil⟩, .inl rfl⟩, k21⟩
  obtain ⟨dsx__law_codes, vx__law_codes, bx__law_codes⟩ := F__law_codes.binds1 (ps := P__law_codes) 4 1 (List.cons_ne_nil _ _) rfl (fun _ _ _ _ _ _ _ us its hl hi => match us, hl, its, hi with | [_, _, _, _], _, [_], _ => ⟨_, rfl, rfl⟩)
  obtain ⟨ds__law_codes, v__law_codes, b__law_codes⟩ := F__law_codes.binds1 (ps := P__law_codes) 3 0 (List.cons_ne_nil _ _) rfl (fun _ _ _ _ _ _ _ us its hl hi => match us, hl, its, hi with | [_, _, _], _, [_], _ => ⟨_, rfl, rfl⟩)
  have m__law_codes := PySem.W.mg_of X G a21
  have F__law_before := fun_mk (st := S__law_before) l22 c22 k22
  have b__law_before := F__law_before.binds (ps := P__law_before) fun _ _ _ _ _ _ us hl => match us, hl with | [_, _], _ => rfl
  have m__law_before := PySem.W.mg_of X G a22
  have F__law_is_own_form := fun_mk (st := S__law_is_own_form) l23 c23 k23
  have b__law_is_own_form := F__law_is_own_form.binds (ps := P__law_is_own_form) fun _ _ _ _ _ _ us hl => match us, hl with | [_, _], _ => rfl
  have m__law_is_own_form := PySem.W.mg_of X G a23
  have F__law_otherwise := fun_mk (st := S__law_otherwise) l24 c24 k24
  have b__law_otherwise := F__law_otherwise.binds (ps := P__law_otherwise) fun _ _ _ _ _ _ us hl => match us, hl with | [_, _, _], _ => rfl
  have m__law_otherwise := PySem.W.mg_of X G a24
  have F__law_limits := fun_mk (st := S__law_limits) l25 c25 k25
  have b__law_limits := F__law_limits.binds (ps := P__law_limits) fun _ _ _ _ _ _ us hl => match us, hl with | [_], _ => rfl
  have m__law_limits := PySem.W.mg_of X G a25
  have F_law := fun_mk (st := S_law) l26 c26 k26
  have MF_FEW_TURNS := PySem.W.mg_of X G g_FEW_TURNS
  have MF_PLAIN_STOP := PySem.W.mg_of X G g_PLAIN_STOP
  have MF_LAST_PLAIN_TURN := PySem.W.mg_of X G g_LAST_PLAIN_TURN
  have MF_MOST_PARTS := PySem.W.mg_of X G g_MOST_PARTS
  have MF_MOST_LEVELS := PySem.W.mg_of X G g_MOST_LEVELS
  have B : Blt mg := ⟨PySem.W.mg_none_of X G z_len, PySem.W.mg_none_of X G z_int, PySem.W.mg_none_of X G z_isinstance, PySem.W.mg_none_of X G z_sum, PySem.W.mg_none_of X G z_max, PySem.W.mg_none_of X G z_min, PySem.W.mg_none_of X G z_sorted, PySem.W.mg_none_of X G z_tuple, PySem.W.mg_none_of X G z_list, PySem.W.mg_none_of X G z_range, PySem.W.mg_none_of X G z_repr, PySem.W.mg_none_of X G z_bool, PySem.W.mg_none_of X G z_abs, PySem.W.mg_none_of X G z_enumerate, PySem.W.mg_none_of X G z_zip, PySem.W.mg_none_of X G z_str, PySem.W.mg_none_of X G z_dict⟩
  refine ⟨PySem.W.fnOf "law" "law" (defArgs S_law) (defBody S_law) (defScope S_law) .none kV26 dc26 pm26 an26 cd26 ct26, fun s v => .of_eq rfl, fun base _ _ => ?_⟩
  have C_law_begin : Has l.prog w K mg base 1 "_law_begin" P__law_begin [] _ := ⟨_, _, [], ok_begin F__law_begin, F__law_begin.kp, m__law_begin, .nil, b__law_begin⟩
  have C_law_draw : Has l.prog w K mg base 1 "_law_draw" P__law_draw [] _ := ⟨_, _, [], ok_draw F__law_draw B, F__law_draw.kp, m__law_draw, .nil, b__law_draw⟩
  have C_law_pick : Has l.prog w K mg base 2 "_law_pick" P__law_pick [] _ := ⟨_, _, [], ok_pick F__law_pick B C_law_draw, F__law_pick.kp, m__law_pick, .nil, b__law_pick⟩
  have CdrT : Has l.prog w K mg base 1 "_law_draw" P__law_draw [] _ := ⟨_, _, [], ok_drawT F__law_draw B, F__law_draw.kp, m__law_draw, .nil, b__law_draw⟩
  have CpiT : Has l.prog w K mg base 2 "_law_pick" P__law_pick [] _ := ⟨_, _, [], ok_pickT F__law_pick B CdrT, F__law_pick.kp, m__law_pick, .nil, b__law_pick⟩
  have C_law_turns : Has l.prog w K mg base 1 "_law_turns" P__law_turns [] _ := ⟨_, _, [], ok_turns F__law_turns, F__law_turns.kp, m__law_turns, .nil, b__law_turns⟩
  have C_law_int : Has l.prog w K mg base 1 "_law_int" P__law_int [] _ := ⟨_, _, [], ok_int F__law_int, F__law_int.kp, m__law_int, .nil, b__law_int⟩
  have C_law_form : Has l.prog w K mg base 2 "_law_form" P__law_form [] _ := ⟨_, _, [], ok_form F__law_form B C_law_turns, F__law_form.kp, m__law_form, .nil, b__law_form⟩
  have C_law_row_form : Has l.prog w K mg base 2 "_law_row_form" P__law_row_form [] _ := ⟨_, _, [], ok_row F__law_row_form B C_law_int, F__law_row_form.kp, m__law_row_form, .nil, b__law_row_form⟩
  have C_law_moved : Has l.prog w K mg base 3 "_law_moved" P__law_moved [] _ := ⟨_, _, [], ok_moved F__law_moved B C_law_turns C_law_form C_law_row_form, F__law_moved.kp, m__law_moved, .nil, b__law_moved⟩
  have C_law_form_of_codes : Has l.prog w K mg base 4 "_law_form_of_codes" P__law_form_of_codes [] _ := ⟨_, _, [], ok_foc F__law_form_of_codes C_law_moved C_law_row_form, F__law_form_of_codes.kp, m__law_form_of_codes, .nil, b__law_form_of_codes⟩
  have C_law_code : Has l.prog w K mg base 3 "_law_code" P__law_code [] _ := ⟨_, _, [], ok_code F__law_code B C_law_draw C_law_pick, F__law_code.kp, m__law_code, .nil, b__law_code⟩
  have C_law_codes_d : Has l.prog w K mg base 4 "_law_codes" P__law_codes [.non] _ := ⟨_, _, ds__law_codes, ok_codes F__law_codes B C_law_code, F__law_codes.kp, m__law_codes, v__law_codes, b__law_codes⟩
  have C_law_fields : Has l.prog w K mg base 3 "_law_fields" P__law_fields [] _ := ⟨_, _, [], ok_fields F__law_fields B C_law_draw C_law_pick, F__law_fields.kp, m__law_fields, .nil, b__law_fields⟩
  have C_law_limits : Has l.prog w K mg base 2 "_law_limits" P__law_limits [] _ := ⟨_, _, [], ok_limits F__law_limits B CdrT, F__law_limits.kp, m__law_limits, .nil, b__law_limits⟩
  have C_law_size : Has l.prog w K mg base 20 "_law_size" P__law_size [] _ := ⟨_, _, [], (ok_lsize F__law_size B b__law_size m__law_size 7).mono (by decide), F__law_size.kp, m__law_size, .nil, b__law_size⟩
  have Cis_negative : Has l.prog w K mg base 1 "is_negative" P_is_negative [] _ := ⟨_, _, [], ok_neg F_is_negative B, F_is_negative.kp, m_is_negative, .nil, b_is_negative⟩
  have Cis_near : Has l.prog w K mg base 1 "is_near" P_is_near [] _ := ⟨_, _, [], ok_near F_is_near B MF_LAST_PLAIN_TURN, F_is_near.kp, m_is_near, .nil, b_is_near⟩
  have Cis_plain : Has l.prog w K mg base 1 "is_plain" P_is_plain [] _ := ⟨_, _, [], ok_plain F_is_plain MF_PLAIN_STOP, F_is_plain.kp, m_is_plain, .nil, b_is_plain⟩
  have Cm0 : Has l.prog w K mg base 2 "compare" P_compare [] (spCmp K 0) := ⟨_, _, [], (ok_order (n := 0) F_compare b_compare m_compare F_compare_far b_compare_far m_compare_far B Cis_negative F_common_tail b_common_tail m_common_tail MF_FEW_TURNS (by decide)).mono (by decide), F_compare.kp, m_compare, .nil, b_compare⟩
  have Cm1 : Has l.prog w K mg base 4 "compare" P_compare [] (spCmp K 1) := ⟨_, _, [], (ok_order (n := 1) F_compare b_compare m_compare F_compare_far b_compare_far m_compare_far B Cis_negative F_common_tail b_common_tail m_common_tail MF_FEW_TURNS (by decide)).mono (by decide), F_compare.kp, m_compare, .nil, b_compare⟩
  have Cm2 : Has l.prog w K mg base 6 "compare" P_compare [] (spCmp K 2) := ⟨_, _, [], (ok_order (n := 2) F_compare b_compare m_compare F_compare_far b_compare_far m_compare_far B Cis_negative F_common_tail b_common_tail m_common_tail MF_FEW_TURNS (by decide)).mono (by decide), F_compare.kp, m_compare, .nil, b_compare⟩
  have Cm3 : Has l.prog w K mg base 8 "compare" P_compare [] (spCmp K 3) := ⟨_, _, [], (ok_order (n := 3) F_compare b_compare m_compare F_compare_far b_compare_far m_compare_far B Cis_negative F_common_tail b_common_tail m_common_tail MF_FEW_TURNS (by decide)).mono (by decide), F_compare.kp, m_compare, .nil, b_compare⟩
  have Cm4 : Has l.prog w K mg base 10 "compare" P_compare [] (spCmp K 4) := ⟨_, _, [], (ok_order (n := 4) F_compare b_compare m_compare F_compare_far b_compare_far m_compare_far B Cis_negative F_common_tail b_common_tail m_common_tail MF_FEW_TURNS (by decide)).mono (by decide), F_compare.kp, m_compare, .nil, b_compare⟩
  have Cm5 : Has l.prog w K mg base 12 "compare" P_compare [] (spCmp K 5) := ⟨_, _, [], (ok_order (n := 5) F_compare b_compare m_compare F_compare_far b_compare_far m_compare_far B Cis_negative F_common_tail b_common_tail m_common_tail MF_FEW_TURNS (by decide)).mono (by decide), F_compare.kp, m_compare, .nil, b_compare⟩
  have Cm : Has l.prog w K mg base 0 "compare" P_compare [] ((fun _ _ _ _ => False)) := ⟨_, _, [], fnok_no, F_compare.kp, m_compare, .nil, b_compare⟩
  have Sn : Has l.prog w K mg base 2 "sound_parts" P_sound_parts [] ((fun _ _ _ _ => False)) := ⟨_, _, [], fnok_no, F_sound_parts.kp, m_sound_parts, .nil, b_sound_parts⟩
  have Sd0 : Has l.prog w K mg base 4 "sound_parts" P_sound_parts [] (spSndQ K 0) := ⟨_, _, [], (ok_sndq (n := 0) (k := 2) (by decide) (spR := (fun _ _ _ _ => False)) (spC := (fun _ _ _ _ => False)) (fun m h => nomatch h) (fun m h => nomatch h) F_sound_parts B Cis_plain Cis_near Cm Sn).mono (by decide), F_sound_parts.kp, m_sound_parts, .nil, b_sound_parts⟩
  have Sd1 : Has l.prog w K mg base 6 "sound_parts" P_sound_parts [] (spSndQ K 1) := ⟨_, _, [], (ok_sndq (n := 1) (k := 4) (by decide) (fun m h vs H Q E k => by cases h; exact k) (fun m h vs H Q E k => by cases h; exact k) F_sound_parts B Cis_plain Cis_near Cm0 Sd0).mono (by decide), F_sound_parts.kp, m_sound_parts, .nil, b_sound_parts⟩
  have Sd2 : Has l.prog w K mg base 8 "sound_parts" P_sound_parts [] (spSndQ K 2) := ⟨_, _, [], (ok_sndq (n := 2) (k := 6) (by decide) (fun m h vs H Q E k => by cases h; exact k) (fun m h vs H Q E k => by cases h; exact k) F_sound_parts B Cis_plain Cis_near Cm1 Sd1).mono (by decide), F_sound_parts.kp, m_sound_parts, .nil, b_sound_parts⟩
  have Sd3 : Has l.prog w K mg base 10 "sound_parts" P_sound_parts [] (spSndQ K 3) := ⟨_, _, [], (ok_sndq (n := 3) (k := 8) (by decide) (fun m h vs H Q E k => by cases h; exact k) (fun m h vs H Q E k => by cases h; exact k) F_sound_parts B Cis_plain Cis_near Cm2 Sd2).mono (by decide), F_sound_parts.kp, m_sound_parts, .nil, b_sound_parts⟩
  have Sd4 : Has l.prog w K mg base 12 "sound_parts" P_sound_parts [] (spSndQ K 4) := ⟨_, _, [], (ok_sndq (n := 4) (k := 10) (by decide) (fun m h vs H Q E k => by cases h; exact k) (fun m h vs H Q E k => by cases h; exact k) F_sound_parts B Cis_plain Cis_near Cm3 Sd3).mono (by decide), F_sound_parts.kp, m_sound_parts, .nil, b_sound_parts⟩
  have Sd5 : Has l.prog w K mg base 14 "sound_parts" P_sound_parts [] (spSndQ K 5) := ⟨_, _, [], (ok_sndq (n := 5) (k := 12) (by decide) (fun m h vs H Q E k => by cases h; exact k) (fun m h vs H Q E k => by cases h; exact k) F_sound_parts B Cis_plain Cis_near Cm4 Sd4).mono (by decide), F_sound_parts.kp, m_sound_parts, .nil, b_sound_parts⟩
  have Sd6 : Has l.prog w K mg base 16 "sound_parts" P_sound_parts [] (spSndQ K 6) := ⟨_, _, [], (ok_sndq (n := 6) (k := 14) (by decide) (fun m h vs H Q E k => by cases h; exact k) (fun m h vs H Q E k => by cases h; exact k) F_sound_parts B Cis_plain Cis_near Cm5 Sd5).mono (by decide), F_sound_parts.kp, m_sound_parts, .nil, b_sound_parts⟩
  have Cis_form : Has l.prog w K mg base 20 "is_form" P_is_form [] _ := ⟨_, _, [], (ok_isform (k := 16) F_is_form MF_MOST_PARTS MF_MOST_LEVELS Sd6).mono (by decide), F_is_form.kp, m_is_form, .nil, b_is_form⟩
  have Cis_form_k : HasK l.prog w K mg base 20 "is_form" P_is_form ["value"] _ := ⟨_, _, _, (ok_isform (k := 16) F_is_form MF_MOST_PARTS MF_MOST_LEVELS Sd6).mono (by decide), F_is_form.kp, m_is_form, Fb.Fun.kb1 F_is_form (fun _ _ _ _ _ _ _ => rfl) (fun _ _ _ _ _ _ _ => rfl)⟩
  have Bn : Has l.prog w K mg base 2 "_law_before" P__law_before [] ((fun _ _ _ _ => False)) := ⟨_, _, [], fnok_no, F__law_before.kp, m__law_before, .nil, b__law_before⟩
  have Bf0 : Has l.prog w K mg base 3 "_law_before" P__law_before [] (spBef K 0) := ⟨_, _, [], ok_before (n := 0) (k := 2) (by decide) (by decide) (spR := (fun _ _ _ _ => False)) (fun m h => nomatch h) F__law_before B C_law_turns Bn, F__law_before.kp, m__law_before, .nil, b__law_before⟩
  have Bf1 : Has l.prog w K mg base 4 "_law_before" P__law_before [] (spBef K 1) := ⟨_, _, [], ok_before (n := 1) (k := 3) (by decide) (by decide) (fun m h vs H Q E k => by cases h; exact k) F__law_before B C_law_turns Bf0, F__law_before.kp, m__law_before, .nil, b__law_before⟩
  have Bf2 : Has l.prog w K mg base 5 "_law_before" P__law_before [] (spBef K 2) := ⟨_, _, [], ok_before (n := 2) (k := 4) (by decide) (by decide) (fun m h vs H Q E k => by cases h; exact k) F__law_before B C_law_turns Bf1, F__law_before.kp, m__law_before, .nil, b__law_before⟩
  have Bf3 : Has l.prog w K mg base 6 "_law_before" P__law_before [] (spBef K 3) := ⟨_, _, [], ok_before (n := 3) (k := 5) (by decide) (by decide) (fun m h vs H Q E k => by cases h; exact k) F__law_before B C_law_turns Bf2, F__law_before.kp, m__law_before, .nil, b__law_before⟩
  have Bf4 : Has l.prog w K mg base 7 "_law_before" P__law_before [] (spBef K 4) := ⟨_, _, [], ok_before (n := 4) (k := 6) (by decide) (by decide) (fun m h vs H Q E k => by cases h; exact k) F__law_before B C_law_turns Bf3, F__law_before.kp, m__law_before, .nil, b__law_before⟩
  have Bf5 : Has l.prog w K mg base 8 "_law_before" P__law_before [] (spBef K 5) := ⟨_, _, [], ok_before (n := 5) (k := 7) (by decide) (by decide) (fun m h vs H Q E k => by cases h; exact k) F__law_before B C_law_turns Bf4, F__law_before.kp, m__law_before, .nil, b__law_before⟩
  have On : Has l.prog w K mg base 1 "_law_is_own_form" P__law_is_own_form [] ((fun _ _ _ _ => False)) := ⟨_, _, [], fnok_no, F__law_is_own_form.kp, m__law_is_own_form, .nil, b__law_is_own_form⟩
  have Bz : Has l.prog w K mg base 1 "_law_before" P__law_before [] ((fun _ _ _ _ => False)) := ⟨_, _, [], fnok_no, F__law_before.kp, m__law_before, .nil, b__law_before⟩
  have Ow0 : Has l.prog w K mg base 2 "_law_is_own_form" P__law_is_own_form [] (spOwn K 0) := ⟨_, _, [], ok_own (N := 0) (k := 1) (by decide) (spR := (fun _ _ _ _ => False)) (spB := (fun _ _ _ _ => False)) (fun m h => nomatch h) (fun m h => nomatch h) F__law_is_own_form B Bz On, F__law_is_own_form.kp, m__law_is_own_form, .nil, b__law_is_own_form⟩
  have Bz1 : Has l.prog w K mg base 2 "_law_before" P__law_before [] ((fun _ _ _ _ => False)) := ⟨_, _, [], fnok_no, F__law_before.kp, m__law_before, .nil, b__law_before⟩
  have Ow1 : Has l.prog w K mg base 3 "_law_is_own_form" P__law_is_own_form [] (spOwn K 1) := ⟨_, _, [], ok_own (N := 1) (k := 2) (by decide) (spB := (fun _ _ _ _ => False)) (fun m h vs H Q E k => by cases h; exact k) (fun m h => nomatch h) F__law_is_own_form B Bz1 Ow0, F__law_is_own_form.kp, m__law_is_own_form, .nil, b__law_is_own_form⟩
  have Ow2 : Has l.prog w K mg base 4 "_law_is_own_form" P__law_is_own_form [] (spOwn K 2) := ⟨_, _, [], ok_own (N := 2) (k := 3) (by decide) (fun m h vs H Q E k => by cases h; exact k) (fun m h vs H Q E k => by cases h; exact k) F__law_is_own_form B Bf0 Ow1, F__law_is_own_form.kp, m__law_is_own_form, .nil, b__law_is_own_form⟩
  have Ow3 : Has l.prog w K mg base 5 "_law_is_own_form" P__law_is_own_form [] (spOwn K 3) := ⟨_, _, [], ok_own (N := 3) (k := 4) (by decide) (fun m h vs H Q E k => by cases h; exact k) (fun m h vs H Q E k => by cases h; exact k) F__law_is_own_form B Bf1 Ow2, F__law_is_own_form.kp, m__law_is_own_form, .nil, b__law_is_own_form⟩
  have Ow4 : Has l.prog w K mg base 6 "_law_is_own_form" P__law_is_own_form [] (spOwn K 4) := ⟨_, _, [], ok_own (N := 4) (k := 5) (by decide) (fun m h vs H Q E k => by cases h; exact k) (fun m h vs H Q E k => by cases h; exact k) F__law_is_own_form B Bf2 Ow3, F__law_is_own_form.kp, m__law_is_own_form, .nil, b__law_is_own_form⟩
  have Ow5 : Has l.prog w K mg base 7 "_law_is_own_form" P__law_is_own_form [] (spOwn K 5) := ⟨_, _, [], ok_own (N := 5) (k := 6) (by decide) (fun m h vs H Q E k => by cases h; exact k) (fun m h vs H Q E k => by cases h; exact k) F__law_is_own_form B Bf3 Ow4, F__law_is_own_form.kp, m__law_is_own_form, .nil, b__law_is_own_form⟩
  have Ow6 : Has l.prog w K mg base 8 "_law_is_own_form" P__law_is_own_form [] (spOwn K 6) := ⟨_, _, [], ok_own (N := 6) (k := 7) (by decide) (fun m h vs H Q E k => by cases h; exact k) (fun m h vs H Q E k => by cases h; exact k) F__law_is_own_form B Bf4 Ow5, F__law_is_own_form.kp, m__law_is_own_form, .nil, b__law_is_own_form⟩
  have Ow7 : Has l.prog w K mg base 20 "_law_is_own_form" P__law_is_own_form [] (spOwn K 7) := ⟨_, _, [], (ok_own (N := 7) (k := 8) (by decide) (fun m h vs H Q E k => by cases h; exact k) (fun m h vs H Q E k => by cases h; exact k) F__law_is_own_form B Bf5 Ow6).mono (by decide), F__law_is_own_form.kp, m__law_is_own_form, .nil, b__law_is_own_form⟩
  have Tn : Has l.prog w K mg base 2 "_law_otherwise" P__law_otherwise [] ((fun _ _ _ _ => False)) := ⟨_, _, [], fnok_no, F__law_otherwise.kp, m__law_otherwise, .nil, b__law_otherwise⟩
  have Ot0 : Has l.prog w K mg base 3 "_law_otherwise" P__law_otherwise [] (spOth K 0) := ⟨_, _, [], ok_oth (n := 0) (k := 2) (by decide) (spR := (fun _ _ _ _ => False)) (fun m h => nomatch h) F__law_otherwise B CdrT CpiT Tn, F__law_otherwise.kp, m__law_otherwise, .nil, b__law_otherwise⟩
  have Ot1 : Has l.prog w K mg base 4 "_law_otherwise" P__law_otherwise [] (spOth K 1) := ⟨_, _, [], ok_oth (n := 1) (k := 3) (by decide) (fun m h vs H Q E k => by cases h; exact k) F__law_otherwise B CdrT CpiT Ot0, F__law_otherwise.kp, m__law_otherwise, .nil, b__law_otherwise⟩
  have Ot2 : Has l.prog w K mg base 5 "_law_otherwise" P__law_otherwise [] (spOth K 2) := ⟨_, _, [], ok_oth (n := 2) (k := 4) (by decide) (fun m h vs H Q E k => by cases h; exact k) F__law_otherwise B CdrT CpiT Ot1, F__law_otherwise.kp, m__law_otherwise, .nil, b__law_otherwise⟩
  have Ot3 : Has l.prog w K mg base 6 "_law_otherwise" P__law_otherwise [] (spOth K 3) := ⟨_, _, [], ok_oth (n := 3) (k := 5) (by decide) (fun m h vs H Q E k => by cases h; exact k) F__law_otherwise B CdrT CpiT Ot2, F__law_otherwise.kp, m__law_otherwise, .nil, b__law_otherwise⟩
  have Ot4 : Has l.prog w K mg base 7 "_law_otherwise" P__law_otherwise [] (spOth K 4) := ⟨_, _, [], ok_oth (n := 4) (k := 6) (by decide) (fun m h vs H Q E k => by cases h; exact k) F__law_otherwise B CdrT CpiT Ot3, F__law_otherwise.kp, m__law_otherwise, .nil, b__law_otherwise⟩
  have Ot5 : Has l.prog w K mg base 20 "_law_otherwise" P__law_otherwise [] (spOth K 5) := ⟨_, _, [], (ok_oth (n := 5) (k := 7) (by decide) (fun m h vs H Q E k => by cases h; exact k) F__law_otherwise B CdrT CpiT Ot4).mono (by decide), F__law_otherwise.kp, m__law_otherwise, .nil, b__law_otherwise⟩
  exact ok_law F_law B C_law_begin C_law_draw C_law_pick C_law_limits C_law_fields C_law_codes_d C_law_form_of_codes Ot5 Ow7 C_law_size Cis_form Cis_form_k
theorem walk {l : PySem.W.OpenLaw} {q : Program} {loose : List Str} {XP : (Str → Option Value) → Heap → Prop} {YP : World → Heap → Prop} {d : DefRec} {K : Params → PySem.W.Frag} (hn : l.most = some 63) (hdf : d.params.defaults = [])
    (hY : ∀ (w : World) (h : Heap), YP w h → (K w.params).In h)
    (F : ∀ (w : World) (mg : Str → Option Value) (fa : Addr) (h : Heap), (K w.params).In h → h.Ns mainGlobals mg → mg d.name = some (.ref fa) →
      ∃ fd : FuncData, (∀ (s : Shared) (u : Value), BindsTo s fd ⟨[u], []⟩ [("_law_script", u)]) ∧ ∀ base : Heap, (K w.params).In base → base.Ns mainGlobals mg → FnG l.prog w (K w.params) mg base 21 fa fd ["_law_script"] (spLaw (K w.params))) :
    PySem.W.WalkO q loose XP YP l.row.toRowW d [] (fun f vs => PySem.call f vs) :=
  walkG (n := 63) (k := 21) (x := "_law_script") (sp := fun w => spLaw (K w.params)) hn (by decide) hdf ⟨rfl, by decide, by decide⟩ hY F (fun _ _ a ns hl hS => ⟨a, ns, rfl, hS, hl, fun _ => rfl⟩)
end Fb
open PySem PySem.W PyProof.Rows
set_option maxRecDepth 100000 in
set_option maxHeartbeats 0 in
theorem PySem.Challenge.cw_farbits_k00_forms_told_from_other_values_holds : PySem.Challenge.rw_farbits_k00_forms_told_from_other_values.Holds := by
  w_on; o_law; k_head; (case hw => w_witness2)
  k_fill
  refine Fb.walk (l := PySem.Challenge.rw_farbits_k00_forms_told_from_other_values) rfl rfl (fun w h Y => PySem.W.kIn_of Y) ?F
  case F =>
    intro w mg fa h KX G hmg
    refine' Fb.all_mk KX G hmg ?a1 ?l1 ?c1 ?k1 ?a2 ?l2 ?c2 ?k2 ?a3 ?l3 ?c3 ?k3 ?a4 ?l4 ?c4 ?k4 ?a5 ?l5 ?c5 ?k5 ?a6 ?l6 ?c6 ?k6 ?a7 ?l7 ?c7 ?k7 ?a8 ?l8 ?c8 ?k8 ?a9 ?l9 ?c9 ?k9 ?a10 ?l10 ?c10 ?k10 ?a11 ?l11 ?c11 ?k11 ?a12 ?l12 ?c12 ?k12 ?a13 ?l13 ?c13 ?k13 ?a14 ?l14 ?c14 ?k14 ?a15 ?l15 ?c15 ?k15 ?a16 ?l16 ?c16 ?k16 ?a17 ?l17 ?c17 ?k17 ?a18 ?l18 ?c18 ?k18 ?a19 ?l19 ?c19 ?k19 ?a20 ?l20 ?c20 ?k20 ?a21 ?l21 ?c21 ?k21 ?t21 ?u21 ?a22 ?l22 ?c22 ?k22 ?a23 ?l23 ?c23 ?k23 ?a24 ?l24 ?c24 ?k24 ?a25 ?l25 ?c25 ?k25 ?a26 ?l26 ?c26 ?k26 ?g_FEW_TURNS ?g_PLAIN_STOP ?g_LAST_PLAIN_TURN ?g_MOST_PARTS ?g_MOST_LEVELS ?z_len ?z_int ?z_isinstance ?z_sum ?z_max ?z_min ?z_sorted ?z_tuple ?z_list ?z_range ?z_repr ?z_bool ?z_abs ?z_enumerate ?z_zip ?z_str ?z_dict
    (case a1 => k_is)
    (case l1 => k_is)
    (case c1 => k_is)
    (case k1 => k_is)
    (case a2 => k_is)
    (case l2 => k_is)
    (case c2 => k_is)
    (case k2 => k_is)
    (case a3 => k_is)
    (case l3 => k_is)
    (case c3 => k_is)
    (case k3 => k_is)
    (case a4 => k_is)
    (case l4 => k_is)
    (case c4 => k_is)
    (case k4 => k_is)
    (case a5 => k_is)
    (case l5 => k_is)
    (case c5 => k_is)
    (case k5 => k_is)
    (case a6 => k_is)
    (case l6 => k_is)
    (case c6 => k_is)
    (case k6 => k_is)
    (case a7 => k_is)
    (case l7 => k_is)
    (case c7 => k_is)
    (case k7 => k_is)
    (case a8 => k_is)
    (case l8 => k_is)
    (case c8 => k_is)
    (case k8 => k_is)
    (case a9 => k_is)
    (case l9 => k_is)
    (case c9 => k_is)
    (case k9 => k_is)
    (case a10 => k_is)
    (case l10 => k_is)
    (case c10 => k_is)
    (case k10 => k_is)
    (case a11 => k_is)
    (case l11 => k_is)
    (case c11 => k_is)
    (case k11 => k_is)
    (case a12 => k_is)
    (case l12 => k_is)
    (case c12 => k_is)
    (case k12 => k_is)
    (case a13 => k_is)
    (case l13 => k_is)
    (case c13 => k_is)
    (case k13 => k_is)
    (case a14 => k_is)
    (case l14 => k_is)
    (case c14 => k_is)
    (case k14 => k_is)
    (case a15 => k_is)
    (case l15 => k_is)
    (case c15 => k_is)
    (case k15 => k_is)
    (case a16 => k_is)
    (case l16 => k_is)
    (case c16 => k_is)
    (case k16 => k_is)
    (case a17 => k_is)
    (case l17 => k_is)
    (case c17 => k_is)
    (case k17 => k_is)
    (case a18 => k_is)
    (case l18 => k_is)
    (case c18 => k_is)
    (case k18 => k_is)
    (case a19 => k_is)
    (case l19 => k_is)
    (case c19 => k_is)
    (case k19 => k_is)
    (case a20 => k_is)
    (case l20 => k_is)
    (case c20 => k_is)
    (case k20 => k_is)
    (case a21 => k_is)
    (case l21 => k_is)
    (case c21 => k_is)
    (case k21 => k_is)
    (case t21 => k_is)
    (case u21 => first | k_is | rfl)
    (case a22 => k_is)
    (case l22 => k_is)
    (case c22 => k_is)
    (case k22 => k_is)
    (case a23 => k_is)
    (case l23 => k_is)
    (case c23 => k_is)
    (case k23 => k_is)
    (case a24 => k_is)
    (case l24 => k_is)
    (case c24 => k_is)
    (case k24 => k_is)
    (case a25 => k_is)
    (case l25 => k_is)
    (case c25 => k_is)
    (case k25 => k_is)
    (case a26 => k_is)
    (case l26 => k_is)
    (case c26 => k_is)
    (case k26 => k_is)
    (case g_FEW_TURNS => k_is)
    (case g_PLAIN_STOP => k_is)
    (case g_LAST_PLAIN_TURN => k_is)
    (case g_MOST_PARTS => k_is)
    (case g_MOST_LEVELS => k_is)
    (case z_len => k_is)
    (case z_int => k_is)
    (case z_isinstance => k_is)
    (case z_sum => k_is)
    (case z_max => k_is)
    (case z_min => k_is)
    (case z_sorted => k_is)
    (case z_tuple => k_is)
    (case z_list => k_is)
    (case z_range => k_is)
    (case z_repr => k_is)
    (case z_bool => k_is)
    (case z_abs => k_is)
    (case z_enumerate => k_is)
    (case z_zip => k_is)
    (case z_str => k_is)
    (case z_dict => k_is)
