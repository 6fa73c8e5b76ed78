import PyProof.Rows.All
import Wide.All
import OpenK.AllK
import Wide.FinOn
import KE.KStateDown
import PyProof.ExcClass
import OpenK.KCell
import HandS.Base
import HandS.Call
import HandS.Ends
import HandS.More
import HandS.Words
import HandS.WordsExc
import HandS.Defaults
import HandS.Head0
import HandS.Head1
import HandS.Head2
import HandS.HeadEnd
import HandS.HeadHook1
import HandS.HeadHook2
import HandS.HeadNt
import HandS.Head4
import HandS.ForMost
import HandS.Wide
import HandS.WideBits
import HandS.Flow
import HandS.Style
import HandS.Small
import HandS.SortInts
import HandS.IsInst
import HandS.TupAny
import HandS.RaiseMore
import HandS.Codes
import KE.KBits
import KE.KExcSuper
import KE.KSuper
import HandS.Nested
import HandS.ExcInit
import HandS.ExcField
import HandS.ForExc
import KE.KExcIs
import HandS.ExcIs
import KE.KIsAll
import PyProof.ReprRoads
import HandS.FStrTup
import HandS.FStr
import KE.KxField
import KE.OsArith
import KE.BitLaws
import HandS.IntHex
import HandS.Iter
import HandS.Comp
import OpenK.Peek
import HandS.Star
import PyProof.AutoSeq1
import HandS.Property
import HandS.OwnEq
import HandS.MakeKw
import KE.KTupSum
import KE.GoesMore
import HandS.Walk
import PyProof.NeKinds
import PySem.Challenge.RW_farbits_k32_signed_sums_in_any_order
set_option Elab.async false
set_option linter.all false
set_option maxRecDepth 100000
set_option maxHeartbeats 4000000
/-! ### what a law over classes asks of the top: facts by names, defs at any address, and a list of truths -/
namespace Hz
open PySem PySem.Spec PyProof.Rows L2 He
/-- the getter of a property -/
def getterOf (x m : Str) (K : PySem.W.Frag) : Addr :=
  match PySem.W.recIn K (ma K (ga K x) m) "property" with
  | some (Value.ref g :: _) => g
  | _ => 0
theorem getter_rec {K : PySem.W.Frag} {x m : Str} (h : (PySem.W.recIn K (ma K (ga K x) m) "property").any (fun l => decide (l.head? = some (Value.ref (getterOf x m K)))) = true) :
    ∃ rest, PySem.W.recIn K (ma K (ga K x) m) "property" = some (Value.ref (getterOf x m K) :: rest) := by
  cases e : PySem.W.recIn K (ma K (ga K x) m) "property" with
  | none => rw [e] at h; cases h
  | some l =>
    rw [e] at h
    have h2 := of_decide_eq_true (show decide (l.head? = some (Value.ref (getterOf x m K))) = true from h)
    cases l with
    | nil => cases h2
    | cons a r => cases h2; exact ⟨r, rfl⟩
/-- all the truths of a list -/
def allB (bs : List Bool) : Bool := bs.all fun b => b
theorem allB_at {bs : List Bool} (h : allB bs = true) (i : Nat) {b : Bool} (e : bs[i]? = some b) : b = true := List.all_eq_true.mp h b (List.mem_of_getElem? e)
/-- what the objects at an address name -/
def refs1 (g : Addr → Option Obj) (a : Addr) : List Addr :=
  match g a with
  | some o => refsO o
  | none => []
/-- where to look: names of defs, of classes, methods and properties of classes -/
structure Sight where
  fs : List Str
  cs : List Str
  ms : List (Str × Str)
def Sight.first (v : Sight) (g : Addr → Option Obj) : List Addr :=
  let K0 := frG g [mainGlobals]
  let c := v.cs.map (ga K0)
  mainGlobals :: PySem.cStatics :: (c ++ c.flatMap (refs1 g))
/-- the cells of a function -/
def cells1 (g : Addr → Option Obj) (a : Addr) : List Addr :=
  match g a with
  | some ⟨_, _, .func fd, _⟩ => fd.closure.map (·.2)
  | _ => []
def Sight.more (v : Sight) (g : Addr → Option Obj) (K1 : PySem.W.Frag) : List Addr :=
  let m := v.ms.map fun p => ma K1 (ga K1 p.1) p.2
  let f := v.fs.map (ga K1)
  let r := m.flatMap (refs1 g)
  f ++ f.flatMap (refs1 g) ++ (m ++ r ++ r.flatMap (refs1 g)) ++ m.flatMap (cells1 g)
def frAt (v : Sight) (g : Addr → Option Obj) : PySem.W.Frag := frG g (v.first g ++ v.more g (frG g (v.first g)))
/-! ### own errors: the class object, its __init__ with a cell -/
def excB (K : PySem.W.Frag) (C : Addr) (ch : List Value) : Bool :=
  match K.lookup C with
  | some ⟨oc, _, .cls cd, sl⟩ => decide (oc = .type "type") && (decide (cd.mro = .ref C :: ch) && (cd.hasDict && (!cd.hasDel && (match sl.toList with
    | [_, _, _, _, some (.builtin n), _] => decide (n = "ValueError.__new__")
    | _ => false))))
  | _ => false
theorem excB_ok {K : PySem.W.Frag} {C : Addr} {ch : List Value} (h : excB K C ch = true) : ∃ nm q N bs sn sub ab col dd k0 k1 k2 k3 k5, K.lookup C = some (excClassObj nm q C N bs ch true sn sub ab col dd k0 k1 k2 k3 k5 "ValueError.__new__") := by
  unfold excB at h
  cases e : K.lookup C with
  | none => rw [e] at h; cases h
  | some o =>
    obtain ⟨oc, dd, dt, sl⟩ := o
    rw [e] at h
    cases dt with
    | cls cd =>
      obtain ⟨nm, bs, mro, N, q, hdct, sn, sub, ab, col, hdel⟩ := cd
      obtain ⟨sl⟩ := sl
      dsimp only at h
      obtain ⟨h1, h⟩ := ba h
      obtain ⟨h2, h⟩ := ba h
      obtain ⟨h3, h⟩ := ba h
      obtain ⟨h4, h5⟩ := ba h
      have e1 := of_decide_eq_true h1
      have e2 := of_decide_eq_true h2
      subst e1 e2 h3
      have e4 : hdel = false := by cases hdel <;> first | rfl | cases h4
      subst e4
      split at h5
      · have e5 := of_decide_eq_true h5
        subst e5
        exact ⟨_, _, _, _, _, _, _, _, _, _, _, _, _, _, rfl⟩
      · cases h5
    | _ => cases h
def codeOf (K : PySem.W.Frag) (f : Addr) : Addr :=
  match K.lookup f with
  | some ⟨_, _, .func fd, _⟩ => (match fd.code with
    | .ref c => c
    | _ => 0)
  | _ => 0
def cellOf (K : PySem.W.Frag) (f : Addr) : Addr :=
  match K.lookup f with
  | some ⟨_, _, .func fd, _⟩ => (match fd.closure with
    | [(_, c)] => c
    | _ => 0)
  | _ => 0
def cellB (K : PySem.W.Frag) (c C : Addr) : Bool :=
  match K.lookup c with
  | some ⟨_, _, .cell (some (.ref a)), _⟩ => decide (a = C)
  | _ => false
theorem cellB_ok {K : PySem.W.Frag} {c C : Addr} (h : cellB K c C = true) : ∃ cl cld csl, K.lookup c = some ⟨cl, cld, .cell (some (.ref C)), csl⟩ := by
  unfold cellB at h
  split at h
  · rename_i e
    have := of_decide_eq_true h
    subst this
    exact ⟨_, _, _, e⟩
  · cases h
def fileB (K : PySem.W.Frag) (c : Addr) (file : Str) : Bool :=
  match K.lookup c with
  | some ⟨_, _, .fields vs, _⟩ => (match (vs[2]? : Option Value) with
    | some (.str f _) => file == f
    | _ => false)
  | _ => false
theorem fileB_ok {K : PySem.W.Frag} {c : Addr} {file : Str} (h : fileB K c file = true) : ∃ ccl cdd vs ccs file' tf, K.lookup c = some ⟨ccl, cdd, .fields vs, ccs⟩ ∧ vs[2]? = some (.str file' tf) ∧ (file == file') = true := by
  unfold fileB at h
  split at h
  · rename_i e
    split at h
    · rename_i e2
      exact ⟨_, _, _, _, _, _, e, e2, h⟩
    · cases h
  · cases h
abbrev FnC : Type := Option (Str × Str × Arguments × FuncBody × Scope × Addr × List Str × Addr)
def fnC (K : PySem.W.Frag) (a : Addr) : FnC := match K.lookup a with
  | some ⟨_, _, .func fd, _⟩ => some (fd.name, fd.qualname, fd.params, fd.body, fd.scope, fd.globals, fd.closure.map (·.1), fd.builtins)
  | _ => none
/-- an __init__ with the one cell __class__ -/
structure DefC where
  at_ : PySem.W.Frag → Addr
  qual : Str
  st : Stmt
def DefC.val (d : DefC) : FnC := some ("__init__", d.qual, defArgs d.st, .stmts (defBody d.st), defScope d.st, mainGlobals, ["__class__"], builtinsNs)
def DefC.ok (K : PySem.W.Frag) (d : DefC) : Bool :=
  match K.lookup (d.at_ K) with
  | some ⟨_, _, .func fd, _⟩ => (match fd.defaults with
    | .none => (match fd.code with
      | .ref c => PySem.W.codeIn K (.ref c) d.qual
      | _ => false)
    | _ => false)
  | _ => false
theorem DefC.get {K : PySem.W.Frag} {d : DefC} (e : fnC K (d.at_ K) = d.val) (c : d.ok K = true) :
    (∃ oc od osl kV doc pm ct an, K.lookup (d.at_ K) = some ⟨oc, od, .func (PySem.W.fnX "__init__" d.qual (defArgs d.st) (defBody d.st) (defScope d.st) [("__class__", cellOf K (d.at_ K))] .none kV doc pm an (.ref (codeOf K (d.at_ K))) ct), osl⟩) ∧ PySem.W.codeIn K (.ref (codeOf K (d.at_ K))) d.qual = true := by
  unfold DefC.ok at c
  unfold fnC at e
  cases q : K.lookup (d.at_ K) with
  | none => rw [q] at c; cases c
  | some o =>
    obtain ⟨oc, od, dt, osl⟩ := o
    rw [q] at c e
    cases dt with
    | func fd =>
      obtain ⟨n1, n2, n3, n4, n5, n6, n7, n8, n9, n10, n11, n12, n13, n14, n15⟩ := fd
      have e2 : (some (n1, n2, n3, n4, n5, n6, n7.map (·.1), n15) : FnC) = (some (("__init__" : Str), d.qual, defArgs d.st, .stmts (defBody d.st), defScope d.st, mainGlobals, (["__class__"] : List Str), builtinsNs) : FnC) := e
      simp only [Option.some.injEq, Prod.mk.injEq] at e2
      obtain ⟨h1, h2, h3, h4, h5, h6, h7, h8⟩ := e2
      subst h1 h2 h3 h4 h5 h6 h8
      match n7, h7, q with
      | [(y, cc)], h7, q =>
        have ey : y = "__class__" := by
          have h7' : ([y] : List Str) = (["__class__"] : List Str) := h7
          injection h7'
        subst ey
        cases n8 with
        | none =>
          cases n13 with
          | ref cd =>
            have ec : codeOf K (d.at_ K) = cd := by unfold codeOf; rw [q]
            have el : cellOf K (d.at_ K) = cc := by unfold cellOf; rw [q]
            rw [ec, el]
            exact ⟨⟨_, _, _, _, _, _, _, _, rfl⟩, c⟩
          | _ => cases c
        | _ => cases c
    | _ => cases c
def clsBodyZ (s : Stmt) : List Stmt := match s with
  | .ClassDef _ _ _ b _ _ _ _ _ _ _ => b
  | _ => []
/-- the hook: facts, defs, truths, __init__s of errors -/
abbrev AlZ : Type := He.AlD × Bool × Bool × List FnC
def lookZ (v : Sight) (fa : List Fa) (fn : List He5.DefA) (ex : PySem.W.Frag → List Bool) (fc : List DefC) (g : Addr → Option Obj) : AlZ :=
  (He5.obsA fa fn (frAt v g), allB (ex (frAt v g)), fc.all (fun d => d.ok (frAt v g)), fc.map fun d => fnC (frAt v g) (d.at_ (frAt v g)))
structure SaysZ (fa : List Fa) (fn : List He5.DefA) (ex : PySem.W.Frag → List Bool) (fc : List DefC) (K : PySem.W.Frag) : Prop where
  a : He5.SaysA fa fn K
  b : allB (ex K) = true
  c : fc.all (fun d => d.ok K) = true
  d : (fc.map fun d => fnC K (d.at_ K)) = fc.map DefC.val
theorem SaysZ.init {fa : List Fa} {fn : List He5.DefA} {ex : PySem.W.Frag → List Bool} {fc : List DefC} {K : PySem.W.Frag} (c : SaysZ fa fn ex fc K) (i : Nat) {d : DefC} (h : fc[i]? = some d) :
    (∃ oc od osl kV doc pm ct an, K.lookup (d.at_ K) = some ⟨oc, od, .func (PySem.W.fnX "__init__" d.qual (defArgs d.st) (defBody d.st) (defScope d.st) [("__class__", cellOf K (d.at_ K))] .none kV doc pm an (.ref (codeOf K (d.at_ K))) ct), osl⟩) ∧ PySem.W.codeIn K (.ref (codeOf K (d.at_ K))) d.qual = true := by
  have e2 : (fc.map fun d => fnC K (d.at_ K))[i]? = (fc.map DefC.val)[i]? := by rw [c.d]
  rw [List.getElem?_map, List.getElem?_map, h] at e2
  exact DefC.get (Option.some.inj e2) (List.all_eq_true.mp c.c d (List.mem_of_getElem? h))
def hookZ (v : Sight) (fa : List Fa) (fn : List He5.DefA) (ex : PySem.W.Frag → List Bool) (fc : List DefC) : PySem.W.Hook :=
  { α := AlZ
    obs := fun s => lookZ v fa fn ex fc s.heap.get?
    val := fun _ => (He5.valA fn, true, true, fc.map DefC.val)
    says := fun _ h => ∃ K : PySem.W.Frag, K.In h ∧ SaysZ fa fn ex fc K
    of := fun _ _ e => ⟨_, frG_in, ⟨congrArg Prod.fst e, congrArg (fun z => z.2.1) e, congrArg (fun z => z.2.2.1) e, congrArg (fun z => z.2.2.2) e⟩⟩
    keeps := fun _ _ _ x k => x.elim fun K y => ⟨K, PySem.W.Frag.In.keeps y.1 k, y.2⟩ }
theorem lookZ_eq {v : Sight} {fa : List Fa} {fn : List He5.DefA} {ex : PySem.W.Frag → List Bool} {fc : List DefC} {g g' : Addr → Option Obj} (h : ∀ a, g a = g' a) : lookZ v fa fn ex fc g = lookZ v fa fn ex fc g' := by rw [funext h]
/-- an equation of pairs from its two halves: each half may be run apart -/
theorem map_pair {α β γ : Type} {o : Option α} {f : α → β} {g : α → γ} {b : β} {c : γ} (h1 : o.map f = some b) (h2 : o.map g = some c) : o.map (fun a => (f a, g a)) = some (b, c) := by
  cases o with
  | none => cases h1
  | some a =>
    have e1 : f a = b := Option.some.inj h1
    have e2 : g a = c := Option.some.inj h2
    rw [← e1, ← e2]
    rfl
end Hz
/-! ### the top's run apart from the checks of its steps -/
noncomputable section
namespace Hz
open PySem PySem.W HandSHeadRun
section
variable (st : SharedT → Thread → Option (SharedT × Thread)) (n0 : Nat) (ann : Option Value)
/-- the run alone -/
def go2 : Nat → SharedT → Thread → Option SharedT
  | 0, _, _ => none
  | m + 1, s, t => match through t with
    | true => some s
    | false => match st s t with
      | some (s', t') => frS s' fun s' => go2 m s' t'
      | none => none
/-- the checks of m steps -/
def chk0 : Nat → SharedT → Thread → Bool
  | 0, _, _ => true
  | m + 1, s, t => match through t with
    | true => true
    | false => match stepOk n0 ann t with
      | false => false
      | true => match m with
        | 0 => true
        | m' + 1 => match st s t with
          | some (s', t') => frS s' fun s' => chk0 m s' t'
          | none => false
/-- the checks of m steps behind k -/
def chk (m : Nat) : Nat → SharedT → Thread → Bool
  | 0, s, t => chk0 st n0 ann m s t
  | k + 1, s, t => match through t with
    | true => true
    | false => match st s t with
      | some (s', t') => frS s' fun s' => chk m k s' t'
      | none => false
end
variable {st : SharedT → Thread → Option (SharedT × Thread)} {n0 : Nat} {ann : Option Value}
theorem go2_succ {m : Nat} {s s1 : SharedT} {t t1 : Thread} (h : through t = false) (e : st s t = some (s1, t1)) : go2 st (m + 1) s t = go2 st m s1 t1 := by
  show (match through t with
    | true => some s
    | false => match st s t with
      | some (s', t') => frS s' fun s' => go2 st m s' t'
      | none => none) = _
  rw [h, e]
  exact frS_eq _ _
theorem chk_succ {k m : Nat} {s s1 : SharedT} {t t1 : Thread} (h : through t = false) (e : st s t = some (s1, t1)) : chk st n0 ann m (k + 1) s t = chk st n0 ann m k s1 t1 := by
  show (match through t with
    | true => true
    | false => match st s t with
      | some (s', t') => frS s' fun s' => chk st n0 ann m k s' t'
      | none => false) = _
  rw [h, e]
  exact frS_eq _ _
theorem chk_one {m : Nat} {s s1 : SharedT} {t t1 : Thread} (h : through t = false) (e : st s t = some (s1, t1)) (c : chk st n0 ann (m + 1) 0 s t = true) : stepOk n0 ann t = true ∧ chk st n0 ann m 0 s1 t1 = true := by
  replace c : chk0 st n0 ann (m + 1) s t = true := c
  rw [chk0.eq_def] at c
  dsimp only at c
  rw [h] at c
  cases k : stepOk n0 ann t with
  | false => rw [k] at c; cases c
  | true =>
    rw [k] at c
    refine ⟨rfl, ?_⟩
    cases m with
    | zero => rfl
    | succ m =>
      dsimp only at c
      rw [e] at c
      dsimp only at c
      rw [frS_eq] at c
      exact c
theorem chk_through {k m : Nat} {s : SharedT} {t : Thread} (h : through t = true) : chk st n0 ann m k s t = true := by
  cases k with
  | succ k => rw [chk, h]
  | zero =>
    show chk0 st n0 ann m s t = true
    cases m with
    | zero => rfl
    | succ m => rw [chk0.eq_def]; dsimp only; rw [h]
/-- each of them by itself -/
theorem chk_at : ∀ {k m i : Nat} {s : SharedT} {t : Thread}, chk st n0 ann m k s t = true → k ≤ i → i < k + m → (∃ s', go2 st (i + 1) s t = some s' ∨ ∃ M, i < M ∧ go2 st M s t = some s') → chk st n0 ann 1 i s t = true := by
  intro k m i
  induction i generalizing k m with
  | zero =>
    intro s t c h0 h1 _
    obtain rfl : k = 0 := by omega
    obtain ⟨m, rfl⟩ : ∃ m', m = m' + 1 := ⟨m - 1, by omega⟩
    cases ht : through t with
    | true => exact chk_through ht
    | false =>
      replace c : chk0 st n0 ann (m + 1) s t = true := c
      show chk0 st n0 ann 1 s t = true
      rw [chk0.eq_def] at c ⊢
      dsimp only at c ⊢
      rw [ht] at c ⊢
      cases k : stepOk n0 ann t with
      | false => rw [k] at c; cases c
      | true => rfl
  | succ i ih =>
    intro s t c h0 h1 hx
    cases ht : through t with
    | true => exact chk_through ht
    | false =>
      obtain ⟨s', hx⟩ := hx
      obtain ⟨M, hM, hg⟩ : ∃ M, i + 1 < M ∧ go2 st M s t = some s' := by
        rcases hx with h | ⟨M, h, g⟩
        · exact ⟨i + 1 + 1, by omega, h⟩
        · exact ⟨M, h, g⟩
      obtain ⟨M, rfl⟩ : ∃ M', M = M' + 1 := ⟨M - 1, by omega⟩
      cases e : st s t with
      | none =>
        have : go2 st (M + 1) s t = none := by
          show (match through t with
            | true => some s
            | false => match st s t with
              | some (s', t') => frS s' fun s' => go2 st M s' t'
              | none => none) = _
          rw [ht, e]
        rw [this] at hg
        cases hg
      | some r =>
        obtain ⟨s1, t1⟩ := r
        rw [go2_succ ht e] at hg
        rw [chk_succ ht e]
        cases k with
        | succ k =>
          rw [chk_succ ht e] at c
          exact ih c (by omega) (by omega) ⟨s', .inr ⟨M, by omega, hg⟩⟩
        | zero =>
          obtain ⟨m, rfl⟩ : ∃ m', m = m' + 1 := ⟨m - 1, by omega⟩
          exact ih (chk_one ht e c).2 (by omega) (by omega) ⟨s', .inr ⟨M, by omega, hg⟩⟩
theorem goF_of : ∀ {M : Nat} {s s' : SharedT} {t : Thread}, go2 st M s t = some s' → (∀ i, i < M → chk st n0 ann 1 i s t = true) → goF st n0 ann M s t = some s'
  | 0, _, _, _, h, _ => by cases h
  | M + 1, s, s', t, h, c => by
    show (match through t with
      | true => some s
      | false => match stepOk n0 ann t with
        | false => none
        | true => match st s t with
          | some (s', t') => frS s' fun s' => goF st n0 ann M s' t'
          | none => none) = some s'
    have h1 : (match through t with
      | true => some s
      | false => match st s t with
        | some (s', t') => frS s' fun s' => go2 st M s' t'
        | none => none) = some s' := h
    cases ht : through t with
    | true =>
      rw [ht] at h1
      exact h1
    | false =>
      rw [ht] at h1
      cases e : st s t with
      | none =>
        rw [e] at h1
        cases h1
      | some r =>
        obtain ⟨s1, t1⟩ := r
        rw [e] at h1
        have h2 : (frS s1 fun s' => go2 st M s' t1) = some s' := h1
        rw [frS_eq] at h2
        have c0 := (chk_one ht e (c 0 (by omega))).1
        rw [c0]
        show (frS s1 fun s' => goF st n0 ann M s' t1) = some s'
        rw [frS_eq]
        exact goF_of h2 fun i hi => by
          have := c (i + 1) (by omega)
          rw [chk_succ ht e] at this
          exact this
/-- the same from the boot -/
def end2 (st : SharedT → Thread → Option (SharedT × Thread)) (M : Nat) (p : Program) (w : World) (os : OsState) : Option SharedT := match putAll (boot_heap w.params).objs.toList .nil 0 with
  | some (t, n) => frNat n fun n0 => go2 st M (bootT w os (t, n0)) (topStub p)
  | none => none
def endC (st : SharedT → Thread → Option (SharedT × Thread)) (k m : Nat) (p : Program) (w : World) (os : OsState) : Bool := match putAll (boot_heap w.params).objs.toList .nil 0 with
  | some (t, n) => frNat n fun n0 => chk st n0 (bootAnn w) m k (bootT w os (t, n0)) (topStub p)
  | none => false
/-- pieces of checks, from k to M -/
inductive Pcs (st : SharedT → Thread → Option (SharedT × Thread)) (p : Program) (w : World) (os : OsState) (M : Nat) : Nat → Prop where
  | done : Pcs st p w os M M
  | more {k m : Nat} (c : endC st k m p w os = true) (r : Pcs st p w os M (k + m)) : Pcs st p w os M k
theorem Pcs.at_ {p : Program} {w : World} {os : OsState} {M k i : Nat} {t : PySem.W.BT} {n : Nat} {s' : SharedT} (e : putAll (boot_heap w.params).objs.toList .nil 0 = some (t, n)) (hg : go2 st M (bootT w os (t, n)) (topStub p) = some s') (h : Pcs st p w os M k) (h0 : k ≤ i) (h1 : i < M) : chk st n (bootAnn w) 1 i (bootT w os (t, n)) (topStub p) = true := by
  induction h with
  | done => omega
  | @more k m c r ih =>
    by_cases lt : i < k + m
    · unfold endC at c
      rw [e] at c
      have c1 : (frNat n fun n0 => chk st n0 (bootAnn w) m k (bootT w os (t, n0)) (topStub p)) = true := c
      rw [frNat_eq] at c1
      exact chk_at c1 h0 lt ⟨s', .inr ⟨M, h1, hg⟩⟩
    · exact ih (by omega)
theorem endF_of {p : Program} {w : World} {os : OsState} {M : Nat} {α : Type} {f : SharedT → α} {b : α} (h : (end2 st M p w os).map f = some b) (c : Pcs st p w os M 0) : (endF st M p w os).map f = some b := by
  obtain ⟨s, hs, hb⟩ := Option.map_eq_some_iff.mp h
  have key : endF st M p w os = some s := by
    unfold end2 at hs
    unfold endF
    cases e : putAll (boot_heap w.params).objs.toList .nil 0 with
    | none => rw [e] at hs; cases hs
    | some r =>
      obtain ⟨t, n⟩ := r
      rw [e] at hs
      have h1 : (frNat n fun n0 => go2 st M (bootT w os (t, n0)) (topStub p)) = some s := hs
      rw [frNat_eq] at h1
      show (frNat n fun n0 => goF st n0 (bootAnn w) M (bootT w os (t, n0)) (topStub p)) = some s
      rw [frNat_eq]
      exact goF_of h1 fun i hi => c.at_ e h1 (Nat.zero_le _) hi
  rw [key]
  exact congrArg some hb
end Hz
namespace Hd
open PySem PySem.Spec PyProof.Rows L2
def topZ (i : Nat) : Stmt := PySem.Challenge.pw_farbits_k32_signed_sums_in_any_order.main.body.getD i (.Pass ⟨0, 0, 0, 0⟩)
def dd_is_near : He5.DefA := ⟨fun K => He.ga K ("is_near" : PySem.Str), ("is_near" : PySem.Str), ("is_near" : PySem.Str), defArgs (topZ 51), defBody (topZ 51), defScope (topZ 51), [], []⟩
def dd_int_of_rows : He5.DefA := ⟨fun K => He.ga K ("int_of_rows" : PySem.Str), ("int_of_rows" : PySem.Str), ("int_of_rows" : PySem.Str), defArgs (topZ 55), defBody (topZ 55), defScope (topZ 55), [], []⟩
def dd_int_of_turns : He5.DefA := ⟨fun K => He.ga K ("int_of_turns" : PySem.Str), ("int_of_turns" : PySem.Str), ("int_of_turns" : PySem.Str), defArgs (topZ 54), defBody (topZ 54), defScope (topZ 54), [], []⟩
def dd_is_negative : He5.DefA := ⟨fun K => He.ga K ("is_negative" : PySem.Str), ("is_negative" : PySem.Str), ("is_negative" : PySem.Str), defArgs (topZ 62), defBody (topZ 62), defScope (topZ 62), [], []⟩
def dd_ones_of_text : He5.DefA := ⟨fun K => He.ga K ("ones_of_text" : PySem.Str), ("ones_of_text" : PySem.Str), ("ones_of_text" : PySem.Str), defArgs (topZ 53), defBody (topZ 53), defScope (topZ 53), [], []⟩
def dd_turns_of_int : He5.DefA := ⟨fun K => He.ga K ("turns_of_int" : PySem.Str), ("turns_of_int" : PySem.Str), ("turns_of_int" : PySem.Str), defArgs (topZ 52), defBody (topZ 52), defScope (topZ 52), [], []⟩
def dd_is_plain : He5.DefA := ⟨fun K => He.ga K ("is_plain" : PySem.Str), ("is_plain" : PySem.Str), ("is_plain" : PySem.Str), defArgs (topZ 50), defBody (topZ 50), defScope (topZ 50), [], []⟩
def dd_form_of_int : He5.DefA := ⟨fun K => He.ga K ("form_of_int" : PySem.Str), ("form_of_int" : PySem.Str), ("form_of_int" : PySem.Str), defArgs (topZ 59), defBody (topZ 59), defScope (topZ 59), [], []⟩
def dd_form_with : He5.DefA := ⟨fun K => He.ga K ("form_with" : PySem.Str), ("form_with" : PySem.Str), ("form_with" : PySem.Str), defArgs (topZ 60), defBody (topZ 60), defScope (topZ 60), [], []⟩
def dd_turns_in : He5.DefA := ⟨fun K => He.ga K ("turns_in" : PySem.Str), ("turns_in" : PySem.Str), ("turns_in" : PySem.Str), defArgs (topZ 61), defBody (topZ 61), defScope (topZ 61), [], []⟩
def dd_compare : He5.DefA := ⟨fun K => He.ga K ("compare" : PySem.Str), ("compare" : PySem.Str), ("compare" : PySem.Str), defArgs (topZ 63), defBody (topZ 63), defScope (topZ 63), [], []⟩
def dd_compare_far : He5.DefA := ⟨fun K => He.ga K ("compare_far" : PySem.Str), ("compare_far" : PySem.Str), ("compare_far" : PySem.Str), defArgs (topZ 64), defBody (topZ 64), defScope (topZ 64), [], []⟩
def dd_common_tail : He5.DefA := ⟨fun K => He.ga K ("common_tail" : PySem.Str), ("common_tail" : PySem.Str), ("common_tail" : PySem.Str), defArgs (topZ 65), defBody (topZ 65), defScope (topZ 65), [], []⟩
def dd_is_less : He5.DefA := ⟨fun K => He.ga K ("is_less" : PySem.Str), ("is_less" : PySem.Str), ("is_less" : PySem.Str), defArgs (topZ 66), defBody (topZ 66), defScope (topZ 66), [], []⟩
def dd_turns_between : He5.DefA := ⟨fun K => He.ga K ("turns_between" : PySem.Str), ("turns_between" : PySem.Str), ("turns_between" : PySem.Str), defArgs (topZ 68), defBody (topZ 68), defScope (topZ 68), [], []⟩
def dd_turns_before : He5.DefA := ⟨fun K => He.ga K ("turns_before" : PySem.Str), ("turns_before" : PySem.Str), ("turns_before" : PySem.Str), defArgs (topZ 67), defBody (topZ 67), defScope (topZ 67), [], []⟩
def dd_turns_up_to : He5.DefA := ⟨fun K => He.ga K ("turns_up_to" : PySem.Str), ("turns_up_to" : PySem.Str), ("turns_up_to" : PySem.Str), defArgs (topZ 69), defBody (topZ 69), defScope (topZ 69), [.int 0], []⟩
def dd_shorter_first : He5.DefA := ⟨fun K => He.ga K ("shorter_first" : PySem.Str), ("shorter_first" : PySem.Str), ("shorter_first" : PySem.Str), defArgs (topZ 70), defBody (topZ 70), defScope (topZ 70), [], []⟩
def dd_merged_turns : He5.DefA := ⟨fun K => He.ga K ("merged_turns" : PySem.Str), ("merged_turns" : PySem.Str), ("merged_turns" : PySem.Str), defArgs (topZ 71), defBody (topZ 71), defScope (topZ 71), [], []⟩
def dd_flipped_turns : He5.DefA := ⟨fun K => He.ga K ("flipped_turns" : PySem.Str), ("flipped_turns" : PySem.Str), ("flipped_turns" : PySem.Str), defArgs (topZ 72), defBody (topZ 72), defScope (topZ 72), [], []⟩
def dd_is_short : He5.DefA := ⟨fun K => He.ga K ("is_short" : PySem.Str), ("is_short" : PySem.Str), ("is_short" : PySem.Str), defArgs (topZ 58), defBody (topZ 58), defScope (topZ 58), [], []⟩
def dd_are_near : He5.DefA := ⟨fun K => He.ga K ("are_near" : PySem.Str), ("are_near" : PySem.Str), ("are_near" : PySem.Str), defArgs (topZ 57), defBody (topZ 57), defScope (topZ 57), [], []⟩
def dd_int_of_form : He5.DefA := ⟨fun K => He.ga K ("int_of_form" : PySem.Str), ("int_of_form" : PySem.Str), ("int_of_form" : PySem.Str), defArgs (topZ 56), defBody (topZ 56), defScope (topZ 56), [], []⟩
def dd_plus_one : He5.DefA := ⟨fun K => He.ga K ("plus_one" : PySem.Str), ("plus_one" : PySem.Str), ("plus_one" : PySem.Str), defArgs (topZ 90), defBody (topZ 90), defScope (topZ 90), [], []⟩
def dd_carry_turns : He5.DefA := ⟨fun K => He.ga K ("carry_turns" : PySem.Str), ("carry_turns" : PySem.Str), ("carry_turns" : PySem.Str), defArgs (topZ 92), defBody (topZ 92), defScope (topZ 92), [], []⟩
def dd_summed_turns : He5.DefA := ⟨fun K => He.ga K ("summed_turns" : PySem.Str), ("summed_turns" : PySem.Str), ("summed_turns" : PySem.Str), defArgs (topZ 93), defBody (topZ 93), defScope (topZ 93), [], []⟩
def dd_parts_in : He5.DefA := ⟨fun K => He.ga K ("parts_in" : PySem.Str), ("parts_in" : PySem.Str), ("parts_in" : PySem.Str), defArgs (topZ 79), defBody (topZ 79), defScope (topZ 79), [], []⟩
def dd_levels_in : He5.DefA := ⟨fun K => He.ga K ("levels_in" : PySem.Str), ("levels_in" : PySem.Str), ("levels_in" : PySem.Str), defArgs (topZ 80), defBody (topZ 80), defScope (topZ 80), [], []⟩
def dd_judged : He5.DefA := ⟨fun K => He.ga K ("judged" : PySem.Str), ("judged" : PySem.Str), ("judged" : PySem.Str), defArgs (topZ 81), defBody (topZ 81), defScope (topZ 81), [], []⟩
def dd_is_number : He5.DefA := ⟨fun K => He.ga K ("is_number" : PySem.Str), ("is_number" : PySem.Str), ("is_number" : PySem.Str), defArgs (topZ 139), defBody (topZ 139), defScope (topZ 139), [], []⟩
def dd_form_in : He5.DefA := ⟨fun K => He.ga K ("form_in" : PySem.Str), ("form_in" : PySem.Str), ("form_in" : PySem.Str), defArgs (topZ 140), defBody (topZ 140), defScope (topZ 140), [], []⟩
def dd_number_form : He5.DefA := ⟨fun K => He.ga K ("number_form" : PySem.Str), ("number_form" : PySem.Str), ("number_form" : PySem.Str), defArgs (topZ 141), defBody (topZ 141), defScope (topZ 141), [], []⟩
def dd_place_form : He5.DefA := ⟨fun K => He.ga K ("place_form" : PySem.Str), ("place_form" : PySem.Str), ("place_form" : PySem.Str), defArgs (topZ 142), defBody (topZ 142), defScope (topZ 142), [], []⟩
def dd_form_of_value : He5.DefA := ⟨fun K => He.ga K ("form_of_value" : PySem.Str), ("form_of_value" : PySem.Str), ("form_of_value" : PySem.Str), defArgs (topZ 137), defBody (topZ 137), defScope (topZ 137), [], []⟩
def dd_far_of : He5.DefA := ⟨fun K => He.ga K ("far_of" : PySem.Str), ("far_of" : PySem.Str), ("far_of" : PySem.Str), defArgs (topZ 136), defBody (topZ 136), defScope (topZ 136), [], []⟩
def dd_plus : He5.DefA := ⟨fun K => He.ga K ("plus" : PySem.Str), ("plus" : PySem.Str), ("plus" : PySem.Str), defArgs (topZ 94), defBody (topZ 94), defScope (topZ 94), [], []⟩
def dd_flip : He5.DefA := ⟨fun K => He.ga K ("flip" : PySem.Str), ("flip" : PySem.Str), ("flip" : PySem.Str), defArgs (topZ 86), defBody (topZ 86), defScope (topZ 86), [], []⟩
def dd_opposite : He5.DefA := ⟨fun K => He.ga K ("opposite" : PySem.Str), ("opposite" : PySem.Str), ("opposite" : PySem.Str), defArgs (topZ 91), defBody (topZ 91), defScope (topZ 91), [], []⟩
def dd_are_movable : He5.DefA := ⟨fun K => He.ga K ("are_movable" : PySem.Str), ("are_movable" : PySem.Str), ("are_movable" : PySem.Str), defArgs (topZ 98), defBody (topZ 98), defScope (topZ 98), [], []⟩
def dd_shifted_up : He5.DefA := ⟨fun K => He.ga K ("shifted_up" : PySem.Str), ("shifted_up" : PySem.Str), ("shifted_up" : PySem.Str), defArgs (topZ 96), defBody (topZ 96), defScope (topZ 96), [], []⟩
def dd_pair_sums : He5.DefA := ⟨fun K => He.ga K ("pair_sums" : PySem.Str), ("pair_sums" : PySem.Str), ("pair_sums" : PySem.Str), defArgs (topZ 100), defBody (topZ 100), defScope (topZ 100), [], []⟩
def dd_total : He5.DefA := ⟨fun K => He.ga K ("total" : PySem.Str), ("total" : PySem.Str), ("total" : PySem.Str), defArgs (topZ 99), defBody (topZ 99), defScope (topZ 99), [], []⟩
def dd_is_term : He5.DefA := ⟨fun K => He.ga K ("is_term" : PySem.Str), ("is_term" : PySem.Str), ("is_term" : PySem.Str), defArgs (topZ 147), defBody (topZ 147), defScope (topZ 147), [], []⟩
def dd_signed_sum : He5.DefA := ⟨fun K => He.ga K ("signed_sum" : PySem.Str), ("signed_sum" : PySem.Str), ("signed_sum" : PySem.Str), defArgs (topZ 146), defBody (topZ 146), defScope (topZ 146), [], []⟩
def dd__law_pen : He5.DefA := ⟨fun K => He.ga K ("_law_pen" : PySem.Str), ("_law_pen" : PySem.Str), ("_law_pen" : PySem.Str), defArgs (topZ 149), defBody (topZ 149), defScope (topZ 149), [], []⟩
def dd__law_draw : He5.DefA := ⟨fun K => He.ga K ("_law_draw" : PySem.Str), ("_law_draw" : PySem.Str), ("_law_draw" : PySem.Str), defArgs (topZ 150), defBody (topZ 150), defScope (topZ 150), [], []⟩
def dd__law_pick : He5.DefA := ⟨fun K => He.ga K ("_law_pick" : PySem.Str), ("_law_pick" : PySem.Str), ("_law_pick" : PySem.Str), defArgs (topZ 151), defBody (topZ 151), defScope (topZ 151), [], []⟩
def dd__law_spot : He5.DefA := ⟨fun K => He.ga K ("_law_spot" : PySem.Str), ("_law_spot" : PySem.Str), ("_law_spot" : PySem.Str), defArgs (topZ 153), defBody (topZ 153), defScope (topZ 153), [], []⟩
def dd__law_given : He5.DefA := ⟨fun K => He.ga K ("_law_given" : PySem.Str), ("_law_given" : PySem.Str), ("_law_given" : PySem.Str), defArgs (topZ 154), defBody (topZ 154), defScope (topZ 154), [], []⟩
def dd__law_shuffled : He5.DefA := ⟨fun K => He.ga K ("_law_shuffled" : PySem.Str), ("_law_shuffled" : PySem.Str), ("_law_shuffled" : PySem.Str), defArgs (topZ 152), defBody (topZ 152), defScope (topZ 152), [], []⟩
def dd__law_wrong : He5.DefA := ⟨fun K => He.ga K ("_law_wrong" : PySem.Str), ("_law_wrong" : PySem.Str), ("_law_wrong" : PySem.Str), defArgs (topZ 155), defBody (topZ 155), defScope (topZ 155), [], []⟩
def dd__law_told : He5.DefA := ⟨fun K => He.ga K ("_law_told" : PySem.Str), ("_law_told" : PySem.Str), ("_law_told" : PySem.Str), defArgs (topZ 156), defBody (topZ 156), defScope (topZ 156), [], []⟩
def dd_law : He5.DefA := ⟨fun K => He.ga K ("law" : PySem.Str), ("law" : PySem.Str), ("law" : PySem.Str), defArgs (topZ 157), defBody (topZ 157), defScope (topZ 157), [], []⟩
def dd_Sound___init__ : He5.DefA := ⟨fun K => He.ma K (He.ga K "Sound") "__init__", ("__init__" : PySem.Str), ("Sound.__init__" : PySem.Str), defArgs (inClass (topZ 134) 0), defBody (inClass (topZ 134) 0), defScope (inClass (topZ 134) 0), [], []⟩
def dd_Far___init__ : He5.DefA := ⟨fun K => He.ma K (He.ga K "Far") "__init__", ("__init__" : PySem.Str), ("Far.__init__" : PySem.Str), defArgs (inClass (topZ 135) 0), defBody (inClass (topZ 135) 0), defScope (inClass (topZ 135) 0), [.int 0], []⟩
def dd_Far_form : He5.DefA := ⟨fun K => Hz.getterOf "Far" "form" K, ("form" : PySem.Str), ("Far.form" : PySem.Str), defArgs (inClass (topZ 135) 4), defBody (inClass (topZ 135) 4), defScope (inClass (topZ 135) 4), [], []⟩
def dd_Far_whole : He5.DefA := ⟨fun K => He.ma K (He.ga K "Far") "whole", ("whole" : PySem.Str), ("Far.whole" : PySem.Str), defArgs (inClass (topZ 135) 11), defBody (inClass (topZ 135) 11), defScope (inClass (topZ 135) 11), [], []⟩
def fnL0 : List He5.DefA := [dd_is_near, dd_int_of_rows, dd_int_of_turns, dd_is_negative, dd_ones_of_text, dd_turns_of_int, dd_is_plain, dd_form_of_int, dd_form_with, dd_turns_in, dd_compare, dd_compare_far, dd_common_tail, dd_is_less, dd_turns_between, dd_turns_before, dd_turns_up_to, dd_shorter_first, dd_merged_turns, dd_flipped_turns, dd_is_short, dd_are_near, dd_int_of_form, dd_plus_one, dd_carry_turns, dd_summed_turns, dd_parts_in, dd_levels_in, dd_judged, dd_is_number]
def fnL1 : List He5.DefA := [dd_form_in, dd_number_form, dd_place_form, dd_form_of_value, dd_far_of, dd_plus, dd_flip, dd_opposite, dd_are_movable, dd_shifted_up, dd_pair_sums, dd_total, dd_is_term, dd_signed_sum, dd__law_pen, dd__law_draw, dd__law_pick, dd__law_spot, dd__law_given, dd__law_shuffled, dd__law_wrong, dd__law_told, dd_law, dd_Sound___init__, dd_Far___init__, dd_Far_form, dd_Far_whole]
def fnL : List He5.DefA := fnL0 ++ fnL1
def faL0 : List He.Fa := [.glo ("is_near" : PySem.Str), .glo ("int_of_rows" : PySem.Str), .glo ("int_of_turns" : PySem.Str), .glo ("is_negative" : PySem.Str), .glo ("ones_of_text" : PySem.Str), .glo ("turns_of_int" : PySem.Str), .glo ("is_plain" : PySem.Str), .glo ("form_of_int" : PySem.Str), .glo ("form_with" : PySem.Str), .glo ("turns_in" : PySem.Str), .glo ("compare" : PySem.Str), .glo ("compare_far" : PySem.Str), .glo ("common_tail" : PySem.Str), .glo ("is_less" : PySem.Str), .glo ("turns_between" : PySem.Str), .glo ("turns_before" : PySem.Str), .glo ("turns_up_to" : PySem.Str), .glo ("shorter_first" : PySem.Str), .glo ("merged_turns" : PySem.Str), .glo ("flipped_turns" : PySem.Str), .glo ("is_short" : PySem.Str), .glo ("are_near" : PySem.Str), .glo ("int_of_form" : PySem.Str), .glo ("plus_one" : PySem.Str), .glo ("carry_turns" : PySem.Str), .glo ("summed_turns" : PySem.Str), .glo ("parts_in" : PySem.Str), .glo ("levels_in" : PySem.Str), .glo ("judged" : PySem.Str), .glo ("is_number" : PySem.Str)]
def faL1 : List He.Fa := [.glo ("form_in" : PySem.Str), .glo ("number_form" : PySem.Str), .glo ("place_form" : PySem.Str), .glo ("form_of_value" : PySem.Str), .glo ("far_of" : PySem.Str), .glo ("plus" : PySem.Str), .glo ("flip" : PySem.Str), .glo ("opposite" : PySem.Str), .glo ("are_movable" : PySem.Str), .glo ("shifted_up" : PySem.Str), .glo ("pair_sums" : PySem.Str), .glo ("total" : PySem.Str), .glo ("is_term" : PySem.Str), .glo ("signed_sum" : PySem.Str), .glo ("_law_pen" : PySem.Str), .glo ("_law_draw" : PySem.Str), .glo ("_law_pick" : PySem.Str), .glo ("_law_spot" : PySem.Str), .glo ("_law_given" : PySem.Str), .glo ("_law_shuffled" : PySem.Str), .glo ("_law_wrong" : PySem.Str), .glo ("_law_told" : PySem.Str), .glo ("law" : PySem.Str), .glo ("Far" : PySem.Str), .glo ("Sound" : PySem.Str), .glo ("FarError" : PySem.Str), .glo ("InvalidTerm" : PySem.Str), .free ("len" : PySem.Str), .free ("int" : PySem.Str), .free ("isinstance" : PySem.Str)]
def faL2 : List He.Fa := [.free ("sum" : PySem.Str), .free ("max" : PySem.Str), .free ("min" : PySem.Str), .free ("sorted" : PySem.Str), .free ("tuple" : PySem.Str), .free ("list" : PySem.Str), .free ("range" : PySem.Str), .free ("repr" : PySem.Str), .free ("bool" : PySem.Str), .free ("abs" : PySem.Str), .free ("enumerate" : PySem.Str), .free ("zip" : PySem.Str), .free ("str" : PySem.Str), .free ("dict" : PySem.Str), .free ("super" : PySem.Str), .int ("FEW_TURNS" : PySem.Str) 8, .int ("MANY_TURNS" : PySem.Str) 16, .str ("BITS" : PySem.Str) ("01" : PySem.Str), .int ("NEAR_PLACE" : PySem.Str) 1000, .int ("BITS_FOR_A_TURN" : PySem.Str) 64, .int ("PLAIN_STOP" : PySem.Str) 18446744073709551616, .int ("LAST_PLAIN_TURN" : PySem.Str) 64, .int ("MOST_PARTS" : PySem.Str) 2000, .int ("MOST_LEVELS" : PySem.Str) 6, .int ("LONGEST_INT" : PySem.Str) 4000]
def faL : List He.Fa := faL0 ++ faL1 ++ faL2
def dc_InvalidTerm : Hz.DefC := ⟨fun K => (He.ma K (He.ga K "InvalidTerm") "__init__"), "InvalidTerm.__init__", (Hz.clsBodyZ (topZ 14)).getD 0 (.Pass ⟨0, 0, 0, 0⟩)⟩
def fcL : List Hz.DefC := [dc_InvalidTerm]
def exL0 (K : PySem.W.Frag) : List Bool := [decide (PySem.W.nsIn K cStatics "sys.int_max_str_digits" = some none), decide (PySem.W.plainGet K (He.ga K "Far") Str.empty = true), decide (PySem.W.hasDictIn K (He.ga K "Far") = true), decide (PySem.W.plainOver K (He.ga K "Far") = true), decide (PySem.W.findIn K (.ref (He.ga K "Far")) "__setattr__" = some (some (.builtin "object.__setattr__"))), decide (PySem.W.makesIn K (He.ga K "Far") = true), decide (PySem.W.keepIn K (.ref (He.ga K "Far")) = true), decide (PySem.W.findIn K (.ref (He.ga K "Far")) "__class__" = some (some (.builtin "object.__class__"))), decide (PySem.W.mroIn K (He.ga K "Far") (.type "object") = some true), decide (PySem.W.plainGet K (He.ga K "Sound") Str.empty = true), decide (PySem.W.hasDictIn K (He.ga K "Sound") = true), decide (PySem.W.plainOver K (He.ga K "Sound") = true), decide (PySem.W.findIn K (.ref (He.ga K "Sound")) "__setattr__" = some (some (.builtin "object.__setattr__"))), decide (PySem.W.makesIn K (He.ga K "Sound") = true), decide (PySem.W.keepIn K (.ref (He.ga K "Sound")) = true), decide (PySem.W.findIn K (.ref (He.ga K "Sound")) "__class__" = some (some (.builtin "object.__class__"))), decide (PySem.W.mroIn K (He.ga K "Sound") (.type "object") = some true), decide (PySem.W.findIn K (.ref (He.ga K "Far")) "_form" = some none), decide (PySem.W.findIn K (.ref (He.ga K "Sound")) "checked" = some none), decide (PySem.W.specialIn K (.builtin "object.__class__") "__get__" = some (some (.builtin "getset_descriptor.__get__"))), decide (PySem.W.takesIn K (.builtin "object.__class__") = some true), decide (PySem.W.kitOne K (.ref (He.ga K "Far")) (.ref (He.ga K "Sound")) = some false), decide (PySem.W.kitOne K (.ref (He.ga K "Sound")) (.ref (He.ga K "Sound")) = some true), decide (PySem.W.kitOne K (.type "int") (.ref (He.ga K "Sound")) = some false), decide (PySem.W.kitOne K (.ref (He.ga K "Far")) (.ref (He.ga K "Far")) = some true), decide (PySem.W.kitOne K (.type "int") (.ref (He.ga K "Far")) = some false), decide (PySem.W.kitOne K (.ref (He.ga K "Far")) (.type "int") = some false), decide (PySem.W.notFirst K (He.ga K "Far") (.type "int") = true), decide (PySem.W.notFirst K (He.ga K "Far") (.ref (He.ga K "Far")) = true), decide (PySem.W.findIn K (.ref (He.ga K "Far")) "__ne__" = some (some (.builtin "object.__ne__")))]
def exL1 (K : PySem.W.Frag) : List Bool := [decide (PySem.W.findIn K (.ref (He.ga K "Sound")) "__init__" = some (some (.ref (He.ma K (He.ga K "Sound") "__init__")))), decide (PySem.W.isFn K (.ref (He.ma K (He.ga K "Sound") "__init__")) = true), decide (PySem.W.findIn K (.ref (He.ga K "Far")) "__init__" = some (some (.ref (He.ma K (He.ga K "Far") "__init__")))), decide (PySem.W.isFn K (.ref (He.ma K (He.ga K "Far") "__init__")) = true), decide (PySem.W.isFn K (.ref (Hz.getterOf "Far" "form" K)) = true), decide (PySem.W.findIn K (.ref (He.ga K "Far")) "whole" = some (some (.ref (He.ma K (He.ga K "Far") "whole")))), decide (PySem.W.isFn K (.ref (He.ma K (He.ga K "Far") "whole")) = true), decide (PySem.W.findIn K (.ref (He.ga K "Far")) "form" = some (some (.ref (He.ma K (He.ga K "Far") "form")))), decide (PySem.W.specialIn K (.ref (He.ma K (He.ga K "Far") "form")) "__get__" = some (some (.builtin "property.__get__"))), decide (PySem.W.takesIn K (.ref (He.ma K (He.ga K "Far") "form")) = some true), decide ((PySem.W.recIn K (He.ma K (He.ga K "Far") "form") "property").any (fun l => decide (l.head? = some (Value.ref (Hz.getterOf "Far" "form" K)))) = true), decide (Hz.excB K (He.ga K "FarError") [.type "ValueError", .type "Exception", .type "BaseException", .type "object"] = true), decide (PySem.W.findIn K (.ref (He.ga K "FarError")) "__init__" = some (some (.builtin "ValueError.__init__"))), decide (PySem.W.typeIn K (.ref (He.ga K "FarError")) = some (.type "type")), decide (PySem.W.specialIn K (.builtin "object.__class__") "__get__" = some (some (.builtin "getset_descriptor.__get__"))), decide (PySem.W.takesIn K (.builtin "object.__class__") = some true), decide (PySem.W.nsIn K cStatics "thirdparty.any" = some none), decide (Hz.excB K (He.ga K "InvalidTerm") (.ref (He.ga K "FarError") :: [.type "ValueError", .type "Exception", .type "BaseException", .type "object"]) = true), decide (PySem.W.findIn K (.ref (He.ga K "InvalidTerm")) "__setattr__" = some (some (.builtin "object.__setattr__"))), decide (PySem.W.findIn K (.ref (He.ga K "InvalidTerm")) "__getattribute__" = some (some (.builtin "BaseException.__getattribute__"))), decide (PySem.W.findIn K (.ref (He.ga K "InvalidTerm")) "__getattr__" = some none), decide (PySem.W.findIn K (.ref (He.ga K "InvalidTerm")) "__class__" = some (some (.builtin "object.__class__"))), decide (PySem.W.findIn K (.ref (He.ga K "InvalidTerm")) "__init__" = some (some (.ref (He.ma K (He.ga K "InvalidTerm") "__init__")))), decide (PySem.W.findIn K (.ref (He.ga K "InvalidTerm")) "index" = some none), decide (PySem.W.typeIn K (.ref (He.ma K (He.ga K "InvalidTerm") "__init__")) = some (.type "function")), decide (PySem.W.subIn K (.ref (He.ga K "InvalidTerm")) (.type "BaseException") = some true), decide (PySem.W.subIn K (.ref (He.ga K "InvalidTerm")) (.type "ValueError") = some true), decide (PySem.W.subIn K (.ref (He.ga K "InvalidTerm")) (.ref (He.ga K "InvalidTerm")) = some true), decide (PySem.W.subIn K (.ref (He.ga K "InvalidTerm")) (.ref (He.ga K "FarError")) = some true), decide (PySem.W.typeIn K (.ref (He.ga K "InvalidTerm")) = some (.type "type"))]
def exL2 (K : PySem.W.Frag) : List Bool := [decide (PySem.W.keepIn K (.ref (He.ga K "InvalidTerm")) = true), decide (PySem.W.mroIn K (He.ga K "InvalidTerm") (.ref (He.ga K "InvalidTerm")) = some true), decide (PySem.W.mroIn K (He.ga K "InvalidTerm") (.type "object") = some true), decide (Hz.cellB K (Hz.cellOf K (He.ma K (He.ga K "InvalidTerm") "__init__")) (He.ga K "InvalidTerm") = true), decide (Hz.fileB K (Hz.codeOf K (He.ma K (He.ga K "InvalidTerm") "__init__")) "/claim/cut.py" = true), decide (PySem.W.kitOne K (.type "NoneType") (.ref (He.ga K "Far")) = some false), decide (PySem.W.kitOne K (.type "bool") (.ref (He.ga K "Far")) = some false), decide (PySem.W.kitOne K (.type "str") (.ref (He.ga K "Far")) = some false)]
def exL (K : PySem.W.Frag) : List Bool := [Hz.allB (exL0 K), Hz.allB (exL1 K), Hz.allB (exL2 K)]
def fnmL0 : List PySem.Str := [("is_near" : PySem.Str), ("int_of_rows" : PySem.Str), ("int_of_turns" : PySem.Str), ("is_negative" : PySem.Str), ("ones_of_text" : PySem.Str), ("turns_of_int" : PySem.Str), ("is_plain" : PySem.Str), ("form_of_int" : PySem.Str), ("form_with" : PySem.Str), ("turns_in" : PySem.Str), ("compare" : PySem.Str), ("compare_far" : PySem.Str), ("common_tail" : PySem.Str), ("is_less" : PySem.Str), ("turns_between" : PySem.Str), ("turns_before" : PySem.Str), ("turns_up_to" : PySem.Str), ("shorter_first" : PySem.Str), ("merged_turns" : PySem.Str), ("flipped_turns" : PySem.Str), ("is_short" : PySem.Str), ("are_near" : PySem.Str), ("int_of_form" : PySem.Str), ("plus_one" : PySem.Str), ("carry_turns" : PySem.Str), ("summed_turns" : PySem.Str), ("parts_in" : PySem.Str), ("levels_in" : PySem.Str), ("judged" : PySem.Str), ("is_number" : PySem.Str)]
def fnmL1 : List PySem.Str := [("form_in" : PySem.Str), ("number_form" : PySem.Str), ("place_form" : PySem.Str), ("form_of_value" : PySem.Str), ("far_of" : PySem.Str), ("plus" : PySem.Str), ("flip" : PySem.Str), ("opposite" : PySem.Str), ("are_movable" : PySem.Str), ("shifted_up" : PySem.Str), ("pair_sums" : PySem.Str), ("total" : PySem.Str), ("is_term" : PySem.Str), ("signed_sum" : PySem.Str), ("_law_pen" : PySem.Str), ("_law_draw" : PySem.Str), ("_law_pick" : PySem.Str), ("_law_spot" : PySem.Str), ("_law_given" : PySem.Str), ("_law_shuffled" : PySem.Str), ("_law_wrong" : PySem.Str), ("_law_told" : PySem.Str), ("law" : PySem.Str)]
def fnmL : List PySem.Str := fnmL0 ++ fnmL1
def svL : Hz.Sight := ⟨fnmL, [("Far" : PySem.Str), ("Sound" : PySem.Str), ("FarError" : PySem.Str), ("InvalidTerm" : PySem.Str)], [(("Sound" : PySem.Str), ("__init__" : PySem.Str)), (("Far" : PySem.Str), ("__init__" : PySem.Str)), (("Far" : PySem.Str), ("form" : PySem.Str)), (("Far" : PySem.Str), ("whole" : PySem.Str)), (("InvalidTerm" : PySem.Str), ("__init__" : PySem.Str))]⟩
abbrev hkL : PySem.W.Hook := Hz.hookZ svL faL fnL exL fcL
def obL (s : PySem.W.SharedT) : Hz.AlZ := Hz.lookZ svL faL fnL exL fcL (HandSHeadRun.getT s)
theorem obL_eq (s : PySem.W.SharedT) : obL s = hkL.obs s.abs := by
  show Hz.lookZ svL faL fnL exL fcL (HandSHeadRun.getT s) = Hz.lookZ svL faL fnL exL fcL s.abs.heap.get?
  exact Hz.lookZ_eq (HandSHeadRun.getT_eq s)
def nsL0 : List PySem.Str := [("_wall" : PySem.Str), ("FarError" : PySem.Str), ("NotANumber" : PySem.Str), ("NoPlace" : PySem.Str), ("InvalidTurns" : PySem.Str), ("TooLarge" : PySem.Str), ("TooManyTerms" : PySem.Str), ("InvalidPower" : PySem.Str), ("NegativeShift" : PySem.Str), ("NotPower" : PySem.Str), ("TooFar" : PySem.Str), ("BadText" : PySem.Str), ("UnknownName" : PySem.Str), ("InvalidTerm" : PySem.Str), ("LETTERS" : PySem.Str), ("MOST_LETTERS" : PySem.Str), ("NO_NAMES" : PySem.Str), ("is_name" : PySem.Str), ("row_end" : PySem.Str), ("NUMBER" : PySem.Str), ("NAME" : PySem.Str), ("AHEAD" : PySem.Str), ("BETWEEN" : PySem.Str), ("DIGITS" : PySem.Str), ("MOST_DIGITS" : PySem.Str), ("MOST_LEVELS_OPEN" : PySem.Str), ("LONG_SIGNS" : PySem.Str), ("SHORT_SIGNS" : PySem.Str), ("STRENGTHS" : PySem.Str), ("SIGNS_AHEAD" : PySem.Str)]
def nsL1 : List PySem.Str := [("STRENGTH_OF_PARENTHESIS" : PySem.Str), ("LEAST_STRENGTH" : PySem.Str), ("STRENGTH_AHEAD" : PySem.Str), ("STRENGTH_OF_POWER" : PySem.Str), ("STRENGTHS_OF_LEVELS" : PySem.Str), ("steps_of" : PySem.Str), ("expression_at" : PySem.Str), ("token_end" : PySem.Str), ("Reader" : PySem.Str), ("LAST_PLAIN_TURN" : PySem.Str), ("PLAIN_STOP" : PySem.Str), ("FEW_TURNS" : PySem.Str), ("MANY_TURNS" : PySem.Str), ("NEAR_PLACE" : PySem.Str), ("BITS_FOR_A_TURN" : PySem.Str), ("BITS" : PySem.Str), ("is_plain" : PySem.Str), ("is_near" : PySem.Str), ("turns_of_int" : PySem.Str), ("ones_of_text" : PySem.Str), ("int_of_turns" : PySem.Str), ("int_of_rows" : PySem.Str), ("int_of_form" : PySem.Str), ("are_near" : PySem.Str), ("is_short" : PySem.Str), ("form_of_int" : PySem.Str), ("form_with" : PySem.Str), ("turns_in" : PySem.Str), ("is_negative" : PySem.Str), ("compare" : PySem.Str)]
def nsL2 : List PySem.Str := [("compare_far" : PySem.Str), ("common_tail" : PySem.Str), ("is_less" : PySem.Str), ("turns_before" : PySem.Str), ("turns_between" : PySem.Str), ("turns_up_to" : PySem.Str), ("shorter_first" : PySem.Str), ("merged_turns" : PySem.Str), ("flipped_turns" : PySem.Str), ("common_turns" : PySem.Str), ("MOST_PARTS" : PySem.Str), ("MOST_LEVELS" : PySem.Str), ("ANY_PARTS" : PySem.Str), ("ANY_LEVELS" : PySem.Str), ("parts_in" : PySem.Str), ("levels_in" : PySem.Str), ("judged" : PySem.Str), ("sound_parts" : PySem.Str), ("is_any_form" : PySem.Str), ("bit_at" : PySem.Str), ("flip" : PySem.Str), ("both" : PySem.Str), ("either" : PySem.Str), ("differ" : PySem.Str), ("plus_one" : PySem.Str), ("opposite" : PySem.Str), ("carry_turns" : PySem.Str), ("summed_turns" : PySem.Str), ("plus" : PySem.Str), ("minus" : PySem.Str)]
def nsL3 : List PySem.Str := [("shifted_up" : PySem.Str), ("shifted_down" : PySem.Str), ("are_movable" : PySem.Str), ("total" : PySem.Str), ("pair_sums" : PySem.Str), ("times" : PySem.Str), ("place_of_power" : PySem.Str), ("negate" : PySem.Str), ("add" : PySem.Str), ("subtract" : PySem.Str), ("bit_not" : PySem.Str), ("bit_and" : PySem.Str), ("bit_or" : PySem.Str), ("bit_xor" : PySem.Str), ("MOST_TERMS" : PySem.Str), ("MOST_POWER" : PySem.Str), ("shift_left" : PySem.Str), ("shift_right" : PySem.Str), ("divide" : PySem.Str), ("multiply" : PySem.Str), ("power" : PySem.Str), ("is_exponent" : PySem.Str), ("powered" : PySem.Str), ("evaluated" : PySem.Str), ("applied_ahead" : PySem.Str), ("applied_between" : PySem.Str), ("applied_to_bits" : PySem.Str), ("write_form" : PySem.Str), ("text_of_runs" : PySem.Str), ("text_of_run" : PySem.Str)]
def nsL4 : List PySem.Str := [("text_of_power" : PySem.Str), ("is_single_place" : PySem.Str), ("LONGEST_INT" : PySem.Str), ("Sound" : PySem.Str), ("Far" : PySem.Str), ("far_of" : PySem.Str), ("form_of_value" : PySem.Str), ("forms_by_name" : PySem.Str), ("is_number" : PySem.Str), ("form_in" : PySem.Str), ("number_form" : PySem.Str), ("place_form" : PySem.Str), ("amount_form" : PySem.Str), ("quotient" : PySem.Str), ("signed_sum" : PySem.Str), ("is_term" : PySem.Str), ("_law_pen" : PySem.Str), ("_law_draw" : PySem.Str), ("_law_pick" : PySem.Str), ("_law_shuffled" : PySem.Str), ("_law_spot" : PySem.Str), ("_law_given" : PySem.Str), ("_law_wrong" : PySem.Str), ("_law_told" : PySem.Str)]
def nsL : List PySem.Str := nsL0 ++ nsL1 ++ nsL2 ++ nsL3 ++ nsL4
abbrev rowL : PySem.W.OpenRow := PySem.W.OpenLaw.row PySem.Challenge.rw_farbits_k32_signed_sums_in_any_order
abbrev qvL : Program := PySem.W.view rowL.prog [157]
theorem partA0 (w : World) (os : OsState) : (Hz.end2 (HandSHeadRun.stepQ (HandSHeadRun.denQ HandSHeadRun.tabQ) rowL.prog (w.withFollow "special-get-raises" false)) 12000 rowL.prog (w.withFollow "special-get-raises" false) os).map (fun s => HandSHeadRun.looksF rowL.prog (PySem.W.boot_heap (w.withFollow "special-get-raises" false).params) s.abs) = some true := by
  kernel_rfl
theorem partB0 (w : World) (os : OsState) : (Hz.end2 (HandSHeadRun.stepQ (HandSHeadRun.denQ HandSHeadRun.tabQ) rowL.prog (w.withFollow "special-get-raises" false)) 12000 rowL.prog (w.withFollow "special-get-raises" false) os).map (fun s => HandSHeadRun.seenQ qvL nsL (importedModules rowL.prog.main.body) (fun s => PySem.W.xlAt qvL [] s && PySem.W.recOk rowL.toRowW.records s) s.abs) = some (PySem.W.openGood qvL nsL) := by
  kernel_rfl
theorem partC0 (w : World) (os : OsState) : (Hz.end2 (HandSHeadRun.stepQ (HandSHeadRun.denQ HandSHeadRun.tabQ) rowL.prog (w.withFollow "special-get-raises" false)) 12000 rowL.prog (w.withFollow "special-get-raises" false) os).map obL = some (hkL.val (w.withFollow "special-get-raises" false)) := by
  kernel_rfl
theorem piece00 (w : World) (os : OsState) : Hz.endC (HandSHeadRun.stepQ (HandSHeadRun.denQ HandSHeadRun.tabQ) rowL.prog (w.withFollow "special-get-raises" false)) 0 5000 rowL.prog (w.withFollow "special-get-raises" false) os = true := by
  kernel_rfl
theorem piece01 (w : World) (os : OsState) : Hz.endC (HandSHeadRun.stepQ (HandSHeadRun.denQ HandSHeadRun.tabQ) rowL.prog (w.withFollow "special-get-raises" false)) 5000 3500 rowL.prog (w.withFollow "special-get-raises" false) os = true := by
  kernel_rfl
theorem piece02 (w : World) (os : OsState) : Hz.endC (HandSHeadRun.stepQ (HandSHeadRun.denQ HandSHeadRun.tabQ) rowL.prog (w.withFollow "special-get-raises" false)) 8500 3500 rowL.prog (w.withFollow "special-get-raises" false) os = true := by
  kernel_rfl
theorem runL0 (w : World) : HandSHeadRun.RunEq rowL qvL hkL obL 12000 nsL (w.withFollow "special-get-raises" false) := by
  intro os
  exact Hz.endF_of (Hz.map_pair (partA0 w os) (Hz.map_pair (partB0 w os) (partC0 w os))) (.more (k := 0) (m := 5000) (piece00 w os) (.more (k := 5000) (m := 3500) (piece01 w os) (.more (k := 8500) (m := 3500) (piece02 w os) .done)))
theorem partA1 (w : World) (os : OsState) : (Hz.end2 (HandSHeadRun.stepQ (HandSHeadRun.denQ HandSHeadRun.tabQ) rowL.prog (w.withFollow "special-get-raises" true)) 12000 rowL.prog (w.withFollow "special-get-raises" true) os).map (fun s => HandSHeadRun.looksF rowL.prog (PySem.W.boot_heap (w.withFollow "special-get-raises" true).params) s.abs) = some true := by
  kernel_rfl
theorem partB1 (w : World) (os : OsState) : (Hz.end2 (HandSHeadRun.stepQ (HandSHeadRun.denQ HandSHeadRun.tabQ) rowL.prog (w.withFollow "special-get-raises" true)) 12000 rowL.prog (w.withFollow "special-get-raises" true) os).map (fun s => HandSHeadRun.seenQ qvL nsL (importedModules rowL.prog.main.body) (fun s => PySem.W.xlAt qvL [] s && PySem.W.recOk rowL.toRowW.records s) s.abs) = some (PySem.W.openGood qvL nsL) := by
  kernel_rfl
theorem partC1 (w : World) (os : OsState) : (Hz.end2 (HandSHeadRun.stepQ (HandSHeadRun.denQ HandSHeadRun.tabQ) rowL.prog (w.withFollow "special-get-raises" true)) 12000 rowL.prog (w.withFollow "special-get-raises" true) os).map obL = some (hkL.val (w.withFollow "special-get-raises" true)) := by
  kernel_rfl
theorem piece10 (w : World) (os : OsState) : Hz.endC (HandSHeadRun.stepQ (HandSHeadRun.denQ HandSHeadRun.tabQ) rowL.prog (w.withFollow "special-get-raises" true)) 0 5000 rowL.prog (w.withFollow "special-get-raises" true) os = true := by
  kernel_rfl
theorem piece11 (w : World) (os : OsState) : Hz.endC (HandSHeadRun.stepQ (HandSHeadRun.denQ HandSHeadRun.tabQ) rowL.prog (w.withFollow "special-get-raises" true)) 5000 3500 rowL.prog (w.withFollow "special-get-raises" true) os = true := by
  kernel_rfl
theorem piece12 (w : World) (os : OsState) : Hz.endC (HandSHeadRun.stepQ (HandSHeadRun.denQ HandSHeadRun.tabQ) rowL.prog (w.withFollow "special-get-raises" true)) 8500 3500 rowL.prog (w.withFollow "special-get-raises" true) os = true := by
  kernel_rfl
theorem runL1 (w : World) : HandSHeadRun.RunEq rowL qvL hkL obL 12000 nsL (w.withFollow "special-get-raises" true) := by
  intro os
  exact Hz.endF_of (Hz.map_pair (partA1 w os) (Hz.map_pair (partB1 w os) (partC1 w os))) (.more (k := 0) (m := 5000) (piece10 w os) (.more (k := 5000) (m := 3500) (piece11 w os) (.more (k := 8500) (m := 3500) (piece12 w os) .done)))
theorem runL (w : World) : HandSHeadRun.RunEq rowL qvL hkL obL 12000 nsL w := PySem.W.byRow2 (P := fun w => HandSHeadRun.RunEq rowL qvL hkL obL 12000 nsL w) "special-get-raises" runL0 runL1 w
end Hd
namespace Fb
open PySem L2
/-- a def that stands in the module and keeps a promise -/
structure Has (P : Program) (w : World) (K : PySem.W.Frag) (mg : Str → Option Value) (base : Heap) (k : Nat) (x : Str) (ps : List Str) (dvs : List V) (sp : Sp) : Prop where
  ex : ∃ f fd ds, FnOk P w K mg base CX0 k f fd ps sp ∧ PySem.W.keepIn K (.ref f) = true ∧ mg x = some (.ref f) ∧ Vals dvs ds ∧ Binds K fd ps ds
section
variable {X : Cx} {k : Nat} {x : Str} {ps : List Str} {dvs : List V} {sp : Sp} {e : Expr} {es : List Expr} {t : TA} {p pos : Pos}
theorem pe_H (C : Has X.prog X.w X.K X.mg X.base k x ps dvs sp) (hr : Room k X.A) (hg : Gl X x) (ha : PA X (e :: es) t) (hdb : (x == ("__debug__" : Str)) = false := by decide)
    (he : starEach (e :: es) X.env = (false, eval e X.env) :: starEach es X.env := by rfl) (hpl : (backTo pos (starEach es X.env)).any (·.1) = false := by rfl) :
    PE X (.Call (.Name x p) (e :: es) [] pos) (tCall sp dvs E0 t) := by
  obtain ⟨f, fd, ds, F, hk, hm, hd, hb⟩ := C.ex
  exact pe_call F hr hg hm hk hb hd pass0 ha hdb he hpl
/-- a def with defaults, its body over CX0 -/
theorem funD_ok {P : Program} {w : World} {K : PySem.W.Frag} {mg : Str → Option Value} {base : Heap} {x qual : Str} {st : Stmt} {dvs : List V} {kws : List (Str × V)} {f : Addr} {fd : FuncData} {N ps : List Str} {k : Nat} {sp : Sp} (F : FunD K x qual (defArgs st) (defBody st) (defScope st) dvs kws f fd) (S : FnScope N ps (defScope st)) (len : ∀ vs H Q E, sp vs H Q E → vs.length = ps.length)
    (hbody : ∀ (cdv : Value) (A : Around) (outer : List Env) (s : Shared) (H : Hp) (vs : List V) (Q : VK) (E : XK), Room k (A.deeper (PyProof.Rows.envOfC qual (defScope st) s.heap.objs.size f cdv)) → sp vs H Q E →
      ∃ t, PSs (cxOf CX0 P w K mg base N qual (defScope st) f cdv A outer s H E).nox (defBody st) t ∧ t { nx := fun _ H' => Q .non H', rt := Q } (L2.start N vs) H) : FnOk P w K mg base CX0 (k + 1) f fd ps sp :=
  F.ok S len fun cdv A outer s H vs Q E hr h => by
    obtain ⟨t, h, q⟩ := hbody cdv A outer s H vs Q E hr h
    exact ⟨t, h.nox, q⟩
end
/-- the built-ins that the text names are the built-ins -/
structure Blt (mg : Str → Option Value) : Prop where
  len : mg "len" = none
  int : mg "int" = none
  isinstance : mg "isinstance" = none
  sum : mg "sum" = none
  max : mg "max" = none
  min : mg "min" = none
  sorted : mg "sorted" = none
  tuple : mg "tuple" = none
  list : mg "list" = none
  range : mg "range" = none
  repr : mg "repr" = none
  bool : mg "bool" = none
  abs : mg "abs" = none
  enumerate : mg "enumerate" = none
  zip : mg "zip" = none
  str : mg "str" = none
  dict : mg "dict" = none
/-! ### heaps: all but the dicts is as it was -/
structure Nd (H H' : Hp) : Prop where
  k : ∀ b o, H b = some o → (∀ kv, o ≠ .dK kv) → H' b = some o
  f : ∀ b, H' b = none → H b = none
theorem Nd.refl (H : Hp) : Nd H H := ⟨fun _ _ h _ => h, fun _ h => h⟩
theorem Nd.trans {H H1 H2 : Hp} (a : Nd H H1) (b : Nd H1 H2) : Nd H H2 := ⟨fun x o h n => b.k x o (a.k x o h n) n, fun x h => a.f x (b.f x h)⟩
theorem Nd.of {H H' : Hp} (a : Same H H') : Nd H H' := ⟨fun x o h _ => a x o h, fun _ h => a.free h⟩
theorem upd_none {H : Hp} {p b : Addr} {o : HO} (h : upd H p o b = none) : H b = none ∧ b ≠ p := by
  have hn : b ≠ p := by rintro rfl; rw [upd_same] at h; cases h
  rw [upd_ne hn] at h
  exact ⟨h, hn⟩
theorem Nd.tape {t : Addr} {H : Hp} {o : HO} {kv : List (Key × V)} (h : H t = some (.dK kv)) : Nd H (upd H t o) := ⟨fun x u e n => by
  rw [upd_ne (by rintro rfl; rw [h] at e; cases e; exact n _ rfl)]; exact e, fun _ h => (upd_none h).1⟩
theorem Nd.new {p : Addr} {H : Hp} {o : HO} (h : H p = none) : Nd H (upd H p o) := ⟨fun x u e _ => by rw [upd_ne (ne_of_none e h)]; exact e, fun _ h => (upd_none h).1⟩
theorem Nd.sql {K : PySem.W.Frag} {c : Addr} {H H' : Hp} {xs : List V} (e : Nd H H') (h : SqL K H c xs) : SqL K H' c xs := by
  rcases h with (h | ⟨o, h⟩) | h
  · exact .inl (.inl (e.k _ _ h fun _ z => nomatch z))
  · exact .inl (.inr ⟨o, e.k _ _ h fun _ z => nomatch z⟩)
  · exact .inr h
theorem Nd.sqt {K : PySem.W.Frag} {c : Addr} {H H' : Hp} {xs : List V} (e : Nd H H') (h : SqT K H c xs) : SqT K H' c xs := by
  rcases h with (h | ⟨o, h⟩) | h
  · exact .inl (.inl (e.k _ _ h fun _ z => nomatch z))
  · exact .inl (.inr ⟨o, e.k _ _ h fun _ z => nomatch z⟩)
  · exact .inr h
theorem Nd.lst {a : Addr} {H H' : Hp} {xs : List V} (e : Nd H H') (h : H a = some (.lst xs)) : H' a = some (.lst xs) := e.k _ _ h fun _ z => nomatch z
mutual
theorem Nd.dp {K : PySem.W.Frag} {H H' : Hp} (e : Nd H H') : ∀ (d : PyData) (v : V), Dp K H v d → Dp K H' v d
  | .none, _, h => by cases h; exact .non
  | .bool b, _, h => by cases h; exact .bl b
  | .int i, _, h => by cases h; exact .int i
  | .str x, _, h => by cases h; exact .str x
  | .list ds, _, h => by
    cases h with
    | lst hs ha => exact .lst (e.sql hs) (Nd.dps e ds _ ha)
  | .tuple ds, _, h => by
    cases h with
    | tup hs ha => exact .tup (e.sqt hs) (Nd.dps e ds _ ha)
  | .dict _, _, h => by cases h
theorem Nd.dps {K : PySem.W.Frag} {H H' : Hp} (e : Nd H H') : ∀ (ds : List PyData) (vs : List V), DpAll K H vs ds → DpAll K H' vs ds
  | [], _, h => by cases h; exact .nil
  | d :: ds, _, h => by
    cases h with
    | cons h1 h2 => exact .cons (Nd.dp e d _ h1) (Nd.dps e ds _ h2)
end
theorem Nd.d {K : PySem.W.Frag} {H H' : Hp} {d : PyData} {v : V} (e : Nd H H') (h : Dp K H v d) : Dp K H' v d := Nd.dp e d v h
theorem Nd.ds {K : PySem.W.Frag} {H H' : Hp} {ds : List PyData} {vs : List V} (e : Nd H H') (h : DpAll K H vs ds) : DpAll K H' vs ds := Nd.dps e ds vs h
theorem Same.new {p : Addr} {H : Hp} {o : HO} (h : H p = none) : Same H (upd H p o) := fun b u q => by rw [upd_ne (ne_of_none q h)]; exact q
/-- a list that grows, made by this very call -/
theorem Same.mut {H H' : Hp} {p : Addr} {o : HO} (e : Same H H') (h : H p = none) : Same H (upd H' p o) := fun a u ha => by
  rw [upd_ne (ne_of_none ha h)]
  exact e a u ha
theorem Nd.mut {H H' : Hp} {p : Addr} {o : HO} (e : Nd H H') (h : H p = none) : Nd H (upd H' p o) := ⟨fun a u ha n => by
  rw [upd_ne (ne_of_none ha h)]
  exact e.k a u ha n, fun _ h => e.f _ (upd_none h).1⟩
theorem dps_length {K : PySem.W.Frag} {H : Hp} : ∀ {vs : List V} {ds : List PyData}, DpAll K H vs ds → vs.length = ds.length
  | _, _, .nil => rfl
  | _, _, .cons _ h => by rw [List.length_cons, List.length_cons, dps_length h]
theorem dps_get {K : PySem.W.Frag} {H : Hp} : ∀ {vs : List V} {ds : List PyData} {i : Nat} {v : V}, DpAll K H vs ds → vs[i]? = some v → ∃ d, ds[i]? = some d ∧ Dp K H v d
  | [], _, _, _, _, h => by cases h
  | w :: vs, [], _, _, hd, _ => by cases hd
  | w :: vs, d :: ds, 0, _, hd, h => by cases hd with | cons h1 h2 => cases h; exact ⟨_, rfl, h1⟩
  | w :: vs, d :: ds, i + 1, _, hd, h => by cases hd with | cons h1 h2 => exact dps_get (vs := vs) (ds := ds) (i := i) h2 (by simpa using h)
theorem dps_app {K : PySem.W.Frag} {H : Hp} : ∀ {vs ws : List V} {ds es : List PyData}, DpAll K H vs ds → DpAll K H ws es → DpAll K H (vs ++ ws) (ds ++ es)
  | _, _, _, _, .nil, h => h
  | _, _, _, _, .cons h1 h2, h => .cons h1 (dps_app h2 h)
theorem dps_ints {K : PySem.W.Frag} {H : Hp} : ∀ (ns : List Int), DpAll K H (ns.map V.int) (ns.map PyData.int)
  | [] => .nil
  | n :: ns => .cons (.int n) (dps_ints ns)
theorem dps_ints_inv {K : PySem.W.Frag} {H : Hp} : ∀ {ns : List Int} {vs : List V}, DpAll K H vs (ns.map PyData.int) → vs = ns.map V.int
  | [], _, h => by cases h; rfl
  | n :: ns, _, h => by
    cases h with
    | cons h1 h2 =>
      cases h1
      rw [dps_ints_inv h2]
      rfl
/-- the tape: a dict of the cells, the place, the rest; n draws are left -/
def tp (c : Addr) (at_ rest : Int) : List (Key × V) := [(.inr "cells", .ref c), (.inr "at", .int at_), (.inr "rest", .int rest)]
/-- the tape as it stands -/
structure TS (K : PySem.W.Frag) (t c : Addr) (cs : List Int) (a r : Int) (H : Hp) : Prop where
  d : H t = some (.dK (tp c a r))
  s : SqL K H c (cs.map V.int)
theorem TS.new {K : PySem.W.Frag} {t c p : Addr} {cs : List Int} {a r : Int} {H : Hp} {o : HO} (h : TS K t c cs a r H) (np : H p = none) : TS K t c cs a r (upd H p o) :=
  ⟨by rw [upd_ne (ne_of_none h.d np)]; exact h.d, (Nd.new np).sql h.s⟩
theorem TS.put {K : PySem.W.Frag} {t c : Addr} {cs : List Int} {a r b u : Int} {H : Hp} (h : TS K t c cs a r H) : TS K t c cs b u (upd H t (.dK (tp c b u))) :=
  ⟨upd_same, (Nd.tape h.d).sql h.s⟩
theorem TS.cells {K : PySem.W.Frag} {t c : Addr} {cs : List Int} {a r : Int} {H : Hp} (h : TS K t c cs a r H) : DGet H t (.str "cells") (some (.ref c)) := DGet.k (k := Sum.inr "cells") h.d
theorem TS.at_ {K : PySem.W.Frag} {t c : Addr} {cs : List Int} {a r : Int} {H : Hp} (h : TS K t c cs a r H) : DGet H t (.str "at") (some (.int a)) := DGet.k (k := Sum.inr "at") h.d
theorem TS.rest {K : PySem.W.Frag} {t c : Addr} {cs : List Int} {a r : Int} {H : Hp} (h : TS K t c cs a r H) : DGet H t (.str "rest") (some (.int r)) := DGet.k (k := Sum.inr "rest") h.d
theorem TS.pat {K : PySem.W.Frag} {t c : Addr} {cs : List Int} {a r b : Int} {H : Hp} (h : TS K t c cs a r H) : DPut H t (.str "at") (.int b) (upd H t (.dK (tp c b r))) := DPut.k (k := Sum.inr "at") h.d (by show 3 < sizeLine; decide)
theorem TS.prest {K : PySem.W.Frag} {t c : Addr} {cs : List Int} {a r b : Int} {H : Hp} (h : TS K t c cs a r H) : DPut H t (.str "rest") (.int b) (upd H t (.dK (tp c a b))) := DPut.k (k := Sum.inr "rest") h.d (by show 3 < sizeLine; decide)
theorem iteD {c A B : Prop} [Decidable c] (h1 : c → A) (h2 : ¬ c → B) : if decide c = true then A else B := by
  by_cases h : c
  · rw [decide_eq_true h, if_pos rfl]
    exact h1 h
  · rw [decide_eq_false h, if_neg Bool.false_ne_true]
    exact h2 h
theorem iteDN {c A B : Prop} [Decidable c] (h1 : ¬ c → A) (h2 : c → B) : if (!decide c) = true then A else B := by
  by_cases h : c
  · rw [decide_eq_true h]
    exact iteF (h2 h)
  · rw [decide_eq_false h]
    exact iteT (h1 h)
def rIntI : List V → Hp → VK → Prop := fun xs H Q => ∃ i, xs = [.int i] ∧ Q (.int i) H
theorem call_intI {X : Cx} : CallR X (.type "int") rIntI := fun pins s σ H xs us Q I r h =>
  call_int1 pins s σ H xs us Q I r (.inl h)
def rIntB : List V → Hp → VK → Prop := fun xs H Q => ∃ k, xs = [.bl k] ∧ Q (.int (if k then 1 else 0)) H
theorem call_intB {X : Cx} : CallR X (.type "int") rIntB := fun pins s σ H xs us Q I r h =>
  call_int1 pins s σ H xs us Q I r (.inr h)
def rLenL (K : PySem.W.Frag) : List V → Hp → VK → Prop := fun xs H Q => ∃ p ys, xs = [.ref p] ∧ SqL K H p ys ∧ Q (.int ys.length) H
theorem call_lenL {X : Cx} : CallR X (.builtin "len") (rLenL X.K) := fun pins s σ H xs us Q I r ⟨p, ys, e, h, q⟩ =>
  call_len_seq pins s σ H xs us Q I r ⟨p, ys, e, .inl h, q⟩
def rLenT (K : PySem.W.Frag) : List V → Hp → VK → Prop := fun xs H Q => ∃ p ys, xs = [.ref p] ∧ SqT K H p ys ∧ Q (.int ys.length) H
theorem call_lenT {X : Cx} : CallR X (.builtin "len") (rLenT X.K) := fun pins s σ H xs us Q I r ⟨p, ys, e, h, q⟩ =>
  call_len_seq pins s σ H xs us Q I r ⟨p, ys, e, .inr h, q⟩
def rTupL (K : PySem.W.Frag) : List V → Hp → VK → Prop := fun xs H Q => ∃ p ys, xs = [.ref p] ∧ SqL K H p ys ∧ ∀ l, H l = none → Q (.ref l) (upd H l (.tup ys))
theorem call_tupL {X : Cx} : CallR X (.type "tuple") (rTupL X.K) := fun pins s σ H xs us Q I r ⟨p, ys, e, h, q⟩ =>
  call_tuple_of pins s σ H xs us Q I r ⟨p, ys, e, .inl ⟨h, q⟩⟩
def rListL (K : PySem.W.Frag) : List V → Hp → VK → Prop := fun xs H Q => ∃ p ys, xs = [.ref p] ∧ SqL K H p ys ∧ ∀ l, H l = none → Q (.ref l) (upd H l (.lst ys))
theorem call_listL {X : Cx} : CallR X (.type "list") (rListL X.K) := fun pins s σ H xs us Q I r ⟨p, ys, e, h, q⟩ =>
  call_list_of pins s σ H xs us Q I r ⟨p, ys, e, .inl h, q⟩
def rListT (K : PySem.W.Frag) : List V → Hp → VK → Prop := fun xs H Q => ∃ p ys, xs = [.ref p] ∧ SqT K H p ys ∧ ∀ l, H l = none → Q (.ref l) (upd H l (.lst ys))
theorem call_listT {X : Cx} : CallR X (.type "list") (rListT X.K) := fun pins s σ H xs us Q I r ⟨p, ys, e, h, q⟩ =>
  call_list_of pins s σ H xs us Q I r ⟨p, ys, e, .inr h, q⟩
/-- a tape: its dict, its cells -/
structure Tp where
  t : Addr
  c : Addr
  cs : List Int
/-- the tape stands, n draws are left -/
def Tape (K : PySem.W.Frag) (τ : Tp) (n : Nat) (H : Hp) : Prop := ∃ at_ rest : Int, TS K τ.t τ.c τ.cs at_ rest H ∧ τ.cs ≠ [] ∧ τ.cs.length ≤ 63 ∧ 0 ≤ at_ ∧ at_ + n ≤ 2 ^ 40 ∧ 0 ≤ rest
theorem Tape.mono {K : PySem.W.Frag} {τ : Tp} {n m : Nat} {H : Hp} (h : Tape K τ n H) (e : m ≤ n) : Tape K τ m H := by
  obtain ⟨a, r, h1, h3, h4, h5, h6, h7⟩ := h
  exact ⟨a, r, h1, h3, h4, h5, by omega, h7⟩
theorem Tape.same {K : PySem.W.Frag} {τ : Tp} {n : Nat} {H H' : Hp} (h : Tape K τ n H) (e : Same H H') : Tape K τ n H' := by
  obtain ⟨a, r, h1, h3⟩ := h
  exact ⟨a, r, ⟨e _ _ h1.d, e.seq h1.s⟩, h3⟩
theorem Tape.new {K : PySem.W.Frag} {τ : Tp} {n : Nat} {H : Hp} {p : Addr} {o : HO} (h : Tape K τ n H) (np : H p = none) : Tape K τ n (upd H p o) := h.same fun b u q => by rw [upd_ne (ne_of_none q np)]; exact q
/-- an object made behind H0 may change -/
theorem Tape.mut {K : PySem.W.Frag} {τ : Tp} {n m : Nat} {H H0 : Hp} {p : Addr} {o : HO} (h0 : Tape K τ m H0) (np : H0 p = none) (h : Tape K τ n H) : Tape K τ n (upd H p o) := by
  obtain ⟨a0, r0, k1, _⟩ := h0
  obtain ⟨a, r, h1, h3⟩ := h
  refine ⟨a, r, ⟨by rw [upd_ne (by rintro rfl; rw [k1.d] at np; cases np)]; exact h1.d, ?_⟩, h3⟩
  have key : ∀ u, H0 τ.c = some u → SqL K (upd H p o) τ.c (τ.cs.map V.int) := fun u hu => by
    have hn : τ.c ≠ p := by intro z; rw [z, np] at hu; cases hu
    rcases h1.s with (h | ⟨w, h⟩) | h
    · exact .inl (.inl (by rw [upd_ne hn]; exact h))
    · exact .inl (.inr ⟨w, by rw [upd_ne hn]; exact h⟩)
    · exact .inr h
  rcases k1.s with (h | ⟨w, h⟩) | h
  · exact key _ h
  · exact key _ h
  · exact .inr h
/-- what a drawn bound may be -/
def BigL : Int := 2 ^ 8000
theorem lt_BigL {z : Int} (h : z ≤ 2 ^ 200) : z < BigL := Int.lt_of_le_of_lt h (by unfold BigL; decide +kernel)
theorem div_BigL {z i : Int} (h0 : 0 < z) (h : z < BigL) : CDivW i z := by
  refine wide_div (b := 8000) h0 ?_ (by decide) (by decide)
  have e : BigL = ((2 ^ 8000 : Nat) : Int) := by unfold BigL; exact (Int.natCast_pow 2 8000).symm
  rw [e] at h
  generalize 2 ^ 8000 = N at h
  omega
def spDraw (K : PySem.W.Frag) : Sp := fun vs H Q _ => ∃ (τ : Tp) (lim : Int) (n : Nat), vs = [.ref τ.t, .int lim] ∧ Tape K τ (n + 1) H ∧ 0 < lim ∧ lim < BigL ∧
  ∀ (d : Int) (H' : Hp), Nd H H' → Tape K τ n H' → 0 ≤ d → d < lim → Q (.int d) H'
theorem atI_mod {α : Type} {xs : List α} {k : Int} (h : xs ≠ []) : ∃ v, atI xs (k.fmod (xs.length : Int)) = some v ∧ v ∈ xs := by
  have hl : 0 < xs.length := List.length_pos_iff.mpr h
  have h0 : 0 ≤ k.fmod (xs.length : Int) := Int.fmod_nonneg_of_pos _ (by omega)
  have h1 : k.fmod (xs.length : Int) < xs.length := Int.fmod_lt_of_pos _ (by omega)
  obtain ⟨j, hj⟩ := Int.eq_ofNat_of_zero_le h0
  rw [hj]
  have hj' : j < xs.length := by omega
  exact ⟨xs[j], atI_nat (List.getElem?_eq_getElem hj'), List.getElem_mem hj'⟩
theorem tp_cells {c : Addr} {a r : Int} : valV (tp c a r) (.inr "cells") = some (.ref c) := by rfl
theorem tp_at {c : Addr} {a r : Int} : valV (tp c a r) (.inr "at") = some (.int a) := by rfl
theorem tp_rest {c : Addr} {a r : Int} : valV (tp c a r) (.inr "rest") = some (.int r) := by rfl
theorem tp_pat {c : Addr} {a r b : Int} : putK (tp c a r) (.inr "at") (.int b) = tp c b r := by rfl
theorem tp_prest {c : Addr} {a r b : Int} : putK (tp c a r) (.inr "rest") (.int b) = tp c a b := by rfl
end Fb
namespace Fb
open PySem
/-! ### the ones of a number, the turns of an int -/
def ones (m : Nat) : List Nat := if h : m = 0 then [] else (if m % 2 = 1 then [0] else []) ++ (ones (m / 2)).map (· + 1)
termination_by m
decreasing_by omega
theorem ones_zero : ones 0 = [] := by rw [ones]; rfl
theorem ones_pos {m : Nat} (h : m ≠ 0) : ones m = (if m % 2 = 1 then [0] else []) ++ (ones (m / 2)).map (· + 1) := by rw [ones, dif_neg h]
theorem ones_even (m : Nat) : ones (2 * m) = (ones m).map (· + 1) := by
  by_cases h : m = 0
  · subst h; rw [ones_zero]; rfl
  · rw [ones_pos (by omega), if_neg (by omega), show 2 * m / 2 = m by omega]; rfl
theorem ones_odd (m : Nat) : ones (2 * m + 1) = 0 :: (ones m).map (· + 1) := by
  rw [ones_pos (by omega), if_pos (by omega), show (2 * m + 1) / 2 = m by omega]; rfl
theorem ones_shift (k m : Nat) : ones (2 ^ k * m) = (ones m).map (· + k) := by
  induction k with
  | zero => simp
  | succ k ih =>
    rw [show 2 ^ (k + 1) * m = 2 * (2 ^ k * m) by rw [Nat.pow_succ]; simp [Nat.mul_comm, Nat.mul_left_comm, Nat.mul_assoc], ones_even, ih, List.map_map]
    exact List.map_congr_left fun x _ => by show x + k + 1 = x + (k + 1); omega
/-- the lowest one -/
theorem low_of {m : Nat} (h : m ≠ 0) : ∃ k a, m = 2 ^ k * (2 * a + 1) := by
  induction m using Nat.strongRecOn with
  | _ m ih =>
    by_cases e : m % 2 = 1
    · exact ⟨0, m / 2, by omega⟩
    · obtain ⟨k, a, q⟩ := ih (m / 2) (by omega) (by omega)
      exact ⟨k + 1, a, by rw [Nat.pow_succ, Nat.mul_right_comm, ← q]; omega⟩
theorem ones_low (k a : Nat) : ones (2 ^ k * (2 * a + 1)) = k :: ones (2 ^ k * (2 * a)) := by
  rw [ones_shift, ones_odd, show 2 ^ k * (2 * a) = 2 ^ k * (2 * a) from rfl, ones_shift, ones_even]
  simp
theorem ones_lt {m n : Nat} (h : m < 2 ^ n) : ∀ p ∈ ones m, p < n := by
  induction n generalizing m with
  | zero => rw [show m = 0 by omega, ones_zero]; simp
  | succ n ih =>
    intro p hp
    by_cases e : m = 0
    · rw [e, ones_zero] at hp; cases hp
    · rw [ones_pos e] at hp
      rcases List.mem_append.mp hp with hp | hp
      · split at hp <;> simp at hp; omega
      · obtain ⟨q, hq, rfl⟩ := List.mem_map.mp hp
        have := ih (m := m / 2) (by rw [Nat.pow_succ] at h; omega) q hq
        omega
theorem ones_asc (m : Nat) : (ones m).Pairwise (· < ·) := by
  induction m using Nat.strongRecOn with
  | _ m ih =>
    by_cases e : m = 0
    · rw [e, ones_zero]; exact .nil
    · have q := ih (m / 2) (by omega)
      have q1 : ((ones (m / 2)).map (· + 1)).Pairwise (· < ·) := List.pairwise_map.mpr (q.imp fun h => by omega)
      rw [ones_pos e]
      split
      · refine List.pairwise_cons.mpr ⟨fun x hx => ?_, q1⟩
        obtain ⟨y, _, rfl⟩ := List.mem_map.mp (show x ∈ (ones (m / 2)).map (· + 1) from hx)
        omega
      · exact q1
theorem ones_eq_nil {m : Nat} : ones m = [] ↔ m = 0 := by
  constructor
  · intro h
    by_cases e : m = 0
    · exact e
    · obtain ⟨k, a, rfl⟩ := low_of e
      rw [ones_low] at h; cases h
  · rintro rfl; exact ones_zero
theorem ones_len {m n : Nat} (h : m < 2 ^ n) : (ones m).length ≤ n := by
  induction n generalizing m with
  | zero => rw [show m = 0 by omega, ones_zero]; simp
  | succ n ih =>
    by_cases e : m = 0
    · rw [e, ones_zero]; simp
    · have := ih (m := m / 2) (by rw [Nat.pow_succ] at h; omega)
      rw [ones_pos e]
      split <;> simp <;> omega
/-! ### the marks of an int: its turns -/
open PyProof.Rows PySem.W in
theorem xor_halves (x y : Int) : Builtin.bitXor x y = 2 * Builtin.bitXor (x / 2) (y / 2) + (x + y) % 2 := by
  rw [bitXor_and, bitXor_and, kbt_halves x y]
  split <;> omega
def mk (b x : Int) : Int := Builtin.bitXor x (2 * x + b)
theorem mk_step {b x : Int} (h0 : 0 ≤ b) (h1 : b < 2) : mk b x = 2 * mk (x % 2) (x / 2) + (x + b) % 2 := by
  unfold mk
  rw [xor_halves, show (2 * x + b) / 2 = x by omega, show 2 * (x / 2) + x % 2 = x by omega]
  omega
/-- alternating powers of two -/
def alt (s : Int) : List Nat → Int
  | [] => 0
  | p :: ps => s * 2 ^ p + alt (-s) ps
theorem alt_up (s : Int) (ps : List Nat) : alt s (ps.map (· + 1)) = 2 * alt s ps := by
  induction ps generalizing s with
  | nil => rfl
  | cons p ps ih =>
    show s * 2 ^ (p + 1) + alt (-s) (ps.map (· + 1)) = 2 * (s * 2 ^ p + alt (-s) ps)
    rw [ih, Int.pow_succ, Int.mul_add, ← Int.mul_assoc, Int.mul_comm _ 2]
theorem mk_all (n : Nat) : ∀ b x : Int, 0 ≤ b → b < 2 → -(2 ^ n) ≤ x → x < 2 ^ n → 0 ≤ mk b x ∧ mk b x < 2 ^ (n + 1) ∧ alt (2 * b - 1) (ones (mk b x).toNat) = x + b := by
  induction n with
  | zero =>
    intro b x h0 h1 h2 h3
    have hx : x = 0 ∨ x = -1 := by simp at h2 h3; omega
    have hb : b = 0 ∨ b = 1 := by omega
    have c00 : mk 0 0 = 0 := by decide +kernel
    have c10 : mk 1 0 = 1 := by decide +kernel
    have c01 : mk 0 (-1) = 1 := by decide +kernel
    have c11 : mk 1 (-1) = 0 := by decide +kernel
    have o1 : ones 1 = [0] := by rw [show (1 : Nat) = 2 * 0 + 1 from rfl, ones_odd, ones_zero]; rfl
    rcases hx with rfl | rfl <;> rcases hb with rfl | rfl
    · rw [c00]; refine ⟨by decide, by decide, ?_⟩; rw [show (0 : Int).toNat = 0 from rfl, ones_zero]; rfl
    · rw [c10]; refine ⟨by decide, by decide, ?_⟩; rw [show (1 : Int).toNat = 1 from rfl, o1]; rfl
    · rw [c01]; refine ⟨by decide, by decide, ?_⟩; rw [show (1 : Int).toNat = 1 from rfl, o1]; rfl
    · rw [c11]; refine ⟨by decide, by decide, ?_⟩; rw [show (0 : Int).toNat = 0 from rfl, ones_zero]; rfl
  | succ n ih =>
    intro b x h0 h1 h2 h3
    rw [Int.pow_succ] at h2 h3
    obtain ⟨k0, k1, k2⟩ := ih (x % 2) (x / 2) (by omega) (by omega) (by omega) (by omega)
    rw [mk_step h0 h1]
    refine ⟨by omega, by rw [Int.pow_succ]; omega, ?_⟩
    generalize hm : mk (x % 2) (x / 2) = m at k0 k1 k2
    by_cases e : (x + b) % 2 = 0
    · rw [e, show (2 * m + 0).toNat = 2 * m.toNat by omega, ones_even, alt_up, show 2 * b - 1 = 2 * (x % 2) - 1 by omega, k2]
      omega
    · rw [show (x + b) % 2 = 1 by omega, show (2 * m + 1).toNat = 2 * m.toNat + 1 by omega, ones_odd]
      show (2 * b - 1) * 2 ^ 0 + alt (-(2 * b - 1)) _ = _
      rw [alt_up, show -(2 * b - 1) = 2 * (x % 2) - 1 by omega, k2]
      simp
      omega
def marks (x : Int) : Nat := (Builtin.bitXor x (x * 2)).toNat
theorem marks_eq (x : Int) : Builtin.bitXor x (x * 2) = mk 0 x := by unfold mk; rw [show x * 2 = 2 * x + 0 by omega]
def turnsN (x : Int) : List Nat := ones (marks x)
def turnsZ (x : Int) : List Int := (turnsN x).map Int.ofNat
theorem marks_cast {x : Int} : ∃ n : Nat, -(2 ^ n) ≤ x ∧ x < 2 ^ n := by
  refine ⟨x.natAbs, ?_, ?_⟩ <;>
  · have h : x.natAbs < 2 ^ x.natAbs := Nat.lt_two_pow_self
    have h2 : ((2 ^ x.natAbs : Nat) : Int) = (2 : Int) ^ x.natAbs := by simp
    omega
theorem marks_nonneg (x : Int) : 0 ≤ Builtin.bitXor x (x * 2) := by
  obtain ⟨n, h0, h1⟩ := marks_cast (x := x)
  rw [marks_eq]; exact (mk_all n 0 x (by decide) (by decide) h0 h1).1
theorem marks_val (x : Int) : Builtin.bitXor x (x * 2) = (marks x : Int) := by
  have := marks_nonneg x
  unfold marks; omega
theorem marks_lt {x : Int} {n : Nat} (h0 : -(2 ^ n) ≤ x) (h1 : x < 2 ^ n) : marks x < 2 ^ (n + 1) := by
  have h := (mk_all n 0 x (by decide) (by decide) h0 h1).2.1
  rw [← marks_eq, marks_val] at h
  have h2 : ((2 ^ (n + 1) : Nat) : Int) = (2 : Int) ^ (n + 1) := by simp
  omega
/-- the turns tell the int -/
theorem turns_alt (x : Int) : alt (-1) (turnsN x) = x := by
  obtain ⟨n, h0, h1⟩ := marks_cast (x := x)
  have h : alt (-1) (ones (mk 0 x).toNat) = x + 0 := (mk_all n 0 x (by decide) (by decide) h0 h1).2.2
  rw [← marks_eq] at h
  unfold turnsN marks
  omega
theorem turns_lt {x : Int} {n : Nat} (h0 : -(2 ^ n) ≤ x) (h1 : x < 2 ^ n) : ∀ p ∈ turnsN x, p ≤ n := fun p hp => Nat.le_of_lt_succ (ones_lt (marks_lt h0 h1) p hp)
theorem turns_len {x : Int} {n : Nat} (h0 : -(2 ^ n) ≤ x) (h1 : x < 2 ^ n) : (turnsN x).length ≤ n + 1 := ones_len (marks_lt h0 h1)
theorem turns_asc (x : Int) : (turnsN x).Pairwise (· < ·) := ones_asc _
/-- a step of the loop over the marks -/
theorem marks_low {m : Nat} (h : m ≠ 0) : ∃ k : Nat, Builtin.bitAnd (m : Int) (-(m : Int)) = 2 ^ k ∧ 2 ^ k ≤ m ∧ ones m = k :: ones (m - 2 ^ k) := by
  obtain ⟨k, a, rfl⟩ := low_of h
  refine ⟨k, ?_, ?_, ?_⟩
  · have := PySem.W.kbt_low k (a : Int)
    rw [← this]
    simp
  · exact Nat.le_mul_of_pos_right _ (by omega)
  · rw [ones_low, Nat.mul_add, Nat.mul_one, Nat.add_sub_cancel]
end Fb
namespace Fb
open PySem L2
/-! ### trees of ints and tuples -/
def dTy : PyData → String
  | .none => "NoneType" | .bool _ => "bool" | .int _ => "int" | .str _ => "str" | .list _ => "list" | .tuple _ => "tuple" | .dict _ => "dict"
theorem tyx_dp {K : PySem.W.Frag} {H : Hp} {v : V} {d : PyData} (h : Dp K H v d) : TyX K H v (.type (dTy d)) := by
  cases h with
  | non => exact .base .non
  | bl b => exact .base (.bl b)
  | int i => exact .base (.int i)
  | str x => exact .base (.str x)
  | lst hs _ =>
    rcases hs with (h | ⟨o, h⟩) | ⟨o, its, n, h1, h2, _⟩
    · exact .base (.lst h)
    · exact .base (.frz h)
    · exact .kList h1 h2
  | tup hs _ =>
    rcases hs with (h | ⟨o, h⟩) | ⟨o, its, n, h1, h2, _⟩
    · exact .base (.tup h)
    · exact .fTuple h
    · exact .kTuple h1 h2
def isI (d : PyData) : Bool := match d with | .int _ => true | .bool _ => true | _ => false
def isT (d : PyData) : Bool := match d with | .tuple _ => true | _ => false
theorem kit_I : ∀ d : PyData, kitB (dTy d) "int" = some (isI d)
  | .none => by show kitB "NoneType" "int" = some false; decide +kernel
  | .bool _ => by show kitB "bool" "int" = some true; decide +kernel
  | .int _ => by show kitB "int" "int" = some true; decide +kernel
  | .str _ => by show kitB "str" "int" = some false; decide +kernel
  | .list _ => by show kitB "list" "int" = some false; decide +kernel
  | .tuple _ => by show kitB "tuple" "int" = some false; decide +kernel
  | .dict _ => by show kitB "dict" "int" = some false; decide +kernel
theorem kit_T : ∀ d : PyData, kitB (dTy d) "tuple" = some (isT d)
  | .none => by show kitB "NoneType" "tuple" = some false; decide +kernel
  | .bool _ => by show kitB "bool" "tuple" = some false; decide +kernel
  | .int _ => by show kitB "int" "tuple" = some false; decide +kernel
  | .str _ => by show kitB "str" "tuple" = some false; decide +kernel
  | .list _ => by show kitB "list" "tuple" = some false; decide +kernel
  | .tuple _ => by show kitB "tuple" "tuple" = some true; decide +kernel
  | .dict _ => by show kitB "dict" "tuple" = some false; decide +kernel
/-- isinstance(x, int) of a datum -/
def rIsD (K : PySem.W.Frag) (T : String) (t : PyData → Bool) : List V → Hp → VK → Prop := fun xs H Q => ∃ x d, xs = [x, .ty T] ∧ Dp K H x d ∧ Q (.bl (t d)) H
theorem call_isiI {X : Cx} (K : PySem.W.Frag) (hK : X.K = K := by rfl) : CallR X (.builtin "isinstance") (rIsD K "int" isI) := fun pins s σ H xs us Q I r ⟨x, d, e, h, q⟩ => by
  subst hK
  refine call_isi pins s σ H xs us Q I r ⟨x, _, _, _, isI d, e, .ty _, tyx_dp h, kit_ty (kit_I d), q⟩
/-- isinstance(x, tuple) of a datum -/
theorem call_isiT_ {X : Cx} (K : PySem.W.Frag) (hK : X.K = K := by rfl) : CallR X (.builtin "isinstance") (rIsD K "tuple" isT) := fun pins s σ H xs us Q I r ⟨x, d, e, h, q⟩ => by
  subst hK
  refine call_isi pins s σ H xs us Q I r ⟨x, _, _, _, isT d, e, .ty _, tyx_dp h, kit_ty (kit_T d), q⟩
theorem lcT {σ : L2.St} {H : Hp} {A B : Hp → Prop} (h : A H) : tYes σ H (fun b H3 => if b = true then A H3 else B H3) := by
  show (if true = true then A H else B H)
  rw [if_pos rfl]
  exact h
theorem ix_listK {X : Cx} (K : PySem.W.Frag) (hK : X.K = K := by rfl) : IxR X (rIxL K) := by subst hK; exact ix_list
theorem ix_tupK {X : Cx} (K : PySem.W.Frag) (hK : X.K = K := by rfl) : IxR X (rIxT K) := by subst hK; exact ix_tup
theorem call_lenLK {X : Cx} (K : PySem.W.Frag) (hK : X.K = K := by rfl) : CallR X (.builtin "len") (rLenL K) := by subst hK; exact call_lenL
/-- a tree of ints and tuples, at most n tuples deep -/
def Fm : Nat → PyData → Prop
  | 0, d => ∃ i, d = .int i
  | n + 1, d => (∃ i, d = .int i) ∨ ∃ ds, d = .tuple ds ∧ ds.length ≤ 9000 ∧ ∀ x ∈ ds, Fm n x
theorem Fm.succ : ∀ {n : Nat} {d : PyData}, Fm n d → Fm (n + 1) d
  | 0, _, h => .inl h
  | n + 1, _, h => by
    rcases h with h | ⟨ds, e, l, h⟩
    · exact .inl h
    · exact .inr ⟨ds, e, l, fun x hx => (h x hx).succ⟩
theorem Fm.mono {n m : Nat} {d : PyData} (h : Fm n d) (e : n ≤ m) : Fm m d := by
  induction e with
  | refl => exact h
  | step _ ih => exact ih.succ
theorem Fm.int {n : Nat} (i : Int) : Fm n (.int i) := by cases n <;> first | exact ⟨i, rfl⟩ | exact .inl ⟨i, rfl⟩
/-- size -/
def sz : Nat → PyData → Int
  | n + 1, .tuple ds => 1 + (ds.map (sz n)).sum
  | _, _ => 1
theorem sz_int (n : Nat) (i : Int) : sz n (.int i) = 1 := by cases n <;> rfl
/-- the greatest of some ints, 0 if there is none -/
def maxI : List Int → Int
  | [] => 0
  | x :: xs => max x (maxI xs)
def ht : Nat → PyData → Int
  | n + 1, .tuple ds => 1 + maxI (ds.map (ht n))
  | _, _ => 0
theorem ht_int (n : Nat) (i : Int) : ht n (.int i) = 0 := by cases n <;> rfl
theorem ht_nonneg : ∀ (n : Nat) (d : PyData), 0 ≤ ht n d
  | 0, _ => Int.le_refl _
  | n + 1, .tuple ds => by
    show 0 ≤ 1 + maxI _
    have : ∀ l : List Int, (∀ x ∈ l, 0 ≤ x) → 0 ≤ maxI l := fun l hl => by cases l with | nil => exact Int.le_refl _ | cons x xs => have := hl x List.mem_cons_self; show 0 ≤ max x _; omega
    have := this (ds.map (ht n)) (fun x hx => by obtain ⟨d, _, rfl⟩ := List.mem_map.mp hx; exact ht_nonneg n d)
    omega
  | n + 1, .none => Int.le_refl _
  | n + 1, .bool _ => Int.le_refl _
  | n + 1, .int _ => Int.le_refl _
  | n + 1, .str _ => Int.le_refl _
  | n + 1, .list _ => Int.le_refl _
  | n + 1, .dict _ => Int.le_refl _
theorem maxI_le {l : List Int} {x : Int} (h : x ∈ l) : x ≤ maxI l := by
  induction l with
  | nil => cases h
  | cons y ys ih =>
    show x ≤ max y (maxI ys)
    rcases List.mem_cons.mp h with rfl | h
    · omega
    · have := ih h; omega
theorem maxI_mem {l : List Int} (h : l ≠ []) (h0 : ∀ x ∈ l, 0 ≤ x) : maxI l ∈ l := by
  induction l with
  | nil => exact absurd rfl h
  | cons y ys ih =>
    by_cases e : ys = []
    · subst e
      show max y 0 ∈ [y]
      have := h0 y List.mem_cons_self
      rw [show max y 0 = y by omega]; exact List.mem_cons_self
    · have := ih e fun x hx => h0 x (List.mem_cons_of_mem _ hx)
      show max y (maxI ys) ∈ _
      by_cases c : y ≤ maxI ys
      · rw [show max y (maxI ys) = maxI ys by omega]; exact List.mem_cons_of_mem _ this
      · rw [show max y (maxI ys) = y by omega]; exact List.mem_cons_self
theorem maxI_eq {l : List Int} {m : Int} (hm : m ∈ l) (h0 : ∀ x ∈ l, 0 ≤ x) (h : ∀ y ∈ l, y ≤ m) : maxI l = m := by
  have a := maxI_le hm
  have b := h _ (maxI_mem (List.ne_nil_of_mem hm) h0)
  omega
/-- the row of the last turns -/
def lv : Nat → PyData → Int
  | n + 1, .tuple ds => match ds.getLast? with
    | some d => 1 + lv n d
    | none => 1
  | _, _ => 0
/-- no tuple is empty on the way of the last turns, and there the last one is of the greatest height -/
def Sp_ : Nat → PyData → Prop
  | n + 1, .tuple ds => ∃ d, ds.getLast? = some d ∧ (∀ x ∈ ds, ht n x ≤ ht n d) ∧ Sp_ n d
  | _, _ => True
theorem lv_ht : ∀ (n : Nat) (d : PyData), Sp_ n d → lv n d = ht n d
  | 0, d, _ => by cases d <;> rfl
  | n + 1, .tuple ds, h => by
    obtain ⟨d, e, h1, h2⟩ := h
    show (match ds.getLast? with | some d => 1 + lv n d | none => 1) = 1 + maxI _
    rw [e]
    have m : d ∈ ds := List.mem_of_getLast? e
    rw [maxI_eq (List.mem_map.mpr ⟨d, m, rfl⟩) (fun x hx => by obtain ⟨y, _, rfl⟩ := List.mem_map.mp hx; exact ht_nonneg n y) (fun x hx => by obtain ⟨y, hy, rfl⟩ := List.mem_map.mp hx; exact h1 y hy), ← lv_ht n d h2]
  | n + 1, .none, _ => rfl
  | n + 1, .bool _, _ => rfl
  | n + 1, .int _, _ => rfl
  | n + 1, .str _, _ => rfl
  | n + 1, .list _, _ => rfl
  | n + 1, .dict _, _ => rfl
theorem sz_bd : ∀ (n : Nat) (d : PyData), Fm n d → 1 ≤ sz n d ∧ sz n d ≤ 9001 ^ n
  | 0, d, h => by obtain ⟨i, rfl⟩ := h; exact ⟨Int.le_refl 1, Int.le_refl 1⟩
  | n + 1, d, h => by
    rcases h with ⟨i, rfl⟩ | ⟨ds, rfl, l, h⟩
    · rw [sz_int]
      refine ⟨by omega, ?_⟩
      have := Int.pow_pos (n := 9001) (m := n + 1) (by decide)
      omega
    · have key : ∀ l : List PyData, (∀ x ∈ l, Fm n x) → 0 ≤ (l.map (sz n)).sum ∧ (l.map (sz n)).sum ≤ l.length * 9001 ^ n := by
        intro l
        induction l with
        | nil => intro _; simp
        | cons x xs ih =>
          intro hl
          have a := ih fun y hy => hl y (List.mem_cons_of_mem _ hy)
          have b := sz_bd n x (hl x List.mem_cons_self)
          simp only [List.map_cons, List.sum_cons, List.length_cons]
          push_cast
          rw [Int.add_mul]
          omega
      have a := key ds h
      have c := Int.pow_pos (n := 9001) (m := n) (by decide)
      have e : (ds.length : Int) * 9001 ^ n ≤ 9000 * 9001 ^ n := Int.mul_le_mul_of_nonneg_right (by omega) (by omega)
      show 1 ≤ 1 + _ ∧ 1 + _ ≤ _
      rw [Int.pow_succ]
      omega
end Fb
namespace Fb
open PySem L2
/-! ### tuples stand -/
def Td (H H' : Hp) : Prop := ∀ a xs, Rd H a (.tup xs) → Rd H' a (.tup xs)
theorem Td.of {H H' : Hp} (e : Nd H H') : Td H H' := fun a xs h => by
  rcases h with h | ⟨o, h⟩
  · exact .inl (e.k _ _ h fun _ z => nomatch z)
  · exact .inr ⟨o, e.k _ _ h fun _ z => nomatch z⟩
theorem Td.trans {H H1 H2 : Hp} (a : Td H H1) (b : Td H1 H2) : Td H H2 := fun x xs h => b x xs (a x xs h)
theorem Td.lst {H : Hp} {p : Addr} {ys : List V} {o : HO} (h : H p = some (.lst ys)) : Td H (upd H p o) := fun a xs k => by
  rcases k with k | ⟨u, k⟩
  · exact .inl (by rw [upd_ne (by rintro rfl; rw [h] at k; cases k)]; exact k)
  · exact .inr ⟨u, by rw [upd_ne (by rintro rfl; rw [h] at k; cases k)]; exact k⟩
theorem Td.sqt {K : PySem.W.Frag} {H H' : Hp} {a : Addr} {xs : List V} (e : Td H H') (h : SqT K H a xs) : SqT K H' a xs := by
  rcases h with h | h
  · exact .inl (e _ _ h)
  · exact .inr h
theorem Td.dp {K : PySem.W.Frag} {H H' : Hp} (e : Td H H') : ∀ (n : Nat) (d : PyData) (v : V), Fm n d → Dp K H v d → Dp K H' v d := by
  intro n
  induction n with
  | zero => rintro d v ⟨i, rfl⟩ h; cases h; exact .int i
  | succ n ih =>
    intro d v hf h
    rcases hf with ⟨i, rfl⟩ | ⟨ds, rfl, _, hf⟩
    · cases h; exact .int i
    · cases h with
      | @tup a xs _ hs ha =>
        have key : ∀ (es : List PyData) (xs : List V), (∀ x ∈ es, Fm n x) → DpAll K H xs es → DpAll K H' xs es := by
          intro es
          induction es with
          | nil => intro xs _ h; cases h; exact .nil
          | cons y ys ihy =>
            intro xs hx h
            cases h with
            | cons h1 h2 => exact .cons (ih y _ (hx y List.mem_cons_self) h1) (ihy _ (fun z hz => hx z (List.mem_cons_of_mem _ hz)) h2)
        exact .tup (e.sqt hs) (key ds xs hf ha)
theorem Td.d {K : PySem.W.Frag} {H H' : Hp} {n : Nat} {d : PyData} {v : V} (e : Td H H') (hf : Fm n d) (h : Dp K H v d) : Dp K H' v d := e.dp n d v hf h
theorem Td.ds {K : PySem.W.Frag} {H H' : Hp} {n : Nat} (e : Td H H') : ∀ {es : List PyData} {xs : List V}, (∀ x ∈ es, Fm n x) → DpAll K H xs es → DpAll K H' xs es
  | [], _, _, h => by cases h; exact .nil
  | y :: ys, _, hx, h => by
    cases h with
    | cons h1 h2 => exact .cons (e.d (hx y List.mem_cons_self) h1) (e.ds (fun z hz => hx z (List.mem_cons_of_mem _ hz)) h2)
theorem fm_bool {n : Nat} {b : Bool} (h : Fm n (.bool b)) : False := by
  cases n with
  | zero => obtain ⟨i, h⟩ := h; cases h
  | succ n => rcases h with ⟨i, h⟩ | ⟨ts, h, _⟩ <;> cases h
/-! ### ints of turns, forms as data -/
def InB (x : Int) : Prop := -(2 ^ 600000) ≤ x ∧ x < 2 ^ 600000
theorem InB.of {x : Int} {n : Nat} (h0 : -(2 ^ n) ≤ x) (h1 : x < 2 ^ n) (hn : n ≤ 600000) : InB x := by
  have h : (2 : Int) ^ n ≤ 2 ^ 600000 := by
    have h' : ((2 ^ n : Nat) : Int) ≤ ((2 ^ 600000 : Nat) : Int) := Int.ofNat_le.mpr (Nat.pow_le_pow_right (by decide) hn)
    rw [Int.natCast_pow, Int.natCast_pow] at h'
    exact h'
  unfold InB
  generalize (2 : Int) ^ 600000 = B at h ⊢
  omega
def nI (ns : List Nat) : List V := ns.map fun (n : Nat) => V.int (n : Int)
def nD (ns : List Nat) : List PyData := ns.map fun (n : Nat) => PyData.int (n : Int)
theorem dps_n {K : PySem.W.Frag} {H : Hp} : ∀ (ns : List Nat), DpAll K H (nI ns) (nD ns)
  | [] => .nil
  | n :: ns => .cons (.int n) (dps_n ns)
theorem dps_n_inv {K : PySem.W.Frag} {H : Hp} : ∀ {ns : List Nat} {vs : List V}, DpAll K H vs (nD ns) → vs = nI ns
  | [], _, h => by cases h; rfl
  | n :: ns, _, h => by
    cases h with
    | cons h1 h2 =>
      cases h1
      rw [dps_n_inv h2]
      rfl
def plain (x : Int) : Prop := -(2 ^ 64) ≤ x ∧ x < 2 ^ 64
instance (x : Int) : Decidable (plain x) := by unfold plain; infer_instance
def formD (x : Int) : PyData := if plain x then .int x else .tuple (nD (turnsN x))
def natOf : PyData → Nat
  | .int i => i.toNat
  | _ => 0
theorem natOf_nD (ns : List Nat) : (nD ns).map natOf = ns := by
  unfold nD
  rw [List.map_map]
  conv => rhs; rw [← List.map_id ns]
  exact List.map_congr_left fun n _ => rfl
def isNear : PyData → Bool
  | .int i => decide (i ≤ 64)
  | _ => false
/-- the form of a row of places -/
def rowD (ds : List PyData) : PyData := match ds.getLast? with
  | none => .int 0
  | some d => if isNear d = true then .int (alt (-1) (ds.map natOf)) else .tuple ds
/-- where the last place is near, all are small ints -/
def RowC (ds : List PyData) : Prop := ∀ d, ds.getLast? = some d → isNear d = true → ∃ ns : List Nat, ds = nD ns ∧ ∀ n ∈ ns, n ≤ 64
theorem rowD_near {ns : List Nat} {d : PyData} (h : (nD ns).getLast? = some d) (h2 : isNear d = true) : rowD (nD ns) = .int (alt (-1) ns) := by
  unfold rowD
  rw [h]
  show (if isNear d = true then _ else _) = _
  rw [if_pos h2, natOf_nD]
theorem rowD_far {ds : List PyData} {d : PyData} (h : ds.getLast? = some d) (h2 : isNear d = false) : rowD ds = .tuple ds := by
  unfold rowD
  rw [h]
  show (if isNear d = true then _ else _) = _
  rw [h2, if_neg Bool.false_ne_true]
theorem Fm.lay : ∀ {n : Nat} {d : PyData}, Fm n d → d.canLay0 = true ∧ d.depth ≤ n := by
  intro n
  induction n with
  | zero => rintro d ⟨i, rfl⟩; exact ⟨by rw [PyData.canLay0], by rw [PyData.depth] <;> first | exact Nat.le_refl _ | simp⟩
  | succ n ih =>
    intro d h
    rcases h with ⟨i, rfl⟩ | ⟨ds, rfl, _, h⟩
    · exact ⟨by rw [PyData.canLay0], by rw [PyData.depth] <;> first | exact Nat.zero_le _ | simp⟩
    · have key : ∀ l : List PyData, (∀ x ∈ l, Fm n x) → PyData.canLayAll0 l = true ∧ PyData.depthAll l ≤ n := by
        intro l
        induction l with
        | nil => intro _; exact ⟨by rw [PyData.canLayAll0], by rw [PyData.depthAll]; exact Nat.zero_le _⟩
        | cons x xs ihl =>
          intro hl
          obtain ⟨a1, a2⟩ := ih (hl x List.mem_cons_self)
          obtain ⟨b1, b2⟩ := ihl fun y hy => hl y (List.mem_cons_of_mem _ hy)
          refine ⟨by rw [PyData.canLayAll0, a1, b1]; rfl, ?_⟩
          rw [PyData.depthAll]
          exact Nat.max_le.mpr ⟨a2, b2⟩
      obtain ⟨a, b⟩ := key ds h
      exact ⟨by rw [PyData.canLay0]; exact a, by rw [PyData.depth]; omega⟩
theorem shaped_list {n : Nat} {ds : List PyData} (hn : n ≤ 40) (h : ∀ x ∈ ds, Fm n x) : SeqAt.shaped (.list ds) = true := by
  have key : ∀ l : List PyData, (∀ x ∈ l, Fm n x) → PyData.canLayAll0 l = true ∧ PyData.depthAll l ≤ n := by
    intro l
    induction l with
    | nil => intro _; exact ⟨by rw [PyData.canLayAll0], by rw [PyData.depthAll]; exact Nat.zero_le _⟩
    | cons x xs ihl =>
      intro hl
      obtain ⟨a1, a2⟩ := (hl x List.mem_cons_self).lay
      obtain ⟨b1, b2⟩ := ihl fun y hy => hl y (List.mem_cons_of_mem _ hy)
      refine ⟨by rw [PyData.canLayAll0, a1, b1]; rfl, ?_⟩
      rw [PyData.depthAll]
      exact Nat.max_le.mpr ⟨a2, b2⟩
  obtain ⟨a, b⟩ := key ds h
  unfold SeqAt.shaped
  rw [PyData.canLay0, a, PyData.depth]
  simp
  omega
theorem shaped_nil : SeqAt.shaped (.list []) = true := shaped_list (n := 0) (by decide) (fun x h => by cases h)
theorem eqv_nil (ds : List PyData) : PyData.eqv (.list ds) (.list []) = ds.isEmpty := by
  rw [PyData.eqv]
  cases ds with
  | nil => rw [PyData.eqvAll]; rfl
  | cons _ _ => rw [PyData.eqvAll]; rfl
/-! ### fields: where the groups of bits lie -/
def F2 (low g : Int) (f : PyData) : Prop := (∃ d, 0 ≤ d ∧ d < 90 ∧ f = .tuple [.int low, .int (low + 1 + d)]) ∨
  ∃ d, 0 ≤ d ∧ d < 10 ^ 9 ∧ f = .tuple [.int low, .int (low + 7), .int (low + 9 + g), .int (low + 11 + 2 * g + d)]
def F3 (g : Int) (f2 f3 : PyData) : Prop := f3 = .tuple [.int g, f2] ∨ (∃ e ts, 0 ≤ e ∧ e < 60 ∧ f2 = .tuple ts ∧ f3 = .tuple [f2, .tuple (.int (e + 1) :: .int 64 :: ts)]) ∨
  f3 = .tuple [.int g, .int (g + 1), f2, .tuple [.int g, f2]]
structure Fields (fs : List PyData) : Prop where
  ex : ∃ (a low g : Int) (f2 f3 : PyData), fs = [.int 0, .int a, f2, f3] ∧ 130 ≤ a ∧ a < 2 ^ 64 ∧ 200 ≤ low ∧ low < 260 ∧ 150 ≤ g ∧ g < 190 ∧ F2 low g f2 ∧ F3 g f2 f3
def placeD (fs : List PyData) (p : Nat) : PyData := match fs[p / 200]? with
  | some (.int a) => formD (a + ((p % 200 : Nat) : Int))
  | some (.tuple ts) => .tuple (nD (turnsN ((p % 200 : Nat) : Int)) ++ ts)
  | _ => .none
def movedD (fs : List PyData) (c : Int) : PyData := rowD ((turnsN c).map (placeD fs))
end Fb
namespace Fb
open PySem
/-! ### the size of an alternating sum, by its last place -/
def flip (s : Int) : Nat → Int
  | 0 => s
  | n + 1 => flip (-s) n
theorem flip_pm {s : Int} (h : s = 1 ∨ s = -1) : ∀ n, flip s n = 1 ∨ flip s n = -1 := by
  intro n
  induction n generalizing s with
  | zero => exact h
  | succ n ih => exact ih (by omega)
theorem flip_succ (s : Int) (n : Nat) : flip s (n + 1) = -flip s n := by
  induction n generalizing s with
  | zero => rfl
  | succ n ih => exact ih (-s)
theorem alt_snoc (s : Int) (l : List Nat) (p : Nat) : alt s (l ++ [p]) = alt s l + flip s l.length * 2 ^ p := by
  induction l generalizing s with
  | nil => show s * 2 ^ p + 0 = 0 + s * 2 ^ p; omega
  | cons q l ih =>
    show s * 2 ^ q + alt (-s) (l ++ [p]) = s * 2 ^ q + alt (-s) l + flip (-s) l.length * 2 ^ p
    rw [ih]; omega
theorem alt_sum {s : Int} (h : s = 1 ∨ s = -1) : ∀ (l : List Nat) (a n : Nat), l.Pairwise (· < ·) → (∀ p ∈ l, a ≤ p ∧ p < n) → a ≤ n → -(2 ^ n - 2 ^ a) ≤ alt s l ∧ alt s l ≤ 2 ^ n - 2 ^ a := by
  intro l
  induction l generalizing s with
  | nil =>
    intro a n _ _ hn
    have := Nat.pow_le_pow_right (n := 2) (by decide) hn
    have h1 : ((2 ^ a : Nat) : Int) = 2 ^ a := Int.natCast_pow 2 a
    have h2 : ((2 ^ n : Nat) : Int) = 2 ^ n := Int.natCast_pow 2 n
    show -(2 ^ n - 2 ^ a) ≤ (0 : Int) ∧ (0 : Int) ≤ _
    omega
  | cons p l ih =>
    intro a n hp hb hn
    obtain ⟨h1, h2⟩ := List.pairwise_cons.mp hp
    obtain ⟨b1, b2⟩ := hb p List.mem_cons_self
    obtain ⟨c1, c2⟩ := ih (s := -s) (by omega) (p + 1) n h2 (fun q hq => ⟨h1 q hq, (hb q (List.mem_cons_of_mem _ hq)).2⟩) (by omega)
    have e := Nat.pow_le_pow_right (n := 2) (by decide) b1
    have h1 : ((2 ^ a : Nat) : Int) = 2 ^ a := Int.natCast_pow 2 a
    have h2 : ((2 ^ p : Nat) : Int) = 2 ^ p := Int.natCast_pow 2 p
    have h3 : (2 : Int) ^ (p + 1) = 2 ^ p * 2 := Int.pow_succ 2 p
    have h4 : (0 : Int) < 2 ^ p := Int.pow_pos (by decide)
    show -(2 ^ n - 2 ^ a) ≤ s * 2 ^ p + alt (-s) l ∧ s * 2 ^ p + alt (-s) l ≤ _
    rcases h with rfl | rfl <;> omega
theorem alt_lt {s : Int} (h : s = 1 ∨ s = -1) {l : List Nat} {n : Nat} (hp : l.Pairwise (· < ·)) (hb : ∀ p ∈ l, p < n) : -(2 ^ n) < alt s l ∧ alt s l < 2 ^ n := by
  have := alt_sum h l 0 n hp (fun p q => ⟨Nat.zero_le _, hb p q⟩) (Nat.zero_le _)
  have h0 : (2 : Int) ^ 0 = 1 := rfl
  omega
/-- the last place tells the sign -/
theorem alt_sign {s : Int} (h : s = 1 ∨ s = -1) {l : List Nat} {p : Nat} (hp : (l ++ [p]).Pairwise (· < ·)) : (flip s l.length = 1 → 0 < alt s (l ++ [p])) ∧ (flip s l.length = -1 → alt s (l ++ [p]) < 0) := by
  obtain ⟨h1, _, h3⟩ := List.pairwise_append.mp hp
  have := alt_lt h (n := p) h1 fun q hq => h3 q hq p List.mem_cons_self
  rw [alt_snoc]
  constructor <;> intro e <;> rw [e] <;> omega
/-- an int from 0 on is below 2 to its last turn -/
theorem last_lt {c : Int} (h0 : 0 ≤ c) {l : List Nat} {p : Nat} (h : turnsN c = l ++ [p]) : c < 2 ^ p ∧ (2 : Int) ^ p ≤ 2 * c := by
  have asc := turns_asc c
  have e := turns_alt c
  rw [h] at asc e
  obtain ⟨h1, _, h3⟩ := List.pairwise_append.mp asc
  have b := alt_lt (s := -1) (.inr rfl) (n := p) h1 fun q hq => h3 q hq p List.mem_cons_self
  have sg := alt_sign (s := -1) (.inr rfl) asc
  have pm := flip_pm (s := -1) (.inr rfl) l.length
  have f1 : flip (-1) l.length = 1 := by
    rcases pm with h | h
    · exact h
    · have := sg.2 h; omega
  constructor
  · rcases List.eq_nil_or_concat l with rfl | ⟨l', q, rfl⟩
    · cases f1
    · rw [List.concat_eq_append] at *
      have sg2 := alt_sign (s := -1) (.inr rfl) h1
      have f2 : flip (-1) l'.length = -1 := by
        rw [List.length_append, List.length_singleton, flip_succ] at f1
        omega
      have := sg2.2 f2
      rw [alt_snoc, f1] at e
      omega
  · by_cases c0 : 2 * c < 2 ^ p
    · cases p with
      | zero => 
        have : c = 0 := by have : (2 : Int) ^ 0 = 1 := rfl; omega
        subst this
        have z : turnsN 0 = [] := by decide +kernel
        rw [z] at h
        simp at h
      | succ p =>
        rw [Int.pow_succ] at c0
        have := turns_lt (x := c) (n := p) (by have := Int.pow_pos (n := 2) (m := p) (by decide); omega) (by omega) (p + 1) (by rw [h]; simp)
        omega
    · omega
theorem last_mono {c c' : Int} (h0 : 0 ≤ c) (hc : c ≤ c') {l l' : List Nat} {p p' : Nat} (h : turnsN c = l ++ [p]) (h' : turnsN c' = l' ++ [p']) : p ≤ p' := by
  have a := (last_lt h0 h).2
  have b := (last_lt (by omega) h').1
  by_cases e : p ≤ p'
  · exact e
  · have := Nat.pow_le_pow_right (n := 2) (by decide) (show p' + 1 ≤ p by omega)
    have h1 : ((2 ^ (p' + 1) : Nat) : Int) = 2 ^ (p' + 1) := Int.natCast_pow 2 _
    have h2 : ((2 ^ p : Nat) : Int) = 2 ^ p := Int.natCast_pow 2 p
    rw [Int.pow_succ] at h1
    omega
theorem alt_dvd : ∀ (l : List Nat) (s : Int) (a : Nat), (∀ p ∈ l, a ≤ p) → ∃ k, alt s l = 2 ^ a * k := by
  intro l
  induction l with
  | nil => intro s a _; exact ⟨0, by show (0 : Int) = _; omega⟩
  | cons p l ih =>
    intro s a h
    obtain ⟨k, hk⟩ := ih (-s) a fun q hq => h q (List.mem_cons_of_mem _ hq)
    obtain ⟨e, rfl⟩ : ∃ e, p = a + e := ⟨p - a, by have := h p List.mem_cons_self; omega⟩
    refine ⟨s * 2 ^ e + k, ?_⟩
    show s * 2 ^ (a + e) + alt (-s) l = _
    rw [hk, Int.pow_add, Int.mul_add, ← Int.mul_assoc, ← Int.mul_assoc, Int.mul_comm s]
theorem odd_ne {s : Int} (h : s = 1 ∨ s = -1) (p : Nat) (k m : Int) : s * 2 ^ p + 2 ^ (p + 1) * k ≠ 2 ^ (p + 1) * m := by
  intro e
  have h1 : (0 : Int) < 2 ^ p := Int.pow_pos (by decide)
  have e2 : (2 : Int) ^ p * (s + 2 * k) = 2 ^ p * (2 * m) := by
    rw [Int.mul_add, ← Int.mul_assoc, ← Int.mul_assoc, ← Int.pow_succ, Int.mul_comm _ s]
    exact e
  have := Int.eq_of_mul_eq_mul_left (by omega) e2
  omega
/-- turns are unique: an ascending row is the turns of its sum -/
theorem alt_inj : ∀ (l l' : List Nat) (s : Int), (s = 1 ∨ s = -1) → l.Pairwise (· < ·) → l'.Pairwise (· < ·) → alt s l = alt s l' → l = l' := by
  intro l
  induction l with
  | nil =>
    intro l' s h _ h2 e
    cases l' with
    | nil => rfl
    | cons q l' =>
      obtain ⟨b1, b2⟩ := List.pairwise_cons.mp h2
      obtain ⟨k, hk⟩ := alt_dvd l' (-s) (q + 1) b1
      have e' : (0 : Int) = s * 2 ^ q + alt (-s) l' := e
      rw [hk] at e'
      exact absurd e'.symm (by have := odd_ne h q k 0; rwa [Int.mul_zero] at this)
  | cons p l ih =>
    intro l' s h h1 h2 e
    obtain ⟨a1, a2⟩ := List.pairwise_cons.mp h1
    cases l' with
    | nil =>
      obtain ⟨k, hk⟩ := alt_dvd l (-s) (p + 1) a1
      have e' : s * 2 ^ p + alt (-s) l = 0 := e
      rw [hk] at e'
      exact absurd e' (by have := odd_ne h p k 0; rwa [Int.mul_zero] at this)
    | cons q l' =>
      obtain ⟨b1, b2⟩ := List.pairwise_cons.mp h2
      have e' : s * 2 ^ p + alt (-s) l = s * 2 ^ q + alt (-s) l' := e
      obtain ⟨k, hk⟩ := alt_dvd l (-s) (p + 1) a1
      obtain ⟨m, hm⟩ := alt_dvd l' (-s) (q + 1) b1
      have pq : p = q := by
        rcases Nat.lt_trichotomy p q with c | c | c
        · obtain ⟨z, hz⟩ := alt_dvd (q :: l') s (p + 1) (fun r hr => by
            rcases List.mem_cons.mp hr with rfl | hr
            · exact c
            · have := b1 r hr; omega)
          have ez : s * 2 ^ q + alt (-s) l' = 2 ^ (p + 1) * z := hz
          rw [ez, hk] at e'
          exact absurd e' (odd_ne h p k z)
        · exact c
        · obtain ⟨z, hz⟩ := alt_dvd (p :: l) s (q + 1) (fun r hr => by
            rcases List.mem_cons.mp hr with rfl | hr
            · exact c
            · have := a1 r hr; omega)
          have ez : s * 2 ^ p + alt (-s) l = 2 ^ (q + 1) * z := hz
          rw [ez, hm] at e'
          exact absurd e'.symm (odd_ne h q m z)
      subst pq
      rw [ih l' (-s) (by omega) a2 b2 (by omega)]
/-- the turns of an alternating sum -/
theorem turns_of_alt {l : List Nat} (h : l.Pairwise (· < ·)) : turnsN (alt (-1) l) = l :=
  alt_inj _ _ (-1) (.inr rfl) (turns_asc _) h (turns_alt _)
end Fb
namespace Fb
open PySem L2
def Ne : Nat → PyData → Prop
  | n + 1, .tuple ds => ds ≠ [] ∧ ∀ x ∈ ds, Ne n x
  | _, _ => True
theorem Ne.int (n : Nat) (i : Int) : Ne n (.int i) := by cases n <;> exact True.intro
theorem Sp_.int (n : Nat) (i : Int) : Sp_ n (.int i) := by cases n <;> exact True.intro
/-- a tree whose last place is the highest one, everywhere -/
structure Gd (n : Nat) (h : Int) (d : PyData) : Prop where
  fm : Fm n d
  ne : Ne n d
  sp : Sp_ n d
  ht : ht n d = h
theorem gd_int (n : Nat) (i : Int) : Gd n 0 (.int i) := ⟨Fm.int i, Ne.int n i, Sp_.int n i, ht_int n i⟩
theorem gd_tup {n : Nat} {h : Int} {ds : List PyData} {dl : PyData} (hl : ds.length ≤ 9000) (e : ds.getLast? = some dl) (gl : Gd n h dl) (g : ∀ x ∈ ds, ∃ h', h' ≤ h ∧ Gd n h' x) : Gd (n + 1) (h + 1) (.tuple ds) := by
  have m : dl ∈ ds := List.mem_of_getLast? e
  refine ⟨.inr ⟨ds, rfl, hl, fun x hx => ?_⟩, ⟨List.ne_nil_of_mem m, fun x hx => ?_⟩, ⟨dl, e, fun x hx => ?_, gl.sp⟩, ?_⟩
  · obtain ⟨h', _, k⟩ := g x hx; exact k.fm
  · obtain ⟨h', _, k⟩ := g x hx; exact k.ne
  · obtain ⟨h', l, k⟩ := g x hx; rw [k.ht, gl.ht]; exact l
  · show 1 + maxI (ds.map (Fb.ht n)) = h + 1
    rw [maxI_eq (List.mem_map.mpr ⟨dl, m, gl.ht⟩) (fun x hx => by obtain ⟨y, _, rfl⟩ := List.mem_map.mp hx; exact ht_nonneg n y) (fun y hy => by
      obtain ⟨x, hx, rfl⟩ := List.mem_map.mp hy
      obtain ⟨h', l, k⟩ := g x hx
      rw [k.ht]; exact l)]
    omega
theorem mem_nD {ns : List Nat} {x : PyData} (h : x ∈ nD ns) : ∃ n : Nat, x = .int (n : Int) := by
  obtain ⟨n, _, rfl⟩ := List.mem_map.mp (show x ∈ ns.map _ from h); exact ⟨n, rfl⟩
theorem len_nD (ns : List Nat) : (nD ns).length = ns.length := by unfold nD; rw [List.length_map]
theorem gd_ints {n : Nat} {ns : List Nat} (h0 : ns ≠ []) (hl : ns.length ≤ 9000) : Gd (n + 1) 1 (.tuple (nD ns)) := by
  obtain ⟨d, e⟩ : ∃ d, (nD ns).getLast? = some d := by
    rcases List.eq_nil_or_concat ns with rfl | ⟨m, q, rfl⟩
    · exact absurd rfl h0
    · rw [List.concat_eq_append]; unfold nD; rw [List.map_append]; exact ⟨_, List.getLast?_concat ..⟩
  obtain ⟨m, rfl⟩ := mem_nD (List.mem_of_getLast? e)
  exact gd_tup (h := 0) (by rw [len_nD]; exact hl) e (gd_int n _) fun x hx => by
    obtain ⟨k, rfl⟩ := mem_nD hx; exact ⟨0, Int.le_refl 0, gd_int n _⟩
def hI (x : Int) : Int := if plain x then 0 else 1
theorem gd_form {n : Nat} {x : Int} (h0 : -(2 ^ 2000) ≤ x) (h1 : x < 2 ^ 2000) : Gd (n + 1) (hI x) (formD x) := by
  unfold hI formD
  by_cases c : plain x
  · rw [if_pos c, if_pos c]; exact gd_int _ x
  · rw [if_neg c, if_neg c]
    refine gd_ints (fun e => ?_) (Nat.le_trans (turns_len (n := 2000) h0 h1) (by decide))
    have := turns_alt x
    rw [e] at this
    have h : x = 0 := this.symm
    subst h
    exact c (by decide)
theorem gd_app {n : Nat} {h : Int} {ns : List Nat} {ts : List PyData} (hn : ns.length ≤ 2000) (ht : ts.length ≤ 50) (h0 : 0 ≤ h) {dl : PyData} (e : ts.getLast? = some dl) (gl : Gd n h dl) (g : ∀ x ∈ ts, ∃ h', h' ≤ h ∧ Gd n h' x) : Gd (n + 1) (h + 1) (.tuple (nD ns ++ ts)) := by
  refine gd_tup (by rw [List.length_append, len_nD]; omega) (by rw [List.getLast?_append, e]; rfl) gl fun x hx => ?_
  rcases List.mem_append.mp hx with hx | hx
  · obtain ⟨k, rfl⟩ := mem_nD hx; exact ⟨0, h0, gd_int n _⟩
  · exact g x hx
/-- what a field's tuple is made of -/
def TsOk (n : Nat) (h : Int) (ts : List PyData) : Prop := ts.length ≤ 50 ∧ 0 ≤ h ∧ ∃ dl, ts.getLast? = some dl ∧ Gd n h dl ∧ ∀ x ∈ ts, ∃ h', h' ≤ h ∧ Gd n h' x
theorem TsOk.gd {n : Nat} {h : Int} {ts : List PyData} (t : TsOk n h ts) {ns : List Nat} (hn : ns.length ≤ 2000) : Gd (n + 1) (h + 1) (.tuple (nD ns ++ ts)) := by
  obtain ⟨l, h0, dl, e, gl, g⟩ := t
  exact gd_app hn l h0 e gl g
theorem TsOk.gd0 {n : Nat} {h : Int} {ts : List PyData} (t : TsOk n h ts) : Gd (n + 1) (h + 1) (.tuple ts) := t.gd (ns := []) (by decide)
theorem f2_ok {n : Nat} {low g : Int} {f2 : PyData} (h : F2 low g f2) : ∃ ts, f2 = .tuple ts ∧ TsOk n 0 ts := by
  rcases h with ⟨d, _, _, rfl⟩ | ⟨d, _, _, rfl⟩
  · exact ⟨_, rfl, by show 2 ≤ 50; decide, Int.le_refl 0, _, rfl, gd_int n _, fun x hx => by
      simp at hx; rcases hx with rfl | rfl <;> exact ⟨0, Int.le_refl 0, gd_int n _⟩⟩
  · exact ⟨_, rfl, by show 4 ≤ 50; decide, Int.le_refl 0, _, rfl, gd_int n _, fun x hx => by
      simp at hx; rcases hx with rfl | rfl | rfl | rfl <;> exact ⟨0, Int.le_refl 0, gd_int n _⟩⟩
theorem f3_ok {n : Nat} {low g : Int} {f2 f3 : PyData} (h2 : F2 low g f2) (h : F3 g f2 f3) : ∃ ts h, f3 = .tuple ts ∧ 1 ≤ h ∧ TsOk (n + 2) h ts := by
  obtain ⟨t2, rfl, k2⟩ := f2_ok (n := n) h2
  obtain ⟨t2', e2, k2'⟩ := f2_ok (n := n + 1) h2
  cases e2
  have g2 : Gd (n + 1) 1 (.tuple t2) := k2.gd0
  have g2' : Gd (n + 2) 1 (.tuple t2) := k2'.gd0
  rcases h with rfl | ⟨e, ts, _, _, et, rfl⟩ | rfl
  · exact ⟨_, 1, rfl, Int.le_refl 1, by show 2 ≤ 50; decide, by decide, _, rfl, g2', fun x hx => by
      simp at hx
      rcases hx with rfl | rfl
      · exact ⟨0, by decide, gd_int _ _⟩
      · exact ⟨1, Int.le_refl 1, g2'⟩⟩
  · cases et
    have g3 : Gd (n + 2) 1 (.tuple (.int (e + 1) :: .int 64 :: t2)) := by
      obtain ⟨l, h0, dl, e1, gl, g⟩ := k2'
      refine gd_tup (h := 0) (by show t2.length + 2 ≤ 9000; omega) (dl := dl) ?_ gl fun x hx => ?_
      · rw [List.getLast?_cons, List.getLast?_cons, e1]; rfl
      · rcases List.mem_cons.mp hx with rfl | hx
        · exact ⟨0, Int.le_refl 0, gd_int _ _⟩
        · rcases List.mem_cons.mp hx with rfl | hx
          · exact ⟨0, Int.le_refl 0, gd_int _ _⟩
          · exact g x hx
    exact ⟨_, 1, rfl, Int.le_refl 1, by show 2 ≤ 50; decide, by decide, _, rfl, g3, fun x hx => by
      simp at hx
      rcases hx with rfl | rfl
      · exact ⟨1, Int.le_refl 1, g2'⟩
      · exact ⟨1, Int.le_refl 1, g3⟩⟩
  · have g3 : Gd (n + 2) 2 (.tuple [.int g, .tuple t2]) := gd_tup (h := 1) (by show 2 ≤ 9000; decide) rfl g2 fun x hx => by
      simp at hx
      rcases hx with rfl | rfl
      · exact ⟨0, by decide, gd_int _ _⟩
      · exact ⟨1, Int.le_refl 1, g2⟩
    exact ⟨_, 2, rfl, by decide, by show 4 ≤ 50; decide, by decide, _, rfl, g3, fun x hx => by
      simp at hx
      rcases hx with rfl | rfl | rfl | rfl
      · exact ⟨0, by decide, gd_int _ _⟩
      · exact ⟨0, by decide, gd_int _ _⟩
      · exact ⟨1, by decide, g2'⟩
      · exact ⟨2, by decide, g3⟩⟩
/-! ### places -/
theorem step_in (p : Nat) : -(2 ^ 100) ≤ ((p % 200 : Nat) : Int) ∧ ((p % 200 : Nat) : Int) < 2 ^ 100 := by
  have := Nat.mod_lt p (show 0 < 200 by decide); omega
theorem step_len (p : Nat) : (turnsN ((p % 200 : Nat) : Int)).length ≤ 2000 := by
  have h := Nat.mod_lt p (show 0 < 200 by decide)
  have := turns_len (x := ((p % 200 : Nat) : Int)) (n := 10) (by omega) (by omega)
  omega
theorem place0 {fs : List PyData} (F : Fields fs) {p : Nat} (h : p < 200) : placeD fs p = .int (p : Int) := by
  obtain ⟨a, low, g, f2, f3, rfl, _⟩ := F.ex
  unfold placeD
  rw [show p / 200 = 0 by omega]
  show formD (0 + ((p % 200 : Nat) : Int)) = _
  rw [show p % 200 = p by omega]
  unfold formD
  rw [if_pos (by constructor <;> omega)]
  congr 1
  omega
/-- the height of a place, ever greater -/
theorem places {fs : List PyData} (F : Fields fs) (n : Nat) : ∃ hp : Nat → Int, (∀ p q, p ≤ q → q < 800 → hp p ≤ hp q) ∧ ∀ p, p < 800 → 0 ≤ hp p ∧ Gd (n + 3) (hp p) (placeD fs p) ∧ (64 < p → isNear (placeD fs p) = false) := by
  have F' := F
  obtain ⟨a, low, g, f2, f3, rfl, a0, a1, _, _, _, _, k2, k3⟩ := F.ex
  obtain ⟨t2, rfl, o2⟩ := f2_ok (n := n + 2) k2
  obtain ⟨t3, h3, rfl, h1, o3⟩ := f3_ok (n := n) k2 k3
  refine ⟨fun p => if p < 200 then 0 else if p < 400 then hI (a + ((p % 200 : Nat) : Int)) else if p < 600 then 1 else h3 + 1, ?_, ?_⟩
  · intro p q pq q8
    have hi : ∀ x, 0 ≤ hI x ∧ hI x ≤ 1 := fun x => by unfold hI; split <;> decide
    have mono : ∀ x y : Int, 0 ≤ x → x ≤ y → hI x ≤ hI y := fun x y x0 xy => by
      unfold hI
      by_cases c : plain y
      · have c' : plain x := ⟨by omega, by have := c.2; omega⟩
        rw [if_pos c, if_pos c']; decide
      · rw [if_neg c]
        split <;> decide
    dsimp only
    have b1 := hi (a + ((p % 200 : Nat) : Int))
    have b2 := hi (a + ((q % 200 : Nat) : Int))
    by_cases c1 : p < 200
    · rw [if_pos c1]
      split
      · exact Int.le_refl 0
      · split
        · omega
        · split <;> omega
    · rw [if_neg c1, if_neg (show ¬ q < 200 by omega)]
      by_cases c2 : p < 400
      · rw [if_pos c2]
        split
        · exact mono _ _ (by omega) (by omega)
        · split <;> omega
      · rw [if_neg c2, if_neg (show ¬ q < 400 by omega)]
        split
        · split <;> omega
        · rw [if_neg (show ¬ q < 600 by omega)]; omega
  · intro p p8
    dsimp only
    by_cases c1 : p < 200
    · rw [if_pos c1, place0 F' c1]
      exact ⟨Int.le_refl 0, gd_int _ _, fun h => decide_eq_false (by omega)⟩
    · rw [if_neg c1]
      by_cases c2 : p < 400
      · rw [if_pos c2]
        unfold placeD
        rw [show p / 200 = 1 by omega]
        have hs := step_in p
        refine ⟨by unfold hI; split <;> decide, ?_, fun _ => ?_⟩
        · have big : (2 : Int) ^ 101 ≤ 2 ^ 2000 := by
            have h' : ((2 ^ 101 : Nat) : Int) ≤ ((2 ^ 2000 : Nat) : Int) := Int.ofNat_le.mpr (Nat.pow_le_pow_right (by decide) (by decide))
            rw [Int.natCast_pow, Int.natCast_pow] at h'
            exact h'
          refine gd_form ?_ ?_
          · generalize (2 : Int) ^ 2000 = B at big ⊢; omega
          · generalize (2 : Int) ^ 2000 = B at big ⊢; omega
        · show isNear (formD _) = false
          unfold formD
          split
          · exact decide_eq_false (by omega)
          · rfl
      · rw [if_neg c2]
        by_cases c3 : p < 600
        · rw [if_pos c3]
          unfold placeD
          rw [show p / 200 = 2 by omega]
          exact ⟨by decide, o2.gd (step_len p), fun _ => rfl⟩
        · rw [if_neg c3]
          unfold placeD
          rw [show p / 200 = 3 by omega]
          exact ⟨by omega, o3.gd (step_len p), fun _ => rfl⟩
theorem place_fm {fs : List PyData} (F : Fields fs) {p : Nat} (h : p < 800) : Fm 3 (placeD fs p) := by
  obtain ⟨hp, _, k⟩ := places F 0
  exact (k p h).2.1.fm
/-- the row of places of a code keeps the word for row_form -/
theorem places_row {fs : List PyData} (F : Fields fs) {ns : List Nat} (asc : ns.Pairwise (· < ·)) (hb : ∀ p ∈ ns, p < 800) : RowC (ns.map (placeD fs)) := by
  intro d hd hn
  rcases List.eq_nil_or_concat ns with rfl | ⟨m, q, rfl⟩
  · cases hd
  rw [List.concat_eq_append] at *
  rw [List.map_append, List.map_singleton, List.getLast?_concat] at hd
  cases hd
  obtain ⟨hp, _, k⟩ := places F 0
  have q8 : q < 800 := hb q (by simp)
  have q64 : q ≤ 64 := by
    by_cases c : 64 < q
    · have := (k q q8).2.2 c
      rw [hn] at this
      cases this
    · omega
  have all : ∀ p ∈ m ++ [q], p ≤ 64 := fun p hp => by
    rcases List.mem_append.mp hp with hp | hp
    · have := (List.pairwise_append.mp asc).2.2 p hp q List.mem_cons_self; omega
    · simp at hp; omega
  refine ⟨m ++ [q], ?_, all⟩
  unfold nD
  exact List.map_congr_left fun p hp => place0 F (by have := all p hp; omega)
theorem turns_800 {c : Int} (h0 : 0 ≤ c) (h1 : c < 2 ^ 799) : ∀ p ∈ turnsN c, p < 800 := fun p hp => by
  have := turns_lt (n := 799) (by generalize (2 : Int) ^ 799 = B at h1 ⊢; omega) h1 p hp; omega
/-- a moved code: an int if it is small, else a tuple; its height by its last turn -/
theorem moved_cases {fs : List PyData} (F : Fields fs) {c : Int} (h0 : 0 ≤ c) (h1 : c < 2 ^ 799) :
    ((∀ p ∈ turnsN c, p ≤ 64) ∧ movedD fs c = .int c) ∨ ∃ l p, turnsN c = l ++ [p] ∧ 64 < p ∧ movedD fs c = .tuple ((turnsN c).map (placeD fs)) := by
  have hb := turns_800 h0 h1
  have asc := turns_asc c
  have e := turns_alt c
  have near : (∀ p ∈ turnsN c, p ≤ 64) → movedD fs c = .int c := fun all => by
    unfold movedD
    have e1 : (turnsN c).map (placeD fs) = nD (turnsN c) := by
      unfold nD
      exact List.map_congr_left fun p hp => place0 F (by have := all p hp; omega)
    rw [e1]
    cases hl : (nD (turnsN c)).getLast? with
    | none =>
      have : turnsN c = [] := by
        have := List.getLast?_eq_none_iff.mp hl
        unfold nD at this
        exact List.map_eq_nil_iff.mp this
      rw [this] at e ⊢
      show PyData.int 0 = .int c
      congr 1
    | some d =>
      obtain ⟨n, hn, rfl⟩ := List.mem_map.mp (List.mem_of_getLast? hl)
      rw [rowD_near hl (decide_eq_true (by have := all n hn; omega)), e]
  rcases List.eq_nil_or_concat (turnsN c) with h | ⟨m, q, h⟩
  · left
    have all : ∀ p ∈ turnsN c, p ≤ 64 := by rw [h]; intro p hp; cases hp
    exact ⟨all, near all⟩
  · rw [List.concat_eq_append] at h
    by_cases c64 : q ≤ 64
    · left
      have all : ∀ p ∈ turnsN c, p ≤ 64 := by
        rw [h] at asc ⊢
        intro p hp
        rcases List.mem_append.mp hp with hp | hp
        · have := (List.pairwise_append.mp asc).2.2 p hp q List.mem_cons_self; omega
        · simp at hp; omega
      exact ⟨all, near all⟩
    · right
      refine ⟨m, q, h, by omega, ?_⟩
      obtain ⟨hp, _, k⟩ := places F 0
      have q8 : q < 800 := hb q (by rw [h]; simp)
      unfold movedD
      refine rowD_far (d := placeD fs q) ?_ ((k q q8).2.2 (by omega))
      rw [h, List.map_append, List.map_singleton, List.getLast?_concat]
theorem len_turns {c : Int} (h0 : 0 ≤ c) (h1 : c < 2 ^ 799) : (turnsN c).length ≤ 800 :=
  turns_len (n := 799) (by generalize (2 : Int) ^ 799 = B at h1 ⊢; omega) h1
/-- the height of a moved code, ever greater -/
theorem moveds {fs : List PyData} (F : Fields fs) (n : Nat) : ∃ hm : Int → Int, (∀ c c', 0 ≤ c → c ≤ c' → c' < 2 ^ 799 → hm c ≤ hm c') ∧ ∀ c, 0 ≤ c → c < 2 ^ 799 → 0 ≤ hm c ∧ Gd (n + 4) (hm c) (movedD fs c) ∧ (isNear (movedD fs c) = true → c ≤ 64) := by
  obtain ⟨hp, mono, k⟩ := places F n
  refine ⟨fun c => match (turnsN c).getLast? with | none => 0 | some p => if p ≤ 64 then 0 else hp p + 1, ?_, ?_⟩
  · intro c c' c0 cc c8
    dsimp only
    have hb := turns_800 (c := c') (by omega) c8
    have hb0 := turns_800 (c := c) c0 (by generalize (2 : Int) ^ 799 = B at c8 ⊢; omega)
    rcases List.eq_nil_or_concat (turnsN c) with h | ⟨m, q, h⟩
    · rw [h]
      show (0 : Int) ≤ _
      split
      · exact Int.le_refl 0
      · rename_i p hpe
        split
        · exact Int.le_refl 0
        · have := (k p (hb p (List.mem_of_getLast? hpe))).1; omega
    · rw [List.concat_eq_append] at h
      rcases List.eq_nil_or_concat (turnsN c') with h' | ⟨m', q', h'⟩
      · have e' := turns_alt c'
        rw [h'] at e'
        have z : c' = 0 := e'.symm
        have z0 : c = 0 := by omega
        rw [z0] at h
        rw [z] at h'
        rw [h'] at h
        simp at h
      · rw [List.concat_eq_append] at h'
        have pq := last_mono c0 cc h h'
        have q8 : q' < 800 := hb q' (by rw [h']; simp)
        rw [h, h', List.getLast?_concat, List.getLast?_concat]
        show (if q ≤ 64 then (0 : Int) else hp q + 1) ≤ if q' ≤ 64 then 0 else hp q' + 1
        have := mono q q' pq q8
        have := (k q' q8).1
        split <;> split <;> omega
  · intro c c0 c8
    dsimp only
    have hb := turns_800 (c := c) c0 c8
    have asc := turns_asc c
    rcases moved_cases F c0 c8 with ⟨all, e⟩ | ⟨l, p, e1, p64, e⟩
    · rw [e]
      have z : (match (turnsN c).getLast? with | none => (0 : Int) | some p => if p ≤ 64 then 0 else hp p + 1) = 0 := by
        split
        · rfl
        · rename_i p hpe
          rw [if_pos (all p (List.mem_of_getLast? hpe))]
      rw [z]
      exact ⟨Int.le_refl 0, gd_int _ _, fun h => of_decide_eq_true h⟩
    · rw [e, e1, List.getLast?_concat]
      show 0 ≤ (if p ≤ 64 then (0 : Int) else hp p + 1) ∧ Gd (n + 4) (if p ≤ 64 then (0 : Int) else hp p + 1) _ ∧ _
      rw [if_neg (by omega)]
      have p8 : p < 800 := hb p (by rw [e1]; simp)
      have kp := k p p8
      refine ⟨by omega, gd_tup (dl := placeD fs p) ?_ ?_ kp.2.1 fun x hx => ?_, fun h => by cases h⟩
      · have := len_turns c0 c8
        rw [e1] at this
        rw [List.length_map]; omega
      · rw [List.map_append, List.map_singleton, List.getLast?_concat]
      · obtain ⟨q, hq, rfl⟩ := List.mem_map.mp hx
        have q8 : q < 800 := hb q (by rw [e1]; exact hq)
        refine ⟨hp q, mono q p ?_ p8, (k q q8).2.1⟩
        rw [e1] at asc
        rcases List.mem_append.mp hq with hq | hq
        · have := (List.pairwise_append.mp asc).2.2 q hq p List.mem_cons_self; omega
        · simp at hq; omega
/-- codes that ascend -/
def Codes (cs : List Int) : Prop := cs.Pairwise (· < ·) ∧ (∀ c ∈ cs, 0 ≤ c ∧ c < 2 ^ 799) ∧ cs.length ≤ 2000
def codesD (fs : List PyData) (cs : List Int) : PyData := rowD (cs.map (movedD fs))
theorem small_moved {fs : List PyData} (F : Fields fs) {c : Int} (h0 : 0 ≤ c) (h1 : c ≤ 64) : movedD fs c = .int c := by
  have h7 : c < 2 ^ 7 := by omega
  have c8 : c < 2 ^ 799 := by
    have big : (2 : Int) ^ 7 ≤ 2 ^ 799 := by
      have h' : ((2 ^ 7 : Nat) : Int) ≤ ((2 ^ 799 : Nat) : Int) := Int.ofNat_le.mpr (Nat.pow_le_pow_right (by decide) (by decide))
      rw [Int.natCast_pow, Int.natCast_pow] at h'
      exact h'
    generalize (2 : Int) ^ 799 = B at big ⊢; omega
  rcases moved_cases F h0 c8 with ⟨_, e⟩ | ⟨l, p, e1, p64, _⟩
  · exact e
  · have := turns_lt (n := 7) (by omega) h7 p (by rw [e1]; simp)
    omega
theorem codes_row {fs : List PyData} (F : Fields fs) {cs : List Int} (h : Codes cs) : RowC (cs.map (movedD fs)) := by
  obtain ⟨asc, hb, _⟩ := h
  intro d hd hn
  rcases List.eq_nil_or_concat cs with rfl | ⟨m, q, rfl⟩
  · cases hd
  rw [List.concat_eq_append] at *
  rw [List.map_append, List.map_singleton, List.getLast?_concat] at hd
  cases hd
  obtain ⟨hm, _, k⟩ := moveds F 0
  have hq := hb q (by simp)
  have q64 := (k q hq.1 hq.2).2.2 hn
  have all : ∀ c ∈ m ++ [q], c ≤ 64 := fun c hc => by
    rcases List.mem_append.mp hc with hc | hc
    · have := (List.pairwise_append.mp asc).2.2 c hc q List.mem_cons_self; omega
    · simp at hc; omega
  refine ⟨(m ++ [q]).map Int.toNat, ?_, fun n hn => ?_⟩
  · unfold nD
    rw [List.map_map]
    refine List.map_congr_left fun c hc => ?_
    rw [small_moved F (hb c hc).1 (all c hc)]
    show PyData.int c = .int ((c.toNat : Nat) : Int)
    have := (hb c hc).1
    congr 1
    omega
  · obtain ⟨c, hc, rfl⟩ := List.mem_map.mp hn
    have := all c hc
    omega
theorem codes_gd {fs : List PyData} (F : Fields fs) {cs : List Int} (h : Codes cs) (n : Nat) : ∃ hh, Gd (n + 5) hh (codesD fs cs) := by
  obtain ⟨asc, hb, hl⟩ := h
  obtain ⟨hm, mono, k⟩ := moveds F n
  unfold codesD
  rcases List.eq_nil_or_concat cs with rfl | ⟨m, q, rfl⟩
  · exact ⟨0, gd_int _ _⟩
  rw [List.concat_eq_append] at *
  have e : ((m ++ [q]).map (movedD fs)).getLast? = some (movedD fs q) := by rw [List.map_append, List.map_singleton, List.getLast?_concat]
  have hq := hb q (by simp)
  by_cases c : isNear (movedD fs q) = true
  · unfold rowD
    rw [e]
    show ∃ hh, Gd (n + 5) hh (if isNear (movedD fs q) = true then _ else _)
    rw [if_pos c]
    exact ⟨0, gd_int _ _⟩
  · rw [rowD_far e (Bool.eq_false_iff.mpr c)]
    refine ⟨hm q + 1, gd_tup (by rw [List.length_map]; omega) e (k q hq.1 hq.2).2.1 fun x hx => ?_⟩
    obtain ⟨c', hc', rfl⟩ := List.mem_map.mp hx
    have hc := hb c' hc'
    refine ⟨hm c', mono c' q hc.1 ?_ hq.2, (k c' hc.1 hc.2).2.1⟩
    rcases List.mem_append.mp hc' with h | h
    · have := (List.pairwise_append.mp asc).2.2 c' h q List.mem_cons_self; omega
    · simp at h; omega
end Fb
namespace Fb
open PySem L2
theorem cpow {i j : Int} (h : 0 ≤ j ∧ j ≤ 1000000 ∧ i.natAbs < 2 ^ 64) : CPow i j := h
theorem dps_last {K : PySem.W.Frag} {H : Hp} {ini : List PyData} {d : PyData} {xs : List V} (h : DpAll K H xs (ini ++ [d])) : ∃ x, atI xs (-1) = some x ∧ Dp K H x d := by
  have hl := dps_length h
  rw [List.length_append, List.length_singleton] at hl
  have hi : ini.length < xs.length := by omega
  have e : xs[ini.length]? = some xs[ini.length] := List.getElem?_eq_getElem hi
  obtain ⟨d', h1, h2⟩ := dps_get h e
  rw [List.getElem?_append_right (Nat.le_refl _), Nat.sub_self] at h1
  cases h1
  refine ⟨_, ?_, h2⟩
  unfold atI ixN
  rw [if_neg (by decide), if_pos (by omega)]
  show xs[((-1 : Int) + xs.length).toNat]? = _
  rw [show ((-1 : Int) + xs.length).toNat = ini.length by omega]
  exact e
/-! ### codes: groups of bits 200 places apart -/
def val4 (d : Nat → Int) : Int := d 0 + d 1 * 2 ^ 200 + d 2 * 2 ^ 400 + d 3 * 2 ^ 600
def CodeB (m : Nat) (b c : Int) : Prop := ∃ d : Nat → Int, c = val4 d ∧ (∀ k, 0 ≤ d k ∧ d k < b) ∧ ∀ k, m ≤ k → d k = 0
def cb (j : Nat) : Int := 2 ^ 57 + 4 * (j : Int)
abbrev Code (m j : Nat) (c : Int) : Prop := CodeB m (cb j) c
theorem CodeB.mono {m : Nat} {b b' c : Int} (h : CodeB m b c) (e : b ≤ b') : CodeB m b' c := by
  obtain ⟨d, h1, h2, h3⟩ := h
  exact ⟨d, h1, fun k => ⟨(h2 k).1, by have := (h2 k).2; omega⟩, h3⟩
theorem code_small {m : Nat} {b e : Int} (hm : 1 ≤ m) (h0 : 0 ≤ e) (h1 : e < b) : CodeB m b e := by
  refine ⟨fun k => if k = 0 then e else 0, ?_, fun k => ?_, fun k hk => ?_⟩
  · unfold val4; simp
  · dsimp only; split <;> omega
  · dsimp only; rw [if_neg (by omega)]
theorem code_add {m : Nat} {b c e : Int} (hm : 1 ≤ m) (h : CodeB m b c) (h0 : 0 ≤ e) : CodeB m (b + e) (c + e) := by
  obtain ⟨d, rfl, h2, h3⟩ := h
  refine ⟨fun k => if k = 0 then d 0 + e else d k, ?_, fun k => ?_, fun k hk => ?_⟩
  · unfold val4; simp; omega
  · dsimp only
    have := h2 0
    have := h2 k
    split <;> omega
  · dsimp only; rw [if_neg (by omega)]; exact h3 k hk
theorem code_piece {m : Nat} {b c pc : Int} {k s : Nat} (h : CodeB m b c) (hk : k < m) (hm : m ≤ 4) (p0 : 0 ≤ pc) (p1 : pc < 2 ^ 40) (hs : s < 15) : CodeB m (b + 2 ^ 55) (c + pc * 2 ^ (200 * k + s)) := by
  obtain ⟨d, rfl, h2, h3⟩ := h
  have hs1 : (0 : Int) < 2 ^ s := Int.pow_pos (by decide)
  have hs2 : (2 : Int) ^ s ≤ 2 ^ 14 := by
    have h' : ((2 ^ s : Nat) : Int) ≤ ((2 ^ 14 : Nat) : Int) := Int.ofNat_le.mpr (Nat.pow_le_pow_right (by decide) (by omega))
    rw [Int.natCast_pow, Int.natCast_pow] at h'
    exact h'
  have q0 : 0 ≤ pc * 2 ^ s := Int.mul_nonneg p0 (by omega)
  have q1 : pc * 2 ^ s < 2 ^ 55 := by
    have a : pc * 2 ^ s ≤ pc * 2 ^ 14 := Int.mul_le_mul_of_nonneg_left hs2 p0
    omega
  have e : pc * 2 ^ (200 * k + s) = (pc * 2 ^ s) * 2 ^ (200 * k) := by rw [Int.pow_add, Int.mul_assoc, Int.mul_comm (2 ^ (200 * k))]
  rw [e]
  generalize pc * 2 ^ s = z at q0 q1 ⊢
  refine ⟨fun i => if i = k then d k + z else d i, ?_, fun i => ?_, fun i hi => ?_⟩
  · match k, (by omega : k < 4) with
    | 0, _ => unfold val4; simp; omega
    | 1, _ => unfold val4; simp; rw [Int.add_mul]; omega
    | 2, _ => unfold val4; simp; rw [Int.add_mul]; omega
    | 3, _ => unfold val4; simp; rw [Int.add_mul]; omega
  · dsimp only
    have := h2 k
    have := h2 i
    split <;> omega
  · dsimp only; rw [if_neg (by omega)]; exact h3 i hi
theorem p_le {a b : Nat} (h : a ≤ b) : (2 : Int) ^ a ≤ 2 ^ b := by
  have h' : ((2 ^ a : Nat) : Int) ≤ ((2 ^ b : Nat) : Int) := Int.ofNat_le.mpr (Nat.pow_le_pow_right (by decide) h)
  rw [Int.natCast_pow, Int.natCast_pow] at h'
  exact h'
/-- a code's size by its groups -/
theorem code_lt {m : Nat} {b c : Int} (h : CodeB m b c) (hm1 : 1 ≤ m) (hm : m ≤ 4) (hb : b ≤ 2 ^ 60) : 0 ≤ c ∧ c < 2 ^ (200 * (m - 1) + 61) := by
  obtain ⟨d, rfl, h2, h3⟩ := h
  have a0 := h2 0; have a1 := h2 1; have a2 := h2 2; have a3 := h2 3
  unfold val4
  match m, hm1, hm with
  | 1, _, _ =>
    have z1 := h3 1 (by decide); have z2 := h3 2 (by decide); have z3 := h3 3 (by decide)
    rw [z1, z2, z3]
    show 0 ≤ _ ∧ _ < (2 : Int) ^ 61
    omega
  | 2, _, _ =>
    have z2 := h3 2 (by decide); have z3 := h3 3 (by decide)
    rw [z2, z3]
    show 0 ≤ _ ∧ _ < (2 : Int) ^ 261
    omega
  | 3, _, _ =>
    have z3 := h3 3 (by decide)
    rw [z3]
    show 0 ≤ _ ∧ _ < (2 : Int) ^ 461
    omega
  | 4, _, _ =>
    show 0 ≤ _ ∧ _ < (2 : Int) ^ 661
    omega
theorem code_799 {m : Nat} {b c : Int} (h : CodeB m b c) (hm1 : 1 ≤ m) (hm : m ≤ 4) (hb : b ≤ 2 ^ 60) : 0 ≤ c ∧ c < 2 ^ 799 := by
  obtain ⟨h0, h1⟩ := code_lt h hm1 hm hb
  refine ⟨h0, Int.lt_of_lt_of_le h1 (p_le (by omega))⟩
theorem code_turns {m : Nat} {b c : Int} (h : CodeB m b c) (hm1 : 1 ≤ m) (hm : m ≤ 4) (hb : b ≤ 2 ^ 60) : ∀ p ∈ turnsN c, p / 200 < m := fun p hp => by
  obtain ⟨h0, h1⟩ := code_lt h hm1 hm hb
  have := turns_lt (n := 200 * (m - 1) + 61) (by have := Int.pow_pos (n := 2) (m := 200 * (m - 1) + 61) (by decide); omega) h1 p hp
  omega
theorem inV_int (c : Int) (l : List Int) : inV (.int c) (l.map V.int) = decide (c ∈ l) := by
  unfold inV
  induction l with
  | nil => rfl
  | cons x xs ih =>
    rw [List.map_cons, List.any_cons, ih]
    show (x == c || decide (c ∈ xs)) = _
    by_cases h : x = c
    · subst h; simp
    · rw [beq_false_of_ne h, Bool.false_or]
      simp [Ne.symm h]
theorem flat_ints (l : List Int) : (l.map V.int).all flatV = true := by
  rw [List.all_eq_true]
  intro x hx
  obtain ⟨c, _, rfl⟩ := List.mem_map.mp hx
  rfl
/-- sorted, without duplicates: strictly ascending -/
theorem strict_of {l l' : List Int} (hp : l'.Perm l) (hn : l.Nodup) (hs : l'.Pairwise (· ≤ ·)) : l'.Pairwise (· < ·) := by
  have hn' : l'.Nodup := hp.nodup_iff.mpr hn
  exact (hs.and hn').imp fun h => by obtain ⟨a, b⟩ := h; omega
theorem eqv_nil' (l : List Int) : PyData.eqv (.list (l.map PyData.int)) (.list []) = decide (l = []) := by
  rw [eqv_nil]
  cases l <;> rfl
theorem dps_map_int {K : PySem.W.Frag} {H : Hp} (l : List Int) : DpAll K H (l.map V.int) (l.map PyData.int) := dps_ints l
theorem shaped_ints (l : List Int) : SeqAt.shaped (.list (l.map PyData.int)) = true := shaped_list (n := 0) (by decide) fun x hx => by
  obtain ⟨i, _, rfl⟩ := List.mem_map.mp hx; exact ⟨i, rfl⟩
end Fb
namespace Fb
open PySem L2
/-! ### order: of ints, of rows by their last places, of forms -/
def sgnI (a b : Int) : Int := if a = b then 0 else if a < b then -1 else 1
theorem sgnI_self (a : Int) : sgnI a a = 0 := if_pos rfl
theorem sgnI_lt {a b : Int} (h : a < b) : sgnI a b = -1 := by unfold sgnI; rw [if_neg (by omega), if_pos h]
theorem sgnI_gt {a b : Int} (h : b < a) : sgnI a b = 1 := by unfold sgnI; rw [if_neg (by omega), if_neg (by omega)]
theorem sgnI_swap (a b : Int) : sgnI b a = -sgnI a b := by
  unfold sgnI
  by_cases h : a = b
  · rw [if_pos h, if_pos h.symm]; rfl
  · rw [if_neg h, if_neg (Ne.symm h)]
    by_cases c : a < b
    · rw [if_pos c, if_neg (by omega)]; rfl
    · rw [if_neg c, if_pos (by omega)]
theorem sgnI_pm {a b : Int} (h : a ≠ b) : sgnI a b = 1 ∨ sgnI a b = -1 := by
  unfold sgnI; rw [if_neg h]; split
  · exact .inr rfl
  · exact .inl rfl
theorem sgnI_add (a b z : Int) : sgnI (a + z) (b + z) = sgnI a b := by
  by_cases e : a = b
  · subst e; rw [sgnI_self, sgnI_self]
  · by_cases c : a < b
    · rw [sgnI_lt c, sgnI_lt (by omega)]
    · rw [sgnI_gt (show b < a by omega), sgnI_gt (by omega)]
def par (k : Nat) (s : Int) : Int := if k % 2 = 1 then -s else s
/-- from the top: rows that are turned round -/
def lexR : List Int → List Int → Int
  | [], [] => 0
  | [], _ :: _ => -1
  | x :: xs, [] => par (xs.length + 1) 1
  | x :: xs, y :: ys => if x = y then lexR xs ys else par (xs.length + 1) (sgnI x y)
/-- the order of rows of turns -/
def cmpS (l l' : List Int) : Int :=
  if l.length % 2 ≠ l'.length % 2 then (if l.length % 2 = 1 then -1 else 1) else lexR l.reverse l'.reverse
def altZ (s : Int) (l : List Nat) : Int := alt s l
theorem flip_eq (s : Int) (n : Nat) : flip s n = par n s := by
  induction n generalizing s with
  | zero => rfl
  | succ n ih =>
    show flip (-s) n = _
    rw [ih]
    unfold par
    by_cases h : n % 2 = 1
    · rw [if_pos h, if_neg (by omega)]; omega
    · rw [if_neg h, if_pos (by omega)]
/-- the size of a row's sum by its last place -/
theorem alt_size {m : List Nat} {p : Nat} (hp : (m ++ [p]).Pairwise (· < ·)) : ∃ v : Int, alt (-1) (m ++ [p]) = flip (-1) m.length * v ∧ (m.length = 0 → v = 2 ^ p) ∧ (1 ≤ m.length → v < 2 ^ p) ∧ (m.length = 1 → 2 ^ p ≤ 2 * v) ∧ (2 ≤ m.length → 2 ^ p < 2 * v) ∧ 0 < v := by
  obtain ⟨h1, _, h3⟩ := List.pairwise_append.mp hp
  have pp : (0 : Int) < 2 ^ p := Int.pow_pos (by decide)
  have fpm := flip_pm (s := -1) (.inr rfl) m.length
  refine ⟨flip (-1) m.length * alt (-1) (m ++ [p]), ?_, ?_⟩
  · rw [← Int.mul_assoc]
    rcases fpm with f | f <;> rw [f] <;> omega
  rw [alt_snoc]
  rcases List.eq_nil_or_concat m with rfl | ⟨m', q, rfl⟩
  · have e : flip (-1) (([] : List Nat).length) * (alt (-1) [] + flip (-1) (([] : List Nat).length) * 2 ^ p) = 2 ^ p := by
      show (-1 : Int) * (0 + -1 * 2 ^ p) = 2 ^ p
      omega
    rw [e]
    exact ⟨fun _ => rfl, fun h => by simp at h, fun h => by simp at h, fun h => by simp at h, pp⟩
  · rw [List.concat_eq_append] at *
    have qp : q < p := h3 q (by simp) p List.mem_cons_self
    have q2 : (2 : Int) * 2 ^ q ≤ 2 ^ p := by
      have := p_le (a := q + 1) (b := p) (by omega)
      rw [Int.pow_succ] at this; omega
    have pq : (0 : Int) < 2 ^ q := Int.pow_pos (by decide)
    obtain ⟨k1, _, k3⟩ := List.pairwise_append.mp h1
    have sm := alt_lt (s := -1) (.inr rfl) (n := q) k1 fun r hr => k3 r hr q List.mem_cons_self
    have sg := alt_sign (s := -1) (.inr rfl) h1
    rw [alt_snoc] at sg
    rw [alt_snoc]
    have fl : flip (-1) (m' ++ [q]).length = -flip (-1) m'.length := by rw [List.length_append, List.length_singleton, flip_succ]
    rw [fl]
    have f' := flip_pm (s := -1) (.inr rfl) m'.length
    -- for two places and more the sum of the others is less than 2 to q
    have strict : 1 ≤ m'.length → (flip (-1) m'.length = 1 → alt (-1) m' < 0) ∧ (flip (-1) m'.length = -1 → 0 < alt (-1) m') := fun hl => by
      rcases List.eq_nil_or_concat m' with rfl | ⟨m2, r, rfl⟩
      · simp at hl
      · rw [List.concat_eq_append] at *
        have sg2 := alt_sign (s := -1) (.inr rfl) k1
        have fl2 : flip (-1) (m2 ++ [r]).length = -flip (-1) m2.length := by rw [List.length_append, List.length_singleton, flip_succ]
        constructor
        · intro h; exact sg2.2 (by omega)
        · intro h; exact sg2.1 (by omega)
    have len : (m' ++ [q]).length = m'.length + 1 := by rw [List.length_append, List.length_singleton]
    rw [len]
    have zero : m'.length = 0 → alt (-1) m' = 0 := fun h => by
      have : m' = [] := List.length_eq_zero_iff.mp h
      subst this; rfl
    rcases f' with f | f <;> rw [f] at sg strict ⊢ <;> refine ⟨fun h => by omega, fun _ => ?_, fun h => ?_, fun h => ?_, ?_⟩
    · have := sg.1 rfl; omega
    · have := zero (by omega); omega
    · have := (strict (by omega)).1 rfl; omega
    · omega
    · have := sg.2 rfl; omega
    · have := zero (by omega); omega
    · have := (strict (by omega)).2 rfl; omega
    · omega
theorem lexR_tail : ∀ (t a b : List Int), lexR (t ++ a) (t ++ b) = lexR a b
  | [], _, _ => rfl
  | x :: t, a, b => by
    show (if x = x then lexR (t ++ a) (t ++ b) else _) = _
    rw [if_pos rfl, lexR_tail t a b]
def zs (l : List Nat) : List Int := l.map Int.ofNat
/-- the order of rows is that of their sums -/
theorem lex_alt : ∀ (l l' : List Nat), l.Pairwise (· < ·) → l'.Pairwise (· < ·) → l.length % 2 = l'.length % 2 → lexR (zs l).reverse (zs l').reverse = sgnI (alt (-1) l) (alt (-1) l') := by
  intro l
  generalize hn : l.length = n
  induction n generalizing l with
  | zero =>
    intro l' _ h2 hp
    have : l = [] := List.length_eq_zero_iff.mp hn
    subst this
    rcases List.eq_nil_or_concat l' with rfl | ⟨m, q, rfl⟩
    · rfl
    · rw [List.concat_eq_append] at *
      have e : (zs (m ++ [q])).reverse = (q : Int) :: (zs m).reverse := by unfold zs; rw [List.map_append, List.reverse_append]; rfl
      rw [e]
      show (-1 : Int) = sgnI 0 _
      have sg := alt_sign (s := -1) (.inr rfl) h2
      rw [flip_eq] at sg
      rw [List.length_append, List.length_singleton] at hp
      have f1 : par m.length (-1) = 1 := by unfold par; rw [if_pos (by omega)]; rfl
      rw [sgnI_lt (sg.1 f1)]
  | succ n ih =>
    intro l' h1 h2 hp
    rcases List.eq_nil_or_concat l with rfl | ⟨k, p, rfl⟩
    · cases hn
    rw [List.concat_eq_append] at *
    have hk : k.length = n := by rw [List.length_append, List.length_singleton] at hn; omega
    have ek : (zs (k ++ [p])).reverse = (p : Int) :: (zs k).reverse := by unfold zs; rw [List.map_append, List.reverse_append]; rfl
    have lk : (zs k).reverse.length = k.length := by unfold zs; rw [List.length_reverse, List.length_map]
    obtain ⟨v, v1, v2, v3, v4, v5, v6⟩ := alt_size h1
    rcases List.eq_nil_or_concat l' with rfl | ⟨m, q, rfl⟩
    · rw [ek]
      show par ((zs k).reverse.length + 1) 1 = sgnI _ 0
      rw [lk, v1, flip_eq]
      simp at hp
      have f1 : par k.length (-1) = 1 := by unfold par; rw [if_pos (by omega)]; rfl
      have f2 : par (k.length + 1) 1 = 1 := by unfold par; rw [if_neg (by omega)]
      rw [f1, f2, sgnI_gt (by omega)]
    rw [List.concat_eq_append] at *
    have em : (zs (m ++ [q])).reverse = (q : Int) :: (zs m).reverse := by unfold zs; rw [List.map_append, List.reverse_append]; rfl
    rw [List.length_append, List.length_singleton] at hp
    have hpm : k.length % 2 = m.length % 2 := by omega
    rw [ek, em]
    show (if (p : Int) = q then lexR (zs k).reverse (zs m).reverse else par ((zs k).reverse.length + 1) (sgnI p q)) = _
    have fe : flip (-1) k.length = flip (-1) m.length := by rw [flip_eq, flip_eq]; unfold par; rw [hpm]
    by_cases c : p = q
    · subst c
      rw [if_pos rfl, ih k hk m (List.pairwise_append.mp h1).1 (List.pairwise_append.mp h2).1 (by omega), alt_snoc, alt_snoc, fe]
      exact (sgnI_add _ _ _).symm
    · rw [if_neg (by omega), lk]
      obtain ⟨u, u1, u2, u3, u4, u5, u6⟩ := alt_size h2
      have key : ∀ (k m : List Nat) (p q : Nat) (v u : Int), p < q → k.length % 2 = m.length % 2 → (k.length = 0 → v = 2 ^ p) → (1 ≤ k.length → v < 2 ^ p) → (m.length = 0 → u = 2 ^ q) → (m.length = 1 → 2 ^ q ≤ 2 * u) → (2 ≤ m.length → 2 ^ q < 2 * u) → v < u := by
        intro k m p q v u pq hp a1 a2 b1 b2 b3
        have h : (2 : Int) * 2 ^ p ≤ 2 ^ q := by
          have := p_le (a := p + 1) (b := q) (by omega)
          rw [Int.pow_succ] at this; omega
        have pp : (0 : Int) < 2 ^ p := Int.pow_pos (by decide)
        by_cases z : m.length = 0
        · have := b1 z
          by_cases z2 : k.length = 0
          · have := a1 z2; omega
          · have := a2 (by omega); omega
        · by_cases z1 : m.length = 1
          · have := b2 z1
            have := a2 (by omega)
            omega
          · have := b3 (by omega)
            by_cases z2 : k.length = 0
            · have := a1 z2; omega
            · have := a2 (by omega); omega
      rw [v1, u1, fe, flip_eq]
      rcases Nat.lt_or_gt_of_ne c with pq | pq
      · have vu := key k m p q v u pq hpm v2 v3 u2 u4 u5
        rw [sgnI_lt (show (p : Int) < q by omega)]
        unfold par
        by_cases o : m.length % 2 = 1
        · rw [if_pos o, if_neg (by omega), sgnI_lt (by omega)]
        · rw [if_neg o, if_pos (by omega), sgnI_gt (by omega)]; rfl
      · have vu := key m k q p u v pq hpm.symm u2 u3 v2 v4 v5
        rw [sgnI_gt (show (q : Int) < p by omega)]
        unfold par
        by_cases o : m.length % 2 = 1
        · rw [if_pos o, if_neg (by omega), sgnI_gt (by omega)]
        · rw [if_neg o, if_pos (by omega), sgnI_lt (by omega)]
theorem alt_par {l : List Nat} (h : l.Pairwise (· < ·)) : (l.length % 2 = 1 → alt (-1) l < 0) ∧ (l.length % 2 = 0 → 0 ≤ alt (-1) l) := by
  rcases List.eq_nil_or_concat l with rfl | ⟨m, q, rfl⟩
  · exact ⟨fun h => (by simp at h), fun _ => Int.le_refl 0⟩
  · rw [List.concat_eq_append] at *
    have sg := alt_sign (s := -1) (.inr rfl) h
    rw [flip_eq] at sg
    rw [List.length_append, List.length_singleton]
    constructor
    · intro o
      exact sg.2 (by unfold par; rw [if_neg (by omega)])
    · intro o
      exact Int.le_of_lt (sg.1 (by unfold par; rw [if_pos (by omega)]; rfl))
theorem len_zs (l : List Nat) : (zs l).length = l.length := by unfold zs; rw [List.length_map]
theorem cmpS_alt {l l' : List Nat} (h1 : l.Pairwise (· < ·)) (h2 : l'.Pairwise (· < ·)) : cmpS (zs l) (zs l') = sgnI (alt (-1) l) (alt (-1) l') := by
  unfold cmpS
  rw [len_zs, len_zs]
  have a := alt_par h1
  have b := alt_par h2
  by_cases c : l.length % 2 = l'.length % 2
  · rw [if_neg (by omega), lex_alt l l' h1 h2 c]
  · rw [if_pos c]
    by_cases o : l.length % 2 = 1
    · rw [if_pos o, sgnI_lt (by have := a.1 o; have := b.2 (by omega); omega)]
    · rw [if_neg o, sgnI_gt (by have := a.2 (by omega); have := b.1 (by omega); omega)]
theorem cmpS_turns (x y : Int) : cmpS (zs (turnsN x)) (zs (turnsN y)) = sgnI x y := by
  rw [cmpS_alt (turns_asc x) (turns_asc y), turns_alt, turns_alt]
/-- rows led by an ascending map -/
theorem lexR_map (r : Int → Int) : ∀ (l l' : List Int), (∀ a ∈ l, ∀ b ∈ l', (a = b ↔ r a = r b) ∧ (a < b ↔ r a < r b)) → lexR (l.map r) (l'.map r) = lexR l l'
  | [], [], _ => rfl
  | [], _ :: _, _ => rfl
  | x :: xs, [], _ => by show par ((xs.map r).length + 1) 1 = par (xs.length + 1) 1; rw [List.length_map]
  | x :: xs, y :: ys, h => by
    have hx := h x List.mem_cons_self y List.mem_cons_self
    show (if r x = r y then lexR (xs.map r) (ys.map r) else par ((xs.map r).length + 1) (sgnI (r x) (r y))) = if x = y then lexR xs ys else par (xs.length + 1) (sgnI x y)
    rw [List.length_map]
    by_cases e : x = y
    · rw [if_pos e, if_pos (hx.1.mp e), lexR_map r xs ys fun a ha b hb => h a (List.mem_cons_of_mem _ ha) b (List.mem_cons_of_mem _ hb)]
    · rw [if_neg e, if_neg (fun h => e (hx.1.mpr h))]
      unfold sgnI
      rw [if_neg e, if_neg (fun h => e (hx.1.mpr h))]
      by_cases c : x < y
      · rw [if_pos c, if_pos (hx.2.mp c)]
      · rw [if_neg c, if_neg (fun h => c (hx.2.mpr h))]
theorem cmpS_map (r : Int → Int) {l l' : List Int} (h : ∀ a ∈ l, ∀ b ∈ l', (a = b ↔ r a = r b) ∧ (a < b ↔ r a < r b)) : cmpS (l.map r) (l'.map r) = cmpS l l' := by
  unfold cmpS
  rw [List.length_map, List.length_map, ← List.map_reverse, ← List.map_reverse, lexR_map r _ _ fun a ha b hb => h a (List.mem_reverse.mp ha) b (List.mem_reverse.mp hb)]
end Fb
namespace Fb
open PySem L2
/-! ### the program's order of forms -/
def negD : PyData → Bool
  | .int i => decide (i < 0)
  | .tuple ds => decide (ds.length % 2 = 1)
  | _ => false
def lexD (c : PyData → PyData → Int) : List PyData → List PyData → Int
  | [], [] => 0
  | [], _ :: _ => -1
  | x :: xs, [] => par (xs.length + 1) 1
  | x :: xs, y :: ys => if PyData.eqv x y = true then lexD c xs ys else par (xs.length + 1) (c x y)
def cmpD : Nat → PyData → PyData → Int
  | 0, x, y => match x, y with
    | .int a, .int b => sgnI a b
    | _, _ => 0
  | n + 1, x, y => match x, y with
    | .int a, .int b => sgnI a b
    | .int a, .tuple ys => if negD (.int a) = negD (.tuple ys) then (if negD (.int a) = true then 1 else -1) else (if negD (.int a) = true then -1 else 1)
    | .tuple xs, .int b => if negD (.tuple xs) = true then -1 else 1
    | .tuple xs, .tuple ys => if negD (.tuple xs) = negD (.tuple ys) then lexD (cmpD n) xs.reverse ys.reverse else (if negD (.tuple xs) = true then -1 else 1)
    | _, _ => 0
def ctail : List PyData → List PyData → Nat
  | x :: xs, y :: ys => if PyData.eqv x y = true then ctail xs ys + 1 else 0
  | _, _ => 0
theorem ctail_le : ∀ xs ys : List PyData, ctail xs ys ≤ xs.length ∧ ctail xs ys ≤ ys.length
  | [], _ => ⟨Nat.le_refl 0, Nat.zero_le _⟩
  | _ :: _, [] => ⟨Nat.zero_le _, Nat.le_refl 0⟩
  | x :: xs, y :: ys => by
    have := ctail_le xs ys
    show (if _ then _ else _) ≤ _ ∧ (if _ then _ else _) ≤ _
    split
    · exact ⟨Nat.succ_le_succ this.1, Nat.succ_le_succ this.2⟩
    · exact ⟨Nat.zero_le _, Nat.zero_le _⟩
/-- the places from the top on are alike -/
def AlikeTo (k : Nat) (xs ys : List PyData) : Prop := ∀ i, i < k → ∀ a b, xs[i]? = some a → ys[i]? = some b → PyData.eqv a b = true
theorem le_ctail : ∀ (k : Nat) (xs ys : List PyData), k ≤ ctail xs ys ↔ k ≤ xs.length ∧ k ≤ ys.length ∧ AlikeTo k xs ys
  | 0, xs, ys => ⟨fun _ => ⟨Nat.zero_le _, Nat.zero_le _, fun i h => absurd h (Nat.not_lt_zero _)⟩, fun _ => Nat.zero_le _⟩
  | k + 1, [], ys => ⟨fun h => absurd h (Nat.not_succ_le_zero k), fun h => absurd h.1 (Nat.not_succ_le_zero k)⟩
  | k + 1, x :: xs, [] => ⟨fun h => absurd h (Nat.not_succ_le_zero k), fun h => absurd h.2.1 (Nat.not_succ_le_zero k)⟩
  | k + 1, x :: xs, y :: ys => by
    show k + 1 ≤ (if PyData.eqv x y = true then ctail xs ys + 1 else 0) ↔ _
    have ih := le_ctail k xs ys
    by_cases e : PyData.eqv x y = true
    · rw [if_pos e]
      constructor
      · intro h
        obtain ⟨a, b, c⟩ := ih.mp (Nat.le_of_succ_le_succ h)
        refine ⟨Nat.succ_le_succ a, Nat.succ_le_succ b, fun i hi p q hp hq => ?_⟩
        cases i with
        | zero => cases hp; cases hq; exact e
        | succ i => exact c i (Nat.lt_of_succ_lt_succ hi) p q (by simpa using hp) (by simpa using hq)
      · rintro ⟨a, b, c⟩
        exact Nat.succ_le_succ (ih.mpr ⟨Nat.le_of_succ_le_succ a, Nat.le_of_succ_le_succ b, fun i hi p q hp hq => c (i + 1) (Nat.succ_lt_succ hi) p q (by simpa using hp) (by simpa using hq)⟩)
    · rw [if_neg e]
      constructor
      · intro h; exact absurd h (Nat.not_succ_le_zero k)
      · rintro ⟨_, _, c⟩
        exact absurd (c 0 (Nat.zero_lt_succ k) x y rfl rfl) e
theorem ctail_next : ∀ {s : Nat} {xs ys : List PyData} {a b : PyData}, s ≤ ctail xs ys → xs[s]? = some a → ys[s]? = some b → (PyData.eqv a b = true → s + 1 ≤ ctail xs ys) ∧ (¬ PyData.eqv a b = true → ctail xs ys = s)
  | 0, x :: xs, y :: ys, a, b, _, ha, hb => by
    cases ha; cases hb
    show (_ → 0 + 1 ≤ (if PyData.eqv x y = true then ctail xs ys + 1 else 0)) ∧ (_ → (if PyData.eqv x y = true then ctail xs ys + 1 else 0) = 0)
    constructor
    · intro e; rw [if_pos e]; omega
    · intro e; rw [if_neg e]
  | s + 1, x :: xs, y :: ys, a, b, h, ha, hb => by
    have h' : s + 1 ≤ (if PyData.eqv x y = true then ctail xs ys + 1 else 0) := h
    by_cases e : PyData.eqv x y = true
    · rw [if_pos e] at h'
      obtain ⟨p, q⟩ := ctail_next (s := s) (xs := xs) (ys := ys) (by omega) (by simpa using ha) (by simpa using hb)
      have ec : ctail (x :: xs) (y :: ys) = ctail xs ys + 1 := by show (if PyData.eqv x y = true then _ else _) = _; rw [if_pos e]
      rw [ec]
      exact ⟨fun k => by have := p k; omega, fun k => by have := q k; omega⟩
    · rw [if_neg e] at h'; omega
  | s, [], _, _, _, _, ha, _ => by simp at ha
  | s, _ :: _, [], _, _, _, _, hb => by simp at hb
def atD (c : PyData → PyData → Int) (xs ys : List PyData) (s : Nat) : Int := match xs[s]?, ys[s]? with
  | some a, some b => c a b
  | _, _ => 0
theorem atD_eq {c : PyData → PyData → Int} {xs ys : List PyData} {s : Nat} {a b : PyData} (h1 : xs[s]? = some a) (h2 : ys[s]? = some b) : atD c xs ys s = c a b := by
  unfold atD; rw [h1, h2]
/-- what compare_far reckons, by the common tail -/
theorem lexD_tail (c : PyData → PyData → Int) : ∀ xs ys : List PyData,
    lexD c xs ys = (if ctail xs ys = xs.length ∧ ctail xs ys = ys.length then 0 else par (xs.length - ctail xs ys)
      (if ctail xs ys = xs.length then -1 else if ctail xs ys = ys.length then 1 else atD c xs ys (ctail xs ys)))
  | [], [] => rfl
  | [], _ :: _ => rfl
  | x :: xs, [] => rfl
  | x :: xs, y :: ys => by
    show (if PyData.eqv x y = true then lexD c xs ys else par (xs.length + 1) (c x y)) = _
    by_cases e : PyData.eqv x y = true
    · have ec : ctail (x :: xs) (y :: ys) = ctail xs ys + 1 := by show (if PyData.eqv x y = true then _ else _) = _; rw [if_pos e]
      rw [if_pos e, lexD_tail c xs ys, ec]
      simp only [atD, List.length_cons, Nat.add_right_cancel_iff, List.getElem?_cons_succ, Nat.add_sub_add_right]
    · have ec : ctail (x :: xs) (y :: ys) = 0 := by show (if PyData.eqv x y = true then _ else _) = _; rw [if_neg e]
      rw [if_neg e, ec]
      simp [atD]
theorem eqvAll_iff : ∀ xs ys : List PyData, PyData.eqvAll xs ys = true ↔ xs.length = ys.length ∧ AlikeTo xs.length xs ys
  | [], [] => by rw [PyData.eqvAll]; exact ⟨fun _ => ⟨rfl, fun i h => absurd h (Nat.not_lt_zero _)⟩, fun _ => rfl⟩
  | [], _ :: _ => by rw [PyData.eqvAll]; exact ⟨fun h => absurd h Bool.false_ne_true, fun h => absurd h.1 (by simp)⟩
  | _ :: _, [] => by rw [PyData.eqvAll]; exact ⟨fun h => absurd h Bool.false_ne_true, fun h => absurd h.1 (by simp)⟩
  | x :: xs, y :: ys => by
    rw [PyData.eqvAll, Bool.and_eq_true, eqvAll_iff xs ys]
    constructor
    · rintro ⟨e, l, c⟩
      refine ⟨congrArg Nat.succ l, fun i hi p q hp hq => ?_⟩
      cases i with
      | zero => cases hp; cases hq; exact e
      | succ i => exact c i (Nat.lt_of_succ_lt_succ hi) p q (by simpa using hp) (by simpa using hq)
    · rintro ⟨l, c⟩
      exact ⟨c 0 (Nat.zero_lt_succ _) x y rfl rfl, Nat.succ.inj l, fun i hi p q hp hq => c (i + 1) (Nat.succ_lt_succ hi) p q (by simpa using hp) (by simpa using hq)⟩
/-- the part of a row from place a on, b places -/
def seg {α : Type} (ds : List α) (same more : Nat) : List α := (ds.drop (ds.length - more)).take (more - same)
theorem seg_get {ds : List PyData} {same more j : Nat} (h : more ≤ ds.length) (hj : j < more - same) : (seg ds same more)[j]? = ds.reverse[more - 1 - j]? := by
  unfold seg
  rw [List.getElem?_take, if_pos hj, List.getElem?_drop, List.getElem?_reverse (by omega)]
  congr 1
  omega
theorem seg_len {ds : List PyData} {same more : Nat} (h : more ≤ ds.length) : (seg ds same more).length = more - same := by
  unfold seg
  rw [List.length_take, List.length_drop]
  omega
/-- a further part is alike exactly if the tail goes on -/
theorem seg_alike {ds es : List PyData} {same more : Nat} (hs : same ≤ ctail ds.reverse es.reverse) (hm : same ≤ more) (h1 : more ≤ ds.length) (h2 : more ≤ es.length) :
    PyData.eqv (.tuple (seg ds same more)) (.tuple (seg es same more)) = true ↔ more ≤ ctail ds.reverse es.reverse := by
  rw [PyData.eqv, eqvAll_iff, seg_len h1, seg_len h2, le_ctail, List.length_reverse, List.length_reverse]
  obtain ⟨_, _, c⟩ := (le_ctail same _ _).mp hs
  constructor
  · rintro ⟨_, d⟩
    refine ⟨h1, h2, fun i hi p q hp hq => ?_⟩
    by_cases hi2 : i < same
    · exact c i hi2 p q hp hq
    · refine d (more - 1 - i) (by omega) p q ?_ ?_
      · rw [seg_get h1 (by omega), show more - 1 - (more - 1 - i) = i by omega]; exact hp
      · rw [seg_get h2 (by omega), show more - 1 - (more - 1 - i) = i by omega]; exact hq
  · rintro ⟨_, _, d⟩
    refine ⟨rfl, fun j hj p q hp hq => ?_⟩
    rw [seg_get h1 hj] at hp
    rw [seg_get h2 hj] at hq
    exact d (more - 1 - j) (by omega) p q hp hq
/-- the n-th place from the end -/
theorem atI_end {α : Type} {xs : List α} {s : Nat} {v : α} (h : xs.reverse[s]? = some v) : atI xs (-1 - (s : Int)) = some v := by
  have hs : s < xs.length := by
    have := (List.getElem?_eq_some_iff.mp h).1
    rwa [List.length_reverse] at this
  unfold atI ixN
  rw [if_neg (by omega), if_pos (by omega)]
  show xs[((-1 - (s : Int)) + xs.length).toNat]? = _
  rw [List.getElem?_reverse hs] at h
  rw [show ((-1 - (s : Int)) + xs.length).toNat = xs.length - 1 - s by omega]
  exact h
theorem dps_rev {K : PySem.W.Frag} {H : Hp} : ∀ {vs : List V} {ds : List PyData}, DpAll K H vs ds → DpAll K H vs.reverse ds.reverse
  | [], _, h => by cases h; exact .nil
  | v :: vs, _, h => by
    cases h with
    | cons h1 h2 => rw [List.reverse_cons, List.reverse_cons]; exact dps_app (dps_rev h2) (.cons h1 .nil)
theorem dps_take {K : PySem.W.Frag} {H : Hp} : ∀ (k : Nat) {vs : List V} {ds : List PyData}, DpAll K H vs ds → DpAll K H (vs.take k) (ds.take k)
  | 0, _, _, _ => .nil
  | k + 1, _, _, .nil => .nil
  | k + 1, _, _, .cons h1 h2 => .cons h1 (dps_take k h2)
theorem dps_drop {K : PySem.W.Frag} {H : Hp} : ∀ (k : Nat) {vs : List V} {ds : List PyData}, DpAll K H vs ds → DpAll K H (vs.drop k) (ds.drop k)
  | 0, _, _, h => h
  | k + 1, _, _, .nil => .nil
  | k + 1, _, _, .cons _ h2 => dps_drop k h2
theorem fm_kind {n : Nat} {d : PyData} (h : Fm n d) : (isI d = true ∨ isT d = true) ∧ ∀ b, d ≠ .bool b := by
  cases n with
  | zero => obtain ⟨i, rfl⟩ := h; exact ⟨.inl rfl, fun b e => by cases e⟩
  | succ n =>
    rcases h with ⟨i, rfl⟩ | ⟨ds, rfl, _⟩
    · exact ⟨.inl rfl, fun b e => by cases e⟩
    · exact ⟨.inr rfl, fun b e => by cases e⟩
theorem fm_int {n : Nat} {d : PyData} (h : Fm n d) (c : isI d = true) : ∃ i, d = .int i := by
  cases n with
  | zero => exact h
  | succ n =>
    rcases h with h | ⟨ds, rfl, _⟩
    · exact h
    · cases c
theorem fm_tup {n : Nat} {d : PyData} (h : Fm (n + 1) d) (c : ¬ isI d = true) : ∃ ds, d = .tuple ds ∧ ds.length ≤ 9000 ∧ ∀ x ∈ ds, Fm n x := by
  rcases h with ⟨i, rfl⟩ | h
  · exact absurd rfl c
  · exact h
theorem cmp_ne {n : Nat} {x y : PyData} (fx : Fm (n + 1) x) (fy : Fm (n + 1) y) (h : ¬ (isI x = true ∧ isI y = true)) (c : negD x ≠ negD y) : cmpD (n + 1) x y = if negD x = true then -1 else 1 := by
  rcases fx with ⟨i, rfl⟩ | ⟨xs, rfl, _⟩ <;> rcases fy with ⟨j, rfl⟩ | ⟨ys, rfl, _⟩
  · exact absurd ⟨rfl, rfl⟩ h
  · exact if_neg c
  · rfl
  · exact if_neg c
theorem cmp_ix {n : Nat} {x y : PyData} (fx : Fm (n + 1) x) (fy : Fm (n + 1) y) (h : ¬ (isI x = true ∧ isI y = true)) (c : negD x = negD y) (k : isI x = true) : cmpD (n + 1) x y = if negD x = true then 1 else -1 := by
  rcases fx with ⟨i, rfl⟩ | ⟨xs, rfl, _⟩ <;> rcases fy with ⟨j, rfl⟩ | ⟨ys, rfl, _⟩
  · exact absurd ⟨rfl, rfl⟩ h
  · exact if_pos c
  · cases k
  · cases k
theorem cmp_iy {n : Nat} {x y : PyData} (fx : Fm (n + 1) x) (fy : Fm (n + 1) y) (h : ¬ (isI x = true ∧ isI y = true)) (c : negD x = negD y) (k : ¬ isI x = true) (k2 : isI y = true) : cmpD (n + 1) x y = if negD x = true then -1 else 1 := by
  rcases fx with ⟨i, rfl⟩ | ⟨xs, rfl, _⟩ <;> rcases fy with ⟨j, rfl⟩ | ⟨ys, rfl, _⟩
  · exact absurd rfl k
  · exact absurd rfl k
  · rfl
  · cases k2
/-- a slice of a tuple, new or the tuple itself -/
def rSlD (K : PySem.W.Frag) : V → Option Int → Option Int → Hp → VK → Prop := fun x lo hi H Q => ∃ a xs, x = .ref a ∧ SqT K H a xs ∧ ∀ b H', Same H H' → SqT K H' b (cutV xs lo hi) → Q (.ref b) H'
theorem sl_tupD {X : Cx} : SlR X (rSlD X.K) := by
  intro pins s σ H x v vl vu lo hi sl Q I rx hs pl pu h
  obtain ⟨a, xs, rfl, hx, q⟩ := h
  refine sl_tupA pins s σ H _ v vl vu lo hi sl Q I rx hs pl pu ⟨a, xs, rfl, hx, fun hw => ?_, fun _ p np => q p _ (Same.new np) (SqT.of upd_same)⟩
  refine q a H (Same.refl H) ?_
  unfold cutV
  rw [hw.1, hw.2, List.drop_zero, Nat.sub_zero, List.take_length]
  exact hx
theorem cut_seg {xs : List V} {same more : Nat} (h : more ≤ xs.length) (h2 : same ≤ more) : cutV xs (some ((xs.length : Int) - (more : Int))) (some ((xs.length : Int) - (same : Int))) = seg xs same more := by
  unfold cutV seg
  rw [show (xs.length : Int) - (more : Int) = ((xs.length - more : Nat) : Int) by omega, show (xs.length : Int) - (same : Int) = ((xs.length - same : Nat) : Int) by omega, HT.sIx_nat, HT.sIx_nat]
  congr 1
  · omega
  · congr 1
    omega
theorem dps_seg {K : PySem.W.Frag} {H : Hp} {vs : List V} {ds : List PyData} (h : DpAll K H vs ds) (same more : Nat) : DpAll K H (seg vs same more) (seg ds same more) := by
  unfold seg
  rw [dps_length h]
  exact dps_take _ (dps_drop _ h)
end Fb
namespace Fb
open PySem L2
theorem eqv_fm : ∀ {n : Nat} {x y : PyData}, Fm n x → Fm n y → (PyData.eqv x y = true ↔ x = y) := by
  intro n
  induction n with
  | zero =>
    rintro x y ⟨i, rfl⟩ ⟨j, rfl⟩
    rw [PyData.eqv]
    simp
  | succ n ih =>
    intro x y hx hy
    rcases hx with ⟨i, rfl⟩ | ⟨xs, rfl, _, hx⟩ <;> rcases hy with ⟨j, rfl⟩ | ⟨ys, rfl, _, hy⟩
    · rw [PyData.eqv]; simp
    · rw [PyData.eqv]; simp
    · rw [PyData.eqv]; simp
    · rw [PyData.eqv, eqvAll_iff]
      constructor
      · rintro ⟨l, c⟩
        congr 1
        refine List.ext_getElem? fun i => ?_
        by_cases hi : i < xs.length
        · have h1 : xs[i]? = some xs[i] := List.getElem?_eq_getElem hi
          have h2 : ys[i]? = some (ys[i]'(l ▸ hi)) := List.getElem?_eq_getElem (l ▸ hi)
          have := c i hi _ _ h1 h2
          rw [h1, h2, (ih (hx _ (List.getElem_mem hi)) (hy _ (List.getElem_mem (l ▸ hi)))).mp this]
        · rw [List.getElem?_eq_none (by omega), List.getElem?_eq_none (by omega)]
      · intro e
        injection e with e
        subst e
        refine ⟨rfl, fun i hi a b ha hb => ?_⟩
        rw [ha] at hb
        cases hb
        exact (ih (hx a (List.mem_of_getElem? ha)) (hx a (List.mem_of_getElem? ha))).mpr rfl
theorem lexD_self {n : Nat} (c : PyData → PyData → Int) : ∀ xs : List PyData, (∀ x ∈ xs, Fm n x) → lexD c xs xs = 0
  | [], _ => rfl
  | x :: xs, h => by
    show (if PyData.eqv x x = true then lexD c xs xs else _) = 0
    rw [if_pos ((eqv_fm (h x List.mem_cons_self) (h x List.mem_cons_self)).mpr rfl)]
    exact lexD_self c xs fun y hy => h y (List.mem_cons_of_mem _ hy)
theorem cmpD_self : ∀ {n : Nat} {d : PyData}, Fm n d → cmpD n d d = 0
  | 0, d, h => by obtain ⟨i, rfl⟩ := h; exact sgnI_self i
  | n + 1, d, h => by
    rcases h with ⟨i, rfl⟩ | ⟨ds, rfl, _, h⟩
    · exact sgnI_self i
    · show (if negD (.tuple ds) = negD (.tuple ds) then lexD (cmpD n) ds.reverse ds.reverse else _) = 0
      rw [if_pos rfl]
      exact lexD_self _ _ fun x hx => h x (List.mem_reverse.mp hx)
theorem par_neg (k : Nat) (s : Int) : par k (-s) = -par k s := by unfold par; split <;> omega
theorem lexD_anti {n : Nat} {c : PyData → PyData → Int} (hc : ∀ a b, Fm n a → Fm n b → c b a = -c a b) : ∀ xs ys : List PyData, (∀ x ∈ xs, Fm n x) → (∀ x ∈ ys, Fm n x) → xs.length % 2 = ys.length % 2 → lexD c ys xs = -lexD c xs ys
  | [], [], _, _, _ => rfl
  | [], y :: ys, _, _, h => by
    show par (ys.length + 1) 1 = -(-1)
    unfold par
    rw [if_neg (by simp at h; omega)]
    rfl
  | x :: xs, [], _, _, h => by
    show (-1 : Int) = -par (xs.length + 1) 1
    unfold par
    rw [if_neg (by simp at h; omega)]
  | x :: xs, y :: ys, hx, hy, h => by
    have fx := hx x List.mem_cons_self
    have fy := hy y List.mem_cons_self
    show (if PyData.eqv y x = true then lexD c ys xs else par (ys.length + 1) (c y x)) = -(if PyData.eqv x y = true then lexD c xs ys else par (xs.length + 1) (c x y))
    have hl : xs.length % 2 = ys.length % 2 := by simp at h; omega
    by_cases e : x = y
    · rw [if_pos ((eqv_fm fy fx).mpr e.symm), if_pos ((eqv_fm fx fy).mpr e)]
      exact lexD_anti hc xs ys (fun z hz => hx z (List.mem_cons_of_mem _ hz)) (fun z hz => hy z (List.mem_cons_of_mem _ hz)) hl
    · rw [if_neg (fun h => e ((eqv_fm fy fx).mp h).symm), if_neg (fun h => e ((eqv_fm fx fy).mp h)), hc x y fx fy, par_neg]
      unfold par
      by_cases o : (xs.length + 1) % 2 = 1
      · rw [if_pos o, if_pos (by omega)]
      · rw [if_neg o, if_neg (by omega)]
theorem cmpD_anti : ∀ (n : Nat) (x y : PyData), Fm n x → Fm n y → cmpD n y x = -cmpD n x y := by
  intro n
  induction n with
  | zero => rintro x y ⟨i, rfl⟩ ⟨j, rfl⟩; exact sgnI_swap i j
  | succ n ih =>
    intro x y hx hy
    have fx := hx
    have fy := hy
    rcases hx with ⟨i, rfl⟩ | ⟨xs, rfl, _, hx⟩ <;> rcases hy with ⟨j, rfl⟩ | ⟨ys, rfl, _, hy⟩
    · exact sgnI_swap i j
    · by_cases c : negD (.int i) = negD (.tuple ys)
      · rw [cmp_ix fx fy (fun h => by cases h.2) c rfl, cmp_iy fy fx (fun h => by cases h.1) c.symm (fun h => by cases h) rfl, c]
        split <;> rfl
      · rw [cmp_ne fx fy (fun h => by cases h.2) c, cmp_ne fy fx (fun h => by cases h.1) (Ne.symm c)]
        cases h1 : negD (.int i) <;> cases h2 : negD (.tuple ys) <;> first | exact absurd (h1.trans h2.symm) c | rfl
    · by_cases c : negD (.tuple xs) = negD (.int j)
      · rw [cmp_ix fy fx (fun h => by cases h.2) c.symm rfl, cmp_iy fx fy (fun h => by cases h.1) c (fun h => by cases h) rfl, c]
        split <;> rfl
      · rw [cmp_ne fx fy (fun h => by cases h.1) c, cmp_ne fy fx (fun h => by cases h.2) (Ne.symm c)]
        cases h1 : negD (.tuple xs) <;> cases h2 : negD (.int j) <;> first | exact absurd (h1.trans h2.symm) c | rfl
    · by_cases c : negD (.tuple xs) = negD (.tuple ys)
      · show (if negD (.tuple ys) = negD (.tuple xs) then lexD (cmpD n) ys.reverse xs.reverse else _) = -(if negD (.tuple xs) = negD (.tuple ys) then lexD (cmpD n) xs.reverse ys.reverse else _)
        rw [if_pos c, if_pos c.symm]
        have hl : xs.length % 2 = ys.length % 2 := by
          have := decide_eq_decide.mp (show decide (xs.length % 2 = 1) = decide (ys.length % 2 = 1) from c)
          omega
        exact lexD_anti (n := n) ih _ _ (fun z hz => hx z (List.mem_reverse.mp hz)) (fun z hz => hy z (List.mem_reverse.mp hz)) (by rw [List.length_reverse, List.length_reverse]; exact hl)
      · rw [cmp_ne fx fy (fun h => by cases h.1) c, cmp_ne fy fx (fun h => by cases h.1) (Ne.symm c)]
        cases h1 : negD (.tuple xs) <;> cases h2 : negD (.tuple ys) <;> first | exact absurd (h1.trans h2.symm) c | rfl
/-! ### maps that keep the order -/
structure Ord (n : Nat) (f : Int → PyData) (S : Int → Prop) : Prop where
  fm : ∀ a, S a → Fm n (f a)
  ord : ∀ a b, S a → S b → cmpD n (f a) (f b) = sgnI a b
theorem Ord.eqv {n : Nat} {f : Int → PyData} {S : Int → Prop} (o : Ord n f S) {a b : Int} (ha : S a) (hb : S b) : PyData.eqv (f a) (f b) = true ↔ a = b := by
  rw [eqv_fm (o.fm a ha) (o.fm b hb)]
  constructor
  · intro e
    have h := o.ord a b ha hb
    rw [e, cmpD_self (o.fm b hb)] at h
    by_cases c : a = b
    · exact c
    · rcases sgnI_pm c with k | k <;> omega
  · intro e; rw [e]
theorem Ord.lex {n : Nat} {f : Int → PyData} {S : Int → Prop} (o : Ord n f S) : ∀ l l' : List Int, (∀ a ∈ l, S a) → (∀ a ∈ l', S a) → lexD (cmpD n) (l.map f) (l'.map f) = lexR l l'
  | [], [], _, _ => rfl
  | [], _ :: _, _, _ => rfl
  | x :: xs, [], _, _ => by show par ((xs.map f).length + 1) 1 = par (xs.length + 1) 1; rw [List.length_map]
  | x :: xs, y :: ys, hx, hy => by
    have sx := hx x List.mem_cons_self
    have sy := hy y List.mem_cons_self
    show (if PyData.eqv (f x) (f y) = true then lexD (cmpD n) (xs.map f) (ys.map f) else par ((xs.map f).length + 1) (cmpD n (f x) (f y))) = if x = y then lexR xs ys else par (xs.length + 1) (sgnI x y)
    rw [List.length_map, o.ord x y sx sy]
    by_cases e : x = y
    · rw [if_pos ((o.eqv sx sy).mpr e), if_pos e, o.lex xs ys (fun a h => hx a (List.mem_cons_of_mem _ h)) (fun a h => hy a (List.mem_cons_of_mem _ h))]
    · rw [if_neg (fun h => e ((o.eqv sx sy).mp h)), if_neg e]
/-- .. and where near places are ints -/
structure OrdN (n : Nat) (f : Int → PyData) (S : Int → Prop) : Prop extends Ord n f S where
  pos : ∀ a, S a → 0 ≤ a
  near : ∀ a, S a → a ≤ 64 → f a = .int a
  far : ∀ a, S a → 64 < a → isNear (f a) = false
def rowF (f : Int → PyData) (l : List Int) : PyData := rowD (l.map f)
theorem zs_toNat {l : List Int} (h : ∀ a ∈ l, 0 ≤ a) : zs (l.map Int.toNat) = l := by
  unfold zs
  rw [List.map_map]
  conv => rhs; rw [← List.map_id l]
  refine List.map_congr_left fun a ha => ?_
  have := h a ha
  show ((a.toNat : Nat) : Int) = a
  omega
theorem asc_toNat {l : List Int} (h : ∀ a ∈ l, 0 ≤ a) (hp : l.Pairwise (· < ·)) : (l.map Int.toNat).Pairwise (· < ·) := by
  have e := zs_toNat h
  rw [← e] at hp
  unfold zs at hp
  exact (List.pairwise_map.mp hp).imp fun h => Int.ofNat_lt.mp h
theorem row_cases {n : Nat} {f : Int → PyData} {S : Int → Prop} (o : OrdN n f S) {l : List Int} (hs : ∀ a ∈ l, S a) (hp : l.Pairwise (· < ·)) :
    ((∀ a ∈ l, a ≤ 64) ∧ rowF f l = .int (alt (-1) (l.map Int.toNat))) ∨ ∃ m p, l = m ++ [p] ∧ 64 < p ∧ rowF f l = .tuple (l.map f) := by
  have near : (∀ a ∈ l, a ≤ 64) → rowF f l = .int (alt (-1) (l.map Int.toNat)) := fun all => by
    unfold rowF
    have e1 : l.map f = nD (l.map Int.toNat) := by
      unfold nD
      rw [List.map_map]
      refine List.map_congr_left fun a ha => ?_
      rw [o.near a (hs a ha) (all a ha)]
      have := o.pos a (hs a ha)
      show PyData.int a = .int ((a.toNat : Nat) : Int)
      congr 1
      omega
    rw [e1]
    cases hl : (nD (l.map Int.toNat)).getLast? with
    | none =>
      have : l.map Int.toNat = [] := by
        have := List.getLast?_eq_none_iff.mp hl
        unfold nD at this
        exact List.map_eq_nil_iff.mp this
      rw [this]
      rfl
    | some d =>
      obtain ⟨k, hk, rfl⟩ := List.mem_map.mp (List.mem_of_getLast? hl)
      obtain ⟨a, ha, rfl⟩ := List.mem_map.mp hk
      rw [rowD_near hl (decide_eq_true (by have := all a ha; omega))]
  rcases List.eq_nil_or_concat l with rfl | ⟨m, q, rfl⟩
  · left; exact ⟨fun a h => (by cases h), near fun a h => (by cases h)⟩
  · rw [List.concat_eq_append] at *
    by_cases c64 : q ≤ 64
    · left
      have all : ∀ a ∈ m ++ [q], a ≤ 64 := fun a ha => by
        rcases List.mem_append.mp ha with ha | ha
        · have := (List.pairwise_append.mp hp).2.2 a ha q List.mem_cons_self; omega
        · simp at ha; omega
      exact ⟨all, near all⟩
    · right
      refine ⟨m, q, rfl, by omega, ?_⟩
      unfold rowF
      refine rowD_far (d := f q) ?_ (o.far q (hs q (by simp)) (by omega))
      rw [List.map_append, List.map_singleton, List.getLast?_concat]
theorem row_fm {n : Nat} {f : Int → PyData} {S : Int → Prop} (o : OrdN n f S) {l : List Int} (hs : ∀ a ∈ l, S a) (hp : l.Pairwise (· < ·)) (hl : l.length ≤ 9000) : Fm (n + 1) (rowF f l) := by
  rcases row_cases o hs hp with ⟨_, e⟩ | ⟨m, p, _, _, e⟩
  · rw [e]; exact Fm.int _
  · rw [e]
    refine .inr ⟨_, rfl, by rw [List.length_map]; exact hl, fun x hx => ?_⟩
    obtain ⟨a, ha, rfl⟩ := List.mem_map.mp hx
    exact o.fm a (hs a ha)
theorem row_neg {n : Nat} {f : Int → PyData} {S : Int → Prop} (o : OrdN n f S) {l : List Int} (hs : ∀ a ∈ l, S a) (hp : l.Pairwise (· < ·)) : negD (rowF f l) = decide (l.length % 2 = 1) := by
  rcases row_cases o hs hp with ⟨_, e⟩ | ⟨m, p, _, _, e⟩
  · rw [e]
    have := alt_par (asc_toNat (fun a ha => o.pos a (hs a ha)) hp)
    rw [List.length_map] at this
    show decide (alt (-1) (l.map Int.toNat) < 0) = _
    refine decide_eq_decide.mpr ⟨fun h => ?_, fun h => this.1 h⟩
    by_cases c : l.length % 2 = 1
    · exact c
    · have := this.2 (by omega); omega
  · rw [e]
    show decide ((l.map f).length % 2 = 1) = _
    rw [List.length_map]
theorem row_ord {n : Nat} {f : Int → PyData} {S : Int → Prop} (o : OrdN n f S) {l l' : List Int} (hs : ∀ a ∈ l, S a) (hs' : ∀ a ∈ l', S a) (hp : l.Pairwise (· < ·)) (hp' : l'.Pairwise (· < ·)) (hl : l.length ≤ 9000) (hl' : l'.length ≤ 9000) :
    cmpD (n + 1) (rowF f l) (rowF f l') = cmpS l l' := by
  have fx := row_fm o hs hp hl
  have fy := row_fm o hs' hp' hl'
  have nx := row_neg o hs hp
  have ny := row_neg o hs' hp'
  rcases row_cases o hs hp with ⟨a1, e⟩ | ⟨m, p, el, p64, e⟩ <;> rcases row_cases o hs' hp' with ⟨a2, e'⟩ | ⟨m', p', el', p64', e'⟩
  · rw [e, e']
    show sgnI _ _ = _
    have h := cmpS_alt (asc_toNat (fun a ha => o.pos a (hs a ha)) hp) (asc_toNat (fun a ha => o.pos a (hs' a ha)) hp')
    rw [zs_toNat (fun a ha => o.pos a (hs a ha)), zs_toNat (fun a ha => o.pos a (hs' a ha))] at h
    exact h.symm
  · have hno : ¬ (isI (rowF f l) = true ∧ isI (rowF f l') = true) := by rw [e, e']; exact fun h => by cases h.2
    have ix : isI (rowF f l) = true := by rw [e]; rfl
    unfold cmpS
    by_cases c : l.length % 2 = l'.length % 2
    · rw [if_neg (by omega), cmp_ix fx fy hno (by rw [nx, ny]; exact decide_eq_decide.mpr (by omega)) ix, nx]
      subst el'
      rw [List.reverse_append]
      rcases List.eq_nil_or_concat l with rfl | ⟨k, q, rfl⟩
      · rfl
      · rw [List.concat_eq_append] at *
        rw [List.reverse_append]
        have q64 := a1 q (by simp)
        have hr : lexR ([q].reverse ++ k.reverse) ([p'].reverse ++ m'.reverse) = par (k.length + 1) (-1) := by
          show (if q = p' then lexR k.reverse m'.reverse else par (k.reverse.length + 1) (sgnI q p')) = _
          rw [if_neg (show ¬ q = p' by omega), sgnI_lt (show q < p' by omega), List.length_reverse]
        rw [hr, show (k ++ [q]).length = k.length + 1 by simp]
        unfold par
        by_cases od : (k.length + 1) % 2 = 1
        · rw [if_pos od, decide_eq_true od, if_pos rfl]; rfl
        · rw [if_neg od, decide_eq_false od, if_neg Bool.false_ne_true]
    · rw [if_pos c, cmp_ne fx fy hno (by rw [nx, ny]; exact fun h => c (by have := decide_eq_decide.mp h; omega)), nx]
      by_cases od : l.length % 2 = 1
      · rw [if_pos od, decide_eq_true od, if_pos rfl]
      · rw [if_neg od, decide_eq_false od, if_neg Bool.false_ne_true]
  · have hno : ¬ (isI (rowF f l) = true ∧ isI (rowF f l') = true) := by rw [e, e']; exact fun h => by cases h.1
    have ix : ¬ isI (rowF f l) = true := by rw [e]; exact fun h => by cases h
    have iy : isI (rowF f l') = true := by rw [e']; rfl
    unfold cmpS
    by_cases c : l.length % 2 = l'.length % 2
    · rw [if_neg (by omega), cmp_iy fx fy hno (by rw [nx, ny]; exact decide_eq_decide.mpr (by omega)) ix iy, nx]
      subst el
      rw [List.reverse_append]
      rcases List.eq_nil_or_concat l' with rfl | ⟨k, q, rfl⟩
      · have hr : lexR ([p].reverse ++ m.reverse) ([] : List Int).reverse = par (m.length + 1) 1 := by
          show par (m.reverse.length + 1) 1 = _
          rw [List.length_reverse]
        have c' : ¬ (m.length + 1) % 2 = 1 := by simp at c; omega
        rw [hr, show (m ++ [p]).length = m.length + 1 by simp]
        unfold par
        rw [if_neg c', decide_eq_false c', if_neg Bool.false_ne_true]
      · rw [List.concat_eq_append] at *
        rw [List.reverse_append]
        have q64 := a2 q (by simp)
        have hr : lexR ([p].reverse ++ m.reverse) ([q].reverse ++ k.reverse) = par (m.length + 1) 1 := by
          show (if p = q then lexR m.reverse k.reverse else par (m.reverse.length + 1) (sgnI p q)) = _
          rw [if_neg (show ¬ p = q by omega), sgnI_gt (show q < p by omega), List.length_reverse]
        rw [hr, show (m ++ [p]).length = m.length + 1 by simp]
        unfold par
        by_cases od : (m.length + 1) % 2 = 1
        · rw [if_pos od, decide_eq_true od, if_pos rfl]
        · rw [if_neg od, decide_eq_false od, if_neg Bool.false_ne_true]
    · rw [if_pos c, cmp_ne fx fy hno (by rw [nx, ny]; exact fun h => c (by have := decide_eq_decide.mp h; omega)), nx]
      by_cases od : l.length % 2 = 1
      · rw [if_pos od, decide_eq_true od, if_pos rfl]
      · rw [if_neg od, decide_eq_false od, if_neg Bool.false_ne_true]
  · unfold cmpS
    rw [e] at nx ⊢
    rw [e'] at ny ⊢
    show (if negD (.tuple (l.map f)) = negD (.tuple (l'.map f)) then lexD (cmpD n) (l.map f).reverse (l'.map f).reverse else (if negD (.tuple (l.map f)) = true then -1 else 1)) = _
    rw [nx, ny]
    by_cases c : l.length % 2 = l'.length % 2
    · rw [if_pos (decide_eq_decide.mpr (by omega)), if_neg (by omega), ← List.map_reverse, ← List.map_reverse]
      exact o.toOrd.lex _ _ (fun a h => hs a (List.mem_reverse.mp h)) (fun a h => hs' a (List.mem_reverse.mp h))
    · rw [if_neg (fun h => c (by have := decide_eq_decide.mp h; omega)), if_pos c]
      by_cases od : l.length % 2 = 1
      · rw [if_pos od, decide_eq_true od, if_pos rfl]
      · rw [if_neg od, decide_eq_false od, if_neg Bool.false_ne_true]
end Fb
namespace Fb
open PySem L2
/-! ### forms of ints -/
theorem ordN_int (n : Nat) : OrdN n PyData.int (fun a => 0 ≤ a) :=
  { fm := fun a _ => Fm.int a, ord := fun a b _ _ => by cases n <;> rfl, pos := fun a h => h, near := fun a _ _ => rfl, far := fun a _ h => decide_eq_false (by omega) }
theorem zs_pos {l : List Nat} : ∀ a ∈ zs l, 0 ≤ a := fun a h => by
  obtain ⟨n, _, rfl⟩ := List.mem_map.mp h
  show (0 : Int) ≤ ((n : Nat) : Int)
  omega
theorem zs_asc {l : List Nat} (h : l.Pairwise (· < ·)) : (zs l).Pairwise (· < ·) := List.pairwise_map.mpr (h.imp fun h => Int.ofNat_lt.mpr h)
theorem zs_nat (l : List Nat) : (zs l).map Int.toNat = l := by
  unfold zs
  rw [List.map_map]
  conv => rhs; rw [← List.map_id l]
  exact List.map_congr_left fun a _ => rfl
/-- an int is plain exactly if no turn is above 64 -/
theorem plain_iff (x : Int) : plain x ↔ ∀ p ∈ turnsN x, p ≤ 64 := by
  constructor
  · intro h; exact turns_lt (n := 64) h.1 h.2
  · intro h
    have e := turns_alt x
    have asc := turns_asc x
    rcases List.eq_nil_or_concat (turnsN x) with h0 | ⟨m, p, h0⟩
    · rw [h0] at e
      have : x = 0 := e.symm
      subst this
      decide
    · rw [List.concat_eq_append] at h0
      rw [h0] at e asc h
      obtain ⟨v, v1, v2, v3, _, _, v6⟩ := alt_size asc
      rw [v1] at e
      have hp := p_le (h p (by simp))
      rcases flip_pm (s := -1) (.inr rfl) m.length with f | f
      · have hm : 1 ≤ m.length := by
          by_cases z : m.length = 0
          · rw [z] at f; cases f
          · omega
        have := v3 hm
        rw [f] at e
        constructor <;> omega
      · have : v ≤ 2 ^ p := by
          by_cases z : m.length = 0
          · have := v2 z; omega
          · have := v3 (by omega); omega
        rw [f] at e
        constructor <;> omega
theorem form_row (x : Int) : formD x = rowF PyData.int (zs (turnsN x)) := by
  rcases row_cases (ordN_int 0) (l := zs (turnsN x)) zs_pos (zs_asc (turns_asc x)) with ⟨all, e⟩ | ⟨m, p, el, p64, e⟩
  · have hp : plain x := (plain_iff x).mpr fun p hp => by have := all (p : Int) (List.mem_map.mpr ⟨p, hp, rfl⟩); omega
    rw [e, zs_nat, turns_alt]
    unfold formD
    rw [if_pos hp]
  · have hp : ¬ plain x := fun h => by
      have hpm : p ∈ zs (turnsN x) := by rw [el]; simp
      obtain ⟨q, hq, rfl⟩ := List.mem_map.mp hpm
      have := (plain_iff x).mp h q hq
      have : (64 : Int) < ((q : Nat) : Int) := p64
      omega
    rw [e]
    unfold formD
    rw [if_neg hp]
    congr 1
    unfold nD zs
    rw [List.map_map]
    rfl
theorem form_ord {n : Nat} {x y : Int} (hx : (turnsN x).length ≤ 9000) (hy : (turnsN y).length ≤ 9000) : cmpD (n + 1) (formD x) (formD y) = sgnI x y := by
  rw [form_row, form_row, row_ord (ordN_int n) zs_pos zs_pos (zs_asc (turns_asc x)) (zs_asc (turns_asc y)) (by rw [len_zs]; exact hx) (by rw [len_zs]; exact hy), cmpS_turns]
theorem even_turns {x : Int} (h : 0 ≤ x) : (turnsN x).length % 2 = 0 := by
  have := (alt_par (turns_asc x)).1
  rw [turns_alt] at this
  by_cases c : (turnsN x).length % 2 = 1
  · have := this c; omega
  · omega
/-! ### places -/
theorem lexD_app {n : Nat} (c : PyData → PyData → Int) : ∀ (t xs ys : List PyData), (∀ x ∈ t, Fm n x) → lexD c (t ++ xs) (t ++ ys) = lexD c xs ys
  | [], _, _, _ => rfl
  | x :: t, xs, ys, h => by
    show (if PyData.eqv x x = true then lexD c (t ++ xs) (t ++ ys) else _) = _
    rw [if_pos ((eqv_fm (h x List.mem_cons_self) (h x List.mem_cons_self)).mpr rfl)]
    exact lexD_app c t xs ys fun y hy => h y (List.mem_cons_of_mem _ hy)
/-- two tuples with the same upper places -/
theorem same_field {n : Nat} {s t : Int} {ts : List PyData} (hs : 0 ≤ s) (ht : 0 ≤ t) (hts : ∀ x ∈ ts, Fm n x) (hev : ts.length % 2 = 0) : cmpD (n + 1) (.tuple (nD (turnsN s) ++ ts)) (.tuple (nD (turnsN t) ++ ts)) = sgnI s t := by
  have es := even_turns hs
  have et := even_turns ht
  show (if negD (.tuple (nD (turnsN s) ++ ts)) = negD (.tuple (nD (turnsN t) ++ ts)) then lexD (cmpD n) (nD (turnsN s) ++ ts).reverse (nD (turnsN t) ++ ts).reverse else _) = _
  have n1 : ∀ l : List Nat, l.length % 2 = 0 → negD (.tuple (nD l ++ ts)) = false := fun l hl => decide_eq_false (by rw [List.length_append, len_nD]; omega)
  rw [n1 _ es, n1 _ et, if_pos rfl, List.reverse_append, List.reverse_append, lexD_app (n := n) _ _ _ _ (fun x h => hts x (List.mem_reverse.mp h))]
  have e : ∀ l : List Nat, (nD l).reverse = (zs l).reverse.map PyData.int := fun l => by
    rw [← List.map_reverse.symm]
    congr 1
    unfold nD zs
    rw [List.map_map]
    rfl
  rw [e, e, (ordN_int n).toOrd.lex _ _ (fun a h => zs_pos a (List.mem_reverse.mp h)) (fun a h => zs_pos a (List.mem_reverse.mp h))]
  have := cmpS_turns s t
  unfold cmpS at this
  rw [len_zs, len_zs, if_neg (by omega)] at this
  exact this
/-- a tuple whose last place is greater -/
theorem last_less {n : Nat} {xs ys : List PyData} {a b : PyData} (hx : xs.length % 2 = 0) (hy : ys.length % 2 = 0) (ex : xs.getLast? = some a) (ey : ys.getLast? = some b) (fa : Fm n a) (fb : Fm n b) (hab : cmpD n a b = -1) :
    cmpD (n + 1) (.tuple xs) (.tuple ys) = -1 := by
  show (if negD (.tuple xs) = negD (.tuple ys) then lexD (cmpD n) xs.reverse ys.reverse else _) = -1
  have n1 : ∀ l : List PyData, l.length % 2 = 0 → negD (.tuple l) = false := fun l hl => decide_eq_false (by omega)
  rw [n1 _ hx, n1 _ hy, if_pos rfl]
  obtain ⟨m, rfl⟩ := List.getLast?_eq_some_iff.mp ex
  obtain ⟨k, rfl⟩ := List.getLast?_eq_some_iff.mp ey
  rw [List.reverse_append, List.reverse_append]
  show (if PyData.eqv a b = true then lexD (cmpD n) m.reverse k.reverse else par (m.reverse.length + 1) (cmpD n a b)) = -1
  have ne : ¬ PyData.eqv a b = true := fun h => by
    rw [(eqv_fm fa fb).mp h, cmpD_self fb] at hab
    cases hab
  rw [if_neg ne, hab, List.length_reverse]
  rw [List.length_append, List.length_singleton] at hx
  unfold par
  rw [if_neg (by omega)]
theorem int_less {n : Nat} {i : Int} {ys : List PyData} (h0 : 0 ≤ i) (hy : ys.length % 2 = 0) : cmpD (n + 1) (.int i) (.tuple ys) = -1 := by
  have n1 : negD (.tuple ys) = false := decide_eq_false (by omega)
  have n2 : negD (.int i) = false := decide_eq_false (by omega)
  show (if negD (.int i) = negD (.tuple ys) then (if negD (.int i) = true then 1 else -1) else _) = -1
  rw [n1, n2, if_pos rfl, if_neg Bool.false_ne_true]
/-- what the fields' tuples are, for the order -/
structure Top2 (ts : List PyData) : Prop where
  ev : ts.length % 2 = 0
  fm : ∀ x ∈ ts, Fm 0 x
  la : ∃ i : Int, ts.getLast? = some (.int i) ∧ 200 ≤ i
structure Top3 (ts : List PyData) : Prop where
  ev : ts.length % 2 = 0
  fm : ∀ x ∈ ts, Fm 2 x
  la : ∃ us : List PyData, ts.getLast? = some (.tuple us) ∧ us.length % 2 = 0
theorem f2_top {low g : Int} {f2 : PyData} (hl : 200 ≤ low) (hg : 0 ≤ g) (h : F2 low g f2) : ∃ ts, f2 = .tuple ts ∧ Top2 ts := by
  rcases h with ⟨d, d0, _, rfl⟩ | ⟨d, d0, _, rfl⟩
  · refine ⟨_, rfl, (by simp), fun x hx => ?_, low + 1 + d, rfl, by omega⟩
    simp at hx; rcases hx with rfl | rfl <;> exact ⟨_, rfl⟩
  · refine ⟨_, rfl, (by simp), fun x hx => ?_, low + 11 + 2 * g + d, rfl, by omega⟩
    simp at hx; rcases hx with rfl | rfl | rfl | rfl <;> exact ⟨_, rfl⟩
theorem f3_top {g : Int} {t2 : List PyData} {f3 : PyData} (k2 : Top2 t2) (hl : t2.length ≤ 50) (h : F3 g (.tuple t2) f3) : ∃ ts, f3 = .tuple ts ∧ Top3 ts := by
  have f1 : Fm 1 (.tuple t2) := .inr ⟨_, rfl, by omega, k2.fm⟩
  have f2 : Fm 2 (.tuple t2) := f1.succ
  rcases h with rfl | ⟨e, ts, _, _, et, rfl⟩ | rfl
  · refine ⟨_, rfl, (by simp), fun x hx => ?_, t2, rfl, k2.ev⟩
    simp at hx; rcases hx with rfl | rfl
    · exact Fm.int _
    · exact f2
  · cases et
    refine ⟨_, rfl, (by simp), fun x hx => ?_, _, rfl, by show (t2.length + 1 + 1) % 2 = 0; have := k2.ev; omega⟩
    simp at hx; rcases hx with rfl | rfl
    · exact f2
    · refine .inr ⟨_, rfl, by show t2.length + 1 + 1 ≤ 9000; omega, fun x hx => ?_⟩
      rcases List.mem_cons.mp hx with rfl | hx
      · exact Fm.int _
      · rcases List.mem_cons.mp hx with rfl | hx
        · exact Fm.int _
        · exact (k2.fm x hx).succ
  · refine ⟨_, rfl, (by simp), fun x hx => ?_, _, rfl, (by simp)⟩
    simp at hx; rcases hx with rfl | rfl | rfl | rfl
    · exact Fm.int _
    · exact Fm.int _
    · exact f2
    · refine .inr ⟨_, rfl, by show 2 ≤ 9000; decide, fun x hx => ?_⟩
      simp at hx; rcases hx with rfl | rfl
      · exact Fm.int _
      · exact f1
def Pl (a : Int) : Prop := 0 ≤ a ∧ a < 800 ∧ a % 200 < 64
/-- the last of a form's turns is small -/
theorem form_small {x : Int} (h0 : 0 ≤ x) (h1 : x < 2 ^ 65) : formD x = .int x ∨ ∃ m p, formD x = .tuple (nD (m ++ [p])) ∧ p ≤ 65 ∧ (m ++ [p]).length % 2 = 0 := by
  unfold formD
  by_cases c : plain x
  · left; rw [if_pos c]
  · right
    rw [if_neg c]
    have ev := even_turns h0
    have le := turns_lt (x := x) (n := 65) (by omega) h1
    rcases List.eq_nil_or_concat (turnsN x) with h | ⟨m, p, h⟩
    · have e := turns_alt x
      rw [h] at e
      have : x = 0 := e.symm
      subst this
      exact absurd (by decide) c
    · rw [List.concat_eq_append] at h
      rw [h] at ev le ⊢
      exact ⟨m, p, rfl, le p (by simp), ev⟩
theorem place_le {fs : List PyData} (F : Fields fs) {p q : Nat} (hp : Pl p) (hq : Pl q) (h : p < q) : cmpD 3 (placeD fs p) (placeD fs q) = -1 := by
  obtain ⟨a, low, g, f2, f3, rfl, a0, a1, l0, l1, g0, g1, k2, k3⟩ := F.ex
  obtain ⟨_, p1, p2⟩ := hp
  obtain ⟨_, q1, q2⟩ := hq
  obtain ⟨t2, rfl, o2⟩ := f2_ok (n := 0) k2
  obtain ⟨t2', e2, m2⟩ := f2_top l0 (by omega) k2
  cases e2
  obtain ⟨t3, rfl, m3⟩ := f3_top m2 o2.1 k3
  have len : ∀ s : Nat, s < 200 → (turnsN ((s : Nat) : Int)).length ≤ 9000 := fun s hs => by
    have := turns_len (x := ((s : Nat) : Int)) (n := 10) (by omega) (by omega); omega
  have lenf : ∀ x : Int, 0 ≤ x → x < 2 ^ 65 → (turnsN x).length ≤ 9000 := fun x h0 h1 => by
    have := turns_len (x := x) (n := 65) (by omega) h1; omega
  have pl0 : ∀ r : Nat, r < 200 → placeD [.int 0, .int a, .tuple t2, .tuple t3] r = formD (r : Int) := fun r hr => by
    rw [place0 F hr]; unfold formD; rw [if_pos (by constructor <;> omega)]
  have pl1 : ∀ r : Nat, 200 ≤ r → r < 400 → placeD [.int 0, .int a, .tuple t2, .tuple t3] r = formD (a + ((r % 200 : Nat) : Int)) := fun r h1 h2 => by
    unfold placeD; rw [show r / 200 = 1 by omega]; rfl
  have pl2 : ∀ r : Nat, 400 ≤ r → r < 600 → placeD [.int 0, .int a, .tuple t2, .tuple t3] r = .tuple (nD (turnsN ((r % 200 : Nat) : Int)) ++ t2) := fun r h1 h2 => by
    unfold placeD; rw [show r / 200 = 2 by omega]; rfl
  have pl3 : ∀ r : Nat, 600 ≤ r → r < 800 → placeD [.int 0, .int a, .tuple t2, .tuple t3] r = .tuple (nD (turnsN ((r % 200 : Nat) : Int)) ++ t3) := fun r h1 h2 => by
    unfold placeD; rw [show r / 200 = 3 by omega]; rfl
  have ev : ∀ (r : Nat) (ts : List PyData), ts.length % 2 = 0 → (nD (turnsN ((r % 200 : Nat) : Int)) ++ ts).length % 2 = 0 := fun r ts h => by
    have := even_turns (x := ((r % 200 : Nat) : Int)) (by omega)
    rw [List.length_append, len_nD]; omega
  have la : ∀ (r : Nat) (ts : List PyData) (d : PyData), ts.getLast? = some d → (nD (turnsN ((r % 200 : Nat) : Int)) ++ ts).getLast? = some d := fun r ts d h => by
    rw [List.getLast?_append, h]; rfl
  obtain ⟨i2, e2, i200⟩ := m2.la
  obtain ⟨us, e3, uev⟩ := m3.la
  have fus : Fm 2 (.tuple us) := m3.fm _ (List.mem_of_getLast? e3)
  -- an int's form against a tuple that lies above
  have low23 : ∀ (x : Int) (r : Nat), 0 ≤ x → x < 2 ^ 65 → cmpD 3 (formD x) (.tuple (nD (turnsN ((r % 200 : Nat) : Int)) ++ t2)) = -1 ∧ cmpD 3 (formD x) (.tuple (nD (turnsN ((r % 200 : Nat) : Int)) ++ t3)) = -1 := fun x r h0 h1 => by
    rcases form_small h0 h1 with e | ⟨m, p, e, p65, pev⟩
    · rw [e]
      exact ⟨int_less h0 (ev r t2 m2.ev), int_less h0 (ev r t3 m3.ev)⟩
    · rw [e]
      have el : (nD (m ++ [p])).getLast? = some (.int (p : Int)) := by unfold nD; rw [List.map_append]; exact List.getLast?_concat ..
      have elv : (nD (m ++ [p])).length % 2 = 0 := by rw [len_nD]; exact pev
      refine ⟨last_less elv (ev r t2 m2.ev) el (la r t2 _ e2) (Fm.int _) (Fm.int _) (sgnI_lt (by omega)), last_less elv (ev r t3 m3.ev) el (la r t3 _ e3) (Fm.int _) fus (int_less (by omega) uev)⟩
  by_cases c1 : p < 200
  · by_cases d1 : q < 200
    · rw [pl0 p c1, pl0 q d1, form_ord (len p c1) (len q d1), sgnI_lt (by omega)]
    · by_cases d2 : q < 400
      · rw [pl0 p c1, pl1 q (by omega) d2, form_ord (len p c1) (lenf _ (by omega) (by omega)), sgnI_lt (by omega)]
      · by_cases d3 : q < 600
        · rw [pl0 p c1, pl2 q (by omega) d3]; exact (low23 p q (by omega) (by omega)).1
        · rw [pl0 p c1, pl3 q (by omega) (by omega)]; exact (low23 p q (by omega) (by omega)).2
  · by_cases c2 : p < 400
    · rw [pl1 p (by omega) c2]
      by_cases d2 : q < 400
      · rw [pl1 q (by omega) d2, form_ord (lenf _ (by omega) (by omega)) (lenf _ (by omega) (by omega)), sgnI_lt (by omega)]
      · by_cases d3 : q < 600
        · rw [pl2 q (by omega) d3]; exact (low23 _ q (by omega) (by omega)).1
        · rw [pl3 q (by omega) (by omega)]; exact (low23 _ q (by omega) (by omega)).2
    · by_cases c3 : p < 600
      · rw [pl2 p (by omega) c3]
        by_cases d3 : q < 600
        · rw [pl2 q (by omega) d3, same_field (n := 2) (by omega) (by omega) (fun x h => (m2.fm x h).mono (by decide)) m2.ev, sgnI_lt (by omega)]
        · rw [pl3 q (by omega) (by omega)]
          exact last_less (ev p t2 m2.ev) (ev q t3 m3.ev) (la p t2 _ e2) (la q t3 _ e3) (Fm.int _) fus (int_less (by omega) uev)
      · rw [pl3 p (by omega) (by omega), pl3 q (by omega) (by omega), same_field (n := 2) (by omega) (by omega) m3.fm m3.ev, sgnI_lt (by omega)]
theorem ordN_place {fs : List PyData} (F : Fields fs) : OrdN 3 (fun a => placeD fs a.toNat) Pl := by
  have lift : ∀ a, Pl a → ((a.toNat : Nat) : Int) = a := fun a h => by have := h.1; omega
  refine { fm := fun a h => ?_, ord := fun a b ha hb => ?_, pos := fun a h => h.1, near := fun a h h64 => ?_, far := fun a h h64 => ?_ }
  · have := h.1; have := h.2.1
    exact place_fm F (by omega)
  · have la := lift a ha
    have lb := lift b hb
    have a8 := ha.2.1
    have b8 := hb.2.1
    rcases Int.lt_trichotomy a b with c | c | c
    · rw [sgnI_lt c]
      exact place_le F (by rw [la]; exact ha) (by rw [lb]; exact hb) (by omega)
    · subst c
      rw [sgnI_self]
      exact cmpD_self (place_fm F (by omega))
    · rw [sgnI_gt c, cmpD_anti 3 (placeD fs b.toNat) (placeD fs a.toNat) (place_fm F (by omega)) (place_fm F (by omega)), place_le F (by rw [lb]; exact hb) (by rw [la]; exact ha) (by omega)]
      rfl
  · show placeD fs a.toNat = .int a
    rw [place0 F (by omega), lift a h]
  · obtain ⟨hp, _, k⟩ := places F 0
    have := h.2.1
    exact (k a.toNat (by omega)).2.2 (by omega)
/-! ### moved codes -/
theorem alt_append (s : Int) (l l' : List Nat) : alt s (l ++ l') = alt s l + alt (flip s l.length) l' := by
  induction l generalizing s with
  | nil => show alt s l' = 0 + alt s l'; omega
  | cons p l ih =>
    show s * 2 ^ p + alt (-s) (l ++ l') = s * 2 ^ p + alt (-s) l + alt (flip (-s) l.length) l'
    rw [ih]; omega
theorem alt_shift (k : Nat) (s : Int) (l : List Nat) : alt s (l.map (· + k)) = 2 ^ k * alt s l := by
  induction l generalizing s with
  | nil => show (0 : Int) = 2 ^ k * 0; omega
  | cons p l ih =>
    show s * 2 ^ (p + k) + alt (-s) (l.map (· + k)) = 2 ^ k * (s * 2 ^ p + alt (-s) l)
    rw [ih, Int.pow_add, Int.mul_add, Int.mul_comm (2 ^ k) (s * 2 ^ p), Int.mul_assoc]
theorem flip_even {s : Int} {n : Nat} (h : n % 2 = 0) : flip s n = s := by rw [flip_eq]; unfold par; rw [if_neg (by omega)]
/-- the turns of two groups of bits -/
theorem turns_two {a b : Int} {k : Nat} (ha : 0 ≤ a) (hb : 0 ≤ b) (hk : ∀ p ∈ turnsN a, p < k) : turnsN (a + b * 2 ^ k) = turnsN a ++ (turnsN b).map (· + k) := by
  have asc : (turnsN a ++ (turnsN b).map (· + k)).Pairwise (· < ·) := by
    rw [List.pairwise_append]
    refine ⟨turns_asc a, List.pairwise_map.mpr ((turns_asc b).imp fun h => by omega), fun p hp q hq => ?_⟩
    obtain ⟨r, _, rfl⟩ := List.mem_map.mp hq
    have := hk p hp
    omega
  rw [← turns_of_alt asc, alt_append, turns_alt, flip_even (even_turns ha), alt_shift, turns_alt, Int.mul_comm b]
theorem digit_turns {d : Int} (h0 : 0 ≤ d) (h1 : d < 2 ^ 60) : ∀ p ∈ turnsN d, p < 64 := fun p hp => by
  have := turns_lt (x := d) (n := 60) (by omega) h1 p hp; omega
/-- the turns of a code lie in its groups -/
theorem code_places {m : Nat} {c : Int} (h : CodeB m (2 ^ 60) c) : ∀ p ∈ turnsN c, Pl p := by
  obtain ⟨d, rfl, h2, _⟩ := h
  have t0 := digit_turns (h2 0).1 (h2 0).2
  have t1 := digit_turns (h2 1).1 (h2 1).2
  have t2 := digit_turns (h2 2).1 (h2 2).2
  have t3 := digit_turns (h2 3).1 (h2 3).2
  have n3 : 0 ≤ d 2 + d 3 * 2 ^ 200 := by have := (h2 2).1; have := (h2 3).1; omega
  have n2 : 0 ≤ d 1 + (d 2 + d 3 * 2 ^ 200) * 2 ^ 200 := by have := (h2 1).1; omega
  have e : val4 d = d 0 + (d 1 + (d 2 + d 3 * 2 ^ 200) * 2 ^ 200) * 2 ^ 200 := by unfold val4; omega
  rw [e, turns_two (h2 0).1 n2 (fun p hp => by have := t0 p hp; omega), turns_two (h2 1).1 n3 (fun p hp => by have := t1 p hp; omega), turns_two (h2 2).1 (h2 3).1 (fun p hp => by have := t2 p hp; omega)]
  intro p hp
  simp only [List.mem_append, List.map_append, List.mem_map] at hp
  rcases hp with hp | ⟨q, hq, rfl⟩ | ⟨q, ⟨r, hr, rfl⟩ , rfl⟩ | ⟨q, ⟨r, ⟨u, hu, rfl⟩, rfl⟩, rfl⟩
  · have := t0 p hp; exact ⟨by omega, by omega, by omega⟩
  · have := t1 q hq; exact ⟨by omega, by omega, by omega⟩
  · have := t2 r hr; exact ⟨by omega, by omega, by omega⟩
  · have := t3 u hu; exact ⟨by omega, by omega, by omega⟩
def Cd (c : Int) : Prop := CodeB 4 (2 ^ 60) c
theorem moved_row (fs : List PyData) (c : Int) : movedD fs c = rowF (fun a => placeD fs a.toNat) (zs (turnsN c)) := by
  unfold movedD rowF zs
  rw [List.map_map]
  rfl
theorem Cd.b {c : Int} (h : Cd c) : 0 ≤ c ∧ c < 2 ^ 799 := code_799 h (by decide) (by decide) (Int.le_refl _)
theorem ordN_moved {fs : List PyData} (F : Fields fs) : OrdN 4 (movedD fs) Cd := by
  have o := ordN_place F
  have pl : ∀ c, Cd c → ∀ a ∈ zs (turnsN c), Pl a := fun c h a ha => by
    obtain ⟨p, hp, rfl⟩ := List.mem_map.mp ha
    exact code_places h p hp
  have le : ∀ c, Cd c → (zs (turnsN c)).length ≤ 9000 := fun c h => by
    rw [len_zs]
    have := len_turns h.b.1 h.b.2
    omega
  refine { fm := fun c h => ?_, ord := fun c c' h h' => ?_, pos := fun c h => h.b.1, near := fun c h h64 => small_moved F h.b.1 h64, far := fun c h h64 => ?_ }
  · rw [moved_row]
    exact row_fm o (pl c h) (zs_asc (turns_asc c)) (le c h)
  · show cmpD 4 (movedD fs c) (movedD fs c') = _
    rw [moved_row, moved_row, row_ord o (pl c h) (pl c' h') (zs_asc (turns_asc c)) (zs_asc (turns_asc c')) (le c h) (le c' h'), cmpS_turns]
  · obtain ⟨hm, _, k⟩ := moveds F 0
    have := (k c h.b.1 h.b.2).2.2
    by_cases e : isNear (movedD fs c) = true
    · have := this e; omega
    · exact Bool.eq_false_iff.mpr e
/-- the order of numbers made of codes -/
theorem codes_ord {fs : List PyData} (F : Fields fs) {l l' : List Int} (hs : ∀ c ∈ l, Cd c) (hs' : ∀ c ∈ l', Cd c) (hp : l.Pairwise (· < ·)) (hp' : l'.Pairwise (· < ·)) (hl : l.length ≤ 2000) (hl' : l'.length ≤ 2000) :
    cmpD 5 (codesD fs l) (codesD fs l') = cmpS l l' ∧ Fm 5 (codesD fs l) ∧ Fm 5 (codesD fs l') :=
  ⟨row_ord (ordN_moved F) hs hs' hp hp' (by omega) (by omega), row_fm (ordN_moved F) hs hp (by omega), row_fm (ordN_moved F) hs' hp' (by omega)⟩
theorem lexR_self : ∀ l : List Int, lexR l l = 0
  | [] => rfl
  | x :: xs => by show (if x = x then lexR xs xs else _) = 0; rw [if_pos rfl, lexR_self xs]
theorem cmpS_self (l : List Int) : cmpS l l = 0 := by unfold cmpS; rw [if_neg (fun h => h rfl), lexR_self]
theorem lexR_anti : ∀ l l' : List Int, l.length % 2 = l'.length % 2 → lexR l' l = -lexR l l'
  | [], [], _ => rfl
  | [], y :: ys, h => by
    show par (ys.length + 1) 1 = -(-1)
    unfold par; rw [if_neg (by simp at h; omega)]; rfl
  | x :: xs, [], h => by
    show (-1 : Int) = -par (xs.length + 1) 1
    unfold par; rw [if_neg (by simp at h; omega)]
  | x :: xs, y :: ys, h => by
    have hl : xs.length % 2 = ys.length % 2 := by simp at h; omega
    show (if y = x then lexR ys xs else par (ys.length + 1) (sgnI y x)) = -(if x = y then lexR xs ys else par (xs.length + 1) (sgnI x y))
    by_cases e : x = y
    · rw [if_pos e, if_pos e.symm, lexR_anti xs ys hl]
    · rw [if_neg e, if_neg (Ne.symm e), sgnI_swap, par_neg]
      unfold par
      by_cases o : (xs.length + 1) % 2 = 1
      · rw [if_pos o, if_pos (by omega)]
      · rw [if_neg o, if_neg (by omega)]
theorem cmpS_anti (l l' : List Int) : cmpS l' l = -cmpS l l' := by
  unfold cmpS
  by_cases c : l.length % 2 = l'.length % 2
  · rw [if_neg (by omega), if_neg (by omega), lexR_anti]
    rw [List.length_reverse, List.length_reverse]; exact c
  · rw [if_pos c, if_pos (Ne.symm c)]
    by_cases o : l.length % 2 = 1
    · rw [if_pos o, if_neg (by omega)]; rfl
    · rw [if_neg o, if_pos (by omega)]
end Fb
namespace Fb
open PySem L2
def top (i : Nat) : Stmt := PySem.Challenge.pw_farbits_k32_signed_sums_in_any_order.main.body.getD i (.Pass ⟨0, 0, 0, 0⟩)
theorem shaped_fm {n : Nat} {d : PyData} (h : Fm n d) (hn : n ≤ 40) : SeqAt.shaped d = true := by
  obtain ⟨a, b⟩ := h.lay
  unfold SeqAt.shaped
  rw [a]
  simp
  omega
theorem shaped_tup {n : Nat} {ds : List PyData} (h : ∀ x ∈ ds, Fm n x) (hn : n ≤ 40) : SeqAt.shaped (.tuple ds) = true := by
  have := shaped_list hn h
  simp only [SeqAt.shaped, PyData.canLay0, PyData.depth] at this ⊢
  exact this
section
variable {P : Program} {w : World} {K : PySem.W.Frag} {mg : Str → Option Value} {base : Heap} {f : Addr} {fd : FuncData}
theorem fnok_no {CX : CXT} {k : Nat} {ps : List Str} : FnOk P w K mg base CX k f fd ps (fun _ _ _ _ => False) := ⟨fun _ _ _ _ h => h.elim, fun _ _ _ _ _ _ _ _ _ _ _ _ _ h => h.elim⟩
abbrev S_is_negative : Stmt := top 62
abbrev N_is_negative : List Str := ["x"]
abbrev P_is_negative : List Str := ["x"]
theorem sc_is_negative : FnScope N_is_negative P_is_negative (defScope S_is_negative) := ⟨rfl, rfl, rfl, by decide +kernel, rfl, by decide +kernel, by decide +kernel⟩
def spNeg (K : PySem.W.Frag) : Sp := fun vs H Q _ => ∃ (v : V) (d : PyData), vs = [v] ∧ Dp K H v d ∧ (isI d = true ∨ isT d = true) ∧ (∀ b, d ≠ .bool b) ∧ ∀ H' : Hp, Same H H' → Q (.bl (negD d)) H'
theorem ok_neg (F : Fun K "is_negative" "is_negative" S_is_negative f fd) (B : Blt mg) : FnOk P w K mg base CX0 1 f fd P_is_negative (spNeg K) := by
  have nd := sc_is_negative.nd
  refine F.ok sc_is_negative (fun vs H Q E h => ?_) (fun cdv A outer s H vs Q E hr h => ?_)
  · obtain ⟨v, d, rfl, _⟩ := h
    rfl
  obtain ⟨v, d, rfl, hd, hk, hb, q⟩ := h
  refine ⟨_, (pss_cons (ps_if (pt_val (pe_callB (call_isiI K) (by rfl) B.isinstance (by decide +kernel) (pa_cons (pv 0) (pa_cons (pe_bltn (by rfl) B.int (by decide +kernel) (show RelV (.ty "int") (.type "int") from rfl)) pa_nil)))) (pss_one (ps_ret (pe_cmpR op_lt (pv 0) pe_int (nomark _)))) pss_nil)
    (pss_one (ps_ret (pe_cmpR op_eq (pe_op op_and (pe_callB call_lenT (by rfl) B.len PySem.boot_len (pa_cons (pv 0) pa_nil)) pe_int) pe_int (nomark _))))), ?_⟩
  refine ⟨_, rfl, _, d, rfl, hd, _, rfl, ?_⟩
  cases d with
  | int i =>
    cases hd
    refine iteT ?_
    exact ⟨_, rfl, _, _, rfl, rfl, q H (Same.refl H)⟩
  | tuple ds =>
    refine iteF ?_
    cases hd with
    | @tup a xs _ hs ha =>
    refine ⟨_, rfl, a, _, rfl, hs, _, _, rfl, rfl, rfl, ?_⟩
    have e : decide (V.int (Builtin.bitAnd (xs.length : Int) 1) = V.int 1) = negD (.tuple ds) := by
      rw [PyProof.Rows.bitAnd_m1]
      show _ = decide (ds.length % 2 = 1)
      rw [dps_length ha]
      refine decide_eq_decide.mpr ⟨fun h => ?_, fun h => ?_⟩
      · injection h with h; omega
      · congr 1; omega
    have q' := q H (Same.refl H)
    rw [← e] at q'
    exact q'
  | bool b => exact absurd rfl (hb b)
  | none => rcases hk with h | h <;> cases h
  | str _ => rcases hk with h | h <;> cases h
  | list _ => rcases hk with h | h <;> cases h
  | dict _ => rcases hk with h | h <;> cases h
abbrev S_common_tail : Stmt := top 65
abbrev N_common_tail : List Str := ["x", "y", "most", "same", "step", "more"]
abbrev P_common_tail : List Str := ["x", "y", "most"]
theorem sc_common_tail : FnScope N_common_tail P_common_tail (defScope S_common_tail) := ⟨rfl, rfl, rfl, by decide +kernel, rfl, by decide +kernel, by decide +kernel⟩
def spTail (K : PySem.W.Frag) (n : Nat) : Sp := fun vs H Q _ => ∃ (a b : Addr) (xs ys : List V) (ds es : List PyData) (mo : Nat), vs = [.ref a, .ref b, .int (mo : Int)] ∧ SqT K H a xs ∧ SqT K H b ys ∧ DpAll K H xs ds ∧ DpAll K H ys es ∧ (∀ d ∈ ds, Fm n d) ∧ (∀ d ∈ es, Fm n d) ∧
  mo ≤ ds.length ∧ mo ≤ es.length ∧ ctail ds.reverse es.reverse ≤ mo ∧ 8 ≤ ctail ds.reverse es.reverse ∧ ∀ H' : Hp, Same H H' → Q (.int (ctail ds.reverse es.reverse : Nat)) H'
theorem ok_tail {n : Nat} {tk : Tok} (hn : n ≤ 40) (F : Fun K "common_tail" "common_tail" S_common_tail f fd) (B : Blt mg) (MF : mg "FEW_TURNS" = some (.int 8 tk)) : FnOk P w K mg base CX0 1 f fd P_common_tail (spTail K n) := by
  have nd := sc_common_tail.nd
  refine F.ok sc_common_tail (fun vs H Q E h => ?_) (fun cdv A outer s H vs Q E hr h => ?_)
  · obtain ⟨a, b, xs, ys, ds, es, mo, rfl, _⟩ := h
    rfl
  obtain ⟨a, b, xs, ys, ds, es, mo, rfl, hA, hB, hd, he, fd1, fe1, mo1, mo2, mo3, c8, q⟩ := h
  refine ⟨_, (pss_cons (ps_set (i := 3) nd rfl (Or.inl rfl) (pe_glob (v := .int 8) rfl MF ⟨_, rfl⟩))
    (C8.pss_cut (ps_set (i := 4) nd rfl (Or.inl rfl) (pv 3))
    (pss_cons (ps_while PassesOwn.never (pt_truth (pv 4) (by intro _; rfl)) (pss_cons (ps_set (i := 5) nd rfl (Or.inl rfl) (pe_op op_add (pv 3) (pv 4)))
    (pss_one (ps_if (PW.pt (pw_and (pt_cmpR op_le (pv 5) (pv 2) (nomark _)) (pw_and1 (pt_cmpR (op_eqD hr.units) (pe_slice sl_tupD (pv 0) (po_some (pe_op op_sub (pe_callB call_lenT (by rfl) B.len PySem.boot_len (pa_cons (pv 0) pa_nil)) (pv 5))) (po_some (pe_op op_sub (pe_callB call_lenT (by rfl) B.len PySem.boot_len (pa_cons (pv 0) pa_nil)) (pv 3)))) (pe_slice sl_tupD (pv 1) (po_some (pe_op op_sub (pe_callB call_lenT (by rfl) B.len PySem.boot_len (pa_cons (pv 1) pa_nil)) (pv 5))) (po_some (pe_op op_sub (pe_callB call_lenT (by rfl) B.len PySem.boot_len (pa_cons (pv 1) pa_nil)) (pv 3)))) (nomark _))))) (pss_cons (ps_set (i := 3) nd rfl (Or.inl rfl) (pv 5))
    (pss_one (ps_set (i := 4) nd rfl (Or.inl rfl) (pe_op op_mul (pv 4) pe_int)))) (pss_one (ps_set (i := 4) nd rfl (Or.inl rfl) (pe_op op_fdivW (pv 4) pe_int)))))))
    (pss_one (ps_ret (pv 3)))))), ?_⟩
  have lx := dps_length hd
  have ly := dps_length he
  generalize hc : ctail ds.reverse es.reverse = ct at q mo3 c8
  refine ⟨fun σ H'' => ∃ sm st : Nat, σ = [some (.ref a), some (.ref b), some (.int (mo : Int)), some (.int (sm : Int)), some (.int (st : Int)), none] ∧ H'' = H ∧ sm = 8 ∧ st = 8, ⟨_, rfl, 8, 8, rfl, rfl, rfl, rfl⟩, ?_⟩
  rintro σ H'' ⟨sm, st, rfl, rfl, s8, t8⟩
  have s2 : sm ≤ ct := by omega
  have t1 : st ≤ sm := by omega
  have t2 : st = 0 → ct = sm := fun h => by omega
  clear s8 t8
  refine ⟨fun m σ H' => ∃ (sm st : Nat) (z : Option V), σ = [some (.ref a), some (.ref b), some (.int (mo : Int)), some (.int (sm : Int)), some (.int (st : Int)), z] ∧ m = (mo - sm) * (mo + 2) + st ∧ sm ≤ ct ∧ st ≤ sm ∧ (st = 0 → ct = sm) ∧ Same H'' H', ⟨_, sm, st, none, rfl, rfl, s2, t1, t2, Same.refl _⟩, ?_⟩
  rintro m σ H' ⟨sm, st, z, rfl, rfl, s2, t1, t2, e⟩
  refine ⟨_, rfl, _, rfl, ?_⟩
  refine ite2 (fun c => ?_) (fun c => ?_)
  · have st0 : st ≠ 0 := fun h => by rw [h] at c; cases c
    have half : ∀ H1, Same H'' H1 → (st = 1 → ct ≤ sm) → ∃ m', m' < (mo - sm) * (mo + 2) + st ∧ ∃ (sm' st' : Nat) (z : Option V), ([some (.ref a), some (.ref b), some (.int (mo : Int)), some (.int (sm : Int)), some (.int ((st : Int) / 2)), some (.int ((sm : Int) + (st : Int)))] : L2.St) = [some (.ref a), some (.ref b), some (.int (mo : Int)), some (.int (sm' : Int)), some (.int (st' : Int)), z] ∧ m' = (mo - sm') * (mo + 2) + st' ∧ sm' ≤ ct ∧ st' ≤ sm' ∧ (st' = 0 → ct = sm') ∧ Same H'' H1 := fun H1 e1 h1 =>
      ⟨(mo - sm) * (mo + 2) + st / 2, by omega, sm, st / 2, _, rfl, rfl, s2, by omega, fun h => by have := h1 (by omega); omega, e1⟩
    refine ⟨fun σ' H1 => ∃ m', m' < (mo - sm) * (mo + 2) + st ∧ ∃ (sm' st' : Nat) (z : Option V), σ' = [some (.ref a), some (.ref b), some (.int (mo : Int)), some (.int (sm' : Int)), some (.int (st' : Int)), z] ∧ m' = (mo - sm') * (mo + 2) + st' ∧ sm' ≤ ct ∧ st' ≤ sm' ∧ (st' = 0 → ct = sm') ∧ Same H'' H1, fun σ' H1 h => h, ?_⟩
    refine ⟨_, rfl, _, rfl, _, _, rfl, rfl, ?_⟩
    refine ⟨_, rfl, _, rfl, _, _, rfl, rfl, _, rfl, ?_⟩
    refine iteD (fun c1 => ?_) (fun c1 => ?_)
    · have hA1 := (Nd.of e).sqt hA
      refine ⟨_, rfl, _, rfl, a, _, rfl, hA1, _, rfl, _, _, rfl, rfl, _, rfl, _, rfl, a, _, rfl, hA1, _, rfl, _, _, rfl, rfl, _, rfl, a, _, rfl, hA1, fun b1 H1 e1 k1 => ?_⟩
      have hB1 := (Nd.of (e.trans e1)).sqt hB
      refine ⟨_, rfl, _, rfl, b, _, rfl, hB1, _, rfl, _, _, rfl, rfl, _, rfl, _, rfl, b, _, rfl, hB1, _, rfl, _, _, rfl, rfl, _, rfl, b, _, rfl, hB1, fun b2 H2 e2 k2 => ?_⟩
      have em : (sm : Int) + (st : Int) = ((sm + st : Nat) : Int) := by omega
      rw [em] at k1 k2
      have k1 : SqT K H1 b1 (cutV xs (some ((xs.length : Int) - ((sm + st : Nat) : Int))) (some ((xs.length : Int) - (sm : Int)))) := k1
      have k2 : SqT K H2 b2 (cutV ys (some ((ys.length : Int) - ((sm + st : Nat) : Int))) (some ((ys.length : Int) - (sm : Int)))) := k2
      rw [cut_seg (by omega) (by omega)] at k1 k2
      have e12 := e.trans (e1.trans e2)
      have k1' := (Nd.of e2).sqt k1
      have w1 : ∀ x ∈ seg ds sm (sm + st), Fm n x := fun x hx => fd1 x (List.mem_of_mem_drop (List.mem_of_mem_take hx))
      have w2 : ∀ x ∈ seg es sm (sm + st), Fm n x := fun x hx => fe1 x (List.mem_of_mem_drop (List.mem_of_mem_take hx))
      refine ⟨.tuple (seg ds sm (sm + st)), .tuple (seg es sm (sm + st)), .tup k1' (dps_seg ((Nd.of e12).ds hd) _ _), .tup k2 (dps_seg ((Nd.of e12).ds he) _ _), shaped_tup w1 hn, shaped_tup w2 hn, _, rfl, ?_⟩
      have al := seg_alike (ds := ds) (es := es) (same := sm) (more := sm + st) (by rw [hc]; exact s2) (by omega) (by omega) (by omega)
      rw [hc] at al
      refine ite2 (fun c2 => ?_) (fun c2 => ?_)
      · have := al.mp c2
        refine ⟨_, rfl, ?_⟩
        refine ⟨_, rfl, _, _, rfl, rfl, .inr ⟨by decide, by decide⟩, ?_⟩
        refine ⟨(mo - (sm + st)) * (mo + 2) + 2 * st, ?_, sm + st, 2 * st, _, (by rw [show ((2 * st : Nat) : Int) = (st : Int) * 2 by omega, ← em]; rfl), rfl, this, by omega, fun h => by omega, e12⟩
        obtain ⟨r, hr⟩ : ∃ r, mo - sm = r + st := ⟨mo - sm - st, by omega⟩
        rw [show mo - (sm + st) = r by omega, hr, Nat.add_mul]
        have : st * 2 ≤ st * (mo + 2) := Nat.mul_le_mul_left _ (by omega)
        omega
      · refine ⟨_, rfl, _, _, rfl, rfl, ⟨by decide, by decide +kernel⟩, ?_⟩
        exact half H2 e12 fun h => by
          by_cases z : ct ≤ sm
          · exact z
          · exact absurd (al.mpr (by omega)) c2
    · refine iteF ?_
      refine ⟨_, rfl, _, _, rfl, rfl, ⟨by decide, by decide +kernel⟩, ?_⟩
      exact half H' e fun h => by omega
  · have st0 : st = 0 := by
      by_cases z : st = 0
      · exact z
      · exact absurd (by show ((st : Int) != 0) = true; simp; omega) c
    have := t2 st0
    refine ⟨_, rfl, ?_⟩
    have q' := q H' e
    rw [this] at q'
    exact q'
abbrev S_compare_far : Stmt := top 64
abbrev N_compare_far : List Str := ["x", "y", "most", "same", "later"]
abbrev P_compare_far : List Str := ["x", "y"]
theorem sc_compare_far : FnScope N_compare_far P_compare_far (defScope S_compare_far) := ⟨rfl, rfl, rfl, by decide +kernel, rfl, by decide +kernel, by decide +kernel⟩
abbrev S_compare : Stmt := top 63
abbrev N_compare : List Str := ["x", "y", "below"]
abbrev P_compare : List Str := ["x", "y"]
theorem sc_compare : FnScope N_compare P_compare (defScope S_compare) := ⟨rfl, rfl, rfl, by decide +kernel, rfl, by decide +kernel, by decide +kernel⟩
def spFar (K : PySem.W.Frag) (n : Nat) : Sp := fun vs H Q _ => ∃ (a b : Addr) (xs ys : List V) (ds es : List PyData), vs = [.ref a, .ref b] ∧ SqT K H a xs ∧ SqT K H b ys ∧ DpAll K H xs ds ∧ DpAll K H ys es ∧ (∀ d ∈ ds, Fm n d) ∧ (∀ d ∈ es, Fm n d) ∧
  ∀ H' : Hp, Same H H' → Q (.int (lexD (cmpD n) ds.reverse es.reverse)) H'
def spCmp (K : PySem.W.Frag) (n : Nat) : Sp := fun vs H Q _ => ∃ (x y : V) (dx dy : PyData), vs = [x, y] ∧ Dp K H x dx ∧ Dp K H y dy ∧ Fm n dx ∧ Fm n dy ∧ ∀ H' : Hp, Same H H' → Q (.int (cmpD n dx dy)) H'
theorem ok_far {n : Nat} {tk : Tok} (hn : n ≤ 40) (F : Fun K "compare_far" "compare_far" S_compare_far f fd) (B : Blt mg) (MF : mg "FEW_TURNS" = some (.int 8 tk)) (Ccommon_tail : Has P w K mg base 1 "common_tail" P_common_tail [] (spTail K n)) (Ccompare : Has P w K mg base (2 * n + 2) "compare" P_compare [] (spCmp K n)) :
    FnOk P w K mg base CX0 (2 * n + 3) f fd P_compare_far (spFar K n) := by
  have nd := sc_compare_far.nd
  refine F.ok sc_compare_far (fun vs H Q E h => ?_) (fun cdv A outer s H vs Q E hr h => ?_)
  · obtain ⟨a, b, xs, ys, ds, es, rfl, _⟩ := h
    rfl
  obtain ⟨a, b, xs, ys, ds, es, rfl, hA, hB, hd, he, fd1, fe1, q⟩ := h
  refine ⟨_, (pss_cons (ps_set (i := 2) nd rfl (Or.inl rfl) (pe_callB (call_min2 rfl) (by rfl) B.min (by decide +kernel) (pa_cons (pe_callB call_lenT (by rfl) B.len PySem.boot_len (pa_cons (pv 0) pa_nil)) (pa_cons (pe_callB call_lenT (by rfl) B.len PySem.boot_len (pa_cons (pv 1) pa_nil)) pa_nil))))
    (pss_cons (ps_set (i := 3) nd rfl (Or.inl rfl) pe_int)
    (C8.pss_cut (ps_while PassesOwn.never (PW.pt (pw_and (pt_cmpR op_lt (pv 3) (pv 2) (nomark _)) (pw_and1 (pt_cmpR (op_eqD hr.units) (pe_ix ix_tup (pv 0) (pe_op op_sub (pe_un un_neg pe_int) (pv 3)) (fun _ _ => rfl)) (pe_ix ix_tup (pv 1) (pe_op op_sub (pe_un un_neg pe_int) (pv 3)) (fun _ _ => rfl)) (nomark _))))) (pss_cons (ps_aug (i := 3) nd rfl (Or.inl rfl) pe_int ip_add)
    (pss_one (ps_if (pt_cmpR op_eq (pv 3) (pe_glob (v := .int 8) rfl MF ⟨_, rfl⟩) (nomark _)) (pss_cons (ps_set (i := 3) nd rfl (Or.inl rfl) (pe_H Ccommon_tail (hr.mono (by omega)) rfl (pa_cons (pv 0) (pa_cons (pv 1) (pa_cons (pv 2) pa_nil)))))
    (pss_one ps_break)) pss_nil))))
    (C8.pss_cut (ps_if (pt_cmpR op_lt (pv 3) (pv 2) (nomark _)) (pss_one (ps_set (i := 4) nd rfl (Or.inl rfl) (pe_H Ccompare (hr.mono (by omega)) rfl (pa_cons (pe_ix ix_tup (pv 0) (pe_op op_sub (pe_un un_neg pe_int) (pv 3)) (fun _ _ => rfl)) (pa_cons (pe_ix ix_tup (pv 1) (pe_op op_sub (pe_un un_neg pe_int) (pv 3)) (fun _ _ => rfl)) pa_nil))))) (pss_one (ps_if (pt_cmpR op_eq (pe_callB call_lenT (by rfl) B.len PySem.boot_len (pa_cons (pv 0) pa_nil)) (pe_callB call_lenT (by rfl) B.len PySem.boot_len (pa_cons (pv 1) pa_nil)) (nomark _)) (pss_one (ps_ret pe_int)) (pss_one (ps_set (i := 4) nd rfl (Or.inl rfl) (pe_ifExp (pt_cmpR op_eq (pv 3) (pe_callB call_lenT (by rfl) B.len PySem.boot_len (pa_cons (pv 0) pa_nil)) (nomark _)) (pe_un un_neg pe_int) pe_int))))))
    (pss_one (ps_ret (pe_ifExp (pt_truth (pe_op op_and (pe_op op_sub (pe_callB call_lenT (by rfl) B.len PySem.boot_len (pa_cons (pv 0) pa_nil)) (pv 3)) pe_int) (by intro _; rfl)) (pe_un un_neg (pv 4)) (pv 4)))))))), ?_⟩
  have lx := dps_length hd
  have ly := dps_length he
  have cl := ctail_le ds.reverse es.reverse
  have lt := lexD_tail (cmpD n) ds.reverse es.reverse
  rw [List.length_reverse, List.length_reverse] at cl lt
  rw [lt] at q
  clear lt
  obtain ⟨mo, hmo⟩ : ∃ mo : Nat, (if ((ys.length : Int) < (xs.length : Int)) then (ys.length : Int) else (xs.length : Int)) = (mo : Int) := ⟨min xs.length ys.length, by split <;> omega⟩
  have mo1 : mo ≤ ds.length ∧ mo ≤ es.length ∧ ctail ds.reverse es.reverse ≤ mo ∧ (mo = ds.length ∨ mo = es.length) := by
    rw [← lx, ← ly] at *
    split at hmo <;> omega
  obtain ⟨m1, m2, m3, m4⟩ := mo1
  refine ⟨_, rfl, a, _, rfl, hA, _, rfl, b, _, rfl, hB, _, _, rfl, ?_⟩
  rw [hmo]
  refine ⟨fun σ H1 => σ = [some (.ref a), some (.ref b), some (.int (mo : Int)), some (.int ((ctail ds.reverse es.reverse : Nat) : Int)), none] ∧ Same H H1, ?_, ?_⟩
  · refine ⟨fun m σ H' => ∃ sm : Nat, σ = [some (.ref a), some (.ref b), some (.int (mo : Int)), some (.int (sm : Int)), none] ∧ m = 8 - sm ∧ sm < 8 ∧ sm ≤ ctail ds.reverse es.reverse ∧ H' = H, ⟨8, 0, rfl, rfl, by decide, Nat.zero_le _, rfl⟩, ?_⟩
    rintro m σ H' ⟨sm, rfl, rfl, s1, s2, rfl⟩
    refine ⟨_, rfl, _, rfl, _, _, rfl, rfl, _, rfl, ?_⟩
    refine iteD (fun c1 => ?_) (fun c1 => ?_)
    · obtain ⟨vx, hvx⟩ : ∃ v, xs.reverse[sm]? = some v := ⟨_, List.getElem?_eq_getElem (by rw [List.length_reverse]; omega)⟩
      obtain ⟨vy, hvy⟩ : ∃ v, ys.reverse[sm]? = some v := ⟨_, List.getElem?_eq_getElem (by rw [List.length_reverse]; omega)⟩
      obtain ⟨dx, hdx, px⟩ := dps_get (dps_rev hd) hvx
      obtain ⟨dy, hdy, py⟩ := dps_get (dps_rev he) hvy
      have fx : Fm n dx := fd1 dx (List.mem_reverse.mp (List.mem_of_getElem? hdx))
      have fy : Fm n dy := fe1 dy (List.mem_reverse.mp (List.mem_of_getElem? hdy))
      have nx := ctail_next s2 hdx hdy
      refine ⟨_, rfl, _, rfl, _, rfl, _, _, rfl, rfl, a, _, _, _, rfl, rfl, hA, atI_end hvx, _, rfl, _, rfl, _, rfl, _, _, rfl, rfl, b, _, _, _, rfl, rfl, hB, atI_end hvy, dx, dy, px, py, shaped_fm fx hn, shaped_fm fy hn, _, rfl, ?_⟩
      refine ite2 (fun c2 => ?_) (fun c2 => ?_)
      · have h9 := nx.1 c2
        refine ⟨fun σ' H'' => ∃ sm' : Nat, σ' = [some (.ref a), some (.ref b), some (.int (mo : Int)), some (.int (sm' : Int)), none] ∧ sm' = sm + 1 ∧ sm' < 8 ∧ H'' = H', fun σ' H'' h => ?_, ?_⟩
        · obtain ⟨sm', rfl, rfl, h8, rfl⟩ := h
          exact ⟨8 - (sm + 1), by omega, sm + 1, rfl, rfl, h8, h9, rfl⟩
        · refine ⟨_, rfl, _, _, rfl, rfl, ?_⟩
          refine ⟨_, rfl, rfl, _, rfl, ?_⟩
          refine iteD (fun c3 => ?_) (fun c3 => ?_)
          · have c5 : V.int ((sm : Int) + 1) = V.int 8 := c3
            have c4 : sm + 1 = 8 := by injection c5 with c5; omega
            refine ⟨_, rfl, _, rfl, _, rfl, a, b, xs, ys, ds, es, mo, rfl, hA, hB, hd, he, fd1, fe1, m1, m2, m3, by omega, fun H1 e1 => ?_⟩
            exact ⟨rfl, e1⟩
          · have c4 : sm + 1 ≠ 8 := fun h => c3 (show V.int ((sm : Int) + 1) = V.int 8 by congr 1; omega)
            exact ⟨sm + 1, rfl, rfl, by omega, rfl⟩
      · have h9 := nx.2 c2
        exact ⟨by rw [h9], Same.refl _⟩
    · refine iteF ?_
      have h9 : ctail ds.reverse es.reverse = sm := by omega
      exact ⟨by rw [h9], Same.refl _⟩
  rintro σ H1 ⟨rfl, e1⟩
  generalize hc : ctail ds.reverse es.reverse = ct at q cl m3 ⊢
  have hA1 := (Nd.of e1).sqt hA
  have hB1 := (Nd.of e1).sqt hB
  refine ⟨fun σ H3 => ∃ v : Int, σ = [some (.ref a), some (.ref b), some (.int (mo : Int)), some (.int (ct : Int)), some (.int v)] ∧ Same H1 H3 ∧ ¬ (ct = ds.length ∧ ct = es.length) ∧ v = (if ct = ds.length then (-1 : Int) else if ct = es.length then 1 else atD (cmpD n) ds.reverse es.reverse ct), ?_, ?_⟩
  · refine ⟨_, rfl, _, rfl, _, _, rfl, rfl, _, rfl, ?_⟩
    refine iteD (fun c => ?_) (fun c => ?_)
    · have c' : ct ≠ ds.length := by omega
      have c2' : ct ≠ es.length := by omega
      obtain ⟨vx, hvx⟩ : ∃ v, xs.reverse[ct]? = some v := ⟨_, List.getElem?_eq_getElem (by rw [List.length_reverse]; omega)⟩
      obtain ⟨vy, hvy⟩ : ∃ v, ys.reverse[ct]? = some v := ⟨_, List.getElem?_eq_getElem (by rw [List.length_reverse]; omega)⟩
      obtain ⟨dx, hdx, px⟩ := dps_get (dps_rev ((Nd.of e1).ds hd)) hvx
      obtain ⟨dy, hdy, py⟩ := dps_get (dps_rev ((Nd.of e1).ds he)) hvy
      have fx : Fm n dx := fd1 dx (List.mem_reverse.mp (List.mem_of_getElem? hdx))
      have fy : Fm n dy := fe1 dy (List.mem_reverse.mp (List.mem_of_getElem? hdy))
      refine ⟨_, rfl, _, rfl, _, rfl, _, _, rfl, rfl, a, _, _, _, rfl, rfl, hA1, atI_end hvx, _, rfl, _, rfl, _, rfl, _, _, rfl, rfl, b, _, _, _, rfl, rfl, hB1, atI_end hvy, vx, vy, dx, dy, rfl, px, py, fx, fy, fun H3 e3 => ?_⟩
      exact ⟨_, rfl, e3, fun h => c' h.1, by rw [if_neg c', if_neg c2', atD_eq hdx hdy]⟩
    · refine ⟨_, rfl, a, _, rfl, hA1, _, rfl, b, _, rfl, hB1, rfl, _, rfl, ?_⟩
      refine iteD (fun c2 => ?_) (fun c2 => ?_)
      · have c2' : ds.length = es.length := by injection c2 with c2; omega
        have q' := q H1 e1
        rw [if_pos ⟨by omega, by omega⟩] at q'
        exact q'
      · have c2' : ds.length ≠ es.length := fun h => c2 (by congr 1; omega)
        refine ⟨_, rfl, _, rfl, a, _, rfl, hA1, rfl, _, rfl, ?_⟩
        refine iteD (fun c3 => ?_) (fun c3 => ?_)
        · have c3' : ct = ds.length := by injection c3 with c3; omega
          exact ⟨_, rfl, -1, rfl, Same.refl _, fun h => c2' (by omega), by rw [if_pos c3']⟩
        · have c3' : ct ≠ ds.length := fun h => c3 (by congr 1; omega)
          exact ⟨1, rfl, Same.refl _, fun h => c3' h.1, by rw [if_neg c3', if_pos (by omega)]⟩
  rintro σ H3 ⟨v, rfl, e3, hno, hv⟩
  have q' := q H3 (e1.trans e3)
  rw [if_neg hno, ← hv] at q'
  refine ⟨_, rfl, a, _, rfl, (Nd.of e3).sqt hA1, _, rfl, _, _, rfl, rfl, _, _, rfl, rfl, _, rfl, ?_⟩
  have eb : Builtin.bitAnd ((xs.length : Int) - (ct : Int)) 1 = (((ds.length - ct) % 2 : Nat) : Int) := by
    rw [PyProof.Rows.bitAnd_m1]; omega
  refine ite2 (fun c => ?_) (fun c => ?_)
  · have c' : (Builtin.bitAnd ((xs.length : Int) - (ct : Int)) 1 != 0) = true := c
    rw [eb] at c'
    have o : (ds.length - ct) % 2 = 1 := by
      have : (((ds.length - ct) % 2 : Nat) : Int) ≠ 0 := by simpa using c'
      omega
    refine ⟨_, rfl, _, rfl, ?_⟩
    unfold par at q'
    rw [if_pos o] at q'
    exact q'
  · have c' : ¬ (Builtin.bitAnd ((xs.length : Int) - (ct : Int)) 1 != 0) = true := c
    rw [eb] at c'
    have o : ¬ (ds.length - ct) % 2 = 1 := fun o => c' (by rw [o]; rfl)
    refine ⟨_, rfl, ?_⟩
    unfold par at q'
    rw [if_neg o] at q'
    exact q'
theorem ok_cmp {n : Nat} (F : Fun K "compare" "compare" S_compare f fd) (B : Blt mg) (Cis_negative : Has P w K mg base 1 "is_negative" P_is_negative [] (spNeg K))
    {spF : Sp} (hF : ∀ m, n = m + 1 → ∀ vs H Q E, spFar K m vs H Q E → spF vs H Q E) (Ccompare_far : Has P w K mg base (2 * n + 1) "compare_far" P_compare_far [] spF) :
    FnOk P w K mg base CX0 (2 * n + 2) f fd P_compare (spCmp K n) := by
  have nd := sc_compare.nd
  refine F.ok sc_compare (fun vs H Q E h => ?_) (fun cdv A outer s H vs Q E hr h => ?_)
  · obtain ⟨x, y, dx, dy, rfl, _⟩ := h
    rfl
  obtain ⟨x, y, dx, dy, rfl, hx, hy, fx, fy, q⟩ := h
  refine ⟨_, (C8.pss_cut (ps_if (PW.pt (pw_and (pt_val (pe_callB (call_isiI K) (by rfl) B.isinstance (by decide +kernel) (pa_cons (pv 0) (pa_cons (pe_bltn (by rfl) B.int (by decide +kernel) (show RelV (.ty "int") (.type "int") from rfl)) pa_nil)))) (pw_and1 (pt_val (pe_callB (call_isiI K) (by rfl) B.isinstance (by decide +kernel) (pa_cons (pv 1) (pa_cons (pe_bltn (by rfl) B.int (by decide +kernel) (show RelV (.ty "int") (.type "int") from rfl)) pa_nil))))))) (pss_cons (ps_if (pt_cmpR op_eq (pv 0) (pv 1) (nomark _)) (pss_one (ps_ret pe_int)) pss_nil)
    (pss_one (ps_ret (pe_ifExp (pt_cmpR op_lt (pv 0) (pv 1) (nomark _)) (pe_un un_neg pe_int) pe_int)))) pss_nil)
    (pss_cons (ps_set (i := 2) nd rfl (Or.inl rfl) (pe_H Cis_negative (hr.mono (by omega)) rfl (pa_cons (pv 0) pa_nil)))
    (pss_cons (ps_if (pt_cmpR op_ne (pv 2) (pe_H Cis_negative (hr.mono (by omega)) rfl (pa_cons (pv 1) pa_nil)) (nomark _)) (pss_one (ps_ret (pe_ifExp (pt_truth (pv 2) (by intro _; rfl)) (pe_un un_neg pe_int) pe_int))) pss_nil)
    (pss_cons (ps_if (pt_val (pe_callB (call_isiI K) (by rfl) B.isinstance (by decide +kernel) (pa_cons (pv 0) (pa_cons (pe_bltn (by rfl) B.int (by decide +kernel) (show RelV (.ty "int") (.type "int") from rfl)) pa_nil)))) (pss_one (ps_ret (pe_ifExp (pt_truth (pv 2) (by intro _; rfl)) pe_int (pe_un un_neg pe_int)))) pss_nil)
    (pss_cons (ps_if (pt_val (pe_callB (call_isiI K) (by rfl) B.isinstance (by decide +kernel) (pa_cons (pv 1) (pa_cons (pe_bltn (by rfl) B.int (by decide +kernel) (show RelV (.ty "int") (.type "int") from rfl)) pa_nil)))) (pss_one (ps_ret (pe_ifExp (pt_truth (pv 2) (by intro _; rfl)) (pe_un un_neg pe_int) pe_int))) pss_nil)
    (pss_one (ps_ret (pe_H Ccompare_far (hr.mono (by omega)) rfl (pa_cons (pv 0) (pa_cons (pv 1) pa_nil)))))))))), ?_⟩
  have kx : (isI dx = true ∨ isT dx = true) ∧ ∀ b, dx ≠ .bool b := fm_kind fx
  have ky : (isI dy = true ∨ isT dy = true) ∧ ∀ b, dy ≠ .bool b := fm_kind fy
  refine ⟨fun σ H1 => σ = [some x, some y, none] ∧ H1 = H ∧ ¬ (isI dx = true ∧ isI dy = true), ?_, ?_⟩
  · refine ⟨_, rfl, x, dx, rfl, hx, _, rfl, ?_⟩
    refine ite2 (fun c1 => ?_) (fun c1 => ?_)
    · refine ⟨_, rfl, y, dy, rfl, hy, _, rfl, ?_⟩
      refine ite2 (fun c2 => ?_) (fun c2 => ?_)
      · obtain ⟨i, rfl⟩ := fm_int fx c1
        obtain ⟨j, rfl⟩ := fm_int fy c2
        have ec : cmpD n (.int i) (.int j) = sgnI i j := by cases n <;> rfl
        rw [ec] at q
        cases hx
        cases hy
        refine ⟨_, rfl, _, rfl, rfl, _, rfl, ?_⟩
        refine iteD (fun c => ?_) (fun c => ?_)
        · injection c with c
          subst c
          rw [sgnI_self] at q
          exact q H (Same.refl H)
        · have c' : i ≠ j := fun h => c (by rw [h])
          refine ⟨_, rfl, _, rfl, _, _, rfl, rfl, _, rfl, ?_⟩
          refine iteD (fun c3 => ?_) (fun c3 => ?_)
          · rw [sgnI_lt c3] at q
            exact ⟨_, rfl, q H (Same.refl H)⟩
          · rw [sgnI_gt (show j < i by omega)] at q
            exact q H (Same.refl H)
      · exact ⟨rfl, rfl, fun h => c2 h.2⟩
    · exact iteF ⟨rfl, rfl, fun h => c1 h.1⟩
  rintro σ H1 ⟨rfl, rfl, hno⟩
  refine ⟨_, rfl, x, dx, rfl, hx, kx.1, kx.2, fun H2 e2 => ?_⟩
  refine ⟨_, rfl, _, rfl, y, dy, rfl, (Nd.of e2).d hy, ky.1, ky.2, fun H3 e3 => ?_⟩
  have e23 := e2.trans e3
  have hx3 := (Nd.of e23).d hx
  have hy3 := (Nd.of e23).d hy
  cases n with
  | zero =>
    obtain ⟨i, rfl⟩ := fx
    obtain ⟨j, rfl⟩ := fy
    exact absurd ⟨rfl, rfl⟩ hno
  | succ k =>
  refine ⟨rfl, _, rfl, ?_⟩
  refine iteDN (fun c => ?_) (fun c => ?_)
  · have c' : negD dx ≠ negD dy := fun h => c (by rw [h])
    rw [cmp_ne fx fy hno c'] at q
    refine ⟨_, rfl, _, rfl, ?_⟩
    refine ite2 (fun c2 => ?_) (fun c2 => ?_)
    · rw [if_pos c2] at q; exact ⟨_, rfl, q H3 e23⟩
    · rw [if_neg c2] at q; exact q H3 e23
  · have c' : negD dx = negD dy := by injection c
    refine ⟨_, rfl, x, dx, rfl, hx3, _, rfl, ?_⟩
    refine ite2 (fun c1 => ?_) (fun c1 => ?_)
    · rw [cmp_ix fx fy hno c' c1] at q
      refine ⟨_, rfl, _, rfl, ?_⟩
      refine ite2 (fun c2 => ?_) (fun c2 => ?_)
      · rw [if_pos c2] at q; exact q H3 e23
      · rw [if_neg c2] at q; exact ⟨_, rfl, q H3 e23⟩
    · refine ⟨_, rfl, y, dy, rfl, hy3, _, rfl, ?_⟩
      refine ite2 (fun c3 => ?_) (fun c3 => ?_)
      · rw [cmp_iy fx fy hno c' c1 c3] at q
        refine ⟨_, rfl, _, rfl, ?_⟩
        refine ite2 (fun c2 => ?_) (fun c2 => ?_)
        · rw [if_pos c2] at q; exact ⟨_, rfl, q H3 e23⟩
        · rw [if_neg c2] at q; exact q H3 e23
      · obtain ⟨xs, rfl, _, fxs⟩ := fm_tup fx c1
        obtain ⟨ys, rfl, _, fys⟩ := fm_tup fy c3
        have ec : cmpD (k + 1) (.tuple xs) (.tuple ys) = lexD (cmpD k) xs.reverse ys.reverse := if_pos c'
        rw [ec] at q
        cases hx3 with
        | @tup a vx _ hA hd =>
        cases hy3 with
        | @tup b vy _ hB he =>
        exact ⟨_, rfl, _, rfl, hF k rfl _ _ _ _ ⟨a, b, vx, vy, xs, ys, rfl, hA, hB, hd, he, fxs, fys, fun H4 e4 => q H4 (e23.trans e4)⟩⟩
/-- both, by induction -/
theorem ok_order {n : Nat} {tk : Tok} (FC : Fun K "compare" "compare" S_compare f fd) (bC : Binds K fd P_compare []) (mC : mg "compare" = some (.ref f)) {g : Addr} {gd : FuncData} (FF : Fun K "compare_far" "compare_far" S_compare_far g gd) (bF : Binds K gd P_compare_far []) (mF : mg "compare_far" = some (.ref g)) (B : Blt mg)
    (Cis_negative : Has P w K mg base 1 "is_negative" P_is_negative [] (spNeg K)) {t : Addr} {td : FuncData} (FT : Fun K "common_tail" "common_tail" S_common_tail t td) (bT : Binds K td P_common_tail []) (mT : mg "common_tail" = some (.ref t)) (MF : mg "FEW_TURNS" = some (.int 8 tk)) (hn : n ≤ 40) :
    FnOk P w K mg base CX0 (2 * n + 2) f fd P_compare (spCmp K n) := by
  induction n with
  | zero => exact ok_cmp FC B Cis_negative (spF := fun _ _ _ _ => False) (fun m h => by cases h) ⟨g, gd, [], fnok_no, FF.kp, mF, .nil, bF⟩
  | succ n ih =>
    have h1 := ih (by omega)
    have CT : Has P w K mg base 1 "common_tail" P_common_tail [] (spTail K n) := ⟨t, td, [], ok_tail (by omega) FT B MF, FT.kp, mT, .nil, bT⟩
    have h2 := ok_far (by omega) FF B MF CT ⟨f, fd, [], h1, FC.kp, mC, .nil, bC⟩
    exact ok_cmp FC B Cis_negative (spF := spFar K n) (fun m h vs H Q E k => by cases h; exact k) ⟨g, gd, [], h2.mono (by omega), FF.kp, mF, .nil, bF⟩
theorem ok_compare_far {n : Nat} {tk : Tok} {c : Addr} {cd : FuncData} (FC : Fun K "compare" "compare" S_compare c cd) (bC : Binds K cd P_compare []) (mC : mg "compare" = some (.ref c)) (FF : Fun K "compare_far" "compare_far" S_compare_far f fd) (bF : Binds K fd P_compare_far []) (mF : mg "compare_far" = some (.ref f)) (B : Blt mg)
    (Cis_negative : Has P w K mg base 1 "is_negative" P_is_negative [] (spNeg K)) {t : Addr} {td : FuncData} (FT : Fun K "common_tail" "common_tail" S_common_tail t td) (bT : Binds K td P_common_tail []) (mT : mg "common_tail" = some (.ref t)) (MF : mg "FEW_TURNS" = some (.int 8 tk)) (hn : n ≤ 40) :
    FnOk P w K mg base CX0 (2 * n + 3) f fd P_compare_far (spFar K n) :=
  ok_far hn FF B MF ⟨t, td, [], ok_tail hn FT B MF, FT.kp, mT, .nil, bT⟩ ⟨c, cd, [], ok_order FC bC mC FF bF mF B Cis_negative FT bT mT MF hn, FC.kp, mC, .nil, bC⟩
end
end Fb
namespace Fb
open PySem L2
section
variable {P : Program} {w : World} {K : PySem.W.Frag} {mg : Str → Option Value} {base : Heap} {f : Addr} {fd : FuncData}
/-- a count of the tree v by g, all else as it was -/
def spCount (K : PySem.W.Frag) (g : Nat → PyData → Int) : Nat → Sp
  | 0 => fun _ _ _ _ => False
  | n + 1 => fun vs H Q _ => ∃ (v : V) (d : PyData), vs = [v] ∧ Dp K H v d ∧ Fm n d ∧ ∀ H' : Hp, Same H H' → Q (.int (g n d)) H'
def spHeight (K : PySem.W.Frag) : Nat → Sp
  | 0 => fun _ _ _ _ => False
  | n + 1 => fun vs H Q _ => ∃ (v : V) (d : PyData), vs = [v] ∧ Dp K H v d ∧ Fm n d ∧ Ne n d ∧ ∀ H' : Hp, Same H H' → Q (.int (ht n d)) H'
def spLevels (K : PySem.W.Frag) (n : Nat) : Sp := fun vs H Q _ => ∃ (v : V) (d : PyData), vs = [v] ∧ Dp K H v d ∧ Fm n d ∧ Sp_ n d ∧ ∀ H' : Hp, Same H H' → Q (.int (lv n d)) H'
abbrev S_parts_in : Stmt := top 79
abbrev N_parts_in : List Str := ["x", "turn"]
abbrev P_parts_in : List Str := ["x"]
theorem sc_parts_in : FnScope N_parts_in P_parts_in (defScope S_parts_in) := ⟨rfl, rfl, rfl, by decide +kernel, rfl, by decide +kernel, by decide +kernel⟩
theorem ok_parts_step {n : Nat} (F : Fun K "parts_in" "parts_in" S_parts_in f fd) (B : Blt mg) (Cparts_in : Has P w K mg base n "parts_in" P_parts_in [] (spCount K sz n)) : FnOk P w K mg base CX0 (n + 1) f fd P_parts_in (spCount K sz (n + 1)) := by
  have nd := sc_parts_in.nd
  refine F.ok sc_parts_in (fun vs H Q E h => ?_) (fun cdv A outer s H vs Q E hr h => ?_)
  · obtain ⟨v, d, rfl, _⟩ := h
    rfl
  obtain ⟨v, d, rfl, hd, hf, q⟩ := h
  refine ⟨_, (pss_cons (ps_if (pt_val (pe_callB (call_isiI K) (by rfl) B.isinstance (by decide +kernel) (pa_cons (pv 0) (pa_cons (pe_bltn (by rfl) B.int (by decide +kernel) (show RelV (.ty "int") (.type "int") from rfl)) pa_nil)))) (pss_one (ps_ret pe_int)) pss_nil)
    (pss_one (ps_ret (pe_op op_add pe_int (pe_callB (cr_sum rfl) (by rfl) B.sum (by decide +kernel) (pa_cons (pe_lc (own := [("turn", 1)]) (g := gName 1) (tt := tYes) rfl nd (pi_tup (pv 0)) (blkOk_by (own := [("turn", 1)]) (N := N_parts_in) (sc := defScope S_parts_in) (by decide +kernel)) (fun _ _ _ _ _ => pg_name (i := 1) nd rfl (Or.inl rfl)) (fun _ _ _ _ _ => pts_nil) (fun _ _ _ _ _ => (pe_ifExp (pt_val (pe_callB (call_isiI K) (by rfl) B.isinstance (by decide +kernel) (pa_cons (pv 1) (pa_cons (pe_bltn (by rfl) B.int (by decide +kernel) (show RelV (.ty "int") (.type "int") from rfl)) pa_nil)))) pe_int (pe_H Cparts_in hr rfl (pa_cons (pv 1) pa_nil))))) pa_nil)))))), ?_⟩
  refine ⟨_, rfl, _, d, rfl, hd, _, rfl, ?_⟩
  refine ite2 (fun c => ?_) (fun c => ?_)
  · have e : sz n d = 1 := by cases d <;> first | exact absurd c Bool.false_ne_true | (cases n <;> rfl)
    rw [e] at q
    exact q H (Same.refl H)
  · cases n with
    | zero =>
      obtain ⟨i, rfl⟩ := hf
      exact absurd rfl c
    | succ k =>
      rcases hf with ⟨i, rfl⟩ | ⟨ds, rfl, hl, hc⟩
      · exact absurd rfl c
      cases hd with
      | @tup a xs _ hs ha =>
        refine ⟨_, rfl, a, rfl, ⟨_, hs⟩, fun D nD => ?_⟩
        have hlen := dps_length ha
        refine lc_tup (xs := xs) (fun i H' => Same H H' ∧ H' D = some (.lst (((ds.take i).map (sz k)).map V.int))) ⟨Same.new nD, upd_same⟩ (fun i H' _ p => (Nd.of p.1).sqt hs) (fun i x H' hx p => ?_) (fun H' p => ?_)
        · obtain ⟨e, hD⟩ := p
          obtain ⟨d1, hd1, hp1⟩ := dps_get ha hx
          have hi : i < ds.length := (List.getElem?_eq_some_iff.mp hd1).1
          have hm : d1 ∈ ds := List.mem_of_getElem? hd1
          have et : ds.take (i + 1) = ds.take i ++ [d1] := by rw [List.take_add_one, hd1]; rfl
          have fin : ∀ H4, Same H' H4 → ∃ acc, H4 D = some (.lst acc) ∧ acc.length < sizeLine ∧ (Same H (upd H4 D (.lst (acc ++ [V.int (sz k d1)]))) ∧ upd H4 D (.lst (acc ++ [V.int (sz k d1)])) D = some (.lst (((ds.take (i + 1)).map (sz k)).map V.int))) := fun H4 e4 => by
            refine ⟨_, e4 _ _ hD, ?_, Same.mut (e.trans e4) nD, ?_⟩
            · rw [List.length_map, List.length_map, List.length_take]
              exact Nat.lt_of_le_of_lt (Nat.min_le_right _ _) (Nat.lt_of_le_of_lt hl (by decide))
            · rw [upd_same, et, List.map_append, List.map_append]
              rfl
          refine ⟨rfl, lcT ?_⟩
          refine ⟨_, rfl, _, d1, rfl, (Nd.of e).d hp1, _, rfl, ?_⟩
          refine ite2 (fun c1 => ?_) (fun c1 => ?_)
          · have e1 : sz k d1 = 1 := by cases d1 <;> first | exact absurd c1 Bool.false_ne_true | (cases k <;> rfl)
            rw [e1] at fin
            exact fin H' (Same.refl H')
          · exact ⟨_, rfl, x, d1, rfl, (Nd.of e).d hp1, hc d1 hm, fun H4 e4 => fin H4 e4⟩
        · obtain ⟨e, hD⟩ := p
          rw [show xs.length = ds.length from hlen, List.take_length] at hD
          refine ⟨_, _, rfl, SqL.of hD, _, _, rfl, rfl, ?_⟩
          exact q H' e
theorem ok_parts (F : Fun K "parts_in" "parts_in" S_parts_in f fd) (B : Blt mg) (b : Binds K fd P_parts_in []) (m : mg "parts_in" = some (.ref f)) : ∀ n : Nat, FnOk P w K mg base CX0 n f fd P_parts_in (spCount K sz n)
  | 0 => fnok_no
  | n + 1 => ok_parts_step F B ⟨f, fd, [], ok_parts F B b m n, F.kp, m, .nil, b⟩
abbrev S_levels_in : Stmt := top 80
abbrev N_levels_in : List Str := ["x", "levels"]
abbrev P_levels_in : List Str := ["x"]
theorem sc_levels_in : FnScope N_levels_in P_levels_in (defScope S_levels_in) := ⟨rfl, rfl, rfl, by decide +kernel, rfl, by decide +kernel, by decide +kernel⟩
theorem ok_levels {n : Nat} (F : Fun K "levels_in" "levels_in" S_levels_in f fd) (B : Blt mg) : FnOk P w K mg base CX0 1 f fd P_levels_in (spLevels K n) := by
  have nd := sc_levels_in.nd
  refine F.ok sc_levels_in (fun vs H Q E h => ?_) (fun cdv A outer s H vs Q E hr h => ?_)
  · obtain ⟨v, d, rfl, _⟩ := h
    rfl
  obtain ⟨v, d, rfl, hd, hf, hs, q⟩ := h
  refine ⟨_, (pss_cons (ps_set (i := 1) nd rfl (Or.inl rfl) pe_int)
    (pss_cons (ps_while PassesOwn.never (pt_not (pt_val (pe_callB (call_isiI K) (by rfl) B.isinstance (by decide +kernel) (pa_cons (pv 0) (pa_cons (pe_bltn (by rfl) B.int (by decide +kernel) (show RelV (.ty "int") (.type "int") from rfl)) pa_nil))))) (pss_cons (ps_set (i := 0) nd rfl (Or.inl rfl) (pe_ix ix_tup (pv 0) (pe_un un_neg pe_int) (fun _ _ => rfl)))
    (pss_one (ps_aug (i := 1) nd rfl (Or.inl rfl) pe_int ip_add))))
    (pss_one (ps_ret (pv 1))))), ?_⟩
  refine ⟨fun m σ H' => ∃ v d' l, σ = [some v, some (.int l)] ∧ Dp K H' v d' ∧ Fm m d' ∧ Sp_ m d' ∧ l + lv m d' = lv n d ∧ Same H H', ⟨n, v, d, 0, rfl, hd, hf, hs, by omega, Same.refl H⟩, ?_⟩
  rintro m σ H' ⟨v, d', l, rfl, hd', hf', hs', ht', e⟩
  refine ⟨_, rfl, _, d', rfl, hd', _, rfl, ?_⟩
  cases m with
  | zero =>
    obtain ⟨i, rfl⟩ := hf'
    have z : lv 0 (.int i) = 0 := rfl
    refine iteF ?_
    refine ⟨_, rfl, ?_⟩
    rw [z, Int.add_zero] at ht'
    rw [ht']
    exact q H' e
  | succ k =>
    rcases hf' with ⟨i, rfl⟩ | ⟨ds, rfl, hl, hc⟩
    · have z : lv (k + 1) (.int i) = 0 := rfl
      refine iteF ?_
      refine ⟨_, rfl, ?_⟩
      rw [z, Int.add_zero] at ht'
      rw [ht']
      exact q H' e
    · refine iteT ?_
      obtain ⟨dl, el, _, hs2⟩ := hs'
      cases hd' with
      | @tup a xs _ hsq ha =>
        obtain ⟨ini, rfl⟩ : ∃ ini, ds = ini ++ [dl] := List.getLast?_eq_some_iff.mp el
        obtain ⟨x, ex, hx⟩ := dps_last ha
        refine ⟨fun σ' H'' => ∃ v d' l, σ' = [some v, some (.int l)] ∧ Dp K H'' v d' ∧ Fm k d' ∧ Sp_ k d' ∧ l + lv k d' = lv n d ∧ Same H H'', fun σ' H'' h => ⟨k, Nat.lt_succ_self k, h⟩, ?_⟩
        refine ⟨_, rfl, _, rfl, a, _, _, _, rfl, rfl, hsq, ex, ?_⟩
        refine ⟨_, rfl, _, _, rfl, rfl, ?_⟩
        refine ⟨x, dl, l + 1, rfl, hx, hc dl (List.mem_append_right _ List.mem_cons_self), hs2, ?_, e⟩
        have z : lv (k + 1) (.tuple (ini ++ [dl])) = 1 + lv k dl := by
          show (match (ini ++ [dl]).getLast? with | some d => 1 + lv k d | none => 1) = _
          rw [el]
        omega
abbrev S_judged : Stmt := top 81
abbrev N_judged : List Str := ["x", "parts", "levels"]
abbrev P_judged : List Str := ["x"]
theorem sc_judged : FnScope N_judged P_judged (defScope S_judged) := ⟨rfl, rfl, rfl, by decide +kernel, rfl, by decide +kernel, by decide +kernel⟩
def spJudged (K : PySem.W.Frag) (n : Nat) : Sp := fun vs H Q _ => ∃ (v : V) (d : PyData), vs = [v] ∧ Dp K H v d ∧ Fm n d ∧ Sp_ n d ∧ sz n d ≤ 2000 ∧ lv n d ≤ 6 ∧ ∀ H' : Hp, Same H H' → Q v H'
theorem ok_judged {n : Nat} {tk tk2 : Tok} (F : Fun K "judged" "judged" S_judged f fd) (B : Blt mg) (MP : mg "MOST_PARTS" = some (.int 2000 tk)) (MLv : mg "MOST_LEVELS" = some (.int 6 tk2)) (Cparts_in : Has P w K mg base (n + 1) "parts_in" P_parts_in [] (spCount K sz (n + 1))) (Clevels_in : Has P w K mg base 1 "levels_in" P_levels_in [] (spLevels K n)) :
    FnOk P w K mg base CX0 (n + 2) f fd P_judged (spJudged K n) := by
  have nd := sc_judged.nd
  refine F.ok sc_judged (fun vs H Q E h => ?_) (fun cdv A outer s H vs Q E hr h => ?_)
  · obtain ⟨v, d, rfl, _⟩ := h
    rfl
  obtain ⟨v, d, rfl, hd, hf, hs, hz, hl, q⟩ := h
  refine ⟨_, (C8.pss_cut (ps_if (pt_not (pt_val (pe_callB (call_isiI K) (by rfl) B.isinstance (by decide +kernel) (pa_cons (pv 0) (pa_cons (pe_bltn (by rfl) B.int (by decide +kernel) (show RelV (.ty "int") (.type "int") from rfl)) pa_nil))))) (pss_cons (ps_set (i := 1) nd rfl (Or.inl rfl) (pe_H Cparts_in (hr.mono (by omega)) rfl (pa_cons (pv 0) pa_nil)))
    (pss_cons (ps_set (i := 2) nd rfl (Or.inl rfl) (pe_H Clevels_in (hr.mono (by omega)) rfl (pa_cons (pv 0) pa_nil)))
    (pss_one (ps_if (PW.pt (pw_or (pt_cmpR op_gt (pv 1) (pe_glob (v := .int 2000) rfl MP ⟨_, rfl⟩) (nomark _)) (pw_or1 (pt_cmpR op_gt (pv 2) (pe_glob (v := .int 6) rfl MLv ⟨_, rfl⟩) (nomark _))))) (pss_one ps_never) pss_nil)))) pss_nil)
    (pss_one (ps_ret (pv 0)))), ?_⟩
  refine ⟨fun σ H' => (∃ z1 z2, σ = [some v, z1, z2]) ∧ Same H H', ?_, ?_⟩
  · refine ⟨_, rfl, _, d, rfl, hd, _, rfl, ?_⟩
    cases isI d with
    | true => exact iteF ⟨⟨_, _, rfl⟩, Same.refl H⟩
    | false =>
      refine iteT ?_
      refine ⟨_, rfl, v, d, rfl, hd, hf, fun H1 e1 => ?_⟩
      refine ⟨_, rfl, v, d, rfl, (Nd.of e1).d hd, hf, hs, fun H2 e2 => ?_⟩
      refine ⟨_, rfl, _, _, rfl, rfl, _, rfl, ?_⟩
      refine iteD (fun c => by omega) (fun _ => ?_)
      refine ⟨_, rfl, _, _, rfl, rfl, _, rfl, ?_⟩
      refine iteD (fun c => by omega) (fun _ => ?_)
      exact ⟨⟨_, _, rfl⟩, e1.trans e2⟩
  rintro σ H1 ⟨⟨z1, z2, rfl⟩, e⟩
  exact ⟨_, rfl, q H1 e⟩
end
end Fb
namespace Fb
open PySem L2 NdefX
/-! ### an __init__ that begins with super().__init__(e), two classes above ValueError -/
structure SxF (P : Program) (K : PySem.W.Frag) (mg : Str → Option Value) (C cc cda : Addr) (qual : Str) : Prop where
  cod : PySem.W.codeIn K (.ref cda) qual = true
  file : ∃ ccl cdd vs ccs file tf, K.lookup cda = some ⟨ccl, cdd, .fields vs, ccs⟩ ∧ vs[2]? = some (.str file tf) ∧ ((P.main.file : Str) == file) = true
  cell : ∃ cl cld csl, K.lookup cc = some ⟨cl, cld, .cell (some (.ref C)), csl⟩
  sup : PySem.W.ks_superIn K C C "__init__" = some (some (.builtin "ValueError.__init__"))
  subVE : PySem.W.subIn K (.ref C) (.type "ValueError") = some true
  mroS : PySem.W.mroIn K C (.ref C) = some true
  oex : OexC K C
  opq : PySem.W.nsIn K cStatics "thirdparty.any" = some none
  top : (P.main.scope.names.lookup ("super" : Str)).isSome = false
  mgS : mg "super" = none
/-- the built-in __init__ bound to an exception, called -/
theorem call_mwVE {prog : Program} {w : World} {A : Around} {E : Value → Shared → Prop} {h : Heap} {g : Array GenState} {d : Drawn} {t : Nat} {os : OsState} {nm q : Str} {C N : Addr} {bs bm : List Value} {hdct : Bool} {sn : List Str} {sub : List Value} {ab : Bool} {col : Option Bool} {dd : Option Addr} {k0 k1 k2 k3 k5 : Option Value}
    {u e t0 : Addr} {rest : List Value} {Q : Value → Shared → Prop}
    (hC : h.get? C = some (excClassObj nm q C N bs bm hdct sn sub ab col dd k0 k1 k2 k3 k5 "ValueError.__new__")) (he : h.get? e = some (HandSPX.excO C t0)) (hu : h.get? u = some (PySem.W.kxs_mw "ValueError.__init__" e)) (hrest : rest.length ≤ sizeLine)
    (hq : ∀ h' t1, (∀ b o, b ≠ e → h.get? b = some o → h'.get? b = some o) → h'.get? e = some (HandSPX.excO C t1) → Q .none ⟨h', g, d, t, os⟩) :
    wpAny (model prog w) A (call (.ref u) rest) Q E ⟨h, g, d, t, os⟩ := by
  refine wpAny_call (codeAny_of_tree ?_)
  show wpAny _ A.in1 (callAny (.ref u) ⟨rest, []⟩) _ _ _
  simp only [callAny]
  refine wpAny_bind (wpAny_load hu ?_)
  simp only [PySem.W.kxs_mw, show (Value.type "method-wrapper" == Value.type "method" || Value.type "method-wrapper" == Value.type "builtin_function_or_method" || Value.type "method-wrapper" == Value.type "method-wrapper") = true by decide, if_true]
  refine PySem.W.KFB.if_so (by decide) ?_
  refine wpAny_bind (PySem.W.check_bound_init F.excBase_ValueError.toExcCallFacts hC he rfl ?_)
  refine wpAny_bind (wpAny_pure (wpAny_pure ?_))
  refine ⟨Code.quiet_builtin _ (by decide +kernel), codeAny_builtin F.excBase_ValueError.initEntry ?_⟩
  rw [Around.under_plainId F.excBase_ValueError.init.plain _]
  exact PySem.W.exc_init_tree (cls := .ref C) (t0 := t0) (dv := none) (c2 := .none) (c3 := .none) (b4 := .bool false) he hrest fun h' k e' _ => hq h' h.objs.size k e'
abbrev sxN (qual : Str) (st : Stmt) (cc cda : Addr) : NF := ⟨"__init__", qual, defArgs st, defBody st, defScope st, [("__class__", cc)], cda⟩
abbrev sxFd (qual : Str) (st : Stmt) (cc cda : Addr) (kV doc pm : Value) (an : Option Addr) (ct : Value) : FuncData := PySem.W.fnX "__init__" qual (defArgs st) (defBody st) (defScope st) [("__class__", cc)] .none kV doc pm an (.ref cda) ct
theorem sx_ok {P : Program} {w : World} {K : PySem.W.Frag} {mg : Str → Option Value} {base : Heap} {k : Nat} {C f cc cda : Addr} {qual : Str} {st : Stmt} {N ps : List Str} {sp : Sp} {oc : Value} {od : Option Addr} {osl : Array (Option Value)} {kV doc pm ct : Value} {an : Option Addr}
    {p0 p1 ap cp ep : Pos} {e : Expr} {rest : List Stmt} {ar : Arg} {pl : Sem Bool}
    (T : SxF P K mg C cc cda qual) (lk : K.lookup f = some ⟨oc, od, .func (sxFd qual st cc cda kV doc pm an ct), osl⟩) (S : NScope N ps ["__class__"] (defScope st)) (hsu : (defScope st).names.lookup ("super" : Str) = some .globalImplicit)
    (hst : defBody st = .Expr (.Call (.Attribute (.Call (.Name "super" p0) [] [] p1) "__init__" ap) [e] [] cp) ep :: rest)
    (hi : ∀ L, interactive (envF (sxN qual st cc cda) f L) = false) (hs : ∀ L, swapsWith (.Call (.Attribute (.Call (.Name "super" p0) [] [] p1) "__init__" ap) [e] [] cp) none ep.line (envF (sxN qual st cc cda) f L) = pure false)
    (hcall : ∀ L, eval (.Call (.Attribute (.Call (.Name "super" p0) [] [] p1) "__init__" ap) [e] [] cp) (envF (sxN qual st cc cda) f L) = (do
      let ov ← attributeBase (.Call (.Name "super" p0) [] [] p1) "__init__" (envF (sxN qual st cc cda) f L) (eval (.Call (.Name "super" p0) [] [] p1) (envF (sxN qual st cc cda) f L))
      standAt ap.atName
      let (g, first) ← holding [ov] (getMethod ov "__init__" pl)
      callWith cp g first (backTo cp (starEach [e] (envF (sxN qual st cc cda) f L))) []))
    (hstar : ∀ L, starEach [e] (envF (sxN qual st cc cda) f L) = [(false, eval e (envF (sxN qual st cc cda) f L))])
    (hpar : ((defArgs st).posonlyargs ++ (defArgs st).args).head? = some ar) (har : ps[0]? = some ar.arg) (len : ∀ vs H Q E, sp vs H Q E → vs.length = ps.length)
    (hbody : ∀ (A : Around) (outer : List Env) (s : Shared) (H : Hp) (vs : List V) (Q : VK) (E : XK), Room k (A.deeper (envF (sxN qual st cc cda) f s.heap.objs.size)) → sp vs H Q E →
      ∃ a ws ta t, vs = V.ref a :: ws ∧ H a = some (exo a C none) ∧ PA (ncx CX0 P w K mg base N (sxN qual st cc cda) f A outer s H E) [e] ta ∧ PSs (ncx CX0 P w K mg base N (sxN qual st cc cda) f A outer s H E) rest t ∧
        ta (startF N vs [some (.ref C)]) H fun us H1 => us.length ≤ 1000 ∧ H1 a = some (exo a C none) ∧ t { nx := fun _ H' => Q .non H', rt := Q } (startF N vs [some (.ref C)]) H1) :
    FnOk P w K mg base CX0 (k + 1) f (sxFd qual st cc cda kV doc pm an ct) ps sp := by
  refine ⟨len, fun A outer s H args us vs Q E hr e0 hb r hsp => ?_⟩
  have hl := len _ _ _ _ hsp
  have KX : K.In s.heap := e0.mod.kin.keeps fun b o e => (e0.bs b o e).1
  have lim : s.heap.NoLimit := e0.mod.nolimit.keeps fun b o e => (e0.bs b o e).1
  obtain ⟨cl, cld, csl, hcell⟩ := T.cell
  have hcc := e0.bs _ _ (e0.mod.kin _ _ hcell)
  have CA : CellsAt (sxN qual st cc cda).cl ["__class__"] [some (.ref C)] s.heap H := by
    have key : ∀ y c, ([("__class__", cc)] : List (Str × Addr)).lookup y = some c → y = "__class__" ∧ c = cc := fun y c h => by
      by_cases hy : y = ("__class__" : Str)
      · subst hy
        exact ⟨rfl, (Option.some.inj (show some cc = some c from h)).symm⟩
      · rw [List.lookup_cons, show (y == ("__class__" : Str)) = false from beq_eq_false_iff_ne.mpr hy] at h
        cases h
    exact ⟨rfl, fun y c h => by
      obtain ⟨_, rfl⟩ := key y c h
      exact ⟨hcc.2, _, _, hcc.1, rfl⟩, fun x y c h1 h2 => (key x c h1).1.trans (key y c h2).1.symm, fun i y hy => by
      cases i with
      | zero =>
        cases hy
        exact ⟨cc, rfl, fun v hv => by cases hv; exact ⟨.ref C, rfl, _, hcc.1, rfl⟩⟩
      | succ i => cases hy⟩
  refine codeAny_call_function hr.depth (KX _ _ lk) rfl S.co S.gen rfl (PySem.W.codeRec_of KX T.cod) (hb _ _ _ _ ?_)
  refine wpAny_newFunctionEnv S.nocell (fun ⟨n, _⟩ hy => S.par n (List.of_mem_zip hy).1) (fun h₁ hns hsb => ⟨lim.fresh _ hsb, ?_⟩) S.kind
  show codeAny _ _ (.func (sxN qual st cc cda).body (envF (sxN qual st cc cda) f s.heap.objs.size)) _ _
  refine ks_codeAny_funcAt ?_
  have kp : ∀ b o, s.heap.get? b = some o → h₁.get? b = some o := fun b o e => hsb.extBut b o (Nat.ne_of_lt (Heap.lt_size e)) (Heap.get?_push_of_some _ e)
  obtain ⟨a, ws, ta, t, rfl, ha, hpa, ht, hq⟩ := hbody A outer s H _ Q E (hr.deeper _) hsp
  have I : Inv (ncx CX0 P w K mg base N (sxN qual st cc cda) f A outer s H E) [] (startF N (V.ref a :: ws) [some (.ref C)]) H { s with heap := h₁, toks := s.toks + (ps.zip us).length } := inv_startN S hr.hd e0 hl r CA hns kp
  show _root_.PySem.wpAt (model P w) (A.deeper (envF (sxN qual st cc cda) f s.heap.objs.size)) (.func (defBody st) (envF (sxN qual st cc cda) f s.heap.objs.size)) (execs (defBody st) (envF (sxN qual st cc cda) f s.heap.objs.size)) _ _ _
  have fin : ∀ {σ' : L2.St} {H' : Hp} {v : V} {u : Value} {s' : Shared}, Inv (ncx CX0 P w K mg base N (sxN qual st cc cda) f A outer s H E) [] σ' H' s' → L2.RelV v u → Q v H' → CE outer P w H s Q u s' :=
    fun {σ' H' v u s'} J rv q => ⟨v, H', J.os, J.bare, J.base, J.hok, rv, q⟩
  -- what follows the first statement
  have restOk : ∀ (H1 : Hp) (s1 : Shared), Inv (ncx CX0 P w K mg base N (sxN qual st cc cda) f A outer s H E) [] (startF N (V.ref a :: ws) [some (.ref C)]) H1 s1 → t { nx := fun _ H' => Q .non H', rt := Q } (startF N (V.ref a :: ws) [some (.ref C)]) H1 →
      wpAny (model P w) (A.deeper (envF (sxN qual st cc cda) f s.heap.objs.size)) (execs rest (envF (sxN qual st cc cda) f s.heap.objs.size)) (fun f s' => CR CX0 outer P w H s Q E (.ok (.ret (match f with | .ret v => v | _ => .none))) s')
        (fun e s' => wpAny (model P w) (A.deeper (envF (sxN qual st cc cda) f s.heap.objs.size)) (leaving (envF (sxN qual st cc cda) f s.heap.objs.size) e) (fun _ s'' => CR CX0 outer P w H s Q E (.error e) s'') (fun e' s'' => CR CX0 outer P w H s Q E (.error e') s'') s') s1 := fun H1 s1 I1 q1 => by
    refine wpAny_mono (ht.run [] _ _ H1 _ I1 q1) (fun fl s' hs => ?_) fun e s' hs => hs
    cases fl with
    | ret u =>
      obtain ⟨v, σ', H', J, rv, q⟩ := hs
      exact fin J rv q
    | next =>
      obtain ⟨σ', H', J, q⟩ := hs
      exact fin (v := V.non) (u := Value.none) J rfl q
    | brk =>
      obtain ⟨_, _, _, q⟩ := hs
      exact False.elim q
    | cont =>
      obtain ⟨_, _, _, q⟩ := hs
      exact False.elim q
  rw [hst]
  generalize hX : ncx CX0 P w K mg base N (sxN qual st cc cda) f A outer s H E = X at *
  refine ks_wpAt_execs_cons (ks_wpAt_Expr_any ?_ (hi _) (hs _))
  refine ks_wpAt_MethodCall (pl := pl) ?_ (hcall _)
  obtain ⟨ccl, cdd, vs0, ccs, file, tf, hcode, hvs, hfile⟩ := T.file
  obtain ⟨nm, q, NN, bs, bm, sn, sub, ab, col, dd, k0, k1, k2, k3, k5, hC, hbm⟩ := T.oex.cls
  obtain ⟨t1, hae⟩ := exo_at I.hok ha
  have KX1 : K.In h₁ := KX.keeps kp
  have hCo := KX1 _ _ hC
  obtain ⟨mb, hb1, hb2⟩ := e0.mod.blt
  have bk : ∀ b o, base.get? b = some o → h₁.get? b = some o := fun b o z => kp _ _ (e0.bs b o z).1
  have hself : (fun y => (ps.zip us).reverse.lookup y) ar.arg = some (.ref a) := by
    cases r with
    | @cons _ u0 _ ur ra rw' =>
      obtain rfl : u0 = Value.ref a := ra
      refine zip_look (i := 0) ?_ har rfl
      have q := S.nd.sublist (List.take_sublist (ps.length + [("__class__" : Str)].length) N)
      rw [S.pre] at q
      exact (List.nodup_append.mp q).1
  refine ks_wpAt_super_base (env := envF (sxN qual st cc cda) f s.heap.objs.size) hsu (S.frk _ (List.mem_singleton.mpr rfl)) (by decide) rfl (KX1 _ _ lk) rfl hpar rfl (KX1 _ _ hcode) rfl hvs hfile T.top ?_
  refine PySem.W.ks_loadName_global S.kind hsu (Calls.loadGlobal_builtin (env := envF (sxN qual st cc cda) f s.heap.objs.size) (e0.mod.glob.keeps bk) T.mgS (hb1.keeps bk) ((hb2 _ (by decide)).trans (by decide +kernel)) ⟨rfl, ?_⟩)
  refine wpAny_loadName_free S.kind (S.frk _ (List.mem_singleton.mpr rfl)) rfl ⟨_, KX1 _ _ hcell, rfl⟩ ?_
  refine wpAny_loadName_local S.kind (S.par _ (List.mem_of_getElem? har)) hns hself ?_
  have hcl : PySem.W.clsIn K C = some { name := nm, bases := bs, mro := .ref C :: bm, ns := NN, qualname := q, hasDict := true, slotNames := sn, subclasses := sub, abstract := ab, collection := col, hasDel := false } := by unfold PySem.W.clsIn; rw [hC] <;> rfl
  refine ks_wpAny_isType_cls hCo rfl ⟨rfl, ?_⟩
  have IA : PySem.W.InstAt h₁ a { cls := .ref C, dict := none, data := .fields #[.ref t1, .none, .none, .none, .bool false, .none] } C none := ⟨hae, rfl, rfl, trivial⟩
  refine ks_wpAny_call_super hCo rfl hae rfl (fun c e => by cases e) (PySem.W.looks_mroIn KX1 T.mroS) (fun h2 hso k2 => ?_)
  have KX2 : K.In h2 := KX1.keeps k2
  have hsup := T.sup
  unfold PySem.W.ks_superIn at hsup
  rw [hcl] at hsup
  have hae2 := k2 _ _ hae
  have IA2 : PySem.W.InstAt h2 a { cls := .ref C, dict := none, data := .fields #[.ref t1, .none, .none, .none, .bool false, .none] } C none := ⟨hae2, rfl, rfl, trivial⟩
  have hane : a ≠ C := PySem.W.ks_ne KX2 IA2 hcl
  refine PySem.W.kxs_getMethod PySem.W.kxs_ValueError hso (PySem.W.looks_opaque KX2 T.opq) (l₀ := .ref C :: bm) ?_ rfl KX2 hsup (IA2.type.andThen (PySem.W.looks_subIn KX2 T.subVE)) hane (by decide) ?_
  · exact fun A Q E s k q => wpAny_bind ((PySem.W.looks_clsIn KX2 hcl) A _ E s k (wpAny_pure q))
  have kp2 : ∀ b o, h₁.get? b = some o → (h2.push (PySem.W.kxs_mw "ValueError.__init__" a)).get? b = some o := fun b o z => Heap.get?_push_of_some _ (k2 b o z)
  have I2 := I.kept (t' := s.toks + (ps.zip us).length + 1) kp2
  have hu : (h2.push (PySem.W.kxs_mw "ValueError.__init__" a)).get? h2.objs.size = some (PySem.W.kxs_mw "ValueError.__init__" a) := Heap.get?_push_at rfl rfl
  have hsz : h₁.objs.size ≤ h2.objs.size := Nat.le_of_lt (Heap.lt_size hso)
  have I3 : Inv X [(h2.objs.size, PySem.W.kxs_mw "ValueError.__init__" a)] (startF N (V.ref a :: ws) [some (.ref C)]) H _ := I2.pins_of fun p hp => by
    rcases List.mem_singleton.mp hp with rfl
    refine ⟨hu, I.hok.fresh hsz, ?_, I.nofs hsz, fun v z => by cases z⟩
    exact fun z => by have := I.lt; rw [← z] at this; exact absurd this (Nat.not_lt.mpr hsz)
  rw [hstar]
  refine PySem.W.kxs_callWith (i := "ValueError.__init__") (x := a) rfl ?_
  refine Calls.evalArgs_plain ?_
  subst hX
  have hrun := hpa.run cp _ _ _ H _ I3 hq
  rw [show starEach [e] (ncx CX0 P w K mg base N (sxN qual st cc cda) f A outer s H E).env = [(false, eval e (envF (sxN qual st cc cda) f s.heap.objs.size))] from hstar _] at hrun
  refine thn hrun fun us1 s1 ⟨vs1, H1, J, r1, hl1, ha1, q1⟩ => ?_
  have hmw := (J.pin (h2.objs.size, PySem.W.kxs_mw "ValueError.__init__" a) (List.mem_singleton.mpr rfl)).1
  refine ⟨hmw, ?_⟩
  obtain ⟨t2, hae3⟩ := exo_at J.hok ha1
  have hC3 := J.kIn _ _ hC
  have hus : us1.length ≤ sizeLine := by
    rw [← Paired.length r1, sizeLine_eq]
    omega
  obtain ⟨h3, g3, d3, tk3, os3⟩ := s1
  refine call_mwVE hC3 hae3 hmw hus fun h4 t4 k4 hx4 => ?_
  have L := J.write (t' := tk3) (x := a) (e := a) (o := exo a C none) (by rw [ha1]; exact True.intro) (.inl rfl) k4 ⟨_, hx4⟩ (exo_ok hx4)
  have eu : upd H1 a (exo a C none) = H1 := by
    funext b
    by_cases hb : b = a
    · rw [hb, upd_same, ha1]
    · rw [upd_ne hb]
  rw [eu] at L
  have L0 := L.pins_of (pins' := []) fun p hp => absurd (show p ∈ ([] : List (Addr × Obj)) from hp) (by simp)
  exact wpAt_of_wpAny (restOk H1 _ L0 q1)
end Fb
namespace Fb
open PySem L2 NdefX
def spErr (C : Addr) (fs : List Str) (good : List V → Prop) : Sp := fun vs H Q _ => ∃ a ws, vs = V.ref a :: ws ∧ ws.length = fs.length ∧ good ws ∧ H a = some (exo a C none) ∧
  ∀ d, H d = none → d ≠ a → Q .non (upd (upd H d (exd d (fs.zip ws).reverse)) a (exo a C (some d)))
structure SxT (st : Stmt) (f cc cda : Addr) (qual : Str) (e : Expr) (rest : List Stmt) : Prop where
  ex : ∃ (p0 p1 ap cp ep : Pos) (pl : Sem Bool), defBody st = .Expr (.Call (.Attribute (.Call (.Name "super" p0) [] [] p1) "__init__" ap) [e] [] cp) ep :: rest ∧
    (∀ L, interactive (envF (sxN qual st cc cda) f L) = false) ∧ (∀ L, swapsWith (.Call (.Attribute (.Call (.Name "super" p0) [] [] p1) "__init__" ap) [e] [] cp) none ep.line (envF (sxN qual st cc cda) f L) = pure false) ∧
    (∀ L, eval (.Call (.Attribute (.Call (.Name "super" p0) [] [] p1) "__init__" ap) [e] [] cp) (envF (sxN qual st cc cda) f L) = (do
      let ov ← attributeBase (.Call (.Name "super" p0) [] [] p1) "__init__" (envF (sxN qual st cc cda) f L) (eval (.Call (.Name "super" p0) [] [] p1) (envF (sxN qual st cc cda) f L))
      standAt ap.atName
      let (g, first) ← holding [ov] (getMethod ov "__init__" pl)
      callWith cp g first (backTo cp (starEach [e] (envF (sxN qual st cc cda) f L))) [])) ∧
    (∀ L, starEach [e] (envF (sxN qual st cc cda) f L) = [(false, eval e (envF (sxN qual st cc cda) f L))])
  su : (defScope st).names.lookup ("super" : Str) = some .globalImplicit
  par : ∃ ar, ((defArgs st).posonlyargs ++ (defArgs st).args).head? = some ar ∧ ar.arg = "self"
theorem upd_swap {H : Hp} {a b : Addr} {o u : HO} (h : a ≠ b) : upd (upd H a o) b u = upd (upd H b u) a o := by
  funext x
  by_cases h1 : x = b
  · subst h1; rw [upd_same, upd_ne (Ne.symm h), upd_same]
  · by_cases h2 : x = a
    · subst h2; rw [upd_ne h1, upd_same, upd_same]
    · rw [upd_ne h1, upd_ne h2, upd_ne h2, upd_ne h1]
theorem upd_twice {H : Hp} {a : Addr} {o u : HO} : upd (upd H a o) a u = upd H a u := by
  funext x
  by_cases h1 : x = a
  · subst h1; rw [upd_same, upd_same]
  · rw [upd_ne h1, upd_ne h1, upd_ne h1]
section
variable {P : Program} {w : World} {K : PySem.W.Frag} {mg : Str → Option Value} {base : Heap} {C f cc cda : Addr} {qual : Str} {st : Stmt} {oc : Value} {od : Option Addr} {osl : Array (Option Value)} {kV doc pm ct : Value} {an : Option Addr} {e : Expr} {good : List V → Prop}
theorem err1_ok {fld p : Str} {q1 q2 q3 q4 : Pos} (T : SxF P K mg C cc cda qual) (lk : K.lookup f = some ⟨oc, od, .func (sxFd qual st cc cda kV doc pm an ct), osl⟩) (S : NScope ["self", p, "__class__"] ["self", p] ["__class__"] (defScope st))
    (W : SxT st f cc cda qual e [.Assign [.Attribute (.Name "self" q1) fld q2] (.Name p q3) q4]) (no : PySem.W.findIn K (.ref C) fld = some none)
    (pd : (p == ("__debug__" : Str)) = false) (pc : (p == ("__classdict__" : Str)) = false) (hsw : ∀ L, swapsWith (.Name p q3) (some (.Attribute (.Name "self" q1) fld q2)) q4.line (envF (sxN qual st cc cda) f L) = pure false)
    (hmsg : ∀ (A : Around) (outer : List Env) (s : Shared) (H : Hp) (E : XK), ∃ ta, PA (ncx CX0 P w K mg base ["self", p, "__class__"] (sxN qual st cc cda) f A outer s H E) [e] ta ∧
      ∀ (a : Addr) (v : V) (H : Hp) (Q : List V → Hp → Prop), good [v] → (∀ z, Q [.str z] H) → ta [some (.ref a), some v, some (.ref C)] H Q) :
    FnOk P w K mg base CX0 1 f (sxFd qual st cc cda kV doc pm an ct) ["self", p] (spErr C [fld] good) := by
  obtain ⟨p0, p1, ap, cp, ep, pl, h1, h2, h3, h4, h5⟩ := W.ex
  obtain ⟨ar, h6, h7⟩ := W.par
  refine sx_ok (pl := pl) T lk S W.su h1 h2 h3 h4 h5 h6 (by rw [h7]; rfl) (fun vs H Q E h => ?_) (fun A outer s H vs Q E hr h => ?_)
  · obtain ⟨a, ws, rfl, hl, _⟩ := h
    show ws.length + 1 = 2
    rw [hl]; rfl
  · obtain ⟨a, ws, rfl, hl, hg, ha, q⟩ := h
    match ws, hl with
    | [v], _ =>
    obtain ⟨ta, h8, h9⟩ := hmsg A outer s H E
    refine ⟨a, [v], ta, _, rfl, ha, h8, pss_one (ps_ost (pe_var (i := 0) rfl (.inl (S.par _ (by simp)))) (pe_var (i := 1) rfl (.inl (S.par _ (by simp))) pd pc) (hsw _)), ?_⟩
    refine h9 a v H _ hg fun z => ⟨(by show 1 ≤ 1000; decide), ha, ?_⟩
    refine ⟨_, rfl, _, rfl, a, C, rfl, T.oex, no, .inl ⟨ha, fun d hd hda => ?_⟩⟩
    exact q d hd hda
end
structure Err (P : Program) (w : World) (K : PySem.W.Frag) (mg : Str → Option Value) (base : Heap) (x : Str) (C : Addr) (fs : List Str) (good : List V → Prop) : Prop where
  oex : OexC K C
  xf : XfC K C
  gC : mg x = some (.ref C)
  ini : ∃ fI fd ps, PySem.W.findIn K (.ref C) "__init__" = some (some (.ref fI)) ∧ PySem.W.typeIn K (.ref fI) = some (.type "function") ∧ FnOk P w K mg base CX0 1 fI fd ps (spErr C fs good) ∧ Binds K fd ps []
  te : PySem.W.exmOne K (.ref C) (.ref C) = some true
theorem pmk_err {X : Cx} {x : Str} {C : Addr} {fs : List Str} {good : List V → Prop} {e : Expr} {es : List Expr} {ta : TA} {p pos : Pos} (T : Err X.prog X.w X.K X.mg X.base x C fs good) (hr : Room 2 X.A) (hg : Gl X x) (ha : PA X (e :: es) ta)
    (hdb : (x == ("__debug__" : Str)) = false := by decide) (he : starEach (e :: es) X.env = (false, eval e X.env) :: starEach es X.env := by rfl) (hpl : (backTo pos (starEach es X.env)).any (·.1) = false := by rfl) :
    PMk X (.Call (.Name x p) (e :: es) [] pos) (tMkO C (spErr C fs good) [] ta) := by
  obtain ⟨fI, fd, ps, iC, tI, F1, hb⟩ := T.ini
  exact pmk_oex (x := x) (p := p) (pos := pos) T.oex iC tI F1 hr hb .nil pass0 hg T.gC ha hdb he hpl
theorem err_mk {C : Addr} {fs : List Str} {good : List V → Prop} {vs : List V} {H1 : Hp} {Q : XK} (hl : vs.length = fs.length) (hf : fs.length ≤ 10) (hg : good vs) (h : ∀ d, H1 d = none → Q (.ref C) (some d) (upd H1 d (.xd (fs.zip vs).reverse))) :
    vs.length ≤ 1000 ∧ ∀ a, H1 a = none → spErr C fs good (.ref a :: (vs ++ [])) (upd H1 a (exo a C none))
      (fun v H2 => v = .non ∧ ∃ (d : Addr) (fs : List (Str × V)), H2 a = some (exo a C (some d)) ∧ H2 d = some (exd d fs) ∧ H1 d = none ∧ Q (.ref C) (some d) (upd (del H2 a) d (.xd fs))) (fun _ _ _ => False) := by
  refine ⟨by omega, fun a ha => ⟨a, vs, by rw [List.append_nil], hl, hg, upd_same, fun d hd hda => ⟨rfl, d, (fs.zip vs).reverse, upd_same, by rw [upd_ne hda, upd_same], ?_, ?_⟩⟩⟩
  · rw [upd_ne hda] at hd; exact hd
  · have hd1 : H1 d = none := by rw [upd_ne hda] at hd; exact hd
    have q := h d hd1
    have e : upd (del (upd (upd (upd H1 a (exo a C none)) d (exd d (fs.zip vs).reverse)) a (exo a C (some d))) a) d (.xd (fs.zip vs).reverse) = upd H1 d (.xd (fs.zip vs).reverse) := by
      funext x
      by_cases h1 : x = d
      · subst h1; rw [upd_same, upd_same]
      · rw [upd_ne h1, upd_ne h1]
        by_cases h2 : x = a
        · subst h2; rw [del_same, ha]
        · rw [del_ne h2, upd_ne h2, upd_ne h1, upd_ne h2]
    rw [e]
    exact q
end Fb
namespace Fb
open PySem L2 NdefX PySem.Spec PyProof.Rows
/-! ### defs that raise -/
structure HasX (P : Program) (w : World) (K : PySem.W.Frag) (mg : Str → Option Value) (base : Heap) (k : Nat) (x : Str) (ps : List Str) (sp : Sp) : Prop where
  ex : ∃ f fd, FnOk P w K mg base (L2.CX P w) k f fd ps sp ∧ PySem.W.keepIn K (.ref f) = true ∧ mg x = some (.ref f) ∧ Binds K fd ps []
theorem pe_HX {X : Cx} {W : WX} {k : Nat} {x : Str} {ps : List Str} {sp : Sp} {e : Expr} {es : List Expr} {t : TA} {p pos : Pos} (C : HasX X.prog X.w X.K X.mg X.base k x ps sp) (tk : Takes X W) (hr : Room k X.A) (hg : Gl X x) (ha : PA X (e :: es) t)
    (hdb : (x == ("__debug__" : Str)) = false := by decide) (he : starEach (e :: es) X.env = (false, eval e X.env) :: starEach es X.env := by rfl) (hpl : (backTo pos (starEach es X.env)).any (·.1) = false := by rfl) :
    PE X (.Call (.Name x p) (e :: es) [] pos) (tCallS sp (fun σ => WE W σ) t) := by
  obtain ⟨f, fd, F, kp, hm, hb⟩ := C.ex
  exact pe_callS F hr hg hm kp hb (fun σ => passAt tk σ) ha hdb he hpl
/-! ### isinstance of a caught error that has fields -/
def rIsEd (K : PySem.W.Frag) (D a : Addr) (cls : Value) (d : Option Addr) : List V → Hp → VK → Prop := fun xs H Q => ∃ (c : V) (cv : Value) (b : Bool) (dd : Addr) (fs : List (Str × V)), xs = [.ref a, c] ∧ cls = .ref D ∧ d = some dd ∧ H dd = some (.xd fs) ∧ (∀ u, RelV c u → u = cv) ∧ PySem.W.kitOne K (.ref D) cv = some b ∧ Q (.bl b) H
theorem call_isEd {X : Cx} {a D : Addr} {oe : Obj} {cls : Value} {d : Option Addr} {pn : List (Addr × Obj)} (C : L2.ExcC X.K D) (hz : Zc cls d oe) (hf : ∃ vs, oe.data = .fields vs) : CallR (X.suite a ((a, oe) :: pn)) (.builtin "isinstance") (rIsEd X.K D a cls d) := by
  intro pins s σ H xs us Q I r h
  obtain ⟨c, cv, b, dd, fs, rfl, rfl, rfl, hd, hcv, e, q⟩ := h
  cases r with
  | cons rx rr =>
    cases rr with
    | cons rt rr =>
      cases rr
      cases rx
      have ec := hcv _ rt
      subst ec
      obtain ⟨hget, _⟩ := I.pin (a, oe) (List.mem_append.mpr (.inl List.mem_cons_self))
      obtain ⟨vs, hv⟩ := hf
      have hx : ObjOk X.prog X.w H s.heap dd (.xd fs) := I.hok dd _ hd
      obtain ⟨mA, hns, hr⟩ := hx
      obtain ⟨od, es, ep, ho, hl⟩ := hns
      have J : PySem.W.InstAt s.heap a oe D (some od) := by
        obtain ⟨oc, odd, oda, osl⟩ := oe
        obtain ⟨h1, h2⟩ := hz
        dsimp only at h1 h2 hv
        subst h1 h2 hv
        exact ⟨hget, rfl, rfl, ho⟩
      have hcl : (PySem.W.clsIn X.K D).isSome = true := by
        obtain ⟨cd, hc, _⟩ := PySem.W.any_some C.hd
        rw [hc]; rfl
      exact PySem.W.kia_one (PySem.W.kitx_exc hcl C.hg C.hk C.hs C.ha C.hn C.ht C.hm) I.kIn J e (fun z => nomatch z) fun tk => ⟨.bl b, H, I.kept (t' := tk) fun _ _ z => z, rfl, q⟩
/-! ### what K says of an error class two steps above ValueError -/
theorem exm_self {K : PySem.W.Frag} {S : Addr} (h1 : PySem.W.subIn K (.ref S) (.type "BaseException") = some true) (h2 : (PySem.W.clsIn K S).isSome = true) (h3 : PySem.W.typeIn K (.ref S) = some (.type "type")) (h4 : PySem.W.subIn K (.ref S) (.ref S) = some true) :
    PySem.W.exmOne K (.ref S) (.ref S) = some true := by
  have e1 : (PySem.W.subIn K (.ref S) (.type "BaseException") == some true) = true := by rw [h1] <;> rfl
  have e2 : ((PySem.W.clsIn K S).isSome && PySem.W.typeIn K (.ref S) == some (.type "type")) = true := by
    rw [h2, h3] <;> rfl
  show (if (PySem.W.subIn K (.ref S) (.type "BaseException") == some true) = true then (if ((PySem.W.clsIn K S).isSome && PySem.W.typeIn K (.ref S) == some (.type "type")) = true then PySem.W.subIn K (.ref S) (.ref S) else none) else none) = some true
  rw [if_pos e1, if_pos e2]
  exact h4
/-- isinstance(e, F), F a class of the program -/
theorem kit_ref {K : PySem.W.Frag} {C F : Addr} (h2 : (PySem.W.clsIn K F).isSome = true) (h3 : PySem.W.typeIn K (.ref F) = some (.type "type")) (h4 : PySem.W.subIn K (.ref C) (.ref F) = some true) : PySem.W.kitOne K (.ref C) (.ref F) = some true := by
  have e2 : ((PySem.W.clsIn K F).isSome && PySem.W.typeIn K (.ref F) == some (.type "type")) = true := by
    rw [h2, h3] <;> rfl
  unfold PySem.W.kitOne
  split
  · rfl
  · show (if ((PySem.W.clsIn K F).isSome && PySem.W.typeIn K (.ref F) == some (.type "type")) = true then PySem.W.subIn K (.ref C) (.ref F) else none) = some true
    rw [if_pos e2, h4]
theorem kit_ty {K : PySem.W.Frag} {C : Addr} {T : String} (h : PySem.W.kitMeta T = true) (h4 : PySem.W.subIn K (.ref C) (.type T) = some true) : PySem.W.kitOne K (.ref C) (.type T) = some true := by
  unfold PySem.W.kitOne
  rw [if_neg (by intro z; cases z)]
  show (if PySem.W.kitMeta T = true then PySem.W.subIn K (.ref C) (.type T) else none) = some true
  rw [if_pos h, h4]
structure ErrK (K : PySem.W.Frag) (C F fI cc cda : Addr) (qual : Str) : Prop where
  xC : ∃ nm q N bs sn sub ab col dd k0 k1 k2 k3 k5, K.lookup C = some (excClassObj nm q C N bs [.ref F, .type "ValueError", .type "Exception", .type "BaseException", .type "object"] true sn sub ab col dd k0 k1 k2 k3 k5 "ValueError.__new__")
  xF : ∃ nm q N bs sn sub ab col dd k0 k1 k2 k3 k5, K.lookup F = some (excClassObj nm q F N bs [.type "ValueError", .type "Exception", .type "BaseException", .type "object"] true sn sub ab col dd k0 k1 k2 k3 k5 "ValueError.__new__")
  fi : PySem.W.findIn K (.ref F) "__init__" = some (some (.builtin "ValueError.__init__"))
  sa : PySem.W.findIn K (.ref C) "__setattr__" = some (some (.builtin "object.__setattr__"))
  ga : PySem.W.findIn K (.ref C) "__getattribute__" = some (some (.builtin "BaseException.__getattribute__"))
  gg : PySem.W.findIn K (.ref C) "__getattr__" = some none
  gc : PySem.W.findIn K (.ref C) "__class__" = some (some (.builtin "object.__class__"))
  ia : PySem.W.findIn K (.ref C) "__init__" = some (some (.ref fI))
  it : PySem.W.typeIn K (.ref fI) = some (.type "function")
  exC : PySem.W.subIn K (.ref C) (.type "BaseException") = some true
  veC : PySem.W.subIn K (.ref C) (.type "ValueError") = some true
  suC : PySem.W.subIn K (.ref C) (.ref C) = some true
  suF : PySem.W.subIn K (.ref C) (.ref F) = some true
  tyC : PySem.W.typeIn K (.ref C) = some (.type "type")
  tyF : PySem.W.typeIn K (.ref F) = some (.type "type")
  kC : PySem.W.keepIn K (.ref C) = true
  mS : PySem.W.mroIn K C (.ref C) = some true
  mO : PySem.W.mroIn K C (.type "object") = some true
  sp : PySem.W.specialIn K (.builtin "object.__class__") "__get__" = some (some (.builtin "getset_descriptor.__get__"))
  tk : PySem.W.takesIn K (.builtin "object.__class__") = some true
  opq : PySem.W.nsIn K cStatics "thirdparty.any" = some none
  cod : PySem.W.codeIn K (.ref cda) qual = true
  cell : ∃ cl cld csl, K.lookup cc = some ⟨cl, cld, .cell (some (.ref C)), csl⟩
section
variable {P : Program} {w : World} {K : PySem.W.Frag} {mg : Str → Option Value} {base : Heap} {C F fI cc cda : Addr} {qual : Str}
theorem ErrK.cls (T : ErrK K C F fI cc cda qual) : (PySem.W.clsIn K C).isSome = true := by
  obtain ⟨_, _, _, _, _, _, _, _, _, _, _, _, _, _, h⟩ := T.xC
  unfold PySem.W.clsIn; rw [h]; rfl
theorem ErrK.clsF (T : ErrK K C F fI cc cda qual) : (PySem.W.clsIn K F).isSome = true := by
  obtain ⟨_, _, _, _, _, _, _, _, _, _, _, _, _, _, h⟩ := T.xF
  unfold PySem.W.clsIn; rw [h]; rfl
theorem ErrK.oex (T : ErrK K C F fI cc cda qual) : OexC K C := by
  obtain ⟨nm, q, N, bs, sn, sub, ab, col, dd, k0, k1, k2, k3, k5, h⟩ := T.xC
  exact ⟨⟨nm, q, N, bs, _, sn, sub, ab, col, dd, k0, k1, k2, k3, k5, h, rfl⟩, T.sa, T.exC, T.tyC, T.kC⟩
theorem ErrK.hd (T : ErrK K C F fI cc cda qual) : PySem.W.hasDictIn K C = true := by
  obtain ⟨nm, q, N, bs, sn, sub, ab, col, dd, k0, k1, k2, k3, k5, h⟩ := T.xC
  unfold PySem.W.hasDictIn PySem.W.clsIn
  rw [h]; rfl
theorem ErrK.xf (T : ErrK K C F fI cc cda qual) : XfC K C := ⟨T.ga, T.gg, T.exC, T.hd⟩
theorem ErrK.ec (T : ErrK K C F fI cc cda qual) : L2.ExcC K C := ⟨T.ga, T.gg, T.exC, T.hd, T.gc, T.sp, T.tk, T.mO⟩
theorem ErrK.te (T : ErrK K C F fI cc cda qual) : PySem.W.exmOne K (.ref C) (.ref C) = some true := exm_self T.exC T.cls T.tyC T.suC
theorem ErrK.isF (T : ErrK K C F fI cc cda qual) : PySem.W.kitOne K (.ref C) (.ref F) = some true := kit_ref T.clsF T.tyF T.suF
theorem ErrK.isVE (T : ErrK K C F fI cc cda qual) : PySem.W.kitOne K (.ref C) (.type "ValueError") = some true := kit_ty (by decide +kernel) T.veC
theorem ErrK.sup (T : ErrK K C F fI cc cda qual) : PySem.W.ks_superIn K C C "__init__" = some (some (.builtin "ValueError.__init__")) := by
  obtain ⟨nm, q, N, bs, sn, sub, ab, col, dd, k0, k1, k2, k3, k5, h⟩ := T.xC
  obtain ⟨nm', q', N', bs', sn', sub', ab', col', dd', k0', k1', k2', k3', k5', h'⟩ := T.xF
  have fi := T.fi
  unfold PySem.W.findIn at fi
  dsimp only at fi
  rw [h'] at fi
  unfold PySem.W.ks_superIn PySem.W.clsIn
  rw [h]
  have e : (Value.ref C != Value.ref C) = false := by simp
  show PySem.W.alongIn K "__init__" ((List.dropWhile (fun x => x != Value.ref C) (Value.ref C :: [.ref F, .type "ValueError", .type "Exception", .type "BaseException", .type "object"])).drop 1) = _
  rw [List.dropWhile_cons, e]
  exact fi
theorem ErrK.sx (T : ErrK K C F fI cc cda qual) (file : ∃ ccl cdd vs ccs file tf, K.lookup cda = some ⟨ccl, cdd, .fields vs, ccs⟩ ∧ vs[2]? = some (.str file tf) ∧ ((P.main.file : Str) == file) = true)
    (top : (P.main.scope.names.lookup ("super" : Str)).isSome = false) (mgS : mg "super" = none) : SxF P K mg C cc cda qual :=
  ⟨T.cod, file, T.cell, T.sup, T.veC, T.mS, T.oex, T.opq, top, mgS⟩
theorem ErrK.err {x : Str} {fs : List Str} {good : List V → Prop} {fd : FuncData} {ps : List Str} (T : ErrK K C F fI cc cda qual) (gC : mg x = some (.ref C)) (F1 : FnOk P w K mg base CX0 1 fI fd ps (spErr C fs good)) (hb : Binds K fd ps []) : Err P w K mg base x C fs good :=
  ⟨T.oex, T.xf, gC, ⟨fI, fd, ps, T.ia, T.it, F1, hb⟩, T.te⟩
end
end Fb
namespace Fb
open PySem L2 PySem.Spec PyProof.Rows
/-! ### a def called where no guard stands (the law's own) -/
def FnG (P : Program) (w : World) (K : PySem.W.Frag) (mg : Str → Option Value) (base : Heap) (k : Nat) (f : Addr) (fd : FuncData) (ps : List Str) (sp : Sp) : Prop :=
  ∀ (B : Around) (os : List Env) (s : Shared) (H : Hp) (ar : Args) (us : List Value) (vs : List V) (R : VK) (T : XK), Room k B → B.guards = some [] → Env0 P w K mg base B os s H → BindsTo s fd ar (ps.zip us) → Vals vs us → sp vs H R T →
    codeAny (model P w) B (.call (.ref f) ar) (CR CX0 os P w H s R T) s
theorem fng_of {P : Program} {w : World} {K : PySem.W.Frag} {mg : Str → Option Value} {base : Heap} {x qual : Str} {st : Stmt} {f : Addr} {fd : FuncData} {N ps : List Str} {k : Nat} {sp : Sp} (F : Fun K x qual st f fd) (S : FnScope N ps (defScope st)) (len : ∀ vs H R T, sp vs H R T → vs.length = ps.length)
    (go : ∀ (cdv : Value) (B : Around) (os : List Env) (s : Shared) (H : Hp) (vs : List V) (R : VK) (T : XK), Room k (B.deeper (envOfC qual (defScope st) s.heap.objs.size f cdv)) → B.guards = some [] → sp vs H R T →
      ∃ t, PSs (cxOf CX0 P w K mg base N qual (defScope st) f cdv B os s H T).nox (defBody st) t ∧ t { nx := fun _ H1 => R .non H1, rt := R } (L2.start N vs) H) : FnG P w K mg base (k + 1) f fd ps sp := by
  intro B os s H ar us vs R T room ng e0 bd rv hs
  obtain ⟨_, _, kV, doc, pm, an, cdv, ct, _, rfl, at_, code⟩ := F.ex
  have old : ∀ b o, base.get? b = some o → s.heap.get? b = some o := fun b o z => (e0.bs b o z).1
  have kin := e0.mod.kin.keeps old
  have vis : ∀ y ∈ ps.zip us, (defScope st).names.lookup y.1 = some .local ∨ ((defScope st).names.lookup y.1 = some .cell ∧ ((cellsFrom (s.heap.objs.size + 1) (defScope st).names []).lookup y.1).isSome = true) := by
    rintro ⟨nm, u⟩ hy
    exact (S.par nm (List.of_mem_zip hy).1).imp id fun q => ⟨q, PySem.W.cellsFrom_some _ _ _ (.inl q)⟩
  apply codeAny_call_function room.depth (kin _ _ at_) rfl S.co S.gen rfl (PySem.W.codeRec_of kin code)
  apply bd
  apply wpAny_newFunctionEnv_cells S.kind vis
  rintro env rfl s2 inc
  have lim := (e0.mod.nolimit.keeps old).keeps inc.toInCall.keep
  refine ⟨lim, codeAny_func ?_⟩
  obtain ⟨t, pt, ht⟩ := go cdv B os s H vs R T (room.deeper _) ng hs
  have J := inv_start (CX := CX0) (E := T) S room.hd e0 (len _ _ _ _ hs) rv inc
  apply wpAny_mono (pt.nox.run [] s2 (L2.start N vs) H _ J ht)
  · intro fl s3 h3
    match fl, h3 with
    | .ret u, ⟨v, _, H3, J3, r3, q3⟩ => exact ⟨v, H3, J3.os, J3.bare, J3.base, J3.hok, r3, q3⟩
    | .next, ⟨_, H3, J3, q3⟩ => exact ⟨V.non, H3, J3.os, J3.bare, J3.base, J3.hok, rfl, q3⟩
    | .brk, ⟨_, _, _, q3⟩ => exact q3.elim
    | .cont, ⟨_, _, _, q3⟩ => exact q3.elim
  · intro _ _ z
    exact z
/-- the first call of the law's def: the guards are empty there -/
theorem callG {P : Program} {w : World} {K : PySem.W.Frag} {mg mb : Str → Option Value} {k : Nat} {fa a : Addr} {fd : FuncData} {x : Str} {sp : Sp} {s1 : Shared} {us : List Value} {zs : List Int}
    (kx : K.In s1.heap) (nm : s1.heap.Ns mainGlobals mg) (nb : s1.heap.Ns builtinsNs mb) (bb : ∀ y : Str, y ≠ "__name__" → mb y = bootBuiltins y) (nl : s1.heap.NoLimit) (ng : s1.gens = #[])
    (at_ : s1.heap.get? a = some { cls := .type "list", data := .seq us.toArray }) (iz : IntsAre us zs) (short : zs.length ≤ sizeLine) (room : Room k callerA)
    (F : ∀ base : Heap, K.In base → base.Ns mainGlobals mg → FnG P w K mg base k fa fd [x] sp) (bd : ∀ (s : Shared) (u : Value), BindsTo s fd ⟨[u], []⟩ [(x, u)])
    (spec : ∀ H : Hp, SqL K H a (zs.map V.int) → sp [.ref a] H (fun v _ => v = .bl true) fun _ _ _ => False) :
    codeAny (model P w) callerA (.call (.ref fa) ⟨[.ref a], []⟩) (fun r s2 => r = .ok (.ret (.bool true)) ∧ OldK s1.heap s2.heap ∧ s2.os = s1.os ∧ AllBare s2.gens) s1 := by
  have rv := vals_ints iz
  have lz := iz.length
  obtain ⟨H, hH, hn, hs⟩ : ∃ H : Hp, (∀ b u, H b = some u → b = a ∧ u = .frz { cls := .type "list", data := .seq us.toArray } (.lst (zs.map V.int))) ∧ (∀ o, K.lookup a = some o → H a = none) ∧ SqL K H a (zs.map V.int) := by
    cases hk : K.lookup a with
    | none =>
      refine ⟨fun b => if b = a then some (.frz { cls := .type "list", data := .seq us.toArray } (.lst (zs.map V.int))) else none, fun b u z => ?_, (fun o z => by cases z), .inl (.inr ⟨_, if_pos rfl⟩)⟩
      by_cases e : b = a
      · exact ⟨e, (Option.some.inj ((if_pos e).symm.trans z)).symm⟩
      · exact nomatch (if_neg e).symm.trans z
    | some o =>
      have e := at_.symm.trans (kx a o hk)
      cases e
      exact ⟨fun _ => none, (fun _ _ z => by cases z), fun _ _ => rfl, .inr ⟨_, us.toArray, _, hk, rfl, rfl, rfl, by rw [List.size_toArray, lz]; exact short, by simpa using rv⟩⟩
  have dict : ∀ (b : Addr) (o : Obj) (es : Array DictEntry) (ep : Nat), s1.heap.get? b = some o → o.data = .dict es ep → H b = none := fun b o es ep e d => by
    cases q : H b with
    | none => rfl
    | some u =>
      obtain ⟨rfl, _⟩ := hH b u q
      have e2 := Option.some.inj (at_.symm.trans e)
      rw [← e2] at d
      cases d
  have names : ∀ (b : Addr) (m : Str → Option Value), s1.heap.Ns b m → (hidT s1.heap H).Ns b m := by
    rintro b m ⟨o, es, ep, e, d, r⟩
    exact ⟨o, es, ep, hidT_get e (dict b o es ep e d), d, r⟩
  have kb : K.In (hidT s1.heap H) := fun b o e => hidT_get (kx b o e) <| by
    cases q : H b with
    | none => rfl
    | some u =>
      obtain ⟨rfl, _⟩ := hH b u q
      rw [hn o e] at q
      cases q
  have lim : (hidT s1.heap H).NoLimit := by
    obtain ⟨m, q1, q2⟩ := nl
    exact ⟨m, names _ _ q1, q2⟩
  have ok : HOk P w H s1.heap := fun b u q => by
    obtain ⟨rfl, rfl⟩ := hH b u q
    exact ⟨at_, by rw [List.length_map]; exact short, us, _, rv, at_⟩
  have env : Env0 P w K mg (hidT s1.heap H) callerA [] s1 H := by
    refine ⟨rfl, ⟨kb, names _ _ nm, ⟨mb, names _ _ nb, bb⟩, lim⟩, fun b o e => of_hidT e, Nat.le_of_eq (hidT_size _ _), trivial, fun b q => ?_, ok, .of_eq ng⟩
    cases q
  have main := F _ kb (names _ _ nm) callerA [] s1 H ⟨[.ref a], []⟩ [.ref a] [.ref a] _ _ room rfl env (bd s1 (.ref a)) (.cons rfl .nil) (spec H hs)
  apply codeAny_mono main
  intro r s2 z
  match r, z with
  | .ok (.ret u), ⟨v, H2, os, bare, un, ok2, rel, q⟩ =>
    have qv : v = .bl true := q
    subst qv
    have ru : u = Value.bool true := rel
    refine ⟨by rw [ru], OldK.of_keep fun b o e => ?_, os, bare⟩
    cases q2 : H b with
    | none => exact un.keep b o e q2 (fun y => by cases y) (by simp)
    | some t =>
      obtain ⟨rfl, rfl⟩ := hH b t q2
      have o1 := (ok b _ q2).1
      have o2 := (ok2 b _ (un.frzs b _ _ q2)).1
      exact o2.trans (o1.symm.trans e)
  | .ok .next, z => exact z.elim
  | .ok .brk, z => exact z.elim
  | .ok .cont, z => exact z.elim
  | .error e, z => exact z.elim
theorem walkG {l : PySem.W.OpenLaw} {n k : Nat} {q : Program} {loose : List Str} {XP : (Str → Option Value) → Heap → Prop} {YP : World → Heap → Prop} {d : DefRec} {K : Params → PySem.W.Frag} {sp : World → Sp} {x : Str}
    (most : l.most = some n) (nz : n ≤ sizeLine) (df : d.params.defaults = []) (room : Room k callerA) (inK : ∀ (w : World) (h : Heap), YP w h → (K w.params).In h)
    (F : ∀ (w : World) (mg : Str → Option Value) (fa : Addr) (h : Heap), (K w.params).In h → h.Ns mainGlobals mg → mg d.name = some (.ref fa) →
      ∃ fd : FuncData, (∀ (s : Shared) (u : Value), BindsTo s fd ⟨[u], []⟩ [(x, u)]) ∧ ∀ base : Heap, (K w.params).In base → base.Ns mainGlobals mg → FnG l.prog w (K w.params) mg base k fa fd [x] (sp w))
    (spec : ∀ (w : World) (H : Hp) (a : Addr) (zs : List Int), zs.length ≤ n → SqL (K w.params) H a (zs.map V.int) → sp w [.ref a] H (fun v _ => v = .bl true) fun _ _ _ => False) :
    PySem.W.WalkO q loose XP YP l.row.toRowW d [] (fun f vs => PySem.call f vs) := by
  apply Att.attach_call most df
  intro w s0 s1 mg mb fa o pm cd doc a us zs G Y _ _ _ hmg at_ iz len ng
  have kx := inK w _ Y
  obtain ⟨fd, bd, go⟩ := F w mg fa _ kx G.T.g hmg
  exact callG kx G.T.g G.T.b G.T.builtins G.T.nolimit ng at_ iz (Nat.le_trans len nz) room go bd fun H => spec w H a zs len
end Fb
namespace Fb
open PySem L2 PySem.Spec PyProof.Rows
/-! ### repr of data -/
/-- data that can be shown: how deep, how long -/
structure Sh (d : PyData) : Prop where
  show_ : d.showable = true
  nod : d.hasDict = false
  deep : d.depth ≤ 40
  long : d.shown.length ≤ sizeLine
def rReprD (K : PySem.W.Frag) : List V → Hp → VK → Prop := fun xs H Q => ∃ (v : V) (d : PyData), xs = [v] ∧ Dp K H v d ∧ Sh d ∧ Q (.str d.shown) H
theorem call_reprD {X : Cx} (ng : X.A.guards = some []) (room : X.A.units + 64 < cLine) : CallR X (.builtin "repr") (rReprD X.K) := by
  intro pins s σ H xs us Q I rel h
  obtain ⟨v, d, rfl, dp, sh, q⟩ := h
  obtain ⟨u, rfl, ru⟩ : ∃ u, us = [u] ∧ RelV v u := by
    cases rel with
    | cons a b => cases b; exact ⟨_, rfl, a⟩
  obtain ⟨as, rd⟩ := Dp.reads I d v u dp ru
  have deep := sh.deep
  cases dp with
  | non =>
    cases ru
    exact PySem.P.repr_of_none ⟨.str _, H, I.tok _, ⟨_, rfl⟩, q⟩
  | bl b =>
    cases ru
    exact PySem.P.repr_of_bool ⟨.str _, H, I.tok _, ⟨_, rfl⟩, q⟩
  | int i =>
    obtain ⟨t, rfl⟩ := ru
    have hi : i.natAbs.log2 < 1920 := by
      have := sh.show_
      rw [PyData.showable] at this
      exact of_decide_eq_true this
    have hq : Q (.str (toString i)) H := by rw [PyData.shown] at q; exact q
    exact PySem.P.repr_of_int hi ⟨.str _, H, I.tok _, ⟨_, rfl⟩, hq⟩
  | str x =>
    obtain ⟨t, rfl⟩ := ru
    have hx : (reprText x).length ≤ sizeLine := by
      have := sh.long
      rw [PyData.shown] at this
      exact this
    have hq : Q (.str (reprText x)) H := by rw [PyData.shown] at q; exact q
    exact PySem.P.repr_of_str ⟨.str _, H, I.tok _, ⟨_, rfl⟩, hq⟩ hx
  | lst hs ha =>
    cases ru
    exact repr_of_reads' rd sh.show_ (fun z => by rw [sh.nod] at z; cases z) ng (by omega) (fun _ _ e => e) (fun h' t tk keep => ⟨.str _, H, I.kept keep, ⟨_, rfl⟩, q⟩) sh.long
  | tup hs ha =>
    cases ru
    exact repr_of_reads' rd sh.show_ (fun z => by rw [sh.nod] at z; cases z) ng (by omega) (fun _ _ e => e) (fun h' t tk keep => ⟨.str _, H, I.kept keep, ⟨_, rfl⟩, q⟩) sh.long
end Fb
namespace Fb
open PySem L2 PySem.Spec PyProof.Rows
/-! ### how long the forms are when they are shown -/
structure Sw (n b : Nat) (d : PyData) : Prop where
  a : d.showable = true
  c : d.hasDict = false
  e : d.depth ≤ n
  l : d.shown.length ≤ b
structure Lw (n b : Nat) (ds : List PyData) : Prop where
  a : PyData.showableAll ds = true
  c : PyData.hasDictAll ds = false
  e : PyData.depthAll ds ≤ n
  l : piled (PyData.shownAll ds) ≤ b
theorem Sw.sh {n b : Nat} {d : PyData} (h : Sw n b d) (hn : n ≤ 40) (hb : b ≤ 16777216) : Sh d := ⟨h.a, h.c, Nat.le_trans h.e hn, Nat.le_trans h.l hb⟩
theorem Sw.mono {n b n' b' : Nat} {d : PyData} (h : Sw n b d) (hn : n ≤ n') (hb : b ≤ b') : Sw n' b' d := ⟨h.a, h.c, Nat.le_trans h.e hn, Nat.le_trans h.l hb⟩
theorem Lw.mono {n b n' b' : Nat} {d : List PyData} (h : Lw n b d) (hn : n ≤ n') (hb : b ≤ b') : Lw n' b' d := ⟨h.a, h.c, Nat.le_trans h.e hn, Nat.le_trans h.l hb⟩
theorem sw_int {i : Int} (h : i.natAbs < 10 ^ 20) : Sw 0 21 (.int i) := by
  have big : (10 : Nat) ^ 20 < 2 ^ 1920 := by decide +kernel
  refine ⟨?_, ?_, ?_, ?_⟩
  · rw [PyData.showable]
    exact decide_eq_true (PySem.Flt.log2_lt_of (by decide) (Nat.lt_trans h big))
  · rw [PyData.hasDict]
  · rw [PyData.depth]; exact Nat.le_refl 0
  · rw [PyData.shown]
    have := int_text_length_le10 (a := i) (k := 20) (by decide) h
    rw [PySem.ofString_length]
    exact this
theorem lw_nil (n : Nat) : Lw n 0 [] := ⟨rfl, rfl, Nat.zero_le _, Nat.le_refl 0⟩
theorem lw_cons {n b c : Nat} {d : PyData} {ds : List PyData} (h : Sw n b d) (hs : Lw n c ds) : Lw n (b + 2 + c) (d :: ds) := by
  refine ⟨?_, ?_, ?_, ?_⟩
  · rw [PyData.showableAll, h.a, hs.a]; rfl
  · rw [PyData.hasDictAll, h.c, hs.c]; rfl
  · rw [PyData.depthAll]; exact Nat.max_le.mpr ⟨h.e, hs.e⟩
  · rw [PyData.shownAll, piled_cons]
    have := h.l
    have := hs.l
    omega
theorem lw_all {n b : Nat} : ∀ {ds : List PyData}, (∀ d ∈ ds, Sw n b d) → Lw n (ds.length * (b + 2)) ds
  | [], _ => (lw_nil n).mono (Nat.le_refl n) (Nat.zero_le _)
  | d :: ds, h => by
    have := lw_cons (h d List.mem_cons_self) (lw_all fun x hx => h x (List.mem_cons_of_mem _ hx))
    refine this.mono (Nat.le_refl n) ?_
    rw [List.length_cons, Nat.add_mul]
    omega
theorem lw_app {n b c : Nat} : ∀ {ds es : List PyData}, Lw n b ds → Lw n c es → Lw n (b + c) (ds ++ es)
  | [], es, _, h => h.mono (Nat.le_refl n) (Nat.le_add_left _ _)
  | d :: ds, es, h, h2 => by
    have ha := h.a
    have hc := h.c
    have he := h.e
    have hl := h.l
    rw [PyData.showableAll, Bool.and_eq_true] at ha
    rw [PyData.hasDictAll, Bool.or_eq_false_iff] at hc
    rw [PyData.depthAll] at he
    rw [PyData.shownAll, piled_cons] at hl
    have r := lw_app (n := n) (b := piled (PyData.shownAll ds)) (c := c) (ds := ds) ⟨ha.2, hc.2, by omega, Nat.le_refl _⟩ h2
    have s : Sw n d.shown.length d := ⟨ha.1, hc.1, by omega, Nat.le_refl _⟩
    exact (lw_cons s r).mono (Nat.le_refl n) (by omega)
theorem Lw.tup {n b : Nat} {ds : List PyData} (h : Lw n b ds) : Sw (n + 1) (b + 2) (.tuple ds) := by
  refine ⟨?_, ?_, ?_, ?_⟩
  · rw [PyData.showable]; exact h.a
  · rw [PyData.hasDict]; exact h.c
  · rw [PyData.depth]; have := h.e; omega
  · rw [PyData.shown]
    have := fmt_text (PyData.shownAll ds)
    have := h.l
    omega
theorem sw_nat {p : Nat} (h : p < 10 ^ 20) : Sw 0 21 (.int (p : Int)) := sw_int (by omega)
theorem lw_nD {ns : List Nat} (h : ∀ p ∈ ns, p < 10 ^ 20) : Lw 0 (ns.length * 23) (nD ns) := by
  have := lw_all (n := 0) (b := 21) (ds := nD ns) fun d hd => by
    obtain ⟨p, hp, rfl⟩ := List.mem_map.mp hd
    exact sw_nat (h p hp)
  unfold nD at this
  rw [List.length_map] at this
  exact this
/-- rows of entries -/
theorem sw_row {n b m : Nat} {f : Int → PyData} {S : Int → Prop} (o : OrdN n f S) {l : List Int} (hs : ∀ a ∈ l, S a) (hp : l.Pairwise (· < ·)) (hw : ∀ a ∈ l, Sw m b (f a)) : Sw (m + 1) (l.length * (b + 2) + 21) (rowF f l) := by
  rcases row_cases o hs hp with ⟨all, e⟩ | ⟨_, _, _, _, e⟩
  · rw [e]
    have asc := asc_toNat (fun a ha => o.pos a (hs a ha)) hp
    have bd := alt_lt (s := -1) (.inr rfl) (n := 65) asc fun p hp => by
      obtain ⟨a, ha, rfl⟩ := List.mem_map.mp hp
      have := all a ha
      omega
    have e65 : (2 : Int) ^ 65 = 36893488147419103232 := by decide +kernel
    exact (sw_int (by rw [e65] at bd; omega)).mono (Nat.zero_le _) (Nat.le_add_left _ _)
  · rw [e]
    have := (lw_all (n := m) (b := b) (ds := l.map f) fun d hd => by
      obtain ⟨a, ha, rfl⟩ := List.mem_map.mp hd
      exact hw a ha).tup
    rw [List.length_map] at this
    exact this.mono (Nat.le_refl _) (by omega)
theorem sw_form {x : Int} {k : Nat} (h0 : -(2 ^ k) ≤ x) (h1 : x < 2 ^ k) (hk : k < 10 ^ 20) : Sw 1 ((k + 1) * 23 + 21) (formD x) := by
  rw [form_row]
  have lt := turns_len h0 h1
  have r := sw_row (m := 0) (b := 21) (ordN_int 0) (l := zs (turnsN x)) zs_pos (zs_asc (turns_asc x)) fun a ha => by
    obtain ⟨p, hp, rfl⟩ := List.mem_map.mp ha
    have := turns_lt h0 h1 p hp
    exact sw_nat (p := p) (by omega)
  rw [len_zs] at r
  refine r.mono (Nat.le_refl _) ?_
  have := Nat.mul_le_mul_right 23 lt
  omega
/-- a place -/
theorem sw_place {fs : List PyData} (F : Fields fs) {p : Nat} (hp : Pl p) : Sw 3 1600 (placeD fs p) := by
  obtain ⟨a, low, g, f2, f3, rfl, a0, a1, l0, l1, g0, g1, h2, h3⟩ := F.ex
  have i20 : ∀ i : Int, 0 ≤ i → i < 10 ^ 19 → Sw 0 21 (.int i) := fun i q0 q1 => sw_int (by omega)
  have r0 : p % 200 < 64 := by have := hp.2.2; omega
  have t7 : ((turnsN ((p % 200 : Nat) : Int)).length ≤ 7) ∧ ∀ q ∈ turnsN ((p % 200 : Nat) : Int), q < 10 ^ 20 := by
    have b0 : -(2 ^ 6) ≤ (((p % 200 : Nat)) : Int) := by omega
    have b1 : (((p % 200 : Nat)) : Int) < 2 ^ 6 := by omega
    exact ⟨turns_len b0 b1, fun q hq => by have := turns_lt b0 b1 q hq; omega⟩
  have small : Lw 0 161 (nD (turnsN ((p % 200 : Nat) : Int))) := (lw_nD t7.2).mono (Nat.le_refl 0) (by have := t7.1; omega)
  have w2 : ∃ t2, f2 = .tuple t2 ∧ Lw 0 92 t2 := by
    rcases h2 with ⟨d, d0, d1, rfl⟩ | ⟨d, d0, d1, rfl⟩
    · exact ⟨_, rfl, (lw_cons (i20 _ (by omega) (by omega)) (lw_cons (i20 _ (by omega) (by omega)) (lw_nil 0))).mono (Nat.le_refl 0) (by omega)⟩
    · exact ⟨_, rfl, (lw_cons (i20 _ (by omega) (by omega)) (lw_cons (i20 _ (by omega) (by omega)) (lw_cons (i20 _ (by omega) (by omega)) (lw_cons (i20 _ (by omega) (by omega)) (lw_nil 0))))).mono (Nat.le_refl 0) (by omega)⟩
  obtain ⟨t2, rfl, k2⟩ := w2
  have s2 : Sw 2 94 (.tuple t2) := k2.tup.mono (by decide) (Nat.le_refl _)
  have gi : ∀ i : Int, 0 ≤ i → i < 10 ^ 19 → Sw 2 21 (.int i) := fun i q0 q1 => (i20 i q0 q1).mono (by decide) (Nat.le_refl _)
  have w3 : ∃ t3, f3 = .tuple t3 ∧ Lw 2 500 t3 := by
    rcases h3 with rfl | ⟨e, ts, e0, e1, et, rfl⟩ | rfl
    · exact ⟨_, rfl, (lw_cons (gi _ (by omega) (by omega)) (lw_cons s2 (lw_nil 2))).mono (Nat.le_refl 2) (by omega)⟩
    · cases et
      have q : Sw 2 150 (.tuple (.int (e + 1) :: .int 64 :: t2)) := ((lw_cons (i20 (e + 1) (by omega) (by omega)) (lw_cons (i20 64 (by omega) (by omega)) k2)).tup).mono (by decide) (by omega)
      exact ⟨_, rfl, (lw_cons s2 (lw_cons q (lw_nil 2))).mono (Nat.le_refl 2) (by omega)⟩
    · have q : Sw 2 150 (.tuple [.int g, .tuple t2]) := ((lw_cons ((i20 g (by omega) (by omega)).mono (Nat.zero_le 1) (Nat.le_refl _)) (lw_cons (k2.tup) (lw_nil 1))).tup).mono (by decide) (by omega)
      exact ⟨_, rfl, (lw_cons (gi _ (by omega) (by omega)) (lw_cons (gi _ (by omega) (by omega)) (lw_cons s2 (lw_cons q (lw_nil 2))))).mono (Nat.le_refl 2) (by omega)⟩
  obtain ⟨t3, rfl, k3⟩ := w3
  have h4 : p / 200 = 0 ∨ p / 200 = 1 ∨ p / 200 = 2 ∨ p / 200 = 3 := by have := hp.2.1; omega
  have fw : ∀ x : Int, 0 ≤ x → x < 2 ^ 64 + 200 → Sw 3 1600 (formD x) := fun x x0 x1 => by
    refine (sw_form (k := 65) (x := x) (Int.le_trans (by decide) x0) (Int.lt_of_lt_of_le x1 (by decide)) (by decide)).mono (by decide) (by decide)
  rcases h4 with e | e | e | e
  · have pe : placeD [.int 0, .int a, .tuple t2, .tuple t3] p = formD (0 + ((p % 200 : Nat) : Int)) := by unfold placeD; rw [e]; rfl
    rw [pe]; exact fw _ (by omega) (by omega)
  · have pe : placeD [.int 0, .int a, .tuple t2, .tuple t3] p = formD (a + ((p % 200 : Nat) : Int)) := by unfold placeD; rw [e]; rfl
    rw [pe]; exact fw _ (by omega) (by omega)
  · have pe : placeD [.int 0, .int a, .tuple t2, .tuple t3] p = .tuple (nD (turnsN ((p % 200 : Nat) : Int)) ++ t2) := by unfold placeD; rw [e]; rfl
    rw [pe]; exact ((lw_app small k2).tup).mono (by decide) (by decide)
  · have pe : placeD [.int 0, .int a, .tuple t2, .tuple t3] p = .tuple (nD (turnsN ((p % 200 : Nat) : Int)) ++ t3) := by unfold placeD; rw [e]; rfl
    rw [pe]; exact ((lw_app (small.mono (by decide) (Nat.le_refl _)) k3).tup).mono (by decide) (by decide)
theorem sw_moved {fs : List PyData} (F : Fields fs) {c : Int} (h : Cd c) : Sw 4 1281621 (movedD fs c) := by
  rw [moved_row]
  have pl : ∀ a ∈ zs (turnsN c), Pl a := fun a ha => by
    obtain ⟨p, hp, rfl⟩ := List.mem_map.mp ha
    exact code_places h p hp
  have r := sw_row (m := 3) (b := 1600) (ordN_place F) pl (zs_asc (turns_asc c)) fun a ha => by
    have q := pl a ha
    have e : ((a.toNat : Nat) : Int) = a := by have := q.1; omega
    exact sw_place F (p := a.toNat) (by rw [e]; exact q)
  rw [len_zs] at r
  refine r.mono (Nat.le_refl _) ?_
  have lt := len_turns h.b.1 h.b.2
  have := Nat.mul_le_mul_right 1602 lt
  omega
theorem sw_codes {fs : List PyData} (F : Fields fs) {cs : List Int} (h : ∀ c ∈ cs, Cd c) (hp : cs.Pairwise (· < ·)) : Sw 5 (cs.length * 1281623 + 21) (codesD fs cs) :=
  sw_row (m := 4) (b := 1281621) (ordN_moved F) h hp fun _ hc => sw_moved F (h _ hc)
theorem sh_codes {fs : List PyData} (F : Fields fs) {cs : List Int} (h : ∀ c ∈ cs, Cd c) (hp : cs.Pairwise (· < ·)) (hl : cs.length ≤ 12) : Sh (codesD fs cs) :=
by
  have hb : cs.length * 1281623 + 21 ≤ 16777216 := by omega
  have r := sw_codes F h hp
  generalize cs.length * 1281623 + 21 = B at hb r
  exact r.sh (by decide) hb
end Fb
namespace Fb
open PySem L2 NdefX
section
variable {P : Program} {w : World} {K : PySem.W.Frag} {mg : Str → Option Value} {base : Heap} {C f cc cda : Addr} {qual : Str} {st : Stmt} {oc : Value} {od : Option Addr} {osl : Array (Option Value)} {kV doc pm ct : Value} {an : Option Addr} {e : Expr} {good : List V → Prop}
theorem err2_ok {fl1 fl2 p r : Str} {q1 q2 q3 q4 q5 q6 q7 q8 : Pos} (T : SxF P K mg C cc cda qual) (lk : K.lookup f = some ⟨oc, od, .func (sxFd qual st cc cda kV doc pm an ct), osl⟩) (S : NScope ["self", p, r, "__class__"] ["self", p, r] ["__class__"] (defScope st))
    (W : SxT st f cc cda qual e [.Assign [.Attribute (.Name "self" q1) fl1 q2] (.Name p q3) q4, .Assign [.Attribute (.Name "self" q5) fl2 q6] (.Name r q7) q8]) (no1 : PySem.W.findIn K (.ref C) fl1 = some none) (no2 : PySem.W.findIn K (.ref C) fl2 = some none)
    (pd : (p == ("__debug__" : Str)) = false) (pc : (p == ("__classdict__" : Str)) = false) (rd : (r == ("__debug__" : Str)) = false) (rc : (r == ("__classdict__" : Str)) = false)
    (hs1 : ∀ L, swapsWith (.Name p q3) (some (.Attribute (.Name "self" q1) fl1 q2)) q4.line (envF (sxN qual st cc cda) f L) = pure false) (hs2 : ∀ L, swapsWith (.Name r q7) (some (.Attribute (.Name "self" q5) fl2 q6)) q8.line (envF (sxN qual st cc cda) f L) = pure false)
    (hmsg : ∀ (A : Around) (outer : List Env) (s : Shared) (H : Hp) (E : XK), ∃ ta, PA (ncx CX0 P w K mg base ["self", p, r, "__class__"] (sxN qual st cc cda) f A outer s H E) [e] ta ∧
      ∀ (a : Addr) (v u : V) (H : Hp) (Q : List V → Hp → Prop), good [v, u] → (∀ z, Q [.str z] H) → ta [some (.ref a), some v, some u, some (.ref C)] H Q) :
    FnOk P w K mg base CX0 1 f (sxFd qual st cc cda kV doc pm an ct) ["self", p, r] (spErr C [fl1, fl2] good) := by
  obtain ⟨p0, p1, ap, cp, ep, pl, h1, h2, h3, h4, h5⟩ := W.ex
  obtain ⟨ar, h6, h7⟩ := W.par
  refine sx_ok (pl := pl) T lk S W.su h1 h2 h3 h4 h5 h6 (by rw [h7]; rfl) (fun vs H Q E h => ?_) (fun A outer s H vs Q E hr h => ?_)
  · obtain ⟨a, ws, rfl, hl, _⟩ := h
    show ws.length + 1 = 3
    rw [hl]; rfl
  · obtain ⟨a, ws, rfl, hl, hg, ha, q⟩ := h
    match ws, hl with
    | [v, u], _ =>
    obtain ⟨ta, h8, h9⟩ := hmsg A outer s H E
    refine ⟨a, [v, u], ta, _, rfl, ha, h8, pss_cons (ps_ost (pe_var (i := 0) rfl (.inl (S.par _ (by simp)))) (pe_var (i := 1) rfl (.inl (S.par _ (by simp))) pd pc) (hs1 _))
      (pss_one (ps_ost (pe_var (i := 0) rfl (.inl (S.par _ (by simp)))) (pe_var (i := 2) rfl (.inl (S.par _ (by simp))) rd rc) (hs2 _))), ?_⟩
    refine h9 a v u H _ hg fun z => ⟨(by show 1 ≤ 1000; decide), ha, ?_⟩
    refine ⟨_, rfl, _, rfl, a, C, rfl, T.oex, no1, .inl ⟨ha, fun d hd hda => ?_⟩⟩
    refine ⟨_, rfl, _, rfl, a, C, rfl, T.oex, no2, .inr ⟨d, [(fl1, v)], upd_same, ?_, (by show 1 ≤ 900; decide), ?_⟩⟩
    · rw [upd_ne hda, upd_same]
    · have k := q d hd hda
      rw [upd_swap (Ne.symm hda), upd_twice]
      exact k
end
/-- two small ints: what a message may show -/
def twoInts (ws : List V) : Prop := ∃ i j : Int, ws = [.int i, .int j] ∧ i.natAbs < 10 ^ 20 ∧ j.natAbs < 10 ^ 20
theorem small_log {i : Int} (h : i.natAbs < 10 ^ 20) : i.natAbs.log2 < 1920 := PySem.Flt.log2_lt_of (by decide) (Nat.lt_trans h (by decide +kernel))
theorem small_txt {i : Int} (h : i.natAbs < 10 ^ 20) : (PySem.Str.ofString (toString i)).length ≤ 21 := by
  rw [PySem.ofString_length]
  exact PySem.int_text_length_le10 (a := i) (k := 20) (by decide) h
end Fb
namespace Fb
open PySem L2
def spTurns : Sp := fun vs H Q _ => ∃ x : Int, vs = [.int x] ∧ InB x ∧ ∀ (p : Addr) (H' : Hp), Same H H' → H p = none → H' p = some (.lst (nI (turnsN x))) → Q (.ref p) H'
end Fb
namespace Fb
open PySem L2 PyProof.Rows
/-- the binary signs of a number, the highest first -/
def digB (n : Nat) : List Nat := (Nat.toDigits 2 n).map Char.toNat
section
open Builtin Builtin.Str Builtin.Int Builtin.Float PySem.W
theorem cps_b : ("b" : Str).cps.toList = [98] := by decide +kernel
theorem parse_b (name : String) : parseFormatSpec ("b" : Str).cps.toList name 62 = .ok { align := 62, type := some 98 } := by
  rw [cps_b]; kernel_rfl
theorem field_plain (ds : List Nat) : intField' { align := 62, type := some 98 } false [] ds [] 4 = SX.S ds := by
  unfold intField'
  cases ds with
  | nil => rfl
  | cons d ds =>
    simp
    omega
theorem meets_fmt (spec : Str) (f : FormatSpec) (hf : f = { align := 62, type := some 98 }) (hp : parseFormatSpec spec.cps.toList "int" 62 = .ok f) (hne : (spec.length == 0) = false)
    (hasc : ((spec.cps.toList.drop 1).any (· ≥ 128) || (spec.cps.getD 0 0 ≥ 128 && !([60, 62, 61, 94] : List Nat).contains (spec.cps.getD 1 0))) = false)
    (n : Nat) (t u : Tok) (hz : (digB n).length ≤ sizeLine) : Meets («int.__format__» ⟨[.int (n : Int) t, .str spec u], []⟩) (fun _ R s => ∀ t' k, R (.ok (.ret (.str (SX.S (digB n)) t'))) { s with toks := k }) := by
  apply PySem.W.KPc.meets_of
  intro prog w A s Q E h
  unfold Builtin.«int.__format__»
  simp only [selfAndOne, noKeywords, Int.intOfSelf, asInt?, asStr?, List.isEmpty_nil, if_true, pure_bind, bind_assoc, hne, hasc, Bool.false_eq_true, if_false,
    show (Value.str spec u == Value.none) = false from rfl]
  refine wpAny_bind (wpAny_typeNameOf (T := "str") (typeIs_str _ _ _) (by decide) fun _ => ?_)
  refine wpAny_bind (wpAny_typeNameOfCut_int ?_)
  have hty : f.type = some 98 := by rw [hf]
  have hpr : f.precision = none := by rw [hf]
  have hnz : f.noNeg0 = false := by rw [hf]
  have hw : f.width = none := by rw [hf]
  have hal : f.alt = false := by rw [hf]
  have hgr : f.grouping = none := by rw [hf]
  have hsg : f.sign = none := by rw [hf]
  have hfi : f.fill = 32 := by rw [hf]
  have hag : f.align = 62 := by rw [hf]
  simp only [hp, hty, Option.getD_some]
  rw [if_pos (by decide)]
  show wpAny _ _ (if _ then _ else _) _ _ _
  rw [if_neg (by simp [hpr])]
  show wpAny _ _ (if _ then _ else _) _ _ _
  rw [if_neg (by simp [hnz])]
  show wpAny _ _ (if _ then _ else _) _ _ _
  rw [if_neg (by decide)]
  show wpAny _ _ (if _ then _ else _) _ _ _
  rw [if_neg (by simp)]
  show wpAny _ _ (if _ then _ else _) _ _ _
  rw [if_neg (by simp [hw])]
  show wpAny _ _ (retStr _) _ _ _
  have hneg : decide ((n : Int) < 0) = false := decide_eq_false (by omega)
  simp only [hneg, hal, Int.natAbs_natCast, Bool.false_eq_true, if_false, show ((98 : Nat) == 88) = false from rfl, show ((2 : Nat) == 10) = false from rfl]
  subst hf
  have e := field_plain (digB n)
  refine KXf.ret_text (X := intField' { align := 62, type := some 98 } false [] (digB n) [] 4) e (by rw [e]; exact Nat.le_trans (Nat.le_of_eq (SX.S_len _)) hz) h
theorem meets_fmtB (n : Nat) (t u : Tok) (hz : (digB n).length ≤ sizeLine) : Meets («int.__format__» ⟨[.int (n : Int) t, .str "b" u], []⟩) (fun _ R s => ∀ t' k, R (.ok (.ret (.str (SX.S (digB n)) t'))) { s with toks := k }) :=
  meets_fmt "b" _ rfl (parse_b _) (by decide +kernel) (by decide +kernel) n t u hz
end
section
variable {X : Cx}
/-- f'{e:b}' of a number from 0 on -/
def tFmtB (te : TE) : TE := fun σ H Q => te σ H fun x H1 => ∃ n : Nat, x = .int (n : Int) ∧ (digB n).length ≤ sizeLine ∧ Q (.str (SX.S (digB n))) H1
theorem pe_fmtB {e : Expr} {te : TE} {k : Nat} {p1 p2 p3 p4 : Pos} (he : PE X e te) : PE X (.JoinedStr [.FormattedValue e (-1) (some (.JoinedStr [.Constant (.str "b") k p1] p2)) p3] p4) (tFmtB te) := by
  refine ⟨fun pins s σ H Q I h => ?_⟩
  refine wpAny_JoinedStr_one (wpAny_FormattedValue_spec (thn (he.run pins s σ H _ I h) fun v s1 hv => ?_))
  obtain ⟨x, H1, I1, r1, n, rfl, hz, q⟩ := hv
  obtain ⟨t, rfl⟩ := r1
  have hs : PE X (.JoinedStr [.Constant (.str "b") k p1] p2) (tC (.str "b")) := pe_joined1 pe_str
  refine thn (hs.run pins s1 σ H1 (fun x H2 => x = .str "b" ∧ H2 = H1) I1 ⟨rfl, rfl⟩) fun r s2 hr => ?_
  obtain ⟨y, H2, I2, r2, ey, eh⟩ := hr
  subst ey eh
  obtain ⟨t2, rfl⟩ := r2
  exact ⟨_, _, rfl, PySem.W.KXf.field_int rfl (by decide +kernel) (by decide +kernel) (fun u => meets_fmtB n t u hz) fun t' k' => ⟨.str (SX.S (digB n)), H2, I2.tok _, ⟨_, rfl⟩, q⟩⟩
/-! ### text[::-1] -/
theorem revS_idx (n : Nat) : Builtin.Str.strSliceIndices none none (-1) n = (List.range n).reverse := by
  show sliceRange ((n : Int) - 1) (-1) (-1) = _
  rw [PySem.W.krv_sliceRange, PySem.W.krv_range]
def tRevS (te : TE) : TE := fun σ H Q => te σ H fun x H1 => ∃ l : List Nat, x = .str (SX.S l) ∧ l.length ≤ sizeLine ∧ Q (.str (SX.S l.reverse)) H1
theorem pe_revS {e : Expr} {te : TE} {k : Nat} {p1 p2 p3 pos : Pos} (he : PE X e te) : PE X (.Subscript e (.Slice none none (some (.UnaryOp .USub (.Constant (.int 1) k p1) p2)) p3) pos) (tRevS te) := by
  refine ⟨fun pins s σ H Q I h => ?_⟩
  refine Subscript_ (thn (he.run pins s σ H _ I h) fun v s1 ⟨x, H1, I1, r1, q1⟩ => ?_)
  obtain ⟨cs, ex, hz, q⟩ := q1
  subst ex
  obtain ⟨tx, rfl⟩ := r1
  have hst : PO X (some (.UnaryOp .USub (.Constant (.int 1) k p1) p2)) (tPart (tUn (rU fun i => .int (-i)) (tC (.int 1)))) := po_some (pe_un un_neg pe_int)
  refine wpAny_Slice (thn (po_none.run pins s1 σ H1 (fun o H2 => o = none ∧ H2 = H1) I1 ⟨rfl, rfl⟩) fun vl s2 ⟨l, H2, I2, pl, el, e2⟩ => ?_)
  subst el e2
  refine thn (po_none.run pins s2 σ H2 (fun o H3 => o = none ∧ H3 = H2) I2 ⟨rfl, rfl⟩) fun vu s3 ⟨u, H3, I3, pu, eu, e3⟩ => ?_
  subst eu e3
  refine thn (hst.run pins s3 σ H3 (fun o H4 => o = some (-1) ∧ H4 = H3) I3 ⟨1, rfl, -1, rfl, rfl, rfl⟩) fun vs s4 ⟨o, H4, I4, ps, eo, e4⟩ => ?_
  subst eo e4
  have en : vl = .none ∧ vu = .none ∧ ∃ tk, vs = .int (-1) tk := by
    refine ⟨?_, ?_, ?_⟩
    · cases pl; rfl
    · cases pu; rfl
    · cases ps; exact ⟨_, rfl⟩
  obtain ⟨rfl, rfl, tk, rfl⟩ := en
  have I5 : L2.Inv X pins σ H4 { s4 with heap := s4.heap.push { cls := .type "slice", data := .fields #[.none, .none, .int (-1) tk] } } := I4.kept (t' := s4.toks) fun b ob q => Heap.get?_push_of_some _ q
  refine tail_any (ops := [.str (SX.S cs) tx, .ref s4.heap.objs.size]) (typeIs_str _ _ _) (PySem.F.slot_str_getitem.lookup) ?_ (by with_unfolding_all rfl)
  refine wpAny_getItem_str_slice (l := none) (u := none) (st := some (-1, tk)) ⟨_, Heap.get?_push_size _ rfl, rfl, rfl⟩ (by show ((-1 : Int) == 0) = false; decide) ?_
  have e1 : sliceMade (SX.S cs) tx none none (some (-1, tk)) = .str (SX.S cs.reverse) := by
    unfold sliceMade
    rw [if_neg (by show ¬ (((-1 : Int) == 1) && _) = true; simp)]
    unfold slicePicked
    have ha := PySem.W.krv_all cs.toArray
    have eb : (Builtin.Str.strSliceIndices none none (-1) (SX.S cs).length).filterMap ((SX.S cs).cps[·]?) = cs.reverse := by
      rw [revS_idx, List.filterMap_reverse]
      exact congrArg List.reverse ha
    exact congrArg (fun l : List Nat => Made.str (SX.S l)) eb
  rw [e1]
  exact ⟨by rw [SX.S_len, List.length_reverse]; exact hz, ⟨.str _, H4, I5.tok _, ⟨_, rfl⟩, q⟩⟩
end
end Fb
namespace Fb
open PySem L2 PyProof.Rows
/-- the binary signs, the lowest first -/
def lsb (m : Nat) : List Nat := (digB m).reverse
theorem lsb_one : lsb 1 = [49] := by decide +kernel
theorem lsb_zero : lsb 0 = [48] := by decide +kernel
theorem lsb_even {k : Nat} (h : 1 ≤ k) : lsb (2 * k) = 48 :: lsb k := by
  unfold lsb digB
  rw [Nat.toDigits_of_base_le (b := 2) (by decide) (by omega), List.map_append, List.reverse_append, show 2 * k / 2 = k by omega, show 2 * k % 2 = 0 by omega]
  rfl
theorem lsb_odd {k : Nat} (h : 1 ≤ k) : lsb (2 * k + 1) = 49 :: lsb k := by
  unfold lsb digB
  rw [Nat.toDigits_of_base_le (b := 2) (by decide) (by omega), List.map_append, List.reverse_append, show (2 * k + 1) / 2 = k by omega, show (2 * k + 1) % 2 = 1 by omega]
  rfl
theorem digB_len {n : Nat} : ∀ {m : Nat}, m < 2 ^ n → 1 ≤ n → (digB m).length ≤ n := by
  induction n with
  | zero => intro m _ h; omega
  | succ n ih =>
    intro m h _
    by_cases h2 : m < 2
    · have : digB m = [(m.digitChar).toNat] := by
        unfold digB
        rw [Nat.toDigits_of_lt_base h2]
        rfl
      rw [this]
      show 1 ≤ _
      omega
    · have n1 : 1 ≤ n := by
        rcases n with _ | n
        · exact absurd h (by omega)
        · omega
      have hm : m / 2 < 2 ^ n := by rw [Nat.pow_succ] at h; omega
      have := ih hm n1
      have e : digB m = digB (m / 2) ++ [((m % 2).digitChar).toNat] := by
        unfold digB
        rw [Nat.toDigits_of_base_le (b := 2) (by decide) (by omega), List.map_append]
        rfl
      rw [e, List.length_append]
      show _ + 1 ≤ _
      omega
/-- where the rows of zeros end -/
def posOf : Int → List Nat → List Int
  | _, [] => []
  | a, g :: gs => (a + g + 1) :: posOf (a + g + 1) gs
def plc : Int → List Nat → Int
  | a, [] => a
  | a, g :: gs => plc (a + g + 1) gs
theorem plc_snoc : ∀ (a : Int) (gs : List Nat) (g : Nat), plc a (gs ++ [g]) = plc a gs + g + 1
  | a, [], g => rfl
  | a, x :: gs, g => plc_snoc (a + x + 1) gs g
theorem posOf_snoc : ∀ (a : Int) (gs : List Nat) (g : Nat), posOf a (gs ++ [g]) = posOf a gs ++ [plc a gs + g + 1]
  | a, [], g => rfl
  | a, x :: gs, g => congrArg ((a + x + 1) :: ·) (posOf_snoc (a + x + 1) gs g)
theorem posOf_len : ∀ (a : Int) (gs : List Nat), (posOf a gs).length = gs.length
  | _, [] => rfl
  | a, x :: gs => congrArg (· + 1) (posOf_len (a + x + 1) gs)
abbrev zrow (g : Nat) : List Nat := List.replicate g 48
theorem joinL_cons (s : Nat) (p q : List Nat) (r : List (List Nat)) : TL.joinL [s] (p :: q :: r) = p ++ ([s] ++ TL.joinL [s] (q :: r)) := rfl
theorem joinL_grow (s c : Nat) (p : List Nat) : ∀ r : List (List Nat), TL.joinL [s] ((c :: p) :: r) = c :: TL.joinL [s] (p :: r)
  | [] => rfl
  | q :: r => rfl
theorem gaps_ex : ∀ m : Nat, 1 ≤ m → ∃ gs : List Nat, gs ≠ [] ∧ TL.joinL [49] (gs.map zrow) = lsb m ∧ (∀ c : Int, ∃ e : Int, posOf (c - 1) gs = (ones m).map (fun p : Nat => c + (p : Int)) ++ [e]) := by
  intro m
  induction m using Nat.strongRecOn with
  | ind m ih =>
    intro h1
    by_cases hm : m = 1
    · subst hm
      refine ⟨[0, 0], by simp, by rw [lsb_one]; rfl, fun c => ⟨c + 1, ?_⟩⟩
      have : ones 1 = [0] := by have := ones_odd 0; rw [ones_zero] at this; exact this
      rw [this]
      show [c - 1 + (0 : Nat) + 1, c - 1 + (0 : Nat) + 1 + (0 : Nat) + 1] = [c + ((0 : Nat) : Int), c + 1]
      simp
    · obtain ⟨k, hk⟩ : ∃ k, k = m / 2 := ⟨_, rfl⟩
      have k1 : 1 ≤ k := by omega
      obtain ⟨gs, ne, ej, ep⟩ := ih k (by omega) k1
      obtain ⟨g, r, rfl⟩ : ∃ g r, gs = g :: r := by
        cases gs with
        | nil => exact absurd rfl ne
        | cons g r => exact ⟨g, r, rfl⟩
      rcases (show m = 2 * k ∨ m = 2 * k + 1 by omega) with e | e
      · subst e
        refine ⟨(g + 1) :: r, by simp, ?_, fun c => ?_⟩
        · rw [lsb_even k1, ← ej]
          exact joinL_grow 49 48 (zrow g) (r.map zrow)
        · obtain ⟨z, hz⟩ := ep (c + 1)
          refine ⟨z, ?_⟩
          have e1 : posOf (c - 1) ((g + 1) :: r) = posOf (c + 1 - 1) (g :: r) := by
            show (c - 1 + ((g + 1 : Nat) : Int) + 1) :: posOf (c - 1 + ((g + 1 : Nat) : Int) + 1) r = (c + 1 - 1 + (g : Int) + 1) :: posOf (c + 1 - 1 + (g : Int) + 1) r
            rw [show c - 1 + ((g + 1 : Nat) : Int) + 1 = c + 1 - 1 + (g : Int) + 1 by omega]
          rw [e1, hz, ones_even, List.map_map]
          congr 1
          refine List.map_congr_left fun p _ => ?_
          show c + 1 + (p : Int) = c + ((p + 1 : Nat) : Int)
          omega
      · subst e
        refine ⟨0 :: g :: r, by simp, ?_, fun c => ?_⟩
        · rw [lsb_odd k1, ← ej]
          rfl
        · obtain ⟨z, hz⟩ := ep (c + 1)
          refine ⟨z, ?_⟩
          have e1 : posOf (c - 1) (0 :: g :: r) = c :: posOf (c + 1 - 1) (g :: r) := by
            show (c - 1 + ((0 : Nat) : Int) + 1) :: posOf (c - 1 + ((0 : Nat) : Int) + 1) (g :: r) = _
            rw [show c - 1 + ((0 : Nat) : Int) + 1 = c by omega, show c + 1 - 1 = c by omega]
          rw [e1, hz, ones_odd]
          show c :: _ = (c + ((0 : Nat) : Int)) :: _
          rw [List.map_map, show c + ((0 : Nat) : Int) = c by omega]
          show c :: (_ ++ [z]) = c :: (_ ++ [z])
          congr 2
          refine List.map_congr_left fun p _ => ?_
          show c + 1 + (p : Int) = c + ((p + 1 : Nat) : Int)
          omega
theorem joinL_le (s : Nat) : ∀ (ps : List (List Nat)) (p : List Nat), p ∈ ps → p.length ≤ (TL.joinL [s] ps).length
  | [], _, h => by cases h
  | [a], p, h => by cases List.mem_singleton.mp h; exact Nat.le_refl _
  | a :: b :: r, p, h => by
    rw [joinL_cons, List.length_append, List.length_append]
    rcases List.mem_cons.mp h with h | h
    · subst h; omega
    · have := joinL_le s (b :: r) p h
      omega
/-- the text of the signs, the lowest first, split at the ones -/
theorem split_bits {m : Nat} (h : 1 ≤ m) : ∃ gs : List Nat, Txt.split (SX.S (lsb m)) "1" = gs.map (fun g => SX.S (zrow g)) ∧ (∀ g ∈ gs, g ≤ (digB m).length) ∧ ∃ e : Int, posOf (-1) gs = (ones m).map (fun p : Nat => (p : Int)) ++ [e] := by
  obtain ⟨gs, ne, ej, ep⟩ := gaps_ex m h
  obtain ⟨e, he⟩ := ep 0
  refine ⟨gs, ?_, fun g hg => ?_, e, ?_⟩
  · have h1 : ("1" : Str) = SX.S [49] := by decide +kernel
    rw [h1, SX.split_S (by simp) (by decide), ← ej, TL.spl_join (fun e => ne (List.map_eq_nil_iff.mp e)) (fun p hp => ?_), List.map_map]
    · rfl
    · obtain ⟨g, _, rfl⟩ := List.mem_map.mp hp
      intro hc
      have := List.eq_of_mem_replicate hc
      exact absurd this (by decide)
  · have := joinL_le 49 (gs.map zrow) (zrow g) (List.mem_map_of_mem hg)
    rw [ej, List.length_replicate] at this
    unfold lsb at this
    rw [List.length_reverse] at this
    exact this
  · rw [show (-1 : Int) = 0 - 1 by decide, he]
    congr 1
    refine List.map_congr_left fun p _ => ?_
    omega
end Fb
namespace Fb
open PySem L2
/-- the lowest one taken away -/
theorem xor_low {m k : Nat} (h : Builtin.bitAnd (m : Int) (-(m : Int)) = 2 ^ k) (h2 : m / 2 ^ k % 2 = 1) : Builtin.bitXor (m : Int) (2 ^ k) = ((m - 2 ^ k : Nat) : Int) := by
  have e : ((2 : Int) ^ k) = ((2 ^ k : Nat) : Int) := (Int.natCast_pow 2 k).symm
  have a : m &&& 2 ^ k = 2 ^ k := by
    refine Nat.eq_of_testBit_eq fun i => ?_
    rw [Nat.testBit_and, Nat.testBit_two_pow]
    by_cases z : k = i
    · subst z
      rw [Nat.testBit_eq_decide_div_mod_eq, h2]
      simp
    · simp [z]
  have le : 2 ^ k ≤ m := by
    rw [← a]; exact Nat.and_le_left
  rw [PyProof.Rows.bitXor_and, e, PySem.W.os_band, a]
  omega
theorem marks_low2 {m : Nat} (h : m ≠ 0) : ∃ k : Nat, Builtin.bitAnd (m : Int) (-(m : Int)) = 2 ^ k ∧ 2 ^ k ≤ m ∧ ones m = k :: ones (m - 2 ^ k) ∧ m / 2 ^ k % 2 = 1 := by
  obtain ⟨k, a, b, c⟩ := marks_low h
  refine ⟨k, a, b, c, ?_⟩
  obtain ⟨j, q, e⟩ := low_of h
  have a2 := PySem.W.kbt_low j (q : Int)
  have e3 : (m : Int) = 2 ^ j * (2 * (q : Int) + 1) := by rw [e]; simp
  rw [← e3, a] at a2
  have e4 : (2 : Nat) ^ k = 2 ^ j := by
    have : ((2 ^ k : Nat) : Int) = ((2 ^ j : Nat) : Int) := by rw [Int.natCast_pow, Int.natCast_pow]; exact a2
    omega
  rw [e4]
  subst e
  rw [Nat.mul_div_cancel_left _ (Nat.two_pow_pos j)]
  omega
theorem intBits_le {x : Int} (h : InB x) : (Builtin.Int.intBits x : Int) ≤ 600002 := by
  unfold Builtin.Int.intBits
  by_cases z : (x == 0) = true
  · rw [if_pos z]; decide
  · rw [if_neg z]
    have l : x.natAbs.log2 < 600001 := PySem.Flt.log2_lt_of (by decide) (by
      have e : ((2 ^ 600000 : Nat) : Int) = 2 ^ 600000 := by decide +kernel
      have e2 : (2 : Nat) ^ 600001 = 2 * 2 ^ 600000 := by rw [Nat.pow_succ]; omega
      have p : 0 < 2 ^ 600000 := Nat.two_pow_pos 600000
      obtain ⟨h0, h1⟩ := h
      rw [e2]
      rw [← e] at h0 h1
      generalize (2 : Nat) ^ 600000 = B at *
      omega)
    omega
theorem shl_ok {x : Int} (h : InB x) : CShl x 1 := by
  have b := intBits_le h
  exact ⟨by decide, by omega⟩
section
variable {P : Program} {w : World} {K : PySem.W.Frag} {mg : Str → Option Value} {base : Heap} {f : Addr} {fd : FuncData}
abbrev S_ones_of_text : Stmt := top 53
abbrev N_ones_of_text : List Str := ["value", "text", "places", "place", "zeros"]
abbrev P_ones_of_text : List Str := ["value"]
theorem sc_ones_of_text : FnScope N_ones_of_text P_ones_of_text (defScope S_ones_of_text) := ⟨rfl, rfl, rfl, by decide +kernel, rfl, by decide +kernel, by decide +kernel⟩
def spOnesT : Sp := fun vs H Q _ => ∃ m : Nat, vs = [.int (m : Int)] ∧ 1 ≤ m ∧ m < 2 ^ 700000 ∧ ∀ (p : Addr) (H' : Hp), Same H H' → H p = none → H' p = some (.lst (nI (ones m))) → Q (.ref p) H'
theorem ok_onest (F : Fun K "ones_of_text" "ones_of_text" S_ones_of_text f fd) (B : Blt mg) : FnOk P w K mg base CX0 1 f fd P_ones_of_text spOnesT := by
  have nd := sc_ones_of_text.nd
  refine F.ok sc_ones_of_text (fun vs H Q E h => ?_) (fun cdv A outer s H vs Q E hr h => ?_)
  · obtain ⟨m, rfl, _⟩ := h
    rfl
  obtain ⟨m, rfl, m1, m2, q⟩ := h
  refine ⟨_, (pss_cons (ps_set (i := 1) nd rfl (Or.inl rfl) (pe_fmtB (pv 0)))
    (pss_cons (ps_set (i := 2) nd rfl (Or.inl rfl) (pe_lst pa_nil))
    (pss_cons (ps_set (i := 3) nd rfl (Or.inl rfl) (pe_un un_neg pe_int))
    (pss_cons (ps_for PassesOwn.never rfl (pi_list (pe_split (pe_revS (pv 1)) pe_str)) (pg_name (i := 4) nd rfl (Or.inl rfl)) (pss_cons (ps_set (i := 3) nd rfl (Or.inl rfl) (pe_op op_add (pe_op op_add (pv 3) (pe_callB call_len_str (by rfl) B.len PySem.boot_len (pa_cons (pv 4) pa_nil))) pe_int))
    (pss_one (ps_expr (pe_bm PySem.F.plainAttrs_list PySem.F.slot_list_append PySem.F.type_list_append mt_append (pv 2) (pa_cons (pv 3) pa_nil))))))
    (pss_cons (ps_expr (pe_bm0 PySem.F.plainAttrs_list PySem.F.slot_list_pop PySem.F.type_list_pop mt_pop (pv 2)))
    (pss_one (ps_ret (pv 2)))))))), ?_⟩
  have dl : (digB m).length ≤ 700000 := digB_len m2 (by decide)
  have big : 700002 ≤ sizeLine := by decide
  refine ⟨_, rfl, m, rfl, by omega, ?_⟩
  refine ⟨(by show 0 ≤ sizeLine; decide), fun p np => ?_⟩
  refine ⟨_, rfl, ?_⟩
  obtain ⟨gs, es, zl0, z, ez⟩ := split_bits m1
  refine ⟨_, rfl, digB m, rfl, by omega, ⟨_, rfl⟩, _, _, rfl, rfl, (by decide +kernel), (by rw [SX.S_len, List.length_reverse]; omega), fun L nL => ?_⟩
  have hg : gs.length = (ones m).length + 1 := by
    have := congrArg List.length ez
    rw [posOf_len, List.length_append, List.length_map] at this
    exact this
  have gl : gs.length ≤ 700001 := by
    have := ones_len m2
    omega
  have es2 : (Txt.split (SX.S (digB m).reverse) "1").map V.str = gs.map (fun g => V.str (SX.S (zrow g))) := by
    have : Txt.split (SX.S (digB m).reverse) "1" = gs.map (fun g => SX.S (zrow g)) := es
    rw [this, List.map_map]
    rfl
  rw [es2]
  have zl : ∀ g ∈ gs, g ≤ sizeLine := fun g hg' => by
    have := zl0 g hg'
    omega
  refine ⟨_, rfl, ⟨_, SqL.of upd_same⟩, ?_⟩
  have Lp : L ≠ p := fun e => by
    subst e
    rw [upd_same] at nL
    cases nL
  refine for_list (xs := gs.map (fun g => V.str (SX.S (zrow g)))) (fun i σ H' => ∃ z4 : Option V, σ = [some (.int (m : Int)), some (.str (SX.S (digB m))), some (.ref p), some (.int (plc (-1) (gs.take i))), z4] ∧ Same H H' ∧ H' L = some (.lst (gs.map (fun g => V.str (SX.S (zrow g))))) ∧ H' p = some (.lst ((posOf (-1) (gs.take i)).map V.int)))
    ⟨none, rfl, (Same.new np).trans (Same.new nL), upd_same, by rw [upd_ne (fun e => Lp e.symm), upd_same]; rfl⟩ (fun i σ H' _ h => ?_) (fun i x σ H' hx h => ?_) (fun σ H' h => ?_)
  · obtain ⟨z4, rfl, e, hL, hp⟩ := h
    exact SqL.of hL
  · obtain ⟨z4, rfl, e, hL, hp⟩ := h
    rw [List.getElem?_map] at hx
    obtain ⟨g, hg1, rfl⟩ := Option.map_eq_some_iff.mp hx
    have et : gs.take (i + 1) = gs.take i ++ [g] := by rw [List.take_add_one, hg1]; rfl
    refine ⟨_, rfl, _, rfl, _, rfl, by rw [SX.S_len, List.length_replicate]; exact zl g (List.mem_of_getElem? hg1), _, _, rfl, rfl, _, _, rfl, rfl, ?_⟩
    have ep : plc (-1) (gs.take i) + ((SX.S (zrow g)).length : Int) + 1 = plc (-1) (gs.take (i + 1)) := by
      rw [et, plc_snoc, SX.S_len, List.length_replicate]
    refine ⟨_, rfl, .inl ⟨rfl, _, SqL.of hp⟩, _, rfl, p, _, _, rfl, rfl, hp, ?_, ?_⟩
    · rw [List.length_map, posOf_len, List.length_take]
      exact Nat.lt_of_le_of_lt (Nat.min_le_right _ _) (Nat.lt_of_le_of_lt gl (by decide))
    · refine ⟨some (.str (SX.S (zrow g))), ?_, Same.mut e np, ?_, ?_⟩
      · rw [← ep]; rfl
      · rw [upd_ne Lp]; exact hL
      · rw [upd_same, et, posOf_snoc, List.map_append]
        show some (HO.lst (_ ++ [V.int (plc (-1) (gs.take i) + ((SX.S (zrow g)).length : Int) + 1)])) = _
        rw [SX.S_len, List.length_replicate]
        rfl
  · obtain ⟨z4, rfl, e, hL, hp⟩ := h
    rw [List.length_map, List.take_length, ez, List.map_append, List.map_map] at hp
    refine ⟨_, rfl, .inl ⟨rfl, _, SqL.of hp⟩, p, _, .int z, rfl, rfl, hp, (by rw [List.length_append]; simp), ?_⟩
    refine ⟨_, rfl, q p _ (Same.mut e np) np ?_⟩
    rw [upd_same]
    show some (HO.lst ((_ ++ [V.int z]).dropLast)) = _
    rw [List.dropLast_concat]
    rfl
abbrev S_turns_of_int : Stmt := top 52
abbrev N_turns_of_int : List Str := ["value", "changes", "turns", "lowest"]
abbrev P_turns_of_int : List Str := ["value"]
theorem sc_turns_of_int : FnScope N_turns_of_int P_turns_of_int (defScope S_turns_of_int) := ⟨rfl, rfl, rfl, by decide +kernel, rfl, by decide +kernel, by decide +kernel⟩
theorem ok_tint {tk : Tok} (F : Fun K "turns_of_int" "turns_of_int" S_turns_of_int f fd) (B : Blt mg) (MF : mg "FEW_TURNS" = some (.int 8 tk)) (Cones_of_text : Has P w K mg base 1 "ones_of_text" P_ones_of_text [] spOnesT) : FnOk P w K mg base CX0 2 f fd P_turns_of_int spTurns := by
  have nd := sc_turns_of_int.nd
  refine F.ok sc_turns_of_int (fun vs H Q E h => ?_) (fun cdv A outer s H vs Q E hr h => ?_)
  · obtain ⟨x, rfl, _⟩ := h
    rfl
  obtain ⟨x, rfl, hx, q⟩ := h
  refine ⟨_, (pss_cons (ps_set (i := 1) nd rfl (Or.inl rfl) (pe_op op_xor (pv 0) (pe_op op_shlW (pv 0) pe_int)))
    (pss_cons (ps_set (i := 2) nd rfl (Or.inl rfl) (pe_lst pa_nil))
    (pss_cons (ps_while PassesOwn.never (pt_truth (pv 1) (by intro _; rfl)) (C8.pss_cut (ps_if (pt_cmpR op_eq (pe_callB call_lenL (by rfl) B.len PySem.boot_len (pa_cons (pv 2) pa_nil)) (pe_glob (v := .int 8) rfl MF ⟨_, rfl⟩) (nomark _)) (pss_cons (ps_expr (pe_bm PySem.F.plainAttrs_list PySem.F.slot_list_extend PySem.F.type_list_extend mt_extend (pv 2) (pa_cons (pe_H Cones_of_text (hr.mono (by decide)) rfl (pa_cons (pv 1) pa_nil)) pa_nil)))
    (pss_one ps_break)) pss_nil)
    (pss_cons (ps_set (i := 3) nd rfl (Or.inl rfl) (pe_op op_and (pv 1) (pe_un un_neg (pv 1))))
    (pss_cons (ps_expr (pe_bm PySem.F.plainAttrs_list PySem.F.slot_list_append PySem.F.type_list_append mt_append (pv 2) (pa_cons (pe_op op_sub (pe_bits (pv 3)) pe_int) pa_nil)))
    (pss_one (ps_set (i := 1) nd rfl (Or.inl rfl) (pe_op op_xor (pv 1) (pv 3))))))))
    (pss_one (ps_ret (pv 2)))))), ?_⟩
  refine ⟨_, rfl, _, rfl, _, _, rfl, rfl, shl_ok hx, _, _, rfl, rfl, ?_⟩
  refine ⟨(by show 0 ≤ sizeLine; decide), fun p np => ?_⟩
  refine ⟨fun m σ H' => ∃ (z : Option V) (done : List Nat), σ = [some (.int x), some (.int (m : Int)), some (.ref p), z] ∧ H' p = some (.lst (nI done)) ∧ done ++ ones m = turnsN x ∧ m ≤ marks x ∧ Same H H', ⟨marks x, _, [], (by rw [← marks_val x]; rfl), upd_same, rfl, Nat.le_refl _, Same.new np⟩, ?_⟩
  rintro m σ H' ⟨z, done, rfl, hp, hd, hmx, e⟩
  have ek : ((m : Int) != 0) = !decide (m = 0) := by
    by_cases z : m = 0
    · subst z; rfl
    · have : (m : Int) ≠ 0 := by omega
      simp [z, this]
  refine ⟨_, rfl, _, rfl, ?_⟩
  rw [ek]
  refine iteDN (fun c => ?_) (fun c => ?_)
  · have hm : m ≠ 0 := c
    obtain ⟨k, k1, k2, k3, k4⟩ := marks_low2 hm
    refine ⟨fun σ' H'' => ∃ (z : Option V) (done : List Nat), σ' = [some (.int x), some (.int ((m - 2 ^ k : Nat) : Int)), some (.ref p), z] ∧ H'' p = some (.lst (nI done)) ∧ done ++ ones (m - 2 ^ k) = turnsN x ∧ m - 2 ^ k ≤ marks x ∧ Same H H'', fun σ' H'' h => ⟨m - 2 ^ k, Nat.sub_lt (by omega) (Nat.two_pow_pos k), h⟩, ?_⟩
    refine ⟨fun σ'' H'' => σ'' = [some (.int x), some (.int (m : Int)), some (.ref p), z] ∧ H'' = H', ?_, ?_⟩
    · refine ⟨_, rfl, p, _, rfl, SqL.of hp, rfl, _, rfl, ?_⟩
      refine iteD (fun c8 => ?_) (fun c8 => ⟨rfl, rfl⟩)
      have mb : marks x < 2 ^ 600001 := marks_lt hx.1 hx.2
      have ml : m < 2 ^ 700000 := Nat.lt_of_lt_of_le (Nat.lt_of_le_of_lt hmx mb) (Nat.pow_le_pow_right (by decide) (by decide))
      refine ⟨_, rfl, .inl ⟨rfl, _, SqL.of hp⟩, _, rfl, m, rfl, by omega, ml, fun b H1 e1 nb hb => ?_⟩
      have hp1 := e1 _ _ hp
      refine ⟨p, b, _, _, rfl, rfl, hp1, hb, ?_, ?_⟩
      · unfold nI
        rw [List.length_map, List.length_map, ← List.length_append, hd]
        exact Nat.le_trans (turns_len (n := 600000) hx.1 hx.2) (by decide)
      · refine ⟨_, rfl, q p _ (Same.mut (e.trans e1) np) np ?_⟩
        rw [upd_same, ← hd]
        unfold nI
        rw [List.map_append]
    rintro σ'' H'' ⟨rfl, rfl⟩
    refine ⟨_, rfl, _, rfl, _, rfl, _, _, rfl, rfl, ?_⟩
    have hb : (Builtin.Int.intBits (Builtin.bitAnd (m : Int) (-(m : Int))) : Int) - 1 = k := by
      rw [k1]
      unfold Builtin.Int.intBits
      have h0 : ((2 : Int) ^ k == 0) = false := beq_false_of_ne (Int.ne_of_gt (Int.pow_pos (by decide)))
      rw [h0]
      have h1 : ((2 : Int) ^ k).natAbs = 2 ^ k := by rw [Int.natAbs_pow]; rfl
      rw [h1, Nat.log2_two_pow]
      simp
    have hlen : (nI done).length < sizeLine := by
      have h1 := turns_len (n := 600000) hx.1 hx.2
      rw [← hd, List.length_append] at h1
      unfold nI
      rw [List.length_map]
      exact Nat.lt_of_le_of_lt (show done.length ≤ 600001 by omega) (by decide)
    refine ⟨_, rfl, .inl ⟨rfl, _, SqL.of hp⟩, _, rfl, _, rfl, _, _, rfl, rfl, p, _, _, rfl, rfl, hp, hlen, ?_⟩
    refine ⟨_, rfl, _, rfl, _, _, rfl, rfl, ?_⟩
    have hc : Builtin.bitXor (m : Int) (Builtin.bitAnd (m : Int) (-(m : Int))) = ((m - 2 ^ k : Nat) : Int) := by
      rw [k1]
      exact xor_low k1 k4
    refine ⟨some (.int (Builtin.bitAnd (m : Int) (-(m : Int)))), done ++ [k], by rw [← hc]; rfl, ?_, ?_, Nat.le_trans (Nat.sub_le _ _) hmx, Same.mut e np⟩
    · rw [upd_same]
      show some (HO.lst (nI done ++ [V.int ((Builtin.Int.intBits (Builtin.bitAnd (m : Int) (-(m : Int))) : Int) - 1)])) = _
      rw [hb]
      unfold nI
      rw [List.map_append]
      rfl
    · rw [List.append_assoc, ← hd, k3]
      rfl
  · have hm : m = 0 := c
    subst hm
    rw [ones_zero, List.append_nil] at hd
    subst hd
    exact ⟨_, rfl, q p H' e np hp⟩
end
end Fb
namespace Fb
open PySem L2 PyProof.Rows
/-! ### a sign, so many times -/
theorem fold_rep (c : Nat) : ∀ (k : Nat) (acc : Array Nat), (List.replicate k #[c]).foldl (· ++ ·) acc = acc ++ (List.replicate k c).toArray
  | 0, acc => by simp
  | k + 1, acc => by
    rw [List.replicate_succ, List.foldl_cons, fold_rep c k]
    apply Array.toList_inj.mp
    simp [List.replicate_succ]
theorem op_repS {X : Cx} : OpR X (binaryOp .Mult) (fun x y H Q => ∃ (c k : Nat), x = .str (SX.S [c]) ∧ y = .int (k : Int) ∧ k ≤ 1000000 ∧ Q (.str (SX.S (List.replicate k c))) H) := by
  intro pins s σ H x y v u Q I rx ry h
  obtain ⟨c, k, rfl, rfl, hk, q⟩ := h
  obtain ⟨t, rfl⟩ := rx
  obtain ⟨t', rfl⟩ := ry
  have l1 : (SX.S [c]).length = 1 := rfl
  have big : (1000000 : Nat) ≤ sizeLine := by decide
  refine P.mul_str (by rw [decide_eq_false (by omega), decide_eq_false (by omega)]; rfl) (fun h1 h2 => ?_) (fun h1 h2 => ?_) ?_
  · rw [l1]
    have h3 : (1 : Int) ≤ k := by omega
    have : (k : Int) ≤ 2 ^ 63 - 1 := by omega
    have h4 : 1 ≤ (2 ^ 63 - 1 : Int) / (k : Int) := (Int.le_ediv_iff_mul_le (by omega)).mpr (by omega)
    omega
  · rw [l1, Int.toNat_natCast, Nat.one_mul]
    exact decide_eq_false (by omega)
  · by_cases h0 : (k : Int) < 1
    · have : k = 0 := by omega
      subst this
      rw [if_pos h0]
      exact ⟨by decide, ⟨.str _, H, I.tok _, ⟨_, rfl⟩, q⟩⟩
    · rw [if_neg h0]
      by_cases h1 : k = 1
      · subst h1
        rw [if_pos (by rfl)]
        exact ⟨.str (SX.S [c]), H, I, ⟨t, rfl⟩, q⟩
      · have e : ((k : Int) == 1 || (SX.S [c]).length == 0) = false := by
          rw [l1]
          have : ((k : Int) == 1) = false := beq_false_of_ne (by omega)
          rw [this]; rfl
        rw [if_neg (by rw [e]; decide), Int.toNat_natCast]
        have e2 : (List.replicate k (SX.S [c]).cps).foldl (· ++ ·) #[] = (List.replicate k c).toArray := by
          show (List.replicate k #[c]).foldl (· ++ ·) #[] = _
          rw [fold_rep]
          simp
        rw [e2]
        exact ⟨by rw [SX.S_len, List.length_replicate]; omega, ⟨.str _, H, I.tok _, ⟨_, rfl⟩, q⟩⟩
/-! ### int(text, 2) -/
namespace Bx
open PySem.NumText PySem.Calls L2.Hx
def IsBit (c : Nat) : Prop := c = 48 ∨ c = 49
def binNum (l : List Nat) : Nat := l.foldl (fun a c => a * 2 + (c - 48)) 0
theorem digit_bin {c : Nat} (h : IsBit c) : digit? c = some (c - 48) := by
  unfold IsBit at h
  unfold digit?
  rw [if_pos (bb (show 48 ≤ c by omega) (show c ≤ 57 by omega))]
theorem step_bin {ds : Array Nat} {b : Bool} {c : Nat} (h : IsBit c) : PySem.NumText.step 2 (ds, b) c = some (ds.push (c - 48), true) := by
  have h' := h
  unfold IsBit at h'
  unfold PySem.NumText.step
  rw [if_neg (by rw [beq_iff_eq]; omega), digit_bin h]
  exact if_pos (by omega)
theorem foldl_bin : ∀ (cs : List Nat) (ds : Array Nat), (∀ c ∈ cs, IsBit c) → cs.foldlM (PySem.NumText.step 2) (ds, true) = some (cs.foldl (fun acc c => acc.push (c - 48)) ds, true)
  | [], _, _ => rfl
  | c :: cs, ds, h => by
    rw [List.foldlM_cons, step_bin (h c (List.mem_cons_self ..))]
    show cs.foldlM (PySem.NumText.step 2) (ds.push (c - 48), true) = _
    exact foldl_bin cs (ds.push (c - 48)) fun d hd => h d (List.mem_cons_of_mem _ hd)
theorem digits_bin {cs : List Nat} (h : ∀ c ∈ cs, IsBit c) (hne : cs ≠ []) : digits? 2 cs = some (cs.foldl (fun acc c => acc.push (c - 48)) #[]) := by
  cases cs with
  | nil => exact absurd rfl hne
  | cons c cs =>
    unfold digits?
    rw [List.foldlM_cons, step_bin (h c (List.mem_cons_self ..))]
    show (cs.foldlM (PySem.NumText.step 2) ((#[] : Array Nat).push (c - 48), true)).bind _ = _
    rw [foldl_bin cs _ fun d hd => h d (List.mem_cons_of_mem _ hd)]
    rfl
theorem push_bin : ∀ (cs : List Nat) (ds : Array Nat), (cs.foldl (fun acc c => acc.push (c - 48)) ds).foldl (fun acc d => acc * 2 + d) 0 = cs.foldl (fun a c => a * 2 + (c - 48)) (ds.foldl (fun acc d => acc * 2 + d) 0)
  | [], _ => rfl
  | c :: cs, ds => by
    rw [List.foldl_cons, push_bin cs (ds.push (c - 48)), List.foldl_cons]
    congr 1
    simp
theorem toHex {c : Nat} (h : IsBit c) : IsHex c := by unfold IsBit at h; unfold IsHex; omega
theorem basedB {cs : List Nat} (h : ∀ c ∈ cs, IsBit c) : based 2 cs = (2, false, cs) := by
  match cs, h with
  | [], _ => rfl
  | [a], h =>
    rcases h a (List.mem_cons_self ..) with rfl | rfl <;> rfl
  | a :: c :: r, h =>
    rcases h a (List.mem_cons_self ..) with rfl | rfl <;> rcases h c (List.mem_cons_of_mem _ (List.mem_cons_self ..)) with rfl | rfl <;> rfl
theorem read_bin {cs : List Nat} (h : ∀ c ∈ cs, IsBit c) (hne : cs ≠ []) : (int_private% "readNumeral") 0 2 cs = (int_private% "Numeral.value") ((binNum cs : Nat) : Int) := by
  have hx : ∀ c ∈ cs, IsHex c := fun c hc => toHex (h c hc)
  have hr : ∀ c ∈ cs.reverse, IsHex c := fun c hc => hx c (List.mem_reverse.mp hc)
  refine (readNumeral_eq 0 2 cs).trans ?_
  rw [dropB hx, signH hx]
  show judge 0 false (based 2 cs).1 (based 2 cs).2.1 (digits? (based 2 cs).1 (((based 2 cs).2.2.reverse.dropWhile blank).reverse)) = _
  rw [basedB h]
  show judge 0 false 2 false (digits? 2 ((cs.reverse.dropWhile blank).reverse)) = _
  rw [dropB hr, List.reverse_reverse, digits_bin h hne]
  show (int_private% "Numeral.value") (((cs.foldl (fun acc c => acc.push (c - 48)) (#[] : Array Nat)).foldl (fun acc d => acc * 2 + d) 0 : Nat) : Int) = _
  have z : (#[] : Array Nat).foldl (fun acc d => acc * 2 + d) 0 = 0 := by first | rfl | simp
  rw [push_bin, z] <;> rfl
set_option maxHeartbeats 4000000 in
theorem gives_bin {x : PySem.Str} {u t : Tok} (hl : x.length ≤ 640) (h : ∀ c ∈ x.cps.toList, IsBit c) (hne : x.cps.toList ≠ []) :
    Gives (Builtin.«int.__new__» ⟨[.type "int", .str x u, .int 2 t], []⟩) (.int ((binNum x.cps.toList : Nat) : Int)) :=
  .of_wp fun M A E s Q hQ => by
    obtain ⟨hp, g, d, tk, os⟩ := s
    have f1 := F.conv_sub_int
    have f2 := F.madeHere_int
    have f6 : typeOf (.str x u) = pure (.type "str") := rfl
    obtain ⟨e1, e2⟩ := seen_hex (x := x) (fun c hc => toHex (h c hc))
    have hs : (numSeenOf x).length ≤ 640 := by
      rw [e2, Array.length_toList]
      exact hl
    have hr : (int_private% "readNumeral") 0 2 (numSeenOf x) = (int_private% "Numeral.value") ((binNum x.cps.toList : Nat) : Int) := by
      rw [e2]
      exact read_bin h hne
    have ha : ((numSeenOf x).length == (numTextOf x).length) = true := by
      rw [e1, e2]
      exact beq_self_eq_true _
    have hk := Hid.mk (And.intro hs (And.intro hr ha))
    clear hs hr ha e1 e2 hl hne h
    repeat (any_goals (first
      | assumption
      | ((with_reducible show wpAny _ _ ((int_private% "intFromText") _ _ _) _ _ _); refine wp_textB hk.out.1 hk.out.2.1 hk.out.2.2 ?_)
      | wp_step))
    all_goals first | exact ⟨_, rfl, hQ⟩ | skip
theorem call_bin {prog : Program} {w : World} {A : Around} {E : Value → Shared → Prop} {s : Shared} {Q : Value → Shared → Prop} {x : PySem.Str} {u t : Tok} (hl : x.length ≤ 640) (h : ∀ c ∈ x.cps.toList, IsBit c) (hne : x.cps.toList ≠ [])
    (hQ : Q (.int ((binNum x.cps.toList : Nat) : Int) s.toks) { s with toks := s.toks + 1 }) : wpAny (model prog w) A (call (.type "int") [.str x u, .int 2 t]) Q E s :=
  callType_new F.called_int F.newNe_int (typeCall_int_2 _ _) (newCall_int_2 _ _) (fun obj => F.initArgs_range_2 obj _ _) F.entry_int_new (gives_bin hl h hne).meets (show (Made.int ((binNum x.cps.toList : Nat) : Int)).post _ s from ⟨rfl, hQ⟩)
end Bx
/-- int(t, 2) -/
def rIntBin : List V → Hp → VK → Prop := fun xs H Q => ∃ l : List Nat, xs = [.str (SX.S l), .int 2] ∧ l ≠ [] ∧ l.length ≤ 640 ∧ (∀ c ∈ l, Bx.IsBit c) ∧ Q (.int ((Bx.binNum l : Nat) : Int)) H
theorem call_int_bin {X : Cx} : CallR X (.type "int") rIntBin := by
  intro pins s σ H xs us Q I r h
  obtain ⟨l, rfl, hne, hl, hx, q⟩ := h
  obtain ⟨u, w', rfl, r1, r2⟩ := vals2 r
  obtain ⟨t1, rfl⟩ := r1
  obtain ⟨t2, rfl⟩ := r2
  exact Bx.call_bin (x := SX.S l) (by rw [SX.S_len]; exact hl) hx hne ⟨.int ((Bx.binNum l : Nat) : Int), H, I.tok _, ⟨_, rfl⟩, q⟩
/-! ### a list made over a range with a step -/
theorem lc_rangeC {lo c : Int} {n : Nat} {g : TG} {tt : TT} {te : TE} {vs : List Nat} {σ : L2.St} {H1 : Hp} {D : Addr} {Qd : Hp → Prop} (Pv : Nat → Hp → Prop) (h0 : Pv 0 (upd H1 D (.lst [])))
    (hs : ∀ i H, i < n → Pv i H → g (.int (lo + (i : Nat) * c)) (wipe σ vs) H fun σ2 H2 => wipe σ2 vs = wipe σ vs ∧ tt σ2 H2 fun b H3 =>
      if b = true then te σ2 H3 fun y H4 => ∃ acc, H4 D = some (.lst acc) ∧ acc.length < sizeLine ∧ Pv (i + 1) (upd H4 D (.lst (acc ++ [y]))) else Pv (i + 1) H3) (hd : ∀ H, Pv n H → Qd H) :
    ∃ W : Nat → Nat → Hp → Prop, (∃ m, W 0 m (upd H1 D (.lst []))) ∧ ∀ i m H, W i m H →
      ((Itc lo c n).stop i H ∧ Qd H) ∨ ((Itc lo c n).go i H ∧ ∃ Nx : Hp → Prop, (∀ H', Nx H' → ∃ m', m' < m ∧ W (i + 1) m' H') ∧ ∀ x H', (Itc lo c n).yld i H x H' → g x (wipe σ vs) H' fun σ2 H2 => wipe σ2 vs = wipe σ vs ∧ tt σ2 H2 fun b H3 =>
        if b = true then te σ2 H3 fun y H4 => ∃ acc, H4 D = some (.lst acc) ∧ acc.length < sizeLine ∧ Nx (upd H4 D (.lst (acc ++ [y]))) else Nx H3) := by
  refine ⟨fun i m H => m = n - i ∧ i ≤ n ∧ Pv i H, ⟨n, by simp, Nat.zero_le _, h0⟩, ?_⟩
  rintro i m H ⟨rfl, hi, p⟩
  by_cases hlt : i < n
  · refine .inr ⟨hlt, Pv (i + 1), fun H' p' => ⟨n - (i + 1), by omega, rfl, hlt, p'⟩, fun x H' y => ?_⟩
    obtain ⟨e, y⟩ := y
    subst e y
    exact hs i _ hlt p
  · have e : i = n := by omega
    subst e
    exact .inl ⟨Nat.le_refl _, hd H p⟩
end Fb
namespace Fb
open PySem L2 PyProof.Rows Bx
theorem binF (l : List Nat) : ∀ a : Nat, l.foldl (fun a c => a * 2 + (c - 48)) a = a * 2 ^ l.length + binNum l := by
  induction l with
  | nil => intro a; simp [binNum]
  | cons c l ih =>
    intro a
    unfold binNum
    rw [List.foldl_cons, List.foldl_cons, ih, ih (0 * 2 + (c - 48)), List.length_cons, Nat.pow_succ, Nat.add_mul, Nat.add_mul]
    have : a * 2 * 2 ^ l.length = a * (2 ^ l.length * 2) := by rw [Nat.mul_assoc, Nat.mul_comm 2]
    omega
theorem binNum_app (a b : List Nat) : binNum (a ++ b) = binNum a * 2 ^ b.length + binNum b := by
  show (a ++ b).foldl _ 0 = _
  rw [List.foldl_append, binF]
  rfl
theorem binNum_zeros (m : Nat) : binNum (List.replicate m 48) = 0 := by
  induction m with
  | zero => rfl
  | succ m ih =>
    rw [show List.replicate (m + 1) 48 = [48] ++ List.replicate m 48 from rfl, binNum_app, ih]
    show (0 * 2 + (48 - 48)) * _ + 0 = 0
    simp
theorem binNum_ones (m : Nat) : binNum (List.replicate m 49) + 1 = 2 ^ m := by
  induction m with
  | zero => rfl
  | succ m ih =>
    rw [show List.replicate (m + 1) 49 = [49] ++ List.replicate m 49 from rfl, binNum_app, List.length_replicate, Nat.add_assoc, ih, Nat.pow_succ]
    show (0 * 2 + (49 - 48)) * 2 ^ m + 2 ^ m = _
    omega
theorem flip_par : ∀ {k : Nat}, flip (-1) (k + 1) = if k % 2 = 0 then 1 else -1
  | 0 => rfl
  | 1 => rfl
  | k + 2 => by
    rw [flip_succ, flip_succ, Int.neg_neg, flip_par (k := k)]
    rw [show (k + 2) % 2 = k % 2 by omega]
/-- the row of equal bits below turn k -/
def rowS (ns : List Nat) (k : Nat) : List Nat := List.replicate (ns.getD k 0 - ns.getD (k - 1) 0) (48 + k % 2)
/-- all rows up to turn k -/
def rowD2 (ns : List Nat) : Nat → List Nat
  | 0 => List.replicate (ns.getD 0 0) 48
  | k + 1 => rowS ns (k + 1) ++ rowD2 ns k
theorem rowD2_val {ns : List Nat} (asc : ns.Pairwise (· < ·)) : ∀ k, k < ns.length → (rowD2 ns k).length = ns.getD k 0 ∧ ((binNum (rowD2 ns k) : Nat) : Int) = alt (-1) (ns.take (k + 1)) + (if k % 2 = 0 then 2 ^ (ns.getD k 0) else 0) := by
  intro k
  induction k with
  | zero =>
    intro h
    obtain ⟨t, r, rfl⟩ : ∃ t r, ns = t :: r := by
      cases ns with
      | nil => exact absurd h (by decide)
      | cons t r => exact ⟨t, r, rfl⟩
    refine ⟨List.length_replicate .., ?_⟩
    show ((binNum (List.replicate t 48) : Nat) : Int) = (-1 * 2 ^ t + 0) + (if 0 % 2 = 0 then 2 ^ t else 0)
    rw [binNum_zeros, if_pos (by rfl)]
    simp only [Int.natCast_zero]
    generalize (2 : Int) ^ t = T
    omega
  | succ k ih =>
    intro h
    obtain ⟨l1, v1⟩ := ih (by omega)
    have hk : ns.getD k 0 = ns[k]'(by omega) := by rw [List.getD_eq_getElem?_getD, List.getElem?_eq_getElem (by omega)]; rfl
    have hk1 : ns.getD (k + 1) 0 = ns[k + 1]'h := by rw [List.getD_eq_getElem?_getD, List.getElem?_eq_getElem h]; rfl
    have lt : ns.getD k 0 < ns.getD (k + 1) 0 := by
      rw [hk, hk1]
      exact List.pairwise_iff_getElem.mp asc k (k + 1) (by omega) h (by omega)
    have len : (rowD2 ns (k + 1)).length = ns.getD (k + 1) 0 := by
      show (rowS ns (k + 1) ++ rowD2 ns k).length = _
      rw [List.length_append, l1]
      unfold rowS
      rw [List.length_replicate, Nat.add_sub_cancel]
      omega
    refine ⟨len, ?_⟩
    have et : ns.take (k + 1 + 1) = ns.take (k + 1) ++ [ns.getD (k + 1) 0] := by
      rw [List.take_add_one, List.getElem?_eq_getElem h, hk1]; rfl
    have ll : (ns.take (k + 1)).length = k + 1 := by rw [List.length_take]; omega
    rw [et, alt_snoc, ll]
    show ((binNum (rowS ns (k + 1) ++ rowD2 ns k) : Nat) : Int) = _
    rw [binNum_app, l1, Int.natCast_add, Int.natCast_mul, v1, Int.natCast_pow]
    unfold rowS
    rw [Nat.add_sub_cancel]
    generalize alt (-1) (ns.take (k + 1)) = A
    generalize ns.getD k 0 = s at *
    generalize ns.getD (k + 1) 0 = t at *
    have fl : flip (-1) (k + 1) = if k % 2 = 0 then 1 else -1 := flip_par (k := k)
    rw [fl]
    rcases (show k % 2 = 0 ∨ k % 2 = 1 by omega) with c | c
    · rw [if_pos c, if_pos c, if_neg (show ¬ (k + 1) % 2 = 0 by omega), show (k + 1) % 2 = 1 by omega]
      have o := binNum_ones (t - s)
      have o2 : ((binNum (List.replicate (t - s) 49) : Nat) : Int) = 2 ^ (t - s) - 1 := by
        have : ((2 ^ (t - s) : Nat) : Int) = 2 ^ (t - s) := Int.natCast_pow 2 _
        rw [← this, ← o]; omega
      rw [show 48 + 1 = 49 from rfl, o2, Int.sub_mul]
      have e : (2 : Int) ^ (t - s) * ((2 : Nat) : Int) ^ s = 2 ^ t := by
        rw [show ((2 : Nat) : Int) = 2 from rfl, ← Int.pow_add, Nat.sub_add_cancel (Nat.le_of_lt lt)]
      rw [e, show ((2 : Nat) : Int) = 2 from rfl]
      generalize (2 : Int) ^ t = T
      generalize (2 : Int) ^ s = S
      omega
    · rw [if_neg (show ¬ k % 2 = 0 by omega), if_neg (show ¬ k % 2 = 0 by omega), if_pos (show (k + 1) % 2 = 0 by omega), show (k + 1) % 2 = 0 by omega]
      rw [show 48 + 0 = 48 from rfl, binNum_zeros]
      generalize (2 : Int) ^ t = T
      simp only [Int.natCast_zero]
      omega
theorem rowD2_bits (ns : List Nat) : ∀ k, ∀ c ∈ rowD2 ns k, IsBit c := by
  intro k
  induction k with
  | zero => intro c h; exact .inl (List.eq_of_mem_replicate h)
  | succ k ih =>
    intro c h
    rcases List.mem_append.mp h with h | h
    · have := List.eq_of_mem_replicate h
      unfold IsBit
      omega
    · exact ih c h
theorem joinL_nil : ∀ l : List (List Nat), TL.joinL [] l = l.flatten
  | [] => rfl
  | [p] => by show p = _; simp
  | p :: q :: r => by
    show p ++ ([] ++ TL.joinL [] (q :: r)) = _
    rw [joinL_nil (q :: r)]
    simp
theorem rows_join (ns : List Nat) : ∀ N : Nat, (((List.range N).map fun i => rowS ns (N - i)) ++ [List.replicate (ns.getD 0 0) 48]).flatten = rowD2 ns N := by
  intro N
  induction N with
  | zero => simp [rowD2]
  | succ N ih =>
    rw [List.range_succ_eq_map, List.map_cons, List.map_map]
    show (rowS ns (N + 1) :: (_ ++ _)).flatten = _
    rw [List.flatten_cons]
    show _ = rowS ns (N + 1) ++ rowD2 ns N
    rw [← ih]
    congr 4
    funext i
    show rowS ns (N + 1 - (i + 1)) = rowS ns (N - i)
    rw [Nat.add_sub_add_right]
end Fb
namespace Fb
open PySem L2 PySem.Spec PyProof.Rows
namespace Bx
open Hx PySem.NumText
theorem read_binL {cs : List Nat} (lim : Nat) (h : ∀ c ∈ cs, IsBit c) (hne : cs ≠ []) : (int_private% "readNumeral") lim 2 cs = (int_private% "Numeral.value") ((binNum cs : Nat) : Int) := by
  have hx : ∀ c ∈ cs, IsHex c := fun c hc => toHex (h c hc)
  have hr : ∀ c ∈ cs.reverse, IsHex c := fun c hc => hx c (List.mem_reverse.mp hc)
  refine (readNumeral_eq lim 2 cs).trans ?_
  rw [dropB hx, signH hx]
  show judge lim false (based 2 cs).1 (based 2 cs).2.1 (digits? (based 2 cs).1 (((based 2 cs).2.2.reverse.dropWhile blank).reverse)) = _
  rw [basedB h]
  show judge lim false 2 false (digits? 2 ((cs.reverse.dropWhile blank).reverse)) = _
  rw [dropB hr, List.reverse_reverse, digits_bin h hne]
  show (int_private% "Numeral.value") (((cs.foldl (fun acc c => acc.push (c - 48)) (#[] : Array Nat)).foldl (fun acc d => acc * 2 + d) 0 : Nat) : Int) = _
  have z : (#[] : Array Nat).foldl (fun acc d => acc * 2 + d) 0 = 0 := by first | rfl | simp
  rw [push_bin, z] <;> rfl
theorem wp_textL {M : Model} {A : Around} {E : Value → Shared → Prop} {s : Shared} {Q : Value → Shared → Prop} {v : Value} {text : List Nat} {B : Nat} {n : Int}
    (hs : ¬ (text.takeWhile (· != 0)).length ≤ 640) (hL : ∀ Q' : Option Value → Shared → Prop, Q' none s → wpAny M A (nsGet cStatics "sys.int_max_str_digits") Q' E s) (hr : ∀ lim, (int_private% "readNumeral") lim B (text.takeWhile (· != 0)) = (int_private% "Numeral.value") n)
    (ha : ((text.takeWhile (· != 0)).length == text.length) = true) (h : Q (.int n s.toks) { s with toks := s.toks + 1 }) :
    wpAny M A ((int_private% "intFromText") v text B) Q E s := by
  obtain ⟨hp, g, d, tk, os⟩ := s
  repeat (any_goals (first
    | assumption
    | (with_reducible refine wpAny_ite_false (decide_eq_false hs) ?_)
    | (with_reducible refine wpAny_ite_true (decide_eq_true ha) ?_)
    | (with_reducible refine hL _ ?_)
    | wp_step))
  all_goals (try rw [hr])
  all_goals (try dsimp only)
  repeat (any_goals (first
    | assumption
    | (with_reducible refine wpAny_ite_true (decide_eq_true ha) ?_)
    | wp_step))
structure HidL (p : Prop) : Prop where
  out : p
theorem gives_binL {prog : Program} {w : World} {x : PySem.Str} {u t : Tok} (hl : ¬ x.length ≤ 640) (h : ∀ c ∈ x.cps.toList, IsBit c) (hne : x.cps.toList ≠ []) :
    MeetsIn prog w (Builtin.«int.__new__» ⟨[.type "int", .str x u, .int 2 t], []⟩) (fun A R s => (∀ (M : Model) (A : Around) (E : Value → Shared → Prop) (Q' : Option Value → Shared → Prop), Q' none s → wpAny M A (nsGet cStatics "sys.int_max_str_digits") Q' E s) ∧ (Made.int ((binNum x.cps.toList : Nat) : Int)).post (fun v s' => R (.ok (.ret v)) s') s) := by
  intro A R s h0
  obtain ⟨hL, hQ⟩ := h0
  suffices hh : wpAny (model prog w) A.in1 (Builtin.«int.__new__» ⟨[.type "int", .str x u, .int 2 t], []⟩) (fun fin s' => ∃ v, fin = .done (.ret v) ∧ R (.ok (.ret v)) s') (fun e s' => R (.error e) s') s from
    wpAny_mono hh (fun fin s' h' => by obtain ⟨v, rfl, hv⟩ := h'; exact hv) fun _ _ x => x
  replace hL := hL (model prog w) A.in1
  generalize (model prog w) = M at hL ⊢
  generalize A.in1 = A' at hL ⊢
  generalize (fun e s' => R (.error e) s' : Value → Shared → Prop) = E at hL ⊢
  replace hL := hL E
  obtain ⟨hp, g, d, tk, os⟩ := s
  have f1 := F.conv_sub_int
  have f2 := F.madeHere_int
  have f6 : typeOf (.str x u) = pure (.type "str") := rfl
  obtain ⟨e1, e2⟩ := seen_hex (x := x) (fun c hc => toHex (h c hc))
  have hs : ¬ (numSeenOf x).length ≤ 640 := by
    rw [e2, Array.length_toList]
    exact hl
  have hr : ∀ lim, (int_private% "readNumeral") lim 2 (numSeenOf x) = (int_private% "Numeral.value") ((binNum x.cps.toList : Nat) : Int) := by
    rw [e2]
    exact fun lim => read_binL lim h hne
  have ha : ((numSeenOf x).length == (numTextOf x).length) = true := by
    rw [e1, e2]
    exact beq_self_eq_true _
  have hk := HidL.mk (And.intro hs (And.intro hr (And.intro ha hL)))
  clear hs hr ha e1 e2 hl hne h hL
  repeat (any_goals (first
    | assumption
    | ((with_reducible show wpAny _ _ ((int_private% "intFromText") _ _ _) _ _ _); refine wp_textL hk.out.1 hk.out.2.2.2 hk.out.2.1 hk.out.2.2.1 ?_)
    | wp_step))
  all_goals first | exact ⟨_, rfl, hQ⟩ | skip
theorem call_binL {prog : Program} {w : World} {A : Around} {E : Value → Shared → Prop} {s : Shared} {Q : Value → Shared → Prop} {x : PySem.Str} {u t : Tok} (hl : ¬ x.length ≤ 640) (h : ∀ c ∈ x.cps.toList, IsBit c) (hne : x.cps.toList ≠ [])
    (hL : ∀ (M : Model) (A : Around) (E : Value → Shared → Prop) (Q' : Option Value → Shared → Prop), Q' none s → wpAny M A (nsGet cStatics "sys.int_max_str_digits") Q' E s)
    (hQ : Q (.int ((binNum x.cps.toList : Nat) : Int) s.toks) { s with toks := s.toks + 1 }) : wpAny (model prog w) A (call (.type "int") [.str x u, .int 2 t]) Q E s :=
  callType_newIn F.called_int F.newNe_int (typeCall_int_2 _ _) (newCall_int_2 _ _) (fun obj => F.initArgs_range_2 obj _ _) F.entry_int_new (gives_binL hl h hne) ⟨hL, show (Made.int ((binNum x.cps.toList : Nat) : Int)).post _ s from ⟨rfl, hQ⟩⟩
end Bx
/-- int(t, 2), of a text of any length -/
def rIntBinL : List V → Hp → VK → Prop := fun xs H Q => ∃ l : List Nat, xs = [.str (SX.S l), .int 2] ∧ l ≠ [] ∧ (∀ c ∈ l, Bx.IsBit c) ∧ Q (.int ((Bx.binNum l : Nat) : Int)) H
theorem call_int_binL {X : Cx} (hk : PySem.W.nsIn X.K cStatics "sys.int_max_str_digits" = some none) : CallR X (.type "int") rIntBinL := by
  intro pins s σ H xs us Q I r h
  obtain ⟨l, rfl, hne, hx, q⟩ := h
  by_cases hl : l.length ≤ 640
  · exact call_int_bin _ _ _ _ _ _ _ I r ⟨l, rfl, hne, hl, hx, q⟩
  obtain ⟨u, w', rfl, r1, r2⟩ := vals2 r
  obtain ⟨t1, rfl⟩ := r1
  obtain ⟨t2, rfl⟩ := r2
  refine Bx.call_binL (x := SX.S l) (by rw [SX.S_len]; exact hl) hx hne (fun M A E Q' h' => PySem.W.looks_nsIn I.kIn hk A Q' E s (fun _ _ z => z) h') ⟨.int ((Bx.binNum l : Nat) : Int), H, I.tok _, ⟨_, rfl⟩, q⟩
end Fb
namespace Fb
open PySem L2
/-! ### codes a step apart -/
def Cq (c : Int) : Prop := 0 ≤ c ∧ c < 2 ^ 799 ∧ ∀ p ∈ turnsN c, Pl (p : Int)
theorem Cq.of {c : Int} (h : Cd c) : Cq c := ⟨h.b.1, h.b.2, code_places h⟩
/-- the turns of x - 1 -/
theorem dec_turns {x : Int} {t : Nat} {rest : List Nat} (h : turnsN x = t :: rest) : ∀ p ∈ turnsN (x - 1), p = 0 ∨ p ∈ turnsN x ∨ p = t + 1 := by
  have asc := turns_asc x
  have val := turns_alt x
  rw [h] at asc val
  obtain ⟨a1, a2⟩ := List.pairwise_cons.mp asc
  have key : ∀ L : List Nat, L.Pairwise (· < ·) → alt (-1) L = x - 1 → (∀ p ∈ L, p = 0 ∨ p ∈ t :: rest ∨ p = t + 1) → ∀ p ∈ turnsN (x - 1), p = 0 ∨ p ∈ turnsN x ∨ p = t + 1 := fun L hL e hp => by
    rw [← e, turns_of_alt hL, h]
    exact hp
  have pp : ∀ n : Nat, (2 : Int) ^ (n + 1) = 2 * 2 ^ n := fun n => by rw [Int.pow_succ]; omega
  have two : ∀ r2, rest = (t + 1) :: r2 → ∀ p ∈ turnsN (x - 1), p = 0 ∨ p ∈ turnsN x ∨ p = t + 1 := fun r2 hr => by
    subst hr
    obtain ⟨b1, b2⟩ := List.pairwise_cons.mp a2
    have v : -1 * 2 ^ t + (- -1 * 2 ^ (t + 1) + alt (- - -1) r2) = x := val
    have v' : (2 : Int) ^ t + alt (-1) r2 = x := by
      rw [pp] at v
      have e3 : (- - -1 : Int) = -1 := by decide
      rw [e3] at v
      omega
    by_cases t0 : t = 0
    · subst t0
      refine key r2 b2 ?_ fun p hp => .inr (.inl (List.mem_cons_of_mem _ (List.mem_cons_of_mem _ hp)))
      have : (2 : Int) ^ 0 = 1 := rfl
      omega
    · refine key (0 :: t :: r2) ?_ ?_ fun p hp => ?_
      · refine List.pairwise_cons.mpr ⟨fun p hp => ?_, List.pairwise_cons.mpr ⟨fun p hp => a1 p (List.mem_cons_of_mem _ hp), b2⟩⟩
        rcases List.mem_cons.mp hp with rfl | hp
        · omega
        · have := a1 p (List.mem_cons_of_mem _ hp); omega
      · show -1 * 2 ^ 0 + (- -1 * 2 ^ t + alt (- - -1) r2) = _
        have e3 : (- - -1 : Int) = -1 := by decide
        have e0 : (2 : Int) ^ 0 = 1 := rfl
        rw [e3, e0]
        omega
      · rcases List.mem_cons.mp hp with rfl | hp
        · exact .inl rfl
        · rcases List.mem_cons.mp hp with rfl | hp
          · exact .inr (.inl List.mem_cons_self)
          · exact .inr (.inl (List.mem_cons_of_mem _ (List.mem_cons_of_mem _ hp)))
  have far : (∀ p ∈ rest, t + 1 < p) → ∀ p ∈ turnsN (x - 1), p = 0 ∨ p ∈ turnsN x ∨ p = t + 1 := fun hf => by
    have v : -1 * 2 ^ t + alt (- -1) rest = x := val
    have e2 : (- -1 : Int) = 1 := by decide
    rw [e2] at v
    by_cases t0 : t = 0
    · subst t0
      refine key (1 :: rest) (List.pairwise_cons.mpr ⟨fun p hp => hf p hp, a2⟩) ?_ fun p hp => ?_
      · show -1 * 2 ^ 1 + alt (- -1) rest = _
        have e0 : (2 : Int) ^ 0 = 1 := rfl
        have e1 : (2 : Int) ^ 1 = 2 := rfl
        rw [e2, e1]
        omega
      · rcases List.mem_cons.mp hp with rfl | hp
        · exact .inr (.inr rfl)
        · exact .inr (.inl (List.mem_cons_of_mem _ hp))
    · refine key (0 :: t :: (t + 1) :: rest) ?_ ?_ fun p hp => ?_
      · refine List.pairwise_cons.mpr ⟨fun p hp => ?_, List.pairwise_cons.mpr ⟨fun p hp => ?_, List.pairwise_cons.mpr ⟨hf, a2⟩⟩⟩
        · rcases List.mem_cons.mp hp with rfl | hp
          · omega
          · rcases List.mem_cons.mp hp with rfl | hp
            · omega
            · have := hf p hp; omega
        · rcases List.mem_cons.mp hp with rfl | hp
          · omega
          · have := hf p hp; omega
      · show -1 * 2 ^ 0 + (- -1 * 2 ^ t + (- - -1 * 2 ^ (t + 1) + alt (- - - -1) rest)) = _
        have e3 : (- - -1 : Int) = -1 := by decide
        have e4 : (- - - -1 : Int) = 1 := by decide
        have e0 : (2 : Int) ^ 0 = 1 := rfl
        rw [e4, e3, e0, pp]
        omega
      · rcases List.mem_cons.mp hp with rfl | hp
        · exact .inl rfl
        · rcases List.mem_cons.mp hp with rfl | hp
          · exact .inr (.inl List.mem_cons_self)
          · rcases List.mem_cons.mp hp with rfl | hp
            · exact .inr (.inr rfl)
            · exact .inr (.inl (List.mem_cons_of_mem _ hp))
  cases rest with
  | nil => exact far fun p hp => by cases hp
  | cons u r2 =>
    have := a1 u List.mem_cons_self
    by_cases e : u = t + 1
    · subst e; exact two r2 rfl
    · refine far fun p hp => ?_
      rcases List.mem_cons.mp hp with rfl | hp
      · omega
      · have := (List.pairwise_cons.mp a2).1 p hp; omega
theorem digit_turns60 {d : Int} (h0 : 0 ≤ d) (h1 : d < 2 ^ 60) : ∀ p ∈ turnsN d, p ≤ 60 := fun p hp =>
  turns_lt (x := d) (n := 60) (by omega) h1 p hp
theorem code_places60 {m : Nat} {c : Int} (h : CodeB m (2 ^ 60) c) : ∀ p ∈ turnsN c, p < 799 ∧ p % 200 ≤ 60 := by
  obtain ⟨d, rfl, h2, _⟩ := h
  have t0 := digit_turns60 (h2 0).1 (h2 0).2
  have t1 := digit_turns60 (h2 1).1 (h2 1).2
  have t2 := digit_turns60 (h2 2).1 (h2 2).2
  have t3 := digit_turns60 (h2 3).1 (h2 3).2
  have n3 : 0 ≤ d 2 + d 3 * 2 ^ 200 := by have := (h2 2).1; have := (h2 3).1; omega
  have n2 : 0 ≤ d 1 + (d 2 + d 3 * 2 ^ 200) * 2 ^ 200 := by have := (h2 1).1; omega
  have e : val4 d = d 0 + (d 1 + (d 2 + d 3 * 2 ^ 200) * 2 ^ 200) * 2 ^ 200 := by unfold val4; omega
  rw [e, turns_two (h2 0).1 n2 (fun p hp => by have := t0 p hp; omega), turns_two (h2 1).1 n3 (fun p hp => by have := t1 p hp; omega), turns_two (h2 2).1 (h2 3).1 (fun p hp => by have := t2 p hp; omega)]
  intro p hp
  simp only [List.mem_append, List.map_append, List.mem_map] at hp
  rcases hp with hp | ⟨q, hq, rfl⟩ | ⟨q, ⟨r, hr, rfl⟩ , rfl⟩ | ⟨q, ⟨r, ⟨u, hu, rfl⟩, rfl⟩, rfl⟩
  · have := t0 p hp; omega
  · have := t1 q hq; omega
  · have := t2 r hr; omega
  · have := t3 u hu; omega
theorem Cq.dec {c : Int} (h : Cd c) (h1 : 1 ≤ c) : Cq (c - 1) := by
  have b := h.b
  refine ⟨by omega, by generalize (2 : Int) ^ 799 = B at b ⊢; omega, ?_⟩
  cases ht : turnsN c with
  | nil =>
    have v := turns_alt c
    rw [ht] at v
    have : (0 : Int) = c := v
    omega
  | cons t rest =>
    have pl := code_places60 h
    intro p hp
    rcases dec_turns ht p hp with rfl | hp | rfl
    · exact ⟨by decide, by decide, by decide⟩
    · have := pl p hp
      exact ⟨by omega, by omega, by omega⟩
    · have := pl t (by rw [ht]; exact List.mem_cons_self)
      exact ⟨by omega, by omega, by omega⟩
theorem ordN_movedQ {fs : List PyData} (F : Fields fs) : OrdN 4 (movedD fs) Cq := by
  have o := ordN_place F
  have pl : ∀ c, Cq c → ∀ a ∈ zs (turnsN c), Pl a := fun c h a ha => by
    obtain ⟨p, hp, rfl⟩ := List.mem_map.mp ha
    exact h.2.2 p hp
  have le : ∀ c, Cq c → (zs (turnsN c)).length ≤ 9000 := fun c h => by
    rw [len_zs]
    have := len_turns h.1 h.2.1
    omega
  refine { fm := fun c h => ?_, ord := fun c c' h h' => ?_, pos := fun c h => h.1, near := fun c h h64 => small_moved F h.1 h64, far := fun c h h64 => ?_ }
  · rw [moved_row]
    exact row_fm o (pl c h) (zs_asc (turns_asc c)) (le c h)
  · show cmpD 4 (movedD fs c) (movedD fs c') = _
    rw [moved_row, moved_row, row_ord o (pl c h) (pl c' h') (zs_asc (turns_asc c)) (zs_asc (turns_asc c')) (le c h) (le c' h'), cmpS_turns]
  · obtain ⟨hm, _, k⟩ := moveds F 0
    have := (k c h.1 h.2.1).2.2
    by_cases e : isNear (movedD fs c) = true
    · have := this e; omega
    · exact Bool.eq_false_iff.mpr e
theorem sw_movedQ {fs : List PyData} (F : Fields fs) {c : Int} (h : Cq c) : Sw 4 1281621 (movedD fs c) := by
  rw [moved_row]
  have pl : ∀ a ∈ zs (turnsN c), Pl a := fun a ha => by
    obtain ⟨p, hp, rfl⟩ := List.mem_map.mp ha
    exact h.2.2 p hp
  have r := sw_row (m := 3) (b := 1600) (ordN_place F) pl (zs_asc (turns_asc c)) fun a ha => by
    have q := pl a ha
    have e : ((a.toNat : Nat) : Int) = a := by have := q.1; omega
    exact sw_place F (p := a.toNat) (by rw [e]; exact q)
  rw [len_zs] at r
  refine r.mono (Nat.le_refl _) ?_
  have lt := len_turns h.1 h.2.1
  have := Nat.mul_le_mul_right 1602 lt
  omega
end Fb
namespace Fb
open PySem L2
/-! ### the bits of an int -/
def Bt (p : Nat) (x : Int) : Int := x / 2 ^ p % 2
theorem bt_zero (x : Int) : Bt 0 x = x % 2 := by unfold Bt; rw [Int.pow_zero, Int.ediv_one]
theorem bt_succ (p : Nat) (x : Int) : Bt (p + 1) x = Bt p (x / 2) := by
  unfold Bt
  rw [Int.pow_succ, Int.mul_comm, ← Int.ediv_ediv_of_nonneg (by decide)]
theorem bt_01 (p : Nat) (x : Int) : Bt p x = 0 ∨ Bt p x = 1 := by unfold Bt; omega
theorem bt_ext_bd : ∀ (N : Nat) (x y : Int), -(2 ^ N) ≤ x → x < 2 ^ N → -(2 ^ N) ≤ y → y < 2 ^ N → (∀ p, Bt p x = Bt p y) → x = y
  | 0, x, y, h1, h2, h3, h4, h => by
    have := h 0
    rw [bt_zero, bt_zero] at this
    omega
  | N + 1, x, y, h1, h2, h3, h4, h => by
    have e := bt_ext_bd N (x / 2) (y / 2) (by rw [Int.pow_succ] at h1; omega) (by rw [Int.pow_succ] at h2; omega) (by rw [Int.pow_succ] at h3; omega) (by rw [Int.pow_succ] at h4; omega) fun p => by
      have := h (p + 1)
      rw [bt_succ, bt_succ] at this
      exact this
    have := h 0
    rw [bt_zero, bt_zero] at this
    omega
theorem lt_two_pow (n : Nat) : n < 2 ^ n := Nat.lt_two_pow_self
theorem bt_ext {x y : Int} (h : ∀ p, Bt p x = Bt p y) : x = y := by
  have b : ∀ (z : Int) (N : Nat), z.natAbs ≤ N → -(2 ^ N) ≤ z ∧ z < 2 ^ N := fun z N hz => by
    have e : ((2 ^ N : Nat) : Int) = 2 ^ N := Int.natCast_pow 2 N
    have := lt_two_pow N
    omega
  have bx := b x (x.natAbs + y.natAbs) (by omega)
  have by' := b y (x.natAbs + y.natAbs) (by omega)
  exact bt_ext_bd _ x y bx.1 bx.2 by'.1 by'.2 h
theorem bt_and : ∀ (p : Nat) (x y : Int), Bt p (Builtin.bitAnd x y) = Bt p x * Bt p y
  | 0, x, y => by
    rw [bt_zero, bt_zero, bt_zero, PySem.W.kbt_halves]
    rcases Int.emod_two_eq x with h | h <;> rcases Int.emod_two_eq y with k | k <;> rw [h, k] <;> simp <;> omega
  | p + 1, x, y => by
    rw [bt_succ, bt_succ, bt_succ, ← bt_and p]
    congr 1
    rw [PySem.W.kbt_halves]
    split <;> omega
theorem bt_not : ∀ (p : Nat) (x : Int), Bt p (-x - 1) = 1 - Bt p x
  | 0, x => by rw [bt_zero, bt_zero]; omega
  | p + 1, x => by
    rw [bt_succ, bt_succ, ← bt_not p]
    congr 1
    omega
/-- carries -/
def maj (a b c : Int) : Int := (a + b + c) / 2
def cr (x y k : Int) : Nat → Int
  | 0 => k
  | p + 1 => maj (Bt p x) (Bt p y) (cr x y k p)
theorem cr_01 {x y k : Int} (hk : k = 0 ∨ k = 1) : ∀ p, cr x y k p = 0 ∨ cr x y k p = 1
  | 0 => hk
  | p + 1 => by
    have := cr_01 (x := x) (y := y) hk p
    have := bt_01 p x
    have := bt_01 p y
    show maj _ _ _ = 0 ∨ maj _ _ _ = 1
    unfold maj
    omega
theorem cr_shift (x y k : Int) : ∀ p, cr x y k (p + 1) = cr (x / 2) (y / 2) (maj (x % 2) (y % 2) k) p
  | 0 => by show maj (Bt 0 x) (Bt 0 y) k = _; rw [bt_zero, bt_zero]; rfl
  | p + 1 => by
    show maj (Bt (p + 1) x) (Bt (p + 1) y) (cr x y k (p + 1)) = _
    rw [cr_shift x y k p, bt_succ, bt_succ]
    rfl
theorem bt_add : ∀ (p : Nat) (x y k : Int), (k = 0 ∨ k = 1) → Bt p (x + y + k) = (Bt p x + Bt p y + cr x y k p) % 2
  | 0, x, y, k, hk => by
    rw [bt_zero, bt_zero, bt_zero]
    show _ = (x % 2 + y % 2 + k) % 2
    omega
  | p + 1, x, y, k, hk => by
    have e : (x + y + k) / 2 = x / 2 + y / 2 + maj (x % 2) (y % 2) k := by unfold maj; omega
    rw [bt_succ, e, bt_add p _ _ _ (by unfold maj; omega), ← cr_shift, bt_succ, bt_succ]
/-! ### the bits told by turns -/
theorem alt_mul (k : Nat) : ∀ (l : List Nat) (s : Int), (∀ n ∈ l, k ≤ n) → ∃ q, alt s l = 2 ^ k * q
  | [], s, _ => ⟨0, by rw [Int.mul_zero]; rfl⟩
  | n :: l, s, h => by
    obtain ⟨q, hq⟩ := alt_mul k l (-s) fun m hm => h m (List.mem_cons_of_mem _ hm)
    have hn := h n List.mem_cons_self
    refine ⟨s * 2 ^ (n - k) + q, ?_⟩
    show s * 2 ^ n + alt (-s) l = _
    rw [hq, Int.mul_add]
    congr 1
    rw [← Int.mul_assoc, Int.mul_comm (2 ^ k) s, Int.mul_assoc, ← Int.pow_add]
    congr 2
    omega
theorem alt_neg : ∀ (l : List Nat) (s : Int), alt (-s) l = -alt s l
  | [], s => rfl
  | n :: l, s => by
    show -s * 2 ^ n + alt (- -s) l = -(s * 2 ^ n + alt (-s) l)
    rw [alt_neg l (-s)]
    rw [Int.neg_mul, Int.neg_add]
def cnt (l : List Int) (c : Int) : Nat := (l.filter fun t => decide (t ≤ c)).length
def clt (l : List Int) (c : Int) : Nat := (l.filter fun t => decide (t < c)).length
theorem bt_alt (p : Nat) : ∀ l : List Nat, l.Pairwise (· < ·) → Bt p (alt (-1) l) = ((l.filter fun t => decide (t ≤ p)).length % 2 : Nat)
  | [], _ => by show Bt p 0 = 0; unfold Bt; rw [Int.zero_ediv]; rfl
  | n :: l, hp => by
    obtain ⟨h1, h2⟩ := List.pairwise_cons.mp hp
    obtain ⟨q, hq⟩ := alt_mul (n + 1) l (-1) fun m hm => h1 m hm
    have ih := bt_alt p l h2
    have e : alt (-1) (n :: l) = -(2 ^ n * (2 * q + 1)) := by
      show -1 * 2 ^ n + alt (- -1) l = _
      rw [alt_neg l (-1), hq, Int.pow_succ, Int.mul_add, ← Int.mul_assoc]
      omega
    by_cases hn : n ≤ p
    · rw [List.filter_cons_of_pos (by simp [hn]), List.length_cons]
      have k1 : Bt p (alt (-1) (n :: l)) = 1 - Bt p (alt (-1) l) := by
        rw [← bt_not, e, hq]
        unfold Bt
        obtain ⟨d, rfl⟩ : ∃ d, p = n + d := ⟨p - n, by omega⟩
        have p2 : (0 : Int) < 2 ^ n := Int.pow_pos (by decide)
        have k2 : (-(2 ^ n * (2 * q + 1))) / 2 ^ n = -(2 * q + 1) := by
          rw [← Int.mul_neg]
          exact Int.mul_ediv_cancel_left _ (Int.ne_of_gt p2)
        have k3 : (-(2 ^ (n + 1) * q) - 1) / 2 ^ n = -(2 * q + 1) := by
          have : -(2 ^ (n + 1) * q) - 1 = (2 ^ n - 1) + 2 ^ n * (-(2 * q + 1)) := by
            rw [Int.pow_succ, Int.mul_assoc]
            generalize (2 : Int) ^ n = N
            rw [Int.mul_neg, Int.mul_add, Int.mul_one]
            omega
          rw [this, Int.add_mul_ediv_left _ _ (Int.ne_of_gt p2), Int.ediv_eq_zero_of_lt (by omega) (by omega), Int.zero_add]
        rw [Int.pow_add, ← Int.ediv_ediv_of_nonneg (Int.le_of_lt p2), k2, ← Int.ediv_ediv_of_nonneg (Int.le_of_lt p2), k3]
      rw [k1, ih]
      omega
    · have none : l.filter (fun t => decide (t ≤ p)) = [] := List.filter_eq_nil_iff.mpr fun t ht => by
        have := h1 t ht
        simp only [decide_eq_true_eq]
        omega
      rw [List.filter_cons_of_neg (by simp [hn]), none]
      rw [e]
      unfold Bt
      obtain ⟨d, hd⟩ : ∃ d, n = p + 1 + d := ⟨n - p - 1, by omega⟩
      have : -(2 ^ n * (2 * q + 1)) = 2 ^ p * (2 * (2 ^ d * -(2 * q + 1))) := by
        rw [hd, Int.pow_add, Int.pow_add, ← Int.mul_neg, Int.mul_assoc, Int.mul_assoc]
        rfl
      rw [this, Int.mul_ediv_cancel_left _ (Int.ne_of_gt (Int.pow_pos (by decide)))]
      simp
/-- the turns of an int, as places -/
def Tl (x : Int) : List Int := zs (turnsN x)
theorem tl_asc (x : Int) : (Tl x).Pairwise (· < ·) := zs_asc (turns_asc x)
theorem tl_pos (x : Int) : ∀ c ∈ Tl x, 0 ≤ c := zs_pos
theorem cnt_zs (l : List Nat) (p : Nat) : cnt (zs l) (p : Int) = (l.filter fun t => decide (t ≤ p)).length := by
  unfold cnt zs
  rw [List.filter_map, List.length_map]
  congr 1
  refine List.filter_congr fun t _ => ?_
  show decide (((t : Nat) : Int) ≤ (p : Int)) = decide (t ≤ p)
  exact decide_eq_decide.mpr (by omega)
theorem bt_tl (p : Nat) (x : Int) : Bt p x = ((cnt (Tl x) (p : Int)) % 2 : Nat) := by
  unfold Tl
  rw [cnt_zs, ← bt_alt p _ (turns_asc x), turns_alt]
/-- a list of places that tells the bits of x is that of its turns -/
theorem tl_of {l : List Int} {x : Int} (asc : l.Pairwise (· < ·)) (pos : ∀ c ∈ l, 0 ≤ c) (h : ∀ p : Nat, (((cnt l (p : Int)) % 2 : Nat) : Int) = Bt p x) : l = Tl x := by
  have a2 := asc_toNat pos asc
  have e : alt (-1) (l.map Int.toNat) = x := bt_ext fun p => by
    rw [bt_alt p _ a2, ← h p, ← cnt_zs, zs_toNat pos]
  have : turnsN x = l.map Int.toNat := by rw [← e, turns_of_alt a2]
  unfold Tl
  rw [this, zs_toNat pos]
/-! ### counts -/
theorem cnt_app (l m : List Int) (c : Int) : cnt (l ++ m) c = cnt l c + cnt m c := by unfold cnt; rw [List.filter_append, List.length_append]
theorem cnt_nil (c : Int) : cnt [] c = 0 := rfl
theorem cnt_cons (a : Int) (l : List Int) (c : Int) : cnt (a :: l) c = (if a ≤ c then 1 else 0) + cnt l c := by
  unfold cnt
  by_cases h : a ≤ c
  · rw [List.filter_cons_of_pos (by simp [h]), if_pos h, List.length_cons]; omega
  · rw [List.filter_cons_of_neg (by simp [h]), if_neg h]; omega
theorem cnt_zero {l : List Int} {c : Int} (h : ∀ t ∈ l, c < t) : cnt l c = 0 := by
  unfold cnt
  rw [List.filter_eq_nil_iff.mpr fun t ht => by have := h t ht; simp only [decide_eq_true_eq]; omega]
  rfl
theorem cnt_all {l : List Int} {c : Int} (h : ∀ t ∈ l, t ≤ c) : cnt l c = l.length := by
  unfold cnt
  rw [List.filter_eq_self.mpr fun t ht => by simp [h t ht]]
end Fb
namespace Fb
open PySem L2
theorem clt_cons (a : Int) (l : List Int) (c : Int) : clt (a :: l) c = (if a < c then 1 else 0) + clt l c := by
  unfold clt
  by_cases h : a < c
  · rw [List.filter_cons_of_pos (by simp [h]), if_pos h, List.length_cons]; omega
  · rw [List.filter_cons_of_neg (by simp [h]), if_neg h]; omega
theorem clt_zero {l : List Int} {c : Int} (h : ∀ t ∈ l, c ≤ t) : clt l c = 0 := by
  unfold clt
  rw [List.filter_eq_nil_iff.mpr fun t ht => by have := h t ht; simp only [decide_eq_true_eq]; omega]
  rfl
theorem clt_le (l : List Int) (c : Int) : clt l c ≤ l.length := List.length_filter_le _ _
theorem cnt_le (l : List Int) (c : Int) : cnt l c ≤ l.length := List.length_filter_le _ _
/-- an ascending list around a -/
theorem split3 (a : Int) : ∀ {B : List Int}, B.Pairwise (· < ·) → B = B.take (clt B a) ++ ((if a ∈ B then [a] else []) ++ B.drop (cnt B a)) ∧ (∀ t ∈ B.take (clt B a), t < a) ∧ (∀ t ∈ B.drop (cnt B a), a < t) ∧ cnt B a = clt B a + (if a ∈ B then 1 else 0)
  | [], _ => ⟨rfl, (fun _ h => by cases h), (fun _ h => by cases h), rfl⟩
  | b :: B, hp => by
    obtain ⟨h1, h2⟩ := List.pairwise_cons.mp hp
    obtain ⟨i1, i2, i3, i4⟩ := split3 a h2
    rcases Int.lt_trichotomy b a with h | h | h
    · have m : (a ∈ b :: B) ↔ a ∈ B := by rw [List.mem_cons]; constructor <;> intro k <;> first | (rcases k with k | k <;> first | omega | exact k) | exact .inr k
      rw [clt_cons, cnt_cons, if_pos h, if_pos (show b ≤ a by omega), Nat.add_comm 1, Nat.add_comm 1, List.take_succ_cons, List.drop_succ_cons]
      simp only [m]
      refine ⟨?_, fun t ht => ?_, i3, by omega⟩
      · show b :: B = b :: (B.take _ ++ _)
        rw [← i1]
      · rcases List.mem_cons.mp ht with rfl | ht
        · exact h
        · exact i2 t ht
    · subst h
      have z1 : clt B b = 0 := clt_zero fun t ht => by have := h1 t ht; omega
      have z2 : cnt B b = 0 := cnt_zero h1
      rw [clt_cons, cnt_cons, if_neg (Int.lt_irrefl _), if_pos (Int.le_refl _), z1, z2]
      simp only [List.mem_cons, true_or, if_true]
      exact ⟨rfl, (fun t ht => by cases ht), h1, by first | trivial | rfl⟩
    · have m : a ∉ b :: B := fun k => by
        rcases List.mem_cons.mp k with k | k
        · omega
        · have := h1 a k; omega
      have z1 : clt (b :: B) a = 0 := clt_zero fun t ht => by
        rcases List.mem_cons.mp ht with rfl | ht
        · omega
        · have := h1 t ht; omega
      have z2 : cnt (b :: B) a = 0 := cnt_zero fun t ht => by
        rcases List.mem_cons.mp ht with rfl | ht
        · exact h
        · have := h1 t ht; omega
      rw [z1, z2, if_neg m]
      refine ⟨rfl, (fun t ht => by cases ht), fun t ht => ?_, by rw [if_neg m]⟩
      rcases List.mem_cons.mp ht with rfl | ht
      · exact h
      · have := h1 t ht; omega
/-! ### merged lists -/
def mrg : List Int → List Int → List Int
  | [], B => B
  | a :: A, B => B.take (clt B a) ++ ((if a ∈ B then [] else [a]) ++ mrg A (B.drop (cnt B a)))
theorem mrg_mem : ∀ {A B : List Int} {t : Int}, t ∈ mrg A B → t ∈ A ∨ t ∈ B
  | [], B, t, h => .inr h
  | a :: A, B, t, h => by
    rcases List.mem_append.mp h with h | h
    · exact .inr (List.mem_of_mem_take h)
    · rcases List.mem_append.mp h with h | h
      · split at h
        · cases h
        · exact .inl (List.mem_cons.mpr (.inl (List.mem_singleton.mp h)))
      · rcases mrg_mem h with h | h
        · exact .inl (List.mem_cons_of_mem _ h)
        · exact .inr (List.mem_of_mem_drop h)
theorem mrg_ok : ∀ {A B : List Int}, A.Pairwise (· < ·) → B.Pairwise (· < ·) → (mrg A B).Pairwise (· < ·) ∧ ∀ c, cnt (mrg A B) c % 2 = (cnt A c + cnt B c) % 2
  | [], B, _, hB => ⟨hB, fun c => by rw [cnt_nil, Nat.zero_add]; rfl⟩
  | a :: A, B, hA, hB => by
    obtain ⟨h1, h2⟩ := List.pairwise_cons.mp hA
    obtain ⟨s1, s2, s3, s4⟩ := split3 a hB
    obtain ⟨i1, i2⟩ := mrg_ok h2 (hB.sublist (List.drop_sublist (cnt B a) B))
    have up : ∀ t ∈ mrg A (B.drop (cnt B a)), a < t := fun t ht => (mrg_mem ht).elim (h1 t) (s3 t)
    have hB' := hB
    rw [s1] at hB'
    obtain ⟨p1, p2, p3⟩ := List.pairwise_append.mp hB'
    constructor
    · refine List.pairwise_append.mpr ⟨p1, List.pairwise_append.mpr ⟨?_, i1, fun x hx y hy => ?_⟩, fun x hx y hy => ?_⟩
      · split <;> simp
      · split at hx
        · cases hx
        · rw [List.mem_singleton.mp hx]; exact up y hy
      · have := s2 x hx
        rcases List.mem_append.mp hy with hy | hy
        · split at hy
          · cases hy
          · rw [List.mem_singleton.mp hy]; exact this
        · have := up y hy; omega
    · intro c
      have e := congrArg (fun l => cnt l c) s1
      simp only [cnt_app] at e
      show cnt (B.take (clt B a) ++ ((if a ∈ B then [] else [a]) ++ mrg A (B.drop (cnt B a)))) c % 2 = _
      rw [cnt_app, cnt_app, cnt_cons]
      have := i2 c
      by_cases m : a ∈ B
      · rw [if_pos m] at e ⊢
        rw [cnt_cons, cnt_nil] at e
        rw [cnt_nil]
        split at e <;> rename_i q <;> simp only [q, if_true, if_false] <;> omega
      · rw [if_neg m] at e ⊢
        rw [cnt_nil] at e
        rw [cnt_cons, cnt_nil]
        split <;> omega
theorem bxor_halves (x y : Int) : Builtin.bitXor x y = 2 * Builtin.bitXor (x / 2) (y / 2) + (x % 2 + y % 2) % 2 := by
  rw [PyProof.Rows.bitXor_and, PyProof.Rows.bitXor_and, PySem.W.kbt_halves]
  split <;> omega
theorem bt_xor : ∀ (p : Nat) (x y : Int), Bt p (Builtin.bitXor x y) = (Bt p x + Bt p y) % 2
  | 0, x, y => by rw [bt_zero, bt_zero, bt_zero, bxor_halves]; omega
  | p + 1, x, y => by
    rw [bt_succ, bt_succ, bt_succ, ← bt_xor p]
    congr 1
    rw [bxor_halves]
    omega
theorem mrg_tl (x y : Int) : mrg (Tl x) (Tl y) = Tl (Builtin.bitXor x y) := by
  obtain ⟨a, b⟩ := mrg_ok (tl_asc x) (tl_asc y)
  refine tl_of a (fun c hc => (mrg_mem hc).elim (tl_pos x c) (tl_pos y c)) fun p => ?_
  have := b p
  rw [bt_xor, bt_tl, bt_tl]
  omega
theorem bxor_comm (x y : Int) : Builtin.bitXor x y = Builtin.bitXor y x := by rw [PyProof.Rows.bitXor_and, PyProof.Rows.bitXor_and, PyProof.Rows.bitAnd_comm]; omega
/-! ### common ones -/
def com (B : List Int) : List Int → List Int
  | [] => []
  | [u] => (if cnt B u % 2 = 1 then [u] else []) ++ B.drop (cnt B u)
  | u :: v :: A => (if cnt B u % 2 = 1 then [u] else []) ++ ((B.take (clt B v)).drop (cnt B u) ++ ((if clt B v % 2 = 1 then [v] else []) ++ com B A))
theorem cnt_take_lt {B : List Int} (hB : B.Pairwise (· < ·)) {v c : Int} (h : c < v) : cnt (B.take (clt B v)) c = cnt B c := by
  obtain ⟨s1, s2, s3, s4⟩ := split3 v hB
  have e := congrArg (fun l => cnt l c) s1
  simp only [cnt_app] at e
  rw [cnt_zero (l := B.drop _) fun t ht => by have := s3 t ht; omega] at e
  by_cases m : v ∈ B
  · rw [if_pos m, cnt_cons, if_neg (by omega), cnt_nil] at e; omega
  · rw [if_neg m, cnt_nil] at e; omega
theorem take_cnt_le {u : Int} : ∀ {B : List Int}, B.Pairwise (· < ·) → ∀ t ∈ B.take (cnt B u), t ≤ u
  | [], _, t, ht => by cases ht
  | b :: B, hp, t, ht => by
    obtain ⟨h1, h2⟩ := List.pairwise_cons.mp hp
    by_cases h : b ≤ u
    · rw [cnt_cons, if_pos h, Nat.add_comm, List.take_succ_cons] at ht
      rcases List.mem_cons.mp ht with rfl | ht
      · exact h
      · exact take_cnt_le h2 t ht
    · rw [cnt_zero fun t ht => by
        rcases List.mem_cons.mp ht with rfl | ht
        · omega
        · have := h1 t ht; omega] at ht
      cases ht
theorem drop_cnt {B : List Int} (hB : B.Pairwise (· < ·)) {u c : Int} (h : u ≤ c) : cnt (B.drop (cnt B u)) c = cnt B c - cnt B u ∧ cnt B u ≤ cnt B c := by
  have e := congrArg (fun l => cnt l c) (List.take_append_drop (cnt B u) B)
  simp only [cnt_app] at e
  have k : cnt (B.take (cnt B u)) c = cnt B u := by
    rw [cnt_all fun t ht => by have := take_cnt_le hB t ht; omega, List.length_take]
    have := cnt_le B u; omega
  omega
theorem cnt_clt {B : List Int} (hB : B.Pairwise (· < ·)) {u v : Int} (h : u < v) : cnt B u ≤ clt B v := by
  have e := cnt_take_lt hB h
  have := cnt_le (B.take (clt B v)) u
  rw [List.length_take] at this
  omega
theorem clt_cnt {B : List Int} (hB : B.Pairwise (· < ·)) {u v : Int} (h : u < v) : ∀ t ∈ (B.take (clt B v)).drop (cnt B u), u < t ∧ t < v := by
  intro t ht
  refine ⟨?_, (split3 v hB).2.1 t (List.mem_of_mem_drop ht)⟩
  have : (B.take (clt B v)).drop (cnt B u) = (B.drop (cnt B u)).take (clt B v - cnt B u) := by rw [List.drop_take]
  rw [this] at ht
  exact (split3 u hB).2.2.1 t (List.mem_of_mem_take ht)
theorem cnt_mid {B : List Int} (hB : B.Pairwise (· < ·)) {u v c : Int} (h : u < v) (hu : u ≤ c) (hv : c < v) : cnt ((B.take (clt B v)).drop (cnt B u)) c = cnt B c - cnt B u := by
  have e := congrArg (fun l => cnt l c) (List.take_append_drop (cnt B u) (B.take (clt B v)))
  simp only [cnt_app] at e
  rw [cnt_take_lt hB hv, List.take_take, Nat.min_eq_left (cnt_clt hB h), cnt_all fun t ht => by have := take_cnt_le hB t ht; omega, List.length_take] at e
  have := cnt_le B u
  omega
theorem com_ok {B : List Int} (hB : B.Pairwise (· < ·)) : ∀ {A : List Int}, A.Pairwise (· < ·) → (com B A).Pairwise (· < ·) ∧ (∀ t ∈ com B A, (t ∈ A ∨ t ∈ B) ∧ ∃ u, A.head? = some u ∧ u ≤ t) ∧ ∀ c, cnt (com B A) c % 2 = (cnt A c % 2) * (cnt B c % 2)
  | [], _ => ⟨.nil, (fun t h => by cases h), fun c => by rw [cnt_nil, Nat.zero_mod, Nat.zero_mul]; rfl⟩
  | [u], _ => by
    obtain ⟨s1, s2, s3, s4⟩ := split3 u hB
    refine ⟨List.pairwise_append.mpr ⟨by split <;> simp, hB.sublist (List.drop_sublist _ _), fun x hx y hy => ?_⟩, fun t ht => ?_, fun c => ?_⟩
    · split at hx
      · rw [List.mem_singleton.mp hx]; exact s3 y hy
      · cases hx
    · rcases List.mem_append.mp ht with h | h
      · split at h
        · rw [List.mem_singleton.mp h]; exact ⟨.inl List.mem_cons_self, u, rfl, Int.le_refl _⟩
        · cases h
      · exact ⟨.inr (List.mem_of_mem_drop h), u, rfl, by have := s3 t h; omega⟩
    · show cnt ((if cnt B u % 2 = 1 then [u] else []) ++ B.drop (cnt B u)) c % 2 = _
      rw [cnt_app, cnt_cons, cnt_nil]
      by_cases h : u ≤ c
      · obtain ⟨d1, d2⟩ := drop_cnt hB h
        rw [d1, if_pos h]
        have r : (1 + 0) % 2 * (cnt B c % 2) = cnt B c % 2 := by rw [Nat.one_mul]
        rw [r]
        split
        · rw [cnt_cons, cnt_nil, if_pos h]; omega
        · rw [cnt_nil]; omega
      · rw [if_neg h, cnt_zero (l := B.drop _) fun t ht => by have := s3 t ht; omega, Nat.zero_mod, Nat.zero_mul]
        split
        · rw [cnt_cons, cnt_nil, if_neg h]
        · rw [cnt_nil]
  | u :: v :: A, hA => by
    obtain ⟨h1, h2⟩ := List.pairwise_cons.mp hA
    obtain ⟨h3, h4⟩ := List.pairwise_cons.mp h2
    have huv : u < v := h1 v List.mem_cons_self
    obtain ⟨i1, i2, i3⟩ := com_ok hB h4
    have mid := clt_cnt hB huv
    have up : ∀ t ∈ com B A, v < t := fun t ht => by
      obtain ⟨_, w, hw, hwt⟩ := i2 t ht
      have : w ∈ A := List.mem_of_mem_head? hw
      have := h3 w this
      omega
    refine ⟨List.pairwise_append.mpr ⟨by split <;> simp, List.pairwise_append.mpr ⟨(hB.sublist (List.take_sublist _ _)).sublist (List.drop_sublist _ _), List.pairwise_append.mpr ⟨by split <;> simp, i1, fun x hx y hy => ?_⟩, fun x hx y hy => ?_⟩, fun x hx y hy => ?_⟩, fun t ht => ?_, fun c => ?_⟩
    · split at hx
      · rw [List.mem_singleton.mp hx]; exact up y hy
      · cases hx
    · have := mid x hx
      rcases List.mem_append.mp hy with hy | hy
      · split at hy
        · rw [List.mem_singleton.mp hy]; omega
        · cases hy
      · have := up y hy; omega
    · split at hx
      · rw [List.mem_singleton.mp hx]
        rcases List.mem_append.mp hy with hy | hy
        · exact (mid y hy).1
        · rcases List.mem_append.mp hy with hy | hy
          · split at hy
            · rw [List.mem_singleton.mp hy]; exact huv
            · cases hy
          · have := up y hy; omega
      · cases hx
    · refine ⟨?_, u, rfl, ?_⟩
      all_goals
        rcases List.mem_append.mp ht with h | h
        · split at h
          · have := List.mem_singleton.mp h
            first | (subst this; exact .inl List.mem_cons_self) | omega
          · cases h
        · rcases List.mem_append.mp h with h | h
          · have := mid t h
            first | exact .inr (List.mem_of_mem_take (List.mem_of_mem_drop h)) | omega
          · rcases List.mem_append.mp h with h | h
            · split at h
              · have := List.mem_singleton.mp h
                first | (subst this; exact .inl (List.mem_cons_of_mem _ List.mem_cons_self)) | omega
              · cases h
            · have q := up t h
              first | exact (i2 t h).1.imp (fun k => List.mem_cons_of_mem _ (List.mem_cons_of_mem _ k)) id | omega
    · show cnt ((if cnt B u % 2 = 1 then [u] else []) ++ ((B.take (clt B v)).drop (cnt B u) ++ ((if clt B v % 2 = 1 then [v] else []) ++ com B A))) c % 2 = _
      rw [cnt_app, cnt_app, cnt_app, cnt_cons, cnt_cons]
      have ih := i3 c
      rcases Int.lt_or_le c u with hu | hu
      · rw [cnt_zero (l := (B.take _).drop _) fun t ht => by have := mid t ht; omega, cnt_zero (l := com B A) fun t ht => by have := up t ht; omega, cnt_zero (l := A) fun t ht => by have := h3 t ht; omega, if_neg (show ¬ u ≤ c by omega), if_neg (show ¬ v ≤ c by omega)]
        have z1 : cnt (if cnt B u % 2 = 1 then [u] else []) c = 0 := by split <;> simp [cnt_cons, cnt_nil] <;> omega
        have z2 : cnt (if clt B v % 2 = 1 then [v] else []) c = 0 := by split <;> simp [cnt_cons, cnt_nil] <;> omega
        rw [z1, z2]
        simp
      · have z1 : cnt (if cnt B u % 2 = 1 then [u] else []) c = cnt B u % 2 := by
          split
          · rw [cnt_cons, cnt_nil, if_pos hu]; omega
          · rw [cnt_nil]; omega
        rcases Int.lt_or_le c v with hv | hv
        · obtain ⟨_, d2⟩ := drop_cnt hB hu
          rw [cnt_mid hB huv hu hv, cnt_zero (l := com B A) fun t ht => by have := up t ht; omega, cnt_zero (l := A) fun t ht => by have := h3 t ht; omega, if_pos hu, if_neg (show ¬ v ≤ c by omega), z1]
          have z2 : cnt (if clt B v % 2 = 1 then [v] else []) c = 0 := by split <;> simp [cnt_cons, cnt_nil] <;> omega
          rw [z2]
          have r : (1 + (0 + 0)) % 2 * (cnt B c % 2) = cnt B c % 2 := by rw [Nat.one_mul]
          rw [r]
          omega
        · have z2 : cnt (if clt B v % 2 = 1 then [v] else []) c = clt B v % 2 := by
            split
            · rw [cnt_cons, cnt_nil, if_pos hv]; omega
            · rw [cnt_nil]; omega
          have m : cnt ((B.take (clt B v)).drop (cnt B u)) c = clt B v - cnt B u := by
            rw [cnt_all fun t ht => by have := mid t ht; omega, List.length_drop, List.length_take]
            have := clt_le B v; omega
          have := cnt_clt hB huv
          rw [z1, z2, m, if_pos hu, if_pos hv]
          have r : (1 + (1 + cnt A c)) % 2 = cnt A c % 2 := by omega
          rw [r, ← ih]
          omega
theorem com_tl (x y : Int) : com (Tl y) (Tl x) = Tl (Builtin.bitAnd x y) := by
  obtain ⟨a, b, c⟩ := com_ok (tl_asc y) (tl_asc x)
  refine tl_of a (fun t ht => (b t ht).1.elim (tl_pos x t) (tl_pos y t)) fun p => ?_
  rw [c p, bt_and, bt_tl, bt_tl]
  rw [Int.natCast_mul]
end Fb
namespace Fb
open PySem L2
/-! ### carries, segment by segment of the shorter one -/
/-- the place at which the carry turns, if there is one: the bit of the few is `bit`, the carry is the other one -/
def turnAt (B : List Int) (bit sta : Nat) : Option Int := if cnt B sta % 2 = bit then some (sta : Int) else B[cnt B sta]?
def carL (B : List Int) : List Int → Nat → Nat → Nat → List Int
  | [], bit, sta, bin => if bit = bin then [] else match turnAt B bit sta with
    | none => []
    | some p => [p + 1]
  | a :: A, bit, sta, bin => if bit = bin then carL B A (1 - bit) a.toNat bin else match turnAt B bit sta with
    | none => carL B A (1 - bit) a.toNat bin
    | some p => if p < a then (p + 1) :: carL B A (1 - bit) a.toNat bit else carL B A (1 - bit) a.toNat bin
section
variable {x y k : Int} {B : List Int}
/-- within a segment: the carry is bin up to the place, then bit -/
theorem seg_carry (hB : B.Pairwise (· < ·)) (hy : ∀ p : Nat, Bt p y = (cnt B (p : Int) % 2 : Nat)) {bit sta bin : Nat} (h1 : bit ≤ 1) (h2 : bin ≤ 1) (hs : cr x y k sta = bin) (e : Option Int)
    (hx : ∀ p : Nat, sta ≤ p → (∀ a, e = some a → (p : Int) < a) → Bt p x = bit) :
    ∀ d : Nat, (∀ a, e = some a → ((sta + d : Nat) : Int) ≤ a) → cr x y k (sta + d) = if bit = bin then (bin : Int) else match turnAt B bit sta with
      | none => (bin : Int)
      | some q => if q < ((sta + d : Nat) : Int) then (bit : Int) else bin
  | 0, _ => by
    rw [Nat.add_zero, hs]
    split
    · rfl
    · split
      · rfl
      · rename_i q hq
        have : (sta : Int) ≤ q := by
          unfold turnAt at hq
          split at hq
          · cases hq; exact Int.le_refl _
          · have hm : q ∈ B.drop (cnt B (sta : Int)) := by
              rw [List.getElem?_eq_some_iff] at hq
              obtain ⟨hl, hq⟩ := hq
              rw [← hq]
              exact List.mem_drop_iff_getElem.mpr ⟨0, by simpa using hl, by simp⟩
            have := (split3 (sta : Int) hB).2.2.1 q hm
            omega
        rw [if_neg (by omega)]
  | d + 1, hd => by
    have ih := seg_carry hB hy h1 h2 hs e hx d fun a ha => by have := hd a ha; omega
    have hxp := hx (sta + d) (by omega) fun a ha => by have := hd a ha; omega
    have hyp := hy (sta + d)
    show maj (Bt (sta + d) x) (Bt (sta + d) y) (cr x y k (sta + d)) = _
    rw [hxp, hyp]
    by_cases hb : bit = bin
    · rw [if_pos hb] at ih ⊢
      rw [ih, hb]
      unfold maj
      omega
    · rw [if_neg hb] at ih ⊢
      cases ht : turnAt B bit sta with
      | none =>
        rw [ht] at ih
        dsimp only at ih ⊢
        rw [ih]
        unfold turnAt at ht
        split at ht
        · cases ht
        · rename_i hne
          have hl : B.length ≤ cnt B (sta : Int) := List.getElem?_eq_none_iff.mp ht
          have : cnt B ((sta + d : Nat) : Int) = cnt B (sta : Int) := by
            have := (drop_cnt hB (show (sta : Int) ≤ ((sta + d : Nat) : Int) by omega)).2
            have := cnt_le B ((sta + d : Nat) : Int)
            omega
          rw [this]
          unfold maj
          omega
      | some q =>
        rw [ht] at ih
        dsimp only at ih ⊢
        rw [ih]
        unfold turnAt at ht
        split at ht
        · rename_i he
          cases ht
          rw [if_pos (show (sta : Int) < ((sta + (d + 1) : Nat) : Int) by omega)]
          by_cases hd0 : d = 0
          · subst hd0
            rw [if_neg (by simp), Nat.add_zero, he]
            unfold maj
            omega
          · rw [if_pos (by omega)]
            unfold maj
            omega
        · rename_i hne
          obtain ⟨hl, hq⟩ := List.getElem?_eq_some_iff.mp ht
          have hm : q ∈ B.drop (cnt B (sta : Int)) := by
            rw [← hq]
            exact List.mem_drop_iff_getElem.mpr ⟨0, by simpa using hl, by simp⟩
          have hsq := (split3 (sta : Int) hB).2.2.1 q hm
          by_cases c1 : q < ((sta + d : Nat) : Int)
          · rw [if_pos c1, if_pos (show q < ((sta + (d + 1) : Nat) : Int) by omega)]
            unfold maj
            omega
          · rw [if_neg c1]
            have dr : B.drop (cnt B (sta : Int)) = q :: B.drop (cnt B (sta : Int) + 1) := by
              rw [List.drop_eq_getElem_cons hl, hq]
            have hp := hB.sublist (List.drop_sublist (cnt B (sta : Int)) B)
            rw [dr] at hp
            obtain ⟨g1, g2⟩ := List.pairwise_cons.mp hp
            have dc := drop_cnt hB (show (sta : Int) ≤ ((sta + d : Nat) : Int) by omega)
            rw [dr, cnt_cons] at dc
            by_cases c2 : q = ((sta + d : Nat) : Int)
            · rw [if_pos (show q < ((sta + (d + 1) : Nat) : Int) by omega)]
              rw [cnt_zero (l := B.drop _) fun t ht => by have := g1 t ht; omega, if_pos (show q ≤ ((sta + d : Nat) : Int) by omega)] at dc
              unfold maj
              omega
            · rw [if_neg (show ¬ q < ((sta + (d + 1) : Nat) : Int) by omega)]
              rw [cnt_zero (l := B.drop _) fun t ht => by have := g1 t ht; omega, if_neg (show ¬ q ≤ ((sta + d : Nat) : Int) by omega)] at dc
              unfold maj
              omega
theorem turn_ge (hB : B.Pairwise (· < ·)) {bit sta : Nat} {q : Int} (ht : turnAt B bit sta = some q) : (sta : Int) ≤ q ∧ (q = sta ∨ q ∈ B) := by
  unfold turnAt at ht
  split at ht
  · cases ht; exact ⟨Int.le_refl _, .inl rfl⟩
  · have hm : q ∈ B.drop (cnt B (sta : Int)) := by
      obtain ⟨hl, hq⟩ := List.getElem?_eq_some_iff.mp ht
      rw [← hq]
      exact List.mem_drop_iff_getElem.mpr ⟨0, by simpa using hl, by simp⟩
    have := (split3 (sta : Int) hB).2.2.1 q hm
    exact ⟨by omega, .inr (List.mem_of_mem_drop hm)⟩
theorem carL_ok (hB : B.Pairwise (· < ·)) (hy : ∀ p : Nat, Bt p y = (cnt B (p : Int) % 2 : Nat)) : ∀ {A : List Int} {bit sta bin : Nat}, A.Pairwise (· < ·) → (∀ a ∈ A, (sta : Int) ≤ a) → bit ≤ 1 → bin ≤ 1 → cr x y k sta = bin →
    (∀ p : Nat, sta ≤ p → Bt p x = ((bit + cnt A (p : Int)) % 2 : Nat)) →
    (carL B A bit sta bin).Pairwise (· < ·) ∧ (∀ t ∈ carL B A bit sta bin, (sta : Int) < t ∧ (t - 1 = sta ∨ t - 1 ∈ B ∨ t - 1 ∈ A)) ∧ ∀ p : Nat, sta ≤ p → cr x y k p = ((bin + cnt (carL B A bit sta bin) (p : Int)) % 2 : Nat)
  | [], bit, sta, bin, _, _, h1, h2, hs, hx => by
    have seg := seg_carry hB hy h1 h2 hs none fun p hp _ => by
      rw [hx p hp, cnt_nil]; omega
    rw [show carL B [] bit sta bin = (if bit = bin then [] else match turnAt B bit sta with | none => [] | some p => [p + 1]) from rfl]
    by_cases hb : bit = bin
    · rw [if_pos hb]
      refine ⟨.nil, (fun t ht => by cases ht), fun p hp => ?_⟩
      have := seg (p - sta) (fun a ha => by cases ha)
      rw [if_pos hb, show sta + (p - sta) = p by omega] at this
      rw [this, cnt_nil]; omega
    · rw [if_neg hb]
      cases ht : turnAt B bit sta with
      | none =>
        refine ⟨.nil, (fun t ht => by cases ht), fun p hp => ?_⟩
        have := seg (p - sta) (fun a ha => by cases ha)
        rw [if_neg hb, ht, show sta + (p - sta) = p by omega] at this
        dsimp only at this ⊢
        rw [this, cnt_nil]; omega
      | some q =>
        obtain ⟨g1, g2⟩ := turn_ge hB ht
        refine ⟨by simp, fun t ht => ?_, fun p hp => ?_⟩
        · rw [List.mem_singleton.mp ht]
          refine ⟨by omega, ?_⟩
          rw [show q + 1 - 1 = q by omega]
          exact g2.imp id .inl
        · have := seg (p - sta) (fun a ha => by cases ha)
          rw [if_neg hb, ht, show sta + (p - sta) = p by omega] at this
          dsimp only at this ⊢
          rw [this, cnt_cons, cnt_nil]
          by_cases c : q < (p : Int)
          · rw [if_pos c, if_pos (by omega)]; omega
          · rw [if_neg c, if_neg (by omega)]; omega
  | a :: A, bit, sta, bin, hA, hs0, h1, h2, hs, hx => by
    obtain ⟨a1, a2⟩ := List.pairwise_cons.mp hA
    have ha0 := hs0 a List.mem_cons_self
    have ea : ((a.toNat : Nat) : Int) = a := by omega
    have seg := seg_carry hB hy h1 h2 hs (some a) fun p hp hlt => by
      have := hlt a rfl
      rw [hx p hp, cnt_cons, if_neg (by omega), cnt_zero fun t ht => by have := a1 t ht; omega]; omega
    have hx' : ∀ p : Nat, a.toNat ≤ p → Bt p x = ((1 - bit + cnt A (p : Int)) % 2 : Nat) := fun p hp => by
      rw [hx p (by omega), cnt_cons, if_pos (by omega)]
      congr 1
      omega
    have hA' : ∀ t ∈ A, ((a.toNat : Nat) : Int) ≤ t := fun t ht => by have := a1 t ht; omega
    have mid : ∀ p : Nat, sta ≤ p → (p : Int) ≤ a → cr x y k p = if bit = bin then (bin : Int) else match turnAt B bit sta with
      | none => (bin : Int)
      | some q => if q < (p : Int) then (bit : Int) else bin := fun p hp hpa => by
      have := seg (p - sta) (fun b hb => by cases hb; omega)
      rw [show sta + (p - sta) = p by omega] at this
      exact this
    have atA := mid a.toNat (by omega) (by omega)
    -- the rest with the carry bin
    have same : cr x y k a.toNat = bin → (∀ p : Nat, sta ≤ p → (p : Int) ≤ a → cr x y k p = bin) → (carL B A (1 - bit) a.toNat bin).Pairwise (· < ·) ∧ (∀ t ∈ carL B A (1 - bit) a.toNat bin, (sta : Int) < t ∧ (t - 1 = sta ∨ t - 1 ∈ B ∨ t - 1 ∈ a :: A)) ∧
        ∀ p : Nat, sta ≤ p → cr x y k p = ((bin + cnt (carL B A (1 - bit) a.toNat bin) (p : Int)) % 2 : Nat) := fun ca seg' => by
      obtain ⟨i1, i2, i3⟩ := carL_ok hB hy (sta := a.toNat) a2 hA' (by omega : 1 - bit ≤ 1) h2 ca hx'
      refine ⟨i1, fun t ht => ?_, fun p hp => ?_⟩
      · obtain ⟨j1, j2⟩ := i2 t ht
        refine ⟨by omega, ?_⟩
        rcases j2 with j | j | j
        · exact .inr (.inr (List.mem_cons.mpr (.inl (by omega))))
        · exact .inr (.inl j)
        · exact .inr (.inr (List.mem_cons_of_mem _ j))
      · by_cases c : (p : Int) ≤ a
        · rw [seg' p hp c, cnt_zero fun t ht => by have := (i2 t ht).1; omega]; omega
        · exact i3 p (by omega)
    rw [show carL B (a :: A) bit sta bin = (if bit = bin then carL B A (1 - bit) a.toNat bin else match turnAt B bit sta with | none => carL B A (1 - bit) a.toNat bin | some p => if p < a then (p + 1) :: carL B A (1 - bit) a.toNat bit else carL B A (1 - bit) a.toNat bin) from rfl]
    by_cases hb : bit = bin
    · simp only [if_pos hb] at mid atA ⊢
      exact same atA mid
    · simp only [if_neg hb] at mid atA ⊢
      cases ht : turnAt B bit sta with
      | none =>
        simp only [ht] at mid atA ⊢
        exact same atA mid
      | some q =>
        obtain ⟨g1, g2⟩ := turn_ge hB ht
        simp only [ht] at mid atA ⊢
        by_cases c : q < a
        · rw [if_pos c]
          rw [if_pos (by omega)] at atA
          obtain ⟨i1, i2, i3⟩ := carL_ok hB hy (sta := a.toNat) a2 hA' (by omega : 1 - bit ≤ 1) h1 atA hx'
          refine ⟨List.pairwise_cons.mpr ⟨fun t ht => by have := (i2 t ht).1; omega, i1⟩, fun t ht => ?_, fun p hp => ?_⟩
          · rcases List.mem_cons.mp ht with rfl | ht
            · refine ⟨by omega, ?_⟩
              rw [show q + 1 - 1 = q by omega]
              exact g2.imp id .inl
            · obtain ⟨j1, j2⟩ := i2 t ht
              refine ⟨by omega, ?_⟩
              rcases j2 with j | j | j
              · exact .inr (.inr (List.mem_cons.mpr (.inl (by omega))))
              · exact .inr (.inl j)
              · exact .inr (.inr (List.mem_cons_of_mem _ j))
          · rw [cnt_cons]
            by_cases cp : (p : Int) ≤ a
            · rw [mid p hp cp, cnt_zero fun t ht => by have := (i2 t ht).1; omega]
              by_cases cq : q < (p : Int)
              · rw [if_pos cq, if_pos (by omega)]; omega
              · rw [if_neg cq, if_neg (by omega)]; omega
            · rw [i3 p (by omega), if_pos (by omega)]
              congr 1
              omega
        · rw [if_neg c]
          refine same ?_ fun p hp hpa => ?_
          · rw [if_neg (by omega)] at atA; exact atA
          · rw [mid p hp hpa, if_neg (by omega)]
end
/-- the list of the carry's turns -/
def carT (A B : List Int) (k : Nat) : List Int := (if k = 1 then [0] else []) ++ carL B A 0 0 k
theorem carT_ok (x y : Int) {k : Nat} (hk : k ≤ 1) : ∃ c : Int, carT (Tl x) (Tl y) k = Tl c ∧ (∀ t ∈ Tl c, t = 0 ∨ t - 1 = 0 ∨ t - 1 ∈ Tl y ∨ t - 1 ∈ Tl x) ∧ Builtin.bitXor (Builtin.bitXor x c) y = x + y + k := by
  obtain ⟨i1, i2, i3⟩ := carL_ok (x := x) (y := y) (k := (k : Int)) (tl_asc y) (fun p => bt_tl p y) (A := Tl x) (bit := 0) (sta := 0) (bin := k) (tl_asc x) (fun a ha => tl_pos x a ha) (by omega) hk rfl (fun p _ => by rw [bt_tl, Nat.zero_add])
  have asc : (carT (Tl x) (Tl y) k).Pairwise (· < ·) := by
    refine List.pairwise_append.mpr ⟨by split <;> simp, i1, fun a ha b hb => ?_⟩
    split at ha
    · rw [List.mem_singleton.mp ha]; exact (i2 b hb).1
    · cases ha
  have pos : ∀ c ∈ carT (Tl x) (Tl y) k, 0 ≤ c := fun c hc => by
    rcases List.mem_append.mp hc with h | h
    · split at h
      · rw [List.mem_singleton.mp h]; exact Int.le_refl _
      · cases h
    · have := (i2 c h).1; omega
  have bits : ∀ p : Nat, ((cnt (carT (Tl x) (Tl y) k) (p : Int) % 2 : Nat) : Int) = cr x y k p := fun p => by
    rw [i3 p (Nat.zero_le _)]
    unfold carT
    rw [cnt_app]
    congr 2
    congr 1
    split
    · rw [cnt_cons, cnt_nil, if_pos (by omega)]; omega
    · rw [cnt_nil]; omega
  have a2 := asc_toNat pos asc
  have hb : ∀ p : Nat, Bt p (alt (-1) ((carT (Tl x) (Tl y) k).map Int.toNat)) = cr x y k p := fun p => by
    rw [bt_alt p _ a2, ← cnt_zs, zs_toNat pos, bits p]
  refine ⟨alt (-1) ((carT (Tl x) (Tl y) k).map Int.toNat), tl_of asc pos fun p => by rw [bits p, hb p], fun t ht => ?_, bt_ext fun p => ?_⟩
  · have : Tl (alt (-1) ((carT (Tl x) (Tl y) k).map Int.toNat)) = carT (Tl x) (Tl y) k := (tl_of asc pos fun p => by rw [bits p, hb p]).symm
    rw [this] at ht
    rcases List.mem_append.mp ht with h | h
    · split at h
      · exact .inl (List.mem_singleton.mp h)
      · cases h
    · have := (i2 t h).2
      rcases this with j | j | j
      · exact .inr (.inl (by omega))
      · exact .inr (.inr (.inl j))
      · exact .inr (.inr (.inr j))
  · rw [bt_xor, bt_xor, hb p, bt_add p x y k (by omega)]
    have := bt_01 p x
    have := bt_01 p y
    have := cr_01 (x := x) (y := y) (k := (k : Int)) (by omega) p
    omega
/-! ### the complement, and one more -/
def flp (l : List Int) : List Int := match l with
  | 0 :: r => r
  | r => 0 :: r
theorem cnt_flp {l : List Int} (pos : ∀ c ∈ l, 0 ≤ c) (p : Nat) : cnt (flp l) (p : Int) % 2 = (1 + cnt l (p : Int)) % 2 := by
  unfold flp
  split
  · rw [cnt_cons, if_pos (by omega)]; omega
  · rw [cnt_cons, if_pos (by omega)]
theorem flp_tl (x : Int) : flp (Tl x) = Tl (-x - 1) := by
  have c := cnt_flp (tl_pos x)
  have asc := tl_asc x
  have pos := tl_pos x
  refine tl_of ?_ ?_ fun p => ?_
  · unfold flp
    split
    · rename_i r e
      rw [e] at asc
      exact (List.pairwise_cons.mp asc).2
    · rename_i hne
      refine List.pairwise_cons.mpr ⟨fun a ha => ?_, asc⟩
      have h0 := pos a ha
      by_cases z : a = 0
      · subst z
        exfalso
        cases e : Tl x with
        | nil => rw [e] at ha; cases ha
        | cons b r =>
          rw [e] at ha asc pos
          have hb : b = 0 := by
            rcases List.mem_cons.mp ha with h | h
            · exact h.symm
            · have := (List.pairwise_cons.mp asc).1 0 h
              have := pos b List.mem_cons_self
              omega
          subst hb
          exact hne r e
      · omega
  · unfold flp
    split
    · rename_i r e
      rw [e] at pos
      exact fun c hc => pos c (List.mem_cons_of_mem _ hc)
    · intro c hc
      rcases List.mem_cons.mp hc with rfl | hc
      · exact Int.le_refl _
      · exact pos c hc
  · rw [bt_not, bt_tl, c p]
    omega
/-- the mask of x ^ (x + 1) -/
theorem succ_tl {x : Int} {b : Int} (h : (∃ t r, Tl x = 0 :: t :: r ∧ b = t + 1) ∨ (Tl x).head? ≠ some 0 ∧ b = 1) : mrg [0, b] (Tl x) = Tl (x + 1) := by
  have asc := tl_asc x
  have pos := tl_pos x
  have b1 : 1 ≤ b := by
    rcases h with ⟨t, r, e, rfl⟩ | ⟨_, rfl⟩
    · have := pos t (by rw [e]; simp); omega
    · omega
  obtain ⟨i1, i2⟩ := mrg_ok (A := [0, b]) (B := Tl x) (by simp; omega) asc
  refine tl_of i1 (fun c hc => ?_) fun p => ?_
  · rcases mrg_mem hc with h | h
    · simp at h; omega
    · exact pos c h
  · have e1 : x + 1 = x + 0 + 1 := by omega
    rw [e1, bt_add p x 0 1 (.inr rfl)]
    have z : Bt p 0 = 0 := by unfold Bt; rw [Int.zero_ediv]; rfl
    have c : ∀ p : Nat, cr x 0 1 p = if (p : Int) < b then 1 else 0 := by
      intro p
      induction p with
      | zero => rw [if_pos (by omega)]; rfl
      | succ p ih =>
        have z : Bt p 0 = 0 := by unfold Bt; rw [Int.zero_ediv]; rfl
        show maj (Bt p x) (Bt p 0) (cr x 0 1 p) = _
        rw [ih, z, bt_tl]
        rcases h with ⟨t, r, e, rfl⟩ | ⟨hne, rfl⟩
        · rw [e] at asc
          obtain ⟨q1, q2⟩ := List.pairwise_cons.mp asc
          obtain ⟨q3, q4⟩ := List.pairwise_cons.mp q2
          have := q1 t List.mem_cons_self
          by_cases c1 : (p : Int) < t
          · rw [e, cnt_cons, cnt_cons, if_pos (show (0 : Int) ≤ p by omega), if_neg (show ¬ t ≤ (p : Int) by omega), cnt_zero fun u hu => by have := q3 u hu; omega, if_pos (by omega), if_pos (by omega)]
            rfl
          · rw [if_neg (show ¬ ((p + 1 : Nat) : Int) < t + 1 by omega)]
            by_cases c2 : (p : Int) = t
            · rw [e, cnt_cons, cnt_cons, if_pos (show (0 : Int) ≤ p by omega), if_pos (show t ≤ (p : Int) by omega), cnt_zero fun u hu => by have := q3 u hu; omega, if_pos (by omega)]
              rfl
            · rw [if_neg (by omega)]
              unfold maj
              omega
        · rw [if_neg (show ¬ ((p + 1 : Nat) : Int) < 1 by omega)]
          by_cases c1 : p = 0
          · subst c1
            rw [if_pos (by omega)]
            have : cnt (Tl x) ((0 : Nat) : Int) = 0 := cnt_zero fun t ht => by
              have h0 := pos t ht
              by_cases zt : t = 0
              · subst zt
                exfalso
                cases e : Tl x with
                | nil => rw [e] at ht; cases ht
                | cons d r =>
                  rw [e] at ht asc pos hne
                  have hd : d = 0 := by
                    rcases List.mem_cons.mp ht with h | h
                    · exact h.symm
                    · have := (List.pairwise_cons.mp asc).1 0 h
                      have := pos d List.mem_cons_self
                      omega
                  exact hne (by rw [hd]; rfl)
              · omega
            rw [this]
            rfl
          · rw [if_neg (by omega)]
            unfold maj
            omega
    rw [c p, z, bt_tl, i2, cnt_cons, cnt_cons, cnt_nil, if_pos (show (0 : Int) ≤ p by omega)]
    by_cases cb : (p : Int) < b
    · rw [if_pos cb, if_neg (by omega)]; omega
    · rw [if_neg cb, if_pos (by omega)]; omega
end Fb
namespace Fb
open PySem L2
/-! ### counts in ascending lists -/
theorem asc_none {x s : Int} {xs : List Int} (h : ∀ y ∈ xs, x < y) (hs : s ≤ x) : (xs.filter fun c => decide (c < s)) = [] ∧ (xs.filter fun c => decide (c ≤ s)) = [] := by
  constructor <;> refine List.filter_eq_nil_iff.mpr fun y hy => ?_ <;> have := h y hy <;> simp only [decide_eq_true_eq] <;> omega
theorem asc_lt (s : Int) : ∀ {l : List Int}, l.Pairwise (· < ·) → ∀ (i : Nat) (c : Int), l[i]? = some c → (i < (l.filter fun c => decide (c < s)).length ↔ c < s)
  | [], _, i, c, h => by simp at h
  | x :: xs, hp, i, c, h => by
    obtain ⟨h1, h2⟩ := List.pairwise_cons.mp hp
    by_cases hx : x < s
    · rw [List.filter_cons_of_pos (by simp [hx]), List.length_cons]
      cases i with
      | zero => cases h; simp [hx]
      | succ i =>
        have := asc_lt s h2 i c h
        omega
    · have e := (asc_none h1 (show s ≤ x by omega)).1
      rw [List.filter_cons_of_neg (by simp [hx]), e]
      have hc : x ≤ c := by
        cases i with
        | zero => cases h; omega
        | succ i => have := h1 c (List.mem_of_getElem? h); omega
      simp
      omega
theorem asc_one (s : Int) : ∀ {l : List Int}, l.Pairwise (· < ·) → (l.filter fun c => decide (c ≤ s)).length = (l.filter fun c => decide (c < s)).length + (if s ∈ l then 1 else 0)
  | [], _ => rfl
  | x :: xs, hp => by
    obtain ⟨h1, h2⟩ := List.pairwise_cons.mp hp
    have ih := asc_one s h2
    by_cases hx : x < s
    · rw [List.filter_cons_of_pos (by simp; omega), List.filter_cons_of_pos (by simp [hx]), List.length_cons, List.length_cons, ih]
      have : (s ∈ x :: xs) ↔ s ∈ xs := by
        rw [List.mem_cons]; constructor
        · rintro (h | h)
          · omega
          · exact h
        · exact .inr
      simp only [this]
      split <;> omega
    · obtain ⟨e1, e2⟩ := asc_none h1 (show s ≤ x by omega)
      rw [List.filter_cons_of_neg (p := fun c => decide (c < s)) (by simp [hx]), e1]
      by_cases he : x = s
      · rw [List.filter_cons_of_pos (by simp; omega), e2, if_pos (by rw [he]; exact List.mem_cons_self)]; rfl
      · rw [List.filter_cons_of_neg (by simp; omega), e2, if_neg (by
          intro h
          rcases List.mem_cons.mp h with h | h
          · omega
          · have := h1 s h; omega)]
        rfl
theorem asc_at {s : Int} {l : List Int} (hp : l.Pairwise (· < ·)) {c : Int} (h : l[(l.filter fun c => decide (c < s)).length]? = some c) : c = s ↔ s ∈ l := by
  have k := (asc_lt s hp _ _ h)
  constructor
  · intro e; rw [← e]; exact List.mem_of_getElem? h
  · intro hm
    obtain ⟨j, hj⟩ := List.getElem?_of_mem hm
    have k2 := asc_lt s hp j s hj
    have ge : s ≤ c := by
      have : ¬ c < s := fun z => absurd (k.mpr z) (Nat.lt_irrefl _)
      omega
    have hj1 : (l.filter fun c => decide (c < s)).length ≤ j := by
      have : ¬ j < (l.filter fun c => decide (c < s)).length := fun z => absurd (k2.mp z) (Int.lt_irrefl _)
      omega
    rcases Nat.lt_or_ge (l.filter fun c => decide (c < s)).length j with g | g
    · obtain ⟨lj, ej⟩ := List.getElem?_eq_some_iff.mp hj
      obtain ⟨lm, em⟩ := List.getElem?_eq_some_iff.mp h
      have := (List.pairwise_iff_getElem.mp hp) _ _ lm lj g
      rw [ej, em] at this
      omega
    · have : j = (l.filter fun c => decide (c < s)).length := by omega
      rw [← this, hj] at h
      exact (Option.some.inj h).symm
end Fb
namespace PySem
open Sem (wp)
/-- l.extend(a tuple), whatever its dict and its slots -/
theorem fb_ext_tup (p : Addr) (us : Array Value) (m : Nat) (q : Addr) (ws : Array Value) (k : Nat) (od : Option Addr) (osl : Array (Option Value)) (r0 : ¬(!us.isEmpty && Builtin.List.listTooLong (us.size + ws.size)) = true) (r1 : us.size ≤ sizeLine) (r2 : us.size + ws.size ≤ sizeLine + 1) :
    Meets (Builtin.«list.extend» ⟨[.ref p, .ref q], []⟩) (fun _ R s => s.heap.get? p = some { cls := .type "list", data := .seq us m } ∧ s.heap.get? q = some { cls := .type "tuple", dict := od, data := .seq ws k, slots := osl } ∧
      R (.ok (.ret Value.none)) { s with heap := s.heap.update p (Obj.mapSeq fun x => x ++ ws), toks := s.toks }) :=
  .of_wp fun prog w A R s h => by
    obtain ⟨hp, g, d, tk, os⟩ := s
    obtain ⟨hl, hb, h⟩ := h
    have g1 := AutoSeq1.idx_int
    have g2 := AutoSeq1.sub_tuple_tuple
    have g3 := AutoSeq1.sub_list_list
    have g4 := AutoSeq1.sub_tuple_list
    have g5 := AutoSeq1.sub_list_tuple
    have big : (us ++ ws).size ≤ sizeLine + 1 := by
      rw [Array.size_append]
      omega
    wp_walk using (wpAny_updateSeq hl rfl (hz := r1) (_hz' := big)), wpAny_loadPart' hl, wpAny_loadPart' hb
    exact ⟨_, rfl, h⟩
end PySem
namespace Fb
open PySem L2 PySem.Spec PyProof.Rows
/-! ### lists and tuples alike -/
def Sq (K : PySem.W.Frag) (H : Hp) (a : Addr) (xs : List V) : Prop := H a = some (.lst xs) ∨ SqT K H a xs
theorem Sq.same {K : PySem.W.Frag} {H H' : Hp} {a : Addr} {xs : List V} (h : Sq K H a xs) (e : Same H H') : Sq K H' a xs := h.imp (fun h => e _ _ h) (fun h => (Nd.of e).sqt h)
theorem Sq.any {K : PySem.W.Frag} {H : Hp} {a : Addr} {xs : List V} (h : Sq K H a xs) : SqL K H a xs ∨ SqT K H a xs := h.imp SqL.of id
theorem Sq.tru {K : PySem.W.Frag} {H : Hp} {a : Addr} {xs : List V} (h : Sq K H a xs) : TruV K (.ref a) H (!xs.isEmpty) := h.elim (fun h => .inl ⟨_, SqL.of h, rfl⟩) fun h => .inr (.inl ⟨_, h, rfl⟩)
/-- a slice, a new list, or a tuple -/
def rSlS (K : PySem.W.Frag) : V → Option Int → Option Int → Hp → VK → Prop := fun x lo hi H Q => ∃ a xs, x = .ref a ∧ Sq K H a xs ∧ ∀ b H', Same H H' → H b = none ∨ H' = H → Sq K H' b (cutV xs lo hi) → Q (.ref b) H'
theorem sl_seq {X : Cx} (K : PySem.W.Frag) (hK : X.K = K := by rfl) : SlR X (rSlS K) := by
  subst hK
  intro pins s σ H x v vl vu lo hi sl Q I rx hs pl pu ⟨a, xs, e, h, q⟩
  refine (sl_list.or sl_tupA) pins s σ H x v vl vu lo hi sl Q I rx hs pl pu (h.imp (fun h => ⟨a, xs, e, SqL.of h, fun p np => q p _ (Same.new np) (.inl np) (.inl upd_same)⟩) fun h => ⟨a, xs, e, h, fun hw => ?_, fun _ p np => q p _ (Same.new np) (.inl np) (.inr (SqT.of upd_same))⟩)
  refine q a H (Same.refl H) (.inr rfl) (.inr ?_)
  unfold cutV
  rw [hw.1, hw.2, List.drop_zero, Nat.sub_zero, List.take_length]
  exact h
/-- l.extend(a list, or a tuple) -/
def rExtS (K : PySem.W.Frag) : V → List V → Hp → VK → Prop := fun x vs H Q => ∃ l b xs zs, x = .ref l ∧ vs = [.ref b] ∧ H l = some (.lst xs) ∧ Sq K H b zs ∧ xs.length + zs.length ≤ sizeLine ∧ Q .non (upd H l (.lst (xs ++ zs)))
theorem mt_extS {X : Cx} (K : PySem.W.Frag) (hK : X.K = K := by rfl) : MtM X "list.extend" (rExtS K) := by
  subst hK
  rintro pins s σ H v0 vs v us Q I rx rv ⟨l, b, xs, zs, rfl, rfl, at_l, hz, fits, q⟩
  rcases hz with hz | hz
  · exact mt_extend pins s σ H _ _ v us Q I rx rv ⟨l, b, xs, zs, rfl, rfl, at_l, hz, fits, q⟩
  cases rx
  obtain ⟨_, rfl, ru⟩ := rv.one
  cases ru
  obtain ⟨_, us1, n1, rel1, len1, get1⟩ := I.lstM at_l
  obtain ⟨us2, rel2, isT, _⟩ := I.tuple hz
  have e1 := rel1.length
  have e2 := rel2.length
  obtain ⟨⟨oc, od, oda, osl⟩, get2, rfl, n2, rfl⟩ := isT
  have fit : us1.toArray.size + us2.toArray.size ≤ sizeLine := by
    rw [List.size_toArray, List.size_toArray]
    omega
  have room1 : ¬ (!us1.toArray.isEmpty && Builtin.List.listTooLong (us1.toArray.size + us2.toArray.size)) = true := by
    rw [notLongL fit, Bool.and_false]
    decide
  refine call_meets F.slot_list_extend ⟨_, get1, rfl⟩ F.entry_list_extend (F.args_list_extend_2 _ _) (PySem.fb_ext_tup l _ n1 b _ n2 od osl room1 (by omega) (by omega)) ⟨get1, get2, ?_⟩
  refine ⟨.non, _, I.lset (its' := us1 ++ us2) at_l get1 (by simp) (rel1.append rel2) ?_, rfl, q⟩
  rw [List.length_append]
  exact fits
/-- a loop over either -/
theorem pi_or {X : Cx} {tg l : Expr} {t1 t2 : TI} (h1 : PI X tg l t1) (h2 : PI X tg l t2) : PI X tg l (fun σ H R => t1 σ H R ∨ t2 σ H R) := ⟨fun pins s σ H R I h => h.elim (h1.run pins s σ H R I) (h2.run pins s σ H R I)⟩
def iSeq (K : PySem.W.Frag) (t : TE) : TI := fun σ H R => iList K t σ H R ∨ iTup K t σ H R
theorem pi_seq {X : Cx} {tg l : Expr} {t : TE} (K : PySem.W.Frag) (h : PE X l t) (hK : X.K = K := by rfl) : PI X tg l (iSeq K t) := by
  subst hK
  exact pi_or (pi_list h) (pi_tup h)
theorem for_seq {K : PySem.W.Frag} {a : Addr} {xs : List V} {g : TG} {tb : L2.TS} {D : Ends} {σ : L2.St} {H0 H : Hp} {j : Nat} (hs0 : Sq K H0 a xs) (hv : σ[j]? = some (some (.ref a))) (Pv : Nat → L2.St → Hp → Prop) (h0 : Pv 0 σ H) (hl : ∀ i σ H', i ≤ xs.length → Pv i σ H' → Same H0 H')
    (hs : ∀ i x σ H, xs[i]? = some x → Pv i σ H → g x σ H fun σ2 H2 => tb { D with nx := Pv (i + 1), ct := Pv (i + 1), bk := D.nx } σ2 H2) (hd : ∀ σ H, Pv xs.length σ H → D.nx σ H) :
    tFor (iSeq K (tVar j)) g tb D σ H := by
  have here := hl 0 σ H (Nat.zero_le _) h0
  rcases hs0 with h | h
  · exact .inl ⟨_, hv, a, rfl, ⟨_, SqL.of (here _ _ h)⟩, for_list Pv h0 (fun i σ H' hi p => SqL.of (hl i σ H' hi p _ _ h)) hs hd⟩
  · exact .inr ⟨_, hv, a, rfl, ⟨_, (Nd.of here).sqt h⟩, for_tup Pv h0 (fun i σ H' hi p => (Nd.of (hl i σ H' hi p)).sqt h) hs hd⟩
/-- places, by codes -/
structure Pls (K : PySem.W.Frag) (H : Hp) (f : Int → PyData) (a : Addr) (l : List Int) : Prop where
  ex : ∃ vs, Sq K H a vs ∧ DpAll K H vs (l.map f)
theorem Pls.same {K : PySem.W.Frag} {H H' : Hp} {f : Int → PyData} {a : Addr} {l : List Int} (h : Pls K H f a l) (e : Same H H') : Pls K H' f a l := by
  obtain ⟨vs, s, d⟩ := h.ex
  exact ⟨vs, s.same e, (Nd.of e).ds d⟩
theorem Pls.at {K : PySem.W.Frag} {H : Hp} {f : Int → PyData} {a : Addr} {l : List Int} (h : Pls K H f a l) : ∃ vs, Sq K H a vs ∧ vs.length = l.length ∧ DpAll K H vs (l.map f) ∧ ∀ (i : Nat) (c : Int), l[i]? = some c → ∃ v, vs[i]? = some v ∧ Dp K H v (f c) := by
  obtain ⟨vs, s, d⟩ := h.ex
  have e : vs.length = l.length := by rw [dps_length d, List.length_map]
  refine ⟨vs, s, e, d, fun i c hc => ?_⟩
  obtain ⟨hi, _⟩ := List.getElem?_eq_some_iff.mp hc
  obtain ⟨v, hv⟩ : ∃ v, vs[i]? = some v := ⟨_, List.getElem?_eq_getElem (by omega)⟩
  obtain ⟨d', hd', dp⟩ := dps_get d hv
  rw [List.getElem?_map, hc] at hd'
  cases hd'
  exact ⟨v, hv, dp⟩
/-- a slice of places -/
theorem cut_nat {xs : List V} {i j : Nat} (hi : i ≤ xs.length) (hj : j ≤ xs.length) : cutV xs (some (i : Int)) (some (j : Int)) = (xs.take j).drop i := by
  unfold cutV
  rw [HT.sIx_nat, HT.sIx_nat, Nat.min_eq_left hi, Nat.min_eq_left hj, List.drop_take]
theorem cut_from {xs : List V} {i : Nat} (hi : i ≤ xs.length) : cutV xs (some (i : Int)) none = xs.drop i := by
  unfold cutV
  rw [HT.sIx_nat, Nat.min_eq_left hi]
  show List.take (xs.length - i) (xs.drop i) = _
  rw [List.take_of_length_le (by rw [List.length_drop]; exact Nat.le_refl _)]
/-- what a step of the merging leaves -/
theorem mrg_step {a : Int} {A B : List Int} {st : Nat} (hB : B.Pairwise (· < ·)) (h : ∀ t ∈ B.take st, t < a) (hst : st ≤ B.length) :
    st ≤ clt B a ∧ mrg (a :: A) (B.drop st) = (B.take (clt B a)).drop st ++ ((if a ∈ B then [] else [a]) ++ mrg A (B.drop (cnt B a))) := by
  have e1 : clt B a = st + clt (B.drop st) a := by
    have e := congrArg (fun l => (l.filter fun t => decide (t < a)).length) (List.take_append_drop st B)
    simp only [List.filter_append, List.length_append] at e
    rw [List.filter_eq_self.mpr fun t ht => by simp [h t ht], List.length_take, Nat.min_eq_left hst] at e
    exact e.symm
  have e2 : cnt B a = st + cnt (B.drop st) a := by
    have e := congrArg (fun l => cnt l a) (List.take_append_drop st B)
    simp only [cnt_app] at e
    rw [cnt_all fun t ht => by have := h t ht; omega, List.length_take, Nat.min_eq_left hst] at e
    exact e.symm
  have m : a ∈ B.drop st ↔ a ∈ B := by
    constructor
    · exact List.mem_of_mem_drop
    · intro k
      rw [← List.take_append_drop st B] at k
      rcases List.mem_append.mp k with k | k
      · have := h a k; omega
      · exact k
  refine ⟨by omega, ?_⟩
  show (B.drop st).take (clt (B.drop st) a) ++ ((if a ∈ B.drop st then [] else [a]) ++ mrg A ((B.drop st).drop (cnt (B.drop st) a))) = _
  rw [List.drop_drop, ← e2, List.drop_take, show clt B a - st = clt (B.drop st) a by omega]
  simp only [m]
theorem take_cnt_lt {a c : Int} {B : List Int} (hB : B.Pairwise (· < ·)) (h : a < c) : ∀ t ∈ B.take (cnt B a), t < c := fun t ht => by
  have := take_cnt_le hB t ht
  omega
/-- the shorter one first -/
def fm2 (l m : List Int) : List Int × List Int := if l.length ≤ m.length then (l, m) else (m, l)
theorem clt_le_cnt : ∀ (B : List Int) (a : Int), clt B a ≤ cnt B a
  | [], _ => Nat.le_refl _
  | b :: B, a => by
    have := clt_le_cnt B a
    rw [clt_cons, cnt_cons]
    split <;> split <;> omega
theorem mrg_len : ∀ (A B : List Int), (mrg A B).length ≤ A.length + B.length
  | [], B => by show B.length ≤ _; simp
  | a :: A, B => by
    have := mrg_len A (B.drop (cnt B a))
    show (B.take (clt B a) ++ ((if a ∈ B then [] else [a]) ++ mrg A (B.drop (cnt B a)))).length ≤ _
    rw [List.length_append, List.length_append, List.length_take, List.length_cons]
    rw [List.length_drop] at this
    have k := clt_le_cnt B a
    have := cnt_le B a
    split <;> simp <;> omega
end Fb
namespace Fb
open PySem L2 Bx
theorem ix_seqK {X : Cx} (K : PySem.W.Frag) (hK : X.K = K := by rfl) : IxR X (rIx K) := by subst hK; exact ix_seq
theorem rIx_sq {K : PySem.W.Frag} {p : Addr} {xs : List V} {i : Int} {v : V} {H : Hp} {Q : VK} (h : Sq K H p xs) (e : atI xs i = some v) (q : Q v H) : rIx K (.ref p) (.int i) H Q :=
  h.any.elim (fun h => .inl ⟨p, xs, i, v, rfl, rfl, h, e, q⟩) fun h => .inr (.inl ⟨p, xs, i, v, rfl, rfl, h, e, q⟩)
def rLenS (K : PySem.W.Frag) : List V → Hp → VK → Prop := fun xs H Q => ∃ p ys, xs = [.ref p] ∧ Sq K H p ys ∧ Q (.int ys.length) H
theorem call_lenS {X : Cx} (K : PySem.W.Frag) (hK : X.K = K := by rfl) : CallR X (.builtin "len") (rLenS K) := by
  subst hK
  exact fun pins s σ H xs us Q I r ⟨p, ys, e, h, q⟩ => call_len_seq pins s σ H xs us Q I r ⟨p, ys, e, h.any, q⟩
def rListS (K : PySem.W.Frag) : List V → Hp → VK → Prop := fun xs H Q => ∃ p ys, xs = [.ref p] ∧ Sq K H p ys ∧ ∀ l, H l = none → Q (.ref l) (upd H l (.lst ys))
theorem call_listS {X : Cx} (K : PySem.W.Frag) (hK : X.K = K := by rfl) : CallR X (.type "list") (rListS K) := by
  subst hK
  exact fun pins s σ H xs us Q I r ⟨p, ys, e, h, q⟩ => call_list_of pins s σ H xs us Q I r ⟨p, ys, e, h.any, q⟩
def rTupS (K : PySem.W.Frag) : List V → Hp → VK → Prop := fun xs H Q => ∃ p ys, xs = [.ref p] ∧ Sq K H p ys ∧ ∀ t H', Same H H' → SqT K H' t ys → Q (.ref t) H'
theorem call_tupS {X : Cx} (K : PySem.W.Frag) (hK : X.K = K := by rfl) : CallR X (.type "tuple") (rTupS K) := by
  subst hK
  exact fun pins s σ H xs us Q I r ⟨p, ys, e, h, q⟩ => call_tuple_of pins s σ H xs us Q I r ⟨p, ys, e, h.elim (fun h => .inl ⟨SqL.of h, fun l nl => q l _ (Same.new nl) (SqT.of upd_same)⟩) fun h => .inr ⟨h, q p H (Same.refl H) h⟩⟩
/-- numbers whose turns are places of S -/
structure Num (f : Int → PyData) (S : Int → Prop) (z : Int) : Prop where
  mem : ∀ c ∈ Tl z, S c
  len : (Tl z).length ≤ 8500
def numD (f : Int → PyData) (z : Int) : PyData := rowF f (Tl z)
theorem tl_near {z : Int} : plain z ↔ ∀ c ∈ Tl z, c ≤ 64 := by
  rw [plain_iff]
  unfold Tl zs
  constructor
  · intro h c hc
    obtain ⟨p, hp, rfl⟩ := List.mem_map.mp hc
    have := h p hp
    show ((p : Nat) : Int) ≤ 64
    omega
  · intro h p hp
    have := h ((p : Nat) : Int) (List.mem_map.mpr ⟨p, hp, rfl⟩)
    omega
theorem num_cases {n : Nat} {f : Int → PyData} {S : Int → Prop} (o : OrdN n f S) {z : Int} (hz : Num f S z) :
    (plain z ∧ numD f z = .int z ∧ (Tl z).map f = nD (turnsN z)) ∨ (¬ plain z ∧ numD f z = .tuple ((Tl z).map f) ∧ ∃ m p, Tl z = m ++ [p] ∧ 64 < p) := by
  have vz : alt (-1) ((Tl z).map Int.toNat) = z := by unfold Tl; rw [zs_nat, turns_alt]
  rcases row_cases o hz.mem (tl_asc z) with ⟨all, e⟩ | ⟨m, p, el, p64, e⟩
  · refine .inl ⟨tl_near.mpr all, by unfold numD; rw [e, vz], ?_⟩
    have : (Tl z).map f = (Tl z).map PyData.int := List.map_congr_left fun c hc => o.near c (hz.mem c hc) (all c hc)
    rw [this]
    unfold Tl zs nD
    rw [List.map_map]
    rfl
  · refine .inr ⟨fun h => ?_, e, m, p, el, p64⟩
    have := tl_near.mp h p (by rw [el]; simp)
    omega
theorem num_fm {n : Nat} {f : Int → PyData} {S : Int → Prop} (o : OrdN n f S) {z : Int} (hz : Num f S z) : Fm (n + 1) (numD f z) := row_fm o hz.mem (tl_asc z) (by have := hz.len; omega)
theorem xor_alt {ns : List Nat} {t : Nat} (h : (ns ++ [t]).Pairwise (· < ·)) : Builtin.bitXor (alt (-1) ns) (-1 * 2 ^ t) = alt (-1) (ns ++ [t]) := by
  have h1 := (List.pairwise_append.mp h).1
  refine bt_ext fun p => ?_
  have e : (-1 * 2 ^ t : Int) = alt (-1) [t] := by show _ = -1 * 2 ^ t + 0; omega
  rw [bt_xor, e, bt_alt p ns h1, bt_alt p [t] (by simp), bt_alt p _ h, List.filter_append, List.length_append]
  omega
section
variable {P : Program} {w : World} {K : PySem.W.Frag} {mg : Str → Option Value} {base : Heap} {f : Addr} {fd : FuncData}
abbrev S_is_near : Stmt := top 51
abbrev N_is_near : List Str := ["place"]
abbrev P_is_near : List Str := ["place"]
theorem sc_is_near : FnScope N_is_near P_is_near (defScope S_is_near) := ⟨rfl, rfl, rfl, by decide +kernel, rfl, by decide +kernel, by decide +kernel⟩
def spNear (K : PySem.W.Frag) : Sp := fun vs H Q _ => ∃ (v : V) (d : PyData), vs = [v] ∧ Dp K H v d ∧ (∀ b, d ≠ .bool b) ∧ ∀ H' : Hp, Same H H' → Q (.bl (isNear d)) H'
theorem ok_near {tk : Tok} (F : Fun K "is_near" "is_near" S_is_near f fd) (B : Blt mg) (ML : mg "LAST_PLAIN_TURN" = some (.int 64 tk)) : FnOk P w K mg base CX0 1 f fd P_is_near (spNear K) := by
  have nd := sc_is_near.nd
  refine F.ok sc_is_near (fun vs H Q E h => ?_) (fun cdv A outer s H vs Q E hr h => ?_)
  · obtain ⟨v, d, rfl, _⟩ := h
    rfl
  obtain ⟨v, d, rfl, hd, hb, q⟩ := h
  refine ⟨_, (pss_one (ps_ret (pe_and (pe_callB (call_isiI K) (by rfl) B.isinstance (by decide +kernel) (pa_cons (pv 0) (pa_cons (pe_bltn (by rfl) B.int (by decide +kernel) (show RelV (.ty "int") (.type "int") from rfl)) pa_nil))) (pe_one (pe_cmpR op_le (pv 0) (pe_glob (v := .int 64) rfl ML ⟨_, rfl⟩) (nomark _)))))), ?_⟩
  refine ⟨_, rfl, _, d, rfl, hd, _, rfl, ?_⟩
  have q' := q H (Same.refl H)
  cases d with
  | int i =>
    cases hd
    refine iteT ?_
    exact ⟨_, rfl, _, _, rfl, rfl, q'⟩
  | bool b => exact absurd rfl (hb b)
  | tuple ds => exact iteF q'
  | none => exact iteF q'
  | str x => exact iteF q'
  | list x => exact iteF q'
  | dict x => exact iteF q'
abbrev S_int_of_rows : Stmt := top 55
abbrev N_int_of_rows : List Str := ["turns", "rows", "value", "k"]
abbrev P_int_of_rows : List Str := ["turns"]
theorem sc_int_of_rows : FnScope N_int_of_rows P_int_of_rows (defScope S_int_of_rows) := ⟨rfl, rfl, rfl, by decide +kernel, rfl, by decide +kernel, by decide +kernel⟩
theorem asc_ge {ns : List Nat} (asc : ns.Pairwise (· < ·)) : ∀ k (h : k < ns.length), k ≤ ns[k] := by
  intro k
  induction k with
  | zero => intro h; exact Nat.zero_le _
  | succ k ih =>
    intro h
    have h1 := ih (by omega)
    have h2 := List.pairwise_iff_getElem.mp asc k (k + 1) (by omega) h (by omega)
    omega
theorem asc_few {ns : List Nat} {b : Nat} (asc : ns.Pairwise (· < ·)) (le : ∀ p ∈ ns, p ≤ b) : ns.length ≤ b + 1 := by
  by_cases h : ns.length ≤ b + 1
  · exact h
  · have := asc_ge asc (b + 1) (by omega)
    have := le _ (List.getElem_mem (show b + 1 < ns.length by omega))
    omega
def spRows (K : PySem.W.Frag) : Sp := fun vs H Q _ => ∃ (a : Addr) (ns : List Nat), vs = [.ref a] ∧ Sq K H a (nI ns) ∧ ns.Pairwise (· < ·) ∧ 2 ≤ ns.length ∧ (∀ p ∈ ns, p ≤ 700000) ∧ ∀ H' : Hp, Same H H' → Q (.int (alt (-1) ns)) H'
theorem ok_rows {tk : Tok} (F : Fun K "int_of_rows" "int_of_rows" S_int_of_rows f fd) (B : Blt mg) (MB : mg "BITS" = some (.str "01" tk)) (hk : PySem.W.nsIn K cStatics "sys.int_max_str_digits" = some none) : FnOk P w K mg base CX0 1 f fd P_int_of_rows (spRows K) := by
  have nd := sc_int_of_rows.nd
  refine F.ok sc_int_of_rows (fun vs H Q E h => ?_) (fun cdv A outer s H vs Q E hr h => ?_)
  · obtain ⟨a, ns, rfl, _⟩ := h
    rfl
  obtain ⟨a, ns, rfl, hs, asc, l2, le, q⟩ := h
  refine ⟨_, (pss_cons (ps_setLc (i := 1) (own := [("k", 3)]) (g := gName 3) (tt := tYes) rfl nd rfl rfl (sw_true rfl rfl rfl (by decide +kernel)) (pi_range3 (by rfl) B.range (pa_cons (pe_op op_sub (pe_callB (call_lenS K) (by rfl) B.len PySem.boot_len (pa_cons (pv 0) pa_nil)) pe_int) (pa_cons pe_int (pa_cons (pe_un un_neg pe_int) pa_nil)))) (blkOk_by (own := [("k", 3)]) (N := N_int_of_rows) (sc := defScope S_int_of_rows) (by decide +kernel)) (fun _ _ _ _ _ => pg_name (i := 3) nd rfl (Or.inl rfl)) (fun _ _ _ _ _ => pts_nil) (fun _ _ _ _ _ => (pe_op op_repS (pe_ix ix_str (pe_glob (v := .str "01") rfl MB ⟨_, rfl⟩) (pe_op op_and (pv 3) pe_int) (fun _ _ => rfl)) (pe_op op_sub (pe_ix (ix_seqK K) (pv 0) (pv 3) (fun _ _ => rfl)) (pe_ix (ix_seqK K) (pv 0) (pe_op op_sub (pv 3) pe_int) (fun _ _ => rfl))))))
    (pss_cons (ps_expr (pe_bm PySem.F.plainAttrs_list PySem.F.slot_list_append PySem.F.type_list_append mt_append (pv 1) (pa_cons (pe_op op_repS (pe_ix ix_str (pe_glob (v := .str "01") rfl MB ⟨_, rfl⟩) pe_int (fun _ _ => rfl)) (pe_ix (ix_seqK K) (pv 0) pe_int (fun _ _ => rfl))) pa_nil)))
    (pss_cons (ps_set (i := 2) nd rfl (Or.inl rfl) (pe_callTy (call_int_binL hk) (by rfl) B.int (by decide +kernel) (pa_cons (pe_join pe_str (pv 1)) (pa_cons pe_int pa_nil))))
    (pss_one (ps_ret (pe_ifExp (pt_truth (pe_op op_and (pe_callB (call_lenS K) (by rfl) B.len PySem.boot_len (pa_cons (pv 0) pa_nil)) pe_int) (by intro _; rfl)) (pe_op op_sub (pv 2) (pe_op op_shl pe_int (pe_ix (ix_seqK K) (pv 0) (pe_un un_neg pe_int) (fun _ _ => rfl)))) (pv 2))))))), ?_⟩
  have few := asc_few asc le
  have nl : (nI ns).length = ns.length := by unfold nI; rw [List.length_map]
  have big : 800000 ≤ sizeLine := by decide
  have h01 : ("01" : Str).cps.toList = [48, 49] := by decide +kernel
  have l01 : ("01" : Str).length ≤ sizeLine := by decide +kernel
  obtain ⟨N, hN⟩ : ∃ N, ns.length = N + 1 := ⟨ns.length - 1, by omega⟩
  have at_ : ∀ k, k ≤ N → atI (nI ns) (k : Int) = some (.int (ns.getD k 0 : Int)) := fun k hk => atI_nat (by
    unfold nI
    rw [List.getElem?_map, List.getElem?_eq_getElem (by omega), List.getD_eq_getElem?_getD, List.getElem?_eq_getElem (by omega)]
    rfl)
  have lt_ : ∀ k, k < N → ns.getD k 0 < ns.getD (k + 1) 0 := fun k hk => by
    rw [List.getD_eq_getElem?_getD, List.getElem?_eq_getElem (by omega), List.getD_eq_getElem?_getD, List.getElem?_eq_getElem (by omega)]
    exact List.pairwise_iff_getElem.mp asc k (k + 1) (by omega) (by omega) (by omega)
  have le_ : ∀ k, k ≤ N → ns.getD k 0 ≤ 700000 := fun k hk => by
    rw [List.getD_eq_getElem?_getD, List.getElem?_eq_getElem (by omega)]
    exact le _ (List.getElem_mem _)
  have lastA : atI (nI ns) (-1) = some (.int (ns.getD N 0 : Int)) := by
    have h := atI_end (xs := nI ns) (s := 0) (v := .int (ns.getD N 0 : Int)) (by
      rw [List.getElem?_reverse (by omega), nl, hN]
      have := at_ N (Nat.le_refl _)
      unfold nI
      rw [List.getElem?_map, show N + 1 - 1 - 0 = N by omega, List.getElem?_eq_getElem (by omega), List.getD_eq_getElem?_getD, List.getElem?_eq_getElem (by omega)]
      rfl)
    exact h
  have Llen : ((nI ns).length : Int) - 1 = (N : Int) := by omega
  refine ⟨_, rfl, _, _, rfl, hs, _, _, rfl, rfl, _, rfl, _, _, _, _, rfl, RgC.neg (by omega) (by omega) (by omega) (by omega), fun D nD => ?_⟩
  rw [Llen, show ((N : Int) - 0).toNat = N by omega]
  refine lc_rangeC (fun i H' => Same H H' ∧ H' D = some (.lst ((List.range i).map fun j => V.str (SX.S (rowS ns (N - j)))))) ⟨Same.new nD, upd_same⟩ (fun i H' hi h => ?_) (fun H' h => ?_)
  · obtain ⟨e, hD⟩ := h
    obtain ⟨k, hk⟩ : ∃ k, N - i = k + 1 := ⟨N - i - 1, by omega⟩
    have ek : (N : Int) + (i : Nat) * -1 = ((k + 1 : Nat) : Int) := by omega
    rw [ek]
    have hs' := hs.same e
    have hb : atI ("01" : Str).cps.toList (Builtin.bitAnd ((k + 1 : Nat) : Int) 1) = some (48 + (k + 1) % 2) := by
      rw [h01, PyProof.Rows.bitAnd_m1]
      rcases (show (k + 1) % 2 = 0 ∨ (k + 1) % 2 = 1 by omega) with c | c
      · rw [show ((k + 1 : Nat) : Int) % 2 = ((0 : Nat) : Int) by omega, c]; exact atI_nat rfl
      · rw [show ((k + 1 : Nat) : Int) % 2 = ((1 : Nat) : Int) by omega, c]; exact atI_nat rfl
    have l1 := lt_ k (by omega)
    have l2 := le_ (k + 1) (by omega)
    refine ⟨rfl, lcT ?_⟩
    refine ⟨_, rfl, _, _, rfl, rfl, _, _, _, rfl, rfl, l01, hb, _, rfl, _, rfl, rIx_sq hs' (at_ (k + 1) (by omega)) ?_⟩
    refine ⟨_, rfl, _, rfl, _, _, rfl, rfl, rIx_sq hs' (by rw [show ((k + 1 : Nat) : Int) - 1 = (k : Int) by omega]; exact at_ k (by omega)) ?_⟩
    refine ⟨_, _, rfl, rfl, 48 + (k + 1) % 2, ns.getD (k + 1) 0 - ns.getD k 0, rfl, (congrArg V.int (by omega)), by omega, ?_⟩
    refine ⟨_, hD, ?_, Same.mut e nD, ?_⟩
    · rw [List.length_map, List.length_range]; omega
    · rw [upd_same, List.range_succ, List.map_append]
      show some (HO.lst (_ ++ [V.str (SX.S (List.replicate (ns.getD (k + 1) 0 - ns.getD k 0) (48 + (k + 1) % 2)))])) = some (HO.lst (_ ++ [V.str (SX.S (rowS ns (N - i)))]))
      rw [hk]
      rfl
  obtain ⟨e, hD⟩ := h
  have hs' := hs.same e
  have z0 : atI ("01" : Str).cps.toList 0 = some 48 := by rw [h01]; exact atI_nat (j := 0) rfl
  refine ⟨_, rfl, .inl ⟨rfl, _, SqL.of hD⟩, _, _, _, rfl, rfl, l01, z0, _, rfl, rIx_sq hs' (at_ 0 (Nat.zero_le _)) ?_⟩
  have l0 := le_ 0 (Nat.zero_le _)
  refine ⟨48, ns.getD 0 0, rfl, rfl, by omega, D, _, _, rfl, rfl, hD, (by rw [List.length_map, List.length_range]; omega), ?_⟩
  have e2 : Same H (upd H' D (.lst (((List.range N).map fun j => V.str (SX.S (rowS ns (N - j)))) ++ [V.str (SX.S (List.replicate (ns.getD 0 0) 48))]))) := Same.mut e nD
  have hs2 := hs.same e2
  have eys : ((List.range N).map fun j => V.str (SX.S (rowS ns (N - j)))) ++ [V.str (SX.S (List.replicate (ns.getD 0 0) 48))] = ((((List.range N).map fun j => rowS ns (N - j)) ++ [List.replicate (ns.getD 0 0) 48]).map SX.S).map V.str := by
    rw [List.map_append, List.map_append, List.map_map, List.map_map]
    rfl
  have hj := rows_join ns N
  have hv := rowD2_val asc N (by omega)
  have lN := le_ N (Nat.le_refl _)
  have je : Txt.join ("" : Str) ((((List.range N).map fun j => rowS ns (N - j)) ++ [List.replicate (ns.getD 0 0) 48]).map SX.S) = SX.S (rowD2 ns N) := by
    have h1 : ("" : Str) = SX.S [] := by decide +kernel
    rw [h1, SX.join_S, joinL_nil, hj]
  have hl : ((((List.range N).map fun j => rowS ns (N - j)) ++ [List.replicate (ns.getD 0 0) 48] : List (List Nat)).map (fun l : List Nat => l.length)).sum = ns.getD N 0 := by
    rw [← List.length_flatten, hj, hv.1]
  have n1 : 1 ≤ ns.getD N 0 := by
    have := lt_ (N - 1) (by omega)
    rw [show N - 1 + 1 = N by omega] at this
    omega
  refine ⟨⟨_, rfl⟩, _, rfl, _, D, _, rfl, rfl, .inl (SqL.of (by rw [upd_same, eys])), ?_, ?_⟩
  · rw [SX.lens, hl, show ("" : Str).length = 0 from by decide +kernel]
    omega
  rw [je]
  refine ⟨rowD2 ns N, rfl, (fun h => by have h1 := hv.1; rw [h] at h1; have h2 : 0 = ns.getD N 0 := h1; omega), rowD2_bits ns N, ?_⟩
  refine ⟨_, rfl, _, _, rfl, hs2, _, _, rfl, rfl, _, rfl, ?_⟩
  have tk : ns.take (N + 1) = ns := List.take_of_length_le (by omega)
  have vv := hv.2
  rw [tk] at vv
  have eb : Builtin.bitAnd ((nI ns).length : Int) 1 = (((N + 1) % 2 : Nat) : Int) := by
    rw [PyProof.Rows.bitAnd_m1]; omega
  refine ite2 (fun c => ?_) (fun c => ?_)
  · have c' : (Builtin.bitAnd ((nI ns).length : Int) 1 != 0) = true := c
    rw [eb] at c'
    have o : N % 2 = 0 := by
      have : (((N + 1) % 2 : Nat) : Int) ≠ 0 := by simpa using c'
      omega
    rw [if_pos o] at vv
    refine ⟨_, rfl, _, rfl, _, rfl, rIx_sq hs2 lastA ?_⟩
    refine ⟨_, _, rfl, rfl, cpow (by show 0 ≤ ((ns.getD N 0 : Nat) : Int) ∧ ((ns.getD N 0 : Nat) : Int) ≤ 1000000 ∧ (1 : Int).natAbs < 2 ^ 64; exact ⟨by omega, by omega, by decide⟩), _, _, rfl, rfl, ?_⟩
    have q' := q _ e2
    have er : ((binNum (rowD2 ns N) : Nat) : Int) - 1 * 2 ^ ((ns.getD N 0 : Nat) : Int).toNat = alt (-1) ns := by
      rw [vv, Int.toNat_natCast]
      generalize (2 : Int) ^ (ns.getD N 0) = T
      omega
    rw [← er] at q'
    exact q'
  · have c' : ¬ (Builtin.bitAnd ((nI ns).length : Int) 1 != 0) = true := c
    rw [eb] at c'
    have o : ¬ N % 2 = 0 := fun o => c' (by rw [show (N + 1) % 2 = 1 by omega]; rfl)
    rw [if_neg o, Int.add_zero] at vv
    refine ⟨_, rfl, ?_⟩
    have q' := q _ e2
    rw [← vv] at q'
    exact q'
abbrev S_int_of_turns : Stmt := top 54
abbrev N_int_of_turns : List Str := ["turns", "value", "turn"]
abbrev P_int_of_turns : List Str := ["turns"]
theorem sc_int_of_turns : FnScope N_int_of_turns P_int_of_turns (defScope S_int_of_turns) := ⟨rfl, rfl, rfl, by decide +kernel, rfl, by decide +kernel, by decide +kernel⟩
def spIoT (K : PySem.W.Frag) : Sp := fun vs H Q _ => ∃ (a : Addr) (ns : List Nat), vs = [.ref a] ∧ Sq K H a (nI ns) ∧ ns.Pairwise (· < ·) ∧ (∀ p ∈ ns, p ≤ 700000) ∧ (16 < ns.length → ∀ p ∈ ns, p ≤ 700000) ∧ ∀ H' : Hp, Same H H' → Q (.int (alt (-1) ns)) H'
theorem ok_iot {tk : Tok} (F : Fun K "int_of_turns" "int_of_turns" S_int_of_turns f fd) (B : Blt mg) (MM : mg "MANY_TURNS" = some (.int 16 tk)) (Cint_of_rows : Has P w K mg base 1 "int_of_rows" P_int_of_rows [] (spRows K)) : FnOk P w K mg base CX0 2 f fd P_int_of_turns (spIoT K) := by
  have nd := sc_int_of_turns.nd
  refine F.ok sc_int_of_turns (fun vs H Q E h => ?_) (fun cdv A outer s H vs Q E hr h => ?_)
  · obtain ⟨a, ns, rfl, _⟩ := h
    rfl
  obtain ⟨a, ns, rfl, hs, asc, le, le6, q⟩ := h
  refine ⟨_, (pss_cons (ps_if (pt_cmpR op_gt (pe_callB (call_lenS K) (by rfl) B.len PySem.boot_len (pa_cons (pv 0) pa_nil)) (pe_glob (v := .int 16) rfl MM ⟨_, rfl⟩) (nomark _)) (pss_one (ps_ret (pe_H Cint_of_rows (hr.mono (by decide)) rfl (pa_cons (pv 0) pa_nil)))) pss_nil)
    (pss_cons (ps_set (i := 1) nd rfl (Or.inl rfl) pe_int)
    (pss_cons (ps_for PassesOwn.never rfl (pi_seq K (pv 0)) (pg_name (i := 2) nd rfl (Or.inl rfl)) (pss_one (ps_set (i := 1) nd rfl (Or.inl rfl) (pe_op op_xor (pv 1) (pe_op op_shl (pe_un un_neg pe_int) (pv 2))))))
    (pss_one (ps_ret (pv 1)))))), ?_⟩
  have nl : (nI ns).length = ns.length := by unfold nI; rw [List.length_map]
  refine ⟨_, rfl, _, _, rfl, hs, _, _, rfl, rfl, _, rfl, ?_⟩
  refine iteD (fun c => ?_) (fun c => ?_)
  · rw [nl] at c
    exact ⟨_, rfl, a, ns, rfl, hs, asc, by omega, le6 (by omega), q⟩
  refine for_seq (xs := nI ns) hs rfl (fun i σ H' => ∃ z, σ = [some (.ref a), some (.int (alt (-1) (ns.take i))), z] ∧ Same H H') ⟨_, rfl, Same.refl H⟩ (fun i σ H' _ h => ?_) (fun i x σ H' hx h => ?_) (fun σ H' h => ?_)
  · obtain ⟨_, _, e⟩ := h
    exact e
  · obtain ⟨z, rfl, e⟩ := h
    unfold nI at hx
    rw [List.getElem?_map] at hx
    obtain ⟨t, ht, rfl⟩ := Option.map_eq_some_iff.mp hx
    have := le t (List.mem_of_getElem? ht)
    have et : ns.take (i + 1) = ns.take i ++ [t] := by rw [List.take_add_one, ht]; rfl
    have k := xor_alt (ns := ns.take i) (t := t) (by rw [← et]; exact asc.sublist (List.take_sublist _ _))
    refine ⟨_, rfl, _, rfl, _, rfl, _, _, rfl, rfl, cpow (by show 0 ≤ ((t : Nat) : Int) ∧ ((t : Nat) : Int) ≤ 1000000 ∧ (-1 : Int).natAbs < 2 ^ 64; exact ⟨by omega, by omega, by decide⟩), _, _, rfl, rfl, ?_⟩
    refine ⟨some (.int (t : Int)), ?_, e⟩
    rw [et, ← k]
    rfl
  · obtain ⟨z, rfl, e⟩ := h
    rw [show (nI ns).length = ns.length from by unfold nI; rw [List.length_map], List.take_length]
    exact ⟨_, rfl, q H' e⟩
abbrev S_form_with : Stmt := top 60
abbrev N_form_with : List Str := ["turns"]
abbrev P_form_with : List Str := ["turns"]
theorem sc_form_with : FnScope N_form_with P_form_with (defScope S_form_with) := ⟨rfl, rfl, rfl, by decide +kernel, rfl, by decide +kernel, by decide +kernel⟩
def spWith (K : PySem.W.Frag) (g : Int → PyData) (S : Int → Prop) : Sp := fun vs H Q _ => ∃ (a : Addr) (z : Int), vs = [.ref a] ∧ Pls K H g a (Tl z) ∧ Num g S z ∧ ∀ (v : V) (H' : Hp), Same H H' → Dp K H' v (numD g z) → Q v H'
theorem ok_with {n : Nat} {g : Int → PyData} {S : Int → Prop} (o : OrdN n g S) (F : Fun K "form_with" "form_with" S_form_with f fd) (B : Blt mg) (Cis_near : Has P w K mg base 1 "is_near" P_is_near [] (spNear K)) (Cint_of_turns : Has P w K mg base 2 "int_of_turns" P_int_of_turns [] (spIoT K)) :
    FnOk P w K mg base CX0 3 f fd P_form_with (spWith K g S) := by
  have nd := sc_form_with.nd
  refine F.ok sc_form_with (fun vs H Q E h => ?_) (fun cdv A outer s H vs Q E hr h => ?_)
  · obtain ⟨a, z, rfl, _⟩ := h
    rfl
  obtain ⟨a, z, rfl, hp, hz, q⟩ := h
  refine ⟨_, (pss_cons (ps_if (PW.pt (pw_or (pt_not (pt_truth (pv 0) (by intro _; rfl))) (pw_or1 (pt_val (pe_H Cis_near (hr.mono (by decide)) rfl (pa_cons (pe_ix (ix_seqK K) (pv 0) (pe_un un_neg pe_int) (fun _ _ => rfl)) pa_nil)))))) (pss_one (ps_ret (pe_H Cint_of_turns (hr.mono (by decide)) rfl (pa_cons (pv 0) pa_nil)))) pss_nil)
    (pss_one (ps_ret (pe_callTy (call_tupS K) (by rfl) B.tuple (by decide +kernel) (pa_cons (pv 0) pa_nil))))), ?_⟩
  obtain ⟨vs, hs, hl, hd, hat⟩ := hp.at
  refine ⟨_, rfl, _, hs.tru, ?_⟩
  have vz : alt (-1) (turnsN z) = z := turns_alt z
  rcases num_cases o hz with ⟨pl, e, ed⟩ | ⟨npl, e, m, p, el, p64⟩
  · rw [ed] at hd
    have ev := dps_n_inv hd
    subst ev
    have fin : ∀ H1, Same H H1 → spIoT K ([.ref a] ++ []) H1 (fun x H' => Q x H') E0 := fun H1 e1 => by
      refine ⟨a, turnsN z, rfl, hs.same e1, turns_asc z, (fun p hp => Nat.le_trans (turns_lt (n := 64) pl.1 pl.2 p hp) (by decide)), (fun _ p hp => Nat.le_trans (turns_lt (n := 64) pl.1 pl.2 p hp) (by decide)), fun H2 e2 => ?_⟩
      rw [vz]
      have k := q (.int z) H2 (e1.trans e2)
      rw [e] at k
      exact k (.int z)
    rcases List.eq_nil_or_concat (turnsN z) with hc | ⟨m, p, hc⟩
    · have e0 : (!(nI (turnsN z)).isEmpty) = false := by rw [hc]; rfl
      rw [e0]
      exact iteT ⟨_, rfl, fin H (Same.refl H)⟩
    · rw [List.concat_eq_append] at hc
      have e0 : (!(nI (turnsN z)).isEmpty) = true := by rw [hc]; unfold nI; simp
      rw [e0]
      have hd' := hd
      have em : nD (turnsN z) = nD m ++ [.int (p : Int)] := by rw [hc]; unfold nD; rw [List.map_append]; rfl
      rw [em] at hd'
      obtain ⟨x, hx, dx⟩ := dps_last hd'
      have hp64 : p ≤ 64 := turns_lt (n := 64) pl.1 pl.2 p (by rw [hc]; simp)
      refine iteF ?_
      refine ⟨_, rfl, _, rfl, rIx_sq hs hx ⟨x, _, rfl, dx, (fun b h => by cases h), fun H1 e1 => ?_⟩⟩
      have en : isNear (.int (p : Int)) = true := decide_eq_true (by omega)
      rw [en]
      exact ⟨_, rfl, iteT ⟨_, rfl, fin H1 e1⟩⟩
  · have hne : (Tl z).length ≠ 0 := by rw [el]; simp
    have e0 : (!vs.isEmpty) = true := by
      cases vs with
      | nil => exact absurd hl.symm hne
      | cons => rfl
    rw [e0]
    have hd' := hd
    rw [el, List.map_append] at hd'
    obtain ⟨x, hx, dx⟩ := dps_last hd'
    have hS : S p := hz.mem p (by rw [el]; simp)
    refine iteF ?_
    refine ⟨_, rfl, _, rfl, rIx_sq hs hx ⟨x, _, rfl, dx, (fm_kind (o.fm p hS)).2, fun H1 e1 => ?_⟩⟩
    rw [o.far p hS p64]
    refine ⟨_, rfl, iteF ?_⟩
    refine ⟨_, rfl, a, vs, rfl, hs.same e1, fun t H2 e2 ht => ?_⟩
    have k := q (.ref t) H2 (e1.trans e2)
    rw [e] at k
    exact k (.tup ht ((Nd.of (e1.trans e2)).ds hd))
abbrev S_turns_in : Stmt := top 61
abbrev N_turns_in : List Str := ["x"]
abbrev P_turns_in : List Str := ["x"]
theorem sc_turns_in : FnScope N_turns_in P_turns_in (defScope S_turns_in) := ⟨rfl, rfl, rfl, by decide +kernel, rfl, by decide +kernel, by decide +kernel⟩
def spTin (K : PySem.W.Frag) (g : Int → PyData) (S : Int → Prop) : Sp := fun vs H Q _ => ∃ (v : V) (z : Int), vs = [v] ∧ Dp K H v (numD g z) ∧ Num g S z ∧ ∀ (a : Addr) (H' : Hp), Same H H' → Pls K H' g a (Tl z) → Q (.ref a) H'
theorem ok_tin {n : Nat} {g : Int → PyData} {S : Int → Prop} (o : OrdN n g S) (F : Fun K "turns_in" "turns_in" S_turns_in f fd) (B : Blt mg) (Cturns_of_int : Has P w K mg base 2 "turns_of_int" P_turns_of_int [] spTurns) : FnOk P w K mg base CX0 3 f fd P_turns_in (spTin K g S) := by
  have nd := sc_turns_in.nd
  refine F.ok sc_turns_in (fun vs H Q E h => ?_) (fun cdv A outer s H vs Q E hr h => ?_)
  · obtain ⟨v, z, rfl, _⟩ := h
    rfl
  obtain ⟨v, z, rfl, hd, hz, q⟩ := h
  refine ⟨_, (pss_cons (ps_if (pt_val (pe_callB (call_isiI K) (by rfl) B.isinstance (by decide +kernel) (pa_cons (pv 0) (pa_cons (pe_bltn (by rfl) B.int (by decide +kernel) (show RelV (.ty "int") (.type "int") from rfl)) pa_nil)))) (pss_one (ps_ret (pe_H Cturns_of_int (hr.mono (by decide)) rfl (pa_cons (pv 0) pa_nil)))) pss_nil)
    (pss_one (ps_ret (pv 0)))), ?_⟩
  refine ⟨_, rfl, _, _, rfl, hd, _, rfl, ?_⟩
  rcases num_cases o hz with ⟨pl, e, ed⟩ | ⟨npl, e, _⟩
  · rw [e] at hd ⊢
    cases hd
    refine iteT ?_
    refine ⟨_, rfl, z, rfl, InB.of (n := 64) pl.1 pl.2 (by decide), fun p H' e1 np hp => q p H' e1 ⟨_, .inl hp, ?_⟩⟩
    rw [ed]
    exact dps_n _
  · rw [e] at hd ⊢
    cases hd with
    | tup hs ha =>
    refine iteF ?_
    exact ⟨_, rfl, q _ _ (Same.refl _) ⟨_, .inr hs, ha⟩⟩
abbrev S_is_less : Stmt := top 66
abbrev N_is_less : List Str := ["x", "y"]
abbrev P_is_less : List Str := ["x", "y"]
theorem sc_is_less : FnScope N_is_less P_is_less (defScope S_is_less) := ⟨rfl, rfl, rfl, by decide +kernel, rfl, by decide +kernel, by decide +kernel⟩
def spLess (K : PySem.W.Frag) (g : Int → PyData) (S : Int → Prop) : Sp := fun vs H Q _ => ∃ (x y : V) (c d : Int), vs = [x, y] ∧ Dp K H x (g c) ∧ Dp K H y (g d) ∧ S c ∧ S d ∧ ∀ H' : Hp, Same H H' → Q (.bl (decide (c < d))) H'
theorem sgn_lt {d c : Int} : sgnI d c < 0 ↔ d < c := by
  rcases Int.lt_trichotomy d c with k | k | k
  · rw [sgnI_lt k]; exact ⟨fun _ => k, fun _ => by decide⟩
  · subst k; rw [sgnI_self]; exact ⟨fun z => absurd z (by decide), fun z => absurd z (Int.lt_irrefl _)⟩
  · rw [sgnI_gt k]; exact ⟨fun z => absurd z (by decide), fun z => by omega⟩
theorem ok_less {n : Nat} {g : Int → PyData} {S : Int → Prop} (o : OrdN n g S) (nn : ∀ c, S c → negD (g c) = false) {spF : Sp} (hF : ∀ m, n = m + 1 → ∀ vs H Q E, spFar K m vs H Q E → spF vs H Q E) (F : Fun K "is_less" "is_less" S_is_less f fd) (B : Blt mg) (Ccompare_far : Has P w K mg base (2 * n + 1) "compare_far" P_compare_far [] spF) : FnOk P w K mg base CX0 (2 * n + 2) f fd P_is_less (spLess K g S) := by
  have nd := sc_is_less.nd
  refine F.ok sc_is_less (fun vs H Q E h => ?_) (fun cdv A outer s H vs Q E hr h => ?_)
  · obtain ⟨x, y, c, d, rfl, _⟩ := h
    rfl
  obtain ⟨x, y, c, d, rfl, hx, hy, sc, sd, q⟩ := h
  refine ⟨_, (pss_cons (ps_if (pt_val (pe_callB (call_isiI K) (by rfl) B.isinstance (by decide +kernel) (pa_cons (pv 0) (pa_cons (pe_bltn (by rfl) B.int (by decide +kernel) (show RelV (.ty "int") (.type "int") from rfl)) pa_nil)))) (pss_one (ps_ret (pe_or (pe_not (pe_callB (call_isiI K) (by rfl) B.isinstance (by decide +kernel) (pa_cons (pv 1) (pa_cons (pe_bltn (by rfl) B.int (by decide +kernel) (show RelV (.ty "int") (.type "int") from rfl)) pa_nil)))) (pe_one (pe_cmpR op_lt (pv 0) (pv 1) (nomark _)))))) pss_nil)
    (pss_cons (ps_if (pt_val (pe_callB (call_isiI K) (by rfl) B.isinstance (by decide +kernel) (pa_cons (pv 1) (pa_cons (pe_bltn (by rfl) B.int (by decide +kernel) (show RelV (.ty "int") (.type "int") from rfl)) pa_nil)))) (pss_one (ps_ret pe_bl)) pss_nil)
    (pss_one (ps_ret (pe_cmpR op_lt (pe_H Ccompare_far (hr.mono (by omega)) rfl (pa_cons (pv 0) (pa_cons (pv 1) pa_nil))) pe_int (nomark _)))))), ?_⟩
  have ord := o.ord c d sc sd
  have fx := o.fm c sc
  have fy := o.fm d sd
  have nx := nn c sc
  have ny := nn d sd
  have q : ∀ H', Same H H' → Q (.bl (decide (cmpD n (g c) (g d) < 0))) H' := fun H' e => by
    rw [ord, decide_eq_decide.mpr sgn_lt]
    exact q H' e
  clear ord
  generalize g c = dx at *
  generalize g d = dy at *
  have q0 := q H (Same.refl H)
  refine ⟨_, rfl, x, dx, rfl, hx, _, rfl, ?_⟩
  refine ite2 (fun c1 => ?_) (fun c1 => ?_)
  · obtain ⟨i, rfl⟩ := fm_int fx c1
    refine ⟨_, rfl, y, dy, rfl, hy, ?_⟩
    by_cases c2 : isI dy = true
    · obtain ⟨j, rfl⟩ := fm_int fy c2
      cases hx
      cases hy
      have ec : cmpD n (.int i) (.int j) = sgnI i j := by cases n <;> rfl
      rw [ec] at q0
      refine ⟨_, rfl, false, rfl, iteF ?_⟩
      refine ⟨_, rfl, _, rfl, _, _, rfl, rfl, ?_⟩
      rw [decide_eq_decide.mpr sgn_lt] at q0
      exact q0
    · cases n with
      | zero => obtain ⟨j, rfl⟩ := fy; exact absurd rfl c2
      | succ k =>
      rw [cmp_ix fx fy (fun h => c2 h.2) (nx.trans ny.symm) rfl, if_neg (by rw [nx]; decide)] at q0
      have c3 : isI dy = false := by cases h : isI dy with | true => exact absurd h c2 | false => rfl
      rw [c3]
      exact ⟨_, rfl, true, rfl, iteT q0⟩
  · refine ⟨_, rfl, y, dy, rfl, hy, _, rfl, ?_⟩
    cases n with
    | zero => obtain ⟨j, rfl⟩ := fx; exact absurd rfl c1
    | succ k =>
    refine ite2 (fun c2 => ?_) (fun c2 => ?_)
    · rw [cmp_iy fx fy (fun h => c1 h.1) (nx.trans ny.symm) c1 c2, if_neg (by rw [nx]; decide)] at q0
      exact q0
    · obtain ⟨xs, rfl, _, fxs⟩ := fm_tup fx c1
      obtain ⟨ys, rfl, _, fys⟩ := fm_tup fy c2
      have ec : cmpD (k + 1) (.tuple xs) (.tuple ys) = lexD (cmpD k) xs.reverse ys.reverse := if_pos (nx.trans ny.symm)
      rw [ec] at q
      cases hx with
      | @tup a vx _ hA hd =>
      cases hy with
      | @tup b vy _ hB he =>
      exact ⟨_, rfl, _, rfl, hF k rfl _ _ _ _ ⟨a, b, vx, vy, xs, ys, rfl, hA, hB, hd, he, fxs, fys, fun H4 e4 => ⟨_, _, rfl, rfl, q H4 e4⟩⟩⟩
abbrev S_turns_between : Stmt := top 68
abbrev N_turns_between : List Str := ["turns", "place", "low", "high", "middle"]
abbrev P_turns_between : List Str := ["turns", "place", "low", "high"]
theorem sc_turns_between : FnScope N_turns_between P_turns_between (defScope S_turns_between) := ⟨rfl, rfl, rfl, by decide +kernel, rfl, by decide +kernel, by decide +kernel⟩
def spBetween (K : PySem.W.Frag) (g : Int → PyData) (S : Int → Prop) : Sp := fun vs H Q _ => ∃ (a : Addr) (y : V) (l : List Int) (c : Int) (l0 h0 : Nat), vs = [.ref a, y, .int (l0 : Int), .int (h0 : Int)] ∧ Pls K H g a l ∧ Dp K H y (g c) ∧ l.Pairwise (· < ·) ∧ (∀ t ∈ l, S t) ∧ S c ∧ l0 ≤ clt l c ∧ clt l c ≤ h0 ∧ h0 ≤ l.length ∧
  ∀ H' : Hp, Same H H' → Q (.int (clt l c : Int)) H'
theorem ok_between {n : Nat} {g : Int → PyData} {S : Int → Prop} (F : Fun K "turns_between" "turns_between" S_turns_between f fd) (Cis_less : Has P w K mg base (2 * n + 2) "is_less" P_is_less [] (spLess K g S)) : FnOk P w K mg base CX0 (2 * n + 3) f fd P_turns_between (spBetween K g S) := by
  have nd := sc_turns_between.nd
  refine F.ok sc_turns_between (fun vs H Q E h => ?_) (fun cdv A outer s H vs Q E hr h => ?_)
  · obtain ⟨a, y, l, c, l0, h0, rfl, _⟩ := h
    rfl
  obtain ⟨a, y, l, c, l0, h0, rfl, hp, hy, asc, hS, hc, hl0, hh0, hh1, q⟩ := h
  refine ⟨_, (pss_cons (ps_while PassesOwn.never (pt_cmpR op_lt (pv 2) (pv 3) (nomark _)) (pss_cons (ps_set (i := 4) nd rfl (Or.inl rfl) (pe_op op_fdivW (pe_op op_add (pv 2) (pv 3)) pe_int))
    (pss_one (ps_if (pt_val (pe_H Cis_less (hr.mono (by omega)) rfl (pa_cons (pe_ix (ix_seqK K) (pv 0) (pv 4) (fun _ _ => rfl)) (pa_cons (pv 1) pa_nil)))) (pss_one (ps_set (i := 2) nd rfl (Or.inl rfl) (pe_op op_add (pv 4) pe_int))) (pss_one (ps_set (i := 3) nd rfl (Or.inl rfl) (pv 4)))))))
    (pss_one (ps_ret (pv 2)))), ?_⟩
  obtain ⟨vs, hs, hl, hd, hat⟩ := hp.at
  have ord := asc_lt c asc
  refine ⟨fun k σ H' => ∃ (lo hi : Nat) (z : Option V), σ = [some (.ref a), some y, some (.int (lo : Int)), some (.int (hi : Int)), z] ∧ k = hi - lo ∧ lo ≤ clt l c ∧ clt l c ≤ hi ∧ hi ≤ l.length ∧ Same H H', ⟨_, l0, h0, _, rfl, rfl, hl0, hh0, hh1, Same.refl _⟩, ?_⟩
  rintro k σ H' ⟨lo, hi, z, rfl, rfl, h1, h2, h3, e⟩
  refine ⟨_, rfl, _, rfl, _, _, rfl, rfl, _, rfl, ?_⟩
  refine iteD (fun cc => ?_) (fun cc => ?_)
  · have hlt : lo < hi := by omega
    obtain ⟨d, hd1⟩ : ∃ d, l[(lo + hi) / 2]? = some d := ⟨_, List.getElem?_eq_getElem (by omega)⟩
    obtain ⟨x, hx, dp⟩ := hat _ _ hd1
    have em : ((lo : Int) + (hi : Int)) / 2 = (((lo + hi) / 2 : Nat) : Int) := by omega
    have od := ord _ _ hd1
    have hSd := hS d (List.mem_of_getElem? hd1)
    refine ⟨fun σ H' => ∃ (lo' hi' : Nat) (z : Option V), σ = [some (.ref a), some y, some (.int (lo' : Int)), some (.int (hi' : Int)), z] ∧ hi' - lo' < hi - lo ∧ lo' ≤ clt l c ∧ clt l c ≤ hi' ∧ hi' ≤ l.length ∧ Same H H', fun σ' H' h => ?_, ?_⟩
    · obtain ⟨lo', hi', z, rfl, k1, k2, k3, k4, k5⟩ := h
      exact ⟨_, k1, lo', hi', z, rfl, rfl, k2, k3, k4, k5⟩
    · refine ⟨_, rfl, _, rfl, _, _, rfl, rfl, _, _, rfl, rfl, ⟨by decide, by decide⟩, ?_⟩
      refine ⟨_, rfl, _, rfl, rIx_sq (v := x) (hs.same e) (by show atI vs (((lo : Int) + (hi : Int)) / 2) = _; rw [em]; exact atI_nat hx) ?_⟩
      refine ⟨_, rfl, x, y, d, c, rfl, (Nd.of e).d dp, (Nd.of e).d hy, hSd, hc, fun H1 e1 => ?_⟩
      refine ⟨_, rfl, ?_⟩
      have od' : (lo + hi) / 2 < clt l c ↔ d < c := od
      refine iteD (fun c1 => ?_) (fun c1 => ?_)
      · refine ⟨_, rfl, _, _, rfl, rfl, (lo + hi) / 2 + 1, hi, some (.int (((lo : Int) + (hi : Int)) / 2)), ?_, by omega, by have := od'.mpr c1; omega, h2, h3, e.trans e1⟩
        have e2 : ((lo : Int) + (hi : Int)) / 2 + 1 = (((lo + hi) / 2 + 1 : Nat) : Int) := by omega
        rw [← e2]
        rfl
      · refine ⟨_, rfl, lo, (lo + hi) / 2, some (.int (((lo : Int) + (hi : Int)) / 2)), ?_, by omega, h1, by have := fun h => c1 (od'.mp h); omega, by omega, e.trans e1⟩
        rw [← em]
        rfl
  · have : lo = clt l c := by omega
    have q' := q _ e
    rw [← this] at q'
    exact ⟨_, rfl, q'⟩
abbrev S_turns_before : Stmt := top 67
abbrev N_turns_before : List Str := ["turns", "place", "start", "low", "high", "step"]
abbrev P_turns_before : List Str := ["turns", "place", "start"]
theorem sc_turns_before : FnScope N_turns_before P_turns_before (defScope S_turns_before) := ⟨rfl, rfl, rfl, by decide +kernel, rfl, by decide +kernel, by decide +kernel⟩
def spBefore (K : PySem.W.Frag) (g : Int → PyData) (S : Int → Prop) : Sp := fun vs H Q _ => ∃ (a : Addr) (y : V) (l : List Int) (c : Int) (s : Nat), vs = [.ref a, y, .int (s : Int)] ∧ Pls K H g a l ∧ Dp K H y (g c) ∧ l.Pairwise (· < ·) ∧ (∀ t ∈ l, S t) ∧ S c ∧ s ≤ clt l c ∧ l.length ≤ 30000 ∧
  ∀ H' : Hp, Same H H' → Q (.int (clt l c : Int)) H'
theorem ok_before {n : Nat} {g : Int → PyData} {S : Int → Prop} (F : Fun K "turns_before" "turns_before" S_turns_before f fd) (B : Blt mg) (Cis_less : Has P w K mg base (2 * n + 2) "is_less" P_is_less [] (spLess K g S)) (Cturns_between : Has P w K mg base (2 * n + 3) "turns_between" P_turns_between [] (spBetween K g S)) : FnOk P w K mg base CX0 (2 * n + 4) f fd P_turns_before (spBefore K g S) := by
  have nd := sc_turns_before.nd
  refine F.ok sc_turns_before (fun vs H Q E h => ?_) (fun cdv A outer s H vs Q E hr h => ?_)
  · obtain ⟨a, y, l, c, s, rfl, _⟩ := h
    rfl
  obtain ⟨a, y, l, c, s0, rfl, hp, hy, asc, hS, hc, hs0, l4, q⟩ := h
  refine ⟨_, (pss_cons (ps_set (i := 3) nd rfl (Or.inl rfl) (pv 2))
    (pss_cons (ps_set (i := 4) nd rfl (Or.inl rfl) (pv 2))
    (pss_cons (ps_set (i := 5) nd rfl (Or.inl rfl) pe_int)
    (pss_cons (ps_while PassesOwn.never (PW.pt (pw_and (pt_cmpR op_lt (pv 4) (pe_callB (call_lenS K) (by rfl) B.len PySem.boot_len (pa_cons (pv 0) pa_nil)) (nomark _)) (pw_and1 (pt_val (pe_H Cis_less (hr.mono (by omega)) rfl (pa_cons (pe_ix (ix_seqK K) (pv 0) (pv 4) (fun _ _ => rfl)) (pa_cons (pv 1) pa_nil))))))) (pss_cons (ps_set (i := 3) nd rfl (Or.inl rfl) (pe_op op_add (pv 4) pe_int))
    (pss_cons (ps_set (i := 4) nd rfl (Or.inl rfl) (pe_op op_add (pv 4) (pv 5)))
    (pss_one (ps_set (i := 5) nd rfl (Or.inl rfl) (pe_op op_mul (pv 5) pe_int))))))
    (pss_one (ps_ret (pe_H Cturns_between (hr.mono (by omega)) rfl (pa_cons (pv 0) (pa_cons (pv 1) (pa_cons (pv 3) (pa_cons (pe_callB (call_min2 rfl) (by rfl) B.min (by decide +kernel) (pa_cons (pv 4) (pa_cons (pe_callB (call_lenS K) (by rfl) B.len PySem.boot_len (pa_cons (pv 0) pa_nil)) pa_nil))) pa_nil))))))))))), ?_⟩
  obtain ⟨vs, hs, hl, hd, hat⟩ := hp.at
  have ord := asc_lt c asc
  have cle := clt_le l c
  refine ⟨_, rfl, _, rfl, ?_⟩
  have fin : ∀ (lo hi : Nat) (z : V) (H' : Hp), lo ≤ clt l c → clt l c ≤ hi → Same H H' → tRet (tCall (spBetween K g S) [] E0 (tCons (tVar 0) (tCons (tVar 1) (tCons (tVar 3) (tCons (tCB (fun xs H Q => ∃ i j, xs = [.int i, .int j] ∧ Q (.int (if j < i then j else i)) H) (tCons (tVar 4) (tCons (tCB (rLenS K) (tCons (tVar 0) tNil)) tNil))) tNil))))) { nx := fun _ H' => Q .non H', rt := Q } [some (.ref a), some y, some (.int (s0 : Int)), some (.int (lo : Int)), some (.int (hi : Int)), some z] H' := fun lo hi z H' h1 h2 e => by
    refine ⟨_, rfl, _, rfl, _, rfl, _, rfl, _, rfl, a, vs, rfl, hs.same e, _, _, rfl, ?_⟩
    have em : (if (vs.length : Int) < (hi : Int) then (vs.length : Int) else (hi : Int)) = ((min hi l.length : Nat) : Int) := by
      rw [hl]
      split <;> omega
    rw [em]
    exact ⟨a, y, l, c, lo, min hi l.length, rfl, hp.same e, (Nd.of e).d hy, asc, hS, hc, h1, by omega, by omega, fun H2 e2 => q H2 (e.trans e2)⟩
  refine ⟨fun k σ H' => ∃ (lo hi st : Nat), σ = [some (.ref a), some y, some (.int (s0 : Int)), some (.int (lo : Int)), some (.int (hi : Int)), some (.int (st : Int))] ∧ k = l.length - hi ∧ lo ≤ clt l c ∧ 1 ≤ st ∧ Same H H', ⟨_, s0, s0, 1, rfl, rfl, hs0, Nat.le_refl _, Same.refl _⟩, ?_⟩
  rintro k σ H' ⟨lo, hi, st, rfl, rfl, h1, h2, e⟩
  refine ⟨_, rfl, _, rfl, a, vs, rfl, hs.same e, _, _, rfl, rfl, _, rfl, ?_⟩
  refine iteD (fun cc => ?_) (fun cc => ?_)
  · have hlt : hi < l.length := by omega
    obtain ⟨d, hd1⟩ : ∃ d, l[hi]? = some d := ⟨_, List.getElem?_eq_getElem hlt⟩
    obtain ⟨x, hx, dp⟩ := hat _ _ hd1
    have od := ord _ _ hd1
    have hSd := hS d (List.mem_of_getElem? hd1)
    refine ⟨_, rfl, _, rfl, rIx_sq (v := x) (hs.same e) (atI_nat hx) ?_⟩
    refine ⟨_, rfl, x, y, d, c, rfl, (Nd.of e).d dp, (Nd.of e).d hy, hSd, hc, fun H1 e1 => ?_⟩
    have od' : hi < clt l c ↔ d < c := od
    refine ⟨_, rfl, ?_⟩
    refine iteD (fun c1 => ?_) (fun c1 => ?_)
    · refine ⟨fun σ H' => ∃ (lo' hi' st' : Nat), σ = [some (.ref a), some y, some (.int (s0 : Int)), some (.int (lo' : Int)), some (.int (hi' : Int)), some (.int (st' : Int))] ∧ l.length - hi' < l.length - hi ∧ lo' ≤ clt l c ∧ 1 ≤ st' ∧ Same H H', fun σ' H' h => ?_, ?_⟩
      · obtain ⟨lo', hi', st', rfl, k1, k2, k3, k4⟩ := h
        exact ⟨_, k1, lo', hi', st', rfl, rfl, k2, k3, k4⟩
      · refine ⟨_, rfl, _, _, rfl, rfl, _, rfl, _, rfl, _, _, rfl, rfl, _, rfl, _, _, rfl, rfl, .inr ⟨by decide, by decide⟩, ?_⟩
        refine ⟨hi + 1, hi + st, st * 2, rfl, by omega, by have := od'.mpr c1; omega, by omega, e.trans e1⟩
    · exact fin lo hi _ H1 h1 (by have := fun h => c1 (od'.mp h); omega) (e.trans e1)
  · exact fin lo hi _ H' h1 (by omega) e
abbrev S_turns_up_to : Stmt := top 69
abbrev N_turns_up_to : List Str := ["turns", "place", "start", "many"]
abbrev P_turns_up_to : List Str := ["turns", "place", "start"]
theorem sc_turns_up_to : FnScope N_turns_up_to P_turns_up_to (defScope S_turns_up_to) := ⟨rfl, rfl, rfl, by decide +kernel, rfl, by decide +kernel, by decide +kernel⟩
def spUpTo (K : PySem.W.Frag) (g : Int → PyData) (S : Int → Prop) : Sp := fun vs H Q _ => ∃ (a : Addr) (y : V) (l : List Int) (c : Int) (s : Nat), vs = [.ref a, y, .int (s : Int)] ∧ Pls K H g a l ∧ Dp K H y (g c) ∧ l.Pairwise (· < ·) ∧ (∀ t ∈ l, S t) ∧ S c ∧ s ≤ clt l c ∧ l.length ≤ 30000 ∧ ∀ H' : Hp, Same H H' → Q (.int (cnt l c : Int)) H'
theorem ok_upto {n : Nat} (hn : n ≤ 40) {g : Int → PyData} {S : Int → Prop} (o : OrdN n g S) {dvs : List V} {kws : List (Str × V)} (F : FunD K "turns_up_to" "turns_up_to" (defArgs S_turns_up_to) (defBody S_turns_up_to) (defScope S_turns_up_to) dvs kws f fd) (B : Blt mg) (Cturns_between : Has P w K mg base (2 * n + 3) "turns_between" P_turns_between [] (spBetween K g S)) (Cturns_before : Has P w K mg base (2 * n + 4) "turns_before" P_turns_before [] (spBefore K g S)) : FnOk P w K mg base CX0 (2 * n + 5) f fd P_turns_up_to (spUpTo K g S) := by
  have nd := sc_turns_up_to.nd
  refine funD_ok F sc_turns_up_to (fun vs H Q E h => ?_) (fun cdv A outer s H vs Q E hr h => ?_)
  · obtain ⟨a, y, l, c, s0, rfl, _⟩ := h
    rfl
  obtain ⟨a, y, l, c, s0, rfl, hp, hy, asc, hS, hc, hs0, l4, q⟩ := h
  refine ⟨_, (C8.pss_cut (ps_if (pt_cmpR op_eq (pv 2) pe_int (nomark _)) (pss_one (ps_set (i := 3) nd rfl (Or.inl rfl) (pe_H Cturns_between (hr.mono (by omega)) rfl (pa_cons (pv 0) (pa_cons (pv 1) (pa_cons pe_int (pa_cons (pe_callB (call_lenS K) (by rfl) B.len PySem.boot_len (pa_cons (pv 0) pa_nil)) pa_nil))))))) (pss_one (ps_set (i := 3) nd rfl (Or.inl rfl) (pe_H Cturns_before (hr.mono (by omega)) rfl (pa_cons (pv 0) (pa_cons (pv 1) (pa_cons (pv 2) pa_nil)))))))
    (pss_cons (ps_if (PW.pt (pw_and (pt_cmpR op_lt (pv 3) (pe_callB (call_lenS K) (by rfl) B.len PySem.boot_len (pa_cons (pv 0) pa_nil)) (nomark _)) (pw_and1 (pt_cmpR (op_eqD hr.units) (pe_ix (ix_seqK K) (pv 0) (pv 3) (fun _ _ => rfl)) (pv 1) (nomark _))))) (pss_one (ps_ret (pe_op op_add (pv 3) pe_int))) pss_nil)
    (pss_one (ps_ret (pv 3))))), ?_⟩
  obtain ⟨vs, hs, hl, hd, hat⟩ := hp.at
  obtain ⟨s1, s2, s3, s4⟩ := split3 c asc
  refine ⟨fun σ H1 => σ = [some (.ref a), some y, some (.int (s0 : Int)), some (.int (clt l c : Int))] ∧ Same H H1, ?_, ?_⟩
  · refine ⟨_, rfl, rfl, _, rfl, ?_⟩
    refine iteD (fun cc => ?_) (fun cc => ?_)
    · refine ⟨_, rfl, _, rfl, _, rfl, a, vs, rfl, hs, a, y, l, c, 0, l.length, (by rw [hl]; rfl), hp, hy, asc, hS, hc, Nat.zero_le _, clt_le l c, Nat.le_refl _, fun H1 e1 => ?_⟩
      exact ⟨rfl, e1⟩
    · refine ⟨_, rfl, _, rfl, _, rfl, a, y, l, c, s0, rfl, hp, hy, asc, hS, hc, hs0, l4, fun H1 e1 => ?_⟩
      exact ⟨rfl, e1⟩
  rintro σ H1 ⟨rfl, e1⟩
  refine ⟨_, rfl, _, rfl, a, vs, rfl, hs.same e1, _, _, rfl, rfl, _, rfl, ?_⟩
  refine iteD (fun cc => ?_) (fun cc => ?_)
  · have c' : clt l c < l.length := by omega
    obtain ⟨d, hd1⟩ : ∃ d, l[clt l c]? = some d := ⟨_, List.getElem?_eq_getElem c'⟩
    obtain ⟨x, hx, dp⟩ := hat _ _ hd1
    have hSd := hS d (List.mem_of_getElem? hd1)
    refine ⟨_, rfl, _, rfl, rIx_sq (v := x) (hs.same e1) (atI_nat hx) ?_⟩
    refine ⟨_, rfl, _, _, (Nd.of e1).d dp, (Nd.of e1).d hy, shaped_fm (o.fm d hSd) hn, shaped_fm (o.fm c hc) hn, _, rfl, ?_⟩
    have ae := (o.toOrd.eqv hSd hc).trans (asc_at asc hd1)
    by_cases he : c ∈ l
    · rw [ae.mpr he]
      rw [if_pos he] at s4
      refine ⟨_, rfl, _, _, rfl, rfl, ?_⟩
      have q' := q H1 e1
      rw [s4] at q'
      exact q'
    · have : PyData.eqv (g d) (g c) = false := Bool.eq_false_iff.mpr fun h => he (ae.mp h)
      rw [this]
      rw [if_neg he] at s4
      refine ⟨_, rfl, ?_⟩
      have q' := q H1 e1
      rw [s4] at q'
      exact q'
  · have he : c ∉ l := fun he => by
      rw [if_pos he] at s4
      have := cnt_le l c
      omega
    rw [if_neg he] at s4
    refine ⟨_, rfl, ?_⟩
    have q' := q H1 e1
    rw [s4] at q'
    exact q'
abbrev S_shorter_first : Stmt := top 70
abbrev N_shorter_first : List Str := ["x", "y"]
abbrev P_shorter_first : List Str := ["x", "y"]
theorem sc_shorter_first : FnScope N_shorter_first P_shorter_first (defScope S_shorter_first) := ⟨rfl, rfl, rfl, by decide +kernel, rfl, by decide +kernel, by decide +kernel⟩
def spShort (K : PySem.W.Frag) : Sp := fun vs H Q _ => ∃ (a b : Addr) (xs ys : List V), vs = [.ref a, .ref b] ∧ Sq K H a xs ∧ Sq K H b ys ∧ ∀ (t : Addr) (H' : Hp), Same H H' → SqT K H' t (if xs.length ≤ ys.length then [.ref a, .ref b] else [.ref b, .ref a]) → Q (.ref t) H'
theorem ok_short (F : Fun K "shorter_first" "shorter_first" S_shorter_first f fd) (B : Blt mg) : FnOk P w K mg base CX0 1 f fd P_shorter_first (spShort K) := by
  have nd := sc_shorter_first.nd
  refine F.ok sc_shorter_first (fun vs H Q E h => ?_) (fun cdv A outer s H vs Q E hr h => ?_)
  · obtain ⟨a, b, xs, ys, rfl, _⟩ := h
    rfl
  obtain ⟨a, b, xs, ys, rfl, ha, hb, q⟩ := h
  refine ⟨_, (pss_cons (ps_if (pt_cmpR op_le (pe_callB (call_lenS K) (by rfl) B.len PySem.boot_len (pa_cons (pv 0) pa_nil)) (pe_callB (call_lenS K) (by rfl) B.len PySem.boot_len (pa_cons (pv 1) pa_nil)) (nomark _)) (pss_one (ps_ret (pe_tup (pa_cons (pv 0) (pa_cons (pv 1) pa_nil))))) pss_nil)
    (pss_one (ps_ret (pe_tup (pa_cons (pv 1) (pa_cons (pv 0) pa_nil)))))), ?_⟩
  refine ⟨_, rfl, a, xs, rfl, ha, _, rfl, b, ys, rfl, hb, _, _, rfl, rfl, _, rfl, ?_⟩
  refine iteD (fun c => ?_) (fun c => ?_)
  · refine ⟨_, rfl, _, rfl, (by show 2 ≤ sizeLine; decide), fun p np => q p _ (Same.new np) ?_⟩
    rw [if_pos (by omega)]
    exact SqT.of upd_same
  · refine ⟨_, rfl, _, rfl, (by show 2 ≤ sizeLine; decide), fun p np => q p _ (Same.new np) ?_⟩
    rw [if_neg (by omega)]
    exact SqT.of upd_same
end
end Fb
namespace Fb
open PySem L2
/-- two sequences of places, the shorter one first -/
theorem two_pls {K : PySem.W.Frag} {H : Hp} {g : Int → PyData} {S : Int → Prop} {a b : Addr} {l m : List Int} {vs ws : List V} (hl : vs.length = l.length) (hm : ws.length = m.length) (hp : Pls K H g a l) (hq : Pls K H g b m)
    (al : l.Pairwise (· < ·)) (am : m.Pairwise (· < ·)) (sl : ∀ t ∈ l, S t) (sm : ∀ t ∈ m, S t) :
    ∃ (u v : Addr) (A B : List Int), (if vs.length ≤ ws.length then [V.ref a, .ref b] else [.ref b, .ref a]) = [.ref u, .ref v] ∧ fm2 l m = (A, B) ∧ Pls K H g u A ∧ Pls K H g v B ∧ A.Pairwise (· < ·) ∧ B.Pairwise (· < ·) ∧ (∀ t ∈ A, S t) ∧ (∀ t ∈ B, S t) ∧ A.length + B.length = l.length + m.length := by
  unfold fm2
  rw [hl, hm]
  split
  · exact ⟨a, b, l, m, rfl, rfl, hp, hq, al, am, sl, sm, rfl⟩
  · exact ⟨b, a, m, l, rfl, rfl, hq, hp, am, al, sm, sl, Nat.add_comm _ _⟩
section
variable {P : Program} {w : World} {K : PySem.W.Frag} {mg : Str → Option Value} {base : Heap} {f : Addr} {fd : FuncData}
abbrev S_merged_turns : Stmt := top 71
abbrev N_merged_turns : List Str := ["x", "y", "few", "many", "merged", "start", "turn", "at"]
abbrev P_merged_turns : List Str := ["x", "y"]
theorem sc_merged_turns : FnScope N_merged_turns P_merged_turns (defScope S_merged_turns) := ⟨rfl, rfl, rfl, by decide +kernel, rfl, by decide +kernel, by decide +kernel⟩
def spMerged (K : PySem.W.Frag) (g : Int → PyData) (S : Int → Prop) : Sp := fun vs H Q _ => ∃ (a b : Addr) (l m : List Int), vs = [.ref a, .ref b] ∧ Pls K H g a l ∧ Pls K H g b m ∧ l.Pairwise (· < ·) ∧ m.Pairwise (· < ·) ∧ (∀ t ∈ l, S t) ∧ (∀ t ∈ m, S t) ∧ l.length + m.length ≤ 30000 ∧
  ∀ (p : Addr) (us : List V) (H' : Hp), Same H H' → H' p = some (.lst us) → DpAll K H' us ((mrg (fm2 l m).1 (fm2 l m).2).map g) → Q (.ref p) H'
theorem ok_merged {n : Nat} (hn : n ≤ 40) {g : Int → PyData} {S : Int → Prop} (o : OrdN n g S) (F : Fun K "merged_turns" "merged_turns" S_merged_turns f fd) (B : Blt mg) (Cshorter_first : Has P w K mg base 1 "shorter_first" P_shorter_first [] (spShort K)) (Cturns_before : Has P w K mg base (2 * n + 4) "turns_before" P_turns_before [] (spBefore K g S)) :
    FnOk P w K mg base CX0 (2 * n + 5) f fd P_merged_turns (spMerged K g S) := by
  have nd := sc_merged_turns.nd
  refine F.ok sc_merged_turns (fun vs H Q E h => ?_) (fun cdv A outer s H vs Q E hr h => ?_)
  · obtain ⟨a, b, l, m, rfl, _⟩ := h
    rfl
  obtain ⟨a, b, l, m, rfl, hl, hm, al, am, sl, sm, l4, q⟩ := h
  refine ⟨_, (pss_cons (ps_asg (pe_H Cshorter_first (hr.mono (by omega)) rfl (pa_cons (pv 0) (pa_cons (pv 1) pa_nil))) (pg_tup rfl (pgs_cons (pg_name (i := 2) nd rfl (Or.inl rfl)) (pgs_cons (pg_name (i := 3) nd rfl (Or.inl rfl)) pgs_nil))))
    (pss_cons (ps_set (i := 4) nd rfl (Or.inl rfl) (pe_lst pa_nil))
    (pss_cons (ps_set (i := 5) nd rfl (Or.inl rfl) pe_int)
    (pss_cons (ps_for PassesOwn.never rfl (pi_seq K (pv 2)) (pg_name (i := 6) nd rfl (Or.inl rfl)) (pss_cons (ps_set (i := 7) nd rfl (Or.inl rfl) (pe_H Cturns_before (hr.mono (by omega)) rfl (pa_cons (pv 3) (pa_cons (pv 6) (pa_cons (pv 5) pa_nil)))))
    (pss_cons (ps_expr (pe_bm PySem.F.plainAttrs_list PySem.F.slot_list_extend PySem.F.type_list_extend (mt_extS K) (pv 4) (pa_cons (pe_slice (sl_seq K) (pv 3) (po_some (pv 5)) (po_some (pv 7))) pa_nil)))
    (pss_cons (ps_set (i := 5) nd rfl (Or.inl rfl) (pv 7))
    (pss_one (ps_if (PW.pt (pw_and (pt_cmpR op_lt (pv 7) (pe_callB (call_lenS K) (by rfl) B.len PySem.boot_len (pa_cons (pv 3) pa_nil)) (nomark _)) (pw_and1 (pt_cmpR (op_eqD hr.units) (pe_ix (ix_seqK K) (pv 3) (pv 7) (fun _ _ => rfl)) (pv 6) (nomark _))))) (pss_one (ps_set (i := 5) nd rfl (Or.inl rfl) (pe_op op_add (pv 7) pe_int))) (pss_one (ps_expr (pe_bm PySem.F.plainAttrs_list PySem.F.slot_list_append PySem.F.type_list_append mt_append (pv 4) (pa_cons (pv 6) pa_nil))))))))))
    (pss_cons (ps_expr (pe_bm PySem.F.plainAttrs_list PySem.F.slot_list_extend PySem.F.type_list_extend (mt_extS K) (pv 4) (pa_cons (pe_slice (sl_seq K) (pv 3) (po_some (pv 5)) po_none) pa_nil)))
    (pss_one (ps_ret (pv 4)))))))), ?_⟩
  obtain ⟨xs, hs, lxs, _, _⟩ := hl.at
  obtain ⟨ys, ht, lys, _, _⟩ := hm.at
  refine ⟨_, rfl, _, rfl, a, b, xs, ys, rfl, hs, ht, fun t H1 e1 hT => ?_⟩
  obtain ⟨u, v, fa, fb, ep, e2, hA, hB, aA, aB, sA, sB, lAB⟩ := two_pls lxs lys (hl.same e1) (hm.same e1) al am sl sm
  rw [ep] at hT
  rw [e2] at q
  obtain ⟨as, ha, la, dA, atA⟩ := hA.at
  obtain ⟨bs, hb, lb, dB, atB⟩ := hB.at
  refine ⟨_, _, rfl, hT, rfl, _, _, rfl, _, _, rfl, rfl, ?_⟩
  refine ⟨(by show 0 ≤ sizeLine; decide), fun p np => ?_⟩
  refine for_seq (K := K) (H0 := H1) (xs := as) ha rfl (fun i σ H' => ∃ (st : Nat) (us : List V) (M : List Int) (z6 z7 : Option V), σ = [some (.ref a), some (.ref b), some (.ref u), some (.ref v), some (.ref p), some (.int (st : Int)), z6, z7] ∧ Same H1 H' ∧ H' p = some (.lst us) ∧ DpAll K H1 us (M.map g) ∧
      M ++ mrg (fa.drop i) (fb.drop st) = mrg fa fb ∧ st ≤ fb.length ∧ ∀ t ∈ fb.take st, ∀ c ∈ fa.drop i, t < c)
    ⟨0, [], [], _, _, rfl, Same.new np, upd_same, .nil, rfl, Nat.zero_le _, fun t ht => by cases ht⟩ (fun i σ H' _ h => ?_) (fun i x σ H' hx h => ?_) (fun σ H' h => ?_)
  · obtain ⟨_, _, _, _, _, _, e, _⟩ := h
    exact e
  · obtain ⟨st, us, M, z6, z7, rfl, e, hp, dM, eq, hst, low⟩ := h
    have hi := (List.getElem?_eq_some_iff.mp hx).1
    obtain ⟨c, hc⟩ : ∃ c, fa[i]? = some c := ⟨_, List.getElem?_eq_getElem (by omega)⟩
    obtain ⟨x', hx', dx⟩ := atA i c hc
    cases hx.symm.trans hx'
    have dr : fa.drop i = c :: fa.drop (i + 1) := by
      obtain ⟨h1, h2⟩ := List.getElem?_eq_some_iff.mp hc
      rw [List.drop_eq_getElem_cons h1, h2]
    have hcm := List.mem_of_getElem? hc
    have low' : ∀ t ∈ fb.take st, t < c := fun t ht => low t ht c (by rw [dr]; exact List.mem_cons_self)
    obtain ⟨k1, k2⟩ := mrg_step (A := fa.drop (i + 1)) aB low' hst
    rw [dr, k2] at eq
    obtain ⟨s1, s2, s3, s4⟩ := split3 c aB
    have tot := congrArg List.length eq
    have ml := mrg_len fa fb
    rw [List.length_append, List.length_append, List.length_append] at tot
    have lus : us.length = M.length := by rw [dps_length dM, List.length_map]
    have cl := clt_le fb c
    have cn := cnt_le fb c
    have upc : ∀ c' ∈ fa.drop (i + 1), c < c' := by
      have := aA.sublist (List.drop_sublist i fa)
      rw [dr] at this
      exact (List.pairwise_cons.mp this).1
    refine ⟨_, rfl, _, rfl, _, rfl, v, x, fb, c, st, rfl, hB.same e, (Nd.of e).d dx, aB, sB, sA c hcm, k1, by omega, fun H2 e2 => ?_⟩
    refine ⟨_, rfl, .inl ⟨rfl, _, SqL.of (e2 _ _ hp)⟩, _, rfl, _, rfl, _, rfl, _, rfl, _, rfl, v, bs, rfl, (hb.same e).same e2, fun w1 H3 e3 _ hw1 => ?_⟩
    have hp3 := e3 _ _ (e2 _ _ hp)
    have ec : cutV bs (some (st : Int)) (some (clt fb c : Int)) = (bs.take (clt fb c)).drop st := cut_nat (by omega) (by omega)
    rw [ec] at hw1
    have fit : us.length + ((bs.take (clt fb c)).drop st).length ≤ sizeLine := by
      rw [List.length_drop, List.length_take]
      exact Nat.le_trans (show _ ≤ 100000 by omega) (by decide)
    refine ⟨p, w1, us, _, rfl, rfl, hp3, hw1, fit, ?_⟩
    have e14 : Same H1 (upd H3 p (.lst (us ++ (bs.take (clt fb c)).drop st))) := Same.mut (e.trans (e2.trans e3)) np
    have d4 : DpAll K H1 (us ++ (bs.take (clt fb c)).drop st) ((M ++ (fb.take (clt fb c)).drop st).map g) := by
      rw [List.map_append, List.map_drop, List.map_take]
      exact dps_app dM (dps_drop _ (dps_take _ dB))
    have hp4 : upd H3 p (.lst (us ++ (bs.take (clt fb c)).drop st)) p = some (.lst (us ++ (bs.take (clt fb c)).drop st)) := upd_same
    generalize hus : us ++ (bs.take (clt fb c)).drop st = us4 at d4 hp4 e14 fit ⊢
    have l4' : us4.length ≤ 60000 := by
      rw [← hus, List.length_append, List.length_drop, List.length_take]
      omega
    generalize upd H3 p (.lst us4) = H4 at hp4 e14 ⊢
    have lowN : ∀ t ∈ fb.take (cnt fb c), ∀ c' ∈ fa.drop (i + 1), t < c' := fun t ht c' hc' => by
      have := take_cnt_le aB t ht
      have := upc c' hc'
      omega
    have fin : ∀ (us5 : List V) (H5 : Hp) (z : Nat), z = cnt fb c → Same H1 H5 → H5 p = some (.lst us5) → DpAll K H1 us5 ((M ++ (fb.take (clt fb c)).drop st ++ (if c ∈ fb then [] else [c])).map g) →
        ∃ (st : Nat) (us : List V) (M : List Int) (z6 z7 : Option V), ([some (.ref a), some (.ref b), some (.ref u), some (.ref v), some (.ref p), some (.int (z : Int)), some x, some (.int (clt fb c : Int))] : L2.St) = [some (.ref a), some (.ref b), some (.ref u), some (.ref v), some (.ref p), some (.int (st : Int)), z6, z7] ∧ Same H1 H5 ∧ H5 p = some (.lst us) ∧ DpAll K H1 us (M.map g) ∧
          M ++ mrg (fa.drop (i + 1)) (fb.drop st) = mrg fa fb ∧ st ≤ fb.length ∧ ∀ t ∈ fb.take st, ∀ c ∈ fa.drop (i + 1), t < c := fun us5 H5 z hz g1 g2 g3 =>
      ⟨z, us5, _, _, _, rfl, g1, g2, g3, by rw [hz, List.append_assoc, List.append_assoc]; exact eq, by omega, by rw [hz]; exact lowN⟩
    have hb4 := hb.same e14
    refine ⟨_, rfl, _, rfl, _, rfl, v, bs, rfl, hb4, _, _, rfl, rfl, _, rfl, ?_⟩
    have app : c ∉ fb → (tDrop (tBM (cxOf CX0 P w K mg base N_merged_turns "merged_turns" (defScope S_merged_turns) f cdv A outer s H E).nox.K "list" rAppend (tVar 4) (tCons (tVar 6) tNil))) = (tDrop (tBM (cxOf CX0 P w K mg base N_merged_turns "merged_turns" (defScope S_merged_turns) f cdv A outer s H E).nox.K "list" rAppend (tVar 4) (tCons (tVar 6) tNil))) := fun _ => rfl
    clear app
    refine iteD (fun cc => ?_) (fun cc => ?_)
    · have c' : clt fb c < fb.length := by omega
      obtain ⟨d, hd1⟩ : ∃ d, fb[clt fb c]? = some d := ⟨_, List.getElem?_eq_getElem c'⟩
      obtain ⟨y, hy, dy⟩ := atB _ _ hd1
      have hSd := sB d (List.mem_of_getElem? hd1)
      refine ⟨_, rfl, _, rfl, rIx_sq (v := y) hb4 (atI_nat hy) ?_⟩
      refine ⟨_, rfl, _, _, (Nd.of e14).d dy, (Nd.of e14).d dx, shaped_fm (o.fm d hSd) hn, shaped_fm (o.fm c (sA c hcm)) hn, _, rfl, ?_⟩
      have ae := (o.toOrd.eqv hSd (sA c hcm)).trans (asc_at aB hd1)
      by_cases he : c ∈ fb
      · rw [ae.mpr he]
        rw [if_pos he] at s4 fin
        refine ⟨_, rfl, _, _, rfl, rfl, ?_⟩
        exact fin us4 H4 (clt fb c + 1) s4.symm e14 hp4 (by rw [List.append_nil]; exact d4)
      · have : PyData.eqv (g d) (g c) = false := Bool.eq_false_iff.mpr fun h => he (ae.mp h)
        rw [this]
        rw [if_neg he] at s4 fin
        refine ⟨_, rfl, .inl ⟨rfl, _, SqL.of hp4⟩, _, rfl, p, _, _, rfl, rfl, hp4, Nat.lt_of_le_of_lt l4' (by decide), ?_⟩
        exact fin (us4 ++ [x]) _ (clt fb c) s4.symm (Same.mut e14 np) upd_same (by rw [List.map_append]; exact dps_app d4 (.cons dx .nil))
    · have he : c ∉ fb := fun he => by
        rw [if_pos he] at s4
        omega
      rw [if_neg he] at s4 fin
      refine iteF ?_
      refine ⟨_, rfl, .inl ⟨rfl, _, SqL.of hp4⟩, _, rfl, p, _, _, rfl, rfl, hp4, Nat.lt_of_le_of_lt l4' (by decide), ?_⟩
      exact fin (us4 ++ [x]) _ (clt fb c) s4.symm (Same.mut e14 np) upd_same (by rw [List.map_append]; exact dps_app d4 (.cons dx .nil))
  · obtain ⟨st, us, M, z6, z7, rfl, e, hp, dM, eq, hst, low⟩ := h
    rw [la, List.drop_length] at eq
    have eq : M ++ fb.drop st = mrg fa fb := eq
    have tot := congrArg List.length eq
    have ml := mrg_len fa fb
    rw [List.length_append, List.length_drop] at tot
    have lus : us.length = M.length := by rw [dps_length dM, List.length_map]
    refine ⟨_, rfl, .inl ⟨rfl, _, SqL.of hp⟩, _, rfl, _, rfl, _, rfl, v, bs, rfl, hb.same e, fun w1 H3 e3 _ hw1 => ?_⟩
    have ec : cutV bs (some (st : Int)) none = bs.drop st := cut_from (by omega)
    rw [ec] at hw1
    refine ⟨p, w1, us, _, rfl, rfl, e3 _ _ hp, hw1, ?_, ?_⟩
    · rw [List.length_drop]
      exact Nat.le_trans (show _ ≤ 100000 by omega) (by decide)
    · have e14 : Same H1 (upd H3 p (.lst (us ++ bs.drop st))) := Same.mut (e.trans e3) np
      refine ⟨_, rfl, q p _ _ (e1.trans e14) upd_same ?_⟩
      rw [← eq, List.map_append, List.map_drop]
      exact (Nd.of e14).ds (dps_app dM (dps_drop _ dB))
abbrev S_flipped_turns : Stmt := top 72
abbrev N_flipped_turns : List Str := ["turns"]
abbrev P_flipped_turns : List Str := ["turns"]
theorem sc_flipped_turns : FnScope N_flipped_turns P_flipped_turns (defScope S_flipped_turns) := ⟨rfl, rfl, rfl, by decide +kernel, rfl, by decide +kernel, by decide +kernel⟩
def spFlip (K : PySem.W.Frag) (g : Int → PyData) (S : Int → Prop) : Sp := fun vs H Q _ => ∃ (a : Addr) (l : List Int), vs = [.ref a] ∧ Pls K H g a l ∧ (∀ t ∈ l, S t) ∧ l.length ≤ 30000 ∧ ∀ (p : Addr) (us : List V) (H' : Hp), Same H H' → H' p = some (.lst us) → DpAll K H' us ((flp l).map g) → Q (.ref p) H'
theorem ok_flip {n : Nat} (hn : n ≤ 40) {g : Int → PyData} {S : Int → Prop} (o : OrdN n g S) (z0 : S 0) (F : Fun K "flipped_turns" "flipped_turns" S_flipped_turns f fd) (B : Blt mg) : FnOk P w K mg base CX0 1 f fd P_flipped_turns (spFlip K g S) := by
  have nd := sc_flipped_turns.nd
  refine F.ok sc_flipped_turns (fun vs H Q E h => ?_) (fun cdv A outer s H vs Q E hr h => ?_)
  · obtain ⟨a, l, rfl, _⟩ := h
    rfl
  obtain ⟨a, l, rfl, hp, hS, l4, q⟩ := h
  refine ⟨_, (pss_cons (ps_if (PW.pt (pw_and (pt_cmpR op_gt (pe_callB (call_lenS K) (by rfl) B.len PySem.boot_len (pa_cons (pv 0) pa_nil)) pe_int (nomark _)) (pw_and1 (pt_cmpR (op_eqD hr.units) (pe_ix (ix_seqK K) (pv 0) pe_int (fun _ _ => rfl)) pe_int (nomark _))))) (pss_one (ps_ret (pe_callTy (call_listS K) (by rfl) B.list (by decide +kernel) (pa_cons (pe_slice (sl_seq K) (pv 0) (po_some pe_int) po_none) pa_nil)))) pss_nil)
    (pss_one (ps_ret (pe_lst (pa_cons pe_int (StX.pa_star (pv 0) pa_nil)))))), ?_⟩
  obtain ⟨vs, hs, hl, hd, hat⟩ := hp.at
  have g0 : g 0 = .int 0 := o.near 0 z0 (by decide)
  refine ⟨_, rfl, a, vs, rfl, hs, _, _, rfl, rfl, _, rfl, ?_⟩
  have star : (flp l = 0 :: l) → tRet (tLst (tCons (tC (.int 0)) (StX.tStar K (tVar 0) tNil))) { nx := fun _ H' => Q .non H', rt := Q } [some (.ref a)] H := fun ef => by
    refine ⟨_, rfl, a, vs, rfl, hs.any.symm, ?_⟩
    refine ⟨?_, fun p np => q p _ _ (Same.new np) upd_same ?_⟩
    · show (vs ++ []).length + 1 ≤ sizeLine
      rw [List.append_nil]
      exact Nat.le_trans (show _ ≤ 30001 by omega) (by decide)
    · rw [ef]
      show DpAll K _ (V.int 0 :: (vs ++ [])) (g 0 :: l.map g)
      rw [List.append_nil, g0]
      exact .cons (.int 0) ((Nd.of (Same.new np)).ds hd)
  refine iteD (fun cc => ?_) (fun cc => ?_)
  · cases l with
    | nil => simp at hl; subst hl; simp at cc
    | cons t r =>
      obtain ⟨x, hx, dx⟩ := hat 0 t rfl
      have hSt := hS t List.mem_cons_self
      refine ⟨_, rfl, rIx_sq hs (atI_nat hx) ?_⟩
      refine ⟨_, _, dx, .int 0, shaped_fm (o.fm t hSt) hn, rfl, _, rfl, ?_⟩
      have ae := o.toOrd.eqv hSt z0
      rw [g0] at ae
      by_cases h0 : t = 0
      · rw [ae.mpr h0]
        subst h0
        refine ⟨_, rfl, _, rfl, a, vs, rfl, hs, fun b1 H1 e1 _ k1 => ?_⟩
        have ec : cutV vs (some 1) none = vs.drop 1 := cut_from (i := 1) (by rw [hl]; simp)
        rw [ec] at k1
        refine ⟨b1, _, rfl, k1, fun p np => q p _ _ (e1.trans (Same.new np)) upd_same ?_⟩
        exact dps_drop (ds := (0 :: r).map g) 1 ((Nd.of (e1.trans (Same.new np))).ds hd)
      · have : PyData.eqv (g t) (.int 0) = false := Bool.eq_false_iff.mpr fun h => h0 (ae.mp h)
        rw [this]
        refine star ?_
        unfold flp
        split
        · rename_i e; cases e; exact absurd rfl h0
        · rfl
  · refine iteF (star ?_)
    cases l with
    | nil => rfl
    | cons t r =>
      have : 0 < vs.length := by rw [hl]; simp
      omega
abbrev S_common_turns : Stmt := top 73
abbrev N_common_turns : List Str := ["x", "y", "few", "many", "common", "behind", "k", "at"]
abbrev P_common_turns : List Str := ["x", "y"]
theorem sc_common_turns : FnScope N_common_turns P_common_turns (defScope S_common_turns) := ⟨rfl, rfl, rfl, by decide +kernel, rfl, by decide +kernel, by decide +kernel⟩
def spCommon (K : PySem.W.Frag) (g : Int → PyData) (S : Int → Prop) : Sp := fun vs H Q _ => ∃ (a b : Addr) (l m : List Int), vs = [.ref a, .ref b] ∧ Pls K H g a l ∧ Pls K H g b m ∧ l.Pairwise (· < ·) ∧ m.Pairwise (· < ·) ∧ (∀ t ∈ l, S t) ∧ (∀ t ∈ m, S t) ∧ l.length + m.length ≤ 4000 ∧
  ∀ (p : Addr) (us : List V) (H' : Hp), Same H H' → H' p = some (.lst us) → DpAll K H' us ((com (fm2 l m).2 (fm2 l m).1).map g) → Q (.ref p) H'
theorem rg2 (n : Nat) (h : n ≤ 10000) : RgC 0 (n : Int) 2 ((n + 1) / 2) := by
  have e : Builtin.Range.rangeSize 0 (n : Int) 2 = (((n + 1) / 2 : Nat) : Int) := by
    unfold Builtin.Range.rangeSize
    rw [if_pos (by decide)]
    split <;> omega
  refine ⟨by decide, by decide, ?_, e⟩
  unfold Builtin.Range.small
  rw [e]
  generalize (n + 1) / 2 = m at e
  have hm : m ≤ 10000 := by
    unfold Builtin.Range.rangeSize at e
    rw [if_pos (by decide)] at e
    split at e <;> omega
  have fits : ∀ i : Int, -20000 ≤ i → i ≤ 20000 → Builtin.Range.rangeFitsLong i = true := fun i h1 h2 => by
    unfold Builtin.Range.rangeFitsLong
    rw [decide_eq_true (show -(2 ^ 63) ≤ i by omega), decide_eq_true (show i < 2 ^ 63 by omega)]
    rfl
  simp [fits (n : Int) (by omega) (by omega), fits (m : Int) (by omega) (by omega), fits 0 (by decide) (by decide), fits 2 (by decide) (by decide), fits ((n : Int) + 1) (by omega) (by omega)]
theorem com_len (B : List Int) : ∀ A : List Int, (com B A).length ≤ (A.length + 1) * (B.length + 2)
  | [] => Nat.zero_le _
  | [u] => by
    show ((if cnt B u % 2 = 1 then [u] else []) ++ B.drop (cnt B u)).length ≤ _
    rw [List.length_append, List.length_drop]
    show _ ≤ 2 * (B.length + 2)
    split <;> simp <;> omega
  | u :: v :: A => by
    have ih := com_len B A
    show ((if cnt B u % 2 = 1 then [u] else []) ++ ((B.take (clt B v)).drop (cnt B u) ++ ((if clt B v % 2 = 1 then [v] else []) ++ com B A))).length ≤ (A.length + 2 + 1) * (B.length + 2)
    rw [List.length_append, List.length_append, List.length_append, List.length_drop, List.length_take]
    have e : (A.length + 2 + 1) * (B.length + 2) = (A.length + 1) * (B.length + 2) + 2 * (B.length + 2) := by rw [← Nat.add_mul]
    rw [e]
    split <;> split <;> simp <;> omega
theorem ok_common {n : Nat} {g : Int → PyData} {S : Int → Prop} (o : OrdN n g S) (F : Fun K "common_turns" "common_turns" S_common_turns f fd) (B : Blt mg) (Cshorter_first : Has P w K mg base 1 "shorter_first" P_shorter_first [] (spShort K)) (Cturns_before : Has P w K mg base (2 * n + 4) "turns_before" P_turns_before [] (spBefore K g S))
    (Cturns_up_to : Has P w K mg base (2 * n + 5) "turns_up_to" P_turns_up_to [] (spUpTo K g S)) : FnOk P w K mg base CX0 (2 * n + 6) f fd P_common_turns (spCommon K g S) := by
  have nd := sc_common_turns.nd
  refine F.ok sc_common_turns (fun vs H Q E h => ?_) (fun cdv A outer s H vs Q E hr h => ?_)
  · obtain ⟨a, b, l, m, rfl, _⟩ := h
    rfl
  obtain ⟨a, b, l, m, rfl, hl, hm, al, am, sl, sm, l4, q⟩ := h
  refine ⟨_, (pss_cons (ps_asg (pe_H Cshorter_first (hr.mono (by omega)) rfl (pa_cons (pv 0) (pa_cons (pv 1) pa_nil))) (pg_tup rfl (pgs_cons (pg_name (i := 2) nd rfl (Or.inl rfl)) (pgs_cons (pg_name (i := 3) nd rfl (Or.inl rfl)) pgs_nil))))
    (pss_cons (ps_set (i := 4) nd rfl (Or.inl rfl) (pe_lst pa_nil))
    (pss_cons (ps_set (i := 5) nd rfl (Or.inl rfl) pe_int)
    (pss_cons (ps_for PassesOwn.never rfl (pi_range3 (by rfl) B.range (pa_cons pe_int (pa_cons (pe_callB (call_lenS K) (by rfl) B.len PySem.boot_len (pa_cons (pv 2) pa_nil)) (pa_cons pe_int pa_nil)))) (pg_name (i := 6) nd rfl (Or.inl rfl)) (pss_cons (ps_set (i := 7) nd rfl (Or.inl rfl) (pe_H Cturns_up_to (hr.mono (by omega)) rfl (pa_cons (pv 3) (pa_cons (pe_ix (ix_seqK K) (pv 2) (pv 6) (fun _ _ => rfl)) (pa_cons (pv 5) pa_nil)))))
    (C8.pss_cut (ps_if (pt_truth (pe_op op_and (pv 7) pe_int) (by intro _; rfl)) (pss_one (ps_expr (pe_bm PySem.F.plainAttrs_list PySem.F.slot_list_append PySem.F.type_list_append mt_append (pv 4) (pa_cons (pe_ix (ix_seqK K) (pv 2) (pv 6) (fun _ _ => rfl)) pa_nil)))) pss_nil)
    (pss_one (ps_if (pt_cmpR op_eq (pe_op op_add (pv 6) pe_int) (pe_callB (call_lenS K) (by rfl) B.len PySem.boot_len (pa_cons (pv 2) pa_nil)) (nomark _)) (pss_one (ps_expr (pe_bm PySem.F.plainAttrs_list PySem.F.slot_list_extend PySem.F.type_list_extend (mt_extS K) (pv 4) (pa_cons (pe_slice (sl_seq K) (pv 3) (po_some (pv 7)) po_none) pa_nil)))) (pss_cons (ps_set (i := 5) nd rfl (Or.inl rfl) (pe_H Cturns_before (hr.mono (by omega)) rfl (pa_cons (pv 3) (pa_cons (pe_ix (ix_seqK K) (pv 2) (pe_op op_add (pv 6) pe_int) (fun _ _ => rfl)) (pa_cons (pv 7) pa_nil)))))
    (pss_cons (ps_expr (pe_bm PySem.F.plainAttrs_list PySem.F.slot_list_extend PySem.F.type_list_extend (mt_extS K) (pv 4) (pa_cons (pe_slice (sl_seq K) (pv 3) (po_some (pv 7)) (po_some (pv 5))) pa_nil)))
    (pss_one (ps_if (pt_truth (pe_op op_and (pv 5) pe_int) (by intro _; rfl)) (pss_one (ps_expr (pe_bm PySem.F.plainAttrs_list PySem.F.slot_list_append PySem.F.type_list_append mt_append (pv 4) (pa_cons (pe_ix (ix_seqK K) (pv 2) (pe_op op_add (pv 6) pe_int) (fun _ _ => rfl)) pa_nil)))) pss_nil)))))))))
    (pss_one (ps_ret (pv 4))))))), ?_⟩
  obtain ⟨xs, hs, lxs, _, _⟩ := hl.at
  obtain ⟨ys, ht, lys, _, _⟩ := hm.at
  refine ⟨_, rfl, _, rfl, a, b, xs, ys, rfl, hs, ht, fun t H1 e1 hT => ?_⟩
  obtain ⟨u, v, fa, fb, ep, e2, hA, hB, aA, aB, sA, sB, lAB⟩ := two_pls lxs lys (hl.same e1) (hm.same e1) al am sl sm
  rw [ep] at hT
  rw [e2] at q
  obtain ⟨as, ha, la, dA, atA⟩ := hA.at
  obtain ⟨bs, hb, lb, dB, atB⟩ := hB.at
  refine ⟨_, _, rfl, hT, rfl, _, _, rfl, _, _, rfl, rfl, ?_⟩
  refine ⟨(by show 0 ≤ sizeLine; decide), fun p np => ?_⟩
  refine ⟨_, rfl, u, as, rfl, ha.same (Same.new np), _, _, _, (as.length + 1) / 2, rfl, rg2 _ (by omega), ?_⟩
  have cap : ∀ M : List Int, ∀ R : List Int, M ++ R = com fb fa → M.length ≤ 16012002 := fun M R h => by
    have h1 := com_len fb fa
    have h2 := congrArg List.length h
    rw [List.length_append] at h2
    have h3 : (fa.length + 1) * (fb.length + 2) ≤ 4001 * 4002 := Nat.mul_le_mul (by omega) (by omega)
    omega
  have bit1 : ∀ n : Nat, (Builtin.bitAnd (n : Int) 1 != 0) = decide (n % 2 = 1) := fun n => by
    rw [PyProof.Rows.bitAnd_m1]
    by_cases h : n % 2 = 1
    · rw [decide_eq_true h]
      have : ((n : Int) % 2) = 1 := by omega
      rw [this]
      rfl
    · rw [decide_eq_false h]
      have : ((n : Int) % 2) = 0 := by omega
      rw [this]
      rfl
  refine for_rangeC (lo := 0) (c := 2) (n := (as.length + 1) / 2) (fun i σ H' => ∃ (us : List V) (M : List Int) (bh : Nat) (z6 z7 : Option V), σ = [some (.ref a), some (.ref b), some (.ref u), some (.ref v), some (.ref p), some (.int (bh : Int)), z6, z7] ∧ (∀ t ∈ fa.drop (2 * i), bh ≤ clt fb t) ∧ Same H1 H' ∧ H' p = some (.lst us) ∧ DpAll K H1 us (M.map g) ∧ M ++ com fb (fa.drop (2 * i)) = com fb fa)
    ⟨[], [], 0, _, _, rfl, fun t _ => Nat.zero_le _, Same.new np, upd_same, .nil, rfl⟩ (fun i σ H' hi h => ?_) (fun σ H' h => ?_)
  · obtain ⟨us, M, bh, z6, z7, rfl, hbh, e, hp, dM, eq⟩ := h
    have ek : (0 : Int) + (i : Nat) * 2 = ((2 * i : Nat) : Int) := by omega
    rw [ek]
    have hk : 2 * i < fa.length := by omega
    obtain ⟨c, hc⟩ : ∃ c, fa[2 * i]? = some c := ⟨_, List.getElem?_eq_getElem hk⟩
    obtain ⟨x, hx, dx⟩ := atA _ c hc
    have hcm := List.mem_of_getElem? hc
    have dr : fa.drop (2 * i) = c :: fa.drop (2 * i + 1) := by
      obtain ⟨h1, h2⟩ := List.getElem?_eq_some_iff.mp hc
      rw [List.drop_eq_getElem_cons h1, h2]
    have lus : ∀ {us : List V} {M : List Int}, DpAll K H1 us (M.map g) → us.length = M.length := fun d => by rw [dps_length d, List.length_map]
    have ha' := ha.same e
    refine ⟨_, rfl, _, rfl, _, rfl, rIx_sq ha' (atI_nat hx) ?_⟩
    refine ⟨_, rfl, v, x, fb, c, bh, rfl, hB.same e, (Nd.of e).d dx, aB, sB, sA c hcm, hbh c (by rw [dr]; exact List.mem_cons_self), by omega, fun H2 e2 => ?_⟩
    have e12 := e.trans e2
    have hp2 := e2 _ _ hp
    refine ⟨fun σ' H'' => ∃ us' : List V, σ' = [some (.ref a), some (.ref b), some (.ref u), some (.ref v), some (.ref p), some (.int (bh : Int)), some (.int ((2 * i : Nat) : Int)), some (.int (cnt fb c : Int))] ∧ Same H1 H'' ∧ H'' p = some (.lst us') ∧ DpAll K H1 us' ((M ++ (if cnt fb c % 2 = 1 then [c] else [])).map g), ?_, ?_⟩
    · refine ⟨_, rfl, _, _, rfl, rfl, _, rfl, ?_⟩
      rw [bit1]
      by_cases h1 : cnt fb c % 2 = 1
      · rw [decide_eq_true h1]
        refine iteT ?_
        refine ⟨_, rfl, .inl ⟨rfl, _, SqL.of hp2⟩, _, rfl, _, rfl, rIx_sq (ha'.same e2) (atI_nat hx) ?_⟩
        refine ⟨p, us, x, rfl, rfl, hp2, ?_, us ++ [x], rfl, Same.mut e12 np, upd_same, ?_⟩
        · rw [lus dM]
          exact Nat.lt_of_le_of_lt (cap _ _ eq) (by decide)
        · rw [if_pos h1, List.map_append]
          exact dps_app dM (.cons dx .nil)
      · rw [decide_eq_false h1]
        refine iteF ⟨us, rfl, e12, hp2, ?_⟩
        rw [if_neg h1, List.append_nil]
        exact dM
    rintro σ' H3 ⟨us3, rfl, e3, hp3, d3⟩
    refine ⟨_, rfl, _, _, rfl, rfl, _, rfl, u, as, rfl, ha.same e3, rfl, _, rfl, ?_⟩
    refine iteD (fun cc => ?_) (fun cc => ?_)
    · have cc' : 2 * i + 1 = fa.length := by injection cc with cc; omega
      have nil1 : fa.drop (2 * i + 1) = [] := List.drop_of_length_le (by omega)
      rw [dr, nil1] at eq
      have eq : M ++ ((if cnt fb c % 2 = 1 then [c] else []) ++ fb.drop (cnt fb c)) = com fb fa := eq
      rw [← List.append_assoc] at eq
      have cn := cnt_le fb c
      refine ⟨_, rfl, .inl ⟨rfl, _, SqL.of hp3⟩, _, rfl, _, rfl, _, rfl, v, bs, rfl, hb.same e3, fun w1 H4 e4 _ hw1 => ?_⟩
      have ec : cutV bs (some (cnt fb c : Int)) none = bs.drop (cnt fb c) := cut_from (by omega)
      rw [ec] at hw1
      refine ⟨p, w1, us3, _, rfl, rfl, e4 _ _ hp3, hw1, ?_, us3 ++ bs.drop (cnt fb c), M ++ (if cnt fb c % 2 = 1 then [c] else []) ++ fb.drop (cnt fb c), bh, _, _, rfl, (fun t ht => by rw [show fa.drop (2 * (i + 1)) = [] from List.drop_of_length_le (by omega)] at ht; cases ht), Same.mut (e3.trans e4) np, upd_same, ?_, ?_⟩
      · have := cap (M ++ (if cnt fb c % 2 = 1 then [c] else []) ++ fb.drop (cnt fb c)) [] (by rw [List.append_nil]; exact eq)
        rw [List.length_append] at this
        rw [lus d3, List.length_drop, lb, ← List.length_drop]
        exact Nat.le_trans this (by decide)
      · rw [List.map_append, List.map_drop]
        exact dps_app d3 (dps_drop _ dB)
      · rw [show fa.drop (2 * (i + 1)) = [] from List.drop_of_length_le (by omega)]
        show _ ++ [] = _
        rw [List.append_nil]
        exact eq
    · have cc' : 2 * i + 1 < fa.length := by
        have : 2 * i + 1 ≠ fa.length := fun h => cc (by show V.int (((2 * i : Nat) : Int) + 1) = V.int (as.length : Int); rw [la, ← h]; rfl)
        omega
      obtain ⟨d, hd⟩ : ∃ d, fa[2 * i + 1]? = some d := ⟨_, List.getElem?_eq_getElem cc'⟩
      obtain ⟨y, hy, dy⟩ := atA _ d hd
      have hdm := List.mem_of_getElem? hd
      have dr2 : fa.drop (2 * i + 1) = d :: fa.drop (2 * (i + 1)) := by
        obtain ⟨h1, h2⟩ := List.getElem?_eq_some_iff.mp hd
        rw [List.drop_eq_getElem_cons h1, h2]
        rfl
      have hcd : c < d := by
        have := aA.sublist (List.drop_sublist (2 * i) fa)
        rw [dr, dr2] at this
        exact (List.pairwise_cons.mp this).1 d List.mem_cons_self
      rw [dr, dr2] at eq
      have eq : M ++ ((if cnt fb c % 2 = 1 then [c] else []) ++ ((fb.take (clt fb d)).drop (cnt fb c) ++ ((if clt fb d % 2 = 1 then [d] else []) ++ com fb (fa.drop (2 * (i + 1)))))) = com fb fa := eq
      rw [← List.append_assoc, ← List.append_assoc] at eq
      have cn := cnt_clt aB hcd
      have cl := clt_le fb d
      have up : ∀ t ∈ fa.drop (2 * (i + 1)), clt fb d ≤ clt fb t := fun t ht => by
        have h1 : d < t := by
          have := aA.sublist (List.drop_sublist (2 * i + 1) fa)
          rw [dr2] at this
          exact (List.pairwise_cons.mp this).1 t ht
        have h2 := cnt_clt aB h1
        have h3 := (split3 d aB).2.2.2
        have h4 : clt fb d ≤ cnt fb d := by split at h3 <;> omega
        omega
      have ek2 : ((2 * i : Nat) : Int) + 1 = ((2 * i + 1 : Nat) : Int) := by omega
      refine ⟨_, rfl, _, rfl, _, rfl, _, _, rfl, rfl, rIx_sq (v := y) (ha.same e3) (by rw [ek2]; exact atI_nat hy) ?_⟩
      refine ⟨_, rfl, v, y, fb, d, cnt fb c, rfl, hB.same e3, (Nd.of e3).d dy, aB, sB, sA d hdm, cn, by omega, fun H4 e4 => ?_⟩
      refine ⟨_, rfl, .inl ⟨rfl, _, SqL.of (e4 _ _ hp3)⟩, _, rfl, _, rfl, _, rfl, _, rfl, _, rfl, v, bs, rfl, (hb.same e3).same e4, fun w1 H5 e5 _ hw1 => ?_⟩
      have ec : cutV bs (some (cnt fb c : Int)) (some (clt fb d : Int)) = (bs.take (clt fb d)).drop (cnt fb c) := cut_nat (by omega) (by omega)
      rw [ec] at hw1
      have cp := cap _ _ eq
      rw [List.length_append, List.length_drop, List.length_take] at cp
      have fit : us3.length + ((bs.take (clt fb d)).drop (cnt fb c)).length ≤ 16012002 := by
        rw [lus d3, List.length_drop, List.length_take]
        omega
      refine ⟨p, w1, us3, _, rfl, rfl, e5 _ _ (e4 _ _ hp3), hw1, Nat.le_trans fit (by decide), ?_⟩
      have e6 : Same H1 (upd H5 p (.lst (us3 ++ (bs.take (clt fb d)).drop (cnt fb c)))) := Same.mut (e3.trans (e4.trans e5)) np
      have d6 : DpAll K H1 (us3 ++ (bs.take (clt fb d)).drop (cnt fb c)) ((M ++ (if cnt fb c % 2 = 1 then [c] else []) ++ (fb.take (clt fb d)).drop (cnt fb c)).map g) := by
        rw [List.map_append, List.map_drop, List.map_take]
        exact dps_app d3 (dps_drop _ (dps_take _ dB))
      have hp6 : upd H5 p (.lst (us3 ++ (bs.take (clt fb d)).drop (cnt fb c))) p = some (.lst (us3 ++ (bs.take (clt fb d)).drop (cnt fb c))) := upd_same
      have l6 : (us3 ++ (bs.take (clt fb d)).drop (cnt fb c)).length ≤ 16012002 := by rw [List.length_append]; exact fit
      generalize us3 ++ (bs.take (clt fb d)).drop (cnt fb c) = us6 at e6 d6 hp6 l6 ⊢
      generalize upd H5 p (.lst us6) = H6 at e6 hp6 ⊢
      refine ⟨_, rfl, _, _, rfl, rfl, _, rfl, ?_⟩
      rw [bit1]
      rw [← List.append_assoc] at eq
      by_cases h1 : clt fb d % 2 = 1
      · rw [decide_eq_true h1]
        rw [if_pos h1] at eq
        refine iteT ?_
        refine ⟨_, rfl, .inl ⟨rfl, _, SqL.of hp6⟩, _, rfl, _, rfl, _, _, rfl, rfl, rIx_sq (v := y) (ha.same e6) (by rw [ek2]; exact atI_nat hy) ?_⟩
        refine ⟨p, us6, y, rfl, rfl, hp6, Nat.lt_of_le_of_lt l6 (by decide), us6 ++ [y], _, clt fb d, _, _, rfl, up, Same.mut e6 np, upd_same, ?_, eq⟩
        rw [List.map_append]
        exact dps_app d6 (.cons dy .nil)
      · rw [decide_eq_false h1]
        rw [if_neg h1, List.append_nil] at eq
        refine iteF ⟨us6, _, clt fb d, _, _, rfl, up, e6, hp6, d6, eq⟩
  · obtain ⟨us, M, bh, z6, z7, rfl, _, e, hp, dM, eq⟩ := h
    rw [show fa.drop (2 * ((as.length + 1) / 2)) = [] from List.drop_of_length_le (by omega)] at eq
    have eq : M ++ [] = com fb fa := eq
    rw [List.append_nil] at eq
    rw [eq] at dM
    exact ⟨_, rfl, q p us _ (e1.trans e) hp ((Nd.of e).ds dM)⟩
end
end Fb
namespace Fb
open PySem L2
/-! ### numbers whose places are near ints -/
def mv (g : Int → PyData) (c : Int) : Int := match g c with
  | .int i => i
  | _ => 0
theorem mv_int {g : Int → PyData} {c i : Int} (h : g c = .int i) : mv g c = i := by unfold mv; rw [h]
/-- the places of z are ints, and not far -/
def Near (g : Int → PyData) (z : Int) : Prop := ∀ c ∈ Tl z, g c = .int (mv g c) ∧ 0 ≤ mv g c ∧ mv g c ≤ 520000
/-- no place beyond M -/
def NearB (g : Int → PyData) (M : Int) (z : Int) : Prop := ∀ c ∈ Tl z, mv g c ≤ M
/-- both so, or neither of them with many -/
def Lo2 (_ : Int → PyData) (x y : Int) : Prop := (Tl x).length + (Tl y).length ≤ 8000
def XN (g : Int → PyData) (z : Int) : Int := alt (-1) ((Tl z).map fun c => (mv g c).toNat)
theorem mv_mono {n : Nat} {g : Int → PyData} {S : Int → Prop} (o : OrdN n g S) {c d : Int} (sc : S c) (sd : S d) (hc : g c = .int (mv g c)) (hd : g d = .int (mv g d)) : mv g c < mv g d ↔ c < d := by
  have h := o.ord c d sc sd
  have ec : cmpD n (.int (mv g c)) (.int (mv g d)) = sgnI (mv g c) (mv g d) := by cases n <;> rfl
  rw [hc, hd, ec] at h
  rw [← sgn_lt, h, sgn_lt]
theorem tl_XN {n : Nat} {g : Int → PyData} {S : Int → Prop} (o : OrdN n g S) {z : Int} (hz : Num g S z) (hn : Near g z) : Tl (XN g z) = (Tl z).map (mv g) := by
  have asc : ((Tl z).map fun c => (mv g c).toNat).Pairwise (· < ·) := by
    rw [List.pairwise_map]
    refine (tl_asc z).imp_of_mem fun {a b} ha hb h => ?_
    have := (mv_mono o (hz.mem a ha) (hz.mem b hb) (hn a ha).1 (hn b hb).1).mpr h
    have := (hn a ha).2.1
    omega
  have e : ((Tl z).map fun c => (mv g c).toNat) = ((Tl z).map (mv g)).map Int.toNat := by rw [List.map_map]; rfl
  show zs (turnsN (alt (-1) ((Tl z).map fun c => (mv g c).toNat))) = _
  rw [turns_of_alt asc, e, zs_toNat]
  · intro a ha
    obtain ⟨c, hc, rfl⟩ := List.mem_map.mp ha
    exact (hn c hc).2.1
section
variable {m : Int → Int} {R : Int → Prop} (hm : ∀ c d, R c → R d → (m c < m d ↔ c < d))
include hm
theorem cnt_map {l : List Int} (hl : ∀ c ∈ l, R c) {c : Int} (hc : R c) : cnt (l.map m) (m c) = cnt l c := by
  unfold cnt
  rw [List.filter_map, List.length_map]
  congr 1
  refine List.filter_congr fun t ht => ?_
  show decide (m t ≤ m c) = decide (t ≤ c)
  have := hm c t hc (hl t ht)
  exact decide_eq_decide.mpr (by omega)
theorem clt_map {l : List Int} (hl : ∀ c ∈ l, R c) {c : Int} (hc : R c) : clt (l.map m) (m c) = clt l c := by
  unfold clt
  rw [List.filter_map, List.length_map]
  congr 1
  refine List.filter_congr fun t ht => ?_
  show decide (m t < m c) = decide (t < c)
  exact decide_eq_decide.mpr (hm t c (hl t ht) hc)
theorem mem_mapM {l : List Int} (hl : ∀ c ∈ l, R c) {c : Int} (hc : R c) : m c ∈ l.map m ↔ c ∈ l := by
  constructor
  · intro h
    obtain ⟨t, ht, e⟩ := List.mem_map.mp h
    have h1 := hm t c (hl t ht) hc
    have h2 := hm c t hc (hl t ht)
    have : t = c := by omega
    rw [← this]; exact ht
  · exact fun h => List.mem_map_of_mem h
theorem mrg_map : ∀ {A B : List Int}, (∀ c ∈ A, R c) → (∀ c ∈ B, R c) → mrg (A.map m) (B.map m) = (mrg A B).map m
  | [], B, _, _ => rfl
  | a :: A, B, hA, hB => by
    have ha := hA a List.mem_cons_self
    show (B.map m).take (clt (B.map m) (m a)) ++ ((if m a ∈ B.map m then [] else [m a]) ++ mrg (A.map m) ((B.map m).drop (cnt (B.map m) (m a)))) = (B.take (clt B a) ++ ((if a ∈ B then [] else [a]) ++ mrg A (B.drop (cnt B a)))).map m
    rw [cnt_map hm hB ha, clt_map hm hB ha, ← List.map_drop, mrg_map (fun c h => hA c (List.mem_cons_of_mem _ h)) (fun c h => hB c (List.mem_of_mem_drop h)), List.map_append, List.map_append, List.map_take]
    congr 2
    by_cases h : a ∈ B
    · rw [if_pos h, if_pos ((mem_mapM hm hB ha).mpr h)]; rfl
    · rw [if_neg h, if_neg (fun k => h ((mem_mapM hm hB ha).mp k))]; rfl
theorem com_map {B : List Int} (hB : ∀ c ∈ B, R c) : ∀ {A : List Int}, (∀ c ∈ A, R c) → com (B.map m) (A.map m) = (com B A).map m
  | [], _ => rfl
  | [u], hA => by
    have hu := hA u List.mem_cons_self
    show (if cnt (B.map m) (m u) % 2 = 1 then [m u] else []) ++ (B.map m).drop (cnt (B.map m) (m u)) = ((if cnt B u % 2 = 1 then [u] else []) ++ B.drop (cnt B u)).map m
    rw [cnt_map hm hB hu, List.map_append, List.map_drop]
    congr 1
    split <;> rfl
  | u :: v :: A, hA => by
    have hu := hA u List.mem_cons_self
    have hv := hA v (List.mem_cons_of_mem _ List.mem_cons_self)
    show (if cnt (B.map m) (m u) % 2 = 1 then [m u] else []) ++ (((B.map m).take (clt (B.map m) (m v))).drop (cnt (B.map m) (m u)) ++ ((if clt (B.map m) (m v) % 2 = 1 then [m v] else []) ++ com (B.map m) (A.map m))) = ((if cnt B u % 2 = 1 then [u] else []) ++ ((B.take (clt B v)).drop (cnt B u) ++ ((if clt B v % 2 = 1 then [v] else []) ++ com B A))).map m
    rw [cnt_map hm hB hu, clt_map hm hB hv, com_map hB (fun c h => hA c (List.mem_cons_of_mem _ (List.mem_cons_of_mem _ h))), List.map_append, List.map_append, List.map_append, List.map_drop, List.map_take]
    congr 1
    · split <;> rfl
    · congr 1
      congr 1
      split <;> rfl
end
theorem formD_num {z : Int} (hl : (Tl z).length ≤ 8500) : formD z = numD PyData.int z := by
  have hz : Num PyData.int (fun a => 0 ≤ a) z := ⟨tl_pos z, hl⟩
  rcases num_cases (ordN_int 0) hz with ⟨pl, e, _⟩ | ⟨npl, e, _⟩
  · rw [e]; unfold formD; rw [if_pos pl]
  · rw [e]
    unfold formD
    rw [if_neg npl]
    congr 1
    unfold Tl zs nD
    rw [List.map_map]
    rfl
theorem near_form {g : Int → PyData} {w W : Int} (e : Tl W = (Tl w).map (mv g)) (hl : (Tl w).length ≤ 8500) (hg : ∀ c ∈ Tl w, g c = .int (mv g c)) : formD W = numD g w := by
  rw [formD_num (by rw [e, List.length_map]; exact hl)]
  unfold numD rowF
  rw [e, List.map_map]
  congr 1
  exact List.map_congr_left fun c hc => (hg c hc).symm
theorem inB_tl {W : Int} {b : Nat} (hb : b ≤ 599998) (h : ∀ c ∈ Tl W, c ≤ (b : Int)) : InB W := by
  have hp : ∀ p ∈ turnsN W, p < b + 1 := fun p hp => by
    have := h ((p : Nat) : Int) (List.mem_map.mpr ⟨p, hp, rfl⟩)
    omega
  have := alt_lt (s := -1) (.inr rfl) (n := b + 1) (turns_asc W) hp
  rw [turns_alt] at this
  exact InB.of (n := b + 1) (Int.le_of_lt this.1) this.2 (by omega)
/-- the last place is an int: all are -/
theorem near_last {n : Nat} {g : Int → PyData} {S : Int → Prop} (o : OrdN n g S) (nn : ∀ c, S c → negD (g c) = false) {z : Int} (hz : Num g S z) {m : List Int} {p : Int} (el : Tl z = m ++ [p]) (hi : isI (g p) = true) : ∀ c ∈ Tl z, g c = .int (mv g c) ∧ 0 ≤ mv g c ∧ mv g c ≤ mv g p := by
  have sp : S p := hz.mem p (by rw [el]; simp)
  obtain ⟨ip, hp⟩ := fm_int (o.fm p sp) hi
  have ep : g p = .int (mv g p) := by rw [mv_int hp]; exact hp
  intro c hc
  have sc := hz.mem c hc
  have ge : ∀ i : Int, g c = .int i → 0 ≤ i := fun i h => by
    have := nn c sc
    rw [h] at this
    have := of_decide_eq_false (show decide (i < 0) = false from this)
    omega
  rw [el] at hc
  rcases List.mem_append.mp hc with h | h
  · have lt : c < p := (List.pairwise_append.mp (el ▸ tl_asc z)).2.2 c h p (List.mem_singleton.mpr rfl)
    have ic : isI (g c) = true := by
      cases hic : isI (g c) with
      | true => rfl
      | false =>
        exfalso
        have h1 := o.ord c p sc sp
        rw [sgnI_lt lt] at h1
        have fx := o.fm c sc
        have fy := o.fm p sp
        cases n with
        | zero =>
          obtain ⟨j, hj⟩ := fx
          rw [hj] at hic
          cases hic
        | succ k =>
          rw [cmp_iy fx fy (fun h => by rw [hic] at h; cases h.1) ((nn c sc).trans (nn p sp).symm) (by rw [hic]; decide) hi, if_neg (by rw [nn c sc]; decide)] at h1
          cases h1
    obtain ⟨i, hi'⟩ := fm_int (o.fm c sc) ic
    have ec : g c = .int (mv g c) := by rw [mv_int hi']; exact hi'
    exact ⟨ec, ge _ ec, Int.le_of_lt ((mv_mono o sc sp ec ep).mpr lt)⟩
  · have : c = p := List.mem_singleton.mp h
    subst this
    exact ⟨ep, ge _ ep, Int.le_refl _⟩
theorem near_plain {n : Nat} {g : Int → PyData} {S : Int → Prop} (o : OrdN n g S) {z : Int} (hz : Num g S z) (h : plain z) : Near g z ∧ XN g z = z := by
  have hc : ∀ c ∈ Tl z, g c = .int c := fun c hc => o.near c (hz.mem c hc) (tl_near.mp h c hc)
  constructor
  · intro c hm
    have e := hc c hm
    have := tl_near.mp h c hm
    have := tl_pos z c hm
    rw [mv_int e]
    exact ⟨e, by omega, by omega⟩
  · unfold XN
    have : ((Tl z).map fun c => (mv g c).toNat) = (Tl z).map Int.toNat := List.map_congr_left fun c hm => by rw [mv_int (hc c hm)]
    rw [this]
    unfold Tl
    rw [zs_nat, turns_alt]
section
variable {P : Program} {w : World} {K : PySem.W.Frag} {mg : Str → Option Value} {base : Heap} {f : Addr} {fd : FuncData}
abbrev S_is_short : Stmt := top 58
abbrev N_is_short : List Str := ["x"]
abbrev P_is_short : List Str := ["x"]
theorem sc_is_short : FnScope N_is_short P_is_short (defScope S_is_short) := ⟨rfl, rfl, rfl, by decide +kernel, rfl, by decide +kernel, by decide +kernel⟩
/-- a number that is no int: the answer says at most that its places are near -/
def spIsShort (K : PySem.W.Frag) (g : Int → PyData) (S : Int → Prop) : Sp := fun vs H Q _ => ∃ (v : V) (z : Int), vs = [v] ∧ Dp K H v (numD g z) ∧ Num g S z ∧ ¬ plain z ∧ ∀ (b : Bool), (b = true → Near g z ∧ NearB g 1000 z) → Q (.bl b) H
theorem ok_isshort {n : Nat} {g : Int → PyData} {S : Int → Prop} (o : OrdN n g S) (nn : ∀ c, S c → negD (g c) = false) {tk1 tk2 : Tok} (F : Fun K "is_short" "is_short" S_is_short f fd) (B : Blt mg) (MM : mg "MANY_TURNS" = some (.int 16 tk1)) (MN : mg "NEAR_PLACE" = some (.int 1000 tk2)) : FnOk P w K mg base CX0 1 f fd P_is_short (spIsShort K g S) := by
  have nd := sc_is_short.nd
  refine F.ok sc_is_short (fun vs H Q E h => ?_) (fun cdv A outer s H vs Q E hr h => ?_)
  · obtain ⟨v, z, rfl, _⟩ := h
    rfl
  obtain ⟨v, z, rfl, hd, hz, np, q⟩ := h
  refine ⟨_, (pss_one (ps_ret (pe_and (pe_cmpR op_le (pe_callB call_lenT (by rfl) B.len PySem.boot_len (pa_cons (pv 0) pa_nil)) (pe_glob (v := .int 16) rfl MM ⟨_, rfl⟩) (nomark _)) (pe_and (pe_callB (call_isiI K) (by rfl) B.isinstance (by decide +kernel) (pa_cons (pe_ix ix_tup (pv 0) (pe_un un_neg pe_int) (fun _ _ => rfl)) (pa_cons (pe_bltn (by rfl) B.int (by decide +kernel) (show RelV (.ty "int") (.type "int") from rfl)) pa_nil))) (pe_one (pe_cmpR op_le (pe_ix ix_tup (pv 0) (pe_un un_neg pe_int) (fun _ _ => rfl)) (pe_glob (v := .int 1000) rfl MN ⟨_, rfl⟩) (nomark _))))))), ?_⟩
  rcases num_cases o hz with ⟨pl, _⟩ | ⟨_, e, m, p, el, p64⟩
  · exact absurd pl np
  rw [e] at hd
  cases hd with
  | @tup a xs _ hs ha =>
  have hl : xs.length = (Tl z).length := by rw [dps_length ha, List.length_map]
  have ha' := ha
  rw [el, List.map_append] at ha'
  obtain ⟨x, hx, dx⟩ := dps_last ha'
  have sp : S p := hz.mem p (by rw [el]; simp)
  refine ⟨_, rfl, a, _, rfl, hs, _, _, rfl, rfl, ?_⟩
  refine ⟨_, rfl, iteD (fun c => ?_) (fun c => q false (fun h => by cases h))⟩
  refine ⟨_, rfl, _, rfl, a, _, _, _, rfl, rfl, hs, hx, x, g p, rfl, dx, ?_⟩
  cases hi : isI (g p) with
  | false => exact ⟨_, rfl, iteF (q false (fun h => by cases h))⟩
  | true =>
    refine ⟨_, rfl, iteT ?_⟩
    have nl := near_last o nn hz el hi
    have ep := (nl p (by rw [el]; simp)).1
    rw [ep] at dx
    cases dx
    refine ⟨_, rfl, _, rfl, a, _, _, _, rfl, rfl, hs, hx, _, _, rfl, rfl, q _ (fun h => ?_)⟩
    have h' := of_decide_eq_true h
    refine ⟨fun c hc => ?_, fun c hc => ?_⟩
    · obtain ⟨k1, k2, k3⟩ := nl c hc
      exact ⟨k1, k2, by omega⟩
    · obtain ⟨k1, k2, k3⟩ := nl c hc
      omega
abbrev S_are_near : Stmt := top 57
abbrev N_are_near : List Str := ["x", "y", "first", "second", "many", "most"]
abbrev P_are_near : List Str := ["x", "y"]
theorem sc_are_near : FnScope N_are_near P_are_near (defScope S_are_near) := ⟨rfl, rfl, rfl, by decide +kernel, rfl, by decide +kernel, by decide +kernel⟩
/-- how far are the places that are near -/
def nearM (x y : Int) : Int := 1000 + 64 * (((Tl x).length : Int) + ((Tl y).length : Int))
theorem nearM_1000 (x y : Int) : 1000 ≤ nearM x y := by unfold nearM; omega
theorem nearB_up {g : Int → PyData} {M M' z : Int} (h : NearB g M z) (e : M ≤ M') : NearB g M' z := fun c hc => Int.le_trans (h c hc) e
theorem nearB_plain {n : Nat} {g : Int → PyData} {S : Int → Prop} (o : OrdN n g S) {z : Int} (hz : Num g S z) (h : plain z) : NearB g 1000 z := fun c hm => by
  have e : g c = .int c := o.near c (hz.mem c hm) (tl_near.mp h c hm)
  rw [mv_int e]
  have := tl_near.mp h c hm
  omega
def spAreNear (K : PySem.W.Frag) (g : Int → PyData) (S : Int → Prop) : Sp := fun vs H Q _ => ∃ (v u : V) (x y : Int), vs = [v, u] ∧ Dp K H v (numD g x) ∧ Dp K H u (numD g y) ∧ Num g S x ∧ Num g S y ∧ Lo2 g x y ∧ ¬ (plain x ∧ plain y) ∧ ∀ (b : Bool), (b = true → Near g x ∧ Near g y ∧ NearB g (nearM x y) x ∧ NearB g (nearM x y) y) → Q (.bl b) H
theorem ok_arenear {n : Nat} {g : Int → PyData} {S : Int → Prop} (o : OrdN n g S) (nn : ∀ c, S c → negD (g c) = false) {tk1 tk2 tk3 : Tok} (F : Fun K "are_near" "are_near" S_are_near f fd) (B : Blt mg) (MM : mg "MANY_TURNS" = some (.int 16 tk1)) (MN : mg "NEAR_PLACE" = some (.int 1000 tk2)) (MBT : mg "BITS_FOR_A_TURN" = some (.int 64 tk3)) (Cis_short : Has P w K mg base 1 "is_short" P_is_short [] (spIsShort K g S)) : FnOk P w K mg base CX0 2 f fd P_are_near (spAreNear K g S) := by
  have nd := sc_are_near.nd
  refine F.ok sc_are_near (fun vs H Q E h => ?_) (fun cdv A outer s H vs Q E hr h => ?_)
  · obtain ⟨v, u, x, y, rfl, _⟩ := h
    rfl
  obtain ⟨v, u, x, y, rfl, hx, hy, nx, ny, lxy, nb, q⟩ := h
  refine ⟨_, (pss_cons (ps_if (pt_val (pe_callB (call_isiI K) (by rfl) B.isinstance (by decide +kernel) (pa_cons (pv 0) (pa_cons (pe_bltn (by rfl) B.int (by decide +kernel) (show RelV (.ty "int") (.type "int") from rfl)) pa_nil)))) (pss_one (ps_ret (pe_H Cis_short (hr.mono (by decide)) rfl (pa_cons (pv 1) pa_nil)))) pss_nil)
    (pss_cons (ps_if (pt_val (pe_callB (call_isiI K) (by rfl) B.isinstance (by decide +kernel) (pa_cons (pv 1) (pa_cons (pe_bltn (by rfl) B.int (by decide +kernel) (show RelV (.ty "int") (.type "int") from rfl)) pa_nil)))) (pss_one (ps_ret (pe_H Cis_short (hr.mono (by decide)) rfl (pa_cons (pv 0) pa_nil)))) pss_nil)
    (pss_cons (ps_par (i := 2) (j := 3) (by rfl) nd rfl rfl (by decide) rfl rfl (pa_cons (pe_ix ix_tup (pv 0) (pe_un un_neg pe_int) (fun _ _ => rfl)) (pa_cons (pe_ix ix_tup (pv 1) (pe_un un_neg pe_int) (fun _ _ => rfl)) pa_nil)) (by rfl))
    (pss_cons (ps_if (PW.pt (pw_or (pt_not (pt_val (pe_callB (call_isiI K) (by rfl) B.isinstance (by decide +kernel) (pa_cons (pv 2) (pa_cons (pe_bltn (by rfl) B.int (by decide +kernel) (show RelV (.ty "int") (.type "int") from rfl)) pa_nil))))) (pw_or1 (pt_not (pt_val (pe_callB (call_isiI K) (by rfl) B.isinstance (by decide +kernel) (pa_cons (pv 3) (pa_cons (pe_bltn (by rfl) B.int (by decide +kernel) (show RelV (.ty "int") (.type "int") from rfl)) pa_nil)))))))) (pss_one (ps_ret pe_bl)) pss_nil)
    (pss_cons (ps_set (i := 4) nd rfl (Or.inl rfl) (pe_op op_add (pe_callB call_lenT (by rfl) B.len PySem.boot_len (pa_cons (pv 0) pa_nil)) (pe_callB call_lenT (by rfl) B.len PySem.boot_len (pa_cons (pv 1) pa_nil))))
    (C8.pss_cut (ps_if (PW.pt (pw_and (pt_cmpR op_gt (pv 4) (pe_op op_mul pe_int (pe_glob (v := .int 16) rfl MM ⟨_, rfl⟩)) (nomark _)) (pw_and1 (PW.pt (pw_or (pt_cmpR op_lt (pe_callB call_lenT (by rfl) B.len PySem.boot_len (pa_cons (pv 0) pa_nil)) (pe_glob (v := .int 16) rfl MM ⟨_, rfl⟩) (nomark _)) (pw_or1 (pt_cmpR op_lt (pe_callB call_lenT (by rfl) B.len PySem.boot_len (pa_cons (pv 1) pa_nil)) (pe_glob (v := .int 16) rfl MM ⟨_, rfl⟩) (nomark _)))))))) (pss_one (ps_ret pe_bl)) pss_nil)
    (pss_cons (ps_set (i := 5) nd rfl (Or.inl rfl) (pe_op op_add (pe_glob (v := .int 1000) rfl MN ⟨_, rfl⟩) (pe_op op_mul (pe_glob (v := .int 64) rfl MBT ⟨_, rfl⟩) (pv 4))))
    (pss_one (ps_ret (pe_and (pe_cmpR op_le (pv 2) (pv 5) (nomark _)) (pe_one (pe_cmpR op_le (pv 3) (pv 5) (nomark _))))))))))))), ?_⟩
  refine ⟨_, rfl, v, _, rfl, hx, _, rfl, ?_⟩
  rcases num_cases o nx with ⟨px, ex, _⟩ | ⟨npx, ex, mx, qx, elx, _⟩
  · rw [show isI (numD g x) = true by rw [ex]; rfl]
    refine iteT ?_
    exact ⟨_, rfl, u, y, rfl, hy, ny, fun h => nb ⟨px, h⟩, fun b hb => q b fun h => ⟨(near_plain o nx px).1, (hb h).1, nearB_up (nearB_plain o nx px) (nearM_1000 x y), nearB_up (hb h).2 (nearM_1000 x y)⟩⟩
  rw [show isI (numD g x) = false by rw [ex]; rfl]
  refine iteF ?_
  refine ⟨_, rfl, u, _, rfl, hy, _, rfl, ?_⟩
  rcases num_cases o ny with ⟨py, ey, _⟩ | ⟨npy, ey, my, qy, ely, _⟩
  · rw [show isI (numD g y) = true by rw [ey]; rfl]
    refine iteT ?_
    exact ⟨_, rfl, v, x, rfl, hx, nx, npx, fun b hb => q b fun h => ⟨(hb h).1, (near_plain o ny py).1, nearB_up (hb h).2 (nearM_1000 x y), nearB_up (nearB_plain o ny py) (nearM_1000 x y)⟩⟩
  rw [show isI (numD g y) = false by rw [ey]; rfl]
  refine iteF ?_
  rw [ex] at hx
  rw [ey] at hy
  cases hx with
  | @tup a xs _ hs ha =>
  cases hy with
  | @tup b ys _ ht hb =>
  have hlx : xs.length = (Tl x).length := by rw [dps_length ha, List.length_map]
  have hly : ys.length = (Tl y).length := by rw [dps_length hb, List.length_map]
  have ha' := ha
  rw [elx, List.map_append] at ha'
  obtain ⟨lx1, hlx1, dx⟩ := dps_last ha'
  have hb' := hb
  rw [ely, List.map_append] at hb'
  obtain ⟨ly1, hly1, dy⟩ := dps_last hb'
  have l1 := nx.len
  have l2 := ny.len
  refine ⟨_, rfl, _, rfl, a, _, _, _, rfl, rfl, hs, hlx1, _, rfl, _, rfl, b, _, _, _, rfl, rfl, ht, hly1, _, _, rfl, ?_⟩
  refine ⟨_, rfl, lx1, g qx, rfl, dx, _, rfl, ?_⟩
  cases hi : isI (g qx) with
  | false => exact iteT (q false (fun h => by cases h))
  | true =>
  refine iteF ?_
  refine ⟨_, rfl, ly1, g qy, rfl, dy, _, rfl, ?_⟩
  cases hj : isI (g qy) with
  | false => exact iteT (q false (fun h => by cases h))
  | true =>
  refine iteF ?_
  have nlx := near_last o nn nx elx hi
  have nly := near_last o nn ny ely hj
  have epx := (nlx qx (by rw [elx]; simp)).1
  have epy := (nly qy (by rw [ely]; simp)).1
  rw [epx] at dx
  rw [epy] at dy
  cases dx
  cases dy
  refine ⟨_, rfl, a, _, rfl, hs, _, rfl, b, _, rfl, ht, _, _, rfl, rfl, ?_⟩
  refine ⟨fun σ H' => σ = [some (.ref a), some (.ref b), some (.int (mv g qx)), some (.int (mv g qy)), some (.int ((xs.length : Int) + (ys.length : Int))), none] ∧ H' = H ∧ (xs.length + ys.length ≤ 32 ∨ (16 ≤ xs.length ∧ 16 ≤ ys.length)), ?_, ?_⟩
  · refine ⟨_, rfl, _, _, rfl, rfl, .inl ⟨by decide, by decide⟩, _, _, rfl, rfl, _, rfl, ?_⟩
    refine iteD (fun c1 => ?_) (fun c1 => iteF ⟨rfl, rfl, .inl (by have : ¬ (2 * 16 : Int) < (xs.length : Int) + (ys.length : Int) := c1; omega)⟩)
    refine ⟨_, rfl, a, _, rfl, hs, _, _, rfl, rfl, _, rfl, ?_⟩
    refine iteD (fun c2 => iteT (q false (fun h => by cases h))) (fun c2 => ?_)
    refine ⟨_, rfl, b, _, rfl, ht, _, _, rfl, rfl, _, rfl, ?_⟩
    refine iteD (fun c3 => q false (fun h => by cases h)) (fun c3 => ⟨rfl, rfl, .inr (by omega)⟩)
  rintro σ H' ⟨rfl, rfl, hmany⟩
  refine ⟨_, rfl, _, _, rfl, rfl, .inl ⟨by decide, by decide⟩, _, _, rfl, rfl, ?_⟩
  refine ⟨_, rfl, _, rfl, _, _, rfl, rfl, ?_⟩
  have near1 : ∀ {z : Int} {m : List Int} {p : Int}, (∀ c ∈ Tl z, g c = .int (mv g c) ∧ 0 ≤ mv g c ∧ mv g c ≤ mv g p) → xs.length + ys.length ≤ 8000 → mv g p ≤ 1000 + 64 * ((xs.length : Int) + (ys.length : Int)) → Near g z := fun {z m p} nl lo hp c hc => by
    obtain ⟨k1, k2, k3⟩ := nl c hc
    exact ⟨k1, k2, by omega⟩
  have lx : xs.length + ys.length ≤ 8000 := by
    have : (Tl x).length + (Tl y).length ≤ 8000 := lxy
    omega
  refine ⟨_, rfl, iteD (fun c4 => ?_) (fun c4 => q false (fun h => by cases h))⟩
  refine ⟨_, rfl, _, rfl, _, _, rfl, rfl, q _ (fun h => ?_)⟩
  have c5 := of_decide_eq_true h
  have c4' : mv g qx ≤ 1000 + 64 * ((xs.length : Int) + (ys.length : Int)) := c4
  have c5' : mv g qy ≤ 1000 + 64 * ((xs.length : Int) + (ys.length : Int)) := c5
  refine ⟨near1 (m := mx) nlx lx c4', near1 (m := my) nly lx c5', fun c hc => ?_, fun c hc => ?_⟩
  · have := (nlx c hc).2.2
    unfold nearM
    rw [← hlx, ← hly]
    omega
  · have := (nly c hc).2.2
    unfold nearM
    rw [← hlx, ← hly]
    omega
abbrev S_int_of_form : Stmt := top 56
abbrev N_int_of_form : List Str := ["x"]
abbrev P_int_of_form : List Str := ["x"]
theorem sc_int_of_form : FnScope N_int_of_form P_int_of_form (defScope S_int_of_form) := ⟨rfl, rfl, rfl, by decide +kernel, rfl, by decide +kernel, by decide +kernel⟩
def spIof (K : PySem.W.Frag) (g : Int → PyData) (S : Int → Prop) : Sp := fun vs H Q _ => ∃ (v : V) (z : Int), vs = [v] ∧ Dp K H v (numD g z) ∧ Num g S z ∧ Near g z ∧ ∀ H' : Hp, Same H H' → Q (.int (XN g z)) H'
theorem ok_iof {n : Nat} {g : Int → PyData} {S : Int → Prop} (o : OrdN n g S) (F : Fun K "int_of_form" "int_of_form" S_int_of_form f fd) (B : Blt mg) (Cint_of_turns : Has P w K mg base 2 "int_of_turns" P_int_of_turns [] (spIoT K)) : FnOk P w K mg base CX0 3 f fd P_int_of_form (spIof K g S) := by
  have nd := sc_int_of_form.nd
  refine F.ok sc_int_of_form (fun vs H Q E h => ?_) (fun cdv A outer s H vs Q E hr h => ?_)
  · obtain ⟨v, z, rfl, _⟩ := h
    rfl
  obtain ⟨v, z, rfl, hd, hz, hn, q⟩ := h
  refine ⟨_, (pss_one (ps_ret (pe_ifExp (pt_val (pe_callB (call_isiI K) (by rfl) B.isinstance (by decide +kernel) (pa_cons (pv 0) (pa_cons (pe_bltn (by rfl) B.int (by decide +kernel) (show RelV (.ty "int") (.type "int") from rfl)) pa_nil)))) (pv 0) (pe_H Cint_of_turns (hr.mono (by decide)) rfl (pa_cons (pv 0) pa_nil))))), ?_⟩
  refine ⟨_, rfl, v, _, rfl, hd, _, rfl, ?_⟩
  rcases num_cases o hz with ⟨pl, e, _⟩ | ⟨npl, e, _⟩
  · rw [e] at hd ⊢
    cases hd
    refine iteT ?_
    have k := q H (Same.refl H)
    rw [(near_plain o hz pl).2] at k
    exact ⟨_, rfl, k⟩
  · rw [e] at hd ⊢
    cases hd with
    | @tup a xs _ hs ha =>
    refine iteF ?_
    have tx := tl_XN o hz hn
    have eg : (Tl z).map g = nD ((Tl z).map fun c => (mv g c).toNat) := by
      unfold nD
      rw [List.map_map]
      refine List.map_congr_left fun c hc => ?_
      rw [(hn c hc).1]
      show PyData.int (mv g c) = .int (((mv g c).toNat : Nat) : Int)
      rw [Int.toNat_of_nonneg (hn c hc).2.1]
    rw [eg] at ha
    have ev := dps_n_inv ha
    subst ev
    have asc : ((Tl z).map fun c => (mv g c).toNat).Pairwise (· < ·) := by
      rw [List.pairwise_map]
      refine (tl_asc z).imp_of_mem fun {a b} ha hb h => ?_
      have := (mv_mono o (hz.mem a ha) (hz.mem b hb) (hn a ha).1 (hn b hb).1).mpr h
      have := (hn a ha).2.1
      omega
    refine ⟨_, rfl, a, _, rfl, .inr hs, asc, (fun p hp => ?_), (fun h17 p hp => ?_), fun H' e' => q H' e'⟩
    · obtain ⟨c, hc, rfl⟩ := List.mem_map.mp hp
      have := (hn c hc).2.2
      omega
    · obtain ⟨c, hc, rfl⟩ := List.mem_map.mp hp
      have := (hn c hc).2.2
      omega
abbrev S_is_plain : Stmt := top 50
abbrev N_is_plain : List Str := ["value"]
abbrev P_is_plain : List Str := ["value"]
theorem sc_is_plain : FnScope N_is_plain P_is_plain (defScope S_is_plain) := ⟨rfl, rfl, rfl, by decide +kernel, rfl, by decide +kernel, by decide +kernel⟩
def spPlain : Sp := fun vs H Q _ => ∃ x : Int, vs = [.int x] ∧ Q (.bl (decide (plain x))) H
theorem ok_plain {tk : Tok} (F : Fun K "is_plain" "is_plain" S_is_plain f fd) (MS : mg "PLAIN_STOP" = some (.int 18446744073709551616 tk)) : FnOk P w K mg base CX0 1 f fd P_is_plain spPlain := by
  have nd := sc_is_plain.nd
  refine F.ok sc_is_plain (fun vs H Q E h => ?_) (fun cdv A outer s H vs Q E hr h => ?_)
  · obtain ⟨x, rfl, _⟩ := h
    rfl
  obtain ⟨x, rfl, q⟩ := h
  refine ⟨_, (pss_one (ps_ret (pe_chain op_le op_lt (pe_un un_neg (pe_glob (v := .int 18446744073709551616) rfl MS ⟨_, rfl⟩)) (pv 0) (pe_glob (v := .int 18446744073709551616) rfl MS ⟨_, rfl⟩)))), ?_⟩
  have P64 : (2 : Int) ^ 64 = 18446744073709551616 := by decide
  refine ⟨_, rfl, _, rfl, _, _, rfl, rfl, _, rfl, ?_⟩
  have fin : ∀ b : Bool, (b = true ↔ plain x) → Q (.bl b) H := fun b h => by
    have : b = decide (plain x) := by
      by_cases c : plain x
      · rw [decide_eq_true c]; exact h.mpr c
      · rw [decide_eq_false c]; exact Bool.eq_false_iff.mpr fun z => c (h.mp z)
    rw [this]
    exact q
  refine iteD (fun c1 => ?_) (fun c1 => ?_)
  · refine ⟨_, _, rfl, rfl, fin _ ?_⟩
    rw [decide_eq_true_eq]
    exact ⟨fun h => ⟨by rw [P64]; exact c1, by rw [P64]; exact h⟩, fun h => by have := h.2; rw [P64] at this; exact this⟩
  · refine fin false ⟨(fun h => by cases h), fun h => ?_⟩
    have := h.1
    rw [P64] at this
    exact absurd this c1
abbrev S_form_of_int : Stmt := top 59
abbrev N_form_of_int : List Str := ["value"]
abbrev P_form_of_int : List Str := ["value"]
theorem sc_form_of_int : FnScope N_form_of_int P_form_of_int (defScope S_form_of_int) := ⟨rfl, rfl, rfl, by decide +kernel, rfl, by decide +kernel, by decide +kernel⟩
def spFoi (K : PySem.W.Frag) : Sp := fun vs H Q _ => ∃ x : Int, vs = [.int x] ∧ InB x ∧ ∀ (v : V) (H' : Hp), Same H H' → Dp K H' v (formD x) → Q v H'
theorem ok_foi (F : Fun K "form_of_int" "form_of_int" S_form_of_int f fd) (B : Blt mg) (Cis_plain : Has P w K mg base 1 "is_plain" P_is_plain [] spPlain) (Cturns_of_int : Has P w K mg base 2 "turns_of_int" P_turns_of_int [] spTurns) : FnOk P w K mg base CX0 3 f fd P_form_of_int (spFoi K) := by
  have nd := sc_form_of_int.nd
  refine F.ok sc_form_of_int (fun vs H Q E h => ?_) (fun cdv A outer s H vs Q E hr h => ?_)
  · obtain ⟨x, rfl, _⟩ := h
    rfl
  obtain ⟨x, rfl, hx, q⟩ := h
  refine ⟨_, (pss_cons (ps_if (pt_val (pe_H Cis_plain (hr.mono (by decide)) rfl (pa_cons (pv 0) pa_nil))) (pss_one (ps_ret (pv 0))) pss_nil)
    (pss_one (ps_ret (pe_callTy (call_tupS K) (by rfl) B.tuple (by decide +kernel) (pa_cons (pe_H Cturns_of_int (hr.mono (by decide)) rfl (pa_cons (pv 0) pa_nil)) pa_nil))))), ?_⟩
  refine ⟨_, rfl, x, rfl, _, rfl, ?_⟩
  by_cases c : plain x
  · rw [decide_eq_true c]
    refine iteT ?_
    have k := q (.int x) H (Same.refl H)
    unfold formD at k
    rw [if_pos c] at k
    exact ⟨_, rfl, k (.int x)⟩
  · rw [decide_eq_false c]
    refine iteF ?_
    refine ⟨_, rfl, x, rfl, hx, fun p H' e np hp => ?_⟩
    refine ⟨p, _, rfl, .inl hp, fun t H2 e2 ht => ?_⟩
    have k := q (.ref t) H2 (e.trans e2)
    unfold formD at k
    rw [if_neg c] at k
    exact k (.tup ht (dps_n _))
end
end Fb
namespace Fb
open PySem L2
theorem bitk (n : Nat) : Builtin.bitAnd (n : Int) 1 = ((n % 2 : Nat) : Int) := by rw [PyProof.Rows.bitAnd_m1]; omega
section
variable {P : Program} {w : World} {K : PySem.W.Frag} {mg : Str → Option Value} {base : Heap} {f : Addr} {fd : FuncData}
/-- the next place -/
def spNext (K : PySem.W.Frag) (g : Int → PyData) (S : Int → Prop) : Sp := fun vs H Q _ => ∃ (v : V) (c : Int), vs = [v] ∧ Dp K H v (g c) ∧ S c ∧ S (c + 1) ∧ ∀ (v' : V) (H' : Hp), Same H H' → Dp K H' v' (g (c + 1)) → Q v' H'
abbrev S_carry_turns : Stmt := top 92
abbrev N_carry_turns : List Str := ["x", "y", "carry", "few", "many", "turns", "bit_in", "at", "k", "bit", "start", "place"]
abbrev P_carry_turns : List Str := ["x", "y", "carry"]
theorem sc_carry_turns : FnScope N_carry_turns P_carry_turns (defScope S_carry_turns) := ⟨rfl, rfl, rfl, by decide +kernel, rfl, by decide +kernel, by decide +kernel⟩
def spCarry (K : PySem.W.Frag) (g : Int → PyData) (S : Int → Prop) : Sp := fun vs H Q _ => ∃ (a b : Addr) (l m : List Int) (k : Nat), vs = [.ref a, .ref b, .int (k : Int)] ∧ Pls K H g a l ∧ Pls K H g b m ∧ l.Pairwise (· < ·) ∧ m.Pairwise (· < ·) ∧ (∀ t ∈ l, S t ∧ S (t + 1) ∧ 0 ≤ t) ∧ (∀ t ∈ m, S t ∧ S (t + 1) ∧ 0 ≤ t) ∧ l.length + m.length ≤ 30000 ∧ k ≤ 1 ∧
  ∀ (p : Addr) (us : List V) (H' : Hp), Same H H' → H' p = some (.lst us) → DpAll K H' us ((carT (fm2 l m).1 (fm2 l m).2 k).map g) → Q (.ref p) H'
theorem carL_len (B : List Int) : ∀ (A : List Int) (bit sta bin : Nat), (carL B A bit sta bin).length ≤ A.length + 1
  | [], bit, sta, bin => by
    unfold carL
    split
    · simp
    · split <;> simp
  | a :: A, bit, sta, bin => by
    have h1 := carL_len B A (1 - bit) a.toNat bin
    have h2 := carL_len B A (1 - bit) a.toNat bit
    unfold carL
    rw [List.length_cons]
    split
    · omega
    · split
      · omega
      · split
        · rw [List.length_cons]; omega
        · omega
def nxt (B A : List Int) (bit bin : Nat) : List Int := match A with
  | [] => []
  | a :: A => carL B A (1 - bit) a.toNat bin
theorem carL_same {B A : List Int} {bit sta bin : Nat} (h : bit = bin) : carL B A bit sta bin = nxt B A bit bin := by
  cases A <;> unfold carL <;> rw [if_pos h] <;> rfl
theorem carL_none {B A : List Int} {bit sta bin : Nat} (h : bit ≠ bin) (ht : turnAt B bit sta = none) : carL B A bit sta bin = nxt B A bit bin := by
  cases A <;> unfold carL <;> rw [if_neg h, ht] <;> rfl
theorem carL_turn {B A : List Int} {bit sta bin : Nat} {q : Int} (h : bit ≠ bin) (ht : turnAt B bit sta = some q) (hq : ∀ a, A.head? = some a → q < a) : carL B A bit sta bin = (q + 1) :: nxt B A bit bit := by
  cases A with
  | nil => unfold carL; rw [if_neg h, ht]; rfl
  | cons a A =>
    unfold carL
    rw [if_neg h, ht]
    show (if q < a then _ else _) = _
    rw [if_pos (hq a rfl)]
    rfl
theorem carL_late {B A : List Int} {bit sta bin : Nat} {q a : Int} (h : bit ≠ bin) (ht : turnAt B bit sta = some q) (ha : A.head? = some a) (hq : ¬ q < a) : carL B A bit sta bin = nxt B A bit bin := by
  cases A with
  | nil => cases ha
  | cons b A =>
    cases ha
    unfold carL
    rw [if_neg h, ht]
    show (if q < a then _ else _) = _
    rw [if_neg hq]
    rfl
/-- how far the second row has been looked through -/
def Go (fa fb : List Int) (i bin att : Nat) : Prop := (∀ c ∈ fa.drop i, att ≤ clt fb c) ∧ (∀ c, 1 ≤ i → fa[i - 1]? = some c → att ≤ clt fb c ∨ i % 2 = bin) ∧ (i = 0 → att = 0)
theorem Go.same {fa fb : List Int} {i bin att : Nat} (h : Go fa fb i bin att) : Go fa fb (i + 1) bin att := by
  refine ⟨fun c hc => h.1 c ?_, fun c _ hc => .inl (h.1 c ?_), fun e => by omega⟩
  · rw [← List.drop_drop] at hc
    exact List.mem_of_mem_drop hc
  · obtain ⟨hl, he⟩ := List.getElem?_eq_some_iff.mp hc
    have hl : i < fa.length := hl
    have he : fa[i] = c := he
    rw [List.drop_eq_getElem_cons hl, he]
    exact List.mem_cons_self
theorem Go.new {fa fb : List Int} (aA : fa.Pairwise (· < ·)) (aB : fb.Pairwise (· < ·)) (pA : ∀ c ∈ fa, 0 ≤ c) {i bin bin' sta : Nat} (hst : i = 0 ∧ sta = 0 ∨ 1 ≤ i ∧ fa[i - 1]? = some (sta : Int)) (hb : i % 2 ≠ bin) (b1 : bin ≤ 1) (hb' : bin' = bin ∨ ∀ c, fa[i]? = some c → (sta : Int) < c) :
    Go fa fb (i + 1) bin' (cnt fb (sta : Int)) := by
  have lt : ∀ j, i ≤ j → (i < j ∨ 1 ≤ i) → ∀ c, fa[j]? = some c → (sta : Int) < c := fun j hij h c hc => by
    obtain ⟨hl, he⟩ := List.getElem?_eq_some_iff.mp hc
    rcases hst with ⟨h0, h1⟩ | ⟨h0, h1⟩
    · subst h1
      have h00 : 0 < fa.length := by omega
      have := List.pairwise_iff_getElem.mp aA 0 j h00 hl (by omega)
      have := pA _ (List.getElem_mem h00)
      rw [← he]
      omega
    · obtain ⟨hl2, he2⟩ := List.getElem?_eq_some_iff.mp h1
      have := List.pairwise_iff_getElem.mp aA (i - 1) j hl2 hl (by omega)
      rw [← he, ← he2]
      exact this
  refine ⟨fun c hc => ?_, fun c _ hc => ?_, fun e => by omega⟩
  · obtain ⟨j, hj⟩ := List.mem_iff_getElem?.mp hc
    rw [List.getElem?_drop] at hj
    exact cnt_clt aB (lt (i + 1 + j) (by omega) (.inl (by omega)) c hj)
  · have hc : fa[i]? = some c := hc
    by_cases h1 : 1 ≤ i
    · exact .inl (cnt_clt aB (lt i (Nat.le_refl _) (.inr h1) c hc))
    · rcases hb' with h | h
      · right; omega
      · exact .inl (cnt_clt aB (h c hc))
theorem ok_carry {n kp : Nat} {g : Int → PyData} {S : Int → Prop} (o : OrdN n g S) (z0 : S 0) (z1 : S 1) (F : Fun K "carry_turns" "carry_turns" S_carry_turns f fd) (B : Blt mg) (Cshorter_first : Has P w K mg base 1 "shorter_first" P_shorter_first [] (spShort K)) (Cis_less : Has P w K mg base (2 * n + 2) "is_less" P_is_less [] (spLess K g S))
    (Cturns_up_to : Has P w K mg base (2 * n + 5) "turns_up_to" P_turns_up_to [] (spUpTo K g S)) (Cplus_one : Has P w K mg base kp "plus_one" ["x"] [] (spNext K g S)) : FnOk P w K mg base CX0 (2 * n + kp + 6) f fd P_carry_turns (spCarry K g S) := by
  have nd := sc_carry_turns.nd
  refine F.ok sc_carry_turns (fun vs H Q E h => ?_) (fun cdv A outer s H vs Q E hr h => ?_)
  · obtain ⟨a, b, l, m, k, rfl, _⟩ := h
    rfl
  obtain ⟨a, b, l, m, k0, rfl, hl, hm, al, am, sl, sm, l4, hk0, q⟩ := h
  refine ⟨_, (pss_cons (ps_asg (pe_H Cshorter_first (hr.mono (by omega)) rfl (pa_cons (pv 0) (pa_cons (pv 1) pa_nil))) (pg_tup rfl (pgs_cons (pg_name (i := 3) nd rfl (Or.inl rfl)) (pgs_cons (pg_name (i := 4) nd rfl (Or.inl rfl)) pgs_nil))))
    (pss_cons (ps_set (i := 5) nd rfl (Or.inl rfl) (pe_lst pa_nil))
    (C8.pss_cut (ps_if (pt_cmpR op_eq (pv 2) pe_int (nomark _)) (pss_one (ps_expr (pe_bm PySem.F.plainAttrs_list PySem.F.slot_list_append PySem.F.type_list_append mt_append (pv 5) (pa_cons pe_int pa_nil)))) pss_nil)
    (pss_cons (ps_set (i := 6) nd rfl (Or.inl rfl) (pv 2))
    (pss_cons (ps_set (i := 7) nd rfl (Or.inl rfl) pe_int)
    (pss_cons (ps_for PassesOwn.never rfl (pi_range1 (by rfl) B.range (pa_cons (pe_op op_add (pe_callB (call_lenS K) (by rfl) B.len PySem.boot_len (pa_cons (pv 3) pa_nil)) pe_int) pa_nil)) (pg_name (i := 8) nd rfl (Or.inl rfl)) (pss_cons (ps_set (i := 9) nd rfl (Or.inl rfl) (pe_op op_and (pv 8) pe_int))
    (pss_cons (ps_if (pt_cmpR op_eq (pv 9) (pv 6) (nomark _)) (pss_one ps_continue) pss_nil)
    (C8.pss_cut (ps_set (i := 10) nd rfl (Or.inl rfl) (pe_ifExp (pt_cmpR op_gt (pv 8) pe_int (nomark _)) (pe_ix (ix_seqK K) (pv 3) (pe_op op_sub (pv 8) pe_int) (fun _ _ => rfl)) pe_int))
    (pss_cons (ps_set (i := 7) nd rfl (Or.inl rfl) (pe_H Cturns_up_to (hr.mono (by omega)) rfl (pa_cons (pv 4) (pa_cons (pv 10) (pa_cons (pv 7) pa_nil)))))
    (C8.pss_cut (ps_if (PW.pt (pw_and (pt_cmpR op_ne (pe_op op_and (pv 7) pe_int) (pv 9) (nomark _)) (pw_and1 (pt_cmpR op_eq (pv 7) (pe_callB (call_lenS K) (by rfl) B.len PySem.boot_len (pa_cons (pv 4) pa_nil)) (nomark _))))) (pss_one ps_continue) pss_nil)
    (C8.pss_cut (ps_set (i := 11) nd rfl (Or.inl rfl) (pe_ifExp (pt_cmpR op_eq (pe_op op_and (pv 7) pe_int) (pv 9) (nomark _)) (pv 10) (pe_ix (ix_seqK K) (pv 4) (pv 7) (fun _ _ => rfl))))
    (pss_one (ps_if (PW.pt (pw_or (pt_cmpR op_eq (pv 8) (pe_callB (call_lenS K) (by rfl) B.len PySem.boot_len (pa_cons (pv 3) pa_nil)) (nomark _)) (pw_or1 (pt_val (pe_H Cis_less (hr.mono (by omega)) rfl (pa_cons (pv 11) (pa_cons (pe_ix (ix_seqK K) (pv 3) (pv 8) (fun _ _ => rfl)) pa_nil))))))) (pss_cons (ps_expr (pe_bm PySem.F.plainAttrs_list PySem.F.slot_list_append PySem.F.type_list_append mt_append (pv 5) (pa_cons (pe_H Cplus_one (hr.mono (by omega)) rfl (pa_cons (pv 11) pa_nil)) pa_nil)))
    (pss_one (ps_set (i := 6) nd rfl (Or.inl rfl) (pv 9)))) pss_nil)))))))))
    (pss_one (ps_ret (pv 5))))))))), ?_⟩
  obtain ⟨xs, hs, lxs, _, _⟩ := hl.at
  obtain ⟨ys, ht, lys, _, _⟩ := hm.at
  refine ⟨_, rfl, _, rfl, a, b, xs, ys, rfl, hs, ht, fun t H1 e1 hT => ?_⟩
  obtain ⟨u, v, fa, fb, ep, e2, hA, hB, aA, aB, sA, sB, lAB⟩ := two_pls (S := fun t => S t ∧ S (t + 1) ∧ 0 ≤ t) lxs lys (hl.same e1) (hm.same e1) al am sl sm
  rw [ep] at hT
  rw [e2] at q
  obtain ⟨as, ha, la, dA, atA⟩ := hA.at
  obtain ⟨bs, hb, lb, dB, atB⟩ := hB.at
  have g0 : g 0 = .int 0 := o.near 0 z0 (by decide)
  refine ⟨_, _, rfl, hT, rfl, _, _, rfl, _, _, rfl, rfl, ?_⟩
  refine ⟨(by show 0 ≤ sizeLine; decide), fun p np => ?_⟩
  refine ⟨fun σ H' => ∃ us : List V, σ = [some (.ref a), some (.ref b), some (.int (k0 : Int)), some (.ref u), some (.ref v), some (.ref p), none, none, none, none, none, none] ∧ Same H1 H' ∧ H' p = some (.lst us) ∧ DpAll K H' us ((if k0 = 1 then [0] else []).map g), ?_, ?_⟩
  · refine ⟨_, rfl, rfl, _, rfl, ?_⟩
    refine iteD (fun c => ?_) (fun c => ?_)
    · have c' : k0 = 1 := by injection c with c; omega
      refine ⟨_, rfl, .inl ⟨rfl, _, SqL.of upd_same⟩, p, [], .int 0, rfl, rfl, upd_same, (by decide), _, rfl, Same.mut (Same.new np) np, upd_same, ?_⟩
      rw [if_pos c']
      show DpAll K _ [.int 0] [g 0]
      rw [g0]
      exact .cons (.int 0) .nil
    · have c' : k0 ≠ 1 := fun h => c (by rw [h]; rfl)
      refine ⟨[], rfl, Same.new np, upd_same, ?_⟩
      rw [if_neg c']
      exact .nil
  rintro σ H2 ⟨us0, rfl, e2', hp2, d2⟩
  refine ⟨_, rfl, ?_⟩
  refine ⟨_, rfl, u, as, rfl, ha.same e2', _, _, rfl, rfl, _, rfl, (by omega), (by omega), ?_⟩
  rw [show ((as.length : Int) + 1).toNat = fa.length + 1 by omega]
  have sBS : ∀ t ∈ fb, S t := fun t h => (sB t h).1
  refine for_range (lo := 0) (n := fa.length + 1) (fun i σ H' => ∃ (us : List V) (M : List Int) (bin sta att : Nat) (z8 z9 z10 z11 : Option V), σ = [some (.ref a), some (.ref b), some (.int (k0 : Int)), some (.ref u), some (.ref v), some (.ref p), some (.int (bin : Int)), some (.int (att : Int)), z8, z9, z10, z11] ∧ Go fa fb i bin att ∧ Same H1 H' ∧ H' p = some (.lst us) ∧ DpAll K H' us (M.map g) ∧ (∀ t ∈ M, S t) ∧ bin ≤ 1 ∧ M.length ≤ i + 1 ∧
      (i ≤ fa.length → (i = 0 ∧ sta = 0 ∨ 1 ≤ i ∧ fa[i - 1]? = some (sta : Int)) ∧ M ++ carL fb (fa.drop i) (i % 2) sta bin = carT fa fb k0) ∧ (i = fa.length + 1 → M = carT fa fb k0))
    ⟨us0, _, k0, 0, 0, _, _, _, _, rfl, ⟨fun c _ => Nat.zero_le _, fun c h => by omega, fun _ => rfl⟩, e2', hp2, d2, (fun t ht => by split at ht <;> simp at ht; rw [ht]; exact z0), hk0, (by split <;> simp), fun _ => ⟨.inl ⟨rfl, rfl⟩, rfl⟩, fun h => by omega⟩ (fun i σ H' hi h => ?_) (fun σ H' h => ?_)
  · obtain ⟨us, M, bin, sta, att, z8, z9, z10, z11, rfl, go, e, hp, dM, sM, hbin, lM, here, _⟩ := h
    obtain ⟨hst, eq⟩ := here (by omega)
    have ei : (0 : Int) + (i : Nat) = ((i : Nat) : Int) := by omega
    rw [ei]
    have Ssta : S (sta : Int) ∧ S ((sta : Int) + 1) := by
      rcases hst with ⟨_, h⟩ | ⟨_, h⟩
      · subst h; exact ⟨z0, z1⟩
      · have := sA _ (List.mem_of_getElem? h)
        exact ⟨this.1, this.2.1⟩
    have fin : ∀ (us' : List V) (M' : List Int) (bin' att' : Nat) (H' : Hp) (y8 y9 y10 y11 : Option V), Go fa fb (i + 1) bin' att' → Same H1 H' → H' p = some (.lst us') → DpAll K H' us' (M'.map g) → (∀ t ∈ M', S t) → bin' ≤ 1 → M'.length ≤ i + 2 → M' ++ nxt fb (fa.drop i) (i % 2) bin' = carT fa fb k0 →
        ∃ (us : List V) (M : List Int) (bin sta att : Nat) (z8 z9 z10 z11 : Option V), ([some (.ref a), some (.ref b), some (.int (k0 : Int)), some (.ref u), some (.ref v), some (.ref p), some (.int (bin' : Int)), some (.int (att' : Int)), y8, y9, y10, y11] : L2.St) = [some (.ref a), some (.ref b), some (.int (k0 : Int)), some (.ref u), some (.ref v), some (.ref p), some (.int (bin : Int)), some (.int (att : Int)), z8, z9, z10, z11] ∧ Go fa fb (i + 1) bin att ∧ Same H1 H' ∧ H' p = some (.lst us) ∧ DpAll K H' us (M.map g) ∧ (∀ t ∈ M, S t) ∧ bin ≤ 1 ∧ M.length ≤ i + 1 + 1 ∧
          (i + 1 ≤ fa.length → (i + 1 = 0 ∧ sta = 0 ∨ 1 ≤ i + 1 ∧ fa[i + 1 - 1]? = some (sta : Int)) ∧ M ++ carL fb (fa.drop (i + 1)) ((i + 1) % 2) sta bin = carT fa fb k0) ∧ (i + 1 = fa.length + 1 → M = carT fa fb k0) := by
      intro us' M' bin' att' H' y8 y9 y10 y11 g0 g1 g2 g3 g4 g5 g6 g7
      by_cases hil : i < fa.length
      · obtain ⟨c, hc⟩ : ∃ c, fa[i]? = some c := ⟨_, List.getElem?_eq_getElem hil⟩
        have dr : fa.drop i = c :: fa.drop (i + 1) := by
          obtain ⟨h1, h2⟩ := List.getElem?_eq_some_iff.mp hc
          rw [List.drop_eq_getElem_cons h1, h2]
        have c0 := (sA c (List.mem_of_getElem? hc)).2.2
        refine ⟨us', M', bin', c.toNat, att', _, _, _, _, rfl, g0, g1, g2, g3, g4, g5, by omega, fun _ => ⟨.inr ⟨by omega, ?_⟩, ?_⟩, fun h => by omega⟩
        · rw [show ((c.toNat : Nat) : Int) = c by omega]; exact hc
        · rw [dr] at g7
          rw [show (i + 1) % 2 = 1 - i % 2 by omega]
          exact g7
      · refine ⟨us', M', bin', 0, att', _, _, _, _, rfl, g0, g1, g2, g3, g4, g5, by omega, fun h => by omega, fun _ => ?_⟩
        rw [List.drop_of_length_le (by omega)] at g7
        have g7 : M' ++ [] = carT fa fb k0 := g7
        rw [List.append_nil] at g7
        exact g7
    refine ⟨_, rfl, _, _, rfl, rfl, ?_⟩
    dsimp only
    rw [bitk]
    refine ⟨_, rfl, _, rfl, rfl, _, rfl, ?_⟩
    refine iteD (fun cc => ?_) (fun cc => ?_)
    · have hb1 : i % 2 = bin := by injection cc with cc; omega
      rw [carL_same hb1] at eq
      exact fin us M bin att H' _ _ _ _ go.same e hp dM sM hbin (by omega) eq
    have hb1 : i % 2 ≠ bin := fun h => cc (by rw [h])
    refine ⟨fun σ' H'' => ∃ w : V, σ' = [some (.ref a), some (.ref b), some (.int (k0 : Int)), some (.ref u), some (.ref v), some (.ref p), some (.int (bin : Int)), some (.int (att : Int)), some (.int (i : Int)), some (.int ((i % 2 : Nat) : Int)), some w, z11] ∧ H'' = H' ∧ Dp K H' w (g (sta : Int)), ?_, ?_⟩
    · refine ⟨_, rfl, _, _, rfl, rfl, _, rfl, ?_⟩
      refine iteD (fun c => ?_) (fun c => ?_)
      · rcases hst with ⟨h, _⟩ | ⟨h1, h⟩
        · omega
        · obtain ⟨w, hw, dw⟩ := atA _ _ h
          refine ⟨_, rfl, _, rfl, _, _, rfl, rfl, rIx_sq (v := w) (ha.same e) (by show atI as ((i : Int) - 1) = _; rw [show (i : Int) - 1 = ((i - 1 : Nat) : Int) by omega]; exact atI_nat hw) ?_⟩
          exact ⟨w, rfl, rfl, (Nd.of e).d dw⟩
      · rcases hst with ⟨h, h0⟩ | ⟨h1, h⟩
        · subst h0
          refine ⟨.int 0, rfl, rfl, ?_⟩
          show Dp K H' (.int 0) (g 0)
          rw [g0]
          exact .int 0
        · omega
    rintro σ' H'' ⟨w, rfl, rfl, dw⟩
    have hat : att ≤ clt fb (sta : Int) := by
      rcases hst with ⟨h, _⟩ | ⟨h1, h⟩
      · rw [go.2.2 h]; exact Nat.zero_le _
      · exact (go.2.1 _ h1 h).resolve_right hb1
    have pA : ∀ c ∈ fa, 0 ≤ c := fun c h => (sA c h).2.2
    refine ⟨_, rfl, _, rfl, _, rfl, v, w, fb, (sta : Int), att, rfl, hB.same e, dw, aB, sBS, Ssta.1, hat, by omega, fun H3 e3 => ?_⟩
    have e13 := e.trans e3
    have hp3 := e3 _ _ hp
    have cl := cnt_le fb (sta : Int)
    refine ⟨fun σ' H'' => (∃ q, turnAt fb (i % 2) sta = some q) ∧ σ' = [some (.ref a), some (.ref b), some (.int (k0 : Int)), some (.ref u), some (.ref v), some (.ref p), some (.int (bin : Int)), some (.int (cnt fb (sta : Int) : Int)), some (.int (i : Int)), some (.int ((i % 2 : Nat) : Int)), some w, z11] ∧ H'' = H3, ?_, ?_⟩
    · refine ⟨_, rfl, _, _, rfl, rfl, _, rfl, rfl, _, rfl, ?_⟩
      have bk := bitk (cnt fb (sta : Int))
      refine iteDN (fun c1 => ?_) (fun c1 => ?_)
      · have c1' : cnt fb (sta : Int) % 2 ≠ i % 2 := fun h => c1 (by rw [← h, ← bk])
        refine ⟨_, rfl, _, rfl, v, bs, rfl, hb.same e13, rfl, _, rfl, ?_⟩
        refine iteD (fun c2 => ?_) (fun c2 => ?_)
        · have c2' : cnt fb (sta : Int) = fb.length := by injection c2 with c2; omega
          have tn : turnAt fb (i % 2) sta = none := by
            unfold turnAt
            rw [if_neg c1']
            exact List.getElem?_eq_none_iff.mpr (by omega)
          rw [carL_none hb1 tn] at eq
          exact fin us M bin _ H3 _ _ _ _ (Go.new aA aB pA hst hb1 hbin (.inl rfl)) e13 hp3 ((Nd.of e3).ds dM) sM hbin (by omega) eq
        · have c2' : cnt fb (sta : Int) < fb.length := by
            have : cnt fb (sta : Int) ≠ fb.length := fun h => c2 (by rw [h, lb])
            omega
          have tq : ∃ q, turnAt fb (i % 2) sta = some q := by
            obtain ⟨q, hq⟩ : ∃ q, fb[cnt fb (sta : Int)]? = some q := ⟨_, List.getElem?_eq_getElem c2'⟩
            refine ⟨q, ?_⟩
            unfold turnAt
            rw [if_neg c1']
            exact hq
          exact ⟨tq, rfl, rfl⟩
      · have c1' : cnt fb (sta : Int) % 2 = i % 2 := by injection c1 with c1; rw [bk] at c1; omega
        refine iteF ⟨⟨(sta : Int), ?_⟩, rfl, rfl⟩
        unfold turnAt
        rw [if_pos c1']
    rintro σ' H'' ⟨⟨q0, hq⟩, rfl, he⟩
    rw [he]
    clear he
    obtain ⟨qge, qin⟩ := turn_ge aB hq
    have Sq0 : S q0 ∧ S (q0 + 1) := by
      rcases qin with h | h
      · rw [h]; exact Ssta
      · exact ⟨(sB q0 h).1, (sB q0 h).2.1⟩
    refine ⟨fun σ' H'' => ∃ w' : V, σ' = [some (.ref a), some (.ref b), some (.int (k0 : Int)), some (.ref u), some (.ref v), some (.ref p), some (.int (bin : Int)), some (.int (cnt fb (sta : Int) : Int)), some (.int (i : Int)), some (.int ((i % 2 : Nat) : Int)), some w, some w'] ∧ H'' = H3 ∧ Dp K H3 w' (g q0), ?_, ?_⟩
    · refine ⟨_, rfl, _, _, rfl, rfl, _, rfl, rfl, _, rfl, ?_⟩
      have bk := bitk (cnt fb (sta : Int))
      unfold turnAt at hq
      refine iteD (fun c1 => ?_) (fun c1 => ?_)
      · have c1' : cnt fb (sta : Int) % 2 = i % 2 := by injection c1 with c1; rw [bk] at c1; omega
        rw [if_pos c1'] at hq
        cases hq
        exact ⟨_, rfl, w, rfl, rfl, (Nd.of e3).d dw⟩
      · have c1' : cnt fb (sta : Int) % 2 ≠ i % 2 := fun h => c1 (by rw [← h, ← bk])
        rw [if_neg c1'] at hq
        obtain ⟨y, hy, dy⟩ := atB _ _ hq
        exact ⟨_, rfl, _, rfl, rIx_sq (v := y) (hb.same e13) (atI_nat hy) ⟨y, rfl, rfl, (Nd.of e13).d dy⟩⟩
    rintro σ' H'' ⟨w', rfl, he, dw'⟩
    rw [he]
    clear he
    have fin2 : ∀ (z : V) (H5 : Hp), Same H3 H5 → Dp K H5 z (g (q0 + 1)) → (∀ a', (fa.drop i).head? = some a' → q0 < a') → _ := fun z H5 g1 g2 g3 => by
      have hp5 := g1 _ _ hp3
      have dM5 : DpAll K H5 (us ++ [z]) ((M ++ [q0 + 1]).map g) := by
        rw [List.map_append]
        exact dps_app ((Nd.of (e3.trans g1)).ds dM) (.cons g2 .nil)
      have sM5 : ∀ t ∈ M ++ [q0 + 1], S t := fun t ht => by
        rcases List.mem_append.mp ht with h | h
        · exact sM t h
        · rw [List.mem_singleton.mp h]; exact Sq0.2
      rw [carL_turn hb1 hq g3] at eq
      exact fin (us ++ [z]) (M ++ [q0 + 1]) (i % 2) (cnt fb (sta : Int)) (upd H5 p (.lst (us ++ [z]))) (some (.int (i : Int))) (some (.int ((i % 2 : Nat) : Int))) (some w) (some w') (Go.new aA aB pA hst hb1 hbin (.inr fun c hc => by have := g3 c (by rw [List.head?_drop]; exact hc); omega)) (Same.mut (e13.trans g1) np) upd_same
        ((Td.lst hp5).ds (n := n) (fun x hx => by obtain ⟨t, ht, rfl⟩ := List.mem_map.mp hx; exact o.fm t (sM5 t ht)) dM5) sM5 (by omega) (by rw [List.length_append]; show M.length + 1 ≤ _; omega) (by rw [List.append_assoc]; exact eq)
    have lus : us.length < sizeLine := by
      rw [dps_length dM, List.length_map]
      exact Nat.lt_of_le_of_lt (show _ ≤ 40000 by omega) (by decide)
    refine ⟨_, rfl, _, rfl, u, as, rfl, ha.same e13, rfl, _, rfl, ?_⟩
    refine iteD (fun c1 => ?_) (fun c1 => ?_)
    · have c1' : i = fa.length := by injection c1 with c1; omega
      refine iteT ?_
      refine ⟨_, rfl, .inl ⟨rfl, _, SqL.of hp3⟩, _, rfl, w', q0, rfl, dw', Sq0.1, Sq0.2, fun z H5 g1 g2 => ?_⟩
      refine ⟨p, us, z, rfl, rfl, g1 _ _ hp3, lus, ?_⟩
      refine ⟨_, rfl, fin2 z H5 g1 g2 fun a' h' => ?_⟩
      rw [List.drop_of_length_le (by omega)] at h'
      cases h'
    · have c1' : i < fa.length := by
        have : i ≠ fa.length := fun h => c1 (by rw [la, ← h])
        omega
      obtain ⟨c, hc⟩ : ∃ c, fa[i]? = some c := ⟨_, List.getElem?_eq_getElem c1'⟩
      have hd : (fa.drop i).head? = some c := by rw [List.head?_drop]; exact hc
      obtain ⟨x, hx, dx⟩ := atA i c hc
      have Sc := (sA c (List.mem_of_getElem? hc)).1
      refine ⟨_, rfl, _, rfl, _, rfl, rIx_sq (v := x) (ha.same e13) (atI_nat hx) ?_⟩
      refine ⟨w', x, q0, c, rfl, dw', (Nd.of e13).d dx, Sq0.1, Sc, fun H4 e4 => ?_⟩
      refine ⟨_, rfl, ?_⟩
      have hp4 := e4 _ _ hp3
      refine iteD (fun c2 => ?_) (fun c2 => ?_)
      · refine ⟨_, rfl, .inl ⟨rfl, _, SqL.of hp4⟩, _, rfl, w', q0, rfl, (Nd.of e4).d dw', Sq0.1, Sq0.2, fun z H5 g1 g2 => ?_⟩
        refine ⟨p, us, z, rfl, rfl, g1 _ _ hp4, lus, ?_⟩
        refine ⟨_, rfl, fin2 z H5 (e4.trans g1) g2 fun a' h' => ?_⟩
        rw [hd] at h'
        cases h'
        exact c2
      · rw [carL_late hb1 hq hd c2] at eq
        exact fin us M bin _ H4 _ _ _ _ (Go.new aA aB pA hst hb1 hbin (.inl rfl)) (e13.trans e4) hp4 ((Nd.of (e3.trans e4)).ds dM) sM hbin (by omega) eq
  · obtain ⟨us, M, bin, sta, att, z8, z9, z10, z11, rfl, _, e, hp, dM, sM, hbin, lM, _, eq⟩ := h
    rw [eq rfl] at dM
    exact ⟨_, rfl, q p us _ (e1.trans e) hp dM⟩
end
end Fb
namespace Fb
open PySem L2
theorem form_num {n : Nat} {g : Int → PyData} {S : Int → Prop} (o : OrdN n g S) (n65 : g 65 = .int 65) {x : Int} (h0 : -(2 ^ 65) ≤ x) (h1 : x < 2 ^ 65) (hx : Num g S x) : formD x = numD g x := by
  have tl := turns_lt (x := x) (n := 65) h0 h1
  rcases num_cases o hx with ⟨pl, e, _⟩ | ⟨npl, e, _⟩
  · rw [e]
    unfold formD
    rw [if_pos pl]
  · rw [e]
    unfold formD
    rw [if_neg npl]
    congr 1
    unfold Tl zs nD
    rw [List.map_map]
    refine List.map_congr_left fun p hp => ?_
    show PyData.int ((p : Nat) : Int) = g ((p : Nat) : Int)
    have := tl p hp
    by_cases h : p ≤ 64
    · exact (o.near ((p : Nat) : Int) (hx.mem _ (List.mem_map.mpr ⟨p, hp, rfl⟩)) (by omega)).symm
    · have : p = 65 := by omega
      subst this
      exact n65.symm
theorem mrg_comm {A B : List Int} (hA : A.Pairwise (· < ·)) (pA : ∀ c ∈ A, 0 ≤ c) (hB : B.Pairwise (· < ·)) (pB : ∀ c ∈ B, 0 ≤ c) : mrg A B = mrg B A := by
  obtain ⟨a1, a2⟩ := mrg_ok hA hB
  obtain ⟨b1, b2⟩ := mrg_ok hB hA
  have q1 : ∀ c ∈ mrg A B, 0 ≤ c := fun c h => (mrg_mem h).elim (pA c) (pB c)
  have q2 : ∀ c ∈ mrg B A, 0 ≤ c := fun c h => (mrg_mem h).elim (pB c) (pA c)
  have t2 := asc_toNat q2 b1
  have k : ∀ p : Nat, (((cnt (mrg B A) (p : Int)) % 2 : Nat) : Int) = Bt p (alt (-1) ((mrg B A).map Int.toNat)) := fun p => by rw [bt_alt p _ t2, ← cnt_zs, zs_toNat q2]
  rw [tl_of b1 q2 k]
  refine tl_of a1 q1 fun p => ?_
  rw [← k p, a2, b2, Nat.add_comm]
theorem com_mem {x y t : Int} (h : t ∈ Tl (Builtin.bitAnd x y)) : t ∈ Tl x ∨ t ∈ Tl y := by
  rw [← com_tl] at h
  exact ((com_ok (tl_asc y) (tl_asc x)).2.1 t h).1
theorem xor_mem {x y t : Int} (h : t ∈ Tl (Builtin.bitXor x y)) : t ∈ Tl x ∨ t ∈ Tl y := by
  rw [← mrg_tl] at h
  exact mrg_mem h
theorem not_mem {x t : Int} (h : t ∈ Tl (-x - 1)) : t = 0 ∨ t ∈ Tl x := by
  rw [← flp_tl] at h
  unfold flp at h
  split at h
  · rename_i r e
    rw [e]
    exact .inr (List.mem_cons_of_mem _ h)
  · rcases List.mem_cons.mp h with h | h
    · exact .inl h
    · exact .inr h
theorem plain_and {x y : Int} (hx : plain x) (hy : plain y) : plain (Builtin.bitAnd x y) := tl_near.mpr fun c h => (com_mem h).elim (tl_near.mp hx c) (tl_near.mp hy c)
theorem plain_xor {x y : Int} (hx : plain x) (hy : plain y) : plain (Builtin.bitXor x y) := tl_near.mpr fun c h => (xor_mem h).elim (tl_near.mp hx c) (tl_near.mp hy c)
theorem num_pl {n : Nat} {g : Int → PyData} {S : Int → Prop} (o : OrdN n g S) {z : Int} (hz : Num g S z) (h : plain z) : numD g z = .int z := by
  rcases num_cases o hz with ⟨_, e, _⟩ | ⟨npl, _⟩
  · exact e
  · exact absurd h npl
theorem near_bin {n : Nat} {g : Int → PyData} {S : Int → Prop} (o : OrdN n g S) {x y w W : Int} (nx : Num g S x) (ny : Num g S y) (hx : Near g x) (hy : Near g y) (hw : ∀ t ∈ Tl w, t ∈ Tl x ∨ t ∈ Tl y) (e : Tl W = (Tl w).map (mv g)) :
    Tl W = (Tl w).map (mv g) ∧ InB W ∧ ∀ c ∈ Tl w, g c = .int (mv g c) := by
  have hg : ∀ c ∈ Tl w, g c = .int (mv g c) ∧ mv g c ≤ 520000 := fun c hc => (hw c hc).elim (fun h => ⟨(hx c h).1, (hx c h).2.2⟩) (fun h => ⟨(hy c h).1, (hy c h).2.2⟩)
  refine ⟨e, inB_tl (b := 520000) (by decide) fun c hc => ?_, fun c hc => (hg c hc).1⟩
  rw [e] at hc
  obtain ⟨t, ht, rfl⟩ := List.mem_map.mp hc
  exact (hg t ht).2
theorem near_R {n : Nat} {g : Int → PyData} {S : Int → Prop} (o : OrdN n g S) {x y : Int} (nx : Num g S x) (ny : Num g S y) (hx : Near g x) (hy : Near g y) : ∀ c d, (c ∈ Tl x ∨ c ∈ Tl y) → (d ∈ Tl x ∨ d ∈ Tl y) → (mv g c < mv g d ↔ c < d) := fun c d hc hd =>
  mv_mono o (hc.elim (nx.mem c) (ny.mem c)) (hd.elim (nx.mem d) (ny.mem d)) (hc.elim (fun h => (hx c h).1) (fun h => (hy c h).1)) (hd.elim (fun h => (hx d h).1) (fun h => (hy d h).1))
theorem near_bitAnd {n : Nat} {g : Int → PyData} {S : Int → Prop} (o : OrdN n g S) {x y : Int} (nx : Num g S x) (ny : Num g S y) (hx : Near g x) (hy : Near g y) :
    Tl (Builtin.bitAnd (XN g x) (XN g y)) = (Tl (Builtin.bitAnd x y)).map (mv g) ∧ InB (Builtin.bitAnd (XN g x) (XN g y)) ∧ ∀ c ∈ Tl (Builtin.bitAnd x y), g c = .int (mv g c) :=
  near_bin o nx ny hx hy (fun t => com_mem) (by
    rw [← com_tl, tl_XN o nx hx, tl_XN o ny hy, com_map (near_R o nx ny hx hy) (fun c h => .inr h) (fun c h => .inl h), com_tl])
theorem near_bitXor {n : Nat} {g : Int → PyData} {S : Int → Prop} (o : OrdN n g S) {x y : Int} (nx : Num g S x) (ny : Num g S y) (hx : Near g x) (hy : Near g y) :
    Tl (Builtin.bitXor (XN g x) (XN g y)) = (Tl (Builtin.bitXor x y)).map (mv g) ∧ InB (Builtin.bitXor (XN g x) (XN g y)) ∧ ∀ c ∈ Tl (Builtin.bitXor x y), g c = .int (mv g c) :=
  near_bin o nx ny hx hy (fun t => xor_mem) (by
    rw [← mrg_tl, tl_XN o nx hx, tl_XN o ny hy, mrg_map (near_R o nx ny hx hy) (fun c h => .inl h) (fun c h => .inr h), mrg_tl])
section
variable {P : Program} {w : World} {K : PySem.W.Frag} {mg : Str → Option Value} {base : Heap} {f : Addr} {fd : FuncData}
abbrev S_flip : Stmt := top 86
abbrev N_flip : List Str := ["x"]
abbrev P_flip : List Str := ["x"]
theorem sc_flip : FnScope N_flip P_flip (defScope S_flip) := ⟨rfl, rfl, rfl, by decide +kernel, rfl, by decide +kernel, by decide +kernel⟩
def spNum1 (K : PySem.W.Frag) (g : Int → PyData) (S : Int → Prop) (r : Int → Int) : Sp := fun vs H Q _ => ∃ (v : V) (z : Int), vs = [v] ∧ Dp K H v (numD g z) ∧ Num g S z ∧ Num g S (r z) ∧ ∀ (v' : V) (H' : Hp), Same H H' → Dp K H' v' (numD g (r z)) → Q v' H'
theorem ok_flipn {n : Nat} {g : Int → PyData} {S : Int → Prop} (o : OrdN n g S) (F : Fun K "flip" "flip" S_flip f fd) (B : Blt mg) (Cform_with : Has P w K mg base 3 "form_with" P_form_with [] (spWith K g S)) (Cflipped_turns : Has P w K mg base 1 "flipped_turns" P_flipped_turns [] (spFlip K g S)) : FnOk P w K mg base CX0 4 f fd P_flip (spNum1 K g S fun z => -z - 1) := by
  have nd := sc_flip.nd
  refine F.ok sc_flip (fun vs H Q E h => ?_) (fun cdv A outer s H vs Q E hr h => ?_)
  · obtain ⟨v, z, rfl, _⟩ := h
    rfl
  obtain ⟨v, z, rfl, hd, hz, hz', q⟩ := h
  refine ⟨_, (pss_cons (ps_if (pt_val (pe_callB (call_isiI K) (by rfl) B.isinstance (by decide +kernel) (pa_cons (pv 0) (pa_cons (pe_bltn (by rfl) B.int (by decide +kernel) (show RelV (.ty "int") (.type "int") from rfl)) pa_nil)))) (pss_one (ps_ret (pe_un un_inv (pv 0)))) pss_nil)
    (pss_one (ps_ret (pe_H Cform_with (hr.mono (by decide)) rfl (pa_cons (pe_H Cflipped_turns (hr.mono (by decide)) rfl (pa_cons (pv 0) pa_nil)) pa_nil))))), ?_⟩
  refine ⟨_, rfl, _, _, rfl, hd, _, rfl, ?_⟩
  rcases num_cases o hz with ⟨pl, e, ed⟩ | ⟨npl, e, _⟩
  · rw [e] at hd ⊢
    cases hd
    refine iteT ?_
    refine ⟨_, rfl, _, rfl, ?_⟩
    have eb : Builtin.bitNot z = -z - 1 := by unfold Builtin.bitNot; omega
    have pl' : plain (-z - 1) := ⟨by have := pl.2; omega, by have := pl.1; omega⟩
    have k := q (.int (-z - 1)) H (Same.refl H)
    rw [num_pl o hz' pl'] at k
    show Q (.int (Builtin.bitNot z)) H
    rw [eb]
    exact k (.int _)
  · rw [e] at hd ⊢
    cases hd with
    | tup hs ha =>
    refine iteF ?_
    refine ⟨_, rfl, _, Tl z, rfl, ⟨_, .inr hs, ha⟩, hz.mem, by have := hz.len; omega, fun p us H1 e1 hp dp => ?_⟩
    refine ⟨p, -z - 1, rfl, ⟨us, .inl hp, ?_⟩, hz', fun v' H2 e2 d2 => q v' H2 (e1.trans e2) d2⟩
    rw [← flp_tl]
    exact dp
abbrev S_both : Stmt := top 87
abbrev N_both : List Str := ["x", "y"]
abbrev P_both : List Str := ["x", "y"]
theorem sc_both : FnScope N_both P_both (defScope S_both) := ⟨rfl, rfl, rfl, by decide +kernel, rfl, by decide +kernel, by decide +kernel⟩
def spNum2 (K : PySem.W.Frag) (g : Int → PyData) (S : Int → Prop) (r : Int → Int → Int) : Sp := fun vs H Q _ => ∃ (v u : V) (x y : Int), vs = [v, u] ∧ Dp K H v (numD g x) ∧ Dp K H u (numD g y) ∧ Num g S x ∧ Num g S y ∧ Lo2 g x y ∧ Num g S (r x y) ∧ ∀ (v' : V) (H' : Hp), Same H H' → Dp K H' v' (numD g (r x y)) → Q v' H'
/-- which of two numbers are ints -/
theorem two_cases {n : Nat} {g : Int → PyData} {S : Int → Prop} (o : OrdN n g S) {x y : Int} (hx : Num g S x) (hy : Num g S y) :
    (plain x ∧ plain y ∧ numD g x = .int x ∧ numD g y = .int y) ∨ (isI (numD g x) && isI (numD g y)) = false := by
  rcases num_cases o hx with ⟨p1, e1, _⟩ | ⟨_, e1, _⟩ <;> rcases num_cases o hy with ⟨p2, e2, _⟩ | ⟨_, e2, _⟩
  · exact .inl ⟨p1, p2, e1, e2⟩
  · right; rw [e1, e2]; rfl
  · right; rw [e1, e2]; rfl
  · right; rw [e1, e2]; rfl
theorem fm2_tl (x y : Int) : mrg (fm2 (Tl x) (Tl y)).1 (fm2 (Tl x) (Tl y)).2 = Tl (Builtin.bitXor x y) := by
  unfold fm2
  split
  · exact mrg_tl x y
  · rw [bxor_comm]; exact mrg_tl y x
theorem fm2_com (x y : Int) : com (fm2 (Tl x) (Tl y)).2 (fm2 (Tl x) (Tl y)).1 = Tl (Builtin.bitAnd x y) := by
  unfold fm2
  split
  · exact com_tl x y
  · rw [PyProof.Rows.bitAnd_comm]; exact com_tl y x
def Lo4 (_ : Int → PyData) (x y : Int) : Prop := (Tl x).length + (Tl y).length ≤ 4000
/-- two numbers whose turns are few enough for the common ones -/
def spNumA (K : PySem.W.Frag) (g : Int → PyData) (S : Int → Prop) (r : Int → Int → Int) : Sp := fun vs H Q _ => ∃ (v u : V) (x y : Int), vs = [v, u] ∧ Dp K H v (numD g x) ∧ Dp K H u (numD g y) ∧ Num g S x ∧ Num g S y ∧ Lo4 g x y ∧ Num g S (r x y) ∧ ∀ (v' : V) (H' : Hp), Same H H' → Dp K H' v' (numD g (r x y)) → Q v' H'
theorem ok_both {n : Nat} {g : Int → PyData} {S : Int → Prop} (o : OrdN n g S) (F : Fun K "both" "both" S_both f fd) (B : Blt mg) (Cform_with : Has P w K mg base 3 "form_with" P_form_with [] (spWith K g S)) (Ccommon_turns : Has P w K mg base (2 * n + 6) "common_turns" P_common_turns [] (spCommon K g S))
    (Cturns_in : Has P w K mg base 3 "turns_in" P_turns_in [] (spTin K g S)) (Care_near : Has P w K mg base 2 "are_near" P_are_near [] (spAreNear K g S)) (Cint_of_form : Has P w K mg base 3 "int_of_form" P_int_of_form [] (spIof K g S)) (Cform_of_int : Has P w K mg base 3 "form_of_int" P_form_of_int [] (spFoi K)) : FnOk P w K mg base CX0 (2 * n + 7) f fd P_both (spNumA K g S Builtin.bitAnd) := by
  have nd := sc_both.nd
  refine F.ok sc_both (fun vs H Q E h => ?_) (fun cdv A outer s H vs Q E hr h => ?_)
  · obtain ⟨v, u, x, y, rfl, _⟩ := h
    rfl
  obtain ⟨v, u, x, y, rfl, hx, hy, nx, ny, l4, nr, q⟩ := h
  have l4' : (Tl x).length + (Tl y).length ≤ 4000 := l4
  have lxy : Lo2 g x y := by show _ ≤ 8000; omega
  refine ⟨_, (C8.pss_cut (ps_if (PW.pt (pw_and (pt_val (pe_callB (call_isiI K) (by rfl) B.isinstance (by decide +kernel) (pa_cons (pv 0) (pa_cons (pe_bltn (by rfl) B.int (by decide +kernel) (show RelV (.ty "int") (.type "int") from rfl)) pa_nil)))) (pw_and1 (pt_val (pe_callB (call_isiI K) (by rfl) B.isinstance (by decide +kernel) (pa_cons (pv 1) (pa_cons (pe_bltn (by rfl) B.int (by decide +kernel) (show RelV (.ty "int") (.type "int") from rfl)) pa_nil))))))) (pss_one (ps_ret (pe_op op_and (pv 0) (pv 1)))) pss_nil)
    (pss_cons (ps_if (pt_val (pe_H Care_near (hr.mono (by omega)) rfl (pa_cons (pv 0) (pa_cons (pv 1) pa_nil)))) (pss_one (ps_ret (pe_H Cform_of_int (hr.mono (by omega)) rfl (pa_cons (pe_op op_and (pe_H Cint_of_form (hr.mono (by omega)) rfl (pa_cons (pv 0) pa_nil)) (pe_H Cint_of_form (hr.mono (by omega)) rfl (pa_cons (pv 1) pa_nil))) pa_nil)))) pss_nil)
    (pss_one (ps_ret (pe_H Cform_with (hr.mono (by omega)) rfl (pa_cons (pe_H Ccommon_turns (hr.mono (by omega)) rfl (pa_cons (pe_H Cturns_in (hr.mono (by omega)) rfl (pa_cons (pv 0) pa_nil)) (pa_cons (pe_H Cturns_in (hr.mono (by omega)) rfl (pa_cons (pv 1) pa_nil)) pa_nil))) pa_nil)))))), ?_⟩
  refine ⟨fun σ H' => σ = [some v, some u] ∧ H' = H ∧ ¬ (plain x ∧ plain y), ?_, ?_⟩
  · refine ⟨_, rfl, _, _, rfl, hx, _, rfl, ?_⟩
    rcases num_cases o nx with ⟨p1, e1, _⟩ | ⟨np1, e1, _⟩
    · rcases num_cases o ny with ⟨p2, e2, _⟩ | ⟨np2, e2, _⟩
      · rw [e1] at hx ⊢
        rw [e2] at hy
        cases hx
        cases hy
        refine iteT ?_
        refine ⟨_, rfl, _, _, rfl, .int _, _, rfl, ?_⟩
        refine iteT ?_
        have k := q (.int (Builtin.bitAnd x y)) H (Same.refl H)
        rw [num_pl o nr (plain_and p1 p2)] at k
        exact ⟨_, rfl, _, rfl, _, _, rfl, rfl, k (.int _)⟩
      · rw [show isI (numD g x) = true by rw [e1]; rfl]
        refine iteT ?_
        refine ⟨_, rfl, _, _, rfl, hy, _, rfl, ?_⟩
        rw [show isI (numD g y) = false by rw [e2]; rfl]
        exact iteF ⟨rfl, rfl, fun h => np2 h.2⟩
    · rw [show isI (numD g x) = false by rw [e1]; rfl]
      exact iteF ⟨rfl, rfl, fun h => np1 h.1⟩
  rintro σ H' ⟨rfl, rfl, np⟩
  refine ⟨_, rfl, _, rfl, v, u, x, y, rfl, hx, hy, nx, ny, lxy, np, fun b hb => ?_⟩
  refine ⟨_, rfl, ?_⟩
  cases b with
  | true =>
    refine iteT ?_
    obtain ⟨hn1, hn2, _⟩ := hb rfl
    refine ⟨_, rfl, v, x, rfl, hx, nx, hn1, fun H1 e1 => ?_⟩
    refine ⟨_, rfl, u, y, rfl, (Nd.of e1).d hy, ny, hn2, fun H2 e2 => ?_⟩
    obtain ⟨k1, k2, k3⟩ := near_bitAnd o nx ny hn1 hn2
    refine ⟨_, _, rfl, rfl, _, rfl, k2, fun v' H3 e3 d3 => ?_⟩
    rw [near_form k1 nr.len k3] at d3
    exact q v' H3 (e1.trans (e2.trans e3)) d3
  | false =>
    refine iteF ?_
    refine ⟨_, rfl, v, x, rfl, hx, nx, fun a H1 e1 pa => ?_⟩
    refine ⟨_, rfl, u, y, rfl, (Nd.of e1).d hy, ny, fun b H2 e2 pb => ?_⟩
    refine ⟨a, b, Tl x, Tl y, rfl, pa.same e2, pb, tl_asc x, tl_asc y, nx.mem, ny.mem, by omega, fun p us H3 e3 hp dp => ?_⟩
    rw [fm2_com] at dp
    exact ⟨p, _, rfl, ⟨us, .inl hp, dp⟩, nr, fun v' H4 e4 d4 => q v' H4 (e1.trans (e2.trans (e3.trans e4))) d4⟩
abbrev S_differ : Stmt := top 89
abbrev N_differ : List Str := ["x", "y"]
abbrev P_differ : List Str := ["x", "y"]
theorem sc_differ : FnScope N_differ P_differ (defScope S_differ) := ⟨rfl, rfl, rfl, by decide +kernel, rfl, by decide +kernel, by decide +kernel⟩
theorem ok_differ {n : Nat} {g : Int → PyData} {S : Int → Prop} (o : OrdN n g S) (F : Fun K "differ" "differ" S_differ f fd) (B : Blt mg) (Cform_with : Has P w K mg base 3 "form_with" P_form_with [] (spWith K g S)) (Cmerged_turns : Has P w K mg base (2 * n + 5) "merged_turns" P_merged_turns [] (spMerged K g S))
    (Cturns_in : Has P w K mg base 3 "turns_in" P_turns_in [] (spTin K g S)) (Care_near : Has P w K mg base 2 "are_near" P_are_near [] (spAreNear K g S)) (Cint_of_form : Has P w K mg base 3 "int_of_form" P_int_of_form [] (spIof K g S)) (Cform_of_int : Has P w K mg base 3 "form_of_int" P_form_of_int [] (spFoi K)) : FnOk P w K mg base CX0 (2 * n + 7) f fd P_differ (spNum2 K g S Builtin.bitXor) := by
  have nd := sc_differ.nd
  refine F.ok sc_differ (fun vs H Q E h => ?_) (fun cdv A outer s H vs Q E hr h => ?_)
  · obtain ⟨v, u, x, y, rfl, _⟩ := h
    rfl
  obtain ⟨v, u, x, y, rfl, hx, hy, nx, ny, lxy, nr, q⟩ := h
  refine ⟨_, (C8.pss_cut (ps_if (PW.pt (pw_and (pt_val (pe_callB (call_isiI K) (by rfl) B.isinstance (by decide +kernel) (pa_cons (pv 0) (pa_cons (pe_bltn (by rfl) B.int (by decide +kernel) (show RelV (.ty "int") (.type "int") from rfl)) pa_nil)))) (pw_and1 (pt_val (pe_callB (call_isiI K) (by rfl) B.isinstance (by decide +kernel) (pa_cons (pv 1) (pa_cons (pe_bltn (by rfl) B.int (by decide +kernel) (show RelV (.ty "int") (.type "int") from rfl)) pa_nil))))))) (pss_one (ps_ret (pe_op op_xor (pv 0) (pv 1)))) pss_nil)
    (pss_cons (ps_if (pt_val (pe_H Care_near (hr.mono (by omega)) rfl (pa_cons (pv 0) (pa_cons (pv 1) pa_nil)))) (pss_one (ps_ret (pe_H Cform_of_int (hr.mono (by omega)) rfl (pa_cons (pe_op op_xor (pe_H Cint_of_form (hr.mono (by omega)) rfl (pa_cons (pv 0) pa_nil)) (pe_H Cint_of_form (hr.mono (by omega)) rfl (pa_cons (pv 1) pa_nil))) pa_nil)))) pss_nil)
    (pss_one (ps_ret (pe_H Cform_with (hr.mono (by omega)) rfl (pa_cons (pe_H Cmerged_turns (hr.mono (by omega)) rfl (pa_cons (pe_H Cturns_in (hr.mono (by omega)) rfl (pa_cons (pv 0) pa_nil)) (pa_cons (pe_H Cturns_in (hr.mono (by omega)) rfl (pa_cons (pv 1) pa_nil)) pa_nil))) pa_nil)))))), ?_⟩
  refine ⟨fun σ H' => σ = [some v, some u] ∧ H' = H ∧ ¬ (plain x ∧ plain y), ?_, ?_⟩
  · refine ⟨_, rfl, _, _, rfl, hx, _, rfl, ?_⟩
    rcases num_cases o nx with ⟨p1, e1, _⟩ | ⟨np1, e1, _⟩
    · rcases num_cases o ny with ⟨p2, e2, _⟩ | ⟨np2, e2, _⟩
      · rw [e1] at hx ⊢
        rw [e2] at hy
        cases hx
        cases hy
        refine iteT ?_
        refine ⟨_, rfl, _, _, rfl, .int _, _, rfl, ?_⟩
        refine iteT ?_
        have k := q (.int (Builtin.bitXor x y)) H (Same.refl H)
        rw [num_pl o nr (plain_xor p1 p2)] at k
        exact ⟨_, rfl, _, rfl, _, _, rfl, rfl, k (.int _)⟩
      · rw [show isI (numD g x) = true by rw [e1]; rfl]
        refine iteT ?_
        refine ⟨_, rfl, _, _, rfl, hy, _, rfl, ?_⟩
        rw [show isI (numD g y) = false by rw [e2]; rfl]
        exact iteF ⟨rfl, rfl, fun h => np2 h.2⟩
    · rw [show isI (numD g x) = false by rw [e1]; rfl]
      exact iteF ⟨rfl, rfl, fun h => np1 h.1⟩
  rintro σ H' ⟨rfl, rfl, np⟩
  refine ⟨_, rfl, _, rfl, v, u, x, y, rfl, hx, hy, nx, ny, lxy, np, fun b hb => ?_⟩
  refine ⟨_, rfl, ?_⟩
  cases b with
  | true =>
    refine iteT ?_
    obtain ⟨hn1, hn2, _⟩ := hb rfl
    refine ⟨_, rfl, v, x, rfl, hx, nx, hn1, fun H1 e1 => ?_⟩
    refine ⟨_, rfl, u, y, rfl, (Nd.of e1).d hy, ny, hn2, fun H2 e2 => ?_⟩
    obtain ⟨k1, k2, k3⟩ := near_bitXor o nx ny hn1 hn2
    refine ⟨_, _, rfl, rfl, _, rfl, k2, fun v' H3 e3 d3 => ?_⟩
    rw [near_form k1 nr.len k3] at d3
    exact q v' H3 (e1.trans (e2.trans e3)) d3
  | false =>
    refine iteF ?_
    refine ⟨_, rfl, v, x, rfl, hx, nx, fun a H1 e1 pa => ?_⟩
    refine ⟨_, rfl, u, y, rfl, (Nd.of e1).d hy, ny, fun b H2 e2 pb => ?_⟩
    refine ⟨a, b, Tl x, Tl y, rfl, pa.same e2, pb, tl_asc x, tl_asc y, nx.mem, ny.mem, by have := nx.len; have := ny.len; omega, fun p us H3 e3 hp dp => ?_⟩
    rw [fm2_tl] at dp
    exact ⟨p, _, rfl, ⟨us, .inl hp, dp⟩, nr, fun v' H4 e4 d4 => q v' H4 (e1.trans (e2.trans (e3.trans e4))) d4⟩
abbrev S_either : Stmt := top 88
abbrev N_either : List Str := ["x", "y"]
abbrev P_either : List Str := ["x", "y"]
theorem sc_either : FnScope N_either P_either (defScope S_either) := ⟨rfl, rfl, rfl, by decide +kernel, rfl, by decide +kernel, by decide +kernel⟩
def spOr (K : PySem.W.Frag) (g : Int → PyData) (S : Int → Prop) : Sp := fun vs H Q _ => ∃ (v u : V) (x y : Int), vs = [v, u] ∧ Dp K H v (numD g x) ∧ Dp K H u (numD g y) ∧ Num g S x ∧ Num g S y ∧ Num g S (-x - 1) ∧ Num g S (-y - 1) ∧ Lo4 g (-x - 1) (-y - 1) ∧ Num g S (Builtin.bitAnd (-x - 1) (-y - 1)) ∧ Num g S (Builtin.bitOr x y) ∧
  ∀ (v' : V) (H' : Hp), Same H H' → Dp K H' v' (numD g (Builtin.bitOr x y)) → Q v' H'
theorem or_eq (x y : Int) : -Builtin.bitAnd (-x - 1) (-y - 1) - 1 = Builtin.bitOr x y := by
  rw [PyProof.Rows.bitOr_and]
  have e1 := PyProof.Rows.bitAnd_not (-x - 1) y
  have e2 := PyProof.Rows.bitAnd_not y x
  unfold Builtin.bitNot at e1 e2
  rw [show (-y - 1 : Int) = -1 - y by omega] at *
  rw [show (-x - 1 : Int) = -1 - x by omega] at *
  rw [PyProof.Rows.bitAnd_comm x y, PyProof.Rows.bitAnd_comm (-1 - x) y] at *
  omega
theorem ok_either {n : Nat} {g : Int → PyData} {S : Int → Prop} (F : Fun K "either" "either" S_either f fd) (Cflip : Has P w K mg base 4 "flip" P_flip [] (spNum1 K g S fun z => -z - 1)) (Cboth : Has P w K mg base (2 * n + 7) "both" P_both [] (spNumA K g S Builtin.bitAnd)) :
    FnOk P w K mg base CX0 (2 * n + 8) f fd P_either (spOr K g S) := by
  have nd := sc_either.nd
  refine F.ok sc_either (fun vs H Q E h => ?_) (fun cdv A outer s H vs Q E hr h => ?_)
  · obtain ⟨v, u, x, y, rfl, _⟩ := h
    rfl
  obtain ⟨v, u, x, y, rfl, hx, hy, nx, ny, nx', ny', lxy', na, nr, q⟩ := h
  refine ⟨_, (pss_one (ps_ret (pe_H Cflip (hr.mono (by omega)) rfl (pa_cons (pe_H Cboth (hr.mono (by omega)) rfl (pa_cons (pe_H Cflip (hr.mono (by omega)) rfl (pa_cons (pv 0) pa_nil)) (pa_cons (pe_H Cflip (hr.mono (by omega)) rfl (pa_cons (pv 1) pa_nil)) pa_nil))) pa_nil)))), ?_⟩
  refine ⟨_, rfl, v, x, rfl, hx, nx, nx', fun v1 H1 e1 d1 => ?_⟩
  refine ⟨_, rfl, u, y, rfl, (Nd.of e1).d hy, ny, ny', fun v2 H2 e2 d2 => ?_⟩
  refine ⟨v1, v2, -x - 1, -y - 1, rfl, (Nd.of e2).d d1, d2, nx', ny', lxy', na, fun v3 H3 e3 d3 => ?_⟩
  refine ⟨v3, _, rfl, d3, na, by show Num g S (-Builtin.bitAnd (-x - 1) (-y - 1) - 1); rw [or_eq]; exact nr, fun v4 H4 e4 d4 => ?_⟩
  have d5 : Dp K H4 v4 (numD g (-Builtin.bitAnd (-x - 1) (-y - 1) - 1)) := d4
  rw [or_eq] at d5
  exact q v4 H4 (e1.trans (e2.trans (e3.trans e4))) d5
abbrev S_plus_one : Stmt := top 90
abbrev N_plus_one : List Str := ["x", "behind"]
abbrev P_plus_one : List Str := ["x"]
theorem sc_plus_one : FnScope N_plus_one P_plus_one (defScope S_plus_one) := ⟨rfl, rfl, rfl, by decide +kernel, rfl, by decide +kernel, by decide +kernel⟩
theorem b_mem {b : Int} {l : List Int} : b ∈ mrg [0, b] l ∨ b ∈ l := by
  show b ∈ l.take (clt l 0) ++ ((if (0 : Int) ∈ l then [] else [0]) ++ ((l.drop (cnt l 0)).take (clt (l.drop (cnt l 0)) b) ++ ((if b ∈ l.drop (cnt l 0) then [] else [b]) ++ mrg [] _))) ∨ b ∈ l
  by_cases h : b ∈ l.drop (cnt l 0)
  · exact .inr (List.mem_of_mem_drop h)
  · left
    rw [if_neg h]
    simp
/-- a place that is an int -/
theorem ok_next {g : Int → PyData} {S : Int → Prop} (hg : ∀ c, S c → g c = .int c ∧ -(2 ^ 64) ≤ c ∧ c < 2 ^ 64) (F : Fun K "plus_one" "plus_one" S_plus_one f fd) (B : Blt mg) (Cform_of_int : Has P w K mg base 3 "form_of_int" P_form_of_int [] (spFoi K)) {sp1 sp2 sp3 : Sp} {k : Nat}
    (Cplus_one : Has P w K mg base 1 "plus_one" P_plus_one [] sp1) (Cform_with : Has P w K mg base 1 "form_with" P_form_with [] sp2) (Cmerged_turns : Has P w K mg base 1 "merged_turns" P_merged_turns [] sp3) : FnOk P w K mg base CX0 4 f fd P_plus_one (spNext K g S) := by
  have nd := sc_plus_one.nd
  refine F.ok sc_plus_one (fun vs H Q E h => ?_) (fun cdv A outer s H vs Q E hr h => ?_)
  · obtain ⟨v, c, rfl, _⟩ := h
    rfl
  obtain ⟨v, c, rfl, hd, h0, h1, q⟩ := h
  refine ⟨_, (pss_cons (ps_if (pt_val (pe_callB (call_isiI K) (by rfl) B.isinstance (by decide +kernel) (pa_cons (pv 0) (pa_cons (pe_bltn (by rfl) B.int (by decide +kernel) (show RelV (.ty "int") (.type "int") from rfl)) pa_nil)))) (pss_one (ps_ret (pe_H Cform_of_int (hr.mono (by decide)) rfl (pa_cons (pe_op op_add (pv 0) pe_int) pa_nil)))) pss_nil)
    (C8.pss_cut (ps_set (i := 1) nd rfl (Or.inl rfl) (pe_ifExp (pt_cmpR (op_eqD hr.units) (pe_ix ix_tup (pv 0) pe_int (fun _ _ => rfl)) pe_int (nomark _)) (pe_H Cplus_one (hr.mono (by decide)) rfl (pa_cons (pe_ix ix_tup (pv 0) pe_int (fun _ _ => rfl)) pa_nil)) pe_int))
    (pss_one (ps_ret (pe_H Cform_with (hr.mono (by decide)) rfl (pa_cons (pe_H Cmerged_turns (hr.mono (by decide)) rfl (pa_cons (pe_tup (pa_cons pe_int (pa_cons (pv 1) pa_nil))) (pa_cons (pv 0) pa_nil))) pa_nil)))))), ?_⟩
  obtain ⟨g0, b0, b0'⟩ := hg c h0
  obtain ⟨g1, b1, b1'⟩ := hg (c + 1) h1
  rw [g0] at hd
  cases hd
  refine ⟨_, rfl, _, _, rfl, .int c, _, rfl, ?_⟩
  refine iteT ?_
  refine ⟨_, rfl, _, _, rfl, rfl, c + 1, rfl, InB.of (n := 64) b1 b1' (by decide), fun v' H' e d => ?_⟩
  refine q v' H' e ?_
  rw [g1]
  unfold formD at d
  rw [if_pos ⟨b1, b1'⟩] at d
  exact d
/-- a number and one -/
def spSucc (K : PySem.W.Frag) (g : Int → PyData) (S S' : Int → Prop) : Sp := fun vs H Q _ => ∃ (v : V) (z : Int), vs = [v] ∧ Dp K H v (numD g z) ∧ Num g S z ∧ Num g S (z + 1) ∧ (∀ t r, Tl z = 0 :: t :: r → S' t ∧ S' (t + 1)) ∧ ∀ (v' : V) (H' : Hp), Same H H' → Dp K H' v' (numD g (z + 1)) → Q v' H'
theorem ok_succN {n kp : Nat} (hn : n ≤ 40) {g : Int → PyData} {S S' : Int → Prop} (o : OrdN n g S) (n65 : g 65 = .int 65) (z0 : S 0) (F : Fun K "plus_one" "plus_one" S_plus_one f fd) (B : Blt mg) (Cform_of_int : Has P w K mg base 3 "form_of_int" P_form_of_int [] (spFoi K))
    (Cplus_one : Has P w K mg base kp "plus_one" P_plus_one [] (spNext K g S')) (Cform_with : Has P w K mg base 3 "form_with" P_form_with [] (spWith K g S)) (Cmerged_turns : Has P w K mg base (2 * n + 5) "merged_turns" P_merged_turns [] (spMerged K g S)) :
    FnOk P w K mg base CX0 (2 * n + kp + 6) f fd P_plus_one (spSucc K g S S') := by
  have nd := sc_plus_one.nd
  refine F.ok sc_plus_one (fun vs H Q E h => ?_) (fun cdv A outer s H vs Q E hr h => ?_)
  · obtain ⟨v, z, rfl, _⟩ := h
    rfl
  obtain ⟨v, z, rfl, hd, hz, hz', hnx, q⟩ := h
  refine ⟨_, (pss_cons (ps_if (pt_val (pe_callB (call_isiI K) (by rfl) B.isinstance (by decide +kernel) (pa_cons (pv 0) (pa_cons (pe_bltn (by rfl) B.int (by decide +kernel) (show RelV (.ty "int") (.type "int") from rfl)) pa_nil)))) (pss_one (ps_ret (pe_H Cform_of_int (hr.mono (by omega)) rfl (pa_cons (pe_op op_add (pv 0) pe_int) pa_nil)))) pss_nil)
    (C8.pss_cut (ps_set (i := 1) nd rfl (Or.inl rfl) (pe_ifExp (pt_cmpR (op_eqD hr.units) (pe_ix ix_tup (pv 0) pe_int (fun _ _ => rfl)) pe_int (nomark _)) (pe_H Cplus_one (hr.mono (by omega)) rfl (pa_cons (pe_ix ix_tup (pv 0) pe_int (fun _ _ => rfl)) pa_nil)) pe_int))
    (pss_one (ps_ret (pe_H Cform_with (hr.mono (by omega)) rfl (pa_cons (pe_H Cmerged_turns (hr.mono (by omega)) rfl (pa_cons (pe_tup (pa_cons pe_int (pa_cons (pv 1) pa_nil))) (pa_cons (pv 0) pa_nil))) pa_nil)))))), ?_⟩
  have g0 : g 0 = .int 0 := o.near 0 z0 (by decide)
  have g1 : S 1 → g 1 = .int 1 := fun h => o.near 1 h (by decide)
  refine ⟨_, rfl, _, _, rfl, hd, _, rfl, ?_⟩
  rcases num_cases o hz with ⟨pl, e, ed⟩ | ⟨npl, e, m, p, el, p64⟩
  · rw [e] at hd ⊢
    cases hd
    refine iteT ?_
    have b0 : -(2 ^ 65) ≤ z + 1 := by have := pl.1; omega
    have b1 : z + 1 < 2 ^ 65 := by have := pl.2; omega
    refine ⟨_, rfl, _, _, rfl, rfl, z + 1, rfl, InB.of (n := 65) b0 b1 (by decide), fun v' H' e1 d => q v' H' e1 ?_⟩
    rw [form_num o n65 b0 b1 hz'] at d
    exact d
  · rw [e] at hd ⊢
    cases hd with
    | @tup a xs _ hs ha =>
    refine iteF ?_
    have lxs : xs.length = (Tl z).length := by rw [dps_length ha, List.length_map]
    have hP : Pls K H g a (Tl z) := ⟨xs, .inr hs, ha⟩
    obtain ⟨_, hs', _, _, hat⟩ := hP.at
    have asc := tl_asc z
    have pos := tl_pos z
    have hSq : Sq K H a xs := .inr hs
    obtain ⟨t0, r0, er⟩ : ∃ t0 r0, Tl z = t0 :: r0 := by
      cases h : Tl z with
      | nil => rw [h] at el; simp at el
      | cons t r => exact ⟨t, r, rfl⟩
    -- the second place of the mask
    have key : ∀ b : Int, (∃ t r, Tl z = 0 :: t :: r ∧ b = t + 1) ∨ (Tl z).head? ≠ some 0 ∧ b = 1 → S b ∧ mrg [0, b] (Tl z) = Tl (z + 1) ∧ 0 < b := fun b hb => by
      have es := succ_tl hb
      refine ⟨?_, es, ?_⟩
      · rcases b_mem (b := b) (l := Tl z) with h | h
        · rw [es] at h; exact hz'.mem b h
        · exact hz.mem b h
      · rcases hb with ⟨t, r, e2, rfl⟩ | ⟨_, rfl⟩
        · have := pos t (by rw [e2]; simp); omega
        · decide
    refine ⟨fun σ' H' => ∃ (w : V) (b : Int), σ' = [some (.ref a), some w] ∧ Same H H' ∧ Dp K H' w (g b) ∧ S b ∧ mrg [0, b] (Tl z) = Tl (z + 1) ∧ 0 < b, ?_, ?_⟩
    · obtain ⟨x0, hx0, dx0⟩ : ∃ v, xs[0]? = some v ∧ Dp K H v (g t0) := by
        obtain ⟨v, hv⟩ : ∃ v, xs[0]? = some v := ⟨_, List.getElem?_eq_getElem (by rw [lxs, er]; simp)⟩
        obtain ⟨d', hd', dp⟩ := dps_get ha hv
        rw [er] at hd'
        cases hd'
        exact ⟨v, hv, dp⟩
      have S0 := hz.mem t0 (by rw [er]; simp)
      refine ⟨_, rfl, a, xs, (0 : Int), x0, rfl, rfl, hs, atI_nat hx0, _, _, dx0, .int 0, shaped_fm (o.fm t0 S0) hn, rfl, _, rfl, ?_⟩
      have ae := o.toOrd.eqv S0 z0
      rw [g0] at ae
      by_cases h0 : t0 = 0
      · rw [ae.mpr h0]
        subst h0
        refine iteT ?_
        obtain ⟨t1, r1, er1⟩ : ∃ t1 r1, r0 = t1 :: r1 := by
          cases h : r0 with
          | nil =>
            exfalso
            rw [er, h] at el
            have hl := congrArg List.length el
            rw [List.length_append] at hl
            have hm : m = [] := List.length_eq_zero_iff.mp (by simp at hl; simpa using hl)
            rw [hm] at el
            have := List.cons.inj el
            omega
          | cons t r => exact ⟨t, r, rfl⟩
        rw [er1] at er
        obtain ⟨x1, hx1, dx1⟩ : ∃ v, xs[1]? = some v ∧ Dp K H v (g t1) := by
          obtain ⟨v, hv⟩ : ∃ v, xs[1]? = some v := ⟨_, List.getElem?_eq_getElem (by rw [lxs, er]; simp)⟩
          obtain ⟨d', hd', dp⟩ := dps_get ha hv
          rw [er] at hd'
          cases hd'
          exact ⟨v, hv, dp⟩
        obtain ⟨k1, k2, k3⟩ := key (t1 + 1) (.inl ⟨t1, r1, er, rfl⟩)
        refine ⟨_, rfl, a, xs, (1 : Int), x1, rfl, rfl, hs, atI_nat hx1, x1, t1, rfl, dx1, (hnx t1 r1 er).1, (hnx t1 r1 er).2, fun w H1 e1 d1 => ?_⟩
        exact ⟨w, t1 + 1, rfl, e1, d1, k1, k2, k3⟩
      · have : PyData.eqv (g t0) (.int 0) = false := Bool.eq_false_iff.mpr fun h => h0 (ae.mp h)
        rw [this]
        refine iteF ?_
        obtain ⟨k1, k2, k3⟩ := key 1 (.inr ⟨by rw [er]; exact fun h => h0 (Option.some.inj h), rfl⟩)
        refine ⟨.int 1, 1, rfl, Same.refl H, ?_, k1, k2, k3⟩
        rw [g1 k1]
        exact .int 1
    rintro σ' H1 ⟨w, b, rfl, e1, dw, Sb, em, b0⟩
    have g0' : DpAll K H1 [.int 0, w] ([0, b].map g) := by
      show DpAll K H1 [.int 0, w] [g 0, g b]
      rw [g0]
      exact .cons (.int 0) (.cons dw .nil)
    refine ⟨_, rfl, (by show 2 ≤ sizeLine; decide), fun t nt => ?_⟩
    have e2 := Same.new (o := .tup [.int 0, w]) nt
    refine ⟨_, rfl, t, a, [0, b], Tl z, rfl, ⟨_, .inr (SqT.of upd_same), (Nd.of e2).ds g0'⟩, (hP.same e1).same e2, by simp; exact b0, asc, (fun c hc => by
        simp only [List.mem_cons, List.not_mem_nil, or_false] at hc
        rcases hc with rfl | rfl
        · exact z0
        · exact Sb), hz.mem, by have := hz.len; show 2 + _ ≤ _; omega, fun p2 us H3 e3 hp dp => ?_⟩
    have ef : mrg (fm2 [0, b] (Tl z)).1 (fm2 [0, b] (Tl z)).2 = Tl (z + 1) := by
      unfold fm2
      split
      · exact em
      · rename_i hl
        rw [← em]
        exact mrg_comm asc pos (by simp; exact b0) (fun c hc => by
          simp only [List.mem_cons, List.not_mem_nil, or_false] at hc
          rcases hc with rfl | rfl <;> omega)
    rw [ef] at dp
    exact ⟨p2, z + 1, rfl, ⟨us, .inl hp, dp⟩, hz', fun v' H4 e4 d4 => q v' H4 (e1.trans (e2.trans (e3.trans e4))) d4⟩
theorem ok_succ {n kp : Nat} (hn : n ≤ 40) {g : Int → PyData} {S : Int → Prop} (o : OrdN n g S) (n65 : g 65 = .int 65) (z0 : S 0) (F : Fun K "plus_one" "plus_one" S_plus_one f fd) (B : Blt mg) (Cform_of_int : Has P w K mg base 3 "form_of_int" P_form_of_int [] (spFoi K))
    (Cplus_one : Has P w K mg base kp "plus_one" P_plus_one [] (spNext K g S)) (Cform_with : Has P w K mg base 3 "form_with" P_form_with [] (spWith K g S)) (Cmerged_turns : Has P w K mg base (2 * n + 5) "merged_turns" P_merged_turns [] (spMerged K g S)) :
    FnOk P w K mg base CX0 (2 * n + kp + 6) f fd P_plus_one (spNum1 K g S fun z => z + 1) := by
  refine (ok_succN (S' := S) hn o n65 z0 F B Cform_of_int Cplus_one Cform_with Cmerged_turns).imp fun vs H Q E h => ?_
  obtain ⟨v, z, e, hd, hz, hz', q⟩ := h
  refine ⟨v, z, e, hd, hz, hz', fun t r et => ⟨hz.mem t (by rw [et]; simp), ?_⟩, q⟩
  rcases b_mem (b := t + 1) (l := Tl z) with h | h
  · rw [succ_tl (.inl ⟨t, r, et, rfl⟩)] at h
    exact hz'.mem _ h
  · exact hz.mem _ h
end
end Fb
namespace Fb
open PySem L2
/-- the carry of a sum, whichever is the shorter one -/
theorem fm2_car (x y : Int) {k : Nat} (hk : k ≤ 1) : ∃ c : Int, carT (fm2 (Tl x) (Tl y)).1 (fm2 (Tl x) (Tl y)).2 k = Tl c ∧ (∀ t ∈ Tl c, t = 0 ∨ t - 1 = 0 ∨ t - 1 ∈ Tl y ∨ t - 1 ∈ Tl x) ∧ Builtin.bitXor (Builtin.bitXor x c) y = x + y + k := by
  unfold fm2
  split
  · exact carT_ok x y hk
  · obtain ⟨c, h1, h2, h3⟩ := carT_ok y x hk
    refine ⟨c, h1, fun t ht => ?_, ?_⟩
    · rcases h2 t ht with h | h | h | h
      · exact .inl h
      · exact .inr (.inl h)
      · exact .inr (.inr (.inr h))
      · exact .inr (.inr (.inl h))
    · have e : Builtin.bitXor (Builtin.bitXor x c) y = Builtin.bitXor (Builtin.bitXor y c) x := bt_ext fun p => by
        rw [bt_xor, bt_xor, bt_xor, bt_xor]
        have := bt_01 p x
        have := bt_01 p y
        have := bt_01 p c
        omega
      rw [e, h3]
      omega
theorem tl_len_xor (x y : Int) : (Tl (Builtin.bitXor x y)).length ≤ (Tl x).length + (Tl y).length := by
  rw [← mrg_tl]
  exact mrg_len _ _
/-- places that are ints are what they stand for -/
structure NI (g : Int → PyData) (S : Int → Prop) : Prop where
  hid : ∀ c i, S c → g c = .int i → i = c
  low : ∀ c, S c → 0 ≤ c → c ≤ 520100 → g c = .int c
theorem near_bd {g : Int → PyData} {S : Int → Prop} (I : NI g S) {z : Int} (hz : Num g S z) (hn : Near g z) : XN g z = z ∧ -(2 ^ 520001) ≤ z ∧ z < 2 ^ 520001 := by
  have hm : ∀ c ∈ Tl z, mv g c = c := fun c hc => I.hid c _ (hz.mem c hc) (hn c hc).1
  refine ⟨?_, ?_⟩
  · unfold XN
    rw [show ((Tl z).map fun c => (mv g c).toNat) = turnsN z from ?_, turns_alt]
    unfold Tl zs
    rw [List.map_map]
    refine (List.map_congr_left (g := id) fun p hp => ?_).trans (List.map_id _)
    have := hm ((p : Nat) : Int) (List.mem_map.mpr ⟨p, hp, rfl⟩)
    show (mv g ((p : Nat) : Int)).toNat = p
    rw [this]
    rfl
  · have hp : ∀ p ∈ turnsN z, p < 520001 := fun p hp => by
      have hc : ((p : Nat) : Int) ∈ Tl z := List.mem_map.mpr ⟨p, hp, rfl⟩
      have h1 := hm _ hc
      have h2 := (hn _ hc).2.2
      rw [h1] at h2
      omega
    have := alt_lt (s := -1) (.inr rfl) (n := 520001) (turns_asc z) hp
    rw [turns_alt] at this
    exact ⟨Int.le_of_lt this.1, this.2⟩
theorem big_form {g : Int → PyData} {S : Int → Prop} (I : NI g S) {w : Int} (h0 : -(2 ^ 520002) ≤ w) (h1 : w < 2 ^ 520002) (hw : Num g S w) : InB w ∧ formD w = numD g w := by
  have lw : ∀ c ∈ Tl w, c ≤ 520002 := fun c hc => by
    obtain ⟨p, hp, rfl⟩ := List.mem_map.mp hc
    have := turns_lt (n := 520002) h0 h1 p hp
    show ((p : Nat) : Int) ≤ 520002
    clear h0 h1
    omega
  have hl : ∀ c ∈ Tl w, g c = .int c := fun c hc => I.low c (hw.mem c hc) (tl_pos w c hc) (by have := lw c hc; omega)
  refine ⟨InB.of (n := 520002) h0 h1 (by decide), near_form (w := w) ?_ hw.len fun c hc => by rw [mv_int (hl c hc)]; exact hl c hc⟩
  exact ((List.map_congr_left (g := id) fun c hc => mv_int (hl c hc)).trans (List.map_id _)).symm
theorem pow_4302 : (2 : Int) ^ 520002 = 2 ^ 520001 * 2 := Int.pow_succ _ _
section
variable {P : Program} {w : World} {K : PySem.W.Frag} {mg : Str → Option Value} {base : Heap} {f : Addr} {fd : FuncData}
abbrev S_opposite : Stmt := top 91
abbrev N_opposite : List Str := ["x"]
abbrev P_opposite : List Str := ["x"]
theorem sc_opposite : FnScope N_opposite P_opposite (defScope S_opposite) := ⟨rfl, rfl, rfl, by decide +kernel, rfl, by decide +kernel, by decide +kernel⟩
def spOpp (K : PySem.W.Frag) (g : Int → PyData) (S : Int → Prop) : Sp := fun vs H Q _ => ∃ (v : V) (z : Int), vs = [v] ∧ Dp K H v (numD g z) ∧ Num g S z ∧ Num g S (-z - 1) ∧ Num g S (-z) ∧ ∀ (v' : V) (H' : Hp), Same H H' → Dp K H' v' (numD g (-z)) → Q v' H'
theorem ok_opp {n kp : Nat} {g : Int → PyData} {S : Int → Prop} (o : OrdN n g S) (n65 : g 65 = .int 65) (F : Fun K "opposite" "opposite" S_opposite f fd) (B : Blt mg) (Cform_of_int : Has P w K mg base 3 "form_of_int" P_form_of_int [] (spFoi K)) (Cflip : Has P w K mg base 4 "flip" P_flip [] (spNum1 K g S fun z => -z - 1))
    (Cplus_one : Has P w K mg base (2 * n + kp + 6) "plus_one" P_plus_one [] (spNum1 K g S fun z => z + 1)) : FnOk P w K mg base CX0 (2 * n + kp + 7) f fd P_opposite (spOpp K g S) := by
  have nd := sc_opposite.nd
  refine F.ok sc_opposite (fun vs H Q E h => ?_) (fun cdv A outer s H vs Q E hr h => ?_)
  · obtain ⟨v, z, rfl, _⟩ := h
    rfl
  obtain ⟨v, z, rfl, hd, hz, hz1, hz', q⟩ := h
  refine ⟨_, (pss_cons (ps_if (pt_val (pe_callB (call_isiI K) (by rfl) B.isinstance (by decide +kernel) (pa_cons (pv 0) (pa_cons (pe_bltn (by rfl) B.int (by decide +kernel) (show RelV (.ty "int") (.type "int") from rfl)) pa_nil)))) (pss_one (ps_ret (pe_H Cform_of_int (hr.mono (by omega)) rfl (pa_cons (pe_un un_neg (pv 0)) pa_nil)))) pss_nil)
    (pss_one (ps_ret (pe_H Cplus_one (hr.mono (by omega)) rfl (pa_cons (pe_H Cflip (hr.mono (by omega)) rfl (pa_cons (pv 0) pa_nil)) pa_nil))))), ?_⟩
  refine ⟨_, rfl, _, _, rfl, hd, _, rfl, ?_⟩
  rcases num_cases o hz with ⟨pl, e, ed⟩ | ⟨npl, e, _⟩
  · rw [e] at hd ⊢
    cases hd
    refine iteT ?_
    have b0 : -(2 ^ 65) ≤ -z := by have := pl.2; omega
    have b1 : -z < 2 ^ 65 := by have := pl.1; omega
    refine ⟨_, rfl, _, rfl, -z, rfl, InB.of (n := 65) b0 b1 (by decide), fun v' H' e1 d => q v' H' e1 ?_⟩
    rw [form_num o n65 b0 b1 hz'] at d
    exact d
  · have hi : isI (numD g z) = false := by rw [e]; rfl
    rw [hi]
    refine iteF ?_
    refine ⟨_, rfl, v, z, rfl, hd, hz, hz1, fun v1 H1 e1 d1 => ?_⟩
    have ez : -z - 1 + 1 = -z := by omega
    refine ⟨v1, -z - 1, rfl, d1, hz1, by show Num g S (-z - 1 + 1); rw [ez]; exact hz', fun v2 H2 e2 d2 => ?_⟩
    have d3 : Dp K H2 v2 (numD g (-z - 1 + 1)) := d2
    rw [ez] at d3
    exact q v2 H2 (e1.trans e2) d3
abbrev S_summed_turns : Stmt := top 93
abbrev N_summed_turns : List Str := ["x", "y", "carry", "few", "many"]
abbrev P_summed_turns : List Str := ["x", "y", "carry"]
theorem sc_summed_turns : FnScope N_summed_turns P_summed_turns (defScope S_summed_turns) := ⟨rfl, rfl, rfl, by decide +kernel, rfl, by decide +kernel, by decide +kernel⟩
def spSummed2 (K : PySem.W.Frag) (g : Int → PyData) (S : Int → Prop) : Sp := fun vs H Q _ => ∃ (a b : Addr) (x y : Int) (k : Nat), vs = [.ref a, .ref b, .int (k : Int)] ∧ Pls K H g a (Tl x) ∧ Pls K H g b (Tl y) ∧ (∀ t ∈ Tl x, S t ∧ S (t + 1)) ∧ (∀ t ∈ Tl y, S t ∧ S (t + 1)) ∧ (Tl x).length + (Tl y).length ≤ 7001 ∧ k ≤ 1 ∧
  ∀ (p : Addr) (us : List V) (H' : Hp), Same H H' → H' p = some (.lst us) → DpAll K H' us ((Tl (x + y + k)).map g) → Q (.ref p) H'
theorem ok_summed2 {n kp : Nat} {g : Int → PyData} {S : Int → Prop} (z0 : S 0) (z1 : S 1) (F : Fun K "summed_turns" "summed_turns" S_summed_turns f fd) (B : Blt mg) (Cshorter_first : Has P w K mg base 1 "shorter_first" P_shorter_first [] (spShort K)) (Cmerged_turns : Has P w K mg base (2 * n + 5) "merged_turns" P_merged_turns [] (spMerged K g S))
    (Ccarry_turns : Has P w K mg base (2 * n + kp + 6) "carry_turns" P_carry_turns [] (spCarry K g S)) : FnOk P w K mg base CX0 (2 * n + kp + 7) f fd P_summed_turns (spSummed2 K g S) := by
  have nd := sc_summed_turns.nd
  refine F.ok sc_summed_turns (fun vs H Q E h => ?_) (fun cdv A outer s H vs Q E hr h => ?_)
  · obtain ⟨a, b, x, y, k, rfl, _⟩ := h
    rfl
  obtain ⟨a, b, x, y, k, rfl, hx, hy, sx, sy, l13, hk, q⟩ := h
  refine ⟨_, (pss_cons (ps_asg (pe_H Cshorter_first (hr.mono (by omega)) rfl (pa_cons (pv 0) (pa_cons (pv 1) pa_nil))) (pg_tup rfl (pgs_cons (pg_name (i := 3) nd rfl (Or.inl rfl)) (pgs_cons (pg_name (i := 4) nd rfl (Or.inl rfl)) pgs_nil))))
    (pss_one (ps_ret (pe_H Cmerged_turns (hr.mono (by omega)) rfl (pa_cons (pe_H Cmerged_turns (hr.mono (by omega)) rfl (pa_cons (pv 3) (pa_cons (pe_H Ccarry_turns (hr.mono (by omega)) rfl (pa_cons (pv 3) (pa_cons (pv 4) (pa_cons (pv 2) pa_nil)))) pa_nil))) (pa_cons (pv 4) pa_nil)))))), ?_⟩
  obtain ⟨xs, hs, lxs, _, _⟩ := hx.at
  obtain ⟨ys, ht, lys, _, _⟩ := hy.at
  refine ⟨_, rfl, _, rfl, a, b, xs, ys, rfl, hs, ht, fun t H1 e1 hT => ?_⟩
  -- the shorter one is u, of fx, the longer one v, of fy
  obtain ⟨u, v, fx, fy, ep, e2, hA, hB, sA, sB, lAB, esum⟩ : ∃ (u v : Addr) (fx fy : Int), (if xs.length ≤ ys.length then [V.ref a, .ref b] else [.ref b, .ref a]) = [.ref u, .ref v] ∧ (Tl fx).length ≤ (Tl fy).length ∧ Pls K H1 g u (Tl fx) ∧ Pls K H1 g v (Tl fy) ∧ (∀ t ∈ Tl fx, S t ∧ S (t + 1)) ∧ (∀ t ∈ Tl fy, S t ∧ S (t + 1)) ∧
      (Tl fx).length + (Tl fy).length ≤ 7001 ∧ fx + fy = x + y := by
    rw [lxs, lys]
    split
    · exact ⟨a, b, x, y, rfl, by assumption, hx.same e1, hy.same e1, sx, sy, l13, rfl⟩
    · exact ⟨b, a, y, x, rfl, by omega, hy.same e1, hx.same e1, sy, sx, by omega, Int.add_comm _ _⟩
  rw [ep] at hT
  rw [← esum] at q
  refine ⟨_, _, rfl, hT, rfl, _, _, rfl, _, _, rfl, rfl, ?_⟩
  obtain ⟨c, c1, c2, c3⟩ := carT_ok fx fy hk
  have ef : fm2 (Tl fx) (Tl fy) = (Tl fx, Tl fy) := by unfold fm2; rw [if_pos e2]
  have lc : (Tl c).length ≤ (Tl fx).length + 2 := by
    rw [← c1]
    unfold carT
    rw [List.length_append]
    have := carL_len (Tl fy) (Tl fx) 0 0 k
    split <;> simp <;> omega
  have sc : ∀ t ∈ Tl c, S t := fun t ht => by
    rcases c2 t ht with h | h | h | h
    · rw [h]; exact z0
    · rw [show t = 1 by omega]; exact z1
    · have := (sB _ h).2
      rw [show t - 1 + 1 = t by omega] at this
      exact this
    · have := (sA _ h).2
      rw [show t - 1 + 1 = t by omega] at this
      exact this
  refine ⟨_, rfl, _, rfl, _, rfl, _, rfl, u, v, Tl fx, Tl fy, k, rfl, hA, hB, tl_asc fx, tl_asc fy, (fun t h => ⟨(sA t h).1, (sA t h).2, tl_pos fx t h⟩), (fun t h => ⟨(sB t h).1, (sB t h).2, tl_pos fy t h⟩), by omega, hk, fun p1 us1 H2 e3 hp1 d1 => ?_⟩
  rw [ef] at d1
  have d1' : DpAll K H2 us1 ((Tl c).map g) := by rw [← c1]; exact d1
  refine ⟨u, p1, Tl fx, Tl c, rfl, hA.same e3, ⟨us1, .inl hp1, d1'⟩, tl_asc fx, tl_asc c, (fun t h => (sA t h).1), sc, by omega, fun p2 us2 H3 e4 hp2 d2 => ?_⟩
  rw [fm2_tl] at d2
  refine ⟨_, rfl, p2, v, Tl (Builtin.bitXor fx c), Tl fy, rfl, ⟨us2, .inl hp2, d2⟩, hB.same (e3.trans e4), tl_asc _, tl_asc _, (fun t h => (xor_mem h).elim (fun h => (sA t h).1) (sc t)), (fun t h => (sB t h).1), ?_, fun p3 us3 H4 e5 hp3 d3 => ?_⟩
  · have := tl_len_xor fx c
    omega
  · rw [fm2_tl, c3] at d3
    exact q p3 us3 H4 (e1.trans (e3.trans (e4.trans e5))) hp3 d3
abbrev S_plus : Stmt := top 94
abbrev N_plus : List Str := ["x", "y"]
abbrev P_plus : List Str := ["x", "y"]
theorem sc_plus : FnScope N_plus P_plus (defScope S_plus) := ⟨rfl, rfl, rfl, by decide +kernel, rfl, by decide +kernel, by decide +kernel⟩
def spSum (K : PySem.W.Frag) (g : Int → PyData) (S : Int → Prop) (r : Int → Int → Int) : Sp := fun vs H Q _ => ∃ (v u : V) (x y : Int), vs = [v, u] ∧ Dp K H v (numD g x) ∧ Dp K H u (numD g y) ∧ Num g S x ∧ Num g S y ∧ (∀ t ∈ Tl x, S (t + 1)) ∧ (∀ t ∈ Tl y, S (t + 1)) ∧ (Tl x).length + (Tl y).length ≤ 7000 ∧ Lo2 g x y ∧ Num g S (r x y) ∧
  ∀ (v' : V) (H' : Hp), Same H H' → Dp K H' v' (numD g (r x y)) → Q v' H'
theorem ok_plus {n kp : Nat} {g : Int → PyData} {S : Int → Prop} (o : OrdN n g S) (I : NI g S) (n65 : g 65 = .int 65) (F : Fun K "plus" "plus" S_plus f fd) (B : Blt mg) (Cform_of_int : Has P w K mg base 3 "form_of_int" P_form_of_int [] (spFoi K)) (Cform_with : Has P w K mg base 3 "form_with" P_form_with [] (spWith K g S)) (Cturns_in : Has P w K mg base 3 "turns_in" P_turns_in [] (spTin K g S))
    (Csummed_turns : Has P w K mg base (2 * n + kp + 7) "summed_turns" P_summed_turns [] (spSummed2 K g S))
    (Care_near : Has P w K mg base 2 "are_near" P_are_near [] (spAreNear K g S)) (Cint_of_form : Has P w K mg base 3 "int_of_form" P_int_of_form [] (spIof K g S)) : FnOk P w K mg base CX0 (2 * n + kp + 8) f fd P_plus (spSum K g S fun x y => x + y) := by
  have nd := sc_plus.nd
  refine F.ok sc_plus (fun vs H Q E h => ?_) (fun cdv A outer s H vs Q E hr h => ?_)
  · obtain ⟨v, u, x, y, rfl, _⟩ := h
    rfl
  obtain ⟨v, u, x, y, rfl, hx, hy, nx, ny, sx, sy, l13, lxy, nr, q⟩ := h
  refine ⟨_, (C8.pss_cut (ps_if (PW.pt (pw_and (pt_val (pe_callB (call_isiI K) (by rfl) B.isinstance (by decide +kernel) (pa_cons (pv 0) (pa_cons (pe_bltn (by rfl) B.int (by decide +kernel) (show RelV (.ty "int") (.type "int") from rfl)) pa_nil)))) (pw_and1 (pt_val (pe_callB (call_isiI K) (by rfl) B.isinstance (by decide +kernel) (pa_cons (pv 1) (pa_cons (pe_bltn (by rfl) B.int (by decide +kernel) (show RelV (.ty "int") (.type "int") from rfl)) pa_nil))))))) (pss_one (ps_ret (pe_H Cform_of_int (hr.mono (by omega)) rfl (pa_cons (pe_op op_add (pv 0) (pv 1)) pa_nil)))) pss_nil)
    (pss_cons (ps_if (pt_val (pe_H Care_near (hr.mono (by omega)) rfl (pa_cons (pv 0) (pa_cons (pv 1) pa_nil)))) (pss_one (ps_ret (pe_H Cform_of_int (hr.mono (by omega)) rfl (pa_cons (pe_op op_add (pe_H Cint_of_form (hr.mono (by omega)) rfl (pa_cons (pv 0) pa_nil)) (pe_H Cint_of_form (hr.mono (by omega)) rfl (pa_cons (pv 1) pa_nil))) pa_nil)))) pss_nil)
    (pss_one (ps_ret (pe_H Cform_with (hr.mono (by omega)) rfl (pa_cons (pe_H Csummed_turns (hr.mono (by omega)) rfl (pa_cons (pe_H Cturns_in (hr.mono (by omega)) rfl (pa_cons (pv 0) pa_nil)) (pa_cons (pe_H Cturns_in (hr.mono (by omega)) rfl (pa_cons (pv 1) pa_nil)) (pa_cons pe_int pa_nil)))) pa_nil)))))), ?_⟩
  refine ⟨fun σ H' => σ = [some v, some u] ∧ H' = H ∧ ¬ (plain x ∧ plain y), ?_, ?_⟩
  · refine ⟨_, rfl, _, _, rfl, hx, _, rfl, ?_⟩
    rcases num_cases o nx with ⟨p1, e1, _⟩ | ⟨np1, e1, _⟩
    · rcases num_cases o ny with ⟨p2, e2, _⟩ | ⟨np2, e2, _⟩
      · rw [e1] at hx ⊢
        rw [e2] at hy
        cases hx
        cases hy
        refine iteT ?_
        refine ⟨_, rfl, _, _, rfl, .int _, _, rfl, ?_⟩
        refine iteT ?_
        have b0 : -(2 ^ 65) ≤ x + y := by have := p1.1; have := p1.2; have := p2.1; have := p2.2; omega
        have b1 : x + y < 2 ^ 65 := by have := p1.1; have := p1.2; have := p2.1; have := p2.2; omega
        refine ⟨_, rfl, _, rfl, _, _, rfl, rfl, x + y, rfl, InB.of (n := 65) b0 b1 (by decide), fun v' H' e d => q v' H' e ?_⟩
        rw [form_num o n65 b0 b1 nr] at d
        exact d
      · rw [show isI (numD g x) = true by rw [e1]; rfl]
        refine iteT ?_
        refine ⟨_, rfl, _, _, rfl, hy, _, rfl, ?_⟩
        rw [show isI (numD g y) = false by rw [e2]; rfl]
        exact iteF ⟨rfl, rfl, fun h => np2 h.2⟩
    · rw [show isI (numD g x) = false by rw [e1]; rfl]
      exact iteF ⟨rfl, rfl, fun h => np1 h.1⟩
  rintro σ H' ⟨rfl, rfl, np⟩
  refine ⟨_, rfl, _, rfl, v, u, x, y, rfl, hx, hy, nx, ny, lxy, np, fun b hb => ?_⟩
  refine ⟨_, rfl, ?_⟩
  cases b with
  | true =>
    refine iteT ?_
    obtain ⟨hn1, hn2, _, _⟩ := hb rfl
    refine ⟨_, rfl, v, x, rfl, hx, nx, hn1, fun H1 e1 => ?_⟩
    refine ⟨_, rfl, u, y, rfl, (Nd.of e1).d hy, ny, hn2, fun H2 e2 => ?_⟩
    obtain ⟨k1, k2, k3⟩ := near_bd I nx hn1
    obtain ⟨m1, m2, m3⟩ := near_bd I ny hn2
    rw [k1, m1]
    have e := pow_4302
    have b0 : -(2 ^ 520002) ≤ x + y := by rw [e]; clear e; generalize (2 : Int) ^ 520001 = M at *; omega
    have b1 : x + y < 2 ^ 520002 := by rw [e]; clear e; generalize (2 : Int) ^ 520001 = M at *; omega
    obtain ⟨ib, ef⟩ := big_form I b0 b1 nr
    refine ⟨_, _, rfl, rfl, _, rfl, ib, fun v' H3 e3 d3 => ?_⟩
    rw [ef] at d3
    exact q v' H3 (e1.trans (e2.trans e3)) d3
  | false =>
    refine iteF ?_
    refine ⟨_, rfl, v, x, rfl, hx, nx, fun a H1 e1 pa => ?_⟩
    refine ⟨_, rfl, u, y, rfl, (Nd.of e1).d hy, ny, fun b H2 e2 pb => ?_⟩
    refine ⟨a, b, x, y, 0, rfl, pa.same e2, pb, (fun t h => ⟨nx.mem t h, sx t h⟩), (fun t h => ⟨ny.mem t h, sy t h⟩), by omega, by omega, fun p us H3 e3 hp dp => ?_⟩
    rw [show x + y + ((0 : Nat) : Int) = x + y by omega] at dp
    exact ⟨p, _, rfl, ⟨us, .inl hp, dp⟩, nr, fun v' H4 e4 d4 => q v' H4 (e1.trans (e2.trans (e3.trans e4))) d4⟩
abbrev S_minus : Stmt := top 95
abbrev N_minus : List Str := ["x", "y"]
abbrev P_minus : List Str := ["x", "y"]
theorem sc_minus : FnScope N_minus P_minus (defScope S_minus) := ⟨rfl, rfl, rfl, by decide +kernel, rfl, by decide +kernel, by decide +kernel⟩
theorem flp_len (l : List Int) : (flp l).length ≤ l.length + 1 := by
  unfold flp
  split
  · rw [List.length_cons]; omega
  · rw [List.length_cons]; omega
theorem ok_minus {n kp : Nat} {g : Int → PyData} {S : Int → Prop} (o : OrdN n g S) (I : NI g S) (n65 : g 65 = .int 65) (z0 : S 0) (z1 : S 1) (F : Fun K "minus" "minus" S_minus f fd) (B : Blt mg) (Cform_of_int : Has P w K mg base 3 "form_of_int" P_form_of_int [] (spFoi K)) (Cform_with : Has P w K mg base 3 "form_with" P_form_with [] (spWith K g S)) (Cturns_in : Has P w K mg base 3 "turns_in" P_turns_in [] (spTin K g S))
    (Csummed_turns : Has P w K mg base (2 * n + kp + 7) "summed_turns" P_summed_turns [] (spSummed2 K g S)) (Cflipped_turns : Has P w K mg base 1 "flipped_turns" P_flipped_turns [] (spFlip K g S))
    (Care_near : Has P w K mg base 2 "are_near" P_are_near [] (spAreNear K g S)) (Cint_of_form : Has P w K mg base 3 "int_of_form" P_int_of_form [] (spIof K g S)) : FnOk P w K mg base CX0 (2 * n + kp + 8) f fd P_minus (spSum K g S fun x y => x - y) := by
  have nd := sc_minus.nd
  refine F.ok sc_minus (fun vs H Q E h => ?_) (fun cdv A outer s H vs Q E hr h => ?_)
  · obtain ⟨v, u, x, y, rfl, _⟩ := h
    rfl
  obtain ⟨v, u, x, y, rfl, hx, hy, nx, ny, sx, sy, l13, lxy, nr, q⟩ := h
  refine ⟨_, (C8.pss_cut (ps_if (PW.pt (pw_and (pt_val (pe_callB (call_isiI K) (by rfl) B.isinstance (by decide +kernel) (pa_cons (pv 0) (pa_cons (pe_bltn (by rfl) B.int (by decide +kernel) (show RelV (.ty "int") (.type "int") from rfl)) pa_nil)))) (pw_and1 (pt_val (pe_callB (call_isiI K) (by rfl) B.isinstance (by decide +kernel) (pa_cons (pv 1) (pa_cons (pe_bltn (by rfl) B.int (by decide +kernel) (show RelV (.ty "int") (.type "int") from rfl)) pa_nil))))))) (pss_one (ps_ret (pe_H Cform_of_int (hr.mono (by omega)) rfl (pa_cons (pe_op op_sub (pv 0) (pv 1)) pa_nil)))) pss_nil)
    (pss_cons (ps_if (pt_val (pe_H Care_near (hr.mono (by omega)) rfl (pa_cons (pv 0) (pa_cons (pv 1) pa_nil)))) (pss_one (ps_ret (pe_H Cform_of_int (hr.mono (by omega)) rfl (pa_cons (pe_op op_sub (pe_H Cint_of_form (hr.mono (by omega)) rfl (pa_cons (pv 0) pa_nil)) (pe_H Cint_of_form (hr.mono (by omega)) rfl (pa_cons (pv 1) pa_nil))) pa_nil)))) pss_nil)
    (pss_one (ps_ret (pe_H Cform_with (hr.mono (by omega)) rfl (pa_cons (pe_H Csummed_turns (hr.mono (by omega)) rfl (pa_cons (pe_H Cturns_in (hr.mono (by omega)) rfl (pa_cons (pv 0) pa_nil)) (pa_cons (pe_H Cflipped_turns (hr.mono (by omega)) rfl (pa_cons (pe_H Cturns_in (hr.mono (by omega)) rfl (pa_cons (pv 1) pa_nil)) pa_nil)) (pa_cons pe_int pa_nil)))) pa_nil)))))), ?_⟩
  refine ⟨fun σ H' => σ = [some v, some u] ∧ H' = H ∧ ¬ (plain x ∧ plain y), ?_, ?_⟩
  · refine ⟨_, rfl, _, _, rfl, hx, _, rfl, ?_⟩
    rcases num_cases o nx with ⟨p1, e1, _⟩ | ⟨np1, e1, _⟩
    · rcases num_cases o ny with ⟨p2, e2, _⟩ | ⟨np2, e2, _⟩
      · rw [e1] at hx ⊢
        rw [e2] at hy
        cases hx
        cases hy
        refine iteT ?_
        refine ⟨_, rfl, _, _, rfl, .int _, _, rfl, ?_⟩
        refine iteT ?_
        have b0 : -(2 ^ 65) ≤ x - y := by have := p1.1; have := p1.2; have := p2.1; have := p2.2; omega
        have b1 : x - y < 2 ^ 65 := by have := p1.1; have := p1.2; have := p2.1; have := p2.2; omega
        refine ⟨_, rfl, _, rfl, _, _, rfl, rfl, x - y, rfl, InB.of (n := 65) b0 b1 (by decide), fun v' H' e d => q v' H' e ?_⟩
        rw [form_num o n65 b0 b1 nr] at d
        exact d
      · rw [show isI (numD g x) = true by rw [e1]; rfl]
        refine iteT ?_
        refine ⟨_, rfl, _, _, rfl, hy, _, rfl, ?_⟩
        rw [show isI (numD g y) = false by rw [e2]; rfl]
        exact iteF ⟨rfl, rfl, fun h => np2 h.2⟩
    · rw [show isI (numD g x) = false by rw [e1]; rfl]
      exact iteF ⟨rfl, rfl, fun h => np1 h.1⟩
  rintro σ H' ⟨rfl, rfl, np⟩
  refine ⟨_, rfl, _, rfl, v, u, x, y, rfl, hx, hy, nx, ny, lxy, np, fun b hb => ?_⟩
  refine ⟨_, rfl, ?_⟩
  cases b with
  | true =>
    refine iteT ?_
    obtain ⟨hn1, hn2, _, _⟩ := hb rfl
    refine ⟨_, rfl, v, x, rfl, hx, nx, hn1, fun H1 e1 => ?_⟩
    refine ⟨_, rfl, u, y, rfl, (Nd.of e1).d hy, ny, hn2, fun H2 e2 => ?_⟩
    obtain ⟨k1, k2, k3⟩ := near_bd I nx hn1
    obtain ⟨m1, m2, m3⟩ := near_bd I ny hn2
    rw [k1, m1]
    have e := pow_4302
    have b0 : -(2 ^ 520002) ≤ x - y := by rw [e]; clear e; generalize (2 : Int) ^ 520001 = M at *; omega
    have b1 : x - y < 2 ^ 520002 := by rw [e]; clear e; generalize (2 : Int) ^ 520001 = M at *; omega
    obtain ⟨ib, ef⟩ := big_form I b0 b1 nr
    refine ⟨_, _, rfl, rfl, _, rfl, ib, fun v' H3 e3 d3 => ?_⟩
    rw [ef] at d3
    exact q v' H3 (e1.trans (e2.trans e3)) d3
  | false =>
    refine iteF ?_
    refine ⟨_, rfl, v, x, rfl, hx, nx, fun a H1 e1 pa => ?_⟩
    refine ⟨_, rfl, u, y, rfl, (Nd.of e1).d hy, ny, fun b H2 e2 pb => ?_⟩
    refine ⟨b, Tl y, rfl, pb, ny.mem, by omega, fun p0 us0 H3 e3 hp0 d0 => ?_⟩
    rw [flp_tl] at d0
    have lf : (Tl (-y - 1)).length ≤ (Tl y).length + 1 := by rw [← flp_tl]; exact flp_len _
    refine ⟨a, p0, x, -y - 1, 1, rfl, pa.same (e2.trans e3), ⟨us0, .inl hp0, d0⟩, (fun t h => ⟨nx.mem t h, sx t h⟩), (fun t h => ?_), by omega, by omega, fun p us H4 e4 hp dp => ?_⟩
    · rcases not_mem h with h | h
      · subst h; exact ⟨z0, z1⟩
      · exact ⟨ny.mem t h, sy t h⟩
    rw [show x + (-y - 1) + ((1 : Nat) : Int) = x - y by omega] at dp
    exact ⟨p, _, rfl, ⟨us, .inl hp, dp⟩, nr, fun v' H5 e5 d5 => q v' H5 (e1.trans (e2.trans (e3.trans (e4.trans e5)))) d5⟩
end
end Fb
namespace Fb
open PySem L2
/-! ### how many turns sums have -/
theorem mk_nn {b x : Int} (h0 : 0 ≤ b) (h1 : b < 2) : 0 ≤ mk b x := by
  obtain ⟨n, l, r⟩ := marks_cast (x := x)
  exact (mk_all n b x h0 h1 l r).1
/-- turns of x above a bit b -/
def tc (b x : Int) : Nat := (ones (mk b x).toNat).length
theorem tc_step {b : Int} (x : Int) (h0 : 0 ≤ b) (h1 : b < 2) : tc b x = ((x + b) % 2).toNat + tc (x % 2) (x / 2) := by
  unfold tc
  have m := mk_nn (b := x % 2) (x := x / 2) (by omega) (by omega)
  rw [mk_step h0 h1]
  generalize mk (x % 2) (x / 2) = k at m ⊢
  have hr : (x + b) % 2 = 0 ∨ (x + b) % 2 = 1 := by omega
  rcases hr with h | h
  · rw [h, show (2 * k + 0).toNat = 2 * k.toNat by omega, ones_even, List.length_map]
    simp
  · rw [h, show (2 * k + 1).toNat = 2 * k.toNat + 1 by omega, ones_odd, List.length_cons, List.length_map]
    show _ = 1 + _
    omega
def T (x : Int) : Nat := (turnsN x).length
theorem T_tc (x : Int) : T x = tc 0 x := by
  unfold T turnsN tc marks
  rw [marks_eq]
theorem tc_diff (x : Int) : tc 0 x ≤ tc 1 x + 1 ∧ tc 1 x ≤ tc 0 x + 1 := by
  rw [tc_step (b := 0) x (by decide) (by decide), tc_step (b := 1) x (by decide) (by decide)]
  omega
theorem tc_up (n : Nat) : ∀ h : Int, 0 ≤ h → h < n → tc 0 (h + 1) ≤ tc 1 h + 1 ∧ tc 1 h ≤ tc 0 (h + 1) + 1 := by
  induction n with
  | zero => intro h h0 h1; omega
  | succ n ih =>
    intro h h0 h1
    rw [tc_step (b := 0) (h + 1) (by decide) (by decide), tc_step (b := 1) h (by decide) (by decide)]
    have p : h % 2 = 0 ∨ h % 2 = 1 := by omega
    rcases p with p | p
    · have d := tc_diff (h / 2)
      rw [show (h + 1) / 2 = h / 2 by omega, show (h + 1) % 2 = 1 by omega, p, show (h + 1 + 0) % 2 = 1 by omega]
      omega
    · have d := ih (h / 2) (by omega) (by omega)
      rw [show (h + 1) / 2 = h / 2 + 1 by omega, show (h + 1) % 2 = 0 by omega, p, show (h + 1 + 0) % 2 = 0 by omega]
      show 0 + _ ≤ 0 + _ + 1 ∧ 0 + _ ≤ 0 + _ + 1
      omega
theorem tc_one {b x : Int} (h0 : 0 ≤ b) (h1 : b < 2) (hx : 0 ≤ x) : tc b (x + 1) ≤ tc b x + 2 ∧ tc b x ≤ tc b (x + 1) + 2 := by
  rw [tc_step (x + 1) h0 h1, tc_step x h0 h1]
  have p : x % 2 = 0 ∨ x % 2 = 1 := by omega
  rcases p with p | p
  · have d := tc_diff (x / 2)
    rw [show (x + 1) / 2 = x / 2 by omega, show (x + 1) % 2 = 1 by omega, p]
    omega
  · have d := tc_up ((x / 2).toNat + 1) (x / 2) (by omega) (by omega)
    rw [show (x + 1) / 2 = x / 2 + 1 by omega, show (x + 1) % 2 = 0 by omega, p]
    omega
theorem tc_pow (p : Nat) : ∀ b x : Int, 0 ≤ b → b < 2 → 0 ≤ x → tc b (x + 2 ^ p) ≤ tc b x + 2 ∧ tc b x ≤ tc b (x + 2 ^ p) + 2 := by
  induction p with
  | zero => intro b x h0 h1 hx; exact tc_one h0 h1 hx
  | succ p ih =>
    intro b x h0 h1 hx
    have e : (2 : Int) ^ (p + 1) = 2 * 2 ^ p := by rw [Int.pow_succ, Int.mul_comm]
    rw [e]
    have d := ih (x % 2) (x / 2) (by omega) (by omega) (by omega)
    generalize (2 : Int) ^ p = q at d ⊢
    rw [tc_step (x + 2 * q) h0 h1, tc_step x h0 h1, show (x + 2 * q + b) % 2 = (x + b) % 2 by omega, show (x + 2 * q) % 2 = x % 2 by omega, show (x + 2 * q) / 2 = x / 2 + q by omega]
    omega
theorem T_pow {x : Int} (p : Nat) (hx : 0 ≤ x) : T (x + 2 ^ p) ≤ T x + 2 ∧ T x ≤ T (x + 2 ^ p) + 2 := by
  rw [T_tc, T_tc]
  exact tc_pow p 0 x (by decide) (by decide) hx
theorem T_le {x : Int} {n : Nat} (h0 : 0 ≤ x) (h1 : x < 2 ^ n) : T x ≤ n + 1 := turns_len (by have := Int.pow_pos (n := 2) (m := n) (by decide); omega) h1
/-- a piece adds at most four turns -/
def Pc (z : Int) : Prop := ∀ (x : Int) (s : Nat), 0 ≤ x → T (x + z * 2 ^ s) ≤ T x + 4
theorem pc_1 : Pc 1 := fun x s hx => by
  have := T_pow s hx
  rw [Int.one_mul]; omega
theorem pc_5 : Pc 5 := fun x s hx => by
  have a := T_pow s hx
  have hs : (0 : Int) < 2 ^ s := Int.pow_pos (by decide)
  have b := T_pow (x := x + 2 ^ s) (s + 2) (by omega)
  have e : x + 5 * 2 ^ s = x + 2 ^ s + 2 ^ (s + 2) := by rw [Int.pow_add]; omega
  rw [e]; omega
theorem pc_pow (k : Nat) : Pc (2 ^ k - 1) := fun x s hx => by
  have hs : (0 : Int) < 2 ^ s := Int.pow_pos (by decide)
  have hk : (0 : Int) < 2 ^ k := Int.pow_pos (by decide)
  have a := T_pow (x := x) (k + s) hx
  have nn : 0 ≤ x + (2 ^ k - 1) * 2 ^ s := by
    have : 0 ≤ (2 ^ k - 1) * (2 : Int) ^ s := Int.mul_nonneg (by omega) (by omega)
    omega
  have b := T_pow (x := x + (2 ^ k - 1) * 2 ^ s) s nn
  have e : x + (2 ^ k - 1) * 2 ^ s + 2 ^ s = x + 2 ^ (k + s) := by rw [Int.sub_mul, Int.one_mul, Int.pow_add]; omega
  rw [e] at b
  omega
theorem pc_3 : Pc 3 := pc_pow 2
/-- turns in the lowest group, and above it -/
def Sz (A B : Nat) (c : Int) : Prop := T (c % 2 ^ 200) ≤ A ∧ T (c / 2 ^ 200) ≤ B
theorem Sz.mono {A B A' B' : Nat} {c : Int} (h : Sz A B c) (a : A ≤ A') (b : B ≤ B') : Sz A' B' c := ⟨Nat.le_trans h.1 a, Nat.le_trans h.2 b⟩
theorem sz_first {c : Int} (h0 : 0 ≤ c) (h1 : c < 128) : Sz 8 0 c := by
  unfold Sz
  rw [show c % 2 ^ 200 = c by omega, show c / 2 ^ 200 = 0 by omega]
  refine ⟨T_le (n := 7) h0 h1, ?_⟩
  unfold T turnsN
  rw [show marks 0 = 0 by decide +kernel, ones_zero]
  exact Nat.le_refl _
theorem low_of_code {m : Nat} {b c : Int} (h : CodeB m b c) (hb : b ≤ 2 ^ 60) : 0 ≤ c ∧ c % 2 ^ 200 < 2 ^ 60 := by
  obtain ⟨d, rfl, h2, _⟩ := h
  have a0 := h2 0; have a1 := h2 1; have a2 := h2 2; have a3 := h2 3
  unfold val4
  omega
theorem sz_add {m : Nat} {b c e : Int} {A B : Nat} (h : CodeB m b c) (hb : b ≤ 2 ^ 60) (s : Sz A B c) (h0 : 0 ≤ e) (h1 : e < 4) : Sz (A + 4) B (c + e) := by
  obtain ⟨l0, l1⟩ := low_of_code h hb
  unfold Sz at *
  rw [show (c + e) % 2 ^ 200 = c % 2 ^ 200 + e by omega, show (c + e) / 2 ^ 200 = c / 2 ^ 200 by omega]
  have y0 : 0 ≤ c % 2 ^ 200 := by omega
  generalize c % 2 ^ 200 = y at *
  refine ⟨?_, s.2⟩
  have p3 := pc_3 y 0 y0
  have q1 := T_pow 0 y0
  have q2 := T_pow 1 y0
  have : e = 0 ∨ e = 1 ∨ e = 2 ∨ e = 3 := by omega
  rcases this with rfl | rfl | rfl | rfl
  · rw [Int.add_zero]; omega
  · have : T (y + 1) ≤ T y + 2 := q1.1
    omega
  · have : T (y + 2) ≤ T y + 2 := q2.1
    omega
  · have : T (y + 3) ≤ T y + 4 := p3
    omega
theorem sz_piece {m : Nat} {b c pc : Int} {k s A B : Nat} (h : CodeB m b c) (hb : b ≤ 2 ^ 60) (hk : k < 4) (p0 : 0 ≤ pc) (p1 : pc < 2 ^ 40) (hs : s < 15) (hp : Pc pc) (z : Sz A B c) : Sz (A + 4) (B + 4) (c + pc * 2 ^ (200 * k + s)) := by
  obtain ⟨l0, l1⟩ := low_of_code h hb
  unfold Sz at *
  have hs2 : (2 : Int) ^ s ≤ 2 ^ 14 := p_le (by omega)
  have hs1 : (0 : Int) < 2 ^ s := Int.pow_pos (by decide)
  rcases Nat.eq_zero_or_pos k with rfl | kp
  · rw [Nat.mul_zero, Nat.zero_add]
    have t := hp (c % 2 ^ 200) s (by omega)
    have q0 : 0 ≤ pc * 2 ^ s := Int.mul_nonneg p0 (by omega)
    have q1 : pc * 2 ^ s < 2 ^ 55 := by
      have a : pc * 2 ^ s ≤ pc * 2 ^ 14 := Int.mul_le_mul_of_nonneg_left hs2 p0
      omega
    generalize pc * 2 ^ s = w at *
    rw [show (c + w) % 2 ^ 200 = c % 2 ^ 200 + w by omega, show (c + w) / 2 ^ 200 = c / 2 ^ 200 by omega]
    omega
  · have t := hp (c / 2 ^ 200) (200 * (k - 1) + s) (by omega)
    have e : pc * 2 ^ (200 * k + s) = 2 ^ 200 * (pc * 2 ^ (200 * (k - 1) + s)) := by
      rw [show 200 * k + s = 200 + (200 * (k - 1) + s) by omega, Int.pow_add, Int.mul_left_comm]
    rw [e]
    generalize pc * 2 ^ (200 * (k - 1) + s) = w at *
    rw [show (c + 2 ^ 200 * w) % 2 ^ 200 = c % 2 ^ 200 by omega, show (c + 2 ^ 200 * w) / 2 ^ 200 = c / 2 ^ 200 + w by omega]
    omega
end Fb
namespace Fb
open PySem L2
/-! ### one more floor changes nothing -/
theorem lexD_congr {c c' : PyData → PyData → Int} : ∀ (xs ys : List PyData), (∀ x ∈ xs, ∀ y ∈ ys, c x y = c' x y) → lexD c xs ys = lexD c' xs ys
  | [], [], _ => rfl
  | [], _ :: _, _ => rfl
  | _ :: _, [], _ => rfl
  | x :: xs, y :: ys, h => by
    show (if PyData.eqv x y = true then lexD c xs ys else par (xs.length + 1) (c x y)) = if PyData.eqv x y = true then lexD c' xs ys else par (xs.length + 1) (c' x y)
    rw [lexD_congr xs ys fun a ha b hb => h a (List.mem_cons_of_mem _ ha) b (List.mem_cons_of_mem _ hb), h x List.mem_cons_self y List.mem_cons_self]
theorem cmpD_succ : ∀ (n : Nat) (x y : PyData), Fm n x → Fm n y → cmpD (n + 1) x y = cmpD n x y
  | 0, x, y, hx, hy => by
    obtain ⟨i, rfl⟩ := hx
    obtain ⟨j, rfl⟩ := hy
    rfl
  | n + 1, x, y, hx, hy => by
    rcases hx with ⟨i, rfl⟩ | ⟨xs, rfl, _, fx⟩ <;> rcases hy with ⟨j, rfl⟩ | ⟨ys, rfl, _, fy⟩
    · rfl
    · rfl
    · rfl
    · show (if negD (.tuple xs) = negD (.tuple ys) then lexD (cmpD (n + 1)) xs.reverse ys.reverse else _) = if negD (.tuple xs) = negD (.tuple ys) then lexD (cmpD n) xs.reverse ys.reverse else _
      rw [lexD_congr xs.reverse ys.reverse fun a ha b hb => cmpD_succ n a b (fx a (List.mem_reverse.mp ha)) (fy b (List.mem_reverse.mp hb))]
theorem OrdN.up {n : Nat} {g : Int → PyData} {S : Int → Prop} (o : OrdN n g S) : OrdN (n + 1) g S :=
  { fm := fun a h => (o.fm a h).succ, ord := fun a b ha hb => by rw [cmpD_succ n _ _ (o.fm a ha) (o.fm b hb)]; exact o.ord a b ha hb, pos := o.pos, near := o.near, far := o.far }
theorem sz_succ : ∀ (n : Nat) (d : PyData), Fm n d → sz (n + 1) d = sz n d
  | 0, d, h => by
    obtain ⟨i, rfl⟩ := h
    rw [sz_int, sz_int]
  | n + 1, d, h => by
    rcases h with ⟨i, rfl⟩ | ⟨ds, rfl, _, f⟩
    · rw [sz_int, sz_int]
    · show 1 + (ds.map (sz (n + 1))).sum = 1 + (ds.map (sz n)).sum
      rw [List.map_congr_left fun d hd => sz_succ n d (f d hd)]
theorem Fm.up {n : Nat} {d : PyData} (h : Fm n d) : ∀ k, Fm (n + k) d
  | 0 => h
  | k + 1 => (Fm.up h k).succ
end Fb
namespace Fb
open PySem L2
/-! ### the one form of each integer, by its height -/
theorem OrdN.sub {n : Nat} {g : Int → PyData} {S S' : Int → Prop} (o : OrdN n g S) (h : ∀ c, S' c → S c) : OrdN n g S' :=
  { fm := fun c k => o.fm c (h c k), ord := fun a b ha hb => o.ord a b (h a ha) (h b hb), pos := fun c k => o.pos c (h c k), near := fun c k => o.near c (h c k), far := fun c k => o.far c (h c k) }
theorem num_ord {n : Nat} {g : Int → PyData} {S : Int → Prop} (o : OrdN n g S) {x y : Int} (hx : Num g S x) (hy : Num g S y) : cmpD (n + 1) (numD g x) (numD g y) = sgnI x y := by
  unfold numD
  rw [row_ord o hx.mem hy.mem (tl_asc x) (tl_asc y) (by have := hx.len; omega) (by have := hy.len; omega)]
  exact cmpS_turns x y
theorem num_negD {n : Nat} {g : Int → PyData} {S : Int → Prop} (o : OrdN n g S) {z : Int} (hz : Num g S z) : negD (numD g z) = decide (z < 0) := by
  have h := alt_par (turns_asc z)
  rw [turns_alt] at h
  have e : negD (numD g z) = decide ((Tl z).length % 2 = 1) := row_neg o hz.mem (tl_asc z)
  rw [e]
  refine decide_eq_decide.mpr ?_
  unfold Tl
  rw [len_zs]
  constructor
  · exact h.1
  · intro k
    rcases Nat.mod_two_eq_zero_or_one (turnsN z).length with e | e
    · have := h.2 e; omega
    · exact e
theorem ordN_num {n : Nat} {g : Int → PyData} {S : Int → Prop} (o : OrdN n g S) : OrdN (n + 1) (numD g) fun z => 0 ≤ z ∧ Num g S z := by
  refine { fm := fun c h => num_fm o h.2, ord := fun a b ha hb => num_ord o ha.2 hb.2, pos := fun c h => h.1, near := fun c h h64 => ?_, far := fun c h h64 => ?_ }
  · exact num_pl o h.2 ⟨by have := h.1; omega, by omega⟩
  · rcases num_cases o h.2 with ⟨pl, e, _⟩ | ⟨npl, e, _⟩
    · rw [e]; exact decide_eq_false (by omega)
    · rw [e]; rfl
def gU : Nat → Int → PyData
  | 0 => PyData.int
  | n + 1 => numD (gU n)
/-- heights up to n, at most L turns everywhere -/
def UU (L : Nat) : Nat → Int → Prop
  | 0, z => plain z
  | n + 1, z => (Tl z).length ≤ L ∧ ∀ t ∈ Tl z, UU L n t
def SU (L n : Nat) (t : Int) : Prop := 0 ≤ t ∧ UU L n t
theorem plain_tl {z : Int} (h : plain z) : (Tl z).length ≤ 66 ∧ ∀ t ∈ Tl z, plain t := by
  refine ⟨?_, fun t ht => ?_⟩
  · unfold Tl
    rw [len_zs]
    have := turns_len (n := 64) h.1 h.2
    omega
  · have := tl_near.mp h t ht
    have := tl_pos z t ht
    exact ⟨by omega, by omega⟩
theorem uu_plain {L : Nat} (hL : 66 ≤ L) : ∀ {n : Nat} {z : Int}, plain z → UU L n z
  | 0, _, h => h
  | n + 1, z, h => by
    have k := plain_tl h
    exact ⟨by omega, fun t ht => uu_plain hL (k.2 t ht)⟩
theorem uu_up {L : Nat} (hL : 66 ≤ L) : ∀ {n : Nat} {z : Int}, UU L n z → UU L (n + 1) z
  | 0, _, h => uu_plain hL h
  | _ + 1, _, h => ⟨h.1, fun t ht => uu_up hL (h.2 t ht)⟩
theorem uu_le {L n m : Nat} (hL : 66 ≤ L) (e : n ≤ m) {z : Int} (h : UU L n z) : UU L m z := by
  induction e with
  | refl => exact h
  | step _ ih => exact uu_up hL ih
theorem uu_wide {L L' : Nat} (e : L ≤ L') : ∀ {n : Nat} {z : Int}, UU L n z → UU L' n z
  | 0, _, h => h
  | _ + 1, _, h => ⟨Nat.le_trans h.1 e, fun t ht => uu_wide e (h.2 t ht)⟩
theorem uu_num {L n : Nat} (hL : L ≤ 8500) {z : Int} (h : UU L (n + 1) z) : Num (gU n) (SU L n) z := ⟨fun c hc => ⟨tl_pos z c hc, h.2 c hc⟩, by have := h.1; omega⟩
theorem ordU {L : Nat} (hL : L ≤ 8500) : ∀ n : Nat, OrdN n (gU n) (SU L n)
  | 0 => (ordN_int 0).sub fun _ h => h.1
  | n + 1 => (ordN_num (ordU hL n)).sub fun _ h => ⟨h.1, uu_num hL h.2⟩
theorem gU_plain {n : Nat} {z : Int} (h : plain z) : gU n z = .int z := by
  cases n with
  | zero => rfl
  | succ n => exact num_pl (ordU (L := 66) (by decide) n) (uu_num (by decide) (uu_plain (Nat.le_refl _) h)) h
theorem gU_up {L : Nat} (h66 : 66 ≤ L) (hL : L ≤ 8500) : ∀ {n : Nat} {z : Int}, UU L n z → gU (n + 1) z = gU n z
  | 0, _, h => gU_plain (n := 1) h
  | n + 1, z, h => by
    show rowD ((Tl z).map (gU (n + 1))) = rowD ((Tl z).map (gU n))
    rw [List.map_congr_left fun t ht => gU_up h66 hL (h.2 t ht)]
theorem gU_le {L n m : Nat} (h66 : 66 ≤ L) (hL : L ≤ 8500) (e : n ≤ m) {z : Int} (h : UU L n z) : gU m z = gU n z := by
  induction e with
  | refl => rfl
  | step k ih => rw [gU_up h66 hL (uu_le h66 k h), ih]
theorem niU {L n : Nat} (hL : L ≤ 8500) : NI (gU n) (SU L n) := by
  refine ⟨fun c i h e => ?_, fun c h h0 h1 => gU_plain ⟨by omega, by omega⟩⟩
  cases n with
  | zero => injection e with e; exact e.symm
  | succ n =>
    rcases num_cases (ordU hL n) (uu_num hL h.2) with ⟨pl, e2, _⟩ | ⟨npl, e2, _⟩
    · have e3 : gU (n + 1) c = .int c := e2
      rw [e3] at e
      injection e with e
      exact e.symm
    · have e3 : gU (n + 1) c = .tuple ((Tl c).map (gU n)) := e2
      rw [e3] at e
      cases e
theorem nnU {L n : Nat} (hL : L ≤ 8500) : ∀ c, SU L n c → negD (gU n c) = false := fun c h => by
  cases n with
  | zero => exact decide_eq_false (by have := h.1; omega)
  | succ n =>
    have e : negD (gU (n + 1) c) = decide (c < 0) := num_negD (ordU hL n) (uu_num hL h.2)
    rw [e]
    exact decide_eq_false (by have := h.1; omega)
theorem su_small {L n : Nat} (hL : 66 ≤ L) {c : Int} (h0 : 0 ≤ c) (h1 : c < 2 ^ 64) : SU L n c := ⟨h0, uu_plain hL ⟨by omega, h1⟩⟩
/-! ### sums -/
theorem carT_len (x y : Int) {k : Nat} : (carT (fm2 (Tl x) (Tl y)).1 (fm2 (Tl x) (Tl y)).2 k).length ≤ min (Tl x).length (Tl y).length + 2 := by
  unfold carT
  rw [List.length_append]
  have h := carL_len (fm2 (Tl x) (Tl y)).2 (fm2 (Tl x) (Tl y)).1 0 0 k
  have e : (fm2 (Tl x) (Tl y)).1.length = min (Tl x).length (Tl y).length := by
    unfold fm2
    split
    · show (Tl x).length = _; omega
    · show (Tl y).length = _; omega
  rw [e] at h
  split <;> simp <;> omega
theorem sum_turns (x y : Int) {k : Nat} (hk : k ≤ 1) : (∀ t ∈ Tl (x + y + k), t ∈ Tl x ∨ t ∈ Tl y ∨ t = 0 ∨ t = 1 ∨ t - 1 ∈ Tl x ∨ t - 1 ∈ Tl y) ∧ (Tl (x + y + k)).length ≤ (Tl x).length + (Tl y).length + min (Tl x).length (Tl y).length + 2 := by
  obtain ⟨c, c1, c2, c3⟩ := fm2_car x y hk
  have lc := carT_len x y (k := k)
  rw [c1] at lc
  rw [← c3]
  refine ⟨fun t ht => ?_, ?_⟩
  · rcases xor_mem ht with h | h
    · rcases xor_mem h with h | h
      · exact .inl h
      · rcases c2 t h with h | h | h | h
        · exact .inr (.inr (.inl h))
        · exact .inr (.inr (.inr (.inl (by omega))))
        · exact .inr (.inr (.inr (.inr (.inr h))))
        · exact .inr (.inr (.inr (.inr (.inl h))))
    · exact .inr (.inl h)
  · have a := tl_len_xor (Builtin.bitXor x c) y
    have b := tl_len_xor x c
    omega
theorem tl_zero : Tl 0 = [] := by
  unfold Tl turnsN
  rw [show marks 0 = 0 by decide +kernel, ones_zero]
  rfl
theorem uu_01 {L n : Nat} (hL : 66 ≤ L) {t : Int} (h : t = 0 ∨ t = 1) : UU L n t := uu_plain hL (by rcases h with rfl | rfl <;> decide)
theorem uu_succ {L : Nat} (hL : 66 ≤ L) : ∀ {n : Nat} {z : Int}, UU L n z → UU (L + 2) (n + 1) (z + 1)
  | 0, z, h => by
    have h : plain z := h
    have b0 : -(2 ^ 65) ≤ z + 1 := by have := h.1; omega
    have b1 : z + 1 < 2 ^ 65 := by have := h.2; omega
    refine ⟨?_, fun t ht => ?_⟩
    · unfold Tl
      rw [len_zs]
      have := turns_len (n := 65) b0 b1
      omega
    · have p := tl_pos _ t ht
      obtain ⟨q, hq, rfl⟩ := List.mem_map.mp ht
      have := turns_lt (n := 65) b0 b1 q hq
      show plain ((q : Nat) : Int)
      exact ⟨by omega, by omega⟩
  | n + 1, z, h => by
    have e : z + 0 + ((1 : Nat) : Int) = z + 1 := by omega
    obtain ⟨m, l⟩ := sum_turns z 0 (k := 1) (by decide)
    rw [e, tl_zero] at m l
    have l' : (Tl (z + 1)).length ≤ (Tl z).length + 2 := by simp at l; omega
    have h1 := h.1
    refine ⟨by omega, fun t ht => ?_⟩
    rcases m t ht with k | k | k | k | k | k
    · exact uu_up (by omega) (uu_wide (by omega) (h.2 t k))
    · cases k
    · exact uu_01 (by omega) (.inl k)
    · exact uu_01 (by omega) (.inr k)
    · have := uu_succ hL (h.2 _ k)
      rw [show t - 1 + 1 = t by omega] at this
      exact this
    · cases k
theorem su_succ {L n : Nat} (hL : 66 ≤ L) {z : Int} (h : SU L n z) : SU (L + 2) (n + 1) (z + 1) := ⟨by have := h.1; omega, uu_succ hL h.2⟩
theorem uu_sum {L n : Nat} (hL : 66 ≤ L) {x y : Int} {k : Nat} (hk : k ≤ 1) (hx : UU L (n + 1) x) (hy : UU L (n + 1) y) : UU (3 * L + 2) (n + 2) (x + y + k) := by
  obtain ⟨m, l⟩ := sum_turns x y hk
  have h1 := hx.1
  have h2 := hy.1
  refine ⟨by omega, fun t ht => ?_⟩
  rcases m t ht with k | k | k | k | k | k
  · exact uu_up (by omega) (uu_wide (by omega) (hx.2 t k))
  · exact uu_up (by omega) (uu_wide (by omega) (hy.2 t k))
  · exact uu_01 (by omega) (.inl k)
  · exact uu_01 (by omega) (.inr k)
  · have := uu_succ hL (hx.2 _ k)
    rw [show t - 1 + 1 = t by omega] at this
    exact uu_wide (by omega) this
  · have := uu_succ hL (hy.2 _ k)
    rw [show t - 1 + 1 = t by omega] at this
    exact uu_wide (by omega) this
theorem uu_not {L n : Nat} (hL : 66 ≤ L) {z : Int} (h : UU L (n + 1) z) : UU (L + 1) (n + 1) (-z - 1) := by
  have l : (Tl (-z - 1)).length ≤ (Tl z).length + 1 := by
    rw [← flp_tl]
    exact flp_len _
  have h1 := h.1
  refine ⟨by omega, fun t ht => ?_⟩
  rcases not_mem ht with k | k
  · exact uu_01 (by omega) (.inl k)
  · exact uu_wide (by omega) (h.2 t k)
theorem uu_sub {L n : Nat} (hL : 66 ≤ L) {x y : Int} (hx : UU L (n + 1) x) (hy : UU L (n + 1) y) : UU (3 * L + 5) (n + 2) (x - y) := by
  have := uu_sum (L := L + 1) (by omega) (k := 1) (by decide) (uu_wide (by omega) hx) (uu_not hL hy)
  rw [show x + (-y - 1) + ((1 : Nat) : Int) = x - y by omega] at this
  exact uu_wide (by omega) this
end Fb
namespace Fb
open PySem L2
/-! ### the arithmetic of forms, every height at once -/
structure DefAt (K : PySem.W.Frag) (mg : Str → Option Value) (x : Str) (st : Stmt) (ps : List Str) : Prop where
  ex : ∃ f fd, Fun K x x st f fd ∧ Binds K fd ps [] ∧ mg x = some (.ref f)
structure DefUp (K : PySem.W.Frag) (mg : Str → Option Value) : Prop where
  ex : ∃ f fd dvs kws ds dsx, FunD K "turns_up_to" "turns_up_to" (defArgs S_turns_up_to) (defBody S_turns_up_to) (defScope S_turns_up_to) dvs kws f fd ∧ mg "turns_up_to" = some (.ref f) ∧ Vals [.int 0] ds ∧ Binds K fd P_turns_up_to ds ∧ Vals [] dsx ∧ Binds K fd P_turns_up_to dsx
structure Core (K : PySem.W.Frag) (mg : Str → Option Value) : Prop where
  B : Blt mg
  hk : PySem.W.nsIn K cStatics "sys.int_max_str_digits" = some none
  LP : ∃ tk, mg "LAST_PLAIN_TURN" = some (.int 64 tk)
  FT : ∃ tk, mg "FEW_TURNS" = some (.int 8 tk)
  MT : ∃ tk, mg "MANY_TURNS" = some (.int 16 tk)
  BI : ∃ tk, mg "BITS" = some (.str "01" tk)
  PS : ∃ tk, mg "PLAIN_STOP" = some (.int 18446744073709551616 tk)
  NP : ∃ tk, mg "NEAR_PLACE" = some (.int 1000 tk)
  BT : ∃ tk, mg "BITS_FOR_A_TURN" = some (.int 64 tk)
  is_near : DefAt K mg "is_near" S_is_near P_is_near
  int_of_rows : DefAt K mg "int_of_rows" S_int_of_rows P_int_of_rows
  int_of_turns : DefAt K mg "int_of_turns" S_int_of_turns P_int_of_turns
  is_negative : DefAt K mg "is_negative" S_is_negative P_is_negative
  ones_of_text : DefAt K mg "ones_of_text" S_ones_of_text P_ones_of_text
  turns_of_int : DefAt K mg "turns_of_int" S_turns_of_int P_turns_of_int
  is_plain : DefAt K mg "is_plain" S_is_plain P_is_plain
  form_of_int : DefAt K mg "form_of_int" S_form_of_int P_form_of_int
  form_with : DefAt K mg "form_with" S_form_with P_form_with
  turns_in : DefAt K mg "turns_in" S_turns_in P_turns_in
  compare : DefAt K mg "compare" S_compare P_compare
  compare_far : DefAt K mg "compare_far" S_compare_far P_compare_far
  common_tail : DefAt K mg "common_tail" S_common_tail P_common_tail
  is_less : DefAt K mg "is_less" S_is_less P_is_less
  turns_between : DefAt K mg "turns_between" S_turns_between P_turns_between
  turns_before : DefAt K mg "turns_before" S_turns_before P_turns_before
  up : DefUp K mg
  shorter_first : DefAt K mg "shorter_first" S_shorter_first P_shorter_first
  merged_turns : DefAt K mg "merged_turns" S_merged_turns P_merged_turns
  flipped_turns : DefAt K mg "flipped_turns" S_flipped_turns P_flipped_turns
  is_short : DefAt K mg "is_short" S_is_short P_is_short
  are_near : DefAt K mg "are_near" S_are_near P_are_near
  int_of_form : DefAt K mg "int_of_form" S_int_of_form P_int_of_form
  plus_one : DefAt K mg "plus_one" S_plus_one P_plus_one
  carry_turns : DefAt K mg "carry_turns" S_carry_turns P_carry_turns
  summed_turns : DefAt K mg "summed_turns" S_summed_turns P_summed_turns
section
variable {P : Program} {w : World} {K : PySem.W.Frag} {mg : Str → Option Value} {base : Heap}
theorem DefAt.has {x : Str} {st : Stmt} {ps : List Str} {k : Nat} {sp : Sp} (D : DefAt K mg x st ps) (h : ∀ f fd, Fun K x x st f fd → FnOk P w K mg base CX0 k f fd ps sp) : Has P w K mg base k x ps [] sp := by
  obtain ⟨f, fd, F, b, m⟩ := D.ex
  exact ⟨f, fd, [], h f fd F, F.kp, m, .nil, b⟩
theorem DefAt.hasX {x : Str} {st : Stmt} {ps : List Str} {k : Nat} {sp : Sp} (D : DefAt K mg x st ps) (h : ∀ f fd, Fun K x x st f fd → FnOk P w K mg base (L2.CX P w) k f fd ps sp) : HasX P w K mg base k x ps sp := by
  obtain ⟨f, fd, F, b, m⟩ := D.ex
  exact ⟨f, fd, h f fd F, F.kp, m, b⟩
theorem Has.weak {x : Str} {ps : List Str} {dvs : List V} {k : Nat} {sp sp' : Sp} (C : Has P w K mg base k x ps dvs sp) (h : ∀ vs H Q E, sp' vs H Q E → sp vs H Q E) : Has P w K mg base k x ps dvs sp' := by
  obtain ⟨f, fd, ds, F, r⟩ := C.ex
  exact ⟨f, fd, ds, ⟨fun a b c d h' => F.1 a b c d (h _ _ _ _ h'), fun a1 a2 a3 a4 a5 a6 a7 a8 a9 b1 b2 b3 b4 h' => F.2 a1 a2 a3 a4 a5 a6 a7 a8 a9 b1 b2 b3 b4 (h _ _ _ _ h')⟩, r⟩
def lev : Nat → Nat
  | 0 => 4
  | n + 1 => 2 * n + lev n + 6
variable (c : Core K mg)
abbrev oU (n : Nat) : OrdN n (gU n) (SU 8500 n) := ordU (Nat.le_refl _) n
abbrev nU (n : Nat) : ∀ c, SU 8500 n c → negD (gU n c) = false := nnU (Nat.le_refl _)
abbrev sU (n : Nat) : SU 8500 n 0 := su_small (by decide) (by decide) (by decide)
abbrev sU1 (n : Nat) : SU 8500 n 1 := su_small (by decide) (by decide) (by decide)
abbrev g65 (n : Nat) : gU n 65 = .int 65 := gU_plain (by decide)
include c
theorem Core.c_near : Has P w K mg base 1 "is_near" P_is_near [] (spNear K) := c.is_near.has fun _ _ F => ok_near F c.B c.LP.choose_spec
theorem Core.c_rows : Has P w K mg base 1 "int_of_rows" P_int_of_rows [] (spRows K) := c.int_of_rows.has fun _ _ F => ok_rows F c.B c.BI.choose_spec c.hk
theorem Core.c_iot : Has P w K mg base 2 "int_of_turns" P_int_of_turns [] (spIoT K) := c.int_of_turns.has fun _ _ F => ok_iot F c.B c.MT.choose_spec c.c_rows
theorem Core.c_neg : Has P w K mg base 1 "is_negative" P_is_negative [] (spNeg K) := c.is_negative.has fun _ _ F => ok_neg F c.B
theorem Core.c_onest : Has P w K mg base 1 "ones_of_text" P_ones_of_text [] spOnesT := c.ones_of_text.has fun _ _ F => ok_onest F c.B
theorem Core.c_tint : Has P w K mg base 2 "turns_of_int" P_turns_of_int [] spTurns := c.turns_of_int.has fun _ _ F => ok_tint F c.B c.FT.choose_spec c.c_onest
theorem Core.c_plain : Has P w K mg base 1 "is_plain" P_is_plain [] spPlain := c.is_plain.has fun _ _ F => ok_plain F c.PS.choose_spec
theorem Core.c_foi : Has P w K mg base 3 "form_of_int" P_form_of_int [] (spFoi K) := c.form_of_int.has fun _ _ F => ok_foi F c.B c.c_plain c.c_tint
theorem Core.c_with (n : Nat) : Has P w K mg base 3 "form_with" P_form_with [] (spWith K (gU n) (SU 8500 n)) := c.form_with.has fun _ _ F => ok_with (oU n) F c.B c.c_near c.c_iot
theorem Core.c_tin (n : Nat) : Has P w K mg base 3 "turns_in" P_turns_in [] (spTin K (gU n) (SU 8500 n)) := c.turns_in.has fun _ _ F => ok_tin (oU n) F c.B c.c_tint
theorem Core.c_order (n : Nat) (hn : n ≤ 40) : Has P w K mg base (2 * n + 2) "compare" P_compare [] (spCmp K n) := by
  obtain ⟨f, fd, F, b, m⟩ := c.compare.ex
  obtain ⟨g, gd, G, bg, mg'⟩ := c.compare_far.ex
  obtain ⟨t, td, T, bt, mt⟩ := c.common_tail.ex
  exact ⟨f, fd, [], ok_order F b m G bg mg' c.B c.c_neg T bt mt c.FT.choose_spec hn, F.kp, m, .nil, b⟩
theorem Core.c_far (n : Nat) (hn : n ≤ 40) : Has P w K mg base (2 * n + 3) "compare_far" P_compare_far [] (spFar K n) := by
  obtain ⟨f, fd, F, b, m⟩ := c.compare.ex
  obtain ⟨g, gd, G, bg, mg'⟩ := c.compare_far.ex
  obtain ⟨t, td, T, bt, mt⟩ := c.common_tail.ex
  exact ⟨g, gd, [], ok_compare_far F b m G bg mg' c.B c.c_neg T bt mt c.FT.choose_spec hn, G.kp, mg', .nil, bg⟩
theorem Core.c_less (n : Nat) (hn : n ≤ 40) : Has P w K mg base (2 * n + 2) "is_less" P_is_less [] (spLess K (gU n) (SU 8500 n)) := by
  cases n with
  | zero => exact c.is_less.has fun _ _ F => ok_less (oU 0) (nU 0) (spF := fun _ _ _ _ => False) (fun m h => nomatch h) F c.B (c.compare_far.has fun _ _ _ => fnok_no)
  | succ m => exact c.is_less.has fun _ _ F => ok_less (oU (m + 1)) (nU (m + 1)) (spF := spFar K m) (fun k h vs H Q E x => by cases h; exact x) F c.B (c.c_far m (by omega))
theorem Core.c_between (n : Nat) (hn : n ≤ 40) : Has P w K mg base (2 * n + 3) "turns_between" P_turns_between [] (spBetween K (gU n) (SU 8500 n)) := c.turns_between.has fun _ _ F => ok_between F (c.c_less n hn)
theorem Core.c_before (n : Nat) (hn : n ≤ 40) : Has P w K mg base (2 * n + 4) "turns_before" P_turns_before [] (spBefore K (gU n) (SU 8500 n)) := c.turns_before.has fun _ _ F => ok_before F c.B (c.c_less n hn) (c.c_between n hn)
theorem Core.c_upto (n : Nat) (hn : n ≤ 40) : Has P w K mg base (2 * n + 5) "turns_up_to" P_turns_up_to [] (spUpTo K (gU n) (SU 8500 n)) := by
  obtain ⟨f, fd, dvs, kws, ds, dsx, F, m, v, b, vx, bx⟩ := c.up.ex
  exact ⟨f, fd, dsx, ok_upto hn (oU n) F c.B (c.c_between n hn) (c.c_before n hn), F.kp, m, vx, bx⟩
theorem Core.c_upto0 (n : Nat) (hn : n ≤ 40) : Has P w K mg base (2 * n + 5) "turns_up_to" P_turns_up_to [.int 0] (spUpTo K (gU n) (SU 8500 n)) := by
  obtain ⟨f, fd, dvs, kws, ds, dsx, F, m, v, b, vx, bx⟩ := c.up.ex
  exact ⟨f, fd, ds, ok_upto hn (oU n) F c.B (c.c_between n hn) (c.c_before n hn), F.kp, m, v, b⟩
theorem Core.c_short : Has P w K mg base 1 "shorter_first" P_shorter_first [] (spShort K) := c.shorter_first.has fun _ _ F => ok_short F c.B
theorem Core.c_merged (n : Nat) (hn : n ≤ 40) : Has P w K mg base (2 * n + 5) "merged_turns" P_merged_turns [] (spMerged K (gU n) (SU 8500 n)) := c.merged_turns.has fun _ _ F => ok_merged hn (oU n) F c.B c.c_short (c.c_before n hn)
theorem Core.c_flip (n : Nat) (hn : n ≤ 40) : Has P w K mg base 1 "flipped_turns" P_flipped_turns [] (spFlip K (gU n) (SU 8500 n)) := c.flipped_turns.has fun _ _ F => ok_flip hn (oU n) (sU n) F c.B
theorem Core.c_isshort (n : Nat) : Has P w K mg base 1 "is_short" P_is_short [] (spIsShort K (gU n) (SU 8500 n)) := c.is_short.has fun _ _ F => ok_isshort (oU n) (nU n) F c.B c.MT.choose_spec c.NP.choose_spec
theorem Core.c_arenear (n : Nat) : Has P w K mg base 2 "are_near" P_are_near [] (spAreNear K (gU n) (SU 8500 n)) := c.are_near.has fun _ _ F => ok_arenear (oU n) (nU n) F c.B c.MT.choose_spec c.NP.choose_spec c.BT.choose_spec (c.c_isshort n)
theorem Core.c_iof (n : Nat) : Has P w K mg base 3 "int_of_form" P_int_of_form [] (spIof K (gU n) (SU 8500 n)) := c.int_of_form.has fun _ _ F => ok_iof (oU n) F c.B c.c_iot
theorem Core.c_next (n : Nat) (hn : n ≤ 40) : Has P w K mg base (lev n) "plus_one" P_plus_one [] (spNext K (gU n) (SU 8500 n)) := by
  induction n with
  | zero => exact c.plus_one.has fun _ _ F => ok_next (k := 0) (g := gU 0) (fun x hx => ⟨rfl, hx.2.1, hx.2.2⟩) F c.B c.c_foi (c.plus_one.has fun _ _ _ => fnok_no) (c.form_with.has fun _ _ _ => fnok_no) (c.merged_turns.has fun _ _ _ => fnok_no)
  | succ n ih =>
    refine Has.weak (c.plus_one.has fun _ _ F => ok_succ (n := n) (by omega) (oU n) (g65 n) (sU n) F c.B c.c_foi (ih (by omega)) (c.c_with n) (c.c_merged n (by omega))) fun vs H Q E h => ?_
    obtain ⟨v, z, e, hd, hz, hz', q⟩ := h
    exact ⟨v, z, e, hd, uu_num (Nat.le_refl _) hz.2, uu_num (Nat.le_refl _) hz'.2, q⟩
theorem Core.c_succ (n : Nat) (hn : n ≤ 40) : Has P w K mg base (lev (n + 1)) "plus_one" P_plus_one [] (spNum1 K (gU n) (SU 8500 n) fun z => z + 1) := c.plus_one.has fun _ _ F => ok_succ (n := n) hn (oU n) (g65 n) (sU n) F c.B c.c_foi (c.c_next n hn) (c.c_with n) (c.c_merged n hn)
theorem Core.c_carry (n : Nat) (hn : n ≤ 40) : Has P w K mg base (2 * n + lev n + 6) "carry_turns" P_carry_turns [] (spCarry K (gU n) (SU 8500 n)) := c.carry_turns.has fun _ _ F => ok_carry (oU n) (sU n) (sU1 n) F c.B c.c_short (c.c_less n hn) (c.c_upto n hn) (c.c_next n hn)
theorem Core.c_summed (n : Nat) (hn : n ≤ 40) : Has P w K mg base (2 * n + lev n + 7) "summed_turns" P_summed_turns [] (spSummed2 K (gU n) (SU 8500 n)) := c.summed_turns.has fun _ _ F => ok_summed2 (sU n) (sU1 n) F c.B c.c_short (c.c_merged n hn) (c.c_carry n hn)
theorem Core.c_plus (D : DefAt K mg "plus" S_plus P_plus) (n : Nat) (hn : n ≤ 40) : Has P w K mg base (2 * n + lev n + 8) "plus" P_plus [] (spSum K (gU n) (SU 8500 n) fun x y => x + y) := D.has fun _ _ F => ok_plus (oU n) (niU (Nat.le_refl _)) (g65 n) F c.B c.c_foi (c.c_with n) (c.c_tin n) (c.c_summed n hn) (c.c_arenear n) (c.c_iof n)
theorem Core.c_minus (D : DefAt K mg "minus" S_minus P_minus) (n : Nat) (hn : n ≤ 40) : Has P w K mg base (2 * n + lev n + 8) "minus" P_minus [] (spSum K (gU n) (SU 8500 n) fun x y => x - y) := D.has fun _ _ F => ok_minus (oU n) (niU (Nat.le_refl _)) (g65 n) (sU n) (sU1 n) F c.B c.c_foi (c.c_with n) (c.c_tin n) (c.c_summed n hn) (c.c_flip n hn) (c.c_arenear n) (c.c_iof n)
end
end Fb
namespace Fb
open PySem L2
/-! ### every canonical form is sound: its last place is the highest one -/
theorem gdU {L : Nat} (hL : L ≤ 8500) : ∀ n : Nat, (∀ z, UU L n z → ∃ h, Gd n h (gU n z)) ∧ ∀ a b : Int, 0 ≤ a → a ≤ b → UU L n a → UU L n b → ht n (gU n a) ≤ ht n (gU n b)
  | 0 => ⟨fun z _ => ⟨0, gd_int 0 z⟩, fun a b _ _ _ _ => by
      show ht 0 (.int a) ≤ ht 0 (.int b)
      rw [ht_int, ht_int]
      exact Int.le_refl 0⟩
  | n + 1 => by
    obtain ⟨g, mo⟩ := gdU hL n
    have far : ∀ z, UU L (n + 1) z → ¬ plain z → ∃ (l : List Nat) (p : Nat), turnsN z = l ++ [p] ∧ UU L n (p : Int) ∧ Gd (n + 1) (ht n (gU n (p : Int)) + 1) (gU (n + 1) z) := fun z u np => by
      obtain ⟨l, p, e⟩ : ∃ (l : List Nat) (p : Nat), turnsN z = l ++ [p] := by
        by_cases c : turnsN z = []
        · exact absurd (tl_near.mpr fun t ht => by unfold Tl at ht; rw [c] at ht; cases ht) np
        · exact ⟨_, _, (List.dropLast_concat_getLast c).symm⟩
      have eT : Tl z = zs l ++ [(p : Int)] := by
        unfold Tl
        rw [e]
        unfold zs
        rw [List.map_append]
        rfl
      have mp : (p : Int) ∈ Tl z := by rw [eT]; simp
      refine ⟨l, p, e, u.2 _ mp, ?_⟩
      have el : gU (n + 1) z = .tuple ((Tl z).map (gU n)) := by
        rcases num_cases (ordU hL n) (uu_num hL u) with ⟨pl, _, _⟩ | ⟨_, h, _⟩
        · exact absurd pl np
        · exact h
      rw [el]
      obtain ⟨hp, gp⟩ := g _ (u.2 _ mp)
      have ehp := gp.ht
      refine gd_tup (dl := gU n (p : Int)) (by rw [List.length_map]; have := u.1; omega) (by rw [eT, List.map_append]; simp) (by rw [ehp]; exact gp) fun x hx => ?_
      obtain ⟨t, ht, rfl⟩ := List.mem_map.mp hx
      obtain ⟨h1, g1⟩ := g _ (u.2 _ ht)
      refine ⟨h1, ?_, g1⟩
      rw [← g1.ht]
      refine mo t p (tl_pos z t ht) ?_ (u.2 _ ht) (u.2 _ mp)
      have asc := tl_asc z
      rw [eT] at asc ht
      rcases List.mem_append.mp ht with h | h
      · exact Int.le_of_lt ((List.pairwise_append.mp asc).2.2 t h p (by simp))
      · simp at h
        omega
    refine ⟨fun z u => ?_, fun a b a0 ab ua ub => ?_⟩
    · by_cases pl : plain z
      · rw [gU_plain pl]
        exact ⟨0, gd_int _ z⟩
      · obtain ⟨_, _, _, _, h⟩ := far z u pl
        exact ⟨_, h⟩
    · by_cases pa : plain a
      · rw [gU_plain pa, ht_int]
        exact ht_nonneg _ _
      · by_cases pb : plain b
        · exact absurd ⟨by omega, by have := pb.2; omega⟩ pa
        · obtain ⟨la, p, ea, up, ga⟩ := far a ua pa
          obtain ⟨lb, q, eb, uq, gb⟩ := far b ub pb
          rw [ga.ht, gb.ht]
          have := mo p q (by omega) (by have := last_mono a0 ab ea eb; omega) up uq
          omega
theorem gU_gd {L n : Nat} (hL : L ≤ 8500) {z : Int} (h : UU L n z) : ∃ hh, Gd n hh (gU n z) := (gdU hL n).1 z h
end Fb
namespace Fb
open PySem L2 Bx
/-! ### lists made item by item -/
/-- a slice: of a list a list, of a tuple a tuple -/
def rSlD2 (K : PySem.W.Frag) : V → Option Int → Option Int → Hp → VK → Prop := fun x lo hi H Q => ∃ a xs, x = .ref a ∧ ((H a = some (.lst xs) ∧ ∀ b H', Same H H' → H' b = some (.lst (cutV xs lo hi)) → Q (.ref b) H') ∨ (SqT K H a xs ∧ ∀ b H', Same H H' → SqT K H' b (cutV xs lo hi) → Q (.ref b) H'))
theorem sl_seqD {X : Cx} (K : PySem.W.Frag) (hK : X.K = K := by rfl) : SlR X (rSlD2 K) := by
  subst hK
  intro pins s σ H x v vl vu lo hi sl Q I rx hs pl pu ⟨a, xs, e, h⟩
  refine (sl_list.or sl_tupA) pins s σ H x v vl vu lo hi sl Q I rx hs pl pu (h.imp (fun ⟨h, q⟩ => ⟨a, xs, e, SqL.of h, fun p np => q p _ (Same.new np) upd_same⟩) fun ⟨h, q⟩ => ⟨a, xs, e, h, fun hw => ?_, fun _ p np => q p _ (Same.new np) (SqT.of upd_same)⟩)
  refine q a H (Same.refl H) ?_
  unfold cutV
  rw [hw.1, hw.2, List.drop_zero, Nat.sub_zero, List.take_length]
  exact h
/-- where the items come from -/
def Src (K : PySem.W.Frag) (t0 : TE) (σ : L2.St) (H : Hp) (xs : List V) : Prop := (∀ Q' : VK, (∀ a H1, Same H H1 → H1 a = some (.lst xs) → Q' (.ref a) H1) → t0 σ H Q') ∨ (∀ Q' : VK, (∀ a H1, Same H H1 → SqT K H1 a xs → Q' (.ref a) H1) → t0 σ H Q')
theorem src_var {K : PySem.W.Frag} {σ : L2.St} {H : Hp} {j : Nat} {a : Addr} {xs : List V} (h : Sq K H a xs) (hj : σ[j]? = some (some (.ref a))) : Src K (tVar j) σ H xs :=
  h.imp (fun h Q' q => ⟨_, hj, q a H (Same.refl H) h⟩) fun h Q' q => ⟨_, hj, q a H (Same.refl H) h⟩
theorem src_from {K : PySem.W.Frag} {σ : L2.St} {H : Hp} {i j : Nat} {a : Addr} {k : Nat} {xs : List V} (h : Sq K H a xs) (hj : σ[j]? = some (some (.ref a))) (hi : σ[i]? = some (some (.int (k : Int)))) (hk : k ≤ xs.length) : Src K (tSl (rSlD2 K) (tVar j) (tPart (tVar i)) tNoPart) σ H (xs.drop k) := by
  rw [← cut_from hk]
  exact h.imp (fun h Q' q => ⟨_, hj, _, hi, _, rfl, a, xs, rfl, .inl ⟨h, fun b H' e r => q b H' e r⟩⟩) fun h Q' q => ⟨_, hj, _, hi, _, rfl, a, xs, rfl, .inr ⟨h, fun b H' e r => q b H' e r⟩⟩
theorem wipe_one (σ : L2.St) (s : Nat) (x : Option V) : wipe ((wipe σ [s]).set s x) [s] = wipe σ [s] := by
  show (((σ.set s none).set s x).set s none) = σ.set s none
  rw [List.set_set, List.set_set]
theorem map_src {K : PySem.W.Frag} {t0 : TE} {σ : L2.St} {H : Hp} {xs : List V} {s n : Nat} {te : TE} {Q : VK} {ds : List PyData} (src : Src K t0 σ H xs) (hl : xs.length = ds.length) (lt : xs.length < sizeLine) (hfm : ∀ d ∈ ds, Fm n d)
    (step : ∀ (i : Nat) (x : V) (d : PyData), xs[i]? = some x → ds[i]? = some d → ∀ H', Same H H' → ∀ Q' : VK, (∀ y H4, Same H' H4 → Dp K H4 y d → Q' y H4) → te ((wipe σ [s]).set s (some x)) H' Q')
    (fin : ∀ (D : Addr) (ys : List V) (H' : Hp), Same H H' → H' D = some (.lst ys) → DpAll K H' ys ds → Q (.ref D) H') : tLc (iSeq K t0) (gName s) tYes te [s] σ H Q := by
  have turn : ∀ (H1 : Hp) (D : Addr), Same H H1 → H1 D = none → ∀ (i : Nat) (x : V) (H' : Hp), xs[i]? = some x → (∃ ys : List V, Same H1 H' ∧ H' D = some (.lst ys) ∧ DpAll K H' ys (ds.take i)) →
      te ((wipe σ [s]).set s (some x)) H' fun y H4 => ∃ acc, H4 D = some (.lst acc) ∧ acc.length < sizeLine ∧ ∃ ys : List V, Same H1 (upd H4 D (.lst (acc ++ [y]))) ∧ upd H4 D (.lst (acc ++ [y])) D = some (.lst ys) ∧ DpAll K (upd H4 D (.lst (acc ++ [y]))) ys (ds.take (i + 1)) := fun H1 D e1 nD i x H' hx ⟨ys, e, hD, hy⟩ => by
    have hi : i < xs.length := (List.getElem?_eq_some_iff.mp hx).1
    have hd : ds[i]? = some ds[i] := List.getElem?_eq_getElem (by omega)
    refine step i x _ hx hd H' (e1.trans e) _ fun y H4 e4 dy => ⟨ys, e4 _ _ hD, ?_, ys ++ [y], Same.mut (e.trans e4) nD, upd_same, ?_⟩
    · rw [dps_length hy, List.length_take]
      omega
    · have td : Td H4 (upd H4 D (.lst (ys ++ [y]))) := Td.lst (e4 _ _ hD)
      rw [show ds.take (i + 1) = ds.take i ++ [ds[i]] by rw [List.take_add_one, hd]; rfl]
      refine dps_app (((Td.of (Nd.of e4)).trans td).ds (n := n) (fun z hz => hfm z (List.mem_of_mem_take hz)) hy) (.cons (td.d (hfm _ (List.mem_of_getElem? hd)) dy) .nil)
  rcases src with h | h
  · refine .inl (h _ fun a H1 e1 hL => ⟨a, rfl, ⟨_, SqL.of hL⟩, fun D nD => ?_⟩)
    refine lc_list (xs := xs) (fun i H' => ∃ ys : List V, Same H1 H' ∧ H' D = some (.lst ys) ∧ DpAll K H' ys (ds.take i)) ⟨[], Same.new nD, upd_same, .nil⟩ (fun i H' _ h => h.elim fun _ h => h.1.seq (SqL.of hL)) (fun i x H' hx h => ⟨wipe_one _ _ _, lcT (turn H1 D e1 nD i x H' hx h)⟩) (fun H' h => ?_)
    obtain ⟨ys, e, hD, hy⟩ := h
    rw [hl, List.take_length] at hy
    exact fin D ys H' (e1.trans e) hD hy
  · refine .inr (h _ fun a H1 e1 hL => ⟨a, rfl, ⟨_, hL⟩, fun D nD => ?_⟩)
    refine lc_tup (xs := xs) (fun i H' => ∃ ys : List V, Same H1 H' ∧ H' D = some (.lst ys) ∧ DpAll K H' ys (ds.take i)) ⟨[], Same.new nD, upd_same, .nil⟩ (fun i H' _ h => h.elim fun _ h => (Nd.of h.1).sqt hL) (fun i x H' hx h => ⟨wipe_one _ _ _, lcT (turn H1 D e1 nD i x H' hx h)⟩) (fun H' h => ?_)
    obtain ⟨ys, e, hD, hy⟩ := h
    rw [hl, List.take_length] at hy
    exact fin D ys H' (e1.trans e) hD hy
/-! ### shifts of integers -/
theorem tl_shl (x : Int) (k : Nat) : Tl (x * 2 ^ k) = (Tl x).map (· + (k : Int)) := by
  have asc : ((turnsN x).map (· + k)).Pairwise (· < ·) := List.pairwise_map.mpr ((turns_asc x).imp fun h => by omega)
  have e : alt (-1) ((turnsN x).map (· + k)) = x * 2 ^ k := by rw [alt_shift, turns_alt, Int.mul_comm]
  unfold Tl
  rw [← e, turns_of_alt asc]
  unfold zs
  rw [List.map_map, List.map_map]
  rfl
theorem bt_shr (p k : Nat) (x : Int) : Bt p (x / 2 ^ k) = Bt (p + k) x := by
  unfold Bt
  rw [Nat.add_comm, Int.pow_add, ← Int.ediv_ediv_of_nonneg (Int.le_of_lt (Int.pow_pos (by decide)))]
theorem cnt_sub (l : List Int) (k p : Int) : cnt (l.map (· - k)) p = cnt l (p + k) := by
  unfold cnt
  rw [List.filter_map, List.length_map]
  congr 1
  refine List.filter_congr fun t _ => ?_
  show decide (t - k ≤ p) = decide (t ≤ p + k)
  exact decide_eq_decide.mpr (by omega)
theorem tl_shr (x : Int) (k : Nat) : Tl (x / 2 ^ k) = (if cnt (Tl x) (k : Int) % 2 = 1 then [0] else []) ++ ((Tl x).drop (cnt (Tl x) (k : Int))).map (· - (k : Int)) := by
  have gt : ∀ t ∈ (Tl x).drop (cnt (Tl x) (k : Int)), (k : Int) < t := fun t ht => by
    obtain ⟨s1, s2, s3, s4⟩ := split3 (k : Int) (tl_asc x)
    exact s3 t ht
  symm
  refine tl_of ?_ ?_ fun p => ?_
  · refine List.pairwise_append.mpr ⟨by split <;> simp, List.pairwise_map.mpr (((tl_asc x).sublist (List.drop_sublist _ _)).imp fun h => by omega), fun a ha b hb => ?_⟩
    obtain ⟨t, ht, rfl⟩ := List.mem_map.mp hb
    have := gt t ht
    split at ha
    · rw [List.mem_singleton.mp ha]; omega
    · cases ha
  · intro c hc
    rcases List.mem_append.mp hc with h | h
    · split at h
      · rw [List.mem_singleton.mp h]; decide
      · cases h
    · obtain ⟨t, ht, rfl⟩ := List.mem_map.mp h
      have := gt t ht
      omega
  · rw [bt_shr, bt_tl, cnt_app, cnt_sub]
    have d := (drop_cnt (tl_asc x) (u := (k : Int)) (c := (p : Int) + (k : Int)) (by omega))
    have z : cnt (if cnt (Tl x) (k : Int) % 2 = 1 then [(0 : Int)] else []) (p : Int) = cnt (Tl x) (k : Int) % 2 := by
      split
      · rename_i h
        rw [h, cnt_cons, if_pos (by omega), cnt_nil]
      · rw [cnt_nil]; omega
    rw [z, d.1]
    have e : ((p + k : Nat) : Int) = (p : Int) + (k : Int) := by omega
    rw [e]
    omega
theorem uu_shl {L n : Nat} (hL : 66 ≤ L) {x s : Int} (hx : UU L (n + 2) x) (hs : UU L (n + 1) s) (s0 : 0 ≤ s) : UU (3 * L + 2) (n + 3) (x * 2 ^ s.toNat) := by
  have h1 := hx.1
  refine ⟨by rw [tl_shl, List.length_map]; omega, fun t ht => ?_⟩
  rw [tl_shl] at ht
  obtain ⟨u, hu, rfl⟩ := List.mem_map.mp ht
  have e : u + ((s.toNat : Nat) : Int) = u + s + ((0 : Nat) : Int) := by omega
  rw [e]
  exact uu_sum (n := n) hL (by decide) (hx.2 u hu) hs
theorem uu_shr {L n : Nat} (hL : 66 ≤ L) {x s : Int} (hx : UU L (n + 2) x) (hs : UU L (n + 1) s) (s0 : 0 ≤ s) : UU (3 * L + 5) (n + 3) (x / 2 ^ s.toNat) := by
  have h1 := hx.1
  refine ⟨?_, fun t ht => ?_⟩
  · rw [tl_shr, List.length_append, List.length_map, List.length_drop]
    split <;> simp <;> omega
  rw [tl_shr] at ht
  rcases List.mem_append.mp ht with h | h
  · split at h
    · exact uu_01 (by omega) (.inl (List.mem_singleton.mp h))
    · cases h
  · obtain ⟨u, hu, rfl⟩ := List.mem_map.mp h
    have e : u - ((s.toNat : Nat) : Int) = u - s := by omega
    rw [e]
    exact uu_sub (n := n) hL (hx.2 u (List.mem_of_mem_drop hu)) hs
section
variable {P : Program} {w : World} {K : PySem.W.Frag} {mg : Str → Option Value} {base : Heap} {f : Addr} {fd : FuncData}
/-- two numbers, their sum or difference -/
def spPU (K : PySem.W.Frag) (n L : Nat) (r : Int → Int → Int) : Sp := fun vs H Q _ => ∃ (v u : V) (x y : Int), vs = [v, u] ∧ Dp K H v (gU n x) ∧ Dp K H u (gU n y) ∧ UU L n x ∧ UU L n y ∧ ∀ (v' : V) (H' : Hp), Same H H' → Dp K H' v' (gU (n + 1) (r x y)) → Q v' H'
theorem sum_pu {n L : Nat} (h66 : 66 ≤ L) (hL : L ≤ 2500) {r : Int → Int → Int} (hr : ∀ x y, UU L (n + 1) x → UU L (n + 1) y → UU 8500 (n + 2) (r x y)) : ∀ vs H Q E, spPU K (n + 1) L r vs H Q E → spSum K (gU (n + 1)) (SU 8500 (n + 1)) r vs H Q E := fun vs H Q E h => by
  obtain ⟨v, u, x, y, rfl, hx, hy, ux, uy, q⟩ := h
  have e8 : L ≤ 8500 := by omega
  have up : ∀ z, UU L (n + 1) z → Num (gU (n + 1)) (SU 8500 (n + 1)) z ∧ numD (gU (n + 1)) z = gU (n + 1) z := fun z hz =>
    ⟨uu_num (Nat.le_refl _) (uu_wide e8 (uu_up h66 hz)), gU_up h66 e8 hz⟩
  have nx : ∀ z, UU L (n + 1) z → ∀ t ∈ Tl z, SU 8500 (n + 1) (t + 1) := fun z hz t ht => by
    have := su_succ (L := L) h66 (z := t) ⟨tl_pos z t ht, hz.2 t ht⟩
    exact ⟨this.1, uu_wide (by omega) this.2⟩
  have h1 := ux.1
  have h2 := uy.1
  refine ⟨v, u, x, y, rfl, by rw [(up x ux).2]; exact hx, by rw [(up y uy).2]; exact hy, (up x ux).1, (up y uy).1, nx x ux, nx y uy, by omega, ?_, uu_num (Nat.le_refl _) (hr x y ux uy), q⟩
  show (Tl x).length + (Tl y).length ≤ 8000
  omega
theorem Core.plusU (c : Core K mg) (D : DefAt K mg "plus" S_plus P_plus) (n L : Nat) (hn : n + 1 ≤ 40) (h66 : 66 ≤ L) (hL : L ≤ 2500) : Has P w K mg base (2 * (n + 1) + lev (n + 1) + 8) "plus" P_plus [] (spPU K (n + 1) L fun x y => x + y) :=
  (c.c_plus D (n + 1) hn).weak (sum_pu h66 hL fun x y hx hy => uu_wide (L := 3 * L + 2) (by omega) (by have := uu_sum h66 (k := 0) (by decide) hx hy; rw [show x + y + ((0 : Nat) : Int) = x + y by omega] at this; exact this))
theorem Core.minusU (c : Core K mg) (D : DefAt K mg "minus" S_minus P_minus) (n L : Nat) (hn : n + 1 ≤ 40) (h66 : 66 ≤ L) (hL : L ≤ 2500) : Has P w K mg base (2 * (n + 1) + lev (n + 1) + 8) "minus" P_minus [] (spPU K (n + 1) L fun x y => x - y) :=
  (c.c_minus D (n + 1) hn).weak (sum_pu h66 hL fun x y hx hy => uu_wide (L := 3 * L + 5) (by omega) (uu_sub h66 hx hy))
abbrev S_are_movable : Stmt := top 98
abbrev N_are_movable : List Str := ["turns", "amount"]
abbrev P_are_movable : List Str := ["turns", "amount"]
theorem sc_are_movable : FnScope N_are_movable P_are_movable (defScope S_are_movable) := ⟨rfl, rfl, rfl, by decide +kernel, rfl, by decide +kernel, by decide +kernel⟩
def spMov (K : PySem.W.Frag) (n : Nat) : Sp := fun vs H Q _ => ∃ (a : Addr) (u : V) (l : List Int) (s : Int), vs = [.ref a, u] ∧ Pls K H (gU n) a l ∧ Dp K H u (gU n s) ∧ l.Pairwise (· < ·) ∧ (∀ t ∈ l, SU 8500 n t) ∧ SU 8500 n s ∧
  ∀ b : Bool, (b = true → gU n s = .int s ∧ ∀ t ∈ l, gU n t = .int t ∧ t + s < 2 ^ 64) → Q (.bl b) H
theorem isI_gU {n : Nat} {c : Int} (h : SU 8500 n c) (hi : isI (gU n c) = true) : gU n c = .int c := by
  obtain ⟨i, e⟩ := fm_int ((ordU (Nat.le_refl _) n).fm c h) hi
  have := (niU (Nat.le_refl _)).hid c i h e
  rw [e, this]
theorem gU_lt {n : Nat} {c : Int} (h : SU 8500 n c) (e : gU n c = .int c) : c < 2 ^ 64 := by
  cases n with
  | zero => exact h.2.2
  | succ n =>
    rcases num_cases (ordU (Nat.le_refl _) n) (uu_num (Nat.le_refl _) h.2) with ⟨pl, _, _⟩ | ⟨npl, e2, _⟩
    · exact pl.2
    · have e3 : gU (n + 1) c = .tuple _ := e2
      rw [e] at e3
      cases e3
theorem ok_movable {n : Nat} {tk : Tok} (F : Fun K "are_movable" "are_movable" S_are_movable f fd) (B : Blt mg) (MS : mg "PLAIN_STOP" = some (.int 18446744073709551616 tk)) : FnOk P w K mg base CX0 1 f fd P_are_movable (spMov K n) := by
  have nd := sc_are_movable.nd
  refine F.ok sc_are_movable (fun vs H Q E h => ?_) (fun cdv A outer s H vs Q E hr h => ?_)
  · obtain ⟨a, u, l, s, rfl, _⟩ := h
    rfl
  obtain ⟨a, u, l, s, rfl, hp, hu, asc, hS, ss, q⟩ := h
  refine ⟨_, (pss_cons (ps_if (PW.pt (pw_or (pt_not (pt_val (pe_callB (call_isiI K) (by rfl) B.isinstance (by decide +kernel) (pa_cons (pv 1) (pa_cons (pe_bltn (by rfl) B.int (by decide +kernel) (show RelV (.ty "int") (.type "int") from rfl)) pa_nil))))) (pw_or (pt_cmpR op_eq (pe_callB (call_lenS K) (by rfl) B.len PySem.boot_len (pa_cons (pv 0) pa_nil)) pe_int (nomark _)) (pw_or1 (pt_not (pt_val (pe_callB (call_isiI K) (by rfl) B.isinstance (by decide +kernel) (pa_cons (pe_ix (ix_seqK K) (pv 0) (pe_un un_neg pe_int) (fun _ _ => rfl)) (pa_cons (pe_bltn (by rfl) B.int (by decide +kernel) (show RelV (.ty "int") (.type "int") from rfl)) pa_nil))))))))) (pss_one (ps_ret pe_bl)) pss_nil)
    (pss_one (ps_ret (pe_cmpR op_lt (pe_op op_add (pe_ix (ix_seqK K) (pv 0) (pe_un un_neg pe_int) (fun _ _ => rfl)) (pv 1)) (pe_glob (v := .int 18446744073709551616) rfl MS ⟨_, rfl⟩) (nomark _))))), ?_⟩
  obtain ⟨vs, hs, hl, hd, hat⟩ := hp.at
  have no : Q (.bl false) H := q false fun h => nomatch h
  refine ⟨_, rfl, u, gU n s, rfl, hu, _, rfl, ?_⟩
  cases hi : isI (gU n s) with
  | false => exact iteT no
  | true =>
  refine iteF ?_
  have es := isI_gU ss hi
  rw [es] at hu
  cases hu
  refine ⟨_, rfl, a, vs, rfl, hs, rfl, _, rfl, ?_⟩
  refine iteD (fun c => iteT no) (fun c => ?_)
  rcases List.eq_nil_or_concat l with rfl | ⟨m, p, rfl⟩
  · exact absurd (congrArg V.int (by simpa using hl)) c
  rw [List.concat_eq_append] at *
  rw [List.map_append] at hd
  obtain ⟨x, hx, dx⟩ := dps_last hd
  have sp := hS p (by simp)
  refine ⟨_, rfl, _, rfl, rIx_sq hs hx ⟨x, gU n p, rfl, dx, _, rfl, ?_⟩⟩
  cases hj : isI (gU n p) with
  | false => exact iteT no
  | true =>
  refine iteF ?_
  have ep := isI_gU sp hj
  rw [ep] at dx
  cases dx
  refine ⟨_, rfl, _, rfl, rIx_sq hs hx ⟨_, rfl, _, _, rfl, rfl, _, _, rfl, rfl, q _ fun h => ⟨es, fun t ht => ?_⟩⟩⟩
  have h' := of_decide_eq_true h
  have lt : t ≤ p := by
    rcases List.mem_append.mp ht with k | k
    · exact Int.le_of_lt ((List.pairwise_append.mp asc).2.2 t k p (by simp))
    · rw [List.mem_singleton.mp k]; exact Int.le_refl _
  have p64 := gU_lt sp ep
  have st := hS t ht
  have e64 : (2 : Int) ^ 64 = 18446744073709551616 := by decide
  refine ⟨gU_plain ⟨by have := st.1; omega, by omega⟩, by rw [e64]; omega⟩
abbrev S_shifted_up : Stmt := top 96
abbrev N_shifted_up : List Str := ["x", "amount", "turns", "turn"]
abbrev P_shifted_up : List Str := ["x", "amount"]
theorem sc_shifted_up : FnScope N_shifted_up P_shifted_up (defScope S_shifted_up) := ⟨rfl, rfl, rfl, by decide +kernel, rfl, by decide +kernel, by decide +kernel⟩
def spShU (K : PySem.W.Frag) (n L : Nat) : Sp := fun vs H Q _ => ∃ (v u : V) (x s : Int), vs = [v, u] ∧ Dp K H v (gU (n + 2) x) ∧ UU L (n + 2) x ∧ Dp K H u (gU (n + 1) s) ∧ UU L (n + 1) s ∧ 0 ≤ s ∧ ∀ (v' : V) (H' : Hp), Same H H' → Dp K H' v' (gU (n + 3) (x * 2 ^ s.toNat)) → Q v' H'
theorem ok_shup {n L k : Nat} (h66 : 66 ≤ L) (hL : L ≤ 2500) (k3 : 3 ≤ k) (F : Fun K "shifted_up" "shifted_up" S_shifted_up f fd) (Cturns_in : Has P w K mg base 3 "turns_in" P_turns_in [] (spTin K (gU (n + 1)) (SU 8500 (n + 1)))) (Care_movable : Has P w K mg base 1 "are_movable" P_are_movable [] (spMov K (n + 1)))
    (Cform_with : Has P w K mg base 3 "form_with" P_form_with [] (spWith K (gU (n + 2)) (SU 8500 (n + 2)))) (Cplus : Has P w K mg base k "plus" P_plus [] (spPU K (n + 1) L fun x y => x + y)) : FnOk P w K mg base CX0 (k + 1) f fd P_shifted_up (spShU K n L) := by
  have nd := sc_shifted_up.nd
  refine F.ok sc_shifted_up (fun vs H Q E h => ?_) (fun cdv A outer s H vs Q E hr h => ?_)
  · obtain ⟨v, u, x, s, rfl, _⟩ := h
    rfl
  obtain ⟨v, u, x, s, rfl, hx, ux, hs, us, s0, q⟩ := h
  refine ⟨_, (pss_cons (ps_set (i := 2) nd rfl (Or.inl rfl) (pe_H Cturns_in (hr.mono (by omega)) rfl (pa_cons (pv 0) pa_nil)))
    (pss_cons (ps_if (pt_val (pe_H Care_movable (hr.mono (by omega)) rfl (pa_cons (pv 2) (pa_cons (pv 1) pa_nil)))) (pss_one (ps_ret (pe_H Cform_with (hr.mono (by omega)) rfl (pa_cons (pe_lc (own := [("turn", 3)]) (g := gName 3) (tt := tYes) rfl nd (pi_seq K (pv 2)) (blkOk_by (own := [("turn", 3)]) (N := N_shifted_up) (sc := defScope S_shifted_up) (by decide +kernel)) (fun _ _ _ _ _ => pg_name (i := 3) nd rfl (Or.inl rfl)) (fun _ _ _ _ _ => pts_nil) (fun _ _ _ _ _ => (pe_op op_add (pv 3) (pv 1)))) pa_nil)))) pss_nil)
    (pss_one (ps_ret (pe_H Cform_with (hr.mono (by omega)) rfl (pa_cons (pe_lc (own := [("turn", 3)]) (g := gName 3) (tt := tYes) rfl nd (pi_seq K (pv 2)) (blkOk_by (own := [("turn", 3)]) (N := N_shifted_up) (sc := defScope S_shifted_up) (by decide +kernel)) (fun _ _ _ _ _ => pg_name (i := 3) nd rfl (Or.inl rfl)) (fun _ _ _ _ _ => pts_nil) (fun _ _ _ _ _ => (pe_H Cplus (hr.mono (by omega)) rfl (pa_cons (pv 3) (pa_cons (pv 1) pa_nil))))) pa_nil)))))), ?_⟩
  have e8 : L ≤ 8500 := by omega
  have w8 : UU 8500 (n + 2) x := uu_wide e8 ux
  have ur := uu_shl h66 ux us s0
  have ur8 : UU 8500 (n + 3) (x * 2 ^ s.toNat) := uu_wide (by omega) ur
  have ex : (s.toNat : Int) = s := by omega
  have l1 := ux.1
  refine ⟨_, rfl, v, x, rfl, hx, uu_num (Nat.le_refl _) w8, fun a H1 e1 hp => ?_⟩
  obtain ⟨vs, hsq, hl, hd, hat⟩ := hp.at
  refine ⟨_, rfl, _, rfl, a, u, Tl x, s, rfl, hp, (Nd.of e1).d hs, tl_asc x, (fun t ht => ⟨tl_pos x t ht, w8.2 t ht⟩), ⟨s0, uu_wide e8 us⟩, fun b hb => ?_⟩
  have eds : (Tl x).map (fun t => gU (n + 2) (t + s)) = (Tl (x * 2 ^ s.toNat)).map (gU (n + 2)) := by
    rw [tl_shl, List.map_map, ex]
    rfl
  have fm : ∀ d ∈ (Tl x).map (fun t => gU (n + 2) (t + s)), Fm (n + 2) d := fun d hd => by
    rw [eds] at hd
    obtain ⟨t, ht, rfl⟩ := List.mem_map.mp hd
    exact (ordU (Nat.le_refl _) (n + 2)).fm t ⟨tl_pos _ t ht, ur8.2 t ht⟩
  have ll : vs.length = ((Tl x).map (fun t => gU (n + 2) (t + s))).length := by rw [List.length_map]; exact hl
  have lt : vs.length < sizeLine := by rw [hl]; exact Nat.lt_of_le_of_lt (show _ ≤ 2500 by omega) (by decide)
  have fin : ∀ (D : Addr) (ys : List V) (H' : Hp), Same H1 H' → H' D = some (.lst ys) → DpAll K H' ys ((Tl x).map (fun t => gU (n + 2) (t + s))) → spWith K (gU (n + 2)) (SU 8500 (n + 2)) [.ref D] H' (fun x H' => Q x H') E0 := fun D ys H' e' hD hy =>
    ⟨D, x * 2 ^ s.toNat, rfl, ⟨ys, .inl hD, by rw [← eds]; exact hy⟩, uu_num (Nat.le_refl _) ur8, fun v' H2 e2 d2 => q v' H2 (e1.trans (e'.trans e2)) d2⟩
  have item : ∀ (i : Nat) (y : V) (d : PyData), vs[i]? = some y → ((Tl x).map (fun t => gU (n + 2) (t + s)))[i]? = some d → ∃ t ∈ Tl x, d = gU (n + 2) (t + s) ∧ Dp K H1 y (gU (n + 1) t) := fun i y d hy hd' => by
    rw [List.getElem?_map] at hd'
    obtain ⟨t, ht, rfl⟩ := Option.map_eq_some_iff.mp hd'
    obtain ⟨y', hy', dy⟩ := hat i t ht
    rw [hy] at hy'
    cases hy'
    exact ⟨t, List.mem_of_getElem? ht, rfl, dy⟩
  refine ⟨_, rfl, ?_⟩
  cases b with
  | true =>
    refine iteT ?_
    obtain ⟨es, et⟩ := hb rfl
    rw [es] at hs
    cases hs
    dsimp only [tNext, tRet, tCall, tCons]
    refine map_src (s := 3) (by exact src_var hsq rfl) ll lt fm (fun i y d hy hd' H' e' Q' hq => ?_) (fun D ys H' e' hD hy => ?_)
    · obtain ⟨t, ht, rfl, dy⟩ := item i y d hy hd'
      rw [(et t ht).1] at dy
      cases dy
      refine ⟨_, rfl, _, rfl, _, _, rfl, rfl, hq _ _ (Same.refl _) ?_⟩
      rw [gU_plain ⟨by have := tl_pos x t ht; omega, (et t ht).2⟩]
      exact .int _
    · exact fin D ys H' e' hD hy
  | false =>
    refine iteF ?_
    dsimp only [tNext, tRet, tCall, tCons]
    refine map_src (s := 3) (by exact src_var hsq rfl) ll lt fm (fun i y d hy hd' H' e' Q' hq => ?_) (fun D ys H' e' hD hy => ?_)
    · obtain ⟨t, ht, rfl, dy⟩ := item i y d hy hd'
      exact ⟨_, rfl, _, rfl, y, u, t, s, rfl, (Nd.of e').d dy, (Nd.of (e1.trans e')).d hs, ux.2 t ht, us, fun v' H4 e4 d4 => hq v' H4 e4 d4⟩
    · exact fin D ys H' e' hD hy
abbrev S_shifted_down : Stmt := top 97
abbrev N_shifted_down : List Str := ["x", "amount", "turns", "at", "moved", "turn"]
abbrev P_shifted_down : List Str := ["x", "amount"]
theorem sc_shifted_down : FnScope N_shifted_down P_shifted_down (defScope S_shifted_down) := ⟨rfl, rfl, rfl, by decide +kernel, rfl, by decide +kernel, by decide +kernel⟩
def spShD (K : PySem.W.Frag) (n L : Nat) : Sp := fun vs H Q _ => ∃ (v u : V) (x s : Int), vs = [v, u] ∧ Dp K H v (gU (n + 2) x) ∧ UU L (n + 2) x ∧ Dp K H u (gU (n + 1) s) ∧ UU L (n + 1) s ∧ 0 ≤ s ∧ ∀ (v' : V) (H' : Hp), Same H H' → Dp K H' v' (gU (n + 3) (x / 2 ^ s.toNat)) → Q v' H'
theorem ok_shdown {n L k : Nat} (h66 : 66 ≤ L) (hL : L ≤ 2500) (k3 : 2 * (n + 1) + 5 ≤ k) (F : Fun K "shifted_down" "shifted_down" S_shifted_down f fd) (Cturns_in : Has P w K mg base 3 "turns_in" P_turns_in [] (spTin K (gU (n + 1)) (SU 8500 (n + 1)))) (Care_movable : Has P w K mg base 1 "are_movable" P_are_movable [] (spMov K (n + 1)))
    (Cturns_up_to_d : Has P w K mg base (2 * (n + 1) + 5) "turns_up_to" P_turns_up_to [.int 0] (spUpTo K (gU (n + 1)) (SU 8500 (n + 1)))) (Cform_with : Has P w K mg base 3 "form_with" P_form_with [] (spWith K (gU (n + 2)) (SU 8500 (n + 2)))) (Cminus : Has P w K mg base k "minus" P_minus [] (spPU K (n + 1) L fun x y => x - y)) : FnOk P w K mg base CX0 (k + 1) f fd P_shifted_down (spShD K n L) := by
  have nd := sc_shifted_down.nd
  refine F.ok sc_shifted_down (fun vs H Q E h => ?_) (fun cdv A outer s H vs Q E hr h => ?_)
  · obtain ⟨v, u, x, s, rfl, _⟩ := h
    rfl
  obtain ⟨v, u, x, s, rfl, hx, ux, hs, us, s0, q⟩ := h
  refine ⟨_, (pss_cons (ps_set (i := 2) nd rfl (Or.inl rfl) (pe_H Cturns_in (hr.mono (by omega)) rfl (pa_cons (pv 0) pa_nil)))
    (pss_cons (ps_set (i := 3) nd rfl (Or.inl rfl) (pe_H Cturns_up_to_d (hr.mono (by omega)) rfl (pa_cons (pv 2) (pa_cons (pv 1) pa_nil))))
    (C8.pss_cut (ps_if (pt_val (pe_H Care_movable (hr.mono (by omega)) rfl (pa_cons (pv 2) (pa_cons (pv 1) pa_nil)))) (pss_one (ps_setLc (i := 4) (own := [("turn", 5)]) (g := gName 5) (tt := tYes) rfl nd rfl rfl (sw_true rfl rfl rfl (by decide +kernel)) (pi_seq K (pe_slice (sl_seqD K) (pv 2) (po_some (pv 3)) po_none)) (blkOk_by (own := [("turn", 5)]) (N := N_shifted_down) (sc := defScope S_shifted_down) (by decide +kernel)) (fun _ _ _ _ _ => pg_name (i := 5) nd rfl (Or.inl rfl)) (fun _ _ _ _ _ => pts_nil) (fun _ _ _ _ _ => (pe_op op_sub (pv 5) (pv 1))))) (pss_one (ps_setLc (i := 4) (own := [("turn", 5)]) (g := gName 5) (tt := tYes) rfl nd rfl rfl (sw_true rfl rfl rfl (by decide +kernel)) (pi_seq K (pe_slice (sl_seqD K) (pv 2) (po_some (pv 3)) po_none)) (blkOk_by (own := [("turn", 5)]) (N := N_shifted_down) (sc := defScope S_shifted_down) (by decide +kernel)) (fun _ _ _ _ _ => pg_name (i := 5) nd rfl (Or.inl rfl)) (fun _ _ _ _ _ => pts_nil) (fun _ _ _ _ _ => (pe_H Cminus (hr.mono (by omega)) rfl (pa_cons (pv 5) (pa_cons (pv 1) pa_nil)))))))
    (pss_one (ps_ret (pe_H Cform_with (hr.mono (by omega)) rfl (pa_cons (pe_ifExp (pt_truth (pe_op op_and (pv 3) pe_int) (by intro _; rfl)) (pe_lst (pa_cons pe_int (StX.pa_star (pv 4) pa_nil))) (pv 4)) pa_nil))))))), ?_⟩
  have e8 : L ≤ 8500 := by omega
  have w8 : UU 8500 (n + 2) x := uu_wide e8 ux
  have ss : SU 8500 (n + 1) s := ⟨s0, uu_wide e8 us⟩
  have ur := uu_shr h66 ux us s0
  have ur8 : UU 8500 (n + 3) (x / 2 ^ s.toNat) := uu_wide (by omega) ur
  have ex : (s.toNat : Int) = s := by omega
  have l1 := ux.1
  have aS : ∀ t ∈ Tl x, SU 8500 (n + 1) t := fun t ht => ⟨tl_pos x t ht, w8.2 t ht⟩
  have etl := tl_shr x s.toNat
  rw [ex] at etl
  refine ⟨_, rfl, v, x, rfl, hx, uu_num (Nat.le_refl _) w8, fun a H1 e1 hp => ?_⟩
  refine ⟨_, rfl, _, rfl, a, u, Tl x, s, 0, rfl, hp, (Nd.of e1).d hs, tl_asc x, aS, ss, Nat.zero_le _, by omega, fun H2 e2 => ?_⟩
  have hp2 := hp.same e2
  obtain ⟨vs, hsq, hl, hd, hat⟩ := hp2.at
  have hs2 := (Nd.of (e1.trans e2)).d hs
  generalize hc : cnt (Tl x) s = m at etl ⊢
  have ml : m ≤ (Tl x).length := by rw [← hc]; exact cnt_le _ _
  have gt : ∀ t ∈ (Tl x).drop m, s < t := fun t ht => by
    obtain ⟨_, _, s3, _⟩ := split3 s (tl_asc x)
    rw [hc] at s3
    exact s3 t ht
  have inr : ∀ t ∈ (Tl x).drop m, t - s ∈ Tl (x / 2 ^ s.toNat) := fun t ht => by
    rw [etl]
    exact List.mem_append_right _ (List.mem_map.mpr ⟨t, ht, rfl⟩)
  have fm : ∀ d ∈ ((Tl x).drop m).map (fun t => gU (n + 2) (t - s)), Fm (n + 2) d := fun d hd => by
    obtain ⟨t, ht, rfl⟩ := List.mem_map.mp hd
    have h1 := inr t ht
    exact (ordU (Nat.le_refl _) (n + 2)).fm _ ⟨tl_pos _ _ h1, ur8.2 _ h1⟩
  have ll : (vs.drop m).length = (((Tl x).drop m).map (fun t => gU (n + 2) (t - s))).length := by rw [List.length_map, List.length_drop, List.length_drop, hl]
  have lt : (vs.drop m).length < sizeLine := by rw [List.length_drop, hl]; exact Nat.lt_of_le_of_lt (show _ ≤ 2500 by omega) (by decide)
  have item : ∀ (i : Nat) (y : V) (d : PyData), (vs.drop m)[i]? = some y → (((Tl x).drop m).map (fun t => gU (n + 2) (t - s)))[i]? = some d → ∃ t ∈ (Tl x).drop m, d = gU (n + 2) (t - s) ∧ Dp K H2 y (gU (n + 1) t) := fun i y d hy hd' => by
    rw [List.getElem?_map] at hd'
    obtain ⟨t, ht, rfl⟩ := Option.map_eq_some_iff.mp hd'
    have ht2 := ht
    rw [List.getElem?_drop] at ht2 hy
    obtain ⟨y', hy', dy⟩ := hat (m + i) t ht2
    rw [hy] at hy'
    cases hy'
    exact ⟨t, List.mem_of_getElem? ht, rfl, dy⟩
  have src : ∀ z4 z5, Src K (tSl (rSlD2 K) (tVar 2) (tPart (tVar 3)) tNoPart) [some v, some u, some (.ref a), some (.int (m : Int)), z4, z5] H2 (vs.drop m) := fun z4 z5 => src_from hsq rfl rfl (by rw [hl]; exact ml)
  refine ⟨fun σ H' => ∃ (D : Addr) (ys : List V) (z : Option V), σ = [some v, some u, some (.ref a), some (.int (m : Int)), some (.ref D), z] ∧ Same H2 H' ∧ H' D = some (.lst ys) ∧ DpAll K H' ys (((Tl x).drop m).map (fun t => gU (n + 2) (t - s))), ?_, ?_⟩
  · refine ⟨_, rfl, _, rfl, a, u, Tl x, s, rfl, hp2, hs2, tl_asc x, aS, ss, fun b hb => ?_⟩
    refine ⟨_, rfl, ?_⟩
    cases b with
    | true =>
      refine iteT ?_
      obtain ⟨es, et⟩ := hb rfl
      rw [es] at hs hs2
      cases hs2
      dsimp only [tNext, tAsg]
      refine map_src (s := 5) (by exact src _ _) ll lt fm (fun i y d hy hd' H' e' Q' hq => ?_) (fun D ys H' e' hD hy => ⟨D, ys, _, rfl, e', hD, hy⟩)
      obtain ⟨t, ht, rfl, dy⟩ := item i y d hy hd'
      have htx := List.mem_of_mem_drop ht
      have g1 := gt t ht
      rw [(et t htx).1] at dy
      cases dy
      refine ⟨_, rfl, _, rfl, _, _, rfl, rfl, hq _ _ (Same.refl _) ?_⟩
      rw [gU_plain ⟨by omega, by have := (et t htx).2; omega⟩]
      exact .int _
    | false =>
      refine iteF ?_
      dsimp only [tNext, tAsg]
      refine map_src (s := 5) (by exact src _ _) ll lt fm (fun i y d hy hd' H' e' Q' hq => ?_) (fun D ys H' e' hD hy => ⟨D, ys, _, rfl, e', hD, hy⟩)
      obtain ⟨t, ht, rfl, dy⟩ := item i y d hy hd'
      exact ⟨_, rfl, _, rfl, y, u, t, s, rfl, (Nd.of e').d dy, (Nd.of e').d hs2, ux.2 t (List.mem_of_mem_drop ht), us, fun v' H4 e4 d4 => hq v' H4 e4 d4⟩
  rintro σ H3 ⟨D, ys, z, rfl, e3, hD, hy⟩
  refine ⟨_, rfl, _, _, rfl, rfl, _, rfl, ?_⟩
  have ly := dps_length hy
  rw [List.length_map, List.length_drop] at ly
  have en : Builtin.bitAnd (m : Int) 1 = ((m % 2 : Nat) : Int) := bitk m
  refine ite2 (fun c => ?_) (fun c => ?_)
  · have o : m % 2 = 1 := by
      have c' : (Builtin.bitAnd (m : Int) 1 != 0) = true := c
      rw [en] at c'
      have : ((m % 2 : Nat) : Int) ≠ 0 := by simpa using c'
      omega
    rw [if_pos o] at etl
    refine ⟨_, rfl, D, ys, rfl, .inr (SqL.of hD), ?_⟩
    refine ⟨?_, fun p np => ?_⟩
    · show (ys ++ []).length + 1 ≤ sizeLine
      rw [List.append_nil]
      exact Nat.le_trans (show _ ≤ 30001 by omega) (by decide)
    refine ⟨p, x / 2 ^ s.toNat, rfl, ⟨_, .inl upd_same, ?_⟩, uu_num (Nat.le_refl _) ur8, fun v' H4 e4 d4 => q v' H4 (e1.trans (e2.trans (e3.trans ((Same.new np).trans e4)))) d4⟩
    rw [etl, List.map_append, List.map_map]
    show DpAll K _ (V.int 0 :: (ys ++ [])) (gU (n + 2) 0 :: ((Tl x).drop m).map fun t => gU (n + 2) (t - s))
    rw [List.append_nil, gU_plain (z := 0) (by decide)]
    exact .cons (.int 0) ((Nd.of (Same.new np)).ds hy)
  · have o : ¬ m % 2 = 1 := fun o => by
      have c' : ¬ (Builtin.bitAnd (m : Int) 1 != 0) = true := c
      rw [en, o] at c'
      exact c' rfl
    rw [if_neg o] at etl
    refine ⟨_, rfl, D, x / 2 ^ s.toNat, rfl, ⟨ys, .inl hD, ?_⟩, uu_num (Nat.le_refl _) ur8, fun v' H4 e4 d4 => q v' H4 (e1.trans (e2.trans (e3.trans e4))) d4⟩
    rw [etl, List.nil_append, List.map_map]
    exact hy
end
end Fb
/-! ### != of an instance whose class has an own ==, and no own != -/
namespace FN
open PySem PySem.Spec PyProof.Rows PySem.SeqAt
section
variable {M : Model} {prog : Program} {w : World} {A : Around} {E : Value → Shared → Prop} {s : Shared} {K : PySem.W.Frag} {x C f L : Addr} {ox : Obj} {od : Option Obj} {b : Value} {h₀ : Heap} {m : Str → Option Value} {tb : Value}
theorem ifBound_objNe {args : List Value} {Q : Option Value → Shared → Prop} (X : K.In s.heap) (I : PySem.W.InstAt s.heap x ox C od) (hs : PySem.W.findIn K (.ref C) "__ne__" = some (some (.builtin "object.__ne__")))
    (h : wpAny M A (call (.builtin "object.__ne__") (.ref x :: args)) (fun v => Q (some v)) E s) : wpAny M A (callSpecialIfBound? (.ref x) "__ne__" args) Q E s := by
  simp only [callSpecialIfBound?, bindSpecialIfBound?]
  refine wpAny_holding (wpAny_bind (wpAny_bind (wpAny_bind (I.type.here ((PySem.W.looks_findIn X hs).here ?_)))))
  refine wpAny_bind (wpAny_askSetting (wpAny_ite ?_))
  have fin : wpAny M A (call (.builtin "object.__ne__") ([.ref x] ++ args) >>= fun v => pure (some v)) Q E s := wpAny_bind (wpAny_mono h (fun v s' h' => wpAny_pure h') fun _ _ h' => h')
  split
  · exact wpAny_bind (wpAny_of_eq (F.cmp_object.ne.bind _) (wpAny_pure (by exact fin)))
  · exact wpAny_tryCatch (wpAny_bind (wpAny_of_eq (F.cmp_object.ne.bind _) (wpAny_pure (by exact fin))))
def NeBack (Q : Value → Shared → Prop) (v : Value) (s' : Shared) : Prop := ∃ r : Bool, v = .bool r ∧ Q (.bool (!r)) s'
theorem entry_ne {Q : Fin → Shared → Prop} (hu : A.units < cLine) (X : K.In s.heap) (I : PySem.W.InstAt s.heap x ox C od) (hs : PySem.W.findIn K (.ref C) "__eq__" = some (some (.ref f))) (hf : PySem.W.isFn K (.ref f) = true)
    (h : wpAny M A (call (.ref f) [.ref x, b]) (NeBack fun v s' => Q (.done (.ret v)) s') E s) : wpAny M A (Builtin.«object.__ne__» ⟨[.ref x, b], []⟩) Q E s := by
  unfold Builtin.«object.__ne__»
  repeat (first | with_reducible refine wpAny_cRoomFor hu ?_ | with_reducible refine wpAny_bind (PySem.W.ifBound_K X I hs hf (wpAny_mono h (fun v s' hv => ?_) fun _ _ e => e)) | wp_step)
  obtain ⟨r, rfl, q⟩ := hv
  repeat (first | with_reducible refine wpAny_truthy_bool ?_ | wp_step)
  exact q
theorem call_objNe {Q : Value → Shared → Prop} (hu : A.in1.units < cLine) (X : K.In s.heap) (I : PySem.W.InstAt s.heap x ox C od) (hm : PySem.W.mroIn K C (.type "object") = some true) (hs : PySem.W.findIn K (.ref C) "__eq__" = some (some (.ref f))) (hf : PySem.W.isFn K (.ref f) = true)
    (h : wpAny (model prog w) A.in1 (call (.ref f) [.ref x, b]) (NeBack Q) E s) :
    wpAny (model prog w) A (call (.builtin "object.__ne__") [.ref x, b]) Q E s :=
  wpAny_call (codeAny_call_builtin F.cmp_object.ne.plain F.cmpEntry_ne (PySem.W.check_slot F.cmpKind_ne F.cmpSplit_ne (I.type.andThen (PySem.W.looks_mroIn X hm)) (F.cmpArgs_ne _ _) (entry_ne hu X I hs hf h)))
theorem ne_K {Q : Value → Shared → Prop} (hu : A.units < cLine) (hu1 : A.in1.units < cLine) (F : PyProof.Rows.Fr h₀ L s.heap m) (X₀ : K.In h₀) (I : PySem.W.InstAt s.heap x ox C od) (hb : PySem.W.Looks (model prog w) s.heap (typeOf b) tb) (hn : PySem.W.notFirst K C tb = true)
    (hne : PySem.W.findIn K (.ref C) "__ne__" = some (some (.builtin "object.__ne__"))) (hm : PySem.W.mroIn K C (.type "object") = some true)
    (hs : PySem.W.findIn K (.ref C) "__eq__" = some (some (.ref f))) (hf : PySem.W.isFn K (.ref f) = true)
    (h : wpAny (model prog w) A.in1 (call (.ref f) [.ref x, b]) (NeBack Q) E s) : wpAny (model prog w) A (richCompare .NotEq (.ref x) b) Q E s := by
  have X := X₀.keeps F.keep
  have one : wpAny (model prog w) A (tryCompare (.ref x) "__ne__" b) (fun r s' => ∃ v, r = some v ∧ Q v s') E s := by
    unfold tryCompare
    refine wpAny_bind (ifBound_objNe X I hne (wpAny_mono (call_objNe (Q := fun v s' => ∃ r : Bool, v = .bool r ∧ Q v s') hu1 X I hm hs hf (wpAny_mono h (fun v s' hv => ?_) fun _ _ e => e)) (fun v s' hv => ?_) fun _ _ e => e))
    · obtain ⟨r, rfl, q⟩ := hv
      exact ⟨r, rfl, _, rfl, q⟩
    · obtain ⟨r, rfl, q⟩ := hv
      exact wpAny_pure ⟨_, rfl, q⟩
  unfold richCompare
  simp only [oneThing_ref]
  refine wpAny_holding (wpAny_bind (wpAny_cRoomFor hu ?_))
  refine wpAny_bind (I.type.here (wpAny_bind (hb.here ?_)))
  split
  · rename_i q
    have e : PySem.W.subIn K tb (.ref C) = some false := by
      rcases Bool.or_eq_true_iff.mp hn with e | e
      · rw [beq_iff_eq.mp e] at q; simp at q
      · exact beq_iff_eq.mp e
    refine wpAny_bind ((PySem.W.looks_subIn X e).here ?_)
    simp only [Bool.false_eq_true, if_false]
    refine wpAny_bind (wpAny_mono one (fun r s' z => ?_) fun _ _ e => e)
    obtain ⟨v, rfl, hq⟩ := z
    exact wpAny_pure hq
  · refine wpAny_bind (wpAny_pure ?_)
    simp only [Bool.false_eq_true, if_false]
    refine wpAny_bind (wpAny_mono one (fun r s' z => ?_) fun _ _ e => e)
    obtain ⟨v, rfl, hq⟩ := z
    exact wpAny_pure hq
end
end FN
namespace Fb
open PySem L2 PySem.Spec PyProof.Rows
/-! ### all but instances stays -/
def Xd (H H' : Hp) : Prop := ∀ b o, H b = some o → (∀ C dx fs, o ≠ .ins C dx fs) → H' b = some o
theorem Xd.sql {K : PySem.W.Frag} {c : Addr} {H H' : Hp} {xs : List V} (e : Xd H H') (h : SqL K H c xs) : SqL K H' c xs := by
  rcases h with (h | ⟨o, h⟩) | h
  · exact .inl (.inl (e _ _ h (fun _ _ _ z => nomatch z)))
  · exact .inl (.inr ⟨o, e _ _ h (fun _ _ _ z => nomatch z)⟩)
  · exact .inr h
theorem Xd.sqt {K : PySem.W.Frag} {c : Addr} {H H' : Hp} {xs : List V} (e : Xd H H') (h : SqT K H c xs) : SqT K H' c xs := by
  rcases h with (h | ⟨o, h⟩) | h
  · exact .inl (.inl (e _ _ h (fun _ _ _ z => nomatch z)))
  · exact .inl (.inr ⟨o, e _ _ h (fun _ _ _ z => nomatch z)⟩)
  · exact .inr h
mutual
theorem Xd.dp {K : PySem.W.Frag} {H H' : Hp} (e : Xd H H') : ∀ (d : PyData) (v : V), Dp K H v d → Dp K H' v d
  | .none, _, h => by cases h; exact .non
  | .bool b, _, h => by cases h; exact .bl b
  | .int i, _, h => by cases h; exact .int i
  | .str x, _, h => by cases h; exact .str x
  | .list ds, _, h => by
    cases h with
    | lst hs ha => exact .lst (e.sql hs) (Xd.dps e ds _ ha)
  | .tuple ds, _, h => by
    cases h with
    | tup hs ha => exact .tup (e.sqt hs) (Xd.dps e ds _ ha)
  | .dict _, _, h => by cases h
theorem Xd.dps {K : PySem.W.Frag} {H H' : Hp} (e : Xd H H') : ∀ (ds : List PyData) (vs : List V), DpAll K H vs ds → DpAll K H' vs ds
  | [], _, h => by cases h; exact .nil
  | d :: ds, _, h => by
    cases h with
    | cons h1 h2 => exact .cons (Xd.dp e d _ h1) (Xd.dps e ds _ h2)
end
theorem Xd.put {H : Hp} {p C dx : Addr} {fs : List (Str × V)} (h : H p = some (.ins C dx fs)) (o : HO) : Xd H (upd H p o) := fun b o' e n => by
  by_cases hb : b = p
  · subst hb
    rw [h] at e
    injection e with e
    exact absurd e.symm (n C dx fs)
  · rw [upd_ne hb]; exact e
/-! ### classes of the program: their making, methods, properties, own comparisons -/
structure HasMk (P : Program) (w : World) (K : PySem.W.Frag) (mg : Str → Option Value) (base : Heap) (k : Nat) (x : Str) (C : Addr) (ps : List Str) (dvs : List V) (sp : Sp) : Prop where
  ex : ∃ f fd ds, Mk K C f ∧ FnOk P w K mg base CX0 k f fd ps sp ∧ mg x = some (.ref C) ∧ Vals dvs ds ∧ Binds K fd ps ds
structure HasMeth (P : Program) (w : World) (K : PySem.W.Frag) (mg : Str → Option Value) (base : Heap) (k : Nat) (m : Str) (C : Addr) (ps : List Str) (sp : Sp) : Prop where
  ex : ∃ f fd, Meth K C m f ∧ FnOk P w K mg base CX0 k f fd ps sp ∧ Binds K fd ps []
structure HasProp (P : Program) (w : World) (K : PySem.W.Frag) (mg : Str → Option Value) (base : Heap) (k : Nat) (m : Str) (C : Addr) (sp : Sp) : Prop where
  ex : ∃ p g fd, PropOf K C m p g ∧ FnOk P w K mg base CX0 k g fd ["self"] sp ∧ Binds K fd ["self"] []
section
variable {X : Cx} {k : Nat} {x m : Str} {ps : List Str} {dvs : List V} {sp : Sp} {e o : Expr} {es : List Expr} {t : TA} {ta : TE} {p pos apos : Pos} {C : Addr}
theorem pe_mk (M : HasMk X.prog X.w X.K X.mg X.base k x C ps dvs sp) (hr : Room (k + 1) X.A) (hg : Gl X x) (ha : PA X (e :: es) t) (hdb : (x == ("__debug__" : Str)) = false := by decide)
    (he : starEach (e :: es) X.env = (false, eval e X.env) :: starEach es X.env := by rfl) (hpl : (backTo pos (starEach es X.env)).any (·.1) = false := by rfl) :
    PE X (.Call (.Name x p) (e :: es) [] pos) (tMake C sp dvs E0 t) := by
  obtain ⟨f, fd, ds, mk, F, hm, hd, hb⟩ := M.ex
  exact pe_make mk F hr hg hm hb hd pass0 ha hdb he hpl
theorem pe_me0 {pl : Sem Bool} (c : Cls X.K C) (M : HasMeth X.prog X.w X.K X.mg X.base k m C ps sp) (hr : Room k X.A) (he : PE X o ta)
    (ht : eval (.Call (.Attribute o m apos) [] [] pos) X.env = (do
      let ov ← eval o X.env
      standAt apos.atName
      let (f, first) ← holding [ov] (getMethod ov m pl)
      callWith pos f first (backTo pos (starEach [] X.env)) (backToKw pos (keywordEach [] X.env))) := by rfl) :
    PE X (.Call (.Attribute o m apos) [] [] pos) (tMeth C m sp [] E0 ta tNil) := by
  obtain ⟨f, fd, hm, F, hb⟩ := M.ex
  exact pe_meth0 he c hm F hr hb .nil pass0 ht
theorem pe_pr (c : Cls X.K C) (M : HasProp X.prog X.w X.K X.mg X.base k m C sp) (hr : Room (k + 1) X.A) (he : PE X e ta) (hab : attributeBase e m X.env (eval e X.env) = eval e X.env := by rfl) : PE X (.Attribute e m pos) (tProp C sp [] E0 ta) := by
  obtain ⟨p, g, fd, hp, F, hb⟩ := M.ex
  exact pe_prop he c hp F hr hb .nil pass0 hab
theorem pss_never {ss : List Stmt} : PSs X ss tNever := ⟨fun _ _ _ _ _ _ h => h.elim⟩
/-- a right side: an int, a text, None, a truth, or an instance -/
inductive RightOk (K : PySem.W.Frag) (C : Addr) (H : Hp) : V → Prop where
  | int (i : Int) (h : PySem.W.notFirst K C (.type "int") = true) : RightOk K C H (.int i)
  | ins {b C' dy : Addr} {gs : List (Str × V)} (e : H b = some (.ins C' dy gs)) (h : PySem.W.notFirst K C (.ref C') = true) : RightOk K C H (.ref b)
theorem RightOk.looks {pins : List (Addr × Obj)} {σ : L2.St} {H : Hp} {s : Shared} {y : V} {v : Value} (I : Inv X pins σ H s) (r : RelV y v) (h : RightOk X.K C H y) : ∃ tb, PySem.W.Looks (model X.prog X.w) s.heap (typeOf v) tb ∧ PySem.W.notFirst X.K C tb = true := by
  cases h with
  | int i h =>
    obtain ⟨t, rfl⟩ := r
    exact ⟨.type "int", PySem.W.Looks.of_pure rfl, h⟩
  | ins e h =>
    cases r
    obtain ⟨mB, J', _⟩ := ins_get I.hok e
    obtain ⟨od', J', _⟩ := J'.look
    exact ⟨_, J'.type, h⟩
/-- x op y by the class's own def -/
def rCmpI (K : PySem.W.Frag) (C : Addr) (sp : Sp) : R2 := fun x y H Q => ∃ a dx fs, x = .ref a ∧ H a = some (.ins C dx fs) ∧ RightOk K C H y ∧ sp [x, y] H Q E0
theorem back_ne {z : V} {w : Value} (r : RelV z w) {Q : Value → Shared → Prop} {s : Shared} (q : Q w s) : PySem.W.CmpBack Q w s := by
  cases z with
  | non => cases r; exact q
  | bl b => cases r; exact q
  | int i => obtain ⟨t, rfl⟩ := r; exact q
  | str x => obtain ⟨t, rfl⟩ := r; exact q
  | byt x => obtain ⟨t, rfl⟩ := r; exact q
  | flt x => obtain ⟨t, rfl⟩ := r; exact q
  | ref a => cases r; exact q
  | ty n => cases r; exact q
theorem op_cmpI {op : CmpOp} (hop : ∀ a b, compareOp op a b = richCompare op a b) (M : HasMeth X.prog X.w X.K X.mg X.base k (cmpInfo op).2.1 C ps sp) (hr : Room k X.A) : OpR X (compareOp op) (rCmpI X.K C sp) := by
  intro pins s σ H x y v u Q I rx ry h
  obtain ⟨f, fd, hm, F, hb⟩ := M.ex
  obtain ⟨a, dx, fs, rfl, ha, hR, q⟩ := h
  cases (show v = Value.ref a from rx)
  obtain ⟨tb, L, hn⟩ := hR.looks I ry
  obtain ⟨mA, J, _⟩ := ins_get I.hok ha
  obtain ⟨od, J, _⟩ := J.look
  obtain ⟨m', hF⟩ := I.fr
  rw [hop]
  refine PySem.W.cmp_K (op := op) (tb := tb) hr.units0 hF I.ok.mod.kin J L hn hm.at_ hm.fn ?_
  refine wpAny_mono (run_fn (ds := []) (dvs := []) (us := [.ref a, u]) (vs := [.ref a, y]) F hr hb .nil pass0 I (.cons rfl (.cons ry .nil)) q) (fun w s' z => ?_) fun _ _ x => x
  obtain ⟨z', H', I', rz, qz⟩ := z
  exact back_ne rz ⟨z', H', I', rz, qz⟩
/-- x != y by the class's own == -/
structure NeK (K : PySem.W.Frag) (C : Addr) : Prop where
  ne : PySem.W.findIn K (.ref C) "__ne__" = some (some (.builtin "object.__ne__"))
  mo : PySem.W.mroIn K C (.type "object") = some true
def rNeI (K : PySem.W.Frag) (C : Addr) (sp : Sp) : R2 := fun x y H Q => ∃ a dx fs, x = .ref a ∧ H a = some (.ins C dx fs) ∧ RightOk K C H y ∧ sp [x, y] H (fun v H' => ∃ b, v = .bl b ∧ Q (.bl (!b)) H') E0
theorem op_neI (N : NeK X.K C) (M : HasMeth X.prog X.w X.K X.mg X.base k "__eq__" C ps sp) (hr : Room (k + 1) X.A) : OpR X (compareOp .NotEq) (rNeI X.K C sp) := by
  intro pins s σ H x y v u Q I rx ry h
  obtain ⟨f, fd, hm, F, hb⟩ := M.ex
  obtain ⟨a, dx, fs, rfl, ha, hR, q⟩ := h
  cases (show v = Value.ref a from rx)
  obtain ⟨tb, L, hn⟩ := hR.looks I ry
  obtain ⟨mA, J, _⟩ := ins_get I.hok ha
  obtain ⟨od, J, _⟩ := J.look
  obtain ⟨m', hF⟩ := I.fr
  show wpAny (model X.prog X.w) X.A (richCompare .NotEq (.ref a) u) _ _ _
  refine FN.ne_K (tb := tb) hr.units0 hr.in1.units0 hF I.ok.mod.kin J L hn N.ne N.mo hm.at_ hm.fn ?_
  have hl := F.len _ _ _ _ q
  refine wpAny_call (codeAny_mono (F.run X.A.in1 X.stack s H ⟨[.ref a, u], []⟩ [.ref a, u] [.ref a, y] _ E0 hr.in1 I.env0.in1 (by
    have := hb s [.ref a, u] I.kIn (by simpa using hl)
    simpa using this) (.cons rfl (.cons ry .nil)) q) fun r s' hq => ?_)
  cases r with
  | error e => exact hq.elim
  | ok fl =>
    cases fl with
    | ret w =>
      obtain ⟨z, H', I', rz, b, rfl, qz⟩ := I.after hq
      cases rz
      exact ⟨b, rfl, .bl (!b), H', I', rfl, qz⟩
    | next => exact False.elim hq
    | brk => exact False.elim hq
    | cont => exact False.elim hq
end
/-! ### calls by two keywords -/
structure HasKR (P : Program) (w : World) (K : PySem.W.Frag) (mg : Str → Option Value) (base : Heap) (k : Nat) (x p1 p2 : Str) (sp : Sp) : Prop where
  ex : ∃ f fd, FnOk P w K mg base CX0 k f fd [p1, p2] sp ∧ PySem.W.keepIn K (.ref f) = true ∧ mg x = some (.ref f) ∧ (∀ (s : Shared) (u v : Value), K.In s.heap → BindsTo s fd ⟨[], [(p2, u), (p1, v)]⟩ [(p1, v), (p2, u)]) ∧ ∀ (s : Shared) (u v : Value), K.In s.heap → BindsTo s fd ⟨[], [(p1, u), (p2, v)]⟩ [(p1, u), (p2, v)]
theorem Fun.kr {K : PySem.W.Frag} {x qual m n : Str} {st : Stmt} {f : Addr} {fd : FuncData} (F : Fun K x qual st f fd)
    (h0 : ∀ (kV doc pm : Value) (an : Option Addr) (cdv ct u v : Value), bindArgs (PySem.W.fnOf x qual (defArgs st) (defBody st) (defScope st) .none kV doc pm an cdv ct) ⟨[], [(n, u), (m, v)]⟩ = pure [(m, v), (n, u)])
    (h1 : ∀ (kV doc pm : Value) (an : Option Addr) (cdv ct u v : Value), bindArgs (PySem.W.fnOf x qual (defArgs st) (defBody st) (defScope st) .none kV doc pm an cdv ct) ⟨[], [(m, u), (n, v)]⟩ = pure [(m, u), (n, v)]) :
    (∀ (s : Shared) (u v : Value), K.In s.heap → BindsTo s fd ⟨[], [(n, u), (m, v)]⟩ [(m, v), (n, u)]) ∧ ∀ (s : Shared) (u v : Value), K.In s.heap → BindsTo s fd ⟨[], [(m, u), (n, v)]⟩ [(m, u), (n, v)] := by
  obtain ⟨oc, od, kV, doc, pm, an, cdv, ct, osl, rfl, lk, hcd⟩ := F.ex
  exact ⟨fun s u v _ => .of_eq (h0 kV doc pm an cdv ct u v), fun s u v _ => .of_eq (h1 kV doc pm an cdv ct u v)⟩
def tCallKR (sp : Sp) (rev : Bool) (tk : TA) : TE := fun σ H Q => tk σ H fun zs H2 => ∃ u v, zs = [u, v] ∧ sp (if rev then [v, u] else [u, v]) H2 Q E0
section
variable {X : Cx} {k : Nat} {x p1 p2 : Str} {sp : Sp} {kws : List Keyword} {tk : TA} {p pos : Pos}
theorem run_kr {f : Addr} {fd : FuncData} {pins : List (Addr × Obj)} {σ : L2.St} {H : Hp} {s : Shared} {Q : VK} {kw : List (Str × Value)} {us : List Value} {vs : List V} (F : FnOk X.prog X.w X.K X.mg X.base CX0 k f fd [p1, p2] sp) (hr : Room k X.A) (hb : BindsTo s fd ⟨[], kw⟩ ([p1, p2].zip us))
    (I : Inv X pins σ H s) (r : Vals vs us) (h : sp vs H Q E0) : wpAny (model X.prog X.w) X.A (call (.ref f) [] kw) (EP X pins σ Q) X.xe s := by
  refine wpAny_call (codeAny_mono (F.run X.A X.stack s H ⟨[], kw⟩ us vs Q E0 hr I.env0 hb r h) fun r s' hq => ?_)
  cases r with
  | error e => exact hq.elim
  | ok fl =>
    cases fl with
    | ret u => exact I.after hq
    | next => exact False.elim hq
    | brk => exact False.elim hq
    | cont => exact False.elim hq
theorem pe_KR (C : HasKR X.prog X.w X.K X.mg X.base k x p1 p2 sp) (rev : Bool) (hr : Room k X.A) (hg : Gl X x) (hkw : PK X kws tk)
    (hall : (backToKw pos (keywordEach kws X.env)).all (·.1.isSome) = true := by rfl) (hks : (backToKw pos (keywordEach kws X.env)).filterMap (·.1) = (if rev then [p2, p1] else [p1, p2]) := by rfl) (hdb : (x == ("__debug__" : Str)) = false := by decide)
    (hpl : ((backTo pos (starEach [] X.env)).any (·.1) || (backToKw pos (keywordEach kws X.env)).any (·.1.isNone)) = false := by rfl) : PE X (.Call (.Name x p) [] kws pos) (tCallKR sp rev tk) := by
  obtain ⟨f, fd, F, hk, hm, hb1, hb2⟩ := C.ex
  refine ⟨fun pins s σ H Q I h => ?_⟩
  refine wpAny_Call_Name_kw (ld_glob I hg hm ?_ hdb)
  refine PySem.W.callWith_KW0 (h₀ := X.base) I.ok.mod.kin hk hall (thn (hkw.run pos pins s σ H _ I h) fun ws s2 ⟨zs, H2, I2, rz, q2⟩ => ⟨I2.kIn, ?_⟩) hpl
  rw [hks]
  obtain ⟨u, v, rfl, q2⟩ := q2
  cases rz with
  | cons r1 rz =>
    cases rz with
    | cons r2 rz =>
      cases rz
      cases rev with
      | true => exact run_kr (us := [_, _]) F hr (hb1 s2 _ _ I2.kIn) I2 (.cons r2 (.cons r1 .nil)) q2
      | false => exact run_kr (us := [_, _]) F hr (hb2 s2 _ _ I2.kIn) I2 (.cons r1 (.cons r2 .nil)) q2
end
end Fb
namespace Fb
open PySem L2
/-! ### numbers as callers have them: ints, and objects that hold a form -/
structure FarO (K : PySem.W.Frag) (C_Far : Addr) (n : Nat) (H : Hp) (a : Addr) (z : Int) : Prop where
  ex : ∃ dx u, H a = some (.ins C_Far dx [("_form", u)]) ∧ Dp K H u (gU n z)
theorem FarO.nd {K : PySem.W.Frag} {C_Far : Addr} {n : Nat} {H H' : Hp} {a : Addr} {z : Int} (h : FarO K C_Far n H a z) (e : Nd H H') : FarO K C_Far n H' a z := by
  obtain ⟨dx, u, h1, h2⟩ := h.ex
  exact ⟨dx, u, e.k _ _ h1 (fun _ z => nomatch z), e.d h2⟩
theorem FarO.same {K : PySem.W.Frag} {C_Far : Addr} {n : Nat} {H H' : Hp} {a : Addr} {z : Int} (h : FarO K C_Far n H a z) (e : Same H H') : FarO K C_Far n H' a z := h.nd (Nd.of e)
inductive NumV (K : PySem.W.Frag) (C_Far : Addr) (n : Nat) (H : Hp) : V → Int → Prop where
  | int (z : Int) : NumV K C_Far n H (.int z) z
  | far {a : Addr} {z : Int} (h : FarO K C_Far n H a z) : NumV K C_Far n H (.ref a) z
theorem NumV.nd {K : PySem.W.Frag} {C_Far : Addr} {n : Nat} {H H' : Hp} {v : V} {z : Int} (h : NumV K C_Far n H v z) (e : Nd H H') : NumV K C_Far n H' v z := by
  cases h with
  | int z => exact .int z
  | far h => exact .far (h.nd e)
theorem NumV.same {K : PySem.W.Frag} {C_Far : Addr} {n : Nat} {H H' : Hp} {v : V} {z : Int} (h : NumV K C_Far n H v z) (e : Same H H') : NumV K C_Far n H' v z := h.nd (Nd.of e)
/-- what is known of the two classes -/
structure FarK (K : PySem.W.Frag) (mg : Str → Option Value) (C_Far C_Sound : Addr) : Prop where
  gF : mg "Far" = some (.ref C_Far)
  gS : mg "Sound" = some (.ref C_Sound)
  cl : Cls K C_Far
  cs : Cls K C_Sound
  nF : NoAttr K C_Far "_form"
  nC : NoAttr K C_Sound "checked"
  ca : PySem.W.findIn K (.ref C_Far) "__class__" = some (some (.builtin "object.__class__"))
  sa : PySem.W.findIn K (.ref C_Sound) "__class__" = some (some (.builtin "object.__class__"))
  cn : PySem.W.specialIn K (.builtin "object.__class__") "__get__" = some (some (.builtin "getset_descriptor.__get__"))
  ct : PySem.W.takesIn K (.builtin "object.__class__") = some true
  cm : PySem.W.mroIn K C_Far (.type "object") = some true
  sm : PySem.W.mroIn K C_Sound (.type "object") = some true
  k1 : PySem.W.kitOne K (.ref C_Far) (.ref C_Sound) = some false
  k2 : PySem.W.kitOne K (.ref C_Sound) (.ref C_Sound) = some true
  k3 : PySem.W.kitOne K (.type "int") (.ref C_Sound) = some false
  k4 : PySem.W.kitOne K (.ref C_Far) (.ref C_Far) = some true
  k5 : PySem.W.kitOne K (.type "int") (.ref C_Far) = some false
  k6 : PySem.W.kitOne K (.ref C_Far) (.type "int") = some false
  fI : PySem.W.notFirst K C_Far (.type "int") = true
  fF : PySem.W.notFirst K C_Far (.ref C_Far) = true
  ne : NeK K C_Far
section
variable {P : Program} {w : World} {K : PySem.W.Frag} {mg : Str → Option Value} {base : Heap} {f : Addr} {fd : FuncData} {C_Far C_Sound : Addr}
theorem FarK.tyF (T : FarK K mg C_Far C_Sound) {H : Hp} {a dx : Addr} {fs : List (Str × V)} (h : H a = some (.ins C_Far dx fs)) : TyX K H (.ref a) (.ref C_Far) := .base (.ins h T.cl T.ca T.cn T.ct T.cm)
theorem FarK.tyS (T : FarK K mg C_Far C_Sound) {H : Hp} {a dx : Addr} {fs : List (Str × V)} (h : H a = some (.ins C_Sound dx fs)) : TyX K H (.ref a) (.ref C_Sound) := .base (.ins h T.cs T.sa T.cn T.ct T.sm)
/-- the answer of isinstance(.., Far) -/
def isFar : V → Bool
  | .ref _ => true
  | _ => false
theorem FarK.isF (T : FarK K mg C_Far C_Sound) {n : Nat} {H : Hp} {v : V} {z : Int} (h : NumV K C_Far n H v z) : ∃ t, TyX K H v t ∧ PySem.W.kitOne K t (.ref C_Far) = some (isFar v) := by
  cases h with
  | int z => exact ⟨_, .base (.int z), T.k5⟩
  | far h =>
    obtain ⟨dx, u, h1, _⟩ := h.ex
    exact ⟨_, T.tyF h1, T.k4⟩
abbrev S_is_number : Stmt := top 139
abbrev N_is_number : List Str := ["value"]
abbrev P_is_number : List Str := ["value"]
theorem sc_is_number : FnScope N_is_number P_is_number (defScope S_is_number) := ⟨rfl, rfl, rfl, by decide +kernel, rfl, by decide +kernel, by decide +kernel⟩
def spIsNum (K : PySem.W.Frag) (C_Far : Addr) (n : Nat) : Sp := fun vs H Q _ => ∃ (v : V) (z : Int), vs = [v] ∧ NumV K C_Far n H v z ∧ Q (.bl true) H
theorem ok_isnum {n : Nat} (T : FarK K mg C_Far C_Sound) (F : Fun K "is_number" "is_number" S_is_number f fd) (B : Blt mg) : FnOk P w K mg base CX0 1 f fd P_is_number (spIsNum K C_Far n) := by
  have nd := sc_is_number.nd
  refine F.ok sc_is_number (fun vs H Q E h => ?_) (fun cdv A outer s H vs Q E hr h => ?_)
  · obtain ⟨v, z, rfl, _⟩ := h
    rfl
  obtain ⟨v, z, rfl, hv, q⟩ := h
  have mg_Far := T.gF
  refine ⟨_, (pss_one (ps_ret (pe_or (pe_callB call_isi (by rfl) B.isinstance (by decide +kernel) (pa_cons (pv 0) (pa_cons (pe_glob (v := .ref C_Far) rfl mg_Far rfl) pa_nil))) (pe_one (pe_and (pe_callB call_isi (by rfl) B.isinstance (by decide +kernel) (pa_cons (pv 0) (pa_cons (pe_bltn (by rfl) B.int (by decide +kernel) (show RelV (.ty "int") (.type "int") from rfl)) pa_nil))) (pe_one (pe_not (pe_callB call_isi (by rfl) B.isinstance (by decide +kernel) (pa_cons (pv 0) (pa_cons (pe_bltn (by rfl) B.bool (by decide +kernel) (show RelV (.ty "bool") (.type "bool") from rfl)) pa_nil)))))))))), ?_⟩
  obtain ⟨t, ty, kt⟩ := T.isF hv
  refine ⟨_, rfl, _, _, _, _, _, rfl, .own C_Far, ty, kt, _, rfl, ?_⟩
  cases hv with
  | int z =>
    refine iteF ?_
    refine ⟨_, rfl, _, _, _, _, true, rfl, .ty "int", .base (.int z), L2.kit_ty (by decide +kernel), _, rfl, ?_⟩
    refine iteT ?_
    refine ⟨_, rfl, _, _, _, _, false, rfl, .ty "bool", .base (.int z), L2.kit_ty (by decide +kernel), _, rfl, ?_⟩
    exact q
  | far h => exact iteT q
/-- the form of a Far -/
def spForm_ (K : PySem.W.Frag) (C_Far : Addr) (n : Nat) : Sp := fun vs H Q _ => ∃ (a : Addr) (z : Int), vs = [.ref a] ∧ FarO K C_Far n H a z ∧ ∀ v, Dp K H v (gU n z) → Q v H
abbrev S_Far_form : Stmt := inClass (top 135) 4
abbrev N_Far_form : List Str := ["self"]
abbrev P_Far_form : List Str := ["self"]
theorem sc_Far_form : FnScope N_Far_form P_Far_form (defScope S_Far_form) := ⟨rfl, rfl, rfl, by decide +kernel, rfl, by decide +kernel, by decide +kernel⟩
theorem ok_farform {n : Nat} (T : FarK K mg C_Far C_Sound) (F : Fun K "form" "Far.form" S_Far_form f fd) : FnOk P w K mg base CX0 1 f fd P_Far_form (spForm_ K C_Far n) := by
  refine F.ok sc_Far_form (fun vs H Q E h => ?_) (fun cdv A outer s H vs Q E hr h => ?_)
  · obtain ⟨a, z, rfl, _⟩ := h
    rfl
  obtain ⟨a, z, rfl, h, q⟩ := h
  obtain ⟨dx, u, h1, h2⟩ := h.ex
  refine ⟨_, (pss_one (ps_ret (pe_fld (pv 0) rfl))), ?_⟩
  exact ⟨_, rfl, a, C_Far, dx, _, u, rfl, h1, T.cl, T.nF, rfl, q u h2⟩
abbrev S_form_in : Stmt := top 140
abbrev N_form_in : List Str := ["number"]
abbrev P_form_in : List Str := ["number"]
theorem sc_form_in : FnScope N_form_in P_form_in (defScope S_form_in) := ⟨rfl, rfl, rfl, by decide +kernel, rfl, by decide +kernel, by decide +kernel⟩
def spFormIn (K : PySem.W.Frag) (C_Far : Addr) (n : Nat) : Sp := fun vs H Q _ => ∃ (v : V) (z : Int), vs = [v] ∧ NumV K C_Far n H v z ∧ InB z ∧ formD z = gU n z ∧ ∀ (u : V) (H' : Hp), Same H H' → Dp K H' u (gU n z) → Q u H'
theorem ok_formin {n : Nat} (T : FarK K mg C_Far C_Sound) (F : Fun K "form_in" "form_in" S_form_in f fd) (B : Blt mg) (PR_Far_form : HasProp P w K mg base 1 "form" C_Far (spForm_ K C_Far n)) (Cform_of_int : Has P w K mg base 3 "form_of_int" P_form_of_int [] (spFoi K)) :
    FnOk P w K mg base CX0 4 f fd P_form_in (spFormIn K C_Far n) := by
  have nd := sc_form_in.nd
  refine F.ok sc_form_in (fun vs H Q E h => ?_) (fun cdv A outer s H vs Q E hr h => ?_)
  · obtain ⟨v, z, rfl, _⟩ := h
    rfl
  obtain ⟨v, z, rfl, hv, hb, he, q⟩ := h
  have mg_Far := T.gF
  have CL_Far := T.cl
  refine ⟨_, (pss_one (ps_ret (pe_ifExp (pt_val (pe_callB call_isi (by rfl) B.isinstance (by decide +kernel) (pa_cons (pv 0) (pa_cons (pe_glob (v := .ref C_Far) rfl mg_Far rfl) pa_nil)))) (pe_pr CL_Far PR_Far_form (hr.mono (by decide)) (pv 0)) (pe_H Cform_of_int (hr.mono (by decide)) rfl (pa_cons (pv 0) pa_nil))))), ?_⟩
  obtain ⟨t, ty, kt⟩ := T.isF hv
  refine ⟨_, rfl, _, _, _, _, _, rfl, .own C_Far, ty, kt, _, rfl, ?_⟩
  cases hv with
  | int z =>
    refine iteF ?_
    refine ⟨_, rfl, z, rfl, hb, fun u H' e d => q u H' e ?_⟩
    rw [← he]
    exact d
  | far h =>
    refine iteT ?_
    obtain ⟨dx, u, h1, h2⟩ := id h.ex
    exact ⟨_, rfl, _, dx, _, rfl, h1, _, z, rfl, h, fun v d => q v H (Same.refl H) d⟩
abbrev S_number_form : Stmt := top 141
abbrev N_number_form : List Str := ["value"]
abbrev P_number_form : List Str := ["value"]
theorem sc_number_form : FnScope N_number_form P_number_form (defScope S_number_form) := ⟨rfl, rfl, rfl, by decide +kernel, rfl, by decide +kernel, by decide +kernel⟩
theorem ok_numform {n : Nat} (F : Fun K "number_form" "number_form" S_number_form f fd) (Cis_number : Has P w K mg base 1 "is_number" P_is_number [] (spIsNum K C_Far n)) (Cform_in : Has P w K mg base 4 "form_in" P_form_in [] (spFormIn K C_Far n)) :
    FnOk P w K mg base CX0 5 f fd P_number_form (spFormIn K C_Far n) := by
  have nd := sc_number_form.nd
  refine F.ok sc_number_form (fun vs H Q E h => ?_) (fun cdv A outer s H vs Q E hr h => ?_)
  · obtain ⟨v, z, rfl, _⟩ := h
    rfl
  obtain ⟨v, z, rfl, hv, hb, he, q⟩ := h
  refine ⟨_, (C8.pss_cut (ps_if (pt_not (pt_val (pe_H Cis_number (hr.mono (by decide)) rfl (pa_cons (pv 0) pa_nil)))) (pss_one ps_never) pss_nil)
    (pss_one (ps_ret (pe_H Cform_in (hr.mono (by decide)) rfl (pa_cons (pv 0) pa_nil))))), ?_⟩
  refine ⟨fun σ H' => σ = [some v] ∧ H' = H, ?_, ?_⟩
  · exact ⟨_, rfl, v, z, rfl, hv, _, rfl, iteF ⟨rfl, rfl⟩⟩
  rintro σ H' ⟨rfl, rfl⟩
  exact ⟨_, rfl, v, z, rfl, hv, hb, he, q⟩
abbrev S_place_form : Stmt := top 142
abbrev N_place_form : List Str := ["value", "form"]
abbrev P_place_form : List Str := ["value"]
theorem sc_place_form : FnScope N_place_form P_place_form (defScope S_place_form) := ⟨rfl, rfl, rfl, by decide +kernel, rfl, by decide +kernel, by decide +kernel⟩
def spPlaceF (K : PySem.W.Frag) (C_Far : Addr) (n : Nat) : Sp := fun vs H Q _ => ∃ (v : V) (z : Int), vs = [v] ∧ NumV K C_Far n H v z ∧ InB z ∧ formD z = gU n z ∧ negD (gU n z) = false ∧ (isI (gU n z) = true ∨ isT (gU n z) = true) ∧ (∀ b, gU n z ≠ .bool b) ∧ ∀ (u : V) (H' : Hp), Same H H' → Dp K H' u (gU n z) → Q u H'
theorem ok_placeform {n : Nat} (F : Fun K "place_form" "place_form" S_place_form f fd) (Cis_negative : Has P w K mg base 1 "is_negative" P_is_negative [] (spNeg K)) (Cnumber_form : Has P w K mg base 5 "number_form" P_number_form [] (spFormIn K C_Far n)) :
    FnOk P w K mg base CX0 6 f fd P_place_form (spPlaceF K C_Far n) := by
  have nd := sc_place_form.nd
  refine F.ok sc_place_form (fun vs H Q E h => ?_) (fun cdv A outer s H vs Q E hr h => ?_)
  · obtain ⟨v, z, rfl, _⟩ := h
    rfl
  obtain ⟨v, z, rfl, hv, hb, he, hn, hi, hb2, q⟩ := h
  refine ⟨_, (pss_cons (ps_set (i := 1) nd rfl (Or.inl rfl) (pe_H Cnumber_form (hr.mono (by decide)) rfl (pa_cons (pv 0) pa_nil)))
    (C8.pss_cut (ps_if (pt_val (pe_H Cis_negative (hr.mono (by decide)) rfl (pa_cons (pv 1) pa_nil))) (pss_one ps_never) pss_nil)
    (pss_one (ps_ret (pv 1))))), ?_⟩
  refine ⟨_, rfl, v, z, rfl, hv, hb, he, fun u H1 e1 d1 => ?_⟩
  refine ⟨fun σ H' => σ = [some v, some u] ∧ Same H1 H', ?_, ?_⟩
  · refine ⟨_, rfl, u, _, rfl, d1, hi, hb2, fun H2 e2 => ?_⟩
    rw [hn]
    exact ⟨_, rfl, iteF ⟨rfl, e2⟩⟩
  rintro σ H2 ⟨rfl, e2⟩
  exact ⟨_, rfl, q u H2 (e1.trans e2) ((Nd.of e2).d d1)⟩
end
end Fb
namespace Fb
open PySem L2
/-- a form that is within the limits -/
structure FitD (n : Nat) (d : PyData) : Prop where
  fm : Fm n d
  sp : Sp_ n d
  sz : sz n d ≤ 2000
  lv : lv n d ≤ 6
section
variable {P : Program} {w : World} {K : PySem.W.Frag} {mg : Str → Option Value} {base : Heap} {f : Addr} {fd : FuncData} {C_Far C_Sound : Addr}
abbrev S_Sound___init__ : Stmt := inClass (top 134) 0
abbrev N_Sound___init__ : List Str := ["self", "checked"]
abbrev P_Sound___init__ : List Str := ["self", "checked"]
theorem sc_Sound___init__ : FnScope N_Sound___init__ P_Sound___init__ (defScope S_Sound___init__) := ⟨rfl, rfl, rfl, by decide +kernel, rfl, by decide +kernel, by decide +kernel⟩
def spSound (C_Sound : Addr) : Sp := fun vs H Q _ => ∃ (p dx : Addr) (u : V), vs = [.ref p, u] ∧ H p = some (.ins C_Sound dx []) ∧ Q .non (upd H p (.ins C_Sound dx [("checked", u)]))
theorem ok_sound (T : FarK K mg C_Far C_Sound) (F : Fun K "__init__" "Sound.__init__" S_Sound___init__ f fd) : FnOk P w K mg base CX0 1 f fd P_Sound___init__ (spSound C_Sound) := by
  refine F.ok sc_Sound___init__ (fun vs H Q E h => ?_) (fun cdv A outer s H vs Q E hr h => ?_)
  · obtain ⟨p, dx, u, rfl, _⟩ := h
    rfl
  obtain ⟨p, dx, u, rfl, h, q⟩ := h
  refine ⟨_, (pss_one (ps_fld (pv 0) (pv 1) rfl)), ?_⟩
  exact ⟨_, rfl, _, rfl, p, C_Sound, dx, [], rfl, h, T.cs, T.nC, (by show 0 < 1000; decide), q⟩
abbrev S_form_of_value : Stmt := top 137
abbrev N_form_of_value : List Str := ["value", "turns", "before", "index", "entry", "turn"]
abbrev P_form_of_value : List Str := ["value"]
theorem sc_form_of_value : FnScope N_form_of_value P_form_of_value (defScope S_form_of_value) := ⟨rfl, rfl, rfl, by decide +kernel, rfl, by decide +kernel, by decide +kernel⟩
def spFov (K : PySem.W.Frag) (C_Far : Addr) (n : Nat) : Sp := fun vs H Q _ => ∃ (v : V) (z : Int), vs = [v] ∧ NumV K C_Far n H v z ∧ InB z ∧ formD z = gU n z ∧ FitD n (gU n z) ∧ ∀ (u : V) (H' : Hp), Same H H' → Dp K H' u (gU n z) → Q u H'
theorem ok_fov {n k : Nat} (k5 : 4 ≤ k) (F : Fun K "form_of_value" "form_of_value" S_form_of_value f fd) (Cis_number : Has P w K mg base 1 "is_number" P_is_number [] (spIsNum K C_Far n)) (Cform_in : Has P w K mg base 4 "form_in" P_form_in [] (spFormIn K C_Far n)) (Cjudged : Has P w K mg base k "judged" P_judged [] (spJudged K n)) :
    FnOk P w K mg base CX0 (k + 1) f fd P_form_of_value (spFov K C_Far n) := by
  have nd := sc_form_of_value.nd
  refine F.ok sc_form_of_value (fun vs H Q E h => ?_) (fun cdv A outer s H vs Q E hr h => ?_)
  · obtain ⟨v, z, rfl, _⟩ := h
    rfl
  obtain ⟨v, z, rfl, hv, hb, he, ft, q⟩ := h
  refine ⟨_, (pss_cons (ps_if (pt_val (pe_H Cis_number (hr.mono (by omega)) rfl (pa_cons (pv 0) pa_nil))) (pss_one (ps_ret (pe_H Cjudged (hr.mono (by omega)) rfl (pa_cons (pe_H Cform_in (hr.mono (by omega)) rfl (pa_cons (pv 0) pa_nil)) pa_nil)))) pss_nil)
    pss_never), ?_⟩
  refine ⟨_, rfl, v, z, rfl, hv, _, rfl, iteT ?_⟩
  refine ⟨_, rfl, v, z, rfl, hv, hb, he, fun u H1 e1 d1 => ?_⟩
  exact ⟨u, _, rfl, d1, ft.fm, ft.sp, ft.sz, ft.lv, fun H2 e2 => q u H2 (e1.trans e2) ((Nd.of e2).d d1)⟩
abbrev S_Far___init__ : Stmt := inClass (top 135) 0
abbrev N_Far___init__ : List Str := ["self", "value"]
abbrev P_Far___init__ : List Str := ["self", "value"]
theorem sc_Far___init__ : FnScope N_Far___init__ P_Far___init__ (defScope S_Far___init__) := ⟨rfl, rfl, rfl, by decide +kernel, rfl, by decide +kernel, by decide +kernel⟩
def spFarI (K : PySem.W.Frag) (C_Far C_Sound : Addr) (n : Nat) : Sp := fun vs H Q _ => ∃ (p dx : Addr) (v : V), vs = [.ref p, v] ∧ H p = some (.ins C_Far dx []) ∧
  ((∃ (s ds : Addr) (u : V), v = .ref s ∧ H s = some (.ins C_Sound ds [("checked", u)]) ∧ Q .non (upd H p (.ins C_Far dx [("_form", u)]))) ∨
   (∃ z, NumV K C_Far n H v z ∧ InB z ∧ formD z = gU n z ∧ FitD n (gU n z) ∧ ∀ (u : V) (H' : Hp), Same H H' → Dp K H' u (gU n z) → Q .non (upd H' p (.ins C_Far dx [("_form", u)]))))
theorem FarK.isS (T : FarK K mg C_Far C_Sound) {n : Nat} {H : Hp} {v : V} {z : Int} (h : NumV K C_Far n H v z) : ∃ t, TyX K H v t ∧ PySem.W.kitOne K t (.ref C_Sound) = some false := by
  cases h with
  | int z => exact ⟨_, .base (.int z), T.k3⟩
  | far h =>
    obtain ⟨dx, u, h1, _⟩ := h.ex
    exact ⟨_, T.tyF h1, T.k1⟩
theorem ok_farinit {n k : Nat} {dvs : List V} {kws : List (Str × V)} (T : FarK K mg C_Far C_Sound) (F : FunD K "__init__" "Far.__init__" (defArgs S_Far___init__) (defBody S_Far___init__) (defScope S_Far___init__) dvs kws f fd) (B : Blt mg) (Cform_of_value : Has P w K mg base k "form_of_value" P_form_of_value [] (spFov K C_Far n)) :
    FnOk P w K mg base CX0 (k + 1) f fd P_Far___init__ (spFarI K C_Far C_Sound n) := by
  have nd := sc_Far___init__.nd
  refine funD_ok F sc_Far___init__ (fun vs H Q E h => ?_) (fun cdv A outer s H vs Q E hr h => ?_)
  · obtain ⟨p, dx, v, rfl, _⟩ := h
    rfl
  obtain ⟨p, dx, v, rfl, hp, h⟩ := h
  have mg_Sound := T.gS
  refine ⟨_, (pss_one (ps_if (pt_val (pe_callB call_isi (by rfl) B.isinstance (by decide +kernel) (pa_cons (pv 1) (pa_cons (pe_glob (v := .ref C_Sound) rfl mg_Sound rfl) pa_nil)))) (pss_one (ps_fld (pv 0) (pe_fld (pv 1) rfl) rfl)) (pss_one (ps_fld (pv 0) (pe_H Cform_of_value (hr.mono (by omega)) rfl (pa_cons (pv 1) pa_nil)) rfl)))), ?_⟩
  rcases h with ⟨s, ds, u, rfl, hs, q⟩ | ⟨z, hv, hb, he, ft, q⟩
  · refine ⟨_, rfl, _, _, _, _, _, rfl, .own C_Sound, T.tyS hs, T.k2, _, rfl, iteT ?_⟩
    exact ⟨_, rfl, s, C_Sound, ds, _, u, rfl, hs, T.cs, T.nC, rfl, _, rfl, p, C_Far, dx, [], rfl, hp, T.cl, T.nF, (by show 0 < 1000; decide), q⟩
  · obtain ⟨t, ty, kt⟩ := T.isS hv
    refine ⟨_, rfl, _, _, _, _, _, rfl, .own C_Sound, ty, kt, _, rfl, iteF ?_⟩
    refine ⟨_, rfl, v, z, rfl, hv, hb, he, ft, fun u H1 e1 d1 => ?_⟩
    exact ⟨_, rfl, p, C_Far, dx, [], rfl, e1 _ _ hp, T.cl, T.nF, (by show 0 < 1000; decide), q u H1 e1 d1⟩
/-- Far(x) of a number: the new object -/
theorem far_obj {n : Nat} {H H' : Hp} {x dx : Addr} {u : V} {z : Int} (nx : H x = none) (ndx : H dx = none) (e : Same (upd (upd H dx (.own x)) x (.ins C_Far dx [])) H') (d : Dp K H' u (gU n z)) :
    Same H (upd H' x (.ins C_Far dx [("_form", u)])) ∧ FarO K C_Far n (upd H' x (.ins C_Far dx [("_form", u)])) x z := by
  have s0 : Same H (upd (upd H dx (.own x)) x (.ins C_Far dx [])) := fun b o e => by
    rw [upd_ne (ne_of_none e nx), upd_ne (ne_of_none e ndx)]
    exact e
  have hx : H' x = some (.ins C_Far dx []) := e _ _ upd_same
  exact ⟨Same.mut (s0.trans e) nx, dx, u, upd_same, Xd.dp (Xd.put hx _) _ _ d⟩
theorem new_same {H : Hp} {x dx : Addr} {o o' : HO} (nx : H x = none) (ndx : H dx = none) : Same H (upd (upd H dx o) x o') := fun b q e => by
  rw [upd_ne (ne_of_none e nx), upd_ne (ne_of_none e ndx)]
  exact e
abbrev S_far_of : Stmt := top 136
abbrev N_far_of : List Str := ["form"]
abbrev P_far_of : List Str := ["form"]
theorem sc_far_of : FnScope N_far_of P_far_of (defScope S_far_of) := ⟨rfl, rfl, rfl, by decide +kernel, rfl, by decide +kernel, by decide +kernel⟩
def spFarOf (K : PySem.W.Frag) (C_Far : Addr) (n : Nat) : Sp := fun vs H Q _ => ∃ (u : V) (z : Int), vs = [u] ∧ Dp K H u (gU n z) ∧ FitD n (gU n z) ∧ ∀ (a : Addr) (H' : Hp), Same H H' → FarO K C_Far n H' a z → Q (.ref a) H'
theorem ok_farof {n k j : Nat} (hk : j + 1 ≤ k) (k2 : 2 ≤ k) (F : Fun K "far_of" "far_of" S_far_of f fd) (T : FarK K mg C_Far C_Sound) (Cjudged : Has P w K mg base k "judged" P_judged [] (spJudged K n)) (MK_Sound : HasMk P w K mg base 1 "Sound" C_Sound P_Sound___init__ [] (spSound C_Sound)) (MK_Far : HasMk P w K mg base j "Far" C_Far P_Far___init__ [] (spFarI K C_Far C_Sound n)) :
    FnOk P w K mg base CX0 (k + 1) f fd P_far_of (spFarOf K C_Far n) := by
  have nd := sc_far_of.nd
  refine F.ok sc_far_of (fun vs H Q E h => ?_) (fun cdv A outer s H vs Q E hr h => ?_)
  · obtain ⟨u, z, rfl, _⟩ := h
    rfl
  obtain ⟨u, z, rfl, hd, ft, q⟩ := h
  refine ⟨_, (pss_one (ps_ret (pe_mk MK_Far (hr.mono (by omega)) rfl (pa_cons (pe_mk MK_Sound (hr.mono (by omega)) rfl (pa_cons (pe_H Cjudged (hr.mono (by omega)) rfl (pa_cons (pv 0) pa_nil)) pa_nil)) pa_nil)))), ?_⟩
  refine ⟨_, rfl, u, _, rfl, hd, ft.fm, ft.sp, ft.sz, ft.lv, fun H1 e1 => ?_⟩
  intro s ds ns nds ne
  have s0 : Same H1 (upd (upd H1 ds (.own s)) s (.ins C_Sound ds [])) := fun b o e => by
    rw [upd_ne (ne_of_none e ns), upd_ne (ne_of_none e nds)]
    exact e
  refine ⟨s, ds, u, rfl, upd_same, rfl, ?_⟩
  have s1 : Same H1 (upd (upd (upd H1 ds (.own s)) s (.ins C_Sound ds [])) s (.ins C_Sound ds [("checked", u)])) := Same.mut s0 ns
  have hs : (upd (upd (upd H1 ds (.own s)) s (.ins C_Sound ds [])) s (.ins C_Sound ds [("checked", u)])) s = some (.ins C_Sound ds [("checked", u)]) := upd_same
  generalize upd (upd (upd H1 ds (.own s)) s (.ins C_Sound ds [])) s (.ins C_Sound ds [("checked", u)]) = H2 at s1 hs ⊢
  intro x dx nx ndx ne2
  have s2 : Same H2 (upd (upd H2 dx (.own x)) x (.ins C_Far dx [])) := fun b o e => by
    rw [upd_ne (ne_of_none e nx), upd_ne (ne_of_none e ndx)]
    exact e
  refine ⟨x, dx, _, rfl, upd_same, .inl ⟨s, ds, u, rfl, s2 _ _ hs, rfl, ?_⟩⟩
  have s3 : Same H2 (upd (upd (upd H2 dx (.own x)) x (.ins C_Far dx [])) x (.ins C_Far dx [("_form", u)])) := Same.mut s2 nx
  have s4 := e1.trans (s1.trans s3)
  exact q x _ s4 ⟨dx, u, upd_same, (Nd.of s4).d hd⟩
abbrev S_Far___eq__ : Stmt := inClass (top 135) 16
abbrev N_Far___eq__ : List Str := ["self", "other"]
abbrev P_Far___eq__ : List Str := ["self", "other"]
theorem sc_Far___eq__ : FnScope N_Far___eq__ P_Far___eq__ (defScope S_Far___eq__) := ⟨rfl, rfl, rfl, by decide +kernel, rfl, by decide +kernel, by decide +kernel⟩
/-- x == y of a number object and a number -/
def spEqN (K : PySem.W.Frag) (C_Far : Addr) (n : Nat) : Sp := fun vs H Q _ => ∃ (a : Addr) (v : V) (x y : Int), vs = [.ref a, v] ∧ FarO K C_Far n H a x ∧ NumV K C_Far n H v y ∧ InB y ∧ formD y = gU n y ∧ Fm n (gU n x) ∧ Fm n (gU n y) ∧ (gU n x = gU n y ↔ x = y) ∧ ∀ H', Same H H' → Q (.bl (decide (x = y))) H'
theorem ok_fareq {n : Nat} (hn : n ≤ 40) (T : FarK K mg C_Far C_Sound) (F : Fun K "__eq__" "Far.__eq__" S_Far___eq__ f fd) (Cis_number : Has P w K mg base 1 "is_number" P_is_number [] (spIsNum K C_Far n)) (Cform_in : Has P w K mg base 4 "form_in" P_form_in [] (spFormIn K C_Far n)) :
    FnOk P w K mg base CX0 5 f fd P_Far___eq__ (spEqN K C_Far n) := by
  have nd := sc_Far___eq__.nd
  refine F.ok sc_Far___eq__ (fun vs H Q E h => ?_) (fun cdv A outer s H vs Q E hr h => ?_)
  · obtain ⟨a, v, x, y, rfl, _⟩ := h
    rfl
  obtain ⟨a, v, x, y, rfl, hx, hv, hb, he, fx, fy, inj, q⟩ := h
  obtain ⟨dx, u, h1, h2⟩ := hx.ex
  refine ⟨_, (pss_cons (ps_if (pt_not (pt_val (pe_H Cis_number (hr.mono (by decide)) rfl (pa_cons (pv 1) pa_nil)))) (pss_one (ps_ret pe_bl)) pss_nil)
    (pss_one (ps_ret (pe_cmpR (op_eqD hr.units) (pe_fld (pv 0) rfl) (pe_H Cform_in (hr.mono (by decide)) rfl (pa_cons (pv 1) pa_nil)) (nomark _))))), ?_⟩
  refine ⟨_, rfl, v, y, rfl, hv, _, rfl, iteF ?_⟩
  refine ⟨_, rfl, a, C_Far, dx, _, u, rfl, h1, T.cl, T.nF, rfl, _, rfl, v, y, rfl, hv, hb, he, fun u2 H1 e1 d1 => ?_⟩
  refine ⟨_, _, (Nd.of e1).d h2, d1, shaped_fm fx hn, shaped_fm fy hn, ?_⟩
  have e : PyData.eqv (gU n x) (gU n y) = decide (x = y) := by
    rw [Bool.eq_iff_iff, eqv_fm fx fy, inj, decide_eq_true_iff]
  rw [e]
  exact q H1 e1
abbrev S_Far_whole : Stmt := inClass (top 135) 11
abbrev N_Far_whole : List Str := ["self", "turns"]
abbrev P_Far_whole : List Str := ["self"]
theorem sc_Far_whole : FnScope N_Far_whole P_Far_whole (defScope S_Far_whole) := ⟨rfl, rfl, rfl, by decide +kernel, rfl, by decide +kernel, by decide +kernel⟩
def spWhole (K : PySem.W.Frag) (C_Far : Addr) (n : Nat) : Sp := fun vs H Q _ => ∃ (a : Addr) (z : Int), vs = [.ref a] ∧ FarO K C_Far (n + 1) H a z ∧ Num (gU n) (SU 8500 n) z ∧ (∀ t ∈ Tl z, t ≤ 4000) ∧ ∀ H', Same H H' → Q (.int z) H'
theorem ok_whole {n k : Nat} {tk : Tok} (hn : n ≤ 40) (k3 : 3 ≤ k) (T : FarK K mg C_Far C_Sound) (F : Fun K "whole" "Far.whole" S_Far_whole f fd) (B : Blt mg) (LI : mg "LONGEST_INT" = some (.int 4000 tk)) (Cturns_in : Has P w K mg base 3 "turns_in" P_turns_in [] (spTin K (gU n) (SU 8500 n)))
    (Ccompare : Has P w K mg base k "compare" P_compare [] (spCmp K n)) (Cint_of_turns : Has P w K mg base 2 "int_of_turns" P_int_of_turns [] (spIoT K)) : FnOk P w K mg base CX0 (k + 1) f fd P_Far_whole (spWhole K C_Far n) := by
  have nd := sc_Far_whole.nd
  refine F.ok sc_Far_whole (fun vs H Q E h => ?_) (fun cdv A outer s H vs Q E hr h => ?_)
  · obtain ⟨a, z, rfl, _⟩ := h
    rfl
  obtain ⟨a, z, rfl, hx, nz, le, q⟩ := h
  obtain ⟨dx, u, h1, h2⟩ := hx.ex
  refine ⟨_, (pss_cons (ps_set (i := 1) nd rfl (Or.inl rfl) (pe_H Cturns_in (hr.mono (by omega)) rfl (pa_cons (pe_fld (pv 0) rfl) pa_nil)))
    (C8.pss_cut (ps_if (PW.pt (pw_and (pt_cmpR op_gt (pe_callB (call_lenS K) (by rfl) B.len PySem.boot_len (pa_cons (pv 1) pa_nil)) pe_int (nomark _)) (pw_and1 (pt_cmpR op_gt (pe_H Ccompare (hr.mono (by omega)) rfl (pa_cons (pe_ix (ix_seqK K) (pv 1) (pe_un un_neg pe_int) (fun _ _ => rfl)) (pa_cons (pe_glob (v := .int 4000) rfl LI ⟨_, rfl⟩) pa_nil))) pe_int (nomark _))))) (pss_one ps_never) pss_nil)
    (pss_one (ps_ret (pe_H Cint_of_turns (hr.mono (by omega)) rfl (pa_cons (pv 1) pa_nil)))))), ?_⟩
  refine ⟨_, rfl, a, C_Far, dx, _, u, rfl, h1, T.cl, T.nF, rfl, u, z, rfl, h2, nz, fun b H1 e1 pl => ?_⟩
  obtain ⟨vs, hs, hl, hd, hat⟩ := pl.at
  have pl4 : ∀ t ∈ Tl z, plain t := fun t ht => ⟨by have := tl_pos z t ht; omega, by have := le t ht; omega⟩
  have ed : (Tl z).map (gU n) = nD (turnsN z) := by
    unfold Tl zs nD
    rw [List.map_map]
    exact List.map_congr_left fun p hp => gU_plain (pl4 _ (List.mem_map.mpr ⟨p, hp, rfl⟩))
  have ev : vs = nI (turnsN z) := by
    rw [ed] at hd
    exact dps_n_inv hd
  refine ⟨fun σ H' => σ = [some (.ref a), some (.ref b)] ∧ Same H1 H', ?_, ?_⟩
  · refine ⟨_, rfl, _, _, rfl, hs, _, _, rfl, rfl, _, rfl, ?_⟩
    refine iteD (fun c => ?_) (fun c => ?_)
    · obtain ⟨ini, t, et⟩ : ∃ ini t, Tl z = ini ++ [t] := ⟨_, _, (List.dropLast_concat_getLast (l := Tl z) fun h => by
        rw [h] at hl
        rw [hl] at c
        exact absurd c (by decide)).symm⟩
      have ht : t ∈ Tl z := by rw [et]; simp
      have hd' := hd
      rw [et, List.map_append] at hd'
      obtain ⟨x, hx, dx⟩ := dps_last hd'
      have S4 : SU 8500 n 4000 := su_small (by decide) (by decide) (by decide)
      have e4 : gU n 4000 = .int 4000 := gU_plain (by decide)
      refine ⟨_, rfl, _, rfl, rIx_sq hs hx ⟨x, .int 4000, gU n t, .int 4000, rfl, dx, .int 4000, (oU n).fm t (nz.mem t ht), Fm.int _, fun H2 e2 => ?_⟩⟩
      rw [← e4, (oU n).ord t 4000 (nz.mem t ht) S4]
      have lt := le t ht
      refine ⟨_, _, rfl, rfl, _, rfl, ?_⟩
      refine iteD (fun c => ?_) (fun _ => ⟨rfl, e2⟩)
      rcases Int.lt_or_eq_of_le lt with h | h
      · rw [sgnI_lt h] at c
        exact absurd c (by decide)
      · rw [h, sgnI_self] at c
        exact absurd c (by decide)
    · exact iteF ⟨rfl, Same.refl H1⟩
  rintro σ H2 ⟨rfl, e2⟩
  have vz : alt (-1) (turnsN z) = z := turns_alt z
  refine ⟨_, rfl, b, turnsN z, rfl, ?_, turns_asc z, ?_, ?_, fun H3 e3 => ?_⟩
  · rw [← ev]; exact hs.same e2
  · intro p hp
    have := le p (List.mem_map.mpr ⟨p, hp, rfl⟩)
    omega
  · intro _ p hp
    have := le p (List.mem_map.mpr ⟨p, hp, rfl⟩)
    omega
  · rw [vz]
    exact q H3 (e1.trans (e2.trans e3))
end
end Fb
namespace Fb
open PySem L2
/-! ### sums of many -/
def pairI (zs : List Int) : List Int := ((List.range (zs.length / 2)).map fun i => zs.getD (2 * i) 0 + zs.getD (2 * i + 1) 0) ++ (if zs.length % 2 = 1 then [zs.getD (zs.length - 1) 0] else [])
theorem pairI_step (x y : Int) (r : List Int) : pairI (x :: y :: r) = (x + y) :: pairI r := by
  unfold pairI
  have h1 : (x :: y :: r).length / 2 = r.length / 2 + 1 := by rw [List.length_cons, List.length_cons]; omega
  have h2 : (x :: y :: r).length % 2 = r.length % 2 := by rw [List.length_cons, List.length_cons]; omega
  rw [h1, h2, List.range_succ_eq_map, List.map_cons, List.map_map, List.cons_append]
  congr 1
  congr 1
  by_cases o : r.length % 2 = 1
  · rw [if_pos o, if_pos o]
    congr 1
    have e : (x :: y :: r).length - 1 = (r.length - 1) + 1 + 1 := by rw [List.length_cons, List.length_cons]; omega
    rw [e]
    rfl
  · rw [if_neg o, if_neg o]
theorem pairI_sum : ∀ zs : List Int, (pairI zs).sum = zs.sum
  | [] => rfl
  | [x] => by simp [pairI]
  | x :: y :: r => by
    rw [pairI_step, List.sum_cons, List.sum_cons, List.sum_cons, pairI_sum r]
    omega
theorem pairI_len (zs : List Int) : (pairI zs).length = (zs.length + 1) / 2 := by
  unfold pairI
  rw [List.length_append, List.length_map, List.length_range]
  split
  · rw [List.length_singleton]; omega
  · rw [List.length_nil]; omega
theorem pairI_mem {zs : List Int} {z : Int} (h : z ∈ pairI zs) : (∃ i, 2 * i + 1 < zs.length ∧ z = zs.getD (2 * i) 0 + zs.getD (2 * i + 1) 0) ∨ z ∈ zs := by
  unfold pairI at h
  rcases List.mem_append.mp h with h | h
  · obtain ⟨i, hi, rfl⟩ := List.mem_map.mp h
    have := List.mem_range.mp hi
    exact .inl ⟨i, by omega, rfl⟩
  · right
    split at h
    · have e := List.mem_singleton.mp h
      have hp : zs.length - 1 < zs.length := by omega
      rw [e, List.getD_eq_getElem?_getD, List.getElem?_eq_getElem hp]
      exact List.getElem_mem hp
    · cases h
theorem rg12 (n : Nat) (h : n ≤ 10000) : RgC 1 (n : Int) 2 (n / 2) := by
  have e : Builtin.Range.rangeSize 1 (n : Int) 2 = ((n / 2 : Nat) : Int) := by
    unfold Builtin.Range.rangeSize
    rw [if_pos (by decide)]
    split <;> omega
  refine ⟨by decide, by decide, ?_, e⟩
  unfold Builtin.Range.small
  rw [e]
  generalize hm' : n / 2 = m
  have hm : m ≤ 10000 := by omega
  have fits : ∀ i : Int, -20000 ≤ i → i ≤ 20000 → Builtin.Range.rangeFitsLong i = true := fun i h1 h2 => by
    unfold Builtin.Range.rangeFitsLong
    rw [decide_eq_true (show -(2 ^ 63) ≤ i by omega), decide_eq_true (show i < 2 ^ 63 by omega)]
    rfl
  simp [fits (n : Int) (by omega) (by omega), fits (m : Int) (by omega) (by omega), fits 1 (by decide) (by decide), fits 2 (by decide) (by decide), fits ((n : Int) + 1) (by omega) (by omega)]
/-- two numbers whose sum is told -/
structure SumOk (g : Int → PyData) (S : Int → Prop) (x y : Int) : Prop where
  nx : Num g S x
  ny : Num g S y
  x1 : ∀ t ∈ Tl x, S (t + 1)
  y1 : ∀ t ∈ Tl y, S (t + 1)
  len : (Tl x).length + (Tl y).length ≤ 7000
  r : Num g S (x + y)
/-- numbers that are summed by pairs -/
structure TotOk (g : Int → PyData) (S : Int → Prop) (R : Nat) (zs : List Int) : Prop where
  ex : ∃ Lv : Nat → Int → Prop, (∀ z ∈ zs, Lv 0 z) ∧ (∀ r x y, r < R → Lv r x → Lv r y → Lv (r + 1) (x + y) ∧ SumOk g S x y) ∧ ∀ r x, r < R → Lv r x → Lv (r + 1) x
section
variable {P : Program} {w : World} {K : PySem.W.Frag} {mg : Str → Option Value} {base : Heap} {f : Addr} {fd : FuncData}
abbrev S_pair_sums : Stmt := top 100
abbrev N_pair_sums : List Str := ["forms", "sums", "k"]
abbrev P_pair_sums : List Str := ["forms"]
theorem sc_pair_sums : FnScope N_pair_sums P_pair_sums (defScope S_pair_sums) := ⟨rfl, rfl, rfl, by decide +kernel, rfl, by decide +kernel, by decide +kernel⟩
def spPairs (K : PySem.W.Frag) (g : Int → PyData) (S : Int → Prop) : Sp := fun vs H Q _ => ∃ (a : Addr) (xs : List V) (zs : List Int), vs = [.ref a] ∧ SqL K H a xs ∧ DpAll K H xs (zs.map (numD g)) ∧ zs.length ≤ 1000 ∧ (∀ z ∈ zs, Num g S z) ∧ (∀ i, 2 * i + 1 < zs.length → SumOk g S (zs.getD (2 * i) 0) (zs.getD (2 * i + 1) 0)) ∧
  ∀ (b : Addr) (ys : List V) (H' : Hp), Same H H' → H' b = some (.lst ys) → DpAll K H' ys ((pairI zs).map (numD g)) → Q (.ref b) H'
theorem ok_pairs {n : Nat} {g : Int → PyData} {S : Int → Prop} {k : Nat} (o : OrdN n g S) (F : Fun K "pair_sums" "pair_sums" S_pair_sums f fd) (B : Blt mg) (Cplus : Has P w K mg base k "plus" P_plus [] (spSum K g S fun x y => x + y)) : FnOk P w K mg base CX0 (k + 1) f fd P_pair_sums (spPairs K g S) := by
  have nd := sc_pair_sums.nd
  refine F.ok sc_pair_sums (fun vs H Q E h => ?_) (fun cdv A outer s H vs Q E hr h => ?_)
  · obtain ⟨a, xs, zs, rfl, _⟩ := h
    rfl
  obtain ⟨a, xs, zs, rfl, hS, hd, l1, nz, ok, q⟩ := h
  refine ⟨_, (pss_cons (ps_setLc (i := 1) (own := [("k", 2)]) (g := gName 2) (tt := tYes) rfl nd rfl rfl (sw_true rfl rfl rfl (by decide +kernel)) (pi_range3 (by rfl) B.range (pa_cons pe_int (pa_cons (pe_callB (call_lenLK K) (by rfl) B.len PySem.boot_len (pa_cons (pv 0) pa_nil)) (pa_cons pe_int pa_nil)))) (blkOk_by (own := [("k", 2)]) (N := N_pair_sums) (sc := defScope S_pair_sums) (by decide +kernel)) (fun _ _ _ _ _ => pg_name (i := 2) nd rfl (Or.inl rfl)) (fun _ _ _ _ _ => pts_nil) (fun _ _ _ _ _ => (pe_H Cplus (hr.mono (by omega)) rfl (pa_cons (pe_ix (ix_listK K) (pv 0) (pe_op op_sub (pv 2) pe_int) (fun _ _ => rfl)) (pa_cons (pe_ix (ix_listK K) (pv 0) (pv 2) (fun _ _ => rfl)) pa_nil)))))
    (C8.pss_cut (ps_if (pt_truth (pe_op op_and (pe_callB (call_lenLK K) (by rfl) B.len PySem.boot_len (pa_cons (pv 0) pa_nil)) pe_int) (by intro _; rfl)) (pss_one (ps_expr (pe_bm PySem.F.plainAttrs_list PySem.F.slot_list_append PySem.F.type_list_append mt_append (pv 1) (pa_cons (pe_ix (ix_listK K) (pv 0) (pe_un un_neg pe_int) (fun _ _ => rfl)) pa_nil)))) pss_nil)
    (pss_one (ps_ret (pv 1))))), ?_⟩
  have lx : xs.length = zs.length := by rw [dps_length hd, List.length_map]
  have item : ∀ (H' : Hp), Same H H' → ∀ i, i < zs.length → ∃ x, xs[i]? = some x ∧ Dp K H' x (numD g (zs.getD i 0)) := fun H' e i hi => by
    have hx : xs[i]? = some (xs[i]'(by omega)) := List.getElem?_eq_getElem (by omega)
    obtain ⟨d, h1, h2⟩ := dps_get ((Nd.of e).ds hd) hx
    rw [List.getElem?_map, List.getElem?_eq_getElem hi] at h1
    refine ⟨_, hx, ?_⟩
    rw [List.getD_eq_getElem?_getD, List.getElem?_eq_getElem hi]
    cases h1
    exact h2
  refine ⟨_, rfl, _, _, rfl, hS, _, _, _, _, rfl, rg12 xs.length (by omega), fun D nD => ?_⟩
  have inS : ∀ x, Num g S x → Fm (n + 1) (numD g x) := fun x h => num_fm o h
  have fmp : ∀ i d, d ∈ ((List.range i).map fun j => zs.getD (2 * j) 0 + zs.getD (2 * j + 1) 0).map (numD g) → i ≤ xs.length / 2 → Fm (n + 1) d := fun i d hd hi => by
    obtain ⟨z, hz, rfl⟩ := List.mem_map.mp hd
    obtain ⟨j, hj, rfl⟩ := List.mem_map.mp hz
    have := List.mem_range.mp hj
    exact inS _ (ok j (by omega)).r
  refine lc_rangeC (fun i H' => ∃ ys : List V, ys.length = i ∧ Same H H' ∧ H' D = some (.lst ys) ∧ DpAll K H' ys (((List.range i).map fun j => zs.getD (2 * j) 0 + zs.getD (2 * j + 1) 0).map (numD g))) ⟨[], rfl, Same.new nD, upd_same, .nil⟩ (fun i H' hi h => ?_) (fun H' h => ?_)
  · obtain ⟨ys, ly, e, hD, hy⟩ := h
    obtain ⟨x1, h1, d1⟩ := item H' e (2 * i) (by omega)
    obtain ⟨x2, h2, d2⟩ := item H' e (2 * i + 1) (by omega)
    have a1 : atI xs (1 + (i : Nat) * 2 - 1) = some x1 := by
      rw [show (1 + (i : Nat) * 2 - 1 : Int) = ((2 * i : Nat) : Int) by omega]
      exact atI_nat h1
    have a2 : atI xs (1 + (i : Nat) * 2) = some x2 := by
      rw [show (1 + (i : Nat) * 2 : Int) = ((2 * i + 1 : Nat) : Int) by omega]
      exact atI_nat h2
    have k := ok i (by omega)
    have hS' := e.seq hS
    refine ⟨rfl, lcT ?_⟩
    refine ⟨_, rfl, _, rfl, _, _, rfl, rfl, _, _, _, _, rfl, rfl, hS', a1, _, rfl, _, rfl, _, _, _, _, rfl, rfl, hS', a2, x1, x2, _, _, rfl, d1, d2, k.nx, k.ny, k.x1, k.y1, k.len, (by show _ ≤ 8000; have := k.len; omega), k.r, fun v' H2 e2 d => ?_⟩
    have hD2 := e2 _ _ hD
    refine ⟨ys, hD2, by rw [ly]; exact Nat.lt_of_le_of_lt (show _ ≤ 1000 by omega) (by decide), ys ++ [v'], by rw [List.length_append, ly]; rfl, Same.mut (e.trans e2) nD, upd_same, ?_⟩
    have td : Td H2 (upd H2 D (.lst (ys ++ [v']))) := Td.lst hD2
    rw [List.range_succ, List.map_append, List.map_append]
    exact dps_app (td.ds (n := n + 1) (fun d hd => fmp i d hd (by omega)) ((Nd.of e2).ds hy)) (.cons (td.d (inS _ k.r) d) .nil)
  obtain ⟨ys, ly, e, hD, hy⟩ := h
  have hS' := e.seq hS
  refine ⟨fun σ H' => ∃ (z2 : Option V) (ys : List V), σ = [some (.ref a), some (.ref D), z2] ∧ Same H H' ∧ H' D = some (.lst ys) ∧ DpAll K H' ys ((pairI zs).map (numD g)), ?_, ?_⟩
  · refine ⟨_, rfl, _, _, rfl, hS', _, _, rfl, rfl, _, rfl, ?_⟩
    by_cases od : xs.length % 2 = 1
    · have hb : (Builtin.bitAnd (xs.length : Int) 1 != 0) = true := by
        rw [PyProof.Rows.bitAnd_m1, show ((xs.length : Nat) : Int) % 2 = 1 by omega]
        rfl
      rw [hb]
      refine iteT ?_
      obtain ⟨xl, hxl, dl⟩ := item H' e (zs.length - 1) (by omega)
      have al : atI xs (-1) = some xl := by
        have h := atI_end (xs := xs) (s := 0) (v := xl) (by
          rw [List.getElem?_reverse (by omega), show xs.length - 1 - 0 = zs.length - 1 by omega]
          exact hxl)
        exact h
      refine ⟨_, rfl, .inl ⟨rfl, _, SqL.of hD⟩, _, rfl, _, rfl, _, _, _, _, rfl, rfl, hS', al, _, _, _, rfl, rfl, hD, ?_, ?_⟩
      · rw [ly]
        exact Nat.lt_of_le_of_lt (show _ ≤ 1000 by omega) (by decide)
      · have td : Td H' (upd H' D (.lst (ys ++ [xl]))) := Td.lst hD
        have nl : Num g S (zs.getD (zs.length - 1) 0) := by
          have hp : zs.length - 1 < zs.length := by omega
          rw [List.getD_eq_getElem?_getD, List.getElem?_eq_getElem hp]
          exact nz _ (List.getElem_mem hp)
        refine ⟨_, ys ++ [xl], rfl, Same.mut e nD, upd_same, ?_⟩
        unfold pairI
        rw [if_pos (by omega), List.map_append, ← lx]
        refine dps_app (td.ds (n := n + 1) (fun d hd => fmp _ d hd (Nat.le_refl _)) hy) (.cons ?_ .nil)
        rw [lx]
        exact td.d (inS _ nl) dl
    · have hb : (Builtin.bitAnd (xs.length : Int) 1 != 0) = false := by
        rw [PyProof.Rows.bitAnd_m1, show ((xs.length : Nat) : Int) % 2 = 0 by omega]
        rfl
      rw [hb]
      refine iteF ⟨_, ys, rfl, e, hD, ?_⟩
      unfold pairI
      rw [if_neg (by omega), List.append_nil, ← lx]
      exact hy
  · rintro σ H2 ⟨z2, ys, rfl, e2, hD2, hy2⟩
    exact ⟨_, rfl, q D ys H2 e2 hD2 hy2⟩
abbrev S_total : Stmt := top 99
abbrev N_total : List Str := ["forms", "level"]
abbrev P_total : List Str := ["forms"]
theorem sc_total : FnScope N_total P_total (defScope S_total) := ⟨rfl, rfl, rfl, by decide +kernel, rfl, by decide +kernel, by decide +kernel⟩
def spTotal (K : PySem.W.Frag) (g : Int → PyData) (S : Int → Prop) : Sp := fun vs H Q _ => ∃ (a : Addr) (xs : List V) (zs : List Int) (R : Nat), vs = [.ref a] ∧ SqL K H a xs ∧ DpAll K H xs (zs.map (numD g)) ∧ zs.length ≤ 2 ^ R ∧ zs.length ≤ 1000 ∧ (∀ z ∈ zs, Num g S z) ∧ TotOk g S R zs ∧
  ∀ (v : V) (H' : Hp), Same H H' → Dp K H' v (numD g zs.sum) → Q v H'
theorem ok_total {n : Nat} {g : Int → PyData} {S : Int → Prop} {k : Nat} (o : OrdN n g S) (F : Fun K "total" "total" S_total f fd) (B : Blt mg) (Cpair_sums : Has P w K mg base k "pair_sums" P_pair_sums [] (spPairs K g S)) : FnOk P w K mg base CX0 (k + 1) f fd P_total (spTotal K g S) := by
  have nd := sc_total.nd
  refine F.ok sc_total (fun vs H Q E h => ?_) (fun cdv A outer s H vs Q E hr h => ?_)
  · obtain ⟨a, xs, zs, R, rfl, _⟩ := h
    rfl
  obtain ⟨a, xs, zs, R, rfl, hS, hd, lR, l1, nz, ok, q⟩ := h
  obtain ⟨Lv, lv0, lvS, lvU⟩ := ok.ex
  refine ⟨_, (pss_cons (ps_if (pt_not (pt_truth (pv 0) (by intro _; rfl))) (pss_one (ps_ret pe_int)) pss_nil)
    (pss_cons (ps_set (i := 1) nd rfl (Or.inl rfl) (pv 0))
    (pss_cons (ps_while PassesOwn.never (pt_cmpR op_gt (pe_callB (call_lenLK K) (by rfl) B.len PySem.boot_len (pa_cons (pv 1) pa_nil)) pe_int (nomark _)) (pss_one (ps_set (i := 1) nd rfl (Or.inl rfl) (pe_H Cpair_sums (hr.mono (by omega)) rfl (pa_cons (pv 1) pa_nil)))))
    (pss_one (ps_ret (pe_ix (ix_listK K) (pv 1) pe_int (fun _ _ => rfl))))))), ?_⟩
  have lx : xs.length = zs.length := by rw [dps_length hd, List.length_map]
  refine ⟨_, rfl, (!xs.isEmpty), .inl ⟨_, hS, rfl⟩, ?_⟩
  cases xs with
  | nil =>
    refine iteT ?_
    have z0 : zs = [] := List.length_eq_zero_iff.mp lx.symm
    subst z0
    refine q _ H (Same.refl _) ?_
    show Dp K H (.int 0) (numD g 0)
    unfold numD rowF
    rw [tl_zero]
    exact .int 0
  | cons x0 xr =>
    refine iteF ?_
    refine ⟨_, rfl, ?_⟩
    refine ⟨fun m σ H' => ∃ (r : Nat) (b : Addr) (ys : List V) (ws : List Int), m = ws.length ∧ σ = [some (.ref a), some (.ref b)] ∧ Same H H' ∧ SqL K H' b ys ∧ DpAll K H' ys (ws.map (numD g)) ∧ ws.sum = zs.sum ∧ 1 ≤ ws.length ∧ ws.length ≤ 1000 ∧ r ≤ R ∧ ws.length ≤ 2 ^ (R - r) ∧ (∀ z ∈ ws, Lv r z) ∧ (∀ z ∈ ws, Num g S z), ⟨_, 0, a, _, zs, rfl, rfl, Same.refl _, hS, hd, rfl, by rw [← lx]; exact Nat.succ_le_succ (Nat.zero_le _), l1, Nat.zero_le _, lR, lv0, nz⟩, ?_⟩
    rintro m σ H' ⟨r, b, ys, ws, rfl, rfl, e, hb, hy, es, w1, w2, rR, wR, lv, nw⟩
    have ly : ys.length = ws.length := by rw [dps_length hy, List.length_map]
    refine ⟨_, rfl, _, _, rfl, hb, _, _, rfl, rfl, _, rfl, ?_⟩
    refine iteD (fun c => ?_) (fun c => ?_)
    · have c2 : 2 ≤ ws.length := by omega
      have rl : r < R := by
        rcases Nat.lt_or_ge r R with h | h
        · exact h
        · have : R - r = 0 := by omega
          rw [this] at wR
          have : (2 : Nat) ^ 0 = 1 := rfl
          omega
      have gm : ∀ i, i < ws.length → ws.getD i 0 ∈ ws := fun i hi => by
        rw [List.getD_eq_getElem?_getD, List.getElem?_eq_getElem hi]
        exact List.getElem_mem hi
      refine ⟨fun σ' H1 => ∃ (b' : Addr) (ys' : List V), σ' = [some (.ref a), some (.ref b')] ∧ Same H' H1 ∧ H1 b' = some (.lst ys') ∧ DpAll K H1 ys' ((pairI ws).map (numD g)), fun σ' H1 h => ?_, ?_⟩
      · obtain ⟨b', ys', rfl, e1, hb', hy'⟩ := h
        have lp := pairI_len ws
        have pw : (2 : Nat) ^ (R - r) = 2 * 2 ^ (R - (r + 1)) := by
          rw [show R - r = (R - (r + 1)) + 1 by omega, Nat.pow_succ]
          omega
        refine ⟨(pairI ws).length, by omega, r + 1, b', ys', pairI ws, rfl, rfl, e.trans e1, SqL.of hb', hy', by rw [pairI_sum]; exact es, by omega, by omega, rl, ?_, fun z hz => ?_, fun z hz => ?_⟩
        · rw [pw] at wR
          omega
        · rcases pairI_mem hz with ⟨i, hi, rfl⟩ | hz
          · exact (lvS r _ _ rl (lv _ (gm _ (by omega))) (lv _ (gm _ hi))).1
          · exact lvU r z rl (lv z hz)
        · rcases pairI_mem hz with ⟨i, hi, rfl⟩ | hz
          · exact (lvS r _ _ rl (lv _ (gm _ (by omega))) (lv _ (gm _ hi))).2.r
          · exact nw z hz
      · exact ⟨_, rfl, b, ys, ws, rfl, hb, hy, w2, nw, fun i hi => (lvS r _ _ rl (lv _ (gm _ (by omega))) (lv _ (gm _ hi))).2, fun b' ys' H1 e1 hb' hy' => ⟨b', ys', rfl, e1, hb', hy'⟩⟩
    · have c1 : ws.length = 1 := by omega
      obtain ⟨w0, ew⟩ : ∃ w0, ws = [w0] := by
        match ws, c1 with
        | [w0], _ => exact ⟨w0, rfl⟩
      subst ew
      cases hy with
      | @cons v _ _ _ d0 dn =>
        refine ⟨_, rfl, _, _, _, _, rfl, rfl, hb, atI_nat (j := 0) rfl, q v H' e ?_⟩
        have e0 : zs.sum = w0 := by
          rw [← es]
          show w0 + 0 = w0
          omega
        rw [e0]
        exact d0
end
end Fb
/-! ### slices with a step -/
namespace HT
open PySem PyProof.Rows
section
variable {prog : Program} {w : World} {A : Around} {E : Value → Shared → Prop} {s : Shared}
/-- how many items a slice with the step c has -/
def sNum (lo hi c : Nat) : Nat := if lo < hi then (hi - lo - 1) / c + 1 else 0
theorem adjust_step (lo hi : Option Int) (n c : Nat) : Builtin.Slice.sliceAdjust lo hi (c : Int) (n : Int) = (((sIx n 0 lo : Nat) : Int), ((sIx n n hi : Nat) : Int)) := by
  have h1 : ¬ ((c : Int) < 0) := by omega
  unfold Builtin.Slice.sliceAdjust
  simp only [h1, if_false]
  refine Prod.ext ?_ ?_
  · cases lo with
    | none => rfl
    | some v => exact clip_eq v n 0
  · cases hi with
    | none => rfl
    | some v => exact clip_eq v n n
theorem places_step (i j c : Nat) (hc : 0 < c) : Builtin.Slice.slicePlaces (i : Int) (j : Int) (c : Int) = sNum i j c := by
  unfold Builtin.Slice.slicePlaces sNum
  have h1 : (c : Int) > 0 := by omega
  simp only [h1, if_true]
  by_cases h : i < j
  · rw [if_pos (by omega), if_pos h]
    have e : ((j : Int) - (i : Int) - 1) / (c : Int) + 1 = (((j - i - 1) / c + 1 : Nat) : Int) := by
      rw [show ((j : Int) - (i : Int) - 1) = ((j - i - 1 : Nat) : Int) by omega]
      rfl
    rw [e]
    rfl
  · rw [if_neg (by omega), if_neg h]
    rfl
theorem sliceApplied_step {sl : Addr} {vl vu : Value} {lo hi : Option Int} {n c : Nat} {tk : Tok} {Q : Int × Int × Nat → Shared → Prop} (hc : 0 < c) (hs : s.heap.IsSliceOf sl vl vu (.int (c : Int) tk)) (pl : IsPart vl lo) (pu : IsPart vu hi)
    (h : Q (((sIx n 0 lo : Nat) : Int), (c : Int), sNum (sIx n 0 lo) (sIx n n hi) c) s) : wpAny (model prog w) A (Builtin.Slice.sliceApplied (.ref sl) (pure (n : Int))) Q E s := by
  obtain ⟨os, hos, hcs, hds⟩ := id hs
  unfold Builtin.Slice.sliceApplied Builtin.Slice.sliceFields
  refine wpAny_bind (wpAny_bind (wpAny_field hos hds (x := vl) rfl (wpAny_bind (wpAny_field hos hds (x := vu) rfl (wpAny_bind (wpAny_field hos hds (x := .int (c : Int) tk) rfl (wpAny_pure ?_)))))))
  refine wpAny_bind (slicePart_ (.int (c : Int) tk) ?_)
  show wpAny _ _ (if ((c : Int) == 0) = true then _ else _) _ _ s
  rw [if_neg (by simp; omega)]
  refine wpAny_bind (slicePart_ pl (wpAny_bind (slicePart_ pu (wpAny_bind (wpAny_pure ?_)))))
  show wpAny _ _ (match Builtin.Slice.sliceAdjust lo hi (c : Int) (n : Int) with | (lo, hi) => pure (lo, (c : Int), Builtin.Slice.slicePlaces lo hi (c : Int))) _ _ s
  rw [adjust_step lo hi n c]
  show wpAny _ _ (pure (((sIx n 0 lo : Nat) : Int), (c : Int), Builtin.Slice.slicePlaces ((sIx n 0 lo : Nat) : Int) ((sIx n n hi : Nat) : Int) (c : Int))) _ _ s
  rw [places_step _ _ _ hc]
  exact wpAny_pure h
/-- the items of a slice with a step -/
def pickS {α : Type} (xs : List α) (lo hi : Option Int) (c : Nat) : List α := (List.range (sNum (sIx xs.length 0 lo) (sIx xs.length xs.length hi) c)).filterMap fun k => xs[sIx xs.length 0 lo + k * c]?
theorem pick_step (items : Array Value) (i k c : Nat) : ((List.range k).filterMap fun (m : Nat) => items[((i : Int) + (m : Int) * (c : Int)).toNat]?) = (List.range k).filterMap fun m => items.toList[i + m * c]? := by
  congr 1
  funext m
  have : ((i : Int) + (m : Int) * (c : Int)).toNat = i + m * c := by
    rw [← Int.natCast_mul, ← Int.natCast_add]
    rfl
  rw [this, Array.getElem?_toList]
theorem pickS_len {α : Type} (xs : List α) (lo hi : Option Int) (c : Nat) (hc : 0 < c) : (pickS xs lo hi c).length ≤ xs.length := by
  unfold pickS
  refine Nat.le_trans (List.length_filterMap_le _ _) ?_
  rw [List.length_range]
  have := sIx_le xs.length xs.length (Nat.le_refl _) hi
  unfold sNum
  split
  · have : (sIx xs.length xs.length hi - sIx xs.length 0 lo - 1) / c ≤ sIx xs.length xs.length hi - sIx xs.length 0 lo - 1 := Nat.div_le_self _ _
    omega
  · exact Nat.zero_le _
theorem getItem_tuple_step {t sl : Addr} {items : Array Value} {vl vu : Value} {lo hi : Option Int} {c : Nat} {tk : Tok} {Q : Value → Shared → Prop} (hc : 2 ≤ c) (ht : IsTup s.heap t items) (hs : s.heap.IsSliceOf sl vl vu (.int (c : Int) tk)) (pl : IsPart vl lo) (pu : IsPart vu hi)
    (h : Q (.ref s.heap.objs.size) { s with heap := s.heap.push { cls := .type "tuple", data := .seq (pickS items.toList lo hi c).toArray } })
    (hsz : items.size ≤ sizeLine) : wpAny (model prog w) A (getItem (.ref t) (.ref sl)) Q E s := by
  have htake : sizeOk (.seq (pickS items.toList lo hi c).toArray) := by
    show (pickS items.toList lo hi c).toArray.size ≤ sizeLine
    rw [List.size_toArray]
    refine Nat.le_trans (pickS_len items.toList lo hi c (by omega)) ?_
    rw [Array.length_toList]
    exact hsz
  obtain ⟨os, hos, hcs, hds⟩ := id hs
  have hTs : s.TypeIs (.ref sl) "slice" := ⟨os, hos, hcs⟩
  unfold getItem
  try with_reducible refine wpAny_holding ?_
  first | refine wpAny_bind (wpAny_pure ?_) | skip
  refine wpAny_bind (wpAny_sequenceKey ht.typeIs (by decide) ?_)
  refine wpAny_bind (wpAny_callSpecial?_slot (name := Str.ofString "__getitem__") ht.typeIs PyProof.Rows.slot_tuple_getitem
    (wpAny_call_entry PyProof.Rows.slot_tuple_getitem ht.typeIs entry_tuple_getitem ?_ (args_tuple_getitem _ _)))
  show wpAny _ _ (Builtin.Tuple.tupleItemsOf (.ref t) >>= _) _ _ s
  refine wpAny_bind (tupleItemsOf_ ht ?_)
  refine wpAny_bind (wpAny_typeOf hTs ?_)
  rw [if_pos (by decide)]
  refine wpAny_bind (sliceApplied_step (c := c) (by omega) hs pl pu ?_)
  have hno : ¬ ((((sIx items.size 0 lo : Nat) : Int) == 0 && (c : Int) == 1 && (sNum (sIx items.size 0 lo) (sIx items.size items.size hi) c) == items.size) = true) := by
    intro q
    rw [Bool.and_eq_true, Bool.and_eq_true] at q
    have q1 : (c : Int) = 1 := eq_of_beq q.1.2
    omega
  show wpAny _ _ (if (((sIx items.size 0 lo : Nat) : Int) == 0 && (c : Int) == 1 && (sNum (sIx items.size 0 lo) (sIx items.size items.size hi) c) == items.size) = true then _ else _) _ _ s
  rw [if_neg hno, pick_step]
  have ep : ((List.range (sNum (sIx items.size 0 lo) (sIx items.size items.size hi) c)).filterMap fun m => items.toList[sIx items.size 0 lo + m * c]?) = pickS items.toList lo hi c := by
    unfold pickS
    rw [Array.length_toList]
  rw [ep]
  first
    | exact wpAny_bind (m := Builtin.Tuple.tupleExact _) (wpAny_newObj_type (wpAny_pure ⟨_, rfl, wpAny_pure h⟩) htake)
    | exact wpAny_bind (m := Builtin.Tuple.tupleExact _) (wpAny_newObj_type (wpAny_bind (wpAny_pure (wpAny_pure ⟨_, rfl, wpAny_pure h⟩))) htake)
    | exact wpAny_bind (wpAny_bind (m := Builtin.Tuple.tupleExact _) (wpAny_newObj_type (wpAny_pure (wpAny_pure ⟨_, rfl, wpAny_pure h⟩)) htake))
    | exact wpAny_bind (wpAny_bind (m := Builtin.Tuple.tupleExact _) (wpAny_newObj_type (wpAny_pure ⟨_, rfl, wpAny_pure h⟩) htake))
/-- the library's own picking -/
theorem slicePick_step (its : List Value) (lo hi : Option Int) (c : Nat) (hc : 0 < c) : slicePick its.toArray lo hi (some (c : Int)) = (pickS its lo hi c).toArray := by
  have hp : ((c : Int) > 0) := by omega
  have cl : ∀ (v : Option Int) (d : Nat), d ≤ its.length → (match v with | none => (d : Int) | some i => let i := if i < 0 then i + (its.length : Int) else i; if (c : Int) > 0 then max 0 (min i (its.length : Int)) else max (-1) (min i ((its.length : Int) - 1))) = ((sIx its.length d v : Nat) : Int) := fun v d hd => by
    cases v with
    | none => rfl
    | some i =>
      show (if (c : Int) > 0 then max 0 (min (if i < 0 then i + (its.length : Int) else i) (its.length : Int)) else _) = (((if i < 0 then (i + (its.length : Int)).toNat else min i.toNat its.length) : Nat) : Int)
      rw [if_pos hp]
      by_cases h : i < 0
      · rw [if_pos h, if_pos h]; omega
      · rw [if_neg h, if_neg h]; omega
  have b1 : (sliceBounds lo hi (some (c : Int)) its.toArray.size) = (((sIx its.length 0 lo : Nat) : Int), ((sIx its.length its.length hi : Nat) : Int), (c : Int)) := by
    unfold sliceBounds
    rw [List.size_toArray]
    simp only [Option.getD_some, hp, if_true]
    have c1 := cl lo 0 (Nat.zero_le _)
    have c2 := cl hi its.length (Nat.le_refl _)
    simp only [hp, if_true] at c1 c2
    exact Prod.ext c1 (Prod.ext c2 rfl)
  unfold slicePick
  rw [b1]
  simp only
  congr 1
  unfold sliceRange pickS
  simp only [hp, if_true]
  rw [List.filterMap_map]
  have en : (if ((sIx its.length 0 lo : Nat) : Int) < ((sIx its.length its.length hi : Nat) : Int) then (((sIx its.length its.length hi : Nat) : Int) - ((sIx its.length 0 lo : Nat) : Int) + (c : Int) - 1) / (c : Int) else 0).toNat = sNum (sIx its.length 0 lo) (sIx its.length its.length hi) c := by
    unfold sNum
    generalize sIx its.length 0 lo = i
    generalize sIx its.length its.length hi = j
    by_cases h : i < j
    · rw [if_pos (by omega), if_pos h]
      have e : ((j : Int) - (i : Int) + (c : Int) - 1) = ((j - i - 1 : Nat) : Int) + 1 * (c : Int) := by omega
      rw [e, Int.add_mul_ediv_right _ _ (by omega)]
      rfl
    · rw [if_neg (by omega), if_neg h]
      rfl
  rw [en]
  congr 1
  funext m
  show its.toArray[((((sIx its.length 0 lo : Nat) : Int) + (c : Int) * (m : Int)).toNat)]? = _
  have : ((((sIx its.length 0 lo : Nat) : Int) + (c : Int) * (m : Int)).toNat) = sIx its.length 0 lo + m * c := by
    rw [← Int.natCast_mul, ← Int.natCast_add, Nat.mul_comm]
    rfl
  rw [this]
  simp
end
end HT
namespace Fb
open PySem L2 PySem.Spec PyProof.Rows
theorem sum_rawT {prog : Program} {w : World} {A : Around} {E : Value → Shared → Prop} {s : Shared} {l : Addr} {its : List Value} {ns : List Int} {Q : Value → Shared → Prop} (hh : A.handled = none) (hl : s.heap.IsTuple l its.toArray) (hi : IntsAre its ns)
    (h : ∀ h' tk t', (∀ b o, s.heap.get? b = some o → h'.get? b = some o) → Q (.int ns.sum t') { s with heap := h', toks := tk }) : wpAny (model prog w) A (call (.builtin "sum") [.ref l]) Q E s := by
  obtain ⟨xs, e⟩ := hi.allInts.items
  have hn : numsOf (intItems xs).toList = ns := by rw [← e]; exact hi.numsOf
  rw [nums_intItems] at hn
  rw [e] at hl
  refine PySem.W.ktm_sumG hh hl fun h' tk t' hk => ?_
  have := h h' tk t' hk
  rw [preSum_eq, List.take_of_length_le (by simp), hn]; exact this
/-- sum of a list or a tuple of ints -/
def rSumS (K : PySem.W.Frag) : List V → Hp → VK → Prop := fun vs H Q => ∃ (a : Addr) (ns : List Int), vs = [V.ref a] ∧ Sq K H a (ns.map V.int) ∧ Q (.int ns.sum) H
theorem cr_sumS {X : Cx} (K : PySem.W.Frag) (hc : X.calm = true) (hK : X.K = K := by rfl) : CallR X (.builtin "sum") (rSumS K) := by
  subst hK
  intro pins s σ H vs us Q I r h
  obtain ⟨a, ns, rfl, hs, q⟩ := h
  rw [Vals.ref1 r]
  rcases hs.any with hs | hs
  · obtain ⟨its, rv, hl, _⟩ := I.list hs
    exact sum_raw (I.ok.hd hc) hl.isList rv.ints fun h' tk t' hk => ⟨.int _, H, I.kept hk, ⟨_, rfl⟩, q⟩
  · obtain ⟨its, rv, hl, _⟩ := I.tuple hs
    exact sum_rawT (I.ok.hd hc) hl rv.ints fun h' tk t' hk => ⟨.int _, H, I.kept hk, ⟨_, rfl⟩, q⟩
theorem vals_pick {xs : List V} {us : List Value} (r : Vals xs us) (lo hi : Option Int) (c : Nat) : Vals (HT.pickS xs lo hi c) (HT.pickS us lo hi c) := by
  have hl : xs.length = us.length := r.length
  unfold HT.pickS
  rw [hl]
  generalize HT.sNum (HT.sIx us.length 0 lo) (HT.sIx us.length us.length hi) c = N
  generalize HT.sIx us.length 0 lo = i
  have get : ∀ {xs : List V} {us : List Value}, Vals xs us → ∀ j : Nat, (xs[j]? = none ∧ us[j]? = none) ∨ ∃ x u, xs[j]? = some x ∧ us[j]? = some u ∧ RelV x u := by
    intro xs us r
    induction r with
    | nil => exact fun j => .inl ⟨rfl, rfl⟩
    | cons h _ ih =>
      intro j
      cases j with
      | zero => exact .inr ⟨_, _, rfl, rfl, h⟩
      | succ j => simpa using ih j
  induction N with
  | zero => exact .nil
  | succ N ih =>
    rw [List.range_succ, List.filterMap_append, List.filterMap_append]
    refine Vals.append ih ?_
    rcases get r (i + N * c) with ⟨h1, h2⟩ | ⟨x, u, h1, h2, h3⟩
    · simp only [List.filterMap_cons, List.filterMap_nil, h1, h2]
      exact .nil
    · simp only [List.filterMap_cons, List.filterMap_nil, h1, h2]
      exact .cons h3 .nil
/-- a list's or tuple's items from lo to hi, each c-th one: a new list or tuple -/
def rSlStep (K : PySem.W.Frag) (c : Nat) (x : V) (lo hi : Option Int) (H : Hp) (Q : VK) : Prop := ∃ a xs, x = .ref a ∧ Sq K H a xs ∧ ∀ b H', Same H H' → Sq K H' b (HT.pickS xs lo hi c) → Q (.ref b) H'
def tSl3 (r : V → Option Int → Option Int → Hp → VK → Prop) (te : TE) (tl th : TO) : TE := fun σ H Q => te σ H fun x H1 => tl σ H1 fun l H2 => th σ H2 fun u H3 => r x l u H3 Q
theorem pe_slice3 {X : Cx} (K : PySem.W.Frag) {e : Expr} {te : TE} {lo hi : Option Expr} {tl th : TO} {pos p2 p3 : Pos} {c k0 : Nat} (hc : 2 ≤ c) (he : PE X e te) (hl : PO X lo tl) (hu : PO X hi th) (hK : X.K = K := by rfl) :
    PE X (.Subscript e (.Slice lo hi (some (.Constant (.int (c : Int)) k0 p3)) p2) pos) (tSl3 (rSlStep K c) te tl th) := by
  subst hK
  refine ⟨fun pins s σ H Q I h => ?_⟩
  refine Subscript_ (thn (he.run pins s σ H _ I h) fun v s1 ⟨x, H1, I1, r1, q1⟩ => ?_)
  refine wpAny_Slice (thn (hl.run pins s1 σ H1 _ I1 q1) fun vl s2 ⟨l, H2, I2, pl, q2⟩ => thn (hu.run pins s2 σ H2 _ I2 q2) fun vu s3 ⟨u, H3, I3, pu, q3⟩ => ?_)
  have hp : PO X (some (.Constant (.int (c : Int)) k0 p3)) (tPart (tC (.int (c : Int)))) := po_some pe_int
  refine thn (hp.run pins s3 σ H3 (fun o H' => o = some (c : Int) ∧ H' = H3) I3 ⟨(c : Int), rfl, rfl, rfl⟩) fun vc s4 ⟨o, H4, I4, pc, eo, eH⟩ => ?_
  subst eo eH
  obtain ⟨tk, rfl⟩ : ∃ tk, vc = .int (c : Int) tk := by
    cases pc with
    | int i t => exact ⟨t, rfl⟩
  have I5 : Inv X pins σ H4 { s4 with heap := s4.heap.push { cls := .type "slice", data := .fields #[vl, vu, .int (c : Int) tk] } } := I4.kept (t' := s4.toks) fun b ob q => Heap.get?_push_of_some _ q
  obtain ⟨a, xs, rfl, hx, q⟩ := q3
  cases r1
  have fin : ∃ T id, typeLookup (.type T) "__getitem__" = pure (some (.builtin id)) ∧ ({ s4 with heap := s4.heap.push { cls := .type "slice", data := .fields #[vl, vu, .int (c : Int) tk] } } : Shared).TypeIs (.ref a) T ∧ wpAny (model X.prog X.w) X.A (getItem (.ref a) (.ref s4.heap.objs.size)) (EP X pins σ Q) X.xe { s4 with heap := s4.heap.push { cls := .type "slice", data := .fields #[vl, vu, .int (c : Int) tk] } } := by
    generalize hsh : ({ s4 with heap := s4.heap.push { cls := .type "slice", data := .fields #[vl, vu, .int (c : Int) tk] } } : Shared) = s5 at I5 ⊢
    have hsl : s5.heap.IsSliceOf s4.heap.objs.size vl vu (.int (c : Int) tk) := by rw [← hsh]; exact Heap.IsSliceOf.new ..
    rcases hx.any with hx | hx
    · obtain ⟨its, r, ht, hz⟩ := I5.list hx
      refine ⟨"list", _, slot_list_getitem.lookup, ht.isList.typeIs, ?_⟩
      have c0 : (some (c : Int)) ≠ some 0 := fun z => by
        injection z with z
        omega
      refine wpAny_getItem_list_slice ht.isList hsl pl pu (.int (c : Int) tk) c0 ?_ (by rw [List.size_toArray]; have := r.length; omega)
      rw [HT.slicePick_step _ _ _ _ (by omega)]
      have np := I5.hok.fresh (Nat.le_refl _)
      refine ⟨.ref s5.heap.objs.size, _, I5.laid (t' := s5.toks) (o := .lst (HT.pickS xs l u c)) (fun b ob q => Heap.get?_push_of_some _ q) (Nat.le_refl _) ?_, rfl, q _ _ (Same.new np) (.inl upd_same)⟩
      exact ⟨Nat.le_trans (HT.pickS_len xs l u c (by omega)) hz, _, 0, vals_pick r l u c, Heap.get?_push_size _ rfl⟩
    · obtain ⟨its, r, ht, hz⟩ := I5.tuple hx
      refine ⟨"tuple", _, PyProof.Rows.slot_tuple_getitem.lookup, ht.typeIs, ?_⟩
      refine HT.getItem_tuple_step hc ht hsl pl pu ?_ (by rw [List.size_toArray]; have := r.length; omega)
      have np := I5.hok.fresh (Nat.le_refl _)
      refine ⟨.ref s5.heap.objs.size, _, I5.laid (t' := s5.toks) (o := .tup (HT.pickS xs l u c)) (fun b ob q => Heap.get?_push_of_some _ q) (Nat.le_refl _) ?_, rfl, q _ _ (Same.new np) (.inr (SqT.of upd_same))⟩
      exact ⟨Nat.le_trans (HT.pickS_len xs l u c (by omega)) hz, _, vals_pick r l u c, IsTup.new _ _⟩
  obtain ⟨T, id, hT, ht, hg⟩ := fin
  show wpAny (model X.prog X.w) X.A (subscriptTail e (.Slice lo hi (some (.Constant (.int (c : Int)) k0 p3)) p2) (.ref a) (.ref s4.heap.objs.size)) (EP X pins σ Q) X.xe { s4 with heap := s4.heap.push { cls := .type "slice", data := .fields #[vl, vu, .int (c : Int) tk] } }
  exact tail_any (ops := [.ref a, .ref s4.heap.objs.size]) ht hT hg (by with_unfolding_all rfl)
end Fb
/-! ### ones below a place, by turns -/
namespace Fb
open PySem L2
def gapS (l : List Int) (j : Nat) : Int := ((List.range j).map fun k => l.getD (2 * k + 1) 0 - l.getD (2 * k) 0).sum
def lensS (l : List Int) : Int := gapS l (l.length / 2)
theorem gap_succ (l : List Int) (j : Nat) : gapS l (j + 1) = gapS l j + (l.getD (2 * j + 1) 0 - l.getD (2 * j) 0) := by
  unfold gapS
  rw [List.range_succ, List.map_append, List.sum_append, List.map_singleton]
  simp
theorem lens_take {l : List Int} {m : Nat} (h : m ≤ l.length) : lensS (l.take m) = gapS l (m / 2) := by
  unfold lensS gapS
  rw [List.length_take, Nat.min_eq_left h]
  congr 1
  refine List.map_congr_left fun k hk => ?_
  have hk := List.mem_range.mp hk
  have g : ∀ i, i < m → (l.take m).getD i 0 = l.getD i 0 := fun i hi => by
    rw [List.getD_eq_getElem?_getD, List.getD_eq_getElem?_getD, List.getElem?_take_of_lt hi]
  rw [g _ (by omega), g _ (by omega)]
def onesU (l : List Int) (p : Int) : Int := lensS (l.take (clt l p)) + if clt l p % 2 = 1 then p - l.getD (clt l p - 1) 0 else 0
def bcn (z : Int) (p : Nat) : Nat := ((List.range p).filter fun q => decide (Bt q z = 1)).length
theorem bcn_succ (z : Int) (p : Nat) : bcn z (p + 1) = bcn z p + if Bt p z = 1 then 1 else 0 := by
  unfold bcn
  rw [List.range_succ, List.filter_append, List.length_append]
  by_cases h : Bt p z = 1
  · rw [List.filter_cons_of_pos (by simpa using h), if_pos h]; rfl
  · rw [List.filter_cons_of_neg (by simpa using h), if_neg h]; rfl
theorem bcn_le (z : Int) (p : Nat) : bcn z p ≤ p := by
  have := List.length_filter_le (fun q => decide (Bt q z = 1)) (List.range p)
  rw [List.length_range] at this
  exact this
theorem bcn_not (z : Int) : ∀ p : Nat, (bcn (-z - 1) p : Int) = (p : Int) - bcn z p
  | 0 => rfl
  | p + 1 => by
    have ih := bcn_not z p
    have hn := bt_not p z
    rw [bcn_succ, bcn_succ]
    rcases bt_01 p z with h | h
    · rw [if_pos (by omega), if_neg (by omega)]; omega
    · rw [if_neg (by omega), if_pos h]; omega
theorem clt_next (l : List Int) (p : Int) : clt l (p + 1) = cnt l p := by
  unfold clt cnt
  congr 1
  refine List.filter_congr fun t _ => ?_
  exact decide_eq_decide.mpr (by omega)
theorem ones_bcn (z : Int) : ∀ p : Nat, onesU (Tl z) (p : Int) = bcn z p
  | 0 => by
    have e : clt (Tl z) ((0 : Nat) : Int) = 0 := clt_zero fun t ht => tl_pos z t ht
    unfold onesU
    rw [e, if_neg (by decide)]
    simp [lensS, gapS, bcn]
  | p + 1 => by
    have ih := ones_bcn z p
    obtain ⟨s1, _, _, s4⟩ := split3 (p : Int) (tl_asc z)
    have hc := clt_le (Tl z) (p : Int)
    have hc2 := clt_le (Tl z) ((p : Int) + 1)
    have hb := bt_tl p z
    rw [bcn_succ]
    have en : (((p + 1 : Nat) : Nat) : Int) = (p : Int) + 1 := by omega
    rw [en]
    unfold onesU at ih ⊢
    rw [lens_take hc] at ih
    rw [lens_take hc2]
    rw [clt_next] at hc2 ⊢
    generalize hm : clt (Tl z) (p : Int) = m at *
    by_cases hp : (p : Int) ∈ Tl z
    · rw [if_pos hp] at s4
      have hg : (Tl z).getD m 0 = p := by
        have lt : ((Tl z).take m).length = m := by rw [List.length_take]; omega
        rw [s1, if_pos hp, List.getD_eq_getElem?_getD, List.getElem?_append_right (by omega), lt, Nat.sub_self]
        rfl
      rw [s4] at hb ⊢
      by_cases o : m % 2 = 1
      · have e1 : (m + 1) / 2 = m / 2 + 1 := by omega
        rw [if_pos o] at ih
        rw [if_neg (by omega), if_neg (by omega), e1, gap_succ, show 2 * (m / 2) + 1 = m by omega, show 2 * (m / 2) = m - 1 by omega, hg]
        omega
      · have e1 : (m + 1) / 2 = m / 2 := by omega
        rw [if_neg o] at ih
        rw [if_pos (by omega), if_pos (by omega), e1, show m + 1 - 1 = m by omega, hg]
        omega
    · rw [if_neg hp, Nat.add_zero] at s4
      rw [s4] at hb ⊢
      by_cases o : m % 2 = 1
      · rw [if_pos o] at ih
        rw [if_pos o, if_pos (by omega)]
        omega
      · rw [if_neg o] at ih
        rw [if_neg o, if_neg (by omega)]
        omega
/-! ### the slices that are summed -/
theorem pick_map {l : List Int} {N i : Nat} (h : ∀ k, k < N → i + k * 2 < l.length) : ((List.range N).filterMap fun k => l[i + k * 2]?) = (List.range N).map fun k => l.getD (i + k * 2) 0 := by
  induction N with
  | zero => rfl
  | succ N ih =>
    rw [List.range_succ, List.filterMap_append, List.map_append, ih fun k hk => h k (by omega)]
    congr 1
    have := h N (by omega)
    simp [List.getElem?_eq_getElem this]
theorem sum_gaps : ∀ (N : Nat) (f g : Nat → Int), ((List.range N).map f).sum - ((List.range N).map g).sum = ((List.range N).map fun k => f k - g k).sum
  | 0, _, _ => rfl
  | N + 1, f, g => by
    have ih := sum_gaps N f g
    rw [List.range_succ, List.map_append, List.map_append, List.map_append, List.sum_append, List.sum_append, List.sum_append]
    simp only [List.map_singleton, List.sum_singleton]
    omega
theorem picks_lens (l : List Int) : (HT.pickS l (some 1) none 2).sum - (HT.pickS l none (some ((l.length : Int) - 1)) 2).sum = lensS l := by
  have n1 : HT.sNum (HT.sIx l.length 0 (some 1)) (HT.sIx l.length l.length none) 2 = l.length / 2 := by
    have : HT.sIx l.length 0 (some 1) = min 1 l.length := HT.sIx_nat l.length 0 1
    rw [this]
    show (if min 1 l.length < l.length then (l.length - min 1 l.length - 1) / 2 + 1 else 0) = _
    split <;> omega
  have h2 : HT.sIx l.length l.length (some ((l.length : Int) - 1)) = l.length - 1 := by
    show (if (l.length : Int) - 1 < 0 then ((l.length : Int) - 1 + (l.length : Int)).toNat else min ((l.length : Int) - 1).toNat l.length) = _
    split <;> omega
  have n2 : HT.sNum (HT.sIx l.length 0 none) (HT.sIx l.length l.length (some ((l.length : Int) - 1))) 2 = l.length / 2 := by
    rw [h2]
    show (if 0 < l.length - 1 then (l.length - 1 - 0 - 1) / 2 + 1 else 0) = _
    split <;> omega
  unfold HT.pickS lensS gapS
  rw [n1, n2]
  have i1 : l.length / 2 = 0 ∨ HT.sIx l.length 0 (some 1) = 1 := by
    have : HT.sIx l.length 0 (some 1) = min 1 l.length := HT.sIx_nat l.length 0 1
    omega
  rcases i1 with i1 | i1
  · rw [i1]; rfl
  · rw [i1, pick_map (fun k hk => by omega), pick_map (i := HT.sIx l.length 0 none) (fun k hk => by show 0 + k * 2 < l.length; omega), sum_gaps]
    congr 1
    refine List.map_congr_left fun k _ => ?_
    show l.getD (1 + k * 2) 0 - l.getD (0 + k * 2) 0 = _
    rw [show 1 + k * 2 = 2 * k + 1 by omega, show 0 + k * 2 = 2 * k by omega]
theorem pickS_map (l : List Int) (lo hi : Option Int) (c : Nat) : HT.pickS (l.map V.int) lo hi c = (HT.pickS l lo hi c).map V.int := by
  unfold HT.pickS
  rw [List.length_map, List.map_filterMap]
  refine congrArg (fun f => List.filterMap f _) (funext fun k => ?_)
  rw [List.getElem?_map]
/-- how large such a sum is -/
theorem gap_bd {l : List Int} {B : Int} (h : ∀ t ∈ l, 0 ≤ t ∧ t ≤ B) (hB : 0 ≤ B) : ∀ j : Nat, -((j : Int) * B) ≤ gapS l j ∧ gapS l j ≤ (j : Int) * B
  | 0 => by
    have : gapS l 0 = 0 := rfl
    rw [this]
    simp
  | j + 1 => by
    obtain ⟨h1, h2⟩ := gap_bd h hB j
    rw [gap_succ]
    have g : ∀ i, 0 ≤ l.getD i 0 ∧ l.getD i 0 ≤ B := fun i => by
      rw [List.getD_eq_getElem?_getD]
      by_cases hi : i < l.length
      · rw [List.getElem?_eq_getElem hi]
        exact h _ (List.getElem_mem hi)
      · rw [List.getElem?_eq_none (by omega)]
        exact ⟨Int.le_refl 0, hB⟩
    have g1 := g (2 * j + 1)
    have g2 := g (2 * j)
    have e : ((j + 1 : Nat) : Int) * B = (j : Int) * B + B := by rw [Int.natCast_add, Int.add_mul]; simp
    rw [e]
    omega
theorem sum_bd {B : Int} (hB : 0 ≤ B) : ∀ l : List Int, (∀ t ∈ l, 0 ≤ t ∧ t ≤ B) → 0 ≤ l.sum ∧ l.sum ≤ (l.length : Int) * B
  | [], _ => by simp
  | a :: l, h => by
    obtain ⟨h1, h2⟩ := sum_bd hB l fun t ht => h t (List.mem_cons_of_mem _ ht)
    have := h a List.mem_cons_self
    rw [List.sum_cons, List.length_cons, Int.natCast_add, Int.add_mul]
    simp
    omega
end Fb
namespace Fb
open PySem L2
/-! ### ints of few bits -/
def Wz (z : Int) : Prop := ∀ t ∈ Tl z, t ≤ 1500
theorem wz_of {k : Nat} (hk : k ≤ 1500) {z : Int} (h0 : -(2 ^ k) ≤ z) (h1 : z < 2 ^ k) : Wz z := fun t ht => by
  obtain ⟨p, hp, rfl⟩ := List.mem_map.mp ht
  have := turns_lt h0 h1 p hp
  show ((p : Nat) : Int) ≤ 1500
  omega
theorem Wz.bits {z : Int} (h : Wz z) : -(2 ^ 1501) ≤ z ∧ z < 2 ^ 1501 := by
  have b := alt_lt (s := -1) (.inr rfl) (n := 1501) (turns_asc z) fun p hp => by
    have := h ((p : Nat) : Int) (List.mem_map.mpr ⟨p, hp, rfl⟩)
    omega
  rw [turns_alt] at b
  exact ⟨by omega, by omega⟩
theorem Wz.len {z : Int} (h : Wz z) : (Tl z).length ≤ 1502 := by
  unfold Tl
  rw [len_zs]
  exact turns_len h.bits.1 h.bits.2
theorem Wz.not {z : Int} (h : Wz z) : Wz (-z - 1) := fun t ht => by
  rcases not_mem ht with k | k
  · omega
  · exact h t k
structure WF (z : Int) : Prop where
  inb : InB z
  eq : formD z = gU 1 z
  uu : UU 8500 1 z
  num : Num (gU 0) (SU 8500 0) z
  fit : FitD 1 (gU 1 z)
theorem sz_ints1 : ∀ ns : List Nat, sz 1 (.tuple (nD ns)) = 1 + ns.length := fun ns => by
  show 1 + ((nD ns).map (sz 0)).sum = _
  have : ((nD ns).map (sz 0)).sum = ns.length := by
    induction ns with
    | nil => rfl
    | cons a r ih =>
      show sz 0 (.int (a : Int)) + ((nD r).map (sz 0)).sum = _
      rw [ih, sz_int, List.length_cons]
      omega
  rw [this]
theorem Wz.wf {z : Int} (h : Wz z) : WF z := by
  have l := h.len
  have b := h.bits
  have u1 : UU 8500 1 z := ⟨by omega, fun t ht => ⟨by have := tl_pos z t ht; omega, by have := h t ht; omega⟩⟩
  have e : formD z = gU 1 z := formD_num (by have := u1.1; omega)
  obtain ⟨hh, g⟩ := gU_gd (L := 8500) (n := 1) (by decide) u1
  have g5 := gd_form (n := 0) (x := z) (by have := p_le (show 1501 ≤ 2000 by decide); omega) (by have := p_le (show 1501 ≤ 2000 by decide); omega)
  refine ⟨InB.of b.1 b.2 (by decide), e, u1, uu_num (by decide) u1, ⟨g.fm, g.sp, ?_, ?_⟩⟩
  · rw [← e]
    unfold formD
    split
    · rw [sz_int]; decide
    · rw [sz_ints1]
      have := turns_len b.1 b.2
      omega
  · rw [lv_ht _ _ g.sp, ← e, g5.ht]
    unfold hI
    split <;> decide
theorem Wz.place {p : Int} (h0 : 0 ≤ p) (h1 : p ≤ 100000) : Wz p ∧ plain p ∧ gU 1 p = .int p ∧ SU 8500 0 p := by
  have pl : plain p := ⟨by omega, by omega⟩
  exact ⟨wz_of (k := 64) (by decide) pl.1 pl.2, pl, gU_plain pl, h0, pl⟩
theorem Has.mono {P : Program} {w : World} {K : PySem.W.Frag} {mg : Str → Option Value} {base : Heap} {x : Str} {ps : List Str} {dvs : List V} {j k : Nat} {sp : Sp} (C : Has P w K mg base j x ps dvs sp) (h : j ≤ k) : Has P w K mg base k x ps dvs sp := by
  obtain ⟨f, fd, ds, F, r⟩ := C.ex
  exact ⟨f, fd, ds, F.mono h, r⟩
theorem pls_ints {K : PySem.W.Frag} {H : Hp} {a : Addr} {l : List Int} (h : Pls K H PyData.int a l) : Sq K H a (l.map V.int) := by
  obtain ⟨vs, s, d⟩ := h.ex
  have : ∀ (l : List Int) (vs : List V), DpAll K H vs (l.map PyData.int) → vs = l.map V.int := fun l => by
    induction l with
    | nil => intro vs d; cases d; rfl
    | cons x l ih =>
      intro vs d
      cases d with
      | cons h1 h2 =>
        cases h1
        rw [ih _ h2]
        rfl
  rw [← this l vs d]
  exact s
theorem dps_int {K : PySem.W.Frag} {H : Hp} : ∀ l : List Int, DpAll K H (l.map V.int) (l.map PyData.int)
  | [] => .nil
  | x :: l => .cons (.int x) (dps_int l)
theorem ints_pls {K : PySem.W.Frag} {H : Hp} {a : Addr} {l : List Int} (h : Sq K H a (l.map V.int)) : Pls K H PyData.int a l := ⟨_, h, dps_int l⟩
theorem last_int {ini : List Int} {t : Int} : atI ((ini ++ [t]).map V.int) (-1) = some (.int t) := by
  have d := dps_int (K := Inhabited.default) (H := fun _ => none) (ini ++ [t])
  rw [List.map_append (f := PyData.int)] at d
  obtain ⟨x, hx, dx⟩ := dps_last d
  cases dx
  exact hx
theorem getD_at {l : List Int} {i : Nat} (h : i < l.length) : atI (l.map V.int) (i : Int) = some (.int (l.getD i 0)) := by
  refine atI_nat ?_
  rw [List.getElem?_map, List.getD_eq_getElem?_getD, List.getElem?_eq_getElem h]
  rfl
theorem sgn_zero {x y : Int} (h : sgnI x y = 0) : x = y := by
  unfold sgnI at h
  split at h
  · omega
  · split at h <;> omega
theorem gU_inj {x y : Int} (hx : WF x) (hy : WF y) : gU 1 x = gU 1 y ↔ x = y := by
  refine ⟨fun e => ?_, fun e => by rw [e]⟩
  have h1 := num_ord (oU 0) hx.num hy.num
  have h2 := num_ord (oU 0) hy.num hy.num
  have e' : numD (gU 0) x = numD (gU 0) y := e
  rw [e', h2] at h1
  refine sgn_zero ?_
  rw [← h1]
  unfold sgnI
  rw [if_pos rfl]
theorem Wz.xor {x y : Int} (hx : Wz x) (hy : Wz y) : Wz (Builtin.bitXor x y) := fun t h => (xor_mem h).elim (hx t) (hy t)
end Fb
/-! ### how many integers have a one at a place -/
namespace Fb
open PySem L2
/-- how many from 0 on and below x (for a negative x: the negative of how many from x on) -/
def nOn (x : Int) (p : Nat) : Int := x / 2 ^ (p + 1) * 2 ^ p + if Bt p x = 1 then x - x / 2 ^ p * 2 ^ p else 0
theorem nOn_split {p : Nat} {q r : Int} (r0 : 0 ≤ r) (r1 : r < 2 ^ (p + 1)) : nOn (2 ^ (p + 1) * q + r) p = 2 ^ p * q + (if 2 ^ p ≤ r then r - 2 ^ p else 0) ∧ (Bt p (2 ^ (p + 1) * q + r) = 1 ↔ 2 ^ p ≤ r) := by
  have pp : (0 : Int) < 2 ^ p := Int.pow_pos (by decide)
  have e2 : (2 : Int) ^ (p + 1) = 2 * 2 ^ p := by rw [Int.pow_succ, Int.mul_comm]
  generalize hT : (2 : Int) ^ p = T at *
  rw [e2] at r1
  have d1 : (2 * T * q + r) / (2 * T) = q := by
    rw [Int.add_comm, Int.add_mul_ediv_left _ _ (by omega), Int.ediv_eq_zero_of_lt r0 r1]; omega
  have d2 : (2 * T * q + r) / T = 2 * q + if T ≤ r then 1 else 0 := by
    rw [show 2 * T * q + r = r + T * (2 * q) by rw [Int.mul_comm 2 T, Int.mul_assoc]; omega, Int.add_mul_ediv_left _ _ (by omega)]
    split
    · rw [show r = (r - T) + T * 1 by omega, Int.add_mul_ediv_left _ _ (by omega), Int.ediv_eq_zero_of_lt (by omega) (by omega)]; omega
    · rw [Int.ediv_eq_zero_of_lt (by omega) (by omega)]; omega
  have hb : Bt p (2 * T * q + r) = if T ≤ r then 1 else 0 := by
    unfold Bt
    rw [hT, d2]
    split <;> omega
  have mq : 2 * T * q = T * q + T * q := by rw [Int.mul_assoc, Int.two_mul]
  have m2 : (2 * q + 1) * T = T * q + T * q + T := by rw [Int.add_mul, Int.mul_assoc, Int.mul_comm q T, Int.two_mul]; omega
  refine ⟨?_, ?_⟩
  · unfold nOn
    rw [e2, hT, d1, hb, d2, Int.mul_comm q T]
    by_cases c : T ≤ r
    · simp only [if_pos c, if_true]
      omega
    · simp only [if_neg c]
      omega
  · rw [e2, hb]
    split <;> omega
theorem nOn_at (x : Int) (p : Nat) : ∃ q r : Int, x = 2 ^ (p + 1) * q + r ∧ 0 ≤ r ∧ r < 2 ^ (p + 1) := by
  have pp : (0 : Int) < 2 ^ (p + 1) := Int.pow_pos (by decide)
  exact ⟨x / 2 ^ (p + 1), x % 2 ^ (p + 1), (Int.mul_ediv_add_emod x _).symm, Int.emod_nonneg _ (by omega), Int.emod_lt_of_pos _ pp⟩
theorem nOn_step (x : Int) (p : Nat) : nOn (x + 1) p = nOn x p + Bt p x := by
  obtain ⟨q, r, rfl, r0, r1⟩ := nOn_at x p
  have pp : (0 : Int) < 2 ^ p := Int.pow_pos (by decide)
  have e2 : (2 : Int) ^ (p + 1) = 2 * 2 ^ p := by rw [Int.pow_succ, Int.mul_comm]
  obtain ⟨h1, h2⟩ := nOn_split (q := q) r0 r1
  have b := bt_01 p (2 ^ (p + 1) * q + r)
  rw [h1]
  by_cases c : r + 1 < 2 ^ (p + 1)
  · obtain ⟨h3, _⟩ := nOn_split (p := p) (q := q) (r := r + 1) (by omega) c
    rw [Int.add_assoc, h3]
    split <;> split <;> omega
  · have e : 2 ^ (p + 1) * q + r + 1 = 2 ^ (p + 1) * (q + 1) + 0 := by rw [Int.mul_add, Int.mul_one]; omega
    obtain ⟨h3, _⟩ := nOn_split (p := p) (q := q + 1) (r := 0) (by omega) (by omega)
    rw [e, h3, Int.mul_add, Int.mul_one]
    split <;> split <;> omega
/-- one block further on: half of its numbers more -/
theorem nOn_move (x m : Int) (p : Nat) : nOn (x + 2 ^ (p + 1) * m) p = nOn x p + 2 ^ p * m := by
  obtain ⟨q, r, rfl, r0, r1⟩ := nOn_at x p
  rw [show 2 ^ (p + 1) * q + r + 2 ^ (p + 1) * m = 2 ^ (p + 1) * (q + m) + r by rw [Int.mul_add]; omega, (nOn_split r0 r1).1, (nOn_split r0 r1).1, Int.mul_add]
  omega
/-- the count by a list -/
theorem nOn_list (x : Int) (p : Nat) : ∀ n : Nat, nOn (x + n) p - nOn x p = (((List.range n).filter fun (i : Nat) => decide (Bt p (x + (i : Int)) = 1)).length : Int)
  | 0 => by simp
  | n + 1 => by
    have ih := nOn_list x p n
    have st := nOn_step (x + n) p
    have b := bt_01 p (x + n)
    rw [List.range_succ, List.filter_append, List.length_append, show x + ((n + 1 : Nat) : Int) = x + n + 1 by omega, st]
    by_cases h : Bt p (x + (n : Int)) = 1
    · rw [List.filter_cons_of_pos (by simpa using h)]
      show _ = ((_ + 1 : Nat) : Int)
      omega
    · rw [List.filter_cons_of_neg (by simpa using h)]
      show _ = ((_ + 0 : Nat) : Int)
      omega
end Fb
namespace Fb
open PySem L2
/-- an int as it is, or a wide form -/
inductive IFV (K : PySem.W.Frag) (H : Hp) : V → Int → Prop where
  | int (z : Int) : IFV K H (.int z) z
  | tup {a : Addr} {z : Int} (d : Dp K H (.ref a) (gU 1 z)) : IFV K H (.ref a) z
theorem IFV.same {K : PySem.W.Frag} {H H' : Hp} {v : V} {z : Int} (h : IFV K H v z) (e : Same H H') : IFV K H' v z := by
  cases h with
  | int z => exact .int z
  | tup d => exact .tup ((Nd.of e).d d)
theorem ifv_of {K : PySem.W.Frag} {H : Hp} {v : V} {z : Int} (W : WF z) (d : Dp K H v (gU 1 z)) : IFV K H v z := by
  rcases num_cases (oU 0) W.num with ⟨_, e, _⟩ | ⟨_, e, _⟩
  · rw [show gU 1 z = numD (gU 0) z from rfl, e] at d
    cases d
    exact .int z
  · have d' := d
    rw [show gU 1 z = numD (gU 0) z from rfl, e] at d
    cases d with
    | tup hs ha => exact .tup d'
section
variable {P : Program} {w : World} {K : PySem.W.Frag} {mg : Str → Option Value} {base : Heap} {f : Addr} {fd : FuncData} {C_Far C_Sound : Addr}
def spIofm (K : PySem.W.Frag) (C_Far : Addr) : Sp := fun vs H Q _ => ∃ (v : V) (z : Int), vs = [v] ∧ NumV K C_Far 1 H v z ∧ WF z ∧ ∀ u, IFV K H u z → Q u H
def spNear1 (K : PySem.W.Frag) : Sp := fun vs H Q _ => ∃ (v : V) (z : Int), vs = [v] ∧ IFV K H v z ∧ Wz z ∧ ∀ H', Same H H' → Q (.int z) H'
theorem bits_le {y : Int} (h0 : -(2 ^ 1401) ≤ y) (h1 : y ≤ 2 ^ 1401) : (Builtin.Int.intBits y : Int) ≤ 600002 := by
  have := intBits_le (InB.of (n := 1402) (x := y) (by have : (2 : Int) ^ 1401 ≤ 2 ^ 1402 := p_le (by decide); omega) (by have : (2 : Int) ^ 1401 * 2 = 2 ^ 1402 := rfl; have : (0 : Int) < 2 ^ 1401 := Int.pow_pos (by decide); omega) (by decide))
  omega
def spNU (K : PySem.W.Frag) : Sp := fun vs H Q _ => ∃ (x : Int) (p : Nat), vs = [.int x, .int (p : Int)] ∧ -(2 ^ 1400) ≤ x ∧ x ≤ 2 ^ 1400 ∧ p ≤ 1500 ∧ Q (.int (nOn x p)) H
/-- two ints, or two forms -/
inductive BV (K : PySem.W.Frag) (H : Hp) : V → V → Int → Int → Prop where
  | raw (x y : Int) : BV K H (.int x) (.int y) x y
  | frms {u v : V} {x y : Int} (h1 : Dp K H u (gU 1 x)) (h2 : Dp K H v (gU 1 y)) : BV K H u v x y
theorem BV.same {K : PySem.W.Frag} {H H' : Hp} {u v : V} {x y : Int} (h : BV K H u v x y) (e : Same H H') : BV K H' u v x y := by
  cases h with
  | raw => exact .raw _ _
  | frms h1 h2 => exact .frms ((Nd.of e).d h1) ((Nd.of e).d h2)
theorem isI_ref {H : Hp} {a : Addr} {d : PyData} (h : Dp K H (.ref a) d) : isI d = false := by
  cases h <;> rfl
def spBoth (K : PySem.W.Frag) (C_Far : Addr) : Sp := fun vs H Q _ => ∃ (a b : V) (x y : Int), vs = [a, b] ∧ NumV K C_Far 1 H a x ∧ NumV K C_Far 1 H b y ∧ WF x ∧ WF y ∧ ∀ (t : Addr) (u v : V) (H' : Hp), Same H H' → H' t = some (.tup [u, v]) → BV K H' u v x y → Q (.ref t) H'
def spHav (K : PySem.W.Frag) : Sp := fun vs H Q _ => ∃ (u v : V) (x y : Int) (p : Nat), vs = [u, v, .int (p : Int)] ∧ BV K H u v x y ∧ Wz x ∧ Wz y ∧ (-(2 ^ 1400) ≤ x ∧ x ≤ 2 ^ 1400) ∧ (-(2 ^ 1400) ≤ y ∧ y ≤ 2 ^ 1400) ∧ p ≤ 1500 ∧ WF (nOn y p - nOn x p) ∧ ∀ (r : V) (H' : Hp), Same H H' → Dp K H' r (gU 1 (nOn y p - nOn x p)) → Q r H'
theorem sgn_le {x y : Int} (h : x ≤ y) : sgnI x y ≤ 0 := by
  unfold sgnI
  split
  · omega
  · rw [if_pos (by omega)]; omega
/-- how many integers from x on, below y, have a one at place p -/
def spHold (K : PySem.W.Frag) (C_Far : Addr) : Sp := fun vs H Q _ => ∃ (a b c : V) (x y : Int) (p : Nat), vs = [a, b, c] ∧ NumV K C_Far 1 H a x ∧ NumV K C_Far 1 H b y ∧ NumV K C_Far 1 H c (p : Int) ∧ Wz x ∧ Wz y ∧ (-(2 ^ 1400) ≤ x ∧ x ≤ 2 ^ 1400) ∧ (-(2 ^ 1400) ≤ y ∧ y ≤ 2 ^ 1400) ∧ p ≤ 1500 ∧ x ≤ y ∧ WF (nOn y p - nOn x p) ∧
  ∀ (r : Addr) (H' : Hp), Same H H' → FarO K C_Far 1 H' r (nOn y p - nOn x p) → Q (.ref r) H'
end
end Fb
/-! ### the place of the one with a number -/
namespace Fb
open PySem L2
theorem cnt_of {l : List Int} {i : Nat} {p : Int} (hi : i ≤ l.length) (h1 : ∀ t ∈ l.take i, t ≤ p) (h2 : ∀ t ∈ l.drop i, p < t) : cnt l p = i := by
  unfold cnt
  rw [← List.take_append_drop i l, List.filter_append, List.length_append, List.filter_eq_self.mpr (fun t ht => by simpa using h1 t ht), List.filter_eq_nil_iff.mpr (fun t ht => by have := h2 t ht; simp; omega), List.length_take]
  simp
  omega
theorem clt_of {l : List Int} {i : Nat} {p : Int} (hi : i ≤ l.length) (h1 : ∀ t ∈ l.take i, t < p) (h2 : ∀ t ∈ l.drop i, p ≤ t) : clt l p = i := by
  unfold clt
  rw [← List.take_append_drop i l, List.filter_append, List.length_append, List.filter_eq_self.mpr (fun t ht => by simpa using h1 t ht), List.filter_eq_nil_iff.mpr (fun t ht => by have := h2 t ht; simp; omega), List.length_take]
  simp
  omega
theorem asc_ix {l : List Int} (asc : l.Pairwise (· < ·)) {i : Nat} (hi : i < l.length) : (∀ t ∈ l.take i, t < l.getD i 0) ∧ (∀ t ∈ l.drop (i + 1), l.getD i 0 < t) ∧ l.drop i = l.getD i 0 :: l.drop (i + 1) := by
  have e : l.drop i = l.getD i 0 :: l.drop (i + 1) := by
    rw [List.getD_eq_getElem?_getD, List.getElem?_eq_getElem hi]
    exact List.drop_eq_getElem_cons hi
  have asc' := asc
  rw [← List.take_append_drop i l, e] at asc'
  obtain ⟨_, a2, a3⟩ := List.pairwise_append.mp asc'
  exact ⟨fun t ht => a3 t ht _ List.mem_cons_self, (List.pairwise_cons.mp a2).1, e⟩
def KthOk (z r : Int) : Option Int → Prop
  | none => ∀ q : Nat, (bcn z q : Int) ≤ r
  | some t => ∃ q : Nat, t = (q : Int) ∧ Bt q z = 1 ∧ (bcn z q : Int) = r
theorem kth_seg {z r : Int} {j : Nat} (hj : 2 * j < (Tl z).length) (g : gapS (Tl z) j ≤ r) (h2 : ∀ t ∈ (Tl z).drop (2 * j + 1), (Tl z).getD (2 * j) 0 + (r - gapS (Tl z) j) < t) : KthOk z r (some ((Tl z).getD (2 * j) 0 + (r - gapS (Tl z) j))) := by
  obtain ⟨a1, a2, a3⟩ := asc_ix (tl_asc z) hj
  have a0 : 0 ≤ (Tl z).getD (2 * j) 0 := by
    rw [List.getD_eq_getElem?_getD, List.getElem?_eq_getElem hj]
    exact tl_pos z _ (List.getElem_mem hj)
  generalize ha : (Tl z).getD (2 * j) 0 = a at *
  obtain ⟨q, hq⟩ : ∃ q : Nat, a + (r - gapS (Tl z) j) = (q : Int) := ⟨(a + (r - gapS (Tl z) j)).toNat, by omega⟩
  have tk : ∀ t ∈ (Tl z).take (2 * j + 1), t ≤ a := fun t ht => by
    rw [List.take_add_one, List.mem_append] at ht
    rcases ht with h | h
    · exact Int.le_of_lt (a1 t h)
    · rw [List.getElem?_eq_getElem hj] at h
      have : t = (Tl z)[2 * j] := by simpa using h
      rw [this, ← ha, List.getD_eq_getElem?_getD, List.getElem?_eq_getElem hj]
      exact Int.le_refl _
  have c : cnt (Tl z) (q : Int) = 2 * j + 1 := cnt_of (by omega) (fun t ht => by have := tk t ht; omega) (fun t ht => by have := h2 t ht; omega)
  refine ⟨q, hq, ?_, ?_⟩
  · have := bt_tl q z
    rw [c] at this
    omega
  · rw [← ones_bcn z q]
    unfold onesU
    by_cases e : (q : Int) = a
    · have cl : clt (Tl z) (q : Int) = 2 * j := clt_of (by omega) (fun t ht => by have := a1 t ht; omega) (fun t ht => by
        rw [a3] at ht
        rcases List.mem_cons.mp ht with h | h
        · omega
        · have := a2 t h; omega)
      rw [cl, lens_take (by omega), show 2 * j / 2 = j by omega, if_neg (by omega)]
      omega
    · have cl : clt (Tl z) (q : Int) = 2 * j + 1 := clt_of (by omega) (fun t ht => by have := tk t ht; omega) (fun t ht => by have := h2 t ht; omega)
      rw [cl, lens_take (by omega), show (2 * j + 1) / 2 = j by omega, if_pos (by omega), show 2 * j + 1 - 1 = 2 * j by omega, ha]
      omega
theorem kth_in {z r : Int} {j : Nat} (hj : 2 * j + 1 < (Tl z).length) (g : gapS (Tl z) j ≤ r) (lt : r - gapS (Tl z) j < (Tl z).getD (2 * j + 1) 0 - (Tl z).getD (2 * j) 0) : KthOk z r (some ((Tl z).getD (2 * j) 0 + (r - gapS (Tl z) j))) := by
  refine kth_seg (by omega) g fun t ht => ?_
  obtain ⟨_, b2, b3⟩ := asc_ix (tl_asc z) hj
  rw [b3] at ht
  rcases List.mem_cons.mp ht with h | h
  · omega
  · have := b2 t h; omega
theorem kth_odd {z r : Int} {j : Nat} (hj : (Tl z).length = 2 * j + 1) (g : gapS (Tl z) j ≤ r) : KthOk z r (some ((Tl z).getD (2 * j) 0 + (r - gapS (Tl z) j))) := by
  refine kth_seg (by omega) g fun t ht => ?_
  rw [List.drop_of_length_le (by omega)] at ht
  cases ht
theorem bcn_mono (z : Int) {p q : Nat} (h : p ≤ q) : bcn z p ≤ bcn z q := by
  induction h with
  | refl => exact Nat.le_refl _
  | step h ih => rw [bcn_succ]; omega
theorem kth_none {z r : Int} {j : Nat} (hj : (Tl z).length = 2 * j) (g : gapS (Tl z) j ≤ r) : KthOk z r none := fun q => by
  -- beyond all turns
  obtain ⟨B, hB⟩ : ∃ B : Nat, ∀ t ∈ Tl z, t < (B : Int) := by
    clear hj
    induction Tl z with
    | nil => exact ⟨0, fun t ht => by cases ht⟩
    | cons x l ih =>
      obtain ⟨B, hB⟩ := ih
      refine ⟨max B (x.toNat + 1), fun t ht => ?_⟩
      rcases List.mem_cons.mp ht with rfl | h
      · omega
      · have := hB t h; omega
  have m := bcn_mono z (show q ≤ max q B by omega)
  have e := ones_bcn z (max q B)
  have cl : clt (Tl z) ((max q B : Nat) : Int) = 2 * j := clt_of (by omega) (fun t ht => by have := hB t (List.mem_of_mem_take ht); omega) (fun t ht => by rw [List.drop_of_length_le (by omega)] at ht; cases ht)
  unfold onesU at e
  rw [cl, lens_take (by omega), show 2 * j / 2 = j by omega, if_neg (by omega)] at e
  omega
/-- the places of the ones below a place -/
def onesL (z : Int) (p : Nat) : List Int := ((List.range p).filter fun q => decide (Bt q z = 1)).map fun (q : Nat) => (q : Int)
theorem onesL_len (z : Int) (p : Nat) : (onesL z p).length = bcn z p := by unfold onesL bcn; rw [List.length_map]
theorem onesL_succ (z : Int) (p : Nat) : onesL z (p + 1) = onesL z p ++ (if Bt p z = 1 then [(p : Int)] else []) := by
  unfold onesL
  rw [List.range_succ, List.filter_append, List.map_append]
  by_cases h : Bt p z = 1
  · rw [if_pos h, List.filter_cons_of_pos (by simpa using h)]; rfl
  · rw [if_neg h, List.filter_cons_of_neg (by simpa using h)]; rfl
theorem onesL_at {z : Int} {q : Nat} (hb : Bt q z = 1) : ∀ {p : Nat}, q < p → (onesL z p)[bcn z q]? = some (q : Int)
  | p + 1, h => by
    rw [onesL_succ]
    by_cases e : q = p
    · subst e
      rw [if_pos hb, List.getElem?_append_right (by rw [onesL_len]; exact Nat.le_refl _), onesL_len, Nat.sub_self]
      rfl
    · have ih := onesL_at hb (show q < p by omega)
      rw [List.getElem?_append_left]
      · exact ih
      · obtain ⟨h1, _⟩ := List.getElem?_eq_some_iff.mp ih
        exact h1
theorem bt_high {z : Int} {k : Nat} (h0 : -(2 ^ k) ≤ z) (h1 : z < 2 ^ k) {q : Nat} (hq : k ≤ q) : Bt q z = if z < 0 then 1 else 0 := by
  have pk : (2 : Int) ^ k ≤ 2 ^ q := p_le hq
  have pq : (0 : Int) < 2 ^ q := Int.pow_pos (by decide)
  unfold Bt
  split
  · rw [show z = (z + 2 ^ q) + 2 ^ q * (-1) by omega, Int.add_mul_ediv_left _ _ (by omega), Int.ediv_eq_zero_of_lt (by omega) (by omega)]
    rfl
  · rw [Int.ediv_eq_zero_of_lt (by omega) (by omega)]
    rfl
theorem bcn_high {z : Int} {k : Nat} (h0 : -(2 ^ k) ≤ z) (h1 : z < 2 ^ k) (hz : z < 0) : ∀ n : Nat, bcn z (k + n) = bcn z k + n
  | 0 => rfl
  | n + 1 => by
    have ih := bcn_high h0 h1 hz n
    have b := bt_high h0 h1 (q := k + n) (by omega)
    rw [if_pos hz] at b
    rw [← Nat.add_assoc, bcn_succ, if_pos b, ih]
    omega
/-- the place of a one of small number is small -/
theorem kth_small {z r : Int} {q : Nat} (h0 : -(2 ^ 600) ≤ z) (h1 : z < 2 ^ 600) (hr : r ≤ 300) (hb : Bt q z = 1) (hc : (bcn z q : Int) = r) : q < 1000 := by
  by_cases h : q < 1000
  · exact h
  · have b := bt_high h0 h1 (q := q) (by omega)
    have hz : z < 0 := by
      by_cases hz : z < 0
      · exact hz
      · rw [if_neg hz] at b; omega
    have e := bcn_high h0 h1 hz 400
    have m := bcn_mono z (show 600 + 400 ≤ q by omega)
    omega
end Fb
/-! ### the carries of a sum -/
namespace Fb
open PySem L2
/-- the carries of x + y -/
def carW (x y : Int) : Int := Builtin.bitXor (Builtin.bitXor (x + y) x) y
theorem bt_car (x y : Int) (p : Nat) : Bt p (carW x y) = cr x y 0 p := by
  have h := bt_add p x y 0 (.inl rfl)
  rw [Int.add_zero] at h
  have c := cr_01 (x := x) (y := y) (k := 0) (.inl rfl) p
  have bx := bt_01 p x
  have b2 := bt_01 p y
  unfold carW
  rw [bt_xor, bt_xor, h]
  omega
theorem carW_law (x y : Int) : Builtin.bitXor (Builtin.bitXor x y) (x + y) = carW x y := bt_ext fun p => by
  unfold carW
  rw [bt_xor, bt_xor, bt_xor, bt_xor]
  have bx := bt_01 p x
  have b2 := bt_01 p y
  have b3 := bt_01 p (x + y)
  omega
theorem carW_of {x y c : Int} (h : Builtin.bitXor (Builtin.bitXor x c) y = x + y) : c = carW x y := bt_ext fun p => by
  have e := congrArg (Bt p) h
  rw [bt_xor, bt_xor] at e
  unfold carW
  rw [bt_xor, bt_xor, ← e]
  have bx := bt_01 p x
  have b2 := bt_01 p y
  have b3 := bt_01 p c
  omega
theorem low_succ (z : Int) (n : Nat) : z % 2 ^ (n + 1) = z % 2 ^ n + Bt n z * 2 ^ n := by
  have p0 : (0 : Int) < 2 ^ n := Int.pow_pos (by decide)
  have e2 : (2 : Int) ^ (n + 1) = 2 ^ n * 2 := Int.pow_succ 2 n
  unfold Bt
  have h1 := Int.mul_ediv_add_emod z (2 ^ n)
  have h2 := Int.mul_ediv_add_emod (z / 2 ^ n) 2
  have r0 := Int.emod_nonneg z (show (2 : Int) ^ n ≠ 0 by omega)
  have r1 := Int.emod_lt_of_pos z p0
  have s0 : 0 ≤ z / 2 ^ n % 2 ∧ z / 2 ^ n % 2 < 2 := by omega
  have e : z = 2 ^ (n + 1) * (z / 2 ^ n / 2) + (z % 2 ^ n + z / 2 ^ n % 2 * 2 ^ n) := by
    rw [e2, Int.mul_assoc]
    have : 2 ^ n * (2 * (z / 2 ^ n / 2)) = 2 ^ n * (z / 2 ^ n) - z / 2 ^ n % 2 * 2 ^ n := by
      rw [show 2 * (z / 2 ^ n / 2) = z / 2 ^ n - z / 2 ^ n % 2 by omega, Int.mul_sub, Int.mul_comm (2 ^ n) (z / 2 ^ n % 2)]
    omega
  have lt : z % 2 ^ n + z / 2 ^ n % 2 * 2 ^ n < 2 ^ (n + 1) ∧ 0 ≤ z % 2 ^ n + z / 2 ^ n % 2 * 2 ^ n := by
    rcases (show z / 2 ^ n % 2 = 0 ∨ z / 2 ^ n % 2 = 1 by omega) with h | h
    · rw [h, Int.zero_mul]; omega
    · rw [h, Int.one_mul]; omega
  conv => lhs; rw [e]
  rw [Int.mul_add_emod_self_left, Int.emod_eq_of_lt lt.2 lt.1]
theorem bt_mask {p n : Nat} : Bt p ((2 : Int) ^ n - 1) = if p < n then 1 else 0 := by
  have p0 : (0 : Int) < 2 ^ n := Int.pow_pos (by decide)
  split
  · rename_i h
    rw [show (2 : Int) ^ n - 1 = -(-(2 ^ n)) - 1 by omega, bt_not]
    have e : -((2 : Int) ^ n) = 2 ^ p * (2 * -(2 ^ (n - p - 1))) := by
      rw [Int.mul_neg, Int.mul_neg, ← Int.mul_assoc, ← Int.pow_succ, ← Int.pow_add, show p + 1 + (n - p - 1) = n by omega]
    unfold Bt
    rw [e, Int.mul_ediv_cancel_left _ (by have : (0 : Int) < 2 ^ p := Int.pow_pos (by decide); omega)]
    omega
  · rename_i h
    have b := bt_high (z := (2 : Int) ^ n - 1) (k := n) (by omega) (by omega) (q := p) (by omega)
    rw [b, if_neg (by omega)]
theorem bt_low (z : Int) {p n : Nat} : Bt p (z % 2 ^ n) = if p < n then Bt p z else 0 := by
  have p0 : (0 : Int) < 2 ^ n := Int.pow_pos (by decide)
  have r0 := Int.emod_nonneg z (show (2 : Int) ^ n ≠ 0 by omega)
  have r1 := Int.emod_lt_of_pos z p0
  split
  · rename_i h
    have pp : (0 : Int) < 2 ^ p := Int.pow_pos (by decide)
    have e : z = z % 2 ^ n + 2 ^ p * (2 * (2 ^ (n - p - 1) * (z / 2 ^ n))) := by
      rw [← Int.mul_assoc, ← Int.mul_assoc, ← Int.pow_succ, ← Int.pow_add, show p + 1 + (n - p - 1) = n by omega, Int.add_comm]
      exact (Int.mul_ediv_add_emod z (2 ^ n)).symm
    unfold Bt
    conv => rhs; rw [e]
    rw [Int.add_mul_ediv_left _ _ (by omega)]
    omega
  · have b := bt_high (z := z % 2 ^ n) (k := n) (by omega) (by omega) (q := p) (by omega)
    rw [b, if_neg (by omega)]
theorem low_and (z : Int) (n : Nat) : Builtin.bitAnd z (2 ^ n - 1) = z % 2 ^ n := bt_ext fun p => by
  rw [bt_and, bt_mask, bt_low]
  split
  · rw [Int.mul_one]
  · rw [Int.mul_zero]
/-- the carry behind a place -/
theorem cr_next (x y : Int) (p : Nat) : cr x y 0 (p + 1) = if Bt p x + Bt p y + cr x y 0 p ≥ 2 then 1 else 0 := by
  show maj (Bt p x) (Bt p y) (cr x y 0 p) = _
  have bx := bt_01 p x
  have b2 := bt_01 p y
  have c := cr_01 (x := x) (y := y) (k := 0) (.inl rfl) p
  unfold maj
  split <;> omega
end Fb
namespace Fb
/-! ### numbers with the same rest -/
def Cg (m x y : Int) : Prop := ∃ k, y = x + m * k
theorem Cg.refl (m x : Int) : Cg m x x := ⟨0, by omega⟩
theorem Cg.trans {m x y z : Int} (h : Cg m x y) (g : Cg m y z) : Cg m x z := by
  obtain ⟨k, rfl⟩ := h
  obtain ⟨j, rfl⟩ := g
  exact ⟨k + j, by rw [Int.mul_add]; omega⟩
theorem Cg.symm {m x y : Int} (h : Cg m x y) : Cg m y x := by
  obtain ⟨k, rfl⟩ := h
  exact ⟨-k, by rw [Int.mul_neg]; omega⟩
theorem Cg.add {m x y z w : Int} (h : Cg m x y) (g : Cg m z w) : Cg m (x + z) (y + w) := by
  obtain ⟨k, rfl⟩ := h
  obtain ⟨j, rfl⟩ := g
  exact ⟨k + j, by rw [Int.mul_add]; omega⟩
theorem Cg.neg {m x y : Int} (h : Cg m x y) : Cg m (-x) (-y) := by
  obtain ⟨k, rfl⟩ := h
  exact ⟨-k, by rw [Int.mul_neg]; omega⟩
theorem Cg.mul {m x y : Int} (c : Int) (h : Cg m x y) : Cg m (c * x) (c * y) := by
  obtain ⟨k, rfl⟩ := h
  exact ⟨c * k, by rw [Int.mul_add, Int.mul_left_comm]⟩
theorem Cg.emod {m x y : Int} (h : Cg m x y) : y % m = x % m := by
  obtain ⟨k, rfl⟩ := h
  exact Int.add_mul_emod_self_left x m k
theorem Cg.pow {m x y : Int} (h : Cg m x y) : ∀ q : Nat, Cg m (x ^ q) (y ^ q)
  | 0 => by rw [Int.pow_zero, Int.pow_zero]; exact Cg.refl _ _
  | q + 1 => by
    rw [Int.pow_succ, Int.pow_succ]
    refine ((Cg.pow h q).mul x |> fun t => ?_)
    have t1 : Cg m (x ^ q * x) (y ^ q * x) := by rw [Int.mul_comm, Int.mul_comm (y ^ q)]; exact t
    exact t1.trans (h.mul (y ^ q))
theorem pow_at (n t : Nat) : (2 : Int) ^ t = 2 ^ (t % n) * (2 ^ n) ^ (t / n) := by
  rw [← Int.pow_mul, ← Int.pow_add]
  congr 1
  exact (Nat.mod_add_div t n).symm
theorem cg_below (n t : Nat) : Cg (2 ^ n - 1) (2 ^ t) (2 ^ (t % n)) := by
  have h : Cg ((2 : Int) ^ n - 1) (2 ^ n) 1 := ⟨-1, by omega⟩
  have k := (h.pow (t / n)).mul (2 ^ (t % n))
  rw [← pow_at, Int.one_pow, Int.mul_one] at k
  exact k
theorem neg1_pow : ∀ q : Nat, (-1 : Int) ^ q = if q % 2 = 1 then -1 else 1
  | 0 => rfl
  | q + 1 => by
    rw [Int.pow_succ, neg1_pow q]
    by_cases h : q % 2 = 1
    · rw [if_pos h, if_neg (by omega)]; rfl
    · rw [if_neg h, if_pos (by omega)]; rfl
theorem cg_above (n t : Nat) : Cg (2 ^ n + 1) (2 ^ t) (if t / n % 2 = 1 then -(2 ^ (t % n)) else 2 ^ (t % n)) := by
  have h : Cg ((2 : Int) ^ n + 1) (2 ^ n) (-1) := ⟨-1, by omega⟩
  have k := (h.pow (t / n)).mul (2 ^ (t % n))
  rw [← pow_at, neg1_pow] at k
  split <;> rename_i c
  · rw [if_pos c, Int.mul_neg, Int.mul_one] at k
    exact k
  · rw [if_neg c, Int.mul_one] at k
    exact k
/-- one power, as the program takes it -/
def rp (n : Nat) (sg : Bool) (t : Nat) : Int := if (sg && decide (t / n % 2 = 1)) = true then -(2 ^ (t % n)) else 2 ^ (t % n)
def modS (n : Nat) (sg : Bool) : Int := if sg = true then 2 ^ n + 1 else 2 ^ n - 1
theorem rp_cg (n t : Nat) (sg : Bool) : Cg (modS n sg) (2 ^ t) (rp n sg t) := by
  cases sg with
  | false => exact cg_below n t
  | true =>
    have h := cg_above n t
    unfold rp modS
    rw [if_pos rfl]
    by_cases c : t / n % 2 = 1
    · rw [if_pos c] at h
      rw [decide_eq_true c]
      exact h
    · rw [if_neg c] at h
      rw [decide_eq_false c]
      exact h
def redL (n : Nat) (sg : Bool) (l : List Int) : List Int := (List.range l.length).map fun k => if k % 2 = 1 then rp n sg (l.getD k 0).toNat else -rp n sg (l.getD k 0).toNat
theorem cg_sum {m : Int} {f g : Nat → Int} : ∀ (l : List Nat), (∀ k ∈ l, Cg m (f k) (g k)) → Cg m (l.map f).sum (l.map g).sum
  | [], _ => Cg.refl _ _
  | a :: l, h => by
    rw [List.map_cons, List.map_cons, List.sum_cons, List.sum_cons]
    exact (h a (by simp)).add (cg_sum l fun k hk => h k (by simp [hk]))
theorem red_cg (n : Nat) (sg : Bool) (l : List Int) : Cg (modS n sg) ((List.range l.length).map fun k => (if k % 2 = 1 then (1 : Int) else -1) * 2 ^ (l.getD k 0).toNat).sum (redL n sg l).sum := by
  refine cg_sum _ fun k _ => ?_
  have h := rp_cg n (l.getD k 0).toNat sg
  split
  · rw [Int.one_mul]; exact h
  · rw [Int.neg_mul, Int.one_mul]; exact h.neg
theorem rp_abs {n t : Nat} (hn : 1 ≤ n) (sg : Bool) : -(2 ^ n) ≤ rp n sg t ∧ rp n sg t ≤ 2 ^ n := by
  have h : (2 : Int) ^ (t % n) ≤ 2 ^ n := by
    have := Nat.pow_le_pow_right (show 1 ≤ 2 by decide) (Nat.le_of_lt (Nat.mod_lt t (show 0 < n by omega)))
    have e1 : ((2 : Int) ^ (t % n)) = ((2 ^ (t % n) : Nat) : Int) := by rw [Int.natCast_pow]; rfl
    have e2 : ((2 : Int) ^ n) = ((2 ^ n : Nat) : Int) := by rw [Int.natCast_pow]; rfl
    rw [e1, e2]
    omega
  have p : (0 : Int) < 2 ^ (t % n) := Int.pow_pos (by decide)
  unfold rp
  split <;> omega
theorem red_abs {n : Nat} (hn : 1 ≤ n) (sg : Bool) (l : List Int) : ∀ z ∈ redL n sg l, -(2 ^ n) ≤ z ∧ z ≤ 2 ^ n := fun z hz => by
  obtain ⟨k, _, rfl⟩ := List.mem_map.mp hz
  have h := rp_abs (t := (l.getD k 0).toNat) hn sg
  split <;> omega
theorem sum_abs {B : Int} : ∀ l : List Int, (∀ z ∈ l, -B ≤ z ∧ z ≤ B) → -(l.length * B) ≤ l.sum ∧ l.sum ≤ l.length * B
  | [], _ => by simp
  | a :: l, h => by
    have h1 := h a (by simp)
    have h2 := sum_abs l fun z hz => h z (by simp [hz])
    rw [List.sum_cons, List.length_cons]
    have e : ((l.length + 1 : Nat) : Int) * B = l.length * B + B := by
      rw [show ((l.length + 1 : Nat) : Int) = (l.length : Int) + 1 from rfl, Int.add_mul, Int.one_mul]
    rw [e]
    omega
theorem red_len (n : Nat) (sg : Bool) (l : List Int) : (redL n sg l).length = l.length := by unfold redL; rw [List.length_map, List.length_range]
theorem red_get (n : Nat) (sg : Bool) (l : List Int) {i : Nat} (h : i < l.length) : (redL n sg l)[i]? = some (if i % 2 = 1 then rp n sg (l.getD i 0).toNat else -rp n sg (l.getD i 0).toNat) := by
  unfold redL
  rw [List.getElem?_map, List.getElem?_range h]
  rfl
/-! ### folding -/
theorem fold_cg_below (n : Nat) (x : Int) : Cg (2 ^ n - 1) x (x % 2 ^ n + x / 2 ^ n) := by
  refine ⟨-(x / 2 ^ n), ?_⟩
  have h := Int.mul_ediv_add_emod x (2 ^ n)
  rw [Int.sub_mul, Int.mul_neg, Int.one_mul]
  omega
theorem fold_cg_above (n : Nat) (x : Int) : Cg (2 ^ n + 1) x (x % 2 ^ n - x / 2 ^ n) := by
  refine ⟨-(x / 2 ^ n), ?_⟩
  have h := Int.mul_ediv_add_emod x (2 ^ n)
  rw [Int.add_mul, Int.mul_neg, Int.one_mul]
  omega
/-- how far folding is from its end -/
def vB (n : Nat) (x : Int) : Nat := if x < 0 then 2 ^ n + (-x).toNat else x.toNat
theorem pow_two_le {n : Nat} (hn : 1 ≤ n) : (2 : Int) ≤ 2 ^ n := by
  have h : (2 : Nat) ^ 1 ≤ 2 ^ n := Nat.pow_le_pow_right (by decide) hn
  have e : ((2 : Int) ^ n) = ((2 ^ n : Nat) : Int) := by rw [Int.natCast_pow]; rfl
  rw [e]
  omega
theorem vB_lt {n : Nat} (hn : 1 ≤ n) {x : Int} (h : x / 2 ^ n ≠ 0) : vB n (x % 2 ^ n + x / 2 ^ n) < vB n x := by
  have p := pow_two_le hn
  have e := Int.mul_ediv_add_emod x (2 ^ n)
  have r0 := Int.emod_nonneg x (show (2 : Int) ^ n ≠ 0 by omega)
  have r1 := Int.emod_lt_of_pos x (show (0 : Int) < 2 ^ n by omega)
  have en : ((2 : Int) ^ n) = ((2 ^ n : Nat) : Int) := by rw [Int.natCast_pow]; rfl
  unfold vB
  generalize x / 2 ^ n = q at *
  generalize x % 2 ^ n = r at *
  generalize (2 : Int) ^ n = N at *
  generalize (2 : Nat) ^ n = M at *
  by_cases q0 : 0 ≤ q
  · have := Int.mul_le_mul_of_nonneg_right p q0
    rw [if_neg (by omega), if_neg (by omega)]
    omega
  · have := Int.mul_le_mul_of_nonneg_right p (show 0 ≤ -q by omega)
    rw [Int.mul_neg, Int.mul_neg] at this
    have t2 := Int.mul_le_mul_of_nonneg_left (show q ≤ -1 by omega) (show 0 ≤ N by omega)
    rw [if_pos (show x < 0 by omega)]
    split <;> omega
theorem bel_end {n : Nat} {x : Int} (h : x / 2 ^ n = 0) : 0 ≤ x ∧ x < 2 ^ n := by
  have p : (0 : Int) < 2 ^ n := Int.pow_pos (by decide)
  have e := Int.mul_ediv_add_emod x (2 ^ n)
  have r0 := Int.emod_nonneg x (show (2 : Int) ^ n ≠ 0 by omega)
  have r1 := Int.emod_lt_of_pos x p
  rw [h, Int.mul_zero, Int.zero_add] at e
  omega
/-- what stays within a bound -/
theorem fold_bd {n : Nat} {x C : Int} (hC : 2 ^ n ≤ C) (h0 : -C ≤ x) (h1 : x ≤ C) : (-C ≤ x / 2 ^ n ∧ x / 2 ^ n ≤ C) := by
  have p : (0 : Int) < 2 ^ n := Int.pow_pos (by decide)
  have e := Int.mul_ediv_add_emod x (2 ^ n)
  have r0 := Int.emod_nonneg x (show (2 : Int) ^ n ≠ 0 by omega)
  have r1 := Int.emod_lt_of_pos x p
  generalize x / 2 ^ n = q at *
  generalize x % 2 ^ n = r at *
  generalize (2 : Int) ^ n = N at *
  by_cases q0 : 0 ≤ q
  · have := Int.mul_le_mul_of_nonneg_right (show 1 ≤ N by omega) q0
    omega
  · have := Int.mul_le_mul_of_nonneg_right (show 1 ≤ N by omega) (show 0 ≤ -q - 1 by omega)
    rw [Int.mul_sub N, Int.mul_neg N, Int.mul_one N] at this
    omega
theorem fold_bd2 {n : Nat} {x C : Int} (hC : 2 ^ n ≤ C) (h0 : -C ≤ x) (h1 : x ≤ C) : (-C ≤ x % 2 ^ n + x / 2 ^ n ∧ x % 2 ^ n + x / 2 ^ n ≤ C) := by
  have p : (0 : Int) < 2 ^ n := Int.pow_pos (by decide)
  have e := Int.mul_ediv_add_emod x (2 ^ n)
  have r0 := Int.emod_nonneg x (show (2 : Int) ^ n ≠ 0 by omega)
  have r1 := Int.emod_lt_of_pos x p
  generalize x / 2 ^ n = q at *
  generalize x % 2 ^ n = r at *
  generalize (2 : Int) ^ n = N at *
  by_cases q0 : 0 ≤ q
  · have := Int.mul_le_mul_of_nonneg_right (show 1 ≤ N by omega) q0
    omega
  · have := Int.mul_le_mul_of_nonneg_right (show 1 ≤ N by omega) (show 0 ≤ -q - 1 by omega)
    rw [Int.mul_sub N, Int.mul_neg N, Int.mul_one N] at this
    omega
/-- the same with a minus: the number behind gets nearer to 0 -/
def vA (n : Nat) (x : Int) : Nat := if x / 2 ^ n = 0 then 0 else if x / 2 ^ n = 1 ∨ x / 2 ^ n = -1 then 1 else 2
theorem vA_lt {n : Nat} {x : Int} (hq : -(2 ^ n) ≤ x / 2 ^ n ∧ x / 2 ^ n ≤ 2 ^ n) (h : x / 2 ^ n ≠ 0) (h2 : x ≠ 2 ^ n) (h3 : x % 2 ^ n - x / 2 ^ n ≠ 2 ^ n) : vA n (x % 2 ^ n - x / 2 ^ n) < vA n x := by
  have p : (0 : Int) < 2 ^ n := Int.pow_pos (by decide)
  have e := Int.mul_ediv_add_emod x (2 ^ n)
  have r0 := Int.emod_nonneg x (show (2 : Int) ^ n ≠ 0 by omega)
  have r1 := Int.emod_lt_of_pos x p
  have at_ : ∀ y j : Int, 2 ^ n * j ≤ y → y < 2 ^ n * j + 2 ^ n → y / 2 ^ n = j := fun y j a b => by
    have h : y = (y - 2 ^ n * j) + 2 ^ n * j := by omega
    rw [h, Int.add_mul_ediv_left _ _ (by omega), Int.ediv_eq_zero_of_lt (by omega) (by omega), Int.zero_add]
  have z : ∀ y : Int, 0 ≤ y → y < 2 ^ n → y / 2 ^ n = 0 := fun y a b => at_ y 0 (by omega) (by omega)
  have m : ∀ y : Int, -(2 ^ n) ≤ y → y < 0 → y / 2 ^ n = -1 := fun y a b => at_ y (-1) (by omega) (by omega)
  have o : ∀ y : Int, 2 ^ n ≤ y → y < 2 * 2 ^ n → y / 2 ^ n = 1 := fun y a b => at_ y 1 (by omega) (by omega)
  unfold vA
  rw [if_neg h]
  generalize x / 2 ^ n = q at *
  generalize x % 2 ^ n = r at *
  by_cases q1 : q = 1
  · subst q1
    have : r ≠ 0 := by omega
    rw [if_pos (z (r - 1) (by omega) (by omega))]
    simp
  · by_cases q2 : q = -1
    · subst q2
      rw [if_pos (z (r - -1) (by omega) (by omega))]
      simp
    · rw [if_neg (show ¬ (q = 1 ∨ q = -1) by omega)]
      by_cases a : r - q < 0
      · rw [m (r - q) (by omega) a]
        simp
      · by_cases b : r - q < 2 ^ n
        · rw [if_pos (z (r - q) (by omega) b)]
          omega
        · rw [o (r - q) (by omega) (by omega)]
          simp
theorem abo_end {n : Nat} {x : Int} (h : x / 2 ^ n = 0 ∨ x = 2 ^ n) : 0 ≤ x ∧ x < 2 ^ n + 1 := by
  rcases h with h | h
  · have := bel_end h
    omega
  · have p : (0 : Int) < 2 ^ n := Int.pow_pos (by decide)
    omega
end Fb
namespace Fb
open PySem L2
/-! ### the arithmetic of numbers of few bits, as contracts -/
def spW1 (K : PySem.W.Frag) (r : Int → Int) : Sp := fun vs H Q _ => ∃ (v : V) (z : Int), vs = [v] ∧ Dp K H v (gU 1 z) ∧ Wz z ∧ Wz (r z) ∧ ∀ (v' : V) (H' : Hp), Same H H' → Dp K H' v' (gU 1 (r z)) → Q v' H'
def spW2 (K : PySem.W.Frag) (r : Int → Int → Int) : Sp := fun vs H Q _ => ∃ (v u : V) (x y : Int), vs = [v, u] ∧ Dp K H v (gU 1 x) ∧ Dp K H u (gU 1 y) ∧ Wz x ∧ Wz y ∧ Wz (r x y) ∧ ∀ (v' : V) (H' : Hp), Same H H' → Dp K H' v' (gU 1 (r x y)) → Q v' H'
def spWS (K : PySem.W.Frag) (r : Int → Nat → Int) : Sp := fun vs H Q _ => ∃ (v : V) (z : Int) (p : Nat), vs = [v, .int (p : Int)] ∧ Dp K H v (gU 1 z) ∧ Wz z ∧ p ≤ 1500 ∧ Wz (r z p) ∧ ∀ (v' : V) (H' : Hp), Same H H' → Dp K H' v' (gU 1 (r z p)) → Q v' H'
def spPlW (K : PySem.W.Frag) : Sp := fun vs H Q _ => ∃ (v : V) (y : Int), vs = [v] ∧ Dp K H v (gU 1 y) ∧ Wz y ∧ (∀ n : Nat, y = 2 ^ n → ∀ H' : Hp, Same H H' → Q (.int (n : Int)) H') ∧ ((¬ ∃ n : Nat, y = 2 ^ n) → ∀ H' : Hp, Same H H' → Q .non H')
theorem Wz.uw {z : Int} (h : Wz z) : UU 2000 1 z := ⟨by have := h.len; omega, h.wf.uu.2⟩
theorem Wz.u2 {z : Int} (h : Wz z) : UU 2000 2 z := uu_up (by decide) h.uw
theorem Wz.g2 {z : Int} (h : Wz z) : gU 2 z = gU 1 z := gU_up (L := 8500) (by decide) (Nat.le_refl _) h.wf.uu
theorem Wz.g3 {z : Int} (h : Wz z) : gU 3 z = gU 1 z := (gU_up (L := 8500) (by decide) (Nat.le_refl _) (uu_up (by decide) h.wf.uu)).trans h.g2
theorem av_tl_ (z : Int) : alt (-1) ((Tl z).map Int.toNat) = z := by
  have : (Tl z).map Int.toNat = turnsN z := by
    unfold Tl zs
    rw [List.map_map]
    exact (List.map_congr_left (fun x _ => Int.toNat_natCast x)).trans (List.map_id _)
  rw [this, turns_alt]
theorem tl_alt {l : List Nat} (h : l.Pairwise (· < ·)) : Tl (alt (-1) l) = l.map fun (n : Nat) => (n : Int) := by
  unfold Tl zs
  rw [turns_of_alt h]
  rfl
theorem tl_p2 (n : Nat) : Tl ((2 : Int) ^ n) = [(n : Int), (n : Int) + 1] := by
  have h := tl_alt (l := [n, n + 1]) (by simp)
  have e : alt (-1) [n, n + 1] = (2 : Int) ^ n := by
    show (-1 : Int) * 2 ^ n + (- -1 * 2 ^ (n + 1) + 0) = 2 ^ n
    rw [Int.pow_succ]
    omega
  rw [e] at h
  exact h
theorem tl_m1 {n : Nat} (hn : 1 ≤ n) : Tl ((2 : Int) ^ n - 1) = [0, (n : Int)] := by
  have h := tl_alt (l := [0, n]) (by simp; omega)
  have e : alt (-1) [0, n] = (2 : Int) ^ n - 1 := by
    show (-1 : Int) * 2 ^ 0 + (- -1 * 2 ^ n + 0) = 2 ^ n - 1
    omega
  rw [e] at h
  exact h
theorem tl_a1 {n : Nat} (hn : 2 ≤ n) : Tl ((2 : Int) ^ n + 1) = [0, 1, (n : Int), (n : Int) + 1] := by
  have h := tl_alt (l := [0, 1, n, n + 1]) (by simp; omega)
  have e : alt (-1) [0, 1, n, n + 1] = (2 : Int) ^ n + 1 := by
    show (-1 : Int) * 2 ^ 0 + (- -1 * 2 ^ 1 + (- - -1 * 2 ^ n + (- - - -1 * 2 ^ (n + 1) + 0))) = 2 ^ n + 1
    rw [Int.pow_succ]
    omega
  rw [e] at h
  exact h
theorem tl_a2 {n : Nat} (hn : 3 ≤ n) : Tl ((2 : Int) ^ n + 2) = [1, 2, (n : Int), (n : Int) + 1] := by
  have h := tl_alt (l := [1, 2, n, n + 1]) (by simp; omega)
  have e : alt (-1) [1, 2, n, n + 1] = (2 : Int) ^ n + 2 := by
    show (-1 : Int) * 2 ^ 1 + (- -1 * 2 ^ 2 + (- - -1 * 2 ^ n + (- - - -1 * 2 ^ (n + 1) + 0))) = 2 ^ n + 2
    rw [Int.pow_succ 2 n]
    omega
  rw [e] at h
  exact h
theorem p2_tl {y t : Int} (h : Tl y = [t, t + 1]) : ∃ n : Nat, t = (n : Int) ∧ y = 2 ^ n := by
  have t0 := tl_pos y t (by rw [h]; simp)
  obtain ⟨n, rfl⟩ := Int.eq_ofNat_of_zero_le t0
  refine ⟨n, rfl, ?_⟩
  have k := av_tl_ y
  rw [h, ← tl_p2 n, av_tl_] at k
  exact k.symm
section
variable {P : Program} {w : World} {K : PySem.W.Frag} {mg : Str → Option Value} {base : Heap} {f : Addr} {fd : FuncData} {x : Str} {ps : List Str} {ds : List V} {k : Nat}
theorem Has.n1W {r : Int → Int} (C : Has P w K mg base k x ps ds (spNum1 K (gU 0) (SU 8500 0) r)) : Has P w K mg base k x ps ds (spW1 K r) := Has.weak C fun vs H Q E h => by
  obtain ⟨v, z, e, hd, w1, w2, q⟩ := h
  exact ⟨v, z, e, hd, w1.wf.num, w2.wf.num, q⟩
theorem Has.oppW (C : Has P w K mg base k x ps ds (spOpp K (gU 0) (SU 8500 0))) : Has P w K mg base k x ps ds (spW1 K fun z => -z) := Has.weak C fun vs H Q E h => by
  obtain ⟨v, z, e, hd, w1, w2, q⟩ := h
  exact ⟨v, z, e, hd, w1.wf.num, w1.not.wf.num, w2.wf.num, q⟩
theorem Has.sumW {r : Int → Int → Int} (C : Has P w K mg base k x ps ds (spSum K (gU 0) (SU 8500 0) r)) : Has P w K mg base k x ps ds (spW2 K r) := Has.weak C fun vs H Q E h => by
  obtain ⟨v, u, a, b, e, h1, h2, wa, wb, wr, q⟩ := h
  have la := wa.len
  have lb := wb.len
  have S1 : ∀ z, Wz z → ∀ t ∈ Tl z, SU 8500 0 (t + 1) := fun z hz t ht => by
    have h0 := tl_pos z t ht
    have h1 := hz t ht
    exact (Wz.place (p := t + 1) (by omega) (by omega)).2.2.2
  exact ⟨v, u, a, b, e, h1, h2, wa.wf.num, wb.wf.num, S1 a wa, S1 b wb, by omega, (by show _ ≤ 8000; omega), wr.wf.num, q⟩
theorem Has.n2W {r : Int → Int → Int} (C : Has P w K mg base k x ps ds (spNumA K (gU 0) (SU 8500 0) r)) : Has P w K mg base k x ps ds (spW2 K r) := Has.weak C fun vs H Q E h => by
  obtain ⟨v, u, a, b, e, h1, h2, wa, wb, wr, q⟩ := h
  have la := wa.len
  have lb := wb.len
  exact ⟨v, u, a, b, e, h1, h2, wa.wf.num, wb.wf.num, (by show _ ≤ 4000; omega), wr.wf.num, q⟩
theorem Has.shuW (C : Has P w K mg base k x ps ds (spShU K 0 2000)) : Has P w K mg base k x ps ds (spWS K fun z p => z * 2 ^ p) := Has.weak C fun vs H Q E h => by
  obtain ⟨v, z, p, e, hd, wz, hp, wr, q⟩ := h
  have wp := Wz.place (p := (p : Int)) (by omega) (by omega)
  refine ⟨v, .int (p : Int), z, (p : Int), e, by rw [wz.g2]; exact hd, wz.u2, by rw [wp.2.2.1]; exact .int _, wp.1.uw, by omega, fun v' H' e' d' => q v' H' e' ?_⟩
  rw [Int.toNat_natCast, wr.g3] at d'
  exact d'
theorem Has.shdW (C : Has P w K mg base k x ps ds (spShD K 0 2000)) : Has P w K mg base k x ps ds (spWS K fun z p => z / 2 ^ p) := Has.weak C fun vs H Q E h => by
  obtain ⟨v, z, p, e, hd, wz, hp, wr, q⟩ := h
  have wp := Wz.place (p := (p : Int)) (by omega) (by omega)
  refine ⟨v, .int (p : Int), z, (p : Int), e, by rw [wz.g2]; exact hd, wz.u2, by rw [wp.2.2.1]; exact .int _, wp.1.uw, by omega, fun v' H' e' d' => q v' H' e' ?_⟩
  rw [Int.toNat_natCast, wr.g3] at d'
  exact d'
theorem wz_p2 {n : Nat} (h : n ≤ 1498) : Wz ((2 : Int) ^ n) ∧ Wz ((2 : Int) ^ n - 1) ∧ Wz ((2 : Int) ^ n + 1) ∧ Wz ((2 : Int) ^ n + 2) := by
  have p : (0 : Int) < 2 ^ n := Int.pow_pos (by decide)
  have e : (2 : Int) ^ (n + 2) = 4 * 2 ^ n := by rw [Int.pow_succ, Int.pow_succ]; omega
  exact ⟨wz_of (k := n + 2) (by omega) (by omega) (by omega), wz_of (k := n + 2) (by omega) (by omega) (by omega), wz_of (k := n + 2) (by omega) (by omega) (by omega), wz_of (k := n + 2) (by omega) (by omega) (by omega)⟩
theorem Wz.low {z : Int} {p : Nat} (hp : p ≤ 1500) : Wz (z % 2 ^ p) := by
  have h : (0 : Int) < 2 ^ p := Int.pow_pos (by decide)
  have r0 := Int.emod_nonneg z (show (2 : Int) ^ p ≠ 0 by omega)
  have r1 := Int.emod_lt_of_pos z h
  exact wz_of (k := p) hp (by omega) r1
theorem dp_small {H : Hp} {v : V} {z : Int} (h : Dp K H v (gU 1 z)) (p : plain z) : v = .int z := by
  rw [gU_plain p] at h
  cases h
  rfl
theorem dp_int {H : Hp} {z : Int} (p : plain z) : Dp K H (.int z) (gU 1 z) := by
  rw [gU_plain p]
  exact .int z
theorem plain_nat {n : Nat} (h : n ≤ 1000000000) : plain (n : Int) := ⟨by omega, by omega⟩
abbrev S_place_of_power : Stmt := top 102
abbrev N_place_of_power : List Str := ["x", "turns"]
abbrev P_place_of_power : List Str := ["x"]
theorem sc_place_of_power : FnScope N_place_of_power P_place_of_power (defScope S_place_of_power) := ⟨rfl, rfl, rfl, by decide +kernel, rfl, by decide +kernel, by decide +kernel⟩
theorem ok_plW {k : Nat} (k3 : 3 ≤ k) (F : Fun K "place_of_power" "place_of_power" S_place_of_power f fd) (B : Blt mg) (Cturns_in : Has P w K mg base 3 "turns_in" P_turns_in [] (spTin K (gU 0) (SU 8500 0))) (Cplus_one : Has P w K mg base k "plus_one" P_plus_one [] (spNext K (gU 0) (SU 8500 0))) : FnOk P w K mg base CX0 (k + 1) f fd P_place_of_power (spPlW K) := by
  have nd := sc_place_of_power.nd
  refine F.ok sc_place_of_power (fun vs H Q E h => ?_) (fun cdv A outer s H vs Q E hr h => ?_)
  · obtain ⟨v, y, rfl, _⟩ := h
    rfl
  obtain ⟨v, y, rfl, hd, wy, qy, qn⟩ := h
  refine ⟨_, (pss_cons (ps_set (i := 1) nd rfl (Or.inl rfl) (pe_H Cturns_in (hr.mono (by omega)) rfl (pa_cons (pv 0) pa_nil)))
    (pss_cons (ps_if (PW.pt (pw_and (pt_cmpR op_eq (pe_callB (call_lenS K) (by rfl) B.len PySem.boot_len (pa_cons (pv 1) pa_nil)) pe_int (nomark _)) (pw_and1 (pt_cmpR (op_eqD hr.units) (pe_H Cplus_one (hr.mono (by omega)) rfl (pa_cons (pe_ix (ix_seqK K) (pv 1) pe_int (fun _ _ => rfl)) pa_nil)) (pe_ix (ix_seqK K) (pv 1) pe_int (fun _ _ => rfl)) (nomark _))))) (pss_one (ps_ret (pe_ix (ix_seqK K) (pv 1) pe_int (fun _ _ => rfl)))) pss_nil)
    (pss_one (ps_ret pe_non)))), ?_⟩
  have W := wy.wf
  refine ⟨_, rfl, v, y, rfl, hd, W.num, fun a H1 e1 hp => ?_⟩
  have sq := pls_ints hp
  refine ⟨_, rfl, _, _, rfl, sq, rfl, _, rfl, ?_⟩
  refine iteD (fun c => ?_) (fun c => ?_)
  · have c2 : (Tl y).length = 2 := by
      rw [List.length_map] at c
      first
        | omega
        | (injection c with c; omega)
    obtain ⟨t0, t1, et⟩ : ∃ t0 t1, Tl y = [t0, t1] := by
      match h : Tl y, c2 with
      | [a, b], _ => exact ⟨a, b, rfl⟩
    have p0 := tl_pos y t0 (by rw [et]; simp)
    have p1 := tl_pos y t1 (by rw [et]; simp)
    have b0 := wy t0 (by rw [et]; simp)
    have b1 := wy t1 (by rw [et]; simp)
    rw [et] at sq
    have S : ∀ t : Int, 0 ≤ t → t ≤ 1600 → SU 8500 0 t := fun t h0 h1 => (Wz.place h0 (by omega)).2.2.2
    refine ⟨_, rfl, rIx_sq sq (atI_nat (j := 0) rfl) ⟨_, t0, rfl, .int t0, S _ p0 (by omega), S _ (by omega) (by omega), fun v2 H2 e2 d2 => ?_⟩⟩
    cases d2
    refine ⟨_, rfl, rIx_sq (sq.same e2) (atI_nat (j := 1) rfl) ⟨_, _, .int _, .int t1, rfl, rfl, _, rfl, ?_⟩⟩
    rw [show PyData.eqv (.int (t0 + 1)) (.int t1) = decide (t0 + 1 = t1) from by simp only [PyData.eqv]; rfl]
    refine ite2 (fun e => ?_) (fun e => ?_)
    · refine ⟨_, rfl, rIx_sq (sq.same e2) (atI_nat (j := 0) rfl) ?_⟩
      have e := of_decide_eq_true e
      obtain ⟨n, rfl, ey⟩ := p2_tl (y := y) (t := t0) (by rw [et, e])
      exact qy n ey H2 (e1.trans e2)
    · refine qn ?_ H2 (e1.trans e2)
      rintro ⟨n, h⟩
      rw [h, tl_p2] at et
      injection et with h2 h3
      injection h3 with h3
      exact e (decide_eq_true (by omega))
  · refine iteF ?_
    refine qn ?_ H1 e1
    rintro ⟨n, h⟩
    refine c ?_
    rw [List.length_map, h, tl_p2]
    rfl
def spUnd (K : PySem.W.Frag) : Sp := fun vs H Q _ => ∃ (v : V) (z : Int) (p : Nat), vs = [v, .int (p : Int)] ∧ Dp K H v (gU 1 z) ∧ Wz z ∧ 1 ≤ p ∧ p ≤ 1400 ∧ ∀ (v' : V) (H' : Hp), Same H H' → Dp K H' v' (gU 1 (z % 2 ^ p)) → Q v' H'
abbrev S_bit_at : Stmt := top 85
abbrev N_bit_at : List Str := ["x", "place"]
abbrev P_bit_at : List Str := ["x", "place"]
theorem sc_bit_at : FnScope N_bit_at P_bit_at (defScope S_bit_at) := ⟨rfl, rfl, rfl, by decide +kernel, rfl, by decide +kernel, by decide +kernel⟩
def spBitW (K : PySem.W.Frag) : Sp := fun vs H Q _ => ∃ (v : V) (z : Int) (p : Nat), vs = [v, .int (p : Int)] ∧ Dp K H v (gU 1 z) ∧ Wz z ∧ p ≤ 1500 ∧ ∀ (H' : Hp), Same H H' → Q (.int (Bt p z)) H'
theorem ok_bitW (F : Fun K "bit_at" "bit_at" S_bit_at f fd) (Cturns_in : Has P w K mg base 3 "turns_in" P_turns_in [] (spTin K (gU 0) (SU 8500 0))) (Cturns_up_to_d : Has P w K mg base 5 "turns_up_to" P_turns_up_to [.int 0] (spUpTo K (gU 0) (SU 8500 0))) : FnOk P w K mg base CX0 6 f fd P_bit_at (spBitW K) := by
  have nd := sc_bit_at.nd
  refine F.ok sc_bit_at (fun vs H Q E h => ?_) (fun cdv A outer s H vs Q E hr h => ?_)
  · obtain ⟨v, z, p, rfl, _⟩ := h
    rfl
  obtain ⟨v, z, p, rfl, hd, wz, hp, q⟩ := h
  refine ⟨_, (pss_one (ps_ret (pe_op op_and (pe_H Cturns_up_to_d (hr.mono (by decide)) rfl (pa_cons (pe_H Cturns_in (hr.mono (by decide)) rfl (pa_cons (pv 0) pa_nil)) (pa_cons (pv 1) pa_nil))) pe_int))), ?_⟩
  have W := wz.wf
  have wp := Wz.place (p := (p : Int)) (by omega) (by omega)
  refine ⟨_, rfl, v, z, rfl, hd, W.num, fun a H1 e1 hpl => ?_⟩
  have S : ∀ t ∈ Tl z, SU 8500 0 t := fun t ht => (Wz.place (tl_pos z t ht) (by have := wz t ht; omega)).2.2.2
  refine ⟨_, rfl, a, .int (p : Int), Tl z, (p : Int), 0, rfl, hpl, .int _, tl_asc z, S, wp.2.2.2, Nat.zero_le _, by have := wz.len; omega, fun H2 e2 => ?_⟩
  refine ⟨_, _, rfl, rfl, ?_⟩
  have e : Builtin.bitAnd ((cnt (Tl z) (p : Int) : Nat) : Int) 1 = Bt p z := by
    rw [PyProof.Rows.bitAnd_m1, bt_tl]
    omega
  show Q (.int (Builtin.bitAnd ((cnt (Tl z) (p : Int) : Nat) : Int) 1)) H2
  rw [e]
  exact q H2 (e1.trans e2)
end
end Fb
namespace Fb
open PySem L2
/-! ### a call by keywords alone of a def that may raise -/
structure HasXK (P : Program) (w : World) (K : PySem.W.Frag) (mg : Str → Option Value) (base : Heap) (k : Nat) (x : Str) (ps ks : List Str) (sp : Sp) : Prop where
  ex : ∃ f fd, FnOk P w K mg base (L2.CX P w) k f fd ps sp ∧ PySem.W.keepIn K (.ref f) = true ∧ mg x = some (.ref f) ∧ ∀ (s : Shared) (ws : List Value), K.In s.heap → ws.length = ps.length → BindsTo s fd ⟨[], ks.zip ws⟩ (ps.zip ws)
theorem run_fnSK {X : Cx} {CX : CXT} {k : Nat} {f : Addr} {fd : FuncData} {ps ks : List Str} {sp : Sp} {σ : St} {E : XK} {pins : List (Addr × Obj)} {H : Hp} {s : Shared} {Q : VK} {ws : List Value} {zs : List V} (F : FnOk X.prog X.w X.K X.mg X.base CX k f fd ps sp) (hr : Room k X.A) (hb : ∀ (s : Shared) (ws : List Value), X.K.In s.heap → ws.length = ps.length → BindsTo s fd ⟨[], ks.zip ws⟩ (ps.zip ws)) (hx : PassesAt CX X σ E)
    (I : Inv X pins σ H s) (r : Vals zs ws) (h : sp zs H Q E) : wpAny (model X.prog X.w) X.A (call (.ref f) [] (ks.zip ws)) (EP X pins σ Q) X.xe s := by
  have hl : ws.length = ps.length := by rw [← r.length]; exact F.len _ _ _ _ h
  refine wpAny_call (codeAny_mono (F.run X.A X.stack s H ⟨[], ks.zip ws⟩ ws zs Q E hr I.env0 (hb s ws I.kIn hl) r h) fun r s' hq => ?_)
  cases r with
  | error e => exact hx pins H s e s' I hq
  | ok fl =>
    cases fl with
    | ret u => exact I.after hq
    | next => exact False.elim hq
    | brk => exact False.elim hq
    | cont => exact False.elim hq
theorem pe_HXK0 {X : Cx} {W : WX} {k : Nat} {x : Str} {ps ks : List Str} {sp : Sp} {kws : List Keyword} {tk : TA} {p pos : Pos} (C : HasXK X.prog X.w X.K X.mg X.base k x ps ks sp) (tks : Takes X W) (hr : Room k X.A) (hg : Gl X x) (hkw : PK X kws tk)
    (hall : (backToKw pos (keywordEach kws X.env)).all (·.1.isSome) = true := by rfl) (hks : (backToKw pos (keywordEach kws X.env)).filterMap (·.1) = ks := by rfl) (hdb : (x == ("__debug__" : Str)) = false := by decide)
    (hpl : ((backTo pos (starEach [] X.env)).any (·.1) || (backToKw pos (keywordEach kws X.env)).any (·.1.isNone)) = false := by rfl) : PE X (.Call (.Name x p) [] kws pos) (tCallS sp (fun σ => WE W σ) tk) := by
  obtain ⟨f, fd, F, hk, hm, hb⟩ := C.ex
  refine ⟨fun pins s σ H Q I h => ?_⟩
  refine wpAny_Call_Name_kw (ld_glob I hg hm ?_ hdb)
  refine PySem.W.callWith_KW0 (h₀ := X.base) I.ok.mod.kin hk hall (thn (hkw.run pos pins s σ H _ I h) fun ws s2 ⟨zs, H2, I2, rz, q2⟩ => ⟨I2.kIn, ?_⟩) hpl
  rw [hks]
  exact run_fnSK F hr hb (passAt tks σ) I2 rz q2
theorem Fun.kx2 {K : PySem.W.Frag} {x qual m n : Str} {st : Stmt} {f : Addr} {fd : FuncData} (F : Fun K x qual st f fd)
    (h0 : ∀ (kV doc pm : Value) (an : Option Addr) (cdv ct u v : Value), bindArgs (PySem.W.fnOf x qual (defArgs st) (defBody st) (defScope st) .none kV doc pm an cdv ct) ⟨[], [(m, u), (n, v)]⟩ = pure [(m, u), (n, v)]) :
    ∀ (s : Shared) (ws : List Value), K.In s.heap → ws.length = 2 → BindsTo s fd ⟨[], [m, n].zip ws⟩ ([m, n].zip ws) := by
  obtain ⟨oc, od, kV, doc, pm, an, cdv, ct, osl, rfl, lk, hcd⟩ := F.ex
  exact fun s ws _ hl => match ws, hl with
    | [u, v], _ => .of_eq (h0 kV doc pm an cdv ct u v)
end Fb
/-! ### calls by keywords alone, in any order -/
namespace Fb
open PySem L2
def clsBody (s : Stmt) : List Stmt := match s with
  | .ClassDef _ _ _ b _ _ _ _ _ _ _ => b
  | _ => []
def pmL {α : Type} (pi : List Nat) (d : α) (us : List α) : List α := pi.map fun i => us.getD i d
theorem vals_getD : ∀ {vs : List V} {us : List Value}, Vals vs us → ∀ i : Nat, RelV (vs.getD i .non) (us.getD i .none)
  | _, _, .nil, i => by
    show RelV (([] : List V).getD i .non) (([] : List Value).getD i .none)
    rw [List.getD_nil, List.getD_nil]
    rfl
  | _, _, .cons r rz, 0 => r
  | _, _, .cons r rz, i + 1 => by
    rw [List.getD_cons_succ, List.getD_cons_succ]
    exact vals_getD rz i
theorem vals_pm {vs : List V} {us : List Value} (r : Vals vs us) : ∀ pi : List Nat, Vals (pmL pi .non vs) (pmL pi .none us)
  | [] => .nil
  | i :: pi => .cons (vals_getD r i) (vals_pm r pi)
structure HasKP (P : Program) (w : World) (K : PySem.W.Frag) (mg : Str → Option Value) (base : Heap) (k : Nat) (x : Str) (ks ps : List Str) (pi : List Nat) (sp : Sp) : Prop where
  ex : ∃ f fd, FnOk P w K mg base CX0 k f fd ps sp ∧ PySem.W.keepIn K (.ref f) = true ∧ mg x = some (.ref f) ∧ ∀ (s : Shared) (us : List Value), us.length = ks.length → BindsTo s fd ⟨[], ks.zip us⟩ (ps.zip (pmL pi .none us))
theorem Fun.kp_ {K : PySem.W.Frag} {x qual : Str} {st : Stmt} {f : Addr} {fd : FuncData} {ks ps : List Str} {pi : List Nat} (F : Fun K x qual st f fd)
    (h : ∀ (kV doc pm : Value) (an : Option Addr) (cdv ct : Value) (us : List Value), us.length = ks.length → bindArgs (PySem.W.fnOf x qual (defArgs st) (defBody st) (defScope st) .none kV doc pm an cdv ct) ⟨[], ks.zip us⟩ = pure (ps.zip (pmL pi .none us))) :
    ∀ (s : Shared) (us : List Value), us.length = ks.length → BindsTo s fd ⟨[], ks.zip us⟩ (ps.zip (pmL pi .none us)) := by
  obtain ⟨oc, od, kV, doc, pm, an, cdv, ct, osl, rfl, lk, hcd⟩ := F.ex
  exact fun s us hl => .of_eq (h kV doc pm an cdv ct us hl)
def tCallKP (sp : Sp) (n : Nat) (pi : List Nat) (tk : TA) : TE := fun σ H Q => tk σ H fun zs H2 => zs.length = n ∧ sp (pmL pi .non zs) H2 Q E0
section
variable {X : Cx} {k : Nat} {x : Str} {ks ps : List Str} {pi : List Nat} {sp : Sp} {kws : List Keyword} {tk : TA} {p pos : Pos}
theorem run_kp {f : Addr} {fd : FuncData} {pins : List (Addr × Obj)} {σ : L2.St} {H : Hp} {s : Shared} {Q : VK} {kw : List (Str × Value)} {us : List Value} {vs : List V} (F : FnOk X.prog X.w X.K X.mg X.base CX0 k f fd ps sp) (hr : Room k X.A) (hb : BindsTo s fd ⟨[], kw⟩ (ps.zip us))
    (I : Inv X pins σ H s) (r : Vals vs us) (h : sp vs H Q E0) : wpAny (model X.prog X.w) X.A (call (.ref f) [] kw) (EP X pins σ Q) X.xe s := by
  refine wpAny_call (codeAny_mono (F.run X.A X.stack s H ⟨[], kw⟩ us vs Q E0 hr I.env0 hb r h) fun r s' hq => ?_)
  cases r with
  | error e => exact hq.elim
  | ok fl =>
    cases fl with
    | ret u => exact I.after hq
    | next => exact False.elim hq
    | brk => exact False.elim hq
    | cont => exact False.elim hq
theorem vals_len : ∀ {vs : List V} {us : List Value}, Vals vs us → us.length = vs.length
  | _, _, .nil => rfl
  | _, _, .cons _ rz => by rw [List.length_cons, List.length_cons, vals_len rz]
theorem pe_KP (C : HasKP X.prog X.w X.K X.mg X.base k x ks ps pi sp) (hr : Room k X.A) (hg : Gl X x) (hkw : PK X kws tk)
    (hall : (backToKw pos (keywordEach kws X.env)).all (·.1.isSome) = true := by rfl) (hks : (backToKw pos (keywordEach kws X.env)).filterMap (·.1) = ks := by rfl) (hdb : (x == ("__debug__" : Str)) = false := by decide)
    (hpl : ((backTo pos (starEach [] X.env)).any (·.1) || (backToKw pos (keywordEach kws X.env)).any (·.1.isNone)) = false := by rfl) : PE X (.Call (.Name x p) [] kws pos) (tCallKP sp ks.length pi tk) := by
  obtain ⟨f, fd, F, hk, hm, hb⟩ := C.ex
  refine ⟨fun pins s σ H Q I h => ?_⟩
  refine wpAny_Call_Name_kw (ld_glob I hg hm ?_ hdb)
  refine PySem.W.callWith_KW0 (h₀ := X.base) I.ok.mod.kin hk hall (thn (hkw.run pos pins s σ H _ I h) fun ws s2 ⟨zs, H2, I2, rz, hl, q2⟩ => ⟨I2.kIn, ?_⟩) hpl
  rw [hks]
  exact run_kp F hr (hb s2 ws (by rw [vals_len rz, hl])) I2 (vals_pm rz pi) q2
end
/-! ### the same of a def that may raise -/
structure HasXP (P : Program) (w : World) (K : PySem.W.Frag) (mg : Str → Option Value) (base : Heap) (k : Nat) (x : Str) (ks ps : List Str) (pi : List Nat) (sp : Sp) : Prop where
  ex : ∃ f fd, FnOk P w K mg base (L2.CX P w) k f fd ps sp ∧ PySem.W.keepIn K (.ref f) = true ∧ mg x = some (.ref f) ∧ ∀ (s : Shared) (us : List Value), us.length = ks.length → BindsTo s fd ⟨[], ks.zip us⟩ (ps.zip (pmL pi .none us))
def tCallXP (sp : Sp) (n : Nat) (pi : List Nat) (E : St → XK) (tk : TA) : TE := fun σ H Q => tk σ H fun zs H2 => zs.length = n ∧ sp (pmL pi .non zs) H2 Q (E σ)
theorem pe_XP {X : Cx} {W : WX} {k : Nat} {x : Str} {ps ks : List Str} {pi : List Nat} {sp : Sp} {kws : List Keyword} {tk : TA} {p pos : Pos} (C : HasXP X.prog X.w X.K X.mg X.base k x ks ps pi sp) (tks : Takes X W) (hr : Room k X.A) (hg : Gl X x) (hkw : PK X kws tk)
    (hall : (backToKw pos (keywordEach kws X.env)).all (·.1.isSome) = true := by rfl) (hks : (backToKw pos (keywordEach kws X.env)).filterMap (·.1) = ks := by rfl) (hdb : (x == ("__debug__" : Str)) = false := by decide)
    (hpl : ((backTo pos (starEach [] X.env)).any (·.1) || (backToKw pos (keywordEach kws X.env)).any (·.1.isNone)) = false := by rfl) : PE X (.Call (.Name x p) [] kws pos) (tCallXP sp ks.length pi (fun σ => WE W σ) tk) := by
  obtain ⟨f, fd, F, hk, hm, hb⟩ := C.ex
  refine ⟨fun pins s σ H Q I h => ?_⟩
  refine wpAny_Call_Name_kw (ld_glob I hg hm ?_ hdb)
  refine PySem.W.callWith_KW0 (h₀ := X.base) I.ok.mod.kin hk hall (thn (hkw.run pos pins s σ H _ I h) fun ws s2 ⟨zs, H2, I2, rz, hl, q2⟩ => ⟨I2.kIn, ?_⟩) hpl
  rw [hks]
  have hx : PassesAt (L2.CX X.prog X.w) X σ (WE W σ) := passAt tks σ
  refine wpAny_call (codeAny_mono (F.run X.A X.stack s2 H2 ⟨[], ks.zip ws⟩ _ _ Q (WE W σ) hr I2.env0 (hb s2 ws (by rw [vals_len rz, hl])) (vals_pm rz pi) q2) fun r s' hq => ?_)
  cases r with
  | error e => exact hx pins H2 s2 e s' I2 hq
  | ok fl =>
    cases fl with
    | ret u => exact I2.after hq
    | next => exact False.elim hq
    | brk => exact False.elim hq
    | cont => exact False.elim hq
end Fb
namespace PySem
open Sem (wp)
/-- enumerate(v), whatever v is that begins -/
theorem fb_enum_new1 {v : Value} {o : Obj} {H : Heap → Prop} (B : Begins v o H) :
    Meets (Builtin.«enumerate.__new__» ⟨[.type "enumerate", v], []⟩) (fun _ R s => H s.heap ∧
      R (.ok (.ret (.ref (s.heap.push o).objs.size))) { s with heap := (s.heap.push o).push { cls := .type "enumerate", data := .fields #[.none, .bool false, .ref s.heap.objs.size, rawInt 0, .none, .none] } }) :=
  .of_wp fun prog w A R s h => by
    obtain ⟨hp, g, d, tk, os⟩ := s; obtain ⟨h1, h⟩ := h
    have hsub := sub_enumerate
    have q1 : ∀ {A' : Around} {E : Value → Shared → Prop} {Q : Value → Shared → Prop}, Q (.ref hp.objs.size) ⟨hp.push o, g, d, tk, os⟩ → wpAny (model prog w) A' (pyIter v) Q E ⟨hp, g, d, tk, os⟩ :=
      fun q => B.iter prog w _ _ ⟨hp, g, d, tk, os⟩ _ h1 q
    wp_walk using q1
    refine wpAny_stack_any fun st => wpAny_pure ?_
    split
    · rename_i c _ _ _ _ _
      cases (c == Value.type "enumerate")
      · wp_walk using q1
        exact ⟨_, rfl, h⟩
      · wp_walk using q1
        exact ⟨_, rfl, h⟩
    · wp_walk using q1
      exact ⟨_, rfl, h⟩
theorem fb_enum_tup {prog : Program} {w : World} {A : Around} {E : Value → Shared → Prop} {s : Shared} {l : Addr} {items : Array Value} {Q : Value → Shared → Prop} (hL : s.heap.IsTuple l items)
    (h : ∀ h', IsEnum h' (s.heap.objs.size + 1) s.heap.objs.size 0 .none → h'.IsTupleIter s.heap.objs.size l 0 → h'.objs.size = s.heap.objs.size + 2 →
      (∀ b o, s.heap.get? b = some o → h'.get? b = some o) → Q (.ref (s.heap.objs.size + 1)) { s with heap := h' }) :
    wpAny (model prog w) A (call (.type "enumerate") [.ref l]) Q E s := by
  refine callType_new F.called_enumerate (by decide) (F.typeCall_enumerate_1 _) (F.newCall_enumerate_1 _) (fun obj => F.args_object_init_2 obj _) F.entry_enumerate_new
    (fb_enum_new1 (begins_tuple l items)) ⟨hL, ?_⟩
  have hz : (s.heap.push { cls := .type "tuple_iterator", data := .fields #[.ref l, .int 0 0] }).objs.size = s.heap.objs.size + 1 := Heap.size_push ..
  show _ ∧ _
  rw [hz]
  have he : IsEnum ((s.heap.push { cls := .type "tuple_iterator", data := .fields #[.ref l, .int 0 0] }).push
      { cls := .type "enumerate", data := .fields #[.none, .bool false, .ref s.heap.objs.size, rawInt 0, .none, .none] }) (s.heap.objs.size + 1) s.heap.objs.size 0 .none := by
    have := Heap.get?_push_size (s.heap.push { cls := .type "tuple_iterator", data := .fields #[.ref l, .int 0 0] })
      (o := { cls := .type "enumerate", data := .fields #[.none, .bool false, .ref s.heap.objs.size, rawInt 0, .none, .none] }) rfl
    rw [hz] at this; exact this
  refine ⟨⟨_, he, rfl⟩, h _ he ⟨_, Heap.get?_push_of_some _ (Heap.get?_push_size _ rfl), rfl, rfl⟩ (by rw [Heap.size_push, hz]) fun b o x => Heap.get?_push_of_some _ (Heap.get?_push_of_some _ x)⟩
end PySem
namespace Fb
open PySem L2 PySem.Spec PyProof.Rows
/-- the tuple at a, each item in a new pair -/
def IteT (K : PySem.W.Frag) (a : Addr) : It :=
  ⟨fun i H => ∃ (xs : List V) (x : V), SqT K H a xs ∧ xs[i]? = some x, fun i H v H' => ∃ T x, v = .ref T ∧ H T = none ∧ H' = upd H T (.tup [.int (i : Nat), x]) ∧ ∀ xs, SqT K H a xs → xs[i]? = some x, fun i H => ∃ xs : List V, SqT K H a xs ∧ xs.length = i⟩
theorem turn_enumT {P : Program} {w : World} {K : PySem.W.Frag} {elts : List Expr} {kk : Nat} {tpos : Pos} (a e it : Addr) :
    Turn P w K (.Tuple elts kk tpos) (IteT K a) [e, it] e (fun i h => (∃ old, IsEnum h e it ((i : Nat) : Int) old) ∧ h.IsTupleIter it a i ∧ e ≠ it) where
  mem := by simp
  obj := fun i h st b hb => by
    obtain ⟨⟨old, he⟩, ⟨o, ho, hc, hd⟩, _⟩ := st
    have e' : b = e ∨ b = it := by simpa using hb
    rcases e' with z | z
    · rw [z]; exact ⟨_, he, fun v q => nomatch q⟩
    · rw [z]; exact ⟨o, ho, fun v q => by rw [hd] at q; cases q⟩
  keep := fun i h h' st k => let ⟨⟨old, he⟩, hi, hne⟩ := st; ⟨⟨old, k e (by simp) _ he⟩, hi.at fun o q => k it (by simp) o q, hne⟩
  item := by
    intro X hP hw hK hc i pins s σ H E I hf st hg
    subst hP hw hK
    obtain ⟨⟨old, he⟩, hit, hne⟩ := st
    obtain ⟨xs, x, hq, hx⟩ := hg
    obtain ⟨its, rv, p, hz⟩ := I.tuple hq
    replace p : s.heap.IsTuple a its.toArray := p
    obtain ⟨u, hu, ru⟩ := rv.get hx
    have hel : e < s.heap.objs.size := Heap.lt_size he
    have hil : it < s.heap.objs.size := by obtain ⟨_, q, _⟩ := hit; exact Heap.lt_size q
    have nea : e ≠ a := fun z => by
      obtain ⟨oa, ga, ca, _⟩ := p
      rw [← z, show s.heap.get? e = _ from he] at ga
      cases ga
      injection ca with ca
      exact absurd ca (by decide)
    have nia : a ≠ it := fun z => by
      obtain ⟨oa, ga, ca, _⟩ := p
      obtain ⟨oi, gi, ci, _⟩ := hit
      rw [z, gi] at ga
      cases ga
      rw [ci] at ca
      injection ca with ca
      exact absurd ca (by decide)
    have hlt : i < its.toArray.size := by
      obtain ⟨h, _⟩ := List.getElem?_eq_some_iff.mp hu
      simpa using h
    refine wpAny_pyNext_enum_itemD (Draws.tuple (show X.A.in1.handled = none from I.ok.hd hc) it a nia its.toArray) he ⟨hit, p⟩ hlt hne (by simp [hne, nea]) fun y h' tk hy ho hit' hT hsz hk => ?_
    have ey : y = u := by
      have : its.toArray[i]? = some u := by simpa using hu
      rw [this] at hy
      cases hy
      rfl
    subst ey
    refine ⟨_, rfl, wpAny_letOwnedTupleGo_enum (s := { s with heap := h', toks := tk + 1 }) ho fun h'' he' sb => ?_⟩
    have hT2 : h''.get? s.heap.objs.size = some { cls := .type "tuple", data := .seq #[.int i tk, y] } := (sb.2 _ (Nat.ne_of_gt hel)).trans hT
    have new : ObjOk X.prog X.w (upd H s.heap.objs.size (.tup [.int (i : Nat), x])) h'' s.heap.objs.size (.tup [.int (i : Nat), x]) :=
      ⟨by show 2 ≤ sizeLine; decide, [.int i tk, y], .cons ⟨_, rfl⟩ (.cons ru .nil), ⟨_, hT2, rfl, _, rfl⟩⟩
    have I1 : Inv X pins σ (upd H s.heap.objs.size (.tup [.int (i : Nat), x])) { s with heap := h'', toks := tk + 1 } :=
      I.turnedNew (ch := [e, it]) (fun b ob hb q => (sb.2 b (fun z => hb (by simp [z]))).trans (hk b ob (fun z => hb (by simp [z])) (fun z => hb (by simp [z])) q)) hf (Nat.le_refl _) new
    refine ⟨.ref s.heap.objs.size, _, I1, rfl, ⟨_, x, rfl, I.hok.fresh (Nat.le_refl _), rfl, fun ys hy => by rw [I.tuple_inj hy hq]; exact hx⟩, ⟨⟨y, ?_⟩, hit'.1.at fun o q => (sb.2 it (Ne.symm hne)).trans q, hne⟩, fun b hb => ?_⟩
    · have e1 : ((i + 1 : Nat) : Int) = (i : Int) + 1 := by omega
      rw [e1]; exact he'
    · have hb' : b < s.heap.objs.size := by
        have e' : b = e ∨ b = it := by simpa using hb
        rcases e' with z | z
        · rw [z]; exact hel
        · rw [z]; exact hil
      rw [upd_ne (Nat.ne_of_lt hb')]
      exact (hf b hb).1
  done := by
    intro X hP hw hK hc i pins s σ H E I hf st hg
    subst hP hw hK
    obtain ⟨⟨old, he⟩, hit, hne⟩ := st
    obtain ⟨xs, hq, hx⟩ := hg
    obtain ⟨its, rv, p, hz⟩ := I.tuple hq
    replace p : s.heap.IsTuple a its.toArray := p
    obtain ⟨f0, f1, f2, f3, f4, f5⟩ := hf it (by simp)
    have hl := rv.length
    have nia : a ≠ it := fun z => by
      obtain ⟨oa, ga, ca, _⟩ := p
      obtain ⟨oi, gi, ci, _⟩ := hit
      rw [z, gi] at ga
      cases ga
      rw [ci] at ca
      injection ca with ca
      exact absurd ca (by decide)
    have D := Draws.tuple (prog := X.prog) (w := X.w) (A := X.A.in1) (show X.A.in1.handled = none from I.ok.hd hc) it a nia its.toArray
    rw [show its.toArray.size = i by simp; omega] at D
    exact wpAny_pyNext_enum_endD D he ⟨hit, p⟩ fun h' eb => ⟨rfl, I.turned (t' := s.toks) (fun b o hb q => eb b o hb q) f0 f1 f3 f4 f5⟩
  self := fun A i s Q E st h => let ⟨⟨_, he⟩, _⟩ := st; wpAny_pyIter_enum he h
def iEnumT (K : PySem.W.Frag) (ta : TA) : TI := fun σ H R => ta σ H fun vs H1 => ∃ a xs, vs = [.ref a] ∧ SqT K H1 a xs ∧ R (IteT K a) H1
theorem pi_enumT {X : Cx} {e : Expr} {ta : TA} {p pos tpos : Pos} {elts : List Expr} {kk : Nat} (hg : Gl X "enumerate") (hm : X.mg "enumerate" = none) (ha : PA X [e] ta) (hs : starEach [e] X.env = [(false, eval e X.env)] := by rfl) :
    PI X (.Tuple elts kk tpos) (.Call (.Name "enumerate" p) [e] [] pos) (iEnumT X.K ta) := by
  refine ⟨fun pins s σ H R I h => ?_⟩
  refine Call_ (ld_blt I hg hm boot_enumerate (PyProof.Rows.callWith_type1 (thn (ha.run pos pins s σ H _ I h) fun us s1 ⟨vs, H1, I1, r1, q1⟩ => ?_) hs rfl))
  obtain ⟨a, xs, ex, hq, q⟩ := q1
  subst ex
  cases r1 with
  | cons r rr =>
    cases rr
    cases r
    obtain ⟨its, rv, p', hz⟩ := I1.tuple hq
    refine fb_enum_tup (show s1.heap.IsTuple a its.toArray from p') fun h' he hit hsz hk => wpAny_pyIter_enum he ?_
    have I2 : Inv X pins σ H1 { s1 with heap := h' } := I1.kept (t' := s1.toks) hk
    refine ⟨s1.heap.objs.size + 1, [s1.heap.objs.size + 1, s1.heap.objs.size], _, _, H1, rfl, I2, turn_enumT a (s1.heap.objs.size + 1) s1.heap.objs.size, ⟨⟨.none, he⟩, hit, Nat.succ_ne_self _⟩, fun b hb => ?_, q⟩
    have e' : b = s1.heap.objs.size + 1 ∨ b = s1.heap.objs.size := by simpa using hb
    have hle : s1.heap.objs.size ≤ b := by
      rcases e' with z | z
      · rw [z]; exact Nat.le_add_right _ _
      · rw [z]; exact Nat.le_refl _
    exact I1.fpOk hle (I1.hok.fresh hle)
theorem walk_enumT {K : PySem.W.Frag} {a : Addr} {xs : List V} : Walk (IteT K a) xs.length (fun H => SqT K H a xs) (YPair (fun i => some (.int (i : Nat))) (fun i => xs[i]?)) := by
  refine ⟨fun i _ hi q => ⟨xs, xs[i], q, by simp [hi]⟩, fun _ q => ⟨xs, q, rfl⟩, fun i H v H' _ q y => ?_⟩
  obtain ⟨T, x, h1, h2, h3, h4⟩ := y
  exact ⟨T, .int (i : Nat), x, h1, h2, h3, rfl, h4 xs q⟩
/-- enumerate of a list or of a tuple -/
def iEnumQ (K : PySem.W.Frag) (ta : TA) : TI := fun σ H R => iEnum K ta σ H R ∨ iEnumT K ta σ H R
theorem pi_enumQ {X : Cx} {e : Expr} {ta : TA} {p pos tpos : Pos} {elts : List Expr} {kk : Nat} (K : PySem.W.Frag) (hg : Gl X "enumerate") (hm : X.mg "enumerate" = none) (ha : PA X [e] ta) (hK : X.K = K := by rfl) (hs : starEach [e] X.env = [(false, eval e X.env)] := by rfl) :
    PI X (.Tuple elts kk tpos) (.Call (.Name "enumerate" p) [e] [] pos) (iEnumQ K ta) := by
  subst hK
  exact pi_or (pi_enum hg hm ha hs) (pi_enumT hg hm ha hs)
end Fb
namespace Fb
open PySem L2 PySem.Spec PyProof.Rows
/-! ### except clauses with names, one behind the other -/
/-- s: an exception at a is caught, its clauses are to be tried -/
structure Here (X : Cx) (pins : List (Addr × Obj)) (σ : L2.St) (H : Hp) (cls : Value) (d : Option Addr) (a : Addr) (B : Heap) (sI s : Shared) : Prop where
  inv : Inv X pins σ H sI
  ground : ∀ b o, sI.heap.get? b = some o → b ∉ frs X.stack → B.get? b = some o
  up : sI.heap.UpToSlots s.heap
  fly : HandSPX.FlyingZ B X.stack a (Zc cls d) s.heap
  new : H a = none
  os : s.os = sI.os
  bare : AllBare s.gens
section
variable {X : Cx} {pins : List (Addr × Obj)} {σ : L2.St} {H : Hp} {cls : Value} {d : Option Addr} {a : Addr} {B : Heap} {sI s : Shared}
theorem Here.now (h : Here X pins σ H cls d a B sI s) : Inv X pins σ H s := h.inv.landed h.ground h.fly.1 h.up h.os h.bare
theorem Here.obj (h : Here X pins σ H cls d a B sI s) : ∃ oe vs, s.heap.get? a = some oe ∧ Zc cls d oe ∧ oe.data = .fields vs := h.fly.there
theorem Here.off (h : Here X pins σ H cls d a B sI s) : a ∉ frs X.stack := fun hm => by
  obtain ⟨oe, vs, e, _, dt⟩ := h.obj
  obtain ⟨_, o2, e2, far⟩ := h.fly.2.2.1.mem hm
  rw [e] at e2
  cases e2
  exact far _ dt
theorem Here.away (h : Here X pins σ H cls d a B sI s) (hs : X.stack = X.env :: X.outer) (hf : X.env.frame = some X.env.locals) : a ≠ X.env.locals ∧ a ∉ X.fs := by
  have off := h.off
  rw [hs] at off
  refine ⟨fun z => off (List.mem_filterMap.mpr ⟨X.env, by simp, by rw [hf, z]⟩), fun hm => ?_⟩
  obtain ⟨v, hv, q⟩ := List.mem_filterMap.mp hm
  exact off (List.mem_filterMap.mpr ⟨v, by simp [hv], q⟩)
/-- no clause is left -/
theorem by_none {Wout : WX} {D : Ends} (hs : X.stack = X.env :: X.outer) (hf : X.env.frame = some X.env.locals) (tk : Takes X Wout) (h : Here X pins σ H cls d a B sI s) (q : Wout cls d σ H) :
    wpAny (model X.prog X.w) X.A (handleBy (.ref a) X.env []) (SP X pins D) X.xe s := by
  refine wpAny_handleBy_nil ?_
  obtain ⟨_, _, _, oe, vs, T, oT, ts, e1, _, e2, e3, _⟩ := id h.fly
  unfold PySem.passOn
  refine wpAny_bind (wpAny_field e1 e2 e3 ?_)
  have noT : ¬ ((Value.ref T == Value.none) = true) := by simp
  rw [if_neg noT]
  have out : wpAny (model X.prog X.w) X.A (setFlight (.ref a) X.env.frame) (fun _ t => wpAny (model X.prog X.w) X.A (throw (.ref a) : Sem Flow) (SP X pins D) X.xe t) X.xe s := by
    rw [hf]
    have fly := h.fly
    refine HandSPX.setFlight_upZ fly fun h4 held up4 => ?_
    exact wpAny_throw (tk _ _ ⟨a, B, sI, pins, σ, H, cls, d, rfl, h.inv, h.ground, h.up.trans up4, .inr (.inr held), h.new, h.os, h.bare, q⟩)
  first
    | exact wpAny_bind (wpAny_pure (wpAny_bind out))
    | exact wpAny_bind out
/-- one clause with a name, and what comes behind it -/
theorem by_as {x n : Str} {c : Value} {i : Nat} {b₀ : Stmt} {suite : List Stmt} {np pos' : Pos} {ts : Addr → Value → Option Addr → L2.TS} {Wr : WX} {D : Ends} {rest : List ExceptHandler} (hs : X.stack = X.env :: X.outer) (hf : X.env.frame = some X.env.locals) (hN : X.N.Nodup) (hi : X.N[i]? = some n) (hln : X.env.kindOf n = some .local) (hc : Names X x c)
    (hsu : ∀ (a : Addr) (oe : Obj) (cls : Value) (d : Option Addr) (pn : List (Addr × Obj)), Zc cls d oe → (∃ vs, oe.data = .fields vs) → PSs (X.suite a ((a, oe) :: pn)) (b₀ :: suite) (ts a cls d))
    (hr : Wr cls d σ H → wpAny (model X.prog X.w) X.A (handleBy (.ref a) X.env rest) (SP X pins D) X.xe s) (h : Here X pins σ H cls d a B sI s) (q : wAs X.K c i ts Wr D cls d σ H) :
    wpAny (model X.prog X.w) X.A (handleBy (.ref a) X.env (.ExceptHandler (some (.Name x np)) (some n) (b₀ :: suite) pos' :: rest)) (SP X pins D) X.xe s := by
  obtain ⟨b, isb, yes, no⟩ := q
  obtain ⟨oe, vs, e1, z1, d1⟩ := h.obj
  obtain ⟨w1, w2⟩ := h.away hs hf
  have S := h.now.suite e1 d1 h.new w1 w2
  have LT : PySem.W.Looks (model X.prog X.w) s.heap (typeOf (.ref a)) cls := fun A Q E t k r => wpAny_typeOf_ref (k _ _ e1) (by rw [z1.1]; exact r)
  have LM := PySem.W.exm_one (M := model X.prog X.w) h.now.kIn LT isb
  refine wpAny_handleBy_cons (codeAny_handlers_test ?_) (fun z => by cases z)
  have named : ∀ {Q E : Value → Shared → Prop}, Q c s → wpAny (model X.prog X.w) (X.A.mark (some (.ref a))) (eval (.Name x np) X.env) Q E s := fun {Q E} r => by
    obtain ⟨g1, g2, g3⟩ := hc
    rcases g3 with g3 | ⟨g3, g4, g5⟩
    · exact ld_glob (X := X.suite a ((a, oe) :: (X.pn ++ pins))) S g1 g3 r g2
    · exact ld_blt (X := X.suite a ((a, oe) :: (X.pn ++ pins))) S g1 g3 g4 r g5 g2
  refine named (LM.here ?_)
  cases b with
  | false => exact hr (no rfl)
  | true =>
    refine codeAny_handlers_suite_as (HandSPX.lands_againZ h.fly fun h4 fly4 up4 => ?_)
    have h' : Here X pins σ H cls d a B sI { s with heap := h4 } := ⟨h.inv, h.ground, h.up.trans up4, fly4, h.new, h.os, h.bare⟩
    obtain ⟨o4, v4, f1, f2, f3⟩ := h'.obj
    have S4 := h'.now.suite f1 f3 h.new w1 w2
    refine store_ok (X := X.suite a ((a, o4) :: (X.pn ++ pins))) (v := .ref a) S4 hN hi (.inl hln) rfl (fun s5 S5 => ?_) (.inr hln)
    have run := (hsu a o4 cls d (X.pn ++ pins) f2 ⟨_, f3⟩).run [] s5 _ H _ S5 (yes rfl a h.new)
    refine wpAny_mono run (fun fl s6 got => ?_) (fun _ _ z => z.elim)
    have gone : ∀ {σ6 : L2.St} {H6 : Hp} {Q : Shared → Prop}, Inv (X.suite a ((a, o4) :: (X.pn ++ pins))) [] σ6 H6 s6 → (∀ s7, Inv X pins (σ6.set i none) H6 s7 → Q s7) → wpAny (model X.prog X.w) X.A (do bindName X.env n .none; unbindBehindTheSuite X.env n pos') (fun _ s7 => Q s7) X.xe s6 :=
      fun {σ6 H6 Q} S6 hq => gone_ok (S6.unsuite h.inv.ok) hN hi hln hq
    cases fl with
    | ret u =>
      obtain ⟨v6, σ6, H6, S6, r6, q6⟩ := got
      exact gone S6 fun s7 J => ⟨v6, _, H6, J, r6, q6⟩
    | next =>
      obtain ⟨σ6, H6, S6, q6⟩ := got
      exact gone S6 fun s7 J => ⟨_, H6, J, q6⟩
    | brk =>
      obtain ⟨σ6, H6, S6, q6⟩ := got
      exact gone S6 fun s7 J => ⟨_, H6, J, q6⟩
    | cont =>
      obtain ⟨σ6, H6, S6, q6⟩ := got
      exact gone S6 fun s7 J => ⟨_, H6, J, q6⟩
end
/-- a body and its clauses -/
theorem ps_try_by {X : Cx} {body : List Stmt} {h₀ : ExceptHandler} {hds : List ExceptHandler} {pos : Pos} {tb : WX → L2.TS} {W : Ends → WX} (hs : X.stack = X.env :: X.outer) (hf : X.env.frame = some X.env.locals)
    (hb : ∀ (W : WX) (pn : List (Addr × Obj)) (xe : Value → Shared → Prop), Takes (X.tr pn xe) W → PassesOwn (model X.prog X.w) X.A X.env xe → PSs (X.tr pn xe) body (tb W))
    (hh : ∀ (D : Ends) (pins : List (Addr × Obj)) (σ : L2.St) (H : Hp) (cls : Value) (d : Option Addr) (a : Addr) (B : Heap) (sI s : Shared), Here X pins σ H cls d a B sI s → W D cls d σ H → wpAny (model X.prog X.w) X.A (handleBy (.ref a) X.env (h₀ :: hds)) (SP X pins D) X.xe s) :
    PS X (.Try body (h₀ :: hds) [] [] pos) (fun D σ H => tb (W D) D σ H) := by
  refine ⟨fun pins s σ H D I h => ?_⟩
  have okX := I.ok
  have frm : X.A.frames = some (X.env :: X.outer) := by rw [okX.frames, hs]
  refine wpAny_Try_except ?_
  let XE2 : Value → Shared → Prop := fun e t => wpAny (model X.prog X.w) X.A (noteFrame e X.env) (fun _ t2 => wpAny (model X.prog X.w) X.A (setFlight e none) (fun _ t3 => wpAny (model X.prog X.w) X.A (handleBy e X.env (h₀ :: hds)) (SP X pins D) X.xe t3) X.xe t2) X.xe t
  have caught : Takes (X.tr (X.pn ++ pins) XE2) (W D) := fun u t ⟨a, B, sI, pins', σ', H', cls, d, eu, J', nb, up, sky, na, os, ag, w⟩ => by
    subst eu
    have J : Inv X pins σ' H' sI := J'.ofTry okX
    have sky' : Sky B (X.env :: X.outer) a (Zc cls d) X.env.locals t.heap := by rw [← hs]; exact sky
    refine Sky.land Zc.steady frm hf sky' fun h3 fly up3 => ?_
    exact hh D pins σ' H' cls d a B sI { t with heap := h3 } ⟨J, nb, up.trans up3, by rw [hs]; exact fly, na, os, ag⟩ w
  refine wpAny_mono ((hb (W D) (X.pn ++ pins) XE2 caught PassesOwn.looking).run [] s σ H D (I.toTry _) h) (fun fl t got => ?_) (fun e t he => he)
  cases fl with
  | next =>
    obtain ⟨σ', H', J, q⟩ := got
    exact wpAny_execs_nil ⟨σ', H', J.ofTry okX, q⟩
  | ret u =>
    obtain ⟨v, σ', H', J, r, q⟩ := got
    exact ⟨v, σ', H', J.ofTry okX, r, q⟩
  | brk =>
    obtain ⟨σ', H', J, q⟩ := got
    exact ⟨σ', H', J.ofTry okX, q⟩
  | cont =>
    obtain ⟨σ', H', J, q⟩ := got
    exact ⟨σ', H', J.ofTry okX, q⟩
end Fb
namespace Fb
open PySem L2 PyProof.Rows NdefX
theorem for_enum {K : PySem.W.Frag} {a : Addr} {xs : List V} {g : TG} {tb : L2.TS} {D : Ends} {σ : L2.St} {H0 H : Hp} {ta : TA} (hta : ∀ Q, Q [V.ref a] H → ta σ H Q) (hs0 : Sq K H0 a xs) (Pv : Nat → L2.St → Hp → Prop) (h0 : Pv 0 σ H) (hl : ∀ i σ H', i ≤ xs.length → Pv i σ H' → Same H0 H')
    (hs : ∀ i x σ H H', i < xs.length → Pv i σ H → YPair (fun i => some (.int (i : Nat))) (fun i => xs[i]?) i H x H' → g x σ H' fun σ2 H2 => tb { D with nx := Pv (i + 1), ct := Pv (i + 1), bk := D.nx } σ2 H2) (hd : ∀ σ H, Pv xs.length σ H → D.nx σ H) :
    tFor (iEnumQ K ta) g tb D σ H := by
  have here := hl 0 σ H (Nat.zero_le _) h0
  rcases hs0 with h | h
  · exact .inl (hta _ ⟨a, xs, rfl, SqL.of (here _ _ h), for_it walk_enum Pv h0 (fun i σ H' hi p => SqL.of (hl i σ H' hi p _ _ h)) hs hd⟩)
  · exact .inr (hta _ ⟨a, xs, rfl, (Nd.of here).sqt h, for_it walk_enumT Pv h0 (fun i σ H' hi p => (Nd.of (hl i σ H' hi p)).sqt h) hs hd⟩)
theorem neg_gU1 {z : Int} (W : WF z) : (isI (gU 1 z) = true ∨ isT (gU 1 z) = true) ∧ (∀ b, gU 1 z ≠ .bool b) ∧ negD (gU 1 z) = decide (z < 0) := by
  refine ⟨?_, ?_, num_negD (oU 0) W.num⟩
  · rcases num_cases (oU 0) W.num with ⟨pl, e, _⟩ | ⟨npl, e, _⟩
    · exact .inl (by show isI (numD (gU 0) z) = true; rw [e]; rfl)
    · exact .inr (by show isT (numD (gU 0) z) = true; rw [e]; rfl)
  · intro b
    rcases num_cases (oU 0) W.num with ⟨pl, e, _⟩ | ⟨npl, e, _⟩
    · show numD (gU 0) z ≠ _; rw [e]; exact fun h => nomatch h
    · show numD (gU 0) z ≠ _; rw [e]; exact fun h => nomatch h
theorem wz_1300 {x : Int} (h0 : -(2 ^ 1300) ≤ x) (h1 : x ≤ 2 ^ 1300) : Wz x := by
  have e : (2 : Int) ^ 1301 = 2 ^ 1300 * 2 := Int.pow_succ 2 1300
  have p : (0 : Int) < 2 ^ 1300 := Int.pow_pos (by decide)
  exact wz_of (k := 1301) (by decide) (by omega) (by omega)
theorem tot_red {n R : Nat} (hn : n + R ≤ 1300) {zs : List Int} (h : ∀ z ∈ zs, -(2 ^ n) ≤ z ∧ z ≤ 2 ^ n) : TotOk (gU 0) (SU 8500 0) R zs := by
  have up : ∀ r : Nat, (2 : Int) ^ (n + (r + 1)) = 2 * 2 ^ (n + r) := fun r => by
    rw [show n + (r + 1) = (n + r) + 1 by omega, Int.pow_succ, Int.mul_comm]
  have ps : ∀ k : Nat, (0 : Int) < 2 ^ k := fun k => Int.pow_pos (by decide)
  refine ⟨fun r z => -(2 ^ (n + r)) ≤ z ∧ z ≤ 2 ^ (n + r), fun z hz => h z hz, fun r x y hr hx hy => ?_, fun r x hr hx => ?_⟩
  · have b : (2 : Int) ^ (n + r) ≤ 2 ^ 1299 := p_le (by omega)
    have e : (2 : Int) ^ 1300 = 2 * 2 ^ 1299 := by rw [Int.pow_succ, Int.mul_comm]
    have p := ps (n + r)
    have wx : Wz x := wz_1300 (by omega) (by omega)
    have wy : Wz y := wz_1300 (by omega) (by omega)
    have ws : Wz (x + y) := wz_1300 (by omega) (by omega)
    have S1 : ∀ z, Wz z → ∀ t ∈ Tl z, SU 8500 0 (t + 1) := fun z hz t ht => by
      have h0 := tl_pos z t ht
      have h1 := hz t ht
      exact (Wz.place (p := t + 1) (by omega) (by omega)).2.2.2
    have lx := wx.len
    have ly := wy.len
    exact ⟨by show -(2 ^ (n + (r + 1))) ≤ x + y ∧ x + y ≤ 2 ^ (n + (r + 1)); rw [up]; omega, wx.wf.num, wy.wf.num, S1 x wx, S1 y wy, by omega, ws.wf.num⟩
  · have p := ps (n + r)
    show -(2 ^ (n + (r + 1))) ≤ x ∧ x ≤ 2 ^ (n + (r + 1))
    rw [up]
    omega
/-- a value that is no number: None, a truth, a text -/
inductive NoNum : V → Prop
  | non : NoNum .non
  | bl (b : Bool) : NoNum (.bl b)
  | str (x : Str) : NoNum (.str x)
/-- a term: its side and its place -/
structure Tm (K : PySem.W.Frag) (C : Addr) (H : Hp) (v : V) (e : Int × Nat) : Prop where
  ex : ∃ a pv, v = .ref a ∧ H a = some (.tup [.int e.1, pv]) ∧ NumV K C 1 H pv (e.2 : Int)
  side : e.1 = 1 ∨ e.1 = -1
  place : e.2 ≤ 1000
theorem Tm.same {K : PySem.W.Frag} {C : Addr} {H H' : Hp} {v : V} {e : Int × Nat} (h : Tm K C H v e) (s : Same H H') : Tm K C H' v e := by
  obtain ⟨a, pv, h1, h2, h3⟩ := h.ex
  exact ⟨⟨a, pv, h1, s _ _ h2, h3.same s⟩, h.side, h.place⟩
theorem Tm.nd {K : PySem.W.Frag} {C : Addr} {H H' : Hp} {v : V} {e : Int × Nat} (h : Tm K C H v e) (s : Nd H H') : Tm K C H' v e := by
  obtain ⟨a, pv, h1, h2, h3⟩ := h.ex
  exact ⟨⟨a, pv, h1, s.k _ _ h2 (fun _ z => nomatch z), h3.nd s⟩, h.side, h.place⟩
/-- kinds that last: under draws, and where a list changes -/
inductive TyN (K : PySem.W.Frag) (H : Hp) : V → Value → Prop
  | non : TyN K H .non (.type "NoneType")
  | int (i : Int) : TyN K H (.int i) (.type "int")
  | str (x : Str) : TyN K H (.str x) (.type "str")
  | lst {a : Addr} {xs : List V} (h : H a = some (.lst xs)) : TyN K H (.ref a) (.type "list")
  | ins {a C dx : Addr} {fs : List (Str × V)} (h : H a = some (.ins C dx fs)) (ty : ∀ (H' : Hp) (dx : Addr) (fs : List (Str × V)), H' a = some (.ins C dx fs) → TyX K H' (.ref a) (.ref C)) : TyN K H (.ref a) (.ref C)
theorem TyN.x {K : PySem.W.Frag} {H : Hp} {v : V} {t : Value} (h : TyN K H v t) : TyX K H v t := by
  cases h with
  | non => exact .base .non
  | int i => exact .base (.int i)
  | str x => exact .base (.str x)
  | lst h => exact .base (.lst h)
  | ins h ty => exact ty _ _ _ h
theorem TyN.nd {K : PySem.W.Frag} {H H' : Hp} {v : V} {t : Value} (h : TyN K H v t) (e : Nd H H') : TyN K H' v t := by
  cases h with
  | non => exact .non
  | int i => exact .int i
  | str x => exact .str x
  | lst h => exact .lst (e.lst h)
  | ins h ty => exact .ins (e.k _ _ h (fun _ z => nomatch z)) ty
theorem TyN.list {K : PySem.W.Frag} {H : Hp} {D : Addr} {us us' : List V} {v : V} {t : Value} (hD : H D = some (.lst us)) (h : TyN K H v t) : TyN K (upd H D (.lst us')) v t := by
  cases h with
  | non => exact .non
  | int i => exact .int i
  | str x => exact .str x
  | lst h =>
    rename_i a xs
    by_cases c : a = D
    · subst c
      exact .lst upd_same
    · exact .lst (by rw [upd_ne c]; exact h)
  | ins h ty => exact .ins (by rw [upd_ne (fun e => by rw [e, hD] at h; cases h)]; exact h) ty
/-- no term -/
inductive NoTm (K : PySem.W.Frag) (H : Hp) : V → Prop
  | other {v : V} {t : Value} (ty : TyN K H v t) (k : PySem.W.kitOne K t (.type "tuple") = some false) : NoTm K H v
  | len {a : Addr} {xs : List V} (h : H a = some (.tup xs)) (l : xs.length ≠ 2) : NoTm K H (.ref a)
  | side {a : Addr} {s p : V} {t : Value} (h : H a = some (.tup [s, p])) (ty : TyN K H s t) (k : PySem.W.kitOne K t (.type "int") = some false) : NoTm K H (.ref a)
  | bool {a : Addr} {b : Bool} {p : V} (h : H a = some (.tup [.bl b, p])) : NoTm K H (.ref a)
  | sign {a : Addr} {s : Int} {p : V} (h : H a = some (.tup [.int s, p])) (n : s ≠ 1 ∧ s ≠ -1) : NoTm K H (.ref a)
  | none {a : Addr} {s : Int} {p : V} (h : H a = some (.tup [.int s, p])) (s1 : s = 1 ∨ s = -1) (n : NoNum p) : NoTm K H (.ref a)
  | neg {a : Addr} {s z : Int} (h : H a = some (.tup [.int s, .int z])) (s1 : s = 1 ∨ s = -1) (n : -2000 ≤ z ∧ z < 0) : NoTm K H (.ref a)
theorem NoTm.nd {K : PySem.W.Frag} {H H' : Hp} {v : V} (h : NoTm K H v) (e : Nd H H') : NoTm K H' v := by
  have up : ∀ {a : Addr} {xs : List V}, H a = some (.tup xs) → H' a = some (.tup xs) := fun h => e.k _ _ h (fun _ z => nomatch z)
  cases h with
  | other ty k => exact .other (ty.nd e) k
  | len h l => exact .len (up h) l
  | side h ty k => exact .side (up h) (ty.nd e) k
  | bool h => exact .bool (up h)
  | sign h n => exact .sign (up h) n
  | none h s n => exact .none (up h) s n
  | neg h s n => exact .neg (up h) s n
theorem NoTm.same {K : PySem.W.Frag} {H H' : Hp} {v : V} (h : NoTm K H v) (e : Same H H') : NoTm K H' v := h.nd (Nd.of e)
theorem NoTm.list {K : PySem.W.Frag} {H : Hp} {D : Addr} {us us' : List V} {v : V} (hD : H D = some (.lst us)) (h : NoTm K H v) : NoTm K (upd H D (.lst us')) v := by
  have up : ∀ {a : Addr} {xs : List V}, H a = some (.tup xs) → (upd H D (.lst us')) a = some (.tup xs) := fun h => by
    rw [upd_ne (fun e => by rw [e, hD] at h; cases h)]
    exact h
  cases h with
  | other ty k => exact .other (ty.list hD) k
  | len h l => exact .len (up h) l
  | side h ty k => exact .side (up h) (ty.list hD) k
  | bool h => exact .bool (up h)
  | sign h n => exact .sign (up h) n
  | none h s n => exact .none (up h) s n
  | neg h s n => exact .neg (up h) s n
def oneInt (ws : List V) : Prop := ∃ i : Int, ws = [.int i] ∧ i.natAbs < 10 ^ 20
abbrev S_InvalidTerm : Stmt := (clsBody (top 14)).getD 0 (.Pass ⟨0, 0, 0, 0⟩)
section
variable {P : Program} {w : World} {K : PySem.W.Frag} {mg : Str → Option Value} {base : Heap} {f : Addr} {fd : FuncData} {C_Far C_Sound : Addr}
def spIsNo (K : PySem.W.Frag) (C_Far : Addr) : Sp := fun vs H Q _ => ∃ v : V, vs = [v] ∧ (((∃ z, NumV K C_Far 1 H v z) ∧ Q (.bl true) H) ∨ (NoNum v ∧ Q (.bl false) H))
structure KtN (K : PySem.W.Frag) (C : Addr) : Prop where
  n : PySem.W.kitOne K (.type "NoneType") (.ref C) = some false
  b : PySem.W.kitOne K (.type "bool") (.ref C) = some false
  s : PySem.W.kitOne K (.type "str") (.ref C) = some false
theorem ok_isno (T : FarK K mg C_Far C_Sound) (k : KtN K C_Far) (F : Fun K "is_number" "is_number" S_is_number f fd) (B : Blt mg) : FnOk P w K mg base CX0 1 f fd P_is_number (spIsNo K C_Far) := by
  have nd := sc_is_number.nd
  refine F.ok sc_is_number (fun vs H Q E h => ?_) (fun cdv A outer s H vs Q E hr h => ?_)
  · obtain ⟨v, rfl, _⟩ := h
    rfl
  obtain ⟨v, rfl, h⟩ := h
  have mg_Far := T.gF
  refine ⟨_, (pss_one (ps_ret (pe_or (pe_callB call_isi (by rfl) B.isinstance (by decide +kernel) (pa_cons (pv 0) (pa_cons (pe_glob (v := .ref C_Far) rfl mg_Far rfl) pa_nil))) (pe_one (pe_and (pe_callB call_isi (by rfl) B.isinstance (by decide +kernel) (pa_cons (pv 0) (pa_cons (pe_bltn (by rfl) B.int (by decide +kernel) (show RelV (.ty "int") (.type "int") from rfl)) pa_nil))) (pe_one (pe_not (pe_callB call_isi (by rfl) B.isinstance (by decide +kernel) (pa_cons (pv 0) (pa_cons (pe_bltn (by rfl) B.bool (by decide +kernel) (show RelV (.ty "bool") (.type "bool") from rfl)) pa_nil)))))))))), ?_⟩
  rcases h with ⟨⟨z, hv⟩, q⟩ | ⟨hv, q⟩
  · obtain ⟨t, ty, kt⟩ := T.isF hv
    refine ⟨_, rfl, _, _, _, _, _, rfl, .own C_Far, ty, kt, _, rfl, ?_⟩
    cases hv with
    | int z =>
      refine iteF ?_
      refine ⟨_, rfl, _, _, _, _, true, rfl, .ty "int", .base (.int z), L2.kit_ty (by decide +kernel), _, rfl, ?_⟩
      refine iteT ?_
      refine ⟨_, rfl, _, _, _, _, false, rfl, .ty "bool", .base (.int z), L2.kit_ty (by decide +kernel), _, rfl, ?_⟩
      exact q
    | far h => exact iteT q
  · cases hv with
    | non =>
      refine ⟨_, rfl, _, _, _, _, false, rfl, .own C_Far, .base .non, k.n, _, rfl, iteF ?_⟩
      refine ⟨_, rfl, _, _, _, _, false, rfl, .ty "int", .base .non, L2.kit_ty (by decide +kernel), _, rfl, ?_⟩
      exact iteF q
    | bl b =>
      refine ⟨_, rfl, _, _, _, _, false, rfl, .own C_Far, .base (.bl b), k.b, _, rfl, iteF ?_⟩
      refine ⟨_, rfl, _, _, _, _, true, rfl, .ty "int", .base (.bl b), L2.kit_ty (by decide +kernel), _, rfl, ?_⟩
      refine iteT ?_
      refine ⟨_, rfl, _, _, _, _, true, rfl, .ty "bool", .base (.bl b), L2.kit_ty (by decide +kernel), _, rfl, ?_⟩
      exact q
    | str x =>
      refine ⟨_, rfl, _, _, _, _, false, rfl, .own C_Far, .base (.str x), k.s, _, rfl, iteF ?_⟩
      refine ⟨_, rfl, _, _, _, _, false, rfl, .ty "int", .base (.str x), L2.kit_ty (by decide +kernel), _, rfl, ?_⟩
      exact iteF q
abbrev S_is_term : Stmt := top 147
abbrev N_is_term : List Str := ["value", "sign", "place"]
abbrev P_is_term : List Str := ["value"]
theorem sc_is_term : FnScope N_is_term P_is_term (defScope S_is_term) := ⟨rfl, rfl, rfl, by decide +kernel, rfl, by decide +kernel, by decide +kernel⟩
def spIsT (K : PySem.W.Frag) (C_Far : Addr) : Sp := fun vs H Q _ => ∃ v : V, vs = [v] ∧ (((∃ e, Tm K C_Far H v e) ∧ ∀ H', Same H H' → Q (.bl true) H') ∨ (NoTm K H v ∧ ∀ H', Same H H' → Q (.bl false) H'))
theorem ok_ist (F : Fun K "is_term" "is_term" S_is_term f fd) (B : Blt mg) (Cis_number : Has P w K mg base 1 "is_number" P_is_number [] (spIsNo K C_Far)) (Cis_negative : Has P w K mg base 1 "is_negative" P_is_negative [] (spNeg K)) (Cform_in : Has P w K mg base 4 "form_in" P_form_in [] (spFormIn K C_Far 1)) :
    FnOk P w K mg base CX0 5 f fd P_is_term (spIsT K C_Far) := by
  have nd := sc_is_term.nd
  refine F.ok sc_is_term (fun vs H Q E h => ?_) (fun cdv A outer s H vs Q E hr h => ?_)
  · obtain ⟨v, rfl, _⟩ := h
    rfl
  obtain ⟨v, rfl, h⟩ := h
  refine ⟨_, (pss_cons (ps_if (PW.pt (pw_or (pt_not (pt_val (pe_callB call_isi (by rfl) B.isinstance (by decide +kernel) (pa_cons (pv 0) (pa_cons (pe_bltn (by rfl) B.tuple (by decide +kernel) (show RelV (.ty "tuple") (.type "tuple") from rfl)) pa_nil))))) (pw_or1 (pt_cmpR op_ne (pe_callB call_lenT (by rfl) B.len PySem.boot_len (pa_cons (pv 0) pa_nil)) pe_int (nomark _))))) (pss_one (ps_ret pe_bl)) pss_nil)
    (pss_cons (ps_asg (pv 0) (pg_tup rfl (pgs_cons (pg_name (i := 1) nd rfl (Or.inl rfl)) (pgs_cons (pg_name (i := 2) nd rfl (Or.inl rfl)) pgs_nil))))
    (pss_cons (ps_if (PW.pt (pw_or (pt_not (pt_val (pe_callB call_isi (by rfl) B.isinstance (by decide +kernel) (pa_cons (pv 1) (pa_cons (pe_bltn (by rfl) B.int (by decide +kernel) (show RelV (.ty "int") (.type "int") from rfl)) pa_nil))))) (pw_or (pt_val (pe_callB call_isi (by rfl) B.isinstance (by decide +kernel) (pa_cons (pv 1) (pa_cons (pe_bltn (by rfl) B.bool (by decide +kernel) (show RelV (.ty "bool") (.type "bool") from rfl)) pa_nil)))) (pw_or1 (pt_cmpR op_notIn_seq (pv 1) (pe_tup (pa_cons pe_int (pa_cons (pe_un un_neg pe_int) pa_nil))) (by rfl)))))) (pss_one (ps_ret pe_bl)) pss_nil)
    (pss_one (ps_ret (pe_and (pe_H Cis_number (hr.mono (by decide)) rfl (pa_cons (pv 2) pa_nil)) (pe_one (pe_not (pe_H Cis_negative (hr.mono (by decide)) rfl (pa_cons (pe_H Cform_in (hr.mono (by decide)) rfl (pa_cons (pv 2) pa_nil)) pa_nil)))))))))), ?_⟩
  have tup : ∀ {a : Addr} {xs : List V}, H a = some (.tup xs) → TyX K H (.ref a) (.type "tuple") := fun h => .base (.tup h)
  rcases h with ⟨⟨⟨s, p⟩, tm⟩, q⟩ | ⟨nt, q⟩
  · obtain ⟨a, pv, rfl, ha, hn⟩ := tm.ex
    have Wp := (Wz.place (p := (p : Int)) (by omega) (by have := tm.place; dsimp only at this; omega)).1.wf
    refine ⟨_, rfl, _, _, .type "tuple", _, true, rfl, .ty "tuple", tup ha, L2.kit_ty (by decide +kernel), _, rfl, ?_⟩
    refine iteF ?_
    refine ⟨_, rfl, _, _, rfl, SqT.of ha, rfl, _, rfl, ?_⟩
    refine iteDN (fun c => absurd rfl c) (fun _ => ?_)
    refine ⟨_, rfl, _, _, rfl, SqT.of ha, rfl, _, _, rfl, _, _, rfl, rfl, ?_⟩
    refine ⟨_, rfl, _, _, .type "int", _, true, rfl, .ty "int", .base (.int _), L2.kit_ty (by decide +kernel), _, rfl, ?_⟩
    refine iteF ?_
    refine ⟨_, rfl, _, _, .type "int", _, false, rfl, .ty "bool", .base (.int _), L2.kit_ty (by decide +kernel), _, rfl, ?_⟩
    refine iteF ?_
    refine ⟨_, rfl, _, rfl, (by show 2 ≤ sizeLine; decide), fun p1 np1 => ?_⟩
    have e1 : Same H (upd H p1 (.tup [.int 1, .int (-1)])) := Same.new np1
    have inb : inV (.int s) [.int 1, .int (-1)] = true := by
      rcases tm.side with h | h
      · rw [show s = 1 from h]; rfl
      · rw [show s = -1 from h]; rfl
    refine ⟨p1, [.int 1, .int (-1)], rfl, .inr (SqT.of upd_same), rfl, rfl, _, by rw [inb], ?_⟩
    refine iteF ?_
    have hn1 := hn.same e1
    refine ⟨_, rfl, pv, rfl, .inl ⟨⟨(p : Int), hn1⟩, ?_⟩⟩
    refine ⟨true, rfl, ?_⟩
    rw [if_pos rfl]
    refine ⟨_, rfl, pv, (p : Int), rfl, hn1, Wp.inb, Wp.eq, fun x H2 e2 d2 => ?_⟩
    obtain ⟨hi, hb, hg⟩ := neg_gU1 Wp
    refine ⟨x, _, rfl, d2, hi, hb, fun H3 e3 => ?_⟩
    rw [hg, decide_eq_false (by omega)]
    exact ⟨false, rfl, q H3 (e1.trans (e2.trans e3))⟩
  · have head : ∀ (a : Addr) (x y : V), H a = some (.tup [x, y]) → H a = some (.tup [x, y]) := fun _ _ _ h => h
    have inb : ∀ s : Int, (s = 1 ∨ s = -1) → inV (.int s) [.int 1, .int (-1)] = true := fun s h => by
      rcases h with rfl | rfl <;> rfl
    cases nt with
    | other ty k =>
      refine ⟨_, rfl, _, _, _, _, false, rfl, .ty "tuple", ty.x, k, _, rfl, ?_⟩
      refine iteT ?_
      exact q H (Same.refl H)
    | len h l =>
      refine ⟨_, rfl, _, _, .type "tuple", _, true, rfl, .ty "tuple", tup h, L2.kit_ty (by decide +kernel), _, rfl, ?_⟩
      refine iteF ?_
      refine ⟨_, rfl, _, _, rfl, SqT.of h, rfl, _, rfl, ?_⟩
      refine iteDN (fun _ => q H (Same.refl H)) (fun c => absurd (by injection c with c; omega) l)
    | side h ty k =>
      refine ⟨_, rfl, _, _, .type "tuple", _, true, rfl, .ty "tuple", tup h, L2.kit_ty (by decide +kernel), _, rfl, ?_⟩
      refine iteF ?_
      refine ⟨_, rfl, _, _, rfl, SqT.of h, rfl, _, rfl, ?_⟩
      refine iteDN (fun c => absurd rfl c) (fun _ => ?_)
      refine ⟨_, rfl, _, _, rfl, SqT.of h, rfl, _, _, rfl, _, _, rfl, rfl, ?_⟩
      refine ⟨_, rfl, _, _, _, _, false, rfl, .ty "int", ty.x, k, _, rfl, ?_⟩
      refine iteT ?_
      exact q H (Same.refl H)
    | bool h =>
      rename_i a b p
      refine ⟨_, rfl, _, _, .type "tuple", _, true, rfl, .ty "tuple", tup h, L2.kit_ty (by decide +kernel), _, rfl, ?_⟩
      refine iteF ?_
      refine ⟨_, rfl, _, _, rfl, SqT.of h, rfl, _, rfl, ?_⟩
      refine iteDN (fun c => absurd rfl c) (fun _ => ?_)
      refine ⟨_, rfl, _, _, rfl, SqT.of h, rfl, _, _, rfl, _, _, rfl, rfl, ?_⟩
      refine ⟨_, rfl, _, _, .type "bool", _, true, rfl, .ty "int", .base (.bl b), L2.kit_ty (by decide +kernel), _, rfl, ?_⟩
      refine iteF ?_
      refine ⟨_, rfl, _, _, .type "bool", _, true, rfl, .ty "bool", .base (.bl b), L2.kit_ty (by decide +kernel), _, rfl, ?_⟩
      refine iteT ?_
      exact q H (Same.refl H)
    | sign h n =>
      rename_i a s p
      refine ⟨_, rfl, _, _, .type "tuple", _, true, rfl, .ty "tuple", tup h, L2.kit_ty (by decide +kernel), _, rfl, ?_⟩
      refine iteF ?_
      refine ⟨_, rfl, _, _, rfl, SqT.of h, rfl, _, rfl, ?_⟩
      refine iteDN (fun c => absurd rfl c) (fun _ => ?_)
      refine ⟨_, rfl, _, _, rfl, SqT.of h, rfl, _, _, rfl, _, _, rfl, rfl, ?_⟩
      refine ⟨_, rfl, _, _, .type "int", _, true, rfl, .ty "int", .base (.int _), L2.kit_ty (by decide +kernel), _, rfl, ?_⟩
      refine iteF ?_
      refine ⟨_, rfl, _, _, .type "int", _, false, rfl, .ty "bool", .base (.int _), L2.kit_ty (by decide +kernel), _, rfl, ?_⟩
      refine iteF ?_
      refine ⟨_, rfl, _, rfl, (by show 2 ≤ sizeLine; decide), fun p1 np1 => ?_⟩
      have nin : inV (.int s) [.int 1, .int (-1)] = false := by
        show ((1 : Int) == s || ((-1 : Int) == s || false)) = false
        rw [beq_eq_false_iff_ne.mpr (Ne.symm n.1), beq_eq_false_iff_ne.mpr (Ne.symm n.2)]
        rfl
      refine ⟨p1, [.int 1, .int (-1)], rfl, .inr (SqT.of upd_same), rfl, rfl, _, by rw [nin], ?_⟩
      refine iteT ?_
      exact q _ (Same.new np1)
    | none h s1 n =>
      rename_i a s p
      refine ⟨_, rfl, _, _, .type "tuple", _, true, rfl, .ty "tuple", tup h, L2.kit_ty (by decide +kernel), _, rfl, ?_⟩
      refine iteF ?_
      refine ⟨_, rfl, _, _, rfl, SqT.of h, rfl, _, rfl, ?_⟩
      refine iteDN (fun c => absurd rfl c) (fun _ => ?_)
      refine ⟨_, rfl, _, _, rfl, SqT.of h, rfl, _, _, rfl, _, _, rfl, rfl, ?_⟩
      refine ⟨_, rfl, _, _, .type "int", _, true, rfl, .ty "int", .base (.int _), L2.kit_ty (by decide +kernel), _, rfl, ?_⟩
      refine iteF ?_
      refine ⟨_, rfl, _, _, .type "int", _, false, rfl, .ty "bool", .base (.int _), L2.kit_ty (by decide +kernel), _, rfl, ?_⟩
      refine iteF ?_
      refine ⟨_, rfl, _, rfl, (by show 2 ≤ sizeLine; decide), fun p1 np1 => ?_⟩
      refine ⟨p1, [.int 1, .int (-1)], rfl, .inr (SqT.of upd_same), rfl, rfl, _, by rw [inb s s1], ?_⟩
      refine iteF ?_
      refine ⟨_, rfl, p, rfl, .inr ⟨n, ?_⟩⟩
      refine ⟨false, rfl, ?_⟩
      rw [if_neg (by decide)]
      exact q _ (Same.new np1)
    | neg h s1 n =>
      rename_i a s z
      refine ⟨_, rfl, _, _, .type "tuple", _, true, rfl, .ty "tuple", tup h, L2.kit_ty (by decide +kernel), _, rfl, ?_⟩
      refine iteF ?_
      refine ⟨_, rfl, _, _, rfl, SqT.of h, rfl, _, rfl, ?_⟩
      refine iteDN (fun c => absurd rfl c) (fun _ => ?_)
      refine ⟨_, rfl, _, _, rfl, SqT.of h, rfl, _, _, rfl, _, _, rfl, rfl, ?_⟩
      refine ⟨_, rfl, _, _, .type "int", _, true, rfl, .ty "int", .base (.int _), L2.kit_ty (by decide +kernel), _, rfl, ?_⟩
      refine iteF ?_
      refine ⟨_, rfl, _, _, .type "int", _, false, rfl, .ty "bool", .base (.int _), L2.kit_ty (by decide +kernel), _, rfl, ?_⟩
      refine iteF ?_
      refine ⟨_, rfl, _, rfl, (by show 2 ≤ sizeLine; decide), fun p1 np1 => ?_⟩
      refine ⟨p1, [.int 1, .int (-1)], rfl, .inr (SqT.of upd_same), rfl, rfl, _, by rw [inb s s1], ?_⟩
      refine iteF ?_
      have Wz_ : WF z := (wz_of (k := 64) (by decide) (show -(2 ^ 64) ≤ z by omega) (by omega)).wf
      refine ⟨_, rfl, .int z, rfl, .inl ⟨⟨z, .int z⟩, ?_⟩⟩
      refine ⟨true, rfl, ?_⟩
      rw [if_pos rfl]
      refine ⟨_, rfl, .int z, z, rfl, .int z, Wz_.inb, Wz_.eq, fun x H2 e2 d2 => ?_⟩
      obtain ⟨hi, hb, hg⟩ := neg_gU1 Wz_
      refine ⟨x, _, rfl, d2, hi, hb, fun H3 e3 => ?_⟩
      rw [hg, decide_eq_true n.2]
      exact ⟨true, rfl, q H3 ((Same.new np1).trans (e2.trans e3))⟩
theorem ok_InvalidTerm {C f cc cda : Addr} {oc : Value} {od : Option Addr} {osl : Array (Option Value)} {kV doc pm ct : Value} {an : Option Addr} (T : SxF P K mg C cc cda "InvalidTerm.__init__")
    (lk : K.lookup f = some ⟨oc, od, .func (sxFd "InvalidTerm.__init__" S_InvalidTerm cc cda kV doc pm an ct), osl⟩) (no1 : PySem.W.findIn K (.ref C) "index" = some none) :
    FnOk P w K mg base CX0 1 f (sxFd "InvalidTerm.__init__" S_InvalidTerm cc cda kV doc pm an ct) ["self", "index"] (spErr C ["index"] oneInt) := by
  have S : NScope ["self", "index", "__class__"] ["self", "index"] ["__class__"] (defScope S_InvalidTerm) := nscope_by (by decide +kernel)
  refine err1_ok T lk S ⟨⟨_, _, _, _, _, _, rfl, fun _ => rfl, fun _ => rfl, fun _ => rfl, fun _ => rfl⟩, rfl, ⟨_, rfl, rfl⟩⟩ no1 rfl rfl (fun _ => rfl) (fun A outer s H E => ⟨_, pa_cons (pe_joined (.cons pe_str (.cons (pe_fmt (pe_var (i := 1) rfl (.inl (S.par _ (by simp))))) (.cons pe_str .nil)))) pa_nil, fun a v H Q hg q => ?_⟩)
  obtain ⟨i, e, hi⟩ := hg
  cases e
  have li := small_txt hi
  refine ⟨_, rfl, ?_, _, rfl, .inr ⟨i, rfl, small_log hi, _, rfl, ?_, _, rfl, ?_, q _⟩⟩
  all_goals
    simp only [PySem.Str.length_append]
    have a0 : PySem.Str.empty.length = 0 := rfl
    have a1 : ("entry " : Str).length = 6 := by decide +kernel
    have a2 : (" is no term" : Str).length = 11 := by decide +kernel
    rw [PySem.sizeLine_eq]
    omega
abbrev S_signed_sum : Stmt := top 146
abbrev N_signed_sum : List Str := ["terms", "forms", "index", "term", "sign", "place", "power"]
abbrev P_signed_sum : List Str := ["terms"]
theorem sc_signed_sum : FnScope N_signed_sum P_signed_sum (defScope S_signed_sum) := ⟨rfl, rfl, rfl, by decide +kernel, rfl, by decide +kernel, by decide +kernel⟩
def tv (e : Int × Nat) : Int := e.1 * 2 ^ e.2
def spSS (K : PySem.W.Frag) (C_Far C : Addr) : Sp := fun vs H Q E => ∃ (l : Addr) (xs : List V) (Tl : List (Int × Nat)), vs = [.ref l] ∧ Sq K H l xs ∧ Tl.length ≤ 20 ∧ (∀ i x, xs[i]? = some x → i < Tl.length → ∃ e, Tl[i]? = some e ∧ Tm K C_Far H x e) ∧
  ((Tl.length = xs.length ∧ ∀ (b : Addr) (H' : Hp), Same H H' → FarO K C_Far 1 H' b (Tl.map tv).sum → Q (.ref b) H') ∨
   ((∃ x, xs[Tl.length]? = some x ∧ NoTm K H x) ∧ ∀ (H' : Hp) (b : Addr), Same H H' → H' b = none → E (.ref C) (some b) (upd H' b (.xd [("index", .int (Tl.length : Int))]))))
theorem tv_wz {e : Int × Nat} (s : e.1 = 1 ∨ e.1 = -1) (p : e.2 ≤ 1000) : -(2 ^ 1000) ≤ tv e ∧ tv e ≤ 2 ^ 1000 ∧ Wz (tv e) := by
  have h := p_le p
  have h0 : (0 : Int) < 2 ^ e.2 := Int.pow_pos (by decide)
  have h1 : (2 : Int) ^ 1001 = 2 * 2 ^ 1000 := by rw [Int.pow_succ, Int.mul_comm]
  have hp : (0 : Int) < 2 ^ 1000 := Int.pow_pos (by decide)
  have b : -(2 ^ 1000) ≤ tv e ∧ tv e ≤ 2 ^ 1000 := by
    unfold tv
    rcases s with s | s <;> rw [s]
    · omega
    · omega
  exact ⟨b.1, b.2, wz_of (k := 1001) (by decide) (by omega) (by omega)⟩
theorem sum_bdT {B : Int} : ∀ {zs : List Int}, (∀ z ∈ zs, -B ≤ z ∧ z ≤ B) → -((zs.length : Int) * B) ≤ zs.sum ∧ zs.sum ≤ (zs.length : Int) * B
  | [], _ => by simp
  | z :: zs, h => by
    have h1 := h z (by simp)
    have h2 := sum_bdT (zs := zs) fun y hy => h y (by simp [hy])
    rw [List.sum_cons, List.length_cons, Int.natCast_add, Int.add_mul]
    omega
theorem sum_wz {zs : List Int} (l : zs.length ≤ 20) (h : ∀ z ∈ zs, -(2 ^ 1000) ≤ z ∧ z ≤ 2 ^ 1000) : Wz zs.sum := by
  have b := sum_bdT h
  have p : (0 : Int) < 2 ^ 1000 := Int.pow_pos (by decide)
  have e : (2 : Int) ^ 1005 = 2 ^ 1000 * 32 := by rw [show (1005 : Nat) = 1000 + 5 from rfl, Int.pow_add]; rfl
  have m : (zs.length : Int) * 2 ^ 1000 ≤ 20 * 2 ^ 1000 := Int.mul_le_mul_of_nonneg_right (by omega) (by omega)
  exact wz_of (k := 1005) (by decide) (by omega) (by omega)
theorem ok_ss {C : Addr} {k : Nat} (k9 : 15 ≤ k) (F : Fun K "signed_sum" "signed_sum" S_signed_sum f fd) (B : Blt mg) (Cis_term : Has P w K mg base 5 "is_term" P_is_term [] (spIsT K C_Far)) (Cform_in : Has P w K mg base 4 "form_in" P_form_in [] (spFormIn K C_Far 1)) (Cshifted_up : Has P w K mg base k "shifted_up" P_shifted_up [] (spWS K fun z p => z * 2 ^ p)) (Copposite : Has P w K mg base k "opposite" P_opposite [] (spW1 K fun z => -z))
    (Ctotal : Has P w K mg base k "total" P_total [] (spTotal K (gU 0) (SU 8500 0))) (Cfar_of : Has P w K mg base 8 "far_of" P_far_of [] (spFarOf K C_Far 1)) (TN : Err P w K mg base "InvalidTerm" C ["index"] oneInt) : FnOk P w K mg base (L2.CX P w) (k + 1) f fd P_signed_sum (spSS K C_Far C) := by
  have nd := sc_signed_sum.nd
  refine F.okX sc_signed_sum (fun vs H Q E h => ?_) (fun cdv A outer s H vs Q E hr h => ?_)
  · obtain ⟨l, xs, Tl, rfl, _⟩ := h
    rfl
  obtain ⟨l, xs, Tl, rfl, hxs, l20, tms, res⟩ := h
  refine ⟨_, (pss_cons (ps_set (i := 1) nd rfl (Or.inl rfl) (pe_lst pa_nil))
    (pss_cons (ps_for (passes_of rfl) rfl (pi_enumQ K (by rfl) B.enumerate (pa_cons (pv 0) pa_nil)) (pg_tup rfl (pgs_cons (pg_name (i := 2) nd rfl (Or.inl rfl)) (pgs_cons (pg_name (i := 3) nd rfl (Or.inl rfl)) pgs_nil))) (C8.pss_cut (ps_if (pt_not (pt_val (pe_H Cis_term (hr.mono (by omega)) rfl (pa_cons (pv 3) pa_nil)))) (pss_one (ps_raise rfl (takes_of rfl rfl rfl rfl) (pmk_err TN (hr.mono (by omega)) rfl (pa_cons (pv 2) pa_nil)))) pss_nil)
    (pss_cons (ps_asg (pv 3) (pg_tup rfl (pgs_cons (pg_name (i := 4) nd rfl (Or.inl rfl)) (pgs_cons (pg_name (i := 5) nd rfl (Or.inl rfl)) pgs_nil))))
    (C8.pss_cut (ps_set (i := 6) nd rfl (Or.inl rfl) (pe_H Cshifted_up (hr.mono (by omega)) rfl (pa_cons pe_int (pa_cons (pe_H Cform_in (hr.mono (by omega)) rfl (pa_cons (pv 5) pa_nil)) pa_nil))))
    (pss_one (ps_expr (pe_bm PySem.F.plainAttrs_list PySem.F.slot_list_append PySem.F.type_list_append mt_append (pv 1) (pa_cons (pe_ifExp (pt_cmpR op_eq (pv 4) pe_int (nomark _)) (pv 6) (pe_H Copposite (hr.mono (by omega)) rfl (pa_cons (pv 6) pa_nil))) pa_nil))))))))
    (pss_one (ps_ret (pe_H Cfar_of (hr.mono (by omega)) rfl (pa_cons (pe_H Ctotal (hr.mono (by omega)) rfl (pa_cons (pv 1) pa_nil)) pa_nil)))))), ?_⟩
  refine ⟨(by show 0 ≤ sizeLine; decide), fun fm nfm => ?_⟩
  have Wt : ∀ e ∈ Tl, Wz (tv e) ∧ -(2 ^ 1000) ≤ tv e ∧ tv e ≤ 2 ^ 1000 := fun e he => by
    obtain ⟨i, hi⟩ := List.mem_iff_getElem?.mp he
    have il : i < Tl.length := (List.getElem?_eq_some_iff.mp hi).1
    have ix : i < xs.length := by
      rcases res with ⟨el, _⟩ | ⟨⟨x, hx, _⟩, _⟩
      · omega
      · have := (List.getElem?_eq_some_iff.mp hx).1
        omega
    obtain ⟨e', he', tm⟩ := tms i xs[i] (List.getElem?_eq_getElem ix) il
    rw [hi] at he'
    obtain rfl := Option.some.inj he'
    have k := tv_wz tm.side tm.place
    exact ⟨k.2.2, k.1, k.2.1⟩
  refine for_enum (a := l) (xs := xs) (H0 := H) (fun Q q => ⟨_, rfl, q⟩) hxs (fun i σ H' => ∃ (z2 z3 z4 z5 z6 : Option V) (us : List V), σ = [some (.ref l), some (.ref fm), z2, z3, z4, z5, z6] ∧ Same H H' ∧ H' fm = some (.lst us) ∧ us.length ≤ i ∧ i ≤ Tl.length ∧ DpAll K H' us ((Tl.take i).map fun e => gU 1 (tv e))) ⟨_, _, _, _, _, _, rfl, Same.new nfm, upd_same, Nat.le_refl _, Nat.zero_le _, .nil⟩ (fun i σ H' _ h => ?_) (fun i x σ H1 H2 hi h y => ?_) (fun σ H' h => ?_)
  · obtain ⟨_, _, _, _, _, _, _, e, _⟩ := h
    exact e
  · obtain ⟨z2, z3, z4, z5, z6, us, rfl, e, hfm, lu, iT, du⟩ := h
    obtain ⟨T0, x0, y0, rfl, nT, rfl, ex0, ey0⟩ := y
    obtain rfl := Option.some.inj ex0
    replace ey0 : xs[i]? = some y0 := ey0
    have eT : Same H1 (upd H1 T0 (.tup [.int (i : Int), y0])) := Same.new nT
    refine ⟨_, _, rfl, SqT.of upd_same, rfl, _, _, rfl, _, _, rfl, rfl, ?_⟩
    have e02 := e.trans eT
    have hfm2 := eT _ _ hfm
    have du2 := (Nd.of eT).ds du
    generalize upd H1 T0 (.tup [.int (i : Int), y0]) = H2 at e02 hfm2 du2 eT ⊢
    refine ⟨fun σ H' => ∃ e' : Int × Nat, Tl[i]? = some e' ∧ Tm K C_Far H' y0 e' ∧ σ = [some (.ref l), some (.ref fm), some (.int (i : Int)), some y0, z4, z5, z6] ∧ Same H2 H', ?_, ?_⟩
    · rcases Nat.lt_or_ge i Tl.length with g | g
      · obtain ⟨e', he', tm⟩ := tms i y0 ey0 g
        refine ⟨_, rfl, y0, rfl, .inl ⟨⟨e', tm.same e02⟩, fun H3 e3 => ?_⟩⟩
        refine ⟨_, rfl, ?_⟩
        refine iteF ?_
        exact ⟨e', he', (tm.same e02).same e3, rfl, e3⟩
      · have ei : i = Tl.length := by omega
        rcases res with ⟨el, _⟩ | ⟨⟨x, hx, nt⟩, q2⟩
        · omega
        · rw [← ei, ey0] at hx
          obtain rfl := Option.some.inj hx
          refine ⟨_, rfl, y0, rfl, .inr ⟨nt.same e02, fun H3 e3 => ?_⟩⟩
          refine ⟨_, rfl, ?_⟩
          refine iteT ?_
          rw [← ei] at q2
          exact ⟨_, rfl, err_mk rfl (by decide) ⟨(i : Int), rfl, by omega⟩ fun dd hdd => q2 H3 dd (e02.trans e3) hdd⟩
    rintro σ H3 ⟨⟨s, p⟩, he', tm, rfl, e3⟩
    obtain ⟨a, pv, rfl, ha, hn⟩ := tm.ex
    have p1000 : p ≤ 1000 := tm.place
    have side : s = 1 ∨ s = -1 := tm.side
    have Wp := Wz.place (p := (p : Int)) (by omega) (by omega)
    have iL : i < Tl.length := (List.getElem?_eq_some_iff.mp he').1
    have hfm3 := e3 _ _ hfm2
    have du3 := (Nd.of e3).ds du2
    have w2 : Wz ((2 : Int) ^ p) := (tv_wz (e := (1, p)) (.inl rfl) p1000).2.2 |> fun h => by unfold tv at h; rw [Int.one_mul] at h; exact h
    refine ⟨_, rfl, _, _, rfl, SqT.of ha, rfl, _, _, rfl, _, _, rfl, rfl, ?_⟩
    refine ⟨fun σ H' => ∃ v6 : V, σ = [some (.ref l), some (.ref fm), some (.int (i : Int)), some (.ref a), some (.int s), some pv, some v6] ∧ Same H3 H' ∧ Dp K H' v6 (gU 1 ((2 : Int) ^ p)), ?_, ?_⟩
    · refine ⟨_, rfl, pv, (p : Int), rfl, hn, Wp.1.wf.inb, Wp.1.wf.eq, fun x H4 e4 d4 => ?_⟩
      have ex := dp_small d4 (plain_nat (by omega))
      subst ex
      refine ⟨.int 1, 1, p, rfl, dp_int (by decide), (Wz.place (p := 1) (by decide) (by decide)).1, by omega, (by show Wz (1 * 2 ^ p); rw [Int.one_mul]; exact w2), fun v' H5 e5 d5 => ?_⟩
      replace d5 : Dp K H5 v' (gU 1 (1 * 2 ^ p)) := d5
      rw [Int.one_mul] at d5
      exact ⟨v', rfl, e4.trans e5, d5⟩
    rintro σ H4 ⟨v6, rfl, e4, d6⟩
    have hfm4 := e4 _ _ hfm3
    have du4 := (Nd.of e4).ds du3
    have take : (Tl.take (i + 1)).map (fun e => gU 1 (tv e)) = (Tl.take i).map (fun e => gU 1 (tv e)) ++ [gU 1 (tv (s, p))] := by
      rw [List.take_succ, he', List.map_append]
      rfl
    have W3 := (tv_wz (e := (s, p)) side p1000).2.2
    have fin : ∀ (u : V) (H5 : Hp), Same H4 H5 → Dp K H5 u (gU 1 (tv (s, p))) → us.length < sizeLine ∧ ∃ (z2 z3 z4 z5 z6 : Option V) (us' : List V), ([some (.ref l), some (.ref fm), some (.int (i : Int)), some (.ref a), some (.int s), some pv, some v6] : L2.St) = [some (.ref l), some (.ref fm), z2, z3, z4, z5, z6] ∧ Same H (upd H5 fm (.lst (us ++ [u]))) ∧ (upd H5 fm (.lst (us ++ [u]))) fm = some (.lst us') ∧ us'.length ≤ i + 1 ∧ i + 1 ≤ Tl.length ∧ DpAll K (upd H5 fm (.lst (us ++ [u]))) us' ((Tl.take (i + 1)).map fun e => gU 1 (tv e)) := fun u H5 e5 d5 => by
      have hf5 := e5 _ _ hfm4
      refine ⟨Nat.lt_of_le_of_lt (show us.length ≤ 20 by omega) (by decide), _, _, _, _, _, us ++ [u], rfl, Same.mut (e02.trans (e3.trans (e4.trans e5))) nfm, upd_same, by rw [List.length_append]; show us.length + 1 ≤ i + 1; omega, by omega, ?_⟩
      rw [take]
      refine (Td.lst hf5).ds (n := 1) (fun d hd => ?_) (dps_app ((Nd.of e5).ds du4) (.cons d5 .nil))
      rcases List.mem_append.mp hd with hd | hd
      · obtain ⟨e', he2, rfl⟩ := List.mem_map.mp hd
        exact (Wt e' (List.mem_of_mem_take he2)).1.wf.fit.fm
      · rw [List.mem_singleton.mp hd]
        exact W3.wf.fit.fm
    refine ⟨_, rfl, .inl ⟨rfl, _, SqL.of hfm4⟩, _, rfl, rfl, _, rfl, ?_⟩
    refine iteD (fun c => ?_) (fun c => ?_)
    · have s1 : s = 1 := by injection c
      subst s1
      have d6' : Dp K H4 v6 (gU 1 (tv (1, p))) := by
        have e1 : tv (1, p) = 2 ^ p := by unfold tv; exact Int.one_mul _
        rw [e1]
        exact d6
      obtain ⟨sz, inv⟩ := fin v6 H4 (Same.refl H4) d6'
      exact ⟨_, rfl, fm, _, _, rfl, rfl, hfm4, sz, inv⟩
    · have s1 : s = -1 := by
        rcases side with h | h
        · exact absurd (by rw [h]) c
        · exact h
      subst s1
      have e1 : tv (-1, p) = -(2 ^ p) := by unfold tv; dsimp only; omega
      rw [e1] at W3
      refine ⟨_, rfl, v6, (2 : Int) ^ p, rfl, d6, w2, W3, fun u H5 e5 d5 => ?_⟩
      replace d5 : Dp K H5 u (gU 1 (-(2 ^ p))) := d5
      rw [← e1] at d5
      obtain ⟨sz, inv⟩ := fin u H5 e5 d5
      exact ⟨fm, _, _, rfl, rfl, e5 _ _ hfm4, sz, inv⟩
  · obtain ⟨z2, z3, z4, z5, z6, us, rfl, e, hfm, lu, iT, du⟩ := h
    rcases res with ⟨el, q⟩ | ⟨⟨x, hx, nt⟩, q2⟩
    · rw [← el, List.take_length] at du
      have tot := tot_red (n := 1000) (R := 10) (by decide) (zs := Tl.map tv) fun z hz => by
        obtain ⟨e', he, rfl⟩ := List.mem_map.mp hz
        exact ⟨(Wt e' he).2.1, (Wt e' he).2.2⟩
      refine ⟨_, rfl, fm, us, Tl.map tv, 10, rfl, SqL.of hfm, by rw [List.map_map]; exact du, by rw [List.length_map]; omega, by rw [List.length_map]; omega, fun z hz => ?_, tot, fun v H2 e2 d2 => ?_⟩
      · obtain ⟨e', he, rfl⟩ := List.mem_map.mp hz
        exact (Wt e' he).1.wf.num
      · have wsum := sum_wz (zs := Tl.map tv) (by rw [List.length_map]; omega) fun z hz => by
          obtain ⟨e', he, rfl⟩ := List.mem_map.mp hz
          exact ⟨(Wt e' he).2.1, (Wt e' he).2.2⟩
        refine ⟨v, _, rfl, d2, wsum.wf.fit, fun b H3 e3 o => ?_⟩
        exact q b H3 (e.trans (e2.trans e3)) o
    · have := (List.getElem?_eq_some_iff.mp hx).1
      omega
end
end Fb
/-! ### the pen: a dict of the cells, the place, the rest; n draws are left -/
namespace Fb
open PySem L2
def pp (c : Addr) (at_ rest : Int) : List (Key × V) := [(.inr "cells", .ref c), (.inr "place", .int at_), (.inr "rest", .int rest)]
/-- the tape as it stands -/
structure PS_ (K : PySem.W.Frag) (t c : Addr) (cs : List Int) (a r : Int) (H : Hp) : Prop where
  d : H t = some (.dK (pp c a r))
  s : SqL K H c (cs.map V.int)
theorem PS_.new {K : PySem.W.Frag} {t c p : Addr} {cs : List Int} {a r : Int} {H : Hp} {o : HO} (h : PS_ K t c cs a r H) (np : H p = none) : PS_ K t c cs a r (upd H p o) :=
  ⟨by rw [upd_ne (ne_of_none h.d np)]; exact h.d, (Nd.new np).sql h.s⟩
theorem PS_.put {K : PySem.W.Frag} {t c : Addr} {cs : List Int} {a r b u : Int} {H : Hp} (h : PS_ K t c cs a r H) : PS_ K t c cs b u (upd H t (.dK (pp c b u))) :=
  ⟨upd_same, (Nd.tape h.d).sql h.s⟩
theorem PS_.cells {K : PySem.W.Frag} {t c : Addr} {cs : List Int} {a r : Int} {H : Hp} (h : PS_ K t c cs a r H) : DGet H t (.str "cells") (some (.ref c)) := DGet.k (k := Sum.inr "cells") h.d
theorem PS_.at_ {K : PySem.W.Frag} {t c : Addr} {cs : List Int} {a r : Int} {H : Hp} (h : PS_ K t c cs a r H) : DGet H t (.str "place") (some (.int a)) := DGet.k (k := Sum.inr "place") h.d
theorem PS_.rest {K : PySem.W.Frag} {t c : Addr} {cs : List Int} {a r : Int} {H : Hp} (h : PS_ K t c cs a r H) : DGet H t (.str "rest") (some (.int r)) := DGet.k (k := Sum.inr "rest") h.d
theorem PS_.pat {K : PySem.W.Frag} {t c : Addr} {cs : List Int} {a r b : Int} {H : Hp} (h : PS_ K t c cs a r H) : DPut H t (.str "place") (.int b) (upd H t (.dK (pp c b r))) := DPut.k (k := Sum.inr "place") h.d (by show 3 < sizeLine; decide)
theorem PS_.prest {K : PySem.W.Frag} {t c : Addr} {cs : List Int} {a r b : Int} {H : Hp} (h : PS_ K t c cs a r H) : DPut H t (.str "rest") (.int b) (upd H t (.dK (pp c a b))) := DPut.k (k := Sum.inr "rest") h.d (by show 3 < sizeLine; decide)
/-- the pen stands, n draws are left -/
def Pen (K : PySem.W.Frag) (τ : Tp) (n : Nat) (H : Hp) : Prop := ∃ at_ rest : Int, PS_ K τ.t τ.c τ.cs at_ rest H ∧ τ.cs.length ≤ 63 ∧ 0 ≤ at_ ∧ at_ + n ≤ 2 ^ 40 ∧ 0 ≤ rest
theorem Pen.mono {K : PySem.W.Frag} {τ : Tp} {n m : Nat} {H : Hp} (h : Pen K τ n H) (e : m ≤ n) : Pen K τ m H := by
  obtain ⟨a, r, h1, h4, h5, h6, h7⟩ := h
  exact ⟨a, r, h1, h4, h5, by omega, h7⟩
theorem Pen.same {K : PySem.W.Frag} {τ : Tp} {n : Nat} {H H' : Hp} (h : Pen K τ n H) (e : Same H H') : Pen K τ n H' := by
  obtain ⟨a, r, h1, h3⟩ := h
  exact ⟨a, r, ⟨e _ _ h1.d, e.seq h1.s⟩, h3⟩
theorem Pen.new {K : PySem.W.Frag} {τ : Tp} {n : Nat} {H : Hp} {p : Addr} {o : HO} (h : Pen K τ n H) (np : H p = none) : Pen K τ n (upd H p o) := h.same fun b u q => by rw [upd_ne (ne_of_none q np)]; exact q
/-- an object made behind H0 may change -/
theorem Pen.mut {K : PySem.W.Frag} {τ : Tp} {n m : Nat} {H H0 : Hp} {p : Addr} {o : HO} (h0 : Pen K τ m H0) (np : H0 p = none) (h : Pen K τ n H) : Pen K τ n (upd H p o) := by
  obtain ⟨a0, r0, k1, _⟩ := h0
  obtain ⟨a, r, h1, h3⟩ := h
  refine ⟨a, r, ⟨by rw [upd_ne (by rintro rfl; rw [k1.d] at np; cases np)]; exact h1.d, ?_⟩, h3⟩
  have key : ∀ u, H0 τ.c = some u → SqL K (upd H p o) τ.c (τ.cs.map V.int) := fun u hu => by
    have hn : τ.c ≠ p := by intro z; rw [z, np] at hu; cases hu
    rcases h1.s with (h | ⟨w, h⟩) | h
    · exact .inl (.inl (by rw [upd_ne hn]; exact h))
    · exact .inl (.inr ⟨w, by rw [upd_ne hn]; exact h⟩)
    · exact .inr h
  rcases k1.s with (h | ⟨w, h⟩) | h
  · exact key _ h
  · exact key _ h
  · exact .inr h
def spPen (K : PySem.W.Frag) : Sp := fun vs H Q _ => ∃ (a : Addr) (ns : List Int), vs = [.ref a] ∧ SqL K H a (ns.map V.int) ∧ ns.length ≤ 63 ∧ ∀ (τ : Tp) (H' : Hp), Same H H' → Pen K τ (2 ^ 39) H' → Q (.ref τ.t) H'
def spDrawP (K : PySem.W.Frag) : Sp := fun vs H Q _ => ∃ (τ : Tp) (lim : Int) (n : Nat), vs = [.ref τ.t, .int lim] ∧ Pen K τ (n + 1) H ∧ 0 < lim ∧ lim < BigL ∧
  ∀ (d : Int) (H' : Hp), Nd H H' → Pen K τ n H' → 0 ≤ d → d < lim → Q (.int d) H'
def spPickP (K : PySem.W.Frag) : Sp := fun vs H Q _ => ∃ (τ : Tp) (l : Addr) (xs : List V) (n : Nat), vs = [.ref τ.t, .ref l] ∧ SqL K H l xs ∧ xs ≠ [] ∧ xs.length ≤ 100000 ∧ Pen K τ (n + 1) H ∧ ∀ (x : V) (H' : Hp), Nd H H' → Pen K τ n H' → x ∈ xs → Q x H'
end Fb
namespace Fb
open PySem L2
section
variable {P : Program} {w : World} {K : PySem.W.Frag} {mg : Str → Option Value} {base : Heap} {f : Addr} {fd : FuncData}
abbrev S__law_pen : Stmt := top 149
abbrev N__law_pen : List Str := ["_law_script"]
abbrev P__law_pen : List Str := ["_law_script"]
theorem sc__law_pen : FnScope N__law_pen P__law_pen (defScope S__law_pen) := ⟨rfl, rfl, rfl, by decide +kernel, rfl, by decide +kernel, by decide +kernel⟩
theorem ok_pen (F : Fun K "_law_pen" "_law_pen" S__law_pen f fd) (B : Blt mg) : FnOk P w K mg base CX0 1 f fd P__law_pen (spPen K) := by
  have nd := sc__law_pen.nd
  refine F.ok sc__law_pen (fun vs H Q E h => ?_) (fun cdv A outer s H vs Q E hr h => ?_)
  · obtain ⟨a, ns, rfl, _⟩ := h
    rfl
  obtain ⟨a, ns, rfl, hS, h63, q⟩ := h
  refine ⟨_, (pss_one (ps_ret (pe_disp (pps_cons pe_str (pe_callTy call_listL (by rfl) B.list (by decide +kernel) (pa_cons (pe_slice sl_list (pv 0) po_none (po_some pe_int)) pa_nil)) (pps_cons pe_str pe_int (pps_cons pe_str pe_int pps_nil))) (by rfl) (by rfl) (fun z => by cases z) (by decide)))), ?_⟩
  refine fun p np => ?_
  have g0 : Same H (upd H p (.dK [])) := Same.new np
  refine ⟨_, rfl, _, rfl, _, _, rfl, g0.seq hS, fun l nl => ?_⟩
  have nlp : p ≠ l := by rintro rfl; rw [upd_same] at nl; cases nl
  have ec : ∃ cs : List Int, cutV (ns.map V.int) none (some 63) = cs.map V.int ∧ cs.length ≤ 63 := by
    unfold cutV
    rw [← List.map_drop, ← List.map_take]
    exact ⟨_, rfl, by rw [List.length_take, List.length_drop]; omega⟩
  obtain ⟨cs, ecs, lcs⟩ := ec
  rw [ecs]
  refine ⟨_, _, rfl, SqL.of upd_same, fun m nm => ?_⟩
  have ep : (upd (upd H p (.dK [])) l (.lst (cs.map V.int))) p = some (.dK []) := by rw [upd_ne nlp, upd_same]
  have nmp : p ≠ m := by rintro rfl; rw [ep] at nm; cases nm
  have g1 : Same H (upd (upd H p (.dK [])) l (.lst (cs.map V.int))) := Same.mut g0 (g0.free nl)
  have g2 : Same H (upd (upd (upd H p (.dK [])) l (.lst (cs.map V.int))) m (.lst (cs.map V.int))) := Same.mut g1 (g1.free nm)
  have ep2 : (upd (upd (upd H p (.dK [])) l (.lst (cs.map V.int))) m (.lst (cs.map V.int))) p = some (.dK []) := by rw [upd_ne nmp]; exact ep
  refine ⟨ep2, [(.inr "cells", .ref m), (.inr "place", .int 0), (.inr "rest", .int 0)], rfl, (by show 3 ≤ 15; decide), ?_⟩
  refine q ⟨p, m, cs⟩ _ (Same.mut g2 np) ⟨0, 0, ⟨upd_same, SqL.of (by rw [upd_ne (Ne.symm nmp)]; exact upd_same)⟩, lcs, Int.le_refl _, by decide, Int.le_refl _⟩
abbrev S__law_draw : Stmt := top 150
abbrev N__law_draw : List Str := ["_law_pen_here", "_law_number", "_law_digit", "_law_at", "_law_cell", "_law_mixed"]
abbrev P__law_draw : List Str := ["_law_pen_here", "_law_number"]
theorem sc__law_draw : FnScope N__law_draw P__law_draw (defScope S__law_draw) := ⟨rfl, rfl, rfl, by decide +kernel, rfl, by decide +kernel, by decide +kernel⟩
theorem ok_drawP (F : Fun K "_law_draw" "_law_draw" S__law_draw f fd) (B : Blt mg) : FnOk P w K mg base CX0 1 f fd P__law_draw (spDrawP K) := by
  have nd := sc__law_draw.nd
  refine F.ok sc__law_draw (fun vs H Q E h => ?_) (fun cdv A outer s H vs Q E hr h => ?_)
  · obtain ⟨τ, lim, n, rfl, _⟩ := h
    rfl
  obtain ⟨⟨t, c, cs⟩, lim, n, rfl, hT, h0, h9, q⟩ := h
  refine ⟨_, (pss_cons (ps_if (pt_cmpR op_ge (pe_dget (hu_of hr) (pv 0) pe_str (fun _ _ => rfl)) (pv 1) (nomark _)) (pss_cons (ps_set (i := 2) nd rfl (Or.inl rfl) (pe_op op_modN (pe_callTy call_intI (by rfl) B.int (by decide +kernel) (pa_cons (pe_dget (hu_of hr) (pv 0) pe_str (fun _ _ => rfl)) pa_nil)) (pv 1)))
    (pss_cons (ps_dput (hu_of hr) (pv 0) pe_str (pe_op op_fdivW (pe_dget (hu_of hr) (pv 0) pe_str (fun _ _ => rfl)) (pv 1)) rfl)
    (pss_one (ps_ret (pv 2))))) pss_nil)
    (pss_cons (ps_set (i := 3) nd rfl (Or.inl rfl) (pe_dget (hu_of hr) (pv 0) pe_str (fun _ _ => rfl)))
    (pss_cons (ps_dput (hu_of hr) (pv 0) pe_str (pe_op op_add (pv 3) pe_int) rfl)
    (pss_cons (ps_set (i := 4) nd rfl (Or.inl rfl) (pe_op op_add (pe_op op_mul pe_int (pv 3)) pe_int))
    (C8.pss_cut (ps_if (pt_cmpR (op_neD hr.units) (pe_dget (hu_of hr) (pv 0) pe_str (fun _ _ => rfl)) (pe_lst pa_nil) (nomark _)) (pss_one (ps_set (i := 4) nd rfl (Or.inl rfl) (pe_ix ix_list (pe_dget (hu_of hr) (pv 0) pe_str (fun _ _ => rfl)) (pe_op op_modN (pe_callTy call_intI (by rfl) B.int (by decide +kernel) (pa_cons (pv 3) pa_nil)) (pe_callB call_lenL (by rfl) B.len PySem.boot_len (pa_cons (pe_dget (hu_of hr) (pv 0) pe_str (fun _ _ => rfl)) pa_nil))) (fun _ _ => rfl)))) pss_nil)
    (C8.pss_cut (ps_if (PW.pt (pw_and (pt_cmpR op_lt (pv 3) (pe_callB call_lenL (by rfl) B.len PySem.boot_len (pa_cons (pe_dget (hu_of hr) (pv 0) pe_str (fun _ _ => rfl)) pa_nil)) (nomark _)) (pw_and1 (pt_cmpR op_ge (pv 4) (pe_op op_pow pe_int pe_int) (nomark _))))) (pss_cons (ps_dput (hu_of hr) (pv 0) pe_str (pe_op op_fdivW (pe_op op_sub (pv 4) (pe_op op_pow pe_int pe_int)) (pv 1)) rfl)
    (pss_one (ps_ret (pe_op op_modN (pe_callTy call_intI (by rfl) B.int (by decide +kernel) (pa_cons (pe_op op_sub (pv 4) (pe_op op_pow pe_int pe_int)) pa_nil)) (pv 1))))) pss_nil)
    (C8.pss_cut (ps_set (i := 5) nd rfl (Or.inl rfl) (pe_op op_modN (pe_callTy call_intI (by rfl) B.int (by decide +kernel) (pa_cons (pe_op op_add (pe_op op_add (pe_op op_add (pe_op op_mul (pe_op op_modN (pe_callTy call_intI (by rfl) B.int (by decide +kernel) (pa_cons (pv 4) pa_nil)) pe_int) pe_int) (pe_op op_mul (pe_op op_mul pe_int (pv 3)) (pv 3))) (pe_op op_mul pe_int (pv 3))) pe_int) pa_nil)) pe_int))
    (C8.pss_cut (ps_set (i := 5) nd rfl (Or.inl rfl) (pe_op op_modN (pe_callTy call_intI (by rfl) B.int (by decide +kernel) (pa_cons (pe_op op_add (pe_op op_mul (pv 5) (pe_op op_add (pv 5) pe_int)) (pe_op op_mul pe_int (pv 3))) pa_nil)) pe_int))
    (pss_one (ps_ret (pe_op op_modN (pe_callTy call_intI (by rfl) B.int (by decide +kernel) (pa_cons (pe_op op_fdivW (pe_op op_modN (pe_callTy call_intI (by rfl) B.int (by decide +kernel) (pa_cons (pe_op op_add (pe_op op_mul (pv 5) (pv 5)) (pe_op op_mul pe_int (pv 5))) pa_nil)) pe_int) pe_int) pa_nil)) (pv 1)))))))))))), ?_⟩
  obtain ⟨a, r, ts, h4, h5, h6, h7⟩ := hT
  replace ts : PS_ K t c cs a r H := ts
  replace h4 : cs.length ≤ 63 := h4
  have hlen : ((cs.map V.int).length : Int) = cs.length := by rw [List.length_map]
  refine ⟨_, rfl, _, _, rfl, ts.rest, _, rfl, _, _, rfl, rfl, _, rfl, ?_⟩
  refine iteD (fun c1 => ?_) (fun c1 => ?_)
  · refine ⟨_, rfl, _, _, rfl, ts.rest, _, rfl, _, rfl, _, _, rfl, rfl, (by omega), ?_⟩
    refine ⟨_, rfl, _, _, rfl, ts.rest, _, rfl, _, _, rfl, rfl, div_BigL h0 h9, _, rfl, _, _, rfl, ts.prest, ?_⟩
    refine ⟨_, rfl, ?_⟩
    exact q _ _ (Nd.tape ts.d) ⟨a, r / lim, ts.put, h4, h5, by omega, Int.ediv_nonneg h7 (by omega)⟩ (Int.fmod_nonneg_of_pos _ h0) (Int.fmod_lt_of_pos _ h0)
  · refine ⟨_, rfl, _, _, rfl, ts.at_, ?_⟩
    refine ⟨_, rfl, _, _, rfl, rfl, _, rfl, _, _, rfl, ts.pat, ?_⟩
    have ts1 := ts.put (b := a + 1) (u := r)
    have ex1 := Nd.tape (o := .dK (pp c (a + 1) r)) ts.d
    generalize upd H t _ = H1 at ts1 ex1 ⊢
    refine ⟨_, rfl, _, _, rfl, rfl, .inl ⟨by omega, by omega⟩, _, _, rfl, rfl, ?_⟩
    refine ⟨fun σ H' => ∃ cell : Int, σ = [some (.ref t), some (.int lim), none, some (.int a), some (.int cell), none] ∧ Nd H H' ∧ PS_ K t c cs (a + 1) r H', ?_, ?_⟩
    · refine ⟨_, rfl, _, _, rfl, ts1.cells, (by show 0 ≤ sizeLine; decide), fun p1 np1 => ?_⟩
      have ts2 := ts1.new (o := .lst []) np1
      have ex2 := ex1.trans (Nd.new (o := .lst []) np1)
      refine ⟨_, _, .lst ts2.s (dps_ints cs), .lst (SqL.of upd_same) .nil, shaped_ints cs, shaped_nil, _, rfl, ?_⟩
      rw [eqv_nil']
      refine iteDN (fun cn => ?_) (fun _ => ?_)
      · obtain ⟨v, hv, hm⟩ := atI_mod (k := a) (by simpa using cn : cs.map V.int ≠ [])
        obtain ⟨z, hz, rfl⟩ := List.mem_map.mp hm
        have hpos : 0 < cs.length := List.length_pos_iff.mpr cn
        refine ⟨_, rfl, _, _, rfl, ts2.cells, _, rfl, _, rfl, _, rfl, _, _, rfl, ts2.cells, _, _, rfl, ts2.s, _, _, rfl, rfl, (by omega), _, _, _, _, rfl, rfl, ts2.s, hv, ?_⟩
        exact ⟨z, rfl, ex2, ts2⟩
      · exact ⟨_, rfl, ex2, ts2⟩
    clear ts1 ex1
    rintro σ H2 ⟨cell, rfl, ex2, ts2⟩
    refine ⟨fun σ H' => σ = [some (.ref t), some (.int lim), none, some (.int a), some (.int cell), none] ∧ H' = H2, ?_, ?_⟩
    · refine ⟨_, rfl, _, rfl, _, _, rfl, ts2.cells, _, _, rfl, ts2.s, _, _, rfl, rfl, _, rfl, ?_⟩
      refine iteD (fun c2 => ?_) (fun c2 => ?_)
      · refine ⟨_, rfl, _, _, rfl, rfl, (by unfold CPow; decide), _, _, rfl, rfl, _, rfl, ?_⟩
        refine iteD (fun c3 => ?_) (fun c3 => ?_)
        · refine ⟨_, rfl, _, _, rfl, rfl, (by unfold CPow; decide), _, _, rfl, rfl, _, rfl, _, _, rfl, rfl, div_BigL h0 h9, _, rfl, _, _, rfl, ts2.prest, ?_⟩
          refine ⟨_, rfl, _, _, rfl, rfl, (by unfold CPow; decide), _, _, rfl, rfl, _, rfl, _, rfl, _, _, rfl, rfl, (by omega), ?_⟩
          have c3' : (10 : Int) ^ (18 : Int).toNat ≤ cell := c3
          exact q _ _ (ex2.trans (Nd.tape ts2.d)) ⟨a + 1, _, ts2.put, h4, by omega, by omega, Int.ediv_nonneg (by omega) (by omega)⟩ (Int.fmod_nonneg_of_pos _ h0) (Int.fmod_lt_of_pos _ h0)
        · exact ⟨rfl, rfl⟩
      · refine iteF ?_
        exact ⟨rfl, rfl⟩
    rintro σ H3 ⟨rfl, rfl⟩
    have fm : ∀ (x : Int) (m : Int), 0 < m → 0 ≤ x.fmod m ∧ x.fmod m < m := fun x m hm => ⟨Int.fmod_nonneg_of_pos _ hm, Int.fmod_lt_of_pos _ hm⟩
    have b1 := fm cell 2147483543 (by decide)
    refine ⟨fun σ H' => ∃ m1 : Int, σ = [some (.ref t), some (.int lim), none, some (.int a), some (.int cell), some (.int m1)] ∧ H' = H3 ∧ 0 ≤ m1 ∧ m1 < 2147483477, ?_, ?_⟩
    · refine ⟨_, rfl, _, rfl, _, _, rfl, rfl, (by show _ ≠ (0:Int); decide), _, _, rfl, rfl, .inl ⟨by omega, by omega⟩, _, rfl, _, _, rfl, rfl, .inl ⟨by omega, by omega⟩, _, rfl, _, _, rfl, rfl, .inr ⟨by omega, by omega⟩, _, _, rfl, rfl, _, rfl, _, _, rfl, rfl, .inl ⟨by omega, by omega⟩, _, _, rfl, rfl, _, _, rfl, rfl, _, rfl, _, _, rfl, rfl, (by show _ ≠ (0:Int); decide), ?_⟩
      exact ⟨_, rfl, rfl, (fm _ _ (by decide)).1, (fm _ _ (by decide)).2⟩
    rintro σ H4 ⟨m1, rfl, rfl, b2, b2'⟩
    refine ⟨fun σ H' => ∃ m2 : Int, σ = [some (.ref t), some (.int lim), none, some (.int a), some (.int cell), some (.int m2)] ∧ H' = H4 ∧ 0 ≤ m2 ∧ m2 < 2147483423, ?_, ?_⟩
    · refine ⟨_, rfl, _, rfl, _, _, rfl, rfl, _, _, rfl, rfl, .inl ⟨by omega, by omega⟩, _, rfl, _, _, rfl, rfl, .inl ⟨by omega, by omega⟩, _, _, rfl, rfl, _, rfl, _, _, rfl, rfl, (by show _ ≠ (0:Int); decide), ?_⟩
      exact ⟨_, rfl, rfl, (fm _ _ (by decide)).1, (fm _ _ (by decide)).2⟩
    rintro σ H5 ⟨m2, rfl, rfl, b3, b3'⟩
    refine ⟨_, rfl, _, rfl, _, _, rfl, rfl, .inl ⟨by omega, by omega⟩, _, rfl, _, _, rfl, rfl, .inl ⟨by omega, by omega⟩, _, _, rfl, rfl, _, rfl, _, _, rfl, rfl, (by show _ ≠ (0:Int); decide), _, _, rfl, rfl, ⟨by decide, by decide +kernel⟩, _, rfl, _, rfl, _, _, rfl, rfl, (by omega), ?_⟩
    exact q _ _ ex2 ⟨a + 1, r, ts2, h4, by omega, by omega, h7⟩ (Int.fmod_nonneg_of_pos _ h0) (Int.fmod_lt_of_pos _ h0)
abbrev S__law_pick : Stmt := top 151
abbrev N__law_pick : List Str := ["_law_pen_here", "_law_items"]
abbrev P__law_pick : List Str := ["_law_pen_here", "_law_items"]
theorem sc__law_pick : FnScope N__law_pick P__law_pick (defScope S__law_pick) := ⟨rfl, rfl, rfl, by decide +kernel, rfl, by decide +kernel, by decide +kernel⟩
theorem ok_pickP (F : Fun K "_law_pick" "_law_pick" S__law_pick f fd) (B : Blt mg) (C_law_draw : Has P w K mg base 1 "_law_draw" P__law_draw [] (spDrawP K)) : FnOk P w K mg base CX0 2 f fd P__law_pick (spPickP K) := by
  have nd := sc__law_pick.nd
  refine F.ok sc__law_pick (fun vs H Q E h => ?_) (fun cdv A outer s H vs Q E hr h => ?_)
  · obtain ⟨t, l, xs, n, rfl, _⟩ := h
    rfl
  obtain ⟨t, l, xs, n, rfl, hS, h0, h1, hT, q⟩ := h
  refine ⟨_, (pss_one (ps_ret (pe_ix ix_list (pv 1) (pe_H C_law_draw (hr.mono (by decide)) rfl (pa_cons (pv 0) (pa_cons (pe_callB call_lenL (by rfl) B.len PySem.boot_len (pa_cons (pv 1) pa_nil)) pa_nil))) (fun _ _ => rfl)))), ?_⟩
  have hp : 0 < xs.length := List.length_pos_iff.mpr h0
  refine ⟨_, rfl, _, rfl, _, rfl, _, _, rfl, hS, t, _, n, rfl, hT, (by omega), lt_BigL (by omega), fun d H' e hT' d0 d1 => ?_⟩
  obtain ⟨j, rfl⟩ := Int.eq_ofNat_of_zero_le d0
  have hj : j < xs.length := by omega
  have hx := List.getElem?_eq_getElem hj
  exact ⟨_, _, _, _, rfl, rfl, e.sql hS, atI_nat hx, q _ _ e hT' (List.mem_of_getElem? hx)⟩
end
end Fb
namespace Fb
open PySem L2
theorem flip_odd : ∀ i : Nat, flip (-1) i = if i % 2 = 1 then 1 else -1
  | 0 => rfl
  | i + 1 => by
    rw [flip_succ, flip_odd i]
    by_cases h : i % 2 = 1
    · rw [if_pos h, if_neg (by omega)]
    · rw [if_neg h, if_pos (by omega)]; rfl
section
variable {P : Program} {w : World} {K : PySem.W.Frag} {mg : Str → Option Value} {base : Heap} {f : Addr} {fd : FuncData} {C_Far C_Sound : Addr}
def spOfT (K : PySem.W.Frag) : Sp := fun vs H Q _ => ∃ (a : Addr) (ns : List Nat), vs = [.ref a] ∧ SqL K H a (nI ns) ∧ (∀ n ∈ ns, n ≤ 10000) ∧ ns.length ≤ 10000 ∧ ∀ H' : Hp, Same H H' → Q (.int (alt (-1) ns)) H'
def spWideP (K : PySem.W.Frag) : Sp := fun vs H Q _ => ∃ (τ : Tp) (n : Nat), vs = [.ref τ.t] ∧ Pen K τ (n + 3) H ∧ ∀ (z : Int) (H' : Hp), Nd H H' → Pen K τ n H' → 0 ≤ z → z < 2 ^ 60 → Q (.int z) H'
def spIntP (K : PySem.W.Frag) : Sp := fun vs H Q _ => ∃ (τ : Tp) (n : Nat), vs = [.ref τ.t] ∧ Pen K τ (n + 30) H ∧ ∀ (z : Int) (H' : Hp), Nd H H' → Pen K τ n H' → -(2 ^ 600) ≤ z → z < 2 ^ 600 → Q (.int z) H'
theorem side_mul {s d B : Int} (hs : s = 1 ∨ s = -1) (h0 : -B ≤ d) (h1 : d ≤ B) : -B ≤ s * d ∧ s * d ≤ B := by
  rcases hs with rfl | rfl <;> omega
abbrev S__law_spot : Stmt := top 153
abbrev N__law_spot : List Str := ["_law_pen_here"]
abbrev P__law_spot : List Str := ["_law_pen_here"]
theorem sc__law_spot : FnScope N__law_spot P__law_spot (defScope S__law_spot) := ⟨rfl, rfl, rfl, by decide +kernel, rfl, by decide +kernel, by decide +kernel⟩
def spSpot (K : PySem.W.Frag) : Sp := fun vs H Q _ => ∃ (τ : Tp) (n : Nat), vs = [.ref τ.t] ∧ Pen K τ (n + 4) H ∧ ∀ (p : Nat) (H' : Hp), Nd H H' → Pen K τ n H' → p < 700 → Q (.int (p : Int)) H'
theorem ok_spot (F : Fun K "_law_spot" "_law_spot" S__law_spot f fd) (C_law_draw : Has P w K mg base 1 "_law_draw" P__law_draw [] (spDrawP K)) (C_law_pick : Has P w K mg base 2 "_law_pick" P__law_pick [] (spPickP K)) : FnOk P w K mg base CX0 3 f fd P__law_spot (spSpot K) := by
  have nd := sc__law_spot.nd
  refine F.ok sc__law_spot (fun vs H Q E h => ?_) (fun cdv A outer s H vs Q E hr h => ?_)
  · obtain ⟨τ, n, rfl, _⟩ := h
    rfl
  obtain ⟨τ, n, rfl, T, q⟩ := h
  refine ⟨_, (pss_one (ps_ret (pe_H C_law_pick (hr.mono (by decide)) rfl (pa_cons (pv 0) (pa_cons (pe_lst (pa_cons (pe_H C_law_draw (hr.mono (by decide)) rfl (pa_cons (pv 0) (pa_cons pe_int pa_nil))) (pa_cons (pe_op op_add pe_int (pe_H C_law_draw (hr.mono (by decide)) rfl (pa_cons (pv 0) (pa_cons pe_int pa_nil)))) (pa_cons (pe_H C_law_draw (hr.mono (by decide)) rfl (pa_cons (pv 0) (pa_cons pe_int pa_nil))) pa_nil)))) pa_nil))))), ?_⟩
  refine ⟨_, rfl, _, rfl, τ, 12, n + 3, rfl, T, by decide, lt_BigL (by decide), fun u1 H1 e1 T1 u10 u11 => ?_⟩
  refine ⟨_, rfl, τ, 5, n + 2, rfl, T1, by decide, lt_BigL (by decide), fun u2 H2 e2 T2 u20 u21 => ?_⟩
  refine ⟨_, _, rfl, rfl, _, rfl, τ, 700, n + 1, rfl, T2, by decide, lt_BigL (by decide), fun u3 H3 e3 T3 u30 u31 => ?_⟩
  refine ⟨(by show 3 ≤ sizeLine; decide), fun p1 np1 => ?_⟩
  refine ⟨τ, p1, _, n, rfl, SqL.of upd_same, (by simp), (by show 3 ≤ 100000; decide), T3.new np1, fun ys H4 e4 T4 hys => ?_⟩
  have ex := e1.trans (e2.trans (e3.trans ((Nd.new np1).trans e4)))
  obtain ⟨v1, rfl⟩ := Int.eq_ofNat_of_zero_le u10
  obtain ⟨v2, rfl⟩ := Int.eq_ofNat_of_zero_le u20
  obtain ⟨v3, rfl⟩ := Int.eq_ofNat_of_zero_le u30
  simp only [List.mem_cons, List.not_mem_nil, or_false] at hys
  rcases hys with rfl | rfl | rfl
  · exact q v1 H4 ex T4 (by omega)
  · have k := q (62 + v2) H4 ex T4 (by omega)
    rw [show ((62 + v2 : Nat) : Int) = 62 + (v2 : Int) by omega] at k
    exact k
  · exact q v3 H4 ex T4 (by omega)
abbrev S__law_given : Stmt := top 154
abbrev N__law_given : List Str := ["_law_pen_here", "_law_number"]
abbrev P__law_given : List Str := ["_law_pen_here", "_law_number"]
theorem sc__law_given : FnScope N__law_given P__law_given (defScope S__law_given) := ⟨rfl, rfl, rfl, by decide +kernel, rfl, by decide +kernel, by decide +kernel⟩
def spGiven (K : PySem.W.Frag) (C_Far : Addr) : Sp := fun vs H Q _ => ∃ (τ : Tp) (z : Int) (n : Nat), vs = [.ref τ.t, .int z] ∧ Pen K τ (n + 1) H ∧ Wz z ∧ ∀ (v : V) (H' : Hp), Nd H H' → Pen K τ n H' → NumV K C_Far 1 H' v z → Q v H'
theorem ok_given (F : Fun K "_law_given" "_law_given" S__law_given f fd) (C_law_pick : Has P w K mg base 2 "_law_pick" P__law_pick [] (spPickP K)) (MK_Far : HasMk P w K mg base 6 "Far" C_Far P_Far___init__ [] (spFarI K C_Far C_Sound 1)) : FnOk P w K mg base CX0 8 f fd P__law_given (spGiven K C_Far) := by
  have nd := sc__law_given.nd
  refine F.ok sc__law_given (fun vs H Q E h => ?_) (fun cdv A outer s H vs Q E hr h => ?_)
  · obtain ⟨τ, z, n, rfl, _⟩ := h
    rfl
  obtain ⟨τ, z, n, rfl, T, wz, q⟩ := h
  refine ⟨_, (pss_one (ps_ret (pe_H C_law_pick (hr.mono (by decide)) rfl (pa_cons (pv 0) (pa_cons (pe_lst (pa_cons (pv 1) (pa_cons (pe_mk MK_Far (hr.mono (by decide)) rfl (pa_cons (pv 1) pa_nil)) pa_nil))) pa_nil))))), ?_⟩
  have W := wz.wf
  refine ⟨_, rfl, _, rfl, _, rfl, ?_⟩
  intro x dx nx ndx ne
  refine ⟨x, dx, .int z, rfl, upd_same, .inr ⟨z, .int z, W.inb, W.eq, W.fit, fun u H0 e0 d0 => ⟨rfl, ?_⟩⟩⟩
  obtain ⟨e1, o1⟩ := far_obj nx ndx e0 d0
  generalize upd H0 x (.ins C_Far dx [("_form", u)]) = H1 at e1 o1 ⊢
  refine ⟨(by show 2 ≤ sizeLine; decide), fun p1 np1 => ?_⟩
  refine ⟨τ, p1, _, n, rfl, SqL.of upd_same, (by simp), (by show 2 ≤ 100000; decide), (T.same e1).new np1, fun ys H2 e2 T2 hys => ?_⟩
  have ex := (Nd.of e1).trans ((Nd.new np1).trans e2)
  simp only [List.mem_cons, List.not_mem_nil, or_false] at hys
  rcases hys with rfl | rfl
  · exact q _ H2 ex T2 (.int z)
  · exact q _ H2 ex T2 (.far ((o1.nd (Nd.new np1)).nd e2))
end
end Fb
/-! ### == and != of tuples that hold instances of a class with an own == -/
namespace TE
open PySem PySem.Spec PyProof.Rows PySem.SeqAt
open AutoSeq1 (wpAny_loadPart')
open MeetsSeq MeetsSeq2 MeetsSeq3
/-- pair by pair -/
def EqW (prog : Program) (w : World) (A : Around) (E : Value → Shared → Prop) (Q : Bool → Shared → Prop) : List (Value × Value) → Shared → Prop
  | [], s => Q true s
  | p :: r, s => wpAny (model prog w) A (eqBool p.1 p.2) (fun b s' => if b = true then EqW prog w A E Q r s' else Q false s') E s
section
variable {prog : Program} {w : World}
theorem tuple_neW (l b : Addr) (items items2 : Array Value) (n n2 : Nat) (dd dd2 : Option Addr) (sl sl2 : Array (Option Value)) (hsz : items.size = items2.size) :
    MeetsIn prog w (Builtin.«tuple.__ne__» ⟨[.ref l, .ref b], []⟩)
      (fun A R s => s.heap.get? l = some { cls := .type "tuple", dict := dd, data := .seq items n, slots := sl } ∧ s.heap.get? b = some { cls := .type "tuple", dict := dd2, data := .seq items2 n2, slots := sl2 } ∧
        EqW prog w A.in1 (fun e s' => R (.error e) s') (fun r s' => R (.ok (.ret (.bool (!r)))) s') (items.toList.zip items2.toList) s) :=
  .of_wp fun A R s h => by
    obtain ⟨hp, g, d, tk, os⟩ := s; obtain ⟨hl, hb, h⟩ := h
    have f2 := AutoSeq1.sub_tuple_tuple
    wp_walk using wpAny_loadPart' hl, wpAny_loadPart' hb, wpAny_forIn_list _ (fun rest b s' => b.1 = none ∧ EqW prog w A.in1 (fun e s' => R (.error e) s') (fun r s' => R (.ok (.ret (.bool (!r)))) s') rest s') _
    case turn =>
      rintro ⟨y, x⟩ rest b s' ⟨hb', hR⟩
      refine wpAny_bind (wpAny_mono hR (fun r s2 hr => ?_) fun _ _ e => e)
      cases r with
      | true =>
        wp_walk
        exact ⟨rfl, hr⟩
      | false =>
        wp_walk
        exact ⟨_, rfl, hr⟩
    case fin =>
      rintro ⟨b1, b2⟩ s' ⟨hb', hR⟩
      simp only at hb'
      subst hb'
      wp_walk
      have hR2 : R (.ok (.ret (.bool (!true)))) s' := hR
      exact ⟨_, rfl, by simpa [Builtin.Tuple.tupleCompareSizes, bne, hsz] using hR2⟩
    case h =>
      exact ⟨rfl, h⟩
theorem tuple_eqW (l b : Addr) (items items2 : Array Value) (n n2 : Nat) (dd dd2 : Option Addr) (sl sl2 : Array (Option Value)) (hsz : items.size = items2.size) :
    MeetsIn prog w (Builtin.«tuple.__eq__» ⟨[.ref l, .ref b], []⟩)
      (fun A R s => s.heap.get? l = some { cls := .type "tuple", dict := dd, data := .seq items n, slots := sl } ∧ s.heap.get? b = some { cls := .type "tuple", dict := dd2, data := .seq items2 n2, slots := sl2 } ∧
        EqW prog w A.in1 (fun e s' => R (.error e) s') (fun r s' => R (.ok (.ret (.bool r))) s') (items.toList.zip items2.toList) s) :=
  .of_wp fun A R s h => by
    obtain ⟨hp, g, d, tk, os⟩ := s; obtain ⟨hl, hb, h⟩ := h
    have f2 := AutoSeq1.sub_tuple_tuple
    wp_walk using wpAny_loadPart' hl, wpAny_loadPart' hb, wpAny_forIn_list _ (fun rest b s' => b.1 = none ∧ EqW prog w A.in1 (fun e s' => R (.error e) s') (fun r s' => R (.ok (.ret (.bool r))) s') rest s') _
    case turn =>
      rintro ⟨y, x⟩ rest b s' ⟨hb', hR⟩
      refine wpAny_bind (wpAny_mono hR (fun r s2 hr => ?_) fun _ _ e => e)
      cases r with
      | true =>
        wp_walk
        exact ⟨rfl, hr⟩
      | false =>
        wp_walk
        exact ⟨_, rfl, hr⟩
    case fin =>
      rintro ⟨b1, b2⟩ s' ⟨hb', hR⟩
      simp only at hb'
      subst hb'
      wp_walk
      have hR2 : R (.ok (.ret (.bool true))) s' := hR
      exact ⟨_, rfl, by simpa [Builtin.Tuple.tupleCompareSizes, hsz] using hR2⟩
    case h =>
      exact ⟨rfl, h⟩
theorem eqBool_ne {A : Around} {E : Value → Shared → Prop} {s : Shared} {v u : Value} {Q : Bool → Shared → Prop} (h1 : (v == u) = false) (h2 : ∀ f t, v ≠ .float f t)
    (h : wpAny (model prog w) A (richCompare .Eq v u) (fun z s' => ∃ b : Bool, z = .bool b ∧ Q b s') E s) : wpAny (model prog w) A (eqBool v u) Q E s := by
  unfold eqBool
  refine wpAny_holding ?_
  rw [h1]
  cases v <;> first | exact absurd rfl (h2 _ _) | (simp only [Bool.false_eq_true, if_false]; refine wpAny_bind (wpAny_mono h (fun z s' hz => ?_) fun _ _ e => e); obtain ⟨b, rfl, q⟩ := hz; exact wpAny_truthy_bool q)
end
end TE
namespace Fb
open PySem L2 PySem.Spec PyProof.Rows PySem.SeqAt
/-- two items: data, or an instance with an own == beside an int -/
def EqP (K : PySem.W.Frag) (C : Addr) (sp : Sp) (x y : V) (H : Hp) (Q : Bool → Hp → Prop) : Prop :=
  (∃ d e, Dp K H x d ∧ Dp K H y e ∧ SeqAt.shaped d = true ∧ SeqAt.shaped e = true ∧ Q (PyData.eqv d e) H) ∨
  ∃ a dx fs i, x = .ref a ∧ y = .int i ∧ H a = some (.ins C dx fs) ∧ RightOk K C H y ∧ sp [x, y] H (fun v H' => ∃ b, v = .bl b ∧ Q b H') E0
def EqsP (K : PySem.W.Frag) (C : Addr) (sp : Sp) (Q : Bool → Hp → Prop) : List V → List V → Hp → Prop
  | x :: xs, y :: ys, H => EqP K C sp x y H fun b H' => if b = true then EqsP K C sp Q xs ys H' else Q false H'
  | _, _, H => Q true H
def rNeT (K : PySem.W.Frag) (C : Addr) (sp : Sp) : R2 := fun x y H Q => ∃ a b xs ys, x = .ref a ∧ y = .ref b ∧ SqT K H a xs ∧ SqT K H b ys ∧ xs.length = ys.length ∧ EqsP K C sp (fun r H' => Q (.bl (!r)) H') xs ys H
def rEqT (K : PySem.W.Frag) (C : Addr) (sp : Sp) : R2 := fun x y H Q => ∃ a b xs ys, x = .ref a ∧ y = .ref b ∧ SqT K H a xs ∧ SqT K H b ys ∧ xs.length = ys.length ∧ EqsP K C sp (fun r H' => Q (.bl r) H') xs ys H
section
variable {X : Cx} {k : Nat} {C : Addr} {ps : List Str} {sp : Sp} {pins : List (Addr × Obj)} {σ : L2.St}
theorem eqp_run (M : HasMeth X.prog X.w X.K X.mg X.base k "__eq__" C ps sp) (hr : Room k X.A.in1) {H : Hp} {s : Shared} {x y : V} {v u : Value} {Q : Bool → Hp → Prop} (I : Inv X pins σ H s) (rx : RelV x v) (ry : RelV y u) (h : EqP X.K C sp x y H Q) :
    wpAny (model X.prog X.w) X.A.in1 (eqBool v u) (fun r s' => ∃ H', Inv X pins σ H' s' ∧ Q r H') X.xe s := by
  rcases h with ⟨d, e, hd, he, sd, se, q⟩ | ⟨a, dx, fs, i, rfl, rfl, ha, hR, q⟩
  · obtain ⟨as, r1⟩ := Dp.reads I d x v hd rx
    obtain ⟨bs, r2⟩ := Dp.reads I e y u he ry
    exact SeqAt.eqAt_reads d e X.A.in1 s v u _ _ r1 r2 (SeqAt.canLay_of_shaped sd) (SeqAt.canLay_of_shaped se) (SeqAt.room_of_shaped sd hr.units) X.prog X.w _ _ ⟨H, I, q⟩
  · obtain ⟨f, fd, hm, F, hb⟩ := M.ex
    cases (show v = Value.ref a from rx)
    obtain ⟨t, rfl⟩ := ry
    have ry' : RelV (.int i) (.int i t) := ⟨t, rfl⟩
    obtain ⟨tb, L, hn⟩ := hR.looks I ry'
    obtain ⟨mA, J, _⟩ := ins_get I.hok ha
    obtain ⟨od, J, _⟩ := J.look
    obtain ⟨m', hF⟩ := I.fr
    refine TE.eqBool_ne (by rfl) (fun _ _ => by nofun) ?_
    refine PySem.W.cmp_K (op := .Eq) (tb := tb) hr.units0 hF I.ok.mod.kin J L hn hm.at_ hm.fn ?_
    have hl := F.len _ _ _ _ q
    refine wpAny_call (codeAny_mono (F.run X.A.in1 X.stack s H ⟨[.ref a, .int i t], []⟩ [.ref a, .int i t] [.ref a, .int i] _ E0 hr I.env0.in1 (by
      have := hb s [.ref a, .int i t] I.kIn (by simpa using hl)
      simpa using this) (.cons rfl (.cons ry' .nil)) q) fun r s' hq => ?_)
    cases r with
    | error e => exact hq.elim
    | ok fl =>
      cases fl with
      | ret w =>
        obtain ⟨z, H', I', rz, b, rfl, qz⟩ := I.after hq
        cases rz
        exact ⟨b, rfl, H', I', qz⟩
      | next => exact False.elim hq
      | brk => exact False.elim hq
      | cont => exact False.elim hq
theorem eqs_run (M : HasMeth X.prog X.w X.K X.mg X.base k "__eq__" C ps sp) (hr : Room k X.A.in1) {Q : Bool → Hp → Prop} {Q2 : Bool → Shared → Prop} (hQ : ∀ b H' s', Inv X pins σ H' s' → Q b H' → Q2 b s') : ∀ {xs ys : List V} {vs us : List Value} {H : Hp} {s : Shared}, Inv X pins σ H s → Vals xs vs → Vals ys us → xs.length = ys.length → EqsP X.K C sp Q xs ys H →
    TE.EqW X.prog X.w X.A.in1 X.xe Q2 (vs.zip us) s
  | _, _, _, _, H, s, I, .nil, r2, hl, h => by
    cases r2 with
    | nil => exact hQ _ _ _ I h
    | cons => cases hl
  | _, _, _, _, H, s, I, .cons r1 rr1, r2, hl, h => by
    cases r2 with
    | nil => cases hl
    | cons r2 rr2 =>
      refine wpAny_mono (eqp_run M hr I r1 r2 h) (fun b s' hb => ?_) fun _ _ e => e
      obtain ⟨H', I', q⟩ := hb
      cases b with
      | true => exact eqs_run M hr hQ I' rr1 rr2 (Nat.succ.inj hl) q
      | false => exact hQ _ _ _ I' q
theorem op_neT (M : HasMeth X.prog X.w X.K X.mg X.base k "__eq__" C ps sp) (hr : Room (k + 1) X.A) : OpR X (compareOp .NotEq) (rNeT X.K C sp) := by
  intro pins s σ H x y v u Q I rx ry h
  obtain ⟨a, b, xs, ys, rfl, rfl, ha, hb, hl, q⟩ := h
  cases (show v = Value.ref a from rx)
  cases (show u = Value.ref b from ry)
  obtain ⟨its, r1, ⟨⟨cls, dd, data, sl⟩, ho, hc, n, hd⟩, _⟩ := I.tuple ha
  obtain ⟨its2, r2, ⟨⟨cls2, dd2, data2, sl2⟩, ho2, hc2, n2, hd2⟩, _⟩ := I.tuple hb
  simp only at hc hd hc2 hd2
  subst hc hd hc2 hd2
  have e1 := r1.length
  have e2 := r2.length
  show wpAny (model X.prog X.w) X.A (richCompare .NotEq (.ref a) (.ref b)) _ _ _
  refine wpAny_richCompare_same_room ⟨_, ho, rfl⟩ ⟨_, ho2, rfl⟩ F.slot_tuple_ne ?_ hr.units0
  refine call_meetsIn F.slot_tuple_ne ⟨_, ho, rfl⟩ F.entry_tuple_ne (F.args_tuple_ne_2 _ _) (TE.tuple_neW a b its.toArray its2.toArray n n2 dd dd2 sl sl2 (by simp; omega)) ⟨ho, ho2, ?_⟩
  refine eqs_run M hr.in1 (fun b H' s' I' qb => ?_) I r1 r2 hl q
  exact ⟨(fun x => nomatch x), .bl _, H', I', rfl, qb⟩
theorem op_eqT (M : HasMeth X.prog X.w X.K X.mg X.base k "__eq__" C ps sp) (hr : Room (k + 1) X.A) : OpR X (compareOp .Eq) (rEqT X.K C sp) := by
  intro pins s σ H x y v u Q I rx ry h
  obtain ⟨a, b, xs, ys, rfl, rfl, ha, hb, hl, q⟩ := h
  cases (show v = Value.ref a from rx)
  cases (show u = Value.ref b from ry)
  obtain ⟨its, r1, ⟨⟨cls, dd, data, sl⟩, ho, hc, n, hd⟩, _⟩ := I.tuple ha
  obtain ⟨its2, r2, ⟨⟨cls2, dd2, data2, sl2⟩, ho2, hc2, n2, hd2⟩, _⟩ := I.tuple hb
  simp only at hc hd hc2 hd2
  subst hc hd hc2 hd2
  have e1 := r1.length
  have e2 := r2.length
  show wpAny (model X.prog X.w) X.A (richCompare .Eq (.ref a) (.ref b)) _ _ _
  refine wpAny_richCompare_same_room ⟨_, ho, rfl⟩ ⟨_, ho2, rfl⟩ F.slot_tuple_eq ?_ hr.units0
  refine call_meetsIn F.slot_tuple_eq ⟨_, ho, rfl⟩ F.entry_tuple_eq (F.args_tuple_eq_2 _ _) (TE.tuple_eqW a b its.toArray its2.toArray n n2 dd dd2 sl sl2 (by simp; omega)) ⟨ho, ho2, ?_⟩
  refine eqs_run M hr.in1 (fun b H' s' I' qb => ?_) I r1 r2 hl q
  exact ⟨(fun x => nomatch x), .bl _, H', I', rfl, qb⟩
end
def rOr2 (r1 r2 : R2) : R2 := fun x y H Q => r1 x y H Q ∨ r2 x y H Q
theorem op_or2 {X : Cx} {f : Value → Value → Sem Value} {r1 r2 : R2} (h1 : OpR X f r1) (h2 : OpR X f r2) : OpR X f (rOr2 r1 r2) := by
  intro pins s σ H x y v u Q I rx ry h
  rcases h with h | h
  · exact h1 pins s σ H x y v u Q I rx ry h
  · exact h2 pins s σ H x y v u Q I rx ry h
end Fb
/-! ### == and != of tuples of tuples that hold instances -/
namespace Fb
open PySem L2 PySem.Spec PyProof.Rows PySem.SeqAt
theorem eqBool_same {prog : Program} {w : World} {A : Around} {E : Value → Shared → Prop} {s : Shared} {a : Addr} {Q : Bool → Shared → Prop} (h : Q true s) : wpAny (model prog w) A (eqBool (.ref a) (.ref a)) Q E s := by
  unfold eqBool
  refine wpAny_holding ?_
  have e : ((Value.ref a) == (Value.ref a)) = true := by simp
  rw [e]
  simp only [if_true]
  wp_walk
  exact h
/-- two items: data, an instance with an own == beside an int or an instance, or tuples of such -/
def EqO (K : PySem.W.Frag) (C : Addr) (sp : Sp) (x y : V) (H : Hp) (Q : Bool → Hp → Prop) : Prop :=
  EqP K C sp x y H Q ∨ ∃ a b dx fs, x = .ref a ∧ y = .ref b ∧ H a = some (.ins C dx fs) ∧ RightOk K C H y ∧ (a = b → Q true H) ∧ (a ≠ b → sp [x, y] H (fun v H' => ∃ r, v = .bl r ∧ Q r H') E0)
abbrev EQ := V → V → Hp → (Bool → Hp → Prop) → Prop
def EqsL (E : EQ) (Q : Bool → Hp → Prop) : List V → List V → Hp → Prop
  | x :: xs, y :: ys, H => E x y H fun b H' => if b = true then EqsL E Q xs ys H' else Q false H'
  | _, _, H => Q true H
/-- tuples whose items are compared by E -/
def EqTup (K : PySem.W.Frag) (E : EQ) : EQ := fun x y H Q => ∃ a b xs ys, x = .ref a ∧ y = .ref b ∧ SqT K H a xs ∧ SqT K H b ys ∧ xs.length = ys.length ∧ (a = b → Q true H) ∧ (a ≠ b → EqsL E Q xs ys H)
def rNeE (K : PySem.W.Frag) (E : EQ) : R2 := fun x y H Q => ∃ a b xs ys, x = .ref a ∧ y = .ref b ∧ SqT K H a xs ∧ SqT K H b ys ∧ xs.length = ys.length ∧ EqsL E (fun r H' => Q (.bl (!r)) H') xs ys H
def RunE (X : Cx) (E : EQ) (A' : Around) : Prop := ∀ (pins : List (Addr × Obj)) (σ : L2.St) (H : Hp) (s : Shared) (x y : V) (v u : Value) (Q : Bool → Hp → Prop), Inv X pins σ H s → RelV x v → RelV y u → E x y H Q →
  wpAny (model X.prog X.w) A' (eqBool v u) (fun r s' => ∃ H', Inv X pins σ H' s' ∧ Q r H') X.xe s
def EnvA (X : Cx) (A' : Around) : Prop := ∀ (pins : List (Addr × Obj)) (σ : L2.St) (H : Hp) (s : Shared), Inv X pins σ H s → Env0 X.prog X.w X.K X.mg X.base A' X.stack s H
section
variable {X : Cx} {k : Nat} {C : Addr} {ps : List Str} {sp : Sp} {pins : List (Addr × Obj)} {σ : L2.St}
theorem eqo_run {A' : Around} (M : HasMeth X.prog X.w X.K X.mg X.base k "__eq__" C ps sp) (hr : Room k A') (he : EnvA X A') : RunE X (EqO X.K C sp) A' := by
  intro pins σ H s x y v u Q I rx ry h
  have ins : ∀ (a : Addr) (dx : Addr) (fs : List (Str × V)), v = .ref a → x = .ref a → H a = some (.ins C dx fs) → RightOk X.K C H y → (v == u) = false → sp [x, y] H (fun v H' => ∃ b, v = .bl b ∧ Q b H') E0 →
      wpAny (model X.prog X.w) A' (eqBool v u) (fun r s' => ∃ H', Inv X pins σ H' s' ∧ Q r H') X.xe s := by
    intro a dx fs ev ex ha hR ne q
    subst ev ex
    obtain ⟨f, fd, hm, F, hb⟩ := M.ex
    obtain ⟨tb, L, hn⟩ := hR.looks I ry
    obtain ⟨mA, J, _⟩ := ins_get I.hok ha
    obtain ⟨od, J, _⟩ := J.look
    obtain ⟨m', hF⟩ := I.fr
    refine TE.eqBool_ne ne (fun _ _ => by nofun) ?_
    refine PySem.W.cmp_K (op := .Eq) (tb := tb) hr.units0 hF I.ok.mod.kin J L hn hm.at_ hm.fn ?_
    have hl := F.len _ _ _ _ q
    refine wpAny_call (codeAny_mono (F.run A' X.stack s H ⟨[.ref a, u], []⟩ [.ref a, u] [.ref a, y] _ E0 hr (he _ _ _ _ I) (by
      have := hb s [.ref a, u] I.kIn (by simpa using hl)
      simpa using this) (.cons rfl (.cons ry .nil)) q) fun r s' hq => ?_)
    cases r with
    | error e => exact hq.elim
    | ok fl =>
      cases fl with
      | ret w =>
        obtain ⟨z, H', I', rz, b, rfl, qz⟩ := I.after hq
        cases rz
        exact ⟨b, rfl, H', I', qz⟩
      | next => exact False.elim hq
      | brk => exact False.elim hq
      | cont => exact False.elim hq
  rcases h with (⟨d, e, hd, he2, sd, se, q⟩ | ⟨a, dx, fs, i, rfl, rfl, ha, hR, q⟩) | ⟨a, b, dx, fs, rfl, rfl, ha, hR, q1, q2⟩
  · obtain ⟨as, r1⟩ := Dp.reads I d x v hd rx
    obtain ⟨bs, r2⟩ := Dp.reads I e y u he2 ry
    exact SeqAt.eqAt_reads d e A' s v u _ _ r1 r2 (SeqAt.canLay_of_shaped sd) (SeqAt.canLay_of_shaped se) (SeqAt.room_of_shaped sd hr.units) X.prog X.w _ _ ⟨H, I, q⟩
  · cases (show v = Value.ref a from rx)
    obtain ⟨t, rfl⟩ := id ry
    exact ins a dx fs rfl rfl ha hR (by rfl) q
  · cases (show v = Value.ref a from rx)
    cases (show u = Value.ref b from ry)
    by_cases e : a = b
    · subst e
      exact eqBool_same ⟨H, I, q1 rfl⟩
    · exact ins a dx fs rfl rfl ha hR (by simpa using e) (q2 e)
theorem eqsl_run {E : EQ} {A' : Around} (R : RunE X E A') {Q : Bool → Hp → Prop} {Q2 : Bool → Shared → Prop} (hQ : ∀ b H' s', Inv X pins σ H' s' → Q b H' → Q2 b s') : ∀ {xs ys : List V} {vs us : List Value} {H : Hp} {s : Shared}, Inv X pins σ H s → Vals xs vs → Vals ys us → xs.length = ys.length → EqsL E Q xs ys H →
    TE.EqW X.prog X.w A' X.xe Q2 (vs.zip us) s
  | _, _, _, _, H, s, I, .nil, r2, hl, h => by
    cases r2 with
    | nil => exact hQ _ _ _ I h
    | cons => cases hl
  | _, _, _, _, H, s, I, .cons r1 rr1, r2, hl, h => by
    cases r2 with
    | nil => cases hl
    | cons r2 rr2 =>
      refine wpAny_mono (R _ _ _ _ _ _ _ _ _ I r1 r2 h) (fun b s' hb => ?_) fun _ _ e => e
      obtain ⟨H', I', q⟩ := hb
      cases b with
      | true => exact eqsl_run R hQ I' rr1 rr2 (Nat.succ.inj hl) q
      | false => exact hQ _ _ _ I' q
theorem eqt_run {E : EQ} {A' : Around} (hu : A'.units < cLine) (R : RunE X E A'.in1) : RunE X (EqTup X.K E) A' := by
  intro pins σ H s x y v u Q I rx ry h
  obtain ⟨a, b, xs, ys, rfl, rfl, ha, hb, hl, q1, q2⟩ := h
  cases (show v = Value.ref a from rx)
  cases (show u = Value.ref b from ry)
  by_cases e : a = b
  · subst e
    exact eqBool_same ⟨H, I, q1 rfl⟩
  obtain ⟨its, r1, ⟨⟨cls, dd, data, sl⟩, ho, hc, n, hd⟩, _⟩ := I.tuple ha
  obtain ⟨its2, r2, ⟨⟨cls2, dd2, data2, sl2⟩, ho2, hc2, n2, hd2⟩, _⟩ := I.tuple hb
  simp only at hc hd hc2 hd2
  subst hc hd hc2 hd2
  have e1 := r1.length
  have e2 := r2.length
  refine TE.eqBool_ne (by simpa using e) (fun _ _ => by nofun) ?_
  refine wpAny_richCompare_same_room ⟨_, ho, rfl⟩ ⟨_, ho2, rfl⟩ F.slot_tuple_eq ?_ hu
  refine call_meetsIn F.slot_tuple_eq ⟨_, ho, rfl⟩ F.entry_tuple_eq (F.args_tuple_eq_2 _ _) (TE.tuple_eqW a b its.toArray its2.toArray n n2 dd dd2 sl sl2 (by simp; omega)) ⟨ho, ho2, ?_⟩
  refine eqsl_run R (fun b H' s' I' qb => ?_) I r1 r2 hl (q2 e)
  exact ⟨(fun x => nomatch x), _, rfl, H', I', qb⟩
theorem op_neE {E : EQ} (hu : X.A.units < cLine) (R : RunE X E X.A.in1) : OpR X (compareOp .NotEq) (rNeE X.K E) := by
  intro pins s σ H x y v u Q I rx ry h
  obtain ⟨a, b, xs, ys, rfl, rfl, ha, hb, hl, q⟩ := h
  cases (show v = Value.ref a from rx)
  cases (show u = Value.ref b from ry)
  obtain ⟨its, r1, ⟨⟨cls, dd, data, sl⟩, ho, hc, n, hd⟩, _⟩ := I.tuple ha
  obtain ⟨its2, r2, ⟨⟨cls2, dd2, data2, sl2⟩, ho2, hc2, n2, hd2⟩, _⟩ := I.tuple hb
  simp only at hc hd hc2 hd2
  subst hc hd hc2 hd2
  have e1 := r1.length
  have e2 := r2.length
  show wpAny (model X.prog X.w) X.A (richCompare .NotEq (.ref a) (.ref b)) _ _ _
  refine wpAny_richCompare_same_room ⟨_, ho, rfl⟩ ⟨_, ho2, rfl⟩ F.slot_tuple_ne ?_ hu
  refine call_meetsIn F.slot_tuple_ne ⟨_, ho, rfl⟩ F.entry_tuple_ne (F.args_tuple_ne_2 _ _) (TE.tuple_neW a b its.toArray its2.toArray n n2 dd dd2 sl sl2 (by simp; omega)) ⟨ho, ho2, ?_⟩
  refine eqsl_run R (fun b H' s' I' qb => ?_) I r1 r2 hl q
  exact ⟨(fun x => nomatch x), .bl _, H', I', rfl, qb⟩
/-- tuples of tuples -/
theorem op_neTT (M : HasMeth X.prog X.w X.K X.mg X.base k "__eq__" C ps sp) (hr : Room (k + 2) X.A) : OpR X (compareOp .NotEq) (rNeE X.K (EqTup X.K (EqO X.K C sp))) :=
  op_neE hr.units0 (eqt_run (Room.in1 hr).units0 (eqo_run M hr.in1.in1 fun _ _ _ _ I => I.env0.in1.in1))
end
end Fb
/-! ### != of lists: the same items, or other lengths -/
namespace Fb
open PySem L2 PySem.Spec PyProof.Rows PySem.SeqAt
/-- an item that is equal to itself without a call -/
def selfV : V → Bool
  | .ref _ => true
  | x => flatV x
theorem self_eq {A : Around} {s : Shared} {x : V} {v u : Value} (rx : RelV x v) (ry : RelV x u) (h : selfV x = true) : EqAt A s v u true := by
  cases x with
  | ref a =>
    cases (show v = Value.ref a from rx)
    cases (show u = Value.ref a from ry)
    exact fun prog w E Q q => eqBool_same q
  | non => exact eqAt_V rx ry rfl rfl
  | bl b => have := eqAt_V (A := A) (s := s) rx ry rfl rfl; rwa [show eqV (.bl b) (.bl b) = true from beq_self_eq_true b] at this
  | int i => have := eqAt_V (A := A) (s := s) rx ry rfl rfl; rwa [show eqV (.int i) (.int i) = true from beq_self_eq_true i] at this
  | str z => have := eqAt_V (A := A) (s := s) rx ry rfl rfl; rwa [show eqV (.str z) (.str z) = true from beq_self_eq_true z] at this
  | _ => cases h
def rNeS (K : PySem.W.Frag) : R2 := fun x y H Q => ∃ a b xs ys, x = .ref a ∧ y = .ref b ∧ SqL K H a xs ∧ SqL K H b ys ∧ ((xs = ys ∧ xs.all selfV = true ∧ Q (.bl false) H) ∨ (xs.length ≠ ys.length ∧ Q (.bl true) H))
theorem op_neS {X : Cx} (hu : X.A.units < cLine) : OpR X (compareOp .NotEq) (rNeS X.K) := by
  intro pins s σ H x y v u Q I rx ry h
  obtain ⟨a, b, xs, ys, rfl, rfl, ha, hb, q⟩ := h
  cases (show v = Value.ref a from rx)
  cases (show u = Value.ref b from ry)
  obtain ⟨its, r1, p1, _⟩ := I.list ha
  obtain ⟨its2, r2, p2, _⟩ := I.list hb
  obtain ⟨⟨cls, dd, data, sl⟩, ho, hc, n, hd⟩ := p1.isList
  obtain ⟨⟨cls2, dd2, data2, sl2⟩, ho2, hc2, n2, hd2⟩ := p2.isList
  simp only at hc hd hc2 hd2
  subst hc hd hc2 hd2
  have e1 := r1.length
  have e2 := r2.length
  show wpAny (model X.prog X.w) X.A (richCompare .NotEq (.ref a) (.ref b)) _ _ _
  refine wpAny_richCompare_same_room ⟨_, ho, rfl⟩ ⟨_, ho2, rfl⟩ F.slot_list_ne ?_ hu
  rcases q with ⟨rfl, hs, q⟩ | ⟨hl, q⟩
  · refine call_meets F.slot_list_ne ⟨_, ho, rfl⟩ F.entry_list_ne (F.args_list_ne_2 _ _) (list_neAt a b its.toArray its2.toArray n n2 dd dd2 sl sl2 (by simp; omega) (fun _ => true)) ⟨ho, ho2, fun j h1 h2 => ?_, ?_⟩
    · have j1 : j < its.length := by simpa using h1
      have j2 : j < its2.length := by simpa using h2
      have jx : j < xs.length := by omega
      obtain ⟨v1, hv1, rv1⟩ := r1.get (List.getElem?_eq_getElem jx)
      obtain ⟨v2, hv2, rv2⟩ := r2.get (List.getElem?_eq_getElem jx)
      have q1 : its.toArray[j] = v1 := by
        have := List.getElem?_eq_getElem j1
        rw [hv1] at this
        simpa using (Option.some.inj this).symm
      have q2 : its2.toArray[j] = v2 := by
        have := List.getElem?_eq_getElem j2
        rw [hv2] at this
        simpa using (Option.some.inj this).symm
      rw [q1, q2]
      exact self_eq rv1 rv2 (List.all_eq_true.mp hs _ (List.getElem_mem jx))
    · have all : ((List.range its.toArray.size).all fun _ => true) = true := List.all_eq_true.mpr fun _ _ => rfl
      rw [all]
      exact ⟨(fun x => nomatch x), .bl false, H, I, rfl, q⟩
  · refine call_meets F.slot_list_ne ⟨_, ho, rfl⟩ F.entry_list_ne (F.args_list_ne_2 _ _) (list_ne_lengthsAt a b its.toArray its2.toArray n n2 dd dd2 sl sl2 (by simp; omega)) ⟨ho, ho2, ?_⟩
    exact ⟨(fun x => nomatch x), .bl true, H, I, rfl, q⟩
end Fb
namespace Fb
open PySem L2 PyProof.Rows
theorem call_isiK {X : Cx} (K : PySem.W.Frag) (h : X.K = K) : CallR X (.builtin "isinstance") (rIsi K) := h ▸ call_isi
theorem erase_perm {α : Type} : ∀ (l : List α) (k : Nat) (h : k < l.length), (l[k] :: l.eraseIdx k).Perm l
  | x :: l, 0, _ => List.Perm.refl _
  | x :: l, k + 1, h => by
    show (l[k]'(by simpa using h) :: x :: l.eraseIdx k).Perm (x :: l)
    exact (List.Perm.swap x _ _).trans ((erase_perm l k (by simpa using h)).cons x)
theorem no_whole (u : V) : ([(("_form" : Str), u)] : List (Str × V)).lookup ("whole" : Str) = none := by rfl
section
variable {P : Program} {w : World} {K : PySem.W.Frag} {mg : Str → Option Value} {base : Heap} {f : Addr} {fd : FuncData} {C_Far C_Sound : Addr}
abbrev S__law_shuffled : Stmt := top 152
abbrev N__law_shuffled : List Str := ["_law_pen_here", "_law_items", "_law_left", "_law_found"]
abbrev P__law_shuffled : List Str := ["_law_pen_here", "_law_items"]
theorem sc__law_shuffled : FnScope N__law_shuffled P__law_shuffled (defScope S__law_shuffled) := ⟨rfl, rfl, rfl, by decide +kernel, rfl, by decide +kernel, by decide +kernel⟩
def spShuf (K : PySem.W.Frag) : Sp := fun vs H Q _ => ∃ (τ : Tp) (l : Addr) (xs : List V) (n : Nat), vs = [.ref τ.t, .ref l] ∧ H l = some (.lst xs) ∧ xs.length ≤ 20 ∧ xs.all selfV = true ∧ Pen K τ (n + 20) H ∧ ∀ (r : Addr) (ys : List V) (H' : Hp), Nd H H' → Pen K τ n H' → H' r = some (.lst ys) → ys.Perm xs → Q (.ref r) H'
theorem ok_shuf (F : Fun K "_law_shuffled" "_law_shuffled" S__law_shuffled f fd) (B : Blt mg) (C_law_draw : Has P w K mg base 1 "_law_draw" P__law_draw [] (spDrawP K)) : FnOk P w K mg base CX0 2 f fd P__law_shuffled (spShuf K) := by
  have nd := sc__law_shuffled.nd
  refine F.ok sc__law_shuffled (fun vs H Q E h => ?_) (fun cdv A outer s H vs Q E hr h => ?_)
  · obtain ⟨τ, l, xs, n, rfl, _⟩ := h
    rfl
  obtain ⟨τ, l, xs, n, rfl, hl, l20, sv, T, q⟩ := h
  refine ⟨_, (pss_cons (ps_par (i := 2) (j := 3) (by rfl) nd rfl rfl (by decide) rfl rfl (pa_cons (pe_callTy call_listL (by rfl) B.list (by decide +kernel) (pa_cons (pv 1) pa_nil)) (pa_cons (pe_lst pa_nil) pa_nil)) (by rfl))
    (pss_cons (ps_while PassesOwn.never (pt_cmpR (op_neS hr.units0) (pv 2) (pe_lst pa_nil) (nomark _)) (pss_one (ps_expr (pe_bm PySem.F.plainAttrs_list PySem.F.slot_list_append PySem.F.type_list_append mt_append (pv 3) (pa_cons (pe_bm PySem.F.plainAttrs_list PySem.F.slot_list_pop PySem.F.type_list_pop mt_popAt (pv 2) (pa_cons (pe_H C_law_draw (hr.mono (by decide)) rfl (pa_cons (pv 0) (pa_cons (pe_callB call_lenL (by rfl) B.len PySem.boot_len (pa_cons (pv 2) pa_nil)) pa_nil))) pa_nil)) pa_nil)))))
    (pss_one (ps_ret (pv 3))))), ?_⟩
  refine ⟨_, rfl, _, _, rfl, SqL.of hl, fun p1 np1 => ?_⟩
  refine ⟨(by show 0 ≤ sizeLine; decide), fun p2 np2 => ?_⟩
  refine ⟨_, _, rfl, ?_⟩
  have n12 : p1 ≠ p2 := by rintro rfl; rw [upd_same] at np2; cases np2
  have np2' : H p2 = none := (Nd.new np1).f _ np2
  refine ⟨fun m σ H' => ∃ Lf Fd : List V, σ = [some (.ref τ.t), some (.ref l), some (.ref p1), some (.ref p2)] ∧ m = Lf.length ∧ H' p1 = some (.lst Lf) ∧ H' p2 = some (.lst Fd) ∧ (Fd ++ Lf).Perm xs ∧ Nd H H' ∧ Pen K τ (n + Lf.length) H', ⟨_, xs, [], rfl, rfl, by rw [upd_ne n12, upd_same], upd_same, List.Perm.refl _, (Nd.new np1).trans (Nd.new np2), ((T.new np1).new np2).mono (by omega)⟩, ?_⟩
  rintro m σ H1 ⟨Lf, Fd, rfl, rfl, h1, h2, pm, e, T1⟩
  have len := pm.length_eq
  rw [List.length_append] at len
  refine ⟨_, rfl, (by show 0 ≤ sizeLine; decide), fun p3 np3 => ?_⟩
  have e3 := Same.new (o := .lst []) np3
  have h13 := e3 _ _ h1
  have h23 := e3 _ _ h2
  have T3 := T1.new (o := .lst []) np3
  have eN := e.trans (Nd.of e3)
  have h33 : (upd H1 p3 (.lst [])) p3 = some (.lst []) := upd_same
  generalize upd H1 p3 (.lst []) = H3 at e3 h13 h23 T3 eN h33 ⊢
  cases Lf with
  | nil =>
    refine ⟨p1, p3, [], [], rfl, rfl, SqL.of h13, SqL.of h33, .inl ⟨rfl, rfl, _, rfl, ?_⟩⟩
    refine iteF ?_
    rw [List.append_nil] at pm
    exact ⟨_, rfl, q p2 Fd H3 eN (T3.mono (by simp)) h23 pm⟩
  | cons x0 Lr =>
    refine ⟨p1, p3, x0 :: Lr, [], rfl, rfl, SqL.of h13, SqL.of h33, .inr ⟨by simp, _, rfl, ?_⟩⟩
    refine iteT ?_
    refine ⟨fun σ' H' => ∃ (k : Nat) (y : V), (x0 :: Lr)[k]? = some y ∧ σ' = [some (.ref τ.t), some (.ref l), some (.ref p1), some (.ref p2)] ∧ H' p1 = some (.lst ((x0 :: Lr).eraseIdx k)) ∧ H' p2 = some (.lst (Fd ++ [y])) ∧ Nd H H' ∧ Pen K τ (n + Lr.length) H', fun σ' H' h => ?_, ?_⟩
    · obtain ⟨k, y, hy, rfl, g1, g2, eN', T'⟩ := h
      obtain ⟨kl, ky⟩ := List.getElem?_eq_some_iff.mp hy
      have le := List.length_eraseIdx_of_lt kl
      have le2 : ((x0 :: Lr).eraseIdx k).length = Lr.length := by rw [le]; simp
      refine ⟨((x0 :: Lr).eraseIdx k).length, by rw [le2]; simp, _, _, rfl, rfl, g1, g2, ?_, eN', by rw [le2]; exact T'⟩
      refine List.Perm.trans ?_ pm
      rw [List.append_assoc]
      refine List.Perm.append_left Fd ?_
      rw [← ky]
      exact erase_perm _ k kl
    · have T3' : Pen K τ (n + Lr.length + 1) H3 := T3.mono (by simp; omega)
      have lL : (x0 :: Lr).length ≤ 20 := by omega
      refine ⟨_, rfl, .inl ⟨rfl, _, SqL.of h23⟩, _, rfl, .inl ⟨rfl, _, SqL.of h13⟩, _, rfl, _, rfl, _, _, rfl, SqL.of h13, τ, (((x0 :: Lr).length : Nat) : Int), n + Lr.length, rfl, T3', by simp, lt_BigL (Int.le_trans (show (((x0 :: Lr).length : Nat) : Int) ≤ 20 by omega) (by decide)), fun u H4 e4 T4 u0 u1 => ?_⟩
      obtain ⟨k, rfl⟩ := Int.eq_ofNat_of_zero_le u0
      have kl : k < (x0 :: Lr).length := by omega
      obtain ⟨j, hs, hj, _, _, _⟩ := atI_get (atI_nat (List.getElem?_eq_getElem kl))
      refine ⟨p1, _, _, j, _, rfl, rfl, e4.lst h13, by omega, by omega, hs, hj, ?_⟩
      refine ⟨p2, _, _, rfl, rfl, by rw [upd_ne (Ne.symm n12)]; exact e4.lst h23, Nat.lt_of_le_of_lt (show Fd.length ≤ 20 by omega) (by decide), ?_⟩
      exact ⟨j, _, hj, rfl, by rw [upd_ne n12, upd_same], upd_same, ((eN.trans e4).mut np1).mut np2', T.mut np2' (T.mut np1 T4)⟩
abbrev S__law_wrong : Stmt := top 155
abbrev N__law_wrong : List Str := ["_law_pen_here", "_law_spot_here", "_law_some"]
abbrev P__law_wrong : List Str := ["_law_pen_here"]
theorem sc__law_wrong : FnScope N__law_wrong P__law_wrong (defScope S__law_wrong) := ⟨rfl, rfl, rfl, by decide +kernel, rfl, by decide +kernel, by decide +kernel⟩
def spWrong (K : PySem.W.Frag) : Sp := fun vs H Q _ => ∃ (τ : Tp) (n : Nat), vs = [.ref τ.t] ∧ Pen K τ (n + 5) H ∧ ∀ (x : V) (H' : Hp), Nd H H' → Pen K τ n H' → NoTm K H' x → selfV x = true → Q x H'
theorem ok_wrong (T : FarK K mg C_Far C_Sound) (kI : PySem.W.kitOne K (.ref C_Far) (.type "int") = some false) (F : Fun K "_law_wrong" "_law_wrong" S__law_wrong f fd) (C_law_spot : Has P w K mg base 3 "_law_spot" P__law_spot [] (spSpot K)) (C_law_pick : Has P w K mg base 2 "_law_pick" P__law_pick [] (spPickP K)) (MK_Far : HasMk P w K mg base 6 "Far" C_Far P_Far___init__ [] (spFarI K C_Far C_Sound 1)) : FnOk P w K mg base CX0 8 f fd P__law_wrong (spWrong K) := by
  have nd := sc__law_wrong.nd
  refine F.ok sc__law_wrong (fun vs H Q E h => ?_) (fun cdv A outer s H vs Q E hr h => ?_)
  · obtain ⟨τ, n, rfl, _⟩ := h
    rfl
  obtain ⟨τ, n, rfl, T0, q⟩ := h
  refine ⟨_, (pss_cons (ps_set (i := 1) nd rfl (Or.inl rfl) (pe_H C_law_spot (hr.mono (by decide)) rfl (pa_cons (pv 0) pa_nil)))
    (pss_cons (ps_set (i := 2) nd rfl (Or.inl rfl) (pe_lst (pa_cons (pe_tup (pa_cons pe_int (pa_cons (pv 1) pa_nil))) (pa_cons (pe_tup (pa_cons pe_int (pa_cons (pv 1) pa_nil))) (pa_cons (pe_tup (pa_cons (pe_un un_neg pe_int) (pa_cons (pv 1) pa_nil))) (pa_cons (pe_tup (pa_cons pe_bl (pa_cons (pv 1) pa_nil))) (pa_cons (pe_tup (pa_cons pe_str (pa_cons (pv 1) pa_nil))) (pa_cons (pe_tup (pa_cons pe_int (pa_cons (pe_op op_sub (pe_un un_neg pe_int) (pv 1)) pa_nil))) (pa_cons (pe_tup (pa_cons (pe_un un_neg pe_int) (pa_cons pe_bl pa_nil))) (pa_cons (pe_tup (pa_cons pe_int (pa_cons pe_non pa_nil))) pa_nil))))))))))
    (pss_cons (ps_set (i := 2) nd rfl (Or.inl rfl) (pe_op op_cat (pv 2) (pe_lst (pa_cons (pe_lst (pa_cons pe_int (pa_cons (pv 1) pa_nil))) (pa_cons (pe_tup (pa_cons pe_int (pa_cons (pv 1) (pa_cons pe_int pa_nil)))) (pa_cons (pe_tup (pa_cons pe_int pa_nil)) (pa_cons (pe_tup pa_nil) (pa_cons pe_non (pa_cons pe_int (pa_cons pe_str (pa_cons (pe_tup (pa_cons (pe_mk MK_Far (hr.mono (by decide)) rfl (pa_cons pe_int pa_nil)) (pa_cons (pv 1) pa_nil))) (pa_cons (pe_tup (pa_cons pe_int (pa_cons pe_str pa_nil))) (pa_cons (pe_tup (pa_cons pe_non (pa_cons (pv 1) pa_nil))) pa_nil)))))))))))))
    (pss_one (ps_ret (pe_H C_law_pick (hr.mono (by decide)) rfl (pa_cons (pv 0) (pa_cons (pv 2) pa_nil)))))))), ?_⟩
  have W1 := (Wz.place (p := 1) (by decide) (by decide)).1.wf
  refine ⟨_, rfl, τ, n + 1, rfl, T0, fun p H1 e1 T1 p7 => ?_⟩
  refine ⟨_, rfl, (by show 2 ≤ sizeLine; decide), fun p1 np1 => ?_⟩
  have s1 := Same.new (o := .tup [.int 0, .int (p : Int)]) np1
  refine ⟨_, rfl, (by show 2 ≤ sizeLine; decide), fun p2 np2 => ?_⟩
  have s2 := Same.new (o := .tup [.int 2, .int (p : Int)]) np2
  refine ⟨_, rfl, _, rfl, (by show 2 ≤ sizeLine; decide), fun p3 np3 => ?_⟩
  have s3 := Same.new (o := .tup [.int (-2), .int (p : Int)]) np3
  refine ⟨_, rfl, (by show 2 ≤ sizeLine; decide), fun p4 np4 => ?_⟩
  have s4 := Same.new (o := .tup [.bl true, .int (p : Int)]) np4
  refine ⟨_, rfl, (by show 2 ≤ sizeLine; decide), fun p5 np5 => ?_⟩
  have s5 := Same.new (o := .tup [.str "1", .int (p : Int)]) np5
  refine ⟨_, rfl, _, rfl, _, _, rfl, rfl, (by show 2 ≤ sizeLine; decide), fun p6 np6 => ?_⟩
  have s6 := Same.new (o := .tup [.int 1, .int (-1 - (p : Int))]) np6
  refine ⟨_, rfl, (by show 2 ≤ sizeLine; decide), fun pv7 npv7 => ?_⟩
  have s7 := Same.new (o := .tup [.int (-1), .bl true]) npv7
  refine ⟨(by show 2 ≤ sizeLine; decide), fun p8 np8 => ?_⟩
  have s8 := Same.new (o := .tup [.int 1, .non]) np8
  refine ⟨(by show 8 ≤ sizeLine; decide), fun p9 np9 => ?_⟩
  have s9 := Same.new (o := .lst [.ref p1, .ref p2, .ref p3, .ref p4, .ref p5, .ref p6, .ref pv7, .ref p8]) np9
  refine ⟨_, rfl, _, rfl, (by show 2 ≤ sizeLine; decide), fun p10 np10 => ?_⟩
  have s10 := Same.new (o := .lst [.int 1, .int (p : Int)]) np10
  refine ⟨_, rfl, (by show 3 ≤ sizeLine; decide), fun p11 np11 => ?_⟩
  have s11 := Same.new (o := .tup [.int 1, .int (p : Int), .int 1]) np11
  refine ⟨(by show 1 ≤ sizeLine; decide), fun p12 np12 => ?_⟩
  have s12 := Same.new (o := .tup [.int 1]) np12
  refine ⟨(by show 0 ≤ sizeLine; decide), fun p13 np13 => ?_⟩
  have s13 := Same.new (o := .tup []) np13
  intro x dx nx ndx ne
  refine ⟨x, dx, .int 1, rfl, upd_same, .inr ⟨1, .int 1, W1.inb, W1.eq, W1.fit, fun u H0 e0 d0 => ⟨rfl, ?_⟩⟩⟩
  obtain ⟨sF, oF⟩ := far_obj nx ndx e0 d0
  generalize upd H0 x (.ins C_Far dx [("_form", u)]) = HF at sF oF ⊢
  refine ⟨_, rfl, (by show 2 ≤ sizeLine; decide), fun p14 np14 => ?_⟩
  have s14 := Same.new (o := .tup [.ref x, .int (p : Int)]) np14
  refine ⟨(by show 2 ≤ sizeLine; decide), fun p15 np15 => ?_⟩
  have s15 := Same.new (o := .tup [.int 1, .str "a"]) np15
  refine ⟨_, rfl, (by show 2 ≤ sizeLine; decide), fun p16 np16 => ?_⟩
  have s16 := Same.new (o := .tup [.non, .int (p : Int)]) np16
  refine ⟨(by show 10 ≤ sizeLine; decide), fun p17 np17 => ?_⟩
  have s17 := Same.new (o := .lst [.ref p10, .ref p11, .ref p12, .ref p13, .non, .int 1, .str "ab", .ref p14, .ref p15, .ref p16]) np17
  have r17 := Same.refl (upd (upd (upd (upd HF p14 (.tup [.ref x, .int (p : Int)])) p15 (.tup [.int 1, .str "a"])) p16 (.tup [.non, .int (p : Int)])) p17 (.lst [.ref p10, .ref p11, .ref p12, .ref p13, .non, .int 1, .str "ab", .ref p14, .ref p15, .ref p16]))
  have r16 := s17.trans r17
  have r15 := s16.trans r16
  have r14 := s15.trans r15
  have rF := s14.trans r14
  have r13 := sF.trans rF
  have r12 := s13.trans r13
  have r11 := s12.trans r12
  have r10 := s11.trans r11
  have r9 := s10.trans r10
  have r8 := s9.trans r9
  have r7 := s8.trans r8
  have r6 := s7.trans r7
  have r5 := s6.trans r6
  have r4 := s5.trans r5
  have r3 := s4.trans r4
  have r2 := s3.trans r3
  have r1 := s2.trans r2
  have r0 := s1.trans r1
  refine ⟨_, _, _, _, rfl, rfl, (r9 _ _ upd_same), upd_same, (by show 18 ≤ sizeLine; decide), fun p18 np18 => ?_⟩
  have s18 := Same.new (o := .lst ([.ref p1, .ref p2, .ref p3, .ref p4, .ref p5, .ref p6, .ref pv7, .ref p8] ++ [.ref p10, .ref p11, .ref p12, .ref p13, .non, .int 1, .str "ab", .ref p14, .ref p15, .ref p16])) np18
  refine ⟨_, rfl, _, rfl, τ, p18, _, n, rfl, SqL.of upd_same, (by simp), (by show 18 ≤ 100000; decide), (T1.same r0).same s18, fun y H2 e2 T2 hy => ?_⟩
  have up : ∀ (a : Addr) (o : HO), (∀ kv, o ≠ .dK kv) → (upd (upd (upd (upd HF p14 (.tup [.ref x, .int (p : Int)])) p15 (.tup [.int 1, .str "a"])) p16 (.tup [.non, .int (p : Int)])) p17 (.lst [.ref p10, .ref p11, .ref p12, .ref p13, .non, .int 1, .str "ab", .ref p14, .ref p15, .ref p16])) a = some o → H2 a = some o := fun a o no h => e2.k _ _ (s18 _ _ h) no
  have ex := e1.trans ((Nd.of (r0.trans s18)).trans e2)
  obtain ⟨dF, uF, gF, _⟩ := oF.ex
  rcases List.mem_append.mp hy with hy | hy
  · simp only [List.mem_cons, List.not_mem_nil, or_false] at hy
    rcases hy with rfl | rfl | rfl | rfl | rfl | rfl | rfl | rfl
    · exact q _ H2 ex T2 (.sign (up _ _ (by nofun) (r1 _ _ upd_same)) ⟨by decide, by decide⟩) rfl
    · exact q _ H2 ex T2 (.sign (up _ _ (by nofun) (r2 _ _ upd_same)) ⟨by decide, by decide⟩) rfl
    · exact q _ H2 ex T2 (.sign (up _ _ (by nofun) (r3 _ _ upd_same)) ⟨by decide, by decide⟩) rfl
    · exact q _ H2 ex T2 (.bool (up _ _ (by nofun) (r4 _ _ upd_same))) rfl
    · exact q _ H2 ex T2 (.side (up _ _ (by nofun) (r5 _ _ upd_same)) (.str _) (L2.kit_ty (by decide +kernel))) rfl
    · exact q _ H2 ex T2 (.neg (up _ _ (by nofun) (r6 _ _ upd_same)) (.inl rfl) ⟨by omega, by omega⟩) rfl
    · exact q _ H2 ex T2 (.none (up _ _ (by nofun) (r7 _ _ upd_same)) (.inr rfl) (.bl true)) rfl
    · exact q _ H2 ex T2 (.none (up _ _ (by nofun) (r8 _ _ upd_same)) (.inl rfl) .non) rfl
  · simp only [List.mem_cons, List.not_mem_nil, or_false] at hy
    rcases hy with rfl | rfl | rfl | rfl | rfl | rfl | rfl | rfl | rfl | rfl
    · exact q _ H2 ex T2 (.other ((.lst (up _ _ (by nofun) (r10 _ _ upd_same)))) (L2.kit_ty (by decide +kernel))) rfl
    · exact q _ H2 ex T2 (.len (up _ _ (by nofun) (r11 _ _ upd_same)) (by simp)) rfl
    · exact q _ H2 ex T2 (.len (up _ _ (by nofun) (r12 _ _ upd_same)) (by simp)) rfl
    · exact q _ H2 ex T2 (.len (up _ _ (by nofun) (r13 _ _ upd_same)) (by simp)) rfl
    · exact q _ H2 ex T2 (.other .non (L2.kit_ty (by decide +kernel))) rfl
    · exact q _ H2 ex T2 (.other (.int 1) (L2.kit_ty (by decide +kernel))) rfl
    · exact q _ H2 ex T2 (.other (.str _) (L2.kit_ty (by decide +kernel))) rfl
    · exact q _ H2 ex T2 (.side (up _ _ (by nofun) (r14 _ _ upd_same)) (.ins (up _ _ (by nofun) (rF _ _ gF)) fun _ _ _ h => T.tyF h) kI) rfl
    · exact q _ H2 ex T2 (.none (up _ _ (by nofun) (r15 _ _ upd_same)) (.inl rfl) (.str "a")) rfl
    · exact q _ H2 ex T2 (.side (up _ _ (by nofun) (r16 _ _ upd_same)) .non (L2.kit_ty (by decide +kernel))) rfl
abbrev S__law_told : Stmt := top 156
abbrev N__law_told : List Str := ["_law_entries", "_law_found", "e"]
abbrev P__law_told : List Str := ["_law_entries"]
theorem sc__law_told : FnScope N__law_told P__law_told (defScope S__law_told) := ⟨rfl, rfl, rfl, by decide +kernel, rfl, by decide +kernel, by decide +kernel⟩
def spTold (K : PySem.W.Frag) (C_Far : Addr) : Sp := fun vs H Q _ => ∃ (l : Addr) (xs : List V) (Tl : List (Int × Nat)), vs = [.ref l] ∧ Sq K H l xs ∧ Tl.length ≤ 20 ∧ (∀ i x, xs[i]? = some x → i < Tl.length → ∃ e, Tl[i]? = some e ∧ Tm K C_Far H x e) ∧
  ((Tl.length = xs.length ∧ ∀ (b : Addr) (H' : Hp), Same H H' → SqT K H' b [.bl true, .int (Tl.map tv).sum] → Q (.ref b) H') ∨
   ((∃ x, xs[Tl.length]? = some x ∧ NoTm K H x) ∧ ∀ (b : Addr) (H' : Hp), Same H H' → SqT K H' b [.str "wrong", .int (Tl.length : Int), .bl true] → Q (.ref b) H'))
theorem ok_told {C : Addr} {k : Nat} (k9 : 15 ≤ k) (F : Fun K "_law_told" "_law_told" S__law_told f fd) (B : Blt mg) (T : FarK K mg C_Far C_Sound) (Csigned_sum : HasX P w K mg base k "signed_sum" P_signed_sum (spSS K C_Far C)) (ME_Far_whole : HasMeth P w K mg base 4 "whole" C_Far P_Far_whole (spWhole K C_Far 0)) (TN : Err P w K mg base "InvalidTerm" C ["index"] oneInt) (no : PySem.W.findIn K (.ref C) "index" = some none) :
    FnOk P w K mg base CX0 (k + 1) f fd P__law_told (spTold K C_Far) := by
  have nd := sc__law_told.nd
  refine F.ok sc__law_told (fun vs H Q E h => ?_) (fun cdv A outer s H vs Q E hr h => ?_)
  · obtain ⟨l, xs, Tl, rfl, _⟩ := h
    rfl
  obtain ⟨l, xs, Tl, rfl, hxs, l20, tms, res⟩ := h
  have mg_Far := T.gF
  have CL_Far := T.cl
  refine ⟨_, (pss_cons (ps_try_as (i := 2) rfl rfl nd rfl rfl ⟨rfl, by decide, .inl TN.gC⟩ takes0
      (fun W pn xe tk _ => pss_one (ps_set (i := 1) nd rfl (Or.inl rfl) (pe_HX Csigned_sum tk (hr.mono (by omega)) rfl (pa_cons (pv 0) pa_nil))))
      (fun a oe cls d pn hz hf => pss_one (ps_ret (pe_tup (pa_cons pe_str (pa_cons (pe_xf TN.xf no hz hf (pv 2)) (pa_cons (pe_callB (Fb.call_isiK K rfl) (by rfl) B.isinstance (by decide +kernel) (pa_cons (pe_xf TN.xf no hz hf (pv 2)) (pa_cons (pe_bltn (by rfl) B.int (by decide +kernel) (show RelV (.ty "int") (.type "int") from rfl)) pa_nil))) pa_nil)))))))
    (pss_one (ps_ret (pe_tup (pa_cons (pe_callB call_isi (by rfl) B.isinstance (by decide +kernel) (pa_cons (pv 1) (pa_cons (pe_glob (v := .ref C_Far) rfl mg_Far rfl) pa_nil))) (pa_cons (pe_me0 CL_Far ME_Far_whole (hr.mono (by omega)) (pv 1)) pa_nil)))))), ?_⟩
  refine ⟨_, rfl, l, xs, Tl, rfl, hxs, l20, tms, ?_⟩
  rcases res with ⟨el, q⟩ | ⟨nt, q⟩
  · refine .inl ⟨el, fun b H1 e o => ?_⟩
    obtain ⟨d1, u1, h1, _⟩ := id o.ex
    have ws : Wz (Tl.map tv).sum := by
      refine sum_wz (by rw [List.length_map]; omega) fun z hz => ?_
      obtain ⟨e', he, rfl⟩ := List.mem_map.mp hz
      obtain ⟨i, hi⟩ := List.mem_iff_getElem?.mp he
      have il : i < Tl.length := (List.getElem?_eq_some_iff.mp hi).1
      obtain ⟨e2, he2, tm⟩ := tms i xs[i] (List.getElem?_eq_getElem (by omega)) il
      rw [hi] at he2
      obtain rfl := Option.some.inj he2
      have k := tv_wz tm.side tm.place
      exact ⟨k.1, k.2.1⟩
    refine ⟨_, rfl, _, _, _, _, _, rfl, .own C_Far, T.tyF h1, T.k4, ?_⟩
    refine ⟨_, rfl, b, d1, _, rfl, h1, no_whole u1, b, _, rfl, o, ws.wf.num, fun t ht => by have := ws t ht; omega, fun H2 e2 => ?_⟩
    refine ⟨(by show 2 ≤ sizeLine; decide), fun p np => ?_⟩
    exact q p _ (e.trans (e2.trans (Same.new np))) (SqT.of upd_same)
  · refine .inr ⟨nt, fun H1 b e hb => ?_⟩
    refine ⟨true, TN.te, fun _ x hx => ?_, fun q => nomatch q⟩
    have e2 := e.trans (Same.new (o := .xd [("index", .int (Tl.length : Int))]) hb)
    refine ⟨_, rfl, rfl, rfl, _, _, _, rfl, upd_same, rfl, ?_⟩
    refine ⟨_, rfl, rfl, rfl, _, _, _, rfl, upd_same, rfl, _, _, _, _, true, rfl, .ty "int", .base (.int _), L2.kit_ty (by decide +kernel), ?_⟩
    refine ⟨(by show 3 ≤ sizeLine; decide), fun p np => ?_⟩
    exact q p _ (e2.trans (Same.new np)) (SqT.of upd_same)
end
end Fb
namespace Fb
open PySem L2 PyProof.Rows
/-- a row of terms, each with its side and place -/
inductive TmL (K : PySem.W.Frag) (C : Addr) (H : Hp) : List V → List (Int × Nat) → Prop
  | nil : TmL K C H [] []
  | cons {v : V} {e : Int × Nat} {vs : List V} {es : List (Int × Nat)} (h : Tm K C H v e) (r : TmL K C H vs es) : TmL K C H (v :: vs) (e :: es)
section
variable {K : PySem.W.Frag} {C : Addr} {H H' : Hp}
theorem TmL.nd {vs : List V} {es : List (Int × Nat)} (h : TmL K C H vs es) (e : Nd H H') : TmL K C H' vs es := by
  induction h with
  | nil => exact .nil
  | cons h _ ih => exact .cons (h.nd e) ih
theorem TmL.len {vs : List V} {es : List (Int × Nat)} (h : TmL K C H vs es) : vs.length = es.length := by
  induction h with
  | nil => rfl
  | cons _ _ ih => rw [List.length_cons, List.length_cons, ih]
theorem TmL.snoc {vs : List V} {es : List (Int × Nat)} {v : V} {e : Int × Nat} (h : TmL K C H vs es) (t : Tm K C H v e) : TmL K C H (vs ++ [v]) (es ++ [e]) := by
  induction h with
  | nil => exact .cons t .nil
  | cons h _ ih => exact .cons h ih
theorem TmL.get {vs : List V} {es : List (Int × Nat)} (h : TmL K C H vs es) : ∀ {i : Nat} {x : V}, vs[i]? = some x → ∃ e, es[i]? = some e ∧ Tm K C H x e := by
  induction h with
  | nil => intro i x e; cases e
  | cons h _ ih =>
    intro i x e
    cases i with
    | zero => cases e; exact ⟨_, rfl, h⟩
    | succ i => exact ih e
theorem Tm.list {D : Addr} {us us' : List V} {v : V} {e : Int × Nat} (hD : H D = some (.lst us)) (h : Tm K C H v e) : Tm K C (upd H D (.lst us')) v e := by
  obtain ⟨a, pv, h1, h2, h3⟩ := h.ex
  have W := (Wz.place (p := (e.2 : Int)) (by omega) (by have := h.place; omega)).1.wf
  refine ⟨⟨a, pv, h1, by rw [upd_ne (fun e => by rw [e, hD] at h2; cases h2)]; exact h2, ?_⟩, h.side, h.place⟩
  cases h3 with
  | int => exact .int _
  | far o =>
    obtain ⟨dx, u, g1, g2⟩ := o.ex
    exact .far ⟨dx, u, by rw [upd_ne (fun e => by rw [e, hD] at g1; cases g1)]; exact g1, (Td.lst hD).d W.fit.fm g2⟩
theorem TmL.list {D : Addr} {us us' : List V} {vs : List V} {es : List (Int × Nat)} (hD : H D = some (.lst us)) (h : TmL K C H vs es) : TmL K C (upd H D (.lst us')) vs es := by
  induction h with
  | nil => exact .nil
  | cons h _ ih => exact .cons (h.list hD) ih
theorem TmL.self {vs : List V} {es : List (Int × Nat)} (h : TmL K C H vs es) : vs.all selfV = true := by
  induction h with
  | nil => rfl
  | cons h _ ih =>
    obtain ⟨a, pv, rfl, _⟩ := h.ex
    exact ih
theorem TmL.perm {ys xs : List V} (p : ys.Perm xs) : ∀ {es : List (Int × Nat)}, TmL K C H xs es → ∃ fs, TmL K C H ys fs ∧ (fs.map tv).sum = (es.map tv).sum := by
  induction p with
  | nil => exact fun h => ⟨_, h, rfl⟩
  | cons x _ ih =>
    intro es h
    cases h with
    | cons t r =>
      obtain ⟨fs, h1, h2⟩ := ih r
      exact ⟨_, .cons t h1, by rw [List.map_cons, List.map_cons, List.sum_cons, List.sum_cons, h2]⟩
  | swap x y l =>
    intro es h
    cases h with
    | cons t r =>
      cases r with
      | cons t2 r => exact ⟨_, .cons t2 (.cons t r), by simp only [List.map_cons, List.sum_cons]; omega⟩
  | trans _ _ ih1 ih2 =>
    intro es h
    obtain ⟨fs, h1, h2⟩ := ih2 h
    obtain ⟨gs, h3, h4⟩ := ih1 h1
    exact ⟨gs, h3, h4.trans h2⟩
/-- entries of which those at some places are no terms -/
structure Bent (K : PySem.W.Frag) (C : Addr) (H : Hp) (xs : List V) (ws : List Nat) : Prop where
  lt : ∀ o ∈ ws, o < xs.length
  ok : ∀ i x, xs[i]? = some x → i ∉ ws → ∃ e, Tm K C H x e
  no : ∀ i x, xs[i]? = some x → i ∈ ws → NoTm K H x
  self : xs.all selfV = true
theorem Bent.start {xs : List V} {es : List (Int × Nat)} (h : TmL K C H xs es) : Bent K C H xs [] :=
  ⟨(fun _ h => nomatch h), fun i x hx _ => by obtain ⟨e, _, t⟩ := h.get hx; exact ⟨e, t⟩, fun _ _ _ h => (nomatch h), h.self⟩
def shiftW (a : Nat) (o : Nat) : Nat := o + if a ≤ o then 1 else 0
theorem Bent.ins {xs : List V} {ws : List Nat} {y : V} {a : Nat} (h : Bent K C H xs ws) (al : a ≤ xs.length) (ny : NoTm K H y) (sy : selfV y = true) : Bent K C H (xs.take a ++ [y] ++ xs.drop a) (ws.map (shiftW a) ++ [a]) := by
  have lt : (xs.take a).length = a := by rw [List.length_take]; omega
  have get : ∀ i x, (xs.take a ++ [y] ++ xs.drop a)[i]? = some x → (i < a ∧ xs[i]? = some x) ∨ (i = a ∧ x = y) ∨ (a < i ∧ xs[i - 1]? = some x) := fun i x hx => by
    rw [List.append_assoc] at hx
    rcases Nat.lt_trichotomy i a with c | c | c
    · rw [List.getElem?_append_left (by omega), List.getElem?_take, if_pos c] at hx
      exact .inl ⟨c, hx⟩
    · subst c
      rw [List.getElem?_append_right (by omega), lt, Nat.sub_self] at hx
      exact .inr (.inl ⟨rfl, (Option.some.inj hx).symm⟩)
    · rw [List.getElem?_append_right (by omega), lt, List.getElem?_append_right (by show 1 ≤ i - a; omega), List.getElem?_drop] at hx
      refine .inr (.inr ⟨c, ?_⟩)
      rw [show a + (i - a - [y].length) = i - 1 by show a + (i - a - 1) = i - 1; omega] at hx
      exact hx
  have mem : ∀ i, i ∈ ws.map (shiftW a) ++ [a] ↔ (i < a ∧ i ∈ ws) ∨ i = a ∨ (a < i ∧ i - 1 ∈ ws) := fun i => by
    rw [List.mem_append, List.mem_map, List.mem_singleton]
    constructor
    · rintro (⟨o, ho, rfl⟩ | rfl)
      · unfold shiftW
        split
        · exact .inr (.inr ⟨by omega, by rw [Nat.add_sub_cancel]; exact ho⟩)
        · exact .inl ⟨by omega, ho⟩
      · exact .inr (.inl rfl)
    · rintro (⟨h1, h2⟩ | rfl | ⟨h1, h2⟩)
      · exact .inl ⟨i, h2, by unfold shiftW; rw [if_neg (by omega)]; rfl⟩
      · exact .inr rfl
      · exact .inl ⟨i - 1, h2, by unfold shiftW; rw [if_pos (by omega)]; omega⟩
  have len : (xs.take a ++ [y] ++ xs.drop a).length = xs.length + 1 := by
    rw [List.length_append, List.length_append, lt, List.length_drop]
    show a + 1 + (xs.length - a) = _
    omega
  refine ⟨fun o ho => ?_, fun i x hx ni => ?_, fun i x hx hi => ?_, ?_⟩
  · rw [len]
    rcases (mem o).mp ho with ⟨h1, h2⟩ | rfl | ⟨h1, h2⟩
    · omega
    · omega
    · have := h.lt _ h2; omega
  · rcases get i x hx with ⟨h1, h2⟩ | ⟨h1, h2⟩ | ⟨h1, h2⟩
    · exact h.ok i x h2 fun k => ni ((mem i).mpr (.inl ⟨h1, k⟩))
    · exact absurd ((mem i).mpr (.inr (.inl h1))) ni
    · exact h.ok _ x h2 fun k => ni ((mem i).mpr (.inr (.inr ⟨h1, k⟩)))
  · rcases get i x hx with ⟨h1, h2⟩ | ⟨h1, h2⟩ | ⟨h1, h2⟩
    · rcases (mem i).mp hi with ⟨_, k⟩ | k | ⟨k, _⟩
      · exact h.no i x h2 k
      · omega
      · omega
    · rw [h2]; exact ny
    · rcases (mem i).mp hi with ⟨k, _⟩ | k | ⟨_, k⟩
      · omega
      · omega
      · exact h.no _ x h2 k
  · rw [List.all_append, List.all_append]
    have s1 := List.all_eq_true.mp h.self
    rw [List.all_eq_true.mpr fun x hx => s1 x (List.mem_of_mem_take hx), List.all_eq_true.mpr fun x hx => s1 x (List.mem_of_mem_drop hx)]
    show (true && (selfV y && true) && true) = true
    rw [sy]
    rfl
/-- the terms ahead of a place -/
theorem Bent.ahead {xs : List V} {ws : List Nat} (h : Bent K C H xs ws) : ∀ m : Nat, m ≤ xs.length → (∀ o ∈ ws, m ≤ o) → ∃ Tl : List (Int × Nat), Tl.length = m ∧ ∀ i x, xs[i]? = some x → i < Tl.length → ∃ e, Tl[i]? = some e ∧ Tm K C H x e
  | 0, _, _ => ⟨[], rfl, fun i x _ h => absurd h (by simp)⟩
  | m + 1, ml, hm => by
    obtain ⟨Tl, len, g⟩ := h.ahead m (by omega) fun o ho => by have := hm o ho; omega
    obtain ⟨e, te⟩ := h.ok m xs[m] (List.getElem?_eq_getElem (by omega)) fun k => by have := hm m k; omega
    refine ⟨Tl ++ [e], by rw [List.length_append, len]; rfl, fun i x hx hi => ?_⟩
    rw [List.length_append, len] at hi
    have hi' : i < m + 1 := hi
    rcases Nat.lt_or_ge i m with c | c
    · obtain ⟨e', h1, h2⟩ := g i x hx (by omega)
      exact ⟨e', by rw [List.getElem?_append_left (by omega)]; exact h1, h2⟩
    · have ei : i = m := by omega
      subst ei
      rw [List.getElem?_eq_getElem (by omega)] at hx
      obtain rfl := Option.some.inj hx
      exact ⟨e, by rw [List.getElem?_append_right (by omega), len, Nat.sub_self]; rfl, te⟩
end
section
variable {P : Program} {w : World} {K : PySem.W.Frag} {mg : Str → Option Value} {base : Heap} {f : Addr} {fd : FuncData} {C_Far C_Sound : Addr}
abbrev S_law : Stmt := top 157
abbrev N_law : List Str := ["_law_script", "_law_pen_here", "_law_again", "_law_found", "_law_due", "_law_k", "_law_side", "_law_spot_here", "_law_here", "_law_place", "_law_bent", "_law_wrong_here", "_law_at", "_law_given_here", "_law_one"]
abbrev P_law : List Str := ["_law_script"]
theorem sc_law : FnScope N_law P_law (defScope S_law) := ⟨rfl, rfl, rfl, by decide +kernel, rfl, by decide +kernel, by decide +kernel⟩
theorem min_ex : ∀ ws : List Nat, 0 < ws.length → ∃ m ∈ ws, ∀ o ∈ ws, m ≤ o
  | [], h => absurd h (by simp)
  | [x], _ => ⟨x, by simp, fun o ho => by rw [List.mem_singleton.mp ho]; exact Nat.le_refl _⟩
  | x :: y :: r, _ => by
    obtain ⟨m, hm, h⟩ := min_ex (y :: r) (by simp)
    rcases Nat.lt_or_ge x m with c | c
    · exact ⟨x, by simp, fun o ho => by
        rcases List.mem_cons.mp ho with rfl | ho
        · exact Nat.le_refl _
        · have := h o ho; omega⟩
    · exact ⟨m, List.mem_cons_of_mem _ hm, fun o ho => by
        rcases List.mem_cons.mp ho with rfl | ho
        · exact c
        · exact h o ho⟩
theorem shaped_bad {z : Int} : SeqAt.shaped (.tuple [.str "wrong", .int z, .bool true]) = true := by
  kernel_rfl
theorem eqv_bad {z : Int} : PyData.eqv (.tuple [.str "wrong", .int z, .bool true]) (.tuple [.str "wrong", .int z, .bool true]) = true := by
  simp [PyData.eqv, PyData.eqvAll]
theorem eqv_told {z : Int} : PyData.eqv (.tuple [.bool true, .int z]) (.tuple [.bool true, .int z]) = true := by
  simp [PyData.eqv, PyData.eqvAll]
theorem Bent.nd {C : Addr} {H H' : Hp} {xs : List V} {ws : List Nat} (h : Bent K C H xs ws) (e : Nd H H') : Bent K C H' xs ws :=
  ⟨h.lt, fun i x hx ni => by obtain ⟨e', t⟩ := h.ok i x hx ni; exact ⟨e', t.nd e⟩, fun i x hx hi => (h.no i x hx hi).nd e, h.self⟩
theorem Bent.list {C : Addr} {H : Hp} {D : Addr} {us us' : List V} {xs : List V} {ws : List Nat} (hD : H D = some (.lst us)) (h : Bent K C H xs ws) : Bent K C (upd H D (.lst us')) xs ws :=
  ⟨h.lt, fun i x hx ni => by obtain ⟨e', t⟩ := h.ok i x hx ni; exact ⟨e', t.list hD⟩, fun i x hx hi => (h.no i x hx hi).list hD, h.self⟩
def spLaw (K : PySem.W.Frag) : Sp := fun vs H Q _ => ∃ (a : Addr) (ns : List Int), vs = [.ref a] ∧ SqL K H a (ns.map V.int) ∧ ns.length ≤ 63 ∧ ∀ H', Q (.bl true) H'
theorem ok_law (F : Fun K "law" "law" S_law f fd) (B : Blt mg) (C_law_pen : Has P w K mg base 1 "_law_pen" P__law_pen [] (spPen K)) (C_law_draw : Has P w K mg base 1 "_law_draw" P__law_draw [] (spDrawP K)) (C_law_pick : Has P w K mg base 2 "_law_pick" P__law_pick [] (spPickP K)) (C_law_spot : Has P w K mg base 3 "_law_spot" P__law_spot [] (spSpot K))
    (C_law_given : Has P w K mg base 8 "_law_given" P__law_given [] (spGiven K C_Far)) (C_law_shuffled : Has P w K mg base 2 "_law_shuffled" P__law_shuffled [] (spShuf K)) (C_law_wrong : Has P w K mg base 8 "_law_wrong" P__law_wrong [] (spWrong K)) (C_law_told : Has P w K mg base 23 "_law_told" P__law_told [] (spTold K C_Far)) :
    FnOk P w K mg base CX0 (24) f fd P_law (spLaw K) := by
  have nd := sc_law.nd
  refine F.ok sc_law (fun vs H Q E h => ?_) (fun cdv A outer s H vs Q E hr h => ?_)
  · obtain ⟨a, ns, rfl, _⟩ := h
    rfl
  obtain ⟨a, ns, rfl, hS, h63, q⟩ := h
  refine ⟨_, (pss_cons (ps_set (i := 1) nd rfl (Or.inl rfl) (pe_H C_law_pen (hr.mono (by decide)) rfl (pa_cons (pv 0) pa_nil)))
    (pss_cons (ps_for PassesOwn.never rfl (pi_range1 (by rfl) B.range (pa_cons (pe_op op_add pe_int (pe_callB (call_min2 rfl) (by rfl) B.min (by decide +kernel) (pa_cons pe_int (pa_cons (pe_callB call_lenL (by rfl) B.len PySem.boot_len (pa_cons (pv 0) pa_nil)) pa_nil)))) pa_nil)) (pg_name (i := 2) nd rfl (Or.inl rfl)) (pss_cons (ps_par (i := 3) (j := 4) (by rfl) nd rfl rfl (by decide) rfl rfl (pa_cons (pe_lst pa_nil) (pa_cons pe_int pa_nil)) (by rfl))
    (C8.pss_cut (ps_for PassesOwn.never rfl (pi_range1 (by rfl) B.range (pa_cons (pe_H C_law_draw (hr.mono (by decide)) rfl (pa_cons (pv 1) (pa_cons pe_int pa_nil))) pa_nil)) (pg_name (i := 5) nd rfl (Or.inl rfl)) (pss_cons (ps_par (i := 6) (j := 7) (by rfl) nd rfl rfl (by decide) rfl rfl (pa_cons (pe_H C_law_pick (hr.mono (by decide)) rfl (pa_cons (pv 1) (pa_cons (pe_lst (pa_cons pe_int (pa_cons (pe_un un_neg pe_int) pa_nil))) pa_nil))) (pa_cons (pe_H C_law_spot (hr.mono (by decide)) rfl (pa_cons (pv 1) pa_nil)) pa_nil)) (by rfl))
    (pss_one (ps_for PassesOwn.never rfl (pi_list (pe_H C_law_pick (hr.mono (by decide)) rfl (pa_cons (pv 1) (pa_cons (pe_lst (pa_cons (pe_lst (pa_cons (pe_tup (pa_cons (pv 6) (pa_cons (pv 7) pa_nil))) pa_nil)) (pa_cons (pe_op op_rep (pe_lst (pa_cons (pe_tup (pa_cons (pv 6) (pa_cons (pv 7) pa_nil))) pa_nil)) pe_int) (pa_cons (pe_lst (pa_cons (pe_tup (pa_cons (pv 6) (pa_cons (pv 7) pa_nil))) (pa_cons (pe_tup (pa_cons (pe_un un_neg (pv 6)) (pa_cons (pe_op op_add (pv 7) pe_int) pa_nil))) pa_nil))) pa_nil)))) pa_nil)))) (pg_tup rfl (pgs_cons (pg_name (i := 8) nd rfl (Or.inl rfl)) (pgs_cons (pg_name (i := 9) nd rfl (Or.inl rfl)) pgs_nil))) (pss_cons (ps_expr (pe_bm PySem.F.plainAttrs_list PySem.F.slot_list_append PySem.F.type_list_append mt_append (pv 3) (pa_cons (pe_tup (pa_cons (pv 8) (pa_cons (pe_H C_law_given (hr.mono (by decide)) rfl (pa_cons (pv 1) (pa_cons (pv 9) pa_nil))) pa_nil))) pa_nil)))
    (pss_one (ps_set (i := 4) nd rfl (Or.inl rfl) (pe_op op_add (pv 4) (pe_op op_mul (pv 8) (pe_op op_shlW pe_int (pv 9)))))))))))
    (C8.pss_cut (ps_set (i := 3) nd rfl (Or.inl rfl) (pe_H C_law_shuffled (hr.mono (by decide)) rfl (pa_cons (pv 1) (pa_cons (pv 3) pa_nil))))
    (C8.pss_cut (ps_if (pt_cmpR (op_neD hr.units) (pe_H C_law_told (hr.mono (by decide)) rfl (pa_cons (pe_H C_law_pick (hr.mono (by decide)) rfl (pa_cons (pv 1) (pa_cons (pe_lst (pa_cons (pe_callTy call_listL (by rfl) B.list (by decide +kernel) (pa_cons (pv 3) pa_nil)) (pa_cons (pe_callTy call_tupL (by rfl) B.tuple (by decide +kernel) (pa_cons (pv 3) pa_nil)) pa_nil))) pa_nil))) pa_nil)) (pe_tup (pa_cons pe_bl (pa_cons (pv 4) pa_nil))) (nomark _)) (pss_one (ps_ret pe_bl)) pss_nil)
    (pss_cons (ps_par (i := 10) (j := 11) (by rfl) nd rfl rfl (by decide) rfl rfl (pa_cons (pe_callTy call_listL (by rfl) B.list (by decide +kernel) (pa_cons (pv 3) pa_nil)) (pa_cons (pe_lst pa_nil) pa_nil)) (by rfl))
    (C8.pss_cut (ps_for PassesOwn.never rfl (pi_range1 (by rfl) B.range (pa_cons (pe_op op_add pe_int (pe_H C_law_draw (hr.mono (by decide)) rfl (pa_cons (pv 1) (pa_cons pe_int pa_nil)))) pa_nil)) (pg_name (i := 5) nd rfl (Or.inl rfl)) (pss_cons (ps_set (i := 12) nd rfl (Or.inr rfl) (pe_H C_law_draw (hr.mono (by decide)) rfl (pa_cons (pv 1) (pa_cons (pe_op op_add (pe_callB call_lenL (by rfl) B.len PySem.boot_len (pa_cons (pv 10) pa_nil)) pe_int) pa_nil))))
    (pss_cons (ps_expr (pe_bm PySem.F.plainAttrs_list PySem.F.slot_list_insert PySem.F.type_list_insert mt_insert (pv 10) (pa_cons (pv 12) (pa_cons (pe_H C_law_wrong (hr.mono (by decide)) rfl (pa_cons (pv 1) pa_nil)) pa_nil))))
    (pss_one (ps_set (i := 11) nd rfl (Or.inl rfl) (pe_op op_cat (pe_lc (own := [("_law_one", 14)]) (g := gName 14) (tt := tYes) rfl nd (pi_list (pv 11)) (blkOk_by (own := [("_law_one", 14)]) (N := N_law) (sc := defScope S_law) (by decide +kernel)) (fun _ _ _ _ _ => pg_name (i := 14) nd rfl (Or.inl rfl)) (fun _ _ _ _ _ => pts_nil) (fun _ _ _ _ _ => (pe_op op_add (pv 14) (pe_callTy call_intB (by rfl) B.int (by decide +kernel) (pa_cons (pe_cmpR op_ge (pv 14) (pv 12) (nomark _)) pa_nil))))) (pe_lst (pa_cons (pv 12) pa_nil))))))))
    (pss_cons (ps_set (i := 13) nd rfl (Or.inl rfl) (pe_callTy call_listL (by rfl) B.list (by decide +kernel) (pa_cons (pv 10) pa_nil)))
    (C8.pss_cut (ps_if (pt_cmpR (op_neD hr.units) (pe_H C_law_told (hr.mono (by decide)) rfl (pa_cons (pv 13) pa_nil)) (pe_tup (pa_cons pe_str (pa_cons (pe_callB (cr_min rfl) (by rfl) B.min (by decide +kernel) (pa_cons (pe_lc (own := [("_law_one", 14)]) (g := gName 14) (tt := tYes) rfl nd (pi_list (pv 11)) (blkOk_by (own := [("_law_one", 14)]) (N := N_law) (sc := defScope S_law) (by decide +kernel)) (fun _ _ _ _ _ => pg_name (i := 14) nd rfl (Or.inl rfl)) (fun _ _ _ _ _ => pts_nil) (fun _ _ _ _ _ => (pe_callTy call_intI (by rfl) B.int (by decide +kernel) (pa_cons (pv 14) pa_nil)))) pa_nil)) (pa_cons pe_bl pa_nil)))) (nomark _)) (pss_one (ps_ret pe_bl)) pss_nil)
    (pss_one (ps_if (pt_cmpR (op_neS hr.units0) (pv 13) (pv 10) (nomark _)) (pss_one (ps_ret pe_bl)) pss_nil)))))))))))
    (pss_one (ps_ret pe_bl)))), ?_⟩
  refine ⟨_, rfl, a, ns, rfl, hS, h63, fun τ H0 e0 T0 => ?_⟩
  have hN : ∃ N : Nat, N ≤ 6 ∧ (3 : Int) + (if (((ns.map V.int).length : Nat) : Int) < 3 then (((ns.map V.int).length : Nat) : Int) else 3) = (N : Int) := by
    split
    · exact ⟨3 + (ns.map V.int).length, by omega, by omega⟩
    · exact ⟨6, by omega, by omega⟩
  obtain ⟨N, hN6, hNe⟩ := hN
  refine ⟨_, rfl, _, _, rfl, e0.seq hS, _, _, rfl, _, _, rfl, rfl, _, rfl, ?_, ?_, ?_⟩
  · rw [hNe]; omega
  · rw [hNe]; omega
  refine for_range (lo := 0) (n := ((3 : Int) + (if (((ns.map V.int).length : Nat) : Int) < 3 then (((ns.map V.int).length : Nat) : Int) else 3)).toNat) (fun i σ H' => ∃ (z2 z3 z4 z5 z6 z7 z8 z9 z10 z11 z12 z13 z14 : Option V), σ = [some (.ref a), some (.ref τ.t), z2, z3, z4, z5, z6, z7, z8, z9, z10, z11, z12, z13, z14] ∧ Pen K τ (200 * (7 - i)) H')
    ⟨_, _, _, _, _, _, _, _, _, _, _, _, _, rfl, T0.mono (by omega)⟩ (fun i σ H' hi h => ?_) (fun σ H' h => ?_)
  · rw [hNe] at hi
    obtain ⟨z2, z3, z4, z5, z6, z7, z8, z9, z10, z11, z12, z13, z14, rfl, Tp⟩ := h
    obtain ⟨k, hk1, hk2⟩ : ∃ k, 200 * (7 - i) = k + 200 ∧ k = 200 * (7 - (i + 1)) := ⟨_, by omega, rfl⟩
    rw [hk1] at Tp
    refine ⟨(by show 0 ≤ sizeLine; decide), fun fa nfa => ?_⟩
    refine ⟨_, _, rfl, ?_⟩
    have T1 : Pen K τ (k + 200) (upd H' fa (.lst [])) := Tp.new nfa
    have hf1 : (upd H' fa (.lst [])) fa = some (.lst []) := upd_same
    generalize upd H' fa (.lst []) = H1 at T1 hf1 ⊢
    refine ⟨fun σ H' => ∃ (xs : List V) (E : List (Int × Nat)) (z5 z6 z7 z8 z9 : Option V), σ = [some (.ref a), some (.ref τ.t), some (.int (0 + (i : Int))), some (.ref fa), some (.int (E.map tv).sum), z5, z6, z7, z8, z9, z10, z11, z12, z13, z14] ∧ Pen K τ (k + 80) H' ∧ H' fa = some (.lst xs) ∧ TmL K C_Far H' xs E ∧ xs.length ≤ 10, ?_, ?_⟩
    · refine ⟨_, rfl, τ, 6, k + 199, rfl, T1, by decide, lt_BigL (by decide), fun u H2 e2 T2 u0 u1 => ?_⟩
      refine ⟨_, rfl, (by omega), (by omega), ?_⟩
      refine for_range (lo := 0) (n := u.toNat) (fun j σ H' => ∃ (xs : List V) (E : List (Int × Nat)) (z5 z6 z7 z8 z9 : Option V), σ = [some (.ref a), some (.ref τ.t), some (.int (0 + (i : Int))), some (.ref fa), some (.int (E.map tv).sum), z5, z6, z7, z8, z9, z10, z11, z12, z13, z14] ∧ Pen K τ (k + 80 + 15 * (6 - j)) H' ∧ H' fa = some (.lst xs) ∧ TmL K C_Far H' xs E ∧ xs.length ≤ 2 * j)
        ⟨[], [], _, _, _, _, _, rfl, T2.mono (by omega), e2.lst hf1, .nil, Nat.zero_le _⟩ (fun j σ H' hj h => ?_) (fun σ H' h => ?_)
      · obtain ⟨xs, E1, z5, z6, z7, z8, z9, rfl, Tq, hf, tm, lx⟩ := h
        have j5 : j < 5 := by omega
        obtain ⟨m, hm1, hm2⟩ : ∃ m, k + 80 + 15 * (6 - j) = m + 15 ∧ m = k + 80 + 15 * (6 - (j + 1)) := ⟨_, by omega, rfl⟩
        rw [hm1] at Tq
        refine ⟨_, rfl, _, rfl, (by show 2 ≤ sizeLine; decide), fun p2 np2 => ?_⟩
        have c2 := Same.new (o := .lst [.int 1, .int (-1)]) np2
        refine ⟨τ, p2, [.int 1, .int (-1)], m + 14, rfl, SqL.of upd_same, (by simp), (by show 2 ≤ 100000; decide), Tq.same c2, fun x H3 e3 T3 hx => ?_⟩
        obtain ⟨s, rfl, side⟩ : ∃ s : Int, x = .int s ∧ (s = 1 ∨ s = -1) := by
          simp only [List.mem_cons, List.not_mem_nil, or_false] at hx
          rcases hx with rfl | rfl
          · exact ⟨1, rfl, .inl rfl⟩
          · exact ⟨-1, rfl, .inr rfl⟩
        refine ⟨_, rfl, τ, m + 10, rfl, T3, fun p H4 e4 T4 p700 => ?_⟩
        refine ⟨_, _, rfl, ?_⟩
        have e24 := (Nd.of c2).trans (e3.trans e4)
        have hf4 := e24.lst hf
        have tm4 := tm.nd e24
        refine ⟨_, rfl, _, rfl, _, rfl, (by show 2 ≤ sizeLine; decide), fun p3 np3 => ?_⟩
        have s3 := Same.new (o := .tup [.int s, .int (p : Int)]) np3
        refine ⟨(by show 1 ≤ sizeLine; decide), fun p4 np4 => ?_⟩
        have s4 := Same.new (o := .lst [.ref p3]) np4
        refine ⟨_, rfl, _, rfl, (by show 2 ≤ sizeLine; decide), fun p5 np5 => ?_⟩
        have s5 := Same.new (o := .tup [.int s, .int (p : Int)]) np5
        refine ⟨(by show 1 ≤ sizeLine; decide), fun p6 np6 => ?_⟩
        have s6 := Same.new (o := .lst [.ref p5]) np6
        refine ⟨p6, 2, _, rfl, rfl, upd_same, by decide, by decide, (by show 2 ≤ sizeLine; decide), fun p7 np7 => ?_⟩
        have s7 := Same.new (o := .lst [.ref p5, .ref p5]) np7
        refine ⟨_, rfl, _, rfl, (by show 2 ≤ sizeLine; decide), fun p8 np8 => ?_⟩
        have s8 := Same.new (o := .tup [.int s, .int (p : Int)]) np8
        refine ⟨_, rfl, _, rfl, _, rfl, _, _, rfl, rfl, (by show 2 ≤ sizeLine; decide), fun p9 np9 => ?_⟩
        have s9 := Same.new (o := .tup [.int (-s), .int ((p : Int) + 1)]) np9
        refine ⟨(by show 2 ≤ sizeLine; decide), fun p10 np10 => ?_⟩
        have s10 := Same.new (o := .lst [.ref p8, .ref p9]) np10
        refine ⟨(by show 3 ≤ sizeLine; decide), fun p11 np11 => ?_⟩
        have s11 := Same.new (o := .lst [.ref p4, .ref p7, .ref p10]) np11
        have r10 := s11
        have r9 := s10.trans r10
        have r8 := s9.trans r9
        have r7 := s8.trans r8
        have r6 := s7.trans r7
        have r5 := s6.trans r6
        have r4 := s5.trans r5
        have r3 := s4.trans r4
        have r2 := s3.trans r3
        refine ⟨τ, p11, _, m + 9, rfl, SqL.of upd_same, (by simp), (by show 3 ≤ 100000; decide), T4.same r2, fun x H5 e5 T5 hx => ?_⟩
        obtain ⟨la, ts, rfl, hla, naf, lts, tts⟩ : ∃ (la : Addr) (ts : List V), x = .ref la ∧ H5 la = some (.lst ts) ∧ la ≠ fa ∧ ts.length ≤ 2 ∧ ∀ y ∈ ts, ∃ (b : Addr) (s' : Int) (p' : Nat), y = .ref b ∧ H5 b = some (.tup [.int s', .int (p' : Int)]) ∧ (s' = 1 ∨ s' = -1) ∧ p' ≤ 700 := by
          have tk : ∀ (b : Addr) (us : List V), _ → H5 b = some (.tup us) := fun b us h => e5.k b (.tup us) h (fun _ z => nomatch z)
          simp only [List.mem_cons, List.not_mem_nil, or_false] at hx
          rcases hx with rfl | rfl | rfl
          · refine ⟨p4, [.ref p3], rfl, e5.lst (r4 _ _ upd_same), (by rintro rfl; rw [s3 _ _ hf4] at np4; cases np4), by simp, fun y hy => ?_⟩
            rw [List.mem_singleton.mp hy]
            exact ⟨p3, s, p, rfl, tk _ _ (r3 _ _ upd_same), side, by omega⟩
          · refine ⟨p7, [.ref p5, .ref p5], rfl, e5.lst (r7 _ _ upd_same), (by rintro rfl; rw [(s3.trans (s4.trans (s5.trans s6))) _ _ hf4] at np7; cases np7), by simp, fun y hy => ?_⟩
            simp only [List.mem_cons, List.not_mem_nil, or_false, or_self] at hy
            rw [hy]
            exact ⟨p5, s, p, rfl, tk _ _ (r5 _ _ upd_same), side, by omega⟩
          · refine ⟨p10, [.ref p8, .ref p9], rfl, e5.lst (r10 _ _ upd_same), (by rintro rfl; rw [(s3.trans (s4.trans (s5.trans (s6.trans (s7.trans (s8.trans s9)))))) _ _ hf4] at np10; cases np10), by simp, fun y hy => ?_⟩
            simp only [List.mem_cons, List.not_mem_nil, or_false] at hy
            rcases hy with rfl | rfl
            · exact ⟨p8, s, p, rfl, tk _ _ (r8 _ _ upd_same), side, by omega⟩
            · exact ⟨p9, -s, p + 1, rfl, tk _ _ (r9 _ _ upd_same), by omega, by omega⟩
        have hf5 := e5.lst (r2 _ _ hf4)
        have tm5 := (tm4.nd (Nd.of r2)).nd e5
        refine ⟨_, rfl, ⟨_, SqL.of hla⟩, ?_⟩
        refine for_list (K := K) (a := la) (xs := ts) (fun r σ H' => ∃ (xs' : List V) (E' : List (Int × Nat)) (z8 z9 : Option V), σ = [some (.ref a), some (.ref τ.t), some (.int (0 + (i : Int))), some (.ref fa), some (.int (E'.map tv).sum), some (.int (0 + (j : Int))), some (.int s), some (.int (p : Int)), z8, z9, z10, z11, z12, z13, z14] ∧ Pen K τ (m + 3 * (3 - r)) H' ∧ H' fa = some (.lst xs') ∧ TmL K C_Far H' xs' E' ∧ xs'.length ≤ 2 * j + r ∧ H' la = some (.lst ts) ∧ ∀ y ∈ ts, ∃ (b : Addr) (s' : Int) (p' : Nat), y = .ref b ∧ H' b = some (.tup [.int s', .int (p' : Int)]) ∧ (s' = 1 ∨ s' = -1) ∧ p' ≤ 700)
          ⟨xs, E1, _, _, rfl, T5, hf5, tm5, by omega, hla, tts⟩ (fun r σ H' _ h => ?_) (fun r x σ H' hx h => ?_) (fun σ H' h => ?_)
        · obtain ⟨_, _, _, _, _, _, _, _, _, hl, _⟩ := h
          exact SqL.of hl
        · obtain ⟨xs', E', z8, z9, rfl, Tr, hfr, tmr, lxr, hlr, ttr⟩ := h
          have r2' : r < 2 := Nat.lt_of_lt_of_le (List.getElem?_eq_some_iff.mp hx).1 lts
          obtain ⟨b, s', p', rfl, hb, sd, p'7⟩ := ttr x (List.mem_of_getElem? hx)
          obtain ⟨m', hm1', hm2'⟩ : ∃ m', m + 3 * (3 - r) = m' + 3 ∧ m' = m + 3 * (3 - (r + 1)) := ⟨_, by omega, rfl⟩
          rw [hm1'] at Tr
          refine ⟨_, _, rfl, SqT.of hb, rfl, _, _, rfl, _, _, rfl, rfl, ?_⟩
          refine ⟨_, rfl, .inl ⟨rfl, _, SqL.of hfr⟩, _, rfl, _, rfl, _, rfl, τ, (p' : Int), m' + 2, rfl, Tr, (Wz.place (p := (p' : Int)) (by omega) (by omega)).1, fun v H6 e6 T6 nv => ?_⟩
          refine ⟨(by show 2 ≤ sizeLine; decide), fun p12 np12 => ?_⟩
          have s12 := Same.new (o := .tup [.int s', v]) np12
          have hf7 := s12 _ _ (e6.lst hfr)
          have tm7 := (tmr.nd e6).nd (Nd.of s12)
          have hl7 := s12 _ _ (e6.lst hlr)
          have nv7 := nv.same s12
          have T7 := T6.same s12
          have h12 : (upd H6 p12 (.tup [.int s', v])) p12 = some (.tup [.int s', v]) := upd_same
          have tt7 : ∀ y ∈ ts, ∃ (b : Addr) (s' : Int) (p' : Nat), y = .ref b ∧ (upd H6 p12 (.tup [.int s', v])) b = some (.tup [.int s', .int (p' : Int)]) ∧ (s' = 1 ∨ s' = -1) ∧ p' ≤ 700 ∨ True := fun _ _ => ⟨0, 0, 0, .inr trivial⟩
          have tt8 : ∀ y ∈ ts, ∃ (b : Addr) (s2 : Int) (p2 : Nat), y = .ref b ∧ (upd H6 p12 (.tup [.int s', v])) b = some (.tup [.int s2, .int (p2 : Int)]) ∧ (s2 = 1 ∨ s2 = -1) ∧ p2 ≤ 700 := fun y hy => by
            obtain ⟨b, s2, p2, h1, h2, h3, h4⟩ := ttr y hy
            exact ⟨b, s2, p2, h1, s12 _ _ (e6.k _ _ h2 (fun _ z => nomatch z)), h3, h4⟩
          clear tt7
          generalize upd H6 p12 (.tup [.int s', v]) = H7 at s12 hf7 tm7 hl7 nv7 T7 h12 tt8 ⊢
          refine ⟨fa, _, _, rfl, rfl, hf7, Nat.lt_of_le_of_lt (show xs'.length ≤ 20 by omega) (by decide), ?_⟩
          have cs : CShl 1 (p' : Int) := ⟨by omega, by
            have : Builtin.Int.intBits 1 = 1 := by decide
            rw [this]
            omega⟩
          refine ⟨_, rfl, _, rfl, _, rfl, _, _, rfl, rfl, cs, _, _, rfl, rfl, .inl ⟨by omega, by omega⟩, _, _, rfl, rfl, ?_⟩
          have tmN : Tm K C_Far H7 (.ref p12) (s', p') := ⟨⟨p12, v, rfl, h12, nv7⟩, sd, by show p' ≤ 1000; omega⟩
          have es : (E'.map tv).sum + s' * (1 * 2 ^ ((p' : Int)).toNat) = ((E' ++ [(s', p')]).map tv).sum := by
            rw [List.map_append, List.sum_append, Int.one_mul, Int.toNat_natCast]
            show _ = _ + (s' * 2 ^ p' + 0)
            rw [Int.add_zero]
          dsimp only
          rw [es]
          refine ⟨xs' ++ [.ref p12], E' ++ [(s', p')], _, _, rfl, ?_, upd_same, (tm7.snoc tmN).list hf7, by rw [List.length_append]; show xs'.length + 1 ≤ _; omega, by rw [upd_ne naf]; exact hl7, fun y hy => ?_⟩
          · rw [← hm2']
            have T8 : Pen K τ m' H7 := T7.mono (by omega)
            exact Tp.mut nfa T8
          · obtain ⟨b, s2, p2, h1, h2, h3, h4⟩ := tt8 y hy
            exact ⟨b, s2, p2, h1, by rw [upd_ne (fun e => by rw [e, hf7] at h2; cases h2)]; exact h2, h3, h4⟩
        · obtain ⟨xs', E', z8, z9, rfl, Tr, hfr, tmr, lxr, _, _⟩ := h
          rw [← hm2]
          exact ⟨xs', E', _, _, _, _, _, rfl, Tr.mono (by omega), hfr, tmr, by omega⟩
      · obtain ⟨xs, E1, z5, z6, z7, z8, z9, rfl, Tq, hf, tm, lx⟩ := h
        exact ⟨xs, E1, _, _, _, _, _, rfl, Tq.mono (by omega), hf, tm, by omega⟩
    rintro σ H2 ⟨xs, E1, z5, z6, z7, z8, z9, rfl, T2, hf2, tm, l10⟩
    refine ⟨fun σ H' => ∃ (r : Addr) (ys : List V) (E2 : List (Int × Nat)), σ = [some (.ref a), some (.ref τ.t), some (.int (0 + (i : Int))), some (.ref r), some (.int (E2.map tv).sum), z5, z6, z7, z8, z9, z10, z11, z12, z13, z14] ∧ Pen K τ (k + 60) H' ∧ H' r = some (.lst ys) ∧ TmL K C_Far H' ys E2 ∧ ys.length ≤ 10, ?_, ?_⟩
    · refine ⟨_, rfl, _, rfl, τ, fa, xs, k + 60, rfl, hf2, by omega, tm.self, T2, fun r ys H3 e3 T3 hr pm => ?_⟩
      obtain ⟨E2, tm2, es⟩ := TmL.perm pm (tm.nd e3)
      rw [← es]
      exact ⟨r, ys, E2, rfl, T3, hr, tm2, by rw [pm.length_eq]; exact l10⟩
    clear T2 hf2 tm l10 H2 E1 xs
    rintro σ H2 ⟨r, ys, E2, rfl, T2, hr2, tm, l10⟩
    have lE := tm.len
    refine ⟨fun σ H' => σ = [some (.ref a), some (.ref τ.t), some (.int (0 + (i : Int))), some (.ref r), some (.int (E2.map tv).sum), z5, z6, z7, z8, z9, z10, z11, z12, z13, z14] ∧ Pen K τ (k + 59) H' ∧ H' r = some (.lst ys) ∧ TmL K C_Far H' ys E2, ?_, ?_⟩
    · refine ⟨_, rfl, _, rfl, _, _, rfl, SqL.of hr2, fun q1 nq1 => ?_⟩
      have s1 := Same.new (o := .lst ys) nq1
      refine ⟨_, rfl, _, _, rfl, SqL.of (s1 _ _ hr2), fun q2 nq2 => ?_⟩
      have s2 := Same.new (o := .tup ys) nq2
      refine ⟨(by show 2 ≤ sizeLine; decide), fun q3 nq3 => ?_⟩
      have s3 := Same.new (o := .lst [.ref q1, .ref q2]) nq3
      refine ⟨τ, q3, _, k + 59, rfl, SqL.of upd_same, (by simp), (by show 2 ≤ 100000; decide), ((T2.same s1).same s2).same s3, fun x H3 e3 T3 hx => ?_⟩
      have ex := (Nd.of (s1.trans (s2.trans s3))).trans e3
      have tm3 := tm.nd ex
      have sq : ∃ q4, x = .ref q4 ∧ Sq K H3 q4 ys := by
        simp only [List.mem_cons, List.not_mem_nil, or_false] at hx
        rcases hx with rfl | rfl
        · exact ⟨q1, rfl, .inl (e3.lst (s3 _ _ (s2 _ _ upd_same)))⟩
        · exact ⟨q2, rfl, .inr (SqT.of (e3.k _ _ (s3 _ _ upd_same) (fun _ z => nomatch z)))⟩
      obtain ⟨q4, rfl, sq⟩ := sq
      refine ⟨q4, ys, E2, rfl, sq, by omega, fun j x hx _ => tm3.get hx, .inl ⟨lE.symm, fun b H4 e4 sb => ?_⟩⟩
      refine ⟨_, rfl, (by show 2 ≤ sizeLine; decide), fun q5 nq5 => ?_⟩
      have s5 := Same.new (o := .tup [.bl true, .int (E2.map tv).sum]) nq5
      refine ⟨_, _, .tup ((Nd.of s5).sqt sb) (.cons (.bl true) (.cons (.int _) .nil)), .tup (SqT.of upd_same) (.cons (.bl true) (.cons (.int _) .nil)), rfl, rfl, _, rfl, ?_⟩
      rw [eqv_told]
      refine iteF ?_
      exact ⟨rfl, (T3.same e4).same s5, s5 _ _ (e4 _ _ (ex.lst hr2)), (tm3.nd (Nd.of e4)).nd (Nd.of s5)⟩
    clear T2 hr2 tm H2
    rintro σ H2 ⟨rfl, T2, hr2, tm⟩
    refine ⟨_, rfl, _, _, rfl, SqL.of hr2, fun ba nba => ?_⟩
    refine ⟨(by show 0 ≤ sizeLine; decide), fun wa nwa => ?_⟩
    refine ⟨_, _, rfl, ?_⟩
    have b1 := Same.new (o := .lst ys) nba
    have b2 := Same.new (o := .lst []) nwa
    have T4 := (T2.same b1).same b2
    have hb4 : (upd (upd H2 ba (.lst ys)) wa (.lst [])) ba = some (.lst ys) := b2 _ _ upd_same
    have hw4 : (upd (upd H2 ba (.lst ys)) wa (.lst [])) wa = some (.lst []) := upd_same
    have be4 : Bent K C_Far (upd (upd H2 ba (.lst ys)) wa (.lst [])) ys [] := .start ((tm.nd (Nd.of b1)).nd (Nd.of b2))
    generalize upd (upd H2 ba (.lst ys)) wa (.lst []) = H4 at T4 hb4 hw4 be4 ⊢
    refine ⟨fun σ H' => ∃ (wa : Addr) (xs : List V) (ws : List Nat) (z5 z12 : Option V), σ = [some (.ref a), some (.ref τ.t), some (.int (0 + (i : Int))), some (.ref r), some (.int (E2.map tv).sum), z5, z6, z7, z8, z9, some (.ref ba), some (.ref wa), z12, z13, z14] ∧ Pen K τ (k + 20) H' ∧ H' ba = some (.lst xs) ∧ H' wa = some (.lst (nI ws)) ∧ Bent K C_Far H' xs ws ∧ 0 < ws.length ∧ ws.length ≤ 2 ∧ xs.length ≤ 12, ?_, ?_⟩
    · refine ⟨_, rfl, τ, 2, k + 58, rfl, T4, by decide, lt_BigL (by decide), fun u H5 e5 T5 u0 u1 => ?_⟩
      refine ⟨_, _, rfl, rfl, _, rfl, (by omega), (by omega), ?_⟩
      have hb5 := e5.lst hb4
      have hw5 := e5.lst hw4
      have be5 := be4.nd e5
      refine for_range (lo := 0) (n := ((1 : Int) + u).toNat) (fun j σ H' => ∃ (wa : Addr) (xs : List V) (ws : List Nat) (z5 z12 : Option V), σ = [some (.ref a), some (.ref τ.t), some (.int (0 + (i : Int))), some (.ref r), some (.int (E2.map tv).sum), z5, z6, z7, z8, z9, some (.ref ba), some (.ref wa), z12, z13, z14] ∧ Pen K τ (k + 20 + 10 * (3 - j)) H' ∧ H' ba = some (.lst xs) ∧ H' wa = some (.lst (nI ws)) ∧ Bent K C_Far H' xs ws ∧ ws.length = j ∧ xs.length ≤ 10 + j ∧ wa ≠ ba)
        ⟨wa, ys, [], _, _, rfl, T5.mono (by omega), hb5, hw5, be5, rfl, l10, ?_⟩ (fun j σ H' hj h => ?_) (fun σ H' h => ?_)
      · rintro rfl
        rw [upd_same] at nwa
        cases nwa
      · obtain ⟨wa, xs, ws, z5, z12, rfl, Tq, hb, hw, be, lw, lx, nwb⟩ := h
        have j2 : j < 2 := by omega
        obtain ⟨m, hm1, hm2⟩ : ∃ m, k + 20 + 10 * (3 - j) = m + 10 ∧ m = k + 20 + 10 * (3 - (j + 1)) := ⟨_, by omega, rfl⟩
        rw [hm1] at Tq
        refine ⟨_, rfl, _, rfl, _, _, rfl, SqL.of hb, _, _, rfl, rfl, τ, ((xs.length : Nat) : Int) + 1, m + 9, rfl, Tq, by omega, lt_BigL (Int.le_trans (show ((xs.length : Nat) : Int) + 1 ≤ 20 by omega) (by decide)), fun u2 H6 e6 T6 v0 v1 => ?_⟩
        obtain ⟨aa, rfl⟩ := Int.eq_ofNat_of_zero_le v0
        refine ⟨_, rfl, .inl ⟨rfl, _, SqL.of (e6.lst hb)⟩, _, rfl, _, rfl, τ, m, rfl, T6.mono (by omega), fun y H7 e7 T7 ny sy => ?_⟩
        have hb7 := e7.lst (e6.lst hb)
        have hw7 := e7.lst (e6.lst hw)
        have be7 := (be.nd e6).nd e7
        refine ⟨ba, xs, (aa : Int), y, rfl, rfl, hb7, Nat.lt_of_le_of_lt (show xs.length ≤ 20 by omega) (by decide), by omega, by omega, ?_⟩
        rw [Int.toNat_natCast]
        have T8 : Pen K τ m (upd H7 ba (.lst (xs.take aa ++ [y] ++ xs.drop aa))) := T2.mut nba T7
        have hb8 : (upd H7 ba (.lst (xs.take aa ++ [y] ++ xs.drop aa))) ba = some (.lst (xs.take aa ++ [y] ++ xs.drop aa)) := upd_same
        have hw8 : (upd H7 ba (.lst (xs.take aa ++ [y] ++ xs.drop aa))) wa = some (.lst (nI ws)) := by rw [upd_ne nwb]; exact hw7
        have be8 : Bent K C_Far (upd H7 ba (.lst (xs.take aa ++ [y] ++ xs.drop aa))) (xs.take aa ++ [y] ++ xs.drop aa) (ws.map (shiftW aa) ++ [aa]) := (be7.ins (by omega) ny sy).list hb7
        have len8 : (xs.take aa ++ [y] ++ xs.drop aa).length ≤ 10 + (j + 1) := by
          rw [List.length_append, List.length_append, List.length_take, List.length_drop]
          show min aa xs.length + 1 + (xs.length - aa) ≤ _
          omega
        generalize upd H7 ba (.lst (xs.take aa ++ [y] ++ xs.drop aa)) = H8 at T8 hb8 hw8 be8 ⊢
        refine ⟨_, rfl, _, rfl, ⟨_, SqL.of hw8⟩, fun D nD => ?_⟩
        refine lc_list (K := K) (a := wa) (xs := nI ws) (fun r H' => Same H8 H' ∧ H' D = some (.lst ((nI (ws.map (shiftW aa))).take r))) ⟨Same.new nD, upd_same⟩ (fun r H' _ h => SqL.of (h.1 _ _ hw8)) (fun r x H' hx h => ?_) (fun H' h => ?_)
        · obtain ⟨e9, hD⟩ := h
          have rl : r < ws.length := by
            have := (List.getElem?_eq_some_iff.mp hx).1
            unfold nI at this
            rwa [List.length_map] at this
          have ex : x = .int ((ws[r] : Nat) : Int) := by
            unfold nI at hx
            rw [List.getElem?_map, List.getElem?_eq_getElem rl] at hx
            exact (Option.some.inj hx).symm
          subst ex
          refine ⟨rfl, lcT ?_⟩
          refine ⟨_, rfl, _, rfl, _, rfl, _, _, rfl, rfl, _, rfl, _, _, rfl, rfl, _, hD, Nat.lt_of_le_of_lt (show ((nI (ws.map (shiftW aa))).take r).length ≤ 2 by rw [List.length_take]; omega) (by decide), Same.mut e9 nD, ?_⟩
          have ev : ((ws[r] : Nat) : Int) + (if decide ((aa : Int) ≤ ((ws[r] : Nat) : Int)) = true then 1 else 0) = ((shiftW aa ws[r] : Nat) : Int) := by
            unfold shiftW
            by_cases c : aa ≤ ws[r]
            · rw [if_pos c, if_pos (decide_eq_true (show (aa : Int) ≤ ((ws[r] : Nat) : Int) by omega))]
              omega
            · rw [if_neg c, if_neg (by rw [decide_eq_true_iff]; omega)]
              omega
          have eg : (nI (ws.map (shiftW aa)))[r]? = some (.int ((shiftW aa ws[r] : Nat) : Int)) := by
            unfold nI
            rw [List.getElem?_map, List.getElem?_map, List.getElem?_eq_getElem rl]
            rfl
          rw [upd_same, List.take_succ, eg]
          dsimp only
          rw [ev]
          rfl
        · obtain ⟨e9, hD⟩ := h
          have el : (nI (ws.map (shiftW aa))).take (nI ws).length = nI (ws.map (shiftW aa)) := List.take_of_length_le (by unfold nI; rw [List.length_map, List.length_map, List.length_map]; exact Nat.le_refl _)
          rw [el] at hD
          refine ⟨_, rfl, (by show 1 ≤ sizeLine; decide), fun q1 nq1 => ?_⟩
          have t1 := Same.new (o := .lst [.int (aa : Int)]) nq1
          refine ⟨_, _, _, _, rfl, rfl, t1 _ _ hD, upd_same, Nat.le_trans (show _ ≤ 20 by unfold nI; rw [List.length_map, List.length_map]; show ws.length + 1 ≤ 20; omega) (by decide), fun q2 nq2 => ?_⟩
          have t2 := Same.new (o := .lst (nI (ws.map (shiftW aa)) ++ [.int (aa : Int)])) nq2
          have tt := e9.trans (t1.trans t2)
          have nqb : q2 ≠ ba := by
            rintro rfl
            have := t1 _ _ (e9 _ _ hb8)
            rw [this] at nq2
            cases nq2
          rw [← hm2]
          exact ⟨q2, xs.take aa ++ [y] ++ xs.drop aa, ws.map (shiftW aa) ++ [aa], _, _, rfl, T8.same tt, tt _ _ hb8, by rw [upd_same]; unfold nI; rw [List.map_append]; rfl, be8.nd (Nd.of tt), by rw [List.length_append, List.length_map, lw]; rfl, len8, nqb⟩
      · obtain ⟨wa, xs, ws, z5, z12, rfl, Tq, hb, hw, be, lw, lx, _⟩ := h
        exact ⟨wa, xs, ws, _, _, rfl, Tq.mono (by omega), hb, hw, be, by omega, by omega, by omega⟩
    clear T4 hb4 hw4 be4 H4 b1 b2 nba nwa tm hr2 T2 H2
    rintro σ H4 ⟨wa, xs, ws, z5, z12, rfl, T4, hb4, hw4, be, w0, w2, x12⟩
    refine ⟨_, rfl, _, _, rfl, SqL.of hb4, fun ga nga => ?_⟩
    have s1 := Same.new (o := .lst xs) nga
    have T5 := T4.same s1
    have hg5 : (upd H4 ga (.lst xs)) ga = some (.lst xs) := upd_same
    have hb5 := s1 _ _ hb4
    have hw5 := s1 _ _ hw4
    have be5 := be.nd (Nd.of s1)
    generalize upd H4 ga (.lst xs) = H5 at T5 hg5 hb5 hw5 be5 s1 ⊢
    refine ⟨fun σ H' => σ = [some (.ref a), some (.ref τ.t), some (.int (0 + (i : Int))), some (.ref r), some (.int (E2.map tv).sum), z5, z6, z7, z8, z9, some (.ref ba), some (.ref wa), z12, some (.ref ga), z14] ∧ Same H5 H', ?_, ?_⟩
    · obtain ⟨m, hm, mw⟩ := min_ex ws w0
      obtain ⟨Tl, lT, tT⟩ := be5.ahead m (Nat.le_of_lt (be5.lt m hm)) mw
      have nt : NoTm K H5 (xs[m]'(be5.lt m hm)) := be5.no m _ (List.getElem?_eq_getElem (be5.lt m hm)) hm
      have lx := be5.lt m hm
      refine ⟨_, rfl, ga, xs, Tl, rfl, .inl hg5, by omega, tT, .inr ⟨⟨_, by rw [lT]; exact List.getElem?_eq_getElem lx, nt⟩, fun b H6 e6 sb => ?_⟩⟩
      have hw6 := e6 _ _ hw5
      refine ⟨_, rfl, _, rfl, ⟨_, SqL.of hw6⟩, fun D nD => ?_⟩
      refine lc_list (K := K) (a := wa) (xs := nI ws) (fun j H' => Same H6 H' ∧ H' D = some (.lst ((nI ws).take j))) ⟨Same.new nD, upd_same⟩ (fun j H' _ h => SqL.of (h.1 _ _ hw6)) (fun j x H' hx h => ?_) (fun H' h => ?_)
      · obtain ⟨e7, hD⟩ := h
        obtain ⟨o, ho, rfl⟩ := List.mem_map.mp (List.mem_of_getElem? hx)
        refine ⟨rfl, lcT ?_⟩
        refine ⟨_, rfl, _, rfl, (nI ws).take j, hD, Nat.lt_of_le_of_lt (show ((nI ws).take j).length ≤ 2 by rw [List.length_take]; unfold nI; rw [List.length_map]; omega) (by decide), Same.mut e7 nD, ?_⟩
        rw [upd_same, List.take_succ, hx]
        rfl
      · obtain ⟨e7, hD⟩ := h
        rw [List.take_length] at hD
        have en : nI ws = (ws.map fun n : Nat => (n : Int)).map V.int := by unfold nI; rw [List.map_map]; rfl
        rw [en] at hD
        refine ⟨D, _, rfl, SqL.of hD, by rw [List.length_map]; exact w0, fun m' hm' hle => ?_⟩
        have em : m' = (m : Int) := by
          obtain ⟨o, ho, rfl⟩ := List.mem_map.mp hm'
          have h1 := mw o ho
          have h2 := hle (m : Int) (List.mem_map.mpr ⟨m, hm, rfl⟩)
          omega
        subst em
        refine ⟨(by show 3 ≤ sizeLine; decide), fun q5 nq5 => ?_⟩
        have s5 := Same.new (o := .tup [.str "wrong", .int (m : Int), .bl true]) nq5
        rw [lT] at sb
        refine ⟨_, _, .tup ((Nd.of (e7.trans s5)).sqt sb) (.cons (.str _) (.cons (.int _) (.cons (.bl true) .nil))), .tup (SqT.of upd_same) (.cons (.str _) (.cons (.int _) (.cons (.bl true) .nil))), shaped_bad, shaped_bad, _, rfl, ?_⟩
        rw [eqv_bad]
        refine iteF ?_
        exact ⟨rfl, e6.trans (e7.trans s5)⟩
    rintro σ H6 ⟨rfl, e6⟩
    refine ⟨_, rfl, _, rfl, ga, ba, xs, xs, rfl, rfl, SqL.of (e6 _ _ hg5), SqL.of (e6 _ _ hb5), .inl ⟨rfl, be5.self, _, rfl, ?_⟩⟩
    refine iteF ?_
    refine ⟨_, _, _, _, _, _, _, _, _, _, _, _, _, rfl, ?_⟩
    rw [← hk2]
    exact (T5.same e6).mono (by omega)
  · obtain ⟨_, _, _, _, _, _, _, _, _, _, _, _, _, rfl, _⟩ := h
    exact q _
end
end Fb
namespace Fb
open PySem L2 Hd
theorem all_z {P : Program} {w : World} {K : PySem.W.Frag} {h : Heap} {mg : Str → Option Value} {fa : Addr} (X : K.In h) (G : h.Ns mainGlobals mg) (hfa : mg ("law" : Str) = some (.ref fa)) (c : Hz.SaysZ faL fnL exL fcL K) (hfile : ((P.main.file : Str) == ("/claim/cut.py" : Str)) = true) (htop : (P.main.scope.names.lookup ("super" : Str)).isSome = false) :
    ∃ fd : FuncData, (∀ (s : Shared) (v : Value), BindsTo s fd ⟨[v], []⟩ [("_law_script", v)]) ∧ ∀ base : Heap, K.In base → base.Ns mainGlobals mg → FnOk P w K mg base CX0 24 fa fd ["_law_script"] (spLaw K) := by
  have hkS : PySem.W.nsIn K cStatics "sys.int_max_str_digits" = some none := of_decide_eq_true (Hz.allB_at (Hz.allB_at c.b 0 (b := Hz.allB (exL0 K)) rfl) 0 rfl)
  have pg_Far : PySem.W.plainGet K (He.ga K "Far") Str.empty = true := of_decide_eq_true (Hz.allB_at (Hz.allB_at c.b 0 (b := Hz.allB (exL0 K)) rfl) 1 rfl)
  have hd_Far : PySem.W.hasDictIn K (He.ga K "Far") = true := of_decide_eq_true (Hz.allB_at (Hz.allB_at c.b 0 (b := Hz.allB (exL0 K)) rfl) 2 rfl)
  have po_Far : PySem.W.plainOver K (He.ga K "Far") = true := of_decide_eq_true (Hz.allB_at (Hz.allB_at c.b 0 (b := Hz.allB (exL0 K)) rfl) 3 rfl)
  have sa_Far : PySem.W.findIn K (.ref (He.ga K "Far")) "__setattr__" = some (some (.builtin "object.__setattr__")) := of_decide_eq_true (Hz.allB_at (Hz.allB_at c.b 0 (b := Hz.allB (exL0 K)) rfl) 4 rfl)
  have mk_Far : PySem.W.makesIn K (He.ga K "Far") = true := of_decide_eq_true (Hz.allB_at (Hz.allB_at c.b 0 (b := Hz.allB (exL0 K)) rfl) 5 rfl)
  have kC_Far : PySem.W.keepIn K (.ref (He.ga K "Far")) = true := of_decide_eq_true (Hz.allB_at (Hz.allB_at c.b 0 (b := Hz.allB (exL0 K)) rfl) 6 rfl)
  have cc_Far : PySem.W.findIn K (.ref (He.ga K "Far")) "__class__" = some (some (.builtin "object.__class__")) := of_decide_eq_true (Hz.allB_at (Hz.allB_at c.b 0 (b := Hz.allB (exL0 K)) rfl) 7 rfl)
  have mo_Far : PySem.W.mroIn K (He.ga K "Far") (.type "object") = some true := of_decide_eq_true (Hz.allB_at (Hz.allB_at c.b 0 (b := Hz.allB (exL0 K)) rfl) 8 rfl)
  have pg_Sound : PySem.W.plainGet K (He.ga K "Sound") Str.empty = true := of_decide_eq_true (Hz.allB_at (Hz.allB_at c.b 0 (b := Hz.allB (exL0 K)) rfl) 9 rfl)
  have hd_Sound : PySem.W.hasDictIn K (He.ga K "Sound") = true := of_decide_eq_true (Hz.allB_at (Hz.allB_at c.b 0 (b := Hz.allB (exL0 K)) rfl) 10 rfl)
  have po_Sound : PySem.W.plainOver K (He.ga K "Sound") = true := of_decide_eq_true (Hz.allB_at (Hz.allB_at c.b 0 (b := Hz.allB (exL0 K)) rfl) 11 rfl)
  have sa_Sound : PySem.W.findIn K (.ref (He.ga K "Sound")) "__setattr__" = some (some (.builtin "object.__setattr__")) := of_decide_eq_true (Hz.allB_at (Hz.allB_at c.b 0 (b := Hz.allB (exL0 K)) rfl) 12 rfl)
  have mk_Sound : PySem.W.makesIn K (He.ga K "Sound") = true := of_decide_eq_true (Hz.allB_at (Hz.allB_at c.b 0 (b := Hz.allB (exL0 K)) rfl) 13 rfl)
  have kC_Sound : PySem.W.keepIn K (.ref (He.ga K "Sound")) = true := of_decide_eq_true (Hz.allB_at (Hz.allB_at c.b 0 (b := Hz.allB (exL0 K)) rfl) 14 rfl)
  have cc_Sound : PySem.W.findIn K (.ref (He.ga K "Sound")) "__class__" = some (some (.builtin "object.__class__")) := of_decide_eq_true (Hz.allB_at (Hz.allB_at c.b 0 (b := Hz.allB (exL0 K)) rfl) 15 rfl)
  have mo_Sound : PySem.W.mroIn K (He.ga K "Sound") (.type "object") = some true := of_decide_eq_true (Hz.allB_at (Hz.allB_at c.b 0 (b := Hz.allB (exL0 K)) rfl) 16 rfl)
  have nF : PySem.W.findIn K (.ref (He.ga K "Far")) "_form" = some none := of_decide_eq_true (Hz.allB_at (Hz.allB_at c.b 0 (b := Hz.allB (exL0 K)) rfl) 17 rfl)
  have nC : PySem.W.findIn K (.ref (He.ga K "Sound")) "checked" = some none := of_decide_eq_true (Hz.allB_at (Hz.allB_at c.b 0 (b := Hz.allB (exL0 K)) rfl) 18 rfl)
  have gcn : PySem.W.specialIn K (.builtin "object.__class__") "__get__" = some (some (.builtin "getset_descriptor.__get__")) := of_decide_eq_true (Hz.allB_at (Hz.allB_at c.b 0 (b := Hz.allB (exL0 K)) rfl) 19 rfl)
  have gct : PySem.W.takesIn K (.builtin "object.__class__") = some true := of_decide_eq_true (Hz.allB_at (Hz.allB_at c.b 0 (b := Hz.allB (exL0 K)) rfl) 20 rfl)
  have ko1 : PySem.W.kitOne K (.ref (He.ga K "Far")) (.ref (He.ga K "Sound")) = some false := of_decide_eq_true (Hz.allB_at (Hz.allB_at c.b 0 (b := Hz.allB (exL0 K)) rfl) 21 rfl)
  have ko2 : PySem.W.kitOne K (.ref (He.ga K "Sound")) (.ref (He.ga K "Sound")) = some true := of_decide_eq_true (Hz.allB_at (Hz.allB_at c.b 0 (b := Hz.allB (exL0 K)) rfl) 22 rfl)
  have ko3 : PySem.W.kitOne K (.type "int") (.ref (He.ga K "Sound")) = some false := of_decide_eq_true (Hz.allB_at (Hz.allB_at c.b 0 (b := Hz.allB (exL0 K)) rfl) 23 rfl)
  have ko4 : PySem.W.kitOne K (.ref (He.ga K "Far")) (.ref (He.ga K "Far")) = some true := of_decide_eq_true (Hz.allB_at (Hz.allB_at c.b 0 (b := Hz.allB (exL0 K)) rfl) 24 rfl)
  have ko5 : PySem.W.kitOne K (.type "int") (.ref (He.ga K "Far")) = some false := of_decide_eq_true (Hz.allB_at (Hz.allB_at c.b 0 (b := Hz.allB (exL0 K)) rfl) 25 rfl)
  have ko6 : PySem.W.kitOne K (.ref (He.ga K "Far")) (.type "int") = some false := of_decide_eq_true (Hz.allB_at (Hz.allB_at c.b 0 (b := Hz.allB (exL0 K)) rfl) 26 rfl)
  have nfI : PySem.W.notFirst K (He.ga K "Far") (.type "int") = true := of_decide_eq_true (Hz.allB_at (Hz.allB_at c.b 0 (b := Hz.allB (exL0 K)) rfl) 27 rfl)
  have nfF : PySem.W.notFirst K (He.ga K "Far") (.ref (He.ga K "Far")) = true := of_decide_eq_true (Hz.allB_at (Hz.allB_at c.b 0 (b := Hz.allB (exL0 K)) rfl) 28 rfl)
  have nne : PySem.W.findIn K (.ref (He.ga K "Far")) "__ne__" = some (some (.builtin "object.__ne__")) := of_decide_eq_true (Hz.allB_at (Hz.allB_at c.b 0 (b := Hz.allB (exL0 K)) rfl) 29 rfl)
  have at_Sound___init__ : PySem.W.findIn K (.ref (He.ga K "Sound")) "__init__" = some (some (.ref (He.ma K (He.ga K "Sound") "__init__"))) := of_decide_eq_true (Hz.allB_at (Hz.allB_at c.b 1 (b := Hz.allB (exL1 K)) rfl) 0 rfl)
  have fn_Sound___init__ : PySem.W.isFn K (.ref (He.ma K (He.ga K "Sound") "__init__")) = true := of_decide_eq_true (Hz.allB_at (Hz.allB_at c.b 1 (b := Hz.allB (exL1 K)) rfl) 1 rfl)
  have at_Far___init__ : PySem.W.findIn K (.ref (He.ga K "Far")) "__init__" = some (some (.ref (He.ma K (He.ga K "Far") "__init__"))) := of_decide_eq_true (Hz.allB_at (Hz.allB_at c.b 1 (b := Hz.allB (exL1 K)) rfl) 2 rfl)
  have fn_Far___init__ : PySem.W.isFn K (.ref (He.ma K (He.ga K "Far") "__init__")) = true := of_decide_eq_true (Hz.allB_at (Hz.allB_at c.b 1 (b := Hz.allB (exL1 K)) rfl) 3 rfl)
  have fn_Far_form : PySem.W.isFn K (.ref (Hz.getterOf "Far" "form" K)) = true := of_decide_eq_true (Hz.allB_at (Hz.allB_at c.b 1 (b := Hz.allB (exL1 K)) rfl) 4 rfl)
  have at_Far_whole : PySem.W.findIn K (.ref (He.ga K "Far")) "whole" = some (some (.ref (He.ma K (He.ga K "Far") "whole"))) := of_decide_eq_true (Hz.allB_at (Hz.allB_at c.b 1 (b := Hz.allB (exL1 K)) rfl) 5 rfl)
  have fn_Far_whole : PySem.W.isFn K (.ref (He.ma K (He.ga K "Far") "whole")) = true := of_decide_eq_true (Hz.allB_at (Hz.allB_at c.b 1 (b := Hz.allB (exL1 K)) rfl) 6 rfl)
  have pf1 : PySem.W.findIn K (.ref (He.ga K "Far")) "form" = some (some (.ref (He.ma K (He.ga K "Far") "form"))) := of_decide_eq_true (Hz.allB_at (Hz.allB_at c.b 1 (b := Hz.allB (exL1 K)) rfl) 7 rfl)
  have pf2 : PySem.W.specialIn K (.ref (He.ma K (He.ga K "Far") "form")) "__get__" = some (some (.builtin "property.__get__")) := of_decide_eq_true (Hz.allB_at (Hz.allB_at c.b 1 (b := Hz.allB (exL1 K)) rfl) 8 rfl)
  have pf3 : PySem.W.takesIn K (.ref (He.ma K (He.ga K "Far") "form")) = some true := of_decide_eq_true (Hz.allB_at (Hz.allB_at c.b 1 (b := Hz.allB (exL1 K)) rfl) 9 rfl)
  have pf4b : (PySem.W.recIn K (He.ma K (He.ga K "Far") "form") "property").any (fun l => decide (l.head? = some (Value.ref (Hz.getterOf "Far" "form" K)))) = true := of_decide_eq_true (Hz.allB_at (Hz.allB_at c.b 1 (b := Hz.allB (exL1 K)) rfl) 10 rfl)
  have xC_FE : Hz.excB K (He.ga K "FarError") [.type "ValueError", .type "Exception", .type "BaseException", .type "object"] = true := of_decide_eq_true (Hz.allB_at (Hz.allB_at c.b 1 (b := Hz.allB (exL1 K)) rfl) 11 rfl)
  have fi_FE : PySem.W.findIn K (.ref (He.ga K "FarError")) "__init__" = some (some (.builtin "ValueError.__init__")) := of_decide_eq_true (Hz.allB_at (Hz.allB_at c.b 1 (b := Hz.allB (exL1 K)) rfl) 12 rfl)
  have ty_FE : PySem.W.typeIn K (.ref (He.ga K "FarError")) = some (.type "type") := of_decide_eq_true (Hz.allB_at (Hz.allB_at c.b 1 (b := Hz.allB (exL1 K)) rfl) 13 rfl)
  have sp_FE : PySem.W.specialIn K (.builtin "object.__class__") "__get__" = some (some (.builtin "getset_descriptor.__get__")) := of_decide_eq_true (Hz.allB_at (Hz.allB_at c.b 1 (b := Hz.allB (exL1 K)) rfl) 14 rfl)
  have tk_FE : PySem.W.takesIn K (.builtin "object.__class__") = some true := of_decide_eq_true (Hz.allB_at (Hz.allB_at c.b 1 (b := Hz.allB (exL1 K)) rfl) 15 rfl)
  have opq_FE : PySem.W.nsIn K cStatics "thirdparty.any" = some none := of_decide_eq_true (Hz.allB_at (Hz.allB_at c.b 1 (b := Hz.allB (exL1 K)) rfl) 16 rfl)
  have xC_InvalidTerm : Hz.excB K (He.ga K "InvalidTerm") (.ref (He.ga K "FarError") :: [.type "ValueError", .type "Exception", .type "BaseException", .type "object"]) = true := of_decide_eq_true (Hz.allB_at (Hz.allB_at c.b 1 (b := Hz.allB (exL1 K)) rfl) 17 rfl)
  have sa_InvalidTerm : PySem.W.findIn K (.ref (He.ga K "InvalidTerm")) "__setattr__" = some (some (.builtin "object.__setattr__")) := of_decide_eq_true (Hz.allB_at (Hz.allB_at c.b 1 (b := Hz.allB (exL1 K)) rfl) 18 rfl)
  have ga_InvalidTerm : PySem.W.findIn K (.ref (He.ga K "InvalidTerm")) "__getattribute__" = some (some (.builtin "BaseException.__getattribute__")) := of_decide_eq_true (Hz.allB_at (Hz.allB_at c.b 1 (b := Hz.allB (exL1 K)) rfl) 19 rfl)
  have gg_InvalidTerm : PySem.W.findIn K (.ref (He.ga K "InvalidTerm")) "__getattr__" = some none := of_decide_eq_true (Hz.allB_at (Hz.allB_at c.b 1 (b := Hz.allB (exL1 K)) rfl) 20 rfl)
  have gc_InvalidTerm : PySem.W.findIn K (.ref (He.ga K "InvalidTerm")) "__class__" = some (some (.builtin "object.__class__")) := of_decide_eq_true (Hz.allB_at (Hz.allB_at c.b 1 (b := Hz.allB (exL1 K)) rfl) 21 rfl)
  have ia_InvalidTerm : PySem.W.findIn K (.ref (He.ga K "InvalidTerm")) "__init__" = some (some (.ref (He.ma K (He.ga K "InvalidTerm") "__init__"))) := of_decide_eq_true (Hz.allB_at (Hz.allB_at c.b 1 (b := Hz.allB (exL1 K)) rfl) 22 rfl)
  have no0_InvalidTerm : PySem.W.findIn K (.ref (He.ga K "InvalidTerm")) "index" = some none := of_decide_eq_true (Hz.allB_at (Hz.allB_at c.b 1 (b := Hz.allB (exL1 K)) rfl) 23 rfl)
  have it_InvalidTerm : PySem.W.typeIn K (.ref (He.ma K (He.ga K "InvalidTerm") "__init__")) = some (.type "function") := of_decide_eq_true (Hz.allB_at (Hz.allB_at c.b 1 (b := Hz.allB (exL1 K)) rfl) 24 rfl)
  have ex_InvalidTerm : PySem.W.subIn K (.ref (He.ga K "InvalidTerm")) (.type "BaseException") = some true := of_decide_eq_true (Hz.allB_at (Hz.allB_at c.b 1 (b := Hz.allB (exL1 K)) rfl) 25 rfl)
  have ve_InvalidTerm : PySem.W.subIn K (.ref (He.ga K "InvalidTerm")) (.type "ValueError") = some true := of_decide_eq_true (Hz.allB_at (Hz.allB_at c.b 1 (b := Hz.allB (exL1 K)) rfl) 26 rfl)
  have sC_InvalidTerm : PySem.W.subIn K (.ref (He.ga K "InvalidTerm")) (.ref (He.ga K "InvalidTerm")) = some true := of_decide_eq_true (Hz.allB_at (Hz.allB_at c.b 1 (b := Hz.allB (exL1 K)) rfl) 27 rfl)
  have sF_InvalidTerm : PySem.W.subIn K (.ref (He.ga K "InvalidTerm")) (.ref (He.ga K "FarError")) = some true := of_decide_eq_true (Hz.allB_at (Hz.allB_at c.b 1 (b := Hz.allB (exL1 K)) rfl) 28 rfl)
  have ty_InvalidTerm : PySem.W.typeIn K (.ref (He.ga K "InvalidTerm")) = some (.type "type") := of_decide_eq_true (Hz.allB_at (Hz.allB_at c.b 1 (b := Hz.allB (exL1 K)) rfl) 29 rfl)
  have kC_InvalidTerm : PySem.W.keepIn K (.ref (He.ga K "InvalidTerm")) = true := of_decide_eq_true (Hz.allB_at (Hz.allB_at c.b 2 (b := Hz.allB (exL2 K)) rfl) 0 rfl)
  have mS_InvalidTerm : PySem.W.mroIn K (He.ga K "InvalidTerm") (.ref (He.ga K "InvalidTerm")) = some true := of_decide_eq_true (Hz.allB_at (Hz.allB_at c.b 2 (b := Hz.allB (exL2 K)) rfl) 1 rfl)
  have mO_InvalidTerm : PySem.W.mroIn K (He.ga K "InvalidTerm") (.type "object") = some true := of_decide_eq_true (Hz.allB_at (Hz.allB_at c.b 2 (b := Hz.allB (exL2 K)) rfl) 2 rfl)
  have cell_InvalidTerm : Hz.cellB K (Hz.cellOf K (He.ma K (He.ga K "InvalidTerm") "__init__")) (He.ga K "InvalidTerm") = true := of_decide_eq_true (Hz.allB_at (Hz.allB_at c.b 2 (b := Hz.allB (exL2 K)) rfl) 3 rfl)
  have file_InvalidTerm : Hz.fileB K (Hz.codeOf K (He.ma K (He.ga K "InvalidTerm") "__init__")) "/claim/cut.py" = true := of_decide_eq_true (Hz.allB_at (Hz.allB_at c.b 2 (b := Hz.allB (exL2 K)) rfl) 4 rfl)
  have ktn : PySem.W.kitOne K (.type "NoneType") (.ref (He.ga K "Far")) = some false := of_decide_eq_true (Hz.allB_at (Hz.allB_at c.b 2 (b := Hz.allB (exL2 K)) rfl) 5 rfl)
  have ktb : PySem.W.kitOne K (.type "bool") (.ref (He.ga K "Far")) = some false := of_decide_eq_true (Hz.allB_at (Hz.allB_at c.b 2 (b := Hz.allB (exL2 K)) rfl) 6 rfl)
  have kts : PySem.W.kitOne K (.type "str") (.ref (He.ga K "Far")) = some false := of_decide_eq_true (Hz.allB_at (Hz.allB_at c.b 2 (b := Hz.allB (exL2 K)) rfl) 7 rfl)
  obtain ⟨rest_form, pf4⟩ := Hz.getter_rec pf4b
  obtain ⟨fd_is_near, D_is_near⟩ := c.a.def_ 0 (d := dd_is_near) rfl
  have F_is_near : Fun K "is_near" "is_near" S_is_near (He.ga K "is_near") fd_is_near := He5.fun_of D_is_near
  have b_is_near := F_is_near.binds (ps := P_is_near) fun _ _ _ _ _ _ us hl => match us, hl with | [_], _ => rfl
  have m_is_near : mg "is_near" = some (.ref (He.ga K "is_near")) := He.glo_ok X G (c.a.fact 0 (f := .glo "is_near") rfl)
  obtain ⟨fd_int_of_rows, D_int_of_rows⟩ := c.a.def_ 1 (d := dd_int_of_rows) rfl
  have F_int_of_rows : Fun K "int_of_rows" "int_of_rows" S_int_of_rows (He.ga K "int_of_rows") fd_int_of_rows := He5.fun_of D_int_of_rows
  have b_int_of_rows := F_int_of_rows.binds (ps := P_int_of_rows) fun _ _ _ _ _ _ us hl => match us, hl with | [_], _ => rfl
  have m_int_of_rows : mg "int_of_rows" = some (.ref (He.ga K "int_of_rows")) := He.glo_ok X G (c.a.fact 1 (f := .glo "int_of_rows") rfl)
  obtain ⟨fd_int_of_turns, D_int_of_turns⟩ := c.a.def_ 2 (d := dd_int_of_turns) rfl
  have F_int_of_turns : Fun K "int_of_turns" "int_of_turns" S_int_of_turns (He.ga K "int_of_turns") fd_int_of_turns := He5.fun_of D_int_of_turns
  have b_int_of_turns := F_int_of_turns.binds (ps := P_int_of_turns) fun _ _ _ _ _ _ us hl => match us, hl with | [_], _ => rfl
  have m_int_of_turns : mg "int_of_turns" = some (.ref (He.ga K "int_of_turns")) := He.glo_ok X G (c.a.fact 2 (f := .glo "int_of_turns") rfl)
  obtain ⟨fd_is_negative, D_is_negative⟩ := c.a.def_ 3 (d := dd_is_negative) rfl
  have F_is_negative : Fun K "is_negative" "is_negative" S_is_negative (He.ga K "is_negative") fd_is_negative := He5.fun_of D_is_negative
  have b_is_negative := F_is_negative.binds (ps := P_is_negative) fun _ _ _ _ _ _ us hl => match us, hl with | [_], _ => rfl
  have m_is_negative : mg "is_negative" = some (.ref (He.ga K "is_negative")) := He.glo_ok X G (c.a.fact 3 (f := .glo "is_negative") rfl)
  obtain ⟨fd_ones_of_text, D_ones_of_text⟩ := c.a.def_ 4 (d := dd_ones_of_text) rfl
  have F_ones_of_text : Fun K "ones_of_text" "ones_of_text" S_ones_of_text (He.ga K "ones_of_text") fd_ones_of_text := He5.fun_of D_ones_of_text
  have b_ones_of_text := F_ones_of_text.binds (ps := P_ones_of_text) fun _ _ _ _ _ _ us hl => match us, hl with | [_], _ => rfl
  have m_ones_of_text : mg "ones_of_text" = some (.ref (He.ga K "ones_of_text")) := He.glo_ok X G (c.a.fact 4 (f := .glo "ones_of_text") rfl)
  obtain ⟨fd_turns_of_int, D_turns_of_int⟩ := c.a.def_ 5 (d := dd_turns_of_int) rfl
  have F_turns_of_int : Fun K "turns_of_int" "turns_of_int" S_turns_of_int (He.ga K "turns_of_int") fd_turns_of_int := He5.fun_of D_turns_of_int
  have b_turns_of_int := F_turns_of_int.binds (ps := P_turns_of_int) fun _ _ _ _ _ _ us hl => match us, hl with | [_], _ => rfl
  have m_turns_of_int : mg "turns_of_int" = some (.ref (He.ga K "turns_of_int")) := He.glo_ok X G (c.a.fact 5 (f := .glo "turns_of_int") rfl)
  obtain ⟨fd_is_plain, D_is_plain⟩ := c.a.def_ 6 (d := dd_is_plain) rfl
  have F_is_plain : Fun K "is_plain" "is_plain" S_is_plain (He.ga K "is_plain") fd_is_plain := He5.fun_of D_is_plain
  have b_is_plain := F_is_plain.binds (ps := P_is_plain) fun _ _ _ _ _ _ us hl => match us, hl with | [_], _ => rfl
  have m_is_plain : mg "is_plain" = some (.ref (He.ga K "is_plain")) := He.glo_ok X G (c.a.fact 6 (f := .glo "is_plain") rfl)
  obtain ⟨fd_form_of_int, D_form_of_int⟩ := c.a.def_ 7 (d := dd_form_of_int) rfl
  have F_form_of_int : Fun K "form_of_int" "form_of_int" S_form_of_int (He.ga K "form_of_int") fd_form_of_int := He5.fun_of D_form_of_int
  have b_form_of_int := F_form_of_int.binds (ps := P_form_of_int) fun _ _ _ _ _ _ us hl => match us, hl with | [_], _ => rfl
  have m_form_of_int : mg "form_of_int" = some (.ref (He.ga K "form_of_int")) := He.glo_ok X G (c.a.fact 7 (f := .glo "form_of_int") rfl)
  obtain ⟨fd_form_with, D_form_with⟩ := c.a.def_ 8 (d := dd_form_with) rfl
  have F_form_with : Fun K "form_with" "form_with" S_form_with (He.ga K "form_with") fd_form_with := He5.fun_of D_form_with
  have b_form_with := F_form_with.binds (ps := P_form_with) fun _ _ _ _ _ _ us hl => match us, hl with | [_], _ => rfl
  have m_form_with : mg "form_with" = some (.ref (He.ga K "form_with")) := He.glo_ok X G (c.a.fact 8 (f := .glo "form_with") rfl)
  obtain ⟨fd_turns_in, D_turns_in⟩ := c.a.def_ 9 (d := dd_turns_in) rfl
  have F_turns_in : Fun K "turns_in" "turns_in" S_turns_in (He.ga K "turns_in") fd_turns_in := He5.fun_of D_turns_in
  have b_turns_in := F_turns_in.binds (ps := P_turns_in) fun _ _ _ _ _ _ us hl => match us, hl with | [_], _ => rfl
  have m_turns_in : mg "turns_in" = some (.ref (He.ga K "turns_in")) := He.glo_ok X G (c.a.fact 9 (f := .glo "turns_in") rfl)
  obtain ⟨fd_compare, D_compare⟩ := c.a.def_ 10 (d := dd_compare) rfl
  have F_compare : Fun K "compare" "compare" S_compare (He.ga K "compare") fd_compare := He5.fun_of D_compare
  have b_compare := F_compare.binds (ps := P_compare) fun _ _ _ _ _ _ us hl => match us, hl with | [_, _], _ => rfl
  have m_compare : mg "compare" = some (.ref (He.ga K "compare")) := He.glo_ok X G (c.a.fact 10 (f := .glo "compare") rfl)
  obtain ⟨fd_compare_far, D_compare_far⟩ := c.a.def_ 11 (d := dd_compare_far) rfl
  have F_compare_far : Fun K "compare_far" "compare_far" S_compare_far (He.ga K "compare_far") fd_compare_far := He5.fun_of D_compare_far
  have b_compare_far := F_compare_far.binds (ps := P_compare_far) fun _ _ _ _ _ _ us hl => match us, hl with | [_, _], _ => rfl
  have m_compare_far : mg "compare_far" = some (.ref (He.ga K "compare_far")) := He.glo_ok X G (c.a.fact 11 (f := .glo "compare_far") rfl)
  obtain ⟨fd_common_tail, D_common_tail⟩ := c.a.def_ 12 (d := dd_common_tail) rfl
  have F_common_tail : Fun K "common_tail" "common_tail" S_common_tail (He.ga K "common_tail") fd_common_tail := He5.fun_of D_common_tail
  have b_common_tail := F_common_tail.binds (ps := P_common_tail) fun _ _ _ _ _ _ us hl => match us, hl with | [_, _, _], _ => rfl
  have m_common_tail : mg "common_tail" = some (.ref (He.ga K "common_tail")) := He.glo_ok X G (c.a.fact 12 (f := .glo "common_tail") rfl)
  obtain ⟨fd_is_less, D_is_less⟩ := c.a.def_ 13 (d := dd_is_less) rfl
  have F_is_less : Fun K "is_less" "is_less" S_is_less (He.ga K "is_less") fd_is_less := He5.fun_of D_is_less
  have b_is_less := F_is_less.binds (ps := P_is_less) fun _ _ _ _ _ _ us hl => match us, hl with | [_, _], _ => rfl
  have m_is_less : mg "is_less" = some (.ref (He.ga K "is_less")) := He.glo_ok X G (c.a.fact 13 (f := .glo "is_less") rfl)
  obtain ⟨fd_turns_between, D_turns_between⟩ := c.a.def_ 14 (d := dd_turns_between) rfl
  have F_turns_between : Fun K "turns_between" "turns_between" S_turns_between (He.ga K "turns_between") fd_turns_between := He5.fun_of D_turns_between
  have b_turns_between := F_turns_between.binds (ps := P_turns_between) fun _ _ _ _ _ _ us hl => match us, hl with | [_, _, _, _], _ => rfl
  have m_turns_between : mg "turns_between" = some (.ref (He.ga K "turns_between")) := He.glo_ok X G (c.a.fact 14 (f := .glo "turns_between") rfl)
  obtain ⟨fd_turns_before, D_turns_before⟩ := c.a.def_ 15 (d := dd_turns_before) rfl
  have F_turns_before : Fun K "turns_before" "turns_before" S_turns_before (He.ga K "turns_before") fd_turns_before := He5.fun_of D_turns_before
  have b_turns_before := F_turns_before.binds (ps := P_turns_before) fun _ _ _ _ _ _ us hl => match us, hl with | [_, _, _], _ => rfl
  have m_turns_before : mg "turns_before" = some (.ref (He.ga K "turns_before")) := He.glo_ok X G (c.a.fact 15 (f := .glo "turns_before") rfl)
  obtain ⟨fd_turns_up_to, D_turns_up_to⟩ := c.a.def_ 16 (d := dd_turns_up_to) rfl
  have F_turns_up_to : FunD K "turns_up_to" "turns_up_to" (defArgs S_turns_up_to) (defBody S_turns_up_to) (defScope S_turns_up_to) [.int 0] [] (He.ga K "turns_up_to") fd_turns_up_to := D_turns_up_to
  obtain ⟨dsx_turns_up_to, vx_turns_up_to, bx_turns_up_to⟩ := F_turns_up_to.binds1 (ps := P_turns_up_to) 3 1 (List.cons_ne_nil _ _) rfl (fun _ _ _ _ _ _ _ us its hl hi => match us, hl, its, hi with | [_, _, _], _, [_], _ => ⟨_, rfl, rfl⟩)
  obtain ⟨ds_turns_up_to, v_turns_up_to, b_turns_up_to⟩ := F_turns_up_to.binds1 (ps := P_turns_up_to) 2 0 (List.cons_ne_nil _ _) rfl (fun _ _ _ _ _ _ _ us its hl hi => match us, hl, its, hi with | [_, _], _, [_], _ => ⟨_, rfl, rfl⟩)
  have m_turns_up_to : mg "turns_up_to" = some (.ref (He.ga K "turns_up_to")) := He.glo_ok X G (c.a.fact 16 (f := .glo "turns_up_to") rfl)
  obtain ⟨fd_shorter_first, D_shorter_first⟩ := c.a.def_ 17 (d := dd_shorter_first) rfl
  have F_shorter_first : Fun K "shorter_first" "shorter_first" S_shorter_first (He.ga K "shorter_first") fd_shorter_first := He5.fun_of D_shorter_first
  have b_shorter_first := F_shorter_first.binds (ps := P_shorter_first) fun _ _ _ _ _ _ us hl => match us, hl with | [_, _], _ => rfl
  have m_shorter_first : mg "shorter_first" = some (.ref (He.ga K "shorter_first")) := He.glo_ok X G (c.a.fact 17 (f := .glo "shorter_first") rfl)
  obtain ⟨fd_merged_turns, D_merged_turns⟩ := c.a.def_ 18 (d := dd_merged_turns) rfl
  have F_merged_turns : Fun K "merged_turns" "merged_turns" S_merged_turns (He.ga K "merged_turns") fd_merged_turns := He5.fun_of D_merged_turns
  have b_merged_turns := F_merged_turns.binds (ps := P_merged_turns) fun _ _ _ _ _ _ us hl => match us, hl with | [_, _], _ => rfl
  have m_merged_turns : mg "merged_turns" = some (.ref (He.ga K "merged_turns")) := He.glo_ok X G (c.a.fact 18 (f := .glo "merged_turns") rfl)
  obtain ⟨fd_flipped_turns, D_flipped_turns⟩ := c.a.def_ 19 (d := dd_flipped_turns) rfl
  have F_flipped_turns : Fun K "flipped_turns" "flipped_turns" S_flipped_turns (He.ga K "flipped_turns") fd_flipped_turns := He5.fun_of D_flipped_turns
  have b_flipped_turns := F_flipped_turns.binds (ps := P_flipped_turns) fun _ _ _ _ _ _ us hl => match us, hl with | [_], _ => rfl
  have m_flipped_turns : mg "flipped_turns" = some (.ref (He.ga K "flipped_turns")) := He.glo_ok X G (c.a.fact 19 (f := .glo "flipped_turns") rfl)
  obtain ⟨fd_is_short, D_is_short⟩ := c.a.def_ 20 (d := dd_is_short) rfl
  have F_is_short : Fun K "is_short" "is_short" S_is_short (He.ga K "is_short") fd_is_short := He5.fun_of D_is_short
  have b_is_short := F_is_short.binds (ps := P_is_short) fun _ _ _ _ _ _ us hl => match us, hl with | [_], _ => rfl
  have m_is_short : mg "is_short" = some (.ref (He.ga K "is_short")) := He.glo_ok X G (c.a.fact 20 (f := .glo "is_short") rfl)
  obtain ⟨fd_are_near, D_are_near⟩ := c.a.def_ 21 (d := dd_are_near) rfl
  have F_are_near : Fun K "are_near" "are_near" S_are_near (He.ga K "are_near") fd_are_near := He5.fun_of D_are_near
  have b_are_near := F_are_near.binds (ps := P_are_near) fun _ _ _ _ _ _ us hl => match us, hl with | [_, _], _ => rfl
  have m_are_near : mg "are_near" = some (.ref (He.ga K "are_near")) := He.glo_ok X G (c.a.fact 21 (f := .glo "are_near") rfl)
  obtain ⟨fd_int_of_form, D_int_of_form⟩ := c.a.def_ 22 (d := dd_int_of_form) rfl
  have F_int_of_form : Fun K "int_of_form" "int_of_form" S_int_of_form (He.ga K "int_of_form") fd_int_of_form := He5.fun_of D_int_of_form
  have b_int_of_form := F_int_of_form.binds (ps := P_int_of_form) fun _ _ _ _ _ _ us hl => match us, hl with | [_], _ => rfl
  have m_int_of_form : mg "int_of_form" = some (.ref (He.ga K "int_of_form")) := He.glo_ok X G (c.a.fact 22 (f := .glo "int_of_form") rfl)
  obtain ⟨fd_plus_one, D_plus_one⟩ := c.a.def_ 23 (d := dd_plus_one) rfl
  have F_plus_one : Fun K "plus_one" "plus_one" S_plus_one (He.ga K "plus_one") fd_plus_one := He5.fun_of D_plus_one
  have b_plus_one := F_plus_one.binds (ps := P_plus_one) fun _ _ _ _ _ _ us hl => match us, hl with | [_], _ => rfl
  have m_plus_one : mg "plus_one" = some (.ref (He.ga K "plus_one")) := He.glo_ok X G (c.a.fact 23 (f := .glo "plus_one") rfl)
  obtain ⟨fd_carry_turns, D_carry_turns⟩ := c.a.def_ 24 (d := dd_carry_turns) rfl
  have F_carry_turns : Fun K "carry_turns" "carry_turns" S_carry_turns (He.ga K "carry_turns") fd_carry_turns := He5.fun_of D_carry_turns
  have b_carry_turns := F_carry_turns.binds (ps := P_carry_turns) fun _ _ _ _ _ _ us hl => match us, hl with | [_, _, _], _ => rfl
  have m_carry_turns : mg "carry_turns" = some (.ref (He.ga K "carry_turns")) := He.glo_ok X G (c.a.fact 24 (f := .glo "carry_turns") rfl)
  obtain ⟨fd_summed_turns, D_summed_turns⟩ := c.a.def_ 25 (d := dd_summed_turns) rfl
  have F_summed_turns : Fun K "summed_turns" "summed_turns" S_summed_turns (He.ga K "summed_turns") fd_summed_turns := He5.fun_of D_summed_turns
  have b_summed_turns := F_summed_turns.binds (ps := P_summed_turns) fun _ _ _ _ _ _ us hl => match us, hl with | [_, _, _], _ => rfl
  have m_summed_turns : mg "summed_turns" = some (.ref (He.ga K "summed_turns")) := He.glo_ok X G (c.a.fact 25 (f := .glo "summed_turns") rfl)
  obtain ⟨fd_parts_in, D_parts_in⟩ := c.a.def_ 26 (d := dd_parts_in) rfl
  have F_parts_in : Fun K "parts_in" "parts_in" S_parts_in (He.ga K "parts_in") fd_parts_in := He5.fun_of D_parts_in
  have b_parts_in := F_parts_in.binds (ps := P_parts_in) fun _ _ _ _ _ _ us hl => match us, hl with | [_], _ => rfl
  have m_parts_in : mg "parts_in" = some (.ref (He.ga K "parts_in")) := He.glo_ok X G (c.a.fact 26 (f := .glo "parts_in") rfl)
  obtain ⟨fd_levels_in, D_levels_in⟩ := c.a.def_ 27 (d := dd_levels_in) rfl
  have F_levels_in : Fun K "levels_in" "levels_in" S_levels_in (He.ga K "levels_in") fd_levels_in := He5.fun_of D_levels_in
  have b_levels_in := F_levels_in.binds (ps := P_levels_in) fun _ _ _ _ _ _ us hl => match us, hl with | [_], _ => rfl
  have m_levels_in : mg "levels_in" = some (.ref (He.ga K "levels_in")) := He.glo_ok X G (c.a.fact 27 (f := .glo "levels_in") rfl)
  obtain ⟨fd_judged, D_judged⟩ := c.a.def_ 28 (d := dd_judged) rfl
  have F_judged : Fun K "judged" "judged" S_judged (He.ga K "judged") fd_judged := He5.fun_of D_judged
  have b_judged := F_judged.binds (ps := P_judged) fun _ _ _ _ _ _ us hl => match us, hl with | [_], _ => rfl
  have m_judged : mg "judged" = some (.ref (He.ga K "judged")) := He.glo_ok X G (c.a.fact 28 (f := .glo "judged") rfl)
  obtain ⟨fd_is_number, D_is_number⟩ := c.a.def_ 29 (d := dd_is_number) rfl
  have F_is_number : Fun K "is_number" "is_number" S_is_number (He.ga K "is_number") fd_is_number := He5.fun_of D_is_number
  have b_is_number := F_is_number.binds (ps := P_is_number) fun _ _ _ _ _ _ us hl => match us, hl with | [_], _ => rfl
  have m_is_number : mg "is_number" = some (.ref (He.ga K "is_number")) := He.glo_ok X G (c.a.fact 29 (f := .glo "is_number") rfl)
  obtain ⟨fd_form_in, D_form_in⟩ := c.a.def_ 30 (d := dd_form_in) rfl
  have F_form_in : Fun K "form_in" "form_in" S_form_in (He.ga K "form_in") fd_form_in := He5.fun_of D_form_in
  have b_form_in := F_form_in.binds (ps := P_form_in) fun _ _ _ _ _ _ us hl => match us, hl with | [_], _ => rfl
  have m_form_in : mg "form_in" = some (.ref (He.ga K "form_in")) := He.glo_ok X G (c.a.fact 30 (f := .glo "form_in") rfl)
  obtain ⟨fd_number_form, D_number_form⟩ := c.a.def_ 31 (d := dd_number_form) rfl
  have F_number_form : Fun K "number_form" "number_form" S_number_form (He.ga K "number_form") fd_number_form := He5.fun_of D_number_form
  have b_number_form := F_number_form.binds (ps := P_number_form) fun _ _ _ _ _ _ us hl => match us, hl with | [_], _ => rfl
  have m_number_form : mg "number_form" = some (.ref (He.ga K "number_form")) := He.glo_ok X G (c.a.fact 31 (f := .glo "number_form") rfl)
  obtain ⟨fd_place_form, D_place_form⟩ := c.a.def_ 32 (d := dd_place_form) rfl
  have F_place_form : Fun K "place_form" "place_form" S_place_form (He.ga K "place_form") fd_place_form := He5.fun_of D_place_form
  have b_place_form := F_place_form.binds (ps := P_place_form) fun _ _ _ _ _ _ us hl => match us, hl with | [_], _ => rfl
  have m_place_form : mg "place_form" = some (.ref (He.ga K "place_form")) := He.glo_ok X G (c.a.fact 32 (f := .glo "place_form") rfl)
  obtain ⟨fd_form_of_value, D_form_of_value⟩ := c.a.def_ 33 (d := dd_form_of_value) rfl
  have F_form_of_value : Fun K "form_of_value" "form_of_value" S_form_of_value (He.ga K "form_of_value") fd_form_of_value := He5.fun_of D_form_of_value
  have b_form_of_value := F_form_of_value.binds (ps := P_form_of_value) fun _ _ _ _ _ _ us hl => match us, hl with | [_], _ => rfl
  have m_form_of_value : mg "form_of_value" = some (.ref (He.ga K "form_of_value")) := He.glo_ok X G (c.a.fact 33 (f := .glo "form_of_value") rfl)
  obtain ⟨fd_far_of, D_far_of⟩ := c.a.def_ 34 (d := dd_far_of) rfl
  have F_far_of : Fun K "far_of" "far_of" S_far_of (He.ga K "far_of") fd_far_of := He5.fun_of D_far_of
  have b_far_of := F_far_of.binds (ps := P_far_of) fun _ _ _ _ _ _ us hl => match us, hl with | [_], _ => rfl
  have m_far_of : mg "far_of" = some (.ref (He.ga K "far_of")) := He.glo_ok X G (c.a.fact 34 (f := .glo "far_of") rfl)
  obtain ⟨fd_plus, D_plus⟩ := c.a.def_ 35 (d := dd_plus) rfl
  have F_plus : Fun K "plus" "plus" S_plus (He.ga K "plus") fd_plus := He5.fun_of D_plus
  have b_plus := F_plus.binds (ps := P_plus) fun _ _ _ _ _ _ us hl => match us, hl with | [_, _], _ => rfl
  have m_plus : mg "plus" = some (.ref (He.ga K "plus")) := He.glo_ok X G (c.a.fact 35 (f := .glo "plus") rfl)
  obtain ⟨fd_flip, D_flip⟩ := c.a.def_ 36 (d := dd_flip) rfl
  have F_flip : Fun K "flip" "flip" S_flip (He.ga K "flip") fd_flip := He5.fun_of D_flip
  have b_flip := F_flip.binds (ps := P_flip) fun _ _ _ _ _ _ us hl => match us, hl with | [_], _ => rfl
  have m_flip : mg "flip" = some (.ref (He.ga K "flip")) := He.glo_ok X G (c.a.fact 36 (f := .glo "flip") rfl)
  obtain ⟨fd_opposite, D_opposite⟩ := c.a.def_ 37 (d := dd_opposite) rfl
  have F_opposite : Fun K "opposite" "opposite" S_opposite (He.ga K "opposite") fd_opposite := He5.fun_of D_opposite
  have b_opposite := F_opposite.binds (ps := P_opposite) fun _ _ _ _ _ _ us hl => match us, hl with | [_], _ => rfl
  have m_opposite : mg "opposite" = some (.ref (He.ga K "opposite")) := He.glo_ok X G (c.a.fact 37 (f := .glo "opposite") rfl)
  obtain ⟨fd_are_movable, D_are_movable⟩ := c.a.def_ 38 (d := dd_are_movable) rfl
  have F_are_movable : Fun K "are_movable" "are_movable" S_are_movable (He.ga K "are_movable") fd_are_movable := He5.fun_of D_are_movable
  have b_are_movable := F_are_movable.binds (ps := P_are_movable) fun _ _ _ _ _ _ us hl => match us, hl with | [_, _], _ => rfl
  have m_are_movable : mg "are_movable" = some (.ref (He.ga K "are_movable")) := He.glo_ok X G (c.a.fact 38 (f := .glo "are_movable") rfl)
  obtain ⟨fd_shifted_up, D_shifted_up⟩ := c.a.def_ 39 (d := dd_shifted_up) rfl
  have F_shifted_up : Fun K "shifted_up" "shifted_up" S_shifted_up (He.ga K "shifted_up") fd_shifted_up := He5.fun_of D_shifted_up
  have b_shifted_up := F_shifted_up.binds (ps := P_shifted_up) fun _ _ _ _ _ _ us hl => match us, hl with | [_, _], _ => rfl
  have m_shifted_up : mg "shifted_up" = some (.ref (He.ga K "shifted_up")) := He.glo_ok X G (c.a.fact 39 (f := .glo "shifted_up") rfl)
  obtain ⟨fd_pair_sums, D_pair_sums⟩ := c.a.def_ 40 (d := dd_pair_sums) rfl
  have F_pair_sums : Fun K "pair_sums" "pair_sums" S_pair_sums (He.ga K "pair_sums") fd_pair_sums := He5.fun_of D_pair_sums
  have b_pair_sums := F_pair_sums.binds (ps := P_pair_sums) fun _ _ _ _ _ _ us hl => match us, hl with | [_], _ => rfl
  have m_pair_sums : mg "pair_sums" = some (.ref (He.ga K "pair_sums")) := He.glo_ok X G (c.a.fact 40 (f := .glo "pair_sums") rfl)
  obtain ⟨fd_total, D_total⟩ := c.a.def_ 41 (d := dd_total) rfl
  have F_total : Fun K "total" "total" S_total (He.ga K "total") fd_total := He5.fun_of D_total
  have b_total := F_total.binds (ps := P_total) fun _ _ _ _ _ _ us hl => match us, hl with | [_], _ => rfl
  have m_total : mg "total" = some (.ref (He.ga K "total")) := He.glo_ok X G (c.a.fact 41 (f := .glo "total") rfl)
  obtain ⟨fd_is_term, D_is_term⟩ := c.a.def_ 42 (d := dd_is_term) rfl
  have F_is_term : Fun K "is_term" "is_term" S_is_term (He.ga K "is_term") fd_is_term := He5.fun_of D_is_term
  have b_is_term := F_is_term.binds (ps := P_is_term) fun _ _ _ _ _ _ us hl => match us, hl with | [_], _ => rfl
  have m_is_term : mg "is_term" = some (.ref (He.ga K "is_term")) := He.glo_ok X G (c.a.fact 42 (f := .glo "is_term") rfl)
  obtain ⟨fd_signed_sum, D_signed_sum⟩ := c.a.def_ 43 (d := dd_signed_sum) rfl
  have F_signed_sum : Fun K "signed_sum" "signed_sum" S_signed_sum (He.ga K "signed_sum") fd_signed_sum := He5.fun_of D_signed_sum
  have b_signed_sum := F_signed_sum.binds (ps := P_signed_sum) fun _ _ _ _ _ _ us hl => match us, hl with | [_], _ => rfl
  have m_signed_sum : mg "signed_sum" = some (.ref (He.ga K "signed_sum")) := He.glo_ok X G (c.a.fact 43 (f := .glo "signed_sum") rfl)
  obtain ⟨fd__law_pen, D__law_pen⟩ := c.a.def_ 44 (d := dd__law_pen) rfl
  have F__law_pen : Fun K "_law_pen" "_law_pen" S__law_pen (He.ga K "_law_pen") fd__law_pen := He5.fun_of D__law_pen
  have b__law_pen := F__law_pen.binds (ps := P__law_pen) fun _ _ _ _ _ _ us hl => match us, hl with | [_], _ => rfl
  have m__law_pen : mg "_law_pen" = some (.ref (He.ga K "_law_pen")) := He.glo_ok X G (c.a.fact 44 (f := .glo "_law_pen") rfl)
  obtain ⟨fd__law_draw, D__law_draw⟩ := c.a.def_ 45 (d := dd__law_draw) rfl
  have F__law_draw : Fun K "_law_draw" "_law_draw" S__law_draw (He.ga K "_law_draw") fd__law_draw := He5.fun_of D__law_draw
  have b__law_draw := F__law_draw.binds (ps := P__law_draw) fun _ _ _ _ _ _ us hl => match us, hl with | [_, _], _ => rfl
  have m__law_draw : mg "_law_draw" = some (.ref (He.ga K "_law_draw")) := He.glo_ok X G (c.a.fact 45 (f := .glo "_law_draw") rfl)
  obtain ⟨fd__law_pick, D__law_pick⟩ := c.a.def_ 46 (d := dd__law_pick) rfl
  have F__law_pick : Fun K "_law_pick" "_law_pick" S__law_pick (He.ga K "_law_pick") fd__law_pick := He5.fun_of D__law_pick
  have b__law_pick := F__law_pick.binds (ps := P__law_pick) fun _ _ _ _ _ _ us hl => match us, hl with | [_, _], _ => rfl
  have m__law_pick : mg "_law_pick" = some (.ref (He.ga K "_law_pick")) := He.glo_ok X G (c.a.fact 46 (f := .glo "_law_pick") rfl)
  obtain ⟨fd__law_spot, D__law_spot⟩ := c.a.def_ 47 (d := dd__law_spot) rfl
  have F__law_spot : Fun K "_law_spot" "_law_spot" S__law_spot (He.ga K "_law_spot") fd__law_spot := He5.fun_of D__law_spot
  have b__law_spot := F__law_spot.binds (ps := P__law_spot) fun _ _ _ _ _ _ us hl => match us, hl with | [_], _ => rfl
  have m__law_spot : mg "_law_spot" = some (.ref (He.ga K "_law_spot")) := He.glo_ok X G (c.a.fact 47 (f := .glo "_law_spot") rfl)
  obtain ⟨fd__law_given, D__law_given⟩ := c.a.def_ 48 (d := dd__law_given) rfl
  have F__law_given : Fun K "_law_given" "_law_given" S__law_given (He.ga K "_law_given") fd__law_given := He5.fun_of D__law_given
  have b__law_given := F__law_given.binds (ps := P__law_given) fun _ _ _ _ _ _ us hl => match us, hl with | [_, _], _ => rfl
  have m__law_given : mg "_law_given" = some (.ref (He.ga K "_law_given")) := He.glo_ok X G (c.a.fact 48 (f := .glo "_law_given") rfl)
  obtain ⟨fd__law_shuffled, D__law_shuffled⟩ := c.a.def_ 49 (d := dd__law_shuffled) rfl
  have F__law_shuffled : Fun K "_law_shuffled" "_law_shuffled" S__law_shuffled (He.ga K "_law_shuffled") fd__law_shuffled := He5.fun_of D__law_shuffled
  have b__law_shuffled := F__law_shuffled.binds (ps := P__law_shuffled) fun _ _ _ _ _ _ us hl => match us, hl with | [_, _], _ => rfl
  have m__law_shuffled : mg "_law_shuffled" = some (.ref (He.ga K "_law_shuffled")) := He.glo_ok X G (c.a.fact 49 (f := .glo "_law_shuffled") rfl)
  obtain ⟨fd__law_wrong, D__law_wrong⟩ := c.a.def_ 50 (d := dd__law_wrong) rfl
  have F__law_wrong : Fun K "_law_wrong" "_law_wrong" S__law_wrong (He.ga K "_law_wrong") fd__law_wrong := He5.fun_of D__law_wrong
  have b__law_wrong := F__law_wrong.binds (ps := P__law_wrong) fun _ _ _ _ _ _ us hl => match us, hl with | [_], _ => rfl
  have m__law_wrong : mg "_law_wrong" = some (.ref (He.ga K "_law_wrong")) := He.glo_ok X G (c.a.fact 50 (f := .glo "_law_wrong") rfl)
  obtain ⟨fd__law_told, D__law_told⟩ := c.a.def_ 51 (d := dd__law_told) rfl
  have F__law_told : Fun K "_law_told" "_law_told" S__law_told (He.ga K "_law_told") fd__law_told := He5.fun_of D__law_told
  have b__law_told := F__law_told.binds (ps := P__law_told) fun _ _ _ _ _ _ us hl => match us, hl with | [_], _ => rfl
  have m__law_told : mg "_law_told" = some (.ref (He.ga K "_law_told")) := He.glo_ok X G (c.a.fact 51 (f := .glo "_law_told") rfl)
  obtain ⟨fd_law, D_law⟩ := c.a.def_ 52 (d := dd_law) rfl
  have F_law : Fun K "law" "law" S_law (He.ga K "law") fd_law := He5.fun_of D_law
  obtain ⟨fd_Sound___init__, D_Sound___init__⟩ := c.a.def_ 53 (d := dd_Sound___init__) rfl
  have F_Sound___init__ : Fun K "__init__" "Sound.__init__" S_Sound___init__ (He.ma K (He.ga K "Sound") "__init__") fd_Sound___init__ := He5.fun_of D_Sound___init__
  have b_Sound___init__ := F_Sound___init__.binds (ps := P_Sound___init__) fun _ _ _ _ _ _ us hl => match us, hl with | [_, _], _ => rfl
  have kM_Sound___init__ := F_Sound___init__.kp
  obtain ⟨fd_Far___init__, D_Far___init__⟩ := c.a.def_ 54 (d := dd_Far___init__) rfl
  have F_Far___init__ : FunD K "__init__" "Far.__init__" (defArgs S_Far___init__) (defBody S_Far___init__) (defScope S_Far___init__) [.int 0] [] (He.ma K (He.ga K "Far") "__init__") fd_Far___init__ := D_Far___init__
  obtain ⟨dsx_Far___init__, vx_Far___init__, bx_Far___init__⟩ := F_Far___init__.binds1 (ps := P_Far___init__) 2 1 (List.cons_ne_nil _ _) rfl (fun _ _ _ _ _ _ _ us its hl hi => match us, hl, its, hi with | [_, _], _, [_], _ => ⟨_, rfl, rfl⟩)
  have kM_Far___init__ := F_Far___init__.kp
  obtain ⟨fd_Far_form, D_Far_form⟩ := c.a.def_ 55 (d := dd_Far_form) rfl
  have F_Far_form : Fun K "form" "Far.form" S_Far_form (Hz.getterOf "Far" "form" K) fd_Far_form := He5.fun_of D_Far_form
  have b_Far_form := F_Far_form.binds (ps := P_Far_form) fun _ _ _ _ _ _ us hl => match us, hl with | [_], _ => rfl
  have kM_Far_form := F_Far_form.kp
  obtain ⟨fd_Far_whole, D_Far_whole⟩ := c.a.def_ 56 (d := dd_Far_whole) rfl
  have F_Far_whole : Fun K "whole" "Far.whole" S_Far_whole (He.ma K (He.ga K "Far") "whole") fd_Far_whole := He5.fun_of D_Far_whole
  have b_Far_whole := F_Far_whole.binds (ps := P_Far_whole) fun _ _ _ _ _ _ us hl => match us, hl with | [_], _ => rfl
  have kM_Far_whole := F_Far_whole.kp
  have mgC_Far : mg "Far" = some (.ref (He.ga K "Far")) := He.glo_ok X G (c.a.fact 53 (f := .glo "Far") rfl)
  have mgC_Sound : mg "Sound" = some (.ref (He.ga K "Sound")) := He.glo_ok X G (c.a.fact 54 (f := .glo "Sound") rfl)
  obtain ⟨tk_FEW_TURNS, MF_FEW_TURNS⟩ := He.int_ok X G (c.a.fact 75 (f := .int "FEW_TURNS" 8) rfl)
  obtain ⟨tk_MANY_TURNS, MF_MANY_TURNS⟩ := He.int_ok X G (c.a.fact 76 (f := .int "MANY_TURNS" 16) rfl)
  obtain ⟨tk_BITS, MF_BITS⟩ := He.str_ok X G (c.a.fact 77 (f := .str "BITS" "01") rfl)
  obtain ⟨tk_NEAR_PLACE, MF_NEAR_PLACE⟩ := He.int_ok X G (c.a.fact 78 (f := .int "NEAR_PLACE" 1000) rfl)
  obtain ⟨tk_BITS_FOR_A_TURN, MF_BITS_FOR_A_TURN⟩ := He.int_ok X G (c.a.fact 79 (f := .int "BITS_FOR_A_TURN" 64) rfl)
  obtain ⟨tk_PLAIN_STOP, MF_PLAIN_STOP⟩ := He.int_ok X G (c.a.fact 80 (f := .int "PLAIN_STOP" 18446744073709551616) rfl)
  obtain ⟨tk_LAST_PLAIN_TURN, MF_LAST_PLAIN_TURN⟩ := He.int_ok X G (c.a.fact 81 (f := .int "LAST_PLAIN_TURN" 64) rfl)
  obtain ⟨tk_MOST_PARTS, MF_MOST_PARTS⟩ := He.int_ok X G (c.a.fact 82 (f := .int "MOST_PARTS" 2000) rfl)
  obtain ⟨tk_MOST_LEVELS, MF_MOST_LEVELS⟩ := He.int_ok X G (c.a.fact 83 (f := .int "MOST_LEVELS" 6) rfl)
  obtain ⟨tk_LONGEST_INT, MF_LONGEST_INT⟩ := He.int_ok X G (c.a.fact 84 (f := .int "LONGEST_INT" 4000) rfl)
  have z_len : mg "len" = none := He.free_ok X G (c.a.fact 57 (f := .free "len") rfl)
  have z_int : mg "int" = none := He.free_ok X G (c.a.fact 58 (f := .free "int") rfl)
  have z_isinstance : mg "isinstance" = none := He.free_ok X G (c.a.fact 59 (f := .free "isinstance") rfl)
  have z_sum : mg "sum" = none := He.free_ok X G (c.a.fact 60 (f := .free "sum") rfl)
  have z_max : mg "max" = none := He.free_ok X G (c.a.fact 61 (f := .free "max") rfl)
  have z_min : mg "min" = none := He.free_ok X G (c.a.fact 62 (f := .free "min") rfl)
  have z_sorted : mg "sorted" = none := He.free_ok X G (c.a.fact 63 (f := .free "sorted") rfl)
  have z_tuple : mg "tuple" = none := He.free_ok X G (c.a.fact 64 (f := .free "tuple") rfl)
  have z_list : mg "list" = none := He.free_ok X G (c.a.fact 65 (f := .free "list") rfl)
  have z_range : mg "range" = none := He.free_ok X G (c.a.fact 66 (f := .free "range") rfl)
  have z_repr : mg "repr" = none := He.free_ok X G (c.a.fact 67 (f := .free "repr") rfl)
  have z_bool : mg "bool" = none := He.free_ok X G (c.a.fact 68 (f := .free "bool") rfl)
  have z_abs : mg "abs" = none := He.free_ok X G (c.a.fact 69 (f := .free "abs") rfl)
  have z_enumerate : mg "enumerate" = none := He.free_ok X G (c.a.fact 70 (f := .free "enumerate") rfl)
  have z_zip : mg "zip" = none := He.free_ok X G (c.a.fact 71 (f := .free "zip") rfl)
  have z_str : mg "str" = none := He.free_ok X G (c.a.fact 72 (f := .free "str") rfl)
  have z_dict : mg "dict" = none := He.free_ok X G (c.a.fact 73 (f := .free "dict") rfl)
  have z_super : mg "super" = none := He.free_ok X G (c.a.fact 74 (f := .free "super") rfl)
  have B : Blt mg := ⟨z_len, z_int, z_isinstance, z_sum, z_max, z_min, z_sorted, z_tuple, z_list, z_range, z_repr, z_bool, z_abs, z_enumerate, z_zip, z_str, z_dict⟩
  have eL := hfa.symm.trans (He.glo_ok X G (c.a.fact 52 (f := .glo "law") rfl))
  cases eL
  have bL := FunD.bindsA (ps := ["_law_script"]) D_law fun _ _ _ _ _ _ us hl => match us, hl with | [_], _ => rfl
  refine ⟨fd_law, fun s v => bL s [v] rfl, fun base _ _ => ?_⟩
  have T : FarK K mg (He.ga K "Far") (He.ga K "Sound") := ⟨mgC_Far, mgC_Sound, ⟨pg_Far, hd_Far, po_Far, sa_Far⟩, ⟨pg_Sound, hd_Sound, po_Sound, sa_Sound⟩, nF, nC, cc_Far, cc_Sound, gcn, gct, mo_Far, mo_Sound, ko1, ko2, ko3, ko4, ko5, ko6, nfI, nfF, ⟨nne, mo_Far⟩⟩
  have mg_FE : mg "FarError" = some (.ref (He.ga K "FarError")) := He.glo_ok X G (c.a.fact 55 (f := .glo "FarError") rfl)
  have mg_super := z_super
  have mgE_InvalidTerm : mg "InvalidTerm" = some (.ref (He.ga K "InvalidTerm")) := He.glo_ok X G (c.a.fact 56 (f := .glo "InvalidTerm") rfl)
  obtain ⟨⟨ocI_InvalidTerm, odI_InvalidTerm, slI_InvalidTerm, kVI_InvalidTerm, dcI_InvalidTerm, pmI_InvalidTerm, ctI_InvalidTerm, anI_InvalidTerm, lI0_InvalidTerm⟩, cI_InvalidTerm⟩ := c.init 0 (d := dc_InvalidTerm) rfl
  have lI_InvalidTerm : K.lookup (He.ma K (He.ga K "InvalidTerm") "__init__") = some ⟨ocI_InvalidTerm, odI_InvalidTerm, .func (sxFd "InvalidTerm.__init__" S_InvalidTerm (Hz.cellOf K (He.ma K (He.ga K "InvalidTerm") "__init__")) (Hz.codeOf K (He.ma K (He.ga K "InvalidTerm") "__init__")) kVI_InvalidTerm dcI_InvalidTerm pmI_InvalidTerm anI_InvalidTerm ctI_InvalidTerm), slI_InvalidTerm⟩ := lI0_InvalidTerm
  have T_InvalidTerm : ErrK K (He.ga K "InvalidTerm") (He.ga K "FarError") (He.ma K (He.ga K "InvalidTerm") "__init__") (Hz.cellOf K (He.ma K (He.ga K "InvalidTerm") "__init__")) (Hz.codeOf K (He.ma K (He.ga K "InvalidTerm") "__init__")) "InvalidTerm.__init__" := ⟨Hz.excB_ok xC_InvalidTerm, Hz.excB_ok xC_FE, fi_FE, sa_InvalidTerm, ga_InvalidTerm, gg_InvalidTerm, gc_InvalidTerm, ia_InvalidTerm, it_InvalidTerm, ex_InvalidTerm, ve_InvalidTerm, sC_InvalidTerm, sF_InvalidTerm, ty_InvalidTerm, ty_FE, kC_InvalidTerm, mS_InvalidTerm, mO_InvalidTerm, sp_FE, tk_FE, opq_FE, cI_InvalidTerm, Hz.cellB_ok cell_InvalidTerm⟩
  obtain ⟨ccl_InvalidTerm, cdd_InvalidTerm, vs_InvalidTerm, ccs_InvalidTerm, fl_InvalidTerm, tf_InvalidTerm, lc_InvalidTerm, v2_InvalidTerm, fe_InvalidTerm⟩ := Hz.fileB_ok file_InvalidTerm
  have sx_InvalidTerm := T_InvalidTerm.sx (P := P) ⟨_, _, _, _, _, _, lc_InvalidTerm, v2_InvalidTerm, by rw [eq_of_beq hfile]; exact fe_InvalidTerm⟩ htop mg_super
  have bI_InvalidTerm : Binds K (sxFd "InvalidTerm.__init__" S_InvalidTerm (Hz.cellOf K (He.ma K (He.ga K "InvalidTerm") "__init__")) (Hz.codeOf K (He.ma K (He.ga K "InvalidTerm") "__init__")) kVI_InvalidTerm dcI_InvalidTerm pmI_InvalidTerm anI_InvalidTerm ctI_InvalidTerm) _ [] := Binds.all (ps := ["self", "index"]) fun us hl => match us, hl with | [_, _], _ => rfl
  have FI_InvalidTerm := ok_InvalidTerm (w := w) (base := base) sx_InvalidTerm lI_InvalidTerm no0_InvalidTerm
  have E_InvalidTerm := T_InvalidTerm.err (x := "InvalidTerm") mgE_InvalidTerm FI_InvalidTerm bI_InvalidTerm
  have KC : Core K mg := ⟨B, hkS, ⟨_, MF_LAST_PLAIN_TURN⟩, ⟨_, MF_FEW_TURNS⟩, ⟨_, MF_MANY_TURNS⟩, ⟨_, MF_BITS⟩, ⟨_, MF_PLAIN_STOP⟩, ⟨_, MF_NEAR_PLACE⟩, ⟨_, MF_BITS_FOR_A_TURN⟩, ⟨⟨_, _, F_is_near, b_is_near, m_is_near⟩⟩, ⟨⟨_, _, F_int_of_rows, b_int_of_rows, m_int_of_rows⟩⟩, ⟨⟨_, _, F_int_of_turns, b_int_of_turns, m_int_of_turns⟩⟩, ⟨⟨_, _, F_is_negative, b_is_negative, m_is_negative⟩⟩, ⟨⟨_, _, F_ones_of_text, b_ones_of_text, m_ones_of_text⟩⟩, ⟨⟨_, _, F_turns_of_int, b_turns_of_int, m_turns_of_int⟩⟩, ⟨⟨_, _, F_is_plain, b_is_plain, m_is_plain⟩⟩, ⟨⟨_, _, F_form_of_int, b_form_of_int, m_form_of_int⟩⟩, ⟨⟨_, _, F_form_with, b_form_with, m_form_with⟩⟩, ⟨⟨_, _, F_turns_in, b_turns_in, m_turns_in⟩⟩, ⟨⟨_, _, F_compare, b_compare, m_compare⟩⟩, ⟨⟨_, _, F_compare_far, b_compare_far, m_compare_far⟩⟩, ⟨⟨_, _, F_common_tail, b_common_tail, m_common_tail⟩⟩, ⟨⟨_, _, F_is_less, b_is_less, m_is_less⟩⟩, ⟨⟨_, _, F_turns_between, b_turns_between, m_turns_between⟩⟩, ⟨⟨_, _, F_turns_before, b_turns_before, m_turns_before⟩⟩, ⟨⟨_, _, _, _, _, _, F_turns_up_to, m_turns_up_to, v_turns_up_to, b_turns_up_to, vx_turns_up_to, bx_turns_up_to⟩⟩, ⟨⟨_, _, F_shorter_first, b_shorter_first, m_shorter_first⟩⟩, ⟨⟨_, _, F_merged_turns, b_merged_turns, m_merged_turns⟩⟩, ⟨⟨_, _, F_flipped_turns, b_flipped_turns, m_flipped_turns⟩⟩, ⟨⟨_, _, F_is_short, b_is_short, m_is_short⟩⟩, ⟨⟨_, _, F_are_near, b_are_near, m_are_near⟩⟩, ⟨⟨_, _, F_int_of_form, b_int_of_form, m_int_of_form⟩⟩, ⟨⟨_, _, F_plus_one, b_plus_one, m_plus_one⟩⟩, ⟨⟨_, _, F_carry_turns, b_carry_turns, m_carry_turns⟩⟩, ⟨⟨_, _, F_summed_turns, b_summed_turns, m_summed_turns⟩⟩⟩
  have Cparts_in : Has P w K mg base 2 "parts_in" P_parts_in [] _ := ⟨_, _, [], ok_parts F_parts_in B b_parts_in m_parts_in 2, F_parts_in.kp, m_parts_in, .nil, b_parts_in⟩
  have Clevels_in : Has P w K mg base 1 "levels_in" P_levels_in [] _ := ⟨_, _, [], ok_levels (n := 1) F_levels_in B, F_levels_in.kp, m_levels_in, .nil, b_levels_in⟩
  have Cj0 : Has P w K mg base 3 "judged" P_judged [] (spJudged K 1) := ⟨_, _, [], ok_judged (n := 1) F_judged B MF_MOST_PARTS MF_MOST_LEVELS Cparts_in Clevels_in, F_judged.kp, m_judged, .nil, b_judged⟩
  have Cis_number : Has P w K mg base 1 "is_number" P_is_number [] (spIsNum K (He.ga K "Far") 1) := ⟨_, _, [], ok_isnum (n := 1) T F_is_number B, F_is_number.kp, m_is_number, .nil, b_is_number⟩
  have PR_Far_form : HasProp P w K mg base 1 "form" (He.ga K "Far") (spForm_ K (He.ga K "Far") 1) := ⟨⟨(He.ma K (He.ga K "Far") "form"), (Hz.getterOf "Far" "form" K), _, ⟨pf1, pf2, pf3, rest_form, pf4⟩, ok_farform T F_Far_form, b_Far_form⟩⟩
  have Cform_in : Has P w K mg base 4 "form_in" P_form_in [] (spFormIn K (He.ga K "Far") 1) := ⟨_, _, [], ok_formin T F_form_in B PR_Far_form KC.c_foi, F_form_in.kp, m_form_in, .nil, b_form_in⟩
  have Cnumber_form : Has P w K mg base 5 "number_form" P_number_form [] (spFormIn K (He.ga K "Far") 1) := ⟨_, _, [], ok_numform F_number_form Cis_number Cform_in, F_number_form.kp, m_number_form, .nil, b_number_form⟩
  have Cplace_form : Has P w K mg base 6 "place_form" P_place_form [] (spPlaceF K (He.ga K "Far") 1) := ⟨_, _, [], ok_placeform F_place_form KC.c_neg Cnumber_form, F_place_form.kp, m_place_form, .nil, b_place_form⟩
  have Cj4 := Has.mono Cj0 (by decide : 3 ≤ 4)
  have Cj7 := Has.mono Cj0 (by decide : 3 ≤ 7)
  have Cform_of_value : Has P w K mg base 5 "form_of_value" P_form_of_value [] (spFov K (He.ga K "Far") 1) := ⟨_, _, [], ok_fov (by decide) F_form_of_value Cis_number Cform_in Cj4, F_form_of_value.kp, m_form_of_value, .nil, b_form_of_value⟩
  have MK_Far : HasMk P w K mg base 6 "Far" (He.ga K "Far") P_Far___init__ [] (spFarI K (He.ga K "Far") (He.ga K "Sound") 1) := ⟨⟨_, _, dsx_Far___init__, ⟨mk_Far, at_Far___init__, fn_Far___init__, kC_Far⟩, ok_farinit T F_Far___init__ B Cform_of_value, mgC_Far, vx_Far___init__, bx_Far___init__⟩⟩
  have MK_Sound : HasMk P w K mg base 1 "Sound" (He.ga K "Sound") P_Sound___init__ [] (spSound (He.ga K "Sound")) := ⟨⟨_, _, [], ⟨mk_Sound, at_Sound___init__, fn_Sound___init__, kC_Sound⟩, ok_sound T F_Sound___init__, mgC_Sound, .nil, b_Sound___init__⟩⟩
  have Cfar_of : Has P w K mg base 8 "far_of" P_far_of [] (spFarOf K (He.ga K "Far") 1) := ⟨_, _, [], ok_farof (k := 7) (j := 6) (by decide) (by decide) F_far_of T Cj7 MK_Sound MK_Far, F_far_of.kp, m_far_of, .nil, b_far_of⟩
  have C_law_pen : Has P w K mg base 1 "_law_pen" P__law_pen [] _ := ⟨_, _, [], ok_pen F__law_pen B, F__law_pen.kp, m__law_pen, .nil, b__law_pen⟩
  have C_law_draw : Has P w K mg base 1 "_law_draw" P__law_draw [] _ := ⟨_, _, [], ok_drawP F__law_draw B, F__law_draw.kp, m__law_draw, .nil, b__law_draw⟩
  have C_law_pick : Has P w K mg base 2 "_law_pick" P__law_pick [] _ := ⟨_, _, [], ok_pickP F__law_pick B C_law_draw, F__law_pick.kp, m__law_pick, .nil, b__law_pick⟩
  have PlU0 : Has P w K mg base 12 "plus" P_plus [] (spSum K (gU 0) (SU 8500 0) fun x y => x + y) := ⟨_, _, [], ok_plus (oU 0) (niU (Nat.le_refl _)) (g65 0) F_plus B KC.c_foi (KC.c_with 0) (KC.c_tin 0) (KC.c_summed 0 (by decide)) (KC.c_arenear 0) (KC.c_iof 0), F_plus.kp, m_plus, .nil, b_plus⟩
  have Pl : Has P w K mg base 20 "plus" P_plus [] (spPU K 1 2000 fun x y => x + y) := KC.plusU (P := P) (w := w) (base := base) ⟨⟨_, _, F_plus, b_plus, m_plus⟩⟩ 0 2000 (by decide) (by decide) (by decide)
  have Fl0 : Has P w K mg base 4 "flip" P_flip [] (spNum1 K (gU 0) (SU 8500 0) fun z => -z - 1) := ⟨_, _, [], ok_flipn (oU 0) F_flip B (KC.c_with 0) (KC.c_flip 0 (by decide)), F_flip.kp, m_flip, .nil, b_flip⟩
  have Su0 : Has P w K mg base 10 "plus_one" P_plus_one [] (spNum1 K (gU 0) (SU 8500 0) fun z => z + 1) := KC.c_succ 0 (by decide)
  have Op0 : Has P w K mg base 11 "opposite" P_opposite [] (spOpp K (gU 0) (SU 8500 0)) := ⟨_, _, [], ok_opp (n := 0) (kp := 4) (oU 0) (g65 0) F_opposite B KC.c_foi Fl0 Su0, F_opposite.kp, m_opposite, .nil, b_opposite⟩
  have Cop21 := (Has.oppW Op0).mono (by decide : 11 ≤ 21)
  have Mv : Has P w K mg base 1 "are_movable" P_are_movable [] (spMov K 1) := ⟨_, _, [], ok_movable (n := 1) F_are_movable B MF_PLAIN_STOP, F_are_movable.kp, m_are_movable, .nil, b_are_movable⟩
  have Sh : Has P w K mg base 21 "shifted_up" P_shifted_up [] (spShU K 0 2000) := ⟨_, _, [], ok_shup (n := 0) (L := 2000) (k := 20) (by decide) (by decide) (by decide) F_shifted_up (KC.c_tin 1) Mv (KC.c_with 2) Pl, F_shifted_up.kp, m_shifted_up, .nil, b_shifted_up⟩
  have Cshu := Has.shuW Sh
  have Ps : Has P w K mg base 13 "pair_sums" P_pair_sums [] (spPairs K (gU 0) (SU 8500 0)) := ⟨_, _, [], ok_pairs (n := 0) (k := 12) (oU 0) F_pair_sums B PlU0, F_pair_sums.kp, m_pair_sums, .nil, b_pair_sums⟩
  have To0 : Has P w K mg base 14 "total" P_total [] (spTotal K (gU 0) (SU 8500 0)) := ⟨_, _, [], ok_total (n := 0) (k := 13) (oU 0) F_total B Ps, F_total.kp, m_total, .nil, b_total⟩
  have To := Has.mono To0 (by decide : 14 ≤ 21)
  have Cisx : Has P w K mg base 1 "is_number" P_is_number [] (spIsNo K (He.ga K "Far")) := ⟨_, _, [], ok_isno T ⟨ktn, ktb, kts⟩ F_is_number B, F_is_number.kp, m_is_number, .nil, b_is_number⟩
  have Cis_term : Has P w K mg base 5 "is_term" P_is_term [] _ := ⟨_, _, [], ok_ist F_is_term B Cisx KC.c_neg Cform_in, F_is_term.kp, m_is_term, .nil, b_is_term⟩
  have Csigned_sum : HasX P w K mg base 22 "signed_sum" P_signed_sum _ := ⟨⟨_, _, ok_ss (k := 21) (by decide) F_signed_sum B Cis_term Cform_in Cshu Cop21 To Cfar_of E_InvalidTerm, F_signed_sum.kp, m_signed_sum, b_signed_sum⟩⟩
  have Co3 : Has P w K mg base 3 "compare" P_compare [] (spCmp K 0) := Has.mono (KC.c_order 0 (by decide)) (by decide)
  have ME_Far_whole : HasMeth P w K mg base 4 "whole" (He.ga K "Far") P_Far_whole (spWhole K (He.ga K "Far") 0) := ⟨⟨_, _, ⟨at_Far_whole, fn_Far_whole, kM_Far_whole⟩, ok_whole (n := 0) (by decide) (by decide) T F_Far_whole B MF_LONGEST_INT (KC.c_tin 0) Co3 KC.c_iot, b_Far_whole⟩⟩
  have C_law_spot : Has P w K mg base 3 "_law_spot" P__law_spot [] _ := ⟨_, _, [], ok_spot F__law_spot C_law_draw C_law_pick, F__law_spot.kp, m__law_spot, .nil, b__law_spot⟩
  have C_law_given : Has P w K mg base 8 "_law_given" P__law_given [] _ := ⟨_, _, [], ok_given F__law_given C_law_pick MK_Far, F__law_given.kp, m__law_given, .nil, b__law_given⟩
  have C_law_shuffled : Has P w K mg base 2 "_law_shuffled" P__law_shuffled [] _ := ⟨_, _, [], ok_shuf F__law_shuffled B C_law_draw, F__law_shuffled.kp, m__law_shuffled, .nil, b__law_shuffled⟩
  have C_law_wrong : Has P w K mg base 8 "_law_wrong" P__law_wrong [] _ := ⟨_, _, [], ok_wrong T ko6 F__law_wrong C_law_spot C_law_pick MK_Far, F__law_wrong.kp, m__law_wrong, .nil, b__law_wrong⟩
  have C_law_told : Has P w K mg base 23 "_law_told" P__law_told [] _ := ⟨_, _, [], ok_told (k := 22) (by decide) F__law_told B T Csigned_sum ME_Far_whole E_InvalidTerm no0_InvalidTerm, F__law_told.kp, m__law_told, .nil, b__law_told⟩
  exact ok_law F_law B C_law_pen C_law_draw C_law_pick C_law_spot C_law_given C_law_shuffled C_law_wrong C_law_told
end Fb
open PySem PySem.W PySem.Calls PyProof.Rows
theorem PySem.Challenge.cw_farbits_k32_signed_sums_in_any_order_holds : PySem.Challenge.rw_farbits_k32_signed_sums_in_any_order.Holds := by
  w_on; o_law
  refine HandSHeadRun.head_any (r := Hd.rowL) (q := Hd.qvL) (H := Hd.hkL) (ob := Hd.obL) (M := 12000) (loose := Hd.nsL) (d := HandSHeadRun.topDef Hd.rowL.prog 157) (kwd := []) Hd.obL_eq (by kernel_rfl) (fun s => by kernel_rfl)
    Hd.runL (by kernel_rfl) (by kernel_rfl) (by kernel_rfl) (by rfl) (by first | assumption | decide +kernel) (by decide +kernel) ⟨rfl, rfl, rfl, rfl, rfl, by decide +kernel⟩ ?hw ?hc
  (case hw => w_witness2)
  (case hc =>
    have eN : (HandSHeadRun.topDef (OpenLaw.row PySem.Challenge.rw_farbits_k32_signed_sums_in_any_order).prog 157).name = ("law" : PySem.Str) := by kernel_rfl
    refine L2.walk_ofE (l := PySem.Challenge.rw_farbits_k32_signed_sums_in_any_order) (n := 63) (k := 24) (x := "_law_script") (CX := L2.CX0) rfl (by decide) (by kernel_rfl) ⟨rfl, by decide, by decide⟩ (fun w mg fa h Y G hm => ?F) (fun _ _ _ _ z => z)
    (case F =>
      rw [eN] at hm
      obtain ⟨K, KX, c⟩ := Y
      obtain ⟨fd, hb, hF⟩ := Fb.all_z (P := (PySem.Challenge.rw_farbits_k32_signed_sums_in_any_order).prog) (w := w) KX G hm c (by kernel_rfl) (by kernel_rfl)
      exact ⟨K, fd, Fb.spLaw K, KX, hb, fun H a ns hl _ hS => ⟨a, ns, rfl, hS, hl, fun _ => rfl⟩, hF⟩))
